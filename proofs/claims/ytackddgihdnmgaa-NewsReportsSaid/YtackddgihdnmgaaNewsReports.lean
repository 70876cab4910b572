/- The walk of NewsReports: the bytes of any report, and the report of any bytes, are the document's. Written by wip/tools/gen_news.py. -/
import Derived.Test.YtackddgihdnmgaaNewsQ
import Derived.Test.YtackddgihdnmgaaNewsF
namespace Go.Proofs.Ytackddgihdnmgaa
open Go.RowKit
set_option maxRecDepth 100000

abbrev nr7o0 : Oper := { dst := some 44, op := Op.call { callee := Callee.value (Operand.func 6), args := #[], argTypes := #[] }, type := 4, pos := "law.go:44", after := #[], guard := none }
abbrev nr7o1 : Oper := { dst := some 45, op := Op.move (Operand.tmp 44), type := 4, pos := "law.go:44", after := #[{ on := 0, ground := Ground.data }, { on := 0, ground := Ground.chain }], guard := none }
abbrev nr7o2 : Oper := { dst := some 46, op := Op.move (Operand.tmp 5), type := 9, pos := "law.go:44", after := #[{ on := 1, ground := Ground.guard }], guard := some (1, true) }
abbrev nr7o3 : Oper := { dst := some 47, op := Op.move (Operand.tmp 7), type := 9, pos := "law.go:44", after := #[{ on := 1, ground := Ground.guard }], guard := some (1, true) }
abbrev nr7o4 : Oper := { dst := some 48, op := Op.binOp BinOp.eql 9 (Operand.tmp 46) (Operand.tmp 47) 9, type := 4, pos := "law.go:44", after := #[{ on := 2, ground := Ground.data }, { on := 3, ground := Ground.data }, { on := 1, ground := Ground.guard }], guard := some (1, true) }
abbrev nr7o5 : Oper := { dst := some 49, op := Op.pick (Operand.tmp 45) (Operand.tmp 48) (Operand.const (Value.bool false)), type := 4, pos := "law.go:44", after := #[{ on := 1, ground := Ground.data }, { on := 4, ground := Ground.data }], guard := none }
abbrev nr7o6 : Oper := { dst := some 50, op := Op.move (Operand.tmp 49), type := 4, pos := "law.go:44", after := #[{ on := 5, ground := Ground.data }, { on := 1, ground := Ground.chain }], guard := none }
abbrev nr7o7 : Oper := { dst := some 51, op := Op.move (Operand.tmp 6), type := 27, pos := "law.go:44", after := #[{ on := 6, ground := Ground.guard }], guard := some (6, true) }
abbrev nr7o8 : Oper := { dst := some 52, op := Op.move (Operand.tmp 8), type := 3, pos := "law.go:44", after := #[{ on := 6, ground := Ground.guard }], guard := some (6, true) }
abbrev nr7o9 : Oper := { dst := some 53, op := Op.binOp BinOp.eql 3 (Operand.tmp 51) (Operand.tmp 52) 3, type := 4, pos := "law.go:44", after := #[{ on := 7, ground := Ground.data }, { on := 8, ground := Ground.data }, { on := 6, ground := Ground.guard }], guard := some (6, true) }
abbrev nr7o10 : Oper := { dst := some 54, op := Op.pick (Operand.tmp 50) (Operand.tmp 53) (Operand.const (Value.bool false)), type := 4, pos := "law.go:44", after := #[{ on := 6, ground := Ground.data }, { on := 9, ground := Ground.data }], guard := none }
abbrev nr7o11 : Oper := { dst := some 55, op := Op.move (Operand.tmp 54), type := 4, pos := "law.go:44", after := #[{ on := 10, ground := Ground.data }, { on := 6, ground := Ground.chain }], guard := none }
abbrev nr7o12 : Oper := { dst := some 56, op := Op.load 38 (Operand.tmp 9), type := 38, pos := "law.go:44", after := #[{ on := 11, ground := Ground.guard }], guard := some (11, true) }
abbrev nr7o13 : Oper := { dst := some 57, op := Op.call { callee := Callee.value (Operand.func 13), args := #[Operand.tmp 56], argTypes := #[38] }, type := 45, pos := "law.go:44", after := #[{ on := 12, ground := Ground.data }, { on := 11, ground := Ground.chain }, { on := 11, ground := Ground.guard }], guard := some (11, true) }
abbrev nr7o14 : Oper := { dst := some 58, op := Op.load 45 (Operand.tmp 11), type := 45, pos := "law.go:44", after := #[{ on := 11, ground := Ground.guard }], guard := some (11, true) }
abbrev nr7o15 : Oper := { dst := some 59, op := Op.call { callee := Callee.value (Operand.func 16), args := #[Operand.tmp 57, Operand.tmp 58], argTypes := #[45, 45] }, type := 4, pos := "law.go:44", after := #[{ on := 13, ground := Ground.data }, { on := 14, ground := Ground.data }, { on := 13, ground := Ground.chain }, { on := 11, ground := Ground.guard }], guard := some (11, true) }
abbrev nr7o16 : Oper := { dst := some 60, op := Op.pick (Operand.tmp 55) (Operand.tmp 59) (Operand.const (Value.bool false)), type := 4, pos := "law.go:44", after := #[{ on := 11, ground := Ground.data }, { on := 15, ground := Ground.data }], guard := none }
abbrev nr7o17 : Oper := { dst := some 61, op := Op.move (Operand.tmp 60), type := 4, pos := "law.go:44", after := #[{ on := 16, ground := Ground.data }, { on := 15, ground := Ground.chain }], guard := none }
abbrev nr7o18 : Oper := { dst := some 62, op := Op.move (Operand.tmp 10), type := 27, pos := "law.go:44", after := #[{ on := 17, ground := Ground.guard }], guard := some (17, true) }
abbrev nr7o19 : Oper := { dst := some 63, op := Op.move (Operand.tmp 12), type := 3, pos := "law.go:44", after := #[{ on := 17, ground := Ground.guard }], guard := some (17, true) }
abbrev nr7o20 : Oper := { dst := some 64, op := Op.binOp BinOp.eql 3 (Operand.tmp 62) (Operand.tmp 63) 3, type := 4, pos := "law.go:44", after := #[{ on := 18, ground := Ground.data }, { on := 19, ground := Ground.data }, { on := 17, ground := Ground.guard }], guard := some (17, true) }
abbrev nr7o21 : Oper := { dst := some 65, op := Op.pick (Operand.tmp 61) (Operand.tmp 64) (Operand.const (Value.bool false)), type := 4, pos := "law.go:44", after := #[{ on := 17, ground := Ground.data }, { on := 20, ground := Ground.data }], guard := none }
abbrev nr7o22 : Oper := { dst := some 4, op := Op.assign (Operand.tmp 65), type := 4, pos := "law.go:44", after := #[{ on := 21, ground := Ground.data }, { on := 17, ground := Ground.chain }, { on := 0, ground := Ground.phase }, { on := 1, ground := Ground.phase }, { on := 2, ground := Ground.phase }, { on := 3, ground := Ground.phase }, { on := 4, ground := Ground.phase }, { on := 5, ground := Ground.phase }, { on := 6, ground := Ground.phase }, { on := 7, ground := Ground.phase }, { on := 8, ground := Ground.phase }, { on := 9, ground := Ground.phase }, { on := 10, ground := Ground.phase }, { on := 11, ground := Ground.phase }, { on := 12, ground := Ground.phase }, { on := 13, ground := Ground.phase }, { on := 14, ground := Ground.phase }, { on := 15, ground := Ground.phase }, { on := 16, ground := Ground.phase }, { on := 17, ground := Ground.phase }, { on := 18, ground := Ground.phase }, { on := 19, ground := Ground.phase }, { on := 20, ground := Ground.phase }, { on := 21, ground := Ground.phase }], guard := none }

set_option maxHeartbeats 16000000 in
theorem newsReports_core (ep : Nat) (A : Option Addr) (n c : Nat) (rs : List RowT) (l : List UInt8) (w : World) (hep : ep < 4294967296) (hR : Rws w A n rs) (hc : n ≤ c) (hcm : (c : Int) ≤ 9223372036854775807) (hn : n ≤ 400) (hl : l.length ≤ 3000) :
    Calls Try.prog 4 #[.agg #[.int .u32 (ep : Int), .slice A n c], .string (bs l)] w fun e w' => e = .returned (.bool true) ∧ Below w.heap.size w w' := by
  have hsz := bs_size l
  have hd1 : decide ((3000 : Int) < (l.length : Int)) = false := decide_eq_false (by omega)
  have hd2 : decide ((400 : Int) < (n : Int)) = false := decide_eq_false (by omega)
  have HA := Lib.hid (fun W => news_Awake W)
  have HO1 := Lib.hid (fun W => news_OpenReport l W (by omega))
  have HO2 := Lib.hid (fun W => newsr_OpenReport l W (by omega))
  have HFW := Lib.hid (orpT_few l)
  obtain ⟨⟨⟨ep2, rows⟩, cd⟩, hT⟩ : ∃ T, T = orpT l := ⟨_, rfl⟩
  rw [← hT] at HO1 HO2 HFW
  obtain ⟨W0, hW0⟩ : ∃ W0, W0 = w.alloc (.cells #[.int .u32 (ep : Int), .slice A n c] 38) := ⟨_, rfl⟩
  have Z0 : Hid (Blk W0 w.heap.size 38 [.int .u32 (ep : Int), .slice A n c]) := Lib.hid (by rw [hW0]; exact heap_alloc_new w _)
  have B0 : Hid (Below w.heap.size w W0) := Lib.hid (by rw [hW0]; exact (Below.refl _ _).alloc (Nat.le_refl _) _)
  have HRR : Hid (Rws W0 A n rs) := Lib.hid (hR.keep B0.out)
  have HC1 := Lib.hid (news_CloseReport ep A n c rs W0 hep HRR.out hc hcm)
  have HOF := Lib.hid (fun W (hb : Below W0.heap.size W0 W) => law_Of ep A n c rs W (HRR.out.keep hb) hc (by omega))
  have HC2 := Lib.hid (fun (A' : Option Addr) (c' : Nat) W (h : Rws W A' n rs) (h1 : n ≤ c') (h2 : (c' : Int) ≤ 9223372036854775807) => newsr_CloseReport ep A' n c' rs W hep h h1 h2)
  obtain ⟨R, hR1⟩ : ∃ R, R = clB ep rs := ⟨_, rfl⟩
  obtain ⟨ce, hce⟩ : ∃ ce, ce = clE rs := ⟨_, rfl⟩
  rw [← hR1, ← hce] at HC1 HC2
  have hRR : ((bs R).toList == (bs R).toList) = true := by simp
  clear hT hR hep hc hcm hR1 hce
  go_enter Try.func4, Try.ntmps4
  go_wp2_with fail
  rw [← hW0]
  clear hW0 hd1 hd2
  refine HC1.out.mono ?_
  rintro e w1 ⟨rfl, b1⟩
  have q0 := (Z0.out.keep b1).cell 0
  have q1 := (Z0.out.keep b1).cell 1
  dsimp only [List.getElem?_cons_zero, List.getElem?_cons_succ] at q0 q1
  go_wp2_with fail
  clear q0 q1
  refine (HOF.out _ b1).mono ?_
  rintro e w2 ⟨⟨A', c', rfl, hr2, hc2, hcm2⟩, b2⟩
  have BB2 := Lib.hid (b1.trans (b2.mono b1.size))
  clear b1 b2
  go_wp2_with fail
  refine (HC2.out A' c' w2 hr2 hc2 hcm2).mono ?_
  rintro e w3 ⟨rfl, b3⟩
  have BB3 := Lib.hid (BB2.out.trans (b3.mono BB2.out.size))
  clear b3 hr2 hc2 hcm2 BB2 HC1 HC2 HOF
  go_wp2_with fail
  refine (HO1.out _).mono ?_
  rintro e w4 ⟨⟨A2, n2, rfl, hr4, hn4⟩, b4⟩
  have HL2 : Hid (rows.length = n2) := Lib.hid hr4.1
  have HN2 : Hid (n2 ≤ 100000) := Lib.hid (by have := HFW.out; have := HL2.out; dsimp only at *; omega)
  dsimp only at hr4
  obtain ⟨p9, hp9⟩ : ∃ p, p = w4.heap.size := ⟨_, rfl⟩
  obtain ⟨W4, hW4⟩ : ∃ W4, W4 = w4.alloc (.cells #[.int .u32 (ep2 : Int), .slice A2 n2 n2] 38) := ⟨_, rfl⟩
  have Y4 : Hid (Blk W4 p9 38 [.int .u32 (ep2 : Int), .slice A2 n2 n2]) := Lib.hid (by rw [hW4, hp9]; exact heap_alloc_new w4 _)
  have BB4 : Hid (Below W0.heap.size W0 W4) := Lib.hid (by rw [hW4]; exact (BB3.out.trans (b4.mono BB3.out.size)).alloc (Nat.le_trans BB3.out.size b4.size) _)
  have R4 : Hid (Rws W4 A2 n2 rows) := Lib.hid (by rw [hW4]; exact hr4.keep ((Below.refl _ _).alloc (Nat.le_refl _) _))
  clear b4 hr4 BB3 HO1 HFW
  go_wp2_with fail
  rw [← hp9, ← hW4]
  clear hp9 hW4
  refine (HO2.out _).mono ?_
  rintro e w5 ⟨⟨A3, n3, c3, rfl, hr5, hc5, hcm5⟩, b5⟩
  have hl5 := hr5.1
  dsimp only at hr5 hl5
  rw [HL2.out] at hl5
  subst hl5
  obtain ⟨p11, hp11⟩ : ∃ p, p = w5.heap.size := ⟨_, rfl⟩
  obtain ⟨W5, hW5⟩ : ∃ W5, W5 = w5.alloc (.cells #[.int .u32 (ep2 : Int), .slice A3 n2 c3] 45) := ⟨_, rfl⟩
  have X5 : Hid (Blk W5 p11 45 [.int .u32 (ep2 : Int), .slice A3 n2 c3]) := Lib.hid (by rw [hW5, hp11]; exact heap_alloc_new w5 _)
  have Y5 : Hid (Blk W5 p9 38 [.int .u32 (ep2 : Int), .slice A2 n2 n2]) := Lib.hid (by rw [hW5]; exact (Y4.out.keep b5).alloc _)
  have BB5 : Hid (Below W0.heap.size W0 W5) := Lib.hid (by rw [hW5]; exact (BB4.out.trans (b5.mono BB4.out.size)).alloc (Nat.le_trans BB4.out.size b5.size) _)
  have R3 : Hid (Rws W5 A3 n2 rows) := Lib.hid (by rw [hW5]; exact hr5.keep ((Below.refl _ _).alloc (Nat.le_refl _) _))
  have R5 : Hid (Rws W5 A2 n2 rows) := Lib.hid (by rw [hW5]; exact (R4.out.keep b5).keep ((Below.refl _ _).alloc (Nat.le_refl _) _))
  have C3 := Lib.hid hc5
  have HOF2 := Lib.hid (fun W (hb : Below W5.heap.size W5 W) => law_Of ep2 A2 n2 n2 rows W (R5.out.keep hb) (Nat.le_refl _) HN2.out)
  have HC : Hid (∀ w', Below W5.heap.size W5 w' → w'.cell? ⟨p9, 0, none⟩ = some (.int .u32 (ep2 : Int)) ∧ w'.cell? ⟨p9, 1, none⟩ = some (.slice A2 n2 n2) ∧ w'.cell? ⟨p11, 0, none⟩ = some (.int .u32 (ep2 : Int)) ∧ w'.cell? ⟨p11, 1, none⟩ = some (.slice A3 n2 c3)) := Lib.hid (fun w' hb => ⟨(Y5.out.keep hb).cell 0, (Y5.out.keep hb).cell 1, (X5.out.keep hb).cell 0, (X5.out.keep hb).cell 1⟩)
  have K5 : Hid (Below W5.heap.size W5 W5.drew) := Lib.hid (Below.refl _ _).drew
  clear b5 hr5 hc5 hcm5 X5 Y5 Y4 BB4 R4 R5 HO2
  go_upto_region 7 with fail
  rw [← hp11]
  refine wp_world hW5 ?_
  clear hp11 hW5
  refine wp_region_noPanic ?_
  refine wp_region_held_drew (S := fun w' => w'.cell? ⟨p9, 0, none⟩ = some (.int .u32 (ep2 : Int)) ∧ w'.cell? ⟨p9, 1, none⟩ = some (.slice A2 n2 n2) ∧ w'.cell? ⟨p11, 0, none⟩ = some (.int .u32 (ep2 : Int)) ∧ w'.cell? ⟨p11, 1, none⟩ = some (.slice A3 n2 c3)) (by kernel_rfl) ?_ (fun hHeld => ?_)
  · exact HC.out _ K5.out
  refine wpAnyH_ready (rs := [0]) (by kernel_rfl) (by simp) ?_
  refine AllReadyH.cons (o := nr7o0) rfl (fun K hK => ?_) AllReadyH.nil
  dsimp only [nr7o0]
  go_simp
  refine (HA.out _).mono ?_
  rintro e w6 ⟨rfl, b6⟩
  have K6 := Lib.hid (K5.out.trans (b6.mono K5.out.size))
  clear b6
  (try go_wp2_with fail)
  refine hK.out _ _ ?_ (fun hHeld => ?_)
  · exact HC.out _ K6.out
  clear hK K
  (try simp only [Act.put, List.setIfInBounds_toArray, List.set_cons_zero, List.set_cons_succ])
  refine wpAnyH_take (i := 1) (oi := nr7o1) (v := ?_) rfl (by kernel_rfl) (by kernel_rfl) (by kernel_rfl) (fun _ _ _ h => h) (Or.inl ⟨by rfl, ?_⟩) (by assumption) ?_
  rotate_left
  · (intro w hSw; (try dsimp only at hSw); obtain ⟨s0, s1, s2, s3⟩ := hSw; (try dsimp only [nr7o1]); go_simp; try (with_reducible rfl))
  (try simp only [Act.put, List.setIfInBounds_toArray, List.set_cons_zero, List.set_cons_succ])
  refine wpAnyH_take (i := 2) (oi := nr7o2) (v := ?_) rfl (by kernel_rfl) (by kernel_rfl) (by kernel_rfl) (fun _ _ _ h => h) (Or.inl ⟨by rfl, ?_⟩) (by assumption) ?_
  rotate_left
  · (intro w hSw; (try dsimp only at hSw); obtain ⟨s0, s1, s2, s3⟩ := hSw; (try dsimp only [nr7o2]); go_simp; try (with_reducible rfl))
  (try simp only [Act.put, List.setIfInBounds_toArray, List.set_cons_zero, List.set_cons_succ])
  refine wpAnyH_take (i := 3) (oi := nr7o3) (v := ?_) rfl (by kernel_rfl) (by kernel_rfl) (by kernel_rfl) (fun _ _ _ h => h) (Or.inl ⟨by rfl, ?_⟩) (by assumption) ?_
  rotate_left
  · (intro w hSw; (try dsimp only at hSw); obtain ⟨s0, s1, s2, s3⟩ := hSw; (try dsimp only [nr7o3]); go_simp; try (with_reducible rfl))
  (try simp only [Act.put, List.setIfInBounds_toArray, List.set_cons_zero, List.set_cons_succ])
  refine wpAnyH_take (i := 4) (oi := nr7o4) (v := ?_) rfl (by kernel_rfl) (by kernel_rfl) (by kernel_rfl) (fun _ _ _ h => h) (Or.inl ⟨by rfl, ?_⟩) (by assumption) ?_
  rotate_left
  · (intro w hSw; (try dsimp only at hSw); obtain ⟨s0, s1, s2, s3⟩ := hSw; (try dsimp only [nr7o4]); go_simp; try (with_reducible rfl))
  (try simp only [Act.put, List.setIfInBounds_toArray, List.set_cons_zero, List.set_cons_succ])
  refine wpAnyH_take (i := 5) (oi := nr7o5) (v := ?_) rfl (by kernel_rfl) (by kernel_rfl) (by kernel_rfl) (fun _ _ _ h => h) (Or.inl ⟨by rfl, ?_⟩) (by assumption) ?_
  rotate_left
  · (intro w hSw; (try dsimp only at hSw); obtain ⟨s0, s1, s2, s3⟩ := hSw; (try dsimp only [nr7o5]); go_simp; try (with_reducible rfl))
  (try simp only [Act.put, List.setIfInBounds_toArray, List.set_cons_zero, List.set_cons_succ])
  refine wpAnyH_take (i := 6) (oi := nr7o6) (v := ?_) rfl (by kernel_rfl) (by kernel_rfl) (by kernel_rfl) (fun _ _ _ h => h) (Or.inl ⟨by rfl, ?_⟩) (by assumption) ?_
  rotate_left
  · (intro w hSw; (try dsimp only at hSw); obtain ⟨s0, s1, s2, s3⟩ := hSw; (try dsimp only [nr7o6]); go_simp; try (with_reducible rfl))
  (try simp only [Act.put, List.setIfInBounds_toArray, List.set_cons_zero, List.set_cons_succ])
  refine wpAnyH_take (i := 7) (oi := nr7o7) (v := ?_) rfl (by kernel_rfl) (by kernel_rfl) (by kernel_rfl) (fun _ _ _ h => h) (Or.inl ⟨by rfl, ?_⟩) (by assumption) ?_
  rotate_left
  · (intro w hSw; (try dsimp only at hSw); obtain ⟨s0, s1, s2, s3⟩ := hSw; (try dsimp only [nr7o7]); go_simp; try (with_reducible rfl))
  (try simp only [Act.put, List.setIfInBounds_toArray, List.set_cons_zero, List.set_cons_succ])
  refine wpAnyH_take (i := 8) (oi := nr7o8) (v := ?_) rfl (by kernel_rfl) (by kernel_rfl) (by kernel_rfl) (fun _ _ _ h => h) (Or.inl ⟨by rfl, ?_⟩) (by assumption) ?_
  rotate_left
  · (intro w hSw; (try dsimp only at hSw); obtain ⟨s0, s1, s2, s3⟩ := hSw; (try dsimp only [nr7o8]); go_simp; try (with_reducible rfl))
  (try simp only [Act.put, List.setIfInBounds_toArray, List.set_cons_zero, List.set_cons_succ])
  refine wpAnyH_take (i := 9) (oi := nr7o9) (v := ?_) rfl (by kernel_rfl) (by kernel_rfl) (by kernel_rfl) (fun _ _ _ h => h) (Or.inl ⟨by rfl, ?_⟩) (by assumption) ?_
  rotate_left
  · (intro w hSw; (try dsimp only at hSw); obtain ⟨s0, s1, s2, s3⟩ := hSw; (try dsimp only [nr7o9]); go_simp; try (with_reducible rfl))
  (try simp only [Act.put, List.setIfInBounds_toArray, List.set_cons_zero, List.set_cons_succ])
  refine wpAnyH_take (i := 10) (oi := nr7o10) (v := ?_) rfl (by kernel_rfl) (by kernel_rfl) (by kernel_rfl) (fun _ _ _ h => h) (Or.inl ⟨by rfl, ?_⟩) (by assumption) ?_
  rotate_left
  · (intro w hSw; (try dsimp only at hSw); obtain ⟨s0, s1, s2, s3⟩ := hSw; (try dsimp only [nr7o10]); go_simp; try (with_reducible rfl))
  (try simp only [Act.put, List.setIfInBounds_toArray, List.set_cons_zero, List.set_cons_succ])
  refine wpAnyH_take (i := 11) (oi := nr7o11) (v := ?_) rfl (by kernel_rfl) (by kernel_rfl) (by kernel_rfl) (fun _ _ _ h => h) (Or.inl ⟨by rfl, ?_⟩) (by assumption) ?_
  rotate_left
  · (intro w hSw; (try dsimp only at hSw); obtain ⟨s0, s1, s2, s3⟩ := hSw; (try dsimp only [nr7o11]); go_simp; try (with_reducible rfl))
  (try simp only [Act.put, List.setIfInBounds_toArray, List.set_cons_zero, List.set_cons_succ])
  refine wpAnyH_take (i := 12) (oi := nr7o12) (v := ?_) rfl (by kernel_rfl) (by kernel_rfl) (by kernel_rfl) (fun _ _ _ h => h) (Or.inl ⟨by rfl, ?_⟩) (by assumption) ?_
  rotate_left
  · (intro w hSw; (try dsimp only at hSw); obtain ⟨s0, s1, s2, s3⟩ := hSw; (try dsimp only [nr7o12]); go_simp; try (with_reducible rfl))
  (try simp only [Act.put, List.setIfInBounds_toArray, List.set_cons_zero, List.set_cons_succ])
  refine wpAnyH_take (i := 14) (oi := nr7o14) (v := ?_) rfl (by kernel_rfl) (by kernel_rfl) (by kernel_rfl) (fun _ _ _ h => h) (Or.inl ⟨by rfl, ?_⟩) (by assumption) ?_
  rotate_left
  · (intro w hSw; (try dsimp only at hSw); obtain ⟨s0, s1, s2, s3⟩ := hSw; (try dsimp only [nr7o14]); go_simp; try (with_reducible rfl))
  (try simp only [Act.put, List.setIfInBounds_toArray, List.set_cons_zero, List.set_cons_succ])
  refine wpAnyH_ready (rs := [13]) (by kernel_rfl) (by simp) ?_
  refine AllReadyH.cons (o := nr7o13) rfl (fun K hK => ?_) AllReadyH.nil
  dsimp only [nr7o13]
  go_simp
  refine (HOF2.out _ K6.out).mono ?_
  rintro e w7 ⟨⟨A4, c4, rfl, hr7, hc7, hcm7⟩, b7⟩
  have K7 := Lib.hid (K6.out.trans (b7.mono K6.out.size))
  have R7 := Lib.hid hr7
  have C7 := Lib.hid hc7
  clear b7 hr7 hc7 hcm7
  (try go_wp2_with fail)
  refine hK.out _ _ ?_ (fun hHeld => ?_)
  · exact HC.out _ K7.out
  clear hK K
  (try simp only [Act.put, List.setIfInBounds_toArray, List.set_cons_zero, List.set_cons_succ])
  refine wpAnyH_ready (rs := [15]) (by kernel_rfl) (by simp) ?_
  refine AllReadyH.cons (o := nr7o15) rfl (fun K hK => ?_) AllReadyH.nil
  dsimp only [nr7o15]
  go_simp
  refine (newsr_Same ep2 A4 A3 n2 c4 c3 rows _ R7.out (R3.out.keep K7.out) C7.out C3.out HN2.out).mono ?_
  rintro e w8 ⟨rfl, b8⟩
  have K8 := Lib.hid (K7.out.trans (b8.mono K7.out.size))
  clear b8
  (try go_wp2_with fail)
  refine hK.out _ _ ?_ (fun hHeld => ?_)
  · exact HC.out _ K8.out
  clear hK K
  (try simp only [Act.put, List.setIfInBounds_toArray, List.set_cons_zero, List.set_cons_succ])
  refine wpAnyH_take (i := 16) (oi := nr7o16) (v := ?_) rfl (by kernel_rfl) (by kernel_rfl) (by kernel_rfl) (fun _ _ _ h => h) (Or.inl ⟨by rfl, ?_⟩) (by assumption) ?_
  rotate_left
  · (intro w hSw; (try dsimp only at hSw); obtain ⟨s0, s1, s2, s3⟩ := hSw; (try dsimp only [nr7o16]); go_simp; try (with_reducible rfl))
  (try simp only [Act.put, List.setIfInBounds_toArray, List.set_cons_zero, List.set_cons_succ])
  refine wpAnyH_take (i := 17) (oi := nr7o17) (v := ?_) rfl (by kernel_rfl) (by kernel_rfl) (by kernel_rfl) (fun _ _ _ h => h) (Or.inl ⟨by rfl, ?_⟩) (by assumption) ?_
  rotate_left
  · (intro w hSw; (try dsimp only at hSw); obtain ⟨s0, s1, s2, s3⟩ := hSw; (try dsimp only [nr7o17]); go_simp; try (with_reducible rfl))
  (try simp only [Act.put, List.setIfInBounds_toArray, List.set_cons_zero, List.set_cons_succ])
  refine wpAnyH_take (i := 18) (oi := nr7o18) (v := ?_) rfl (by kernel_rfl) (by kernel_rfl) (by kernel_rfl) (fun _ _ _ h => h) (Or.inl ⟨by rfl, ?_⟩) (by assumption) ?_
  rotate_left
  · (intro w hSw; (try dsimp only at hSw); obtain ⟨s0, s1, s2, s3⟩ := hSw; (try dsimp only [nr7o18]); go_simp; try (with_reducible rfl))
  (try simp only [Act.put, List.setIfInBounds_toArray, List.set_cons_zero, List.set_cons_succ])
  refine wpAnyH_take (i := 19) (oi := nr7o19) (v := ?_) rfl (by kernel_rfl) (by kernel_rfl) (by kernel_rfl) (fun _ _ _ h => h) (Or.inl ⟨by rfl, ?_⟩) (by assumption) ?_
  rotate_left
  · (intro w hSw; (try dsimp only at hSw); obtain ⟨s0, s1, s2, s3⟩ := hSw; (try dsimp only [nr7o19]); go_simp; try (with_reducible rfl))
  (try simp only [Act.put, List.setIfInBounds_toArray, List.set_cons_zero, List.set_cons_succ])
  refine wpAnyH_take (i := 20) (oi := nr7o20) (v := ?_) rfl (by kernel_rfl) (by kernel_rfl) (by kernel_rfl) (fun _ _ _ h => h) (Or.inl ⟨by rfl, ?_⟩) (by assumption) ?_
  rotate_left
  · (intro w hSw; (try dsimp only at hSw); obtain ⟨s0, s1, s2, s3⟩ := hSw; (try dsimp only [nr7o20]); go_simp; try (with_reducible rfl))
  (try simp only [Act.put, List.setIfInBounds_toArray, List.set_cons_zero, List.set_cons_succ])
  refine wpAnyH_take (i := 21) (oi := nr7o21) (v := ?_) rfl (by kernel_rfl) (by kernel_rfl) (by kernel_rfl) (fun _ _ _ h => h) (Or.inl ⟨by rfl, ?_⟩) (by assumption) ?_
  rotate_left
  · (intro w hSw; (try dsimp only at hSw); obtain ⟨s0, s1, s2, s3⟩ := hSw; (try dsimp only [nr7o21]); go_simp; try (with_reducible rfl))
  (try simp only [Act.put, List.setIfInBounds_toArray, List.set_cons_zero, List.set_cons_succ])
  refine wpAnyH_take (i := 22) (oi := nr7o22) (v := ?_) rfl (by kernel_rfl) (by kernel_rfl) (by kernel_rfl) (fun _ _ _ h => h) (Or.inl ⟨by rfl, ?_⟩) (by assumption) ?_
  rotate_left
  · (intro w hSw; (try dsimp only at hSw); obtain ⟨s0, s1, s2, s3⟩ := hSw; (try dsimp only [nr7o22]); go_simp; try (with_reducible rfl))
  (try simp only [Act.put, List.setIfInBounds_toArray, List.set_cons_zero, List.set_cons_succ])
  refine wpAnyH_done (by kernel_rfl) ?_ _
  refine NoPanic.normal ?_
  go_wp2_with fail
  go_ret
  exact ⟨rfl, B0.out.trans ((BB5.out.trans (K8.out.mono BB5.out.size)).mono B0.out.size)⟩

set_option maxHeartbeats 2000000 in
theorem newsReports_idle (ep : Nat) (A : Option Addr) (n c : Nat) (l : List UInt8) (w : World) (h : 3000 < l.length ∨ 400 < n) :
    Calls Try.prog 4 #[.agg #[.int .u32 (ep : Int), .slice A n c], .string (bs l)] w fun e w' => e = .returned (.bool true) ∧ Below w.heap.size w w' := by
  have hsz := bs_size l
  have HA := Lib.hid (fun W => news_Awake W)
  have B0 : Hid (Below w.heap.size w (w.alloc (.cells #[.int .u32 (ep : Int), .slice A n c] 38))) := Lib.hid ((Below.refl _ _).alloc (Nat.le_refl _) _)
  by_cases h1 : 3000 < l.length
  · have hd1 : decide ((3000 : Int) < (l.length : Int)) = true := decide_eq_true (by omega)
    clear h h1
    go_enter Try.func4, Try.ntmps4
    go_wp2_with fail
    refine (HA.out _).mono ?_
    rintro e w1 ⟨rfl, hb1⟩
    have B1 := Lib.hid (B0.out.trans (hb1.mono B0.out.size))
    clear hb1
    go_wp2_with fail
    go_ret
    exact ⟨rfl, B1.out⟩
  · have hd1 : decide ((3000 : Int) < (l.length : Int)) = false := decide_eq_false (by omega)
    have hd2 : decide ((400 : Int) < (n : Int)) = true := decide_eq_true (by omega)
    clear h h1
    go_enter Try.func4, Try.ntmps4
    go_wp2_with fail
    refine (HA.out _).mono ?_
    rintro e w1 ⟨rfl, hb1⟩
    have B1 := Lib.hid (B0.out.trans (hb1.mono B0.out.size))
    clear hb1
    go_wp2_with fail
    go_ret
    exact ⟨rfl, B1.out⟩

theorem newsReports_walk (ep : Nat) (hep : ep < 4294967296) (A : Option Addr) (n c : Nat) (rs : List RowT) {W : World} (hR : Rws W A n rs) (hc : n ≤ c) (hcm : c ≤ maxLen) (s : ByteArray) (_hs : s.size ≤ maxLen) :
    Calls Try.prog 4 #[.agg #[.int .u32 (ep : Int), .slice A n c], .string s] W fun e w' => e = .returned (.bool true) ∧ Below W.heap.size W w' := by
  obtain ⟨l, hl⟩ : ∃ l, l = s.data.toList := ⟨_, rfl⟩
  have hs2 : s = bs l := by rw [hl, bs_of]
  rw [hs2]
  by_cases h : 3000 < l.length ∨ 400 < n
  · exact newsReports_idle ep A n c l W h
  · exact newsReports_core ep A n c rs l W hep hR hc (by simp only [maxLen] at hcm; omega) (by omega) (by omega)

end Go.Proofs.Ytackddgihdnmgaa
