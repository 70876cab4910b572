/- The walk of NewsRounds: the bytes of any round, and the round of any bytes, are the document's. Written by wip/tools/gen_news.py. -/
import Derived.Test.YtackddgihdnmgaaNewsF
import Derived.OpenShut
namespace Go.Proofs.Ytackddgihdnmgaa
open Go.RowKit
set_option maxRecDepth 100000

abbrev nw5o0 : Oper := { dst := some 23, op := Op.call { callee := Callee.value (Operand.func 6), args := #[], argTypes := #[] }, type := 4, pos := "law.go:32", after := #[], guard := none }
abbrev nw5o1 : Oper := { dst := some 24, op := Op.move (Operand.tmp 23), type := 4, pos := "law.go:32", after := #[{ on := 0, ground := Ground.data }, { on := 0, ground := Ground.chain }], guard := none }
abbrev nw5o2 : Oper := { dst := some 25, op := Op.load 25 (Operand.tmp 2), type := 25, pos := "law.go:32", after := #[{ on := 1, ground := Ground.guard }], guard := some (1, true) }
abbrev nw5o3 : Oper := { dst := some 26, op := Op.call { callee := Callee.value (Operand.func 9), args := #[Operand.tmp 25], argTypes := #[25] }, type := 9, pos := "law.go:32", after := #[{ on := 2, ground := Ground.data }, { on := 1, ground := Ground.chain }, { on := 1, ground := Ground.guard }], guard := some (1, true) }
abbrev nw5o4 : Oper := { dst := some 27, op := Op.load 25 (Operand.tmp 2), type := 25, pos := "law.go:32", after := #[{ on := 1, ground := Ground.guard }], guard := some (1, true) }
abbrev nw5o5 : Oper := { dst := some 28, op := Op.call { callee := Callee.value (Operand.func 10), args := #[Operand.tmp 27], argTypes := #[30] }, type := 9, pos := "law.go:32", after := #[{ on := 4, ground := Ground.data }, { on := 3, ground := Ground.chain }, { on := 1, ground := Ground.guard }], guard := some (1, true) }
abbrev nw5o6 : Oper := { dst := some 29, op := Op.binOp BinOp.eql 9 (Operand.tmp 26) (Operand.tmp 28) 9, type := 4, pos := "law.go:32", after := #[{ on := 3, ground := Ground.data }, { on := 5, ground := Ground.data }, { on := 1, ground := Ground.guard }], guard := some (1, true) }
abbrev nw5o7 : Oper := { dst := some 30, op := Op.pick (Operand.tmp 24) (Operand.tmp 29) (Operand.const (Value.bool false)), type := 4, pos := "law.go:32", after := #[{ on := 1, ground := Ground.data }, { on := 6, ground := Ground.data }], guard := none }
abbrev nw5o8 : Oper := { dst := some 31, op := Op.move (Operand.tmp 30), type := 4, pos := "law.go:32", after := #[{ on := 7, ground := Ground.data }, { on := 5, ground := Ground.chain }], guard := none }
abbrev nw5o9 : Oper := { dst := some 32, op := Op.load 25 (Operand.tmp 5), type := 25, pos := "law.go:32", after := #[{ on := 8, ground := Ground.guard }], guard := some (8, true) }
abbrev nw5o10 : Oper := { dst := some 33, op := Op.load 30 (Operand.tmp 7), type := 30, pos := "law.go:32", after := #[{ on := 8, ground := Ground.guard }], guard := some (8, true) }
abbrev nw5o11 : Oper := { dst := some 34, op := Op.binOp BinOp.eql 30 (Operand.tmp 32) (Operand.tmp 33) 30, type := 4, pos := "law.go:32", after := #[{ on := 9, ground := Ground.data }, { on := 10, ground := Ground.data }, { on := 8, ground := Ground.guard }], guard := some (8, true) }
abbrev nw5o12 : Oper := { dst := some 35, op := Op.pick (Operand.tmp 31) (Operand.tmp 34) (Operand.const (Value.bool false)), type := 4, pos := "law.go:32", after := #[{ on := 8, ground := Ground.data }, { on := 11, ground := Ground.data }], guard := none }
abbrev nw5o13 : Oper := { dst := some 36, op := Op.move (Operand.tmp 35), type := 4, pos := "law.go:32", after := #[{ on := 12, ground := Ground.data }, { on := 8, ground := Ground.chain }], guard := none }
abbrev nw5o14 : Oper := { dst := some 37, op := Op.move (Operand.tmp 6), type := 27, pos := "law.go:32", after := #[{ on := 13, ground := Ground.guard }], guard := some (13, true) }
abbrev nw5o15 : Oper := { dst := some 38, op := Op.move (Operand.tmp 8), type := 3, pos := "law.go:32", after := #[{ on := 13, ground := Ground.guard }], guard := some (13, true) }
abbrev nw5o16 : Oper := { dst := some 39, op := Op.binOp BinOp.eql 3 (Operand.tmp 37) (Operand.tmp 38) 3, type := 4, pos := "law.go:32", after := #[{ on := 14, ground := Ground.data }, { on := 15, ground := Ground.data }, { on := 13, ground := Ground.guard }], guard := some (13, true) }
abbrev nw5o17 : Oper := { dst := some 40, op := Op.pick (Operand.tmp 36) (Operand.tmp 39) (Operand.const (Value.bool false)), type := 4, pos := "law.go:32", after := #[{ on := 13, ground := Ground.data }, { on := 16, ground := Ground.data }], guard := none }
abbrev nw5o18 : Oper := { dst := some 4, op := Op.assign (Operand.tmp 40), type := 4, pos := "law.go:32", after := #[{ on := 17, ground := Ground.data }, { on := 13, ground := Ground.chain }, { on := 0, ground := Ground.phase }, { on := 1, ground := Ground.phase }, { on := 2, ground := Ground.phase }, { on := 3, ground := Ground.phase }, { on := 4, ground := Ground.phase }, { on := 5, ground := Ground.phase }, { on := 6, ground := Ground.phase }, { on := 7, ground := Ground.phase }, { on := 8, ground := Ground.phase }, { on := 9, ground := Ground.phase }, { on := 10, ground := Ground.phase }, { on := 11, ground := Ground.phase }, { on := 12, ground := Ground.phase }, { on := 13, ground := Ground.phase }, { on := 14, ground := Ground.phase }, { on := 15, ground := Ground.phase }, { on := 16, ground := Ground.phase }, { on := 17, ground := Ground.phase }], guard := none }

set_option maxHeartbeats 8000000 in
theorem newsRounds_core (a b c : Nat) (l : List UInt8) (w : World) (ha : a < 18446744073709551616) (hb : b < 4294967296) (hc : c < 256) (hl : l.length ≤ 200) :
    Calls Try.prog 3 #[.agg #[.int .u64 (a : Int), .int .u32 (b : Int), .int .u8 (c : Int)], .string (bs l)] w fun e w' => e = .returned (.bool true) ∧ Below w.heap.size w w' := by
  have hsz := bs_size l
  have hd : decide ((200 : Int) < (l.length : Int)) = false := decide_eq_false (by omega)
  have HA := Lib.hid (fun W => news_Awake W)
  have HO1 := Lib.hid (fun W => news_OpenRound l W (by omega))
  have HO2 := Lib.hid (fun W => newsr_OpenRound l W (by omega))
  have HK1 := Lib.hid (fun W => news_CloseRound a b c W ha hb hc)
  have HK2 := Lib.hid (fun W => newsr_CloseRound a b c W ha hb hc)
  obtain ⟨⟨⟨x1, x2, x3⟩, cd⟩, hT⟩ : ∃ T, T = ordT l := ⟨_, rfl⟩
  rw [← hT] at HO1 HO2
  unfold ordV at HO1 HO2
  dsimp only at HO1 HO2
  obtain ⟨R, hR⟩ : ∃ R, R = rdL a b c := ⟨_, rfl⟩
  rw [← hR] at HK1 HK2
  have hRR : ((bs R).toList == (bs R).toList) = true := by simp
  clear hT hR ha hb hc
  obtain ⟨W0, hW0⟩ : ∃ W0, W0 = w.alloc (.cells #[.int .u64 (a : Int), .int .u32 (b : Int), .int .u8 (c : Int)] 25) := ⟨_, rfl⟩
  have Z0 : Hid (Blk W0 w.heap.size 25 [.int .u64 (a : Int), .int .u32 (b : Int), .int .u8 (c : Int)]) := Lib.hid (by rw [hW0]; exact heap_alloc_new w _)
  have B0 : Hid (Below w.heap.size w W0) := Lib.hid (by rw [hW0]; exact (Below.refl _ _).alloc (Nat.le_refl _) _)
  go_enter Try.func3, Try.ntmps3
  go_upto_region 5 with (first
    | (go_at_call 7; rw [← hW0]; refine (HO1.out _).mono ?_; rintro e w1 ⟨rfl, hb1⟩)
    | (go_at_call 8; refine (HO2.out _).mono ?_; rintro e w2 ⟨rfl, hb2⟩))
  obtain ⟨W1, hW1⟩ : ∃ W1, W1 = w1.alloc (.cells #[.int .u64 (x1 : Int), .int .u32 (x2 : Int), .int .u8 (x3 : Int)] 25) := ⟨_, rfl⟩
  have hb2' : Below W1.heap.size W1 w2 := by rw [hW1]; exact hb2
  clear hb2
  obtain ⟨p5, hp5⟩ : ∃ p, p = w1.heap.size := ⟨_, rfl⟩
  have Y1 : Hid (Blk W1 p5 25 [.int .u64 (x1 : Int), .int .u32 (x2 : Int), .int .u8 (x3 : Int)]) := Lib.hid (by rw [hW1, hp5]; exact heap_alloc_new w1 _)
  have Z1 : Hid (Blk W1 w.heap.size 25 [.int .u64 (a : Int), .int .u32 (b : Int), .int .u8 (c : Int)]) := Lib.hid (by rw [hW1]; exact (Z0.out.keep hb1).alloc _)
  have B1 : Hid (Below w.heap.size w W1) := Lib.hid (by rw [hW1]; exact (B0.out.trans (hb1.mono B0.out.size)).alloc (Nat.le_trans B0.out.size hb1.size) _)
  obtain ⟨W2, hW2⟩ : ∃ W2, W2 = w2.alloc (.cells #[.int .u64 (x1 : Int), .int .u32 (x2 : Int), .int .u8 (x3 : Int)] 30) := ⟨_, rfl⟩
  obtain ⟨p7, hp7⟩ : ∃ p, p = w2.heap.size := ⟨_, rfl⟩
  have X2 : Hid (Blk W2 p7 30 [.int .u64 (x1 : Int), .int .u32 (x2 : Int), .int .u8 (x3 : Int)]) := Lib.hid (by rw [hW2, hp7]; exact heap_alloc_new w2 _)
  have Y2 : Hid (Blk W2 p5 25 [.int .u64 (x1 : Int), .int .u32 (x2 : Int), .int .u8 (x3 : Int)]) := Lib.hid (by rw [hW2]; exact (Y1.out.keep hb2').alloc _)
  have Z2 : Hid (Blk W2 w.heap.size 25 [.int .u64 (a : Int), .int .u32 (b : Int), .int .u8 (c : Int)]) := Lib.hid (by rw [hW2]; exact (Z1.out.keep hb2').alloc _)
  have B2 : Hid (Below w.heap.size w W2) := Lib.hid (by rw [hW2]; exact (B1.out.trans (hb2'.mono B1.out.size)).alloc (Nat.le_trans B1.out.size hb2'.size) _)
  have HC : Hid (∀ w', Below W2.heap.size W2 w' → w'.cell? ⟨w.heap.size, 0, none⟩ = some (.int .u64 (a : Int)) ∧ w'.cell? ⟨w.heap.size, 1, none⟩ = some (.int .u32 (b : Int)) ∧ w'.cell? ⟨w.heap.size, 2, none⟩ = some (.int .u8 (c : Int)) ∧ w'.cell? ⟨p5, 0, none⟩ = some (.int .u64 (x1 : Int)) ∧ w'.cell? ⟨p5, 1, none⟩ = some (.int .u32 (x2 : Int)) ∧ w'.cell? ⟨p5, 2, none⟩ = some (.int .u8 (x3 : Int)) ∧ w'.cell? ⟨p7, 0, none⟩ = some (.int .u64 (x1 : Int)) ∧ w'.cell? ⟨p7, 1, none⟩ = some (.int .u32 (x2 : Int)) ∧ w'.cell? ⟨p7, 2, none⟩ = some (.int .u8 (x3 : Int))) := Lib.hid (fun w' h => by
    obtain ⟨a0, a1, a2⟩ := (Z2.out.keep h).three
    obtain ⟨m0, m1, m2⟩ := (Y2.out.keep h).three
    obtain ⟨n0, n1, n2⟩ := (X2.out.keep h).three
    exact ⟨a0, a1, a2, m0, m1, m2, n0, n1, n2⟩)
  have K0 : Hid (Below W2.heap.size W2 W2.drew) := Lib.hid (Below.refl _ _).drew
  rw [← hp5, ← hp7]
  refine wp_world hW2 ?_
  clear hW2 hW1 hW0 hp5 hp7 hb1 hb2' Y1 Z1 X2 Y2 Z2 B0 B1 Z0 HO1 HO2
  refine wp_region_noPanic ?_
  refine wp_region_held_drew (S := fun w' => w'.cell? ⟨w.heap.size, 0, none⟩ = some (.int .u64 (a : Int)) ∧ w'.cell? ⟨w.heap.size, 1, none⟩ = some (.int .u32 (b : Int)) ∧ w'.cell? ⟨w.heap.size, 2, none⟩ = some (.int .u8 (c : Int)) ∧ w'.cell? ⟨p5, 0, none⟩ = some (.int .u64 (x1 : Int)) ∧ w'.cell? ⟨p5, 1, none⟩ = some (.int .u32 (x2 : Int)) ∧ w'.cell? ⟨p5, 2, none⟩ = some (.int .u8 (x3 : Int)) ∧ w'.cell? ⟨p7, 0, none⟩ = some (.int .u64 (x1 : Int)) ∧ w'.cell? ⟨p7, 1, none⟩ = some (.int .u32 (x2 : Int)) ∧ w'.cell? ⟨p7, 2, none⟩ = some (.int .u8 (x3 : Int))) (by kernel_rfl) ?_ (fun hHeld => ?_)
  · exact HC.out _ K0.out
  refine wpAnyH_ready (rs := [0]) (by kernel_rfl) (by simp) ?_
  refine AllReadyH.cons (o := nw5o0) rfl (fun K hK => ?_) AllReadyH.nil
  dsimp only [nw5o0]
  go_simp
  refine (HA.out _).mono ?_
  rintro e w1 ⟨rfl, b1⟩
  have K1 := Lib.hid (K0.out.trans (b1.mono K0.out.size))
  clear b1
  (try go_wp2_with fail)
  refine hK.out _ _ ?_ (fun hHeld => ?_)
  · exact HC.out _ K1.out
  clear hK K
  (try simp only [Act.put, List.setIfInBounds_toArray, List.set_cons_zero, List.set_cons_succ])
  refine wpAnyH_take (i := 1) (oi := nw5o1) (v := ?_) rfl (by kernel_rfl) (by kernel_rfl) (by kernel_rfl) (fun _ _ _ h => h) (Or.inl ⟨by rfl, ?_⟩) (by assumption) ?_
  rotate_left
  · (intro w hSw; (try dsimp only at hSw); obtain ⟨a0, a1, a2, m0, m1, m2, n0, n1, n2⟩ := hSw; (try dsimp only [nw5o1]); go_simp; try (with_reducible rfl))
  (try simp only [Act.put, List.setIfInBounds_toArray, List.set_cons_zero, List.set_cons_succ])
  refine wpAnyH_take (i := 2) (oi := nw5o2) (v := ?_) rfl (by kernel_rfl) (by kernel_rfl) (by kernel_rfl) (fun _ _ _ h => h) (Or.inl ⟨by rfl, ?_⟩) (by assumption) ?_
  rotate_left
  · (intro w hSw; (try dsimp only at hSw); obtain ⟨a0, a1, a2, m0, m1, m2, n0, n1, n2⟩ := hSw; (try dsimp only [nw5o2]); go_simp; try (with_reducible rfl))
  (try simp only [Act.put, List.setIfInBounds_toArray, List.set_cons_zero, List.set_cons_succ])
  refine wpAnyH_take (i := 4) (oi := nw5o4) (v := ?_) rfl (by kernel_rfl) (by kernel_rfl) (by kernel_rfl) (fun _ _ _ h => h) (Or.inl ⟨by rfl, ?_⟩) (by assumption) ?_
  rotate_left
  · (intro w hSw; (try dsimp only at hSw); obtain ⟨a0, a1, a2, m0, m1, m2, n0, n1, n2⟩ := hSw; (try dsimp only [nw5o4]); go_simp; try (with_reducible rfl))
  (try simp only [Act.put, List.setIfInBounds_toArray, List.set_cons_zero, List.set_cons_succ])
  refine wpAnyH_ready (rs := [3]) (by kernel_rfl) (by simp) ?_
  refine AllReadyH.cons (o := nw5o3) rfl (fun K hK => ?_) AllReadyH.nil
  dsimp only [nw5o3]
  go_simp
  refine (HK1.out _).mono ?_
  rintro e w2 ⟨rfl, b2⟩
  have K2 := Lib.hid (K1.out.trans (b2.mono K1.out.size))
  clear b2
  (try go_wp2_with fail)
  refine hK.out _ _ ?_ (fun hHeld => ?_)
  · exact HC.out _ K2.out
  clear hK K
  (try simp only [Act.put, List.setIfInBounds_toArray, List.set_cons_zero, List.set_cons_succ])
  refine wpAnyH_ready (rs := [5]) (by kernel_rfl) (by simp) ?_
  refine AllReadyH.cons (o := nw5o5) rfl (fun K hK => ?_) AllReadyH.nil
  dsimp only [nw5o5]
  go_simp
  refine (HK2.out _).mono ?_
  rintro e w3 ⟨rfl, b3⟩
  have K3 := Lib.hid (K2.out.trans (b3.mono K2.out.size))
  clear b3
  (try go_wp2_with fail)
  refine hK.out _ _ ?_ (fun hHeld => ?_)
  · exact HC.out _ K3.out
  clear hK K
  (try simp only [Act.put, List.setIfInBounds_toArray, List.set_cons_zero, List.set_cons_succ])
  refine wpAnyH_take (i := 6) (oi := nw5o6) (v := ?_) rfl (by kernel_rfl) (by kernel_rfl) (by kernel_rfl) (fun _ _ _ h => h) (Or.inl ⟨by rfl, ?_⟩) (by assumption) ?_
  rotate_left
  · (intro w hSw; (try dsimp only at hSw); obtain ⟨a0, a1, a2, m0, m1, m2, n0, n1, n2⟩ := hSw; (try dsimp only [nw5o6]); go_simp; try (with_reducible rfl))
  (try simp only [Act.put, List.setIfInBounds_toArray, List.set_cons_zero, List.set_cons_succ])
  refine wpAnyH_take (i := 7) (oi := nw5o7) (v := ?_) rfl (by kernel_rfl) (by kernel_rfl) (by kernel_rfl) (fun _ _ _ h => h) (Or.inl ⟨by rfl, ?_⟩) (by assumption) ?_
  rotate_left
  · (intro w hSw; (try dsimp only at hSw); obtain ⟨a0, a1, a2, m0, m1, m2, n0, n1, n2⟩ := hSw; (try dsimp only [nw5o7]); go_simp; try (with_reducible rfl))
  (try simp only [Act.put, List.setIfInBounds_toArray, List.set_cons_zero, List.set_cons_succ])
  refine wpAnyH_take (i := 8) (oi := nw5o8) (v := ?_) rfl (by kernel_rfl) (by kernel_rfl) (by kernel_rfl) (fun _ _ _ h => h) (Or.inl ⟨by rfl, ?_⟩) (by assumption) ?_
  rotate_left
  · (intro w hSw; (try dsimp only at hSw); obtain ⟨a0, a1, a2, m0, m1, m2, n0, n1, n2⟩ := hSw; (try dsimp only [nw5o8]); go_simp; try (with_reducible rfl))
  (try simp only [Act.put, List.setIfInBounds_toArray, List.set_cons_zero, List.set_cons_succ])
  refine wpAnyH_take (i := 9) (oi := nw5o9) (v := ?_) rfl (by kernel_rfl) (by kernel_rfl) (by kernel_rfl) (fun _ _ _ h => h) (Or.inl ⟨by rfl, ?_⟩) (by assumption) ?_
  rotate_left
  · (intro w hSw; (try dsimp only at hSw); obtain ⟨a0, a1, a2, m0, m1, m2, n0, n1, n2⟩ := hSw; (try dsimp only [nw5o9]); go_simp; try (with_reducible rfl))
  (try simp only [Act.put, List.setIfInBounds_toArray, List.set_cons_zero, List.set_cons_succ])
  refine wpAnyH_take (i := 10) (oi := nw5o10) (v := ?_) rfl (by kernel_rfl) (by kernel_rfl) (by kernel_rfl) (fun _ _ _ h => h) (Or.inl ⟨by rfl, ?_⟩) (by assumption) ?_
  rotate_left
  · (intro w hSw; (try dsimp only at hSw); obtain ⟨a0, a1, a2, m0, m1, m2, n0, n1, n2⟩ := hSw; (try dsimp only [nw5o10]); go_simp; try (with_reducible rfl))
  (try simp only [Act.put, List.setIfInBounds_toArray, List.set_cons_zero, List.set_cons_succ])
  refine wpAnyH_take (i := 11) (oi := nw5o11) (v := ?_) rfl (by kernel_rfl) (by kernel_rfl) (by kernel_rfl) (fun _ _ _ h => h) (Or.inl ⟨by rfl, ?_⟩) (by assumption) ?_
  rotate_left
  · (intro w hSw; (try dsimp only at hSw); obtain ⟨a0, a1, a2, m0, m1, m2, n0, n1, n2⟩ := hSw; (try dsimp only [nw5o11]); go_simp; try (with_reducible rfl))
  (try simp only [Act.put, List.setIfInBounds_toArray, List.set_cons_zero, List.set_cons_succ])
  refine wpAnyH_take (i := 12) (oi := nw5o12) (v := ?_) rfl (by kernel_rfl) (by kernel_rfl) (by kernel_rfl) (fun _ _ _ h => h) (Or.inl ⟨by rfl, ?_⟩) (by assumption) ?_
  rotate_left
  · (intro w hSw; (try dsimp only at hSw); obtain ⟨a0, a1, a2, m0, m1, m2, n0, n1, n2⟩ := hSw; (try dsimp only [nw5o12]); go_simp; try (with_reducible rfl))
  (try simp only [Act.put, List.setIfInBounds_toArray, List.set_cons_zero, List.set_cons_succ])
  refine wpAnyH_take (i := 13) (oi := nw5o13) (v := ?_) rfl (by kernel_rfl) (by kernel_rfl) (by kernel_rfl) (fun _ _ _ h => h) (Or.inl ⟨by rfl, ?_⟩) (by assumption) ?_
  rotate_left
  · (intro w hSw; (try dsimp only at hSw); obtain ⟨a0, a1, a2, m0, m1, m2, n0, n1, n2⟩ := hSw; (try dsimp only [nw5o13]); go_simp; try (with_reducible rfl))
  (try simp only [Act.put, List.setIfInBounds_toArray, List.set_cons_zero, List.set_cons_succ])
  refine wpAnyH_take (i := 14) (oi := nw5o14) (v := ?_) rfl (by kernel_rfl) (by kernel_rfl) (by kernel_rfl) (fun _ _ _ h => h) (Or.inl ⟨by rfl, ?_⟩) (by assumption) ?_
  rotate_left
  · (intro w hSw; (try dsimp only at hSw); obtain ⟨a0, a1, a2, m0, m1, m2, n0, n1, n2⟩ := hSw; (try dsimp only [nw5o14]); go_simp; try (with_reducible rfl))
  (try simp only [Act.put, List.setIfInBounds_toArray, List.set_cons_zero, List.set_cons_succ])
  refine wpAnyH_take (i := 15) (oi := nw5o15) (v := ?_) rfl (by kernel_rfl) (by kernel_rfl) (by kernel_rfl) (fun _ _ _ h => h) (Or.inl ⟨by rfl, ?_⟩) (by assumption) ?_
  rotate_left
  · (intro w hSw; (try dsimp only at hSw); obtain ⟨a0, a1, a2, m0, m1, m2, n0, n1, n2⟩ := hSw; (try dsimp only [nw5o15]); go_simp; try (with_reducible rfl))
  (try simp only [Act.put, List.setIfInBounds_toArray, List.set_cons_zero, List.set_cons_succ])
  refine wpAnyH_take (i := 16) (oi := nw5o16) (v := ?_) rfl (by kernel_rfl) (by kernel_rfl) (by kernel_rfl) (fun _ _ _ h => h) (Or.inl ⟨by rfl, ?_⟩) (by assumption) ?_
  rotate_left
  · (intro w hSw; (try dsimp only at hSw); obtain ⟨a0, a1, a2, m0, m1, m2, n0, n1, n2⟩ := hSw; (try dsimp only [nw5o16]); go_simp; try (with_reducible rfl))
  (try simp only [Act.put, List.setIfInBounds_toArray, List.set_cons_zero, List.set_cons_succ])
  refine wpAnyH_take (i := 17) (oi := nw5o17) (v := ?_) rfl (by kernel_rfl) (by kernel_rfl) (by kernel_rfl) (fun _ _ _ h => h) (Or.inl ⟨by rfl, ?_⟩) (by assumption) ?_
  rotate_left
  · (intro w hSw; (try dsimp only at hSw); obtain ⟨a0, a1, a2, m0, m1, m2, n0, n1, n2⟩ := hSw; (try dsimp only [nw5o17]); go_simp; try (with_reducible rfl))
  (try simp only [Act.put, List.setIfInBounds_toArray, List.set_cons_zero, List.set_cons_succ])
  refine wpAnyH_take (i := 18) (oi := nw5o18) (v := ?_) rfl (by kernel_rfl) (by kernel_rfl) (by kernel_rfl) (fun _ _ _ h => h) (Or.inl ⟨by rfl, ?_⟩) (by assumption) ?_
  rotate_left
  · (intro w hSw; (try dsimp only at hSw); obtain ⟨a0, a1, a2, m0, m1, m2, n0, n1, n2⟩ := hSw; (try dsimp only [nw5o18]); go_simp; try (with_reducible rfl))
  (try simp only [Act.put, List.setIfInBounds_toArray, List.set_cons_zero, List.set_cons_succ])
  refine wpAnyH_done (by kernel_rfl) ?_ _
  refine NoPanic.normal ?_
  go_wp2_with fail
  go_ret
  exact ⟨rfl, B2.out.trans (K3.out.mono B2.out.size)⟩

theorem newsRounds_idle (v : Value) (a b c : Int) (l : List UInt8) (w : World) (hv : v = .agg #[.int .u64 a, .int .u32 b, .int .u8 c]) (hl : 200 < l.length) :
    Calls Try.prog 3 #[v, .string (bs l)] w fun e w' => e = .returned (.bool true) ∧ Below w.heap.size w w' := by
  subst hv
  have hsz := bs_size l
  have hd : decide ((200 : Int) < (l.length : Int)) = true := decide_eq_true (by omega)
  have HA := Lib.hid (fun W => news_Awake W)
  have B0 : Hid (Below w.heap.size w (w.alloc (.cells #[.int .u64 a, .int .u32 b, .int .u8 c] 25))) := Lib.hid ((Below.refl _ _).alloc (Nat.le_refl _) _)
  go_enter Try.func3, Try.ntmps3
  go_wp2_with fail
  refine (HA.out _).mono ?_
  rintro e w1 ⟨rfl, hb1⟩
  have B1 := Lib.hid (B0.out.trans (hb1.mono B0.out.size))
  clear hb1
  go_wp2_with fail
  go_ret
  exact ⟨rfl, B1.out⟩

theorem newsRounds_walk (a : Nat) (ha : a < 18446744073709551616) (b : Nat) (hb : b < 4294967296) (c : Nat) (hc : c < 256) (s : ByteArray) (_hs : s.size ≤ maxLen) (w : World) :
    Calls Try.prog 3 #[.agg #[.int .u64 (a : Int), .int .u32 (b : Int), .int .u8 (c : Int)], .string s] w fun e w' => e = .returned (.bool true) ∧ Below w.heap.size w w' := by
  obtain ⟨l, hl⟩ : ∃ l, l = s.data.toList := ⟨_, rfl⟩
  have hs2 : s = bs l := by rw [hl, bs_of]
  rw [hs2]
  by_cases h : 200 < l.length
  · exact newsRounds_idle _ a b c l w rfl h
  · exact newsRounds_core a b c l w ha hb hc (by omega)

end Go.Proofs.Ytackddgihdnmgaa
