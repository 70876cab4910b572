/- The walk of NewsBack: what is closed is opened as it was, what is opened is closed as it was. Written by wip/tools/gen_news.py. -/
import Derived.Test.YtackddgihdnmgaaNewsR
import Derived.Test.YtackddgihdnmgaaNewsF
namespace Go.Proofs.Ytackddgihdnmgaa
open Go.RowKit
set_option maxRecDepth 100000

abbrev nb9o0 : Oper := { dst := some 59, op := Op.move (Operand.tmp 14), type := 27, pos := "law.go:58", after := #[], guard := none }
abbrev nb9o1 : Oper := { dst := some 60, op := Op.binOp BinOp.neq 27 (Operand.tmp 59) (Operand.const (Value.int IntKind.i64 0)) 27, type := 4, pos := "law.go:58", after := #[{ on := 0, ground := Ground.data }], guard := none }
abbrev nb9o2 : Oper := { dst := some 61, op := Op.move (Operand.tmp 60), type := 4, pos := "law.go:58", after := #[{ on := 1, ground := Ground.data }], guard := none }
abbrev nb9o3 : Oper := { dst := some 62, op := Op.load 38 (Operand.tmp 13), type := 38, pos := "law.go:58", after := #[{ on := 2, ground := Ground.guard }], guard := some (2, false) }
abbrev nb9o4 : Oper := { dst := some 63, op := Op.call { callee := Callee.value (Operand.func 13), args := #[Operand.tmp 62], argTypes := #[38] }, type := 45, pos := "law.go:58", after := #[{ on := 3, ground := Ground.data }, { on := 2, ground := Ground.chain }, { on := 2, ground := Ground.guard }], guard := some (2, false) }
abbrev nb9o5 : Oper := { dst := some 64, op := Op.load 38 (Operand.tmp 5), type := 38, pos := "law.go:58", after := #[{ on := 2, ground := Ground.guard }], guard := some (2, false) }
abbrev nb9o6 : Oper := { dst := some 65, op := Op.call { callee := Callee.value (Operand.func 13), args := #[Operand.tmp 64], argTypes := #[38] }, type := 45, pos := "law.go:58", after := #[{ on := 5, ground := Ground.data }, { on := 4, ground := Ground.chain }, { on := 2, ground := Ground.guard }], guard := some (2, false) }
abbrev nb9o7 : Oper := { dst := some 66, op := Op.call { callee := Callee.value (Operand.func 16), args := #[Operand.tmp 63, Operand.tmp 65], argTypes := #[45, 45] }, type := 4, pos := "law.go:58", after := #[{ on := 4, ground := Ground.data }, { on := 6, ground := Ground.data }, { on := 6, ground := Ground.chain }, { on := 2, ground := Ground.guard }], guard := some (2, false) }
abbrev nb9o8 : Oper := { dst := some 67, op := Op.unOp UnOp.not 4 (Operand.tmp 66), type := 4, pos := "law.go:58", after := #[{ on := 7, ground := Ground.data }, { on := 2, ground := Ground.guard }], guard := some (2, false) }
abbrev nb9o9 : Oper := { dst := some 68, op := Op.pick (Operand.tmp 61) (Operand.const (Value.bool true)) (Operand.tmp 67), type := 4, pos := "law.go:58", after := #[{ on := 2, ground := Ground.data }, { on := 8, ground := Ground.data }], guard := none }

set_option maxHeartbeats 32000000 in
theorem newsBack_core (a b c ep : Nat) (A : Option Addr) (n cp : Nat) (rs : List RowT) (s t : List UInt8) (w : World) (ha : a < 18446744073709551616) (hb : b < 4294967296) (hc : c < 256) (hep : ep < 4294967296) (hR : Rws w A n rs) (hnc : n ≤ cp) (hcm : (cp : Int) ≤ 9223372036854775807) (hn : n ≤ 400) (hs : s.length ≤ 200) (ht : t.length ≤ 3000) :
    Calls Try.prog 5 #[.agg #[.int .u64 (a : Int), .int .u32 (b : Int), .int .u8 (c : Int)], .agg #[.int .u32 (ep : Int), .slice A n cp], .string (bs s), .string (bs t)] w fun e w' => e = .returned (.bool true) ∧ Below w.heap.size w w' := by
  have hss := bs_size s
  have hst := bs_size t
  have hd1 : decide ((400 : Int) < (n : Int)) = false := decide_eq_false (by omega)
  have hd2 : decide ((200 : Int) < (s.length : Int)) = false := decide_eq_false (by omega)
  have hd3 : decide ((3000 : Int) < (t.length : Int)) = false := decide_eq_false (by omega)
  have HA := Lib.hid (fun W => news_Awake W)
  have HOS := Lib.hid (fun W => news_OpenRound s W (by omega))
  have HOT := Lib.hid (fun W => news_OpenReport t W (by omega))
  have HSB0 := Lib.hid (ordT_back s)
  have HTB0 := Lib.hid (orpT_back t)
  have HTE0 := Lib.hid (orpT_empty t)
  obtain ⟨⟨⟨x1, x2, x3⟩, cs⟩, hT⟩ : ∃ T, T = ordT s := ⟨_, rfl⟩
  rw [← hT] at HOS HSB0
  unfold ordV at HOS
  dsimp only at HOS
  have HSB : Hid (cs = 0 → rdL x1 x2 x3 = s ∧ x1 < 18446744073709551616 ∧ x2 < 4294967296 ∧ x3 < 256) := Lib.hid (fun h => HSB0.out (x1, x2, x3) (by rw [h]))
  obtain ⟨⟨⟨ep8, rows8⟩, cd8⟩, hU⟩ : ∃ T, T = orpT t := ⟨_, rfl⟩
  rw [← hU] at HOT HTB0 HTE0
  have HTB : Hid (cd8 = 0 → MayP rows8 ∧ rpL ep8 rows8 = t ∧ ep8 < 4294967296) := Lib.hid (fun h => HTB0.out (ep8, rows8) (by rw [h]))
  have HTE : Hid (cd8 ≠ 0 → rows8 = []) := Lib.hid (fun h => HTE0.out h)
  have hsss : ((bs s).toList != (bs s).toList) = false := by simp
  have httt : ((bs t).toList == (bs t).toList) = true := by simp
  have HK := Lib.hid (fun W => news_CloseRound a b c W ha hb hc)
  obtain ⟨X, hX⟩ : ∃ X, X = rdL a b c := ⟨_, rfl⟩
  have HOX : Hid (∀ W, Calls Try.prog 7 #[.string (bs X)] W fun e w' => e = .returned (.tuple #[.agg #[.int .u64 (a : Int), .int .u32 (b : Int), .int .u8 (c : Int)], .int .i64 0]) ∧ Below W.heap.size W w') := Lib.hid (fun W => by
    have h := news_OpenRound X W (by rw [hX, rdL_len]; decide)
    rw [hX, ordT_rdL a b c ha hb hc] at h
    rw [hX]
    exact h)
  rw [← hX] at HK
  obtain ⟨W0, hW0⟩ : ∃ W0, W0 = (w.alloc (.cells #[.int .u64 (a : Int), .int .u32 (b : Int), .int .u8 (c : Int)] 25)).alloc (.cells #[.int .u32 (ep : Int), .slice A n cp] 38) := ⟨_, rfl⟩
  have Z0 : Hid (Blk W0 w.heap.size 25 [.int .u64 (a : Int), .int .u32 (b : Int), .int .u8 (c : Int)] ∧ Blk W0 (w.heap.size + 1) 38 [.int .u32 (ep : Int), .slice A n cp]) := Lib.hid (by
    rw [hW0]
    refine ⟨(show Blk _ _ _ _ from heap_alloc_new w _).alloc _, ?_⟩
    have h := (show Blk _ _ _ _ from heap_alloc_new (w.alloc (.cells #[.int .u64 (a : Int), .int .u32 (b : Int), .int .u8 (c : Int)] 25)) (.cells #[.int .u32 (ep : Int), .slice A n cp] 38 (0, 0)))
    rw [World.size_alloc] at h
    exact h)
  have B0 : Hid (Below w.heap.size w W0) := Lib.hid (by rw [hW0]; exact ((Below.refl _ _).alloc (Nat.le_refl _) _).alloc (by simp) _)
  have HRR : Hid (Rws W0 A n rs) := Lib.hid (hR.keep B0.out)
  have HOH := Lib.hid (fun W (hb : Below W0.heap.size W0 W) => law_Of ep A n cp rs W (HRR.out.keep hb) hnc (by omega))
  have HCL := Lib.hid (fun W (hb : Below W0.heap.size W0 W) => news_CloseReport ep A n cp rs W hep (HRR.out.keep hb) hnc hcm)
  have HRM : Hid (MayP rs → (∀ W, Calls Try.prog 14 #[.string (bs (rpL ep rs))] W fun e w' => RpPost ((ep, rs), 0) e w' ∧ Below W.heap.size W w')) := Lib.hid (fun hm W => by
    have h := news_OpenReport (rpL ep rs) W (by rw [rpL_len]; have := hm.2.1; omega)
    rw [orpT_rpL ep rs hep hm (by rw [hR.1]; exact hR.2.1)] at h
    exact h)
  have HLN : Hid (rs.length = n ∧ n ≤ 400) := Lib.hid ⟨hR.1, hn⟩
  clear hT hU hX HSB0 HTB0 HTE0 ha hb hc hep hR hnc hcm hn hs ht
  go_enter Try.func5, Try.ntmps5
  go_wp2_with fail
  rw [← hW0]
  clear hW0 hd1 hd2 hd3
  refine (HK.out _).mono ?_
  rintro e w1 ⟨rfl, b1⟩
  go_wp2_with fail
  refine (HOX.out _).mono ?_
  rintro e w2 ⟨rfl, b2⟩
  obtain ⟨W2, hW2⟩ : ∃ W2, W2 = w2.alloc (.cells #[.int .u64 (a : Int), .int .u32 (b : Int), .int .u8 (c : Int)] 25) := ⟨_, rfl⟩
  have BA : Hid (Below W0.heap.size W0 W2) := Lib.hid (by rw [hW2]; exact (b1.trans (b2.mono b1.size)).alloc (Nat.le_trans b1.size b2.size) _)
  obtain ⟨a0, a1, a2⟩ := (Z0.out.1.keep BA.out).three
  have e0 := (Z0.out.2.keep BA.out).cell 0
  have e1 := (Z0.out.2.keep BA.out).cell 1
  dsimp only [List.getElem?_cons_zero, List.getElem?_cons_succ] at e0 e1
  rw [hW2] at a0 a1 a2 e0 e1
  clear b1 b2 HK HOX
  go_wp2_with fail
  rw [← hW2]
  clear a0 a1 a2 e0 e1 hW2
  refine (HCL.out _ BA.out).mono ?_
  rintro e w3 ⟨rfl, b3⟩
  have BB := Lib.hid (BA.out.trans (b3.mono BA.out.size))
  clear b3 HCL BA
  by_cases hm : MayP rs
  · have HOR := Lib.hid (HRM.out hm)
    have hcb : clB ep rs = rpL ep rs := by unfold clB; rw [if_pos hm]
    have hce : clE rs = 0 := by unfold clE; rw [if_pos hm]
    rw [hcb, hce]
    clear hm hcb hce HRM
    go_wp2_with fail
    refine (HOR.out _).mono ?_
    rintro e w4 ⟨⟨A2, n2, rfl, hr4, hn4⟩, b4⟩
    have hl4 := hr4.1
    dsimp only at hr4 hl4
    rw [HLN.out.1] at hl4
    subst hl4
    have HN2 : Hid (n ≤ 100000) := Lib.hid (by have := HLN.out.2; omega)
    obtain ⟨p13, hp13⟩ : ∃ p, p = w4.heap.size := ⟨_, rfl⟩
    obtain ⟨W5, hW5⟩ : ∃ W5, W5 = w4.alloc (.cells #[.int .u32 (ep : Int), .slice A2 n n] 38) := ⟨_, rfl⟩
    have Y5 : Hid (Blk W5 p13 38 [.int .u32 (ep : Int), .slice A2 n n]) := Lib.hid (by rw [hW5, hp13]; exact heap_alloc_new w4 _)
    have BC : Hid (Below W0.heap.size W0 W5) := Lib.hid (by rw [hW5]; exact (BB.out.trans (b4.mono BB.out.size)).alloc (Nat.le_trans BB.out.size b4.size) _)
    have R5 : Hid (Rws W5 A2 n rs) := Lib.hid (by rw [hW5]; exact hr4.keep ((Below.refl _ _).alloc (Nat.le_refl _) _))
    have HOX := Lib.hid (fun W (hb : Below W5.heap.size W5 W) => law_Of ep A2 n n rs W (R5.out.keep hb) (Nat.le_refl _) HN2.out)
    have HOH2 := Lib.hid (fun W (hb : Below W5.heap.size W5 W) => HOH.out W (BC.out.trans (hb.mono BC.out.size)))
    have HC : Hid (∀ w', Below W5.heap.size W5 w' → w'.cell? ⟨p13, 0, none⟩ = some (.int .u32 (ep : Int)) ∧ w'.cell? ⟨p13, 1, none⟩ = some (.slice A2 n n) ∧ w'.cell? ⟨w.heap.size + 1, 0, none⟩ = some (.int .u32 (ep : Int)) ∧ w'.cell? ⟨w.heap.size + 1, 1, none⟩ = some (.slice A n cp)) := Lib.hid (fun w' hb => ⟨(Y5.out.keep hb).cell 0, (Y5.out.keep hb).cell 1, ((Z0.out.2.keep BC.out).keep hb).cell 0, ((Z0.out.2.keep BC.out).keep hb).cell 1⟩)
    have K5 : Hid (Below W5.heap.size W5 W5.drew) := Lib.hid (Below.refl _ _).drew
    clear b4 hr4 Y5 HOR BB
    go_upto_region 9 with fail
    rw [← hp13]
    refine wp_world hW5 ?_
    clear hp13 hW5
    refine wp_region_noPanic ?_
    refine wp_region_held_drew (S := fun w' => w'.cell? ⟨p13, 0, none⟩ = some (.int .u32 (ep : Int)) ∧ w'.cell? ⟨p13, 1, none⟩ = some (.slice A2 n n) ∧ w'.cell? ⟨w.heap.size + 1, 0, none⟩ = some (.int .u32 (ep : Int)) ∧ w'.cell? ⟨w.heap.size + 1, 1, none⟩ = some (.slice A n cp)) (by kernel_rfl) ?_ (fun hHeld => ?_)
    · exact HC.out _ K5.out
    refine wpAnyH_take (i := 0) (oi := nb9o0) (v := ?_) rfl (by kernel_rfl) (by kernel_rfl) (by kernel_rfl) (fun _ _ _ h => h) (Or.inl ⟨by rfl, ?_⟩) (by assumption) ?_
    rotate_left
    · (intro w hSw; (try dsimp only at hSw); obtain ⟨s0, s1, s2, s3⟩ := hSw; (try dsimp only [nb9o0]); go_simp; try (with_reducible rfl))
    (try simp only [Act.put, List.setIfInBounds_toArray, List.set_cons_zero, List.set_cons_succ])
    refine wpAnyH_take (i := 1) (oi := nb9o1) (v := ?_) rfl (by kernel_rfl) (by kernel_rfl) (by kernel_rfl) (fun _ _ _ h => h) (Or.inl ⟨by rfl, ?_⟩) (by assumption) ?_
    rotate_left
    · (intro w hSw; (try dsimp only at hSw); obtain ⟨s0, s1, s2, s3⟩ := hSw; (try dsimp only [nb9o1]); go_simp; try (with_reducible rfl))
    (try simp only [Act.put, List.setIfInBounds_toArray, List.set_cons_zero, List.set_cons_succ])
    refine wpAnyH_take (i := 2) (oi := nb9o2) (v := ?_) rfl (by kernel_rfl) (by kernel_rfl) (by kernel_rfl) (fun _ _ _ h => h) (Or.inl ⟨by rfl, ?_⟩) (by assumption) ?_
    rotate_left
    · (intro w hSw; (try dsimp only at hSw); obtain ⟨s0, s1, s2, s3⟩ := hSw; (try dsimp only [nb9o2]); go_simp; try (with_reducible rfl))
    (try simp only [Act.put, List.setIfInBounds_toArray, List.set_cons_zero, List.set_cons_succ])
    refine wpAnyH_take (i := 3) (oi := nb9o3) (v := ?_) rfl (by kernel_rfl) (by kernel_rfl) (by kernel_rfl) (fun _ _ _ h => h) (Or.inl ⟨by rfl, ?_⟩) (by assumption) ?_
    rotate_left
    · (intro w hSw; (try dsimp only at hSw); obtain ⟨s0, s1, s2, s3⟩ := hSw; (try dsimp only [nb9o3]); go_simp; try (with_reducible rfl))
    (try simp only [Act.put, List.setIfInBounds_toArray, List.set_cons_zero, List.set_cons_succ])
    refine wpAnyH_take (i := 5) (oi := nb9o5) (v := ?_) rfl (by kernel_rfl) (by kernel_rfl) (by kernel_rfl) (fun _ _ _ h => h) (Or.inl ⟨by rfl, ?_⟩) (by assumption) ?_
    rotate_left
    · (intro w hSw; (try dsimp only at hSw); obtain ⟨s0, s1, s2, s3⟩ := hSw; (try dsimp only [nb9o5]); go_simp; try (with_reducible rfl))
    (try simp only [Act.put, List.setIfInBounds_toArray, List.set_cons_zero, List.set_cons_succ])
    refine wpAnyH_ready (rs := [4]) (by kernel_rfl) (by simp) ?_
    refine AllReadyH.cons (o := nb9o4) rfl (fun K hK => ?_) AllReadyH.nil
    dsimp only [nb9o4]
    go_simp
    refine (HOX.out _ K5.out).mono ?_
    rintro e u1 ⟨⟨A4, c4, rfl, hr4, hc4, hcm4⟩, q4⟩
    have K6 := Lib.hid (K5.out.trans (q4.mono K5.out.size))
    have R6 := Lib.hid hr4
    have C6 := Lib.hid hc4
    clear q4 hr4 hc4 hcm4
    (try go_wp2_with fail)
    refine hK.out _ _ ?_ (fun hHeld => ?_)
    · exact HC.out _ K6.out
    clear hK K
    (try simp only [Act.put, List.setIfInBounds_toArray, List.set_cons_zero, List.set_cons_succ])
    refine wpAnyH_ready (rs := [6]) (by kernel_rfl) (by simp) ?_
    refine AllReadyH.cons (o := nb9o6) rfl (fun K hK => ?_) AllReadyH.nil
    dsimp only [nb9o6]
    go_simp
    refine (HOH2.out _ K6.out).mono ?_
    rintro e u2 ⟨⟨A6, c6, rfl, hr6, hc6, hcm6⟩, q6⟩
    have K7 := Lib.hid (K6.out.trans (q6.mono K6.out.size))
    have R7 := Lib.hid (R6.out.keep q6)
    have Q7 := Lib.hid hr6
    have D7 := Lib.hid hc6
    clear q6 hr6 hc6 hcm6
    (try go_wp2_with fail)
    refine hK.out _ _ ?_ (fun hHeld => ?_)
    · exact HC.out _ K7.out
    clear hK K
    (try simp only [Act.put, List.setIfInBounds_toArray, List.set_cons_zero, List.set_cons_succ])
    refine wpAnyH_ready (rs := [7]) (by kernel_rfl) (by simp) ?_
    refine AllReadyH.cons (o := nb9o7) rfl (fun K hK => ?_) AllReadyH.nil
    dsimp only [nb9o7]
    go_simp
    refine (newsr_Same ep A4 A6 n c4 c6 rs _ R7.out Q7.out C6.out D7.out HN2.out).mono ?_
    rintro e u3 ⟨rfl, q8⟩
    have K8 := Lib.hid (K7.out.trans (q8.mono K7.out.size))
    clear q8
    (try go_wp2_with fail)
    refine hK.out _ _ ?_ (fun hHeld => ?_)
    · exact HC.out _ K8.out
    clear hK K
    (try simp only [Act.put, List.setIfInBounds_toArray, List.set_cons_zero, List.set_cons_succ])
    refine wpAnyH_take (i := 8) (oi := nb9o8) (v := ?_) rfl (by kernel_rfl) (by kernel_rfl) (by kernel_rfl) (fun _ _ _ h => h) (Or.inl ⟨by rfl, ?_⟩) (by assumption) ?_
    rotate_left
    · (intro w hSw; (try dsimp only at hSw); obtain ⟨s0, s1, s2, s3⟩ := hSw; (try dsimp only [nb9o8]); go_simp; try (with_reducible rfl))
    (try simp only [Act.put, List.setIfInBounds_toArray, List.set_cons_zero, List.set_cons_succ])
    refine wpAnyH_take (i := 9) (oi := nb9o9) (v := ?_) rfl (by kernel_rfl) (by kernel_rfl) (by kernel_rfl) (fun _ _ _ h => h) (Or.inl ⟨by rfl, ?_⟩) (by assumption) ?_
    rotate_left
    · (intro w hSw; (try dsimp only at hSw); obtain ⟨s0, s1, s2, s3⟩ := hSw; (try dsimp only [nb9o9]); go_simp; try (with_reducible rfl))
    (try simp only [Act.put, List.setIfInBounds_toArray, List.set_cons_zero, List.set_cons_succ])
    refine wpAnyH_done (by kernel_rfl) ?_ _
    refine NoPanic.normal ?_
    have BK := Lib.hid (BC.out.trans (K8.out.mono BC.out.size))
    clear HC K5 K6 K7 K8 R6 R7 Q7 C6 D7 HOX HOH HOH2 R5
    go_wp2_with fail
    refine (HOS.out _).mono ?_
    rintro e s1 ⟨rfl, o1⟩
    obtain ⟨p15, hp15⟩ : ∃ p, p = s1.heap.size := ⟨_, rfl⟩
    obtain ⟨U1, hU1⟩ : ∃ U1, U1 = s1.alloc (.cells #[.int .u64 (x1 : Int), .int .u32 (x2 : Int), .int .u8 (x3 : Int)] 25) := ⟨_, rfl⟩
    have X1 : Hid (Blk U1 p15 25 [.int .u64 (x1 : Int), .int .u32 (x2 : Int), .int .u8 (x3 : Int)]) := Lib.hid (by rw [hU1, hp15]; exact heap_alloc_new s1 _)
    have BU : Hid (Below W0.heap.size W0 U1) := Lib.hid (by rw [hU1]; exact (BK.out.trans (o1.mono BK.out.size)).alloc (Nat.le_trans BK.out.size o1.size) _)
    clear o1
    by_cases hcs : cs = 0
    · have HKS : Hid (∀ W, Calls Try.prog 9 #[.agg #[.int .u64 (x1 : Int), .int .u32 (x2 : Int), .int .u8 (x3 : Int)]] W fun e w' => e = .returned (.string (bs s)) ∧ Below W.heap.size W w') := Lib.hid (fun W => by
        obtain ⟨h1, h2, h3, h4⟩ := HSB.out hcs
        have h := news_CloseRound x1 x2 x3 W h2 h3 h4
        rw [h1] at h
        exact h)
      subst hcs
      obtain ⟨y0, y1, y2⟩ := X1.out.three
      rw [hU1, hp15] at y0 y1 y2
      go_wp2_with fail
      rw [← hU1]
      clear y0 y1 y2 hU1 hp15
      refine (HKS.out _).mono ?_
      rintro e s2 ⟨rfl, o2⟩
      have BL := Lib.hid (BU.out.trans (o2.mono BU.out.size))
      clear o2 HKS
      go_wp2_with fail
      refine (HOT.out _).mono ?_
      rintro e t1 ⟨⟨A8, n8, rfl, hr8, hn8⟩, r1⟩
      have HL8 : Hid (rows8.length = n8) := Lib.hid hr8.1
      dsimp only at hr8
      obtain ⟨p17, hp17⟩ : ∃ p, p = t1.heap.size := ⟨_, rfl⟩
      obtain ⟨V1, hV1⟩ : ∃ V1, V1 = t1.alloc (.cells #[.int .u32 (ep8 : Int), .slice A8 n8 n8] 38) := ⟨_, rfl⟩
      have Y8 : Hid (Blk V1 p17 38 [.int .u32 (ep8 : Int), .slice A8 n8 n8]) := Lib.hid (by rw [hV1, hp17]; exact heap_alloc_new t1 _)
      have BV : Hid (Below W0.heap.size W0 V1) := Lib.hid (by rw [hV1]; exact (BL.out.trans (r1.mono BL.out.size)).alloc (Nat.le_trans BL.out.size r1.size) _)
      have R8 : Hid (Rws V1 A8 n8 rows8) := Lib.hid (by rw [hV1]; exact hr8.keep ((Below.refl _ _).alloc (Nat.le_refl _) _))
      clear r1 hr8
      by_cases hc8 : cd8 = 0
      · have H8 : Hid (Calls Try.prog 11 #[.agg #[.int .u32 (ep8 : Int), .slice A8 n8 n8]] V1 fun e w' => e = .returned (.tuple #[.string (bs t), .int .i64 0]) ∧ Below V1.heap.size V1 w') := Lib.hid (by
          obtain ⟨h1, h2, h3⟩ := HTB.out hc8
          have h := news_CloseReport ep8 A8 n8 n8 rows8 V1 h3 R8.out (Nat.le_refl _) hn8
          unfold clB clE at h
          rw [if_pos h1, if_pos h1, h2] at h
          exact h)
        subst hc8
        have y0 := Y8.out.cell 0
        have y1 := Y8.out.cell 1
        dsimp only [List.getElem?_cons_zero, List.getElem?_cons_succ] at y0 y1
        rw [hV1, hp17] at y0 y1
        go_wp2_with fail
        rw [← hV1]
        clear y0 y1 hV1 hp17
        refine H8.out.mono ?_
        rintro e t2 ⟨rfl, r2⟩
        have BW2 := Lib.hid (BV.out.trans (r2.mono BV.out.size))
        clear r2
        go_wp2_with fail
        refine (HA.out _).mono ?_
        rintro e t3 ⟨rfl, r3⟩
        have BW3 := Lib.hid (BW2.out.trans (r3.mono BW2.out.size))
        clear r3
        go_wp2_with fail
        go_ret
        exact ⟨rfl, B0.out.trans (BW3.out.mono B0.out.size)⟩
      · have hz : n8 = 0 := by rw [← HL8.out, HTE.out hc8]; rfl
        have hcn : ((cd8 : Int) != 0) = true := by rw [bne_iff_ne]; omega
        subst hz
        clear hc8
        have y0 := Y8.out.cell 0
        have y1 := Y8.out.cell 1
        dsimp only [List.getElem?_cons_zero, List.getElem?_cons_succ] at y0 y1
        rw [hp17] at y1
        go_wp2_with fail
        rw [← hV1]
        refine (HA.out _).mono ?_
        rintro e t3 ⟨rfl, r3⟩
        have y2 := (Y8.out.keep r3).cell 1
        dsimp only [List.getElem?_cons_zero, List.getElem?_cons_succ] at y2
        rw [hp17] at y2
        have BW3 := Lib.hid (BV.out.trans (r3.mono BV.out.size))
        clear r3
        go_wp2_with fail
        go_ret
        exact ⟨rfl, B0.out.trans (BW3.out.mono B0.out.size)⟩
    · have hcz : ((cs : Int) == 0) = false := by rw [beq_eq_false_iff_ne]; omega
      clear hcs
      go_wp2_with fail
      rw [← hU1]
      clear hU1 hp15
      have BL := BU
      refine (HOT.out _).mono ?_
      rintro e t1 ⟨⟨A8, n8, rfl, hr8, hn8⟩, r1⟩
      have HL8 : Hid (rows8.length = n8) := Lib.hid hr8.1
      dsimp only at hr8
      obtain ⟨p17, hp17⟩ : ∃ p, p = t1.heap.size := ⟨_, rfl⟩
      obtain ⟨V1, hV1⟩ : ∃ V1, V1 = t1.alloc (.cells #[.int .u32 (ep8 : Int), .slice A8 n8 n8] 38) := ⟨_, rfl⟩
      have Y8 : Hid (Blk V1 p17 38 [.int .u32 (ep8 : Int), .slice A8 n8 n8]) := Lib.hid (by rw [hV1, hp17]; exact heap_alloc_new t1 _)
      have BV : Hid (Below W0.heap.size W0 V1) := Lib.hid (by rw [hV1]; exact (BL.out.trans (r1.mono BL.out.size)).alloc (Nat.le_trans BL.out.size r1.size) _)
      have R8 : Hid (Rws V1 A8 n8 rows8) := Lib.hid (by rw [hV1]; exact hr8.keep ((Below.refl _ _).alloc (Nat.le_refl _) _))
      clear r1 hr8
      by_cases hc8 : cd8 = 0
      · have H8 : Hid (Calls Try.prog 11 #[.agg #[.int .u32 (ep8 : Int), .slice A8 n8 n8]] V1 fun e w' => e = .returned (.tuple #[.string (bs t), .int .i64 0]) ∧ Below V1.heap.size V1 w') := Lib.hid (by
          obtain ⟨h1, h2, h3⟩ := HTB.out hc8
          have h := news_CloseReport ep8 A8 n8 n8 rows8 V1 h3 R8.out (Nat.le_refl _) hn8
          unfold clB clE at h
          rw [if_pos h1, if_pos h1, h2] at h
          exact h)
        subst hc8
        have y0 := Y8.out.cell 0
        have y1 := Y8.out.cell 1
        dsimp only [List.getElem?_cons_zero, List.getElem?_cons_succ] at y0 y1
        rw [hV1, hp17] at y0 y1
        go_wp2_with fail
        rw [← hV1]
        clear y0 y1 hV1 hp17
        refine H8.out.mono ?_
        rintro e t2 ⟨rfl, r2⟩
        have BW2 := Lib.hid (BV.out.trans (r2.mono BV.out.size))
        clear r2
        go_wp2_with fail
        refine (HA.out _).mono ?_
        rintro e t3 ⟨rfl, r3⟩
        have BW3 := Lib.hid (BW2.out.trans (r3.mono BW2.out.size))
        clear r3
        go_wp2_with fail
        go_ret
        exact ⟨rfl, B0.out.trans (BW3.out.mono B0.out.size)⟩
      · have hz : n8 = 0 := by rw [← HL8.out, HTE.out hc8]; rfl
        have hcn : ((cd8 : Int) != 0) = true := by rw [bne_iff_ne]; omega
        subst hz
        clear hc8
        have y0 := Y8.out.cell 0
        have y1 := Y8.out.cell 1
        dsimp only [List.getElem?_cons_zero, List.getElem?_cons_succ] at y0 y1
        rw [hp17] at y1
        go_wp2_with fail
        rw [← hV1]
        refine (HA.out _).mono ?_
        rintro e t3 ⟨rfl, r3⟩
        have y2 := (Y8.out.keep r3).cell 1
        dsimp only [List.getElem?_cons_zero, List.getElem?_cons_succ] at y2
        rw [hp17] at y2
        have BW3 := Lib.hid (BV.out.trans (r3.mono BV.out.size))
        clear r3
        go_wp2_with fail
        go_ret
        exact ⟨rfl, B0.out.trans (BW3.out.mono B0.out.size)⟩
  · have hce : clE rs = 4 := by unfold clE; rw [if_neg hm]
    rw [hce]
    clear hm hce HRM
    go_wp2_with fail
    have BK := BB
    refine (HOS.out _).mono ?_
    rintro e s1 ⟨rfl, o1⟩
    obtain ⟨p15, hp15⟩ : ∃ p, p = s1.heap.size := ⟨_, rfl⟩
    obtain ⟨U1, hU1⟩ : ∃ U1, U1 = s1.alloc (.cells #[.int .u64 (x1 : Int), .int .u32 (x2 : Int), .int .u8 (x3 : Int)] 25) := ⟨_, rfl⟩
    have X1 : Hid (Blk U1 p15 25 [.int .u64 (x1 : Int), .int .u32 (x2 : Int), .int .u8 (x3 : Int)]) := Lib.hid (by rw [hU1, hp15]; exact heap_alloc_new s1 _)
    have BU : Hid (Below W0.heap.size W0 U1) := Lib.hid (by rw [hU1]; exact (BK.out.trans (o1.mono BK.out.size)).alloc (Nat.le_trans BK.out.size o1.size) _)
    clear o1
    by_cases hcs : cs = 0
    · have HKS : Hid (∀ W, Calls Try.prog 9 #[.agg #[.int .u64 (x1 : Int), .int .u32 (x2 : Int), .int .u8 (x3 : Int)]] W fun e w' => e = .returned (.string (bs s)) ∧ Below W.heap.size W w') := Lib.hid (fun W => by
        obtain ⟨h1, h2, h3, h4⟩ := HSB.out hcs
        have h := news_CloseRound x1 x2 x3 W h2 h3 h4
        rw [h1] at h
        exact h)
      subst hcs
      obtain ⟨y0, y1, y2⟩ := X1.out.three
      rw [hU1, hp15] at y0 y1 y2
      go_wp2_with fail
      rw [← hU1]
      clear y0 y1 y2 hU1 hp15
      refine (HKS.out _).mono ?_
      rintro e s2 ⟨rfl, o2⟩
      have BL := Lib.hid (BU.out.trans (o2.mono BU.out.size))
      clear o2 HKS
      go_wp2_with fail
      refine (HOT.out _).mono ?_
      rintro e t1 ⟨⟨A8, n8, rfl, hr8, hn8⟩, r1⟩
      have HL8 : Hid (rows8.length = n8) := Lib.hid hr8.1
      dsimp only at hr8
      obtain ⟨p17, hp17⟩ : ∃ p, p = t1.heap.size := ⟨_, rfl⟩
      obtain ⟨V1, hV1⟩ : ∃ V1, V1 = t1.alloc (.cells #[.int .u32 (ep8 : Int), .slice A8 n8 n8] 38) := ⟨_, rfl⟩
      have Y8 : Hid (Blk V1 p17 38 [.int .u32 (ep8 : Int), .slice A8 n8 n8]) := Lib.hid (by rw [hV1, hp17]; exact heap_alloc_new t1 _)
      have BV : Hid (Below W0.heap.size W0 V1) := Lib.hid (by rw [hV1]; exact (BL.out.trans (r1.mono BL.out.size)).alloc (Nat.le_trans BL.out.size r1.size) _)
      have R8 : Hid (Rws V1 A8 n8 rows8) := Lib.hid (by rw [hV1]; exact hr8.keep ((Below.refl _ _).alloc (Nat.le_refl _) _))
      clear r1 hr8
      by_cases hc8 : cd8 = 0
      · have H8 : Hid (Calls Try.prog 11 #[.agg #[.int .u32 (ep8 : Int), .slice A8 n8 n8]] V1 fun e w' => e = .returned (.tuple #[.string (bs t), .int .i64 0]) ∧ Below V1.heap.size V1 w') := Lib.hid (by
          obtain ⟨h1, h2, h3⟩ := HTB.out hc8
          have h := news_CloseReport ep8 A8 n8 n8 rows8 V1 h3 R8.out (Nat.le_refl _) hn8
          unfold clB clE at h
          rw [if_pos h1, if_pos h1, h2] at h
          exact h)
        subst hc8
        have y0 := Y8.out.cell 0
        have y1 := Y8.out.cell 1
        dsimp only [List.getElem?_cons_zero, List.getElem?_cons_succ] at y0 y1
        rw [hV1, hp17] at y0 y1
        go_wp2_with fail
        rw [← hV1]
        clear y0 y1 hV1 hp17
        refine H8.out.mono ?_
        rintro e t2 ⟨rfl, r2⟩
        have BW2 := Lib.hid (BV.out.trans (r2.mono BV.out.size))
        clear r2
        go_wp2_with fail
        refine (HA.out _).mono ?_
        rintro e t3 ⟨rfl, r3⟩
        have BW3 := Lib.hid (BW2.out.trans (r3.mono BW2.out.size))
        clear r3
        go_wp2_with fail
        go_ret
        exact ⟨rfl, B0.out.trans (BW3.out.mono B0.out.size)⟩
      · have hz : n8 = 0 := by rw [← HL8.out, HTE.out hc8]; rfl
        have hcn : ((cd8 : Int) != 0) = true := by rw [bne_iff_ne]; omega
        subst hz
        clear hc8
        have y0 := Y8.out.cell 0
        have y1 := Y8.out.cell 1
        dsimp only [List.getElem?_cons_zero, List.getElem?_cons_succ] at y0 y1
        rw [hp17] at y1
        go_wp2_with fail
        rw [← hV1]
        refine (HA.out _).mono ?_
        rintro e t3 ⟨rfl, r3⟩
        have y2 := (Y8.out.keep r3).cell 1
        dsimp only [List.getElem?_cons_zero, List.getElem?_cons_succ] at y2
        rw [hp17] at y2
        have BW3 := Lib.hid (BV.out.trans (r3.mono BV.out.size))
        clear r3
        go_wp2_with fail
        go_ret
        exact ⟨rfl, B0.out.trans (BW3.out.mono B0.out.size)⟩
    · have hcz : ((cs : Int) == 0) = false := by rw [beq_eq_false_iff_ne]; omega
      clear hcs
      go_wp2_with fail
      rw [← hU1]
      clear hU1 hp15
      have BL := BU
      refine (HOT.out _).mono ?_
      rintro e t1 ⟨⟨A8, n8, rfl, hr8, hn8⟩, r1⟩
      have HL8 : Hid (rows8.length = n8) := Lib.hid hr8.1
      dsimp only at hr8
      obtain ⟨p17, hp17⟩ : ∃ p, p = t1.heap.size := ⟨_, rfl⟩
      obtain ⟨V1, hV1⟩ : ∃ V1, V1 = t1.alloc (.cells #[.int .u32 (ep8 : Int), .slice A8 n8 n8] 38) := ⟨_, rfl⟩
      have Y8 : Hid (Blk V1 p17 38 [.int .u32 (ep8 : Int), .slice A8 n8 n8]) := Lib.hid (by rw [hV1, hp17]; exact heap_alloc_new t1 _)
      have BV : Hid (Below W0.heap.size W0 V1) := Lib.hid (by rw [hV1]; exact (BL.out.trans (r1.mono BL.out.size)).alloc (Nat.le_trans BL.out.size r1.size) _)
      have R8 : Hid (Rws V1 A8 n8 rows8) := Lib.hid (by rw [hV1]; exact hr8.keep ((Below.refl _ _).alloc (Nat.le_refl _) _))
      clear r1 hr8
      by_cases hc8 : cd8 = 0
      · have H8 : Hid (Calls Try.prog 11 #[.agg #[.int .u32 (ep8 : Int), .slice A8 n8 n8]] V1 fun e w' => e = .returned (.tuple #[.string (bs t), .int .i64 0]) ∧ Below V1.heap.size V1 w') := Lib.hid (by
          obtain ⟨h1, h2, h3⟩ := HTB.out hc8
          have h := news_CloseReport ep8 A8 n8 n8 rows8 V1 h3 R8.out (Nat.le_refl _) hn8
          unfold clB clE at h
          rw [if_pos h1, if_pos h1, h2] at h
          exact h)
        subst hc8
        have y0 := Y8.out.cell 0
        have y1 := Y8.out.cell 1
        dsimp only [List.getElem?_cons_zero, List.getElem?_cons_succ] at y0 y1
        rw [hV1, hp17] at y0 y1
        go_wp2_with fail
        rw [← hV1]
        clear y0 y1 hV1 hp17
        refine H8.out.mono ?_
        rintro e t2 ⟨rfl, r2⟩
        have BW2 := Lib.hid (BV.out.trans (r2.mono BV.out.size))
        clear r2
        go_wp2_with fail
        refine (HA.out _).mono ?_
        rintro e t3 ⟨rfl, r3⟩
        have BW3 := Lib.hid (BW2.out.trans (r3.mono BW2.out.size))
        clear r3
        go_wp2_with fail
        go_ret
        exact ⟨rfl, B0.out.trans (BW3.out.mono B0.out.size)⟩
      · have hz : n8 = 0 := by rw [← HL8.out, HTE.out hc8]; rfl
        have hcn : ((cd8 : Int) != 0) = true := by rw [bne_iff_ne]; omega
        subst hz
        clear hc8
        have y0 := Y8.out.cell 0
        have y1 := Y8.out.cell 1
        dsimp only [List.getElem?_cons_zero, List.getElem?_cons_succ] at y0 y1
        rw [hp17] at y1
        go_wp2_with fail
        rw [← hV1]
        refine (HA.out _).mono ?_
        rintro e t3 ⟨rfl, r3⟩
        have y2 := (Y8.out.keep r3).cell 1
        dsimp only [List.getElem?_cons_zero, List.getElem?_cons_succ] at y2
        rw [hp17] at y2
        have BW3 := Lib.hid (BV.out.trans (r3.mono BV.out.size))
        clear r3
        go_wp2_with fail
        go_ret
        exact ⟨rfl, B0.out.trans (BW3.out.mono B0.out.size)⟩

set_option maxHeartbeats 2000000 in
theorem newsBack_idle1 (a b c ep : Nat) (A : Option Addr) (n cp : Nat) (s t : List UInt8) (w : World) (h : 400 < n) :
    Calls Try.prog 5 #[.agg #[.int .u64 (a : Int), .int .u32 (b : Int), .int .u8 (c : Int)], .agg #[.int .u32 (ep : Int), .slice A n cp], .string (bs s), .string (bs t)] w fun e w' => e = .returned (.bool true) ∧ Below w.heap.size w w' := by
  have hss := bs_size s
  have hst := bs_size t
  have hd1 : decide ((400 : Int) < (n : Int)) = true := decide_eq_true (by omega)
  have HA := Lib.hid (fun W => news_Awake W)
  have B0 : Hid (Below w.heap.size w ((w.alloc (.cells #[.int .u64 (a : Int), .int .u32 (b : Int), .int .u8 (c : Int)] 25)).alloc (.cells #[.int .u32 (ep : Int), .slice A n cp] 38))) := Lib.hid (((Below.refl _ _).alloc (Nat.le_refl _) _).alloc (by simp) _)
  go_enter Try.func5, Try.ntmps5
  go_wp2_with fail
  refine (HA.out _).mono ?_
  rintro e w1 ⟨rfl, hb1⟩
  have B1 := Lib.hid (B0.out.trans (hb1.mono B0.out.size))
  clear hb1
  go_wp2_with fail
  go_ret
  exact ⟨rfl, B1.out⟩

set_option maxHeartbeats 2000000 in
theorem newsBack_idle2 (a b c ep : Nat) (A : Option Addr) (n cp : Nat) (s t : List UInt8) (w : World) (h1 : n ≤ 400) (h : 200 < s.length) :
    Calls Try.prog 5 #[.agg #[.int .u64 (a : Int), .int .u32 (b : Int), .int .u8 (c : Int)], .agg #[.int .u32 (ep : Int), .slice A n cp], .string (bs s), .string (bs t)] w fun e w' => e = .returned (.bool true) ∧ Below w.heap.size w w' := by
  have hss := bs_size s
  have hst := bs_size t
  have hd1 : decide ((400 : Int) < (n : Int)) = false := decide_eq_false (by omega)
  have hd2 : decide ((200 : Int) < (s.length : Int)) = true := decide_eq_true (by omega)
  have HA := Lib.hid (fun W => news_Awake W)
  have B0 : Hid (Below w.heap.size w ((w.alloc (.cells #[.int .u64 (a : Int), .int .u32 (b : Int), .int .u8 (c : Int)] 25)).alloc (.cells #[.int .u32 (ep : Int), .slice A n cp] 38))) := Lib.hid (((Below.refl _ _).alloc (Nat.le_refl _) _).alloc (by simp) _)
  go_enter Try.func5, Try.ntmps5
  go_wp2_with fail
  refine (HA.out _).mono ?_
  rintro e w1 ⟨rfl, hb1⟩
  have B1 := Lib.hid (B0.out.trans (hb1.mono B0.out.size))
  clear hb1
  go_wp2_with fail
  go_ret
  exact ⟨rfl, B1.out⟩

set_option maxHeartbeats 2000000 in
theorem newsBack_idle3 (a b c ep : Nat) (A : Option Addr) (n cp : Nat) (s t : List UInt8) (w : World) (h1 : n ≤ 400) (h2 : s.length ≤ 200) (h : 3000 < t.length) :
    Calls Try.prog 5 #[.agg #[.int .u64 (a : Int), .int .u32 (b : Int), .int .u8 (c : Int)], .agg #[.int .u32 (ep : Int), .slice A n cp], .string (bs s), .string (bs t)] w fun e w' => e = .returned (.bool true) ∧ Below w.heap.size w w' := by
  have hss := bs_size s
  have hst := bs_size t
  have hd1 : decide ((400 : Int) < (n : Int)) = false := decide_eq_false (by omega)
  have hd2 : decide ((200 : Int) < (s.length : Int)) = false := decide_eq_false (by omega)
  have hd3 : decide ((3000 : Int) < (t.length : Int)) = true := decide_eq_true (by omega)
  have HA := Lib.hid (fun W => news_Awake W)
  have B0 : Hid (Below w.heap.size w ((w.alloc (.cells #[.int .u64 (a : Int), .int .u32 (b : Int), .int .u8 (c : Int)] 25)).alloc (.cells #[.int .u32 (ep : Int), .slice A n cp] 38))) := Lib.hid (((Below.refl _ _).alloc (Nat.le_refl _) _).alloc (by simp) _)
  go_enter Try.func5, Try.ntmps5
  go_wp2_with fail
  refine (HA.out _).mono ?_
  rintro e w1 ⟨rfl, hb1⟩
  have B1 := Lib.hid (B0.out.trans (hb1.mono B0.out.size))
  clear hb1
  go_wp2_with fail
  go_ret
  exact ⟨rfl, B1.out⟩

theorem newsBack_walk (a : Nat) (ha : a < 18446744073709551616) (b : Nat) (hb : b < 4294967296) (c : Nat) (hc : c < 256) (ep : Nat) (hep : ep < 4294967296) (A : Option Addr) (n cp : Nat) (rs : List RowT) {W : World} (hR : Rws W A n rs) (hnc : n ≤ cp) (hcm : cp ≤ maxLen) (s : ByteArray) (_hs : s.size ≤ maxLen) (t : ByteArray) (_ht : t.size ≤ maxLen) :
    Calls Try.prog 5 #[.agg #[.int .u64 (a : Int), .int .u32 (b : Int), .int .u8 (c : Int)], .agg #[.int .u32 (ep : Int), .slice A n cp], .string s, .string t] W fun e w' => e = .returned (.bool true) ∧ Below W.heap.size W w' := by
  obtain ⟨l, hl⟩ : ∃ l, l = s.data.toList := ⟨_, rfl⟩
  have hs2 : s = bs l := by rw [hl, bs_of]
  obtain ⟨k, hk⟩ : ∃ k, k = t.data.toList := ⟨_, rfl⟩
  have ht2 : t = bs k := by rw [hk, bs_of]
  rw [hs2, ht2]
  by_cases h1 : 400 < n
  · exact newsBack_idle1 a b c ep A n cp l k W h1
  · by_cases h2 : 200 < l.length
    · exact newsBack_idle2 a b c ep A n cp l k W (by omega) h2
    · by_cases h3 : 3000 < k.length
      · exact newsBack_idle3 a b c ep A n cp l k W (by omega) (by omega) h3
      · exact newsBack_core a b c ep A n cp rs l k W ha hb hc hep hR hnc (by simp only [maxLen] at hcm; omega) (by omega) (by omega) (by omega)

end Go.Proofs.Ytackddgihdnmgaa
