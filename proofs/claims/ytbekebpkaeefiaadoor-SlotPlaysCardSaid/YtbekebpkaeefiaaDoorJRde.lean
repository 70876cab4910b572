/- The document's disk: contracts of New and Rot. The document's disk: contract of New. Written by wip/tools/gen_rdnew.py. Do a disk and the document's read the same? The document's disk: its contracts, as one step each. A disk, and the document's, behind a store of a whole disk's value elsewhere. -/
import Derived.Test.YtbekebpkaeefiaaDoorRdD
import Derived.Lib.ConvBytes
import Derived.Test.YtbekebpkaeefiaaDoorJOpd
import Derived.Test.YtbekebpkaeefiaaDoorJDsi
namespace Go.Proofs.YtbekebpkaeefiaaDoor
set_option maxRecDepth 100000
open Go.RowKit

theorem wpList_conv_to {P : Program} {ops : Array Oper} {rest : List Oper} {o : Oper} {a : Act} {w : World} {Q : Exit → Act → World → Prop} (hg : o.guard = none) (t u : TypeId) (x : Operand) (ho : o.op = .convert t u x)
    (v : Value) (hx : a.eval x = v) (r : Value) (w' : World) (hrun : (convert t u v).run P w = .ok r w') (h : wpList P ops Q rest (a.put o.dst r) w') : wpList P ops Q (o :: rest) a w :=
  wpList_plain hg fun _ hK => by
    unfold Oper.wp execOp
    simp only [ho, hx, hrun, Sem.run_bind, Sem.run_pure, Result.andThen_ok]
    exact hK _ _ h
set_option maxHeartbeats 4000000 in
set_option maxRecDepth 100000 in
theorem ref_Rot12_no (w : World) (A : Option Addr) (n c : Nat) (A' : Option Addr) (n' c' : Nat) (D : DSt) (i at_ : Int) (y : Nat) (hn : n ≤ 4096) (h : i < 0 ∨ (n : Int) ≤ i ∨ at_ < 0 ∨ 128 ≤ at_) :
    Calls Tryd.prog 17 #[rdV A n c A' n' c' D, .int .i64 i, .int .i64 at_, .int .u8 (y : Int)] w fun e w' => e = .returned (rdV A n c A' n' c' D) ∧ Below w.heap.size w w' := by
  unfold rdV
  have B0 := Lib.hid (((Below.refl w.heap.size w).alloc (Nat.le_refl _) (.cells #[.slice A n c, .slice A' n' c', .int .i64 D.armed, .int .i64 (D.ops : Int)] 31)).alloc (grow1 _ _) (.cells #[.slice A n c, .slice A' n' c', .int .i64 D.armed, .int .i64 (D.ops : Int)] 31))
  by_cases h0 : i < 0
  · have d1 : decide (i < 0) = true := decide_eq_true h0
    go_enter Tryd.func17, Tryd.ntmps17
    go_wp2
    refine bodyPost_ret (v := .agg #[.slice A n c, .slice A' n' c', .int .i64 D.armed, .int .i64 (D.ops : Int)]) (by simp [results, Tryd.results17, go_sem]) rfl ⟨rfl, B0.out⟩
  · have d1 : decide (i < 0) = false := decide_eq_false h0
    by_cases h1 : (n : Int) ≤ i
    · have d2 : decide ((n : Int) ≤ i) = true := decide_eq_true h1
      go_enter Tryd.func17, Tryd.ntmps17
      go_wp2
      refine bodyPost_ret (v := .agg #[.slice A n c, .slice A' n' c', .int .i64 D.armed, .int .i64 (D.ops : Int)]) (by simp [results, Tryd.results17, go_sem]) rfl ⟨rfl, B0.out⟩
    · have d2 : decide ((n : Int) ≤ i) = false := decide_eq_false h1
      by_cases h2 : at_ < 0
      · have d3 : decide (at_ < 0) = true := decide_eq_true h2
        go_enter Tryd.func17, Tryd.ntmps17
        go_wp2
        refine bodyPost_ret (v := .agg #[.slice A n c, .slice A' n' c', .int .i64 D.armed, .int .i64 (D.ops : Int)]) (by simp [results, Tryd.results17, go_sem]) rfl ⟨rfl, B0.out⟩
      · have d3 : decide (at_ < 0) = false := decide_eq_false h2
        have d4 : decide (128 ≤ at_) = true := decide_eq_true (by omega)
        go_enter Tryd.func17, Tryd.ntmps17
        go_wp2
        refine bodyPost_ret (v := .agg #[.slice A n c, .slice A' n' c', .int .i64 D.armed, .int .i64 (D.ops : Int)]) (by simp [results, Tryd.results17, go_sem]) rfl ⟨rfl, B0.out⟩

theorem Bts.blk {w w' : World} {g : Nat} {l : List UInt8} (h : Bts w g l) (e : w'.heap[g]? = w.heap[g]?) : Bts w' g l := fun j hj => by
  obtain ⟨h1, h2⟩ := h j hj
  exact ⟨(World.cell?_of_block (w := w) (w' := w') (a := ⟨g, j, none⟩) e).trans h1, (World.frozen?_of_block (w := w) (w' := w') (a := ⟨g, j, none⟩) e).trans h2⟩

set_option maxHeartbeats 4000000 in
set_option maxRecDepth 100000 in
theorem ref_Rot12_ok (w : World) (A : Option Addr) (n c : Nat) (A' : Option Addr) (n' c' : Nat) (D : DSt) (i j y : Nat) (hS : StrS w (.slice A n c) D.lasts) (hW : WriS w (.slice A' n' c') D.waits)
    (hin : i < n) (hn : n ≤ 4096) (hj : j < 128) (hy : y < 256) (hl : ∀ t ∈ D.lasts, t.length = 128) :
    Calls Tryd.prog 17 #[rdV A n c A' n' c' D, .int .i64 (i : Int), .int .i64 (j : Int), .int .u8 (y : Int)] w fun e w' => ∃ B m d, e = .returned (rdV B m d A' n' c' { D with lasts := D.lasts.set i (rotT (D.lasts.getD i []) j y) }) ∧ StrS w' (.slice B m d) (D.lasts.set i (rotT (D.lasts.getD i []) j y)) ∧ WriS w' (.slice A' n' c') D.waits ∧ Below w.heap.size w w' := by
  unfold rdV
  obtain ⟨i0, hi, hz0, hz1, hz2⟩ := info_parts infoString
  have HNL : Hid (n = D.lasts.length) := Lib.hid hS.cellAt.1
  obtain ⟨t, ht⟩ : ∃ t, t = D.lasts.getD i [] := ⟨_, rfl⟩
  have htl : t.length = 128 := by
    have hil : i < D.lasts.length := by rw [← HNL.out]; exact hin
    rw [ht, List.getD_eq_getElem?_getD, List.getElem?_eq_getElem hil]
    exact hl _ (List.getElem_mem hil)
  obtain ⟨x, hx⟩ : ∃ x, x = (t[j]'(by rw [htl]; exact hj)).toNat := ⟨_, rfl⟩
  have hx8 : x < 256 := by rw [hx]; exact (t[j]'(by rw [htl]; exact hj)).toNat_lt
  obtain ⟨z, hz⟩ : ∃ z, z = x ^^^ y := ⟨_, rfl⟩
  have hzi : bits .xor .u8 (x : Int) (y : Int) = (z : Int) := by rw [hz]; exact bits_xor_u8n x y hx8 hy
  have hz8 : z < 256 := by
    have : x ^^^ y < 2 ^ 8 := Nat.xor_lt_two_pow (by omega) (by omega)
    omega
  obtain ⟨T, hT⟩ : ∃ T, T = rotT t j y := ⟨_, rfl⟩
  have HTZ : Hid (T = t.set j (UInt8.ofNat z)) := Lib.hid (by
    rw [hT, rotT, hz, hx, List.getD_eq_getElem?_getD, List.getElem?_eq_getElem (by rw [htl]; exact hj)]
    rfl)
  have HTL : Hid (T.length = 128) := Lib.hid (by rw [hT, rotT_len]; exact htl)
  have hzt : (UInt8.ofNat z).toNat = z := by rw [UInt8.toNat_ofNat', Nat.mod_eq_of_lt (by omega)]
  have d1 : decide ((i : Int) < 0) = false := decide_eq_false (by omega)
  have d2 : decide ((n : Int) ≤ (i : Int)) = false := decide_eq_false (by omega)
  have d2' : decide (n ≤ i) = false := decide_eq_false (by omega)
  have d3 : decide ((j : Int) < 0) = false := decide_eq_false (by omega)
  have d4 : decide ((128 : Int) ≤ (j : Int)) = false := decide_eq_false (by omega)
  obtain ⟨W0, hW0⟩ : ∃ W0, W0 = ((w.alloc (.cells #[.slice A n c, .slice A' n' c', .int .i64 D.armed, .int .i64 (D.ops : Int)] 31)).alloc (.cells #[.slice none 0 0, .slice none 0 0, .int .i64 0, .int .i64 0] 31)) := ⟨_, rfl⟩
  have B0 : Hid (Below w.heap.size w W0) := Lib.hid (by rw [hW0]; exact ((Below.refl w.heap.size w).alloc (Nat.le_refl _) _).alloc (grow1 _ _) _)
  have R0 : Hid (Blk W0 w.heap.size 31 [.slice A n c, .slice A' n' c', .int .i64 D.armed, .int .i64 (D.ops : Int)]) := Lib.hid (by rw [hW0]; exact (Blk.alloc (w := w.alloc _) (heap_alloc_new w _) _))
  have Z0 : Hid (Blk W0 (w.heap.size + 1) 31 [.slice none 0 0, .slice none 0 0, .int .i64 0, .int .i64 0]) := Lib.hid (by
    rw [hW0]
    have h := heap_alloc_new (w.alloc (.cells #[.slice A n c, .slice A' n' c', .int .i64 D.armed, .int .i64 (D.ops : Int)] 31)) (.cells #[.slice none 0 0, .slice none 0 0, .int .i64 0, .int .i64 0] 31)
    rw [show (w.alloc (.cells #[.slice A n c, .slice A' n' c', .int .i64 D.armed, .int .i64 (D.ops : Int)] 31)).heap.size = w.heap.size + 1 from by simp] at h
    exact h)
  obtain ⟨cap1, W1, hcv, hbts, bl1, hlt1, hcap1⟩ := conv_bytes t W0 (by omega)
  rw [htl] at hcv hcap1
  have HCV := Lib.hid hcv
  have R1 := Lib.hid (R0.out.keep bl1)
  have Z1 := Lib.hid (Z0.out.keep bl1)
  have B1 := Lib.hid (B0.out.trans (bl1.mono B0.out.size))
  obtain ⟨x1, f1⟩ := hbts j (by rw [htl]; exact hj)
  rw [← hx] at x1
  have hset := hbts.set_ j (UInt8.ofNat z) (by rw [htl]; exact hj)
  rw [hzt, ← HTZ.out] at hset
  obtain ⟨W2, hW2⟩ : ∃ W2, W2 = W1.setCell ⟨W0.heap.size, j, none⟩ (.int .u8 (z : Int)) := ⟨_, rfl⟩
  rw [← hW2] at hset
  have T2 := Lib.hid hset
  have lr0 := R0.out.lt
  have lz0 := Z0.out.lt
  have R2 : Hid (Blk W2 w.heap.size 31 [.slice A n c, .slice A' n' c', .int .i64 D.armed, .int .i64 (D.ops : Int)]) := Lib.hid (by rw [hW2]; exact R1.out.far (by show w.heap.size ≠ W0.heap.size; omega) _)
  have Z2 : Hid (Blk W2 (w.heap.size + 1) 31 [.slice none 0 0, .slice none 0 0, .int .i64 0, .int .i64 0]) := Lib.hid (by rw [hW2]; exact Z1.out.far (by show w.heap.size + 1 ≠ W0.heap.size; omega) _)
  have B2 : Hid (Below w.heap.size w W2) := Lib.hid (by rw [hW2]; exact B1.out.setCell (p := ⟨W0.heap.size, j, none⟩) B0.out.size _)
  have L2 : Hid (W0.heap.size < W2.heap.size) := Lib.hid (by rw [hW2]; simp [World.setCell]; exact hlt1)
  have L2E : Hid (W2.heap.size = W1.heap.size) := Lib.hid (by rw [hW2]; simp [World.setCell])
  have L0 := Lib.hid hlt1
  have l1 := Lib.hid R1.out.lt
  have l2 := Lib.hid Z1.out.lt
  obtain ⟨W3, hW3⟩ : ∃ W3, W3 = W2.alloc (.cells #[] 9) := ⟨_, rfl⟩
  have bl3 : Below W2.heap.size W2 W3 := by rw [hW3]; exact (Below.refl _ _).alloc (Nat.le_refl _) _
  have OW3 : Hid (W3.ownsRow W2.heap.size 9 1 (.slice (some ⟨W2.heap.size, 0, none⟩) 0 0) 0 []) := Lib.hid (by
    refine ⟨rfl, .inr ⟨W2.heap.size, 0, #[], rfl, Nat.le_refl _, ?_, Nat.le_refl _, by simp [maxLen], rfl, rfl⟩⟩
    rw [hW3]; exact heap_alloc_new W2 _)
  have S3 : Hid (W2.heap.size ≤ W3.heap.size) := Lib.hid bl3.size
  rw [L2E.out] at OW3 S3
  have R3 := Lib.hid (R2.out.keep bl3)
  have Z3 := Lib.hid (Z2.out.keep bl3)
  have B3 := Lib.hid (B2.out.trans (bl3.mono B2.out.size))
  have T3 := Lib.hid (T2.out.blk (bl3.block _ L2.out))
  have HSS := Lib.hid hS
  have HWW := Lib.hid hW
  have hp : 0 < n := by omega
  obtain ⟨b, rfl, hnews⟩ := (hS.keep B3.out).news hp
  have hcS : w.cell? ⟨b, i, none⟩ = some (.string (bs t)) := by
    obtain ⟨b', e, hc⟩ := hS.cellAt.2.2.2 i hin
    injection e with e
    injection e with e
    subst e
    rw [hc, ht]
  have hcS0 : W0.cell? ⟨b, i, none⟩ = some (.string (bs t)) := (B0.out.cell (p := ⟨b, i, none⟩) (block_lt_of_cell hcS)).trans hcS
  have HNEW := Lib.hid hnews
  have HSL : Hid ((strsV D.lasts).length = n) := Lib.hid (by rw [strsV_len]; exact HNL.out.symm)
  have HW0 := Lib.hid hW0
  have HW2 := Lib.hid hW2
  have HW3 := Lib.hid hW3
  have HT := Lib.hid hT
  have HTT := Lib.hid ht
  have hcnv : (convert 107 9 (.slice (some ⟨W0.heap.size, 0, none⟩) 128 cap1)).run Tryd.prog W3 = .ok (.string (bs T)) W3 := by
    have h := T3.out.conv cap1
    rwa [HTL.out] at h
  clear hS hW hnews hcS hT ht hx hz hW0 hW2 hW3 hset hbts bl1 bl3 hcv hzt hl hx8 lr0 lz0 hcnv
  go_enter Tryd.func17, Tryd.ntmps17
  rw [HW0.out] at hcS0
  obtain ⟨p0, p1, p2, p3⟩ := R3.out.fourR
  rw [HW3.out, HW2.out] at p0 p1 p2 p3
  go_wp2_with (first | (rw [← HW0.out]; refine wpList_conv_to rfl 9 107 _ rfl (.string (bs t)) rfl _ W1 HCV.out ?_) | (at_builtin; (try rw [← HW2.out, ← HW3.out]); refine wpList_append_own _ rfl _ _ 28 rfl W1.heap.size 9 i0 (.string ⟨#[]⟩) 1 16 Tryd.underlying28 hi hz0 hz1 hz2 rfl (by decide) _ _ _ rfl OW3.out ⟨b, 0, none⟩ n c (strsV D.lasts) rfl (by rw [HSL.out, Nat.mul_one]) HNEW.out (strsV_one _) (by simp only [maxLen]; omega) (by omega) S3.out ?_))
  intro v4 W4 hown hgr _
  clear p0 p1 p2 p3 hcS0 x1 f1
  have hown2 : W4.ownsRow W1.heap.size 9 1 v4 n (strsV D.lasts) := by simpa using hown
  obtain ⟨g, cap, junk, rfl, hg2, hnc, hcm, hblk⟩ := own_blk hown2 hp
  have bl : Below W1.heap.size W3 W4 := (Below.refl _ _).grown hgr S3.out (fun j hj => (OW3.out.lt j hj).1)
  have R4 := Lib.hid (R3.out.below bl l1.out)
  have Z4 := Lib.hid (Z3.out.below bl l2.out)
  have B4 := Lib.hid (B3.out.trans (bl.mono (Nat.le_of_lt l1.out)))
  have T4 := Lib.hid (T3.out.blk (bl.block _ L0.out))
  have gw : w.heap.size < g := by have := l1.out; omega
  have gw1 : w.heap.size + 1 < g := by have := l2.out; omega
  have gt : W0.heap.size < g := by have := L0.out; omega
  have w0 : w.heap.size < W0.heap.size := R0.out.lt
  have R5 := Lib.hid (R4.out.set_ 0 (.slice (some ⟨g, 0, none⟩) n cap))
  have Z5 := Lib.hid (Z4.out.far (p := ⟨w.heap.size, 0, none⟩) (by show w.heap.size + 1 ≠ w.heap.size; omega) (.slice (some ⟨g, 0, none⟩) n cap))
  have G5 := Lib.hid (hblk.far (p := ⟨w.heap.size, 0, none⟩) (by show g ≠ w.heap.size; omega) (.slice (some ⟨g, 0, none⟩) n cap))
  have B5 := Lib.hid (B4.out.setCell (p := ⟨w.heap.size, 0, none⟩) (Nat.le_refl _) (.slice (some ⟨g, 0, none⟩) n cap))
  have T5 := Lib.hid (T4.out.blk (Below.heap_setCell W4 ⟨w.heap.size, 0, none⟩ (.slice (some ⟨g, 0, none⟩) n cap) W0.heap.size (by show W0.heap.size ≠ w.heap.size; omega)))
  have HCO : Hid ((convert 107 9 (.slice (some ⟨W0.heap.size, 0, none⟩) 128 cap1)).run Tryd.prog (W4.setCell ⟨w.heap.size, 0, none⟩ (.slice (some ⟨g, 0, none⟩) n cap)) = .ok (.string (bs T)) (W4.setCell ⟨w.heap.size, 0, none⟩ (.slice (some ⟨g, 0, none⟩) n cap))) := Lib.hid (by
    have h := T5.out.conv cap1
    rwa [HTL.out] at h)
  have hil : i < D.lasts.length := by rw [← HNL.out]; exact hin
  have hgc : (W4.setCell ⟨w.heap.size, 0, none⟩ (.slice (some ⟨g, 0, none⟩) n cap)).cell? ⟨g, i, none⟩ = some (.string (bs (D.lasts[i]'hil))) := by
    rw [G5.out.cell]
    unfold strsV
    rw [List.getElem?_append_left (by rw [List.length_map]; exact hil), List.getElem?_map, List.getElem?_eq_getElem hil]
    rfl
  obtain ⟨u, hu⟩ : ∃ u, u = bs (D.lasts[i]'hil) := ⟨_, rfl⟩
  rw [← hu] at hgc
  have hgf := G5.out.frozen i
  have R6 := Lib.hid (R5.out.far (p := ⟨g, i, none⟩) (by show w.heap.size ≠ g; omega) (.string (bs T)))
  have Z6 := Lib.hid (Z5.out.far (p := ⟨g, i, none⟩) (by show w.heap.size + 1 ≠ g; omega) (.string (bs T)))
  have G6 : Hid (Blk ((W4.setCell ⟨w.heap.size, 0, none⟩ (.slice (some ⟨g, 0, none⟩) n cap)).setCell ⟨g, i, none⟩ (.string (bs T))) g 9 (strsV (D.lasts.set i T) ++ junk)) := Lib.hid (by
    have h := G5.out.set_ i (.string (bs T))
    rwa [strsV_set _ _ _ _ hil] at h)
  have B6 := Lib.hid (B5.out.setCell (p := ⟨g, i, none⟩) (Nat.le_of_lt gw) (.string (bs T)))
  obtain ⟨W7, run7, hR7, hB7, hK7⟩ := store_rd Z6.out (some ⟨g, 0, none⟩) n cap A' n' c' D.armed (D.ops : Int)
  have RUN7 := Lib.hid run7
  have R7 := Lib.hid hR7
  have B7 := Lib.hid (hB7 _ _ B6.out (Nat.le_succ _))
  have G7 := Lib.hid (hK7 _ _ _ G6.out (by omega))
  have HNC := Lib.hid hnc
  have HCM := Lib.hid hcm
  obtain ⟨r0, r1, r2, r3⟩ := R4.out.fourR
  have f0 := R4.out.frozen 0
  obtain ⟨s0, s1, s2, s3⟩ := R5.out.fourR
  obtain ⟨t0, t1, t2, t3⟩ := R6.out.fourR
  clear hown hown2 hgr bl hg2 hnc hcm hblk run7 hR7 hB7 hK7 gw gw1 gt w0 hu hil
  go_wp2_with (first | (refine wpList_conv_to rfl 107 9 _ rfl (.slice (some ⟨W0.heap.size, 0, none⟩) 128 cap1) rfl _ _ HCO.out ?_) | (refine wpList_store_to rfl 31 _ _ rfl ⟨w.heap.size + 1, 0, none⟩ rfl (.agg #[.slice (some ⟨g, 0, none⟩) n cap, .slice A' n' c', .int .i64 D.armed, .int .i64 (D.ops : Int)]) rfl W7 RUN7.out ?_))
  obtain ⟨e0, e1, e2, e3⟩ := R7.out.fourR
  refine bodyPost_ret (v := .agg #[.slice (some ⟨g, 0, none⟩) n cap, .slice A' n' c', .int .i64 D.armed, .int .i64 (D.ops : Int)]) (by simp [results, Tryd.results17, go_sem, e0, e1, e2, e3]) rfl ⟨_, _, _, rfl, ?_, HWW.out.keep B7.out, B7.out⟩
  rw [← HTT.out, ← HT.out]
  exact StrS.of_blk G7.out (by rw [List.length_set]; exact HNL.out) HNC.out HCM.out

end Go.Proofs.YtbekebpkaeefiaaDoor

namespace Go.Proofs.YtbekebpkaeefiaaDoor
set_option maxRecDepth 100000
open Go.RowKit

abbrev n5o0 : Oper := { dst := some 10, op := Op.fieldAddr 31 (Operand.tmp 3) 0, type := 0, pos := "ref.go:25", after := #[], guard := none }
abbrev n5o1 : Oper := { dst := some 11, op := Op.load 28 (Operand.tmp 10), type := 28, pos := "ref.go:25", after := #[{ on := 0, ground := Ground.data }], guard := none }
abbrev n5o2 : Oper := { dst := some 12, op := Op.call { callee := Callee.value (Operand.func 33), args := #[], argTypes := #[] }, type := 9, pos := "ref.go:25", after := #[], guard := none }
abbrev n5o3 : Oper := { dst := some 13, op := Op.buildSlice 28 1 #[(0, Operand.tmp 12)], type := 28, pos := "ref.go:25", after := #[{ on := 2, ground := Ground.data }], guard := none }
abbrev n5o4 : Oper := { dst := some 14, op := Op.call { callee := Callee.builtin Builtin.append, args := #[Operand.tmp 11, Operand.tmp 13], argTypes := #[28, 28] }, type := 28, pos := "ref.go:25", after := #[{ on := 1, ground := Ground.data }, { on := 3, ground := Ground.data }, { on := 2, ground := Ground.chain }], guard := none }
abbrev n5o5 : Oper := { dst := some 15, op := Op.fieldAddr 31 (Operand.tmp 3) 0, type := 0, pos := "ref.go:25", after := #[{ on := 0, ground := Ground.phase }, { on := 1, ground := Ground.phase }, { on := 2, ground := Ground.phase }, { on := 3, ground := Ground.phase }, { on := 4, ground := Ground.phase }], guard := none }
abbrev n5o6 : Oper := { dst := none, op := Op.store 28 (Operand.tmp 15) (Operand.tmp 14), type := 0, pos := "ref.go:25", after := #[{ on := 5, ground := Ground.data }, { on := 4, ground := Ground.data }, { on := 4, ground := Ground.chain }, { on := 0, ground := Ground.phase }, { on := 1, ground := Ground.phase }, { on := 2, ground := Ground.phase }, { on := 3, ground := Ground.phase }, { on := 4, ground := Ground.phase }], guard := none }

set_option maxHeartbeats 4000000 in
set_option maxRecDepth 100000 in
theorem ref_New12 (n : Nat) (w : World) (hn1 : 1 ≤ n) (hn : n ≤ 4096) :
    Calls Tryd.prog 8 #[.int .i64 (n : Int)] w fun e w' => ∃ B m d, e = .returned (rdV B m d none 0 0 (newD n)) ∧ StrS w' (.slice B m d) (newD n).lasts ∧ Below w.heap.size w w' := by
  unfold rdV
  obtain ⟨i0, hi, hz0, hz1, hz2⟩ := info_parts infoString
  have HBL := Lib.hid ref_Blank
  have HLD : Hid (∀ (X : World) (sv b c : Value) (d : Value), Blk X (w.heap.size + 1) 31 [sv, b, c, d] → (Instr.loadAt 28 (.pointer (some ⟨w.heap.size + 1, 0, none⟩))).run Tryd.prog X = .ok sv X) := Lib.hid (fun X sv b c d h => by
    have hc := h.fourR.1
    clear h
    go_simp)
  have HST : Hid (∀ (X : World) (g m cap : Nat) (a b c d : Value), Blk X (w.heap.size + 1) 31 [a, b, c, d] → (Instr.storeAt 28 (.pointer (some ⟨w.heap.size + 1, 0, none⟩)) (.slice (some ⟨g, 0, none⟩) m cap)).run Tryd.prog X = .ok () (X.setCell ⟨w.heap.size + 1, 0, none⟩ (.slice (some ⟨g, 0, none⟩) m cap))) := Lib.hid (fun X g m cap a b c d h => by
    have hc := h.fourR.1
    have hf := h.frozen 0
    clear h
    go_simp)
  have HOW : Hid (∀ (X : World) (k : Nat) {v : Value}, X.ownsRow (w.heap.size + 2) 9 1 v (k + 1) (strsV (List.replicate k (secOf 0)) ++ [.string (bs (secOf 0))]) → X.ownsRow (w.heap.size + 2) 9 1 v (k + 1) (strsV (List.replicate (k + 1) (secOf 0)))) := Lib.hid (fun X k v h => by
    rw [List.replicate_succ']
    unfold strsV at h ⊢
    rw [List.map_append]
    exact h)
  obtain ⟨W0, hW0⟩ : ∃ W0, W0 = ((w.alloc (.cells #[.slice none 0 0, .slice none 0 0, .int .i64 0, .int .i64 0] 31)).alloc (.cells #[.slice none 0 0, .slice none 0 0, .int .i64 0, .int .i64 0] 31)) := ⟨_, rfl⟩
  have B0 : Hid (Below w.heap.size w W0) := Lib.hid (by rw [hW0]; exact ((Below.refl w.heap.size w).alloc (Nat.le_refl _) _).alloc (grow1 _ _) _)
  have Z0 : Hid (Blk W0 w.heap.size 31 [.slice none 0 0, .slice none 0 0, .int .i64 0, .int .i64 0]) := Lib.hid (by rw [hW0]; exact (Blk.alloc (w := w.alloc _) (heap_alloc_new w _) _))
  have R0 : Hid (Blk W0 (w.heap.size + 1) 31 [.slice none 0 0, .slice none 0 0, .int .i64 0, .int .i64 0]) := Lib.hid (by
    rw [hW0]
    have h := heap_alloc_new (w.alloc (.cells #[.slice none 0 0, .slice none 0 0, .int .i64 0, .int .i64 0] 31)) (.cells #[.slice none 0 0, .slice none 0 0, .int .i64 0, .int .i64 0] 31)
    rw [show (w.alloc (.cells #[.slice none 0 0, .slice none 0 0, .int .i64 0, .int .i64 0] 31)).heap.size = w.heap.size + 1 from by simp] at h
    exact h)
  have S0 : Hid (w.heap.size + 2 ≤ W0.heap.size) := Lib.hid (by rw [hW0]; simp)
  have HW0 := Lib.hid hW0
  clear hW0
  go_enter Tryd.func8, Tryd.ntmps8
  go_wp2_with fail
  rw [← HW0.out]
  try simp only [Act.put, List.setIfInBounds_toArray, List.set_cons_succ, List.set_cons_zero]
  go_loopw [4] (fun iv wr => ∃ (k : Nat) (sv : Value), iv = .int .i64 k ∧ k ≤ n ∧ Hid (Blk wr (w.heap.size + 1) 31 [sv, .slice none 0 0, .int .i64 0, .int .i64 0]) ∧ Hid (Blk wr w.heap.size 31 [.slice none 0 0, .slice none 0 0, .int .i64 0, .int .i64 0]) ∧ Hid (wr.ownsRow (w.heap.size + 2) 9 1 sv k (strsV (List.replicate k (secOf 0)))) ∧ Hid (Below w.heap.size w wr) ∧ Hid (w.heap.size + 2 ≤ wr.heap.size)) (fun iv _ => n - (intOf iv).toNat)
  case atStart => exact ⟨0, _, rfl, Nat.zero_le _, R0, Z0, Lib.hid (World.ownsRow_nil _ _ _ _), B0, S0⟩
  case round =>
    obtain ⟨k, sv, rfl, hk, HR, HZ, HO, HB, HSZ⟩ := hrel
    by_cases hlt : k < n
    · have hd : decide ((k : Int) < (n : Int)) = true := decide_eq_true (by omega)
      have hd3 : decide (k < n) = true := decide_eq_true hlt
      have HLT := Lib.hid hlt
      have hkw : IntKind.i64.wrap ((k : Int) + 1) = (k : Int) + 1 := IntWalk.i64_in _ (by omega)
      have hk4 : k ≤ 4096 := by omega
      have L0 := Lib.hid (HLD.out wr.drew _ _ _ _ HR.out)
      clear hlt hk
      go_wp2_with fail
      refine wp_region_any (by kernel_rfl) ?_
      (try change wpAny _ _ _ _ _ _ _ (World.drew _))
      refine wpAny_take (i := 0) (oi := n5o0) (v := ?_) rfl (by kernel_rfl) (by kernel_rfl) (by kernel_rfl) (fun _ _ _ h => h) (Or.inl ⟨by rfl, ?_⟩) ?_
      rotate_left
      · (intro w; dsimp only [n5o0]; go_simp; try (with_reducible rfl))
      (try simp only [Act.put, List.setIfInBounds_toArray, List.set_cons_zero, List.set_cons_succ])
      refine wpAny_ready (rs := [1, 2]) (by kernel_rfl) (by simp) ?_
      refine AllReady.cons (o := n5o1) rfl (fun K hK => ?_) (AllReady.cons (o := n5o2) rfl (fun K hK => ?_) AllReady.nil)
      · rw [if_pos (by rfl)]
        refine wp_load_is _ _ rfl ⟨w.heap.size + 1, 0, none⟩ rfl sv L0.out ?_
        refine hK _ _ ?_
        clear hK K
        (try simp only [Act.put, List.setIfInBounds_toArray, List.set_cons_zero, List.set_cons_succ])
        refine wpAny_ready (rs := [2]) (by kernel_rfl) (by simp) ?_
        refine AllReady.cons (o := n5o2) rfl (fun K hK => ?_) AllReady.nil
        have HK := Lib.hid hK
        clear hK
        dsimp only [n5o2]
        go_simp
        refine (HBL.out _).mono ?_
        rintro e W1 ⟨rfl, bl1⟩
        have bl := (Below.refl wr.heap.size wr).drew.trans bl1
        have R1 := Lib.hid (HR.out.keep bl)
        have Z1 := Lib.hid (HZ.out.keep bl)
        have O1 := Lib.hid (ownW_keep HO.out bl)
        have B1 := Lib.hid (HB.out.trans (bl.mono HB.out.size))
        have S1 := Lib.hid (Nat.le_trans HSZ.out bl.size)
        have L1 := Lib.hid (HLD.out W1 _ _ _ _ R1.out)
        have L2 := Lib.hid (HLD.out (W1.alloc (.cells #[.string (bs (secOf 0))] 9)) _ _ _ _ (R1.out.alloc _))
        clear bl bl1
        (try go_wp2_with fail)
        refine HK.out _ _ ?_
        clear HK K
        (try simp only [Act.put, List.setIfInBounds_toArray, List.set_cons_zero, List.set_cons_succ])
        refine wpAny_ready (rs := [3]) (by kernel_rfl) (by simp) ?_
        refine AllReady.cons (o := n5o3) rfl (fun K hK => ?_) AllReady.nil
        rw [if_pos (by rfl)]
        refine wp_build_is _ _ _ rfl #[(0, .string (bs (secOf 0)))] (by simp [Act.eval]) (.slice (some ⟨W1.heap.size, 0, none⟩) 1 1) (W1.alloc (.cells #[.string (bs (secOf 0))] 9)) (by go_simp; try rfl) ?_
        refine hK _ _ ?_
        clear hK K
        (try simp only [Act.put, List.setIfInBounds_toArray, List.set_cons_zero, List.set_cons_succ])
        refine wpAny_ready (rs := [4]) (by kernel_rfl) (by simp) ?_
        refine AllReady.cons (o := n5o4) rfl (fun K hK => ?_) AllReady.nil
        rw [if_pos (by rfl)]
        refine wp_append_own _ _ _ 28 rfl (w.heap.size + 2) 9 i0 (.string ⟨#[]⟩) 1 16 Tryd.underlying28 hi hz0 hz1 hz2 rfl (by decide) _ _ _ rfl (O1.out.alloc _) ⟨W1.heap.size, 0, none⟩ 1 1 [.string (bs (secOf 0))] rfl rfl (World.news_of_block (cs := #[.string (bs (secOf 0))]) (heap_alloc_new W1 _)) (by intro u hu; simp at hu; subst hu; rfl) (by simp only [maxLen]; omega) (by omega) (Nat.le_trans S1.out (grow1 _ _)) ?_
        intro v2 W2 hown hgr _
        have bl : Below (w.heap.size + 2) W1 W2 := ((Below.refl _ _).alloc S1.out _).grown hgr (Nat.le_trans S1.out (grow1 _ _)) (fun j hj => (O1.out.lt j hj).1)
        have R2 := Lib.hid (R1.out.below bl (by omega))
        have Z2 := Lib.hid (Z1.out.below bl (by omega))
        have B2 := Lib.hid (B1.out.trans (bl.mono (by omega)))
        have S2 := Lib.hid (Nat.le_trans S1.out bl.size)
        have O2 := Lib.hid (HOW.out _ _ hown)
        clear hown hgr bl
        obtain ⟨g, cap, junk, rfl, hgb, _, _, hbk⟩ := own_blk O2.out (Nat.succ_pos _)
        have R3 := Lib.hid (R2.out.set_ 0 (.slice (some ⟨g, 0, none⟩) (k + 1) cap))
        have Z3 := Lib.hid (Z2.out.far (p := ⟨w.heap.size + 1, 0, none⟩) (by show w.heap.size ≠ w.heap.size + 1; omega) (.slice (some ⟨g, 0, none⟩) (k + 1) cap))
        have B3 := Lib.hid (B2.out.setCell (p := ⟨w.heap.size + 1, 0, none⟩) (Nat.le_succ _) (.slice (some ⟨g, 0, none⟩) (k + 1) cap))
        have O3 : Hid ((W2.setCell ⟨w.heap.size + 1, 0, none⟩ (.slice (some ⟨g, 0, none⟩) (k + 1) cap)).ownsRow (w.heap.size + 2) 9 1 (.slice (some ⟨g, 0, none⟩) (k + 1) cap) (k + 1) (strsV (List.replicate (k + 1) (secOf 0)))) := Lib.hid (ownsRow_setCell_other O2.out (own_ne O2.out R2.out (by decide)) (.slice (some ⟨g, 0, none⟩) (k + 1) cap))
        have S3 : Hid (w.heap.size + 2 ≤ (W2.setCell ⟨w.heap.size + 1, 0, none⟩ (.slice (some ⟨g, 0, none⟩) (k + 1) cap)).heap.size) := Lib.hid (by simp [World.setCell]; exact S2.out)
        have ST := Lib.hid (HST.out W2 g (k + 1) cap _ _ _ _ R2.out)
        clear hgb hbk
        refine hK _ _ ?_
        clear hK K
        (try simp only [Act.put, List.setIfInBounds_toArray, List.set_cons_zero, List.set_cons_succ])
        refine wpAny_take (i := 5) (oi := n5o5) (v := ?_) rfl (by kernel_rfl) (by kernel_rfl) (by kernel_rfl) (fun _ _ _ h => h) (Or.inl ⟨by rfl, ?_⟩) ?_
        rotate_left
        · (intro w; dsimp only [n5o5]; go_simp; try (with_reducible rfl))
        (try simp only [Act.put, List.setIfInBounds_toArray, List.set_cons_zero, List.set_cons_succ])
        refine wpAny_ready (rs := [6]) (by kernel_rfl) (by simp) ?_
        refine AllReady.cons (o := n5o6) rfl (fun K hK => ?_) AllReady.nil
        rw [if_pos (by rfl)]
        refine wp_store_is _ _ _ rfl ⟨w.heap.size + 1, 0, none⟩ rfl _ rfl _ ST.out ?_
        refine hK _ _ ?_
        clear hK K
        (try simp only [Act.put, List.setIfInBounds_toArray, List.set_cons_zero, List.set_cons_succ])
        refine wpAny_done (by kernel_rfl) ?_ _
        go_wp2_with fail
        try simp only [Act.put, List.setIfInBounds_toArray, List.set_cons_succ, List.set_cons_zero]
        go_roundw
        case rel => first | exact ⟨k + 1, .slice (some ⟨g, 0, none⟩) (k + 1) cap, by go_num, by have := HLT.out; omega, R3, Z3, O3, B3, S3⟩ | exact ⟨_, _, _, _, _, _, _, _, _, _, ⟨k + 1, .slice (some ⟨g, 0, none⟩) (k + 1) cap, by go_num, by have := HLT.out; omega, R3, Z3, O3, B3, S3⟩, rfl⟩
        case measure => have := HLT.out; simp [intOf]; omega
      · have HK := Lib.hid hK
        clear hK
        dsimp only [n5o2]
        go_simp
        refine (HBL.out _).mono ?_
        rintro e W1 ⟨rfl, bl1⟩
        have bl := (Below.refl wr.heap.size wr).drew.trans bl1
        have R1 := Lib.hid (HR.out.keep bl)
        have Z1 := Lib.hid (HZ.out.keep bl)
        have O1 := Lib.hid (ownW_keep HO.out bl)
        have B1 := Lib.hid (HB.out.trans (bl.mono HB.out.size))
        have S1 := Lib.hid (Nat.le_trans HSZ.out bl.size)
        have L1 := Lib.hid (HLD.out W1 _ _ _ _ R1.out)
        have L2 := Lib.hid (HLD.out (W1.alloc (.cells #[.string (bs (secOf 0))] 9)) _ _ _ _ (R1.out.alloc _))
        clear bl bl1
        (try go_wp2_with fail)
        refine HK.out _ _ ?_
        clear HK K
        (try simp only [Act.put, List.setIfInBounds_toArray, List.set_cons_zero, List.set_cons_succ])
        refine wpAny_ready (rs := [1, 3]) (by kernel_rfl) (by simp) ?_
        refine AllReady.cons (o := n5o1) rfl (fun K hK => ?_) (AllReady.cons (o := n5o3) rfl (fun K hK => ?_) AllReady.nil)
        · rw [if_pos (by rfl)]
          refine wp_load_is _ _ rfl ⟨w.heap.size + 1, 0, none⟩ rfl sv L1.out ?_
          refine hK _ _ ?_
          clear hK K
          (try simp only [Act.put, List.setIfInBounds_toArray, List.set_cons_zero, List.set_cons_succ])
          refine wpAny_ready (rs := [3]) (by kernel_rfl) (by simp) ?_
          refine AllReady.cons (o := n5o3) rfl (fun K hK => ?_) AllReady.nil
          rw [if_pos (by rfl)]
          refine wp_build_is _ _ _ rfl #[(0, .string (bs (secOf 0)))] (by simp [Act.eval]) (.slice (some ⟨W1.heap.size, 0, none⟩) 1 1) (W1.alloc (.cells #[.string (bs (secOf 0))] 9)) (by go_simp; try rfl) ?_
          refine hK _ _ ?_
          clear hK K
          (try simp only [Act.put, List.setIfInBounds_toArray, List.set_cons_zero, List.set_cons_succ])
          refine wpAny_ready (rs := [4]) (by kernel_rfl) (by simp) ?_
          refine AllReady.cons (o := n5o4) rfl (fun K hK => ?_) AllReady.nil
          rw [if_pos (by rfl)]
          refine wp_append_own _ _ _ 28 rfl (w.heap.size + 2) 9 i0 (.string ⟨#[]⟩) 1 16 Tryd.underlying28 hi hz0 hz1 hz2 rfl (by decide) _ _ _ rfl (O1.out.alloc _) ⟨W1.heap.size, 0, none⟩ 1 1 [.string (bs (secOf 0))] rfl rfl (World.news_of_block (cs := #[.string (bs (secOf 0))]) (heap_alloc_new W1 _)) (by intro u hu; simp at hu; subst hu; rfl) (by simp only [maxLen]; omega) (by omega) (Nat.le_trans S1.out (grow1 _ _)) ?_
          intro v2 W2 hown hgr _
          have bl : Below (w.heap.size + 2) W1 W2 := ((Below.refl _ _).alloc S1.out _).grown hgr (Nat.le_trans S1.out (grow1 _ _)) (fun j hj => (O1.out.lt j hj).1)
          have R2 := Lib.hid (R1.out.below bl (by omega))
          have Z2 := Lib.hid (Z1.out.below bl (by omega))
          have B2 := Lib.hid (B1.out.trans (bl.mono (by omega)))
          have S2 := Lib.hid (Nat.le_trans S1.out bl.size)
          have O2 := Lib.hid (HOW.out _ _ hown)
          clear hown hgr bl
          obtain ⟨g, cap, junk, rfl, hgb, _, _, hbk⟩ := own_blk O2.out (Nat.succ_pos _)
          have R3 := Lib.hid (R2.out.set_ 0 (.slice (some ⟨g, 0, none⟩) (k + 1) cap))
          have Z3 := Lib.hid (Z2.out.far (p := ⟨w.heap.size + 1, 0, none⟩) (by show w.heap.size ≠ w.heap.size + 1; omega) (.slice (some ⟨g, 0, none⟩) (k + 1) cap))
          have B3 := Lib.hid (B2.out.setCell (p := ⟨w.heap.size + 1, 0, none⟩) (Nat.le_succ _) (.slice (some ⟨g, 0, none⟩) (k + 1) cap))
          have O3 : Hid ((W2.setCell ⟨w.heap.size + 1, 0, none⟩ (.slice (some ⟨g, 0, none⟩) (k + 1) cap)).ownsRow (w.heap.size + 2) 9 1 (.slice (some ⟨g, 0, none⟩) (k + 1) cap) (k + 1) (strsV (List.replicate (k + 1) (secOf 0)))) := Lib.hid (ownsRow_setCell_other O2.out (own_ne O2.out R2.out (by decide)) (.slice (some ⟨g, 0, none⟩) (k + 1) cap))
          have S3 : Hid (w.heap.size + 2 ≤ (W2.setCell ⟨w.heap.size + 1, 0, none⟩ (.slice (some ⟨g, 0, none⟩) (k + 1) cap)).heap.size) := Lib.hid (by simp [World.setCell]; exact S2.out)
          have ST := Lib.hid (HST.out W2 g (k + 1) cap _ _ _ _ R2.out)
          clear hgb hbk
          refine hK _ _ ?_
          clear hK K
          (try simp only [Act.put, List.setIfInBounds_toArray, List.set_cons_zero, List.set_cons_succ])
          refine wpAny_take (i := 5) (oi := n5o5) (v := ?_) rfl (by kernel_rfl) (by kernel_rfl) (by kernel_rfl) (fun _ _ _ h => h) (Or.inl ⟨by rfl, ?_⟩) ?_
          rotate_left
          · (intro w; dsimp only [n5o5]; go_simp; try (with_reducible rfl))
          (try simp only [Act.put, List.setIfInBounds_toArray, List.set_cons_zero, List.set_cons_succ])
          refine wpAny_ready (rs := [6]) (by kernel_rfl) (by simp) ?_
          refine AllReady.cons (o := n5o6) rfl (fun K hK => ?_) AllReady.nil
          rw [if_pos (by rfl)]
          refine wp_store_is _ _ _ rfl ⟨w.heap.size + 1, 0, none⟩ rfl _ rfl _ ST.out ?_
          refine hK _ _ ?_
          clear hK K
          (try simp only [Act.put, List.setIfInBounds_toArray, List.set_cons_zero, List.set_cons_succ])
          refine wpAny_done (by kernel_rfl) ?_ _
          go_wp2_with fail
          try simp only [Act.put, List.setIfInBounds_toArray, List.set_cons_succ, List.set_cons_zero]
          go_roundw
          case rel => first | exact ⟨k + 1, .slice (some ⟨g, 0, none⟩) (k + 1) cap, by go_num, by have := HLT.out; omega, R3, Z3, O3, B3, S3⟩ | exact ⟨_, _, _, _, _, _, _, _, _, _, ⟨k + 1, .slice (some ⟨g, 0, none⟩) (k + 1) cap, by go_num, by have := HLT.out; omega, R3, Z3, O3, B3, S3⟩, rfl⟩
          case measure => have := HLT.out; simp [intOf]; omega
        · rw [if_pos (by rfl)]
          refine wp_build_is _ _ _ rfl #[(0, .string (bs (secOf 0)))] (by simp [Act.eval]) (.slice (some ⟨W1.heap.size, 0, none⟩) 1 1) (W1.alloc (.cells #[.string (bs (secOf 0))] 9)) (by go_simp; try rfl) ?_
          refine hK _ _ ?_
          clear hK K
          (try simp only [Act.put, List.setIfInBounds_toArray, List.set_cons_zero, List.set_cons_succ])
          refine wpAny_ready (rs := [1]) (by kernel_rfl) (by simp) ?_
          refine AllReady.cons (o := n5o1) rfl (fun K hK => ?_) AllReady.nil
          rw [if_pos (by rfl)]
          refine wp_load_is _ _ rfl ⟨w.heap.size + 1, 0, none⟩ rfl sv L2.out ?_
          refine hK _ _ ?_
          clear hK K
          (try simp only [Act.put, List.setIfInBounds_toArray, List.set_cons_zero, List.set_cons_succ])
          refine wpAny_ready (rs := [4]) (by kernel_rfl) (by simp) ?_
          refine AllReady.cons (o := n5o4) rfl (fun K hK => ?_) AllReady.nil
          rw [if_pos (by rfl)]
          refine wp_append_own _ _ _ 28 rfl (w.heap.size + 2) 9 i0 (.string ⟨#[]⟩) 1 16 Tryd.underlying28 hi hz0 hz1 hz2 rfl (by decide) _ _ _ rfl (O1.out.alloc _) ⟨W1.heap.size, 0, none⟩ 1 1 [.string (bs (secOf 0))] rfl rfl (World.news_of_block (cs := #[.string (bs (secOf 0))]) (heap_alloc_new W1 _)) (by intro u hu; simp at hu; subst hu; rfl) (by simp only [maxLen]; omega) (by omega) (Nat.le_trans S1.out (grow1 _ _)) ?_
          intro v2 W2 hown hgr _
          have bl : Below (w.heap.size + 2) W1 W2 := ((Below.refl _ _).alloc S1.out _).grown hgr (Nat.le_trans S1.out (grow1 _ _)) (fun j hj => (O1.out.lt j hj).1)
          have R2 := Lib.hid (R1.out.below bl (by omega))
          have Z2 := Lib.hid (Z1.out.below bl (by omega))
          have B2 := Lib.hid (B1.out.trans (bl.mono (by omega)))
          have S2 := Lib.hid (Nat.le_trans S1.out bl.size)
          have O2 := Lib.hid (HOW.out _ _ hown)
          clear hown hgr bl
          obtain ⟨g, cap, junk, rfl, hgb, _, _, hbk⟩ := own_blk O2.out (Nat.succ_pos _)
          have R3 := Lib.hid (R2.out.set_ 0 (.slice (some ⟨g, 0, none⟩) (k + 1) cap))
          have Z3 := Lib.hid (Z2.out.far (p := ⟨w.heap.size + 1, 0, none⟩) (by show w.heap.size ≠ w.heap.size + 1; omega) (.slice (some ⟨g, 0, none⟩) (k + 1) cap))
          have B3 := Lib.hid (B2.out.setCell (p := ⟨w.heap.size + 1, 0, none⟩) (Nat.le_succ _) (.slice (some ⟨g, 0, none⟩) (k + 1) cap))
          have O3 : Hid ((W2.setCell ⟨w.heap.size + 1, 0, none⟩ (.slice (some ⟨g, 0, none⟩) (k + 1) cap)).ownsRow (w.heap.size + 2) 9 1 (.slice (some ⟨g, 0, none⟩) (k + 1) cap) (k + 1) (strsV (List.replicate (k + 1) (secOf 0)))) := Lib.hid (ownsRow_setCell_other O2.out (own_ne O2.out R2.out (by decide)) (.slice (some ⟨g, 0, none⟩) (k + 1) cap))
          have S3 : Hid (w.heap.size + 2 ≤ (W2.setCell ⟨w.heap.size + 1, 0, none⟩ (.slice (some ⟨g, 0, none⟩) (k + 1) cap)).heap.size) := Lib.hid (by simp [World.setCell]; exact S2.out)
          have ST := Lib.hid (HST.out W2 g (k + 1) cap _ _ _ _ R2.out)
          clear hgb hbk
          refine hK _ _ ?_
          clear hK K
          (try simp only [Act.put, List.setIfInBounds_toArray, List.set_cons_zero, List.set_cons_succ])
          refine wpAny_take (i := 5) (oi := n5o5) (v := ?_) rfl (by kernel_rfl) (by kernel_rfl) (by kernel_rfl) (fun _ _ _ h => h) (Or.inl ⟨by rfl, ?_⟩) ?_
          rotate_left
          · (intro w; dsimp only [n5o5]; go_simp; try (with_reducible rfl))
          (try simp only [Act.put, List.setIfInBounds_toArray, List.set_cons_zero, List.set_cons_succ])
          refine wpAny_ready (rs := [6]) (by kernel_rfl) (by simp) ?_
          refine AllReady.cons (o := n5o6) rfl (fun K hK => ?_) AllReady.nil
          rw [if_pos (by rfl)]
          refine wp_store_is _ _ _ rfl ⟨w.heap.size + 1, 0, none⟩ rfl _ rfl _ ST.out ?_
          refine hK _ _ ?_
          clear hK K
          (try simp only [Act.put, List.setIfInBounds_toArray, List.set_cons_zero, List.set_cons_succ])
          refine wpAny_done (by kernel_rfl) ?_ _
          go_wp2_with fail
          try simp only [Act.put, List.setIfInBounds_toArray, List.set_cons_succ, List.set_cons_zero]
          go_roundw
          case rel => first | exact ⟨k + 1, .slice (some ⟨g, 0, none⟩) (k + 1) cap, by go_num, by have := HLT.out; omega, R3, Z3, O3, B3, S3⟩ | exact ⟨_, _, _, _, _, _, _, _, _, _, ⟨k + 1, .slice (some ⟨g, 0, none⟩) (k + 1) cap, by go_num, by have := HLT.out; omega, R3, Z3, O3, B3, S3⟩, rfl⟩
          case measure => have := HLT.out; simp [intOf]; omega
    · obtain rfl : n = k := by omega
      have hd : decide ((n : Int) < (n : Int)) = false := decide_eq_false (by omega)
      have hd3 : decide (n < n) = false := decide_eq_false (by omega)
      obtain ⟨g, cap, junk, rfl, hgb, hnc, hcm, hbk⟩ := own_blk HO.out (by omega)
      obtain ⟨W7, run7, hR7, hB7, hK7⟩ := store_rd HZ.out (some ⟨g, 0, none⟩) n cap none 0 0 0 0
      have RUN7 := Lib.hid run7
      have R7 := Lib.hid hR7
      have B7 := Lib.hid (hB7 _ _ HB.out (Nat.le_refl _))
      have G7 := Lib.hid (hK7 _ _ _ hbk (by omega))
      have HNC := Lib.hid hnc
      have HCM := Lib.hid hcm
      obtain ⟨r0, r1, r2, r3⟩ := HR.out.fourR
      clear hlt hk hgb hnc hcm hbk run7 hR7 hB7 hK7
      go_wp2_with (refine wpList_store_to rfl 31 _ _ rfl ⟨w.heap.size, 0, none⟩ rfl (.agg #[.slice (some ⟨g, 0, none⟩) n cap, .slice none 0 0, .int .i64 0, .int .i64 0]) rfl W7 RUN7.out ?_)
      obtain ⟨e0, e1, e2, e3⟩ := R7.out.fourR
      refine bodyPost_ret (v := .agg #[.slice (some ⟨g, 0, none⟩) n cap, .slice none 0 0, .int .i64 0, .int .i64 0]) (by simp [results, Tryd.results8, go_sem, e0, e1, e2, e3]) rfl ⟨_, _, _, rfl, ?_, B7.out⟩
      exact StrS.of_blk (L := List.replicate n (secOf 0)) G7.out (by rw [List.length_replicate]) HNC.out HCM.out

end Go.Proofs.YtbekebpkaeefiaaDoor

namespace Go.Proofs.YtbekebpkaeefiaaDoor
set_option maxRecDepth 100000
open Go.RowKit

set_option maxHeartbeats 8000000 in
set_option maxRecDepth 100000 in
theorem law_Same (base : Nat) (w : World) (p gl M : Nat) (v : Value) (A : Option Addr) (n c : Nat) (A' : Option Addr) (n' c' : Nat) (D : DSt) (h : IsDisk base w p gl M v D) (hS : StrS w (.slice A n c) D.lasts) (hW : WriS w (.slice A' n' c') D.waits) (hn : n ≤ 4096) (hn' : n' ≤ 1000000) :
    Calls Tryd.prog 21 #[.pointer (some ⟨p, 0, none⟩), rdV A n c A' n' c' D] w fun e w' => e = .returned (.bool true) ∧ Below w.heap.size w w' := by
  unfold rdV
  have HNL : Hid (n = D.lasts.length) := Lib.hid hS.cellAt.1
  have HNW : Hid (n' = D.waits.length) := Lib.hid hW.cellAt.1
  obtain ⟨W0, hW0⟩ : ∃ W0, W0 = w.alloc (.cells #[.slice A n c, .slice A' n' c', .int .i64 D.armed, .int .i64 (D.ops : Int)] 31) := ⟨_, rfl⟩
  have B0 : Hid (Below w.heap.size w W0) := Lib.hid (by rw [hW0]; exact (Below.refl w.heap.size w).alloc (Nat.le_refl _) _)
  have R0 : Hid (Blk W0 w.heap.size 31 [.slice A n c, .slice A' n' c', .int .i64 D.armed, .int .i64 (D.ops : Int)]) := Lib.hid (by rw [hW0]; exact heap_alloc_new w _)
  have D0 : Hid (IsDisk base W0.drew p gl M v D) := Lib.hid (IsDisk.keep (w := W0) (h.keep B0.out) (Below.refl _ _).drew)
  have HZ1 := Lib.hid (disk_Size _ _ p gl M v D D0.out)
  have HZ2 := Lib.hid (disk_Waiting _ _ p gl M v D D0.out)
  have HZ3 := Lib.hid (disk_Ops _ _ p gl M v D D0.out)
  rw [← HNL.out] at HZ1
  rw [← HNW.out] at HZ2
  have HS := Lib.hid hS
  have HW := Lib.hid hW
  have HD := Lib.hid h
  have HW0 := Lib.hid hW0
  have HC0 : Hid (W0.drew.cell? ⟨w.heap.size, 0, none⟩ = some (.slice A n c) ∧ W0.drew.cell? ⟨w.heap.size, 1, none⟩ = some (.slice A' n' c') ∧ W0.drew.cell? ⟨w.heap.size, 3, none⟩ = some (.int .i64 (D.ops : Int))) := Lib.hid ⟨R0.out.fourR.1, R0.out.fourR.2.1, R0.out.fourR.2.2.2⟩
  clear hS hW hW0 h
  go_enter Tryd.func21, Tryd.ntmps21
  go_wp2_with fail
  rw [← HW0.out]
  go_region_held3 (fun w' => w'.cell? ⟨w.heap.size, 0, none⟩ = some (.slice A n c) ∧ w'.cell? ⟨w.heap.size, 1, none⟩ = some (.slice A' n' c') ∧ w'.cell? ⟨w.heap.size, 3, none⟩ = some (.int .i64 (D.ops : Int)))
    (exact HC0.out)
    ((first | (go_at_call 48; refine HZ1.out.mono ?_; rintro e w2 ⟨rfl, rfl⟩) | (go_at_call 49; refine HZ2.out.mono ?_; rintro e w2 ⟨rfl, rfl⟩) | (go_at_call 50; refine HZ3.out.mono ?_; rintro e w2 ⟨rfl, rfl⟩)))
  have R1 : Hid (Blk W0.drew w.heap.size 31 [.slice A n c, .slice A' n' c', .int .i64 D.armed, .int .i64 (D.ops : Int)]) := Lib.hid R0.out
  have B1 : Hid (Below w.heap.size w W0.drew) := Lib.hid B0.out.drew
  obtain ⟨r0, r1, r2, r3⟩ := R1.out.fourR
  go_wp2_with fail
  clear r0 r1 r2 r3
  try simp only [Act.put, List.setIfInBounds_toArray, List.set_cons_succ, List.set_cons_zero]
  go_loopw [34] (fun iv wr => ∃ (k : Nat), iv = .int .i64 k ∧ k ≤ n ∧ Hid (Blk wr w.heap.size 31 [.slice A n c, .slice A' n' c', .int .i64 D.armed, .int .i64 (D.ops : Int)]) ∧ Hid (Below w.heap.size w wr)) (fun iv _ => n - (intOf iv).toNat)
  case atStart => exact ⟨0, rfl, Nat.zero_le _, R1, B1⟩
  case round =>
    obtain ⟨k, rfl, hk, HR, HB⟩ := hrel
    by_cases hlt : k < n
    · have hd : decide ((k : Int) < (n : Int)) = true := decide_eq_true (by omega)
      have hd3 : decide (k < n) = true := decide_eq_true hlt
      have HLT := Lib.hid hlt
      have hkw : IntKind.i64.wrap ((k : Int) + 1) = (k : Int) + 1 := IntWalk.i64_in _ (by omega)
      have hkl : k < D.lasts.length := by rw [← HNL.out]; exact hlt
      have HD1 := Lib.hid (HD.out.keep HB.out)
      have HRD := Lib.hid (disk_Read _ _ p gl M v D (k : Int) HD1.out)
      have HRR : Hid (∀ W, Below wr.heap.size wr W → Calls Tryd.prog 51 #[.agg #[.slice A n c, .slice A' n' c', .int .i64 D.armed, .int .i64 (D.ops : Int)], .int .i64 (k : Int)] W fun e w' => e = .returned (.tuple #[.string (bs (rdD D (k : Int)).1), .int .i64 (((rdD D (k : Int)).2 : Nat) : Int)]) ∧ Below W.heap.size W w') := Lib.hid (fun W hb => ref_Read12 W A n c A' n' c' D k ((HS.out.keep HB.out).keep hb) ((HW.out.keep HB.out).keep hb) hkl hn hn')
      have H0 : Hid ((rdD D (k : Int)).2 = 0) := Lib.hid (by
        unfold rdD
        rw [hasB_nat hkl, if_pos rfl]
        split <;> rfl)
      rw [H0.out] at HRD HRR
      obtain ⟨t, ht⟩ : ∃ t, t = (rdD D (k : Int)).1 := ⟨_, rfl⟩
      rw [← ht] at HRD HRR
      have hss : (bs t != bs t) = false := by show (!(bs t == bs t)) = false; rw [bs_beq]; simp
      have hst : ((bs t).toList != (bs t).toList) = false := by simp
      obtain ⟨r0, r1, r2, r3⟩ := HR.out.fourR
      clear ht hlt hk hkl
      go_wp2_with fail
      refine HRD.out.mono ?_
      rintro e w2 ⟨rfl, rfl⟩
      go_wp2_with fail
      clear r0 r1 r2 r3
      refine (HRR.out _ (Below.refl _ _)).mono ?_
      rintro e w3 ⟨rfl, bl⟩
      have R3 := Lib.hid (HR.out.keep bl)
      have B3 := Lib.hid (HB.out.trans (bl.mono HB.out.size))
      clear bl
      go_wp2_with fail
      go_roundw
      case rel => exact ⟨k + 1, by go_num, by have := HLT.out; omega, R3, B3⟩
      case measure => have := HLT.out; simp [intOf]; omega
    · obtain rfl : n = k := by omega
      have hd : decide ((n : Int) < (n : Int)) = false := decide_eq_false (by omega)
      have hd3 : decide (n < n) = false := decide_eq_false (by omega)
      go_wp2_with fail
      go_ret
      exact ⟨rfl, HB.out⟩

end Go.Proofs.YtbekebpkaeefiaaDoor

namespace Go.Proofs.YtbekebpkaeefiaaDoor
set_option maxRecDepth 100000
open Go.RowKit

/-- The document's disk of these slices. -/
def RDk (w : World) (A : Option Addr) (n c : Nat) (A' : Option Addr) (n' c' : Nat) (D : DSt) : Prop := StrS w (.slice A n c) D.lasts ∧ WriS w (.slice A' n' c') D.waits ∧ (n' = 0 → A' = none ∧ c' = 0)
theorem RDk.keep {w w' : World} {A : Option Addr} {n c : Nat} {A' : Option Addr} {n' c' : Nat} {D : DSt} (h : RDk w A n c A' n' c' D) (hb : Below w.heap.size w w') : RDk w' A n c A' n' c' D := ⟨h.1.keep hb, h.2.1.keep hb, h.2.2⟩
theorem RDk.keeps {w w' : World} {A : Option Addr} {n c : Nat} {A' : Option Addr} {n' c' : Nat} {D : DSt} (h : RDk w A n c A' n' c' D) (hk : Keeps w w') : RDk w' A n c A' n' c' D :=
  ⟨h.1.of fun b cs x => hk b _ cs (by decide) (by decide) (by decide) x, h.2.1.of fun b cs x => hk b _ cs (by decide) (by decide) (by decide) x, h.2.2⟩
theorem RDk.len {w : World} {A : Option Addr} {n c : Nat} {A' : Option Addr} {n' c' : Nat} {D : DSt} (h : RDk w A n c A' n' c' D) : n = D.lasts.length ∧ n' = D.waits.length := ⟨h.1.cellAt.1, h.2.1.cellAt.1⟩

theorem ref_Put12 (w : World) (A : Option Addr) (n c : Nat) (A' : Option Addr) (n' c' : Nat) (D : DSt) (i : Int) (s : List UInt8) (h : RDk w A n c A' n' c' D) (hs : Small D) (hn : n ≤ 4096) (hsl : s.length ≤ 1000000) :
    Calls Tryd.prog 20 #[rdV A n c A' n' c' D, .int .i64 i, .string (bs s)] w fun e w' => ∃ B m d B' m' d', e = .returned (.tuple #[rdV B m d B' m' d' (wrD D i s).1, .int .i64 (((wrD D i s).2 : Nat) : Int)]) ∧ RDk w' B m d B' m' d' (wrD D i s).1 ∧ Below w.heap.size w w' := by
  obtain ⟨l1, l2⟩ := h.len
  have hn' : n' ≤ 1000000 := by rw [l2]; exact hs.2.1
  by_cases hb : hasB D i = true
  · obtain ⟨k, rfl, hk⟩ := hasB_nat_iff.1 hb
    have hkn : k < n := by rw [l1]; exact hk
    by_cases h128 : s.length = 128
    · cases hf : (fires D).2
      · have e : wrD D (k : Int) s = (wrote (fires D).1 k s, 0) := by unfold wrD; rw [if_neg (by rw [hb]; decide), if_neg (by rw [h128]; decide), if_neg (by rw [hf]; decide), Int.toNat_natCast]
        rw [e]
        have fin : ∀ {B' : Option Addr} {m' d' : Nat} {w' : World}, WriS w' (.slice B' m' d') (wrote (fires D).1 k s).waits → (m' = 0 → B' = none ∧ d' = 0) := fun hw h0 => by
          have := hw.cellAt.1
          rw [h0] at this
          exact absurd this (by show 0 ≠ ((fires D).1.waits ++ [(k, s)]).length; rw [List.length_append]; exact (Nat.succ_ne_zero _).symm)
        by_cases h0 : n' = 0
        · obtain ⟨rfl, rfl⟩ := h.2.2 h0
          subst h0
          exact (ref_Put12_none w A n c D k s h.1 h.2.1 hs.1 hkn hn hs.2.2 h128 hf).mono fun e w' ⟨B, m, d, B', m', d', p1, p2, p3, p4⟩ => ⟨B, m, d, B', m', d', p1, ⟨p2, p3, fin p3⟩, p4⟩
        · exact (ref_Put12_some w A n c A' n' c' D k s h.1 h.2.1 hs.1 hkn hn hn' hs.2.2 h128 hf (Nat.pos_of_ne_zero h0)).mono fun e w' ⟨B, m, d, B', m', d', p1, p2, p3, p4⟩ => ⟨B, m, d, B', m', d', p1, ⟨p2, p3, fin p3⟩, p4⟩
      · have e : wrD D (k : Int) s = ((fires D).1, 7) := by unfold wrD; rw [if_neg (by rw [hb]; decide), if_neg (by rw [h128]; decide), if_pos hf]
        rw [e]
        exact (ref_Put12_bad w A n c A' n' c' D k s h.1 h.2.1 hs.1 hkn hn hn' hs.2.2 h128 hf).mono fun e w' ⟨p1, p4⟩ => ⟨A, n, c, A', n', c', p1, by
          have h2 := h.keep p4
          refine ⟨?_, ?_, h.2.2⟩
          · show StrS w' _ (fires D).1.lasts; rw [fires_lasts]; exact h2.1
          · show WriS w' _ (fires D).1.waits; rw [fires_waits]; exact h2.2.1, p4⟩
    · have e : wrD D (k : Int) s = (D, 4) := by unfold wrD; rw [if_neg (by rw [hb]; decide), if_pos h128]
      rw [e]
      exact (ref_Put12_form w A n c A' n' c' D k s hkn hn h128 hsl).mono fun e w' ⟨p1, p4⟩ => ⟨A, n, c, A', n', c', p1, h.keep p4, p4⟩
  · have hb2 : hasB D i = false := by simpa using hb
    have e : wrD D i s = (D, 5) := by unfold wrD; rw [if_pos hb2]
    rw [e]
    exact (ref_Put12_range w A n c A' n' c' D i s hn (by
      unfold hasB at hb
      rw [Bool.and_eq_true, decide_eq_true_iff, decide_eq_true_iff, ← l1] at hb
      omega) hsl).mono fun e w' ⟨p1, p4⟩ => ⟨A, n, c, A', n', c', p1, h.keep p4, p4⟩

theorem ref_Sync12k (w : World) (A : Option Addr) (n c : Nat) (A' : Option Addr) (n' c' : Nat) (D : DSt) (h : RDk w A n c A' n' c' D) (hs : Small D) (hok : DOk D) :
    Calls Tryd.prog 12 #[rdV A n c A' n' c' D] w fun e w' => ∃ B m d B' m' d', e = .returned (.tuple #[rdV B m d B' m' d' (syD D).1, .int .i64 (((syD D).2 : Nat) : Int)]) ∧ RDk w' B m d B' m' d' (syD D).1 ∧ Below w.heap.size w w' := by
  obtain ⟨l1, l2⟩ := h.len
  exact (ref_Sync12 w A n c A' n' c' D h.1 h.2.1 hs.1 (by rw [l1]; exact hok.1) (by rw [l1]; exact hok.2.1) (by rw [l2]; exact hs.2.1) hs.2.2 (fun x hx => (hok.2.2.2 x hx).1) h.2.2).mono fun e w' ⟨B, m, d, B', m', d', p1, p2, p3, p5, p4⟩ => ⟨B, m, d, B', m', d', p1, ⟨p2, p3, p5⟩, p4⟩

theorem ref_Crash12k (w : World) (A : Option Addr) (n c : Nat) (A' : Option Addr) (n' c' : Nat) (D : DSt) (K : Option Addr) (kn kc : Nat) (ks : List Bool) (h : RDk w A n c A' n' c' D) (hs : Small D) (hok : DOk D) (hK : KSl w K kn ks) (hkn : kn ≤ 1000000) :
    Calls Tryd.prog 14 #[rdV A n c A' n' c' D, .slice K kn kc] w fun e w' => ∃ B m d B' m' d', e = .returned (rdV B m d B' m' d' (crashed D ks)) ∧ RDk w' B m d B' m' d' (crashed D ks) ∧ Below w.heap.size w w' := by
  obtain ⟨l1, l2⟩ := h.len
  exact (ref_Crash12 w A n c A' n' c' D K kn kc ks h.1 h.2.1 hK (by rw [l1]; exact hok.1) (by rw [l1]; exact hok.2.1) (by rw [l2]; exact hs.2.1) hkn (fun x hx => (hok.2.2.2 x hx).1)).mono fun e w' ⟨B, m, d, p1, p2, p4⟩ => ⟨B, m, d, none, 0, 0, p1, ⟨p2, WriS.empty _, fun _ => ⟨rfl, rfl⟩⟩, p4⟩

theorem ref_Rot12k (w : World) (A : Option Addr) (n c : Nat) (A' : Option Addr) (n' c' : Nat) (D : DSt) (i at_ : Int) (y : Nat) (h : RDk w A n c A' n' c' D) (hok : DOk D) (hy : y < 256) :
    Calls Tryd.prog 17 #[rdV A n c A' n' c' D, .int .i64 i, .int .i64 at_, .int .u8 (y : Int)] w fun e w' => ∃ B m d B' m' d', e = .returned (rdV B m d B' m' d' (rotD D i at_ y)) ∧ RDk w' B m d B' m' d' (rotD D i at_ y) ∧ Below w.heap.size w w' := by
  obtain ⟨l1, l2⟩ := h.len
  have hn : n ≤ 4096 := by rw [l1]; exact hok.2.1
  by_cases hc : hasB D i = true ∧ 0 ≤ at_ ∧ at_ < 128
  · obtain ⟨hb, h0, h1⟩ := hc
    have e : rotD D i at_ y = { D with lasts := D.lasts.set i.toNat (rotT (D.lasts.getD i.toNat []) at_.toNat y) } := by unfold rotD; rw [if_pos ⟨hb, h0, h1⟩]
    rw [e]
    obtain ⟨k, rfl, hk⟩ := hasB_nat_iff.1 hb
    obtain ⟨j, rfl⟩ : ∃ j : Nat, at_ = j := ⟨at_.toNat, by omega⟩
    rw [Int.toNat_natCast, Int.toNat_natCast]
    exact (ref_Rot12_ok w A n c A' n' c' D k j y h.1 h.2.1 (by rw [l1]; exact hk) hn (by omega) hy hok.2.2.1).mono fun e w' ⟨B, m, d, p1, p2, p3, p4⟩ => ⟨B, m, d, A', n', c', p1, ⟨p2, p3, h.2.2⟩, p4⟩
  · have e : rotD D i at_ y = D := by unfold rotD; rw [if_neg hc]
    rw [e]
    exact (ref_Rot12_no w A n c A' n' c' D i at_ y hn (by
      by_cases h1 : 0 ≤ at_ ∧ at_ < 128
      · have hb : ¬ hasB D i = true := fun hb => hc ⟨hb, h1⟩
        unfold hasB at hb
        rw [Bool.and_eq_true, decide_eq_true_iff, decide_eq_true_iff, ← l1] at hb
        omega
      · omega)).mono fun e w' ⟨p1, p4⟩ => ⟨A, n, c, A', n', c', p1, h.keep p4, p4⟩

end Go.Proofs.YtbekebpkaeefiaaDoor

namespace Go.Proofs.YtbekebpkaeefiaaDoor
set_option maxRecDepth 100000
open Go.RowKit

theorem RDk.aside {w w' : World} {A : Option Addr} {n c : Nat} {A' : Option Addr} {n' c' : Nat} {D : DSt} (h : RDk w A n c A' n' c' D) {g T : Nat} {cs : List Value} (hg : Blk w g T cs) (h1 : T ≠ 9) (h2 : T ≠ 105) (he : ∀ k, k ≠ g → w'.heap[k]? = w.heap[k]?) : RDk w' A n c A' n' c' D :=
  ⟨h.1.of fun b cs x => (he b (x.ne_ hg h1.symm)).trans x, h.2.1.of fun b cs x => (he b (x.ne_ hg h2.symm)).trans x, h.2.2⟩
/-- A store of a whole disk's value, and what it leaves. -/
theorem store_rd2 {w : World} {g : Nat} {a b c d : Value} (h : Blk w g 31 [a, b, c, d]) (A : Option Addr) (n k : Nat) (A' : Option Addr) (n' k' : Nat) (x y : Int) :
    ∃ W', (Instr.storeAt 31 (.pointer (some ⟨g, 0, none⟩)) (.agg #[.slice A n k, .slice A' n' k', .int .i64 x, .int .i64 y])).run Tryd.prog w = .ok () W' ∧ Blk W' g 31 [.slice A n k, .slice A' n' k', .int .i64 x, .int .i64 y] ∧ (∀ B w0, Below B w0 w → B ≤ g → Below B w0 W') ∧ (∀ j, j ≠ g → W'.heap[j]? = w.heap[j]?) ∧ w.heap.size ≤ W'.heap.size :=
  ⟨((((w.setCell ⟨g, 0, none⟩ (.slice A n k)).setCell ⟨g, 1, none⟩ (.slice A' n' k')).setCell ⟨g, 2, none⟩ (.int .i64 x)).setCell ⟨g, 3, none⟩ (.int .i64 y)),
    run_storeAt_mid (P := Tryd.prog) w g 0 31 #[.slice A n k, .slice A' n' k', .int .i64 x, .int .i64 y] h.thereR (by kernel_rfl) (by simp [Value.oneCell']),
    h.putR _ _ _ _, fun B w0 hb hg => below_putR hb hg _ _ _ _, fun j hne => heap_put4 _ _ _ _ _ _ j hne, by simp [World.setCell]⟩
theorem Blk.sixR {w : World} {g t : Nat} {a b c d e f : Value} (h : Blk w g t [a, b, c, d, e, f]) : w.cell? ⟨g, 0, none⟩ = some a ∧ w.cell? ⟨g, 1, none⟩ = some b ∧ w.cell? ⟨g, 2, none⟩ = some c ∧ w.cell? ⟨g, 3, none⟩ = some d ∧ w.cell? ⟨g, 4, none⟩ = some e ∧ w.cell? ⟨g, 5, none⟩ = some f := ⟨h.cell 0, h.cell 1, h.cell 2, h.cell 3, h.cell 4, h.cell 5⟩
end Go.Proofs.YtbekebpkaeefiaaDoor
