/- The document's disk: contracts of New and Rot. -/
import Derived.Test.YtciophpplpmmfaaRdD
import Derived.Lib.ConvBytes
namespace Go.Proofs.Ytciophpplpmmfaa
open Go.RowKit

theorem wpList_conv_to {P : Program} {ops : Array Oper} {rest : List Oper} {o : Oper} {a : Act} {w : World} {Q : Exit → Act → World → Prop} (hg : o.guard = none) (t u : TypeId) (x : Operand) (ho : o.op = .convert t u x)
    (v : Value) (hx : a.eval x = v) (r : Value) (w' : World) (hrun : (convert t u v).run P w = .ok r w') (h : wpList P ops Q rest (a.put o.dst r) w') : wpList P ops Q (o :: rest) a w :=
  wpList_plain hg fun _ hK => by
    unfold Oper.wp execOp
    simp only [ho, hx, hrun, Sem.run_bind, Sem.run_pure, Result.andThen_ok]
    exact hK _ _ h
/-- A row whose first cells are these bytes, and may be written. -/
def Bts (w : World) (g : Nat) (l : List UInt8) : Prop := ∀ j (h : j < l.length), w.cell? ⟨g, j, none⟩ = some (.int .u8 ((l[j]).toNat : Int)) ∧ w.frozen? ⟨g, j, none⟩ = false

theorem conv_bytes (l : List UInt8) (W : World) (hl : l.length ≤ 1000) : ∃ cap wb, (convert 9 42 (.string (bs l))).run Try.prog W = .ok (.slice (some ⟨W.heap.size, 0, none⟩) l.length cap) wb ∧ Bts wb W.heap.size l ∧ Below W.heap.size W wb ∧ W.heap.size < wb.heap.size ∧ l.length ≤ cap := by
  refine ⟨grownCap W (bs l).size 0 5, Lib.bytesWorld W 5 (bs l), ?_, ?_, ?_, ?_, ?_⟩
  · have h := Lib.run_convert_string_bytes (P := Try.prog) W 9 42 5 (bs l) Try.underlying9 Try.underlying42 Try.underlying5
    rw [bs_size] at h ⊢
    exact h
  · intro j hj
    have hs : j < (bs l).size := by rw [bs_size]; exact hj
    refine ⟨?_, ?_⟩
    · rw [Lib.bytesWorld_cell W 5 (bs l) j hs, bs_list, List.getD_eq_getElem?_getD, List.getElem?_eq_getElem hj]
      rfl
    · unfold World.frozen?
      rw [Lib.bytesWorld_at_new]
      have hc : (bs l).size ≤ (Lib.bytesCells W 5 (bs l)).size := by
        unfold Lib.bytesCells
        rw [Array.size_append, Array.size_map]
        exact Nat.le_add_right _ _
      simp
      intro h
      omega
  · exact ⟨by simp [Lib.bytesWorld, World.freeze]; rfl, by simp [Lib.bytesWorld, World.freeze], by simp [Lib.bytesWorld, World.freeze]; rfl, by rw [Lib.bytesWorld_size]; omega, fun k hk => Lib.bytesWorld_at_old _ _ _ _ hk⟩
  · rw [Lib.bytesWorld_size]; omega
  · rw [← bs_size]; exact grownCap_ge _ _ _ _

theorem Bts.set_ {w : World} {g : Nat} {l : List UInt8} (h : Bts w g l) (j : Nat) (c : UInt8) (hj : j < l.length) : Bts (w.setCell ⟨g, j, none⟩ (.int .u8 ((c.toNat : Nat) : Int))) g (l.set j c) := by
  intro i hi
  rw [List.length_set] at hi
  obtain ⟨h1, h2⟩ := h i hi
  refine ⟨?_, by rw [World.frozen?_setCell]; exact h2⟩
  by_cases e : i = j
  · subst e
    rw [List.getElem_set_self]
    exact World.cell?_setCell_same w ⟨g, i, none⟩ _ h1
  · rw [List.getElem_set_ne (fun x => e x.symm)]
    exact (World.cell?_setCell_other w ⟨g, j, none⟩ ⟨g, i, none⟩ _ (fun x => e (by injection x with _ x _; exact x.symm))).trans h1
theorem Bts.conv {w : World} {g : Nat} {l : List UInt8} (h : Bts w g l) (cap : Nat) : (convert 42 9 (.slice (some ⟨g, 0, none⟩) l.length cap)).run Try.prog w = .ok (.string (bs l)) w := by
  have := run_convert_bytes_arg (P := Try.prog) w 42 5 Try.underlying42 Try.underlying5 g 0 l.length cap ((nb l).map fun x : Nat => (x : Int)) (by rw [List.length_map, nb_len]) (fun i hi => by
    rw [Nat.zero_add, (h i hi).1, List.getD_eq_getElem?_getD, List.getElem?_map, nb, List.getElem?_map, List.getElem?_eq_getElem hi]
    rfl) 9 Try.underlying9
  rw [str_nb] at this
  exact this


set_option maxHeartbeats 4000000 in
set_option maxRecDepth 100000 in
theorem ref_Rot12_no (w : World) (A : Option Addr) (n c : Nat) (A' : Option Addr) (n' c' : Nat) (D : DSt) (i at_ : Int) (y : Nat) (hn : n ≤ 4096) (h : i < 0 ∨ (n : Int) ≤ i ∨ at_ < 0 ∨ 128 ≤ at_) :
    Calls Try.prog 29 #[rdV A n c A' n' c' D, .int .i64 i, .int .i64 at_, .int .u8 (y : Int)] w fun e w' => e = .returned (rdV A n c A' n' c' D) ∧ Below w.heap.size w w' := by
  unfold rdV
  have B0 := Lib.hid (((Below.refl w.heap.size w).alloc (Nat.le_refl _) (.cells #[.slice A n c, .slice A' n' c', .int .i64 D.armed, .int .i64 (D.ops : Int)] 31)).alloc (grow1 _ _) (.cells #[.slice A n c, .slice A' n' c', .int .i64 D.armed, .int .i64 (D.ops : Int)] 31))
  by_cases h0 : i < 0
  · have d1 : decide (i < 0) = true := decide_eq_true h0
    go_enter Try.func29, Try.ntmps29
    go_wp2
    refine bodyPost_ret (v := .agg #[.slice A n c, .slice A' n' c', .int .i64 D.armed, .int .i64 (D.ops : Int)]) (by simp [results, Try.results29, go_sem]) rfl ⟨rfl, B0.out⟩
  · have d1 : decide (i < 0) = false := decide_eq_false h0
    by_cases h1 : (n : Int) ≤ i
    · have d2 : decide ((n : Int) ≤ i) = true := decide_eq_true h1
      go_enter Try.func29, Try.ntmps29
      go_wp2
      refine bodyPost_ret (v := .agg #[.slice A n c, .slice A' n' c', .int .i64 D.armed, .int .i64 (D.ops : Int)]) (by simp [results, Try.results29, go_sem]) rfl ⟨rfl, B0.out⟩
    · have d2 : decide ((n : Int) ≤ i) = false := decide_eq_false h1
      by_cases h2 : at_ < 0
      · have d3 : decide (at_ < 0) = true := decide_eq_true h2
        go_enter Try.func29, Try.ntmps29
        go_wp2
        refine bodyPost_ret (v := .agg #[.slice A n c, .slice A' n' c', .int .i64 D.armed, .int .i64 (D.ops : Int)]) (by simp [results, Try.results29, go_sem]) rfl ⟨rfl, B0.out⟩
      · have d3 : decide (at_ < 0) = false := decide_eq_false h2
        have d4 : decide (128 ≤ at_) = true := decide_eq_true (by omega)
        go_enter Try.func29, Try.ntmps29
        go_wp2
        refine bodyPost_ret (v := .agg #[.slice A n c, .slice A' n' c', .int .i64 D.armed, .int .i64 (D.ops : Int)]) (by simp [results, Try.results29, go_sem]) rfl ⟨rfl, B0.out⟩

theorem Bts.blk {w w' : World} {g : Nat} {l : List UInt8} (h : Bts w g l) (e : w'.heap[g]? = w.heap[g]?) : Bts w' g l := fun j hj => by
  obtain ⟨h1, h2⟩ := h j hj
  exact ⟨(World.cell?_of_block (w := w) (w' := w') (a := ⟨g, j, none⟩) e).trans h1, (World.frozen?_of_block (w := w) (w' := w') (a := ⟨g, j, none⟩) e).trans h2⟩

set_option maxHeartbeats 4000000 in
set_option maxRecDepth 100000 in
theorem ref_Rot12_ok (w : World) (A : Option Addr) (n c : Nat) (A' : Option Addr) (n' c' : Nat) (D : DSt) (i j y : Nat) (hS : StrS w (.slice A n c) D.lasts) (hW : WriS w (.slice A' n' c') D.waits)
    (hin : i < n) (hn : n ≤ 4096) (hj : j < 128) (hy : y < 256) (hl : ∀ t ∈ D.lasts, t.length = 128) :
    Calls Try.prog 29 #[rdV A n c A' n' c' D, .int .i64 (i : Int), .int .i64 (j : Int), .int .u8 (y : Int)] w fun e w' => ∃ B m d, e = .returned (rdV B m d A' n' c' { D with lasts := D.lasts.set i (rotT (D.lasts.getD i []) j y) }) ∧ StrS w' (.slice B m d) (D.lasts.set i (rotT (D.lasts.getD i []) j y)) ∧ WriS w' (.slice A' n' c') D.waits ∧ Below w.heap.size w w' := by
  unfold rdV
  obtain ⟨i0, hi, hz0, hz1, hz2⟩ := info_parts infoString
  have HNL : Hid (n = D.lasts.length) := Lib.hid hS.cellAt.1
  obtain ⟨t, ht⟩ : ∃ t, t = D.lasts.getD i [] := ⟨_, rfl⟩
  have htl : t.length = 128 := by
    have hil : i < D.lasts.length := by rw [← HNL.out]; exact hin
    rw [ht, List.getD_eq_getElem?_getD, List.getElem?_eq_getElem hil]
    exact hl _ (List.getElem_mem hil)
  obtain ⟨x, hx⟩ : ∃ x, x = (t[j]'(by rw [htl]; exact hj)).toNat := ⟨_, rfl⟩
  have hx8 : x < 256 := by rw [hx]; exact (t[j]'(by rw [htl]; exact hj)).toNat_lt
  obtain ⟨z, hz⟩ : ∃ z, z = x ^^^ y := ⟨_, rfl⟩
  have hzi : bits .xor .u8 (x : Int) (y : Int) = (z : Int) := by rw [hz]; exact bits_xor_u8n x y hx8 hy
  have hz8 : z < 256 := by
    have : x ^^^ y < 2 ^ 8 := Nat.xor_lt_two_pow (by omega) (by omega)
    omega
  obtain ⟨T, hT⟩ : ∃ T, T = rotT t j y := ⟨_, rfl⟩
  have HTZ : Hid (T = t.set j (UInt8.ofNat z)) := Lib.hid (by
    rw [hT, rotT, hz, hx, List.getD_eq_getElem?_getD, List.getElem?_eq_getElem (by rw [htl]; exact hj)]
    rfl)
  have HTL : Hid (T.length = 128) := Lib.hid (by rw [hT, rotT_len]; exact htl)
  have hzt : (UInt8.ofNat z).toNat = z := by rw [UInt8.toNat_ofNat', Nat.mod_eq_of_lt (by omega)]
  have d1 : decide ((i : Int) < 0) = false := decide_eq_false (by omega)
  have d2 : decide ((n : Int) ≤ (i : Int)) = false := decide_eq_false (by omega)
  have d2' : decide (n ≤ i) = false := decide_eq_false (by omega)
  have d3 : decide ((j : Int) < 0) = false := decide_eq_false (by omega)
  have d4 : decide ((128 : Int) ≤ (j : Int)) = false := decide_eq_false (by omega)
  obtain ⟨W0, hW0⟩ : ∃ W0, W0 = ((w.alloc (.cells #[.slice A n c, .slice A' n' c', .int .i64 D.armed, .int .i64 (D.ops : Int)] 31)).alloc (.cells #[.slice none 0 0, .slice none 0 0, .int .i64 0, .int .i64 0] 31)) := ⟨_, rfl⟩
  have B0 : Hid (Below w.heap.size w W0) := Lib.hid (by rw [hW0]; exact ((Below.refl w.heap.size w).alloc (Nat.le_refl _) _).alloc (grow1 _ _) _)
  have R0 : Hid (Blk W0 w.heap.size 31 [.slice A n c, .slice A' n' c', .int .i64 D.armed, .int .i64 (D.ops : Int)]) := Lib.hid (by rw [hW0]; exact (Blk.alloc (w := w.alloc _) (heap_alloc_new w _) _))
  have Z0 : Hid (Blk W0 (w.heap.size + 1) 31 [.slice none 0 0, .slice none 0 0, .int .i64 0, .int .i64 0]) := Lib.hid (by
    rw [hW0]
    have h := heap_alloc_new (w.alloc (.cells #[.slice A n c, .slice A' n' c', .int .i64 D.armed, .int .i64 (D.ops : Int)] 31)) (.cells #[.slice none 0 0, .slice none 0 0, .int .i64 0, .int .i64 0] 31)
    rw [show (w.alloc (.cells #[.slice A n c, .slice A' n' c', .int .i64 D.armed, .int .i64 (D.ops : Int)] 31)).heap.size = w.heap.size + 1 from by simp] at h
    exact h)
  obtain ⟨cap1, W1, hcv, hbts, bl1, hlt1, hcap1⟩ := conv_bytes t W0 (by omega)
  rw [htl] at hcv hcap1
  have HCV := Lib.hid hcv
  have R1 := Lib.hid (R0.out.keep bl1)
  have Z1 := Lib.hid (Z0.out.keep bl1)
  have B1 := Lib.hid (B0.out.trans (bl1.mono B0.out.size))
  obtain ⟨x1, f1⟩ := hbts j (by rw [htl]; exact hj)
  rw [← hx] at x1
  have hset := hbts.set_ j (UInt8.ofNat z) (by rw [htl]; exact hj)
  rw [hzt, ← HTZ.out] at hset
  obtain ⟨W2, hW2⟩ : ∃ W2, W2 = W1.setCell ⟨W0.heap.size, j, none⟩ (.int .u8 (z : Int)) := ⟨_, rfl⟩
  rw [← hW2] at hset
  have T2 := Lib.hid hset
  have lr0 := R0.out.lt
  have lz0 := Z0.out.lt
  have R2 : Hid (Blk W2 w.heap.size 31 [.slice A n c, .slice A' n' c', .int .i64 D.armed, .int .i64 (D.ops : Int)]) := Lib.hid (by rw [hW2]; exact R1.out.far (by show w.heap.size ≠ W0.heap.size; omega) _)
  have Z2 : Hid (Blk W2 (w.heap.size + 1) 31 [.slice none 0 0, .slice none 0 0, .int .i64 0, .int .i64 0]) := Lib.hid (by rw [hW2]; exact Z1.out.far (by show w.heap.size + 1 ≠ W0.heap.size; omega) _)
  have B2 : Hid (Below w.heap.size w W2) := Lib.hid (by rw [hW2]; exact B1.out.setCell (p := ⟨W0.heap.size, j, none⟩) B0.out.size _)
  have L2 : Hid (W0.heap.size < W2.heap.size) := Lib.hid (by rw [hW2]; simp [World.setCell]; exact hlt1)
  have L2E : Hid (W2.heap.size = W1.heap.size) := Lib.hid (by rw [hW2]; simp [World.setCell])
  have L0 := Lib.hid hlt1
  have l1 := Lib.hid R1.out.lt
  have l2 := Lib.hid Z1.out.lt
  obtain ⟨W3, hW3⟩ : ∃ W3, W3 = W2.alloc (.cells #[] 9) := ⟨_, rfl⟩
  have bl3 : Below W2.heap.size W2 W3 := by rw [hW3]; exact (Below.refl _ _).alloc (Nat.le_refl _) _
  have OW3 : Hid (W3.ownsRow W2.heap.size 9 1 (.slice (some ⟨W2.heap.size, 0, none⟩) 0 0) 0 []) := Lib.hid (by
    refine ⟨rfl, .inr ⟨W2.heap.size, 0, #[], rfl, Nat.le_refl _, ?_, Nat.le_refl _, by simp [maxLen], rfl, rfl⟩⟩
    rw [hW3]; exact heap_alloc_new W2 _)
  have S3 : Hid (W2.heap.size ≤ W3.heap.size) := Lib.hid bl3.size
  rw [L2E.out] at OW3 S3
  have R3 := Lib.hid (R2.out.keep bl3)
  have Z3 := Lib.hid (Z2.out.keep bl3)
  have B3 := Lib.hid (B2.out.trans (bl3.mono B2.out.size))
  have T3 := Lib.hid (T2.out.blk (bl3.block _ L2.out))
  have HSS := Lib.hid hS
  have HWW := Lib.hid hW
  have hp : 0 < n := by omega
  obtain ⟨b, rfl, hnews⟩ := (hS.keep B3.out).news hp
  have hcS : w.cell? ⟨b, i, none⟩ = some (.string (bs t)) := by
    obtain ⟨b', e, hc⟩ := hS.cellAt.2.2.2 i hin
    injection e with e
    injection e with e
    subst e
    rw [hc, ht]
  have hcS0 : W0.cell? ⟨b, i, none⟩ = some (.string (bs t)) := (B0.out.cell (p := ⟨b, i, none⟩) (block_lt_of_cell hcS)).trans hcS
  have HNEW := Lib.hid hnews
  have HSL : Hid ((strsV D.lasts).length = n) := Lib.hid (by rw [strsV_len]; exact HNL.out.symm)
  have HW0 := Lib.hid hW0
  have HW2 := Lib.hid hW2
  have HW3 := Lib.hid hW3
  have HT := Lib.hid hT
  have HTT := Lib.hid ht
  have hcnv : (convert 42 9 (.slice (some ⟨W0.heap.size, 0, none⟩) 128 cap1)).run Try.prog W3 = .ok (.string (bs T)) W3 := by
    have h := T3.out.conv cap1
    rwa [HTL.out] at h
  clear hS hW hnews hcS hT ht hx hz hW0 hW2 hW3 hset hbts bl1 bl3 hcv hzt hl hx8 lr0 lz0 hcnv
  go_enter Try.func29, Try.ntmps29
  rw [HW0.out] at hcS0
  obtain ⟨p0, p1, p2, p3⟩ := R3.out.fourR
  rw [HW3.out, HW2.out] at p0 p1 p2 p3
  go_wp2_with (first | (rw [← HW0.out]; refine wpList_conv_to rfl 9 42 _ rfl (.string (bs t)) rfl _ W1 HCV.out ?_) | (at_builtin; (try rw [← HW2.out, ← HW3.out]); refine wpList_append_own _ rfl _ _ 28 rfl W1.heap.size 9 i0 (.string ⟨#[]⟩) 1 16 Try.underlying28 hi hz0 hz1 hz2 rfl (by decide) _ _ _ rfl OW3.out ⟨b, 0, none⟩ n c (strsV D.lasts) rfl (by rw [HSL.out, Nat.mul_one]) HNEW.out (strsV_one _) (by simp only [maxLen]; omega) (by omega) S3.out ?_))
  intro v4 W4 hown hgr _
  clear p0 p1 p2 p3 hcS0 x1 f1
  have hown2 : W4.ownsRow W1.heap.size 9 1 v4 n (strsV D.lasts) := by simpa using hown
  obtain ⟨g, cap, junk, rfl, hg2, hnc, hcm, hblk⟩ := own_blk hown2 hp
  have bl : Below W1.heap.size W3 W4 := (Below.refl _ _).grown hgr S3.out (fun j hj => (OW3.out.lt j hj).1)
  have R4 := Lib.hid (R3.out.below bl l1.out)
  have Z4 := Lib.hid (Z3.out.below bl l2.out)
  have B4 := Lib.hid (B3.out.trans (bl.mono (Nat.le_of_lt l1.out)))
  have T4 := Lib.hid (T3.out.blk (bl.block _ L0.out))
  have gw : w.heap.size < g := by have := l1.out; omega
  have gw1 : w.heap.size + 1 < g := by have := l2.out; omega
  have gt : W0.heap.size < g := by have := L0.out; omega
  have w0 : w.heap.size < W0.heap.size := R0.out.lt
  have R5 := Lib.hid (R4.out.set_ 0 (.slice (some ⟨g, 0, none⟩) n cap))
  have Z5 := Lib.hid (Z4.out.far (p := ⟨w.heap.size, 0, none⟩) (by show w.heap.size + 1 ≠ w.heap.size; omega) (.slice (some ⟨g, 0, none⟩) n cap))
  have G5 := Lib.hid (hblk.far (p := ⟨w.heap.size, 0, none⟩) (by show g ≠ w.heap.size; omega) (.slice (some ⟨g, 0, none⟩) n cap))
  have B5 := Lib.hid (B4.out.setCell (p := ⟨w.heap.size, 0, none⟩) (Nat.le_refl _) (.slice (some ⟨g, 0, none⟩) n cap))
  have T5 := Lib.hid (T4.out.blk (Below.heap_setCell W4 ⟨w.heap.size, 0, none⟩ (.slice (some ⟨g, 0, none⟩) n cap) W0.heap.size (by show W0.heap.size ≠ w.heap.size; omega)))
  have HCO : Hid ((convert 42 9 (.slice (some ⟨W0.heap.size, 0, none⟩) 128 cap1)).run Try.prog (W4.setCell ⟨w.heap.size, 0, none⟩ (.slice (some ⟨g, 0, none⟩) n cap)) = .ok (.string (bs T)) (W4.setCell ⟨w.heap.size, 0, none⟩ (.slice (some ⟨g, 0, none⟩) n cap))) := Lib.hid (by
    have h := T5.out.conv cap1
    rwa [HTL.out] at h)
  have hil : i < D.lasts.length := by rw [← HNL.out]; exact hin
  have hgc : (W4.setCell ⟨w.heap.size, 0, none⟩ (.slice (some ⟨g, 0, none⟩) n cap)).cell? ⟨g, i, none⟩ = some (.string (bs (D.lasts[i]'hil))) := by
    rw [G5.out.cell]
    unfold strsV
    rw [List.getElem?_append_left (by rw [List.length_map]; exact hil), List.getElem?_map, List.getElem?_eq_getElem hil]
    rfl
  obtain ⟨u, hu⟩ : ∃ u, u = bs (D.lasts[i]'hil) := ⟨_, rfl⟩
  rw [← hu] at hgc
  have hgf := G5.out.frozen i
  have R6 := Lib.hid (R5.out.far (p := ⟨g, i, none⟩) (by show w.heap.size ≠ g; omega) (.string (bs T)))
  have Z6 := Lib.hid (Z5.out.far (p := ⟨g, i, none⟩) (by show w.heap.size + 1 ≠ g; omega) (.string (bs T)))
  have G6 : Hid (Blk ((W4.setCell ⟨w.heap.size, 0, none⟩ (.slice (some ⟨g, 0, none⟩) n cap)).setCell ⟨g, i, none⟩ (.string (bs T))) g 9 (strsV (D.lasts.set i T) ++ junk)) := Lib.hid (by
    have h := G5.out.set_ i (.string (bs T))
    rwa [strsV_set _ _ _ _ hil] at h)
  have B6 := Lib.hid (B5.out.setCell (p := ⟨g, i, none⟩) (Nat.le_of_lt gw) (.string (bs T)))
  obtain ⟨W7, run7, hR7, hB7, hK7⟩ := store_rd Z6.out (some ⟨g, 0, none⟩) n cap A' n' c' D.armed (D.ops : Int)
  have RUN7 := Lib.hid run7
  have R7 := Lib.hid hR7
  have B7 := Lib.hid (hB7 _ _ B6.out (Nat.le_succ _))
  have G7 := Lib.hid (hK7 _ _ _ G6.out (by omega))
  have HNC := Lib.hid hnc
  have HCM := Lib.hid hcm
  obtain ⟨r0, r1, r2, r3⟩ := R4.out.fourR
  have f0 := R4.out.frozen 0
  obtain ⟨s0, s1, s2, s3⟩ := R5.out.fourR
  obtain ⟨t0, t1, t2, t3⟩ := R6.out.fourR
  clear hown hown2 hgr bl hg2 hnc hcm hblk run7 hR7 hB7 hK7 gw gw1 gt w0 hu hil
  go_wp2_with (first | (refine wpList_conv_to rfl 42 9 _ rfl (.slice (some ⟨W0.heap.size, 0, none⟩) 128 cap1) rfl _ _ HCO.out ?_) | (refine wpList_store_to rfl 31 _ _ rfl ⟨w.heap.size + 1, 0, none⟩ rfl (.agg #[.slice (some ⟨g, 0, none⟩) n cap, .slice A' n' c', .int .i64 D.armed, .int .i64 (D.ops : Int)]) rfl W7 RUN7.out ?_))
  obtain ⟨e0, e1, e2, e3⟩ := R7.out.fourR
  refine bodyPost_ret (v := .agg #[.slice (some ⟨g, 0, none⟩) n cap, .slice A' n' c', .int .i64 D.armed, .int .i64 (D.ops : Int)]) (by simp [results, Try.results29, go_sem, e0, e1, e2, e3]) rfl ⟨_, _, _, rfl, ?_, HWW.out.keep B7.out, B7.out⟩
  rw [← HTT.out, ← HT.out]
  exact StrS.of_blk G7.out (by rw [List.length_set]; exact HNL.out) HNC.out HCM.out

end Go.Proofs.Ytciophpplpmmfaa
