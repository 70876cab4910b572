/- The contract of the document's Write of a slot. The contract of the document's Write of a slot, whole; what an act of layer 15's law makes of a disk. -/
import Derived.Test.YtbekebpkaeefiaaDoorJRsa
import Derived.Test.YtbekebpkaeefiaaDoorJSlm
namespace Go.Proofs.YtbekebpkaeefiaaDoor
set_option maxRecDepth 100000
open Go.RowKit

set_option maxHeartbeats 4000000 in
theorem ref_Write15_out (w : World) (A : Option Addr) (n c : Nat) (A' : Option Addr) (n' c' : Nat) (D : DSt) (hn : n ≤ 4096) (i r : Int) (gen : Nat) (t : List UInt8) (hl : liesB n i r = false) :
    Calls Tryd.prog 10 #[rdV A n c A' n' c' D, .int .i64 i, .int .i64 r, .int .u64 (gen : Int), .string (bs t)] w fun e w' => e = .returned (.tuple #[rdV A n c A' n' c' D, .int .i64 5]) ∧ Below w.heap.size w w' := by
  have HM : Hid (∀ W, Calls Tryd.prog 39 #[rdV A n c A' n' c' D, .int .i64 i, .int .i64 r] W fun e w' => e = .returned (.bool false) ∧ Below W.heap.size W w') := Lib.hid (fun W => by rw [← hl]; exact ref_May W A n c A' n' c' D hn i r)
  unfold rdV at HM ⊢
  obtain ⟨W0, hW0⟩ : ∃ W0, W0 = (w.alloc (.cells #[.slice A n c, .slice A' n' c', .int .i64 D.armed, .int .i64 (D.ops : Int)] 31)).alloc (.cells #[.slice none 0 0, .slice none 0 0, .int .i64 0, .int .i64 0] 31) := ⟨_, rfl⟩
  have B0 : Hid (Below w.heap.size w W0) := Lib.hid (by rw [hW0]; exact ((Below.refl _ _).alloc (Nat.le_refl _) _).alloc (by simp) _)
  have R0 : Hid (Blk W0 w.heap.size 31 [.slice A n c, .slice A' n' c', .int .i64 D.armed, .int .i64 (D.ops : Int)]) := Lib.hid (by
    rw [hW0]
    exact Blk.alloc (heap_alloc_new w _) _)
  have Q0 : Hid (Blk W0 (w.heap.size + 1) 31 [.slice none 0 0, .slice none 0 0, .int .i64 0, .int .i64 0]) := Lib.hid (by
    have hx := Blk.box4 (w.alloc (.cells #[.slice A n c, .slice A' n' c', .int .i64 D.armed, .int .i64 (D.ops : Int)] 31)) 31 (.slice none 0 0) (.slice none 0 0) (.int .i64 0) (.int .i64 0)
    rw [World.size_alloc] at hx
    rw [hW0]; exact hx)
  clear hl
  go_enter Tryd.func10, Tryd.ntmps10
  go_wp2_with fail
  rw [← hW0]
  refine (HM.out _).mono ?_
  rintro e w1 ⟨rfl, hb1⟩
  have R1 := Lib.hid (R0.out.keep hb1)
  have Q1 := Lib.hid (Q0.out.keep hb1)
  have B1 := Lib.hid (B0.out.trans (hb1.mono B0.out.size))
  obtain ⟨r0, r1, r2, r3⟩ := R1.out.fourR
  obtain ⟨q0, q1, q2, q3⟩ := Q1.out.fourR
  have f0 := Q1.out.frozen 0
  have f1 := Q1.out.frozen 1
  have f2 := Q1.out.frozen 2
  have f3 := Q1.out.frozen 3
  clear hb1 hW0
  go_wp2_with fail
  obtain ⟨d0, d1, d2, d3⟩ := (Q1.out.putR (.slice A n c) (.slice A' n' c') (.int .i64 D.armed) (.int .i64 (D.ops : Int))).fourR
  refine bodyPost_ret (v := .tuple #[.agg #[.slice A n c, .slice A' n' c', .int .i64 D.armed, .int .i64 (D.ops : Int)], .int .i64 5]) (by simp [results, Tryd.results10, go_sem, d0, d1, d2, d3]) rfl ⟨rfl, ?_⟩
  exact below_put4 B1.out (Nat.le_succ _) _ _ _ _
set_option maxHeartbeats 4000000 in
theorem ref_Write15_long (w : World) (A : Option Addr) (n c : Nat) (A' : Option Addr) (n' c' : Nat) (D : DSt) (hn : n ≤ 4096) (fr room : Nat) (gen : Nat) (t : List UInt8) (hl : liesB n (fr : Int) (room : Int) = true) (hr : room ≤ 4096) (ht : t.length ≤ 400000) (hg : 110 * room < t.length + 4) :
    Calls Tryd.prog 10 #[rdV A n c A' n' c' D, .int .i64 (fr : Int), .int .i64 (room : Int), .int .u64 (gen : Int), .string (bs t)] w fun e w' => e = .returned (.tuple #[rdV A n c A' n' c' D, .int .i64 11]) ∧ Below w.heap.size w w' := by
  have HM : Hid (∀ W, Calls Tryd.prog 39 #[rdV A n c A' n' c' D, .int .i64 (fr : Int), .int .i64 (room : Int)] W fun e w' => e = .returned (.bool true) ∧ Below W.heap.size W w') := Lib.hid (fun W => by rw [← hl]; exact ref_May W A n c A' n' c' D hn _ _)
  have hsz := bs_size t
  have hd : decide (110 * (room : Int) < (t.length : Int) + 4) = true := decide_eq_true (by omega)
  unfold rdV at HM ⊢
  obtain ⟨W0, hW0⟩ : ∃ W0, W0 = (w.alloc (.cells #[.slice A n c, .slice A' n' c', .int .i64 D.armed, .int .i64 (D.ops : Int)] 31)).alloc (.cells #[.slice none 0 0, .slice none 0 0, .int .i64 0, .int .i64 0] 31) := ⟨_, rfl⟩
  have B0 : Hid (Below w.heap.size w W0) := Lib.hid (by rw [hW0]; exact ((Below.refl _ _).alloc (Nat.le_refl _) _).alloc (by simp) _)
  have R0 : Hid (Blk W0 w.heap.size 31 [.slice A n c, .slice A' n' c', .int .i64 D.armed, .int .i64 (D.ops : Int)]) := Lib.hid (by
    rw [hW0]
    exact Blk.alloc (heap_alloc_new w _) _)
  have Q0 : Hid (Blk W0 (w.heap.size + 1) 31 [.slice none 0 0, .slice none 0 0, .int .i64 0, .int .i64 0]) := Lib.hid (by
    have hx := Blk.box4 (w.alloc (.cells #[.slice A n c, .slice A' n' c', .int .i64 D.armed, .int .i64 (D.ops : Int)] 31)) 31 (.slice none 0 0) (.slice none 0 0) (.int .i64 0) (.int .i64 0)
    rw [World.size_alloc] at hx
    rw [hW0]; exact hx)
  clear hl
  go_enter Tryd.func10, Tryd.ntmps10
  go_wp2_with fail
  rw [← hW0]
  refine (HM.out _).mono ?_
  rintro e w1 ⟨rfl, hb1⟩
  have R1 := Lib.hid (R0.out.keep hb1)
  have Q1 := Lib.hid (Q0.out.keep hb1)
  have B1 := Lib.hid (B0.out.trans (hb1.mono B0.out.size))
  obtain ⟨r0, r1, r2, r3⟩ := R1.out.fourR
  obtain ⟨q0, q1, q2, q3⟩ := Q1.out.fourR
  have f0 := Q1.out.frozen 0
  have f1 := Q1.out.frozen 1
  have f2 := Q1.out.frozen 2
  have f3 := Q1.out.frozen 3
  clear hb1 hW0
  go_wp2_with fail
  obtain ⟨d0, d1, d2, d3⟩ := (Q1.out.putR (.slice A n c) (.slice A' n' c') (.int .i64 D.armed) (.int .i64 (D.ops : Int))).fourR
  refine bodyPost_ret (v := .tuple #[.agg #[.slice A n c, .slice A' n' c', .int .i64 D.armed, .int .i64 (D.ops : Int)], .int .i64 11]) (by simp [results, Tryd.results10, go_sem, d0, d1, d2, d3]) rfl ⟨rfl, ?_⟩
  exact below_put4 B1.out (Nat.le_succ _) _ _ _ _

theorem recsV_at : ∀ (L : List RecT) (j : Nat) (hj : j < L.length), (recsV L)[j * 4]? = some (.int .u8 ((L[j]).1 : Int)) ∧ (recsV L)[j * 4 + 1]? = some (.int .u64 ((L[j]).2.1 : Int)) ∧ (recsV L)[j * 4 + 2]? = some (.int .u32 ((L[j]).2.2.1 : Int)) ∧ (recsV L)[j * 4 + 3]? = some (.string (bs (L[j]).2.2.2))
  | x :: L, 0, _ => ⟨rfl, rfl, rfl, rfl⟩
  | x :: L, j + 1, hj => by
    have ih := recsV_at L j (by simpa using hj)
    have e : recsV (x :: L) = recC x ++ recsV L := by simp [recsV]
    have hl : (recC x).length = 4 := rfl
    have h4 : (j + 1) * 4 = j * 4 + 4 := by omega
    rw [e, h4]
    refine ⟨?_, ?_, ?_, ?_⟩
    · rw [List.getElem?_append_right (by omega), hl, Nat.add_sub_cancel]; exact ih.1
    · rw [List.getElem?_append_right (by omega), hl, show j * 4 + 4 + 1 - 4 = j * 4 + 1 by omega]; exact ih.2.1
    · rw [List.getElem?_append_right (by omega), hl, show j * 4 + 4 + 2 - 4 = j * 4 + 2 by omega]; exact ih.2.2.1
    · rw [List.getElem?_append_right (by omega), hl, show j * 4 + 4 + 3 - 4 = j * 4 + 3 by omega]; exact ih.2.2.2
/-- What a walk reads of the parts. -/
theorem own_recs {base N : Nat} {w : World} {v : Value} {L : List RecT} (h : w.ownsRow base 97 4 v N (recsV L)) (hN : 0 < N) (hL : L.length = N) :
    ∃ g cap, v = .slice (some ⟨g, 0, none⟩) N cap ∧ N ≤ cap ∧ base ≤ g ∧ g < w.heap.size ∧ ∀ j (hj : j < L.length), w.cell? ⟨g, j * 4, none⟩ = some (.int .u8 ((L[j]).1 : Int)) ∧ w.cell? ⟨g, j * 4 + 1, none⟩ = some (.int .u64 ((L[j]).2.1 : Int)) ∧ w.cell? ⟨g, j * 4 + 2, none⟩ = some (.int .u32 ((L[j]).2.2.1 : Int)) ∧ w.cell? ⟨g, j * 4 + 3, none⟩ = some (.string (bs (L[j]).2.2.2)) := by
  have hc := fun g (hg : v.ownBlock = some g) => h.cells hg
  have hlt := h.lt
  rcases h.2 with ⟨_, h0⟩ | ⟨g, cap, cur, rfl, hb, hh, hcap, _⟩
  · omega
  · refine ⟨g, cap, rfl, hcap, hb, (hlt g rfl).2, fun j hj => ?_⟩
    obtain ⟨a1, a2, a3, a4⟩ := recsV_at L j hj
    have ha : ∀ k, (⟨g, 0, none⟩ : Addr).add k = ⟨g, k, none⟩ := fun k => by unfold Addr.add; split <;> simp_all
    have q := hc g rfl
    exact ⟨by have := q _ _ a1; rwa [ha] at this, by have := q _ _ a2; rwa [ha] at this, by have := q _ _ a3; rwa [ha] at this, by have := q _ _ a4; rwa [ha] at this⟩

theorem partsL_get (gen : Nat) (t : List UInt8) (j : Nat) (hj : j < (partsL gen t).length) : (partsL gen t)[j] = partAt gen (sumT t) j := by
  simp only [partsL, partsK, List.getElem_map, List.getElem_range]
theorem wr_stop {D : DSt} {fr : Nat} {l m : List RecT} (h : (wrParts D fr l).2 ≠ 0) : wrParts D fr (l ++ m) = wrParts D fr l := by rw [wrParts_append, if_neg h]

/-- Four stores into one block, told as one world. -/
theorem put_rd2 {w : World} {g T : Nat} {a b c d : Value} (h : Blk w g T [a, b, c, d]) (x y z u : Value) :
    ∃ X, X = (((w.setCell ⟨g, 0, none⟩ x).setCell ⟨g, 1, none⟩ y).setCell ⟨g, 2, none⟩ z).setCell ⟨g, 3, none⟩ u ∧ Blk X g T [x, y, z, u] ∧ (∀ B w0, Below B w0 w → B ≤ g → Below B w0 X) ∧ (∀ k, k ≠ g → X.heap[k]? = w.heap[k]?) ∧ X.heap.size = w.heap.size :=
  ⟨_, rfl, h.putR _ _ _ _, fun B w0 hb hg => below_putR hb hg _ _ _ _, fun j hne => heap_put4 _ _ _ _ _ _ j hne, by simp [World.setCell]⟩
theorem RDk.asideX {w w' : World} {A : Option Addr} {n c : Nat} {A' : Option Addr} {n' c' : Nat} {D : DSt} (h : RDk w A n c A' n' c' D) {g : Nat} {cs : List Value} (hg : Blk w g 31 cs) (he : ∀ k, k ≠ g → w'.heap[k]? = w.heap[k]?) : RDk w' A n c A' n' c' D :=
  h.aside hg (by decide) (by decide) he

set_option maxHeartbeats 8000000 in
theorem ref_Write15_main (w : World) (A : Option Addr) (n c : Nat) (A' : Option Addr) (n' c' : Nat) (D : DSt) (h : RDk w A n c A' n' c' D) (hs : SmallN 5000 D) (hn : n ≤ 4096) (fr room : Nat) (gen : Nat) (t : List UInt8) (hl : liesB n (fr : Int) (room : Int) = true) (hfr : fr + room ≤ n) (ht : t.length ≤ 400000) (hg : t.length + 4 ≤ 110 * room) (hgen : gen < 18446744073709551616) :
    Calls Tryd.prog 10 #[rdV A n c A' n' c' D, .int .i64 (fr : Int), .int .i64 (room : Int), .int .u64 (gen : Int), .string (bs t)] w fun e w' => ∃ B m d B' m' d', e = .returned (.tuple #[rdV B m d B' m' d' (wrParts D fr (partsL gen t)).1, .int .i64 (((wrParts D fr (partsL gen t)).2 : Nat) : Int)]) ∧ RDk w' B m d B' m' d' (wrParts D fr (partsL gen t)).1 ∧ Below w.heap.size w w' := by
  have HM : Hid (∀ W, Calls Tryd.prog 39 #[rdV A n c A' n' c' D, .int .i64 (fr : Int), .int .i64 (room : Int)] W fun e w' => e = .returned (.bool true) ∧ Below W.heap.size W w') := Lib.hid (fun W => by rw [← hl]; exact ref_May W A n c A' n' c' D hn _ _)
  have hsz := bs_size t
  have hd : decide (110 * (room : Int) < (t.length : Int) + 4) = false := decide_eq_false (by omega)
  have HPA := Lib.hid (fun W => ref_Parts t gen W ht)
  obtain ⟨L, hL⟩ : ∃ L, L = partsL gen t := ⟨_, rfl⟩
  have hLl : L.length = partN (sumT t) := by rw [hL, partsL_len]
  have hNr : partN (sumT t) ≤ room := partN_le _ (by rw [sumT_len]; exact hg)
  have HLO : Hid (∀ x ∈ L, RecOk x) := Lib.hid (fun x hx => (partsL_ok hgen ht (by rw [← hL]; exact hx)).1)
  have HLI : Hid (∀ j (hj : j < L.length), (L[j]).2.2.1 = j) := Lib.hid (fun j hj => by subst hL; rw [partsL_get]; rfl)
  have hNp : 0 < partN (sumT t) := by unfold partN; rw [sumT_len]; omega
  obtain ⟨N, hN⟩ : ∃ N, N = partN (sumT t) := ⟨_, rfl⟩
  rw [← hL, ← hN] at HPA
  rw [← hN] at hLl hNr hNp
  rw [← hL]
  have HK := Lib.hid h
  have HSM := Lib.hid hs
  unfold rdV at HM
  unfold rdV
  obtain ⟨W0, hW0⟩ : ∃ W0, W0 = (w.alloc (.cells #[.slice A n c, .slice A' n' c', .int .i64 D.armed, .int .i64 (D.ops : Int)] 31)).alloc (.cells #[.slice none 0 0, .slice none 0 0, .int .i64 0, .int .i64 0] 31) := ⟨_, rfl⟩
  have B0 : Hid (Below w.heap.size w W0) := Lib.hid (by rw [hW0]; exact ((Below.refl _ _).alloc (Nat.le_refl _) _).alloc (by simp) _)
  have R0 : Hid (Blk W0 w.heap.size 31 [.slice A n c, .slice A' n' c', .int .i64 D.armed, .int .i64 (D.ops : Int)]) := Lib.hid (by
    rw [hW0]
    exact Blk.alloc (heap_alloc_new w _) _)
  have Q0 : Hid (Blk W0 (w.heap.size + 1) 31 [.slice none 0 0, .slice none 0 0, .int .i64 0, .int .i64 0]) := Lib.hid (by
    have hx := Blk.box4 (w.alloc (.cells #[.slice A n c, .slice A' n' c', .int .i64 D.armed, .int .i64 (D.ops : Int)] 31)) 31 (.slice none 0 0) (.slice none 0 0) (.int .i64 0) (.int .i64 0)
    rw [World.size_alloc] at hx
    rw [hW0]; exact hx)
  clear h hl hs hL hN
  go_enter Tryd.func10, Tryd.ntmps10
  go_wp2_with fail
  rw [← hW0]
  refine (HM.out _).mono ?_
  rintro e w1 ⟨rfl, hb1⟩
  have hs0 : W0.heap.size = w.heap.size + 1 + 1 := by rw [hW0]; simp
  have R1 := Lib.hid (R0.out.keep hb1)
  have Q1 := Lib.hid (Q0.out.keep hb1)
  have B1 := Lib.hid (B0.out.trans (hb1.mono B0.out.size))
  have K1 : Hid (RDk w1 A n c A' n' c' D) := Lib.hid ((by rw [hW0]; exact (HK.out.keep ((Below.refl _ _).alloc (Nat.le_refl _) _)).keep ((Below.refl _ _).alloc (Nat.le_refl _) _) : RDk W0 A n c A' n' c' D).keep hb1)
  have hs1 : w.heap.size + 2 ≤ w1.heap.size := by have := hb1.size; omega
  clear hb1 hW0 R0 Q0 B0 HK hs0 HM
  go_wp2_with fail
  refine (HPA.out _).mono ?_
  rintro e w2 ⟨v, rfl, ho, hb2⟩
  have R2 := Lib.hid (R1.out.keep hb2)
  have Q2 := Lib.hid (Q1.out.keep hb2)
  have B2 := Lib.hid (B1.out.trans (hb2.mono B1.out.size))
  have K2 := Lib.hid (K1.out.keep hb2)
  obtain ⟨gp, cap, rfl, hcap, hgb, hgl, hcells⟩ := own_recs ho hNp hLl
  have HCE := Lib.hid hcells
  have hgw : w.heap.size + 2 ≤ gp := by omega
  clear ho hb2 hcells R1 Q1 B1 K1 HPA
  go_wp2_with fail
  go_loopw [13] (fun iv wr => ∃ (i : Nat) (B : Option Addr) (m d : Nat) (B' : Option Addr) (m' d' : Nat) (E : DSt), iv = .int .i64 i ∧ i ≤ N ∧ m ≤ 4096 ∧ Hid (wrParts D fr (L.take i) = (E, 0)) ∧ Hid (SmallN (5000 - i) E) ∧ Hid (RDk wr B m d B' m' d' E) ∧ Hid (Blk wr w.heap.size 31 [.slice B m d, .slice B' m' d', .int .i64 E.armed, .int .i64 (E.ops : Int)]) ∧ Hid (Blk wr (w.heap.size + 1) 31 [.slice none 0 0, .slice none 0 0, .int .i64 0, .int .i64 0]) ∧ Hid (w2.heap.size ≤ wr.heap.size ∧ ∀ j, w.heap.size + 2 ≤ j → j < w2.heap.size → wr.heap[j]? = w2.heap[j]?) ∧ Hid (Below w.heap.size w wr)) (fun iv _ => N - (intOf iv).toNat)
  case atStart => exact ⟨0, A, n, c, A', n', c', D, rfl, Nat.zero_le _, hn, Lib.hid rfl, HSM, K2, R2, Q2, Lib.hid ⟨Nat.le_refl _, fun _ _ _ => rfl⟩, B2⟩
  case round =>
    obtain ⟨i, B, m, d, B', m', d', E, rfl, hi, hm4, HW, HS, HK, HR, HQ, HF, HB⟩ := hrel
    clear R2 Q2 B2 K2 HSM
    by_cases hlt : i < N
    · have hd2 : decide ((i : Int) < (N : Int)) = true := decide_eq_true (by omega)
      have hd2' : decide (i < N) = true := decide_eq_true hlt
      have hiw : IntKind.i64.wrap ((i : Int) + 1) = (i : Int) + 1 := IntWalk.i64_in _ (by omega)
      have hfw : IntKind.i64.wrap ((fr : Int) + (i : Int)) = (fr : Int) + (i : Int) := IntWalk.i64_in _ (by omega)
      have hiL : i < L.length := by omega
      have hcx := HCE.out i hiL
      have hrok := HLO.out _ (List.getElem_mem hiL)
      have hix := HLI.out i hiL
      have htk : L.take (i + 1) = L.take i ++ [L[i]] := List.take_succ_eq_append_getElem hiL
      obtain ⟨⟨k, g1, ix, dt⟩, hx⟩ : ∃ x, L[i] = x := ⟨_, rfl⟩
      rw [hx] at hcx hrok hix htk
      dsimp only at hcx hix
      subst hix
      have hfw2 : (((fr + ix : Nat)) : Int) = (fr : Int) + (ix : Int) := by omega
      have hgx : wr.heap[gp]? = w2.heap[gp]? := HF.out.2 gp hgw hgl
      have x0 := (World.cell?_of_block (a := ⟨gp, ix * 4, none⟩) hgx).trans hcx.1
      have x1 := (World.cell?_of_block (a := ⟨gp, ix * 4 + 1, none⟩) hgx).trans hcx.2.1
      have x2 := (World.cell?_of_block (a := ⟨gp, ix * 4 + 2, none⟩) hgx).trans hcx.2.2.1
      have x3 := (World.cell?_of_block (a := ⟨gp, ix * 4 + 3, none⟩) hgx).trans hcx.2.2.2
      obtain ⟨s, hs⟩ : ∃ s, s = secL k g1 ix dt := ⟨_, rfl⟩
      have hsl : s.length = 128 := by rw [hs]; exact secL_len _ _ _ _ hrok.2.2.2
      have HCL := Lib.hid (fun W => ref_Close_ok k g1 ix dt W hrok.1 hrok.2.1 hrok.2.2.1 hrok.2.2.2)
      rw [← hs] at HCL
      obtain ⟨F, hF⟩ : ∃ F, F = (wrD E ((fr + ix : Nat) : Int) s).1 := ⟨_, rfl⟩
      obtain ⟨cF, hcF⟩ : ∃ c, c = (wrD E ((fr + ix : Nat) : Int) s).2 := ⟨_, rfl⟩
      have HNX : Hid (wrParts D fr (L.take (ix + 1)) = (F, cF)) := Lib.hid (by
        rw [htk, wrParts_append, HW.out, if_pos rfl, wrParts_one, hF, hcF, hs])
      have HPU : Hid (∀ W, RDk W B m d B' m' d' E → Calls Tryd.prog 20 #[.agg #[.slice B m d, .slice B' m' d', .int .i64 E.armed, .int .i64 (E.ops : Int)], .int .i64 ((fr : Int) + (ix : Int)), .string (bs s)] W fun e w' => ∃ B2 m2 d2 B2' m2' d2', e = .returned (.tuple #[.agg #[.slice B2 m2 d2, .slice B2' m2' d2', .int .i64 F.armed, .int .i64 (F.ops : Int)], .int .i64 (cF : Int)]) ∧ RDk w' B2 m2 d2 B2' m2' d2' F ∧ Below W.heap.size W w') := Lib.hid (fun W hk => by
        have hq := ref_Put12 W B m d B' m' d' E ((fr + ix : Nat) : Int) s hk (HS.out.small) hm4 (by omega)
        rw [← hF, ← hcF, hfw2] at hq
        exact hq)
      have HS2 : Hid (SmallN (5000 - (ix + 1)) F) := Lib.hid (by
        rw [hF]
        have := HS.out
        rw [show 5000 - ix = (5000 - (ix + 1)) + 1 by omega] at this
        exact this.wr _ _)
      have HFL : Hid (F.lasts.length = E.lasts.length) := Lib.hid (by rw [hF, wrD_lasts])
      obtain ⟨r0, r1, r2, r3⟩ := HR.out.fourR
      clear hcx hrok htk hx hgx hs hF hcF HW HS
      go_wp2_with fail
      refine (HCL.out _).mono ?_
      rintro e w3 ⟨rfl, hb3⟩
      have K3 := Lib.hid (HK.out.keep hb3)
      have R3 := Lib.hid (HR.out.keep hb3)
      have Q3 := Lib.hid (HQ.out.keep hb3)
      have B3 := Lib.hid (HB.out.trans (hb3.mono HB.out.size))
      have F3 : Hid (w2.heap.size ≤ w3.heap.size ∧ ∀ j, w.heap.size + 2 ≤ j → j < w2.heap.size → w3.heap[j]? = w2.heap[j]?) := Lib.hid ⟨Nat.le_trans HF.out.1 hb3.size, fun j a b => (hb3.block j (Nat.lt_of_lt_of_le b HF.out.1)).trans (HF.out.2 j a b)⟩
      obtain ⟨r0, r1, r2, r3⟩ := R3.out.fourR
      clear hb3 HCL HK HR HQ HB HF x0 x1 x2 x3
      go_wp2_with fail
      refine (HPU.out _ K3.out).mono ?_
      rintro e w4 ⟨B2, m2, d2, B2', m2', d2', rfl, hk4, hb4⟩
      have hm2 : m2 ≤ 4096 := by have q1 := hk4.len.1; have q2 := K3.out.len.1; have := HFL.out; omega
      have R4 := Lib.hid (R3.out.keep hb4)
      have Q4 := Lib.hid (Q3.out.keep hb4)
      have B4 := Lib.hid (B3.out.trans (hb4.mono B3.out.size))
      have F4 : Hid (w2.heap.size ≤ w4.heap.size ∧ ∀ j, w.heap.size + 2 ≤ j → j < w2.heap.size → w4.heap[j]? = w2.heap[j]?) := Lib.hid ⟨Nat.le_trans F3.out.1 hb4.size, fun j a b => (hb4.block j (Nat.lt_of_lt_of_le b F3.out.1)).trans (F3.out.2 j a b)⟩
      have K4 := Lib.hid hk4
      have h40 : w.heap.size < w4.heap.size := R4.out.lt
      have h41 : w.heap.size + 1 < w4.heap.size := Q4.out.lt
      obtain ⟨r0, r1, r2, r3⟩ := R4.out.fourR
      obtain ⟨q0, q1, q2, q3⟩ := Q4.out.fourR
      have f0 := R4.out.frozen 0
      have f1 := R4.out.frozen 1
      have f2 := R4.out.frozen 2
      have f3 := R4.out.frozen 3
      have p0 := Q4.out.frozen 0
      have p1 := Q4.out.frozen 1
      have p2 := Q4.out.frozen 2
      have p3 := Q4.out.frozen 3
      clear hk4 hb4 R3 Q3 B3 F3 K3 HPU HFL
      by_cases hc : cF = 0
      · have e1 : ((cF : Int) != 0) = false := by rw [bne_eq_false_iff_eq]; omega
        have HNX2 : Hid (wrParts D fr (L.take (ix + 1)) = (F, 0)) := Lib.hid (by rw [HNX.out, hc])
        clear HNX hc
        obtain ⟨X, hX, x1, x2, x3, x4⟩ := put_rd2 R4.out (.slice B2 m2 d2) (.slice B2' m2' d2') (.int .i64 F.armed) (.int .i64 (F.ops : Int))
        have HX := Lib.hid hX
        have KX := Lib.hid (K4.out.asideX R4.out x3)
        have RX := Lib.hid x1
        have QX : Hid (Blk X (w.heap.size + 1) 31 [.slice none 0 0, .slice none 0 0, .int .i64 0, .int .i64 0]) := Lib.hid ((x3 _ (by omega)).trans Q4.out)
        have BX := Lib.hid (x2 _ _ B4.out (Nat.le_refl _))
        have FX : Hid (w2.heap.size ≤ X.heap.size ∧ ∀ j, w.heap.size + 2 ≤ j → j < w2.heap.size → X.heap[j]? = w2.heap[j]?) := Lib.hid ⟨by rw [x4]; exact F4.out.1, fun j a b => (x3 j (by omega)).trans (F4.out.2 j a b)⟩
        clear hX x1 x2 x3 x4
        go_wp2_with fail
        rw [← HX.out]
        have ba : ∀ o, Below X.heap.size X (X.alloc o) := fun o => (Below.refl _ _).alloc (Nat.le_refl _) o
        exact ⟨⟨ix + 1, B2, m2, d2, B2', m2', d2', F, by go_num, by omega, hm2, HNX2, HS2, Lib.hid (KX.out.keep (ba _)), Lib.hid (RX.out.keep (ba _)), Lib.hid (QX.out.keep (ba _)), Lib.hid ⟨Nat.le_trans FX.out.1 (grow1 _ _), fun j a b => ((ba _).block j (Nat.lt_of_lt_of_le b FX.out.1)).trans (FX.out.2 j a b)⟩, Lib.hid (BX.out.alloc BX.out.size _)⟩, by simp [intOf]; omega⟩
      · have e1 : ((cF : Int) != 0) = true := by rw [bne_iff_ne]; omega
        have HE : Hid (wrParts D fr L = (F, cF)) := Lib.hid (by
          have hx := wr_stop (D := D) (fr := fr) (l := L.take (ix + 1)) (m := L.drop (ix + 1)) (by rw [HNX.out]; exact hc)
          rw [List.take_append_drop, HNX.out] at hx
          exact hx)
        obtain ⟨X, hX, x1, x2, x3, x4⟩ := put_rd2 Q4.out (.slice B2 m2 d2) (.slice B2' m2' d2') (.int .i64 F.armed) (.int .i64 (F.ops : Int))
        have HX := Lib.hid hX
        have KX := Lib.hid (K4.out.asideX Q4.out x3)
        have QX := Lib.hid x1
        have BX := Lib.hid (x2 _ _ B4.out (Nat.le_succ _))
        clear HNX hX x1 x2 x3 x4
        go_wp2_with fail
        rw [← HX.out]
        obtain ⟨Y, hY⟩ : ∃ Y, Y = X.alloc (.cells #[.slice B2 m2 d2, .slice B2' m2' d2', .int .i64 F.armed, .int .i64 (F.ops : Int)] 31) := ⟨_, rfl⟩
        have ba : Below X.heap.size X Y := by rw [hY]; exact (Below.refl _ _).alloc (Nat.le_refl _) _
        rw [← hY]
        obtain ⟨d0, d1, d2x, d3⟩ := (QX.out.keep ba).fourR
        rw [HE.out]
        refine bodyPost_ret (v := .tuple #[.agg #[.slice B2 m2 d2, .slice B2' m2' d2', .int .i64 F.armed, .int .i64 (F.ops : Int)], .int .i64 (cF : Int)]) (by simp [results, Tryd.results10, go_sem, d0, d1, d2x, d3]) rfl ⟨B2, m2, d2, B2', m2', d2', rfl, KX.out.keep ba, ?_⟩
        rw [hY]
        exact BX.out.alloc BX.out.size _
    · obtain rfl : i = N := by omega
      have hd2 : decide ((i : Int) < (i : Int)) = false := decide_eq_false (by omega)
      have hd2' : decide (i < i) = false := decide_eq_false (by omega)
      obtain ⟨r0, r1, r2, r3⟩ := HR.out.fourR
      obtain ⟨q0, q1, q2, q3⟩ := HQ.out.fourR
      have f0 := HQ.out.frozen 0
      have f1 := HQ.out.frozen 1
      have f2 := HQ.out.frozen 2
      have f3 := HQ.out.frozen 3
      have HE : Hid (wrParts D fr L = (E, 0)) := Lib.hid (by rw [← HW.out, List.take_of_length_le (by omega)])
      obtain ⟨X, hX, x1, x2, x3, x4⟩ := put_rd2 HQ.out (.slice B m d) (.slice B' m' d') (.int .i64 E.armed) (.int .i64 (E.ops : Int))
      have HX := Lib.hid hX
      have KX := Lib.hid (HK.out.asideX HQ.out x3)
      have BX := Lib.hid (x2 _ _ HB.out (Nat.le_succ _))
      have QX := Lib.hid x1
      clear hX x1 x2 x3 x4
      go_wp2_with fail
      rw [← HX.out]
      obtain ⟨d0, d1, d2x, d3⟩ := QX.out.fourR
      rw [HE.out]
      exact bodyPost_ret (v := .tuple #[.agg #[.slice B m d, .slice B' m' d', .int .i64 E.armed, .int .i64 (E.ops : Int)], .int .i64 0]) (by simp [results, Tryd.results10, go_sem, d0, d1, d2x, d3]) rfl ⟨B, m, d, B', m', d', rfl, KX.out, BX.out⟩
end Go.Proofs.YtbekebpkaeefiaaDoor

namespace Go.Proofs.YtbekebpkaeefiaaDoor
set_option maxRecDepth 100000
open Go.RowKit

theorem ref_Write15 (w : World) (A : Option Addr) (n c : Nat) (A' : Option Addr) (n' c' : Nat) (D : DSt) (h : RDk w A n c A' n' c' D) (hs : SmallN 5000 D) (hn : n ≤ 4096) (i r : Int) (gen : Nat) (t : List UInt8) (ht : t.length ≤ 400000) (hgen : gen < 18446744073709551616) :
    Calls Tryd.prog 10 #[rdV A n c A' n' c' D, .int .i64 i, .int .i64 r, .int .u64 (gen : Int), .string (bs t)] w fun e w' => ∃ B m d B' m' d', e = .returned (.tuple #[rdV B m d B' m' d' (slotW D i r gen t).1, .int .i64 (((slotW D i r gen t).2 : Nat) : Int)]) ∧ RDk w' B m d B' m' d' (slotW D i r gen t).1 ∧ Below w.heap.size w w' := by
  have hln := h.len.1
  unfold slotW
  cases hl : liesB n i r with
  | false =>
    rw [← hln, hl, if_pos rfl]
    exact (ref_Write15_out w A n c A' n' c' D hn i r gen t hl).mono fun e w' ⟨e1, hb⟩ => ⟨A, n, c, A', n', c', e1, h.keep hb, hb⟩
  | true =>
    rw [← hln, hl, if_neg (by decide)]
    obtain ⟨fr, room, rfl, rfl, hr1, hr2⟩ := liesB_iff.1 hl
    by_cases hg : 110 * room < t.length + 4
    · rw [if_pos (by omega)]
      exact (ref_Write15_long w A n c A' n' c' D hn fr room gen t hl (by omega) ht hg).mono fun e w' ⟨e1, hb⟩ => ⟨A, n, c, A', n', c', e1, h.keep hb, hb⟩
    · rw [if_neg (by omega), Int.toNat_natCast]
      exact ref_Write15_main w A n c A' n' c' D h hs hn fr room gen t hl (by omega) ht (by omega) hgen

theorem wrParts_lasts (fr : Nat) : ∀ (l : List RecT) (D : DSt), (wrParts D fr l).1.lasts = D.lasts
  | [], D => rfl
  | x :: l, D => by
    unfold wrParts
    split
    · rw [wrParts_lasts fr l, wrD_lasts]
    · exact wrD_lasts _ _ _
theorem slotW_lasts (D : DSt) (i r : Int) (gen : Nat) (t : List UInt8) : (slotW D i r gen t).1.lasts = D.lasts := by
  unfold slotW
  split
  · rfl
  split
  · rfl
  exact wrParts_lasts _ _ _
end Go.Proofs.YtbekebpkaeefiaaDoor
