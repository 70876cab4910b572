/- A table's counts as a function of their places; how they lie in cells; comparing two. -/
import Derived.Test.YthoahengdajpcaaMem
import Derived.Deep.MidRow
import Derived.Deep.WholeRow
import Derived.DeepKeys
import Derived.Laws.StructEq
namespace Go.Proofs.Ythoahengdajpcaa
open Go.RowKit
set_option maxRecDepth 100000

/-- The first n counts of f as cells. -/
def fcs (f : Nat → Nat) (n : Nat) : List Value := (List.range n).map fun j => .int .u32 (f j : Int)
/-- A table's cells: 17 rows of 8 counts, and the last round. -/
def tcs (f : Nat → Nat) (L : Nat) : List Value := fcs f 136 ++ [.int .u64 (L : Int)]
def upd (f : Nat → Nat) (j v : Nat) : Nat → Nat := fun i => if i = j then v else f i
/-- Row i, laid anew. -/
def setR (f : Nat → Nat) (i : Nat) (r : Nat → Nat) : Nat → Nat := fun j => if 8 * i ≤ j ∧ j < 8 * i + 8 then r (j - 8 * i) else f j
def rowOf (f : Nat → Nat) (i : Nat) : Nat → Nat := fun k => f (8 * i + k)
/-- Counts fit. -/
def Fits (f : Nat → Nat) : Prop := ∀ j, f j < 4294967296

theorem fcs_len (f : Nat → Nat) (n : Nat) : (fcs f n).length = n := by simp [fcs]
theorem fcs_get (f : Nat → Nat) (n j : Nat) (h : j < n) : (fcs f n)[j]? = some (.int .u32 (f j : Int)) := by
  unfold fcs; rw [List.getElem?_map, List.getElem?_range h]; rfl
theorem fcs_none (f : Nat → Nat) (n j : Nat) (h : n ≤ j) : (fcs f n)[j]? = none := by
  rw [List.getElem?_eq_none]; rw [fcs_len]; exact h
theorem fcs_congr {f g : Nat → Nat} {n : Nat} (h : ∀ j, j < n → f j = g j) : fcs f n = fcs g n := by
  unfold fcs
  exact List.map_congr_left fun j hj => by rw [h j (List.mem_range.1 hj)]
theorem fcs_one (f : Nat → Nat) (n : Nat) : ∀ u ∈ fcs f n, u.oneCell' = true := by
  intro u hu
  obtain ⟨x, _, rfl⟩ := List.mem_map.1 hu
  rfl
theorem tcs_len (f : Nat → Nat) (L : Nat) : (tcs f L).length = 137 := by
  unfold tcs; rw [List.length_append, fcs_len]; rfl
theorem tcs_get (f : Nat → Nat) (L j : Nat) (h : j < 136) : (tcs f L)[j]? = some (.int .u32 (f j : Int)) := by
  unfold tcs; rw [List.getElem?_append_left (by rw [fcs_len]; exact h)]; exact fcs_get f 136 j h
theorem tcs_last (f : Nat → Nat) (L : Nat) : (tcs f L)[136]? = some (.int .u64 (L : Int)) := by
  unfold tcs; rw [List.getElem?_append_right (by rw [fcs_len]; exact Nat.le_refl _), fcs_len]; rfl
theorem tcs_none (f : Nat → Nat) (L j : Nat) (h : 137 ≤ j) : (tcs f L)[j]? = none := by
  rw [List.getElem?_eq_none]; rw [tcs_len]; exact h
theorem tcs_one (f : Nat → Nat) (L : Nat) : ∀ u ∈ tcs f L, u.oneCell' = true := by
  intro u hu
  unfold tcs at hu
  rcases List.mem_append.1 hu with h | h
  · exact fcs_one f 136 u h
  · rw [List.mem_singleton.1 h]; rfl
theorem tcs_congr {f g : Nat → Nat} {L M : Nat} (h : ∀ j, j < 136 → f j = g j) (hL : L = M) : tcs f L = tcs g M := by
  unfold tcs; rw [fcs_congr h, hL]

/-- Two lists of a table's length are one, if they have the same places. -/
theorem tcs_ext {cs : List Value} {f : Nat → Nat} {L : Nat} (hl : cs.length = 137) (h : ∀ j, j < 136 → cs[j]? = some (.int .u32 (f j : Int))) (h2 : cs[136]? = some (.int .u64 (L : Int))) : cs = tcs f L := by
  refine List.ext_getElem? fun j => ?_
  rcases Nat.lt_or_ge j 136 with h1 | h1
  · rw [h j h1, tcs_get f L j h1]
  · rcases Nat.lt_or_ge j 137 with h3 | h3
    · obtain rfl : j = 136 := by omega
      rw [h2, tcs_last]
    · rw [tcs_none f L j h3, List.getElem?_eq_none (by omega)]
theorem fcs_ext {cs : List Value} {f : Nat → Nat} {n : Nat} (hl : cs.length = n) (h : ∀ j, j < n → cs[j]? = some (.int .u32 (f j : Int))) : cs = fcs f n := by
  refine List.ext_getElem? fun j => ?_
  rcases Nat.lt_or_ge j n with h1 | h1
  · rw [h j h1, fcs_get f n j h1]
  · rw [fcs_none f n j h1, List.getElem?_eq_none (by omega)]

theorem tcs_set (f : Nat → Nat) (L j v : Nat) (h : j < 136) : (tcs f L).set j (.int .u32 (v : Int)) = tcs (upd f j v) L := by
  refine tcs_ext (by rw [List.length_set, tcs_len]) (fun i hi => ?_) ?_
  · rw [List.getElem?_set]
    unfold upd
    by_cases e : j = i
    · subst e
      rw [if_pos rfl, if_pos (by rw [tcs_len]; omega), if_pos rfl]
    · rw [if_neg e, tcs_get f L i hi, if_neg (fun x => e x.symm)]
  · rw [List.getElem?_set, if_neg (by omega), tcs_last]
theorem tcs_setL (f : Nat → Nat) (L M : Nat) : (tcs f L).set 136 (.int .u64 (M : Int)) = tcs f M := by
  refine tcs_ext (by rw [List.length_set, tcs_len]) (fun i hi => ?_) ?_
  · rw [List.getElem?_set, if_neg (by omega), tcs_get f L i hi]
  · rw [List.getElem?_set, if_pos rfl, if_pos (by rw [tcs_len]; omega)]
theorem fcs_set (f : Nat → Nat) (n j v : Nat) (h : j < n) : (fcs f n).set j (.int .u32 (v : Int)) = fcs (upd f j v) n := by
  refine fcs_ext (by rw [List.length_set, fcs_len]) fun i hi => ?_
  rw [List.getElem?_set]
  unfold upd
  by_cases e : j = i
  · subst e
    rw [if_pos rfl, if_pos (by rw [fcs_len]; omega), if_pos rfl]
  · rw [if_neg e, fcs_get f n i hi, if_neg (fun x => e x.symm)]

theorem Fits.upd {f : Nat → Nat} (h : Fits f) (j v : Nat) (hv : v < 4294967296) : Fits (upd f j v) := fun i => by
  show (if i = j then v else f i) < _
  split
  · exact hv
  · exact h i
theorem Fits.row {f : Nat → Nat} (h : Fits f) (i : Nat) : Fits (rowOf f i) := fun k => h _
theorem Fits.setR {f r : Nat → Nat} (h : Fits f) (hr : Fits r) (i : Nat) : Fits (setR f i r) := fun j => by
  show (if 8 * i ≤ j ∧ j < 8 * i + 8 then r (j - 8 * i) else f j) < _
  split
  · exact hr _
  · exact h j
theorem Fits.zero : Fits (fun _ => 0) := fun _ => by show 0 < 4294967296; decide

/-- What is stored of a block's cells from o on. -/
theorem tb_setCells {g t : Nat} : ∀ (vs : List Value) (o : Nat) (cs : List Value) (w : World), Blk w g t cs → o + vs.length ≤ cs.length → Blk (w.setCells g o vs) g t (cs.take o ++ (vs ++ cs.drop (o + vs.length)))
  | [], o, cs, w, h, _ => by
    have e : cs.take o ++ ([] ++ cs.drop (o + ([] : List Value).length)) = cs := by simp
    rw [e]; exact h
  | v :: r, o, cs, w, h, hl => by
    have h1 := tb_setCells r (o + 1) (cs.set o v) (w.setCell ⟨g, o, none⟩ v) (h.set_ o v) (by rw [List.length_set]; simp at hl; omega)
    have e : (cs.set o v).take (o + 1) ++ (r ++ (cs.set o v).drop (o + 1 + r.length)) = cs.take o ++ (v :: r ++ cs.drop (o + (v :: r).length)) := by
      have ho : o < cs.length := by simp at hl; omega
      rw [List.set_eq_take_append_cons_drop, if_pos ho, List.take_append, List.drop_append, List.length_take, Nat.min_eq_left (by omega), List.take_take, List.drop_take]
      have e1 : o + 1 - o = 1 := by omega
      have e2 : o + 1 + r.length - o = r.length + 1 := by omega
      have e3 : o - (o + 1 + r.length) = 0 := by omega
      rw [e1, e2, e3, Nat.min_eq_right (by omega)]
      simp [List.drop_drop, Nat.add_comm, Nat.add_left_comm, Nat.add_assoc]
    rw [e] at h1
    exact h1
theorem tb_heap (g : Nat) : ∀ (vs : List Value) (o : Nat) (w : World) (k : Nat), k ≠ g → (w.setCells g o vs).heap[k]? = w.heap[k]?
  | [], _, _, _, _ => rfl
  | v :: r, o, w, k, h => by
    show ((w.setCell ⟨g, o, none⟩ v).setCells g (o + 1) r).heap[k]? = _
    rw [tb_heap g r (o + 1) _ k h]
    exact Below.heap_setCell _ _ _ _ h
theorem tb_size (g : Nat) : ∀ (vs : List Value) (o : Nat) (w : World), (w.setCells g o vs).heap.size = w.heap.size
  | [], _, _ => rfl
  | v :: r, o, w => by
    show ((w.setCell ⟨g, o, none⟩ v).setCells g (o + 1) r).heap.size = _
    rw [tb_size g r (o + 1)]
    simp [World.setCell]
theorem Below.setCellsT {B g : Nat} {a w : World} (h : Below B a w) (hg : B ≤ g) : ∀ (vs : List Value) (o : Nat), Below B a (w.setCells g o vs) := fun vs => by
  induction vs generalizing w with
  | nil => intro o; exact h
  | cons v r ih => intro o; exact ih (h.setCell (p := ⟨g, o, none⟩) hg v) (o + 1)
theorem Blk.farT {w : World} {g g' t : Nat} {cs : List Value} (h : Blk w g' t cs) (hne : g' ≠ g) (o : Nat) (vs : List Value) : Blk (w.setCells g o vs) g' t cs := (tb_heap g vs o w g' hne).trans h

theorem Blk.rangeT {w : World} {g t o n : Nat} {cs vs : List Value} (h : Blk w g t cs) (hv : ∀ j, j < n → cs[o + j]? = vs[j]?) (hl : vs.length = n) : w.rangeAt g o vs := fun j v hj => by
  have hjn : j < n := by rw [← hl]; exact (List.getElem?_eq_some_iff.1 hj).1
  rw [h.cell, hv j hjn, hj]
theorem Blk.thereT {w : World} {g t o n : Nat} {cs : List Value} (h : Blk w g t cs) (hl : o + n ≤ cs.length) : w.there g o n := fun j hj => by
  refine ⟨?_, h.frozen _⟩
  rw [h.cell, List.getElem?_eq_getElem (by omega)]
  rfl

/-- Of a table's block: the whole, a row, all contacts' rows. -/
theorem Blk.whole {w : World} {g t : Nat} {cs : List Value} (h : Blk w g t cs) : w.rangeAt g 0 cs := h.rangeT (n := cs.length) (fun j _ => by rw [Nat.zero_add]) rfl
theorem Blk.rowAt {w : World} {g t L i : Nat} {f : Nat → Nat} (h : Blk w g t (tcs f L)) (hi : i < 17) : w.rangeAt g (8 * i) (fcs (rowOf f i) 8) := h.rangeT (n := 8) (fun j hj => by
  rw [tcs_get f L _ (by omega), fcs_get _ 8 j hj]; rfl) (fcs_len _ _)
theorem Blk.rowsAt {w : World} {g t L : Nat} {f : Nat → Nat} (h : Blk w g t (tcs f L)) : w.rangeAt g 8 (fcs (fun j => f (8 + j)) 128) := h.rangeT (n := 128) (fun j hj => by
  rw [tcs_get f L _ (by omega), fcs_get _ 128 j hj]) (fcs_len _ _)
theorem Blk.setRow_ {w : World} {g t L i : Nat} {f : Nat → Nat} (h : Blk w g t (tcs f L)) (hi : i < 17) (r : Nat → Nat) : Blk (w.setCells g (8 * i) (fcs r 8)) g t (tcs (setR f i r) L) := by
  have h1 := tb_setCells (fcs r 8) (8 * i) (tcs f L) w h (by rw [fcs_len, tcs_len]; omega)
  have e : (tcs f L).take (8 * i) ++ (fcs r 8 ++ (tcs f L).drop (8 * i + (fcs r 8).length)) = tcs (setR f i r) L := by
    refine tcs_ext ?_ (fun j hj => ?_) ?_
    · rw [List.length_append, List.length_append, List.length_take, List.length_drop, tcs_len, fcs_len]; omega
    · unfold setR
      rcases Nat.lt_or_ge j (8 * i) with h2 | h2
      · rw [List.getElem?_append_left (by rw [List.length_take, tcs_len]; omega), List.getElem?_take_of_lt h2, tcs_get f L j hj, if_neg (by omega)]
      · rw [List.getElem?_append_right (by rw [List.length_take, tcs_len]; omega), List.length_take, tcs_len, Nat.min_eq_left (by omega)]
        rcases Nat.lt_or_ge j (8 * i + 8) with h3 | h3
        · rw [List.getElem?_append_left (by rw [fcs_len]; omega), fcs_get r 8 _ (by omega), if_pos ⟨h2, h3⟩]
        · rw [List.getElem?_append_right (by rw [fcs_len]; omega), fcs_len, List.getElem?_drop, show 8 * i + 8 + (j - 8 * i - 8) = j from by omega, tcs_get f L j hj, if_neg (by omega)]
    · rw [List.getElem?_append_right (by rw [List.length_take, tcs_len]; omega), List.length_take, tcs_len, Nat.min_eq_left (by omega), List.getElem?_append_right (by rw [fcs_len]; omega), fcs_len, List.getElem?_drop, show 8 * i + 8 + (136 - 8 * i - 8) = 136 from by omega, tcs_last]
  rw [e] at h1
  exact h1
theorem Blk.setWhole {w : World} {g t : Nat} {cs : List Value} (h : Blk w g t cs) (vs : List Value) (hl : vs.length = cs.length) : Blk (w.setCells g 0 vs) g t vs := by
  have h1 := tb_setCells vs 0 cs w h (by omega)
  rw [List.take_zero, List.nil_append, Nat.zero_add, List.drop_eq_nil_of_le (by omega), List.append_nil] at h1
  exact h1
theorem alloc_setCells (w : World) (t : TypeId) (Z vs : List Value) (hl : vs.length = Z.length) : (w.alloc (.cells Z.toArray t)).setCells w.heap.size 0 vs = w.alloc (.cells vs.toArray t) := by
  have h1 := (show Blk (w.alloc (.cells Z.toArray t)) w.heap.size t Z from heap_alloc_new w _).setWhole vs hl
  have hs := tb_size w.heap.size vs 0 (w.alloc (.cells Z.toArray t))
  have hh : ((w.alloc (.cells Z.toArray t)).setCells w.heap.size 0 vs).heap = (w.alloc (.cells vs.toArray t)).heap := by
    apply Array.ext_getElem?
    intro i
    by_cases e : i = w.heap.size
    · subst e
      rw [show ((w.alloc (.cells Z.toArray t)).setCells w.heap.size 0 vs).heap[w.heap.size]? = _ from h1]
      exact (heap_alloc_new w _).symm
    · rw [tb_heap _ _ _ _ _ e]
      rcases Nat.lt_or_ge i w.heap.size with h2 | h2
      · rw [Below.heap_alloc w _ i h2, Below.heap_alloc w _ i h2]
      · rw [Array.getElem?_eq_none (by simp; omega), Array.getElem?_eq_none (by simp; omega)]
  have hrest : ∀ (vs : List Value) (o : Nat) (X : World) (g : Nat), (X.setCells g o vs).tape = X.tape ∧ (X.setCells g o vs).drawn = X.drawn ∧ (X.setCells g o vs).os = X.os ∧ (X.setCells g o vs).output = X.output := by
    intro vs
    induction vs with
    | nil => intro o X g; exact ⟨rfl, rfl, rfl, rfl⟩
    | cons v r ih => intro o X g; exact ih (o + 1) (X.setCell ⟨g, o, none⟩ v) g
  obtain ⟨q1, q2, q3, q4⟩ := hrest vs 0 (w.alloc (.cells Z.toArray t)) w.heap.size
  generalize hX : (w.alloc (.cells Z.toArray t)).setCells w.heap.size 0 vs = X at *
  obtain ⟨x1, x2, x3, x4, x5⟩ := X
  simp only at q1 q2 q3 q4 hh
  rw [q1, q2, q3, q4, hh]
  rfl
end Go.Proofs.Ythoahengdajpcaa
