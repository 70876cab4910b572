/- A disk where a block that is no part of it was written. -/
import Derived.Test.YtcnbpajlocoocaaDoorDiskH
namespace Go.Proofs.YtcnbpajlocoocaaDoor
set_option maxRecDepth 100000
open Go.RowKit

theorem heap_put4 (w : World) (g : Nat) (a b c d : Value) (k : Nat) (h : k ≠ g) : ((((w.setCell ⟨g, 0, none⟩ a).setCell ⟨g, 1, none⟩ b).setCell ⟨g, 2, none⟩ c).setCell ⟨g, 3, none⟩ d).heap[k]? = w.heap[k]? := by
  rw [Below.heap_setCell _ ⟨g, 3, none⟩ _ k h, Below.heap_setCell _ ⟨g, 2, none⟩ _ k h, Below.heap_setCell _ ⟨g, 1, none⟩ _ k h, Below.heap_setCell _ ⟨g, 0, none⟩ _ k h]

/-- A disk, where all blocks but one that is no part of it are as they were. -/
theorem IsDisk.aside {base : Nat} {w w' : World} {p gl M : Nat} {v : Value} {D : DSt} (h : IsDisk base w p gl M v D) {g T : Nat} {cs : List Value} (hg : Blk w g T cs) (h1 : T ≠ 75) (h2 : T ≠ 81) (h3 : T ≠ 83) (hs : w.heap.size ≤ w'.heap.size) (he : ∀ k, k ≠ g → w'.heap[k]? = w.heap[k]?) : IsDisk base w' p gl M v D := by
  obtain ⟨k1, k2, k3, ⟨m, k4, k5⟩, k6⟩ := h
  have ne : ∀ k T' ds, Blk w k T' ds → T' ≠ T → k ≠ g := fun k T' ds hb hT e => by
    subst e
    have := hb.get
    rw [hg.get] at this
    injection this with this
    injection this with _ hh
    exact hT hh.symm
  have nM : M ≠ g := fun e => map_ne k4 hg e
  refine ⟨(he p (ne p _ _ k1 h1.symm)).trans k1, (he gl (ne gl _ _ k2 h2.symm)).trans k2, ?_, ⟨m, ?_, k5⟩, k6⟩
  · rcases k3 with k3 | ⟨k3, k7⟩
    · exact .inl k3
    · refine .inr ⟨k3, ?_⟩
      refine ⟨k7.1, ?_⟩
      rcases k7.2 with e1 | ⟨g', c', cur, e1, hb, hh, hr⟩
      · exact .inl e1
      · have hb2 : Blk w g' 83 cur.toList := by unfold Blk; rw [Array.toArray_toList]; exact hh
        exact .inr ⟨g', c', cur, e1, hb, (he g' (ne g' _ _ hb2 h3.symm)).trans hh, hr⟩
  · obtain ⟨es, cl, q1, q2⟩ := k4
    exact ⟨es, cl, (he M nM).trans q1, q2⟩
theorem Keeps.aside {w w1 w2 : World} (h : Keeps w w1) {g : Nat} (hg : w.heap.size ≤ g) (he : ∀ k, k ≠ g → w2.heap[k]? = w1.heap[k]?) : Keeps w w2 := ⟨fun k t cs n1 n2 n3 hb => by
  have hk : k ≠ g := by have := hb.lt; omega
  exact (he k hk).trans (h k t cs n1 n2 n3 hb), fun k o hk n1 n2 => by
  have hk' : k ≠ g := by have := (Array.getElem?_eq_some_iff.1 hk).1; omega
  exact (he k hk').trans (h.oth k o hk n1 n2)⟩
theorem size_put4 (w : World) (g : Nat) (a b c d : Value) : w.heap.size ≤ ((((w.setCell ⟨g, 0, none⟩ a).setCell ⟨g, 1, none⟩ b).setCell ⟨g, 2, none⟩ c).setCell ⟨g, 3, none⟩ d).heap.size := by simp [World.setCell]
theorem IsDisk.put4 {base : Nat} {w : World} {p gl M : Nat} {v : Value} {D : DSt} (h : IsDisk base w p gl M v D) {g T : Nat} {cs : List Value} (hg : Blk w g T cs) (h1 : T ≠ 75) (h2 : T ≠ 81) (h3 : T ≠ 83) (a b c d : Value) :
    IsDisk base ((((w.setCell ⟨g, 0, none⟩ a).setCell ⟨g, 1, none⟩ b).setCell ⟨g, 2, none⟩ c).setCell ⟨g, 3, none⟩ d) p gl M v D := h.aside hg h1 h2 h3 (size_put4 _ _ _ _ _ _) (fun k hk => heap_put4 _ _ _ _ _ _ k hk)
theorem IsDisk.put1 {base : Nat} {w : World} {p gl M : Nat} {v : Value} {D : DSt} (h : IsDisk base w p gl M v D) {g T : Nat} {cs : List Value} (hg : Blk w g T cs) (h1 : T ≠ 75) (h2 : T ≠ 81) (h3 : T ≠ 83) (i : Nat) (a : Value) :
    IsDisk base (w.setCell ⟨g, i, none⟩ a) p gl M v D := h.aside hg h1 h2 h3 (by simp [World.setCell]) (fun k hk => Below.heap_setCell _ ⟨g, i, none⟩ _ k hk)
theorem Keeps.put4' {w0 w : World} (h : Keeps w0 w) {g : Nat} (hg : w0.heap.size ≤ g) (a b c d : Value) : Keeps w0 ((((w.setCell ⟨g, 0, none⟩ a).setCell ⟨g, 1, none⟩ b).setCell ⟨g, 2, none⟩ c).setCell ⟨g, 3, none⟩ d) := h.aside hg (fun k hk => heap_put4 _ _ _ _ _ _ k hk)
theorem Keeps.put1' {w0 w : World} (h : Keeps w0 w) {g : Nat} (hg : w0.heap.size ≤ g) (i : Nat) (a : Value) : Keeps w0 (w.setCell ⟨g, i, none⟩ a) := h.aside hg (fun k hk => Below.heap_setCell _ ⟨g, i, none⟩ _ k hk)
theorem Keeps.drew' {w0 w : World} (h : Keeps w0 w) : Keeps w0 w.drew := h.trans (Keeps.of_below (Below.refl _ _).drew)
theorem Blk.far4' {w : World} {g g' t : Nat} {cs : List Value} (h : Blk w g t cs) (hne : g ≠ g') (a b c d : Value) : Blk ((((w.setCell ⟨g', 0, none⟩ a).setCell ⟨g', 1, none⟩ b).setCell ⟨g', 2, none⟩ c).setCell ⟨g', 3, none⟩ d) g t cs :=
  (((h.far (p := ⟨g', 0, none⟩) hne a).far (p := ⟨g', 1, none⟩) hne b).far (p := ⟨g', 2, none⟩) hne c).far (p := ⟨g', 3, none⟩) hne d
end Go.Proofs.YtcnbpajlocoocaaDoor
