/- A disk, and the document's, behind a store of a whole disk's value elsewhere. -/
import Derived.Test.YtciophpplpmmfaaRdH
namespace Go.Proofs.Ytciophpplpmmfaa
open Go.RowKit

theorem heap_put4 (w : World) (g : Nat) (a b c d : Value) (k : Nat) (h : k ≠ g) : ((((w.setCell ⟨g, 0, none⟩ a).setCell ⟨g, 1, none⟩ b).setCell ⟨g, 2, none⟩ c).setCell ⟨g, 3, none⟩ d).heap[k]? = w.heap[k]? := by
  rw [Below.heap_setCell _ ⟨g, 3, none⟩ _ k h, Below.heap_setCell _ ⟨g, 2, none⟩ _ k h, Below.heap_setCell _ ⟨g, 1, none⟩ _ k h, Below.heap_setCell _ ⟨g, 0, none⟩ _ k h]

/-- A disk, where all blocks but one that is no part of it are as they were. -/
theorem IsDisk.aside {base : Nat} {w w' : World} {p gl M : Nat} {v : Value} {D : DSt} (h : IsDisk base w p gl M v D) {g T : Nat} {cs : List Value} (hg : Blk w g T cs) (h1 : T ≠ 61) (h2 : T ≠ 73) (h3 : T ≠ 75) (hs : w.heap.size ≤ w'.heap.size) (he : ∀ k, k ≠ g → w'.heap[k]? = w.heap[k]?) : IsDisk base w' p gl M v D := by
  obtain ⟨k1, k2, k3, ⟨m, k4, k5⟩, k6⟩ := h
  have ne : ∀ k T' ds, Blk w k T' ds → T' ≠ T → k ≠ g := fun k T' ds hb hT e => by
    subst e
    have := hb.get
    rw [hg.get] at this
    injection this with this
    injection this with _ hh
    exact hT hh.symm
  have nM : M ≠ g := fun e => map_ne k4 hg e
  refine ⟨(he p (ne p _ _ k1 h1.symm)).trans k1, (he gl (ne gl _ _ k2 h2.symm)).trans k2, ?_, ⟨m, ?_, k5⟩, k6⟩
  · rcases k3 with k3 | ⟨k3, k7⟩
    · exact .inl k3
    · refine .inr ⟨k3, ?_⟩
      refine ⟨k7.1, ?_⟩
      rcases k7.2 with e1 | ⟨g', c', cur, e1, hb, hh, hr⟩
      · exact .inl e1
      · have hb2 : Blk w g' 75 cur.toList := by unfold Blk; rw [Array.toArray_toList]; exact hh
        exact .inr ⟨g', c', cur, e1, hb, (he g' (ne g' _ _ hb2 h3.symm)).trans hh, hr⟩
  · obtain ⟨es, cl, q1, q2⟩ := k4
    exact ⟨es, cl, (he M nM).trans q1, q2⟩
theorem RDk.aside {w w' : World} {A : Option Addr} {n c : Nat} {A' : Option Addr} {n' c' : Nat} {D : DSt} (h : RDk w A n c A' n' c' D) {g T : Nat} {cs : List Value} (hg : Blk w g T cs) (h1 : T ≠ 9) (h2 : T ≠ 82) (he : ∀ k, k ≠ g → w'.heap[k]? = w.heap[k]?) : RDk w' A n c A' n' c' D :=
  ⟨h.1.of fun b cs x => (he b (x.ne_ hg h1.symm)).trans x, h.2.1.of fun b cs x => (he b (x.ne_ hg h2.symm)).trans x, h.2.2⟩
theorem Keeps.aside {w w1 w2 : World} (h : Keeps w w1) {g : Nat} (hg : w.heap.size ≤ g) (he : ∀ k, k ≠ g → w2.heap[k]? = w1.heap[k]?) : Keeps w w2 := fun k t cs n1 n2 n3 hb => by
  have hk : k ≠ g := by have := hb.lt; omega
  exact (he k hk).trans (h k t cs n1 n2 n3 hb)
/-- A store of a whole disk's value, and what it leaves. -/
theorem store_rd2 {w : World} {g : Nat} {a b c d : Value} (h : Blk w g 31 [a, b, c, d]) (A : Option Addr) (n k : Nat) (A' : Option Addr) (n' k' : Nat) (x y : Int) :
    ∃ W', (Instr.storeAt 31 (.pointer (some ⟨g, 0, none⟩)) (.agg #[.slice A n k, .slice A' n' k', .int .i64 x, .int .i64 y])).run Try.prog w = .ok () W' ∧ Blk W' g 31 [.slice A n k, .slice A' n' k', .int .i64 x, .int .i64 y] ∧ (∀ B w0, Below B w0 w → B ≤ g → Below B w0 W') ∧ (∀ j, j ≠ g → W'.heap[j]? = w.heap[j]?) ∧ w.heap.size ≤ W'.heap.size :=
  ⟨((((w.setCell ⟨g, 0, none⟩ (.slice A n k)).setCell ⟨g, 1, none⟩ (.slice A' n' k')).setCell ⟨g, 2, none⟩ (.int .i64 x)).setCell ⟨g, 3, none⟩ (.int .i64 y)),
    run_storeAt_mid (P := Try.prog) w g 0 31 #[.slice A n k, .slice A' n' k', .int .i64 x, .int .i64 y] h.thereR (by kernel_rfl) (by simp [Value.oneCell']),
    h.putR _ _ _ _, fun B w0 hb hg => below_putR hb hg _ _ _ _, fun j hne => heap_put4 _ _ _ _ _ _ j hne, by simp [World.setCell]⟩
theorem Blk.sixR {w : World} {g t : Nat} {a b c d e f : Value} (h : Blk w g t [a, b, c, d, e, f]) : w.cell? ⟨g, 0, none⟩ = some a ∧ w.cell? ⟨g, 1, none⟩ = some b ∧ w.cell? ⟨g, 2, none⟩ = some c ∧ w.cell? ⟨g, 3, none⟩ = some d ∧ w.cell? ⟨g, 4, none⟩ = some e ∧ w.cell? ⟨g, 5, none⟩ = some f := ⟨h.cell 0, h.cell 1, h.cell 2, h.cell 3, h.cell 4, h.cell 5⟩
end Go.Proofs.Ytciophpplpmmfaa
