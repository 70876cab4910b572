/- What came in of slices of texts, and of bools. -/
import Derived.Test.YtbigpapniloknaaDoorLogF
import Derived.Deep.Slices
import Derived.Deep.Grids
namespace Go.Proofs.YtbigpapniloknaaDoor
open Go.RowKit Go.Deep Go.ChangeShapes Go.WideShapes
set_option maxRecDepth 100000

theorem ksl0_of_trod {H : Type} {enc : TypeId × Value → H} {w : World} {base : Nat} {held : Bool} {fuel : Nat} {u : Value} {x : DataW H × List MemPlace}
    (h : DataW.trod enc Tryd.prog w base (fun _ => true) held fuel 40 [u] = some x) : ∃ K kn kc ks, u = .slice K kn kc ∧ KSl w K kn ks ∧ (kn : Int) ≤ 9223372036854775807 := by
  rcases open_bools Tryd.underlying40 Tryd.underlying4 (by kernel_rfl) h with ⟨hcs, _⟩ | ⟨a, len, cap, B, hcs, _, hl, hm, _, hx⟩
  · injection hcs with e _
    exact ⟨none, 0, 0, [], e, ⟨rfl, fun h => absurd h (Nat.lt_irrefl _)⟩, by omega⟩
  · injection hcs with e _
    refine ⟨some a, len, cap, (List.range len).map B, e, ⟨by simp, fun hp => ?_⟩, by unfold maxLen at hm; omega⟩
    obtain ⟨b, o, spot⟩ := a
    have h0 := hx 0 (by omega)
    have hs : spot = none := by simpa [Addr.add] using World.cell?_spot h0
    subst hs
    refine ⟨b, o, rfl, fun j hj => ?_⟩
    have := hx j (by omega)
    rw [add_plain] at this
    rw [this, List.getD_eq_getElem?_getD, List.getElem?_map, List.getElem?_range hj]
    rfl

theorem strs_of_trod {H : Type} {enc : TypeId × Value → H} {w : World} {base : Nat} {held : Bool} {fuel : Nat} {u : Value} {x : DataW H × List MemPlace}
    (h : DataW.trod enc Tryd.prog w base (fun _ => true) held fuel 34 [u] = some x) : ∃ A n c ts, u = .slice A n c ∧ StrC w A n c ts ∧ ∀ j, (ts.getD j []).length ≤ 9223372036854775807 := by
  rcases open_slice Tryd.underlying34 h with ⟨hcs, _⟩ | ⟨a, len, cap, m, n, D, Pl, hcs, _, hl, hm, hmm, _, hx⟩
  · injection hcs with e _
    exact ⟨none, 0, 0, [], e, ⟨rfl, Nat.le_refl _, by omega, fun h => absurd h (Nat.lt_irrefl _)⟩, fun j => by simp⟩
  · injection hcs with e _
    have ce : Tryd.prog.cellsOf 9 = 1 := by kernel_rfl
    have each : ∀ i, i < len → ∃ q : List UInt8, q.length ≤ 9223372036854775807 ∧ w.cell? (a.add i) = some (.string (bs q)) := by
      intro i hi
      have him : i < m := by rw [hmm]; simp; omega
      obtain ⟨cs', h1, h2⟩ := hx i him
      rw [ce, Nat.mul_one] at h1
      obtain ⟨_, hlen, hcell⟩ := World.cells?_some h1
      obtain ⟨s, e0, _, w0⟩ := DataW.trod_string Tryd.underlying9 h2
      subst e0
      refine ⟨s.data.toList, by rw [Array.length_toList]; have : s.size ≤ maxLen := w0; unfold maxLen at this; show s.size ≤ _; omega, ?_⟩
      have := hcell 0 (by omega)
      rw [bs_of]
      simpa [Addr.add] using this
    obtain ⟨l, hl2⟩ := choose_lt each
    refine ⟨some a, len, cap, (List.range len).map l, e, ⟨by simp, hl, by unfold maxLen at hm; omega, fun hp => ?_⟩, fun j => ?_⟩
    · obtain ⟨b, o, spot⟩ := a
      have h0 := (hl2 0 hp).2
      have hs : spot = none := by simpa [Addr.add] using World.cell?_spot h0
      subst hs
      refine ⟨b, o, rfl, ?_, fun j hj => ?_⟩
      · have := block_lt_of_cell h0
        simpa [Addr.add] using this
      · have := (hl2 j hj).2
        rw [add_plain] at this
        rw [this, List.getD_eq_getElem?_getD, List.getElem?_map, List.getElem?_range hj]
        rfl
    · rw [List.getD_eq_getElem?_getD, List.getElem?_map]
      by_cases hj : j < len
      · rw [List.getElem?_range hj]; exact (hl2 j hj).1
      · rw [List.getElem?_eq_none (by simp; omega)]; exact Nat.zero_le _
end Go.Proofs.YtbigpapniloknaaDoor
