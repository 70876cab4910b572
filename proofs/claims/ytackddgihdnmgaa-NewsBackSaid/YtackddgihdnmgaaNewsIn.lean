/- What came in of rows. -/
import Derived.Test.YtackddgihdnmgaaNewsG
import Derived.Deep.Slices
import Derived.Deep.Grids
namespace Go.Proofs.Ytackddgihdnmgaa
open Go.RowKit Go.Deep Go.ChangeShapes Go.WideShapes

theorem rows_of_trod {H : Type} {enc : TypeId × Value → H} {w : World} {base : Nat} {held : Bool} {fuel : Nat} {u : Value} {x : DataW H × List MemPlace}
    (h : DataW.trod enc Try.prog w base (fun _ => true) held fuel 36 [u] = some x) : ∃ A n c rs, u = .slice A n c ∧ n ≤ c ∧ c ≤ maxLen ∧ Rws w A n rs := by
  rcases open_slice Try.underlying36 h with ⟨hcs, _⟩ | ⟨a, len, cap, m, n, D, Pl, hcs, _, hl, hm, hmm, _, hx⟩
  · injection hcs with e _
    exact ⟨none, 0, 0, [], e, Nat.le_refl _, by simp [maxLen], Rws.nil _ _⟩
  · injection hcs with e _
    have ce : Try.prog.cellsOf 65 = 2 := by kernel_rfl
    have each : ∀ i, i < len → ∃ q : RowT, q.1 < 4294967296 ∧ q.2 < 4294967296 ∧ w.cell? (a.add (i * 2)) = some (.int .u32 (q.1 : Int)) ∧ w.cell? (a.add (i * 2 + 1)) = some (.int .u32 (q.2 : Int)) := by
      intro i hi
      have him : i < m := by rw [hmm]; simp; omega
      obtain ⟨cs', h1, h2⟩ := hx i him
      rw [ce] at h1
      obtain ⟨_, hlen, hcell⟩ := World.cells?_some h1
      obtain ⟨xs, k, hk, hxy, _, hxl, hf⟩ := DataW.trod_struct Try.underlying65 h2
      match xs, hxl, cs', hlen with
      | [y0, y1], _, [v0, v1], _ =>
        have c4 : Try.prog.cellsOf 23 = 1 := by kernel_rfl
        have g0 := hf 0 _ rfl
        have g1 := hf 1 _ rfl
        simp [c4] at g0 g1
        obtain ⟨n0, e0, _, w0⟩ := DataW.trod_int Try.underlying23 g0
        obtain ⟨n1, e1, _, w1⟩ := DataW.trod_int Try.underlying23 g1
        injection e0 with e0 _
        injection e1 with e1 _
        subst e0 e1
        have b0 := bounds_u32 w0
        have b1 := bounds_u32 w1
        have k0 := hcell 0 (by decide)
        have k1 := hcell 1 (by decide)
        rw [add_add] at k0 k1
        refine ⟨(n0.toNat, n1.toNat), by show n0.toNat < 4294967296; omega, by show n1.toNat < 4294967296; omega, ?_, ?_⟩
        · rw [show i * 2 = i * 2 + 0 from rfl, k0]
          show _ = some (Value.int .u32 ((n0.toNat : Nat) : Int))
          rw [Int.toNat_of_nonneg b0.1]
          rfl
        · rw [k1]
          show _ = some (Value.int .u32 ((n1.toNat : Nat) : Int))
          rw [Int.toNat_of_nonneg b1.1]
          rfl
    obtain ⟨l, hl2⟩ := choose_lt each
    have hget : ∀ j, j < len → ((List.range len).map l).getD j (0, 0) = l j := fun j hj => by
      rw [List.getD_eq_getElem?_getD, List.getElem?_map, List.getElem?_range hj]; rfl
    refine ⟨some a, len, cap, (List.range len).map l, e, hl, hm, by simp, fun j hj => by rw [hget j hj]; exact ⟨(hl2 j hj).1, (hl2 j hj).2.1⟩, fun hp => ?_⟩
    obtain ⟨b, o, spot⟩ := a
    have h0 := (hl2 0 hp).2.2.1
    have hs : spot = none := by simpa [Addr.add] using World.cell?_spot h0
    subst hs
    refine ⟨b, o, rfl, fun j hj => ?_⟩
    rw [hget j hj]
    obtain ⟨_, _, q1, q2⟩ := hl2 j hj
    rw [add_plain] at q1 q2
    exact ⟨q1, by rw [Nat.add_assoc]; exact q2⟩

end Go.Proofs.Ytackddgihdnmgaa
