/- The statement NatReads walked: whatever the words are, it returns true and writes nothing that was there. -/
import Derived.Test.YtmjinhieeflkgaaLawA
import Derived.Test.YtmjinhieeflkgaaRefC
import Derived.OpenShut
namespace Go.Proofs.Ytmjinhieeflkgaa
open Go.RowKit

/-- A slice of integers that came in, as the row's frame hands it. -/
def RowOf (k : IntKind) (w : World) (a : Option Addr) (len cap : Nat) (zs : List Int) : Prop :=
  (a = none ∧ len = 0 ∧ cap = 0 ∧ zs = []) ∨
  ∃ x, a = some x ∧ len ≤ cap ∧ cap ≤ maxLen ∧ zs.length = cap ∧ (∀ i, i < zs.length → w.cell? (x.add i) = some (.int k (zs.getD i 0))) ∧ ∀ n ∈ zs, (Lit.int k n).wf = true

theorem RowOf.sl {w : World} {a : Option Addr} {len cap : Nat} {zs : List Int} (h : RowOf .u64 w a len cap zs) : ∃ xs, Sl .u64 w a len cap xs ∧ Dig B64 xs := by
  rcases h with ⟨rfl, rfl, rfl, rfl⟩ | ⟨x, rfl, hl, hm, hz, hc, hw⟩
  · exact ⟨[], Sl.nil _ _, Dig.nil _⟩
  · have hb : ∀ n ∈ zs, 0 ≤ n ∧ n ≤ 18446744073709551615 := fun n hn => bounds_u64 (hw n hn)
    refine ⟨(zs.take len).map Int.toNat, ⟨by rw [List.length_map, List.length_take]; omega, hl, by unfold maxLen at hm; omega, fun hpos => ?_⟩, ?_⟩
    · obtain ⟨b, off, rfl, hc2⟩ := ints_at hc (by omega)
      refine ⟨b, off, rfl, fun j hj => ?_⟩
      have hj2 : j < zs.length := by omega
      rw [hc2 j hj2]
      have h1 := (hb zs[j] (List.getElem_mem hj2)).1
      rw [List.getD_eq_getElem?_getD, List.getElem?_eq_getElem hj2, List.getD_eq_getElem?_getD, List.getElem?_map, List.getElem?_take_of_lt hj, List.getElem?_eq_getElem hj2]
      simp only [Option.map_some, Option.getD_some]
      rw [Int.toNat_of_nonneg h1]
    · intro y hy
      obtain ⟨n, hn, rfl⟩ := List.mem_map.1 hy
      have h1 := hb n (List.mem_of_mem_take hn)
      rw [B64_eq]
      omega

theorem few1 (w : World) (A : Option Addr) (n c : Nat) :
    Calls Try.prog 4 #[.slice (some ⟨w.heap.size, 0, none⟩) 1 1] (w.alloc (.cells #[.slice A n c] 22)) fun e w' => e = .returned (.bool (decide (n ≤ 70))) ∧ w.alloc (.cells #[.slice A n c] 22) = w' := by
  refine (law_Few w.heap.size 1 [n] _ (fun j hj => ?_) (by simp)).mono ?_
  · have : j = 0 := by simp at hj; omega
    subst this
    exact ⟨A, c, World.cell?_alloc_at (w := w) #[.slice A n c] 22 w.heap.size 0 rfl⟩
  · rintro e w' ⟨rfl, rfl⟩
    exact ⟨ret_bool (by simp), rfl⟩

theorem Rep.dig_le {w : World} {A : Option Addr} {n c : Nat} {xs : List Nat} {m : Nat} (h : Rep .i64 65536 w A n c (val B64 xs)) (hd : Dig B64 xs) (hl : xs.length = m) : n ≤ 4 * m := by
  rw [h.len_le (by omega) (4 * m), ← B64_16, ← hl]
  exact val_lt hd

end Go.Proofs.Ytmjinhieeflkgaa
