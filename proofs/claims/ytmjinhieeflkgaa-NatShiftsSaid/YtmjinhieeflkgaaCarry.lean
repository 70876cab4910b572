/- math/bits.Add64 and Sub64 as the model has them; contracts of nat's add and sub. -/
import Derived.Test.YtmjinhieeflkgaaOver
import Derived.Shelf.Spec.BitsCarry
import Derived.BigRegion
namespace Go.Proofs.Ytmjinhieeflkgaa
open Go.RowKit

/-- One word of a sum. -/
theorem add_step {zs xs ys : List Nat} {k u v cy : Nat} (hl : zs.length = k) (h : val B64 zs + B64 ^ k * cy = val B64 (xs.take k) + val B64 (ys.take k)) (hx : val B64 (xs.take (k + 1)) = val B64 (xs.take k) + B64 ^ k * u)
    (hy : val B64 (ys.take (k + 1)) = val B64 (ys.take k) + B64 ^ k * v) : val B64 (zs ++ [(u + v + cy) % B64]) + B64 ^ (k + 1) * ((u + v + cy) / B64) = val B64 (xs.take (k + 1)) + val B64 (ys.take (k + 1)) := by
  rw [val_snoc, hl, Nat.pow_succ, Nat.mul_assoc, Nat.add_assoc, ← Nat.mul_add, Nat.mod_add_div, hx, hy, Nat.mul_add, Nat.mul_add]
  omega

theorem add_carry {u v cy : Nat} (hu : u < B64) (hv : v < B64) (hc : cy ≤ 1) : (u + v + cy) / B64 ≤ 1 := by
  rw [B64_eq] at *
  omega

theorem mid_nums {zs xs : List Nat} {rest : List Value} {k u : Nat} (hk : k < xs.length) (hu : u = xs[k]) : nums .u64 (zs ++ xs.drop k) ++ rest = nums .u64 (zs ++ u :: xs.drop (k + 1)) ++ rest := by
  rw [hu, List.drop_eq_getElem_cons hk]

theorem Blk.mid {w : World} {g t : Nat} {k : IntKind} {a b : List Nat} {u : Nat} {rest : List Value} (h : Blk w g t (nums k (a ++ u :: b) ++ rest)) : w.cell? ⟨g, a.length, none⟩ = some (.int k (u : Int)) := by
  have hc := h.cell a.length
  rw [List.getElem?_append_left (by rw [nums_length, List.length_append]; simp), nums_get _ _ _ (by simp), List.getD_eq_getElem?_getD, List.getElem?_append_right (by omega), Nat.sub_self] at hc
  simpa using hc

end Go.Proofs.Ytmjinhieeflkgaa
