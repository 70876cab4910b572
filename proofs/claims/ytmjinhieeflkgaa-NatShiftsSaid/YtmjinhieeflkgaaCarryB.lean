/- The contract of nat's sub; contracts of Add and Sub. -/
import Derived.Test.YtmjinhieeflkgaaCarry
import Derived.Test.YtmjinhieeflkgaaNatD
namespace Go.Proofs.Ytmjinhieeflkgaa
open Go.RowKit

theorem sub_word {u v cy : Nat} (hu : u < B64) (hv : v < B64) (hc : cy ≤ 1) : (u + B64 - v - cy) % B64 + v + cy = u + B64 * (if u < v + cy then 1 else 0) := by
  rw [B64_eq] at *
  split <;> omega
theorem sub_borrow (u v cy : Nat) : (if u < v + cy then 1 else 0) ≤ 1 := by split <;> omega

/-- One word of a difference. -/
theorem sub_step {zs xs ys : List Nat} {k u v cy : Nat} (hl : zs.length = k) (h : val B64 zs + val B64 (ys.take k) = val B64 (xs.take k) + B64 ^ k * cy) (hu : u < B64) (hv : v < B64) (hc : cy ≤ 1)
    (hx : val B64 (xs.take (k + 1)) = val B64 (xs.take k) + B64 ^ k * u) (hy : val B64 (ys.take (k + 1)) = val B64 (ys.take k) + B64 ^ k * v) :
    val B64 (zs ++ [(u + B64 - v - cy) % B64]) + val B64 (ys.take (k + 1)) = val B64 (xs.take (k + 1)) + B64 ^ (k + 1) * (if u < v + cy then 1 else 0) := by
  have hw := sub_word hu hv hc
  generalize (u + B64 - v - cy) % B64 = D at *
  generalize (if u < v + cy then 1 else 0) = W at *
  have h2 : B64 ^ k * (D + v + cy) = B64 ^ k * (u + B64 * W) := by rw [hw]
  rw [val_snoc, hl, hx, hy, Nat.pow_succ, Nat.mul_assoc]
  simp only [Nat.mul_add] at h2
  omega

theorem two_pow_le {M : Nat} {x y : Nat} (hx : x < B64 ^ M) (hy : y < B64 ^ M) : x + y < B64 ^ (M + 1) := by
  rw [Nat.pow_succ]
  have : B64 ^ M * 2 ≤ B64 ^ M * B64 := Nat.mul_le_mul_left _ (by decide)
  omega

theorem no_carry {P z cy s : Nat} (h : z + P * cy = s) (hs : s < P) : cy = 0 ∧ z = s := by
  have : cy = 0 := by
    apply Nat.eq_zero_of_not_pos
    intro hp
    have : P * 1 ≤ P * cy := Nat.mul_le_mul_left _ hp
    omega
  subst this
  exact ⟨rfl, by omega⟩

end Go.Proofs.Ytmjinhieeflkgaa
