/- Plain mathematics of a division of two digits by a normalised divisor of two digits: each quotient digit is guessed from the highest digit and put right. -/
import Derived.Test.YtmjinhieeflkgaaMath
namespace Go.Proofs.Ytmjinhieeflkgaa

section
variable {B y1 y0 u32 u1 q r : Nat}
theorem kn_stop (hy : 0 < y1 * B + y0) (hu : u32 = q * y1 + r) (hle : q * y0 ≤ B * r + u1) (hQ : (u32 * B + u1) / (y1 * B + y0) ≤ q) : q = (u32 * B + u1) / (y1 * B + y0) := by
  refine Nat.le_antisymm ?_ hQ
  rw [Nat.le_div_iff_mul_le hy, Nat.mul_add, ← Nat.mul_assoc, hu, Nat.add_mul, Nat.mul_comm r B]
  omega
theorem kn_go (hy : 0 < y1 * B + y0) (hu : u32 = q * y1 + r) (hgt : B * r + u1 < q * y0) : (u32 * B + u1) / (y1 * B + y0) < q := by
  rw [Nat.div_lt_iff_lt_mul hy, Nat.mul_add, ← Nat.mul_assoc, hu, Nat.add_mul, Nat.mul_comm r B]
  omega
theorem kn_lt (hy : u32 < y1 * B + y0) (hu1 : u1 < B) : (u32 * B + u1) / (y1 * B + y0) < B := by
  rw [Nat.div_lt_iff_lt_mul (by omega)]
  have : (u32 + 1) * B ≤ (y1 * B + y0) * B := Nat.mul_le_mul_right B hy
  rw [Nat.add_mul] at this
  rw [Nat.mul_comm B]
  omega
theorem kn_first (hy1 : 0 < y1) (hB : 0 < B) (hu1 : u1 < B) : (u32 * B + u1) / (y1 * B + y0) ≤ u32 / y1 := by
  rw [Nat.le_div_iff_mul_le hy1]
  have hpos : 0 < y1 * B := Nat.mul_pos hy1 hB
  have h1 : (u32 * B + u1) / (y1 * B + y0) * (y1 * B + y0) ≤ u32 * B + u1 := Nat.div_mul_le_self _ _
  rw [Nat.mul_add, ← Nat.mul_assoc] at h1
  have h2 : (u32 * B + u1) / (y1 * B + y0) * y1 * B < (u32 + 1) * B := by rw [Nat.add_mul]; omega
  exact Nat.lt_succ_iff.1 (Nat.lt_of_mul_lt_mul_right h2)
theorem kn_bound (hy : u32 < y1 * B + y0) (hy0 : y0 < B) (hn : B ≤ 2 * y1) (hB : 0 < B) : u32 / y1 ≤ B + 1 := by
  have hy1 : 0 < y1 := by omega
  rw [← Nat.lt_succ_iff, Nat.div_lt_iff_lt_mul hy1, Nat.mul_comm]
  rw [show (B + 1).succ = B + 2 from rfl, Nat.mul_add]
  omega
theorem kn_break (hq : q ≤ B) (hy0 : y0 < B) (hr : B ≤ r) : q * y0 ≤ B * r + u1 := by
  have h1 : q * y0 ≤ B * y0 := Nat.mul_le_mul_right y0 hq
  have h2 : B * y0 ≤ B * r := Nat.mul_le_mul_left B (by omega)
  omega
end

/-- Two digits, one behind the other. -/
theorem kn_two {B u32 u1 u0 y : Nat} (hy : 0 < y) (_hu0 : u0 < B) :
    (((u32 * B + u1) * B + u0) / y = (u32 * B + u1) / y * B + ((u32 * B + u1) % y * B + u0) / y) ∧
    ((u32 * B + u1) * B + u0) % y = ((u32 * B + u1) % y * B + u0) % y := by
  have h := Nat.div_add_mod (u32 * B + u1) y
  generalize (u32 * B + u1) / y = q1 at *
  generalize (u32 * B + u1) % y = r1 at *
  have e : (u32 * B + u1) * B + u0 = y * (q1 * B) + (r1 * B + u0) := by
    rw [← h, Nat.add_mul, Nat.mul_assoc, Nat.add_assoc]
  rw [e]
  constructor
  · rw [Nat.mul_add_div hy]
  · rw [Nat.mul_add_mod]

theorem two_split (hi u1 u0 : Nat) : hi * B64 + (u1 * 4294967296 + u0) = (hi * 4294967296 + u1) * 4294967296 + u0 := by
  have h : B64 = 4294967296 * 4294967296 := by decide
  rw [h, Nat.add_mul, Nat.mul_assoc, Nat.add_assoc]

end Go.Proofs.Ytmjinhieeflkgaa
