/- Shifts of words as arithmetic: one word of a shift to the left, one word of a shift to the right. -/
import Derived.Test.YtmjinhieeflkgaaMath
namespace Go.Proofs.Ytmjinhieeflkgaa

/-- One word shifted left by n, the bits of the word before it put in below. -/
theorem shl_or {n x o : Nat} (hn : n ≤ 64) (ho : o < 2 ^ n) : (x * 2 ^ n % B64) ||| o = (x * 2 ^ n + o) % B64 := by
  have hs : B64 = 2 ^ n * 2 ^ (64 - n) := by rw [← Nat.pow_add, B64_pow]; congr 1; omega
  have h1 : x * 2 ^ n % B64 = 2 ^ n * (x % 2 ^ (64 - n)) := by rw [hs, Nat.mul_comm x, Nat.mul_mod_mul_left]
  have hlt : 2 ^ n * (x % 2 ^ (64 - n)) + o < B64 := by
    have h2 : x % 2 ^ (64 - n) + 1 ≤ 2 ^ (64 - n) := Nat.mod_lt _ (Nat.two_pow_pos _)
    have h3 := Nat.mul_le_mul_left (2 ^ n) h2
    rw [← hs, Nat.mul_add, Nat.mul_one] at h3
    omega
  have hob : o < B64 := by omega
  rw [h1, ← Nat.two_pow_add_eq_or_of_lt ho, Nat.add_mod, h1, Nat.mod_eq_of_lt hob, Nat.mod_eq_of_lt hlt]

/-- What a shift to the left puts out above. -/
theorem shl_out {n x o : Nat} (hn : n ≤ 64) (ho : o < 2 ^ n) : x / 2 ^ (64 - n) = (x * 2 ^ n + o) / B64 := by
  have hs : B64 = 2 ^ n * 2 ^ (64 - n) := by rw [← Nat.pow_add, B64_pow]; congr 1; omega
  rw [hs, ← Nat.div_div_eq_div_mul, Nat.add_comm, Nat.add_mul_div_right _ _ (Nat.two_pow_pos n), Nat.div_eq_of_lt ho, Nat.zero_add]

theorem shl_out_lt {n x : Nat} (hn : n ≤ 64) (hx : x < B64) : x / 2 ^ (64 - n) < 2 ^ n := by
  refine (Nat.div_lt_iff_lt_mul (Nat.two_pow_pos _)).2 ?_
  rw [← Nat.pow_add, show n + (64 - n) = 64 by omega, ← B64_pow]
  exact hx

/-- One word of a number times 2^n. -/
theorem shl_step {zs xs : List Nat} {k n u o : Nat} (hl : zs.length = k) (hn : n ≤ 64) (ho : o < 2 ^ n) (h : val B64 zs + B64 ^ k * o = val B64 (xs.take k) * 2 ^ n)
    (hx : val B64 (xs.take (k + 1)) = val B64 (xs.take k) + B64 ^ k * u) :
    val B64 (zs ++ [(u * 2 ^ n % B64) ||| o]) + B64 ^ (k + 1) * (u / 2 ^ (64 - n)) = val B64 (xs.take (k + 1)) * 2 ^ n := by
  rw [shl_or hn ho, shl_out (x := u) hn ho, val_snoc, hl, Nat.pow_succ, Nat.mul_assoc, Nat.add_assoc, ← Nat.mul_add, Nat.mod_add_div, hx, Nat.add_mul, ← h, Nat.mul_add, Nat.mul_assoc]
  omega

/-- One word shifted right by n, the low bits of the word above it put in on top. -/
theorem shr_or {n u r : Nat} (hn : n ≤ 64) (hu : u < B64) : (u / 2 ^ n) ||| (r * 2 ^ (64 - n)) = u / 2 ^ n + r * 2 ^ (64 - n) := by
  have h1 : u / 2 ^ n < 2 ^ (64 - n) := by
    refine (Nat.div_lt_iff_lt_mul (Nat.two_pow_pos _)).2 ?_
    rw [← Nat.pow_add, show 64 - n + n = 64 by omega, ← B64_pow]
    exact hu
  rw [Nat.or_comm, Nat.mul_comm r, ← Nat.two_pow_add_eq_or_of_lt h1, Nat.add_comm]

theorem shr_step {n u X : Nat} {zs : List Nat} (hn : n ≤ 64) (hu : u < B64) (h : val B64 zs = X / 2 ^ n) :
    val B64 (((u / 2 ^ n) ||| (X % 2 ^ n * 2 ^ (64 - n))) :: zs) = (u + B64 * X) / 2 ^ n := by
  have hs : B64 = 2 ^ n * 2 ^ (64 - n) := by rw [← Nat.pow_add, B64_pow]; congr 1; omega
  rw [shr_or hn hu]
  show u / 2 ^ n + X % 2 ^ n * 2 ^ (64 - n) + B64 * val B64 zs = _
  rw [h]
  have h2 : (u + B64 * X) / 2 ^ n = u / 2 ^ n + 2 ^ (64 - n) * X := by rw [hs, Nat.mul_assoc, Nat.add_mul_div_left _ _ (Nat.two_pow_pos n)]
  rw [h2]
  have h3 : 2 ^ (64 - n) * X = X % 2 ^ n * 2 ^ (64 - n) + B64 * (X / 2 ^ n) := by
    conv => lhs; rw [← Nat.mod_add_div X (2 ^ n)]
    rw [Nat.mul_add, hs, Nat.mul_comm (2 ^ (64 - n)) (X % 2 ^ n), Nat.mul_comm (2 ^ n) (2 ^ (64 - n)), Nat.mul_assoc]
  omega

/-- What a shift to the right hands down to the word below. -/
theorem shr_in {n u X : Nat} (hn : n ≤ 64) : u * 2 ^ (64 - n) % B64 = (u + B64 * X) % 2 ^ n * 2 ^ (64 - n) := by
  have hs : B64 = 2 ^ n * 2 ^ (64 - n) := by rw [← Nat.pow_add, B64_pow]; congr 1; omega
  rw [hs, Nat.mul_assoc, Nat.add_mul_mod_self_left, Nat.mul_mod_mul_right]

theorem shr_word {n u r : Nat} (hn : n ≤ 64) (hu : u < B64) (hr : r < 2 ^ n) : u / 2 ^ n + r * 2 ^ (64 - n) < B64 := by
  have hs : B64 = 2 ^ (64 - n) * 2 ^ n := by rw [← Nat.pow_add, B64_pow]; congr 1; omega
  have h1 : u / 2 ^ n < 2 ^ (64 - n) := (Nat.div_lt_iff_lt_mul (Nat.two_pow_pos _)).2 (by rw [← hs]; exact hu)
  have h2 := Nat.mul_le_mul_right (2 ^ (64 - n)) (show r + 1 ≤ 2 ^ n from hr)
  rw [Nat.mul_comm (2 ^ n), ← hs, Nat.add_mul, Nat.one_mul] at h2
  omega

end Go.Proofs.Ytmjinhieeflkgaa
