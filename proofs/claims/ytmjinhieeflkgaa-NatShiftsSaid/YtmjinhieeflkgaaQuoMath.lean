/- Plain mathematics of long division by words, of bits that are shifted, of the greatest divisor. -/
import Derived.Test.YtmjinhieeflkgaaShiftMath
namespace Go.Proofs.Ytmjinhieeflkgaa

theorem bl_shl {x s : Nat} (hx : x ≠ 0) : bl (x * 2 ^ s) = bl x + s := by
  apply bl_unique
  · rw [Nat.pow_add]
    have h1 : x < 2 ^ bl x := bl_le.1 (Nat.le_refl _)
    exact Nat.mul_lt_mul_of_pos_right h1 (Nat.two_pow_pos s)
  · intro k hk
    have h1 : 2 ^ s < 2 ^ k := Nat.lt_of_le_of_lt (Nat.le_mul_of_pos_left _ (by omega)) hk
    have hsk : s < k := (Nat.pow_lt_pow_iff_right (by omega)).1 h1
    obtain ⟨j, rfl⟩ : ∃ j, k = j + s := ⟨k - s, by omega⟩
    rw [Nat.pow_add] at hk
    have := bl_le.2 (Nat.lt_of_mul_lt_mul_right hk)
    omega

/-- A word less a word times a word and what is borrowed. -/
theorem words_sub {q u v cy : Nat} (hq : q < B64) (hu : u < B64) (hv : v < B64) (hc : cy < B64) :
    (q + B64 - ((v * u % B64 + cy) % B64) - 0) % B64 + u * v + cy = q + B64 * (v * u / B64 + (v * u % B64 + cy) / B64 + (if q < (v * u % B64 + cy) % B64 + 0 then 1 else 0)) ∧
    v * u / B64 + (v * u % B64 + cy) / B64 < B64 ∧
    v * u / B64 + (v * u % B64 + cy) / B64 + (if q < (v * u % B64 + cy) % B64 + 0 then 1 else 0) < B64 ∧
    (q + B64 - ((v * u % B64 + cy) % B64) - 0) % B64 < B64 := by
  obtain ⟨P, hP⟩ : ∃ P, P = v * u := ⟨_, rfl⟩
  have hP2 : P ≤ (B64 - 1) * (B64 - 1) := by rw [hP]; exact Nat.mul_le_mul (by omega) (by omega)
  rw [Nat.mul_comm u v, ← hP]
  rw [B64_eq] at *
  split <;> omega

/-- One word of a number less another one times a word. -/
theorem subTimes_step {zs xs ys : List Nat} {k u v cy m z W : Nat} (hl : zs.length = k) (h : val B64 zs + m * val B64 (ys.take k) = val B64 (xs.take k) + B64 ^ k * cy) (hw : z + m * v + cy = u + B64 * W)
    (hx : val B64 (xs.take (k + 1)) = val B64 (xs.take k) + B64 ^ k * u) (hy : val B64 (ys.take (k + 1)) = val B64 (ys.take k) + B64 ^ k * v) :
    val B64 (zs ++ [z]) + m * val B64 (ys.take (k + 1)) = val B64 (xs.take (k + 1)) + B64 ^ (k + 1) * W := by
  rw [val_snoc, hl, hx, hy, Nat.pow_succ, Nat.mul_assoc]
  have h2 : B64 ^ k * (z + m * v + cy) = B64 ^ k * (u + B64 * W) := by rw [hw]
  rw [Nat.mul_add, Nat.mul_add, Nat.mul_add] at h2
  have h3 : m * (val B64 (ys.take k) + B64 ^ k * v) = m * val B64 (ys.take k) + B64 ^ k * (m * v) := by rw [Nat.mul_add, Nat.mul_left_comm]
  omega

/-- The guess of a quotient's word isn't too small. -/
theorem guess_ge {b hi lo top P wl dl W D : Nat} (hW : W = (hi * b + lo) * P + wl) (hwl : wl < P) (hD : D = top * P + dl) (ht : 0 < top) : W / D ≤ (hi * b + lo) / top := by
  rw [Nat.le_div_iff_mul_le ht]
  apply Nat.le_of_lt_succ
  have h1 : W / D * D ≤ W := Nat.div_mul_le_self W D
  apply Nat.lt_of_not_le
  intro h
  have h2 : (hi * b + lo + 1) * P ≤ W / D * top * P := Nat.mul_le_mul_right _ h
  have h3 : W / D * D = W / D * top * P + W / D * dl := by rw [hD, Nat.mul_add, Nat.mul_assoc]
  rw [Nat.add_mul, Nat.one_mul] at h2
  omega

/-- Behind each word that is put right: what is left, and that the guess isn't too small. -/
theorem quot_done {W D m W' : Nat} (h : W' + m * D = W) (hm : W / D ≤ m) (hD : 0 < D) : m = W / D ∧ W' = W % D := by
  have h1 : m ≤ W / D := (Nat.le_div_iff_mul_le hD).2 (by omega)
  have h2 : m = W / D := Nat.le_antisymm h1 hm
  refine ⟨h2, ?_⟩
  have h3 := Nat.mod_add_div W D
  rw [Nat.mul_comm, ← h2] at h3
  omega

theorem quot_again {W D m W' T : Nat} (h : W' + m * D = W + T) (hW' : W' < T) (hD : 0 < D) : 0 < m ∧ W / D ≤ m - 1 ∧ W' + D + (m - 1) * D = W + T := by
  have h0 : W < m * D := by omega
  have h1 : W / D < m := (Nat.div_lt_iff_lt_mul hD).2 h0
  refine ⟨Nat.lt_of_le_of_lt (Nat.zero_le _) h1, Nat.le_pred_of_lt h1, ?_⟩
  have hm0 := Nat.lt_of_le_of_lt (Nat.zero_le _) h1
  clear h1
  obtain ⟨j, rfl⟩ : ∃ j, m = j + 1 := ⟨m - 1, by omega⟩
  rw [Nat.add_mul, Nat.one_mul] at h
  simp only [Nat.add_sub_cancel]
  omega

/-- One word of a quotient: b the base, P its power at that word. -/
theorem div_round {b P V1 M M' m D X Q : Nat} (h : V1 + P * M + D * (P * b * Q) = X) (hM : M = m * D + M') : V1 + P * M' + D * (P * (m + b * Q)) = X := by
  rw [← h, hM, Nat.mul_add, Nat.mul_add, Nat.mul_add]
  have e1 : P * (m * D) = D * (P * m) := by rw [Nat.mul_comm m D, Nat.mul_left_comm]
  have e2 : D * (P * b * Q) = D * (P * (b * Q)) := by rw [Nat.mul_assoc]
  omega

theorem div_scaled {a b s L Q : Nat} (hb : 0 < b) (h : L + b * 2 ^ s * Q = a * 2 ^ s) (hL : L < b * 2 ^ s) : Q = a / b ∧ L / 2 ^ s = a % b := by
  have hp := Nat.two_pow_pos s
  have h1 : L % (b * 2 ^ s) = L := Nat.mod_eq_of_lt hL
  have hq : a * 2 ^ s / (b * 2 ^ s) = Q := by
    rw [← h, Nat.add_mul_div_left _ _ (Nat.mul_pos hb hp), Nat.div_eq_of_lt hL, Nat.zero_add]
  have hr : a * 2 ^ s % (b * 2 ^ s) = L := by
    rw [← h, Nat.add_mul_mod_self_left, h1]
  rw [Nat.mul_div_mul_right _ _ hp] at hq
  rw [Nat.mul_mod_mul_right] at hr
  exact ⟨hq.symm, by rw [← hr, Nat.mul_div_cancel _ hp]⟩

/-- Twos are taken out in one way. -/
theorem twos_unique {s t m n : Nat} (h : 2 ^ s * (2 * m + 1) = 2 ^ t * (2 * n + 1)) : s = t ∧ m = n := by
  rcases Nat.lt_trichotomy s t with hlt | rfl | hlt
  · exfalso
    obtain ⟨j, rfl⟩ : ∃ j, t = s + (j + 1) := ⟨t - s - 1, by omega⟩
    rw [Nat.pow_add, Nat.mul_assoc] at h
    have := Nat.eq_of_mul_eq_mul_left (Nat.two_pow_pos s) h
    rw [Nat.pow_succ, Nat.mul_comm (2 ^ j) 2, Nat.mul_assoc] at this
    omega
  · exact ⟨rfl, by have := Nat.eq_of_mul_eq_mul_left (Nat.two_pow_pos s) h; omega⟩
  · exfalso
    obtain ⟨j, rfl⟩ : ∃ j, s = t + (j + 1) := ⟨s - t - 1, by omega⟩
    rw [Nat.pow_add, Nat.mul_assoc] at h
    have := Nat.eq_of_mul_eq_mul_left (Nat.two_pow_pos t) h
    rw [Nat.pow_succ, Nat.mul_comm (2 ^ j) 2, Nat.mul_assoc] at this
    omega

theorem coprime_twos {t m : Nat} : Nat.Coprime (2 ^ t) (2 * m + 1) := by
  apply Nat.Coprime.pow_left
  show Nat.gcd 2 (2 * m + 1) = 1
  rw [Nat.gcd_rec, show (2 * m + 1) % 2 = 1 from by omega]
  exact Nat.gcd_one_left 2

/-- The greatest divisor of two numbers by their twos and what is odd in them. -/
theorem gcd_twos {s t m n : Nat} : Nat.gcd (2 ^ s * (2 * m + 1)) (2 ^ t * (2 * n + 1)) = Nat.gcd (2 * m + 1) (2 * n + 1) * 2 ^ min s t := by
  rcases Nat.le_total s t with h | h
  · obtain ⟨j, rfl⟩ : ∃ j, t = s + j := ⟨t - s, by omega⟩
    rw [Nat.pow_add, Nat.mul_assoc, Nat.gcd_mul_left, Nat.min_eq_left h, Nat.mul_comm]
    congr 1
    rw [Nat.gcd_comm, Nat.Coprime.gcd_mul_left_cancel _ coprime_twos, Nat.gcd_comm]
  · obtain ⟨j, rfl⟩ : ∃ j, s = t + j := ⟨s - t, by omega⟩
    rw [Nat.pow_add, Nat.mul_assoc, Nat.gcd_mul_left, Nat.min_eq_right h, Nat.mul_comm]
    congr 1
    rw [Nat.Coprime.gcd_mul_left_cancel _ coprime_twos]

/-- What divides two odd numbers divides their difference without its twos. -/
theorem gcd_odd_sub {x y t m n : Nat} (hxy : y ≤ x) (hy : y = 2 * n + 1) (h : x - y = 2 ^ t * (2 * m + 1)) : Nat.gcd (2 * m + 1) y = Nat.gcd x y := by
  have h1 : Nat.gcd (x - y) y = Nat.gcd x y := by
    conv => rhs; rw [show x = (x - y) + y from by omega]
    rw [Nat.gcd_add_self_left]
  rw [← h1, h, hy, Nat.Coprime.gcd_mul_left_cancel _ coprime_twos]

end Go.Proofs.Ytmjinhieeflkgaa
