/- Plain mathematics of long division by words: the divisor raised till its highest bit is set; one word of the quotient. -/
import Derived.Test.YtmjinhieeflkgaaQuoMath
namespace Go.Proofs.Ytmjinhieeflkgaa

theorem norm_top {ys : List Nat} {k : Nat} (hd : Dig B64 ys) (hl : ys.length = k + 1) (ht : trimL ys = ys) :
    ys.getD k 0 ≠ 0 ∧ 64 - bl (ys.getD k 0) < 64 ∧ val B64 ys * 2 ^ (64 - bl (ys.getD k 0)) < B64 ^ (k + 1) ∧ B64 ^ k * 9223372036854775808 ≤ val B64 ys * 2 ^ (64 - bl (ys.getD k 0)) := by
  obtain ⟨h1, h2⟩ := bl_digits B64_pow hd hl ht
  have h3 : ys.getD k 0 < 2 ^ 64 := by rw [← B64_pow]; exact hd.getD B64_pos k
  have h4 : bl (ys.getD k 0) ≤ 64 := bl_le.2 h3
  have h5 : 0 < bl (ys.getD k 0) := by
    rcases Nat.eq_zero_or_pos (bl (ys.getD k 0)) with h | h
    · have := bl_le.1 (Nat.le_of_eq h)
      rw [Nat.pow_zero] at this
      omega
    · exact h
  generalize bl (ys.getD k 0) = T at *
  have hp := Nat.two_pow_pos (64 - T)
  refine ⟨by omega, by omega, ?_, ?_⟩
  · have h6 := bl_le.1 (Nat.le_of_eq h1)
    have h7 := Nat.mul_lt_mul_of_pos_right h6 hp
    rw [← Nat.pow_add, show 64 * k + T + (64 - T) = 64 * (k + 1) from by omega, Nat.pow_mul, ← B64_pow] at h7
    exact h7
  · have h6 : 2 ^ (64 * k + (T - 1)) ≤ val B64 ys := by
      apply Nat.le_of_not_lt
      intro h
      have := bl_le.2 h
      omega
    have h7 := Nat.mul_le_mul_right (2 ^ (64 - T)) h6
    rw [← Nat.pow_add, show 64 * k + (T - 1) + (64 - T) = 64 * k + 63 from by omega, Nat.pow_add, Nat.pow_mul, ← B64_pow] at h7
    exact h7

theorem top_word {zs : List Nat} {k V : Nat} (hl : zs.length = k + 1) (hd : Dig B64 zs) (hv : B64 ^ k * V ≤ val B64 zs) : V ≤ zs.getD k 0 := by
  have h1 := val_take_succ B64 zs k (by omega)
  rw [List.take_of_length_le (by omega)] at h1
  have h2 := val_lt (hd.take k)
  rw [List.length_take, Nat.min_eq_left (by omega)] at h2
  apply Nat.le_of_lt_succ
  apply Nat.lt_of_mul_lt_mul_left (a := B64 ^ k)
  rw [Nat.mul_succ]
  omega

theorem no_out {z P o s : Nat} (h : z + P * o = s) (hs : s < P) : o = 0 ∧ z = s := by
  rcases Nat.eq_zero_or_pos o with rfl | hp
  · exact ⟨rfl, by omega⟩
  · have : P * 1 ≤ P * o := Nat.mul_le_mul_left _ hp
    omega

theorem raised_fits {x n s : Nat} (hx : x < B64 ^ n) (hs : s < 64) : x * 2 ^ s < B64 ^ (n + 1) := by
  have h1 : 2 ^ s ≤ B64 := by rw [B64_pow]; exact Nat.pow_le_pow_right (by omega) (by omega)
  rw [Nat.pow_succ]
  exact Nat.mul_lt_mul_of_lt_of_le hx h1 B64_pos

/-- The words at hand in one round, and that nothing is above them. -/
theorem div_split {L : List Nat} {k m D : Nat} (hd : Dig B64 L) (hk : k + m < L.length) (h : val B64 (L.drop (k + 1)) < D) (hD : D ≤ B64 ^ m) :
    ∃ P Q t Z, L = P ++ (Q ++ t :: Z) ∧ P.length = k ∧ Q.length = m ∧ Dig B64 P ∧ Dig B64 Q ∧ t < B64 ∧ Dig B64 Z ∧ val B64 Z = 0 ∧ val B64 (Q ++ [t]) < B64 * D ∧ val B64 L = val B64 P + B64 ^ k * val B64 (Q ++ [t]) := by
  have hkm : m < (L.drop k).length := by rw [List.length_drop]; omega
  refine ⟨L.take k, (L.drop k).take m, (L.drop k)[m], (L.drop k).drop (m + 1), ?_, ?_, ?_, hd.take k, (hd.drop k).take m, ?_, (hd.drop k).drop (m + 1), ?_⟩
  · rw [← List.drop_eq_getElem_cons hkm, List.take_append_drop, List.take_append_drop]
  · rw [List.length_take]; omega
  · rw [List.length_take]; omega
  · exact hd.drop k _ (List.getElem_mem hkm)
  · have h1 : val B64 (L.drop k) = L[k]'(by omega) + B64 * val B64 (L.drop (k + 1)) := by rw [List.drop_eq_getElem_cons (by omega)]; rfl
    have h2 : L[k]'(by omega) < B64 := hd _ (List.getElem_mem _)
    have h3 : B64 * (val B64 (L.drop (k + 1)) + 1) ≤ B64 * D := Nat.mul_le_mul_left _ h
    rw [Nat.mul_add, Nat.mul_one] at h3
    have h4 : B64 * D ≤ B64 * B64 ^ m := Nat.mul_le_mul_left _ hD
    have h5 : (L.drop k) = ((L.drop k).take m ++ [(L.drop k)[m]]) ++ (L.drop k).drop (m + 1) := by
      rw [List.append_assoc, List.singleton_append, ← List.drop_eq_getElem_cons hkm, List.take_append_drop]
    have h6 : val B64 (L.drop k) = val B64 ((L.drop k).take m ++ [(L.drop k)[m]]) + B64 ^ (m + 1) * val B64 ((L.drop k).drop (m + 1)) := by
      conv => lhs; rw [h5]
      rw [val_append, List.length_append, List.length_take, Nat.min_eq_left (by omega)]; rfl
    have h7 : val B64 ((L.drop k).drop (m + 1)) = 0 := by
      rcases Nat.eq_zero_or_pos (val B64 ((L.drop k).drop (m + 1))) with h | h
      · exact h
      · have h8 : B64 ^ (m + 1) * 1 ≤ B64 ^ (m + 1) * val B64 ((L.drop k).drop (m + 1)) := Nat.mul_le_mul_left _ h
        rw [Nat.pow_succ, Nat.mul_comm (B64 ^ m)] at h8
        rw [Nat.pow_succ, Nat.mul_comm (B64 ^ m)] at h6
        omega
    refine ⟨h7, ?_, ?_⟩
    · rw [h7] at h6; omega
    · have h8 : val B64 L = val B64 (L.take k) + B64 ^ k * val B64 (L.drop k) := by
        conv => lhs; rw [← List.take_append_drop k L]
        rw [val_append, List.length_take, Nat.min_eq_left (by omega)]
      rw [h8, h6, h7, Nat.mul_zero, Nat.add_zero]

/-- Behind one round. -/
theorem div_after {P M Z Qs : List Nat} {k D X W q : Nat} (hP : P.length = k) (hZ : val B64 Z = 0) (hM : val B64 M = W % D) (hq : q = W / D) (hD : 0 < D)
    (h : val B64 P + B64 ^ k * W + D * (B64 ^ (k + 1) * val B64 Qs) = X) :
    val B64 (P ++ (M ++ Z)) + D * (B64 ^ k * val B64 (q :: Qs)) = X ∧ val B64 ((P ++ (M ++ Z)).drop k) < D := by
  have h1 : val B64 (M ++ Z) = val B64 M := by rw [val_append, hZ, Nat.mul_zero, Nat.add_zero]
  constructor
  · rw [val_append, hP, h1]
    refine div_round (b := B64) (M := W) (m := q) ?_ ?_
    · rw [Nat.pow_succ] at h; exact h
    · rw [hM, hq, Nat.mul_comm]; have := Nat.mod_add_div W D; omega
  · rw [List.drop_append_of_le_length (by omega), List.drop_of_length_le (by omega), List.nil_append, h1, hM]
    exact Nat.mod_lt _ hD

end Go.Proofs.Ytmjinhieeflkgaa
