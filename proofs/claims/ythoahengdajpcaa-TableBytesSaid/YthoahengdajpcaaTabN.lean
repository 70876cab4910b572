/- The bytes of tables: mathematics. -/
import Derived.Test.YthoahengdajpcaaTabI
namespace Go.Proofs.Ythoahengdajpcaa
open Go.RowKit
set_option maxRecDepth 100000

/-- The bytes of row i's first k counts, as far as they are told. -/
def encK (f : Nat → Nat) (n i : Nat) : Nat → List UInt8
  | 0 => []
  | k + 1 => encK f n i k ++ (if k < n then beL (f (8 * i + k)) 4 else [])
/-- The bytes of the first i rows, as far as they are told. -/
def encI (f : Nat → Nat) (m n : Nat) : Nat → List UInt8
  | 0 => []
  | i + 1 => encI f m n i ++ (if i ≤ m then encK f n i 8 else [])
def encL (f : Nat → Nat) (L m n : Nat) : List UInt8 := beL L 8 ++ encI f m n 17
/-- Counts that are not told are noughts. -/
def Told (f : Nat → Nat) (m n : Nat) : Prop := ∀ j, j < 136 → ¬ (j / 8 ≤ m ∧ j % 8 < n) → f j = 0
instance (f : Nat → Nat) (m n : Nat) : Decidable (Told f m n) := by unfold Told; infer_instance
def cutF (f : Nat → Nat) (n i : Nat) : Nat → Nat := fun j => if j / 8 < i ∧ j % 8 < n then f j else 0

theorem encK_more (f : Nat → Nat) (n i k : Nat) (h : n ≤ k) : encK f n i k = encK f n i n := by
  induction k with
  | zero => obtain rfl : n = 0 := by omega
            rfl
  | succ k ih =>
    rcases Nat.lt_or_ge k n with h1 | h1
    · obtain rfl : n = k + 1 := by omega
      rfl
    · show encK f n i k ++ _ = _
      rw [ih h1, if_neg (by omega), List.append_nil]
theorem encI_more (f : Nat → Nat) (m n i : Nat) (h : m + 1 ≤ i) : encI f m n i = encI f m n (m + 1) := by
  induction i with
  | zero => omega
  | succ i ih =>
    rcases Nat.lt_or_ge i (m + 1) with h1 | h1
    · obtain rfl : i = m := by omega
      rfl
    · show encI f m n i ++ _ = _
      rw [ih h1, if_neg (by omega), List.append_nil]
theorem encK_len (f : Nat → Nat) (n i k : Nat) (h : k ≤ n) : (encK f n i k).length = 4 * k := by
  induction k with
  | zero => rfl
  | succ k ih =>
    show (encK f n i k ++ _).length = _
    rw [List.length_append, ih (by omega), if_pos (by omega), beL_len]; omega
theorem encI_len (f : Nat → Nat) (m n i : Nat) (hn : n ≤ 8) (h : i ≤ m + 1) : (encI f m n i).length = 4 * (n * i) := by
  induction i with
  | zero => rfl
  | succ i ih =>
    show (encI f m n i ++ _).length = _
    rw [List.length_append, ih (by omega), if_pos (by omega), encK_more f n i 8 hn, encK_len f n i n (Nat.le_refl _), Nat.mul_add n i 1]; omega
theorem encL_len (f : Nat → Nat) (L m n : Nat) (hn : n ≤ 8) (hm : m ≤ 16) : (encL f L m n).length = 8 + 4 * (n * (m + 1)) := by
  unfold encL
  rw [List.length_append, beL_len, encI_more f m n 17 (by omega), encI_len f m n (m + 1) hn (Nat.le_refl _)]

theorem encK_piece (f : Nat → Nat) (n i k K : Nat) (hk : k < K) (hn : k < n) : ∃ B, encK f n i K = encK f n i k ++ (beL (f (8 * i + k)) 4 ++ B) := by
  induction K with
  | zero => omega
  | succ K ih =>
    rcases Nat.lt_or_ge k K with h1 | h1
    · obtain ⟨B, hB⟩ := ih h1
      refine ⟨B ++ (if K < n then beL (f (8 * i + K)) 4 else []), ?_⟩
      show encK f n i K ++ _ = _
      rw [hB, List.append_assoc, List.append_assoc]
    · obtain rfl : k = K := by omega
      refine ⟨[], ?_⟩
      show encK f n i k ++ _ = _
      rw [if_pos hn, List.append_nil]
theorem encI_piece (f : Nat → Nat) (m n i I : Nat) (hi : i < I) (hm : i ≤ m) : ∃ B, encI f m n I = encI f m n i ++ (encK f n i 8 ++ B) := by
  induction I with
  | zero => omega
  | succ I ih =>
    rcases Nat.lt_or_ge i I with h1 | h1
    · obtain ⟨B, hB⟩ := ih h1
      refine ⟨B ++ (if I ≤ m then encK f n I 8 else []), ?_⟩
      show encI f m n I ++ _ = _
      rw [hB, List.append_assoc, List.append_assoc]
    · obtain rfl : i = I := by omega
      refine ⟨[], ?_⟩
      show encI f m n i ++ _ = _
      rw [if_pos hm, List.append_nil]
/-- Where a count's bytes begin. -/
def at4 (n j : Nat) : Nat := 8 + 4 * (n * (j / 8) + j % 8)
theorem encL_piece (f : Nat → Nat) (L m n j : Nat) (hn : n ≤ 8) (hm : m ≤ 16) (h1 : j / 8 ≤ m) (h2 : j % 8 < n) : ((encL f L m n).drop (at4 n j)).take 4 = beL (f j) 4 := by
  obtain ⟨B, hB⟩ := encI_piece f m n (j / 8) 17 (by omega) h1
  obtain ⟨C, hC⟩ := encK_piece f n (j / 8) (j % 8) 8 (by omega) h2
  rw [show 8 * (j / 8) + j % 8 = j from by omega] at hC
  have e : encL f L m n = (beL L 8 ++ (encI f m n (j / 8) ++ encK f n (j / 8) (j % 8))) ++ (beL (f j) 4 ++ (C ++ B)) := by
    unfold encL
    rw [hB, hC]
    simp only [List.append_assoc]
  have hl : (beL L 8 ++ (encI f m n (j / 8) ++ encK f n (j / 8) (j % 8))).length = at4 n j := by
    unfold at4
    rw [List.length_append, List.length_append, beL_len, encI_len f m n _ hn (by omega), encK_len f n _ _ (by omega)]; omega
  rw [e, ← hl, List.drop_append_of_le_length (Nat.le_refl _), List.drop_length, List.nil_append, List.take_append_of_le_length (by rw [beL_len]; exact Nat.le_refl _), List.take_of_length_le (by rw [beL_len]; exact Nat.le_refl _)]
theorem encL_head (f : Nat → Nat) (L m n : Nat) : (encL f L m n).take 8 = beL L 8 := by
  unfold encL
  rw [List.take_append_of_le_length (by rw [beL_len]; exact Nat.le_refl _), List.take_of_length_le (by rw [beL_len]; exact Nat.le_refl _)]

/-- What Encode's function makes of a row, of the rows. -/
theorem stC_row (s : List UInt8) (f : Nat → Nat) (n i k : Nat) (hk : k ≤ n) : (rowE stC s (rowOf f i) k).1 = s ++ encK f n i k ∧ ∀ j, (rowE stC s (rowOf f i) k).2 j = if j < k then f (8 * i + j) else 0 := by
  induction k with
  | zero => exact ⟨(List.append_nil s).symm, fun j => rfl⟩
  | succ k ih =>
    obtain ⟨h1, h2⟩ := ih (by omega)
    refine ⟨?_, fun j => ?_⟩
    · show (rowE stC s (rowOf f i) k).1 ++ beL (rowOf f i k) 4 = s ++ (encK f n i k ++ _)
      rw [h1, if_pos (by omega), List.append_assoc]; rfl
    · show (if j = k then rowOf f i k else (rowE stC s (rowOf f i) k).2 j) = _
      by_cases e : j = k
      · subst e; rw [if_pos rfl, if_pos (by omega)]; rfl
      · rw [if_neg e, h2 j]
        by_cases e2 : j < k
        · rw [if_pos e2, if_pos (by omega)]
        · rw [if_neg e2, if_neg (by omega)]
theorem stC_rows (s : List UInt8) (f : Nat → Nat) (m n i : Nat) (hn : n ≤ 8) (hi : i ≤ m + 1) : (rowsE stC s f n i).1 = s ++ encI f m n i ∧ ∀ j, (rowsE stC s f n i).2 j = cutF f n i j := by
  induction i with
  | zero => exact ⟨(List.append_nil s).symm, fun j => by show 0 = _; unfold cutF; rw [if_neg (by omega)]⟩
  | succ i ih =>
    obtain ⟨h1, h2⟩ := ih (by omega)
    obtain ⟨r1, r2⟩ := stC_row (rowsE stC s f n i).1 f n i n (Nat.le_refl _)
    refine ⟨?_, fun j => ?_⟩
    · show (rowE stC (rowsE stC s f n i).1 (rowOf f i) n).1 = s ++ (encI f m n i ++ _)
      rw [r1, h1, if_pos (by omega), encK_more f n i 8 hn, List.append_assoc]
    · show (if 8 * i ≤ j ∧ j < 8 * i + 8 then (rowE stC (rowsE stC s f n i).1 (rowOf f i) n).2 (j - 8 * i) else (rowsE stC s f n i).2 j) = _
      unfold cutF
      by_cases e : 8 * i ≤ j ∧ j < 8 * i + 8
      · rw [if_pos e, r2]
        by_cases e2 : j - 8 * i < n
        · rw [if_pos e2, if_pos (by omega), show 8 * i + (j - 8 * i) = j from by omega]
        · rw [if_neg e2, if_neg (by omega)]
      · rw [if_neg e, h2 j]
        unfold cutF
        by_cases e2 : j / 8 < i ∧ j % 8 < n
        · rw [if_pos e2, if_pos (by omega)]
        · rw [if_neg e2, if_neg (by omega)]
theorem cutF_told (f : Nat → Nat) (m n : Nat) : (∀ j, j < 136 → cutF f n (m + 1) j = f j) ↔ Told f m n := by
  unfold cutF Told
  constructor
  · intro h j hj hn
    have := h j hj
    rw [if_neg (by omega)] at this
    exact this.symm
  · intro h j hj
    by_cases e : j / 8 < m + 1 ∧ j % 8 < n
    · rw [if_pos e]
    · rw [if_neg e, h j hj (by omega)]

/-- What Decode's function makes of bytes. -/
def decF (l : List UInt8) (n i : Nat) : Nat → Nat := fun j => if j / 8 < i ∧ j % 8 < n then beV ((l.drop (at4 n j)).take 4) else 0
theorem decF_fits (l : List UInt8) (n i : Nat) : Fits (decF l n i) := fun j => by
  show (if _ then _ else _) < _
  split
  · have h := beV_lt ((l.drop (at4 n j)).take 4)
    have h2 : ((l.drop (at4 n j)).take 4).length ≤ 4 := by rw [List.length_take]; exact Nat.min_le_left _ _
    have h3 : (256 : Nat) ^ ((l.drop (at4 n j)).take 4).length ≤ 256 ^ 4 := Nat.pow_le_pow_right (by decide) h2
    have e4 : (256 : Nat) ^ 4 = 4294967296 := by decide
    omega
  · decide
theorem stO_ok (l : List UInt8) (a v n : Nat) (h : a + n ≤ l.length) : stO l (a, 0) v n = ((a + n, 0), beV ((l.drop a).take n)) := by
  unfold stO
  dsimp only
  rw [if_pos h]
theorem stO_row (l : List UInt8) (a : Nat) (r : Nat → Nat) (k : Nat) (h : a + 4 * k ≤ l.length) : (rowE (stO l) (a, 0) r k).1 = (a + 4 * k, 0) ∧ ∀ j, (rowE (stO l) (a, 0) r k).2 j = if j < k then beV ((l.drop (a + 4 * j)).take 4) else 0 := by
  induction k with
  | zero => exact ⟨rfl, fun j => rfl⟩
  | succ k ih =>
    obtain ⟨h1, h2⟩ := ih (by omega)
    have e : stO l (rowE (stO l) (a, 0) r k).1 (r k) 4 = ((a + 4 * k + 4, 0), beV ((l.drop (a + 4 * k)).take 4)) := by rw [h1]; exact stO_ok l _ _ 4 (by omega)
    refine ⟨?_, fun j => ?_⟩
    · show (stO l (rowE (stO l) (a, 0) r k).1 (r k) 4).1 = _
      rw [e]; rfl
    · show (if j = k then (stO l (rowE (stO l) (a, 0) r k).1 (r k) 4).2 else (rowE (stO l) (a, 0) r k).2 j) = _
      rw [e, h2 j]
      by_cases e1 : j = k
      · subst e1; rw [if_pos rfl, if_pos (by omega)]
      · rw [if_neg e1]
        by_cases e2 : j < k
        · rw [if_pos e2, if_pos (by omega)]
        · rw [if_neg e2, if_neg (by omega)]
theorem stO_rows (l : List UInt8) (f : Nat → Nat) (n i : Nat) (hn : n ≤ 8) (h : 8 + 4 * (n * i) ≤ l.length) : (rowsE (stO l) (8, 0) f n i).1 = (8 + 4 * (n * i), 0) ∧ ∀ j, (rowsE (stO l) (8, 0) f n i).2 j = decF l n i j := by
  induction i with
  | zero => exact ⟨rfl, fun j => by show 0 = _; unfold decF; rw [if_neg (by omega)]⟩
  | succ i ih =>
    rw [Nat.mul_add, Nat.mul_one] at h
    obtain ⟨h1, h2⟩ := ih (by omega)
    obtain ⟨r1, r2⟩ := stO_row l (8 + 4 * (n * i)) (rowOf f i) n (by omega)
    refine ⟨?_, fun j => ?_⟩
    · show (rowE (stO l) (rowsE (stO l) (8, 0) f n i).1 (rowOf f i) n).1 = _
      rw [h1, r1, Nat.mul_add, Nat.mul_one]
      congr 1; omega
    · show (if 8 * i ≤ j ∧ j < 8 * i + 8 then (rowE (stO l) (rowsE (stO l) (8, 0) f n i).1 (rowOf f i) n).2 (j - 8 * i) else (rowsE (stO l) (8, 0) f n i).2 j) = _
      unfold decF
      by_cases e : 8 * i ≤ j ∧ j < 8 * i + 8
      · rw [if_pos e, h1, r2]
        have ej : j / 8 = i := by omega
        by_cases e2 : j - 8 * i < n
        · rw [if_pos e2, if_pos (by omega)]
          unfold at4
          rw [ej, show j % 8 = j - 8 * i from by omega, show 8 + 4 * (n * i) + 4 * (j - 8 * i) = 8 + 4 * (n * i + (j - 8 * i)) from by omega]
        · rw [if_neg e2, if_neg (by omega)]
      · rw [if_neg e, h2 j]
        unfold decF
        by_cases e2 : j / 8 < i ∧ j % 8 < n
        · rw [if_pos e2, if_pos (by omega)]
        · rw [if_neg e2, if_neg (by omega)]
/-- Where the next number begins, and what is wrong, told of where it ought to begin. -/
def PosO (l : List UInt8) (s : Nat × Nat) (a : Nat) : Prop := (a ≤ l.length ∧ s = (a, 0)) ∨ (l.length < a ∧ s = (l.length, 10))
theorem PosO.step {l : List UInt8} {s : Nat × Nat} {a : Nat} (h : PosO l s a) (v n : Nat) (hn : 1 ≤ n) : PosO l (stO l s v n).1 (a + n) := by
  unfold stO
  rcases h with ⟨h1, rfl⟩ | ⟨h1, rfl⟩
  · dsimp only
    by_cases e : a + n ≤ l.length
    · rw [if_pos e]; exact .inl ⟨e, rfl⟩
    · rw [if_neg e]; exact .inr ⟨by omega, rfl⟩
  · dsimp only
    rw [if_neg (by omega)]
    exact .inr ⟨by omega, rfl⟩
theorem PosO.row {l : List UInt8} {s : Nat × Nat} {a : Nat} (h : PosO l s a) (r : Nat → Nat) (k : Nat) : PosO l (rowE (stO l) s r k).1 (a + 4 * k) := by
  induction k with
  | zero => exact h
  | succ k ih =>
    have := ih.step (r k) 4 (by decide)
    rw [show a + 4 * k + 4 = a + 4 * (k + 1) from by omega] at this
    exact this
theorem PosO.rows {l : List UInt8} {s : Nat × Nat} {a : Nat} (h : PosO l s a) (f : Nat → Nat) (n i : Nat) : PosO l (rowsE (stO l) s f n i).1 (a + 4 * (n * i)) := by
  induction i with
  | zero => exact h
  | succ i ih =>
    have := ih.row (rowOf f i) n
    rw [show a + 4 * (n * i) + 4 * n = a + 4 * (n * (i + 1)) from by rw [Nat.mul_add, Nat.mul_one]; omega] at this
    exact this
/-- What is wrong behind the numbers. -/
def opE (s : Nat × Nat) (l : List UInt8) : Nat := if s.2 = 0 then (if s.1 < l.length then 11 else 0) else s.2
/-- What Decode answers. -/
def decT (l : List UInt8) (m n : Nat) : (Nat → Nat) × Nat × Nat :=
  if l.length < 8 + 4 * (n * (m + 1)) then (fun _ => 0, 0, 10) else if 8 + 4 * (n * (m + 1)) < l.length then (fun _ => 0, 0, 11) else (decF l n (m + 1), beV (l.take 8), 0)
theorem decT_fits (l : List UInt8) (m n : Nat) : Fits (decT l m n).1 := by
  unfold decT
  split
  · exact Fits.zero
  · split
    · exact Fits.zero
    · exact decF_fits _ _ _
theorem dec_told (l : List UInt8) (m n : Nat) (hn : n ≤ 8) : opE (rowsE (stO l) (stO l (0, 0) 0 8).1 (fun _ => 0) n (m + 1)).1 l = (decT l m n).2.2 ∧
    ((decT l m n).2.2 = 0 → (∀ j, (rowsE (stO l) (stO l (0, 0) 0 8).1 (fun _ => 0) n (m + 1)).2 j = (decT l m n).1 j) ∧ (stO l (0, 0) 0 8).2 = (decT l m n).2.1) := by
  have h0 : PosO l (0, 0) 0 := .inl ⟨Nat.zero_le _, rfl⟩
  have h1 := ((h0.step 0 8 (by decide)).rows (fun _ => 0) n (m + 1))
  rw [Nat.zero_add] at h1
  unfold decT
  rcases h1 with ⟨a, b⟩ | ⟨a, b⟩
  · rw [b, if_neg (by omega)]
    unfold opE
    dsimp only
    rw [if_pos rfl]
    by_cases e : 8 + 4 * (n * (m + 1)) < l.length
    · rw [if_pos e, if_pos e]
      exact ⟨rfl, fun h => by cases h⟩
    · rw [if_neg e, if_neg e]
      refine ⟨rfl, fun _ => ?_⟩
      have e8 : stO l (0, 0) 0 8 = ((8, 0), beV ((l.drop 0).take 8)) := by have := stO_ok l 0 0 8 (by omega); rw [Nat.zero_add] at this; exact this
      rw [e8]
      exact ⟨(stO_rows l (fun _ => 0) n (m + 1) hn a).2, rfl⟩
  · rw [b, if_pos a]
    exact ⟨rfl, fun h => by cases h⟩
/-- What is encoded is decoded as it was. -/
theorem dec_enc (f : Nat → Nat) (L m n : Nat) (hf : Fits f) (hL : L < 18446744073709551616) (hn : n ≤ 8) (hm : m ≤ 16) (ht : Told f m n) : (decT (encL f L m n) m n).2 = (L, 0) ∧ ∀ j, j < 136 → (decT (encL f L m n) m n).1 j = f j := by
  unfold decT
  rw [encL_len f L m n hn hm, if_neg (Nat.lt_irrefl _), if_neg (Nat.lt_irrefl _)]
  refine ⟨?_, fun j hj => ?_⟩
  · dsimp only
    rw [encL_head, beV_beL, show (256 : Nat) ^ 8 = 18446744073709551616 from by decide, Nat.mod_eq_of_lt hL]
  · show decF _ n (m + 1) j = f j
    unfold decF
    by_cases e : j / 8 < m + 1 ∧ j % 8 < n
    · rw [if_pos e, encL_piece f L m n j hn hm (by omega) e.2, beV_beL, show (256 : Nat) ^ 4 = 4294967296 from by decide, Nat.mod_eq_of_lt (hf j)]
    · rw [if_neg e, ht j hj (by omega)]
end Go.Proofs.Ythoahengdajpcaa
