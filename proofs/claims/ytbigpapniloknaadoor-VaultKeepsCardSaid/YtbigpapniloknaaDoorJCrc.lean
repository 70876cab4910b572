/- The sum of 32 bits of a text (a CRC), as plain mathematics: one byte turned turns it; of 124 bytes, all but one of which are 0, it is not 0. Contracts of the two sums, the program's and the document's. -/
import Derived.Test.YtbigpapniloknaaDoorMath
import Derived.Test.YtbigpapniloknaaDoorMem
import Derived.Laws.Bits64
import Derived.Laws.Bits64b
import Derived.IntWalk
namespace Go.Proofs.YtbigpapniloknaaDoor

/-- What turns, where a bit and the sum's lowest one are unlike. -/
def crcP : Nat := 3988292384
/-- A bit of the text comes to the sum. -/
def crcBit (s b : Nat) : Nat := if s % 2 = b % 2 then s / 2 else (s / 2) ^^^ crcP
/-- k bits of a byte, the lowest one first. -/
def crcBits (s b : Nat) : Nat → Nat
  | 0 => s
  | k + 1 => crcBit (crcBits s b k) (b / 2 ^ k)
/-- A byte. -/
def crcByte (s b : Nat) : Nat := crcBits s b 8
/-- Bytes. -/
def crcL (s : Nat) (l : List UInt8) : Nat := l.foldl (fun t c => crcByte t c.toNat) s
/-- The sum of a text. -/
def crcSum (l : List UInt8) : Nat := 4294967295 - crcL 4294967295 l

theorem crcP_lt : crcP < 2 ^ 32 := by decide
theorem crcBit_lt {s : Nat} (h : s < 2 ^ 32) (b : Nat) : crcBit s b < 2 ^ 32 := by
  unfold crcBit
  split
  · omega
  · exact Nat.xor_lt_two_pow (by omega) crcP_lt
theorem crcBits_lt {s : Nat} (h : s < 2 ^ 32) (b k : Nat) : crcBits s b k < 2 ^ 32 := by
  induction k with
  | zero => exact h
  | succ k ih => exact crcBit_lt ih _
theorem crcByte_lt {s : Nat} (h : s < 2 ^ 32) (b : Nat) : crcByte s b < 2 ^ 32 := crcBits_lt h b 8
theorem crcL_nil (s : Nat) : crcL s [] = s := by unfold crcL; rw [List.foldl_nil]
theorem crcL_cons (s : Nat) (c : UInt8) (l : List UInt8) : crcL s (c :: l) = crcL (crcByte s c.toNat) l := by unfold crcL; rw [List.foldl_cons]
theorem crcL_lt {s : Nat} (h : s < 2 ^ 32) (l : List UInt8) : crcL s l < 2 ^ 32 := by
  induction l generalizing s with
  | nil => rw [crcL_nil]; exact h
  | cons c l ih => rw [crcL_cons]; exact ih (crcByte_lt h _)
theorem crcL_append (s : Nat) (l m : List UInt8) : crcL s (l ++ m) = crcL (crcL s l) m := by unfold crcL; rw [List.foldl_append]
theorem crcL_snoc (s : Nat) (l : List UInt8) (c : UInt8) : crcL s (l ++ [c]) = crcByte (crcL s l) c.toNat := by rw [crcL_append, crcL_cons, crcL_nil]

/-- Whether they were unlike stands in the highest bit. -/
theorem crcBit_top {s : Nat} (h : s < 2 ^ 32) (b : Nat) : (crcBit s b).testBit 31 = !decide (s % 2 = b % 2) := by
  have h1 : (s / 2).testBit 31 = false := Nat.testBit_lt_two_pow (by omega)
  have h2 : crcP.testBit 31 = true := by decide
  unfold crcBit
  split
  · rename_i e
    rw [h1]; simp [e]
  · rename_i e
    rw [Nat.testBit_xor, h1, h2]; simp [e]
theorem xor_div (a b j : Nat) : (a ^^^ b) / 2 ^ j = a / 2 ^ j ^^^ b / 2 ^ j := by
  rw [← Nat.shiftRight_eq_div_pow, ← Nat.shiftRight_eq_div_pow, ← Nat.shiftRight_eq_div_pow, Nat.shiftRight_xor_distrib]
theorem xor_cancel {a b c : Nat} (h : a ^^^ c = b ^^^ c) : a = b := by
  have := congrArg (· ^^^ c) h
  simpa [Nat.xor_assoc] using this
/-- What a step comes to, but for few low bits, tells what was ahead of it, but for one more. -/
theorem crcBit_back {s t : Nat} (hs : s < 2 ^ 32) (ht : t < 2 ^ 32) {b c j : Nat} (hj : j ≤ 31) (h : crcBit s b / 2 ^ j = crcBit t c / 2 ^ j) :
    (s % 2 = b % 2 ↔ t % 2 = c % 2) ∧ s / 2 ^ (j + 1) = t / 2 ^ (j + 1) := by
  have h1 := crcBit_top hs b
  have h2 := crcBit_top ht c
  have h3 : (crcBit s b).testBit 31 = (crcBit t c).testBit 31 := by
    have e : ∀ x : Nat, x.testBit 31 = (x / 2 ^ j).testBit (31 - j) := by
      intro x
      rw [Nat.testBit_div_two_pow]
      congr 1
      omega
    rw [e, e (crcBit t c), h]
  rw [h1, h2] at h3
  have h4 : (s % 2 = b % 2 ↔ t % 2 = c % 2) := by
    by_cases p : s % 2 = b % 2 <;> by_cases q : t % 2 = c % 2 <;> simp_all
  refine ⟨h4, ?_⟩
  have e2 : ∀ x : Nat, x / 2 ^ (j + 1) = x / 2 / 2 ^ j := by
    intro x
    rw [Nat.pow_succ, Nat.mul_comm, Nat.div_div_eq_div_mul]
  rw [e2, e2 t]
  unfold crcBit at h
  by_cases p : s % 2 = b % 2
  · rw [if_pos p, if_pos (h4.mp p)] at h
    exact h
  · rw [if_neg p, if_neg (fun q => p (h4.mpr q)), xor_div, xor_div] at h
    exact xor_cancel h

/-- Of one text's bit, the sum behind tells the sum ahead. -/
theorem crcBit_inj {s t b : Nat} (hs : s < 2 ^ 32) (ht : t < 2 ^ 32) (h : crcBit s b = crcBit t b) : s = t := by
  have h1 := crcBit_back hs ht (b := b) (c := b) (j := 0) (by omega) (by rw [h])
  have h2 := h1.1
  have h3 := h1.2
  simp only [Nat.zero_add, Nat.pow_one] at h3
  by_cases p : s % 2 = b % 2
  · have := h2.mp p
    omega
  · have : ¬ t % 2 = b % 2 := fun q => p (h2.mpr q)
    omega
theorem crcBits_inj {s t b : Nat} (hs : s < 2 ^ 32) (ht : t < 2 ^ 32) (k : Nat) (h : crcBits s b k = crcBits t b k) : s = t := by
  induction k with
  | zero => exact h
  | succ k ih => exact ih (crcBit_inj (crcBits_lt hs b k) (crcBits_lt ht b k) h)
theorem crcByte_inj {s t b : Nat} (hs : s < 2 ^ 32) (ht : t < 2 ^ 32) (h : crcByte s b = crcByte t b) : s = t := crcBits_inj hs ht 8 h
theorem crcL_inj {s t : Nat} (hs : s < 2 ^ 32) (ht : t < 2 ^ 32) (l : List UInt8) (h : crcL s l = crcL t l) : s = t := by
  induction l generalizing s t with
  | nil => rw [crcL_nil, crcL_nil] at h; exact h
  | cons c l ih => rw [crcL_cons, crcL_cons] at h; exact crcByte_inj hs ht (ih (crcByte_lt hs _) (crcByte_lt ht _) h)

/-- From one sum on, what comes of k bits, but for few low bits, tells the bits. -/
theorem crcBits_tell {s : Nat} (hs : s < 2 ^ 32) (b c : Nat) (k : Nat) : ∀ j : Nat, j + k ≤ 31 → crcBits s b k / 2 ^ j = crcBits s c k / 2 ^ j →
    crcBits s b k = crcBits s c k ∧ b % 2 ^ k = c % 2 ^ k := by
  induction k with
  | zero => intro j _ _; exact ⟨rfl, by simp [Nat.mod_one]⟩
  | succ k ih =>
    intro j hj h
    have h1 := crcBit_back (crcBits_lt hs b k) (crcBits_lt hs c k) (j := j) (by omega) h
    obtain ⟨h2, h3⟩ := ih (j + 1) (by omega) h1.2
    have h4 := h1.1
    rw [h2] at h4
    have h5 : b / 2 ^ k % 2 = c / 2 ^ k % 2 := by
      have a1 := Nat.mod_two_eq_zero_or_one (crcBits s c k)
      have a2 := Nat.mod_two_eq_zero_or_one (b / 2 ^ k)
      have a3 := Nat.mod_two_eq_zero_or_one (c / 2 ^ k)
      by_cases p : crcBits s c k % 2 = b / 2 ^ k % 2
      · have := h4.mp p
        omega
      · have : ¬ crcBits s c k % 2 = c / 2 ^ k % 2 := fun q => p (h4.mpr q)
        omega
    refine ⟨?_, ?_⟩
    · show crcBit (crcBits s b k) (b / 2 ^ k) = crcBit (crcBits s c k) (c / 2 ^ k)
      unfold crcBit
      rw [h2, h5]
    · rw [Nat.pow_succ, Nat.mod_mul, Nat.mod_mul, h3, h5]
theorem crcByte_tell {s : Nat} (hs : s < 2 ^ 32) {b c : Nat} (hb : b < 256) (hc : c < 256) (h : crcByte s b = crcByte s c) : b = c := by
  have := (crcBits_tell hs b c 8 0 (by omega) (by rw [show crcBits s b 8 = crcBits s c 8 from h])).2
  rw [Nat.mod_eq_of_lt (by omega), Nat.mod_eq_of_lt (by omega)] at this
  exact this

/-- ONE BYTE TURNED TURNS THE SUM. -/
theorem crcSum_turned (l m : List UInt8) (b c : UInt8) (h : crcSum (l ++ b :: m) = crcSum (l ++ c :: m)) : b = c := by
  have h0 : (4294967295 : Nat) < 2 ^ 32 := by decide
  have h1 := crcL_lt h0 (l ++ b :: m)
  have h2 := crcL_lt h0 (l ++ c :: m)
  have h3 : crcL 4294967295 (l ++ b :: m) = crcL 4294967295 (l ++ c :: m) := by
    unfold crcSum at h
    have e : (2 : Nat) ^ 32 = 4294967296 := by decide
    rw [e] at h1 h2
    omega
  rw [crcL_append, crcL_append, crcL_cons, crcL_cons] at h3
  have hl := crcL_lt h0 l
  have h4 := crcL_inj (crcByte_lt hl _) (crcByte_lt hl _) m h3
  have h5 := crcByte_tell hl (UInt8.toNat_lt b) (UInt8.toNat_lt c) h4
  exact UInt8.toNat_inj.mp h5

/-- A byte may as well come to the sum's low bits, all at once. -/
theorem crcBits_fold (s b k : Nat) : crcBits (s ^^^ b) 0 k = crcBits s b k ^^^ (b / 2 ^ k) := by
  induction k with
  | zero => simp [crcBits]
  | succ k ih =>
    show crcBit (crcBits (s ^^^ b) 0 k) (0 / 2 ^ k) = crcBit (crcBits s b k) (b / 2 ^ k) ^^^ (b / 2 ^ (k + 1))
    rw [ih, Nat.zero_div, Nat.pow_succ, ← Nat.div_div_eq_div_mul]
    generalize crcBits s b k = S
    generalize b / 2 ^ k = B
    have h1 : (S ^^^ B) / 2 = S / 2 ^^^ B / 2 := by
      have := xor_div S B 1
      simpa using this
    have h2 : (S ^^^ B) % 2 = 0 % 2 ↔ S % 2 = B % 2 := by
      have e : (S ^^^ B) % 2 = (S % 2) ^^^ (B % 2) := by
        have := Nat.xor_mod_two_pow (a := S) (b := B) (n := 1)
        simpa using this
      rw [e]
      rcases Nat.mod_two_eq_zero_or_one S with a1 | a1 <;> rcases Nat.mod_two_eq_zero_or_one B with a2 | a2 <;> rw [a1, a2] <;> decide
    unfold crcBit
    by_cases p : S % 2 = B % 2
    · rw [if_pos p, if_pos (h2.mpr p), h1]
    · rw [if_neg p, if_neg (fun q => p (h2.mp q)), h1, Nat.xor_assoc, Nat.xor_assoc, Nat.xor_comm (B / 2)]
theorem crcByte_fold (s : Nat) {b : Nat} (hb : b < 256) : crcByte s b = crcByte (s ^^^ b) 0 := by
  unfold crcByte
  rw [crcBits_fold, show b / 2 ^ 8 = 0 from Nat.div_eq_of_lt (by omega), Nat.xor_zero]

/-- Ahead of a bit that is 0. -/
def crcBack (r : Nat) : Nat := if r < 2147483648 then r * 2 else (r ^^^ crcP) * 2 + 1
/-- Ahead of a byte that is 0. -/
def crcBack8 (r : Nat) : Nat := crcBack (crcBack (crcBack (crcBack (crcBack (crcBack (crcBack (crcBack r)))))))
/-- A walk through 124 places: the sum ahead of each one, if all ahead of it are 0; the sum that it must be ahead of it, if it and all behind are 0. -/
def crcZero : Nat → Nat
  | 0 => 4294967295
  | n + 1 => crcByte (crcZero n) 0
def crcRest : Nat → Nat
  | 0 => 4294967295
  | n + 1 => crcBack8 (crcRest n)
theorem crcRest_ok : ∀ k, k < 124 → crcByte (crcRest (k + 1)) 0 = crcRest k ∧ crcRest (k + 1) < 2 ^ 32 ∧ 256 ≤ crcZero (123 - k) ^^^ crcRest (k + 1) := by
  decide +kernel
theorem crcL_zeros (s n : Nat) : crcL s (List.replicate (n + 1) 0) = crcByte (crcL s (List.replicate n 0)) 0 := by
  rw [List.replicate_succ', crcL_snoc, UInt8.toNat_zero]
theorem crcZero_eq (n : Nat) : crcL 4294967295 (List.replicate n 0) = crcZero n := by
  induction n with
  | zero => rw [List.replicate_zero, crcL_nil, crcZero]
  | succ n ih => rw [crcL_zeros, ih, crcZero]
theorem crcZero_lt (n : Nat) : crcZero n < 2 ^ 32 := by
  rw [← crcZero_eq]
  exact crcL_lt (by decide) _
theorem crcRest_lt {n : Nat} (h : n ≤ 124) : crcRest n < 2 ^ 32 := by
  cases n with
  | zero => decide
  | succ n => exact (crcRest_ok n (by omega)).2.1
/-- From there on, noughts lead to the sum 0. -/
theorem crcRest_leads {n : Nat} (h : n ≤ 124) : crcL (crcRest n) (List.replicate n 0) = 4294967295 := by
  induction n with
  | zero => rw [List.replicate_zero, crcL_nil, crcRest]
  | succ n ih =>
    have z : (0 : UInt8).toNat = 0 := rfl
    have k := (crcRest_ok n (by omega)).1
    rw [List.replicate_succ, crcL_cons, z]
    generalize crcRest (n + 1) = r at k
    rw [k]
    exact ih (by omega)
/-- No text of 124 bytes, all but one of which are 0, has the sum 0. -/
theorem crcSum_lone {i j : Nat} (hij : i + 1 + j = 124) {b : UInt8} : crcSum (List.replicate i 0 ++ b :: List.replicate j 0) ≠ 0 := by
  intro h
  have h0 : (4294967295 : Nat) < 2 ^ 32 := by decide
  have h1 := crcL_lt h0 (List.replicate i 0 ++ b :: List.replicate j 0)
  have h3 : crcL 4294967295 (List.replicate i 0 ++ b :: List.replicate j 0) = 4294967295 := by
    unfold crcSum at h
    have e : (2 : Nat) ^ 32 = 4294967296 := by decide
    rw [e] at h1
    omega
  rw [crcL_append, crcZero_eq, crcL_cons] at h3
  have h4 : crcByte (crcZero i) b.toNat = crcRest j :=
    crcL_inj (crcByte_lt (crcZero_lt i) _) (crcRest_lt (by omega)) (List.replicate j 0) (h3.trans (crcRest_leads (n := j) (by omega)).symm)
  obtain ⟨k1, k2, k3⟩ := crcRest_ok j (by omega)
  rw [crcByte_fold _ (UInt8.toNat_lt b), ← k1] at h4
  have hb : b.toNat < 2 ^ 32 := by have := UInt8.toNat_lt b; omega
  have h5 := crcByte_inj (Nat.xor_lt_two_pow (crcZero_lt i) hb) k2 h4
  rw [show 123 - j = i from by omega, ← h5, ← Nat.xor_assoc, Nat.xor_self, Nat.zero_xor] at k3
  have := UInt8.toNat_lt b
  omega
/-- The sum of 124 noughts. -/
theorem crcSum_zeros : crcSum (List.replicate 124 0) = 4294967295 - crcZero 124 := by
  unfold crcSum
  rw [crcZero_eq]
/-- .. has more than one byte that isn't 0. -/
theorem crcSum_zeros_bytes : crcSum (List.replicate 124 0) % 65536 ≠ 0 ∧ crcSum (List.replicate 124 0) / 65536 ≠ 0 := by
  rw [crcSum_zeros]
  decide +kernel

end Go.Proofs.YtbigpapniloknaaDoor

namespace Go.Proofs.YtbigpapniloknaaDoor
open Go.RowKit

theorem wrap_u32n (n : Int) : IntKind.u32.wrap n = n % 4294967296 := by simp [IntKind.wrap, IntKind.bits, IntKind.signed]
theorem u32_in (n : Nat) (h : n < 4294967296) : IntKind.u32.wrap (n : Int) = (n : Int) := by rw [wrap_u32n]; omega
theorem bits_and_u32n (a b : Nat) (ha : a < 4294967296) (hb : b < 4294967296) : bits .and .u32 (a : Int) (b : Int) = ((a &&& b : Nat) : Int) := by
  have hx : a &&& b < 2 ^ 32 := Nat.and_lt_two_pow _ (by omega)
  have h1 : (BitVec.ofInt 32 (a : Int)).toNat = a := by
    rw [BitVec.ofInt_natCast, BitVec.toNat_ofNat]; exact Nat.mod_eq_of_lt (by omega)
  have h2 : (BitVec.ofInt 32 (b : Int)).toNat = b := by
    rw [BitVec.ofInt_natCast, BitVec.toNat_ofNat]; exact Nat.mod_eq_of_lt (by omega)
  show IntKind.u32.wrap ((BitVec.ofInt 32 (a : Int) &&& BitVec.ofInt 32 (b : Int)).toNat : Int) = _
  rw [BitVec.toNat_and, h1, h2, wrap_u32n]
  omega
theorem bits_xor_u32n (a b : Nat) (ha : a < 4294967296) (hb : b < 4294967296) : bits .xor .u32 (a : Int) (b : Int) = ((a ^^^ b : Nat) : Int) := by
  have hx : a ^^^ b < 2 ^ 32 := Nat.xor_lt_two_pow (by omega) (by omega)
  have h1 : (BitVec.ofInt 32 (a : Int)).toNat = a := by
    rw [BitVec.ofInt_natCast, BitVec.toNat_ofNat]; exact Nat.mod_eq_of_lt (by omega)
  have h2 : (BitVec.ofInt 32 (b : Int)).toNat = b := by
    rw [BitVec.ofInt_natCast, BitVec.toNat_ofNat]; exact Nat.mod_eq_of_lt (by omega)
  show IntKind.u32.wrap ((BitVec.ofInt 32 (a : Int) ^^^ BitVec.ofInt 32 (b : Int)).toNat : Int) = _
  rw [BitVec.toNat_xor, h1, h2, wrap_u32n]
  omega

theorem xor_low (y q : Nat) : (y ^^^ q) &&& 1 = if y % 2 = q % 2 then 0 else 1 := by
  have h := Nat.xor_mod_two_pow (a := y) (b := q) (n := 1)
  rw [Nat.pow_one] at h
  rw [Nat.and_one_is_mod, h]
  rcases Nat.mod_two_eq_zero_or_one y with h1 | h1 <;> rcases Nat.mod_two_eq_zero_or_one q with h2 | h2 <;> rw [h1, h2] <;> rfl

/-- The lowest bits are alike. -/
theorem low_like {y q : Nat} (hy : y < 4294967296) (hq : q < 4294967296) (h : y % 2 = q % 2) : bits .and .u32 (bits .xor .u32 (y : Int) (q : Int)) 1 = 0 := by
  have hx : y ^^^ q < 2 ^ 32 := Nat.xor_lt_two_pow (by omega) (by omega)
  rw [bits_xor_u32n y q hy hq, show (1 : Int) = ((1 : Nat) : Int) from rfl, bits_and_u32n _ 1 (by omega) (by omega), xor_low, if_pos h]; rfl
theorem low_unlike {y q : Nat} (hy : y < 4294967296) (hq : q < 4294967296) (h : ¬ y % 2 = q % 2) : bits .and .u32 (bits .xor .u32 (y : Int) (q : Int)) 1 = 1 := by
  have hx : y ^^^ q < 2 ^ 32 := Nat.xor_lt_two_pow (by omega) (by omega)
  rw [bits_xor_u32n y q hy hq, show (1 : Int) = ((1 : Nat) : Int) from rfl, bits_and_u32n _ 1 (by omega) (by omega), xor_low, if_neg h]
theorem crcBit_like {y q : Nat} (h : y % 2 = q % 2) : crcBit y q = y / 2 := by unfold crcBit; rw [if_pos h]
theorem crcBit_unlike {y q : Nat} (h : ¬ y % 2 = q % 2) : crcBit y q = y / 2 ^^^ 3988292384 := by unfold crcBit; rw [if_neg h]; rfl
theorem crcBits_succ (s b k : Nat) : crcBits s b (k + 1) = crcBit (crcBits s b k) (b / 2 ^ k) := rfl
theorem crcBits_zero (s b : Nat) : crcBits s b 0 = s := rfl
theorem crcL_take (s : Nat) (l : List UInt8) (k : Nat) (hk : k < l.length) : crcL s (l.take (k + 1)) = crcBits (crcL s (l.take k)) (l[k]).toNat 8 := by
  rw [List.take_succ_eq_append_getElem hk, crcL_snoc]; rfl

theorem ones_xor (x : Nat) (h : x < 4294967296) : 4294967295 ^^^ x = 4294967295 - x := by
  have h1 : (BitVec.allOnes 32 ^^^ BitVec.ofNat 32 x).toNat = (~~~ BitVec.ofNat 32 x).toNat := by rw [BitVec.allOnes_xor]
  rw [BitVec.toNat_xor, BitVec.toNat_not, BitVec.toNat_ofNat, BitVec.toNat_allOnes, Nat.mod_eq_of_lt (by omega)] at h1
  exact h1
theorem bits_ones (x : Nat) (h : x < 4294967296) : bits BinOp.xor IntKind.u32 IntKind.u32.max (x : Int) = ((4294967295 - x : Nat) : Int) := by
  rw [show IntKind.u32.max = ((4294967295 : Nat) : Int) from rfl, bits_xor_u32n _ x (by omega) h, ones_xor x h]
theorem crcL_lt' {s : Nat} (h : s < 4294967296) (l : List UInt8) : crcL s l < 4294967296 := crcL_lt h l
theorem crcSum_lt (l : List UInt8) : crcSum l < 4294967296 := by unfold crcSum; omega

set_option maxHeartbeats 2000000 in
theorem seal_Sum (s : ByteArray) (w : World) (hs : (s.size : Int) ≤ 9223372036854775807) :
    Calls Tryd.prog 49 #[.string s] w fun e w' => e = .returned (.int .u32 ((crcSum s.data.toList : Nat) : Int)) ∧ w = w' := by
  have hsz : s.size = s.data.toList.length := by rw [Array.length_toList]; rfl
  have HSZ := Lib.hid hsz
  clear hsz
  go_enter Tryd.func49, Tryd.ntmps49
  go_wp2
  go_loopw [3, 9] (fun sv iv wr => ∃ (k x : Nat), iv = .int .i64 k ∧ k ≤ s.size ∧ sv = .int .u32 x ∧ Hid (x = crcL 4294967295 (s.data.toList.take k)) ∧ x < 4294967296 ∧ w = wr) (fun _ iv _ => s.size - (intOf iv).toNat)
  case atStart => exact ⟨0, 4294967295, rfl, Nat.zero_le _, rfl, Lib.hid (by rw [List.take_zero, crcL_nil]), by omega, rfl⟩
  case round =>
    obtain ⟨k, x, rfl, hk, rfl, HX, hx, rfl⟩ := hrel
    by_cases hlt : k < s.size
    · have hkl : k < s.data.toList.length := by rw [← HSZ.out]; exact hlt
      obtain ⟨b, hb⟩ : ∃ b, b = (s[k]'hlt).toNat := ⟨_, rfl⟩
      have HX1 : Hid (crcL 4294967295 (s.data.toList.take (k + 1)) = crcBits x b 8) := Lib.hid (by rw [crcL_take 4294967295 s.data.toList k hkl, ← HX.out, hb]; rfl)
      have hb8 : b < 256 := by rw [hb]; exact s[k].toNat_lt
      have hbi : ((s[k]'hlt).toNat : Int) = (b : Int) := by rw [hb]
      clear hb hkl
      go_wp2
      go_loopw [3, 12] (fun sv iv wr => ∃ (j y : Nat), iv = .int .i64 j ∧ j ≤ 8 ∧ sv = .int .u32 y ∧ Hid (y = crcBits x b j) ∧ y < 4294967296 ∧ w = wr) (fun _ iv _ => 8 - (intOf iv).toNat)
      case atStart => exact ⟨0, x, rfl, by omega, rfl, Lib.hid (crcBits_zero _ _).symm, hx, rfl⟩
      case round =>
        obtain ⟨j, y, rfl, hj, rfl, HY, hy, rfl⟩ := hrel
        by_cases hj8 : j < 8
        · obtain ⟨q, hq⟩ : ∃ q, q = b / 2 ^ j := ⟨_, rfl⟩
          have hqi : (s[k].toNat : Int) / 2 ^ j = (q : Int) := by rw [hbi, hq]; push_cast; rfl
          have hwb : IntKind.u32.wrap (s[k].toNat : Int) = (s[k].toNat : Int) := by rw [hbi]; exact u32_in b (by omega)
          have hq8 : q < 4294967296 := by rw [hq]; exact Nat.lt_of_le_of_lt (Nat.div_le_self _ _) (by omega)
          have HQ := Lib.hid hq
          clear hq hbi
          obtain ⟨h, hh⟩ : ∃ h, h = y / 2 := ⟨_, rfl⟩
          have hhi : (y : Int) / 2 = (h : Int) := by omega
          have hhb : h < 4294967296 := by omega
          have HH := Lib.hid hh
          clear hh
          by_cases hl : y % 2 = q % 2
          · have hu := low_like hy hq8 hl
            have HN : Hid (h = crcBits x b (j + 1)) := Lib.hid (by rw [crcBits_succ, ← HY.out, ← HQ.out, crcBit_like hl, HH.out])
            clear hl
            go_wp2
            go_roundw
            case rel => exact ⟨j + 1, h, by go_num, by omega, rfl, HN, hhb, trivial⟩
            case measure => simp [intOf]; omega
          · have hu := low_unlike hy hq8 hl
            obtain ⟨z, hz⟩ : ∃ z, z = h ^^^ 3988292384 := ⟨_, rfl⟩
            have hzb : z < 4294967296 := by
              have : h ^^^ 3988292384 < 2 ^ 32 := Nat.xor_lt_two_pow (by omega) (by omega)
              omega
            have hzi : bits .xor .u32 (h : Int) 3988292384 = (z : Int) := by rw [hz]; exact bits_xor_u32n h 3988292384 (by omega) (by omega)
            have HN : Hid (z = crcBits x b (j + 1)) := Lib.hid (by rw [crcBits_succ, ← HY.out, ← HQ.out, crcBit_unlike hl, hz, HH.out])
            clear hl hz
            go_wp2
            go_roundw
            case rel => exact ⟨j + 1, z, by go_num, by omega, rfl, HN, hzb, trivial⟩
            case measure => simp [intOf]; omega
        · have hj8' : j = 8 := by omega
          subst hj8'
          have HN : Hid (y = crcL 4294967295 (s.data.toList.take (k + 1))) := Lib.hid (by rw [HX1.out, HY.out])
          go_wp2
          go_roundw
          case rel => exact ⟨k + 1, y, by go_num, by omega, rfl, HN, hy, trivial⟩
          case measure => simp [intOf]; omega
    · have hks : k = s.size := by omega
      subst hks
      have HN : Hid (4294967295 - x = crcSum s.data.toList) := Lib.hid (by unfold crcSum; rw [HX.out, List.take_of_length_le (by rw [← HSZ.out]; omega)])
      go_wp2
      go_ret
      exact ⟨ret_int (by rw [← HN.out]; exact bits_ones x hx), rfl⟩

end Go.Proofs.YtbigpapniloknaaDoor
