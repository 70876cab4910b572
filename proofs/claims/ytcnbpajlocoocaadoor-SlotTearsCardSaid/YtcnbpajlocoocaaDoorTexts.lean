/- Texts as lists of bytes; which of them are all 0; the number of bytes, the highest first. -/
import Derived.Test.YtcnbpajlocoocaaDoorBytes
import Derived.Lib.TrimByte
namespace Go.Proofs.YtcnbpajlocoocaaDoor
open Go.RowKit

/-- A text of these bytes. -/
def bs (l : List UInt8) : ByteArray := ⟨l.toArray⟩
theorem bs_of (s : ByteArray) : bs s.data.toList = s := by cases s; simp [bs]
theorem bs_list (l : List UInt8) : (bs l).data.toList = l := by simp [bs]
theorem bs_size (l : List UInt8) : (bs l).size = l.length := by simp [bs, ByteArray.size]
theorem bs_get (l : List UInt8) (i : Nat) (h : i < (bs l).size) (h' : i < l.length) : (bs l)[i] = l[i] := rfl
theorem bs_extract (l : List UInt8) (a b : Nat) : (bs l).extract a b = bs ((l.drop a).take (b - a)) := by
  unfold bs
  rw [ByteArray.extract_mk]
theorem bs_append (l m : List UInt8) : bs l ++ bs m = bs (l ++ m) := by
  apply ByteArray.ext
  rw [ByteArray.data_append]
  simp [bs]
theorem bs_inj {l m : List UInt8} (h : bs l = bs m) : l = m := by rw [← bs_list l, ← bs_list m, h]
theorem bs_beq (l m : List UInt8) : (bs l == bs m) = (l == m) := by
  show (l.toArray == m.toArray) = (l == m)
  simp
theorem bs_nil : bs [] = ⟨#[]⟩ := rfl

theorem dw_nil (p : UInt8 → Bool) : ∀ l : List UInt8, l.dropWhile p = [] ↔ ∀ b ∈ l, p b = true
  | [] => by simp
  | x :: l => by
    rw [List.dropWhile_cons]
    split
    · rename_i h
      rw [dw_nil p l]
      simp [h]
    · rename_i h
      simp [h]

/-- Are all of them 0? -/
def zeroL (l : List UInt8) : Bool := l.all (· == 0)
theorem zeroL_iff {l : List UInt8} : zeroL l = true ↔ ∀ b ∈ l, b = 0 := by simp [zeroL]
theorem zeroL_rep {l : List UInt8} (h : zeroL l = true) : l = List.replicate l.length 0 := List.eq_replicate_of_mem (zeroL_iff.1 h)
theorem rep_zeroL (n : Nat) : zeroL (List.replicate n 0) = true := zeroL_iff.2 fun b hb => List.eq_of_mem_replicate hb
theorem trim_zero (l : List UInt8) : (Lib.trimB l 0 == []) = zeroL l := by
  rw [Bool.eq_iff_iff, beq_iff_eq, zeroL_iff]
  unfold Lib.trimB Lib.trimLeftB Lib.trimRightB
  constructor
  · intro h
    rw [dw_nil] at h
    cases hd : List.dropWhile (fun x => x == 0) l.reverse with
    | nil =>
      rw [dw_nil] at hd
      intro b hb
      simpa using hd b (List.mem_reverse.2 hb)
    | cons x t =>
      exfalso
      have h1 : (x == 0) = true := h x (by rw [hd]; simp)
      have h2 := List.head?_dropWhile_not (fun x : UInt8 => x == 0) l.reverse
      rw [hd] at h2
      simp at h2
      simp at h1
      exact h2 h1
  · intro h
    have : List.dropWhile (fun x => x == 0) l.reverse = [] := by
      rw [dw_nil]
      intro b hb
      simpa using h b (List.mem_reverse.1 hb)
    rw [this]
    rfl

/-- The number of these bytes, the highest first. -/
def beV (l : List UInt8) : Nat := l.foldl (fun v b => v * 256 + b.toNat) 0
theorem beV_nil : beV [] = 0 := rfl
theorem beV_snoc (l : List UInt8) (b : UInt8) : beV (l ++ [b]) = beV l * 256 + b.toNat := by unfold beV; rw [List.foldl_append]; rfl
theorem beV_take (l : List UInt8) (k : Nat) (h : k < l.length) : beV (l.take (k + 1)) = beV (l.take k) * 256 + (l[k]).toNat := by
  rw [List.take_succ_eq_append_getElem h, beV_snoc]
theorem beV_lt (l : List UInt8) : beV l < 256 ^ l.length := by
  suffices ∀ k, k ≤ l.length → beV (l.take k) < 256 ^ k by
    have := this l.length (Nat.le_refl _)
    rwa [List.take_length] at this
  intro k
  induction k with
  | zero => intro _; rw [List.take_zero, beV_nil]; decide
  | succ k ih =>
    intro h
    rw [beV_take l k h, Nat.pow_succ]
    have h1 := ih (by omega)
    have h2 := (l[k]).toNat_lt
    omega
theorem beV_take_lt (l : List UInt8) (k : Nat) (h : k ≤ l.length) : beV (l.take k) < 256 ^ k := by
  have := beV_lt (l.take k)
  rwa [List.length_take, Nat.min_eq_left h] at this
theorem beV_beL (n m : Nat) : beV (beL n m) = n % 256 ^ m := by
  suffices ∀ k, k ≤ m → beV ((beL n m).take k) = n / 256 ^ (m - k) % 256 ^ k by
    have := this m (Nat.le_refl _)
    rw [beL_full, Nat.sub_self, Nat.pow_zero, Nat.div_one] at this
    exact this
  intro k
  induction k with
  | zero => intro _; rw [List.take_zero, beV_nil, Nat.pow_zero, Nat.mod_one]
  | succ k ih =>
    intro h
    rw [beL_take n m k (by omega), beV_snoc, ih (by omega), UInt8.toNat_ofNat', Nat.mod_mod]
    have e1 : m - k = m - (k + 1) + 1 := by omega
    have e2 : m - 1 - k = m - (k + 1) := by omega
    rw [e1, e2, Nat.pow_succ, ← Nat.div_div_eq_div_mul]
    generalize n / 256 ^ (m - (k + 1)) = q
    rw [Nat.pow_succ, Nat.mul_comm (256 ^ k) 256, Nat.mod_mul]
    omega
theorem beL_beV (l : List UInt8) : beL (beV l) l.length = l := by
  apply List.ext_getElem?
  intro i
  by_cases h : i < l.length
  · rw [beL_get _ _ _ h, List.getElem?_eq_getElem h]
    congr 1
    have key : ∀ k, ∀ l : List UInt8, l.length = k → ∀ i, (h : i < l.length) → beV l / 256 ^ (l.length - 1 - i) % 256 = (l[i]).toNat := by
      intro k
      induction k with
      | zero => intro l hl i h; omega
      | succ k ih =>
        intro l hl i h
        have hne : l ≠ [] := by intro e; subst e; simp at hl
        obtain ⟨l', b, rfl⟩ : ∃ l' b, l = l' ++ [b] := ⟨l.dropLast, l.getLast hne, (List.dropLast_concat_getLast hne).symm⟩
        rw [List.length_append, List.length_singleton] at hl h
        rw [beV_snoc, List.length_append, List.length_singleton, Nat.add_sub_cancel]
        by_cases hi : i = l'.length
        · subst hi
          rw [Nat.sub_self, Nat.pow_zero, Nat.div_one, List.getElem_append_right (Nat.le_refl _)]
          have := b.toNat_lt
          simp
        · have hil : i < l'.length := by omega
          rw [List.getElem_append_left hil, ← ih l' (by omega) i hil]
          have e : l'.length - i = l'.length - 1 - i + 1 := by omega
          rw [e, Nat.pow_succ, Nat.mul_comm (256 ^ _) 256, ← Nat.div_div_eq_div_mul]
          have := b.toNat_lt
          rw [show (beV l' * 256 + b.toNat) / 256 = beV l' from by omega]
    rw [key _ l rfl i h, UInt8.ofNat_toNat]
  · rw [List.getElem?_eq_none (by rw [beL_len]; omega), List.getElem?_eq_none (by omega)]

end Go.Proofs.YtcnbpajlocoocaaDoor
