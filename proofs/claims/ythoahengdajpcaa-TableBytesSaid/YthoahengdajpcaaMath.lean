/- Plain mathematics of numbers as lists of digits, the least first: value, noughts behind, length in bits. No program is named. -/
import Derived.Test.YthoahengdajpcaaRows
namespace Go.Proofs.Ythoahengdajpcaa

def B64 : Nat := 18446744073709551616
theorem B64_eq : B64 = 18446744073709551616 := rfl
theorem B64_pow : B64 = 2 ^ 64 := by decide
theorem B64_pos : 0 < B64 := by decide

/-- The number of digits in base b, the least first. -/
def val (b : Nat) : List Nat → Nat
  | [] => 0
  | x :: xs => x + b * val b xs

/-- Without noughts behind. -/
def trimL : List Nat → List Nat
  | [] => []
  | x :: xs => if x = 0 ∧ trimL xs = [] then [] else x :: trimL xs

def Dig (b : Nat) (xs : List Nat) : Prop := ∀ x ∈ xs, x < b

theorem val_append (b : Nat) (xs ys : List Nat) : val b (xs ++ ys) = val b xs + b ^ xs.length * val b ys := by
  induction xs with
  | nil => simp [val]
  | cons x xs ih => simp only [List.cons_append, val, ih, List.length_cons, Nat.pow_succ, Nat.mul_add]; rw [Nat.add_assoc, Nat.mul_comm (b ^ xs.length) b, Nat.mul_assoc]

theorem val_snoc (b : Nat) (xs : List Nat) (y : Nat) : val b (xs ++ [y]) = val b xs + b ^ xs.length * y := by
  rw [val_append]; simp [val]

theorem val_replicate (b n : Nat) : val b (List.replicate n 0) = 0 := by
  induction n with
  | zero => rfl
  | succ n ih => simp [List.replicate_succ, val, ih]

theorem Dig.nil (b : Nat) : Dig b [] := fun _ h => by cases h
theorem Dig.cons {b x : Nat} {xs : List Nat} (hx : x < b) (h : Dig b xs) : Dig b (x :: xs) := by
  intro y hy
  rcases List.mem_cons.1 hy with rfl | hy
  · exact hx
  · exact h _ hy
theorem Dig.tail {b x : Nat} {xs : List Nat} (h : Dig b (x :: xs)) : Dig b xs := fun y hy => h y (List.mem_cons_of_mem _ hy)
theorem Dig.head {b x : Nat} {xs : List Nat} (h : Dig b (x :: xs)) : x < b := h x (List.mem_cons_self)
theorem Dig.app {b : Nat} {xs ys : List Nat} (h : Dig b xs) (k : Dig b ys) : Dig b (xs ++ ys) := by
  intro y hy
  rcases List.mem_append.1 hy with hy | hy
  · exact h _ hy
  · exact k _ hy
theorem Dig.take {b : Nat} {xs : List Nat} (h : Dig b xs) (k : Nat) : Dig b (xs.take k) := fun y hy => h y (List.mem_of_mem_take hy)
theorem Dig.drop {b : Nat} {xs : List Nat} (h : Dig b xs) (k : Nat) : Dig b (xs.drop k) := fun y hy => h y (List.mem_of_mem_drop hy)
theorem Dig.getD {b : Nat} {xs : List Nat} (h : Dig b xs) (hb : 0 < b) (k : Nat) : xs.getD k 0 < b := by
  rw [List.getD_eq_getElem?_getD]
  rcases hk : xs[k]? with _ | y
  · exact hb
  · exact h y (List.mem_of_getElem? hk)
theorem Dig.replicate {b : Nat} (hb : 0 < b) (n : Nat) : Dig b (List.replicate n 0) := by
  intro y hy
  have := List.eq_of_mem_replicate hy
  omega

theorem val_lt {b : Nat} {xs : List Nat} (h : Dig b xs) : val b xs < b ^ xs.length := by
  induction xs with
  | nil => simp [val]
  | cons x xs ih =>
    have h1 := h.head
    have h2 := ih h.tail
    have h3 : b * (val b xs + 1) ≤ b * b ^ xs.length := Nat.mul_le_mul_left b h2
    simp only [val, List.length_cons, Nat.pow_succ]
    rw [Nat.mul_comm (b ^ xs.length) b]
    rw [Nat.mul_add] at h3
    omega

theorem val_trim (b : Nat) (xs : List Nat) : val b (trimL xs) = val b xs := by
  induction xs with
  | nil => rfl
  | cons x xs ih =>
    unfold trimL
    split
    · rename_i h
      rw [h.2] at ih
      simp [val] at ih ⊢
      rw [← ih, h.1]; simp
    · simp [val, ih]

theorem trimL_snoc_zero (xs : List Nat) : trimL (xs ++ [0]) = trimL xs := by
  induction xs with
  | nil => rfl
  | cons x xs ih => simp only [List.cons_append, trimL, ih]

theorem trimL_snoc_pos (xs : List Nat) (y : Nat) (hy : y ≠ 0) : trimL (xs ++ [y]) = xs ++ [y] := by
  induction xs with
  | nil => simp [trimL, hy]
  | cons x xs ih => simp [trimL, ih]

theorem trimL_idem (xs : List Nat) : trimL (trimL xs) = trimL xs := by
  induction xs with
  | nil => rfl
  | cons x xs ih =>
    by_cases h : x = 0 ∧ trimL xs = []
    · simp [trimL, h]
    · simp only [trimL, if_neg h, ih]

theorem trimL_take (xs : List Nat) : trimL xs = xs.take (trimL xs).length := by
  induction xs with
  | nil => rfl
  | cons x xs ih =>
    by_cases h : x = 0 ∧ trimL xs = []
    · simp [trimL, h]
    · simp only [trimL, if_neg h, List.length_cons, List.take_succ_cons]; rw [← ih]

theorem trimL_len (xs : List Nat) : (trimL xs).length ≤ xs.length := by
  have h := congrArg List.length (trimL_take xs)
  rw [List.length_take] at h
  omega

theorem trimL_dig {b : Nat} {xs : List Nat} (h : Dig b xs) : Dig b (trimL xs) := by
  rw [trimL_take]; exact h.take _

theorem trimL_tail {x : Nat} {xs : List Nat} (h : trimL (x :: xs) = x :: xs) : trimL xs = xs := by
  unfold trimL at h
  split at h
  · cases h
  · injection h

theorem trim_val_zero {b : Nat} (hb : 0 < b) {xs : List Nat} (ht : trimL xs = xs) (hv : val b xs = 0) : xs = [] := by
  induction xs with
  | nil => rfl
  | cons x xs ih =>
    have hx : x = 0 ∧ val b xs = 0 := by
      simp only [val] at hv
      have h1 : x = 0 := by omega
      have h2 : b * val b xs = 0 := by omega
      rcases Nat.mul_eq_zero.1 h2 with h | h
      · omega
      · exact ⟨h1, h⟩
    have h3 := ih (trimL_tail ht) hx.2
    rw [h3, hx.1] at ht
    simp [trimL] at ht

theorem trim_inj {b : Nat} {xs ys : List Nat} (hx : Dig b xs) (hy : Dig b ys) (tx : trimL xs = xs) (ty : trimL ys = ys) (h : val b xs = val b ys) : xs = ys := by
  induction xs generalizing ys with
  | nil =>
    cases ys with
    | nil => rfl
    | cons y ys =>
      have hb : 0 < b := by have := hy.head; omega
      exact (trim_val_zero hb ty (by rw [← h]; rfl)).symm
  | cons x xs ih =>
    have hb : 0 < b := by have := hx.head; omega
    cases ys with
    | nil => exact trim_val_zero hb tx (by rw [h]; rfl)
    | cons y ys =>
      have h1 := hx.head
      have h2 := hy.head
      simp only [val] at h
      have e1 : x = y := by
        have := congrArg (· % b) h
        simpa [Nat.add_mul_mod_self_left, Nat.mod_eq_of_lt h1, Nat.mod_eq_of_lt h2] using this
      have e2 : val b xs = val b ys := by
        subst e1
        exact Nat.eq_of_mul_eq_mul_left hb (by omega)
      rw [e1, ih hx.tail hy.tail (trimL_tail tx) (trimL_tail ty) e2]

theorem trim_len_le {b k : Nat} (hb : 1 < b) {xs : List Nat} (hx : Dig b xs) (tx : trimL xs = xs) : xs.length ≤ k ↔ val b xs < b ^ k := by
  constructor
  · intro h
    exact Nat.lt_of_lt_of_le (val_lt hx) (Nat.pow_le_pow_right (by omega) h)
  · intro h
    rcases Nat.lt_or_ge k xs.length with hlt | hge
    · exfalso
      have hlen : 0 < xs.length := by omega
      have hsplit : xs.take (xs.length - 1) ++ [xs[xs.length - 1]'(by omega)] = xs := by
        have := List.take_append_getElem (l := xs) (i := xs.length - 1) (by omega)
        rw [this, List.take_of_length_le (by omega)]
      have hne : xs[xs.length - 1]'(by omega) ≠ 0 := by
        intro h0
        rw [h0] at hsplit
        have := trimL_snoc_zero (xs.take (xs.length - 1))
        rw [hsplit, tx] at this
        have h2 := congrArg List.length this
        have h3 := trimL_len (xs.take (xs.length - 1))
        rw [← h2, List.length_take] at h3
        omega
      have hv := val_snoc b (xs.take (xs.length - 1)) (xs[xs.length - 1]'(by omega))
      rw [hsplit, List.length_take, Nat.min_eq_left (by omega)] at hv
      have h1 : b ^ k ≤ b ^ (xs.length - 1) := Nat.pow_le_pow_right (by omega) (by omega)
      have h2 : b ^ (xs.length - 1) * 1 ≤ b ^ (xs.length - 1) * xs[xs.length - 1]'(by omega) := Nat.mul_le_mul_left _ (by omega)
      omega
    · exact hge

/-- A number's length in bits. -/
def bl (x : Nat) : Nat := if x = 0 then 0 else x.log2 + 1

theorem bl_le {x k : Nat} : bl x ≤ k ↔ x < 2 ^ k := by
  unfold bl
  split
  · rename_i h; subst h; simp [Nat.two_pow_pos]
  · rename_i h
    rw [Nat.succ_le_iff, Nat.log2_lt h]

theorem bl_unique {x n : Nat} (h0 : x < 2 ^ n) (h1 : ∀ k, x < 2 ^ k → n ≤ k) : bl x = n :=
  Nat.le_antisymm (bl_le.2 h0) (h1 _ (bl_le.1 (Nat.le_refl _)))

/-- The bits of low digits and a highest one that isn't 0. -/
theorem bl_snoc {n l d : Nat} (hl : l < 2 ^ n) (hd : d ≠ 0) : bl (l + 2 ^ n * d) = n + bl d := by
  apply bl_unique
  · have h1 : d < 2 ^ bl d := bl_le.1 (Nat.le_refl _)
    rw [Nat.pow_add]
    have h2 : 2 ^ n * (d + 1) ≤ 2 ^ n * 2 ^ bl d := Nat.mul_le_mul_left _ h1
    rw [Nat.mul_add] at h2
    omega
  · intro k hk
    have h3 : 2 ^ n * 1 ≤ 2 ^ n * d := Nat.mul_le_mul_left _ (by omega)
    have hnk : n < k := by
      apply Nat.lt_of_not_le
      intro h
      have := Nat.pow_le_pow_right (n := 2) (by omega) h
      omega
    obtain ⟨j, rfl⟩ : ∃ j, k = n + j := ⟨k - n, by omega⟩
    have : d < 2 ^ j := by
      apply Nat.lt_of_not_le
      intro h
      have h5 : 2 ^ n * 2 ^ j ≤ 2 ^ n * d := Nat.mul_le_mul_left _ h
      rw [← Nat.pow_add] at h5
      omega
    have := bl_le.2 this
    omega

/-- One digit more of the word y at hand. -/
theorem digit_step {b V y j : Nat} {zs : List Nat} (hl : zs.length = j) (hv : val b zs + b ^ j * y = V) : val b (zs ++ [y % b]) + b ^ (j + 1) * (y / b) = V := by
  rw [val_snoc, hl, ← hv, Nat.pow_succ, Nat.mul_assoc, Nat.add_assoc, ← Nat.mul_add, Nat.mod_add_div]

theorem div_pow_lt {b y m : Nat} (hb : 0 < b) (h : y < b ^ (m + 1)) : y / b < b ^ m := by
  rw [Nat.div_lt_iff_lt_mul hb, ← Nat.pow_succ]; exact h

theorem B64_16 (k : Nat) : B64 ^ k = 65536 ^ (4 * k) := by
  rw [Nat.pow_mul]; rfl

theorem val_take_succ (b : Nat) (xs : List Nat) (k : Nat) (h : k < xs.length) : val b (xs.take (k + 1)) = val b (xs.take k) + b ^ k * xs.getD k 0 := by
  have := List.take_append_getElem (l := xs) (i := k) h
  rw [← this, val_snoc, List.length_take, Nat.min_eq_left (by omega), List.getD_eq_getElem?_getD, List.getElem?_eq_getElem h]
  rfl

theorem pow16_lt {y m : Nat} (h : y < 65536 ^ (4 - m)) : y < 18446744073709551616 :=
  Nat.lt_of_lt_of_le h (Nat.pow_le_pow_right (n := 65536) (by omega) (Nat.sub_le 4 m))

/-- Which is greater: -1, 0, 1. -/
def cmpN (x y : Nat) : Int := if x < y then -1 else if x = y then 0 else 1
theorem cmpN_lt {x y : Nat} (h : x < y) : cmpN x y = -1 := by simp [cmpN, h]
theorem cmpN_eq (x : Nat) : cmpN x x = 0 := by simp [cmpN]
theorem cmpN_gt {x y : Nat} (h : y < x) : cmpN x y = 1 := by simp only [cmpN]; rw [if_neg (by omega), if_neg (by omega)]
theorem cmpN_zero {x y : Nat} : cmpN x y = 0 ↔ x = y := by
  unfold cmpN
  split
  · constructor
    · intro h; cases h
    · intro h; omega
  · split
    · rename_i h; simp [h]
    · rename_i h; simp [h]

theorem val_split (b : Nat) (xs : List Nat) (k : Nat) (h : k < xs.length) : val b xs = val b (xs.take k) + b ^ k * (xs.getD k 0 + b * val b (xs.drop (k + 1))) := by
  conv => lhs; rw [← List.take_append_drop k xs]
  rw [val_append, List.length_take, Nat.min_eq_left (by omega), List.drop_eq_getElem_cons h, val, List.getD_eq_getElem?_getD, List.getElem?_eq_getElem h]
  rfl

theorem cmp_lt {b : Nat} {xs ys : List Nat} {k : Nat} (hx : Dig b xs) (hkx : k < xs.length) (hky : k < ys.length) (hd : xs.drop (k + 1) = ys.drop (k + 1)) (hlt : xs.getD k 0 < ys.getD k 0) : val b xs < val b ys := by
  rw [val_split b xs k hkx, val_split b ys k hky, hd]
  have h1 := val_lt (hx.take k)
  rw [List.length_take, Nat.min_eq_left (by omega)] at h1
  have h2 : b ^ k * (xs.getD k 0 + b * val b (ys.drop (k + 1)) + 1) ≤ b ^ k * (ys.getD k 0 + b * val b (ys.drop (k + 1))) := Nat.mul_le_mul_left _ (by omega)
  rw [Nat.mul_add (b ^ k) _ 1] at h2
  omega

theorem cmp_len {b : Nat} (hb : 1 < b) {xs ys : List Nat} (hx : Dig b xs) (hy : Dig b ys) (ty : trimL ys = ys) (h : xs.length < ys.length) : val b xs < val b ys := by
  have h1 := val_lt hx
  have h2 := trim_len_le (k := xs.length) hb hy ty
  omega

theorem drop_eq_step {xs ys : List Nat} {k : Nat} (hx : k < xs.length) (hy : k < ys.length) (hd : xs.drop (k + 1) = ys.drop (k + 1)) (he : xs.getD k 0 = ys.getD k 0) : xs.drop k = ys.drop k := by
  rw [List.getD_eq_getElem?_getD, List.getElem?_eq_getElem hx, List.getD_eq_getElem?_getD, List.getElem?_eq_getElem hy] at he
  rw [List.drop_eq_getElem_cons hx, List.drop_eq_getElem_cons hy, hd, show xs[k] = ys[k] from he]

theorem bl_zero : bl 0 = 0 := rfl
theorem bl_half {e : Nat} (h : 0 < e) : bl e = bl (e / 2) + 1 := by
  apply bl_unique
  · have h1 : e / 2 < 2 ^ bl (e / 2) := bl_le.1 (Nat.le_refl _)
    rw [Nat.pow_succ]
    omega
  · intro k hk
    cases k with
    | zero => simp at hk; omega
    | succ k =>
      rw [Nat.pow_succ] at hk
      have := bl_le.2 (show e / 2 < 2 ^ k by omega)
      omega

/-- The bits of digits without noughts behind. -/
theorem bl_digits {b s : Nat} (hb : b = 2 ^ s) {xs : List Nat} {k : Nat} (hx : Dig b xs) (hl : xs.length = k + 1) (ht : trimL xs = xs) : bl (val b xs) = s * k + bl (xs.getD k 0) ∧ 0 < xs.getD k 0 := by
  have hv := val_split b xs k (by omega)
  rw [List.drop_of_length_le (by omega), val, Nat.mul_zero, Nat.add_zero] at hv
  have h1 := val_lt (hx.take k)
  rw [List.length_take, Nat.min_eq_left (by omega), hb, ← Nat.pow_mul] at h1
  have hne : xs.getD k 0 ≠ 0 := by
    intro h0
    have hsp : xs = xs.take k ++ [xs.getD k 0] := by
      have := List.take_append_getElem (l := xs) (i := k) (by omega)
      have e2 : xs.take (k + 1) = xs := List.take_of_length_le (by omega)
      rw [e2] at this
      rw [List.getD_eq_getElem?_getD, List.getElem?_eq_getElem (by omega)]
      exact this.symm
    rw [h0] at hsp
    have h2 := trimL_snoc_zero (xs.take k)
    rw [← hsp, ht] at h2
    have h3 := trimL_len (xs.take k)
    rw [← h2, List.length_take] at h3
    omega
  refine ⟨?_, by omega⟩
  rw [hv, hb, ← Nat.pow_mul]
  exact bl_snoc h1 hne

def decB (ds : List Nat) : ByteArray := ⟨((ds.reverse).map fun d => UInt8.ofNat (48 + d)).toArray⟩
/-- The text s is the number x in decimal digits. -/
def IsDec (x : Nat) (s : ByteArray) : Prop := (x = 0 ∧ s = ⟨#[48]⟩) ∨ (0 < x ∧ ∃ ds, Dig 10 ds ∧ trimL ds = ds ∧ val 10 ds = x ∧ s = decB ds)
theorem IsDec.unique {x : Nat} {s t : ByteArray} (h : IsDec x s) (k : IsDec x t) : s = t := by
  rcases h with ⟨h0, rfl⟩ | ⟨h0, ds, h1, h2, h3, rfl⟩
  · rcases k with ⟨_, rfl⟩ | ⟨k0, _⟩
    · rfl
    · omega
  · rcases k with ⟨k0, _⟩ | ⟨_, es, k1, k2, k3, rfl⟩
    · omega
    · rw [trim_inj h1 k1 h2 k2 (by rw [h3, k3])]

theorem dec_len {L v V x K : Nat} (h : V + 10 ^ L * v = x) (hv : 0 < v) (hx : x < 2 ^ K) : L < K := by
  apply Nat.lt_of_not_le
  intro hL
  have h1 : 2 ^ K ≤ 2 ^ L := Nat.pow_le_pow_right (by omega) hL
  have h2 : 2 ^ L ≤ 10 ^ L := Nat.pow_le_pow_left (by omega) L
  have h3 : 10 ^ L * 1 ≤ 10 ^ L * v := Nat.mul_le_mul_left _ hv
  omega

theorem dec_round {L V r xv yv x t : Nat} (hx : V + 10 ^ L * xv = x) (hxv : xv = t * yv + r) (ht : t = 10 ^ 19) : V + 10 ^ L * r + 10 ^ (L + 19) * yv = x := by
  rw [← hx, hxv, ht, Nat.pow_add, Nat.mul_add, Nat.mul_assoc]
  omega

end Go.Proofs.Ythoahengdajpcaa
