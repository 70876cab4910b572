/- Bytes as numbers; slices of bytes of the call's own, as texts. Texts as lists of bytes; which of them are all 0; the number of bytes, the highest first. -/
import Derived.Test.YthoahengdajpcaaMem
import Derived.Laws.BytesArg
import Derived.IntWalk
import Derived.Lib.TrimByte
namespace Go.Proofs.Ythoahengdajpcaa
open Go.RowKit

theorem infoByte : (Try.prog.info? 5).map (fun i => (i.zero, i.size, i.bytes)) = some (some (.int .u8 0), 1, 1) := by kernel_rfl

theorem grow1 (w : World) (o : Obj) : w.heap.size ≤ (w.alloc o).heap.size := by simp

/-- Bytes as numbers. -/
def nb (l : List UInt8) : List Nat := l.map (·.toNat)
theorem nb_len (l : List UInt8) : (nb l).length = l.length := by simp [nb]
theorem nb_append (l m : List UInt8) : nb (l ++ m) = nb l ++ nb m := by simp [nb]
theorem nb_snoc (l : List UInt8) (v : Nat) (h : v < 256) : nb (l ++ [UInt8.ofNat v]) = nb l ++ [v] := by simp [nb, Nat.mod_eq_of_lt h]
theorem own_keep {w w' : World} {base e n : Nat} {v : Value} {xs : List Value} (h : w.ownsRow base e 1 v n xs) (hb : Below w.heap.size w w') : w'.ownsRow base e 1 v n xs := by
  refine ⟨h.1, ?_⟩
  rcases h.2 with h0 | ⟨g, cap, cur, hv, hg, hh, hr⟩
  · exact .inl h0
  · refine .inr ⟨g, cap, cur, hv, hg, (hb.block g ?_).trans hh, hr⟩
    rcases Nat.lt_or_ge g w.heap.size with hl | hl
    · exact hl
    · rw [Array.getElem?_eq_none hl] at hh; cases hh
theorem own_of {w w' : World} {base e n : Nat} {v : Value} {xs : List Value} (h : w.ownsRow base e 1 v n xs) (hk : ∀ k, base ≤ k → k < w.heap.size → w'.heap[k]? = w.heap[k]?) : w'.ownsRow base e 1 v n xs := by
  refine ⟨h.1, ?_⟩
  rcases h.2 with h0 | ⟨g, cap, cur, hv, hg, hh, hr⟩
  · exact .inl h0
  · refine .inr ⟨g, cap, cur, hv, hg, (hk g hg ?_).trans hh, hr⟩
    rcases Nat.lt_or_ge g w.heap.size with hl | hl
    · exact hl
    · rw [Array.getElem?_eq_none hl] at hh; cases hh
/-- A row of one's own is no block of another type. -/
theorem own_ne {w : World} {base e n B T : Nat} {v : Value} {xs cs : List Value} (h : w.ownsRow base e 1 v n xs) (hB : Blk w B T cs) (hne : T ≠ e) : v.ownBlock ≠ some B := by
  rcases h.2 with ⟨rfl, _⟩ | ⟨g, cap, cur, rfl, _, hh, _⟩
  · intro h; cases h
  · intro h
    have : g = B := by simpa [Value.ownBlock] using h
    subst this
    have h2 := hB.get
    rw [hh] at h2
    injection h2 with h2
    injection h2 with _ ht
    exact hne ht.symm

theorem str_nb (l : List UInt8) : strOfNums ((nb l).map fun x : Nat => (x : Int)) = ⟨l.toArray⟩ := by
  have h : (strOfNums ((nb l).map fun x : Nat => (x : Int))).data.toList = l := by
    rw [strOfNums_data]
    simp only [nb, List.map_map]
    conv => rhs; rw [← List.map_id l]
    refine List.map_congr_left fun x _ => ?_
    show UInt8.ofNat ((x.toNat : Int)).toNat = x
    rw [Int.toNat_natCast, UInt8.ofNat_toNat]
  cases hs : strOfNums ((nb l).map fun x : Nat => (x : Int)) with
  | mk a => rw [hs] at h; congr 1; rw [← h]

/-- A row of bytes of the call's own, as a text. -/
theorem conv_own {w : World} {base : Nat} {v : Value} {l : List UInt8} (h : w.ownsRow base 5 1 v (nb l).length (nums .u8 (nb l))) :
    (convert 60 9 v).run Try.prog w = .ok (.string ⟨l.toArray⟩) w := by
  have h0 := h
  rcases h.2 with ⟨rfl, hz⟩ | ⟨g, cap, cur, rfl, _, hh, _⟩
  · have hl : l = [] := List.eq_nil_of_length_eq_zero (by rw [← nb_len]; exact hz)
    subst hl
    exact run_convert_bytes_nil (P := Try.prog) w 60 5 Try.underlying60 Try.underlying5 0 0 9 Try.underlying9
  · have := run_convert_bytes_arg (P := Try.prog) w 60 5 Try.underlying60 Try.underlying5 g 0 (nb l).length cap ((nb l).map fun x : Nat => (x : Int)) (by rw [List.length_map]) (fun i hi => by
      rw [Nat.zero_add, h0.cellAt i (by omega), nums_get _ _ _ hi, List.getD_eq_getElem?_getD, List.getD_eq_getElem?_getD, List.getElem?_map, List.getElem?_eq_getElem hi]
      rfl) 9 Try.underlying9
    rw [str_nb] at this
    exact this

/-- The bytes of a number, the highest first, as many as told. -/
def beL (n m : Nat) : List UInt8 := (List.range m).map fun i => UInt8.ofNat (n / 256 ^ (m - 1 - i) % 256)
theorem beL_len (n m : Nat) : (beL n m).length = m := by simp [beL]
theorem beL_get (n m i : Nat) (h : i < m) : (beL n m)[i]? = some (UInt8.ofNat (n / 256 ^ (m - 1 - i) % 256)) := by simp [beL, h]
theorem beL_take (n m i : Nat) (h : i < m) : (beL n m).take (i + 1) = (beL n m).take i ++ [UInt8.ofNat (n / 256 ^ (m - 1 - i) % 256)] := by
  rw [List.take_succ_eq_append_getElem (by rw [beL_len]; exact h)]
  congr 2
  have h1 := beL_get n m i h
  rw [List.getElem?_eq_getElem (by rw [beL_len]; exact h)] at h1
  exact Option.some.inj h1
theorem beL_full (n m : Nat) : (beL n m).take m = beL n m := List.take_of_length_le (by rw [beL_len]; exact Nat.le_refl m)
theorem beL_zero (m : Nat) : beL 0 m = List.replicate m 0 := by
  apply List.ext_getElem?
  intro i
  by_cases h : i < m
  · rw [beL_get _ _ _ h, Nat.zero_div, List.getElem?_replicate_of_lt h]; rfl
  · rw [List.getElem?_eq_none (by rw [beL_len]; omega), List.getElem?_eq_none (by rw [List.length_replicate]; omega)]

end Go.Proofs.Ythoahengdajpcaa

namespace Go.Proofs.Ythoahengdajpcaa
open Go.RowKit

/-- A text of these bytes. -/
def bs (l : List UInt8) : ByteArray := ⟨l.toArray⟩
theorem bs_of (s : ByteArray) : bs s.data.toList = s := by cases s; simp [bs]
theorem bs_list (l : List UInt8) : (bs l).data.toList = l := by simp [bs]
theorem bs_size (l : List UInt8) : (bs l).size = l.length := by simp [bs, ByteArray.size]
theorem bs_get (l : List UInt8) (i : Nat) (h : i < (bs l).size) (h' : i < l.length) : (bs l)[i] = l[i] := rfl
theorem bs_extract (l : List UInt8) (a b : Nat) : (bs l).extract a b = bs ((l.drop a).take (b - a)) := by
  unfold bs
  rw [ByteArray.extract_mk]
theorem bs_append (l m : List UInt8) : bs l ++ bs m = bs (l ++ m) := by
  apply ByteArray.ext
  rw [ByteArray.data_append]
  simp [bs]
theorem bs_inj {l m : List UInt8} (h : bs l = bs m) : l = m := by rw [← bs_list l, ← bs_list m, h]
theorem bs_beq (l m : List UInt8) : (bs l == bs m) = (l == m) := by
  show (l.toArray == m.toArray) = (l == m)
  simp
theorem bs_nil : bs [] = ⟨#[]⟩ := rfl

theorem dw_nil (p : UInt8 → Bool) : ∀ l : List UInt8, l.dropWhile p = [] ↔ ∀ b ∈ l, p b = true
  | [] => by simp
  | x :: l => by
    rw [List.dropWhile_cons]
    split
    · rename_i h
      rw [dw_nil p l]
      simp [h]
    · rename_i h
      simp [h]

/-- Are all of them 0? -/
def zeroL (l : List UInt8) : Bool := l.all (· == 0)
theorem zeroL_iff {l : List UInt8} : zeroL l = true ↔ ∀ b ∈ l, b = 0 := by simp [zeroL]
theorem zeroL_rep {l : List UInt8} (h : zeroL l = true) : l = List.replicate l.length 0 := List.eq_replicate_of_mem (zeroL_iff.1 h)
theorem rep_zeroL (n : Nat) : zeroL (List.replicate n 0) = true := zeroL_iff.2 fun b hb => List.eq_of_mem_replicate hb
theorem trim_zero (l : List UInt8) : (Lib.trimB l 0 == []) = zeroL l := by
  rw [Bool.eq_iff_iff, beq_iff_eq, zeroL_iff]
  unfold Lib.trimB Lib.trimLeftB Lib.trimRightB
  constructor
  · intro h
    rw [dw_nil] at h
    cases hd : List.dropWhile (fun x => x == 0) l.reverse with
    | nil =>
      rw [dw_nil] at hd
      intro b hb
      simpa using hd b (List.mem_reverse.2 hb)
    | cons x t =>
      exfalso
      have h1 : (x == 0) = true := h x (by rw [hd]; simp)
      have h2 := List.head?_dropWhile_not (fun x : UInt8 => x == 0) l.reverse
      rw [hd] at h2
      simp at h2
      simp at h1
      exact h2 h1
  · intro h
    have : List.dropWhile (fun x => x == 0) l.reverse = [] := by
      rw [dw_nil]
      intro b hb
      simpa using h b (List.mem_reverse.1 hb)
    rw [this]
    rfl

/-- The number of these bytes, the highest first. -/
def beV (l : List UInt8) : Nat := l.foldl (fun v b => v * 256 + b.toNat) 0
theorem beV_nil : beV [] = 0 := rfl
theorem beV_snoc (l : List UInt8) (b : UInt8) : beV (l ++ [b]) = beV l * 256 + b.toNat := by unfold beV; rw [List.foldl_append]; rfl
theorem beV_take (l : List UInt8) (k : Nat) (h : k < l.length) : beV (l.take (k + 1)) = beV (l.take k) * 256 + (l[k]).toNat := by
  rw [List.take_succ_eq_append_getElem h, beV_snoc]
theorem beV_lt (l : List UInt8) : beV l < 256 ^ l.length := by
  suffices ∀ k, k ≤ l.length → beV (l.take k) < 256 ^ k by
    have := this l.length (Nat.le_refl _)
    rwa [List.take_length] at this
  intro k
  induction k with
  | zero => intro _; rw [List.take_zero, beV_nil]; decide
  | succ k ih =>
    intro h
    rw [beV_take l k h, Nat.pow_succ]
    have h1 := ih (by omega)
    have h2 := (l[k]).toNat_lt
    omega
theorem beV_take_lt (l : List UInt8) (k : Nat) (h : k ≤ l.length) : beV (l.take k) < 256 ^ k := by
  have := beV_lt (l.take k)
  rwa [List.length_take, Nat.min_eq_left h] at this
theorem beV_beL (n m : Nat) : beV (beL n m) = n % 256 ^ m := by
  suffices ∀ k, k ≤ m → beV ((beL n m).take k) = n / 256 ^ (m - k) % 256 ^ k by
    have := this m (Nat.le_refl _)
    rw [beL_full, Nat.sub_self, Nat.pow_zero, Nat.div_one] at this
    exact this
  intro k
  induction k with
  | zero => intro _; rw [List.take_zero, beV_nil, Nat.pow_zero, Nat.mod_one]
  | succ k ih =>
    intro h
    rw [beL_take n m k (by omega), beV_snoc, ih (by omega), UInt8.toNat_ofNat', Nat.mod_mod]
    have e1 : m - k = m - (k + 1) + 1 := by omega
    have e2 : m - 1 - k = m - (k + 1) := by omega
    rw [e1, e2, Nat.pow_succ, ← Nat.div_div_eq_div_mul]
    generalize n / 256 ^ (m - (k + 1)) = q
    rw [Nat.pow_succ, Nat.mul_comm (256 ^ k) 256, Nat.mod_mul]
    omega
theorem beL_beV (l : List UInt8) : beL (beV l) l.length = l := by
  apply List.ext_getElem?
  intro i
  by_cases h : i < l.length
  · rw [beL_get _ _ _ h, List.getElem?_eq_getElem h]
    congr 1
    have key : ∀ k, ∀ l : List UInt8, l.length = k → ∀ i, (h : i < l.length) → beV l / 256 ^ (l.length - 1 - i) % 256 = (l[i]).toNat := by
      intro k
      induction k with
      | zero => intro l hl i h; omega
      | succ k ih =>
        intro l hl i h
        have hne : l ≠ [] := by intro e; subst e; simp at hl
        obtain ⟨l', b, rfl⟩ : ∃ l' b, l = l' ++ [b] := ⟨l.dropLast, l.getLast hne, (List.dropLast_concat_getLast hne).symm⟩
        rw [List.length_append, List.length_singleton] at hl h
        rw [beV_snoc, List.length_append, List.length_singleton, Nat.add_sub_cancel]
        by_cases hi : i = l'.length
        · subst hi
          rw [Nat.sub_self, Nat.pow_zero, Nat.div_one, List.getElem_append_right (Nat.le_refl _)]
          have := b.toNat_lt
          simp
        · have hil : i < l'.length := by omega
          rw [List.getElem_append_left hil, ← ih l' (by omega) i hil]
          have e : l'.length - i = l'.length - 1 - i + 1 := by omega
          rw [e, Nat.pow_succ, Nat.mul_comm (256 ^ _) 256, ← Nat.div_div_eq_div_mul]
          have := b.toNat_lt
          rw [show (beV l' * 256 + b.toNat) / 256 = beV l' from by omega]
    rw [key _ l rfl i h, UInt8.ofNat_toNat]
  · rw [List.getElem?_eq_none (by rw [beL_len]; omega), List.getElem?_eq_none (by omega)]

end Go.Proofs.Ythoahengdajpcaa
