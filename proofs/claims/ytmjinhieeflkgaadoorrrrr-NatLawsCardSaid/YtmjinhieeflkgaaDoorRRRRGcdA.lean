/- Contracts of math/bits.TrailingZeros64 and of nat's evens, halve, odd. The library's table must stand in its variable. -/
import Derived.Test.YtmjinhieeflkgaaDoorRRRRQuoMathB
import Derived.Test.YtmjinhieeflkgaaDoorRRRRShift
import Derived.Shelf.Spec.TrailingZeros
namespace Go.Proofs.YtmjinhieeflkgaaDoorRRRR
open Go.RowKit

/-- The library's table stands in its variable. -/
def Tz (w : World) : Prop := ∀ j, j < Lib.deBruijn64tab.length → w.cell? ⟨0, j, none⟩ = some (.int .u8 (Lib.deBruijn64tab.getD j 0))
theorem Tz.lt {w : World} (h : Tz w) : 0 < w.heap.size := block_lt_of_cell (h 0 (by decide))
theorem Tz.keep {w w' : World} (h : Tz w) (hb : Below w.heap.size w w') : Tz w' := fun j hj => (hb.cell (p := ⟨0, j, none⟩) h.lt).trans (h j hj)
theorem Tz.drewN {w : World} (h : Tz w) (n : Nat) : Tz (w.drewN n) := h
theorem Tz.grown {w w' : World} {g : Nat} (h : Tz w) (hg : w.grownBy w' (some g)) (hne : 0 ≠ g) : Tz w' := fun j hj => hg.cell (h j hj) (by intro e; injection e with e; exact hne e)

theorem bits_TZ (x : Nat) (w : World) (h0 : 0 < x) (hx : x < B64) (ht : Tz w) :
    Calls Tryd.prog 47 #[.int .u64 x] w fun e w' => ∃ c m : Nat, e = .returned (.int .i64 c) ∧ c < 64 ∧ x = 2 ^ c * (2 * m + 1) ∧ w = w' := by
  have hx2 : x < 2 ^ 64 := by rw [← B64_pow]; exact hx
  have hne : x ≠ 0 := by omega
  obtain ⟨hlow, hk⟩ := Lib.lowest_bit 64 x hne hx2
  obtain ⟨hi, htab⟩ := Lib.deBruijn64_at _ hk
  obtain ⟨m, hm, _⟩ := Lib.ctzFrom_spec 64 x h0 hx2
  have hc : Lib.ctz 64 x = Lib.ctzFrom 64 x := by unfold Lib.ctz; rw [if_neg hne]
  rw [← hc] at hm
  have hcell := ht _ hi
  rw [htab] at hcell
  have key := tz64_key x _ hx2 hne hlow
  have hx0 : ((x : Int) == 0) = false := by rw [beq_eq_false_iff_ne]; omega
  obtain ⟨k, hke⟩ : ∃ k, k = Lib.ctz 64 x := ⟨_, rfl⟩
  rw [← hke] at hk hm hcell key hi
  obtain ⟨idx, hidx⟩ : ∃ idx, idx = 2 ^ k * 285870213051353865 % 18446744073709551616 / 288230376151711744 := ⟨_, rfl⟩
  rw [← hidx] at hi hcell key
  have HM := Lib.hid hm
  clear hlow htab hm hc hke hidx ht hx hx2 hne
  go_enter Tryd.func47, Tryd.ntmps47
  go_wp2_with (simp only [key])
  go_ret
  exact ⟨k, m, rfl, hk, HM.out, rfl⟩

/-- The twos of a number by its words: noughts, then a word that isn't 0. -/
theorem evens_val {xs : List Nat} {k c m : Nat} (hk : k < xs.length) (h0 : val B64 (xs.take k) = 0) (hc : c < 64) (hm : xs.getD k 0 = 2 ^ c * (2 * m + 1)) : ∃ M, val B64 xs = 2 ^ (64 * k + c) * (2 * M + 1) := by
  rw [val_split B64 xs k hk, h0, Nat.zero_add, hm]
  generalize val B64 (xs.drop (k + 1)) = V
  refine ⟨m + 2 ^ (63 - c) * V, ?_⟩
  have e1 : B64 = 2 ^ c * (2 * 2 ^ (63 - c)) := by
    rw [B64_pow, ← Nat.pow_succ', ← Nat.pow_add, show c + (63 - c).succ = 64 from by omega]
  rw [Nat.pow_add, Nat.pow_mul, ← B64_pow, Nat.mul_assoc]
  congr 1
  have e2 : B64 * V = 2 ^ c * (2 * (2 ^ (63 - c) * V)) := by
    conv => lhs; rw [e1]
    rw [Nat.mul_assoc (2 ^ c), Nat.mul_assoc 2]
  rw [e2, ← Nat.mul_add]
  congr 1
  omega

theorem exists_word {xs : List Nat} (h : 0 < val B64 xs) : ∃ k, k < xs.length ∧ xs.getD k 0 ≠ 0 ∧ ∀ j, j < k → xs.getD j 0 = 0 := by
  induction xs with
  | nil => simp [val] at h
  | cons x xs ih =>
    by_cases hx : x = 0
    · subst hx
      have h2 : 0 < val B64 xs := by
        simp only [val] at h
        rcases Nat.eq_zero_or_pos (val B64 xs) with e | e
        · rw [e] at h; omega
        · exact e
      obtain ⟨k, h1, h2, h3⟩ := ih h2
      refine ⟨k + 1, by simpa using h1, by simpa using h2, fun j hj => ?_⟩
      cases j with
      | zero => rfl
      | succ j => simpa using h3 j (by omega)
    · exact ⟨0, by simp, by simpa using hx, fun j hj => by omega⟩

set_option maxHeartbeats 1000000 in
theorem nat_evens (A : Option Addr) (n c : Nat) (xs : List Nat) (w : World) (h : Sl .u64 w A n c xs) (hd : Dig B64 xs) (hn : n ≤ 1000000000) (h0 : 0 < val B64 xs) (ht : Tz w) :
    Calls Tryd.prog 27 #[.slice A n c] w fun e w' => ∃ t M : Nat, e = .returned (.int .i64 t) ∧ val B64 xs = 2 ^ t * (2 * M + 1) ∧ t < 64 * n ∧ w = w' := by
  obtain ⟨K, hK, hKne, hK0⟩ := exists_word h0
  rw [h.1] at hK
  obtain ⟨b, off, rfl, hbl, hcx⟩ := h.block (by omega)
  have HC := Lib.hid hcx
  have HT := Lib.hid ht
  have HL := Lib.hid h.1
  have HK0 := Lib.hid hK0
  have HKNE := Lib.hid hKne
  clear hcx h ht hK0 hKne h0
  go_enter Tryd.func27, Tryd.ntmps27
  go_wp2
  go_loop [3] (fun kv => ∃ k : Nat, kv = .int .i64 k ∧ k ≤ K ∧ Hid (val B64 (xs.take k) = 0)) (fun kv => K - (intOf kv).toNat)
  case atStart => exact ⟨0, rfl, Nat.zero_le _, Lib.hid rfl⟩
  case round =>
    obtain ⟨k, rfl, hk, hv⟩ := hrel
    have hkn : k < n := by omega
    have hcell := HC.out k hkn
    have hb := hd.getD B64_pos k
    by_cases hlt : k < K
    · have hz := HK0.out k hlt
      rw [hz] at hcell
      have HV2 : Hid (val B64 (xs.take (k + 1)) = 0) := Lib.hid (by rw [val_take_succ _ _ _ (by rw [HL.out]; exact hkn), hv.out, hz]; rfl)
      clear hz hv
      go_wp2
      go_round
      case rel => exact ⟨k + 1, by go_num, by omega, HV2⟩
      case measure => simp [intOf]; omega
    · have hkK : k = K := by omega
      have hne : xs.getD k 0 ≠ 0 := by rw [hkK]; exact HKNE.out
      obtain ⟨u, hu⟩ : ∃ u, u = xs.getD k 0 := ⟨_, rfl⟩
      rw [← hu] at hcell hb hne
      have HU := Lib.hid hu
      have hu0 : ((u : Int) == 0) = false := by rw [beq_eq_false_iff_ne]; omega
      have HTZ := Lib.hid (bits_TZ u _ (by omega) hb HT.out)
      clear hkK hu hne
      go_wp2_with fail
      refine HTZ.out.mono ?_
      rintro e w1 ⟨t, M, rfl, ht64, hm, rfl⟩
      obtain ⟨M2, hM2⟩ := evens_val (by rw [HL.out]; exact hkn) hv.out ht64 (by rw [← HU.out]; exact hm)
      have HM2 := Lib.hid hM2
      clear hM2 hm hv
      go_wp2
      go_ret
      exact ⟨64 * k + t, M2, by go_num, HM2.out, by omega, rfl⟩

end Go.Proofs.YtmjinhieeflkgaaDoorRRRR
