/- Contracts of the two sums, the program's and the document's. -/
import Derived.Test.YtcnbpajlocoocaaDoorCrcMath
import Derived.Test.YtcnbpajlocoocaaDoorMem
import Derived.Laws.Bits64
import Derived.Laws.Bits64b
import Derived.IntWalk
namespace Go.Proofs.YtcnbpajlocoocaaDoor
open Go.RowKit

theorem wrap_u32n (n : Int) : IntKind.u32.wrap n = n % 4294967296 := by simp [IntKind.wrap, IntKind.bits, IntKind.signed]
theorem u32_in (n : Nat) (h : n < 4294967296) : IntKind.u32.wrap (n : Int) = (n : Int) := by rw [wrap_u32n]; omega
theorem bits_and_u32n (a b : Nat) (ha : a < 4294967296) (hb : b < 4294967296) : bits .and .u32 (a : Int) (b : Int) = ((a &&& b : Nat) : Int) := by
  have hx : a &&& b < 2 ^ 32 := Nat.and_lt_two_pow _ (by omega)
  have h1 : (BitVec.ofInt 32 (a : Int)).toNat = a := by
    rw [BitVec.ofInt_natCast, BitVec.toNat_ofNat]; exact Nat.mod_eq_of_lt (by omega)
  have h2 : (BitVec.ofInt 32 (b : Int)).toNat = b := by
    rw [BitVec.ofInt_natCast, BitVec.toNat_ofNat]; exact Nat.mod_eq_of_lt (by omega)
  show IntKind.u32.wrap ((BitVec.ofInt 32 (a : Int) &&& BitVec.ofInt 32 (b : Int)).toNat : Int) = _
  rw [BitVec.toNat_and, h1, h2, wrap_u32n]
  omega
theorem bits_xor_u32n (a b : Nat) (ha : a < 4294967296) (hb : b < 4294967296) : bits .xor .u32 (a : Int) (b : Int) = ((a ^^^ b : Nat) : Int) := by
  have hx : a ^^^ b < 2 ^ 32 := Nat.xor_lt_two_pow (by omega) (by omega)
  have h1 : (BitVec.ofInt 32 (a : Int)).toNat = a := by
    rw [BitVec.ofInt_natCast, BitVec.toNat_ofNat]; exact Nat.mod_eq_of_lt (by omega)
  have h2 : (BitVec.ofInt 32 (b : Int)).toNat = b := by
    rw [BitVec.ofInt_natCast, BitVec.toNat_ofNat]; exact Nat.mod_eq_of_lt (by omega)
  show IntKind.u32.wrap ((BitVec.ofInt 32 (a : Int) ^^^ BitVec.ofInt 32 (b : Int)).toNat : Int) = _
  rw [BitVec.toNat_xor, h1, h2, wrap_u32n]
  omega

theorem xor_low (y q : Nat) : (y ^^^ q) &&& 1 = if y % 2 = q % 2 then 0 else 1 := by
  have h := Nat.xor_mod_two_pow (a := y) (b := q) (n := 1)
  rw [Nat.pow_one] at h
  rw [Nat.and_one_is_mod, h]
  rcases Nat.mod_two_eq_zero_or_one y with h1 | h1 <;> rcases Nat.mod_two_eq_zero_or_one q with h2 | h2 <;> rw [h1, h2] <;> rfl

/-- The lowest bits are alike. -/
theorem low_like {y q : Nat} (hy : y < 4294967296) (hq : q < 4294967296) (h : y % 2 = q % 2) : bits .and .u32 (bits .xor .u32 (y : Int) (q : Int)) 1 = 0 := by
  have hx : y ^^^ q < 2 ^ 32 := Nat.xor_lt_two_pow (by omega) (by omega)
  rw [bits_xor_u32n y q hy hq, show (1 : Int) = ((1 : Nat) : Int) from rfl, bits_and_u32n _ 1 (by omega) (by omega), xor_low, if_pos h]; rfl
theorem low_unlike {y q : Nat} (hy : y < 4294967296) (hq : q < 4294967296) (h : ¬ y % 2 = q % 2) : bits .and .u32 (bits .xor .u32 (y : Int) (q : Int)) 1 = 1 := by
  have hx : y ^^^ q < 2 ^ 32 := Nat.xor_lt_two_pow (by omega) (by omega)
  rw [bits_xor_u32n y q hy hq, show (1 : Int) = ((1 : Nat) : Int) from rfl, bits_and_u32n _ 1 (by omega) (by omega), xor_low, if_neg h]
theorem crcBit_like {y q : Nat} (h : y % 2 = q % 2) : crcBit y q = y / 2 := by unfold crcBit; rw [if_pos h]
theorem crcBit_unlike {y q : Nat} (h : ¬ y % 2 = q % 2) : crcBit y q = y / 2 ^^^ 3988292384 := by unfold crcBit; rw [if_neg h]; rfl
theorem crcBits_succ (s b k : Nat) : crcBits s b (k + 1) = crcBit (crcBits s b k) (b / 2 ^ k) := rfl
theorem crcBits_zero (s b : Nat) : crcBits s b 0 = s := rfl
theorem crcL_take (s : Nat) (l : List UInt8) (k : Nat) (hk : k < l.length) : crcL s (l.take (k + 1)) = crcBits (crcL s (l.take k)) (l[k]).toNat 8 := by
  rw [List.take_succ_eq_append_getElem hk, crcL_snoc]; rfl

theorem ones_xor (x : Nat) (h : x < 4294967296) : 4294967295 ^^^ x = 4294967295 - x := by
  have h1 : (BitVec.allOnes 32 ^^^ BitVec.ofNat 32 x).toNat = (~~~ BitVec.ofNat 32 x).toNat := by rw [BitVec.allOnes_xor]
  rw [BitVec.toNat_xor, BitVec.toNat_not, BitVec.toNat_ofNat, BitVec.toNat_allOnes, Nat.mod_eq_of_lt (by omega)] at h1
  exact h1
theorem bits_ones (x : Nat) (h : x < 4294967296) : bits BinOp.xor IntKind.u32 IntKind.u32.max (x : Int) = ((4294967295 - x : Nat) : Int) := by
  rw [show IntKind.u32.max = ((4294967295 : Nat) : Int) from rfl, bits_xor_u32n _ x (by omega) h, ones_xor x h]
theorem crcL_lt' {s : Nat} (h : s < 4294967296) (l : List UInt8) : crcL s l < 4294967296 := crcL_lt h l
theorem crcSum_lt (l : List UInt8) : crcSum l < 4294967296 := by unfold crcSum; omega

set_option maxHeartbeats 2000000 in
theorem seal_Sum (s : ByteArray) (w : World) (hs : (s.size : Int) ≤ 9223372036854775807) :
    Calls Tryd.prog 62 #[.string s] w fun e w' => e = .returned (.int .u32 ((crcSum s.data.toList : Nat) : Int)) ∧ w = w' := by
  have hsz : s.size = s.data.toList.length := by rw [Array.length_toList]; rfl
  have HSZ := Lib.hid hsz
  clear hsz
  go_enter Tryd.func62, Tryd.ntmps62
  go_wp2
  go_loopw [3, 9] (fun sv iv wr => ∃ (k x : Nat), iv = .int .i64 k ∧ k ≤ s.size ∧ sv = .int .u32 x ∧ Hid (x = crcL 4294967295 (s.data.toList.take k)) ∧ x < 4294967296 ∧ w = wr) (fun _ iv _ => s.size - (intOf iv).toNat)
  case atStart => exact ⟨0, 4294967295, rfl, Nat.zero_le _, rfl, Lib.hid (by rw [List.take_zero, crcL_nil]), by omega, rfl⟩
  case round =>
    obtain ⟨k, x, rfl, hk, rfl, HX, hx, rfl⟩ := hrel
    by_cases hlt : k < s.size
    · have hkl : k < s.data.toList.length := by rw [← HSZ.out]; exact hlt
      obtain ⟨b, hb⟩ : ∃ b, b = (s[k]'hlt).toNat := ⟨_, rfl⟩
      have HX1 : Hid (crcL 4294967295 (s.data.toList.take (k + 1)) = crcBits x b 8) := Lib.hid (by rw [crcL_take 4294967295 s.data.toList k hkl, ← HX.out, hb]; rfl)
      have hb8 : b < 256 := by rw [hb]; exact s[k].toNat_lt
      have hbi : ((s[k]'hlt).toNat : Int) = (b : Int) := by rw [hb]
      clear hb hkl
      go_wp2
      go_loopw [3, 12] (fun sv iv wr => ∃ (j y : Nat), iv = .int .i64 j ∧ j ≤ 8 ∧ sv = .int .u32 y ∧ Hid (y = crcBits x b j) ∧ y < 4294967296 ∧ w = wr) (fun _ iv _ => 8 - (intOf iv).toNat)
      case atStart => exact ⟨0, x, rfl, by omega, rfl, Lib.hid (crcBits_zero _ _).symm, hx, rfl⟩
      case round =>
        obtain ⟨j, y, rfl, hj, rfl, HY, hy, rfl⟩ := hrel
        by_cases hj8 : j < 8
        · obtain ⟨q, hq⟩ : ∃ q, q = b / 2 ^ j := ⟨_, rfl⟩
          have hqi : (s[k].toNat : Int) / 2 ^ j = (q : Int) := by rw [hbi, hq]; push_cast; rfl
          have hwb : IntKind.u32.wrap (s[k].toNat : Int) = (s[k].toNat : Int) := by rw [hbi]; exact u32_in b (by omega)
          have hq8 : q < 4294967296 := by rw [hq]; exact Nat.lt_of_le_of_lt (Nat.div_le_self _ _) (by omega)
          have HQ := Lib.hid hq
          clear hq hbi
          obtain ⟨h, hh⟩ : ∃ h, h = y / 2 := ⟨_, rfl⟩
          have hhi : (y : Int) / 2 = (h : Int) := by omega
          have hhb : h < 4294967296 := by omega
          have HH := Lib.hid hh
          clear hh
          by_cases hl : y % 2 = q % 2
          · have hu := low_like hy hq8 hl
            have HN : Hid (h = crcBits x b (j + 1)) := Lib.hid (by rw [crcBits_succ, ← HY.out, ← HQ.out, crcBit_like hl, HH.out])
            clear hl
            go_wp2
            go_roundw
            case rel => exact ⟨j + 1, h, by go_num, by omega, rfl, HN, hhb, trivial⟩
            case measure => simp [intOf]; omega
          · have hu := low_unlike hy hq8 hl
            obtain ⟨z, hz⟩ : ∃ z, z = h ^^^ 3988292384 := ⟨_, rfl⟩
            have hzb : z < 4294967296 := by
              have : h ^^^ 3988292384 < 2 ^ 32 := Nat.xor_lt_two_pow (by omega) (by omega)
              omega
            have hzi : bits .xor .u32 (h : Int) 3988292384 = (z : Int) := by rw [hz]; exact bits_xor_u32n h 3988292384 (by omega) (by omega)
            have HN : Hid (z = crcBits x b (j + 1)) := Lib.hid (by rw [crcBits_succ, ← HY.out, ← HQ.out, crcBit_unlike hl, hz, HH.out])
            clear hl hz
            go_wp2
            go_roundw
            case rel => exact ⟨j + 1, z, by go_num, by omega, rfl, HN, hzb, trivial⟩
            case measure => simp [intOf]; omega
        · have hj8' : j = 8 := by omega
          subst hj8'
          have HN : Hid (y = crcL 4294967295 (s.data.toList.take (k + 1))) := Lib.hid (by rw [HX1.out, HY.out])
          go_wp2
          go_roundw
          case rel => exact ⟨k + 1, y, by go_num, by omega, rfl, HN, hy, trivial⟩
          case measure => simp [intOf]; omega
    · have hks : k = s.size := by omega
      subst hks
      have HN : Hid (4294967295 - x = crcSum s.data.toList) := Lib.hid (by unfold crcSum; rw [HX.out, List.take_of_length_le (by rw [← HSZ.out]; omega)])
      go_wp2
      go_ret
      exact ⟨ret_int (by rw [← HN.out]; exact bits_ones x hx), rfl⟩

set_option maxHeartbeats 2000000 in
theorem ref_Sum (s : ByteArray) (w : World) (hs : (s.size : Int) ≤ 9223372036854775806) :
    Calls Tryd.prog 68 #[.string s] w fun e w' => e = .returned (.int .u64 ((crcSum s.data.toList : Nat) : Int)) ∧ w = w' := by
  have hsz : s.size = s.data.toList.length := by rw [Array.length_toList]; rfl
  have HSZ := Lib.hid hsz
  clear hsz
  go_enter Tryd.func68, Tryd.ntmps68
  go_wp2
  go_loopw [3, 4] (fun sv iv wr => ∃ (k x : Nat), iv = .int .i64 k ∧ k ≤ s.size ∧ sv = .int .u64 x ∧ Hid (x = crcL 4294967295 (s.data.toList.take k)) ∧ x < 4294967296 ∧ w = wr) (fun _ iv _ => s.size - (intOf iv).toNat)
  case atStart => exact ⟨0, 4294967295, rfl, Nat.zero_le _, rfl, Lib.hid (by rw [List.take_zero, crcL_nil]), by omega, rfl⟩
  case round =>
    obtain ⟨k, x, rfl, hk, rfl, HX, hx, rfl⟩ := hrel
    by_cases hlt : k < s.size
    · have hkl : k < s.data.toList.length := by rw [← HSZ.out]; exact hlt
      obtain ⟨b, hb⟩ : ∃ b, b = (s[k]'hlt).toNat := ⟨_, rfl⟩
      have HX1 : Hid (crcL 4294967295 (s.data.toList.take (k + 1)) = crcBits x b 8) := Lib.hid (by rw [crcL_take 4294967295 s.data.toList k hkl, ← HX.out, hb]; rfl)
      have hb8 : b < 256 := by rw [hb]; exact s[k].toNat_lt
      have hbi : ((s[k]'hlt).toNat : Int) = (b : Int) := by rw [hb]
      have hwb : IntKind.u64.wrap ((s[k]'hlt).toNat : Int) = ((s[k]'hlt).toNat : Int) := by rw [hbi]; exact IntWalk.u64_in _ (by omega)
      clear hb hkl
      go_wp2
      go_loopw [3, 5, 6] (fun sv bv iv wr => ∃ (j y q : Nat), iv = .int .i64 j ∧ j ≤ 8 ∧ sv = .int .u64 y ∧ bv = .int .u64 q ∧ q < 256 ∧ Hid (q = b / 2 ^ j) ∧ Hid (y = crcBits x b j) ∧ y < 4294967296 ∧ w = wr) (fun _ _ iv _ => 8 - (intOf iv).toNat)
      case atStart => exact ⟨0, x, b, rfl, by omega, rfl, by go_num, hb8, Lib.hid (by rw [Nat.pow_zero, Nat.div_one]), Lib.hid (crcBits_zero _ _).symm, hx, rfl⟩
      case round =>
        obtain ⟨j, y, q, rfl, hj, rfl, rfl, hq8, HQ, HY, hy, rfl⟩ := hrel
        by_cases hj8 : j < 8
        · obtain ⟨h, hh⟩ : ∃ h, h = y / 2 := ⟨_, rfl⟩
          have hhi : (y : Int) / 2 = (h : Int) := by omega
          have hhb : h < 4294967296 := by omega
          have HH := Lib.hid hh
          obtain ⟨q', hq'⟩ : ∃ q', q' = q / 2 := ⟨_, rfl⟩
          have hqi : (q : Int) / 2 = (q' : Int) := by omega
          have HQ' : Hid (q' = b / 2 ^ (j + 1)) := Lib.hid (by rw [hq', HQ.out, Nat.div_div_eq_div_mul, Nat.pow_succ])
          have hq8' : q' < 256 := by omega
          have hqw : IntKind.u64.wrap (q' : Int) = (q' : Int) := IntWalk.u64_in _ (by omega)
          clear hh hq'
          by_cases hl : y % 2 = q % 2
          · have hu : (((y : Int) % 2) != ((q : Int) % 2)) = false := by
              have : (y : Int) % 2 = (q : Int) % 2 := by omega
              rw [this]; simp
            have HN : Hid (h = crcBits x b (j + 1)) := Lib.hid (by rw [crcBits_succ, ← HY.out, ← HQ.out, crcBit_like hl, HH.out])
            clear hl
            go_wp2
            go_roundw
            case rel => exact ⟨j + 1, h, q', by go_num, by omega, rfl, by first | rfl | rw [hqw], hq8', HQ', HN, hhb, trivial⟩
            case measure => simp [intOf]; omega
          · have hu : (((y : Int) % 2) != ((q : Int) % 2)) = true := by
              have : (y : Int) % 2 ≠ (q : Int) % 2 := by omega
              simp [this]
            obtain ⟨z, hz⟩ : ∃ z, z = h ^^^ 3988292384 := ⟨_, rfl⟩
            have hzb : z < 4294967296 := by
              have : h ^^^ 3988292384 < 2 ^ 32 := Nat.xor_lt_two_pow (by omega) (by omega)
              omega
            have hzi : bits .xor .u64 (h : Int) 3988292384 = (z : Int) := by rw [hz]; exact bits_xor_u64_nat h 3988292384 (by omega) (by omega)
            have HN : Hid (z = crcBits x b (j + 1)) := Lib.hid (by rw [crcBits_succ, ← HY.out, ← HQ.out, crcBit_unlike hl, hz, HH.out])
            clear hl hz
            go_wp2
            go_roundw
            case rel => exact ⟨j + 1, z, q', by go_num, by omega, rfl, by first | rfl | rw [hqw], hq8', HQ', HN, hzb, trivial⟩
            case measure => simp [intOf]; omega
        · have hj8' : j = 8 := by omega
          subst hj8'
          have HN : Hid (y = crcL 4294967295 (s.data.toList.take (k + 1))) := Lib.hid (by rw [HX1.out, HY.out])
          go_wp2
          go_roundw
          case rel => exact ⟨k + 1, y, by go_num, by omega, rfl, HN, hy, trivial⟩
          case measure => simp [intOf]; omega
    · have hks : k = s.size := by omega
      subst hks
      have HN : Hid (4294967295 - x = crcSum s.data.toList) := Lib.hid (by unfold crcSum; rw [HX.out, List.take_of_length_le (by rw [← HSZ.out]; omega)])
      have hsub : IntKind.u64.wrap (4294967295 - (x : Int)) = ((4294967295 - x : Nat) : Int) := by rw [IntWalk.u64_in _ (by omega)]; omega
      go_wp2
      go_ret
      exact ⟨ret_int (by rw [← HN.out]), rfl⟩

end Go.Proofs.YtcnbpajlocoocaaDoor
