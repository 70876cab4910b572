/- The contract of math/bits.Div64 for a divisor whose highest bit is set. -/
import Derived.Test.YtmjinhieeflkgaaDivMath
import Derived.Test.YtmjinhieeflkgaaNatC
import Derived.Deep.DeepCutAuto
import Derived.Deep.CutBlock
import Derived.Laws.BitsAllLaws
namespace Go.Proofs.Ytmjinhieeflkgaa
open Go.RowKit

theorem bits_LZ (y : Nat) (w : World) (h1 : 9223372036854775808 ≤ y) (h2 : y < B64) :
    Calls Try.prog 39 #[.int .u64 y] w fun e w' => e = .returned (.int .i64 0) ∧ w = w' := by
  have hb : bl y = 64 := Nat.le_antisymm (bl_le.2 (by rw [B64_pow] at h2; exact h2)) (Nat.lt_of_not_le fun h => by have := bl_le.1 h; omega)
  have HB := Lib.hid hb
  have H2 := Lib.hid h2
  clear hb h1 h2
  go_enter Try.func39, Try.ntmps39
  go_wp2_with (go_at_call 30; refine (bits_Len64 y _ H2.out).mono ?_; rintro e w' ⟨rfl, rfl⟩)
  go_ret
  exact ⟨ret_int (by rw [HB.out]; simp only [wrap64]; omega), rfl⟩

theorem and_low {x x1 x0 : Nat} (h : x < 18446744073709551616) (e : x = x1 * 4294967296 + x0) (h0 : x0 < 4294967296) : bits BinOp.and IntKind.u64 (x : Int) 4294967295 = (x0 : Int) := by
  have := u64_and_nat x 4294967295 h (by omega)
  rw [show ((4294967295 : Nat) : Int) = 4294967295 from rfl] at this
  rw [this, show (4294967295 : Nat) = 2 ^ 32 - 1 from by decide, Nat.and_two_pow_sub_one_eq_mod]
  omega
theorem or_none {x y : Nat} (h : x < 18446744073709551616) (hy : y < 18446744073709551616) : bits BinOp.or IntKind.u64 (x : Int) ((y : Int) / 18446744073709551616) = (x : Int) := by
  have := u64_or_nat x 0 h (by omega)
  rw [show ((y : Int) / 18446744073709551616) = ((0 : Nat) : Int) from by omega, this, Nat.or_zero]
/-- What is left behind a product, modulo 2 to the 64. -/
theorem wrap_rest {x q y r : Nat} (hr : r < 18446744073709551616) (e : x = q * y + r) : IntKind.u64.wrap ((x : Int) - IntKind.u64.wrap ((q : Int) * (y : Int))) = (r : Int) := by
  rw [IntKind.wrap_u64, IntKind.wrap_u64, Int.sub_emod, Int.emod_emod_of_dvd _ (Int.dvd_refl _), ← Int.sub_emod, e]
  have : ((q * y + r : Nat) : Int) - (q : Int) * (y : Int) = (r : Int) := by simp [Int.natCast_add, Int.natCast_mul]; omega
  rw [this]
  omega
/-- The same of two digits, the sum taken modulo 2 to the 64 too. -/
theorem wrap_rest2 {u v q y r : Nat} (hr : r < 18446744073709551616) (e : u * 4294967296 + v = q * y + r) :
    IntKind.u64.wrap (IntKind.u64.wrap (IntKind.u64.wrap ((u : Int) * 4294967296) + (v : Int)) - IntKind.u64.wrap ((q : Int) * (y : Int))) = (r : Int) := by
  rw [IntKind.wrap_u64, IntKind.wrap_u64, IntKind.wrap_u64, IntKind.wrap_u64]
  have e2 : (q : Int) * (y : Int) = ((u * 4294967296 + v : Nat) : Int) - (r : Int) := by rw [e, Int.natCast_add, Int.natCast_mul]; omega
  rw [e2, Int.natCast_add, Int.natCast_mul]
  omega

set_option maxHeartbeats 4000000 in
set_option maxRecDepth 100000 in
theorem bits_Div64 (hi lo y y1 y0 u1 u0 : Nat) (w : World) (h0 : 0 < hi) (h : hi < y) (h1 : 9223372036854775808 ≤ y) (h2 : y < B64) (h3 : lo < B64)
    (ey : y = y1 * 4294967296 + y0) (el : lo = u1 * 4294967296 + u0) (hy0 : y0 < 4294967296) (hu1 : u1 < 4294967296) (hu0 : u0 < 4294967296) :
    Calls Try.prog 36 #[.int .u64 hi, .int .u64 lo, .int .u64 y] w fun e w' =>
      e = .returned (.tuple #[.int .u64 ((hi * B64 + lo) / y : Nat), .int .u64 ((hi * B64 + lo) % y : Nat)]) ∧ w = w' := by
  have hhi0 : ((hi : Int) == 0) = false := beq_eq_false_iff_ne.2 (by omega)
  have hyy0 : ((y : Int) == 0) = false := beq_eq_false_iff_ne.2 (by omega)
  have HY : Hid (9223372036854775808 ≤ y ∧ y < B64) := Lib.hid ⟨h1, h2⟩
  have HL := Lib.hid h3
  rw [B64_eq] at h2 h3
  have hyb : (y : Int) ≤ 18446744073709551615 := by omega
  have hhb : (hi : Int) ≤ 18446744073709551615 := by omega
  have hlb : (lo : Int) ≤ 18446744073709551615 := by omega
  have hy1 : (2147483648 : Int) ≤ (y1 : Int) := by omega
  have hy1b : (y1 : Int) ≤ 4294967295 := by omega
  have e1 : (y : Int) / 4294967296 = (y1 : Int) := by omega
  have e2 : bits BinOp.and IntKind.u64 (y : Int) 4294967295 = (y0 : Int) := and_low (by omega) (by omega) hy0
  have e3 : bits BinOp.or IntKind.u64 (hi : Int) ((lo : Int) / 18446744073709551616) = (hi : Int) := or_none (by omega) (by omega)
  have e4 : (lo : Int) / 4294967296 = (u1 : Int) := by omega
  have e5 : bits BinOp.and IntKind.u64 (lo : Int) 4294967295 = (u0 : Int) := and_low (by omega) (by omega) hu0
  obtain ⟨q, hq⟩ : ∃ q, q = hi / y1 := ⟨_, rfl⟩
  obtain ⟨r, hr⟩ : ∃ r, r = hi % y1 := ⟨_, rfl⟩
  have hqr : hi = q * y1 + r := by rw [hq, hr, Nat.mul_comm]; exact (Nat.div_add_mod hi y1).symm
  have hrb : r < y1 := by rw [hr]; exact Nat.mod_lt _ (by omega)
  have hqb2 : (q : Int) ≤ 4294967297 := by
    have hqb : q ≤ 4294967297 := by rw [hq]; exact kn_bound (B := 4294967296) (y0 := y0) (by omega) hy0 (by omega) (by omega)
    omega
  have hQq : (hi * 4294967296 + u1) / (y1 * 4294967296 + y0) ≤ q := by rw [hq]; exact kn_first (by omega) (by omega) hu1
  have e6 : (hi : Int) / (y1 : Int) = (q : Int) := by rw [hq]; rfl
  have e7 : IntKind.u64.wrap ((hi : Int) - IntKind.u64.wrap ((q : Int) * (y1 : Int))) = (r : Int) := wrap_rest (by omega) hqr
  have HQR := Lib.hid hqr
  have hyp : 0 < y1 * 4294967296 + y0 := by omega
  have hQB : (hi * 4294967296 + u1) / (y1 * 4294967296 + y0) < 4294967296 := kn_lt (by rw [← ey]; exact h) hu1
  have HST : Hid (∀ p t, hi = p * y1 + t → p * y0 ≤ 4294967296 * t + u1 → (hi * 4294967296 + u1) / (y1 * 4294967296 + y0) ≤ p → p = (hi * 4294967296 + u1) / (y1 * 4294967296 + y0)) := Lib.hid (fun p t a b c => kn_stop hyp a b c)
  have HGO : Hid (∀ p t, hi = p * y1 + t → 4294967296 * t + u1 < p * y0 → (hi * 4294967296 + u1) / (y1 * 4294967296 + y0) < p) := Lib.hid (fun p t a b => kn_go hyp a b)
  obtain ⟨Q, hQ⟩ : ∃ Q, Q = (hi * 4294967296 + u1) / (y1 * 4294967296 + y0) := ⟨_, rfl⟩
  rw [← hQ] at HST HGO hQB hQq
  have HQQ := Lib.hid hQq
  have HQB := Lib.hid hQB
  have hQb2 : (Q : Int) ≤ 4294967295 := by omega
  rw [← ey] at hQ
  have HQD := Lib.hid hQ
  have hy0b : (y0 : Int) ≤ 4294967295 := by omega
  have hu1b : (u1 : Int) ≤ 4294967295 := by omega
  have hu0b : (u0 : Int) ≤ 4294967295 := by omega
  have HEY := Lib.hid ey
  have HEL := Lib.hid el
  clear h1 h2 h3 ey el hqr hQq hq hr hyp hQB hQ hy0 hu1 hu0
  go_enter Try.func36, Try.ntmps36
  go_upto_block 0 with (go_at_call 39; refine (bits_LZ y _ HY.out.1 HY.out.2).mono ?_; rintro e w' ⟨rfl, rfl⟩)
  go_cut [15] (fun s wx => s = .int .u64 (Q : Int) ∧ w = wx)
  case first =>
    go_wp2
    go_loop [15, 16] (fun qv rv => ∃ q r : Nat, qv = .int .u64 q ∧ rv = .int .u64 r ∧ Hid (hi = q * y1 + r) ∧ (r : Int) ≤ 4294967295 ∧ (q : Int) ≤ 4294967297 ∧ Hid (Q ≤ q)) (fun qv _ => (intOf qv).toNat)
    case atStart => exact ⟨q, r, rfl, rfl, HQR, by omega, by omega, HQQ⟩
    case round =>
      clear HQR HQQ
      obtain ⟨p, t, rfl, rfl, hu, ht, hp, hle⟩ := hrel
      obtain ⟨m, hm⟩ : ∃ m, m = p * y0 := ⟨_, rfl⟩
      have em : (p : Int) * (y0 : Int) = (m : Int) := by rw [hm]; simp
      have HM := Lib.hid hm
      clear hm
      by_cases hA : (p : Int) < 4294967296 ∧ (m : Int) ≤ 4294967296 * (t : Int) + (u1 : Int)
      · obtain ⟨hA1, hA2⟩ := hA
        have hmb : (m : Int) ≤ 18446744073709551615 := by omega
        have HE : Hid (p = Q) := Lib.hid (HST.out p t hu.out (by rw [← HM.out]; omega) hle.out)
        have hd1 : decide ((4294967296 : Int) ≤ (p : Int)) = false := by rw [decide_eq_false_iff_not]; omega
        have hd2 : decide (4294967296 * (t : Int) + (u1 : Int) < (m : Int)) = false := by rw [decide_eq_false_iff_not]; omega
        clear hu hle HM
        go_wp2
        go_meet
        exact ⟨by rw [HE.out], rfl⟩
      · have hlt : Hid (Q < p) := Lib.hid (by
          by_cases hA1 : (p : Int) < 4294967296
          · exact HGO.out p t hu.out (by rw [← HM.out]; omega)
          · have := HQB.out; omega)
        obtain ⟨p', rfl⟩ : ∃ p', p = p' + 1 := ⟨p - 1, by have := hlt.out; omega⟩
        have HU : Hid (hi = p' * y1 + (t + y1)) := Lib.hid (by have := hu.out; rw [Nat.add_mul, Nat.one_mul] at this; omega)
        have HLE : Hid (Q ≤ p') := Lib.hid (Nat.le_of_lt_succ hlt.out)
        have epp : ((p' + 1 : Nat) : Int) = (p' : Int) + 1 := by omega
        rw [epp] at em hA hp
        by_cases hbr : (t : Int) + (y1 : Int) < 4294967296
        · have hd3 : decide ((4294967296 : Int) ≤ (t : Int) + (y1 : Int)) = false := by rw [decide_eq_false_iff_not]; omega
          by_cases hA1 : (p' : Int) + 1 < 4294967296
          · have hmb2 : (m : Int) ≤ 18446744073709551615 := by
              have : (p' + 1) * y0 ≤ 4294967295 * 4294967295 := Nat.mul_le_mul (by omega) (by omega)
              rw [HM.out]; omega
            have hA2 : ¬ (m : Int) ≤ 4294967296 * (t : Int) + (u1 : Int) := fun h => hA ⟨hA1, h⟩
            have hd1 : decide ((4294967296 : Int) ≤ (p' : Int) + 1) = false := by rw [decide_eq_false_iff_not]; omega
            have hd2 : decide (4294967296 * (t : Int) + (u1 : Int) < (m : Int)) = true := by rw [decide_eq_true_iff]; omega
            clear hA hlt epp hu hle HM
            go_wp2
            go_round
            case rel => exact ⟨p', t + y1, by go_num, by go_num, HU, by omega, by omega, HLE⟩
            case measure => simp [intOf]
          · have hd1 : decide ((4294967296 : Int) ≤ (p' : Int) + 1) = true := by rw [decide_eq_true_iff]; omega
            clear hA hlt epp hu hle HM
            go_wp2
            go_round
            case rel => exact ⟨p', t + y1, by go_num, by go_num, HU, by omega, by omega, HLE⟩
            case measure => simp [intOf]
        · have hd3 : decide ((4294967296 : Int) ≤ (t : Int) + (y1 : Int)) = true := by rw [decide_eq_true_iff]; omega
          have HE : Hid (p' = Q) := Lib.hid (HST.out p' (t + y1) HU.out (kn_break (B := 4294967296) (by omega) (by omega) (by omega)) HLE.out)
          by_cases hA1 : (p' : Int) + 1 < 4294967296
          · have hmb2 : (m : Int) ≤ 18446744073709551615 := by
              have : (p' + 1) * y0 ≤ 4294967295 * 4294967295 := Nat.mul_le_mul (by omega) (by omega)
              rw [HM.out]; omega
            have hA2 : ¬ (m : Int) ≤ 4294967296 * (t : Int) + (u1 : Int) := fun h => hA ⟨hA1, h⟩
            have hd1 : decide ((4294967296 : Int) ≤ (p' : Int) + 1) = false := by rw [decide_eq_false_iff_not]; omega
            have hd2 : decide (4294967296 * (t : Int) + (u1 : Int) < (m : Int)) = true := by rw [decide_eq_true_iff]; omega
            clear hA hlt epp hu hle HM
            go_wp2
            go_meet
            exact ⟨by rw [← HE.out], rfl⟩
          · have hd1 : decide ((4294967296 : Int) ≤ (p' : Int) + 1) = true := by rw [decide_eq_true_iff]; omega
            clear hA hlt epp hu hle HM
            go_wp2
            go_meet
            exact ⟨by rw [← HE.out], rfl⟩
  case rest =>
    obtain ⟨rfl, rfl⟩ := hcut
    clear HQR HQQ HST HGO e1 e2 e3 e4 e5 e6 e7
    obtain ⟨R, hR⟩ : ∃ R, R = (hi * 4294967296 + u1) % y := ⟨_, rfl⟩
    have hRy : R < y := by rw [hR]; exact Nat.mod_lt _ (by omega)
    have hRe : hi * 4294967296 + u1 = Q * y + R := by have := Nat.div_add_mod (hi * 4294967296 + u1) y; rw [← hR, ← HQD.out, Nat.mul_comm y Q] at this; exact this.symm
    have f8 : IntKind.u64.wrap (IntKind.u64.wrap (IntKind.u64.wrap ((hi : Int) * 4294967296) + (u1 : Int)) - IntKind.u64.wrap ((Q : Int) * (y : Int))) = (R : Int) := wrap_rest2 (by omega) hRe
    have hRb : (R : Int) ≤ 18446744073709551615 := by omega
    obtain ⟨q2, hq⟩ : ∃ q2, q2 = R / y1 := ⟨_, rfl⟩
    obtain ⟨r2, hr⟩ : ∃ r2, r2 = R % y1 := ⟨_, rfl⟩
    have hqr : R = q2 * y1 + r2 := by rw [hq, hr, Nat.mul_comm]; exact (Nat.div_add_mod R y1).symm
    have hrb2 : r2 < y1 := by rw [hr]; exact Nat.mod_lt _ (by omega)
    have hyE := HEY.out
    have hqb3 : (q2 : Int) ≤ 4294967297 := by
      have hqb : q2 ≤ 4294967297 := by rw [hq]; exact kn_bound (B := 4294967296) (y0 := y0) (by omega) (by omega) (by omega) (by omega)
      omega
    have hQq : (R * 4294967296 + u0) / (y1 * 4294967296 + y0) ≤ q2 := by rw [hq]; exact kn_first (by omega) (by omega) (by omega)
    have f6 : (R : Int) / (y1 : Int) = (q2 : Int) := by rw [hq]; rfl
    have f7 : IntKind.u64.wrap ((R : Int) - IntKind.u64.wrap ((q2 : Int) * (y1 : Int))) = (r2 : Int) := wrap_rest (by omega) hqr
    have HQR2 := Lib.hid hqr
    have hyp : 0 < y1 * 4294967296 + y0 := by omega
    have hQB : (R * 4294967296 + u0) / (y1 * 4294967296 + y0) < 4294967296 := kn_lt (by rw [← hyE]; exact hRy) (by omega)
    have HST2 : Hid (∀ p t, R = p * y1 + t → p * y0 ≤ 4294967296 * t + u0 → (R * 4294967296 + u0) / (y1 * 4294967296 + y0) ≤ p → p = (R * 4294967296 + u0) / (y1 * 4294967296 + y0)) := Lib.hid (fun p t a b c => kn_stop hyp a b c)
    have HGO2 : Hid (∀ p t, R = p * y1 + t → 4294967296 * t + u0 < p * y0 → (R * 4294967296 + u0) / (y1 * 4294967296 + y0) < p) := Lib.hid (fun p t a b => kn_go hyp a b)
    obtain ⟨Q2, hQ2⟩ : ∃ Q2, Q2 = (R * 4294967296 + u0) / (y1 * 4294967296 + y0) := ⟨_, rfl⟩
    rw [← hQ2] at HST2 HGO2 hQB hQq
    have HQQ2 := Lib.hid hQq
    have HQB2 := Lib.hid hQB
    have hQb3 : (Q2 : Int) ≤ 4294967295 := by omega
    rw [← hyE] at hQ2
    obtain ⟨R2, hR2⟩ : ∃ R2, R2 = (R * 4294967296 + u0) % y := ⟨_, rfl⟩
    have hR2y : R2 < y := by rw [hR2]; exact Nat.mod_lt _ (by omega)
    have hRe2 : R * 4294967296 + u0 = Q2 * y + R2 := by have := Nat.div_add_mod (R * 4294967296 + u0) y; rw [← hR2, ← hQ2, Nat.mul_comm y Q2] at this; exact this.symm
    have f9 : IntKind.u64.wrap (IntKind.u64.wrap (IntKind.u64.wrap ((R : Int) * 4294967296) + (u0 : Int)) - IntKind.u64.wrap ((Q2 : Int) * (y : Int))) = (R2 : Int) := wrap_rest2 (by omega) hRe2
    have hFin : (hi * B64 + lo) / y = Q * 4294967296 + Q2 ∧ (hi * B64 + lo) % y = R2 := by
      have e : hi * B64 + lo = (hi * 4294967296 + u1) * 4294967296 + u0 := by rw [HEL.out, two_split]
      have := kn_two (B := 4294967296) (u32 := hi) (u1 := u1) (u0 := u0) (y := y) (by omega) (by omega)
      rw [e, this.1, this.2, ← HQD.out, ← hR, ← hQ2, ← hR2]
      exact ⟨rfl, rfl⟩
    have HF := Lib.hid hFin
    clear hFin hR2 hRe2 hQ2 hQB hqr hq hr hyE hR hRe hyp hQq HQD HEY HEL HY HL HQB
    go_upto_block 2 with (fail)
    go_cut [18] (fun s wx => s = .int .u64 (Q2 : Int) ∧ w = wx)
    case first =>
      go_wp2
      go_loop [16, 18] (fun rv qv => ∃ q r : Nat, qv = .int .u64 q ∧ rv = .int .u64 r ∧ Hid (R = q * y1 + r) ∧ (r : Int) ≤ 4294967295 ∧ (q : Int) ≤ 4294967297 ∧ Hid (Q2 ≤ q)) (fun _ qv => (intOf qv).toNat)
      case atStart => exact ⟨q2, r2, rfl, rfl, HQR2, by omega, by omega, HQQ2⟩
      case round =>
        clear HQR2 HQQ2
        obtain ⟨p, t, rfl, rfl, hu, ht, hp, hle⟩ := hrel
        obtain ⟨m, hm⟩ : ∃ m, m = p * y0 := ⟨_, rfl⟩
        have em : (p : Int) * (y0 : Int) = (m : Int) := by rw [hm]; simp
        have HM := Lib.hid hm
        clear hm
        by_cases hA : (p : Int) < 4294967296 ∧ (m : Int) ≤ 4294967296 * (t : Int) + (u0 : Int)
        · obtain ⟨hA1, hA2⟩ := hA
          have hmb : (m : Int) ≤ 18446744073709551615 := by omega
          have HE : Hid (p = Q2) := Lib.hid (HST2.out p t hu.out (by rw [← HM.out]; omega) hle.out)
          have hd1 : decide ((4294967296 : Int) ≤ (p : Int)) = false := by rw [decide_eq_false_iff_not]; omega
          have hd2 : decide (4294967296 * (t : Int) + (u0 : Int) < (m : Int)) = false := by rw [decide_eq_false_iff_not]; omega
          clear hu hle HM
          go_wp2
          go_meet
          exact ⟨by rw [HE.out], rfl⟩
        · have hlt : Hid (Q2 < p) := Lib.hid (by
            by_cases hA1 : (p : Int) < 4294967296
            · exact HGO2.out p t hu.out (by rw [← HM.out]; omega)
            · have := HQB2.out; omega)
          obtain ⟨p', rfl⟩ : ∃ p', p = p' + 1 := ⟨p - 1, by have := hlt.out; omega⟩
          have HU : Hid (R = p' * y1 + (t + y1)) := Lib.hid (by have := hu.out; rw [Nat.add_mul, Nat.one_mul] at this; omega)
          have HLE : Hid (Q2 ≤ p') := Lib.hid (Nat.le_of_lt_succ hlt.out)
          have epp : ((p' + 1 : Nat) : Int) = (p' : Int) + 1 := by omega
          rw [epp] at em hA hp
          by_cases hbr : (t : Int) + (y1 : Int) < 4294967296
          · have hd3 : decide ((4294967296 : Int) ≤ (t : Int) + (y1 : Int)) = false := by rw [decide_eq_false_iff_not]; omega
            by_cases hA1 : (p' : Int) + 1 < 4294967296
            · have hmb2 : (m : Int) ≤ 18446744073709551615 := by
                have : (p' + 1) * y0 ≤ 4294967295 * 4294967295 := Nat.mul_le_mul (by omega) (by omega)
                rw [HM.out]; omega
              have hA2 : ¬ (m : Int) ≤ 4294967296 * (t : Int) + (u0 : Int) := fun h => hA ⟨hA1, h⟩
              have hd1 : decide ((4294967296 : Int) ≤ (p' : Int) + 1) = false := by rw [decide_eq_false_iff_not]; omega
              have hd2 : decide (4294967296 * (t : Int) + (u0 : Int) < (m : Int)) = true := by rw [decide_eq_true_iff]; omega
              clear hA hlt epp hu hle HM
              go_wp2
              go_round
              case rel => exact ⟨p', t + y1, by go_num, by go_num, HU, by omega, by omega, HLE⟩
              case measure => simp [intOf]
            · have hd1 : decide ((4294967296 : Int) ≤ (p' : Int) + 1) = true := by rw [decide_eq_true_iff]; omega
              clear hA hlt epp hu hle HM
              go_wp2
              go_round
              case rel => exact ⟨p', t + y1, by go_num, by go_num, HU, by omega, by omega, HLE⟩
              case measure => simp [intOf]
          · have hd3 : decide ((4294967296 : Int) ≤ (t : Int) + (y1 : Int)) = true := by rw [decide_eq_true_iff]; omega
            have HE : Hid (p' = Q2) := Lib.hid (HST2.out p' (t + y1) HU.out (kn_break (B := 4294967296) (by omega) (by omega) (by omega)) HLE.out)
            by_cases hA1 : (p' : Int) + 1 < 4294967296
            · have hmb2 : (m : Int) ≤ 18446744073709551615 := by
                have : (p' + 1) * y0 ≤ 4294967295 * 4294967295 := Nat.mul_le_mul (by omega) (by omega)
                rw [HM.out]; omega
              have hA2 : ¬ (m : Int) ≤ 4294967296 * (t : Int) + (u0 : Int) := fun h => hA ⟨hA1, h⟩
              have hd1 : decide ((4294967296 : Int) ≤ (p' : Int) + 1) = false := by rw [decide_eq_false_iff_not]; omega
              have hd2 : decide (4294967296 * (t : Int) + (u0 : Int) < (m : Int)) = true := by rw [decide_eq_true_iff]; omega
              clear hA hlt epp hu hle HM
              go_wp2
              go_meet
              exact ⟨by rw [← HE.out], rfl⟩
            · have hd1 : decide ((4294967296 : Int) ≤ (p' : Int) + 1) = true := by rw [decide_eq_true_iff]; omega
              clear hA hlt epp hu hle HM
              go_wp2
              go_meet
              exact ⟨by rw [← HE.out], rfl⟩
    case rest =>
      obtain ⟨rfl, rfl⟩ := hcut
      clear HQR2 HQQ2 HST2 HGO2 HQB2 f6 f7 f8
      go_wp2
      go_ret2
      exact ⟨by rw [HF.out.1, HF.out.2]; simp, rfl⟩

end Go.Proofs.Ytmjinhieeflkgaa
