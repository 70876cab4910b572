/- Contracts of the document's answers for tapes: Left, Bit, Read. -/
import Derived.Test.YtcfjgllkpfkhfaaTapeC
namespace Go.Proofs.Ytcfjgllkpfkhfaa
open Go.RowKit

theorem rtape_Left (s : ByteArray) (a b : Nat) (w : World) (hs : (s.size : Int) ≤ 1000000) (hb : 8 * s.size = a + b) :
    Calls Try.prog 29 #[.agg #[.string s, .int .i64 (a : Int)]] w fun e w' => e = .returned (.int .i64 (b : Int)) ∧ Below w.heap.size w w' := by
  have h0 : IntKind.i64.wrap (8 * (s.size : Int)) = 8 * (s.size : Int) := IntWalk.i64_in _ (by omega)
  have h1 : IntKind.i64.wrap (8 * (s.size : Int) - (a : Int)) = (b : Int) := by rw [IntWalk.i64_in _ (by omega)]; omega
  clear hb
  go_enter Try.func29, Try.ntmps29
  go_wp2
  go_ret
  exact ⟨rfl, ((Below.refl _ _).alloc (Nat.le_refl _) _)⟩

theorem half_step (c k : Nat) : c / 2 ^ k / 2 = c / 2 ^ (k + 1) := by rw [Nat.pow_succ, Nat.div_div_eq_div_mul]

set_option maxHeartbeats 2000000 in
theorem rtape_Bit (s : ByteArray) (i x : Nat) (w : World) (hs : (s.size : Int) ≤ 1000000) (hi : i < 8 * s.size) (hx : Hid (x = bitL s.data.toList i)) :
    Calls Try.prog 30 #[.string s, .int .i64 (i : Int)] w fun e w' => e = .returned (.int .i64 (x : Int)) ∧ w = w' := by
  obtain ⟨j, hj⟩ : ∃ j, j = i / 8 := ⟨_, rfl⟩
  obtain ⟨r, hr⟩ : ∃ r, r = i % 8 := ⟨_, rfl⟩
  have hji : (i : Int) / 8 = (j : Int) := by omega
  have hri : (i : Int) % 8 = (r : Int) := by omega
  have hjs : j < s.size := by omega
  have hr8 : r < 8 := by omega
  have HX : Hid (x = s[j].toNat / 2 ^ (7 - r) % 2) := Lib.hid (by
    rw [hx.out]
    unfold bitL
    rw [← hj, ← hr, byte_at hjs])
  clear hj hr
  obtain ⟨c, hc⟩ : ∃ c : Nat, c = s[j].toNat := ⟨_, rfl⟩
  have hci : (s[j].toNat : Int) = (c : Int) := by rw [hc]
  rw [← hc] at HX
  have hc8 : c < 256 := by rw [hc]; exact s[j].toNat_lt
  clear hc
  go_enter Try.func30, Try.ntmps30
  go_wp2
  go_loop [5, 6] (fun dv kv => ∃ (d k : Nat), dv = .int .i64 (d : Int) ∧ kv = .int .i64 (k : Int) ∧ r ≤ k ∧ k ≤ 7 ∧ d < 256 ∧ Hid (d = c / 2 ^ (7 - k))) (fun _ kv => (intOf kv).toNat)
  case atStart => exact ⟨c, 7, by first | rfl | rw [hci], rfl, by omega, by omega, hc8, Lib.hid (by simp)⟩
  case round =>
    obtain ⟨d, k, rfl, rfl, hk, hk7, hd, HD⟩ := hrel
    by_cases hlt : r < k
    · have HD' : Hid (d / 2 = c / 2 ^ (7 - (k - 1))) := Lib.hid (by rw [HD.out, half_step]; congr 2; omega)
      go_wp2
      go_round
      case rel => exact ⟨d / 2, k - 1, by first | rfl | (congr 1; omega), by first | rfl | (congr 1; omega), by omega, by omega, by omega, HD'⟩
      case measure => simp [intOf]; omega
    · have hkr : k = r := by omega
      subst hkr
      have HE : Hid ((d : Int) % 2 = (x : Int)) := Lib.hid (by rw [HX.out, ← HD.out]; omega)
      go_wp2
      go_ret
      exact ⟨ret_int HE.out, rfl⟩

set_option maxHeartbeats 4000000 in
set_option maxRecDepth 100000 in
theorem rtape_Read (s : ByteArray) (a : Nat) (n : Int) (w : World) (hs : (s.size : Int) ≤ 1000000) (ha : a ≤ 8 * s.size) (hn0 : -9223372036854775808 ≤ n) (hn1 : n ≤ 9223372036854775807) :
    Calls Try.prog 16 #[.agg #[.string s, .int .i64 (a : Int)], .int .i64 n] w (RdRet s a n w) := by
  by_cases hlo : n < 0
  · have HR := Lib.hid (rdT_range (l := s.data.toList) (a := a) (.inl hlo))
    go_enter Try.func16, Try.ntmps16
    go_wp2_with fail
    go_region
    all_goals go_wp2_with fail
    all_goals refine bodyPost_ret (v := .tuple #[.int .u64 0, .agg #[.string s, .int .i64 (a : Int)], .int .i64 5]) (by simp [results, Try.results16, go_sem]) rfl ⟨0, a, 5, HR.out, rfl, ?_⟩
    all_goals exact (((Below.refl _ _).alloc (Nat.le_refl _) _).alloc (hz1 _ _) _).drew
  · by_cases hhi : 64 < n
    · have HR := Lib.hid (rdT_range (l := s.data.toList) (a := a) (.inr hhi))
      have hd : decide (n < 0) = false := decide_eq_false hlo
      go_enter Try.func16, Try.ntmps16
      go_wp2_with fail
      go_region
      all_goals go_wp2_with fail
      all_goals refine bodyPost_ret (v := .tuple #[.int .u64 0, .agg #[.string s, .int .i64 (a : Int)], .int .i64 5]) (by simp [results, Try.results16, go_sem]) rfl ⟨0, a, 5, HR.out, rfl, ?_⟩
      all_goals exact (((Below.refl _ _).alloc (Nat.le_refl _) _).alloc (hz1 _ _) _).drew
    · obtain ⟨b, hb⟩ : ∃ b, 8 * s.size = a + b := ⟨8 * s.size - a, by omega⟩
      obtain ⟨m, rfl⟩ : ∃ m : Nat, n = (m : Int) := ⟨n.toNat, by omega⟩
      have HL := Lib.hid (fun W => rtape_Left s a b W hs hb)
      have X0 := Lib.hid ((TBox.new 28 w s a).alloc (.cells #[.string ⟨#[]⟩, .int .i64 0] 28))
      have Y0 := TBox.new 28 (w.alloc (.cells #[.string s, .int .i64 (a : Int)] 28)) ⟨#[]⟩ 0
      rw [show (w.alloc (.cells #[.string s, .int .i64 (a : Int)] 28)).heap.size = w.heap.size + 1 from by simp] at Y0
      have Y0 := Lib.hid Y0
      have B0 := Lib.hid (((Below.refl w.heap.size w).alloc (Nat.le_refl _) (.cells #[.string s, .int .i64 (a : Int)] 28)).alloc (hz1 _ _) (.cells #[.string ⟨#[]⟩, .int .i64 0] 28))
      have hlo' : (m : Int) ≤ 64 := by omega
      have HB := Lib.hid hb
      by_cases hbm : b < m
      · have HR := Lib.hid (rdT_short (l := s.data.toList) (a := a) (b := b) (n := (m : Int)) (by omega) (by omega) (by rw [dlen]; exact hb) (by omega))
        have hd : decide ((b : Int) < (m : Int)) = true := decide_eq_true (by omega)
        clear hb hlo hhi
        go_enter Try.func16, Try.ntmps16
        go_wp2_with fail
        refine (HL.out _).mono ?_
        rintro e w1 ⟨rfl, hb1⟩
        have X1 := Lib.hid (X0.out.keep hb1)
        have Y1 := Lib.hid (Y0.out.keep hb1)
        have B1 := Lib.hid (keepB B0.out hb1)
        obtain ⟨c0, c1⟩ := X1.out.cells
        obtain ⟨d0, d1⟩ := Y1.out.cells
        obtain ⟨f0, f1⟩ := Y1.out.fz
        clear hb1 X0 Y0 B0
        go_wp2_with fail
        go_region
        all_goals go_wp2_with fail
        all_goals refine bodyPost_ret (v := .tuple #[.int .u64 0, .agg #[.string s, .int .i64 (a : Int)], .int .i64 6]) (by simp [results, Try.results16, go_sem, d0, d1]) rfl ⟨0, a, 6, HR.out, rfl, ?_⟩
        all_goals exact Below.drew (Below.put2 B1.out (Nat.le_succ _) _ _)
      · obtain ⟨v, hv⟩ : ∃ v, v = numL s.data.toList a m := ⟨_, rfl⟩
        obtain ⟨z, hz⟩ : ∃ z, z = a + m := ⟨_, rfl⟩
        have HR : Hid (rdT s.data.toList a (m : Int) = (v, z, 0)) := Lib.hid (by rw [hv, hz]; exact rdT_ok (by omega) (by rw [dlen]; omega))
        have hbm' : (m : Int) ≤ (b : Int) := by omega
        have HV := Lib.hid hv
        have HZ := Lib.hid hz
        have q0 : decide ((m : Int) < 0) = false := decide_eq_false (by omega)
        have q1 : decide (64 < (m : Int)) = false := decide_eq_false (by omega)
        have q2 : decide (b < m) = false := decide_eq_false (by omega)
        have hzi : (a : Int) + (m : Int) = (z : Int) := by omega
        have hab : (a : Int) + (m : Int) ≤ 8000000 := by omega
        have hzb : (z : Int) ≤ 8000000 := by omega
        have HAB : Hid (a + m ≤ 8 * s.size) := Lib.hid (by omega)
        clear hb hlo hhi hv hz hbm
        go_enter Try.func16, Try.ntmps16
        go_wp2_with fail
        refine (HL.out _).mono ?_
        rintro e w1 ⟨rfl, hb1⟩
        have X1 := Lib.hid (X0.out.keep hb1)
        have Y1 := Lib.hid (Y0.out.keep hb1)
        have B1 := Lib.hid (keepB B0.out hb1)
        obtain ⟨c0, c1⟩ := X1.out.cells
        clear hb1 X0 Y0 B0
        go_wp2_with fail
        go_loop [7, 8] (fun vv iv => ∃ (x k : Nat), vv = .int .u64 (x : Int) ∧ iv = .int .i64 (k : Int) ∧ k ≤ m ∧ Hid (x = numL s.data.toList a k)) (fun _ iv => m - (intOf iv).toNat)
        case atStart => exact ⟨0, 0, rfl, rfl, Nat.zero_le _, Lib.hid rfl⟩
        case round =>
          obtain ⟨x, k, rfl, rfl, hk, HX⟩ := hrel
          by_cases hlt : k < m
          · obtain ⟨y, hy⟩ : ∃ y, y = bitL s.data.toList (a + k) := ⟨_, rfl⟩
            have HX' : Hid (x * 2 + y = numL s.data.toList a (k + 1)) := Lib.hid (by rw [numL_succ, HX.out, hy])
            have hyb : y < 2 := by rw [hy]; exact bitL_lt _ _
            have hlim : (x : Int) * 2 + (y : Int) ≤ 18446744073709551615 := by
              have h1 := numL_le64 s.data.toList a (n := k + 1) (by omega)
              rw [← HX'.out] at h1
              omega
            have hlim2 : (x : Int) * 2 ≤ 18446744073709551615 := by omega
            have HBT := Lib.hid (fun W => rtape_Bit s (a + k) y W hs (by have := HAB.out; omega) (Lib.hid hy))
            clear hy
            go_wp2_with fail
            refine (HBT.out _).mono ?_
            rintro e w' ⟨rfl, rfl⟩
            go_wp2_with fail
            go_round
            case rel => exact ⟨x * 2 + y, k + 1, by go_num, by go_num, by omega, HX'⟩
            case measure => simp [intOf]; omega
          · have hkm : k = m := by omega
            subst hkm
            have HXV : Hid (x = v) := Lib.hid (by rw [HX.out, HV.out])
            obtain ⟨d0, d1⟩ := Y1.out.cells
            obtain ⟨f0, f1⟩ := Y1.out.fz
            obtain ⟨e0, e1⟩ := X1.out.fz
            have hxv := HXV.out
            subst hxv
            go_wp2_with fail
            go_region
            all_goals go_wp2_with fail
            all_goals refine bodyPost_ret (v := .tuple #[.int .u64 (x : Int), .agg #[.string s, .int .i64 (z : Int)], .int .i64 0]) (by simp [results, Try.results16, go_sem, d0, d1]) rfl ⟨x, z, 0, HR.out, rfl, ?_⟩
            all_goals first | exact Below.drew (Below.put2 (B1.out.setCell (Nat.le_refl _) _) (Nat.le_succ _) _ _)
end Go.Proofs.Ytcfjgllkpfkhfaa
