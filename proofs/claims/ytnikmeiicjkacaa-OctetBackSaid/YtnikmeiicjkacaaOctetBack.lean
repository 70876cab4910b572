/- The walk of OctetBack: what is put is taken as it was, whatever is behind. -/
import Derived.Test.YtnikmeiicjkacaaOctetNumbers
namespace Go.Proofs.Ytnikmeiicjkacaa
open Go.RowKit

theorem oct_beV_pre (a b : List UInt8) {k : Nat} (hk : a.length = k) : beV ((a ++ b).take k) = beV a ∧ (a ++ b).drop k = b := by
  subst hk
  rw [List.take_left, List.drop_left]; exact ⟨rfl, rfl⟩

set_option maxHeartbeats 4000000 in
set_option maxRecDepth 100000 in
theorem octetBack_core (v k n : Nat) (t z : List UInt8) (w : World) (ht : t.length ≤ 1000) (hz : z.length ≤ 100) (hv : v < 18446744073709551616) (hn : n < 256) (hk : k = n % 8 + 1) :
    Calls Try.prog 5 #[.int .u64 (v : Int), .string (bs t), .string (bs z), .int .u8 (n : Int)] w fun e w' => e = .returned (.bool true) ∧ Below w.heap.size w w' := by
  have HA := Lib.hid (fun W => oct_Awake W)
  have hst := bs_size t
  have hsz := bs_size z
  have hd1 : decide ((1000 : Int) < (t.length : Int)) = false := decide_eq_false (by omega)
  have hd2 : decide ((100 : Int) < (z.length : Int)) = false := decide_eq_false (by omega)
  obtain ⟨q, hq⟩ : ∃ q, q = n % 8 := ⟨_, rfl⟩
  have hk1 : 1 ≤ k := by omega
  have hk8 : k ≤ 8 := by omega
  have hq8 : q < 8 := by omega
  have e1 : (n : Int) % 8 = (q : Int) := by omega
  have e1t : (n : Int).tmod 8 = (q : Int) := by rw [Int.tmod_eq_emod_of_nonneg (by omega)]; exact e1
  have e2 : IntKind.u8.wrap (q : Int) = (q : Int) := by rw [oct_u8]; omega
  have e3 : IntKind.i64.wrap (q : Int) = (q : Int) := IntWalk.i64_in _ (by omega)
  have e4 : IntKind.i64.wrap ((q : Int) + 1) = (k : Int) := by rw [IntWalk.i64_in _ (by omega)]; omega
  have e4b : (q : Int) + 1 = (k : Int) := by omega
  obtain ⟨c, hc⟩ : ∃ c, c = 8 * k := ⟨_, rfl⟩
  have hcw : IntKind.i64.wrap (8 * (k : Int)) = (c : Int) := by rw [IntWalk.i64_in _ (by omega)]; omega
  obtain ⟨P, hP⟩ : ∃ P, P = beL t.length 2 ++ t := ⟨_, rfl⟩
  have HPl : P.length = 2 + t.length := by rw [hP, List.length_append, beL_len]
  have HT : Hid (∀ W, Calls Try.prog 11 #[.string (bs t), .int .i64 1000] W fun e w' => e = .returned (.tuple #[.string (bs P), .int .i64 0]) ∧ Below W.heap.size W w') := Lib.hid (fun W => by
    have h := oct_PutText_ok t 1000 W (by decide) ht
    rw [← hP] at h
    exact h)
  obtain ⟨Z, hZ⟩ : ∃ Z, Z = P ++ z := ⟨_, rfl⟩
  have HZ : bs P ++ bs z = bs Z := by rw [bs_append, hZ]
  have hps := bs_size P
  have hZl : Z.length = 2 + t.length + z.length := by rw [hZ, List.length_append, HPl]
  have hbe : (beL t.length 2).length = 2 := beL_len _ _
  have hbv : beV (Z.take 2) = t.length := by
    rw [hZ, hP, List.append_assoc, (oct_beV_pre _ _ hbe).1, beV_beL]
    have e : (256 : Nat) ^ 2 = 65536 := by decide
    rw [e]; omega
  have hbd : Z.drop 2 = t ++ z := by rw [hZ, hP, List.append_assoc, (oct_beV_pre _ _ hbe).2]
  have HK : Hid (∀ W, Calls Try.prog 13 #[.string (bs Z), .int .i64 1000] W fun e w' => e = .returned (.tuple #[.string (bs t), .string (bs z), .int .i64 0]) ∧ Below W.heap.size W w') := Lib.hid (fun W => by
    have h := oct_TakeText_ok Z 1000 W (by decide) (by omega) (by omega) (by omega) (by omega)
    rw [hbv, hbd, List.take_left, List.drop_left] at h
    exact h)
  have htt : ((bs t).toList != (bs t).toList) = false := by simp
  have hzz : ((bs z).toList != (bs z).toList) = false := by simp
  have hzz2 : ((bs z).toList == (bs z).toList) = true := by simp
  have HPL := Lib.hid HPl
  have HZL := Lib.hid hZl
  have hpl2 : P.length ≤ 1002 := by omega
  clear hP hZ HPl hZl hbe hbv hbd hq hk
  by_cases hfit : v < 256 ^ k
  · obtain ⟨B, hB⟩ : ∃ B, B = beL v k := ⟨_, rfl⟩
    have hBl : B.length = k := by rw [hB, beL_len]
    have HU : Hid (∀ W, Calls Try.prog 7 #[.int .u64 (v : Int), .int .i64 (k : Int)] W fun e w' => e = .returned (.tuple #[.string (bs B), .int .i64 0]) ∧ Below W.heap.size W w') := Lib.hid (fun W => by
      have h := oct_Put_ok v k W hk1 hk8 hv hfit
      rw [← hB] at h
      exact h)
    obtain ⟨Y, hY⟩ : ∃ Y, Y = B ++ z := ⟨_, rfl⟩
    have HY : bs B ++ bs z = bs Y := by rw [bs_append, hY]
    have hbs : (bs B).size = k := by rw [bs_size, hBl]
    have HN : Hid (∀ W, Calls Try.prog 9 #[.string (bs Y), .int .i64 (k : Int)] W fun e w' => e = .returned (.tuple #[.int .u64 (v : Int), .string (bs z), .int .i64 0]) ∧ Below W.heap.size W w') := Lib.hid (fun W => by
      have hl : Y.length = k + z.length := by rw [hY, List.length_append, hBl]
      have h := oct_Take_ok Y k W hk1 hk8 (by omega) (by omega)
      rw [hY, (oct_beV_pre _ _ hBl).1, (oct_beV_pre _ _ hBl).2, hB, beV_beL, Nat.mod_eq_of_lt hfit] at h
      rw [hY, hB]
      exact h)
    clear hB hBl hY hfit
    go_enter Try.func5, Try.ntmps5
    go_wp2_with fail
    refine (HU.out _).mono ?_
    rintro e w1 ⟨rfl, hb1⟩
    have B1 := Lib.hid hb1
    clear hb1
    go_wp2_with fail
    refine (HT.out _).mono ?_
    rintro e w2 ⟨rfl, hb2⟩
    have B2 := Lib.hid (B1.out.trans (hb2.mono B1.out.size))
    clear hb2
    go_wp2_with fail
    refine (HK.out _).mono ?_
    rintro e w3 ⟨rfl, hb3⟩
    have B3 := Lib.hid (B2.out.trans (hb3.mono B2.out.size))
    clear hb3
    go_wp2_with fail
    refine (HN.out _).mono ?_
    rintro e w4 ⟨rfl, hb4⟩
    have B4 := Lib.hid (B3.out.trans (hb4.mono B3.out.size))
    clear hb4
    go_wp2_with fail
    refine (HA.out _).mono ?_
    rintro e w5 ⟨rfl, hb5⟩
    have B5 := Lib.hid (B4.out.trans (hb5.mono B4.out.size))
    clear hb5
    go_wp2_with fail
    go_ret
    exact ⟨rfl, B5.out⟩
  · have HU : Hid (∀ W, Calls Try.prog 7 #[.int .u64 (v : Int), .int .i64 (k : Int)] W fun e w' => e = .returned (.tuple #[.string (bs []), .int .i64 5]) ∧ Below W.heap.size W w') := Lib.hid (fun W => oct_Put_more v k W hk1 hk8 hv (by omega))
    obtain ⟨u, hu⟩ : ∃ u, u = v / 2 ^ (min c 64) := ⟨_, rfl⟩
    have hui : (v : Int) / 2 ^ (min c 64) = (u : Int) := by rw [hu]; push_cast; rfl
    have hu0 : 0 < u := by
      rw [hu, oct_shr hv, hc, oct_256]
      exact Nat.div_pos (by omega) (Nat.pow_pos (by omega))
    have hud : decide (0 < u) = true := decide_eq_true hu0
    clear hu hc hfit
    go_enter Try.func5, Try.ntmps5
    go_wp2_with fail
    refine (HU.out _).mono ?_
    rintro e w1 ⟨rfl, hb1⟩
    have B1 := Lib.hid hb1
    clear hb1
    go_wp2_with fail
    refine (HT.out _).mono ?_
    rintro e w2 ⟨rfl, hb2⟩
    have B2 := Lib.hid (B1.out.trans (hb2.mono B1.out.size))
    clear hb2
    go_wp2_with fail
    refine (HK.out _).mono ?_
    rintro e w3 ⟨rfl, hb3⟩
    have B3 := Lib.hid (B2.out.trans (hb3.mono B2.out.size))
    clear hb3
    go_wp2_with fail
    refine (HA.out _).mono ?_
    rintro e w5 ⟨rfl, hb5⟩
    have B5 := Lib.hid (B3.out.trans (hb5.mono B3.out.size))
    clear hb5
    go_wp2_with fail
    go_ret
    exact ⟨rfl, B5.out⟩

theorem octetBack_idle1 (v n : Int) (t z : List UInt8) (w : World) (ht : 1000 < t.length) :
    Calls Try.prog 5 #[.int .u64 v, .string (bs t), .string (bs z), .int .u8 n] w fun e w' => e = .returned (.bool true) ∧ Below w.heap.size w w' := by
  have HA := Lib.hid (fun W => oct_Awake W)
  have hst := bs_size t
  have hsz := bs_size z
  have hd1 : decide ((1000 : Int) < (t.length : Int)) = true := decide_eq_true (by omega)
  go_enter Try.func5, Try.ntmps5
  go_wp2_with fail
  refine (HA.out _).mono ?_
  rintro e w1 ⟨rfl, hb1⟩
  go_wp2_with fail
  go_ret
  exact ⟨rfl, hb1⟩
theorem octetBack_idle2 (v n : Int) (t z : List UInt8) (w : World) (ht : t.length ≤ 1000) (hz : 100 < z.length) :
    Calls Try.prog 5 #[.int .u64 v, .string (bs t), .string (bs z), .int .u8 n] w fun e w' => e = .returned (.bool true) ∧ Below w.heap.size w w' := by
  have HA := Lib.hid (fun W => oct_Awake W)
  have hst := bs_size t
  have hsz := bs_size z
  have hd1 : decide ((1000 : Int) < (t.length : Int)) = false := decide_eq_false (by omega)
  have hd2 : decide ((100 : Int) < (z.length : Int)) = true := decide_eq_true (by omega)
  go_enter Try.func5, Try.ntmps5
  go_wp2_with fail
  refine (HA.out _).mono ?_
  rintro e w1 ⟨rfl, hb1⟩
  go_wp2_with fail
  go_ret
  exact ⟨rfl, hb1⟩

theorem octetBack_walk (a0 : Int) (a1 : ByteArray) (a2 : ByteArray) (a3 : Int) (w0 : (Lit.int .u64 a0).wf = true) (_w1 : a1.size ≤ maxLen) (_w2 : a2.size ≤ maxLen) (w3 : (Lit.int .u8 a3).wf = true) (w : World) :
    Calls Try.prog 5 #[.int .u64 a0, .string a1, .string a2, .int .u8 a3] w fun e w' => e = .returned (.bool true) ∧ Below w.heap.size w w' := by
  have b0 := bounds_u64 w0
  have b3 := bounds_u8 w3
  obtain ⟨v, rfl⟩ : ∃ n : Nat, a0 = (n : Int) := ⟨a0.toNat, by omega⟩
  obtain ⟨n, rfl⟩ : ∃ n : Nat, a3 = (n : Int) := ⟨a3.toNat, by omega⟩
  have hv : v < 18446744073709551616 := by have := b0.2; omega
  have hn : n < 256 := by have := b3.2; omega
  obtain ⟨t, ht⟩ : ∃ l, l = a1.data.toList := ⟨_, rfl⟩
  have ht2 : a1 = bs t := by rw [ht, bs_of]
  obtain ⟨z, hz⟩ : ∃ l, l = a2.data.toList := ⟨_, rfl⟩
  have hz2 : a2 = bs z := by rw [hz, bs_of]
  rw [ht2, hz2]
  by_cases h : 1000 < t.length
  · exact octetBack_idle1 _ _ t z w h
  · by_cases h2 : 100 < z.length
    · exact octetBack_idle2 _ _ t z w (by omega) h2
    · exact octetBack_core v (n % 8 + 1) n t z w (by omega) (by omega) hv hn rfl

end Go.Proofs.Ytnikmeiicjkacaa
