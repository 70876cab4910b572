/- The statement TapeParts walked. -/
import Derived.Test.YtcfjgllkpfkhfaaTapeM
import Derived.OpenShut
namespace Go.Proofs.Ytcfjgllkpfkhfaa
open Go.RowKit

set_option maxHeartbeats 4000000 in
set_option maxRecDepth 100000 in
theorem tapeParts_walk (s0 s1 : ByteArray) (a2 a3 : Int) (hs0 : s0.size ≤ maxLen) (hs1 : s1.size ≤ maxLen) (h2 : (Lit.int .u8 a2).wf = true) (h3 : (Lit.int .u8 a3).wf = true) (w : World) :
    Calls Try.prog 4 #[.string s0, .string s1, .int .u8 a2, .int .u8 a3] w fun e w' => e = .returned (.bool true) ∧ Below w.heap.size w w' := by
  unfold maxLen at hs0 hs1
  have b2 := bounds_u8 h2
  have b3 := bounds_u8 h3
  obtain ⟨n, hn⟩ : ∃ n : Nat, a2 % 33 = (n : Int) := ⟨(a2 % 33).toNat, by omega⟩
  obtain ⟨k, hk⟩ : ∃ k : Nat, a3 % 32 = (k : Int) := ⟨(a3 % 32).toNat, by omega⟩
  have hn33 : n < 33 := by omega
  have hk32 : k < 32 := by omega
  obtain ⟨b20, b21⟩ := b2
  obtain ⟨b30, b31⟩ := b3
  clear h2 h3
  by_cases hbig : 200 < s0.size
  · have hd : decide (200 < (s0.size : Int)) = true := decide_eq_true (by omega)
    go_enter Try.func4, Try.ntmps4
    go_wp2_with fail
    refine (law7_Awake _).mono ?_
    rintro e w1 ⟨rfl, hb1⟩
    have B1 := Lib.hid hb1
    clear hb1
    go_wp2_with fail
    go_ret
    exact ⟨rfl, B1.out⟩
  · by_cases hbig1 : 200 < s1.size
    · have hd : decide (200 < (s0.size : Int)) = false := decide_eq_false (by omega)
      have hd1 : decide (200 < (s1.size : Int)) = true := decide_eq_true (by omega)
      go_enter Try.func4, Try.ntmps4
      go_wp2_with fail
      refine (law7_Awake _).mono ?_
      rintro e w1 ⟨rfl, hb1⟩
      have B1 := Lib.hid hb1
      clear hb1
      go_wp2_with fail
      go_ret
      exact ⟨rfl, B1.out⟩
    · have hd : decide (200 < (s0.size : Int)) = false := decide_eq_false (by omega)
      have hd1 : decide (200 < (s1.size : Int)) = false := decide_eq_false (by omega)
      have hm8 : IntKind.i64.wrap (8 * (s0.size : Int)) = 8 * (s0.size : Int) := IntWalk.i64_in _ (by omega)
      have hs : (s0.size : Int) ≤ 1000000 := by omega
      have hcat : s0.size + s1.size ≤ 9223372036854775807 := by omega
      have hsa : ((s0 ++ s1).size : Int) ≤ 1000000 := by rw [ByteArray.size_append']; omega
      by_cases hfew : 8 * s0.size < n + k
      · have hd2 : decide (8 * (s0.size : Int) < (n : Int) + (k : Int)) = true := decide_eq_true (by omega)
        clear hbig hbig1
        go_enter Try.func4, Try.ntmps4
        go_wp2_with fail
        refine (law7_Awake _).mono ?_
        rintro e w1 ⟨rfl, hb1⟩
        have B1 := Lib.hid hb1
        clear hb1
        go_wp2_with fail
        go_ret
        exact ⟨rfl, B1.out⟩
      · obtain ⟨m, hm⟩ : ∃ m, m = n + k := ⟨_, rfl⟩
        have hmi : (n : Int) + (k : Int) = (m : Int) := by omega
        have hd2 : decide (8 * (s0.size : Int) < (m : Int)) = false := decide_eq_false (by omega)
        obtain ⟨x, hx⟩ : ∃ x, x = numL s0.data.toList 0 n := ⟨_, rfl⟩
        obtain ⟨y, hy⟩ : ∃ y, y = numL s0.data.toList n k := ⟨_, rfl⟩
        obtain ⟨z, hz⟩ : ∃ z, z = numL s0.data.toList 0 m := ⟨_, rfl⟩
        have hzx : z = x * 2 ^ k + y := by rw [hz, hx, hy, hm, numL_add, Nat.zero_add]
        have R1 := Lib.hid (fun W => tape_Read_ok s0 0 n x n W hs (by omega) (by omega) (Lib.hid hx) (Lib.hid (by omega)))
        have R2 := Lib.hid (fun W => tape_Read_ok s0 n k y m W hs (by omega) (by omega) (Lib.hid hy) (Lib.hid hm))
        have R3 := Lib.hid (fun W => tape_Read_ok s0 0 m z m W hs (by omega) (by omega) (Lib.hid hz) (Lib.hid (by omega)))
        have R4 := Lib.hid (fun W => tape_Read_ok (s0 ++ s1) 0 m z m W hsa (by omega) (by rw [ByteArray.size_append']; omega) (Lib.hid (by rw [hz, app_data, numL_app _ _ _ _ (by rw [dlen]; omega)])) (Lib.hid (by omega)))
        have A1 := Lib.hid (fun W => tape_At s0 m W)
        have A0 : Hid (∀ W : World, Calls Try.prog 17 #[.agg #[.string s0, .int .i64 0]] W fun e w' => e = .returned (.int .i64 0) ∧ Below W.heap.size W w') := Lib.hid (fun W => tape_At s0 0 W)
        have hyb : y < 2 ^ k := by rw [hy]; exact numL_lt _ _ _
        have hzb : z < 18446744073709551616 := by
          have h1 := numL_lt s0.data.toList 0 m
          have h2 : 2 ^ m ≤ 2 ^ 64 := Nat.pow_le_pow_right (by omega) (by omega)
          have h3 : (2 : Nat) ^ 64 = 18446744073709551616 := by decide
          rw [h3] at h2
          omega
        obtain ⟨X, hX⟩ : ∃ X, X = x * 2 ^ k := ⟨_, rfl⟩
        have hshl : IntKind.u64.wrap ((x : Int) * 2 ^ k) = (X : Int) := by
          rw [show (x : Int) * 2 ^ k = (X : Int) from by rw [hX]; push_cast; rfl, IntWalk.u64_in _ (by omega)]
        have hor : bits BinOp.or IntKind.u64 (X : Int) (y : Int) = (z : Int) := by
          rw [bits_or_u64_nat X y (by omega) (by omega), hzx, hX, Nat.mul_comm x, ← Nat.two_pow_add_eq_or_of_lt hyb]
        have HSHL := Lib.hid hshl
        have HOR := Lib.hid hor
        clear hbig hbig1 hfew hx hy hz hzx hyb hzb hX hm hshl hor
        go_enter Try.func4, Try.ntmps4
        go_wp2_with fail
        refine (tape_New s0 _).mono ?_
        rintro e w1 ⟨rfl, hb1⟩
        have T1 := Lib.hid (TBox.new 25 w1 s0 0)
        have B1 := Lib.hid (hb1.alloc hb1.size (.cells #[.string s0, .int .i64 0] 25))
        clear hb1
        go_wp2_with fail
        refine (R1.out _).mono ?_
        rintro e w2 ⟨rfl, hb2⟩
        have T2 := Lib.hid ((T1.out.keep hb2).alloc (.cells #[.string s0, .int .i64 (n : Int)] 25))
        have U2 := Lib.hid (TBox.new 25 w2 s0 n)
        have B2 := Lib.hid ((keepB B1.out hb2).alloc (keepB B1.out hb2).size (.cells #[.string s0, .int .i64 (n : Int)] 25))
        clear hb2 T1 B1
        go_wp2_with fail
        refine (R2.out _).mono ?_
        rintro e w3 ⟨rfl, hb3⟩
        have T3 := Lib.hid ((T2.out.keep hb3).alloc (.cells #[.string s0, .int .i64 (m : Int)] 25))
        have V3 := Lib.hid (TBox.new 25 w3 s0 m)
        have B3 := Lib.hid ((keepB B2.out hb3).alloc (keepB B2.out hb3).size (.cells #[.string s0, .int .i64 (m : Int)] 25))
        obtain ⟨c0, c1⟩ := T3.out.cells
        clear hb3 T2 U2 B2
        go_wp2_with fail
        refine (R3.out _).mono ?_
        rintro e w4 ⟨rfl, hb4⟩
        have T4 := Lib.hid ((T3.out.keep hb4).alloc (.cells #[.string s0, .int .i64 (m : Int)] 25))
        have V4 := Lib.hid ((V3.out.keep hb4).alloc (.cells #[.string s0, .int .i64 (m : Int)] 25))
        have Y4 := Lib.hid (TBox.new 25 w4 s0 m)
        have B4 := Lib.hid ((keepB B3.out hb4).alloc (keepB B3.out hb4).size (.cells #[.string s0, .int .i64 (m : Int)] 25))
        clear hb4 T3 V3 B3 c0 c1
        go_wp2_with fail
        refine (tape_New (s0 ++ s1) _).mono ?_
        rintro e w5 ⟨rfl, hb5⟩
        have T5 := Lib.hid (T4.out.keep hb5)
        have V5 := Lib.hid (V4.out.keep hb5)
        have Y5 := Lib.hid (Y4.out.keep hb5)
        have B5 := Lib.hid (keepB B4.out hb5)
        clear hb5 T4 V4 Y4 B4
        go_wp2_with fail
        refine (R4.out _).mono ?_
        rintro e w6 ⟨rfl, hb6⟩
        have T6 := Lib.hid ((T5.out.keep hb6).alloc (.cells #[.string (s0 ++ s1), .int .i64 (m : Int)] 25))
        have V6 := Lib.hid ((V5.out.keep hb6).alloc (.cells #[.string (s0 ++ s1), .int .i64 (m : Int)] 25))
        have Y6 := Lib.hid ((Y5.out.keep hb6).alloc (.cells #[.string (s0 ++ s1), .int .i64 (m : Int)] 25))
        have B6 := Lib.hid ((keepB B5.out hb6).alloc (keepB B5.out hb6).size (.cells #[.string (s0 ++ s1), .int .i64 (m : Int)] 25))
        clear hb6 T5 V5 Y5 B5
        go_wp2_with fail
        generalize w6.alloc (.cells #[.string (s0 ++ s1), .int .i64 (m : Int)] 25) = W at *
        have HC : Hid (∀ w', Below W.heap.size W w' → (w'.cell? ⟨w1.heap.size, 0, none⟩ = some (.string s0) ∧ w'.cell? ⟨w1.heap.size, 1, none⟩ = some (.int .i64 0)) ∧ (w'.cell? ⟨w3.heap.size, 0, none⟩ = some (.string s0) ∧ w'.cell? ⟨w3.heap.size, 1, none⟩ = some (.int .i64 (m : Int))) ∧ w'.cell? ⟨w4.heap.size, 0, none⟩ = some (.string s0) ∧ w'.cell? ⟨w4.heap.size, 1, none⟩ = some (.int .i64 (m : Int))) :=
          Lib.hid (fun w' hb => ⟨(T6.out.keep hb).cells, (V6.out.keep hb).cells, (Y6.out.keep hb).cells⟩)
        have HK0 : Hid (Below W.heap.size W W.drew) := Lib.hid ((Below.refl _ _).drew)
        obtain ⟨⟨k1, k2⟩, ⟨k3, k4⟩, k5, k6⟩ := HC.out _ (Below.refl _ _)
        have q1 := HSHL.out
        have q2 := HOR.out
        go_region_held3 (fun w' => (w'.cell? ⟨w1.heap.size, 0, none⟩ = some (.string s0) ∧ w'.cell? ⟨w1.heap.size, 1, none⟩ = some (.int .i64 0)) ∧ (w'.cell? ⟨w3.heap.size, 0, none⟩ = some (.string s0) ∧ w'.cell? ⟨w3.heap.size, 1, none⟩ = some (.int .i64 (m : Int))) ∧ w'.cell? ⟨w4.heap.size, 0, none⟩ = some (.string s0) ∧ w'.cell? ⟨w4.heap.size, 1, none⟩ = some (.int .i64 (m : Int)))
          (first | exact HC.out _ HK4.out | exact HC.out _ HK3.out | exact HC.out _ HK2.out | exact HC.out _ HK1.out | exact HC.out _ HK0.out | exact HC.out _ (Below.refl _ _) | (simp [*]; done))
          (first
            | (go_at_call 10
               refine (law7_Awake _).mono ?_
               rintro e v1 ⟨rfl, hb1⟩
               have HK1 := Lib.hid (keepB HK0.out hb1)
               clear hb1)
            | (go_at_call 17
               with_reducible refine (A0.out _).mono ?_
               rintro e v4 ⟨rfl, hb4⟩
               have HK4 := Lib.hid (keepB HK3.out hb4)
               clear hb4)
            | (go_at_call 17
               refine (A1.out _).mono ?_
               rintro e v3 ⟨rfl, hb3⟩
               have HK3 := Lib.hid (keepB HK2.out hb3)
               clear hb3)
            | (go_at_call 17
               refine (A1.out _).mono ?_
               rintro e v2 ⟨rfl, hb2⟩
               have HK2 := Lib.hid (keepB HK1.out hb2)
               clear hb2))
        go_wp2_with fail
        go_ret
        exact ⟨rfl, keepB B6.out HK4.out⟩
end Go.Proofs.Ytcfjgllkpfkhfaa
