/- The statement CoinBelow walked. -/
import Derived.Test.YtcfjgllkpfkhfaaCoinD
import Derived.OpenShut
namespace Go.Proofs.Ytcfjgllkpfkhfaa
open Go.RowKit

/-- Two answers of one thing are one. -/
theorem triple_inj {α β γ : Type} {x : α × β × γ} {a a' : α} {b b' : β} {c c' : γ} (h : x = (a, b, c)) (h' : x = (a', b', c')) : a' = a ∧ b' = b ∧ c' = c := by
  rw [h] at h'
  injection h' with h1 h2
  injection h2 with h2 h3
  exact ⟨h1.symm, h2.symm, h3.symm⟩

set_option maxHeartbeats 4000000 in
set_option maxRecDepth 100000 in
theorem coinBelow_walk (s0 : ByteArray) (a1 a2 : Int) (hs0 : s0.size ≤ maxLen) (h1 : (Lit.int .u64 a1).wf = true) (h2 : (Lit.int .u64 a2).wf = true) (w : World) :
    Calls Try.prog 6 #[.string s0, .int .u64 a1, .int .u64 a2] w fun e w' => e = .returned (.bool true) ∧ Below w.heap.size w w' := by
  unfold maxLen at hs0
  have b1 := bounds_u64 h1
  have b2 := bounds_u64 h2
  obtain ⟨n, rfl⟩ : ∃ n : Nat, a1 = (n : Int) := ⟨a1.toNat, by omega⟩
  obtain ⟨d, rfl⟩ : ∃ d : Nat, a2 = (d : Int) := ⟨a2.toNat, by omega⟩
  have hn := b1.2
  have hdd := b2.2
  clear h1 h2 b1 b2
  by_cases hbig : 200 < s0.size
  · have hd : decide (200 < (s0.size : Int)) = true := decide_eq_true (by omega)
    go_enter Try.func6, Try.ntmps6
    go_wp2_with fail
    refine (law8_Awake _).mono ?_
    rintro e w1 ⟨rfl, hb1⟩
    have B1 := Lib.hid hb1
    clear hb1
    go_wp2_with fail
    go_ret
    exact ⟨rfl, B1.out⟩

  · have hd : decide (200 < (s0.size : Int)) = false := decide_eq_false (by omega)
    have hs : (s0.size : Int) ≤ 1000000 := by omega
    have P1 : Hid (∀ W : World, Calls Try.prog 20 #[.agg #[.string s0, .int .i64 0], .int .u64 (n : Int)] W (BeRet s0 0 n W)) := Lib.hid (fun W => coin_Below s0 0 n W hs (Nat.zero_le _) hn)
    have P2 : Hid (∀ W : World, Calls Try.prog 21 #[.agg #[.string s0, .int .i64 0], .int .u64 (n : Int)] W (BeRet s0 0 n W)) := Lib.hid (fun W => rcoin_Below s0 0 n W hs (Nat.zero_le _) hn)
    have P3 : Hid (∀ W : World, Calls Try.prog 22 #[.agg #[.string s0, .int .i64 0], .int .u64 (n : Int), .int .u64 (d : Int)] W (ChRet s0 0 n d W)) := Lib.hid (fun W => coin_Chance s0 0 n d W hs (Nat.zero_le _) hn hdd)
    have P4 : Hid (∀ W : World, Calls Try.prog 21 #[.agg #[.string s0, .int .i64 0], .int .u64 (d : Int)] W (BeRet s0 0 d W)) := Lib.hid (fun W => rcoin_Below s0 0 d W hs (Nat.zero_le _) hdd)
    clear hbig hs0
    go_enter Try.func6, Try.ntmps6
    go_wp2_with fail
    refine (tape_New s0 _).mono ?_
    rintro e w1 ⟨rfl, hb1⟩
    have B1 := Lib.hid hb1
    clear hb1
    go_wp2_with fail
    refine (P1.out _).mono ?_
    rintro e w2 ⟨v, z, c, hr1, rfl, hb2⟩
    have HR1 := Lib.hid hr1
    have B2 := Lib.hid (below_al (keepB B1.out hb2) (.cells #[.string s0, .int .i64 (z : Int)] 25))
    have X2 := Lib.hid (TBox.new 25 w2 s0 z)
    clear hb2 hr1 B1
    go_wp2_with fail
    refine (P2.out _).mono ?_
    rintro e w3 ⟨v', z', c', hr2, rfl, hb3⟩
    obtain ⟨e1, e2, e3⟩ := triple_inj HR1.out hr2
    subst e1 e2 e3
    have B3 := Lib.hid (below_al (keepB B2.out hb3) (.cells #[.string s0, .int .i64 (z' : Int)] 28))
    have X3 := Lib.hid ((X2.out.keep hb3).alloc (.cells #[.string s0, .int .i64 (z' : Int)] 28))
    have Y3 := Lib.hid (TBox.new 28 w3 s0 z')
    clear hb3 hr2 B2 X2
    go_wp2_with fail
    refine (tape_New s0 _).mono ?_
    rintro e w4 ⟨rfl, hb4⟩
    have B4 := Lib.hid (keepB B3.out hb4)
    have X4 := Lib.hid (X3.out.keep hb4)
    have Y4 := Lib.hid (Y3.out.keep hb4)
    clear hb4 B3 X3 Y3
    go_wp2_with fail
    refine (P3.out _).mono ?_
    rintro e w5 ⟨v2, z2, c2, B, hr5, hB, rfl, hb5⟩
    have HR5 := Lib.hid hr5
    have HB := Lib.hid hB
    have B5 := Lib.hid (below_al (keepB B4.out hb5) (.cells #[.string s0, .int .i64 (z2 : Int)] 25))
    have X5 := Lib.hid ((X4.out.keep hb5).alloc (.cells #[.string s0, .int .i64 (z2 : Int)] 25))
    have Y5 := Lib.hid ((Y4.out.keep hb5).alloc (.cells #[.string s0, .int .i64 (z2 : Int)] 25))
    have Z5 := Lib.hid (TBox.new 25 w5 s0 z2)
    clear hb5 hr5 hB B4 X4 Y4
    go_wp2_with fail
    refine (P4.out _).mono ?_
    rintro e w6 ⟨v3, z3, c3, hr6, rfl, hb6⟩
    obtain ⟨e1, e2, e3⟩ := triple_inj HR5.out hr6
    subst e1 e2 e3
    have B6 := Lib.hid (below_al (keepB B5.out hb6) (.cells #[.string s0, .int .i64 (z3 : Int)] 28))
    have X6 := Lib.hid ((X5.out.keep hb6).alloc (.cells #[.string s0, .int .i64 (z3 : Int)] 28))
    have Y6 := Lib.hid ((Y5.out.keep hb6).alloc (.cells #[.string s0, .int .i64 (z3 : Int)] 28))
    have Z6 := Lib.hid ((Z5.out.keep hb6).alloc (.cells #[.string s0, .int .i64 (z3 : Int)] 28))
    have V6 := Lib.hid (TBox.new 28 w6 s0 z3)
    clear hb6 hr6 B5 X5 Y5 Z5
    have HZ1 : Hid (z' ≤ 8 * s0.size) := Lib.hid (by have := beT_le s0.data.toList 0 n (Nat.zero_le _); rw [HR1.out, dlen] at this; exact this)
    have HZ3 : Hid (z3 ≤ 8 * s0.size) := Lib.hid (by have := beT_le s0.data.toList 0 d (Nat.zero_le _); rw [HR5.out, dlen] at this; exact this)
    go_wp2_with fail
    refine (law8_Awake _).mono ?_
    rintro e w7 ⟨rfl, hb7⟩
    have B7 := Lib.hid (keepB B6.out hb7)
    have X7 := Lib.hid (X6.out.keep hb7)
    have Y7 := Lib.hid (Y6.out.keep hb7)
    have Z7 := Lib.hid (Z6.out.keep hb7)
    have V7 := Lib.hid (V6.out.keep hb7)
    obtain ⟨k0, k1⟩ := X7.out.cells
    obtain ⟨k2, k3⟩ := Y7.out.cells
    clear hb7 B6 X6 Y6 Z6 V6
    go_wp2_with fail
    refine (law_Same s0 z' _ hs HZ1.out).mono ?_
    rintro e w8 ⟨rfl, hb8⟩
    have B8 := Lib.hid (keepB B7.out hb8)
    have Z8 := Lib.hid (Z7.out.keep hb8)
    have V8 := Lib.hid (V7.out.keep hb8)
    clear hb8 B7 X7 Y7 Z7 V7 k0 k1 k2 k3
    obtain ⟨k0, k1⟩ := Z8.out.cells
    obtain ⟨k2, k3⟩ := V8.out.cells
    have fin : Hid ((B = true ∧ ((c3 : Int) == 0) = true ∧ decide (v3 < n) = true) ∨ (B = false ∧ ((c3 : Int) == 0) = false) ∨ (B = false ∧ ((c3 : Int) == 0) = true ∧ decide (v3 < n) = false)) := Lib.hid (by
      have h := HB.out
      by_cases hc : c3 = 0
      · have hc' : ((c3 : Int) == 0) = true := by rw [hc]; rfl
        by_cases hv : v3 < n
        · exact .inl ⟨h.2 ⟨hc, hv⟩, hc', decide_eq_true hv⟩
        · refine .inr (.inr ⟨?_, hc', decide_eq_false hv⟩)
          rw [Bool.eq_false_iff]
          exact fun e => hv (h.1 e).2
      · refine .inr (.inl ⟨?_, beq_eq_false_iff_ne.2 (by omega)⟩)
        rw [Bool.eq_false_iff]
        exact fun e => hc (h.1 e).1)
    rcases fin.out with ⟨rfl, g1, g2⟩ | ⟨rfl, g1⟩ | ⟨rfl, g1, g2⟩
    all_goals
      clear fin HB
      go_wp2_with fail
      refine (law_Same s0 z3 _ hs HZ3.out).mono ?_
      rintro e w9 ⟨rfl, hb9⟩
      have B9 := Lib.hid (keepB B8.out hb9)
      clear hb9 B8
      go_wp2_with fail
      go_ret
      exact ⟨rfl, B9.out⟩
end Go.Proofs.Ytcfjgllkpfkhfaa
