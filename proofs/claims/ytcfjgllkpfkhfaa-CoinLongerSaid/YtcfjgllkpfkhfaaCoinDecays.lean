/- The statement CoinDecays walked. -/
import Derived.Test.YtcfjgllkpfkhfaaCoinBelow
namespace Go.Proofs.Ytcfjgllkpfkhfaa
open Go.RowKit

theorem deT_le {l : List UInt8} {a u d z c : Nat} {B : Bool} (ha : a ≤ 8 * l.length) (h : deT l a u d = (B, z, c)) : z ≤ 8 * l.length := by
  rcases deT_cases l a u d with ⟨_, e⟩ | ⟨_, _, e⟩ | ⟨_, _, _, e⟩ | ⟨b, a', _, _, hd, e⟩
  · obtain ⟨_, e2, _⟩ := triple_inj h e; omega
  · obtain ⟨_, e2, _⟩ := triple_inj h e; omega
  · obtain ⟨_, e2, _⟩ := triple_inj h e; omega
  · obtain ⟨_, e2, _⟩ := triple_inj h e
    have := decL_le ha hd
    omega

set_option maxHeartbeats 4000000 in
set_option maxRecDepth 100000 in
theorem coinDecays_walk (s0 : ByteArray) (a1 a2 : Int) (hs0 : s0.size ≤ maxLen) (h1 : (Lit.int .u64 a1).wf = true) (h2 : (Lit.int .u64 a2).wf = true) (w : World) :
    Calls Try.prog 7 #[.string s0, .int .u64 a1, .int .u64 a2] w fun e w' => e = .returned (.bool true) ∧ Below w.heap.size w w' := by
  unfold maxLen at hs0
  have b1 := bounds_u64 h1
  have b2 := bounds_u64 h2
  obtain ⟨n, rfl⟩ : ∃ n : Nat, a1 = (n : Int) := ⟨a1.toNat, by omega⟩
  obtain ⟨d, rfl⟩ : ∃ d : Nat, a2 = (d : Int) := ⟨a2.toNat, by omega⟩
  have hn := b1.2
  have hdd := b2.2
  clear h1 h2 b1 b2
  by_cases hbig : 200 < s0.size
  · have hd : decide (200 < (s0.size : Int)) = true := decide_eq_true (by omega)
    go_enter Try.func7, Try.ntmps7
    go_wp2_with fail
    refine (law8_Awake _).mono ?_
    rintro e w1 ⟨rfl, hb1⟩
    have B1 := Lib.hid hb1
    clear hb1
    go_wp2_with fail
    go_ret
    exact ⟨rfl, B1.out⟩

  · have hd : decide (200 < (s0.size : Int)) = false := decide_eq_false (by omega)
    have hs : (s0.size : Int) ≤ 1000000 := by omega
    have P1 : Hid (∀ W : World, Calls Try.prog 23 #[.agg #[.string s0, .int .i64 0], .int .u64 (n : Int), .int .u64 (d : Int)] W (DeRet s0 0 n d W)) := Lib.hid (fun W => coin_Decay s0 0 n d W hs (Nat.zero_le _) hn hdd)
    have P2 : Hid (∀ W : World, Calls Try.prog 24 #[.agg #[.string s0, .int .i64 0], .int .u64 (n : Int), .int .u64 (d : Int)] W (DeRet s0 0 n d W)) := Lib.hid (fun W => rcoin_Decay s0 0 n d W hs (Nat.zero_le _) hn hdd)
    clear hbig hs0
    go_enter Try.func7, Try.ntmps7
    go_wp2_with fail
    refine (tape_New s0 _).mono ?_
    rintro e w1 ⟨rfl, hb1⟩
    have B1 := Lib.hid hb1
    clear hb1
    go_wp2_with fail
    refine (P1.out _).mono ?_
    rintro e w2 ⟨B, z, c, hr1, rfl, hb2⟩
    have HR1 := Lib.hid hr1
    have B2 := Lib.hid (below_al (keepB B1.out hb2) (.cells #[.string s0, .int .i64 (z : Int)] 25))
    have X2 := Lib.hid (TBox.new 25 w2 s0 z)
    clear hb2 hr1 B1
    go_wp2_with fail
    refine (P2.out _).mono ?_
    rintro e w3 ⟨B', z', c', hr2, rfl, hb3⟩
    obtain ⟨e1, e2, e3⟩ := triple_inj HR1.out hr2
    subst e1 e2 e3
    have B3 := Lib.hid (below_al (keepB B2.out hb3) (.cells #[.string s0, .int .i64 (z' : Int)] 28))
    have X3 := Lib.hid ((X2.out.keep hb3).alloc (.cells #[.string s0, .int .i64 (z' : Int)] 28))
    have Y3 := Lib.hid (TBox.new 28 w3 s0 z')
    clear hb3 hr2 B2 X2
    have HZ1 : Hid (z' ≤ 8 * s0.size) := Lib.hid (by have := deT_le (Nat.zero_le _) HR1.out; rw [dlen] at this; exact this)
    go_wp2_with fail
    refine (law8_Awake _).mono ?_
    rintro e w4 ⟨rfl, hb4⟩
    have B4 := Lib.hid (keepB B3.out hb4)
    have X4 := Lib.hid (X3.out.keep hb4)
    have Y4 := Lib.hid (Y3.out.keep hb4)
    obtain ⟨k0, k1⟩ := X4.out.cells
    obtain ⟨k2, k3⟩ := Y4.out.cells
    clear hb4 B3 X3 Y3
    go_wp2_with fail
    refine (law_Same s0 z' _ hs HZ1.out).mono ?_
    rintro e w5 ⟨rfl, hb5⟩
    have B5 := Lib.hid (keepB B4.out hb5)
    clear hb5 B4
    go_wp2_with fail
    go_ret
    exact ⟨rfl, B5.out⟩
end Go.Proofs.Ytcfjgllkpfkhfaa
