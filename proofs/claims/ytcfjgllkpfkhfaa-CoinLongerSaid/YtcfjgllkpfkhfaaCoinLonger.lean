/- The statement CoinLonger walked. -/
import Derived.Test.YtcfjgllkpfkhfaaLongC
namespace Go.Proofs.Ytcfjgllkpfkhfaa
open Go.RowKit

set_option maxHeartbeats 4000000 in
set_option maxRecDepth 100000 in
theorem coinLonger_walk (s0 s1 : ByteArray) (a2 a3 : Int) (hs0 : s0.size ≤ maxLen) (hs1 : s1.size ≤ maxLen) (h2 : (Lit.int .u64 a2).wf = true) (h3 : (Lit.int .u64 a3).wf = true) (w : World) :
    Calls Try.prog 8 #[.string s0, .string s1, .int .u64 a2, .int .u64 a3] w fun e w' => e = .returned (.bool true) ∧ Below w.heap.size w w' := by
  unfold maxLen at hs0 hs1
  have b2 := bounds_u64 h2
  have b3 := bounds_u64 h3
  obtain ⟨u, rfl⟩ : ∃ u : Nat, a2 = (u : Int) := ⟨a2.toNat, by omega⟩
  obtain ⟨d, rfl⟩ : ∃ d : Nat, a3 = (d : Int) := ⟨a3.toNat, by omega⟩
  have hu := b2.2
  have hdd := b3.2
  clear h2 h3 b2 b3
  by_cases hbig : 200 < s0.size
  · have hd : decide (200 < (s0.size : Int)) = true := decide_eq_true (by omega)
    go_enter Try.func8, Try.ntmps8
    go_wp2_with fail
    refine (law8_Awake _).mono ?_
    rintro e w1 ⟨rfl, hb1⟩
    have B1 := Lib.hid hb1
    clear hb1
    go_wp2_with fail
    go_ret
    exact ⟨rfl, B1.out⟩

  · by_cases hbig1 : 200 < s1.size
    · have hd : decide (200 < (s0.size : Int)) = false := decide_eq_false (by omega)
      have hd1 : decide (200 < (s1.size : Int)) = true := decide_eq_true (by omega)
      go_enter Try.func8, Try.ntmps8
      go_wp2_with fail
      refine (law8_Awake _).mono ?_
      rintro e w1 ⟨rfl, hb1⟩
      have B1 := Lib.hid hb1
      clear hb1
      go_wp2_with fail
      go_ret
      exact ⟨rfl, B1.out⟩

    · rcases beT_codes s0.data.toList d with hc | hc | hc
      · exact longer_0 s0 s1 u d (by omega) (by omega) hu hdd w hc
      · exact longer_3 s0 s1 u d (by omega) (by omega) hu hdd w hc
      · exact longer_6 s0 s1 u d (by omega) (by omega) hu hdd w hc
end Go.Proofs.Ytcfjgllkpfkhfaa
