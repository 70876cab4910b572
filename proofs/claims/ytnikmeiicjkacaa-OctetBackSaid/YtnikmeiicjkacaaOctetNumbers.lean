/- The walk of OctetNumbers: the bytes of any number, and the number of any bytes, are the document's. -/
import Derived.Test.YtnikmeiicjkacaaOctD
namespace Go.Proofs.Ytnikmeiicjkacaa
open Go.RowKit

/-- What Take answers for n bytes from 1 to 8. -/
def tnV (l : List UInt8) (n : Nat) : Nat := if l.length < n then 0 else beV (l.take n)
def tnR (l : List UInt8) (n : Nat) : List UInt8 := if l.length < n then [] else l.drop n
def tnE (l : List UInt8) (n : Nat) : Int := if l.length < n then 10 else 0

theorem oct_Put (v n : Nat) (w : World) (hn1 : 1 ≤ n) (hn : n ≤ 8) (hv : v < 18446744073709551616) :
    Calls Try.prog 7 #[.int .u64 (v : Int), .int .i64 (n : Int)] w fun e w' => e = .returned (.tuple #[.string (bs (putB v n)), .int .i64 (putE v n)]) ∧ Below w.heap.size w w' := by
  unfold putB putE
  split
  · exact oct_Put_ok v n w hn1 hn hv (by assumption)
  · exact oct_Put_more v n w hn1 hn hv (by omega)
theorem oct_Take (l : List UInt8) (n : Nat) (w : World) (hn1 : 1 ≤ n) (hn : n ≤ 8) (hl : l.length ≤ 281474976710656) :
    Calls Try.prog 9 #[.string (bs l), .int .i64 (n : Int)] w fun e w' => e = .returned (.tuple #[.int .u64 ((tnV l n : Nat) : Int), .string (bs (tnR l n)), .int .i64 (tnE l n)]) ∧ Below w.heap.size w w' := by
  unfold tnV tnR tnE
  split
  · exact oct_Take_short l n w hn1 hn (by assumption)
  · exact oct_Take_ok l n w hn1 hn (by omega) hl
theorem octr_Take (l : List UInt8) (n : Nat) (w : World) (hn1 : 1 ≤ n) (hn : n ≤ 8) (hl : l.length ≤ 281474976710656) :
    Calls Try.prog 10 #[.string (bs l), .int .i64 (n : Int)] w fun e w' => e = .returned (.tuple #[.int .u64 ((tnV l n : Nat) : Int), .string (bs (tnR l n)), .int .i64 (tnE l n)]) ∧ Below w.heap.size w w' := by
  unfold tnV tnR tnE
  split
  · exact octr_Take_short l n w hn1 hn (by assumption)
  · exact octr_Take_ok l n w hn1 hn (by omega) hl

set_option maxHeartbeats 4000000 in
set_option maxRecDepth 100000 in
theorem octetNumbers_core (v n : Int) (l A R : List UInt8) (E F : Int) (V : Nat) (w : World) (hl : l.length ≤ 200)
    (H1 : Hid (∀ W, Calls Try.prog 7 #[.int .u64 v, .int .i64 n] W fun e w' => e = .returned (.tuple #[.string (bs A), .int .i64 E]) ∧ Below W.heap.size W w'))
    (H2 : Hid (∀ W, Calls Try.prog 8 #[.int .u64 v, .int .i64 n] W fun e w' => e = .returned (.tuple #[.string (bs A), .int .i64 E]) ∧ Below W.heap.size W w'))
    (H3 : Hid (∀ W, Calls Try.prog 9 #[.string (bs l), .int .i64 n] W fun e w' => e = .returned (.tuple #[.int .u64 (V : Int), .string (bs R), .int .i64 F]) ∧ Below W.heap.size W w'))
    (H4 : Hid (∀ W, Calls Try.prog 10 #[.string (bs l), .int .i64 n] W fun e w' => e = .returned (.tuple #[.int .u64 (V : Int), .string (bs R), .int .i64 F]) ∧ Below W.heap.size W w')) :
    Calls Try.prog 3 #[.int .u64 v, .string (bs l), .int .i64 n] w fun e w' => e = .returned (.bool true) ∧ Below w.heap.size w w' := by
  have HA := Lib.hid (fun W => oct_Awake W)
  have hsz := bs_size l
  have hd : decide ((200 : Int) < (l.length : Int)) = false := decide_eq_false (by omega)
  have hA : ((bs A).toList == (bs A).toList) = true := by simp
  have hR : ((bs R).toList == (bs R).toList) = true := by simp
  go_enter Try.func3, Try.ntmps3
  go_wp2_with fail
  refine (H1.out _).mono ?_
  rintro e w1 ⟨rfl, hb1⟩
  have B1 := Lib.hid hb1
  clear hb1
  go_wp2_with fail
  refine (H2.out _).mono ?_
  rintro e w2 ⟨rfl, hb2⟩
  have B2 := Lib.hid (B1.out.trans (hb2.mono B1.out.size))
  clear hb2
  go_wp2_with fail
  refine (H3.out _).mono ?_
  rintro e w3 ⟨rfl, hb3⟩
  have B3 := Lib.hid (B2.out.trans (hb3.mono B2.out.size))
  clear hb3
  go_wp2_with fail
  refine (H4.out _).mono ?_
  rintro e w4 ⟨rfl, hb4⟩
  have B4 := Lib.hid (B3.out.trans (hb4.mono B3.out.size))
  clear hb4
  go_wp2_with fail
  refine (HA.out _).mono ?_
  rintro e w5 ⟨rfl, hb5⟩
  have B5 := Lib.hid (B4.out.trans (hb5.mono B4.out.size))
  clear hb5
  go_wp2_with fail
  go_ret
  exact ⟨rfl, B5.out⟩

theorem octetNumbers_idle (v n : Int) (l : List UInt8) (w : World) (hl : 200 < l.length) :
    Calls Try.prog 3 #[.int .u64 v, .string (bs l), .int .i64 n] w fun e w' => e = .returned (.bool true) ∧ Below w.heap.size w w' := by
  have HA := Lib.hid (fun W => oct_Awake W)
  have hsz := bs_size l
  have hd : decide ((200 : Int) < (l.length : Int)) = true := decide_eq_true (by omega)
  go_enter Try.func3, Try.ntmps3
  go_wp2_with fail
  refine (HA.out _).mono ?_
  rintro e w1 ⟨rfl, hb1⟩
  go_wp2_with fail
  go_ret
  exact ⟨rfl, hb1⟩

theorem octetNumbers_walk (a0 : Int) (a1 : ByteArray) (a2 : Int) (w0 : (Lit.int .u64 a0).wf = true) (_w1 : a1.size ≤ maxLen) (_w2 : (Lit.int .i64 a2).wf = true) (w : World) :
    Calls Try.prog 3 #[.int .u64 a0, .string a1, .int .i64 a2] w fun e w' => e = .returned (.bool true) ∧ Below w.heap.size w w' := by
  have b0 := bounds_u64 w0
  obtain ⟨v, rfl⟩ : ∃ n : Nat, a0 = (n : Int) := ⟨a0.toNat, by omega⟩
  have hv : v < 18446744073709551616 := by have := b0.2; omega
  obtain ⟨l, hl⟩ : ∃ l, l = a1.data.toList := ⟨_, rfl⟩
  have hs2 : a1 = bs l := by rw [hl, bs_of]
  rw [hs2]
  by_cases h : 200 < l.length
  · exact octetNumbers_idle _ _ l w h
  · by_cases hn : a2 < 1 ∨ 8 < a2
    · exact octetNumbers_core (v : Int) a2 l [] [] 5 5 0 w (by omega) (Lib.hid fun W => oct_Put_no _ _ W hn) (Lib.hid fun W => octr_Put_no _ _ W hn) (Lib.hid fun W => oct_Take_no l _ W hn) (Lib.hid fun W => octr_Take_no l _ W hn)
    · obtain ⟨n, rfl⟩ : ∃ n : Nat, a2 = (n : Int) := ⟨a2.toNat, by omega⟩
      have h1 : 1 ≤ n := by omega
      have h8 : n ≤ 8 := by omega
      exact octetNumbers_core (v : Int) (n : Int) l (putB v n) (tnR l n) (putE v n) (tnE l n) (tnV l n) w (by omega) (Lib.hid fun W => oct_Put v n W h1 h8 hv) (Lib.hid fun W => octr_Put v n W h1 h8 hv)
        (Lib.hid fun W => oct_Take l n W h1 h8 (by omega)) (Lib.hid fun W => octr_Take l n W h1 h8 (by omega))

end Go.Proofs.Ytnikmeiicjkacaa
