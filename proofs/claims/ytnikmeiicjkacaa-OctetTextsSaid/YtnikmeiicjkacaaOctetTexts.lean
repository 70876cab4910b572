/- The walk of OctetTexts: the bytes of any short text, and the short text of any bytes, are the document's. -/
import Derived.Test.YtnikmeiicjkacaaOctD
namespace Go.Proofs.Ytnikmeiicjkacaa
open Go.RowKit

set_option maxHeartbeats 4000000 in
set_option maxRecDepth 100000 in
theorem octetTexts_core (m : Int) (l A X R : List UInt8) (E F G : Int) (b : Bool) (w : World) (hl : l.length ≤ 2000)
    (H1 : Hid (∀ W, Calls Try.prog 11 #[.string (bs l), .int .i64 m] W fun e w' => e = .returned (.tuple #[.string (bs A), .int .i64 E]) ∧ Below W.heap.size W w'))
    (H2 : Hid (∀ W, Calls Try.prog 12 #[.string (bs l), .int .i64 m] W fun e w' => e = .returned (.tuple #[.string (bs A), .int .i64 E]) ∧ Below W.heap.size W w'))
    (H3 : Hid (∀ W, Calls Try.prog 13 #[.string (bs l), .int .i64 m] W fun e w' => e = .returned (.tuple #[.string (bs X), .string (bs R), .int .i64 F]) ∧ Below W.heap.size W w'))
    (H4 : Hid (∀ W, Calls Try.prog 14 #[.string (bs l), .int .i64 m] W fun e w' => e = .returned (.tuple #[.string (bs X), .string (bs R), .int .i64 F]) ∧ Below W.heap.size W w'))
    (H5 : Hid (∀ W, Calls Try.prog 15 #[.string (bs l)] W fun e w' => e = .returned (.int .i64 G) ∧ W = w'))
    (hb : (bs l).toList.isEmpty = b) (hG : G = if b then 0 else 11) :
    Calls Try.prog 4 #[.string (bs l), .int .i64 m] w fun e w' => e = .returned (.bool true) ∧ Below w.heap.size w w' := by
  have HA := Lib.hid (fun W => oct_Awake W)
  have hsz := bs_size l
  have hd : decide ((2000 : Int) < (l.length : Int)) = false := decide_eq_false (by omega)
  have hA : ((bs A).toList == (bs A).toList) = true := by simp
  have hX : ((bs X).toList == (bs X).toList) = true := by simp
  have hR : ((bs R).toList == (bs R).toList) = true := by simp
  have HB := Lib.hid hb
  have HG := Lib.hid hG
  clear hb hG
  go_enter Try.func4, Try.ntmps4
  go_wp2_with fail
  refine (H1.out _).mono ?_
  rintro e w1 ⟨rfl, hb1⟩
  have B1 := Lib.hid hb1
  clear hb1
  go_wp2_with fail
  refine (H2.out _).mono ?_
  rintro e w2 ⟨rfl, hb2⟩
  have B2 := Lib.hid (B1.out.trans (hb2.mono B1.out.size))
  clear hb2
  go_wp2_with fail
  refine (H3.out _).mono ?_
  rintro e w3 ⟨rfl, hb3⟩
  have B3 := Lib.hid (B2.out.trans (hb3.mono B2.out.size))
  clear hb3
  go_wp2_with fail
  refine (H4.out _).mono ?_
  rintro e w4 ⟨rfl, hb4⟩
  have B4 := Lib.hid (B3.out.trans (hb4.mono B3.out.size))
  clear hb4
  go_wp2_with fail
  refine (HA.out _).mono ?_
  rintro e w5 ⟨rfl, hb5⟩
  have B5 := Lib.hid (B4.out.trans (hb5.mono B4.out.size))
  clear hb5
  cases b
  · have hG := HG.out
    simp only [Bool.false_eq_true, if_false] at hG
    subst hG
    have he := HB.out
    go_wp2_with (go_at_call 15; refine (H5.out _).mono ?_; rintro e w6 ⟨rfl, rfl⟩)
    go_ret
    exact ⟨rfl, B5.out⟩
  · have hG := HG.out
    simp only [if_true] at hG
    subst hG
    have he := HB.out
    go_wp2_with (go_at_call 15; refine (H5.out _).mono ?_; rintro e w6 ⟨rfl, rfl⟩)
    go_ret
    exact ⟨rfl, B5.out⟩

theorem octetTexts_idle (m : Int) (l : List UInt8) (w : World) (hl : 2000 < l.length) :
    Calls Try.prog 4 #[.string (bs l), .int .i64 m] w fun e w' => e = .returned (.bool true) ∧ Below w.heap.size w w' := by
  have HA := Lib.hid (fun W => oct_Awake W)
  have hsz := bs_size l
  have hd : decide ((2000 : Int) < (l.length : Int)) = true := decide_eq_true (by omega)
  go_enter Try.func4, Try.ntmps4
  go_wp2_with fail
  refine (HA.out _).mono ?_
  rintro e w1 ⟨rfl, hb1⟩
  go_wp2_with fail
  go_ret
  exact ⟨rfl, hb1⟩

theorem octetTexts_walk (a0 : ByteArray) (a1 : Int) (_w0 : a0.size ≤ maxLen) (_w1 : (Lit.int .i64 a1).wf = true) (w : World) :
    Calls Try.prog 4 #[.string a0, .int .i64 a1] w fun e w' => e = .returned (.bool true) ∧ Below w.heap.size w w' := by
  obtain ⟨l, hl⟩ : ∃ l, l = a0.data.toList := ⟨_, rfl⟩
  have hs2 : a0 = bs l := by rw [hl, bs_of]
  rw [hs2]
  by_cases h : 2000 < l.length
  · exact octetTexts_idle _ l w h
  · have hE : ∃ (G : Int) (b : Bool), (∀ W, Calls Try.prog 15 #[.string (bs l)] W fun e w' => e = .returned (.int .i64 G) ∧ W = w') ∧ (bs l).toList.isEmpty = b ∧ G = if b then 0 else 11 := by
      by_cases h0 : l = []
      · subst h0
        exact ⟨0, true, fun W => oct_End_none W, by rw [bs, ByteArray.toList_mk]; rfl, rfl⟩
      · exact ⟨11, false, fun W => oct_End_some l W h0, by rw [bs, ByteArray.toList_mk]; cases l with | nil => exact absurd rfl h0 | cons a t => rfl, rfl⟩
    obtain ⟨G, b, H5, hb, hG⟩ := hE
    by_cases hm : a1 < 0 ∨ 65535 < a1
    · exact octetTexts_core a1 l [] [] [] 5 5 G b w (by omega) (Lib.hid fun W => oct_PutText_range l a1 W hm) (Lib.hid fun W => octr_PutText_range l a1 W hm) (Lib.hid fun W => oct_TakeText_range l a1 W hm (by omega)) (Lib.hid fun W => octr_TakeText_range l a1 W hm)
        (Lib.hid H5) hb hG
    · obtain ⟨m, rfl⟩ : ∃ m : Nat, a1 = (m : Int) := ⟨a1.toNat, by omega⟩
      have hm2 : m ≤ 65535 := by omega
      exact octetTexts_core (m : Int) l (ptB l m) (tkA l m) (tkB l m) (ptE l m) (tkE l m) G b w (by omega) (Lib.hid fun W => oct_PutText l m W hm2) (Lib.hid fun W => octr_PutText l m W hm2) (Lib.hid fun W => oct_TakeText l m W hm2 (by omega)) (Lib.hid fun W => octr_TakeText l m W hm2 (by omega))
        (Lib.hid H5) hb hG

end Go.Proofs.Ytnikmeiicjkacaa
