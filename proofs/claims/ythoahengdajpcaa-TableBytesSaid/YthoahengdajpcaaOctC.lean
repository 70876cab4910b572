/- Contracts of octet's PutText and TakeText, and of the document's. -/
import Derived.Test.YthoahengdajpcaaOctB
namespace Go.Proofs.Ythoahengdajpcaa
open Go.RowKit

/-- What PutText answers, by a limit from 0 to 65535. -/
def ptB (t : List UInt8) (m : Nat) : List UInt8 := if t.length ≤ m then beL t.length 2 ++ t else []
def ptE (t : List UInt8) (m : Nat) : Int := if t.length ≤ m then 0 else 11
/-- What TakeText answers, by a limit from 0 to 65535. -/
def tkE (l : List UInt8) (m : Nat) : Int := if l.length < 2 then 10 else if m < beV (l.take 2) then 11 else if l.length < 2 + beV (l.take 2) then 10 else 0
def tkA (l : List UInt8) (m : Nat) : List UInt8 := if l.length < 2 then [] else if m < beV (l.take 2) then [] else if l.length < 2 + beV (l.take 2) then [] else (l.drop 2).take (beV (l.take 2))
def tkB (l : List UInt8) (m : Nat) : List UInt8 := if l.length < 2 then [] else if m < beV (l.take 2) then [] else if l.length < 2 + beV (l.take 2) then [] else (l.drop 2).drop (beV (l.take 2))

theorem oct_PutText_range (t : List UInt8) (m : Int) (w : World) (h : m < 0 ∨ 65535 < m) :
    Calls Try.prog 34 #[.string (bs t), .int .i64 m] w fun e w' => e = .returned (.tuple #[.string (bs []), .int .i64 5]) ∧ Below w.heap.size w w' := by
  have H := Lib.hid (fun W => oct_wrong_range (t.length : Int) m W h)
  have hsz := bs_size t
  clear h
  go_enter Try.func34, Try.ntmps34
  go_wp2_with (go_at_call 38; refine (H.out _).mono ?_; rintro e w1 ⟨rfl, rfl⟩)
  go_ret2
  exact ⟨rfl, Below.refl _ _⟩

theorem oct_PutText_long (t : List UInt8) (m : Nat) (w : World) (hm : m ≤ 65535) (h : m < t.length) :
    Calls Try.prog 34 #[.string (bs t), .int .i64 (m : Int)] w fun e w' => e = .returned (.tuple #[.string (bs []), .int .i64 11]) ∧ Below w.heap.size w w' := by
  have H := Lib.hid (fun W => oct_wrong_long (t.length : Int) (m : Int) W (by omega) (by omega) (by omega))
  have hsz := bs_size t
  clear h
  go_enter Try.func34, Try.ntmps34
  go_wp2_with (go_at_call 38; refine (H.out _).mono ?_; rintro e w1 ⟨rfl, rfl⟩)
  go_ret2
  exact ⟨rfl, Below.refl _ _⟩

theorem oct_PutText_ok (t : List UInt8) (m : Nat) (w : World) (hm : m ≤ 65535) (h : t.length ≤ m) :
    Calls Try.prog 34 #[.string (bs t), .int .i64 (m : Int)] w fun e w' => e = .returned (.tuple #[.string (bs (beL t.length 2 ++ t)), .int .i64 0]) ∧ Below w.heap.size w w' := by
  have H := Lib.hid (fun W => oct_wrong_ok (t.length : Int) (m : Int) W (by omega) (by omega) (by omega))
  obtain ⟨k, hk⟩ : ∃ k, k = t.length := ⟨_, rfl⟩
  rw [← hk] at H
  have HP := Lib.hid (fun W => oct_Put_ok k 2 W (by omega) (by omega) (by omega) (by have : (256 : Nat) ^ 2 = 65536 := by decide
                                                                                     omega))
  obtain ⟨L, hL⟩ : ∃ L, L = beL k 2 := ⟨_, rfl⟩
  rw [← hL] at HP
  have HR : Hid (bs L ++ bs t = bs (beL t.length 2 ++ t)) := Lib.hid (by rw [bs_append, hL, hk])
  have hLs : (bs L).size = 2 := by rw [bs_size, hL, beL_len]
  have hsz : (bs t).size = k := by rw [bs_size, hk]
  have hw : IntKind.u64.wrap (k : Int) = (k : Int) := IntWalk.u64_in _ (by omega)
  have hkm : k ≤ 65535 := by omega
  clear hL hk h
  go_enter Try.func34, Try.ntmps34
  go_wp2_with (first
    | (go_at_call 38; refine (H.out _).mono ?_; rintro e w1 ⟨rfl, rfl⟩)
    | (go_at_call 25; refine (HP.out _).mono ?_; rintro e w1 ⟨rfl, hb1⟩))
  go_ret2
  exact ⟨by rw [HR.out]; rfl, hb1⟩

theorem oct_PutText (t : List UInt8) (m : Nat) (w : World) (hm : m ≤ 65535) :
    Calls Try.prog 34 #[.string (bs t), .int .i64 (m : Int)] w fun e w' => e = .returned (.tuple #[.string (bs (ptB t m)), .int .i64 (ptE t m)]) ∧ Below w.heap.size w w' := by
  unfold ptB ptE
  split
  · exact oct_PutText_ok t m w hm (by assumption)
  · exact oct_PutText_long t m w hm (by omega)

end Go.Proofs.Ythoahengdajpcaa
