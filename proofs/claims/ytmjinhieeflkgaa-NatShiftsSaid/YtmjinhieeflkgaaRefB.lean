/- Contracts of the document's Words and String. -/
import Derived.Test.YtmjinhieeflkgaaRefA
import Derived.Test.YtmjinhieeflkgaaNatA
import Derived.Test.YtmjinhieeflkgaaOver
import Derived.Laws.BytesArg
namespace Go.Proofs.Ytmjinhieeflkgaa
open Go.RowKit

theorem trimmed_of_val {b k : Nat} {ws : List Nat} (hd : Dig b ws) (hl : ws.length = k + 1) (hv : b ^ k ≤ val b ws) : trimL ws = ws := by
  have hsp : ws.take k ++ [ws[k]'(by omega)] = ws := by
    have := List.take_append_getElem (l := ws) (i := k) (by omega)
    rw [this, List.take_of_length_le (by omega)]
  by_cases h0 : ws[k]'(by omega) = 0
  · exfalso
    have h1 := val_lt (hd.take k)
    rw [List.length_take, Nat.min_eq_left (by omega)] at h1
    have h2 := val_snoc b (ws.take k) (ws[k]'(by omega))
    rw [hsp, h0, Nat.mul_zero, Nat.add_zero] at h2
    omega
  · have := trimL_snoc_pos (ws.take k) _ h0
    rw [hsp] at this
    exact this

/-- r digits from place s on. -/
def cv (b : Nat) (xs : List Nat) : Nat → Nat → Nat
  | _, 0 => 0
  | s, r + 1 => xs.getD s 0 + b * cv b xs (s + 1) r

theorem cv_lt {b : Nat} {xs : List Nat} (hb : 0 < b) (hd : Dig b xs) (s r : Nat) : cv b xs s r < b ^ r := by
  induction r generalizing s with
  | zero => simp [cv]
  | succ r ih =>
    have h1 := hd.getD hb s
    have h2 := ih (s + 1)
    have h3 : b * (cv b xs (s + 1) r + 1) ≤ b * b ^ r := Nat.mul_le_mul_left b h2
    simp only [cv, Nat.pow_succ]
    rw [Nat.mul_comm (b ^ r) b]
    rw [Nat.mul_add] at h3
    omega

theorem val_take_any (b : Nat) (xs : List Nat) (k : Nat) : val b (xs.take (k + 1)) = val b (xs.take k) + b ^ k * xs.getD k 0 := by
  by_cases h : k < xs.length
  · exact val_take_succ b xs k h
  · rw [List.take_of_length_le (by omega), List.take_of_length_le (by omega), List.getD_eq_getElem?_getD, List.getElem?_eq_none (by omega)]
    simp

theorem cv_take (b : Nat) (xs : List Nat) (s r : Nat) : val b (xs.take s) + b ^ s * cv b xs s r = val b (xs.take (s + r)) := by
  induction r generalizing s with
  | zero => simp [cv]
  | succ r ih =>
    have h := ih (s + 1)
    rw [val_take_any, Nat.pow_succ] at h
    rw [cv, Nat.mul_add, ← Nat.mul_assoc, ← Nat.add_assoc, h]
    congr 2
    omega

end Go.Proofs.Ytmjinhieeflkgaa
