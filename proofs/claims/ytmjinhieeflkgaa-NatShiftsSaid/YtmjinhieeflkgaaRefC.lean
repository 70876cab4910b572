/- The contract of the document's String. -/
import Derived.Test.YtmjinhieeflkgaaRefB
import Derived.Test.YtmjinhieeflkgaaStr
namespace Go.Proofs.Ytmjinhieeflkgaa
open Go.RowKit

def strLen : Value → Nat
  | .string s => s.size
  | _ => 0

theorem decB_size (ds : List Nat) : (decB ds).size = ds.length := by simp [decB, ByteArray.size]

theorem decB_snoc (ds : List Nat) (d : Nat) : strOfNums [((48 + d : Nat) : Int)] ++ decB ds = decB (ds ++ [d]) := by
  have h : (strOfNums [((48 + d : Nat) : Int)] ++ decB ds).data.toList = (decB (ds ++ [d])).data.toList := by
    have h1 : (strOfNums [((48 + d : Nat) : Int)] ++ decB ds).data = (strOfNums [((48 + d : Nat) : Int)]).data ++ (decB ds).data := ByteArray.data_append
    rw [h1, Array.toList_append, strOfNums_data]
    simp only [decB, List.reverse_append, List.reverse_cons, List.reverse_nil, List.nil_append, List.map_append, List.map_cons, List.map_nil, List.toList_toArray, Int.toNat_natCast]
  have h2 := Array.toList_inj.1 h
  cases hs : strOfNums [((48 + d : Nat) : Int)] ++ decB ds with
  | mk a =>
    cases hd : decB (ds ++ [d]) with
    | mk b =>
      rw [hs, hd] at h2
      exact congrArg _ h2

/-- One digit of a long division by a small number. -/
theorem over_stepG {b d left x : Nat} {zs ys : List Nat} (hd : 0 < d) (hv : val b zs = d * val b ys + left) (hx : x < b) (hl : left < d) :
    val b (x :: zs) = d * val b ((left * b + x) / d :: ys) + (left * b + x) % d ∧ (left * b + x) / d < b ∧ (left * b + x) % d < d := by
  refine ⟨?_, ?_, Nat.mod_lt _ hd⟩
  · have h := Nat.div_add_mod (left * b + x) d
    generalize (left * b + x) / d = q at *
    generalize (left * b + x) % d = r at *
    simp only [val]
    rw [hv, Nat.mul_add b, Nat.mul_add d, ← Nat.mul_assoc b d, Nat.mul_comm b d, Nat.mul_assoc d b, Nat.mul_comm b left]
    omega
  · rw [Nat.div_lt_iff_lt_mul hd, Nat.mul_comm b d]
    have : (left + 1) * b ≤ d * b := Nat.mul_le_mul_right _ hl
    rw [Nat.add_mul, Nat.one_mul] at this
    omega

theorem dec_ge {L v V x : Nat} (h : V + 10 ^ L * v = x) (hv : 0 < v) : 10 ^ L ≤ x := by
  have h3 : 10 ^ L * 1 ≤ 10 ^ L * v := Nat.mul_le_mul_left _ hv
  omega

theorem dec_one {L V r xv yv x : Nat} (hx : V + 10 ^ L * xv = x) (hxv : xv = 10 * yv + r) : V + 10 ^ L * r + 10 ^ (L + 1) * yv = x := by
  rw [← hx, hxv, Nat.pow_succ, Nat.mul_add, Nat.mul_assoc]
  omega

end Go.Proofs.Ytmjinhieeflkgaa
