/- The contract of the document's Open, as one function of the bytes. -/
import Derived.Test.YtbekebpkaeefiaaDoorRefOpenB
namespace Go.Proofs.YtbekebpkaeefiaaDoor
open Go.RowKit

theorem openL_flat {l : List UInt8} (hl : l.length = 128) : openL (l.take 124) =
    if 110 < (l[13]).toNat ∨ zeroL ((l.drop (14 + (l[13]).toNat)).take (110 - (l[13]).toNat)) = false then ((0, 0, 0, []), 4)
    else (((l[0]).toNat, beV ((l.drop 1).take 8), beV ((l.drop 9).take 4), ((l.drop 14).take (l[13]).toNat)), 0) := by
  have e3 : (((l.take 124).drop 1).drop 8).drop 4 = (l.drop 13).take 111 := by simp [List.drop_take, List.drop_drop]
  have e4 : ((((l.take 124).drop 1).drop 8).drop 4).drop 1 = (l.drop 14).take 110 := by simp [List.drop_take, List.drop_drop]
  have e5 : beV (((((l.take 124).drop 1).drop 8).drop 4).take 1) = (l[13]).toNat := by
    rw [e3, List.take_take, Nat.min_eq_left (by omega), List.drop_eq_getElem_cons (by omega), List.take_succ_cons, List.take_zero]
    show 0 * 256 + (l[13]).toNat = _
    omega
  have e0 : beV ((l.take 124).take 1) = (l[0]).toNat := by
    rw [List.take_take, Nat.min_eq_left (by omega)]
    exact beV_take_one (by omega)
  have e1 : ((l.take 124).drop 1).take 8 = (l.drop 1).take 8 := by simp [List.drop_take, List.take_take]
  have e2 : (((l.take 124).drop 1).drop 8).take 4 = (l.drop 9).take 4 := by simp [List.drop_take, List.drop_drop, List.take_take]
  unfold openL
  rw [e5, e4, e0, e1, e2]
  generalize (l[13]).toNat = n
  have e6 : ((l.drop 14).take 110).drop n = (l.drop (14 + n)).take (110 - n) := by simp [List.drop_take, List.drop_drop]
  rw [e6]
  by_cases h : 110 < n ∨ zeroL ((l.drop (14 + n)).take (110 - n)) = false
  · rw [if_pos h, if_pos h]
  · rw [if_neg h, if_neg h, List.take_take, Nat.min_eq_left (by
      rcases Nat.lt_or_ge 110 n with hx | hx
      · exact absurd (.inl hx) h
      · exact hx)]

theorem ref_Open (l : List UInt8) (w : World) (hl2 : l.length ≤ 9223372036854775807) :
    Calls Tryd.prog 57 #[.string (bs l)] w fun e w' => e = .returned (.tuple #[recV (openT l).1, .int .i64 (((openT l).2 : Nat) : Int)]) ∧ Below w.heap.size w w' := by
  unfold openT
  by_cases hl : l.length = 128
  · rw [if_neg (fun h => h hl)]
    by_cases hz : zeroL l = true
    · rw [if_pos hz]
      exact ref_Open_none l w hl hz
    · rw [if_neg hz]
      have hz' : zeroL l = false := by simpa using hz
      by_cases hs : l.drop 124 = leL (crcSum (l.take 124))
      · rw [if_neg (fun h => h hs), openL_flat hl]
        by_cases hb : 110 < (l[13]).toNat
        · rw [if_pos (.inl hb)]
          exact ref_Open_great l _ w hl hz' hs rfl hb
        · by_cases hb2 : zeroL ((l.drop (14 + (l[13]).toNat)).take (110 - (l[13]).toNat)) = false
          · rw [if_pos (.inr hb2)]
            exact ref_Open_bad l _ w hl hz' hs rfl (by omega) hb2
          · rw [if_neg (fun h => h.elim hb hb2)]
            exact ref_Open_ok l _ w hl hz' hs rfl (by omega) (by simpa using hb2)
      · rw [if_pos hs]
        exact ref_Open_rot l w hl hz' hs
  · rw [if_pos hl]
    exact ref_Open_form l w hl hl2

end Go.Proofs.YtbekebpkaeefiaaDoor
