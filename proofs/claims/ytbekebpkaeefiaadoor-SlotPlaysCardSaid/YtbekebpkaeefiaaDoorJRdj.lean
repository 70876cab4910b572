/- Contracts of the law's Do. Written by wip/tools/gen_do.py. The law's Do, of any act; what an act leaves small. -/
import Derived.Test.YtbekebpkaeefiaaDoorJRde
namespace Go.Proofs.YtbekebpkaeefiaaDoor
set_option maxRecDepth 100000
open Go.RowKit

end Go.Proofs.YtbekebpkaeefiaaDoor

namespace Go.Proofs.YtbekebpkaeefiaaDoor
set_option maxRecDepth 100000
open Go.RowKit

/-- What is written: a sector of one byte, or one byte less. -/
def textA (y : Nat) (sh : Bool) : List UInt8 := if sh then (secOf y).drop 1 else secOf y
/-- What an act makes of a disk. -/
def actD (D : DSt) (k : Nat) (I At : Int) (y : Nat) (sh : Bool) (ks : List Bool) : DSt :=
  if k = 0 then (wrD D I (textA y sh)).1 else if k = 1 then (syD D).1 else if k = 2 then crashed D ks else if k = 3 then { D with armed := At } else if k = 4 then rotD D I At y else D

theorem act_small (D : DSt) (k : Nat) (I At : Int) (y : Nat) (sh : Bool) (ks : List Bool) (ha : ArmOk D) (hA : -9223372036854775808 ≤ At ∧ At ≤ 9223372036854775807) :
    ArmOk (actD D k I At y sh ks) ∧ (actD D k I At y sh ks).waits.length ≤ D.waits.length + 1 ∧ (actD D k I At y sh ks).ops ≤ D.ops + 1 ∧ (actD D k I At y sh ks).lasts.length = D.lasts.length := by
  have f1 := fires_lasts D
  have f2 := fires_waits D
  have f3 := fires_ops D
  have f4 := fires_arm ha
  unfold actD
  split
  · unfold wrD
    split
    · exact ⟨ha, Nat.le_succ _, Nat.le_succ _, rfl⟩
    · split
      · exact ⟨ha, Nat.le_succ _, Nat.le_succ _, rfl⟩
      · split
        · exact ⟨f4, by show (fires D).1.waits.length ≤ _; rw [f2]; exact Nat.le_succ _, by show (fires D).1.ops ≤ _; rw [f3]; exact Nat.le_succ _, by show (fires D).1.lasts.length = _; rw [f1]⟩
        · refine ⟨f4, ?_, ?_, ?_⟩
          · show ((fires D).1.waits ++ _).length ≤ _; rw [List.length_append, f2]; exact Nat.le_refl _
          · show (fires D).1.ops + 1 ≤ _; rw [f3]; exact Nat.le_refl _
          · show (fires D).1.lasts.length = _; rw [f1]
  split
  · unfold syD
    split
    · exact ⟨f4, by show (fires D).1.waits.length ≤ _; rw [f2]; exact Nat.le_succ _, by show (fires D).1.ops ≤ _; rw [f3]; exact Nat.le_succ _, by show (fires D).1.lasts.length = _; rw [f1]⟩
    · refine ⟨f4, Nat.zero_le _, ?_, ?_⟩
      · show (fires D).1.ops + 1 ≤ _; rw [f3]; exact Nat.le_refl _
      · show (settle _ _).length = _; rw [settle_len, f1]
  split
  · exact ⟨ha, Nat.zero_le _, Nat.le_succ _, settleK_len _ _⟩
  split
  · exact ⟨hA, Nat.le_succ _, Nat.le_succ _, rfl⟩
  split
  · unfold rotD
    split
    · exact ⟨ha, Nat.le_succ _, Nat.le_succ _, List.length_set ..⟩
    · exact ⟨ha, Nat.le_succ _, Nat.le_succ _, rfl⟩
  exact ⟨ha, Nat.le_succ _, Nat.le_succ _, rfl⟩

end Go.Proofs.YtbekebpkaeefiaaDoor
