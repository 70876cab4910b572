/- The law's Do, of any act; what an act leaves small. -/
import Derived.Test.YtciophpplpmmfaaRdJ
namespace Go.Proofs.Ytciophpplpmmfaa
open Go.RowKit

/-- What is written: a sector of one byte, or one byte less. -/
def textA (y : Nat) (sh : Bool) : List UInt8 := if sh then (secOf y).drop 1 else secOf y
/-- What an act makes of a disk. -/
def actD (D : DSt) (k : Nat) (I At : Int) (y : Nat) (sh : Bool) (ks : List Bool) : DSt :=
  if k = 0 then (wrD D I (textA y sh)).1 else if k = 1 then (syD D).1 else if k = 2 then crashed D ks else if k = 3 then { D with armed := At } else if k = 4 then rotD D I At y else D

theorem law_Do (base : Nat) (w : World) (p gl M : Nat) (v : Value) (A : Option Addr) (n c : Nat) (A' : Option Addr) (n' c' : Nat) (D : DSt) (k : Nat) (I At : Int) (y : Nat) (sh : Bool) (K : Option Addr) (kn kc : Nat) (ks : List Bool) (h : IsDisk base w p gl M v D) (hr : RDk w A n c A' n' c' D) (hs : Small D) (hok : DOk D) (hbs : base ≤ w.heap.size) (hy : y < 256) (hK : ∀ w', Below base w w' → Keeps w w' → KSl w' K kn ks) (hkn : kn ≤ 1000) (hk : k < 256) :
    Calls Try.prog 10 #[.pointer (some ⟨p, 0, none⟩), rdV A n c A' n' c' D, .agg #[.int .u8 (k : Int), .int .i64 I, .int .i64 At, .int .u8 (y : Int), .bool sh, .slice K kn kc]] w fun e w' => ∃ B m d B' m' d' v', e = .returned (.tuple #[rdV B m d B' m' d' (actD D k I At y sh ks), .bool true]) ∧ IsDisk base w' p gl M v' (actD D k I At y sh ks) ∧ RDk w' B m d B' m' d' (actD D k I At y sh ks) ∧ Below base w w' ∧ Keeps w w' := by
  unfold actD
  by_cases h0 : k = 0
  · subst h0
    rw [if_pos rfl]
    cases sh
    · exact law_Do_write base w p gl M v A n c A' n' c' D I At y K kn kc ks h hr hs hok hbs hy hK hkn
    · exact law_Do_short base w p gl M v A n c A' n' c' D I At y K kn kc ks h hr hs hok hbs hy hK hkn
  rw [if_neg h0]
  by_cases h1 : k = 1
  · subst h1
    rw [if_pos rfl]
    exact law_Do_sync base w p gl M v A n c A' n' c' D I At y sh K kn kc ks h hr hs hok hbs hy hK hkn
  rw [if_neg h1]
  by_cases h2 : k = 2
  · subst h2
    rw [if_pos rfl]
    exact law_Do_crash base w p gl M v A n c A' n' c' D I At y sh K kn kc ks h hr hs hok hbs hy hK hkn
  rw [if_neg h2]
  by_cases h3 : k = 3
  · subst h3
    rw [if_pos rfl]
    exact law_Do_arm base w p gl M v A n c A' n' c' D I At y sh K kn kc ks h hr hs hok hbs hy hK hkn
  rw [if_neg h3]
  by_cases h4 : k = 4
  · subst h4
    rw [if_pos rfl]
    exact law_Do_rot base w p gl M v A n c A' n' c' D I At y sh K kn kc ks h hr hs hok hbs hy hK hkn
  rw [if_neg h4]
  exact law_Do_other base w p gl M v A n c A' n' c' D I At y sh K kn kc ks h hr hs hok hbs hy hK hkn k (by omega) hk

theorem act_small (D : DSt) (k : Nat) (I At : Int) (y : Nat) (sh : Bool) (ks : List Bool) (ha : ArmOk D) (hA : -9223372036854775808 ≤ At ∧ At ≤ 9223372036854775807) :
    ArmOk (actD D k I At y sh ks) ∧ (actD D k I At y sh ks).waits.length ≤ D.waits.length + 1 ∧ (actD D k I At y sh ks).ops ≤ D.ops + 1 ∧ (actD D k I At y sh ks).lasts.length = D.lasts.length := by
  have f1 := fires_lasts D
  have f2 := fires_waits D
  have f3 := fires_ops D
  have f4 := fires_arm ha
  unfold actD
  split
  · unfold wrD
    split
    · exact ⟨ha, Nat.le_succ _, Nat.le_succ _, rfl⟩
    · split
      · exact ⟨ha, Nat.le_succ _, Nat.le_succ _, rfl⟩
      · split
        · exact ⟨f4, by show (fires D).1.waits.length ≤ _; rw [f2]; exact Nat.le_succ _, by show (fires D).1.ops ≤ _; rw [f3]; exact Nat.le_succ _, by show (fires D).1.lasts.length = _; rw [f1]⟩
        · refine ⟨f4, ?_, ?_, ?_⟩
          · show ((fires D).1.waits ++ _).length ≤ _; rw [List.length_append, f2]; exact Nat.le_refl _
          · show (fires D).1.ops + 1 ≤ _; rw [f3]; exact Nat.le_refl _
          · show (fires D).1.lasts.length = _; rw [f1]
  split
  · unfold syD
    split
    · exact ⟨f4, by show (fires D).1.waits.length ≤ _; rw [f2]; exact Nat.le_succ _, by show (fires D).1.ops ≤ _; rw [f3]; exact Nat.le_succ _, by show (fires D).1.lasts.length = _; rw [f1]⟩
    · refine ⟨f4, Nat.zero_le _, ?_, ?_⟩
      · show (fires D).1.ops + 1 ≤ _; rw [f3]; exact Nat.le_refl _
      · show (settle _ _).length = _; rw [settle_len, f1]
  split
  · exact ⟨ha, Nat.zero_le _, Nat.le_succ _, settleK_len _ _⟩
  split
  · exact ⟨hA, Nat.le_succ _, Nat.le_succ _, rfl⟩
  split
  · unfold rotD
    split
    · exact ⟨ha, Nat.le_succ _, Nat.le_succ _, List.length_set ..⟩
    · exact ⟨ha, Nat.le_succ _, Nat.le_succ _, rfl⟩
  exact ⟨ha, Nat.le_succ _, Nat.le_succ _, rfl⟩

end Go.Proofs.Ytciophpplpmmfaa
