/- VaultKeeps: for all acts. -/
import Derived.Test.YtbigpapniloknaaDoorVaV
namespace Go.Proofs.YtbigpapniloknaaDoor
open Go.RowKit Go.Maps
set_option maxRecDepth 100000

set_option maxHeartbeats 4000000 in
theorem vaultKeeps_idle (La : Option Addr) (ln lc : Nat) (w : World) (h : 30 < ln) (hb : (ln : Int) ≤ 9223372036854775807) :
    Calls Tryd.prog 3 #[.slice La ln lc] w fun e w' => e = .returned (.bool true) ∧ Below w.heap.size w w' := by
  have HA := Lib.hid vault_Awake
  have hd : decide ((30 : Int) < (ln : Int)) = true := decide_eq_true (by omega)
  have hd' : decide (30 < ln) = true := decide_eq_true h
  go_enter Tryd.func3, Tryd.ntmps3
  go_wp2_with fail
  refine (HA.out _).mono ?_
  rintro e w1 ⟨rfl, hb⟩
  go_wp2_with fail
  go_ret
  exact ⟨rfl, hb⟩
theorem vaultKeeps_walk (La : Option Addr) (ln lc : Nat) (l : Nat → ActV) (w : World) (hL : ActsV w La ln l) (h1 : ln ≤ lc) (h2 : lc ≤ maxLen) :
    Calls Tryd.prog 3 #[.slice La ln lc] w fun e w' => e = .returned (.bool true) ∧ Below w.heap.size w w' := by
  simp only [maxLen] at h2
  by_cases h : 30 < ln
  · exact vaultKeeps_idle La ln lc w h (by omega)
  · exact vaultKeeps_main La ln lc l w hL (by omega)
end Go.Proofs.YtbigpapniloknaaDoor
