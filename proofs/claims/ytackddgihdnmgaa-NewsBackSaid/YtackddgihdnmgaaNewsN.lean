/- The document's Same, of reports that are the same. -/
import Derived.Test.YtackddgihdnmgaaNewsM
namespace Go.Proofs.Ytackddgihdnmgaa
open Go.RowKit
set_option maxRecDepth 100000

set_option maxHeartbeats 8000000 in
theorem newsr_Same (ep : Nat) (A A' : Option Addr) (n c c' : Nat) (rs : List RowT) (w : World) (h : Rws w A n rs) (h' : Rws w A' n rs) (hc : n ≤ c) (hc' : n ≤ c') (hn : n ≤ 100000) :
    Calls Try.prog 16 #[.agg #[.int .u32 (ep : Int), .slice A n c], .agg #[.int .u32 (ep : Int), .slice A' n c']] w fun e w' => e = .returned (.bool true) ∧ Below w.heap.size w w' := by
  obtain ⟨W0, hW0⟩ : ∃ W0, W0 = (w.alloc (.cells #[.int .u32 (ep : Int), .slice A n c] 45)).alloc (.cells #[.int .u32 (ep : Int), .slice A' n c'] 45) := ⟨_, rfl⟩
  have F0 : Hid (Blk W0 w.heap.size 45 [.int .u32 (ep : Int), .slice A n c] ∧ Blk W0 (w.heap.size + 1) 45 [.int .u32 (ep : Int), .slice A' n c']) := Lib.hid (by
    rw [hW0]
    refine ⟨(show Blk _ _ _ _ from heap_alloc_new w _).alloc _, ?_⟩
    have h := (show Blk _ _ _ _ from heap_alloc_new (w.alloc (.cells #[.int .u32 (ep : Int), .slice A n c] 45)) (.cells #[.int .u32 (ep : Int), .slice A' n c'] 45 (0, 0)))
    rw [World.size_alloc] at h
    exact h)
  have B0 : Hid (Below w.heap.size w W0) := Lib.hid (by rw [hW0]; exact ((Below.refl _ _).alloc (Nat.le_refl _) _).alloc (by simp) _)
  have HR : Hid (Rws W0 A n rs ∧ Rws W0 A' n rs) := Lib.hid ⟨h.keep B0.out, h'.keep B0.out⟩
  clear h h'
  go_enter Try.func16, Try.ntmps16
  go_wp2_with fail
  rw [← hW0]
  clear hW0
  go_loopw [5] (fun iv wr => ∃ j : Nat, iv = .int .i64 (j : Int) ∧ j ≤ n ∧ Hid (Below W0.heap.size W0 wr)) (fun iv _ => n - (intOf iv).toNat)
  case atStart => exact ⟨0, rfl, Nat.zero_le _, Lib.hid (Below.refl _ _)⟩
  case round =>
    obtain ⟨j, rfl, hj, HB⟩ := hrel
    have q1 := (F0.out.1.keep HB.out).cell 1
    have q2 := (F0.out.2.keep HB.out).cell 1
    dsimp only [List.getElem?_cons_zero, List.getElem?_cons_succ] at q1 q2
    by_cases hlt : j < n
    · obtain ⟨b, o, rfl, hcell⟩ := (HR.out.1.keep HB.out).2.2 (by omega)
      obtain ⟨b', o', rfl, hcell'⟩ := (HR.out.2.keep HB.out).2.2 (by omega)
      obtain ⟨c0, c1⟩ := hcell j hlt
      obtain ⟨d0, d1⟩ := hcell' j hlt
      obtain ⟨x, hx⟩ : ∃ x, x = (rs.getD j (0, 0)).1 := ⟨_, rfl⟩
      obtain ⟨y, hy⟩ : ∃ y, y = (rs.getD j (0, 0)).2 := ⟨_, rfl⟩
      rw [← hx] at c0 d0
      rw [← hy] at c1 d1
      have hdec : decide ((j : Int) < (n : Int)) = true := decide_eq_true (by omega)
      have hw1 : IntKind.i64.wrap ((j : Int) + 1) = ((j + 1 : Nat) : Int) := by rw [IntWalk.i64_in _ (by omega)]; omega
      have hjn : (j : Int) < (n : Int) := by omega
      clear hx hy hcell hcell'
      go_wp2_with fail
      go_quiet (fail)
      go_wp2_with fail
      go_roundw
      case rel => exact ⟨j + 1, by go_num, by omega, Lib.hid (below_quietN HB.out _)⟩
      case measure => simp [intOf]; omega
    · have hjm : j = n := by omega
      subst hjm
      have hdec : decide ((j : Int) < (j : Int)) = false := decide_eq_false (by omega)
      go_wp2_with fail
      go_ret
      exact ⟨rfl, B0.out.trans (HB.out.mono B0.out.size)⟩

end Go.Proofs.Ytackddgihdnmgaa
