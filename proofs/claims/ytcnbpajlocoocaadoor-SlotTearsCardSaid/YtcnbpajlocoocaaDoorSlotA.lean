/- Contracts of slot's lies, of the makers of its iterators, of opened's iterator. -/
import Derived.Test.YtcnbpajlocoocaaDoorLogA
import Derived.Test.YtcnbpajlocoocaaDoorLogC
import Derived.Test.YtcnbpajlocoocaaDoorSeqA
import Derived.RangeFuncCalls
import Derived.Shelf.Abstract
import Derived.Shelf.RegionOpen
import Derived.WalkKit
import Derived.OwnWalkIn
import Derived.TacticsInMore
import Derived.LoopNIn
import Derived.LoopIn
namespace Go.Proofs.YtcnbpajlocoocaaDoor
open Go.RowKit Go.Maps
set_option maxRecDepth 100000
attribute [local go_sem] Oper.semAt_some

set_option maxHeartbeats 4000000 in
theorem slot_lies (base : Nat) (w : World) (p gl M : Nat) (v : Value) (D : DSt) (i r : Int) (hi : i ≤ 9223372036854775807) (h : IsDisk base w p gl M v D) :
    Calls Tryd.prog 39 #[.pointer (some ⟨p, 0, none⟩), .int .i64 i, .int .i64 r] w fun e w' => e = .returned (.bool (liesB D.lasts.length i r)) ∧ w = w' := by
  have HN : Hid (D.lasts.length ≤ 4096) := Lib.hid h.2.2.2.2.1.2.1
  have HS := Lib.hid (disk_Size base w p gl M v D h)
  obtain ⟨n, hn⟩ : ∃ n, n = D.lasts.length := ⟨_, rfl⟩
  have hn4 : n ≤ 4096 := by rw [hn]; exact HN.out
  rw [← hn] at HS ⊢
  clear h hn HN
  unfold liesB
  by_cases h0 : 0 ≤ i
  · have d0 : decide (0 ≤ i) = true := decide_eq_true h0
    have hw : IntKind.i64.wrap ((n : Int) - i) = (n : Int) - i := IntWalk.i64_in _ (by omega)
    rw [d0, Bool.true_and]
    by_cases h1 : 1 ≤ r
    · have d1 : decide (1 ≤ r) = true := decide_eq_true h1
      rw [d1, Bool.true_and]
      go_enter Tryd.func39, Tryd.ntmps39
      go_wp2_with fail
      refine HS.out.mono ?_
      rintro e w1 ⟨rfl, rfl⟩
      go_wp2_with fail
      go_ret
      exact ⟨rfl, rfl⟩
    · have d1 : decide (1 ≤ r) = false := decide_eq_false h1
      rw [d1, Bool.false_and]
      go_enter Tryd.func39, Tryd.ntmps39
      go_wp2_with fail
      go_ret
      exact ⟨rfl, rfl⟩
  · have d0 : decide (0 ≤ i) = false := decide_eq_false h0
    rw [d0, Bool.false_and]
    go_enter Tryd.func39, Tryd.ntmps39
    go_wp2_with fail
    go_ret
    exact ⟨rfl, rfl⟩

/-- Three boxes that a closure has captured. -/
def Caps (w : World) (b p : Nat) (i r : Int) : Prop := Blk w b 25 [.pointer (some ⟨p, 0, none⟩)] ∧ Blk w (b + 1) 3 [.int .i64 i] ∧ Blk w (b + 2) 3 [.int .i64 r]
theorem Caps.its {w w' : World} {b p : Nat} {i r : Int} (h : Caps w b p i r) (hk : Its b 3 w w') : Caps w' b p i r :=
  ⟨(hk b (Nat.le_refl _) (by omega)).trans h.1, (hk (b + 1) (by omega) (by omega)).trans h.2.1, (hk (b + 2) (by omega) (by omega)).trans h.2.2⟩
theorem Caps.lt {w : World} {b p : Nat} {i r : Int} (h : Caps w b p i r) : b + 3 ≤ w.heap.size := h.2.2.lt
theorem Caps.cells {w : World} {b p : Nat} {i r : Int} (h : Caps w b p i r) : w.cell? ⟨b, 0, none⟩ = some (.pointer (some ⟨p, 0, none⟩)) ∧ w.cell? ⟨b + 1, 0, none⟩ = some (.int .i64 i) ∧ w.cell? ⟨b + 2, 0, none⟩ = some (.int .i64 r) := ⟨h.1.cell0, h.2.1.cell0, h.2.2.cell0⟩

set_option maxHeartbeats 1000000 in
theorem slot_opened (w : World) (p : Nat) (i r : Int) :
    Calls Tryd.prog 60 #[.pointer (some ⟨p, 0, none⟩), .int .i64 i, .int .i64 r] w fun e w' => e = .returned (.func (.func 74) #[] #[.pointer (some ⟨w.heap.size, 0, none⟩), .pointer (some ⟨w.heap.size + 1, 0, none⟩), .pointer (some ⟨w.heap.size + 2, 0, none⟩)]) ∧
      w' = ((w.alloc (.cells #[.pointer (some ⟨p, 0, none⟩)] 25)).alloc (.cells #[.int .i64 i] 3)).alloc (.cells #[.int .i64 r] 3) := by
  go_enter Tryd.func60, Tryd.ntmps60
  go_wp2
  go_ret
  exact ⟨rfl, rfl⟩
set_option maxHeartbeats 1000000 in
theorem slot_found (w : World) (p : Nat) (i r : Int) :
    Calls Tryd.prog 53 #[.pointer (some ⟨p, 0, none⟩), .int .i64 i, .int .i64 r] w fun e w' => e = .returned (.func (.func 69) #[] #[.pointer (some ⟨w.heap.size, 0, none⟩), .pointer (some ⟨w.heap.size + 1, 0, none⟩), .pointer (some ⟨w.heap.size + 2, 0, none⟩)]) ∧
      w' = ((w.alloc (.cells #[.pointer (some ⟨p, 0, none⟩)] 25)).alloc (.cells #[.int .i64 i] 3)).alloc (.cells #[.int .i64 r] 3) := by
  go_enter Tryd.func53, Tryd.ntmps53
  go_wp2
  go_ret
  exact ⟨rfl, rfl⟩
theorem caps_new (w : World) (p : Nat) (i r : Int) : Caps (((w.alloc (.cells #[.pointer (some ⟨p, 0, none⟩)] 25)).alloc (.cells #[.int .i64 i] 3)).alloc (.cells #[.int .i64 r] 3)) w.heap.size p i r := by
  refine ⟨?_, ?_, ?_⟩
  · exact ((Blk.new1 _ _ _).alloc _).alloc _
  · have h := (Blk.new1 (w.alloc (.cells #[.pointer (some ⟨p, 0, none⟩)] 25)) 3 (.int .i64 i)).alloc (.cells #[.int .i64 r] 3)
    rw [World.size_alloc] at h
    exact h
  · have h := Blk.new1 ((w.alloc (.cells #[.pointer (some ⟨p, 0, none⟩)] 25)).alloc (.cells #[.int .i64 i] 3)) 3 (.int .i64 r)
    rw [World.size_alloc, World.size_alloc] at h
    exact h

end Go.Proofs.YtcnbpajlocoocaaDoor
