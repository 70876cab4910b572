/- Contracts of whole, and of found's iterator. -/
import Derived.Test.YtbigpapniloknaaDoorSlotE
import Derived.Test.YtbigpapniloknaaDoorJOpd
namespace Go.Proofs.YtbigpapniloknaaDoor
open Go.RowKit Go.Maps
set_option maxRecDepth 100000
attribute [local go_sem] Oper.semAt_some

def wholeB (r : RecT) : Bool := if r.1 = 2 then decide (r.2.2.2.length = 110) else if r.1 = 3 then !r.2.2.2.isEmpty else false

set_option maxHeartbeats 2000000 in
theorem slot_whole (r : RecT) (w : World) :
    Calls Tryd.prog 67 #[recV r] w fun e w' => e = .returned (.bool (wholeB r)) ∧ Below w.heap.size w w' := by
  obtain ⟨k, g, ix, d⟩ := r
  unfold recV wholeB
  have B0 := Lib.hid ((Below.refl w.heap.size w).alloc (Nat.le_refl _) (.cells #[.int .u8 (k : Int), .int .u64 (g : Int), .int .u32 (ix : Int), .string (bs d)] 89))
  have hsz := bs_size d
  by_cases h2 : k = 2
  · have e1 : ((k : Int) == 2) = true := by rw [beq_iff_eq]; omega
    have e2 : ((d.length : Int) == 110) = decide (d.length = 110) := by
      by_cases h : d.length = 110
      · rw [decide_eq_true h, beq_iff_eq]; omega
      · rw [decide_eq_false h, beq_eq_false_iff_ne]; omega
    rw [if_pos h2]
    clear h2
    go_enter Tryd.func67, Tryd.ntmps67
    go_wp2_with fail
    go_ret
    exact ⟨by first | rfl | (rw [← e2]), B0.out⟩
  · have e1 : ((k : Int) == 2) = false := by rw [beq_eq_false_iff_ne]; omega
    rw [if_neg h2]
    by_cases h3 : k = 3
    · have e3 : ((k : Int) == 3) = true := by rw [beq_iff_eq]; omega
      have e4 : (bs d).toList.isEmpty = d.isEmpty := by unfold bs; rw [ByteArray.toList_mk]
      rw [if_pos h3]
      clear h3
      go_enter Tryd.func67, Tryd.ntmps67
      go_wp2_with fail
      go_ret
      exact ⟨by first | rfl | (rw [← e4]), B0.out⟩
    · have e3 : ((k : Int) == 3) = false := by rw [beq_eq_false_iff_ne]; omega
      rw [if_neg h3]
      go_enter Tryd.func67, Tryd.ntmps67
      go_wp2_with fail
      go_ret
      exact ⟨rfl, B0.out⟩

/-- May this be the next part? -/
def okF (nx g : Nat) (x : Nat × RecT) : Bool := decide (x.1 = nx) && (decide (x.2.2.2.1 = x.1) && (decide (x.2.2.1 = (if x.1 = 0 then x.2.2.1 else g)) && wholeB x.2))
/-- What found's iterator gives of what opened's gives. -/
def foundF : Nat → Nat → List (Nat × RecT) → List RecT
  | _, _, [] => []
  | nx, g, x :: l => if okF nx g x = true then x.2 :: (if x.2.1 = 3 then [] else foundF (nx + 1) (if x.1 = 0 then x.2.2.1 else g) l) else []
def foundL (D : DSt) (i r : Int) : List RecT := foundF 0 0 (openL2 D i r)

/-- What a round of found's keeps. -/
def KpF (n₀ b m : Nat) (W W' : World) : Prop := KpO n₀ b W W' ∧ ∀ j, m ≤ j → j < W.heap.size → W'.heap[j]? = W.heap[j]?
theorem KpF.trans {n₀ b m : Nat} {X Y Z : World} (h : KpF n₀ b m X Y) (k : KpF n₀ b m Y Z) : KpF n₀ b m X Z := ⟨h.1.trans k.1, fun j h1 h2 => (k.2 j h1 (Nat.lt_of_lt_of_le h2 h.1.1.size)).trans (h.2 j h1 h2)⟩
theorem KpF.putObj {n₀ b m : Nat} (W : World) {l : Nat} (o : Obj) (h1 : n₀ ≤ l) (h2 : b + 3 ≤ l) (h3 : l < m) : KpF n₀ b m W (W.putObj l o) := ⟨KpO.putObj W o h1 h2, fun j q1 _ => World.putObj_heap_other (by omega)⟩
end Go.Proofs.YtbigpapniloknaaDoor
