/- Boxes of numbers, as the laws keep them. -/
import Derived.Test.YtmjinhieeflkgaaReads
namespace Go.Proofs.Ytmjinhieeflkgaa
open Go.RowKit

/-- A box that holds the number x. -/
def Box (w : World) (g : Nat) (A : Option Addr) (n c x : Nat) : Prop := Blk w g 29 [.slice A n c] ∧ Rep .u64 B64 w A n c x
section
variable {w w' : World} {g : Nat} {A : Option Addr} {n c x : Nat}
theorem Box.keep (h : Box w g A n c x) (hb : Below w.heap.size w w') : Box w' g A n c x := ⟨h.1.keep hb, h.2.keep hb⟩
theorem Box.cell (h : Box w g A n c x) : w.cell? ⟨g, 0, none⟩ = some (.slice A n c) := h.1.cell0
theorem Box.new (h : Rep .u64 B64 w A n c x) : Box (w.alloc (.cells #[.slice A n c] 29)) w.heap.size A n c x := ⟨Blk.new1 _ _ _, h.alloc _⟩
theorem Box.new2 {o : Obj} (h : Rep .u64 B64 (w.alloc o) A n c x) : Box ((w.alloc o).alloc (.cells #[.slice A n c] 29)) (w.heap.size + 1) A n c x := by
  have := Box.new h
  rw [show (w.alloc o).heap.size = w.heap.size + 1 from by simp] at this
  exact this
theorem keepW {w1 w2 : World} (h : Below w.heap.size w w1) (k : Below w1.heap.size w1 w2) : Below w.heap.size w w2 := h.trans (k.mono h.size)
theorem Rep.le64 (h : Rep .u64 B64 w A n c x) (hx : x < Lim) : n ≤ 64 := (h.len_le (by decide) 64).2 hx
end

end Go.Proofs.Ytmjinhieeflkgaa
