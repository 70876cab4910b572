/- What an act of layer 15's law is, and makes of a disk. -/
import Derived.Test.YtbekebpkaeefiaaDoorRsD
import Derived.Test.YtbekebpkaeefiaaDoorJRse
import Derived.Test.YtbekebpkaeefiaaDoorJRdj
import Derived.Test.YtbekebpkaeefiaaDoorJRde
import Derived.Deep.RegionHeld3
import Derived.Deep.CutBlock
import Derived.Deep.CutRange
namespace Go.Proofs.YtbekebpkaeefiaaDoor
set_option maxRecDepth 100000
open Go.RowKit

/-- An act that came in. -/
structure ActS where
  k : Nat
  I : Int
  R : Int
  g : Nat
  t : List UInt8
  N : Int
  y : Nat
  K : Option Addr
  kn : Nat
  kc : Nat
  ks : List Bool
def ActS.cells (a : ActS) : List Value := [.int .u8 (a.k : Int), .int .i64 a.I, .int .i64 a.R, .int .u64 (a.g : Int), .string (bs a.t), .int .i64 a.N, .int .u8 (a.y : Int), .slice a.K a.kn a.kc]
def i64B (x : Int) : Prop := -9223372036854775808 ≤ x ∧ x ≤ 9223372036854775807
def ActS.ok (w : World) (a : ActS) : Prop := a.k < 256 ∧ i64B a.I ∧ i64B a.R ∧ a.g < 18446744073709551616 ∧ (a.t.length : Int) ≤ 9223372036854775807 ∧ i64B a.N ∧ a.y < 256 ∧ KSl w a.K a.kn a.ks ∧ (a.kn : Int) ≤ 9223372036854775807
/-- A slice of acts. -/
def ActsS (w : World) (A : Option Addr) (n : Nat) (l : Nat → ActS) : Prop := 0 < n → ∃ b off, A = some ⟨b, off, none⟩ ∧ ∀ j, j < n → (l j).ok w ∧ ∀ i u, (l j).cells[i]? = some u → w.cell? ⟨b, off + j * 8 + i, none⟩ = some u
theorem KSl.keepS {w w' : World} {A : Option Addr} {n : Nat} {ks : List Bool} (h : KSl w A n ks) (hb : Below w.heap.size w w') : KSl w' A n ks := by
  refine ⟨h.1, fun hp => ?_⟩
  obtain ⟨b, off, e, hc⟩ := h.2 hp
  exact ⟨b, off, e, fun j hj => (hb.cell (p := ⟨b, off + j, none⟩) (block_lt_of_cell (hc j hj))).trans (hc j hj)⟩
theorem Blk.eightR {w : World} {g t : Nat} {a b c d e f i j : Value} (h : Blk w g t [a, b, c, d, e, f, i, j]) : w.cell? ⟨g, 0, none⟩ = some a ∧ w.cell? ⟨g, 1, none⟩ = some b ∧ w.cell? ⟨g, 2, none⟩ = some c ∧ w.cell? ⟨g, 3, none⟩ = some d ∧ w.cell? ⟨g, 4, none⟩ = some e ∧ w.cell? ⟨g, 5, none⟩ = some f ∧ w.cell? ⟨g, 6, none⟩ = some i ∧ w.cell? ⟨g, 7, none⟩ = some j := ⟨h.cell 0, h.cell 1, h.cell 2, h.cell 3, h.cell 4, h.cell 5, h.cell 6, h.cell 7⟩
theorem SmallN.of_act {n : Nat} {D : DSt} (h : SmallN (n + 1) D) (k : Nat) (I At : Int) (y : Nat) (sh : Bool) (ks : List Bool) (hA : i64B At) : SmallN n (actD D k I At y sh ks) ∧ (actD D k I At y sh ks).lasts.length = D.lasts.length := by
  have a := act_small D k I At y sh ks h.1 hA
  exact ⟨⟨a.1, by have := a.2.1; have := h.2.1; omega, by have := a.2.2.1; have := h.2.2; omega⟩, a.2.2.2⟩
def cR : Code → Code | .seq _ b => b | c => c
def cL : Code → Code | .seq a _ => a | c => c
def cI : Code → Code | .block _ b => b | .loop b => b | c => c
/-- The switch of SlotPlays. -/
def spSw (c : Code) : Code := cR (cL (cR (cR (cR (cI (cL (cR (cR (cI (cI (cR (cL (cR (cR (cR (cR (cR c)))))))))))))))))
theorem wrap_u32i (n : Int) : IntKind.u32.wrap n = n % 4294967296 := by simp [IntKind.wrap, IntKind.bits, IntKind.signed]
theorem tmod_in {x : Int} {n : Int} (hn : 0 < n) (h : n ≤ 1000) : -1000 < x.tmod n ∧ x.tmod n < 1000 := by
  have h1 : (x.tmod n).natAbs < n.natAbs := by rw [Int.natAbs_tmod]; exact Nat.mod_lt _ (by omega)
  omega
end Go.Proofs.YtbekebpkaeefiaaDoor
