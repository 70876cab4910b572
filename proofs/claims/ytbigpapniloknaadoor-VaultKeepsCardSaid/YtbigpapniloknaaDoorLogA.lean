/- Contracts of a log's lies and Full. -/
import Derived.Test.YtbigpapniloknaaDoorJDsi
import Derived.Test.YtbigpapniloknaaDoorJOpd
import Derived.Test.YtbigpapniloknaaDoorJOpd
import Derived.BigQuiet
import Derived.Deep.QuietTactic
namespace Go.Proofs.YtbigpapniloknaaDoor
open Go.RowKit Go.Maps
set_option maxRecDepth 100000

/-- Do these sectors lie on a disk of n? -/
def liesB (n : Nat) (i r : Int) : Bool := decide (0 ≤ i) && (decide (1 ≤ r) && decide (r ≤ (n : Int) - i))
theorem liesB_iff {n : Nat} {i r : Int} : liesB n i r = true ↔ ∃ a b : Nat, i = a ∧ r = b ∧ 1 ≤ b ∧ a + b ≤ n := by
  unfold liesB
  rw [Bool.and_eq_true, Bool.and_eq_true, decide_eq_true_iff, decide_eq_true_iff, decide_eq_true_iff]
  exact ⟨fun h => ⟨i.toNat, r.toNat, by omega, by omega, by omega, by omega⟩, fun ⟨a, b, h1, h2, h3, h4⟩ => by omega⟩
theorem liesB_nat {n a b : Nat} (h1 : 1 ≤ b) (h2 : a + b ≤ n) : liesB n (a : Int) (b : Int) = true := liesB_iff.2 ⟨a, b, rfl, rfl, h1, h2⟩

/-- A log's value. -/
def logV (i r : Int) (g : Nat) (k : Int) : Value := .agg #[.int .i64 i, .int .i64 r, .int .u64 (g : Int), .int .i64 k]

theorem Blk.box4 (w : World) (t : TypeId) (a b c d : Value) : Blk (w.alloc (.cells #[a, b, c, d] t)) w.heap.size t [a, b, c, d] := heap_alloc_new w _

set_option maxHeartbeats 2000000 in
theorem log_Full (i r : Int) (g : Nat) (k : Int) (w : World) :
    Calls Tryd.prog 37 #[logV i r g k] w fun e w' => e = .returned (.bool (decide (r ≤ k))) ∧ Below w.heap.size w w' := by
  have B0 := Lib.hid ((Below.refl w.heap.size w).alloc (Nat.le_refl _) (.cells #[.int .i64 i, .int .i64 r, .int .u64 (g : Int), .int .i64 k] 31))
  unfold logV
  go_enter Tryd.func37, Tryd.ntmps37
  go_wp2_with fail
  go_ret
  exact ⟨rfl, B0.out⟩

set_option maxHeartbeats 4000000 in
theorem log_lies (base : Nat) (w : World) (p gl M : Nat) (v : Value) (D : DSt) (i r : Int) (g : Nat) (k : Int) (hi : i ≤ 9223372036854775807) (h : IsDisk base w p gl M v D) :
    Calls Tryd.prog 42 #[logV i r g k, .pointer (some ⟨p, 0, none⟩)] w fun e w' => e = .returned (.bool (liesB D.lasts.length i r)) ∧ Below w.heap.size w w' := by
  have B0 := Lib.hid ((Below.refl w.heap.size w).alloc (Nat.le_refl _) (.cells #[.int .i64 i, .int .i64 r, .int .u64 (g : Int), .int .i64 k] 31))
  have HD : Hid (∀ w', Below w.heap.size w w' → IsDisk base w' p gl M v D) := Lib.hid (fun w' hb => h.keep hb)
  have HN : Hid (D.lasts.length ≤ 4096) := Lib.hid h.2.2.2.2.1.2.1
  obtain ⟨n, hn⟩ : ∃ n, n = D.lasts.length := ⟨_, rfl⟩
  have hn4 : n ≤ 4096 := by rw [hn]; exact HN.out
  have HS : Hid (∀ W, Below w.heap.size w W → Calls Tryd.prog 26 #[.pointer (some ⟨p, 0, none⟩)] W fun e w' => e = .returned (.int .i64 (n : Int)) ∧ W = w') := Lib.hid (fun W hb => by rw [hn]; exact disk_Size base W p gl M v D (HD.out W hb))
  rw [← hn]
  have HB : Hid (Blk (w.alloc (.cells #[.int .i64 i, .int .i64 r, .int .u64 (g : Int), .int .i64 k] 31)) w.heap.size 31 [.int .i64 i, .int .i64 r, .int .u64 (g : Int), .int .i64 k]) := Lib.hid (Blk.box4 _ _ _ _ _ _)
  obtain ⟨c0, c1, c2, c3⟩ := HB.out.four
  clear h hn
  unfold logV liesB
  by_cases h0 : 0 ≤ i
  · have d0 : decide (0 ≤ i) = true := decide_eq_true h0
    have hw : IntKind.i64.wrap ((n : Int) - i) = (n : Int) - i := IntWalk.i64_in _ (by omega)
    rw [d0, Bool.true_and]
    by_cases h1 : 1 ≤ r
    · have d1 : decide (1 ≤ r) = true := decide_eq_true h1
      rw [d1, Bool.true_and]
      go_enter Tryd.func42, Tryd.ntmps42
      go_wp2_with fail
      go_quiet ((go_at_call 26; exact qcall0 (HS.out _ (Below.drewN B0.out _))))
      go_wp2_with fail
      go_ret
      exact ⟨rfl, Below.drewN B0.out _⟩
    · have d1 : decide (1 ≤ r) = false := decide_eq_false h1
      rw [d1, Bool.false_and]
      go_enter Tryd.func42, Tryd.ntmps42
      go_wp2_with fail
      go_quiet (fail)
      go_wp2_with fail
      go_ret
      exact ⟨rfl, Below.drewN B0.out _⟩
  · have d0 : decide (0 ≤ i) = false := decide_eq_false h0
    rw [d0, Bool.false_and]
    go_enter Tryd.func42, Tryd.ntmps42
    go_wp2_with fail
    go_quiet (fail)
    go_wp2_with fail
    go_ret
    exact ⟨rfl, Below.drewN B0.out _⟩
end Go.Proofs.YtbigpapniloknaaDoor
