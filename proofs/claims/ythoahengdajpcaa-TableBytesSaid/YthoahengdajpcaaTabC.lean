/- Rows: covers, Sum; the document's Sum, row. -/
import Derived.Test.YthoahengdajpcaaTabA
import Derived.Test.YthoahengdajpcaaOctD
namespace Go.Proofs.Ythoahengdajpcaa
open Go.RowKit
set_option maxRecDepth 100000

/-- A row covers another one. -/
def CovP (r u : Nat → Nat) (n : Nat) : Prop := ∀ k, k < n → u k ≤ r k
instance (r u : Nat → Nat) (n : Nat) : Decidable (CovP r u n) := by unfold CovP; infer_instance
theorem CovP.succ {r u : Nat → Nat} {k : Nat} (h : CovP r u k) (h1 : u k ≤ r k) : CovP r u (k + 1) := fun i hi => by
  rcases Nat.lt_succ_iff_lt_or_eq.1 hi with h2 | h2
  · exact h i h2
  · rw [h2]; exact h1
theorem below_tabN {B : Nat} {a w : World} (h : Below B a w) (n : Nat) : Below B a (w.drewN n) := ⟨h.os, h.tape, h.output, h.size, h.block⟩

set_option maxHeartbeats 4000000 in
theorem tab_covers (r u : Nat → Nat) (w : World) :
    Calls Try.prog 33 #[.agg (fcs r 8).toArray, .agg (fcs u 8).toArray] w fun e w' => e = .returned (.bool (decide (CovP r u 8))) ∧ Below w.heap.size w w' := by
  obtain ⟨c, hc⟩ : ∃ c, c = fcs r 8 := ⟨_, rfl⟩
  obtain ⟨d, hd⟩ : ∃ d, d = fcs u 8 := ⟨_, rfl⟩
  rw [← hc, ← hd]
  have GC : Hid (∀ k, k < 8 → c[k]? = some (.int .u32 (r k : Int))) := Lib.hid (fun k hk => by rw [hc]; exact fcs_get r 8 k hk)
  have GD : Hid (∀ k, k < 8 → d[k]? = some (.int .u32 (u k : Int))) := Lib.hid (fun k hk => by rw [hd]; exact fcs_get u 8 k hk)
  clear hc hd
  obtain ⟨W0, hW0⟩ : ∃ W0, W0 = (w.alloc (.cells c.toArray 24)).alloc (.cells d.toArray 24) := ⟨_, rfl⟩
  have B0 : Hid (Blk W0 w.heap.size 24 c ∧ Blk W0 (w.heap.size + 1) 24 d ∧ Below w.heap.size w W0) := Lib.hid (by
    rw [hW0]
    refine ⟨(show Blk _ _ _ _ from heap_alloc_new w _).alloc _, ?_, ((Below.refl _ _).alloc (Nat.le_refl _) _).alloc (by simp) _⟩
    have h := (show Blk _ _ _ _ from heap_alloc_new (w.alloc (.cells c.toArray 24)) (.cells d.toArray 24))
    rw [World.size_alloc] at h
    exact h)
  go_enter Try.func33, Try.ntmps33
  go_wp2_with fail
  rw [← hW0]
  clear hW0
  go_loopw [6] (fun iv wr => ∃ k : Nat, iv = .int .i64 (k : Int) ∧ k ≤ 8 ∧ Hid (CovP r u k) ∧ Hid (Blk wr w.heap.size 24 c ∧ Blk wr (w.heap.size + 1) 24 d ∧ Below w.heap.size w wr)) (fun iv _ => 8 - (intOf iv).toNat)
  case atStart => exact ⟨0, rfl, Nat.zero_le _, Lib.hid (fun i hi => absurd hi (Nat.not_lt_zero _)), B0⟩
  case round =>
    obtain ⟨k, rfl, hk, HM, HB⟩ := hrel
    by_cases hlt : k < 8
    · have c0 := (HB.out.1.cell k).trans (GC.out k hlt)
      have d0 := (HB.out.2.1.cell k).trans (GD.out k hlt)
      obtain ⟨x, hx⟩ : ∃ x, x = r k := ⟨_, rfl⟩
      obtain ⟨y, hy⟩ : ∃ y, y = u k := ⟨_, rfl⟩
      rw [← hx] at c0
      rw [← hy] at d0
      have HX := Lib.hid hx
      have HY := Lib.hid hy
      have hdec : decide ((k : Int) < 8) = true := decide_eq_true (by omega)
      have hw1 : IntKind.i64.wrap ((k : Int) + 1) = ((k + 1 : Nat) : Int) := by rw [IntWalk.i64_in _ (by omega)]; omega
      clear hx hy
      by_cases hle : x < y
      · have hd2 : decide (x < y) = true := decide_eq_true hle
        have HL := Lib.hid hle
        clear hle hw1
        go_wp2_with fail
        go_quiet (fail)
        go_wp2_with fail
        go_ret
        exact ⟨by rw [decide_eq_false (fun hr => Nat.lt_irrefl _ (Nat.lt_of_lt_of_le (by rw [HX.out, HY.out] at HL; exact HL.out) (hr k hlt)))]; rfl, below_tabN HB.out.2.2 _⟩
      · have hd2 : decide (x < y) = false := decide_eq_false hle
        have HL := Lib.hid hle
        clear hle
        go_wp2_with fail
        go_quiet (fail)
        go_wp2_with fail
        go_roundw
        case rel => exact ⟨k + 1, by go_num, by omega, Lib.hid (HM.out.succ (by rw [← HX.out, ← HY.out]; have := HL.out; omega)), Lib.hid ⟨HB.out.1, HB.out.2.1, below_tabN HB.out.2.2 _⟩⟩
        case measure => simp [intOf]; omega
    · obtain rfl : k = 8 := by omega
      have hdec : decide (((8 : Nat) : Int) < 8) = false := by decide
      go_wp2_with fail
      go_ret
      exact ⟨by rw [decide_eq_true HM.out]; rfl, HB.out.2.2⟩

/-- The sum of a row's first n counts. -/
def sumN (r : Nat → Nat) : Nat → Nat
  | 0 => 0
  | n + 1 => sumN r n + r n
theorem sumN_lt {r : Nat → Nat} (h : Fits r) (n : Nat) : sumN r n ≤ n * 4294967295 := by
  induction n with
  | zero => exact Nat.le_refl _
  | succ n ih => have := h n; show sumN r n + r n ≤ _; omega

set_option maxHeartbeats 4000000 in
theorem tab_Sum (r : Nat → Nat) (w : World) (hf : Fits r) :
    Calls Try.prog 19 #[.agg (fcs r 8).toArray] w fun e w' => e = .returned (.int .u64 ((sumN r 8 : Nat) : Int)) ∧ Below w.heap.size w w' := by
  obtain ⟨c, hc⟩ : ∃ c, c = fcs r 8 := ⟨_, rfl⟩
  rw [← hc]
  have GC : Hid (∀ k, k < 8 → c[k]? = some (.int .u32 (r k : Int))) := Lib.hid (fun k hk => by rw [hc]; exact fcs_get r 8 k hk)
  clear hc
  obtain ⟨W0, hW0⟩ : ∃ W0, W0 = w.alloc (.cells c.toArray 24) := ⟨_, rfl⟩
  have B0 : Hid (Blk W0 w.heap.size 24 c ∧ Below w.heap.size w W0) := Lib.hid (by
    rw [hW0]
    exact ⟨heap_alloc_new w _, (Below.refl _ _).alloc (Nat.le_refl _) _⟩)
  have SM := Lib.hid (fun n => sumN_lt hf n)
  have FT := Lib.hid hf
  clear hf
  go_enter Try.func19, Try.ntmps19
  go_wp2_with fail
  rw [← hW0]
  clear hW0
  go_loopw [3, 5] (fun sv iv wr => ∃ k : Nat, sv = .int .u64 ((sumN r k : Nat) : Int) ∧ iv = .int .i64 (k : Int) ∧ k ≤ 8 ∧ Hid (Blk wr w.heap.size 24 c ∧ Below w.heap.size w wr)) (fun _ iv _ => 8 - (intOf iv).toNat)
  case atStart => exact ⟨0, rfl, rfl, Nat.zero_le _, B0⟩
  case round =>
    obtain ⟨k, rfl, rfl, hk, HB⟩ := hrel
    by_cases hlt : k < 8
    · have c0 := (HB.out.1.cell k).trans (GC.out k hlt)
      obtain ⟨x, hx⟩ : ∃ x, x = r k := ⟨_, rfl⟩
      rw [← hx] at c0
      have hxb : x < 4294967296 := by rw [hx]; exact FT.out k
      obtain ⟨s, hs⟩ : ∃ s, s = sumN r k := ⟨_, rfl⟩
      have hsb : s ≤ k * 4294967295 := by rw [hs]; exact SM.out k
      have HS1 : Hid (sumN r (k + 1) = s + x) := Lib.hid (by rw [hs, hx]; rfl)
      rw [← hs]
      have hdec : decide ((k : Int) < 8) = true := decide_eq_true (by omega)
      have hw1 : IntKind.i64.wrap ((k : Int) + 1) = ((k + 1 : Nat) : Int) := by rw [IntWalk.i64_in _ (by omega)]; omega
      have hw2 : IntKind.u64.wrap (x : Int) = (x : Int) := IntWalk.u64_in _ (by omega)
      have hw3 : IntKind.u64.wrap ((s : Int) + (x : Int)) = ((s + x : Nat) : Int) := by rw [IntWalk.u64_in _ (by omega)]; omega
      clear hx hs hxb hsb
      go_wp2_with fail
      go_roundw
      case rel => exact ⟨k + 1, by rw [HS1.out, Int.natCast_add], by go_num, by omega, HB⟩
      case measure => simp [intOf]; omega
    · obtain rfl : k = 8 := by omega
      have hdec : decide (((8 : Nat) : Int) < 8) = false := by decide
      go_wp2_with fail
      go_ret
      exact ⟨rfl, HB.out.2⟩

end Go.Proofs.Ythoahengdajpcaa
