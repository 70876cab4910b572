/- The document's Sum, row and Covers; Covers of tables. Written by wip/tools/gen_tabd.py. -/
import Derived.Test.YthoahengdajpcaaTabC
import Derived.Deep.Cut
import Derived.Deep.CutBlock
import Derived.Deep.RegionHeld3
namespace Go.Proofs.Ythoahengdajpcaa
open Go.RowKit
set_option maxRecDepth 100000

abbrev tc4o0 : Oper := { dst := some 9, op := Op.move (Operand.tmp 5), type := 3, pos := "table.go:124", after := #[], guard := none }
abbrev tc4o1 : Oper := { dst := some 10, op := Op.fieldAddr 28 (Operand.tmp 2) 1, type := 0, pos := "table.go:124", after := #[], guard := none }
abbrev tc4o2 : Oper := { dst := some 11, op := Op.indexAddr 25 (Operand.tmp 10) (Operand.tmp 9), type := 0, pos := "table.go:124", after := #[{ on := 1, ground := Ground.data }, { on := 0, ground := Ground.data }], guard := none }
abbrev tc4o3 : Oper := { dst := some 12, op := Op.load 24 (Operand.tmp 11), type := 24, pos := "table.go:124", after := #[{ on := 2, ground := Ground.data }], guard := none }
abbrev tc4o4 : Oper := { dst := some 13, op := Op.move (Operand.tmp 5), type := 3, pos := "table.go:124", after := #[], guard := none }
abbrev tc4o5 : Oper := { dst := some 14, op := Op.fieldAddr 28 (Operand.tmp 3) 1, type := 0, pos := "table.go:124", after := #[], guard := none }
abbrev tc4o6 : Oper := { dst := some 15, op := Op.indexAddr 25 (Operand.tmp 14) (Operand.tmp 13), type := 0, pos := "table.go:124", after := #[{ on := 5, ground := Ground.data }, { on := 4, ground := Ground.data }], guard := none }
abbrev tc4o7 : Oper := { dst := some 16, op := Op.load 24 (Operand.tmp 15), type := 24, pos := "table.go:124", after := #[{ on := 6, ground := Ground.data }], guard := none }
abbrev tc4o8 : Oper := { dst := some 17, op := Op.call { callee := Callee.value (Operand.func 33), args := #[Operand.tmp 12, Operand.tmp 16], argTypes := #[24, 24] }, type := 4, pos := "table.go:124", after := #[{ on := 3, ground := Ground.data }, { on := 7, ground := Ground.data }], guard := none }
abbrev tc4o9 : Oper := { dst := some 18, op := Op.unOp UnOp.not 4 (Operand.tmp 17), type := 4, pos := "table.go:124", after := #[{ on := 8, ground := Ground.data }], guard := none }
abbrev rc7o0 : Oper := { dst := some 15, op := Op.load 34 (Operand.tmp 3), type := 34, pos := "ref.go:101", after := #[], guard := none }
abbrev rc7o1 : Oper := { dst := some 16, op := Op.move (Operand.tmp 5), type := 3, pos := "ref.go:101", after := #[], guard := none }
abbrev rc7o2 : Oper := { dst := some 17, op := Op.call { callee := Callee.value (Operand.func 27), args := #[Operand.tmp 15, Operand.tmp 16], argTypes := #[34, 3] }, type := 31, pos := "ref.go:101", after := #[{ on := 0, ground := Ground.data }, { on := 1, ground := Ground.data }], guard := none }
abbrev rc7o3 : Oper := { dst := some 18, op := Op.move (Operand.tmp 6), type := 3, pos := "ref.go:101", after := #[], guard := none }
abbrev rc7o4 : Oper := { dst := some 19, op := Op.index 31 (Operand.tmp 17) (Operand.tmp 18), type := 22, pos := "ref.go:101", after := #[{ on := 2, ground := Ground.data }, { on := 3, ground := Ground.data }], guard := none }
abbrev rc7o5 : Oper := { dst := some 20, op := Op.load 34 (Operand.tmp 2), type := 34, pos := "ref.go:101", after := #[], guard := none }
abbrev rc7o6 : Oper := { dst := some 21, op := Op.move (Operand.tmp 5), type := 3, pos := "ref.go:101", after := #[], guard := none }
abbrev rc7o7 : Oper := { dst := some 22, op := Op.call { callee := Callee.value (Operand.func 27), args := #[Operand.tmp 20, Operand.tmp 21], argTypes := #[34, 3] }, type := 31, pos := "ref.go:101", after := #[{ on := 5, ground := Ground.data }, { on := 6, ground := Ground.data }, { on := 2, ground := Ground.chain }], guard := none }
abbrev rc7o8 : Oper := { dst := some 23, op := Op.move (Operand.tmp 6), type := 3, pos := "ref.go:101", after := #[], guard := none }
abbrev rc7o9 : Oper := { dst := some 24, op := Op.index 31 (Operand.tmp 22) (Operand.tmp 23), type := 22, pos := "ref.go:101", after := #[{ on := 7, ground := Ground.data }, { on := 8, ground := Ground.data }], guard := none }
abbrev rc7o10 : Oper := { dst := some 25, op := Op.binOp BinOp.gtr 22 (Operand.tmp 19) (Operand.tmp 24) 22, type := 4, pos := "ref.go:101", after := #[{ on := 4, ground := Ground.data }, { on := 9, ground := Ground.data }], guard := none }

set_option maxHeartbeats 4000000 in
theorem ref_Sum (r : Nat → Nat) (w : World) (hf : Fits r) :
    Calls Try.prog 20 #[.agg (fcs r 8).toArray] w fun e w' => e = .returned (.int .u64 ((sumN r 8 : Nat) : Int)) ∧ Below w.heap.size w w' := by
  obtain ⟨c, hc⟩ : ∃ c, c = fcs r 8 := ⟨_, rfl⟩
  rw [← hc]
  have GC : Hid (∀ k, k < 8 → c[k]? = some (.int .u32 (r k : Int))) := Lib.hid (fun k hk => by rw [hc]; exact fcs_get r 8 k hk)
  clear hc
  obtain ⟨W0, hW0⟩ : ∃ W0, W0 = w.alloc (.cells c.toArray 31) := ⟨_, rfl⟩
  have B0 : Hid (Blk W0 w.heap.size 31 c ∧ Below w.heap.size w W0) := Lib.hid (by
    rw [hW0]
    exact ⟨heap_alloc_new w _, (Below.refl _ _).alloc (Nat.le_refl _) _⟩)
  have SM := Lib.hid (fun n => sumN_lt hf n)
  have FT := Lib.hid hf
  clear hf
  go_enter Try.func20, Try.ntmps20
  go_wp2_with fail
  rw [← hW0]
  clear hW0
  go_loopw [3, 4] (fun sv iv wr => ∃ k : Nat, sv = .int .u64 ((sumN r k : Nat) : Int) ∧ iv = .int .i64 (k : Int) ∧ k ≤ 8 ∧ Hid (Blk wr w.heap.size 31 c ∧ Below w.heap.size w wr)) (fun _ iv _ => 8 - (intOf iv).toNat)
  case atStart => exact ⟨0, rfl, rfl, Nat.zero_le _, B0⟩
  case round =>
    obtain ⟨k, rfl, rfl, hk, HB⟩ := hrel
    by_cases hlt : k < 8
    · have c0 := (HB.out.1.cell k).trans (GC.out k hlt)
      obtain ⟨x, hx⟩ : ∃ x, x = r k := ⟨_, rfl⟩
      rw [← hx] at c0
      have hxb : x < 4294967296 := by rw [hx]; exact FT.out k
      obtain ⟨s, hs⟩ : ∃ s, s = sumN r k := ⟨_, rfl⟩
      have hsb : s ≤ k * 4294967295 := by rw [hs]; exact SM.out k
      have HS1 : Hid (sumN r (k + 1) = s + x) := Lib.hid (by rw [hs, hx]; rfl)
      rw [← hs]
      have hdec : decide ((k : Int) < 8) = true := decide_eq_true (by omega)
      have hw1 : IntKind.i64.wrap ((k : Int) + 1) = ((k + 1 : Nat) : Int) := by rw [IntWalk.i64_in _ (by omega)]; omega
      have hw2 : IntKind.u64.wrap (x : Int) = (x : Int) := IntWalk.u64_in _ (by omega)
      have hw3 : IntKind.u64.wrap ((s : Int) + (x : Int)) = ((s + x : Nat) : Int) := by rw [IntWalk.u64_in _ (by omega)]; omega
      clear hx hs hxb hsb
      go_wp2_with fail
      go_roundw
      case rel => exact ⟨k + 1, by rw [HS1.out, Int.natCast_add], by go_num, by omega, HB⟩
      case measure => simp [intOf]; omega
    · obtain rfl : k = 8 := by omega
      have hdec : decide (((8 : Nat) : Int) < 8) = false := by decide
      go_wp2_with fail
      go_ret
      exact ⟨rfl, HB.out.2⟩

theorem run_index_row {r : List Value} (x k : Nat) (T : TypeId) (hk : k < 8) (hx : r[k]? = some (.int .u32 (x : Int))) (W : World) (hT : Try.prog.underlying T = some (.array 8 22) := by exact Try.underlying31) :
    (Instr.index T (.agg r.toArray) (.int .i64 (k : Int))).run Try.prog W = .ok (.int .u32 (x : Int)) W := by
  have h1 : (0 : Int) ≤ (k : Int) ∧ (k : Int) < ((8 : Nat) : Int) := by omega
  have h2 : k * 1 = k := Nat.mul_one k
  simp [Instr.index, asIntOf, run_underlying hT, h1, hk, part, hx]

theorem rowAt_succ {w : World} {g t L j : Nat} {f : Nat → Nat} (h : Blk w g t (tcs f L)) (hj : j < 16) : w.rangeAt g (8 + j * 8) (fcs (rowOf f (j + 1)) 8) := by
  have := h.rowAt (i := j + 1) (by omega)
  rw [show 8 * (j + 1) = 8 + j * 8 from by omega] at this
  exact this

set_option maxHeartbeats 4000000 in
theorem ref_row (f : Nat → Nat) (L i : Nat) (w : World) (hi : i ≤ 16) :
    Calls Try.prog 27 #[.agg (tcs f L).toArray, .int .i64 (i : Int)] w fun e w' => e = .returned (.agg (fcs (rowOf f i) 8).toArray) ∧ Below w.heap.size w w' := by
  obtain ⟨c, hc⟩ : ∃ c, c = tcs f L := ⟨_, rfl⟩
  obtain ⟨r, hr⟩ : ∃ r, r = fcs (rowOf f i) 8 := ⟨_, rfl⟩
  have hrl : r.length = 8 := by rw [hr]; exact fcs_len _ _
  have hro : r.toArray.all (·.oneCell') = true := all_oneCell_toArray (by rw [hr]; exact fcs_one _ _)
  rw [← hc, ← hr]
  obtain ⟨W0, hW0⟩ : ∃ W0, W0 = (w.alloc (.cells c.toArray 34)).alloc (.cells (fcs (fun _ => 0) 8).toArray 31) := ⟨_, rfl⟩
  have B0 : Hid (Blk W0 w.heap.size 34 c ∧ Blk W0 (w.heap.size + 1) 31 (fcs (fun _ => 0) 8) ∧ Below w.heap.size w W0) := Lib.hid (by
    rw [hW0]
    refine ⟨(show Blk _ _ _ _ from heap_alloc_new w _).alloc _, ?_, ((Below.refl _ _).alloc (Nat.le_refl _) _).alloc (by simp) _⟩
    have h := (show Blk _ _ _ _ from heap_alloc_new (w.alloc (.cells c.toArray 34)) (.cells (fcs (fun _ => 0) 8).toArray 31))
    rw [World.size_alloc] at h
    exact h)
  have TH : Hid (W0.there (w.heap.size + 1) 0 r.toArray.size) := Lib.hid (by
    rw [show r.toArray.size = 8 by rw [List.size_toArray, hrl]]
    exact B0.out.2.1.thereT (by rw [fcs_len]; omega))
  have hsr : (Try.prog.info? 31).map (·.size) = some r.length := by rw [hrl]; exact sizeRRow
  have hsr2 : (Try.prog.info? 31).map (·.size) = some r.toArray.size := by rw [List.size_toArray, hrl]; exact sizeRRow
  have FIN : Hid (Blk (W0.setCells (w.heap.size + 1) 0 r.toArray.toList) (w.heap.size + 1) 31 r ∧ Below w.heap.size w (W0.setCells (w.heap.size + 1) 0 r.toArray.toList)) := Lib.hid (by
    refine ⟨?_, Below.setCellsT B0.out.2.2 (by omega) _ _⟩
    exact B0.out.2.1.setWhole r (by rw [hrl, fcs_len]))
  by_cases h0 : i = 0
  · subst h0
    have RA : Hid (W0.rangeAt w.heap.size 0 r) := Lib.hid (by rw [hr]; exact (show Blk W0 w.heap.size 34 (tcs f L) by rw [← hc]; exact B0.out.1).rowAt (i := 0) (by omega))
    have hW1 : W0 = (w.alloc (.cells c.toArray 34)).alloc (.cells #[.int .u32 0, .int .u32 0, .int .u32 0, .int .u32 0, .int .u32 0, .int .u32 0, .int .u32 0, .int .u32 0] 31) := hW0
    clear hc hr hrl hW0 hi
    go_enter Try.func27, Try.ntmps27
    go_upto_region 1 with fail
    rw [← hW1]
    clear hW1
    go_wp2_with (first
      | (refine wpList_load_mid rfl _ _ rfl w.heap.size 0 rfl r _ RA.out Try.underlying31 rfl hsr ?_)
      | (refine wpList_store_mid rfl _ _ _ rfl (w.heap.size + 1) 0 r.toArray rfl rfl TH.out hsr2 hro ?_))
    refine bodyPost_ret (v := .agg r.toArray) ?_ rfl ⟨rfl, FIN.out.2⟩
    exact results_cell_row rfl _ _ (w.heap.size + 1) _ r.toArray (0, 0) _ rfl FIN.out.1 Try.underlying31 rfl hsr2
  · obtain ⟨j, rfl⟩ : ∃ j, i = j + 1 := ⟨i - 1, by omega⟩
    have RA : Hid (W0.rangeAt w.heap.size (8 + j * 8) r) := Lib.hid (by rw [hr]; exact rowAt_succ (show Blk W0 w.heap.size 34 (tcs f L) by rw [← hc]; exact B0.out.1) (by omega))
    have hW1 : W0 = (w.alloc (.cells c.toArray 34)).alloc (.cells #[.int .u32 0, .int .u32 0, .int .u32 0, .int .u32 0, .int .u32 0, .int .u32 0, .int .u32 0, .int .u32 0] 31) := hW0
    have hj : j < 16 := by omega
    have hnz : (((j + 1 : Nat) : Int) == 0) = false := by simp; omega
    have hw1 : IntKind.i64.wrap (((j + 1 : Nat) : Int) - 1) = (j : Int) := by rw [IntWalk.i64_in _ (by omega)]; omega
    obtain ⟨I, hI⟩ : ∃ I, I = ((j + 1 : Nat) : Int) := ⟨_, rfl⟩
    rw [← hI] at hnz hw1 ⊢
    clear hc hr hrl hW0 hi h0 hI
    go_enter Try.func27, Try.ntmps27
    go_upto_region 1 with fail
    rw [← hW1]
    clear hW1
    go_wp2_with (first
      | (refine wpList_load_mid rfl _ _ rfl w.heap.size (8 + j * 8) rfl r _ RA.out Try.underlying31 rfl hsr ?_)
      | (refine wpList_store_mid rfl _ _ _ rfl (w.heap.size + 1) 0 r.toArray rfl rfl TH.out hsr2 hro ?_))
    refine bodyPost_ret (v := .agg r.toArray) ?_ rfl ⟨rfl, FIN.out.2⟩
    exact results_cell_row rfl _ _ (w.heap.size + 1) _ r.toArray (0, 0) _ rfl FIN.out.1 Try.underlying31 rfl hsr2

/-- A table covers another one, in its first n rows. -/
def CovT (f g : Nat → Nat) (n : Nat) : Prop := ∀ i, i < n → CovP (rowOf f i) (rowOf g i) 8
instance (f g : Nat → Nat) (n : Nat) : Decidable (CovT f g n) := by unfold CovT; infer_instance
theorem CovT.iff (f g : Nat → Nat) : CovT f g 17 ↔ ∀ j, j < 136 → g j ≤ f j := by
  constructor
  · intro h j hj
    have := h (j / 8) (by omega) (j % 8) (by omega)
    unfold rowOf at this
    rw [show 8 * (j / 8) + j % 8 = j from by omega] at this
    exact this
  · intro h i hi k hk
    exact h _ (by omega)
/-- The contacts' first n rows. -/
def CovC (f g : Nat → Nat) (n : Nat) : Prop := ∀ i, i < n → CovP (rowOf f (i + 1)) (rowOf g (i + 1)) 8
theorem CovC.succ {f g : Nat → Nat} {k : Nat} (h : CovC f g k) (h1 : CovP (rowOf f (k + 1)) (rowOf g (k + 1)) 8) : CovC f g (k + 1) := fun i hi => by
  rcases Nat.lt_succ_iff_lt_or_eq.1 hi with h2 | h2
  · exact h i h2
  · rw [h2]; exact h1
theorem CovC.all {f g : Nat → Nat} (h : CovC f g 16) (h1 : CovP (rowOf f 0) (rowOf g 0) 8) : CovT f g 17 := fun i hi => by
  cases i with
  | zero => exact h1
  | succ i => exact h i (by omega)

set_option maxHeartbeats 8000000 in
theorem tab_Covers (f g : Nat → Nat) (L M : Nat) (w : World) :
    Calls Try.prog 17 #[.agg (tcs f L).toArray, .agg (tcs g M).toArray] w fun e w' => e = .returned (.bool (decide (CovT f g 17))) ∧ Below w.heap.size w w' := by
  obtain ⟨a, ha⟩ : ∃ a, a = tcs f L := ⟨_, rfl⟩
  obtain ⟨b, hb⟩ : ∃ b, b = tcs g M := ⟨_, rfl⟩
  have HA := Lib.hid ha
  have HB0 := Lib.hid hb
  rw [← ha, ← hb]
  clear ha hb
  obtain ⟨W0, hW0⟩ : ∃ W0, W0 = (w.alloc (.cells a.toArray 28)).alloc (.cells b.toArray 28) := ⟨_, rfl⟩
  have B0 : Hid (Blk W0 w.heap.size 28 a ∧ Blk W0 (w.heap.size + 1) 28 b ∧ Below w.heap.size w W0) := Lib.hid (by
    rw [hW0]
    refine ⟨(show Blk _ _ _ _ from heap_alloc_new w _).alloc _, ?_, ((Below.refl _ _).alloc (Nat.le_refl _) _).alloc (by simp) _⟩
    have h := (show Blk _ _ _ _ from heap_alloc_new (w.alloc (.cells a.toArray 28)) (.cells b.toArray 28))
    rw [World.size_alloc] at h
    exact h)
  go_enter Try.func17, Try.ntmps17
  go_wp2_with fail
  rw [← hW0]
  clear hW0
  go_loopw [6] (fun iv wr => ∃ k : Nat, iv = .int .i64 (k : Int) ∧ k ≤ 16 ∧ Hid (CovC f g k) ∧ Hid (Blk wr w.heap.size 28 a ∧ Blk wr (w.heap.size + 1) 28 b ∧ Below w.heap.size w wr)) (fun iv _ => 16 - (intOf iv).toNat)
  case atStart => exact ⟨0, rfl, Nat.zero_le _, Lib.hid (fun i hi => absurd hi (Nat.not_lt_zero _)), B0⟩
  case round =>
    obtain ⟨c, rfl, hc, HM, HB⟩ := hrel
    by_cases hlt : c < 16
    · obtain ⟨rt, hrt⟩ : ∃ rt, rt = fcs (rowOf f (c + 1)) 8 := ⟨_, rfl⟩
      obtain ⟨ru, hru⟩ : ∃ ru, ru = fcs (rowOf g (c + 1)) 8 := ⟨_, rfl⟩
      have hst : (Try.prog.info? 24).map (·.size) = some rt.length := by rw [hrt, fcs_len]; exact sizeTRow
      have hsu : (Try.prog.info? 24).map (·.size) = some ru.length := by rw [hru, fcs_len]; exact sizeTRow
      have SR : Hid (∀ w', Below wr.heap.size wr w' → w'.rangeAt w.heap.size (8 + c * 8) rt ∧ w'.rangeAt (w.heap.size + 1) (8 + c * 8) ru) := Lib.hid (fun w' hb => by
        refine ⟨?_, ?_⟩
        · rw [hrt]; exact rowAt_succ (L := L) (t := 28) (by rw [← HA.out]; exact HB.out.1.keep hb) hlt
        · rw [hru]; exact rowAt_succ (L := M) (t := 28) (by rw [← HB0.out]; exact HB.out.2.1.keep hb) hlt)
      have HCV := Lib.hid (fun W => tab_covers (rowOf f (c + 1)) (rowOf g (c + 1)) W)
      rw [← hrt, ← hru] at HCV
      obtain ⟨q, hq⟩ : ∃ q, q = decide (CovP (rowOf f (c + 1)) (rowOf g (c + 1)) 8) := ⟨_, rfl⟩
      rw [← hq] at HCV
      have HQ := Lib.hid hq
      have K4 : Hid (Below wr.heap.size wr wr.drew) := Lib.hid (Below.refl _ _).drew
      have hdec : decide ((c : Int) < 16) = true := decide_eq_true (by omega)
      have hci : (c : Int) < 16 := by omega
      have hw1 : IntKind.i64.wrap ((c : Int) + 1) = ((c + 1 : Nat) : Int) := by rw [IntWalk.i64_in _ (by omega)]; omega
      clear hrt hru hq
      go_upto_region 4 with fail
      refine wp_region_noPanic ?_
      refine wp_region_held_drew (S := fun w' => w'.rangeAt w.heap.size (8 + c * 8) rt ∧ w'.rangeAt (w.heap.size + 1) (8 + c * 8) ru) (by kernel_rfl) ?_ (fun hHeld => ?_)
      · exact SR.out _ K4.out
      refine wpAnyH_take (i := 0) (oi := tc4o0) (v := ?_) rfl (by kernel_rfl) (by kernel_rfl) (by kernel_rfl) (fun _ _ _ h => h) (Or.inl ⟨by rfl, ?_⟩) (by assumption) ?_
      rotate_left
      · (intro w hSw; (try dsimp only at hSw); (try dsimp only [tc4o0]); go_simp; try (with_reducible rfl))
      (try simp only [Act.put, List.setIfInBounds_toArray, List.set_cons_zero, List.set_cons_succ])
      refine wpAnyH_take (i := 1) (oi := tc4o1) (v := ?_) rfl (by kernel_rfl) (by kernel_rfl) (by kernel_rfl) (fun _ _ _ h => h) (Or.inl ⟨by rfl, ?_⟩) (by assumption) ?_
      rotate_left
      · (intro w hSw; (try dsimp only at hSw); (try dsimp only [tc4o1]); go_simp; try (with_reducible rfl))
      (try simp only [Act.put, List.setIfInBounds_toArray, List.set_cons_zero, List.set_cons_succ])
      refine wpAnyH_take (i := 2) (oi := tc4o2) (v := ?_) rfl (by kernel_rfl) (by kernel_rfl) (by kernel_rfl) (fun _ _ _ h => h) (Or.inl ⟨by rfl, ?_⟩) (by assumption) ?_
      rotate_left
      · (intro w hSw; (try dsimp only at hSw); (try dsimp only [tc4o2]); go_simp; try (with_reducible rfl))
      (try simp only [Act.put, List.setIfInBounds_toArray, List.set_cons_zero, List.set_cons_succ])
      refine wpAnyH_take (i := 3) (oi := tc4o3) (v := _) rfl (by kernel_rfl) (by kernel_rfl) (by kernel_rfl) (fun _ _ _ h => h) (yieldsIf_load_mid ?_ 24 _ rfl w.heap.size (8 + c * 8) rfl rt _ (fun _ (h : _ ∧ _) => h.1) Try.underlying24 rfl hst) (by assumption) ?_
      · rfl
      (try simp only [Act.put, List.setIfInBounds_toArray, List.set_cons_zero, List.set_cons_succ])
      refine wpAnyH_take (i := 4) (oi := tc4o4) (v := ?_) rfl (by kernel_rfl) (by kernel_rfl) (by kernel_rfl) (fun _ _ _ h => h) (Or.inl ⟨by rfl, ?_⟩) (by assumption) ?_
      rotate_left
      · (intro w hSw; (try dsimp only at hSw); (try dsimp only [tc4o4]); go_simp; try (with_reducible rfl))
      (try simp only [Act.put, List.setIfInBounds_toArray, List.set_cons_zero, List.set_cons_succ])
      refine wpAnyH_take (i := 5) (oi := tc4o5) (v := ?_) rfl (by kernel_rfl) (by kernel_rfl) (by kernel_rfl) (fun _ _ _ h => h) (Or.inl ⟨by rfl, ?_⟩) (by assumption) ?_
      rotate_left
      · (intro w hSw; (try dsimp only at hSw); (try dsimp only [tc4o5]); go_simp; try (with_reducible rfl))
      (try simp only [Act.put, List.setIfInBounds_toArray, List.set_cons_zero, List.set_cons_succ])
      refine wpAnyH_take (i := 6) (oi := tc4o6) (v := ?_) rfl (by kernel_rfl) (by kernel_rfl) (by kernel_rfl) (fun _ _ _ h => h) (Or.inl ⟨by rfl, ?_⟩) (by assumption) ?_
      rotate_left
      · (intro w hSw; (try dsimp only at hSw); (try dsimp only [tc4o6]); go_simp; try (with_reducible rfl))
      (try simp only [Act.put, List.setIfInBounds_toArray, List.set_cons_zero, List.set_cons_succ])
      refine wpAnyH_take (i := 7) (oi := tc4o7) (v := _) rfl (by kernel_rfl) (by kernel_rfl) (by kernel_rfl) (fun _ _ _ h => h) (yieldsIf_load_mid ?_ 24 _ rfl (w.heap.size + 1) (8 + c * 8) rfl ru _ (fun _ (h : _ ∧ _) => h.2) Try.underlying24 rfl hsu) (by assumption) ?_
      · rfl
      (try simp only [Act.put, List.setIfInBounds_toArray, List.set_cons_zero, List.set_cons_succ])
      refine wpAnyH_ready (rs := [8]) (by kernel_rfl) (by simp) ?_
      refine AllReadyH.cons (o := tc4o8) rfl (fun K hK => ?_) AllReadyH.nil
      dsimp only [tc4o8]
      go_simp
      refine (HCV.out _).mono ?_
      rintro e w5 ⟨rfl, b5⟩
      have K5 := Lib.hid (K4.out.trans (b5.mono K4.out.size))
      clear b5
      (try go_wp2_with fail)
      refine hK.out _ _ ?_ (fun hHeld => ?_)
      · exact SR.out _ K5.out
      clear hK K
      (try simp only [Act.put, List.setIfInBounds_toArray, List.set_cons_zero, List.set_cons_succ])
      refine wpAnyH_take (i := 9) (oi := tc4o9) (v := ?_) rfl (by kernel_rfl) (by kernel_rfl) (by kernel_rfl) (fun _ _ _ h => h) (Or.inl ⟨by rfl, ?_⟩) (by assumption) ?_
      rotate_left
      · (intro w hSw; (try dsimp only at hSw); (try dsimp only [tc4o9]); go_simp; try (with_reducible rfl))
      (try simp only [Act.put, List.setIfInBounds_toArray, List.set_cons_zero, List.set_cons_succ])
      refine wpAnyH_done (by kernel_rfl) ?_ _
      refine NoPanic.normal ?_
      cases q with
      | false =>
        go_wp2_with fail
        go_ret
        exact ⟨by rw [decide_eq_false (fun h => absurd (HQ.out.trans (decide_eq_true (h (c + 1) (by omega)))) (by decide))]; rfl, HB.out.2.2.trans (K5.out.mono HB.out.2.2.size)⟩
      | true =>
        go_wp2_with fail
        go_roundw
        case rel => exact ⟨c + 1, by go_num, by omega, Lib.hid (HM.out.succ (of_decide_eq_true HQ.out.symm)), Lib.hid ⟨HB.out.1.keep K5.out, HB.out.2.1.keep K5.out, HB.out.2.2.trans (K5.out.mono HB.out.2.2.size)⟩⟩
        case measure => simp [intOf]; omega
    · obtain rfl : c = 16 := by omega
      have hdec : decide (((16 : Nat) : Int) < 16) = false := by decide
      obtain ⟨rt, hrt⟩ : ∃ rt, rt = fcs (rowOf f 0) 8 := ⟨_, rfl⟩
      obtain ⟨ru, hru⟩ : ∃ ru, ru = fcs (rowOf g 0) 8 := ⟨_, rfl⟩
      have hst : (Try.prog.info? 24).map (·.size) = some rt.length := by rw [hrt, fcs_len]; exact sizeTRow
      have hsu : (Try.prog.info? 24).map (·.size) = some ru.length := by rw [hru, fcs_len]; exact sizeTRow
      have R1 : Hid (wr.rangeAt w.heap.size 0 rt) := Lib.hid (by rw [hrt]; exact (show Blk wr w.heap.size 28 (tcs f L) by rw [← HA.out]; exact HB.out.1).rowAt (i := 0) (by omega))
      have R2 : Hid (wr.rangeAt (w.heap.size + 1) 0 ru) := Lib.hid (by rw [hru]; exact (show Blk wr (w.heap.size + 1) 28 (tcs g M) by rw [← HB0.out]; exact HB.out.2.1).rowAt (i := 0) (by omega))
      have HCV := Lib.hid (fun W => tab_covers (rowOf f 0) (rowOf g 0) W)
      rw [← hrt, ← hru] at HCV
      clear hrt hru
      go_wp2_with (first
        | (refine wpList_load_mid rfl _ _ rfl w.heap.size 0 rfl rt _ R1.out Try.underlying24 rfl hst ?_)
        | (refine wpList_load_mid rfl _ _ rfl (w.heap.size + 1) 0 rfl ru _ R2.out Try.underlying24 rfl hsu ?_))
      refine (HCV.out _).mono ?_
      rintro e w5 ⟨rfl, b5⟩
      have B5 := Lib.hid b5
      clear b5
      obtain ⟨q, hq⟩ : ∃ q, q = decide (CovP (rowOf f 0) (rowOf g 0) 8) := ⟨_, rfl⟩
      have HQ := Lib.hid hq
      rw [← hq]
      clear hq
      go_wp2_with fail
      go_ret
      refine ⟨?_, HB.out.2.2.trans (B5.out.mono HB.out.2.2.size)⟩
      show Ending.returned (.bool q) = _
      rw [HQ.out]
      congr 2
      exact Bool.eq_iff_iff.2 ⟨fun h => decide_eq_true (HM.out.all (of_decide_eq_true h)), fun h => decide_eq_true (of_decide_eq_true h 0 (by omega))⟩

/-- The document's Covers: a part of the way. -/
def CovD (f g : Nat → Nat) (i k : Nat) : Prop := CovT f g i ∧ CovP (rowOf f i) (rowOf g i) k

set_option maxHeartbeats 8000000 in
theorem ref_Covers (f g : Nat → Nat) (L M : Nat) (w : World) :
    Calls Try.prog 18 #[.agg (tcs f L).toArray, .agg (tcs g M).toArray] w fun e w' => e = .returned (.bool (decide (CovT f g 17))) ∧ Below w.heap.size w w' := by
  have RW1 := Lib.hid (fun i (hi : i ≤ 16) W => ref_row f L i W hi)
  have RW2 := Lib.hid (fun i (hi : i ≤ 16) W => ref_row g M i W hi)
  have hsa : (Try.prog.info? 34).map (·.size) = some (tcs f L).length := by rw [tcs_len]; exact sizeRTab
  have hsb : (Try.prog.info? 34).map (·.size) = some (tcs g M).length := by rw [tcs_len]; exact sizeRTab
  obtain ⟨a, ha⟩ : ∃ a, a = tcs f L := ⟨_, rfl⟩
  obtain ⟨b, hb⟩ : ∃ b, b = tcs g M := ⟨_, rfl⟩
  rw [← ha] at RW1 hsa
  rw [← hb] at RW2 hsb
  rw [← ha, ← hb]
  clear ha hb
  obtain ⟨W0, hW0⟩ : ∃ W0, W0 = (w.alloc (.cells a.toArray 34)).alloc (.cells b.toArray 34) := ⟨_, rfl⟩
  have B0 : Hid (Blk W0 w.heap.size 34 a ∧ Blk W0 (w.heap.size + 1) 34 b ∧ Below w.heap.size w W0) := Lib.hid (by
    rw [hW0]
    refine ⟨(show Blk _ _ _ _ from heap_alloc_new w _).alloc _, ?_, ((Below.refl _ _).alloc (Nat.le_refl _) _).alloc (by simp) _⟩
    have h := (show Blk _ _ _ _ from heap_alloc_new (w.alloc (.cells a.toArray 34)) (.cells b.toArray 34))
    rw [World.size_alloc] at h
    exact h)
  go_enter Try.func18, Try.ntmps18
  go_wp2_with fail
  rw [← hW0]
  clear hW0
  go_loopw [5] (fun iv wr => ∃ i : Nat, iv = .int .i64 (i : Int) ∧ i ≤ 17 ∧ Hid (CovT f g i) ∧ Hid (Blk wr w.heap.size 34 a ∧ Blk wr (w.heap.size + 1) 34 b ∧ Below w.heap.size w wr)) (fun iv _ => 17 - (intOf iv).toNat)
  case atStart => exact ⟨0, rfl, Nat.zero_le _, Lib.hid (fun i hi => absurd hi (Nat.not_lt_zero _)), B0⟩
  case round =>
    obtain ⟨i, rfl, hi, HM, HB⟩ := hrel
    by_cases hlt : i < 17
    · have hdec : decide ((i : Int) < 17) = true := decide_eq_true (by omega)
      have hw1 : IntKind.i64.wrap ((i : Int) + 1) = ((i + 1 : Nat) : Int) := by rw [IntWalk.i64_in _ (by omega)]; omega
      have H1 := Lib.hid (fun W => RW1.out i (by omega) W)
      have H2 := Lib.hid (fun W => RW2.out i (by omega) W)
      go_wp2_with fail
      go_loopw [6] (fun iv wr => ∃ k : Nat, iv = .int .i64 (k : Int) ∧ k ≤ 8 ∧ Hid (CovP (rowOf f i) (rowOf g i) k) ∧ Hid (Blk wr w.heap.size 34 a ∧ Blk wr (w.heap.size + 1) 34 b ∧ Below w.heap.size w wr)) (fun iv _ => 8 - (intOf iv).toNat)
      case atStart => exact ⟨0, rfl, Nat.zero_le _, Lib.hid (fun i hi => absurd hi (Nat.not_lt_zero _)), HB⟩
      case round =>
        obtain ⟨k, rfl, hk, HN, HC⟩ := hrel
        by_cases hlk : k < 8
        · obtain ⟨x, hx⟩ : ∃ x, x = rowOf g i k := ⟨_, rfl⟩
          obtain ⟨y, hy⟩ : ∃ y, y = rowOf f i k := ⟨_, rfl⟩
          have HX := Lib.hid hx
          have HY := Lib.hid hy
          obtain ⟨ru, hru⟩ : ∃ ru, ru = fcs (rowOf g i) 8 := ⟨_, rfl⟩
          obtain ⟨rt, hrt⟩ : ∃ rt, rt = fcs (rowOf f i) 8 := ⟨_, rfl⟩
          have HT := H1
          have HU := H2
          rw [← hrt] at HT
          rw [← hru] at HU
          have ix : ∀ W, (Instr.index 31 (.agg ru.toArray) (.int .i64 (k : Int))).run Try.prog W = .ok (.int .u32 (x : Int)) W := fun W => run_index_row _ _ _ hlk (by rw [hru, hx]; exact fcs_get _ 8 k hlk) W
          have iy : ∀ W, (Instr.index 31 (.agg rt.toArray) (.int .i64 (k : Int))).run Try.prog W = .ok (.int .u32 (y : Int)) W := fun W => run_index_row _ _ _ hlk (by rw [hrt, hy]; exact fcs_get _ 8 k hlk) W
          have SR : Hid (∀ w', Below wr.heap.size wr w' → w'.rangeAt w.heap.size 0 a ∧ w'.rangeAt (w.heap.size + 1) 0 b) := Lib.hid (fun w' hb => ⟨(HC.out.1.keep hb).whole, (HC.out.2.1.keep hb).whole⟩)
          have K4 : Hid (Below wr.heap.size wr wr.drew) := Lib.hid (Below.refl _ _).drew
          have hdk : decide ((k : Int) < 8) = true := decide_eq_true (by omega)
          have hw2 : IntKind.i64.wrap ((k : Int) + 1) = ((k + 1 : Nat) : Int) := by rw [IntWalk.i64_in _ (by omega)]; omega
          obtain ⟨q, hq⟩ : ∃ q, q = decide (y < x) := ⟨_, rfl⟩
          have HQ := Lib.hid hq
          have hgt : decide (y < x) = q := hq.symm
          clear hx hy hru hrt hq
          go_upto_region 7 with fail
          refine wp_region_noPanic ?_
          refine wp_region_held_drew (S := fun w' => w'.rangeAt w.heap.size 0 a ∧ w'.rangeAt (w.heap.size + 1) 0 b) (by kernel_rfl) ?_ (fun hHeld => ?_)
          · exact SR.out _ K4.out
          refine wpAnyH_take (i := 0) (oi := rc7o0) (v := _) rfl (by kernel_rfl) (by kernel_rfl) (by kernel_rfl) (fun _ _ _ h => h) (yieldsIf_load_mid ?_ 34 _ rfl (w.heap.size + 1) 0 rfl b _ (fun _ (h : _ ∧ _) => h.2) Try.underlying34 rfl hsb) (by assumption) ?_
          · rfl
          (try simp only [Act.put, List.setIfInBounds_toArray, List.set_cons_zero, List.set_cons_succ])
          refine wpAnyH_take (i := 1) (oi := rc7o1) (v := ?_) rfl (by kernel_rfl) (by kernel_rfl) (by kernel_rfl) (fun _ _ _ h => h) (Or.inl ⟨by rfl, ?_⟩) (by assumption) ?_
          rotate_left
          · (intro w hSw; (try dsimp only at hSw); (try dsimp only [rc7o1]); go_simp; try (with_reducible rfl))
          (try simp only [Act.put, List.setIfInBounds_toArray, List.set_cons_zero, List.set_cons_succ])
          refine wpAnyH_take (i := 3) (oi := rc7o3) (v := ?_) rfl (by kernel_rfl) (by kernel_rfl) (by kernel_rfl) (fun _ _ _ h => h) (Or.inl ⟨by rfl, ?_⟩) (by assumption) ?_
          rotate_left
          · (intro w hSw; (try dsimp only at hSw); (try dsimp only [rc7o3]); go_simp; try (with_reducible rfl))
          (try simp only [Act.put, List.setIfInBounds_toArray, List.set_cons_zero, List.set_cons_succ])
          refine wpAnyH_take (i := 5) (oi := rc7o5) (v := _) rfl (by kernel_rfl) (by kernel_rfl) (by kernel_rfl) (fun _ _ _ h => h) (yieldsIf_load_mid ?_ 34 _ rfl w.heap.size 0 rfl a _ (fun _ (h : _ ∧ _) => h.1) Try.underlying34 rfl hsa) (by assumption) ?_
          · rfl
          (try simp only [Act.put, List.setIfInBounds_toArray, List.set_cons_zero, List.set_cons_succ])
          refine wpAnyH_take (i := 6) (oi := rc7o6) (v := ?_) rfl (by kernel_rfl) (by kernel_rfl) (by kernel_rfl) (fun _ _ _ h => h) (Or.inl ⟨by rfl, ?_⟩) (by assumption) ?_
          rotate_left
          · (intro w hSw; (try dsimp only at hSw); (try dsimp only [rc7o6]); go_simp; try (with_reducible rfl))
          (try simp only [Act.put, List.setIfInBounds_toArray, List.set_cons_zero, List.set_cons_succ])
          refine wpAnyH_take (i := 8) (oi := rc7o8) (v := ?_) rfl (by kernel_rfl) (by kernel_rfl) (by kernel_rfl) (fun _ _ _ h => h) (Or.inl ⟨by rfl, ?_⟩) (by assumption) ?_
          rotate_left
          · (intro w hSw; (try dsimp only at hSw); (try dsimp only [rc7o8]); go_simp; try (with_reducible rfl))
          (try simp only [Act.put, List.setIfInBounds_toArray, List.set_cons_zero, List.set_cons_succ])
          refine wpAnyH_ready (rs := [2]) (by kernel_rfl) (by simp) ?_
          refine AllReadyH.cons (o := rc7o2) rfl (fun K hK => ?_) AllReadyH.nil
          dsimp only [rc7o2]
          go_simp
          refine (HU.out _).mono ?_
          rintro e w5 ⟨rfl, b5⟩
          have K5 := Lib.hid (K4.out.trans (b5.mono K4.out.size))
          clear b5
          (try go_wp2_with fail)
          refine hK.out _ _ ?_ (fun hHeld => ?_)
          · exact SR.out _ K5.out
          clear hK K
          (try simp only [Act.put, List.setIfInBounds_toArray, List.set_cons_zero, List.set_cons_succ])
          refine wpAnyH_take (i := 4) (oi := rc7o4) (v := ?_) rfl (by kernel_rfl) (by kernel_rfl) (by kernel_rfl) (fun _ _ _ h => h) (Or.inl ⟨by rfl, ?_⟩) (by assumption) ?_
          rotate_left
          · (intro w hSw; (try dsimp only at hSw); (try dsimp only [rc7o4]); go_simp; try (with_reducible rfl))
          (try simp only [Act.put, List.setIfInBounds_toArray, List.set_cons_zero, List.set_cons_succ])
          refine wpAnyH_ready (rs := [7]) (by kernel_rfl) (by simp) ?_
          refine AllReadyH.cons (o := rc7o7) rfl (fun K hK => ?_) AllReadyH.nil
          dsimp only [rc7o7]
          go_simp
          refine (HT.out _).mono ?_
          rintro e w6 ⟨rfl, b6⟩
          have K6 := Lib.hid (K5.out.trans (b6.mono K5.out.size))
          clear b6
          (try go_wp2_with fail)
          refine hK.out _ _ ?_ (fun hHeld => ?_)
          · exact SR.out _ K6.out
          clear hK K
          (try simp only [Act.put, List.setIfInBounds_toArray, List.set_cons_zero, List.set_cons_succ])
          refine wpAnyH_take (i := 9) (oi := rc7o9) (v := ?_) rfl (by kernel_rfl) (by kernel_rfl) (by kernel_rfl) (fun _ _ _ h => h) (Or.inl ⟨by rfl, ?_⟩) (by assumption) ?_
          rotate_left
          · (intro w hSw; (try dsimp only at hSw); (try dsimp only [rc7o9]); go_simp; try (with_reducible rfl))
          (try simp only [Act.put, List.setIfInBounds_toArray, List.set_cons_zero, List.set_cons_succ])
          refine wpAnyH_take (i := 10) (oi := rc7o10) (v := ?_) rfl (by kernel_rfl) (by kernel_rfl) (by kernel_rfl) (fun _ _ _ h => h) (Or.inl ⟨by rfl, ?_⟩) (by assumption) ?_
          rotate_left
          · (intro w hSw; (try dsimp only at hSw); (try dsimp only [rc7o10]); go_simp; try (with_reducible rfl))
          (try simp only [Act.put, List.setIfInBounds_toArray, List.set_cons_zero, List.set_cons_succ])
          refine wpAnyH_done (by kernel_rfl) ?_ _
          refine NoPanic.normal ?_
          cases q with
          | true =>
            go_wp2_with fail
            go_ret
            exact ⟨by rw [decide_eq_false (fun h => by have h1 := of_decide_eq_true HQ.out.symm; have h2 := h i hlt k hlk; rw [← HX.out, ← HY.out] at h2; omega)]; rfl, HC.out.2.2.trans (K6.out.mono HC.out.2.2.size)⟩
          | false =>
            go_wp2_with fail
            go_roundw
            case rel => exact ⟨k + 1, by go_num, by omega, Lib.hid (HN.out.succ (by rw [← HX.out, ← HY.out]; have := of_decide_eq_false HQ.out.symm; omega)), Lib.hid ⟨HC.out.1.keep K6.out, HC.out.2.1.keep K6.out, HC.out.2.2.trans (K6.out.mono HC.out.2.2.size)⟩⟩
            case measure => simp [intOf]; omega
        · obtain rfl : k = 8 := by omega
          have hdk : decide (((8 : Nat) : Int) < 8) = false := by decide
          go_wp2_with fail
          go_roundw
          case rel =>
            refine ⟨i + 1, by go_num, by omega, Lib.hid (fun j hj => ?_), HC⟩
            rcases Nat.lt_succ_iff_lt_or_eq.1 hj with h2 | h2
            · exact HM.out j h2
            · rw [h2]; exact HN.out
          case measure => simp [intOf]; omega
    · obtain rfl : i = 17 := by omega
      have hdec : decide (((17 : Nat) : Int) < 17) = false := by decide
      go_wp2_with fail
      go_ret
      exact ⟨by rw [decide_eq_true HM.out]; rfl, HB.out.2.2⟩

end Go.Proofs.Ythoahengdajpcaa
