/- A table as the document has it; the example. -/
import Derived.Test.YthoahengdajpcaaTabE
namespace Go.Proofs.Ythoahengdajpcaa
open Go.RowKit
set_option maxRecDepth 100000

theorem wpList_build_isT {P : Program} {ops : Array Oper} {rest : List Oper} {o : Oper} {a : Act} {w : World} {Q : Exit → Act → World → Prop} (hg : o.guard = none) (t : TypeId) (parts : Array (Nat × Operand)) (ho : o.op = .build t parts)
    (vals : Array (Nat × Value)) (hv : (parts.map fun (i, x) => (i, a.eval x)) = vals) (v : Value) (hrun : (Instr.build t vals).run P w = .ok v w)
    (h : wpList P ops Q rest (a.put o.dst v) w) : wpList P ops Q (o :: rest) a w :=
  wpList_plain hg fun _ hK => by
    have h2 := hK _ _ h
    unfold Oper.wp execOp
    simp only [ho, Sem.run_bind, hv, hrun, Result.andThen_ok]
    exact h2

def headOf (f : Nat → Nat) (n : Nat) : Nat → Nat := fun j => if j < 8 * (n + 1) then f j else 0
theorem built_of (f : Nat → Nat) (L : Nat) : Try.prog.built 34 [(0, .agg (fcs (rowOf f 0) 8).toArray), (2, .int .u64 (L : Int))] = some (tcs (headOf f 0) L).toArray := by kernel_rfl
theorem built_zero : Try.prog.built 28 [] = some (tcs (fun _ => 0) 0).toArray := by kernel_rfl
theorem built_rzero : Try.prog.built 34 [] = some (tcs (fun _ => 0) 0).toArray := by kernel_rfl
theorem built_row : Try.prog.built 24 [] = some (fcs (fun _ => 0) 8).toArray := by kernel_rfl
theorem headOf_step (f : Nat → Nat) (L i : Nat) : tcs (setR (headOf f i) (i + 1) (rowOf f (i + 1))) L = tcs (headOf f (i + 1)) L := tcs_congr (fun j _ => by
  unfold setR headOf rowOf
  by_cases h : 8 * (i + 1) ≤ j ∧ j < 8 * (i + 1) + 8
  · rw [if_pos h, if_pos (by omega)]
    congr 1; omega
  · rw [if_neg h]
    by_cases h2 : j < 8 * (i + 1)
    · rw [if_pos h2, if_pos (by omega)]
    · rw [if_neg h2, if_neg (by omega)]) rfl
theorem headOf_all (f : Nat → Nat) (L : Nat) : tcs (headOf f 16) L = tcs f L := tcs_congr (fun j hj => by unfold headOf; rw [if_pos (by omega)]) rfl
theorem setRow_at {w : World} {g t L j : Nat} {f : Nat → Nat} (h : Blk w g t (tcs f L)) (hj : j < 16) (r : Nat → Nat) : Blk (w.setCells g (8 + j * 8) (fcs r 8).toArray.toList) g t (tcs (setR f (j + 1) r) L) := by
  have := h.setRow_ (i := j + 1) (by omega) r
  rw [show 8 * (j + 1) = 8 + j * 8 from by omega] at this
  exact this

set_option maxHeartbeats 8000000 in
theorem law_Of (f : Nat → Nat) (L : Nat) (w : World) :
    Calls Try.prog 8 #[.agg (tcs f L).toArray] w fun e w' => e = .returned (.agg (tcs f L).toArray) ∧ Below w.heap.size w w' := by
  have HB0 := Lib.hid (fun W => run_build (P := Try.prog) W 34 #[(0, .agg (fcs (rowOf f 0) 8).toArray), (2, .int .u64 (L : Int))] _ (built_of f L))
  have hz := zeroRTab
  obtain ⟨Z, hZ⟩ : ∃ Z, Z = tcs (fun _ => 0) 0 := ⟨_, rfl⟩
  have hZl : Z.length = 137 := by rw [hZ]; exact tcs_len _ _
  rw [← hZ] at hz
  clear hZ
  have hlast : (w.alloc (.cells (tcs f L).toArray 28) |>.alloc (.cells Z.toArray 34)).cell? ⟨w.heap.size, 136, none⟩ = some (.int .u64 (L : Int)) := by
    rw [((show Blk _ _ _ _ from heap_alloc_new w (.cells (tcs f L).toArray 28)).alloc _).cell, tcs_last]
  have RG := Lib.hid (((show Blk _ _ _ _ from heap_alloc_new w (.cells (tcs f L).toArray 28)).alloc (.cells Z.toArray 34)).rowAt (i := 0) (by omega))
  obtain ⟨h0, hh0⟩ : ∃ h0, h0 = tcs (headOf f 0) L := ⟨_, rfl⟩
  obtain ⟨r0, hr0⟩ : ∃ r0, r0 = fcs (rowOf f 0) 8 := ⟨_, rfl⟩
  obtain ⟨a, ha⟩ : ∃ a, a = tcs f L := ⟨_, rfl⟩
  have hrl : (Try.prog.info? 24).map (·.size) = some r0.length := by rw [hr0, fcs_len]; exact sizeTRow
  have hhl : h0.length = 137 := by rw [hh0]; exact tcs_len _ _
  have hal : a.length = 137 := by rw [ha]; exact tcs_len _ _
  have hho : h0.toArray.all (·.oneCell') = true := all_oneCell_toArray (by rw [hh0]; exact tcs_one _ _)
  have hhs : (Try.prog.info? 34).map (·.size) = some h0.toArray.size := by rw [List.size_toArray, hhl]; exact sizeRTab
  rw [← hh0, ← hr0] at HB0
  rw [← hr0, ← ha] at RG
  rw [← ha] at hlast ⊢
  have HH := Lib.hid hh0
  have HA := Lib.hid ha
  clear hh0 hr0 ha
  obtain ⟨W0, hW0⟩ : ∃ W0, W0 = (w.alloc (.cells a.toArray 28)).alloc (.cells Z.toArray 34) := ⟨_, rfl⟩
  have hs0 : W0.heap.size = w.heap.size + 2 := by rw [hW0]; simp
  have B0 : Hid (Blk W0 w.heap.size 28 a ∧ Blk W0 (w.heap.size + 1) 34 Z ∧ Below w.heap.size w W0) := Lib.hid (by
    rw [hW0]
    refine ⟨(show Blk _ _ _ _ from heap_alloc_new w _).alloc _, ?_, ((Below.refl _ _).alloc (Nat.le_refl _) _).alloc (by simp) _⟩
    have h := (show Blk _ _ _ _ from heap_alloc_new (w.alloc (.cells a.toArray 28)) (.cells Z.toArray 34))
    rw [World.size_alloc] at h
    exact h)
  rw [← hW0] at RG hlast
  have TH1 : Hid ((W0.alloc (.cells Z.toArray 34)).there W0.heap.size 0 h0.toArray.size) := Lib.hid ((show Blk _ _ _ _ from heap_alloc_new W0 (.cells Z.toArray 34)).thereT (by rw [hZl, show h0.toArray.size = 137 by rw [List.size_toArray, hhl]]; omega))
  have E1 : Hid ((W0.alloc (.cells Z.toArray 34)).setCells W0.heap.size 0 h0.toArray.toList = W0.alloc (.cells h0.toArray 34)) := Lib.hid (alloc_setCells W0 _ Z h0 (by rw [hhl, hZl]))
  have HS0 := Lib.hid hs0
  have HZL := Lib.hid hZl
  have HAL := Lib.hid hal
  clear hhl hZl hs0 hal
  go_enter Try.func8, Try.ntmps8
  go_upto_region 1 with fail
  rw [← hW0]
  clear hW0
  go_upto_region 2 with (first
    | (refine wpList_build_isT rfl 34 #[(0, Operand.tmp 6), (2, Operand.tmp 8)] rfl #[(0, .agg r0.toArray), (2, .int .u64 (L : Int))] (by simp [Act.eval]) (.agg h0.toArray) (HB0.out _) ?_)
    | (refine wpList_load_mid rfl _ _ rfl w.heap.size 0 rfl r0 _ RG.out Try.underlying24 rfl hrl ?_)
    | (refine wpList_store_mid rfl _ _ _ rfl W0.heap.size 0 h0.toArray rfl rfl TH1.out hhs hho ?_))
  refine wp_worldT E1.out.symm ?_
  obtain ⟨b, hb⟩ : ∃ b, b = W0.heap.size := ⟨_, rfl⟩
  have HBS : Hid (b = w.heap.size + 2) := Lib.hid (by rw [hb]; exact HS0.out)
  obtain ⟨W1, hW1⟩ : ∃ W1, W1 = W0.alloc (.cells h0.toArray 34) := ⟨_, rfl⟩
  have B1 : Hid (Blk W1 w.heap.size 28 a ∧ Blk W1 (w.heap.size + 1) 34 Z ∧ Blk W1 b 34 (tcs (headOf f 0) L) ∧ Below w.heap.size w W1) := Lib.hid (by
    rw [hW1, ← HH.out]
    exact ⟨B0.out.1.alloc _, B0.out.2.1.alloc _, by rw [hb]; exact heap_alloc_new W0 _, B0.out.2.2.alloc (by rw [HS0.out]; omega) _⟩)
  rw [← hb]
  refine wp_worldT hW1 ?_
  clear hW1 hb hlast
  go_wp2_with fail
  go_loopw [10] (fun iv wr => ∃ k : Nat, iv = .int .i64 (k : Int) ∧ k ≤ 16 ∧ Hid (Blk wr w.heap.size 28 a ∧ Blk wr (w.heap.size + 1) 34 Z ∧ Blk wr b 34 (tcs (headOf f k) L) ∧ Below w.heap.size w wr)) (fun iv _ => 16 - (intOf iv).toNat)
  case atStart => exact ⟨0, rfl, Nat.zero_le _, B1⟩
  case round =>
    obtain ⟨c, rfl, hc, HB⟩ := hrel
    by_cases hlt : c < 16
    · have hdec : decide ((c : Int) < 16) = true := decide_eq_true (by omega)
      have hci : (c : Int) < 16 := by omega
      have hw1 : IntKind.i64.wrap ((c : Int) + 1) = ((c + 1 : Nat) : Int) := by rw [IntWalk.i64_in _ (by omega)]; omega
      obtain ⟨r, hr⟩ : ∃ r, r = fcs (rowOf f (c + 1)) 8 := ⟨_, rfl⟩
      have HR := Lib.hid hr
      have hrs : (Try.prog.info? 24).map (·.size) = some r.length := by rw [hr, fcs_len]; exact sizeTRow
      have hrs2 : (Try.prog.info? 31).map (·.size) = some r.toArray.size := by rw [List.size_toArray, hr, fcs_len]; exact sizeRRow
      have hro : r.toArray.all (·.oneCell') = true := all_oneCell_toArray (by rw [hr]; exact fcs_one _ _)
      have RA : Hid (wr.rangeAt w.heap.size (8 + c * 8) r) := Lib.hid (by rw [hr]; exact rowAt_succ (L := L) (t := 28) (by rw [← HA.out]; exact HB.out.1) hlt)
      have TH : Hid (wr.there b (8 + c * 8) r.toArray.size) := Lib.hid (HB.out.2.2.1.thereT (by rw [tcs_len, show r.toArray.size = 8 by rw [List.size_toArray, hr, fcs_len]]; omega))
      clear hr
      go_wp2_with (first
        | (refine wpList_load_mid rfl _ _ rfl w.heap.size (8 + c * 8) rfl r _ RA.out Try.underlying24 rfl hrs ?_)
        | (refine wpList_store_mid rfl _ _ _ rfl b (8 + c * 8) r.toArray rfl rfl TH.out hrs2 hro ?_))
      go_roundw
      case rel =>
        refine ⟨c + 1, by go_num, by omega, Lib.hid ⟨HB.out.1.farT ?_ _ _, HB.out.2.1.farT ?_ _ _, ?_, Below.setCellsT HB.out.2.2.2 ?_ _ _⟩⟩
        · rw [HBS.out]; omega
        · rw [HBS.out]; omega
        · rw [← headOf_step, HR.out]
          exact setRow_at HB.out.2.2.1 hlt _
        · rw [HBS.out]; omega
      case measure => simp [intOf]; omega
    · obtain rfl : c = 16 := by omega
      have hdec : decide (((16 : Nat) : Int) < 16) = false := by decide
      have BB : Hid (Blk wr b 34 a) := Lib.hid (by have h := HB.out.2.2.1; rw [headOf_all, ← HA.out] at h; exact h)
      have RA := Lib.hid BB.out.whole
      have hsa : (Try.prog.info? 34).map (·.size) = some a.length := by rw [HAL.out]; exact sizeRTab
      have hsa2 : (Try.prog.info? 34).map (·.size) = some a.toArray.size := by rw [List.size_toArray, HAL.out]; exact sizeRTab
      have hao : a.toArray.all (·.oneCell') = true := all_oneCell_toArray (by rw [HA.out]; exact tcs_one _ _)
      have TH : Hid (wr.there (w.heap.size + 1) 0 a.toArray.size) := Lib.hid (HB.out.2.1.thereT (by rw [HZL.out, show a.toArray.size = 137 by rw [List.size_toArray, HAL.out]]; omega))
      have FIN : Hid (Blk (wr.setCells (w.heap.size + 1) 0 a.toArray.toList) (w.heap.size + 1) 34 a) := Lib.hid (HB.out.2.1.setWhole a (by rw [HAL.out, HZL.out]))
      go_wp2_with (first
        | (refine wpList_load_mid rfl _ _ rfl b 0 rfl a _ RA.out Try.underlying34 rfl hsa ?_)
        | (refine wpList_store_mid rfl _ _ _ rfl (w.heap.size + 1) 0 a.toArray rfl rfl TH.out hsa2 hao ?_))
      refine bodyPost_ret (v := .agg a.toArray) ?_ rfl ⟨rfl, Below.setCellsT HB.out.2.2.2 (by omega) _ _⟩
      exact results_cell_row rfl _ _ (w.heap.size + 1) _ a.toArray (0, 0) _ rfl FIN.out Try.underlying34 rfl hsa2

end Go.Proofs.Ythoahengdajpcaa
