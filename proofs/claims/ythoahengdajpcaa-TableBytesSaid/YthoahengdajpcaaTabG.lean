/- Operations on whole tables that are guarded; the example. -/
import Derived.Test.YthoahengdajpcaaTabF
namespace Go.Proofs.Ythoahengdajpcaa
open Go.RowKit
set_option maxRecDepth 100000

theorem wpList_load_midG {P : Program} {w : World} {ops : Array Oper} {rest : List Oper} {op : Oper} {a : Act} {Q : Exit → Act → World → Prop} (hw : Region.wanted op (yielded ops a.tmps) = true) (ty : TypeId) (x : Operand) (ho : op.op = .load ty x)
    (b o : Nat) (hx : a.eval x = .pointer (some ⟨b, o, none⟩)) (cs : List Value) (d : TypeDesc) (hc : w.rangeAt b o cs)
    (hu : P.underlying ty = some d) (hd : d.isRow = true) (hi : (P.info? ty).map (·.size) = some cs.length)
    (h : wpList P ops Q rest (a.put op.dst (.agg cs.toArray)) w) : wpList P ops Q (op :: rest) a w :=
  wpList_step fun K hK => by rw [if_pos hw]; exact wp_load_mid ty x ho b o hx cs d hc hu hd hi (hK _ _ h)
theorem wpList_build_isG {P : Program} {w : World} {ops : Array Oper} {rest : List Oper} {o : Oper} {a : Act} {Q : Exit → Act → World → Prop} (hw : Region.wanted o (yielded ops a.tmps) = true) (t : TypeId) (parts : Array (Nat × Operand)) (ho : o.op = .build t parts)
    (vals : Array (Nat × Value)) (hv : (parts.map fun (i, x) => (i, a.eval x)) = vals) (v : Value) (hrun : (Instr.build t vals).run P w = .ok v w)
    (h : wpList P ops Q rest (a.put o.dst v) w) : wpList P ops Q (o :: rest) a w :=
  wpList_step fun K hK => by
    rw [if_pos hw]
    have h2 := hK _ _ h
    unfold Oper.wp execOp
    simp only [ho, Sem.run_bind, hv, hrun, Result.andThen_ok]
    exact h2
theorem wpList_bin_isG {P : Program} {w : World} {ops : Array Oper} {rest : List Oper} {o : Oper} {a : Act} {Q : Exit → Act → World → Prop} (hw : Region.wanted o (yielded ops a.tmps) = true) (op : BinOp) (t u : TypeId) (x y : Operand) (ho : o.op = .binOp op t x y u)
    (xs ys : Array Value) (hx : a.eval x = .agg xs) (hy : a.eval y = .agg ys) (hm : P.eqGuardType P.depth t = false) (v : Value) (hrun : (binOp op t (.agg xs) (.agg ys)).run P w = .ok v w)
    (h : wpList P ops Q rest (a.put o.dst v) w) : wpList P ops Q (o :: rest) a w :=
  wpList_step fun K hK => by
    rw [if_pos hw]
    have h2 := hK _ _ h
    unfold Oper.wp execOp
    simp only [ho, hx, hy, Sem.run_bind, run_eqGuard_agg w op t x y xs ys hm, hrun, Result.andThen_ok]
    exact h2
theorem guardT : Try.prog.eqGuardType Try.prog.depth 28 = false := by kernel_rfl
theorem guardRT : Try.prog.eqGuardType Try.prog.depth 34 = false := by kernel_rfl
theorem guardR : Try.prog.eqGuardType Try.prog.depth 24 = false := by kernel_rfl

theorem zeroTRow (w : World) : (zeroValue 24).run Try.prog w = .ok (.agg (fcs (fun _ => 0) 8).toArray) w := (zero_of_info infoTRow).1 w

set_option maxHeartbeats 8000000 in
theorem tab_Awake (w : World) :
    Calls Try.prog 7 #[] w fun e w' => e = .returned (.bool true) ∧ Below w.heap.size w w' := by
  have HBZ := Lib.hid (fun W => run_build (P := Try.prog) W 28 #[] _ built_zero)
  have HBR := Lib.hid (fun W => run_build (P := Try.prog) W 24 #[] _ built_row)
  have HADD := Lib.hid (fun W => tab_Add (fun _ => 0) 0 1 2 W Fits.zero)
  have HAW := Lib.hid (fun W => oct_Awake W)
  have hz := zeroTab
  have e2 : (addT (fun _ => 0) 1 2).2 = 0 := by decide
  have HC : Hid (∀ j, j < 136 → (tcs (addT (fun _ => 0) 1 2).1 0)[j]? = some (.int .u32 (if j = 18 ∨ j = 2 then 1 else 0))) := Lib.hid (fun j hj => by
    rw [tcs_get _ _ _ hj]
    have : (addT (fun _ => 0) 1 2).1 = upd (upd (fun _ => 0) 18 1) 2 1 := rfl
    rw [this]
    unfold upd
    by_cases h1 : j = 2
    · subst h1; rfl
    · rw [if_neg h1]
      by_cases h2 : j = 18
      · subst h2; rfl
      · rw [if_neg h2, if_neg (by omega)]; rfl)
  have hal : (tcs (addT (fun _ => 0) 1 2).1 0).length = 137 := tcs_len _ _
  have hao := tcs_one (addT (fun _ => 0) 1 2).1 0
  have HEQ := Lib.hid (fun W => binR (fun _ => 0) (fun _ => 0) true ⟨fun _ _ _ => rfl, fun _ => rfl⟩ W)
  have hrs : (Try.prog.info? 24).map (·.size) = some (fcs (fun _ => 0) 8).length := by rw [fcs_len]; exact sizeTRow
  have RG : Hid (∀ W b, Blk W b 28 (tcs (addT (fun _ => 0) 1 2).1 0) → W.rangeAt b 8 (fcs (fun _ => 0) 8)) := Lib.hid (fun W b h => by
    have h2 := h.rowAt (i := 1) (by omega)
    rw [show fcs (rowOf (addT (fun _ => 0) 1 2).1 1) 8 = fcs (fun _ => 0) 8 from by
      refine fcs_congr fun j hj => ?_
      have : (addT (fun _ => 0) 1 2).1 = upd (upd (fun _ => 0) 18 1) 2 1 := rfl
      rw [this]
      unfold rowOf upd
      rw [if_neg (by omega), if_neg (by omega)]] at h2
    exact h2)
  rw [e2] at HADD
  obtain ⟨Z, hZ⟩ : ∃ Z, Z = tcs (fun _ => 0) 0 := ⟨_, rfl⟩
  obtain ⟨R, hR⟩ : ∃ R, R = fcs (fun _ => 0) 8 := ⟨_, rfl⟩
  obtain ⟨a, ha⟩ : ∃ a, a = tcs (addT (fun _ => 0) 1 2).1 0 := ⟨_, rfl⟩
  have hZl : Z.length = 137 := by rw [hZ]; exact tcs_len _ _
  rw [← hZ] at hz HBZ HADD
  rw [← hR] at HBR HEQ hrs RG
  rw [← ha] at HADD HC hal hao RG
  clear hZ hR ha e2
  have has : (Try.prog.info? 28).map (·.size) = some a.toArray.size := by rw [List.size_toArray, hal]; exact sizeTab
  have ha1 : a.toArray.all (·.oneCell') = true := all_oneCell_toArray hao
  have TH : Hid (∀ W : World, (W.alloc (.cells Z.toArray 28)).there W.heap.size 0 a.toArray.size) := Lib.hid (fun W => (show Blk _ _ _ _ from heap_alloc_new W (.cells Z.toArray 28)).thereT (by rw [hZl, show a.toArray.size = 137 by rw [List.size_toArray, hal]]; omega))
  have E1 : Hid (∀ W : World, (W.alloc (.cells Z.toArray 28)).setCells W.heap.size 0 a.toArray.toList = W.alloc (.cells a.toArray 28)) := Lib.hid (fun W => alloc_setCells W _ Z a (by rw [hal, hZl]))
  clear hal hao hZl
  go_enter Try.func7, Try.ntmps7
  go_wp2_with (refine wpList_build_isT rfl 28 #[] rfl #[] (by simp) (.agg Z.toArray) (HBZ.out _) ?_)
  refine (HADD.out _).mono ?_
  rintro e w1 ⟨rfl, b1⟩
  have B1 := Lib.hid b1
  clear b1
  go_upto_region 2 with (refine wpList_store_mid rfl _ _ _ rfl w1.heap.size 0 a.toArray rfl rfl (TH.out w1) has ha1 ?_)
  refine wp_worldT (E1.out w1).symm ?_
  obtain ⟨b, hb⟩ : ∃ b, b = w1.heap.size := ⟨_, rfl⟩
  obtain ⟨W1, hW1⟩ : ∃ W1, W1 = w1.alloc (.cells a.toArray 28) := ⟨_, rfl⟩
  have A1 : Hid (Blk W1 b 28 a ∧ Below w.heap.size w W1) := Lib.hid (by rw [hW1, hb]; exact ⟨heap_alloc_new w1 _, B1.out.alloc B1.out.size _⟩)
  rw [← hb]
  refine wp_worldT hW1 ?_
  clear hW1 hb hz
  go_wp2_with fail
  refine (HAW.out _).mono ?_
  rintro e w2 ⟨rfl, b2⟩
  have A2 : Hid (Blk w2 b 28 a ∧ Below w.heap.size w w2) := Lib.hid ⟨A1.out.1.keep b2, A1.out.2.trans (b2.mono A1.out.2.size)⟩
  have RA := Lib.hid (RG.out w2 b A2.out.1)
  have c18 : w2.cell? ⟨b, 18, none⟩ = some (.int .u32 1) := (A2.out.1.cell 18).trans (HC.out 18 (by decide))
  have c2 : w2.cell? ⟨b, 2, none⟩ = some (.int .u32 1) := (A2.out.1.cell 2).trans (HC.out 2 (by decide))
  clear b2
  go_wp2_with (first
    | (refine wpList_load_midG (by rfl) 24 _ rfl b 8 rfl R _ RA.out Try.underlying24 rfl hrs ?_)
    | (refine wpList_build_isG (by rfl) 24 #[] rfl #[] (by simp) (.agg R.toArray) (HBR.out _) ?_)
    | (refine wpList_bin_isG (by rfl) .eql 24 24 _ _ rfl R.toArray R.toArray rfl rfl guardR (.bool true) (HEQ.out _) ?_))
  go_ret
  exact ⟨rfl, A2.out.2⟩

end Go.Proofs.Ythoahengdajpcaa
