/- TableAsks: the walk. Written by wip/tools/gen_tabasks.py. -/
import Derived.Test.YthoahengdajpcaaTabS
import Derived.Deep.CutRange
namespace Go.Proofs.Ythoahengdajpcaa
open Go.RowKit
set_option maxRecDepth 100000

abbrev ak1o0 : Oper := { dst := some 7, op := Op.load 28 (Operand.tmp 2), type := 28, pos := "law.go:76", after := #[], guard := none }
abbrev ak1o1 : Oper := { dst := some 8, op := Op.call { callee := Callee.value (Operand.func 8), args := #[Operand.tmp 7], argTypes := #[28] }, type := 34, pos := "law.go:76", after := #[{ on := 0, ground := Ground.data }], guard := none }
abbrev ak1o2 : Oper := { dst := some 9, op := Op.load 28 (Operand.tmp 3), type := 28, pos := "law.go:76", after := #[], guard := none }
abbrev ak1o3 : Oper := { dst := some 10, op := Op.call { callee := Callee.value (Operand.func 8), args := #[Operand.tmp 9], argTypes := #[28] }, type := 34, pos := "law.go:76", after := #[{ on := 2, ground := Ground.data }, { on := 1, ground := Ground.chain }], guard := none }
abbrev ak1o4 : Oper := { dst := some 5, op := Op.alloc 34, type := 0, pos := "law.go:76", after := #[], guard := none }
abbrev ak1o5 : Oper := { dst := some 6, op := Op.alloc 34, type := 0, pos := "law.go:76", after := #[], guard := none }
abbrev ak1o6 : Oper := { dst := none, op := Op.store 34 (Operand.tmp 5) (Operand.tmp 8), type := 0, pos := "law.go:76", after := #[{ on := 4, ground := Ground.data }, { on := 1, ground := Ground.data }, { on := 3, ground := Ground.chain }, { on := 0, ground := Ground.phase }, { on := 1, ground := Ground.phase }, { on := 2, ground := Ground.textOnly Departure.lateStores }, { on := 3, ground := Ground.textOnly Departure.lateStoresUnsure }, { on := 4, ground := Ground.phase }, { on := 5, ground := Ground.phase }], guard := none }
abbrev ak1o7 : Oper := { dst := none, op := Op.store 34 (Operand.tmp 6) (Operand.tmp 10), type := 0, pos := "law.go:76", after := #[{ on := 5, ground := Ground.data }, { on := 3, ground := Ground.data }, { on := 6, ground := Ground.chain }, { on := 0, ground := Ground.phase }, { on := 1, ground := Ground.phase }, { on := 2, ground := Ground.phase }, { on := 3, ground := Ground.phase }, { on := 4, ground := Ground.phase }, { on := 5, ground := Ground.phase }, { on := 6, ground := Ground.phase }], guard := none }
abbrev ak2o0 : Oper := { dst := some 11, op := Op.call { callee := Callee.value (Operand.func 7), args := #[], argTypes := #[] }, type := 4, pos := "law.go:77", after := #[], guard := none }
abbrev ak2o1 : Oper := { dst := some 12, op := Op.move (Operand.tmp 11), type := 4, pos := "law.go:77", after := #[{ on := 0, ground := Ground.data }, { on := 0, ground := Ground.chain }], guard := none }
abbrev ak2o2 : Oper := { dst := some 13, op := Op.load 28 (Operand.tmp 2), type := 28, pos := "law.go:77", after := #[{ on := 1, ground := Ground.guard }], guard := some (1, true) }
abbrev ak2o3 : Oper := { dst := some 14, op := Op.load 28 (Operand.tmp 3), type := 28, pos := "law.go:77", after := #[{ on := 1, ground := Ground.guard }], guard := some (1, true) }
abbrev ak2o4 : Oper := { dst := some 15, op := Op.call { callee := Callee.value (Operand.func 17), args := #[Operand.tmp 13, Operand.tmp 14], argTypes := #[28, 28] }, type := 4, pos := "law.go:77", after := #[{ on := 2, ground := Ground.data }, { on := 3, ground := Ground.data }, { on := 1, ground := Ground.chain }, { on := 1, ground := Ground.guard }], guard := some (1, true) }
abbrev ak2o5 : Oper := { dst := some 16, op := Op.load 34 (Operand.tmp 5), type := 34, pos := "law.go:77", after := #[{ on := 1, ground := Ground.guard }], guard := some (1, true) }
abbrev ak2o6 : Oper := { dst := some 17, op := Op.load 34 (Operand.tmp 6), type := 34, pos := "law.go:77", after := #[{ on := 1, ground := Ground.guard }], guard := some (1, true) }
abbrev ak2o7 : Oper := { dst := some 18, op := Op.call { callee := Callee.value (Operand.func 18), args := #[Operand.tmp 16, Operand.tmp 17], argTypes := #[34, 34] }, type := 4, pos := "law.go:77", after := #[{ on := 5, ground := Ground.data }, { on := 6, ground := Ground.data }, { on := 4, ground := Ground.chain }, { on := 1, ground := Ground.guard }], guard := some (1, true) }
abbrev ak2o8 : Oper := { dst := some 19, op := Op.binOp BinOp.eql 4 (Operand.tmp 15) (Operand.tmp 18) 4, type := 4, pos := "law.go:77", after := #[{ on := 4, ground := Ground.data }, { on := 7, ground := Ground.data }, { on := 1, ground := Ground.guard }], guard := some (1, true) }
abbrev ak2o9 : Oper := { dst := some 20, op := Op.pick (Operand.tmp 12) (Operand.tmp 19) (Operand.const (Value.bool false)), type := 4, pos := "law.go:77", after := #[{ on := 1, ground := Ground.data }, { on := 8, ground := Ground.data }], guard := none }
abbrev ak2o10 : Oper := { dst := some 21, op := Op.move (Operand.tmp 20), type := 4, pos := "law.go:77", after := #[{ on := 9, ground := Ground.data }, { on := 7, ground := Ground.chain }], guard := none }
abbrev ak2o11 : Oper := { dst := some 22, op := Op.load 28 (Operand.tmp 2), type := 28, pos := "law.go:77", after := #[{ on := 10, ground := Ground.guard }], guard := some (10, true) }
abbrev ak2o12 : Oper := { dst := some 23, op := Op.load 28 (Operand.tmp 2), type := 28, pos := "law.go:77", after := #[{ on := 10, ground := Ground.guard }], guard := some (10, true) }
abbrev ak2o13 : Oper := { dst := some 24, op := Op.call { callee := Callee.value (Operand.func 17), args := #[Operand.tmp 22, Operand.tmp 23], argTypes := #[28, 28] }, type := 4, pos := "law.go:77", after := #[{ on := 11, ground := Ground.data }, { on := 12, ground := Ground.data }, { on := 10, ground := Ground.chain }, { on := 10, ground := Ground.guard }], guard := some (10, true) }
abbrev ak2o14 : Oper := { dst := some 25, op := Op.pick (Operand.tmp 21) (Operand.tmp 24) (Operand.const (Value.bool false)), type := 4, pos := "law.go:77", after := #[{ on := 10, ground := Ground.data }, { on := 13, ground := Ground.data }], guard := none }
abbrev ak2o15 : Oper := { dst := some 26, op := Op.move (Operand.tmp 25), type := 4, pos := "law.go:77", after := #[{ on := 14, ground := Ground.data }, { on := 13, ground := Ground.chain }], guard := none }
abbrev ak2o16 : Oper := { dst := some 27, op := Op.fieldAddr 28 (Operand.tmp 2) 0, type := 0, pos := "law.go:77", after := #[{ on := 15, ground := Ground.guard }], guard := some (15, true) }
abbrev ak2o17 : Oper := { dst := some 28, op := Op.load 24 (Operand.tmp 27), type := 24, pos := "law.go:77", after := #[{ on := 16, ground := Ground.data }, { on := 15, ground := Ground.guard }], guard := some (15, true) }
abbrev ak2o18 : Oper := { dst := some 29, op := Op.call { callee := Callee.value (Operand.func 19), args := #[Operand.tmp 28], argTypes := #[24] }, type := 26, pos := "law.go:77", after := #[{ on := 17, ground := Ground.data }, { on := 15, ground := Ground.chain }, { on := 15, ground := Ground.guard }], guard := some (15, true) }
abbrev ak2o19 : Oper := { dst := some 30, op := Op.fieldAddr 34 (Operand.tmp 5) 0, type := 0, pos := "law.go:77", after := #[{ on := 15, ground := Ground.guard }], guard := some (15, true) }
abbrev ak2o20 : Oper := { dst := some 31, op := Op.load 31 (Operand.tmp 30), type := 31, pos := "law.go:77", after := #[{ on := 19, ground := Ground.data }, { on := 15, ground := Ground.guard }], guard := some (15, true) }
abbrev ak2o21 : Oper := { dst := some 32, op := Op.call { callee := Callee.value (Operand.func 20), args := #[Operand.tmp 31], argTypes := #[31] }, type := 26, pos := "law.go:77", after := #[{ on := 20, ground := Ground.data }, { on := 18, ground := Ground.chain }, { on := 15, ground := Ground.guard }], guard := some (15, true) }
abbrev ak2o22 : Oper := { dst := some 33, op := Op.binOp BinOp.eql 26 (Operand.tmp 29) (Operand.tmp 32) 26, type := 4, pos := "law.go:77", after := #[{ on := 18, ground := Ground.data }, { on := 21, ground := Ground.data }, { on := 15, ground := Ground.guard }], guard := some (15, true) }
abbrev ak2o23 : Oper := { dst := some 34, op := Op.pick (Operand.tmp 26) (Operand.tmp 33) (Operand.const (Value.bool false)), type := 4, pos := "law.go:77", after := #[{ on := 15, ground := Ground.data }, { on := 22, ground := Ground.data }], guard := none }
abbrev ak2o24 : Oper := { dst := some 35, op := Op.move (Operand.tmp 34), type := 4, pos := "law.go:77", after := #[{ on := 23, ground := Ground.data }, { on := 21, ground := Ground.chain }], guard := none }
abbrev ak2o25 : Oper := { dst := some 36, op := Op.fieldAddr 28 (Operand.tmp 3) 1, type := 0, pos := "law.go:77", after := #[{ on := 24, ground := Ground.guard }], guard := some (24, true) }
abbrev ak2o26 : Oper := { dst := some 37, op := Op.indexAddr 25 (Operand.tmp 36) (Operand.const (Value.int IntKind.i64 3)), type := 0, pos := "law.go:77", after := #[{ on := 25, ground := Ground.data }, { on := 24, ground := Ground.guard }], guard := some (24, true) }
abbrev ak2o27 : Oper := { dst := some 38, op := Op.load 24 (Operand.tmp 37), type := 24, pos := "law.go:77", after := #[{ on := 26, ground := Ground.data }, { on := 24, ground := Ground.guard }], guard := some (24, true) }
abbrev ak2o28 : Oper := { dst := some 39, op := Op.call { callee := Callee.value (Operand.func 19), args := #[Operand.tmp 38], argTypes := #[24] }, type := 26, pos := "law.go:77", after := #[{ on := 27, ground := Ground.data }, { on := 24, ground := Ground.chain }, { on := 24, ground := Ground.guard }], guard := some (24, true) }
abbrev ak2o29 : Oper := { dst := some 40, op := Op.fieldAddr 34 (Operand.tmp 6) 1, type := 0, pos := "law.go:77", after := #[{ on := 24, ground := Ground.guard }], guard := some (24, true) }
abbrev ak2o30 : Oper := { dst := some 41, op := Op.indexAddr 32 (Operand.tmp 40) (Operand.const (Value.int IntKind.i64 3)), type := 0, pos := "law.go:77", after := #[{ on := 29, ground := Ground.data }, { on := 24, ground := Ground.guard }], guard := some (24, true) }
abbrev ak2o31 : Oper := { dst := some 42, op := Op.load 31 (Operand.tmp 41), type := 31, pos := "law.go:77", after := #[{ on := 30, ground := Ground.data }, { on := 24, ground := Ground.guard }], guard := some (24, true) }
abbrev ak2o32 : Oper := { dst := some 43, op := Op.call { callee := Callee.value (Operand.func 20), args := #[Operand.tmp 42], argTypes := #[31] }, type := 26, pos := "law.go:77", after := #[{ on := 31, ground := Ground.data }, { on := 28, ground := Ground.chain }, { on := 24, ground := Ground.guard }], guard := some (24, true) }
abbrev ak2o33 : Oper := { dst := some 44, op := Op.binOp BinOp.eql 26 (Operand.tmp 39) (Operand.tmp 43) 26, type := 4, pos := "law.go:77", after := #[{ on := 28, ground := Ground.data }, { on := 32, ground := Ground.data }, { on := 24, ground := Ground.guard }], guard := some (24, true) }
abbrev ak2o34 : Oper := { dst := some 45, op := Op.pick (Operand.tmp 35) (Operand.tmp 44) (Operand.const (Value.bool false)), type := 4, pos := "law.go:77", after := #[{ on := 24, ground := Ground.data }, { on := 33, ground := Ground.data }], guard := none }
abbrev ak2o35 : Oper := { dst := some 4, op := Op.assign (Operand.tmp 45), type := 4, pos := "law.go:77", after := #[{ on := 34, ground := Ground.data }, { on := 32, ground := Ground.chain }, { on := 0, ground := Ground.phase }, { on := 1, ground := Ground.phase }, { on := 2, ground := Ground.phase }, { on := 3, ground := Ground.phase }, { on := 4, ground := Ground.phase }, { on := 5, ground := Ground.phase }, { on := 6, ground := Ground.phase }, { on := 7, ground := Ground.phase }, { on := 8, ground := Ground.phase }, { on := 9, ground := Ground.phase }, { on := 10, ground := Ground.phase }, { on := 11, ground := Ground.phase }, { on := 12, ground := Ground.phase }, { on := 13, ground := Ground.phase }, { on := 14, ground := Ground.phase }, { on := 15, ground := Ground.phase }, { on := 16, ground := Ground.phase }, { on := 17, ground := Ground.phase }, { on := 18, ground := Ground.phase }, { on := 19, ground := Ground.phase }, { on := 20, ground := Ground.phase }, { on := 21, ground := Ground.phase }, { on := 22, ground := Ground.phase }, { on := 23, ground := Ground.phase }, { on := 24, ground := Ground.phase }, { on := 25, ground := Ground.phase }, { on := 26, ground := Ground.phase }, { on := 27, ground := Ground.phase }, { on := 28, ground := Ground.phase }, { on := 29, ground := Ground.phase }, { on := 30, ground := Ground.phase }, { on := 31, ground := Ground.phase }, { on := 32, ground := Ground.phase }, { on := 33, ground := Ground.phase }, { on := 34, ground := Ground.phase }], guard := none }

theorem wp_alloc_isT {P : Program} {o : Oper} {a : Act} {w : World} {K : Act → World → Prop} {Q : Exit → Act → World → Prop} (ty : TypeId) (ho : o.op = .alloc ty)
    (Z : Array Value) (hz : (zeroValue ty).run P w = .ok (.agg Z) w) (h : ∀ wx, wx = w.alloc (.cells Z ty) → K (a.put o.dst (.pointer (some ⟨w.heap.size, 0, none⟩))) wx) : o.wp P a w K Q := by
  have h2 := h _ rfl
  unfold Oper.wp execOp
  simpa [go_sem, ho, Instr.alloc, hz, newVar] using h2
theorem wp_store_midT {P : Program} {op : Oper} {a : Act} {w : World} {K : Act → World → Prop} {Q : Exit → Act → World → Prop} (ty : TypeId) (x y : Operand) (ho : op.op = .store ty x y)
    (b o : Nat) (cells : Array Value) (hx : a.eval x = .pointer (some ⟨b, o, none⟩)) (hy : a.eval y = .agg cells)
    (ht : w.there b o cells.size) (hi : (P.info? ty).map (·.size) = some cells.size) (h1 : cells.all (·.oneCell') = true)
    (h : ∀ wx, wx = w.setCells b o cells.toList → K (a.put op.dst undef) wx) : op.wp P a w K Q :=
  wp_store_mid ty x y ho b o cells hx hy ht hi h1 (h _ rfl)
theorem Two.below {T : TypeId} {w W V : World} {a b : List Value} (h : Two T w W a b) (hb : Below W.heap.size W V) : Two T w V a b := ⟨h.1.keep hb, h.2.1.keep hb, h.2.2.trans (hb.mono h.2.2.size)⟩
theorem Two.farS {T : TypeId} {w W : World} {a b : List Value} (h : Two T w W a b) {g : Nat} (hg : w.heap.size + 1 < g) (o : Nat) (vs : List Value) : Two T w (W.setCells g o vs) a b :=
  ⟨h.1.farT (by omega) _ _, h.2.1.farT (by omega) _ _, Below.setCellsT h.2.2 (by omega) _ _⟩
theorem hwx2 (w wx : World) (Z : List Value) {T : TypeId} (h : wx = w.alloc (.cells Z.toArray T)) : ∃ b, w.heap.size = b ∧ Blk wx b T Z := ⟨_, rfl, by rw [h]; exact heap_alloc_new w _⟩
theorem rangeAt_row {w : World} {g L i : Nat} {f : Nat → Nat} (h : w.rangeAt g 0 (tcs f L)) (hi : i < 17) : w.rangeAt g (8 * i) (fcs (rowOf f i) 8) := fun j v hv => by
  have hj : j < 8 := by
    have := (List.getElem?_eq_some_iff.1 hv).1
    rw [fcs_len] at this; exact this
  rw [fcs_get _ 8 j hj] at hv
  have := h (8 * i + j) v (by rw [tcs_get f L _ (by omega)]; exact hv)
  rw [Nat.zero_add] at this
  exact this

set_option maxHeartbeats 32000000 in
theorem tableAsks_walk (f : Nat → Nat) (L : Nat) (hf : Fits f) (hL : L < 18446744073709551616) (g : Nat → Nat) (M : Nat) (hg : Fits g) (hM : M < 18446744073709551616) (w : World) :
    Calls Try.prog 5 #[.agg (tcs f L).toArray, .agg (tcs g M).toArray] w fun e w' => e = .returned (.bool true) ∧ Below w.heap.size w w' := by
  have OFA := Lib.hid (fun W => law_Of f L W)
  have OFB := Lib.hid (fun W => law_Of g M W)
  have AW := Lib.hid (fun W => tab_Awake W)
  have CV := Lib.hid (fun W => tab_Covers f g L M W)
  have RCV := Lib.hid (fun W => ref_Covers f g L M W)
  have CVS := Lib.hid (fun W => tab_Covers f f L L W)
  rw [show decide (CovT f f 17) = true from decide_eq_true (fun i _ k _ => Nat.le_refl _)] at CVS
  have SM := Lib.hid (fun W => tab_Sum (rowOf f 0) W (hf.row 0))
  have RSM := Lib.hid (fun W => ref_Sum (rowOf f 0) W (hf.row 0))
  have SM3 := Lib.hid (fun W => tab_Sum (rowOf g 4) W (hg.row 4))
  have RSM3 := Lib.hid (fun W => ref_Sum (rowOf g 4) W (hg.row 4))
  obtain ⟨q, hq⟩ : ∃ q, q = decide (CovT f g 17) := ⟨_, rfl⟩
  obtain ⟨s0, hs0⟩ : ∃ s, s = sumN (rowOf f 0) 8 := ⟨_, rfl⟩
  obtain ⟨s3, hs3⟩ : ∃ s, s = sumN (rowOf g 4) 8 := ⟨_, rfl⟩
  rw [← hq] at CV RCV
  rw [← hs0] at SM RSM
  rw [← hs3] at SM3 RSM3
  clear hq hs0 hs3
  have R0 := Lib.hid (fun (W : World) (p : Nat) (h : W.rangeAt p 0 (tcs f L)) => rangeAt_row h (i := 0) (by omega))
  have R3 := Lib.hid (fun (W : World) (p : Nat) (h : W.rangeAt p 0 (tcs g M)) => rangeAt_row h (i := 4) (by omega))
  have hs0 : (Try.prog.info? 24).map (·.size) = some (fcs (rowOf f 0) 8).length := by rw [fcs_len]; exact sizeTRow
  have hq0 : (Try.prog.info? 31).map (·.size) = some (fcs (rowOf f 0) 8).length := by rw [fcs_len]; exact sizeRRow
  have hs3 : (Try.prog.info? 24).map (·.size) = some (fcs (rowOf g 4) 8).length := by rw [fcs_len]; exact sizeTRow
  have hq3 : (Try.prog.info? 31).map (·.size) = some (fcs (rowOf g 4) 8).length := by rw [fcs_len]; exact sizeRRow
  have Ha : Hid ((tcs f L).length = 137 ∧ (tcs f L).toArray.size = 137 ∧ (tcs f L).toArray.all (·.oneCell') = true) := Lib.hid ⟨tcs_len _ _, by rw [List.size_toArray, tcs_len], all_oneCell_toArray (tcs_one _ _)⟩
  have Hb : Hid ((tcs g M).length = 137 ∧ (tcs g M).toArray.size = 137 ∧ (tcs g M).toArray.all (·.oneCell') = true) := Lib.hid ⟨tcs_len _ _, by rw [List.size_toArray, tcs_len], all_oneCell_toArray (tcs_one _ _)⟩
  obtain ⟨a, ha⟩ : ∃ a, a = tcs f L := ⟨_, rfl⟩
  obtain ⟨b, hb⟩ : ∃ b, b = tcs g M := ⟨_, rfl⟩
  obtain ⟨r0, hr0⟩ : ∃ r, r = fcs (rowOf f 0) 8 := ⟨_, rfl⟩
  obtain ⟨r3, hr3⟩ : ∃ r, r = fcs (rowOf g 4) 8 := ⟨_, rfl⟩
  obtain ⟨Z, hZ⟩ : ∃ Z, Z = tcs (fun _ => 0) 0 := ⟨_, rfl⟩
  have HZ := Lib.hid (fun W => zeroRTab W)
  have HZL : Hid (Z.length = 137) := Lib.hid (by rw [hZ]; exact tcs_len _ _)
  rw [← hZ] at HZ
  rw [← hr0] at R0 hs0 hq0 SM RSM
  rw [← hr3] at R3 hs3 hq3 SM3 RSM3
  rw [← ha] at OFA CV RCV CVS R0 Ha ⊢
  rw [← hb] at OFB CV RCV R3 Hb ⊢
  clear ha hb hr0 hr3 hZ hf hg hL hM
  have hsa : (Try.prog.info? 28).map (·.size) = some a.length := by rw [Ha.out.1]; exact sizeTab
  have hsb : (Try.prog.info? 28).map (·.size) = some b.length := by rw [Hb.out.1]; exact sizeTab
  have hra : (Try.prog.info? 34).map (·.size) = some a.length := by rw [Ha.out.1]; exact sizeRTab
  have hrb : (Try.prog.info? 34).map (·.size) = some b.length := by rw [Hb.out.1]; exact sizeRTab
  obtain ⟨W0, hW0⟩ : ∃ W0, W0 = (w.alloc (.cells a.toArray 28)).alloc (.cells b.toArray 28) := ⟨_, rfl⟩
  have TW0 : Hid (Two 28 w W0 a b) := Lib.hid (by rw [hW0]; exact Two.new 28 w a b)
  go_enter Try.func5, Try.ntmps5
  go_upto_region 1 with fail
  rw [← hW0]
  clear hW0
  go_cut [5, 6] from 7 (fun s5 s6 wx => ∃ b5 b6 : Nat, s5 = .pointer (some ⟨b5, 0, none⟩) ∧ s6 = .pointer (some ⟨b6, 0, none⟩) ∧ Hid (Two 28 w wx a b) ∧ Hid (Blk wx b5 34 a) ∧ Hid (Blk wx b6 34 b))
  case first =>
    have TW : Hid (Two 28 w W0.drew a b) := Lib.hid TW0.out.drew
    refine wp_region_noPanic ?_
    refine wp_region_held_drew (S := fun w' => w'.rangeAt w.heap.size 0 a ∧ w'.rangeAt (w.heap.size + 1) 0 b) (by kernel_rfl) ?_ (fun hHeld => ?_)
    · exact ⟨TW.out.1.whole, TW.out.2.1.whole⟩
    refine wpAnyH_take (i := 0) (oi := ak1o0) (v := _) rfl (by kernel_rfl) (by kernel_rfl) (by kernel_rfl) (fun _ _ _ h => h) (yieldsIf_load_mid ?_ 28 _ rfl w.heap.size 0 rfl a _ (fun _ (h : _ ∧ _) => h.1) Try.underlying28 rfl hsa) (by assumption) ?_
    · rfl
    (try simp only [Act.put, List.setIfInBounds_toArray, List.set_cons_zero, List.set_cons_succ])
    refine wpAnyH_take (i := 2) (oi := ak1o2) (v := _) rfl (by kernel_rfl) (by kernel_rfl) (by kernel_rfl) (fun _ _ _ h => h) (yieldsIf_load_mid ?_ 28 _ rfl (w.heap.size + 1) 0 rfl b _ (fun _ (h : _ ∧ _) => h.2) Try.underlying28 rfl hsb) (by assumption) ?_
    · rfl
    (try simp only [Act.put, List.setIfInBounds_toArray, List.set_cons_zero, List.set_cons_succ])
    refine wpAnyH_ready (rs := [1, 4, 5]) (by kernel_rfl) (by simp) ?_
    refine (AllReadyH.cons (o := ak1o1) rfl (fun K hK => ?_) (AllReadyH.cons (o := ak1o4) rfl (fun K hK => ?_) (AllReadyH.cons (o := ak1o5) rfl (fun K hK => ?_) AllReadyH.nil)))
    · dsimp only [ak1o1]
      go_simp
      refine (OFA.out _).mono ?_
      rintro e wx ⟨rfl, bx⟩
      have TW := Lib.hid (TW.out.below bx)
      (try have K5 := Lib.hid (K5.out.keep bx))
      (try have K6 := Lib.hid (K6.out.keep bx))
      clear bx
      (try go_wp2_with fail)
      refine hK.out _ _ ?_ (fun hHeld => ?_)
      · exact ⟨TW.out.1.whole, TW.out.2.1.whole⟩
      clear hK K
      (try simp only [Act.put, List.setIfInBounds_toArray, List.set_cons_zero, List.set_cons_succ])
      refine wpAnyH_ready (rs := [3, 4, 5]) (by kernel_rfl) (by simp) ?_
      refine (AllReadyH.cons (o := ak1o3) rfl (fun K hK => ?_) (AllReadyH.cons (o := ak1o4) rfl (fun K hK => ?_) (AllReadyH.cons (o := ak1o5) rfl (fun K hK => ?_) AllReadyH.nil)))
      · dsimp only [ak1o3]
        go_simp
        refine (OFB.out _).mono ?_
        rintro e wx ⟨rfl, bx⟩
        have TW := Lib.hid (TW.out.below bx)
        (try have K5 := Lib.hid (K5.out.keep bx))
        (try have K6 := Lib.hid (K6.out.keep bx))
        clear bx
        (try go_wp2_with fail)
        refine hK.out _ _ ?_ (fun hHeld => ?_)
        · exact ⟨TW.out.1.whole, TW.out.2.1.whole⟩
        clear hK K
        (try simp only [Act.put, List.setIfInBounds_toArray, List.set_cons_zero, List.set_cons_succ])
        refine wpAnyH_ready (rs := [4, 5]) (by kernel_rfl) (by simp) ?_
        refine (AllReadyH.cons (o := ak1o4) rfl (fun K hK => ?_) (AllReadyH.cons (o := ak1o5) rfl (fun K hK => ?_) AllReadyH.nil))
        · rw [if_pos (by rfl)]
          refine wp_alloc_isT 34 rfl Z.toArray (HZ.out _) ?_
          intro wx hwx
          have bx : Below _ _ wx := (Below.refl _ _).alloc (Nat.le_refl _) _ |> (hwx ▸ ·)
          obtain ⟨b5, hb5, hl5⟩ := hwx2 _ _ _ hwx
          have N5 : Hid (w.heap.size + 1 < b5) := Lib.hid (by rw [← hb5]; exact TW.out.2.1.lt)
          (try have N56 : Hid (b5 ≠ b6) := Lib.hid (by rw [← hb5]; exact (Nat.ne_of_lt K6.out.lt).symm))
          have TW := Lib.hid (TW.out.below bx)
          (try have K6 := Lib.hid (K6.out.keep bx))
          have K5 : Hid (Blk wx b5 34 Z) := Lib.hid hl5
          rw [hb5]
          clear bx hwx hb5 hl5
          refine hK.out _ _ ?_ (fun hHeld => ?_)
          · exact ⟨TW.out.1.whole, TW.out.2.1.whole⟩
          clear hK K
          (try simp only [Act.put, List.setIfInBounds_toArray, List.set_cons_zero, List.set_cons_succ])
          refine wpAnyH_ready (rs := [5]) (by kernel_rfl) (by simp) ?_
          refine AllReadyH.cons (o := ak1o5) rfl (fun K hK => ?_) AllReadyH.nil
          rw [if_pos (by rfl)]
          refine wp_alloc_isT 34 rfl Z.toArray (HZ.out _) ?_
          intro wx hwx
          have bx : Below _ _ wx := (Below.refl _ _).alloc (Nat.le_refl _) _ |> (hwx ▸ ·)
          obtain ⟨b6, hb6, hl6⟩ := hwx2 _ _ _ hwx
          have N6 : Hid (w.heap.size + 1 < b6) := Lib.hid (by rw [← hb6]; exact TW.out.2.1.lt)
          (try have N56 : Hid (b6 ≠ b5) := Lib.hid (by rw [← hb6]; exact (Nat.ne_of_lt K5.out.lt).symm))
          have TW := Lib.hid (TW.out.below bx)
          (try have K5 := Lib.hid (K5.out.keep bx))
          have K6 : Hid (Blk wx b6 34 Z) := Lib.hid hl6
          rw [hb6]
          clear bx hwx hb6 hl6
          refine hK.out _ _ ?_ (fun hHeld => ?_)
          · exact ⟨TW.out.1.whole, TW.out.2.1.whole⟩
          clear hK K
          (try simp only [Act.put, List.setIfInBounds_toArray, List.set_cons_zero, List.set_cons_succ])
          refine wpAnyH_ready (rs := [6]) (by kernel_rfl) (by simp) ?_
          refine AllReadyH.cons (o := ak1o6) rfl (fun K hK => ?_) AllReadyH.nil
          rw [if_pos (by rfl)]
          refine wp_store_midT _ _ _ rfl b5 0 a.toArray rfl rfl (K5.out.thereT (by rw [HZL.out, Ha.out.2.1]; omega)) (by rw [Ha.out.2.1]; exact sizeRTab) Ha.out.2.2 ?_
          intro wx hwx
          have TW : Hid (Two 28 w wx a b) := Lib.hid (by rw [hwx]; exact TW.out.farS (by have := N5.out; omega) _ _)
          have K6 := Lib.hid (show Blk wx b6 34 _ by rw [hwx]; exact K6.out.farT (by have := N56.out; omega) _ _)
          have K5 : Hid (Blk wx b5 34 a) := Lib.hid (by rw [hwx]; exact K5.out.setWhole a (by rw [HZL.out]; exact Ha.out.1))
          clear hwx
          refine hK.out _ _ ?_ (fun hHeld => ?_)
          · exact ⟨TW.out.1.whole, TW.out.2.1.whole⟩
          clear hK K
          (try simp only [Act.put, List.setIfInBounds_toArray, List.set_cons_zero, List.set_cons_succ])
          refine wpAnyH_ready (rs := [7]) (by kernel_rfl) (by simp) ?_
          refine AllReadyH.cons (o := ak1o7) rfl (fun K hK => ?_) AllReadyH.nil
          rw [if_pos (by rfl)]
          refine wp_store_midT _ _ _ rfl b6 0 b.toArray rfl rfl (K6.out.thereT (by rw [HZL.out, Hb.out.2.1]; omega)) (by rw [Hb.out.2.1]; exact sizeRTab) Hb.out.2.2 ?_
          intro wx hwx
          have TW : Hid (Two 28 w wx a b) := Lib.hid (by rw [hwx]; exact TW.out.farS (by have := N6.out; omega) _ _)
          have K5 := Lib.hid (show Blk wx b5 34 _ by rw [hwx]; exact K5.out.farT (by have := N56.out; omega) _ _)
          have K6 : Hid (Blk wx b6 34 b) := Lib.hid (by rw [hwx]; exact K6.out.setWhole b (by rw [HZL.out]; exact Hb.out.1))
          clear hwx
          refine hK.out _ _ ?_ (fun hHeld => ?_)
          · exact ⟨TW.out.1.whole, TW.out.2.1.whole⟩
          clear hK K
          (try simp only [Act.put, List.setIfInBounds_toArray, List.set_cons_zero, List.set_cons_succ])
          refine wpAnyH_done (by kernel_rfl) ?_ _
          refine NoPanic.normal ?_
          go_wp2_with fail
          go_meet
          exact ⟨b5, b6, rfl, rfl, TW, K5, K6⟩
        · rw [if_pos (by rfl)]
          refine wp_alloc_isT 34 rfl Z.toArray (HZ.out _) ?_
          intro wx hwx
          have bx : Below _ _ wx := (Below.refl _ _).alloc (Nat.le_refl _) _ |> (hwx ▸ ·)
          obtain ⟨b6, hb6, hl6⟩ := hwx2 _ _ _ hwx
          have N6 : Hid (w.heap.size + 1 < b6) := Lib.hid (by rw [← hb6]; exact TW.out.2.1.lt)
          (try have N56 : Hid (b6 ≠ b5) := Lib.hid (by rw [← hb6]; exact (Nat.ne_of_lt K5.out.lt).symm))
          have TW := Lib.hid (TW.out.below bx)
          (try have K5 := Lib.hid (K5.out.keep bx))
          have K6 : Hid (Blk wx b6 34 Z) := Lib.hid hl6
          rw [hb6]
          clear bx hwx hb6 hl6
          refine hK.out _ _ ?_ (fun hHeld => ?_)
          · exact ⟨TW.out.1.whole, TW.out.2.1.whole⟩
          clear hK K
          (try simp only [Act.put, List.setIfInBounds_toArray, List.set_cons_zero, List.set_cons_succ])
          refine wpAnyH_ready (rs := [4]) (by kernel_rfl) (by simp) ?_
          refine AllReadyH.cons (o := ak1o4) rfl (fun K hK => ?_) AllReadyH.nil
          rw [if_pos (by rfl)]
          refine wp_alloc_isT 34 rfl Z.toArray (HZ.out _) ?_
          intro wx hwx
          have bx : Below _ _ wx := (Below.refl _ _).alloc (Nat.le_refl _) _ |> (hwx ▸ ·)
          obtain ⟨b5, hb5, hl5⟩ := hwx2 _ _ _ hwx
          have N5 : Hid (w.heap.size + 1 < b5) := Lib.hid (by rw [← hb5]; exact TW.out.2.1.lt)
          (try have N56 : Hid (b5 ≠ b6) := Lib.hid (by rw [← hb5]; exact (Nat.ne_of_lt K6.out.lt).symm))
          have TW := Lib.hid (TW.out.below bx)
          (try have K6 := Lib.hid (K6.out.keep bx))
          have K5 : Hid (Blk wx b5 34 Z) := Lib.hid hl5
          rw [hb5]
          clear bx hwx hb5 hl5
          refine hK.out _ _ ?_ (fun hHeld => ?_)
          · exact ⟨TW.out.1.whole, TW.out.2.1.whole⟩
          clear hK K
          (try simp only [Act.put, List.setIfInBounds_toArray, List.set_cons_zero, List.set_cons_succ])
          refine wpAnyH_ready (rs := [6]) (by kernel_rfl) (by simp) ?_
          refine AllReadyH.cons (o := ak1o6) rfl (fun K hK => ?_) AllReadyH.nil
          rw [if_pos (by rfl)]
          refine wp_store_midT _ _ _ rfl b5 0 a.toArray rfl rfl (K5.out.thereT (by rw [HZL.out, Ha.out.2.1]; omega)) (by rw [Ha.out.2.1]; exact sizeRTab) Ha.out.2.2 ?_
          intro wx hwx
          have TW : Hid (Two 28 w wx a b) := Lib.hid (by rw [hwx]; exact TW.out.farS (by have := N5.out; omega) _ _)
          have K6 := Lib.hid (show Blk wx b6 34 _ by rw [hwx]; exact K6.out.farT (by have := N56.out; omega) _ _)
          have K5 : Hid (Blk wx b5 34 a) := Lib.hid (by rw [hwx]; exact K5.out.setWhole a (by rw [HZL.out]; exact Ha.out.1))
          clear hwx
          refine hK.out _ _ ?_ (fun hHeld => ?_)
          · exact ⟨TW.out.1.whole, TW.out.2.1.whole⟩
          clear hK K
          (try simp only [Act.put, List.setIfInBounds_toArray, List.set_cons_zero, List.set_cons_succ])
          refine wpAnyH_ready (rs := [7]) (by kernel_rfl) (by simp) ?_
          refine AllReadyH.cons (o := ak1o7) rfl (fun K hK => ?_) AllReadyH.nil
          rw [if_pos (by rfl)]
          refine wp_store_midT _ _ _ rfl b6 0 b.toArray rfl rfl (K6.out.thereT (by rw [HZL.out, Hb.out.2.1]; omega)) (by rw [Hb.out.2.1]; exact sizeRTab) Hb.out.2.2 ?_
          intro wx hwx
          have TW : Hid (Two 28 w wx a b) := Lib.hid (by rw [hwx]; exact TW.out.farS (by have := N6.out; omega) _ _)
          have K5 := Lib.hid (show Blk wx b5 34 _ by rw [hwx]; exact K5.out.farT (by have := N56.out; omega) _ _)
          have K6 : Hid (Blk wx b6 34 b) := Lib.hid (by rw [hwx]; exact K6.out.setWhole b (by rw [HZL.out]; exact Hb.out.1))
          clear hwx
          refine hK.out _ _ ?_ (fun hHeld => ?_)
          · exact ⟨TW.out.1.whole, TW.out.2.1.whole⟩
          clear hK K
          (try simp only [Act.put, List.setIfInBounds_toArray, List.set_cons_zero, List.set_cons_succ])
          refine wpAnyH_done (by kernel_rfl) ?_ _
          refine NoPanic.normal ?_
          go_wp2_with fail
          go_meet
          exact ⟨b5, b6, rfl, rfl, TW, K5, K6⟩
      · rw [if_pos (by rfl)]
        refine wp_alloc_isT 34 rfl Z.toArray (HZ.out _) ?_
        intro wx hwx
        have bx : Below _ _ wx := (Below.refl _ _).alloc (Nat.le_refl _) _ |> (hwx ▸ ·)
        obtain ⟨b5, hb5, hl5⟩ := hwx2 _ _ _ hwx
        have N5 : Hid (w.heap.size + 1 < b5) := Lib.hid (by rw [← hb5]; exact TW.out.2.1.lt)
        (try have N56 : Hid (b5 ≠ b6) := Lib.hid (by rw [← hb5]; exact (Nat.ne_of_lt K6.out.lt).symm))
        have TW := Lib.hid (TW.out.below bx)
        (try have K6 := Lib.hid (K6.out.keep bx))
        have K5 : Hid (Blk wx b5 34 Z) := Lib.hid hl5
        rw [hb5]
        clear bx hwx hb5 hl5
        refine hK.out _ _ ?_ (fun hHeld => ?_)
        · exact ⟨TW.out.1.whole, TW.out.2.1.whole⟩
        clear hK K
        (try simp only [Act.put, List.setIfInBounds_toArray, List.set_cons_zero, List.set_cons_succ])
        refine wpAnyH_ready (rs := [3, 5]) (by kernel_rfl) (by simp) ?_
        refine (AllReadyH.cons (o := ak1o3) rfl (fun K hK => ?_) (AllReadyH.cons (o := ak1o5) rfl (fun K hK => ?_) AllReadyH.nil))
        · dsimp only [ak1o3]
          go_simp
          refine (OFB.out _).mono ?_
          rintro e wx ⟨rfl, bx⟩
          have TW := Lib.hid (TW.out.below bx)
          (try have K5 := Lib.hid (K5.out.keep bx))
          (try have K6 := Lib.hid (K6.out.keep bx))
          clear bx
          (try go_wp2_with fail)
          refine hK.out _ _ ?_ (fun hHeld => ?_)
          · exact ⟨TW.out.1.whole, TW.out.2.1.whole⟩
          clear hK K
          (try simp only [Act.put, List.setIfInBounds_toArray, List.set_cons_zero, List.set_cons_succ])
          refine wpAnyH_ready (rs := [5]) (by kernel_rfl) (by simp) ?_
          refine AllReadyH.cons (o := ak1o5) rfl (fun K hK => ?_) AllReadyH.nil
          rw [if_pos (by rfl)]
          refine wp_alloc_isT 34 rfl Z.toArray (HZ.out _) ?_
          intro wx hwx
          have bx : Below _ _ wx := (Below.refl _ _).alloc (Nat.le_refl _) _ |> (hwx ▸ ·)
          obtain ⟨b6, hb6, hl6⟩ := hwx2 _ _ _ hwx
          have N6 : Hid (w.heap.size + 1 < b6) := Lib.hid (by rw [← hb6]; exact TW.out.2.1.lt)
          (try have N56 : Hid (b6 ≠ b5) := Lib.hid (by rw [← hb6]; exact (Nat.ne_of_lt K5.out.lt).symm))
          have TW := Lib.hid (TW.out.below bx)
          (try have K5 := Lib.hid (K5.out.keep bx))
          have K6 : Hid (Blk wx b6 34 Z) := Lib.hid hl6
          rw [hb6]
          clear bx hwx hb6 hl6
          refine hK.out _ _ ?_ (fun hHeld => ?_)
          · exact ⟨TW.out.1.whole, TW.out.2.1.whole⟩
          clear hK K
          (try simp only [Act.put, List.setIfInBounds_toArray, List.set_cons_zero, List.set_cons_succ])
          refine wpAnyH_ready (rs := [6]) (by kernel_rfl) (by simp) ?_
          refine AllReadyH.cons (o := ak1o6) rfl (fun K hK => ?_) AllReadyH.nil
          rw [if_pos (by rfl)]
          refine wp_store_midT _ _ _ rfl b5 0 a.toArray rfl rfl (K5.out.thereT (by rw [HZL.out, Ha.out.2.1]; omega)) (by rw [Ha.out.2.1]; exact sizeRTab) Ha.out.2.2 ?_
          intro wx hwx
          have TW : Hid (Two 28 w wx a b) := Lib.hid (by rw [hwx]; exact TW.out.farS (by have := N5.out; omega) _ _)
          have K6 := Lib.hid (show Blk wx b6 34 _ by rw [hwx]; exact K6.out.farT (by have := N56.out; omega) _ _)
          have K5 : Hid (Blk wx b5 34 a) := Lib.hid (by rw [hwx]; exact K5.out.setWhole a (by rw [HZL.out]; exact Ha.out.1))
          clear hwx
          refine hK.out _ _ ?_ (fun hHeld => ?_)
          · exact ⟨TW.out.1.whole, TW.out.2.1.whole⟩
          clear hK K
          (try simp only [Act.put, List.setIfInBounds_toArray, List.set_cons_zero, List.set_cons_succ])
          refine wpAnyH_ready (rs := [7]) (by kernel_rfl) (by simp) ?_
          refine AllReadyH.cons (o := ak1o7) rfl (fun K hK => ?_) AllReadyH.nil
          rw [if_pos (by rfl)]
          refine wp_store_midT _ _ _ rfl b6 0 b.toArray rfl rfl (K6.out.thereT (by rw [HZL.out, Hb.out.2.1]; omega)) (by rw [Hb.out.2.1]; exact sizeRTab) Hb.out.2.2 ?_
          intro wx hwx
          have TW : Hid (Two 28 w wx a b) := Lib.hid (by rw [hwx]; exact TW.out.farS (by have := N6.out; omega) _ _)
          have K5 := Lib.hid (show Blk wx b5 34 _ by rw [hwx]; exact K5.out.farT (by have := N56.out; omega) _ _)
          have K6 : Hid (Blk wx b6 34 b) := Lib.hid (by rw [hwx]; exact K6.out.setWhole b (by rw [HZL.out]; exact Hb.out.1))
          clear hwx
          refine hK.out _ _ ?_ (fun hHeld => ?_)
          · exact ⟨TW.out.1.whole, TW.out.2.1.whole⟩
          clear hK K
          (try simp only [Act.put, List.setIfInBounds_toArray, List.set_cons_zero, List.set_cons_succ])
          refine wpAnyH_done (by kernel_rfl) ?_ _
          refine NoPanic.normal ?_
          go_wp2_with fail
          go_meet
          exact ⟨b5, b6, rfl, rfl, TW, K5, K6⟩
        · rw [if_pos (by rfl)]
          refine wp_alloc_isT 34 rfl Z.toArray (HZ.out _) ?_
          intro wx hwx
          have bx : Below _ _ wx := (Below.refl _ _).alloc (Nat.le_refl _) _ |> (hwx ▸ ·)
          obtain ⟨b6, hb6, hl6⟩ := hwx2 _ _ _ hwx
          have N6 : Hid (w.heap.size + 1 < b6) := Lib.hid (by rw [← hb6]; exact TW.out.2.1.lt)
          (try have N56 : Hid (b6 ≠ b5) := Lib.hid (by rw [← hb6]; exact (Nat.ne_of_lt K5.out.lt).symm))
          have TW := Lib.hid (TW.out.below bx)
          (try have K5 := Lib.hid (K5.out.keep bx))
          have K6 : Hid (Blk wx b6 34 Z) := Lib.hid hl6
          rw [hb6]
          clear bx hwx hb6 hl6
          refine hK.out _ _ ?_ (fun hHeld => ?_)
          · exact ⟨TW.out.1.whole, TW.out.2.1.whole⟩
          clear hK K
          (try simp only [Act.put, List.setIfInBounds_toArray, List.set_cons_zero, List.set_cons_succ])
          refine wpAnyH_ready (rs := [3]) (by kernel_rfl) (by simp) ?_
          refine AllReadyH.cons (o := ak1o3) rfl (fun K hK => ?_) AllReadyH.nil
          dsimp only [ak1o3]
          go_simp
          refine (OFB.out _).mono ?_
          rintro e wx ⟨rfl, bx⟩
          have TW := Lib.hid (TW.out.below bx)
          (try have K5 := Lib.hid (K5.out.keep bx))
          (try have K6 := Lib.hid (K6.out.keep bx))
          clear bx
          (try go_wp2_with fail)
          refine hK.out _ _ ?_ (fun hHeld => ?_)
          · exact ⟨TW.out.1.whole, TW.out.2.1.whole⟩
          clear hK K
          (try simp only [Act.put, List.setIfInBounds_toArray, List.set_cons_zero, List.set_cons_succ])
          refine wpAnyH_ready (rs := [6]) (by kernel_rfl) (by simp) ?_
          refine AllReadyH.cons (o := ak1o6) rfl (fun K hK => ?_) AllReadyH.nil
          rw [if_pos (by rfl)]
          refine wp_store_midT _ _ _ rfl b5 0 a.toArray rfl rfl (K5.out.thereT (by rw [HZL.out, Ha.out.2.1]; omega)) (by rw [Ha.out.2.1]; exact sizeRTab) Ha.out.2.2 ?_
          intro wx hwx
          have TW : Hid (Two 28 w wx a b) := Lib.hid (by rw [hwx]; exact TW.out.farS (by have := N5.out; omega) _ _)
          have K6 := Lib.hid (show Blk wx b6 34 _ by rw [hwx]; exact K6.out.farT (by have := N56.out; omega) _ _)
          have K5 : Hid (Blk wx b5 34 a) := Lib.hid (by rw [hwx]; exact K5.out.setWhole a (by rw [HZL.out]; exact Ha.out.1))
          clear hwx
          refine hK.out _ _ ?_ (fun hHeld => ?_)
          · exact ⟨TW.out.1.whole, TW.out.2.1.whole⟩
          clear hK K
          (try simp only [Act.put, List.setIfInBounds_toArray, List.set_cons_zero, List.set_cons_succ])
          refine wpAnyH_ready (rs := [7]) (by kernel_rfl) (by simp) ?_
          refine AllReadyH.cons (o := ak1o7) rfl (fun K hK => ?_) AllReadyH.nil
          rw [if_pos (by rfl)]
          refine wp_store_midT _ _ _ rfl b6 0 b.toArray rfl rfl (K6.out.thereT (by rw [HZL.out, Hb.out.2.1]; omega)) (by rw [Hb.out.2.1]; exact sizeRTab) Hb.out.2.2 ?_
          intro wx hwx
          have TW : Hid (Two 28 w wx a b) := Lib.hid (by rw [hwx]; exact TW.out.farS (by have := N6.out; omega) _ _)
          have K5 := Lib.hid (show Blk wx b5 34 _ by rw [hwx]; exact K5.out.farT (by have := N56.out; omega) _ _)
          have K6 : Hid (Blk wx b6 34 b) := Lib.hid (by rw [hwx]; exact K6.out.setWhole b (by rw [HZL.out]; exact Hb.out.1))
          clear hwx
          refine hK.out _ _ ?_ (fun hHeld => ?_)
          · exact ⟨TW.out.1.whole, TW.out.2.1.whole⟩
          clear hK K
          (try simp only [Act.put, List.setIfInBounds_toArray, List.set_cons_zero, List.set_cons_succ])
          refine wpAnyH_done (by kernel_rfl) ?_ _
          refine NoPanic.normal ?_
          go_wp2_with fail
          go_meet
          exact ⟨b5, b6, rfl, rfl, TW, K5, K6⟩
      · rw [if_pos (by rfl)]
        refine wp_alloc_isT 34 rfl Z.toArray (HZ.out _) ?_
        intro wx hwx
        have bx : Below _ _ wx := (Below.refl _ _).alloc (Nat.le_refl _) _ |> (hwx ▸ ·)
        obtain ⟨b6, hb6, hl6⟩ := hwx2 _ _ _ hwx
        have N6 : Hid (w.heap.size + 1 < b6) := Lib.hid (by rw [← hb6]; exact TW.out.2.1.lt)
        (try have N56 : Hid (b6 ≠ b5) := Lib.hid (by rw [← hb6]; exact (Nat.ne_of_lt K5.out.lt).symm))
        have TW := Lib.hid (TW.out.below bx)
        (try have K5 := Lib.hid (K5.out.keep bx))
        have K6 : Hid (Blk wx b6 34 Z) := Lib.hid hl6
        rw [hb6]
        clear bx hwx hb6 hl6
        refine hK.out _ _ ?_ (fun hHeld => ?_)
        · exact ⟨TW.out.1.whole, TW.out.2.1.whole⟩
        clear hK K
        (try simp only [Act.put, List.setIfInBounds_toArray, List.set_cons_zero, List.set_cons_succ])
        refine wpAnyH_ready (rs := [3, 4]) (by kernel_rfl) (by simp) ?_
        refine (AllReadyH.cons (o := ak1o3) rfl (fun K hK => ?_) (AllReadyH.cons (o := ak1o4) rfl (fun K hK => ?_) AllReadyH.nil))
        · dsimp only [ak1o3]
          go_simp
          refine (OFB.out _).mono ?_
          rintro e wx ⟨rfl, bx⟩
          have TW := Lib.hid (TW.out.below bx)
          (try have K5 := Lib.hid (K5.out.keep bx))
          (try have K6 := Lib.hid (K6.out.keep bx))
          clear bx
          (try go_wp2_with fail)
          refine hK.out _ _ ?_ (fun hHeld => ?_)
          · exact ⟨TW.out.1.whole, TW.out.2.1.whole⟩
          clear hK K
          (try simp only [Act.put, List.setIfInBounds_toArray, List.set_cons_zero, List.set_cons_succ])
          refine wpAnyH_ready (rs := [4]) (by kernel_rfl) (by simp) ?_
          refine AllReadyH.cons (o := ak1o4) rfl (fun K hK => ?_) AllReadyH.nil
          rw [if_pos (by rfl)]
          refine wp_alloc_isT 34 rfl Z.toArray (HZ.out _) ?_
          intro wx hwx
          have bx : Below _ _ wx := (Below.refl _ _).alloc (Nat.le_refl _) _ |> (hwx ▸ ·)
          obtain ⟨b5, hb5, hl5⟩ := hwx2 _ _ _ hwx
          have N5 : Hid (w.heap.size + 1 < b5) := Lib.hid (by rw [← hb5]; exact TW.out.2.1.lt)
          (try have N56 : Hid (b5 ≠ b6) := Lib.hid (by rw [← hb5]; exact (Nat.ne_of_lt K6.out.lt).symm))
          have TW := Lib.hid (TW.out.below bx)
          (try have K6 := Lib.hid (K6.out.keep bx))
          have K5 : Hid (Blk wx b5 34 Z) := Lib.hid hl5
          rw [hb5]
          clear bx hwx hb5 hl5
          refine hK.out _ _ ?_ (fun hHeld => ?_)
          · exact ⟨TW.out.1.whole, TW.out.2.1.whole⟩
          clear hK K
          (try simp only [Act.put, List.setIfInBounds_toArray, List.set_cons_zero, List.set_cons_succ])
          refine wpAnyH_ready (rs := [6]) (by kernel_rfl) (by simp) ?_
          refine AllReadyH.cons (o := ak1o6) rfl (fun K hK => ?_) AllReadyH.nil
          rw [if_pos (by rfl)]
          refine wp_store_midT _ _ _ rfl b5 0 a.toArray rfl rfl (K5.out.thereT (by rw [HZL.out, Ha.out.2.1]; omega)) (by rw [Ha.out.2.1]; exact sizeRTab) Ha.out.2.2 ?_
          intro wx hwx
          have TW : Hid (Two 28 w wx a b) := Lib.hid (by rw [hwx]; exact TW.out.farS (by have := N5.out; omega) _ _)
          have K6 := Lib.hid (show Blk wx b6 34 _ by rw [hwx]; exact K6.out.farT (by have := N56.out; omega) _ _)
          have K5 : Hid (Blk wx b5 34 a) := Lib.hid (by rw [hwx]; exact K5.out.setWhole a (by rw [HZL.out]; exact Ha.out.1))
          clear hwx
          refine hK.out _ _ ?_ (fun hHeld => ?_)
          · exact ⟨TW.out.1.whole, TW.out.2.1.whole⟩
          clear hK K
          (try simp only [Act.put, List.setIfInBounds_toArray, List.set_cons_zero, List.set_cons_succ])
          refine wpAnyH_ready (rs := [7]) (by kernel_rfl) (by simp) ?_
          refine AllReadyH.cons (o := ak1o7) rfl (fun K hK => ?_) AllReadyH.nil
          rw [if_pos (by rfl)]
          refine wp_store_midT _ _ _ rfl b6 0 b.toArray rfl rfl (K6.out.thereT (by rw [HZL.out, Hb.out.2.1]; omega)) (by rw [Hb.out.2.1]; exact sizeRTab) Hb.out.2.2 ?_
          intro wx hwx
          have TW : Hid (Two 28 w wx a b) := Lib.hid (by rw [hwx]; exact TW.out.farS (by have := N6.out; omega) _ _)
          have K5 := Lib.hid (show Blk wx b5 34 _ by rw [hwx]; exact K5.out.farT (by have := N56.out; omega) _ _)
          have K6 : Hid (Blk wx b6 34 b) := Lib.hid (by rw [hwx]; exact K6.out.setWhole b (by rw [HZL.out]; exact Hb.out.1))
          clear hwx
          refine hK.out _ _ ?_ (fun hHeld => ?_)
          · exact ⟨TW.out.1.whole, TW.out.2.1.whole⟩
          clear hK K
          (try simp only [Act.put, List.setIfInBounds_toArray, List.set_cons_zero, List.set_cons_succ])
          refine wpAnyH_done (by kernel_rfl) ?_ _
          refine NoPanic.normal ?_
          go_wp2_with fail
          go_meet
          exact ⟨b5, b6, rfl, rfl, TW, K5, K6⟩
        · rw [if_pos (by rfl)]
          refine wp_alloc_isT 34 rfl Z.toArray (HZ.out _) ?_
          intro wx hwx
          have bx : Below _ _ wx := (Below.refl _ _).alloc (Nat.le_refl _) _ |> (hwx ▸ ·)
          obtain ⟨b5, hb5, hl5⟩ := hwx2 _ _ _ hwx
          have N5 : Hid (w.heap.size + 1 < b5) := Lib.hid (by rw [← hb5]; exact TW.out.2.1.lt)
          (try have N56 : Hid (b5 ≠ b6) := Lib.hid (by rw [← hb5]; exact (Nat.ne_of_lt K6.out.lt).symm))
          have TW := Lib.hid (TW.out.below bx)
          (try have K6 := Lib.hid (K6.out.keep bx))
          have K5 : Hid (Blk wx b5 34 Z) := Lib.hid hl5
          rw [hb5]
          clear bx hwx hb5 hl5
          refine hK.out _ _ ?_ (fun hHeld => ?_)
          · exact ⟨TW.out.1.whole, TW.out.2.1.whole⟩
          clear hK K
          (try simp only [Act.put, List.setIfInBounds_toArray, List.set_cons_zero, List.set_cons_succ])
          refine wpAnyH_ready (rs := [3]) (by kernel_rfl) (by simp) ?_
          refine AllReadyH.cons (o := ak1o3) rfl (fun K hK => ?_) AllReadyH.nil
          dsimp only [ak1o3]
          go_simp
          refine (OFB.out _).mono ?_
          rintro e wx ⟨rfl, bx⟩
          have TW := Lib.hid (TW.out.below bx)
          (try have K5 := Lib.hid (K5.out.keep bx))
          (try have K6 := Lib.hid (K6.out.keep bx))
          clear bx
          (try go_wp2_with fail)
          refine hK.out _ _ ?_ (fun hHeld => ?_)
          · exact ⟨TW.out.1.whole, TW.out.2.1.whole⟩
          clear hK K
          (try simp only [Act.put, List.setIfInBounds_toArray, List.set_cons_zero, List.set_cons_succ])
          refine wpAnyH_ready (rs := [6]) (by kernel_rfl) (by simp) ?_
          refine AllReadyH.cons (o := ak1o6) rfl (fun K hK => ?_) AllReadyH.nil
          rw [if_pos (by rfl)]
          refine wp_store_midT _ _ _ rfl b5 0 a.toArray rfl rfl (K5.out.thereT (by rw [HZL.out, Ha.out.2.1]; omega)) (by rw [Ha.out.2.1]; exact sizeRTab) Ha.out.2.2 ?_
          intro wx hwx
          have TW : Hid (Two 28 w wx a b) := Lib.hid (by rw [hwx]; exact TW.out.farS (by have := N5.out; omega) _ _)
          have K6 := Lib.hid (show Blk wx b6 34 _ by rw [hwx]; exact K6.out.farT (by have := N56.out; omega) _ _)
          have K5 : Hid (Blk wx b5 34 a) := Lib.hid (by rw [hwx]; exact K5.out.setWhole a (by rw [HZL.out]; exact Ha.out.1))
          clear hwx
          refine hK.out _ _ ?_ (fun hHeld => ?_)
          · exact ⟨TW.out.1.whole, TW.out.2.1.whole⟩
          clear hK K
          (try simp only [Act.put, List.setIfInBounds_toArray, List.set_cons_zero, List.set_cons_succ])
          refine wpAnyH_ready (rs := [7]) (by kernel_rfl) (by simp) ?_
          refine AllReadyH.cons (o := ak1o7) rfl (fun K hK => ?_) AllReadyH.nil
          rw [if_pos (by rfl)]
          refine wp_store_midT _ _ _ rfl b6 0 b.toArray rfl rfl (K6.out.thereT (by rw [HZL.out, Hb.out.2.1]; omega)) (by rw [Hb.out.2.1]; exact sizeRTab) Hb.out.2.2 ?_
          intro wx hwx
          have TW : Hid (Two 28 w wx a b) := Lib.hid (by rw [hwx]; exact TW.out.farS (by have := N6.out; omega) _ _)
          have K5 := Lib.hid (show Blk wx b5 34 _ by rw [hwx]; exact K5.out.farT (by have := N56.out; omega) _ _)
          have K6 : Hid (Blk wx b6 34 b) := Lib.hid (by rw [hwx]; exact K6.out.setWhole b (by rw [HZL.out]; exact Hb.out.1))
          clear hwx
          refine hK.out _ _ ?_ (fun hHeld => ?_)
          · exact ⟨TW.out.1.whole, TW.out.2.1.whole⟩
          clear hK K
          (try simp only [Act.put, List.setIfInBounds_toArray, List.set_cons_zero, List.set_cons_succ])
          refine wpAnyH_done (by kernel_rfl) ?_ _
          refine NoPanic.normal ?_
          go_wp2_with fail
          go_meet
          exact ⟨b5, b6, rfl, rfl, TW, K5, K6⟩
    · rw [if_pos (by rfl)]
      refine wp_alloc_isT 34 rfl Z.toArray (HZ.out _) ?_
      intro wx hwx
      have bx : Below _ _ wx := (Below.refl _ _).alloc (Nat.le_refl _) _ |> (hwx ▸ ·)
      obtain ⟨b5, hb5, hl5⟩ := hwx2 _ _ _ hwx
      have N5 : Hid (w.heap.size + 1 < b5) := Lib.hid (by rw [← hb5]; exact TW.out.2.1.lt)
      (try have N56 : Hid (b5 ≠ b6) := Lib.hid (by rw [← hb5]; exact (Nat.ne_of_lt K6.out.lt).symm))
      have TW := Lib.hid (TW.out.below bx)
      (try have K6 := Lib.hid (K6.out.keep bx))
      have K5 : Hid (Blk wx b5 34 Z) := Lib.hid hl5
      rw [hb5]
      clear bx hwx hb5 hl5
      refine hK.out _ _ ?_ (fun hHeld => ?_)
      · exact ⟨TW.out.1.whole, TW.out.2.1.whole⟩
      clear hK K
      (try simp only [Act.put, List.setIfInBounds_toArray, List.set_cons_zero, List.set_cons_succ])
      refine wpAnyH_ready (rs := [1, 5]) (by kernel_rfl) (by simp) ?_
      refine (AllReadyH.cons (o := ak1o1) rfl (fun K hK => ?_) (AllReadyH.cons (o := ak1o5) rfl (fun K hK => ?_) AllReadyH.nil))
      · dsimp only [ak1o1]
        go_simp
        refine (OFA.out _).mono ?_
        rintro e wx ⟨rfl, bx⟩
        have TW := Lib.hid (TW.out.below bx)
        (try have K5 := Lib.hid (K5.out.keep bx))
        (try have K6 := Lib.hid (K6.out.keep bx))
        clear bx
        (try go_wp2_with fail)
        refine hK.out _ _ ?_ (fun hHeld => ?_)
        · exact ⟨TW.out.1.whole, TW.out.2.1.whole⟩
        clear hK K
        (try simp only [Act.put, List.setIfInBounds_toArray, List.set_cons_zero, List.set_cons_succ])
        refine wpAnyH_ready (rs := [3, 5]) (by kernel_rfl) (by simp) ?_
        refine (AllReadyH.cons (o := ak1o3) rfl (fun K hK => ?_) (AllReadyH.cons (o := ak1o5) rfl (fun K hK => ?_) AllReadyH.nil))
        · dsimp only [ak1o3]
          go_simp
          refine (OFB.out _).mono ?_
          rintro e wx ⟨rfl, bx⟩
          have TW := Lib.hid (TW.out.below bx)
          (try have K5 := Lib.hid (K5.out.keep bx))
          (try have K6 := Lib.hid (K6.out.keep bx))
          clear bx
          (try go_wp2_with fail)
          refine hK.out _ _ ?_ (fun hHeld => ?_)
          · exact ⟨TW.out.1.whole, TW.out.2.1.whole⟩
          clear hK K
          (try simp only [Act.put, List.setIfInBounds_toArray, List.set_cons_zero, List.set_cons_succ])
          refine wpAnyH_ready (rs := [5]) (by kernel_rfl) (by simp) ?_
          refine AllReadyH.cons (o := ak1o5) rfl (fun K hK => ?_) AllReadyH.nil
          rw [if_pos (by rfl)]
          refine wp_alloc_isT 34 rfl Z.toArray (HZ.out _) ?_
          intro wx hwx
          have bx : Below _ _ wx := (Below.refl _ _).alloc (Nat.le_refl _) _ |> (hwx ▸ ·)
          obtain ⟨b6, hb6, hl6⟩ := hwx2 _ _ _ hwx
          have N6 : Hid (w.heap.size + 1 < b6) := Lib.hid (by rw [← hb6]; exact TW.out.2.1.lt)
          (try have N56 : Hid (b6 ≠ b5) := Lib.hid (by rw [← hb6]; exact (Nat.ne_of_lt K5.out.lt).symm))
          have TW := Lib.hid (TW.out.below bx)
          (try have K5 := Lib.hid (K5.out.keep bx))
          have K6 : Hid (Blk wx b6 34 Z) := Lib.hid hl6
          rw [hb6]
          clear bx hwx hb6 hl6
          refine hK.out _ _ ?_ (fun hHeld => ?_)
          · exact ⟨TW.out.1.whole, TW.out.2.1.whole⟩
          clear hK K
          (try simp only [Act.put, List.setIfInBounds_toArray, List.set_cons_zero, List.set_cons_succ])
          refine wpAnyH_ready (rs := [6]) (by kernel_rfl) (by simp) ?_
          refine AllReadyH.cons (o := ak1o6) rfl (fun K hK => ?_) AllReadyH.nil
          rw [if_pos (by rfl)]
          refine wp_store_midT _ _ _ rfl b5 0 a.toArray rfl rfl (K5.out.thereT (by rw [HZL.out, Ha.out.2.1]; omega)) (by rw [Ha.out.2.1]; exact sizeRTab) Ha.out.2.2 ?_
          intro wx hwx
          have TW : Hid (Two 28 w wx a b) := Lib.hid (by rw [hwx]; exact TW.out.farS (by have := N5.out; omega) _ _)
          have K6 := Lib.hid (show Blk wx b6 34 _ by rw [hwx]; exact K6.out.farT (by have := N56.out; omega) _ _)
          have K5 : Hid (Blk wx b5 34 a) := Lib.hid (by rw [hwx]; exact K5.out.setWhole a (by rw [HZL.out]; exact Ha.out.1))
          clear hwx
          refine hK.out _ _ ?_ (fun hHeld => ?_)
          · exact ⟨TW.out.1.whole, TW.out.2.1.whole⟩
          clear hK K
          (try simp only [Act.put, List.setIfInBounds_toArray, List.set_cons_zero, List.set_cons_succ])
          refine wpAnyH_ready (rs := [7]) (by kernel_rfl) (by simp) ?_
          refine AllReadyH.cons (o := ak1o7) rfl (fun K hK => ?_) AllReadyH.nil
          rw [if_pos (by rfl)]
          refine wp_store_midT _ _ _ rfl b6 0 b.toArray rfl rfl (K6.out.thereT (by rw [HZL.out, Hb.out.2.1]; omega)) (by rw [Hb.out.2.1]; exact sizeRTab) Hb.out.2.2 ?_
          intro wx hwx
          have TW : Hid (Two 28 w wx a b) := Lib.hid (by rw [hwx]; exact TW.out.farS (by have := N6.out; omega) _ _)
          have K5 := Lib.hid (show Blk wx b5 34 _ by rw [hwx]; exact K5.out.farT (by have := N56.out; omega) _ _)
          have K6 : Hid (Blk wx b6 34 b) := Lib.hid (by rw [hwx]; exact K6.out.setWhole b (by rw [HZL.out]; exact Hb.out.1))
          clear hwx
          refine hK.out _ _ ?_ (fun hHeld => ?_)
          · exact ⟨TW.out.1.whole, TW.out.2.1.whole⟩
          clear hK K
          (try simp only [Act.put, List.setIfInBounds_toArray, List.set_cons_zero, List.set_cons_succ])
          refine wpAnyH_done (by kernel_rfl) ?_ _
          refine NoPanic.normal ?_
          go_wp2_with fail
          go_meet
          exact ⟨b5, b6, rfl, rfl, TW, K5, K6⟩
        · rw [if_pos (by rfl)]
          refine wp_alloc_isT 34 rfl Z.toArray (HZ.out _) ?_
          intro wx hwx
          have bx : Below _ _ wx := (Below.refl _ _).alloc (Nat.le_refl _) _ |> (hwx ▸ ·)
          obtain ⟨b6, hb6, hl6⟩ := hwx2 _ _ _ hwx
          have N6 : Hid (w.heap.size + 1 < b6) := Lib.hid (by rw [← hb6]; exact TW.out.2.1.lt)
          (try have N56 : Hid (b6 ≠ b5) := Lib.hid (by rw [← hb6]; exact (Nat.ne_of_lt K5.out.lt).symm))
          have TW := Lib.hid (TW.out.below bx)
          (try have K5 := Lib.hid (K5.out.keep bx))
          have K6 : Hid (Blk wx b6 34 Z) := Lib.hid hl6
          rw [hb6]
          clear bx hwx hb6 hl6
          refine hK.out _ _ ?_ (fun hHeld => ?_)
          · exact ⟨TW.out.1.whole, TW.out.2.1.whole⟩
          clear hK K
          (try simp only [Act.put, List.setIfInBounds_toArray, List.set_cons_zero, List.set_cons_succ])
          refine wpAnyH_ready (rs := [3]) (by kernel_rfl) (by simp) ?_
          refine AllReadyH.cons (o := ak1o3) rfl (fun K hK => ?_) AllReadyH.nil
          dsimp only [ak1o3]
          go_simp
          refine (OFB.out _).mono ?_
          rintro e wx ⟨rfl, bx⟩
          have TW := Lib.hid (TW.out.below bx)
          (try have K5 := Lib.hid (K5.out.keep bx))
          (try have K6 := Lib.hid (K6.out.keep bx))
          clear bx
          (try go_wp2_with fail)
          refine hK.out _ _ ?_ (fun hHeld => ?_)
          · exact ⟨TW.out.1.whole, TW.out.2.1.whole⟩
          clear hK K
          (try simp only [Act.put, List.setIfInBounds_toArray, List.set_cons_zero, List.set_cons_succ])
          refine wpAnyH_ready (rs := [6]) (by kernel_rfl) (by simp) ?_
          refine AllReadyH.cons (o := ak1o6) rfl (fun K hK => ?_) AllReadyH.nil
          rw [if_pos (by rfl)]
          refine wp_store_midT _ _ _ rfl b5 0 a.toArray rfl rfl (K5.out.thereT (by rw [HZL.out, Ha.out.2.1]; omega)) (by rw [Ha.out.2.1]; exact sizeRTab) Ha.out.2.2 ?_
          intro wx hwx
          have TW : Hid (Two 28 w wx a b) := Lib.hid (by rw [hwx]; exact TW.out.farS (by have := N5.out; omega) _ _)
          have K6 := Lib.hid (show Blk wx b6 34 _ by rw [hwx]; exact K6.out.farT (by have := N56.out; omega) _ _)
          have K5 : Hid (Blk wx b5 34 a) := Lib.hid (by rw [hwx]; exact K5.out.setWhole a (by rw [HZL.out]; exact Ha.out.1))
          clear hwx
          refine hK.out _ _ ?_ (fun hHeld => ?_)
          · exact ⟨TW.out.1.whole, TW.out.2.1.whole⟩
          clear hK K
          (try simp only [Act.put, List.setIfInBounds_toArray, List.set_cons_zero, List.set_cons_succ])
          refine wpAnyH_ready (rs := [7]) (by kernel_rfl) (by simp) ?_
          refine AllReadyH.cons (o := ak1o7) rfl (fun K hK => ?_) AllReadyH.nil
          rw [if_pos (by rfl)]
          refine wp_store_midT _ _ _ rfl b6 0 b.toArray rfl rfl (K6.out.thereT (by rw [HZL.out, Hb.out.2.1]; omega)) (by rw [Hb.out.2.1]; exact sizeRTab) Hb.out.2.2 ?_
          intro wx hwx
          have TW : Hid (Two 28 w wx a b) := Lib.hid (by rw [hwx]; exact TW.out.farS (by have := N6.out; omega) _ _)
          have K5 := Lib.hid (show Blk wx b5 34 _ by rw [hwx]; exact K5.out.farT (by have := N56.out; omega) _ _)
          have K6 : Hid (Blk wx b6 34 b) := Lib.hid (by rw [hwx]; exact K6.out.setWhole b (by rw [HZL.out]; exact Hb.out.1))
          clear hwx
          refine hK.out _ _ ?_ (fun hHeld => ?_)
          · exact ⟨TW.out.1.whole, TW.out.2.1.whole⟩
          clear hK K
          (try simp only [Act.put, List.setIfInBounds_toArray, List.set_cons_zero, List.set_cons_succ])
          refine wpAnyH_done (by kernel_rfl) ?_ _
          refine NoPanic.normal ?_
          go_wp2_with fail
          go_meet
          exact ⟨b5, b6, rfl, rfl, TW, K5, K6⟩
      · rw [if_pos (by rfl)]
        refine wp_alloc_isT 34 rfl Z.toArray (HZ.out _) ?_
        intro wx hwx
        have bx : Below _ _ wx := (Below.refl _ _).alloc (Nat.le_refl _) _ |> (hwx ▸ ·)
        obtain ⟨b6, hb6, hl6⟩ := hwx2 _ _ _ hwx
        have N6 : Hid (w.heap.size + 1 < b6) := Lib.hid (by rw [← hb6]; exact TW.out.2.1.lt)
        (try have N56 : Hid (b6 ≠ b5) := Lib.hid (by rw [← hb6]; exact (Nat.ne_of_lt K5.out.lt).symm))
        have TW := Lib.hid (TW.out.below bx)
        (try have K5 := Lib.hid (K5.out.keep bx))
        have K6 : Hid (Blk wx b6 34 Z) := Lib.hid hl6
        rw [hb6]
        clear bx hwx hb6 hl6
        refine hK.out _ _ ?_ (fun hHeld => ?_)
        · exact ⟨TW.out.1.whole, TW.out.2.1.whole⟩
        clear hK K
        (try simp only [Act.put, List.setIfInBounds_toArray, List.set_cons_zero, List.set_cons_succ])
        refine wpAnyH_ready (rs := [1]) (by kernel_rfl) (by simp) ?_
        refine AllReadyH.cons (o := ak1o1) rfl (fun K hK => ?_) AllReadyH.nil
        dsimp only [ak1o1]
        go_simp
        refine (OFA.out _).mono ?_
        rintro e wx ⟨rfl, bx⟩
        have TW := Lib.hid (TW.out.below bx)
        (try have K5 := Lib.hid (K5.out.keep bx))
        (try have K6 := Lib.hid (K6.out.keep bx))
        clear bx
        (try go_wp2_with fail)
        refine hK.out _ _ ?_ (fun hHeld => ?_)
        · exact ⟨TW.out.1.whole, TW.out.2.1.whole⟩
        clear hK K
        (try simp only [Act.put, List.setIfInBounds_toArray, List.set_cons_zero, List.set_cons_succ])
        refine wpAnyH_ready (rs := [3]) (by kernel_rfl) (by simp) ?_
        refine AllReadyH.cons (o := ak1o3) rfl (fun K hK => ?_) AllReadyH.nil
        dsimp only [ak1o3]
        go_simp
        refine (OFB.out _).mono ?_
        rintro e wx ⟨rfl, bx⟩
        have TW := Lib.hid (TW.out.below bx)
        (try have K5 := Lib.hid (K5.out.keep bx))
        (try have K6 := Lib.hid (K6.out.keep bx))
        clear bx
        (try go_wp2_with fail)
        refine hK.out _ _ ?_ (fun hHeld => ?_)
        · exact ⟨TW.out.1.whole, TW.out.2.1.whole⟩
        clear hK K
        (try simp only [Act.put, List.setIfInBounds_toArray, List.set_cons_zero, List.set_cons_succ])
        refine wpAnyH_ready (rs := [6]) (by kernel_rfl) (by simp) ?_
        refine AllReadyH.cons (o := ak1o6) rfl (fun K hK => ?_) AllReadyH.nil
        rw [if_pos (by rfl)]
        refine wp_store_midT _ _ _ rfl b5 0 a.toArray rfl rfl (K5.out.thereT (by rw [HZL.out, Ha.out.2.1]; omega)) (by rw [Ha.out.2.1]; exact sizeRTab) Ha.out.2.2 ?_
        intro wx hwx
        have TW : Hid (Two 28 w wx a b) := Lib.hid (by rw [hwx]; exact TW.out.farS (by have := N5.out; omega) _ _)
        have K6 := Lib.hid (show Blk wx b6 34 _ by rw [hwx]; exact K6.out.farT (by have := N56.out; omega) _ _)
        have K5 : Hid (Blk wx b5 34 a) := Lib.hid (by rw [hwx]; exact K5.out.setWhole a (by rw [HZL.out]; exact Ha.out.1))
        clear hwx
        refine hK.out _ _ ?_ (fun hHeld => ?_)
        · exact ⟨TW.out.1.whole, TW.out.2.1.whole⟩
        clear hK K
        (try simp only [Act.put, List.setIfInBounds_toArray, List.set_cons_zero, List.set_cons_succ])
        refine wpAnyH_ready (rs := [7]) (by kernel_rfl) (by simp) ?_
        refine AllReadyH.cons (o := ak1o7) rfl (fun K hK => ?_) AllReadyH.nil
        rw [if_pos (by rfl)]
        refine wp_store_midT _ _ _ rfl b6 0 b.toArray rfl rfl (K6.out.thereT (by rw [HZL.out, Hb.out.2.1]; omega)) (by rw [Hb.out.2.1]; exact sizeRTab) Hb.out.2.2 ?_
        intro wx hwx
        have TW : Hid (Two 28 w wx a b) := Lib.hid (by rw [hwx]; exact TW.out.farS (by have := N6.out; omega) _ _)
        have K5 := Lib.hid (show Blk wx b5 34 _ by rw [hwx]; exact K5.out.farT (by have := N56.out; omega) _ _)
        have K6 : Hid (Blk wx b6 34 b) := Lib.hid (by rw [hwx]; exact K6.out.setWhole b (by rw [HZL.out]; exact Hb.out.1))
        clear hwx
        refine hK.out _ _ ?_ (fun hHeld => ?_)
        · exact ⟨TW.out.1.whole, TW.out.2.1.whole⟩
        clear hK K
        (try simp only [Act.put, List.setIfInBounds_toArray, List.set_cons_zero, List.set_cons_succ])
        refine wpAnyH_done (by kernel_rfl) ?_ _
        refine NoPanic.normal ?_
        go_wp2_with fail
        go_meet
        exact ⟨b5, b6, rfl, rfl, TW, K5, K6⟩
    · rw [if_pos (by rfl)]
      refine wp_alloc_isT 34 rfl Z.toArray (HZ.out _) ?_
      intro wx hwx
      have bx : Below _ _ wx := (Below.refl _ _).alloc (Nat.le_refl _) _ |> (hwx ▸ ·)
      obtain ⟨b6, hb6, hl6⟩ := hwx2 _ _ _ hwx
      have N6 : Hid (w.heap.size + 1 < b6) := Lib.hid (by rw [← hb6]; exact TW.out.2.1.lt)
      (try have N56 : Hid (b6 ≠ b5) := Lib.hid (by rw [← hb6]; exact (Nat.ne_of_lt K5.out.lt).symm))
      have TW := Lib.hid (TW.out.below bx)
      (try have K5 := Lib.hid (K5.out.keep bx))
      have K6 : Hid (Blk wx b6 34 Z) := Lib.hid hl6
      rw [hb6]
      clear bx hwx hb6 hl6
      refine hK.out _ _ ?_ (fun hHeld => ?_)
      · exact ⟨TW.out.1.whole, TW.out.2.1.whole⟩
      clear hK K
      (try simp only [Act.put, List.setIfInBounds_toArray, List.set_cons_zero, List.set_cons_succ])
      refine wpAnyH_ready (rs := [1, 4]) (by kernel_rfl) (by simp) ?_
      refine (AllReadyH.cons (o := ak1o1) rfl (fun K hK => ?_) (AllReadyH.cons (o := ak1o4) rfl (fun K hK => ?_) AllReadyH.nil))
      · dsimp only [ak1o1]
        go_simp
        refine (OFA.out _).mono ?_
        rintro e wx ⟨rfl, bx⟩
        have TW := Lib.hid (TW.out.below bx)
        (try have K5 := Lib.hid (K5.out.keep bx))
        (try have K6 := Lib.hid (K6.out.keep bx))
        clear bx
        (try go_wp2_with fail)
        refine hK.out _ _ ?_ (fun hHeld => ?_)
        · exact ⟨TW.out.1.whole, TW.out.2.1.whole⟩
        clear hK K
        (try simp only [Act.put, List.setIfInBounds_toArray, List.set_cons_zero, List.set_cons_succ])
        refine wpAnyH_ready (rs := [3, 4]) (by kernel_rfl) (by simp) ?_
        refine (AllReadyH.cons (o := ak1o3) rfl (fun K hK => ?_) (AllReadyH.cons (o := ak1o4) rfl (fun K hK => ?_) AllReadyH.nil))
        · dsimp only [ak1o3]
          go_simp
          refine (OFB.out _).mono ?_
          rintro e wx ⟨rfl, bx⟩
          have TW := Lib.hid (TW.out.below bx)
          (try have K5 := Lib.hid (K5.out.keep bx))
          (try have K6 := Lib.hid (K6.out.keep bx))
          clear bx
          (try go_wp2_with fail)
          refine hK.out _ _ ?_ (fun hHeld => ?_)
          · exact ⟨TW.out.1.whole, TW.out.2.1.whole⟩
          clear hK K
          (try simp only [Act.put, List.setIfInBounds_toArray, List.set_cons_zero, List.set_cons_succ])
          refine wpAnyH_ready (rs := [4]) (by kernel_rfl) (by simp) ?_
          refine AllReadyH.cons (o := ak1o4) rfl (fun K hK => ?_) AllReadyH.nil
          rw [if_pos (by rfl)]
          refine wp_alloc_isT 34 rfl Z.toArray (HZ.out _) ?_
          intro wx hwx
          have bx : Below _ _ wx := (Below.refl _ _).alloc (Nat.le_refl _) _ |> (hwx ▸ ·)
          obtain ⟨b5, hb5, hl5⟩ := hwx2 _ _ _ hwx
          have N5 : Hid (w.heap.size + 1 < b5) := Lib.hid (by rw [← hb5]; exact TW.out.2.1.lt)
          (try have N56 : Hid (b5 ≠ b6) := Lib.hid (by rw [← hb5]; exact (Nat.ne_of_lt K6.out.lt).symm))
          have TW := Lib.hid (TW.out.below bx)
          (try have K6 := Lib.hid (K6.out.keep bx))
          have K5 : Hid (Blk wx b5 34 Z) := Lib.hid hl5
          rw [hb5]
          clear bx hwx hb5 hl5
          refine hK.out _ _ ?_ (fun hHeld => ?_)
          · exact ⟨TW.out.1.whole, TW.out.2.1.whole⟩
          clear hK K
          (try simp only [Act.put, List.setIfInBounds_toArray, List.set_cons_zero, List.set_cons_succ])
          refine wpAnyH_ready (rs := [6]) (by kernel_rfl) (by simp) ?_
          refine AllReadyH.cons (o := ak1o6) rfl (fun K hK => ?_) AllReadyH.nil
          rw [if_pos (by rfl)]
          refine wp_store_midT _ _ _ rfl b5 0 a.toArray rfl rfl (K5.out.thereT (by rw [HZL.out, Ha.out.2.1]; omega)) (by rw [Ha.out.2.1]; exact sizeRTab) Ha.out.2.2 ?_
          intro wx hwx
          have TW : Hid (Two 28 w wx a b) := Lib.hid (by rw [hwx]; exact TW.out.farS (by have := N5.out; omega) _ _)
          have K6 := Lib.hid (show Blk wx b6 34 _ by rw [hwx]; exact K6.out.farT (by have := N56.out; omega) _ _)
          have K5 : Hid (Blk wx b5 34 a) := Lib.hid (by rw [hwx]; exact K5.out.setWhole a (by rw [HZL.out]; exact Ha.out.1))
          clear hwx
          refine hK.out _ _ ?_ (fun hHeld => ?_)
          · exact ⟨TW.out.1.whole, TW.out.2.1.whole⟩
          clear hK K
          (try simp only [Act.put, List.setIfInBounds_toArray, List.set_cons_zero, List.set_cons_succ])
          refine wpAnyH_ready (rs := [7]) (by kernel_rfl) (by simp) ?_
          refine AllReadyH.cons (o := ak1o7) rfl (fun K hK => ?_) AllReadyH.nil
          rw [if_pos (by rfl)]
          refine wp_store_midT _ _ _ rfl b6 0 b.toArray rfl rfl (K6.out.thereT (by rw [HZL.out, Hb.out.2.1]; omega)) (by rw [Hb.out.2.1]; exact sizeRTab) Hb.out.2.2 ?_
          intro wx hwx
          have TW : Hid (Two 28 w wx a b) := Lib.hid (by rw [hwx]; exact TW.out.farS (by have := N6.out; omega) _ _)
          have K5 := Lib.hid (show Blk wx b5 34 _ by rw [hwx]; exact K5.out.farT (by have := N56.out; omega) _ _)
          have K6 : Hid (Blk wx b6 34 b) := Lib.hid (by rw [hwx]; exact K6.out.setWhole b (by rw [HZL.out]; exact Hb.out.1))
          clear hwx
          refine hK.out _ _ ?_ (fun hHeld => ?_)
          · exact ⟨TW.out.1.whole, TW.out.2.1.whole⟩
          clear hK K
          (try simp only [Act.put, List.setIfInBounds_toArray, List.set_cons_zero, List.set_cons_succ])
          refine wpAnyH_done (by kernel_rfl) ?_ _
          refine NoPanic.normal ?_
          go_wp2_with fail
          go_meet
          exact ⟨b5, b6, rfl, rfl, TW, K5, K6⟩
        · rw [if_pos (by rfl)]
          refine wp_alloc_isT 34 rfl Z.toArray (HZ.out _) ?_
          intro wx hwx
          have bx : Below _ _ wx := (Below.refl _ _).alloc (Nat.le_refl _) _ |> (hwx ▸ ·)
          obtain ⟨b5, hb5, hl5⟩ := hwx2 _ _ _ hwx
          have N5 : Hid (w.heap.size + 1 < b5) := Lib.hid (by rw [← hb5]; exact TW.out.2.1.lt)
          (try have N56 : Hid (b5 ≠ b6) := Lib.hid (by rw [← hb5]; exact (Nat.ne_of_lt K6.out.lt).symm))
          have TW := Lib.hid (TW.out.below bx)
          (try have K6 := Lib.hid (K6.out.keep bx))
          have K5 : Hid (Blk wx b5 34 Z) := Lib.hid hl5
          rw [hb5]
          clear bx hwx hb5 hl5
          refine hK.out _ _ ?_ (fun hHeld => ?_)
          · exact ⟨TW.out.1.whole, TW.out.2.1.whole⟩
          clear hK K
          (try simp only [Act.put, List.setIfInBounds_toArray, List.set_cons_zero, List.set_cons_succ])
          refine wpAnyH_ready (rs := [3]) (by kernel_rfl) (by simp) ?_
          refine AllReadyH.cons (o := ak1o3) rfl (fun K hK => ?_) AllReadyH.nil
          dsimp only [ak1o3]
          go_simp
          refine (OFB.out _).mono ?_
          rintro e wx ⟨rfl, bx⟩
          have TW := Lib.hid (TW.out.below bx)
          (try have K5 := Lib.hid (K5.out.keep bx))
          (try have K6 := Lib.hid (K6.out.keep bx))
          clear bx
          (try go_wp2_with fail)
          refine hK.out _ _ ?_ (fun hHeld => ?_)
          · exact ⟨TW.out.1.whole, TW.out.2.1.whole⟩
          clear hK K
          (try simp only [Act.put, List.setIfInBounds_toArray, List.set_cons_zero, List.set_cons_succ])
          refine wpAnyH_ready (rs := [6]) (by kernel_rfl) (by simp) ?_
          refine AllReadyH.cons (o := ak1o6) rfl (fun K hK => ?_) AllReadyH.nil
          rw [if_pos (by rfl)]
          refine wp_store_midT _ _ _ rfl b5 0 a.toArray rfl rfl (K5.out.thereT (by rw [HZL.out, Ha.out.2.1]; omega)) (by rw [Ha.out.2.1]; exact sizeRTab) Ha.out.2.2 ?_
          intro wx hwx
          have TW : Hid (Two 28 w wx a b) := Lib.hid (by rw [hwx]; exact TW.out.farS (by have := N5.out; omega) _ _)
          have K6 := Lib.hid (show Blk wx b6 34 _ by rw [hwx]; exact K6.out.farT (by have := N56.out; omega) _ _)
          have K5 : Hid (Blk wx b5 34 a) := Lib.hid (by rw [hwx]; exact K5.out.setWhole a (by rw [HZL.out]; exact Ha.out.1))
          clear hwx
          refine hK.out _ _ ?_ (fun hHeld => ?_)
          · exact ⟨TW.out.1.whole, TW.out.2.1.whole⟩
          clear hK K
          (try simp only [Act.put, List.setIfInBounds_toArray, List.set_cons_zero, List.set_cons_succ])
          refine wpAnyH_ready (rs := [7]) (by kernel_rfl) (by simp) ?_
          refine AllReadyH.cons (o := ak1o7) rfl (fun K hK => ?_) AllReadyH.nil
          rw [if_pos (by rfl)]
          refine wp_store_midT _ _ _ rfl b6 0 b.toArray rfl rfl (K6.out.thereT (by rw [HZL.out, Hb.out.2.1]; omega)) (by rw [Hb.out.2.1]; exact sizeRTab) Hb.out.2.2 ?_
          intro wx hwx
          have TW : Hid (Two 28 w wx a b) := Lib.hid (by rw [hwx]; exact TW.out.farS (by have := N6.out; omega) _ _)
          have K5 := Lib.hid (show Blk wx b5 34 _ by rw [hwx]; exact K5.out.farT (by have := N56.out; omega) _ _)
          have K6 : Hid (Blk wx b6 34 b) := Lib.hid (by rw [hwx]; exact K6.out.setWhole b (by rw [HZL.out]; exact Hb.out.1))
          clear hwx
          refine hK.out _ _ ?_ (fun hHeld => ?_)
          · exact ⟨TW.out.1.whole, TW.out.2.1.whole⟩
          clear hK K
          (try simp only [Act.put, List.setIfInBounds_toArray, List.set_cons_zero, List.set_cons_succ])
          refine wpAnyH_done (by kernel_rfl) ?_ _
          refine NoPanic.normal ?_
          go_wp2_with fail
          go_meet
          exact ⟨b5, b6, rfl, rfl, TW, K5, K6⟩
      · rw [if_pos (by rfl)]
        refine wp_alloc_isT 34 rfl Z.toArray (HZ.out _) ?_
        intro wx hwx
        have bx : Below _ _ wx := (Below.refl _ _).alloc (Nat.le_refl _) _ |> (hwx ▸ ·)
        obtain ⟨b5, hb5, hl5⟩ := hwx2 _ _ _ hwx
        have N5 : Hid (w.heap.size + 1 < b5) := Lib.hid (by rw [← hb5]; exact TW.out.2.1.lt)
        (try have N56 : Hid (b5 ≠ b6) := Lib.hid (by rw [← hb5]; exact (Nat.ne_of_lt K6.out.lt).symm))
        have TW := Lib.hid (TW.out.below bx)
        (try have K6 := Lib.hid (K6.out.keep bx))
        have K5 : Hid (Blk wx b5 34 Z) := Lib.hid hl5
        rw [hb5]
        clear bx hwx hb5 hl5
        refine hK.out _ _ ?_ (fun hHeld => ?_)
        · exact ⟨TW.out.1.whole, TW.out.2.1.whole⟩
        clear hK K
        (try simp only [Act.put, List.setIfInBounds_toArray, List.set_cons_zero, List.set_cons_succ])
        refine wpAnyH_ready (rs := [1]) (by kernel_rfl) (by simp) ?_
        refine AllReadyH.cons (o := ak1o1) rfl (fun K hK => ?_) AllReadyH.nil
        dsimp only [ak1o1]
        go_simp
        refine (OFA.out _).mono ?_
        rintro e wx ⟨rfl, bx⟩
        have TW := Lib.hid (TW.out.below bx)
        (try have K5 := Lib.hid (K5.out.keep bx))
        (try have K6 := Lib.hid (K6.out.keep bx))
        clear bx
        (try go_wp2_with fail)
        refine hK.out _ _ ?_ (fun hHeld => ?_)
        · exact ⟨TW.out.1.whole, TW.out.2.1.whole⟩
        clear hK K
        (try simp only [Act.put, List.setIfInBounds_toArray, List.set_cons_zero, List.set_cons_succ])
        refine wpAnyH_ready (rs := [3]) (by kernel_rfl) (by simp) ?_
        refine AllReadyH.cons (o := ak1o3) rfl (fun K hK => ?_) AllReadyH.nil
        dsimp only [ak1o3]
        go_simp
        refine (OFB.out _).mono ?_
        rintro e wx ⟨rfl, bx⟩
        have TW := Lib.hid (TW.out.below bx)
        (try have K5 := Lib.hid (K5.out.keep bx))
        (try have K6 := Lib.hid (K6.out.keep bx))
        clear bx
        (try go_wp2_with fail)
        refine hK.out _ _ ?_ (fun hHeld => ?_)
        · exact ⟨TW.out.1.whole, TW.out.2.1.whole⟩
        clear hK K
        (try simp only [Act.put, List.setIfInBounds_toArray, List.set_cons_zero, List.set_cons_succ])
        refine wpAnyH_ready (rs := [6]) (by kernel_rfl) (by simp) ?_
        refine AllReadyH.cons (o := ak1o6) rfl (fun K hK => ?_) AllReadyH.nil
        rw [if_pos (by rfl)]
        refine wp_store_midT _ _ _ rfl b5 0 a.toArray rfl rfl (K5.out.thereT (by rw [HZL.out, Ha.out.2.1]; omega)) (by rw [Ha.out.2.1]; exact sizeRTab) Ha.out.2.2 ?_
        intro wx hwx
        have TW : Hid (Two 28 w wx a b) := Lib.hid (by rw [hwx]; exact TW.out.farS (by have := N5.out; omega) _ _)
        have K6 := Lib.hid (show Blk wx b6 34 _ by rw [hwx]; exact K6.out.farT (by have := N56.out; omega) _ _)
        have K5 : Hid (Blk wx b5 34 a) := Lib.hid (by rw [hwx]; exact K5.out.setWhole a (by rw [HZL.out]; exact Ha.out.1))
        clear hwx
        refine hK.out _ _ ?_ (fun hHeld => ?_)
        · exact ⟨TW.out.1.whole, TW.out.2.1.whole⟩
        clear hK K
        (try simp only [Act.put, List.setIfInBounds_toArray, List.set_cons_zero, List.set_cons_succ])
        refine wpAnyH_ready (rs := [7]) (by kernel_rfl) (by simp) ?_
        refine AllReadyH.cons (o := ak1o7) rfl (fun K hK => ?_) AllReadyH.nil
        rw [if_pos (by rfl)]
        refine wp_store_midT _ _ _ rfl b6 0 b.toArray rfl rfl (K6.out.thereT (by rw [HZL.out, Hb.out.2.1]; omega)) (by rw [Hb.out.2.1]; exact sizeRTab) Hb.out.2.2 ?_
        intro wx hwx
        have TW : Hid (Two 28 w wx a b) := Lib.hid (by rw [hwx]; exact TW.out.farS (by have := N6.out; omega) _ _)
        have K5 := Lib.hid (show Blk wx b5 34 _ by rw [hwx]; exact K5.out.farT (by have := N56.out; omega) _ _)
        have K6 : Hid (Blk wx b6 34 b) := Lib.hid (by rw [hwx]; exact K6.out.setWhole b (by rw [HZL.out]; exact Hb.out.1))
        clear hwx
        refine hK.out _ _ ?_ (fun hHeld => ?_)
        · exact ⟨TW.out.1.whole, TW.out.2.1.whole⟩
        clear hK K
        (try simp only [Act.put, List.setIfInBounds_toArray, List.set_cons_zero, List.set_cons_succ])
        refine wpAnyH_done (by kernel_rfl) ?_ _
        refine NoPanic.normal ?_
        go_wp2_with fail
        go_meet
        exact ⟨b5, b6, rfl, rfl, TW, K5, K6⟩
  case rest =>
    obtain ⟨b5, b6, rfl, rfl, TW, K5, K6⟩ := hcut
    have TW : Hid (Two 28 w wc.drew a b) := Lib.hid TW.out.drew
    have K5 : Hid (Blk wc.drew b5 34 a) := Lib.hid K5.out
    have K6 : Hid (Blk wc.drew b6 34 b) := Lib.hid K6.out
    go_upto_region 2 with fail
    refine wp_region_noPanic ?_
    refine wp_region_held_drew (S := fun w' => (w'.rangeAt w.heap.size 0 a ∧ w'.rangeAt (w.heap.size + 1) 0 b) ∧ w'.rangeAt b5 0 a ∧ w'.rangeAt b6 0 b) (by kernel_rfl) ?_ (fun hHeld => ?_)
    · exact ⟨⟨TW.out.1.whole, TW.out.2.1.whole⟩, K5.out.whole, K6.out.whole⟩
    refine wpAnyH_ready (rs := [0]) (by kernel_rfl) (by simp) ?_
    refine AllReadyH.cons (o := ak2o0) rfl (fun K hK => ?_) AllReadyH.nil
    dsimp only [ak2o0]
    go_simp
    refine (AW.out _).mono ?_
    rintro e wx ⟨rfl, bx⟩
    have TW := Lib.hid (TW.out.below bx)
    (try have K5 := Lib.hid (K5.out.keep bx))
    (try have K6 := Lib.hid (K6.out.keep bx))
    clear bx
    (try go_wp2_with fail)
    refine hK.out _ _ ?_ (fun hHeld => ?_)
    · exact ⟨⟨TW.out.1.whole, TW.out.2.1.whole⟩, K5.out.whole, K6.out.whole⟩
    clear hK K
    (try simp only [Act.put, List.setIfInBounds_toArray, List.set_cons_zero, List.set_cons_succ])
    refine wpAnyH_take (i := 1) (oi := ak2o1) (v := ?_) rfl (by kernel_rfl) (by kernel_rfl) (by kernel_rfl) (fun _ _ _ h => h) (Or.inl ⟨by rfl, ?_⟩) (by assumption) ?_
    rotate_left
    · (intro w hSw; (try dsimp only at hSw); (try dsimp only [ak2o1]); go_simp; try (with_reducible rfl))
    (try simp only [Act.put, List.setIfInBounds_toArray, List.set_cons_zero, List.set_cons_succ])
    refine wpAnyH_take (i := 2) (oi := ak2o2) (v := _) rfl (by kernel_rfl) (by kernel_rfl) (by kernel_rfl) (fun _ _ _ h => h) (yieldsIf_load_mid ?_ 28 _ rfl w.heap.size 0 rfl a _ (fun _ (h : (_ ∧ _) ∧ _ ∧ _) => h.1.1) Try.underlying28 rfl hsa) (by assumption) ?_
    · rfl
    (try simp only [Act.put, List.setIfInBounds_toArray, List.set_cons_zero, List.set_cons_succ])
    refine wpAnyH_take (i := 3) (oi := ak2o3) (v := _) rfl (by kernel_rfl) (by kernel_rfl) (by kernel_rfl) (fun _ _ _ h => h) (yieldsIf_load_mid ?_ 28 _ rfl (w.heap.size + 1) 0 rfl b _ (fun _ (h : (_ ∧ _) ∧ _ ∧ _) => h.1.2) Try.underlying28 rfl hsb) (by assumption) ?_
    · rfl
    (try simp only [Act.put, List.setIfInBounds_toArray, List.set_cons_zero, List.set_cons_succ])
    refine wpAnyH_take (i := 5) (oi := ak2o5) (v := _) rfl (by kernel_rfl) (by kernel_rfl) (by kernel_rfl) (fun _ _ _ h => h) (yieldsIf_load_mid ?_ 34 _ rfl b5 0 rfl a _ (fun _ (h : (_ ∧ _) ∧ _ ∧ _) => h.2.1) Try.underlying34 rfl hra) (by assumption) ?_
    · rfl
    (try simp only [Act.put, List.setIfInBounds_toArray, List.set_cons_zero, List.set_cons_succ])
    refine wpAnyH_take (i := 6) (oi := ak2o6) (v := _) rfl (by kernel_rfl) (by kernel_rfl) (by kernel_rfl) (fun _ _ _ h => h) (yieldsIf_load_mid ?_ 34 _ rfl b6 0 rfl b _ (fun _ (h : (_ ∧ _) ∧ _ ∧ _) => h.2.2) Try.underlying34 rfl hrb) (by assumption) ?_
    · rfl
    (try simp only [Act.put, List.setIfInBounds_toArray, List.set_cons_zero, List.set_cons_succ])
    refine wpAnyH_ready (rs := [4]) (by kernel_rfl) (by simp) ?_
    refine AllReadyH.cons (o := ak2o4) rfl (fun K hK => ?_) AllReadyH.nil
    dsimp only [ak2o4]
    go_simp
    refine (CV.out _).mono ?_
    rintro e wx ⟨rfl, bx⟩
    have TW := Lib.hid (TW.out.below bx)
    (try have K5 := Lib.hid (K5.out.keep bx))
    (try have K6 := Lib.hid (K6.out.keep bx))
    clear bx
    (try go_wp2_with fail)
    refine hK.out _ _ ?_ (fun hHeld => ?_)
    · exact ⟨⟨TW.out.1.whole, TW.out.2.1.whole⟩, K5.out.whole, K6.out.whole⟩
    clear hK K
    (try simp only [Act.put, List.setIfInBounds_toArray, List.set_cons_zero, List.set_cons_succ])
    refine wpAnyH_ready (rs := [7]) (by kernel_rfl) (by simp) ?_
    refine AllReadyH.cons (o := ak2o7) rfl (fun K hK => ?_) AllReadyH.nil
    dsimp only [ak2o7]
    go_simp
    refine (RCV.out _).mono ?_
    rintro e wx ⟨rfl, bx⟩
    have TW := Lib.hid (TW.out.below bx)
    (try have K5 := Lib.hid (K5.out.keep bx))
    (try have K6 := Lib.hid (K6.out.keep bx))
    clear bx
    (try go_wp2_with fail)
    refine hK.out _ _ ?_ (fun hHeld => ?_)
    · exact ⟨⟨TW.out.1.whole, TW.out.2.1.whole⟩, K5.out.whole, K6.out.whole⟩
    clear hK K
    (try simp only [Act.put, List.setIfInBounds_toArray, List.set_cons_zero, List.set_cons_succ])
    refine wpAnyH_take (i := 8) (oi := ak2o8) (v := ?_) rfl (by kernel_rfl) (by kernel_rfl) (by kernel_rfl) (fun _ _ _ h => h) (Or.inl ⟨by rfl, ?_⟩) (by assumption) ?_
    rotate_left
    · (intro w hSw; (try dsimp only at hSw); (try dsimp only [ak2o8]); go_simp; try (with_reducible rfl))
    (try simp only [Act.put, List.setIfInBounds_toArray, List.set_cons_zero, List.set_cons_succ])
    refine wpAnyH_take (i := 9) (oi := ak2o9) (v := ?_) rfl (by kernel_rfl) (by kernel_rfl) (by kernel_rfl) (fun _ _ _ h => h) (Or.inl ⟨by rfl, ?_⟩) (by assumption) ?_
    rotate_left
    · (intro w hSw; (try dsimp only at hSw); (try dsimp only [ak2o9]); go_simp; try (with_reducible rfl))
    (try simp only [Act.put, List.setIfInBounds_toArray, List.set_cons_zero, List.set_cons_succ])
    refine wpAnyH_take (i := 10) (oi := ak2o10) (v := ?_) rfl (by kernel_rfl) (by kernel_rfl) (by kernel_rfl) (fun _ _ _ h => h) (Or.inl ⟨by rfl, ?_⟩) (by assumption) ?_
    rotate_left
    · (intro w hSw; (try dsimp only at hSw); (try dsimp only [ak2o10]); go_simp; try (with_reducible rfl))
    (try simp only [Act.put, List.setIfInBounds_toArray, List.set_cons_zero, List.set_cons_succ])
    refine wpAnyH_take (i := 11) (oi := ak2o11) (v := _) rfl (by kernel_rfl) (by kernel_rfl) (by kernel_rfl) (fun _ _ _ h => h) (yieldsIf_load_mid ?_ 28 _ rfl w.heap.size 0 rfl a _ (fun _ (h : (_ ∧ _) ∧ _ ∧ _) => h.1.1) Try.underlying28 rfl hsa) (by assumption) ?_
    · rfl
    (try simp only [Act.put, List.setIfInBounds_toArray, List.set_cons_zero, List.set_cons_succ])
    refine wpAnyH_take (i := 12) (oi := ak2o12) (v := _) rfl (by kernel_rfl) (by kernel_rfl) (by kernel_rfl) (fun _ _ _ h => h) (yieldsIf_load_mid ?_ 28 _ rfl w.heap.size 0 rfl a _ (fun _ (h : (_ ∧ _) ∧ _ ∧ _) => h.1.1) Try.underlying28 rfl hsa) (by assumption) ?_
    · rfl
    (try simp only [Act.put, List.setIfInBounds_toArray, List.set_cons_zero, List.set_cons_succ])
    refine wpAnyH_ready (rs := [13]) (by kernel_rfl) (by simp) ?_
    refine AllReadyH.cons (o := ak2o13) rfl (fun K hK => ?_) AllReadyH.nil
    dsimp only [ak2o13]
    go_simp
    refine (CVS.out _).mono ?_
    rintro e wx ⟨rfl, bx⟩
    have TW := Lib.hid (TW.out.below bx)
    (try have K5 := Lib.hid (K5.out.keep bx))
    (try have K6 := Lib.hid (K6.out.keep bx))
    clear bx
    (try go_wp2_with fail)
    refine hK.out _ _ ?_ (fun hHeld => ?_)
    · exact ⟨⟨TW.out.1.whole, TW.out.2.1.whole⟩, K5.out.whole, K6.out.whole⟩
    clear hK K
    (try simp only [Act.put, List.setIfInBounds_toArray, List.set_cons_zero, List.set_cons_succ])
    refine wpAnyH_take (i := 14) (oi := ak2o14) (v := ?_) rfl (by kernel_rfl) (by kernel_rfl) (by kernel_rfl) (fun _ _ _ h => h) (Or.inl ⟨by rfl, ?_⟩) (by assumption) ?_
    rotate_left
    · (intro w hSw; (try dsimp only at hSw); (try dsimp only [ak2o14]); go_simp; try (with_reducible rfl))
    (try simp only [Act.put, List.setIfInBounds_toArray, List.set_cons_zero, List.set_cons_succ])
    refine wpAnyH_take (i := 15) (oi := ak2o15) (v := ?_) rfl (by kernel_rfl) (by kernel_rfl) (by kernel_rfl) (fun _ _ _ h => h) (Or.inl ⟨by rfl, ?_⟩) (by assumption) ?_
    rotate_left
    · (intro w hSw; (try dsimp only at hSw); (try dsimp only [ak2o15]); go_simp; try (with_reducible rfl))
    (try simp only [Act.put, List.setIfInBounds_toArray, List.set_cons_zero, List.set_cons_succ])
    refine wpAnyH_take (i := 16) (oi := ak2o16) (v := ?_) rfl (by kernel_rfl) (by kernel_rfl) (by kernel_rfl) (fun _ _ _ h => h) (Or.inl ⟨by rfl, ?_⟩) (by assumption) ?_
    rotate_left
    · (intro w hSw; (try dsimp only at hSw); (try dsimp only [ak2o16]); go_simp; try (with_reducible rfl))
    (try simp only [Act.put, List.setIfInBounds_toArray, List.set_cons_zero, List.set_cons_succ])
    refine wpAnyH_take (i := 17) (oi := ak2o17) (v := _) rfl (by kernel_rfl) (by kernel_rfl) (by kernel_rfl) (fun _ _ _ h => h) (yieldsIf_load_mid ?_ 24 _ rfl w.heap.size 0 rfl r0 _ (fun _ (h : (_ ∧ _) ∧ _ ∧ _) => R0.out _ _ h.1.1) Try.underlying24 rfl hs0) (by assumption) ?_
    · rfl
    (try simp only [Act.put, List.setIfInBounds_toArray, List.set_cons_zero, List.set_cons_succ])
    refine wpAnyH_take (i := 19) (oi := ak2o19) (v := ?_) rfl (by kernel_rfl) (by kernel_rfl) (by kernel_rfl) (fun _ _ _ h => h) (Or.inl ⟨by rfl, ?_⟩) (by assumption) ?_
    rotate_left
    · (intro w hSw; (try dsimp only at hSw); (try dsimp only [ak2o19]); go_simp; try (with_reducible rfl))
    (try simp only [Act.put, List.setIfInBounds_toArray, List.set_cons_zero, List.set_cons_succ])
    refine wpAnyH_take (i := 20) (oi := ak2o20) (v := _) rfl (by kernel_rfl) (by kernel_rfl) (by kernel_rfl) (fun _ _ _ h => h) (yieldsIf_load_mid ?_ 31 _ rfl b5 0 rfl r0 _ (fun _ (h : (_ ∧ _) ∧ _ ∧ _) => R0.out _ _ h.2.1) Try.underlying31 rfl hq0) (by assumption) ?_
    · rfl
    (try simp only [Act.put, List.setIfInBounds_toArray, List.set_cons_zero, List.set_cons_succ])
    refine wpAnyH_ready (rs := [18]) (by kernel_rfl) (by simp) ?_
    refine AllReadyH.cons (o := ak2o18) rfl (fun K hK => ?_) AllReadyH.nil
    dsimp only [ak2o18]
    go_simp
    refine (SM.out _).mono ?_
    rintro e wx ⟨rfl, bx⟩
    have TW := Lib.hid (TW.out.below bx)
    (try have K5 := Lib.hid (K5.out.keep bx))
    (try have K6 := Lib.hid (K6.out.keep bx))
    clear bx
    (try go_wp2_with fail)
    refine hK.out _ _ ?_ (fun hHeld => ?_)
    · exact ⟨⟨TW.out.1.whole, TW.out.2.1.whole⟩, K5.out.whole, K6.out.whole⟩
    clear hK K
    (try simp only [Act.put, List.setIfInBounds_toArray, List.set_cons_zero, List.set_cons_succ])
    refine wpAnyH_ready (rs := [21]) (by kernel_rfl) (by simp) ?_
    refine AllReadyH.cons (o := ak2o21) rfl (fun K hK => ?_) AllReadyH.nil
    dsimp only [ak2o21]
    go_simp
    refine (RSM.out _).mono ?_
    rintro e wx ⟨rfl, bx⟩
    have TW := Lib.hid (TW.out.below bx)
    (try have K5 := Lib.hid (K5.out.keep bx))
    (try have K6 := Lib.hid (K6.out.keep bx))
    clear bx
    (try go_wp2_with fail)
    refine hK.out _ _ ?_ (fun hHeld => ?_)
    · exact ⟨⟨TW.out.1.whole, TW.out.2.1.whole⟩, K5.out.whole, K6.out.whole⟩
    clear hK K
    (try simp only [Act.put, List.setIfInBounds_toArray, List.set_cons_zero, List.set_cons_succ])
    refine wpAnyH_take (i := 22) (oi := ak2o22) (v := ?_) rfl (by kernel_rfl) (by kernel_rfl) (by kernel_rfl) (fun _ _ _ h => h) (Or.inl ⟨by rfl, ?_⟩) (by assumption) ?_
    rotate_left
    · (intro w hSw; (try dsimp only at hSw); (try dsimp only [ak2o22]); go_simp; try (with_reducible rfl))
    (try simp only [Act.put, List.setIfInBounds_toArray, List.set_cons_zero, List.set_cons_succ])
    refine wpAnyH_take (i := 23) (oi := ak2o23) (v := ?_) rfl (by kernel_rfl) (by kernel_rfl) (by kernel_rfl) (fun _ _ _ h => h) (Or.inl ⟨by rfl, ?_⟩) (by assumption) ?_
    rotate_left
    · (intro w hSw; (try dsimp only at hSw); (try dsimp only [ak2o23]); go_simp; try (with_reducible rfl))
    (try simp only [Act.put, List.setIfInBounds_toArray, List.set_cons_zero, List.set_cons_succ])
    refine wpAnyH_take (i := 24) (oi := ak2o24) (v := ?_) rfl (by kernel_rfl) (by kernel_rfl) (by kernel_rfl) (fun _ _ _ h => h) (Or.inl ⟨by rfl, ?_⟩) (by assumption) ?_
    rotate_left
    · (intro w hSw; (try dsimp only at hSw); (try dsimp only [ak2o24]); go_simp; try (with_reducible rfl))
    (try simp only [Act.put, List.setIfInBounds_toArray, List.set_cons_zero, List.set_cons_succ])
    refine wpAnyH_take (i := 25) (oi := ak2o25) (v := ?_) rfl (by kernel_rfl) (by kernel_rfl) (by kernel_rfl) (fun _ _ _ h => h) (Or.inl ⟨by rfl, ?_⟩) (by assumption) ?_
    rotate_left
    · (intro w hSw; (try dsimp only at hSw); (try dsimp only [ak2o25]); go_simp; try (with_reducible rfl))
    (try simp only [Act.put, List.setIfInBounds_toArray, List.set_cons_zero, List.set_cons_succ])
    refine wpAnyH_take (i := 26) (oi := ak2o26) (v := ?_) rfl (by kernel_rfl) (by kernel_rfl) (by kernel_rfl) (fun _ _ _ h => h) (Or.inl ⟨by rfl, ?_⟩) (by assumption) ?_
    rotate_left
    · (intro w hSw; (try dsimp only at hSw); (try dsimp only [ak2o26]); go_simp; try (with_reducible rfl))
    (try simp only [Act.put, List.setIfInBounds_toArray, List.set_cons_zero, List.set_cons_succ])
    refine wpAnyH_take (i := 27) (oi := ak2o27) (v := _) rfl (by kernel_rfl) (by kernel_rfl) (by kernel_rfl) (fun _ _ _ h => h) (yieldsIf_load_mid ?_ 24 _ rfl (w.heap.size + 1) 32 rfl r3 _ (fun _ (h : (_ ∧ _) ∧ _ ∧ _) => R3.out _ _ h.1.2) Try.underlying24 rfl hs3) (by assumption) ?_
    · rfl
    (try simp only [Act.put, List.setIfInBounds_toArray, List.set_cons_zero, List.set_cons_succ])
    refine wpAnyH_take (i := 29) (oi := ak2o29) (v := ?_) rfl (by kernel_rfl) (by kernel_rfl) (by kernel_rfl) (fun _ _ _ h => h) (Or.inl ⟨by rfl, ?_⟩) (by assumption) ?_
    rotate_left
    · (intro w hSw; (try dsimp only at hSw); (try dsimp only [ak2o29]); go_simp; try (with_reducible rfl))
    (try simp only [Act.put, List.setIfInBounds_toArray, List.set_cons_zero, List.set_cons_succ])
    refine wpAnyH_take (i := 30) (oi := ak2o30) (v := ?_) rfl (by kernel_rfl) (by kernel_rfl) (by kernel_rfl) (fun _ _ _ h => h) (Or.inl ⟨by rfl, ?_⟩) (by assumption) ?_
    rotate_left
    · (intro w hSw; (try dsimp only at hSw); (try dsimp only [ak2o30]); go_simp; try (with_reducible rfl))
    (try simp only [Act.put, List.setIfInBounds_toArray, List.set_cons_zero, List.set_cons_succ])
    refine wpAnyH_take (i := 31) (oi := ak2o31) (v := _) rfl (by kernel_rfl) (by kernel_rfl) (by kernel_rfl) (fun _ _ _ h => h) (yieldsIf_load_mid ?_ 31 _ rfl b6 32 rfl r3 _ (fun _ (h : (_ ∧ _) ∧ _ ∧ _) => R3.out _ _ h.2.2) Try.underlying31 rfl hq3) (by assumption) ?_
    · rfl
    (try simp only [Act.put, List.setIfInBounds_toArray, List.set_cons_zero, List.set_cons_succ])
    refine wpAnyH_ready (rs := [28]) (by kernel_rfl) (by simp) ?_
    refine AllReadyH.cons (o := ak2o28) rfl (fun K hK => ?_) AllReadyH.nil
    dsimp only [ak2o28]
    go_simp
    refine (SM3.out _).mono ?_
    rintro e wx ⟨rfl, bx⟩
    have TW := Lib.hid (TW.out.below bx)
    (try have K5 := Lib.hid (K5.out.keep bx))
    (try have K6 := Lib.hid (K6.out.keep bx))
    clear bx
    (try go_wp2_with fail)
    refine hK.out _ _ ?_ (fun hHeld => ?_)
    · exact ⟨⟨TW.out.1.whole, TW.out.2.1.whole⟩, K5.out.whole, K6.out.whole⟩
    clear hK K
    (try simp only [Act.put, List.setIfInBounds_toArray, List.set_cons_zero, List.set_cons_succ])
    refine wpAnyH_ready (rs := [32]) (by kernel_rfl) (by simp) ?_
    refine AllReadyH.cons (o := ak2o32) rfl (fun K hK => ?_) AllReadyH.nil
    dsimp only [ak2o32]
    go_simp
    refine (RSM3.out _).mono ?_
    rintro e wx ⟨rfl, bx⟩
    have TW := Lib.hid (TW.out.below bx)
    (try have K5 := Lib.hid (K5.out.keep bx))
    (try have K6 := Lib.hid (K6.out.keep bx))
    clear bx
    (try go_wp2_with fail)
    refine hK.out _ _ ?_ (fun hHeld => ?_)
    · exact ⟨⟨TW.out.1.whole, TW.out.2.1.whole⟩, K5.out.whole, K6.out.whole⟩
    clear hK K
    (try simp only [Act.put, List.setIfInBounds_toArray, List.set_cons_zero, List.set_cons_succ])
    refine wpAnyH_take (i := 33) (oi := ak2o33) (v := ?_) rfl (by kernel_rfl) (by kernel_rfl) (by kernel_rfl) (fun _ _ _ h => h) (Or.inl ⟨by rfl, ?_⟩) (by assumption) ?_
    rotate_left
    · (intro w hSw; (try dsimp only at hSw); (try dsimp only [ak2o33]); go_simp; try (with_reducible rfl))
    (try simp only [Act.put, List.setIfInBounds_toArray, List.set_cons_zero, List.set_cons_succ])
    refine wpAnyH_take (i := 34) (oi := ak2o34) (v := ?_) rfl (by kernel_rfl) (by kernel_rfl) (by kernel_rfl) (fun _ _ _ h => h) (Or.inl ⟨by rfl, ?_⟩) (by assumption) ?_
    rotate_left
    · (intro w hSw; (try dsimp only at hSw); (try dsimp only [ak2o34]); go_simp; try (with_reducible rfl))
    (try simp only [Act.put, List.setIfInBounds_toArray, List.set_cons_zero, List.set_cons_succ])
    refine wpAnyH_ready (rs := [35]) (by kernel_rfl) (by simp) ?_
    refine AllReadyH.cons (o := ak2o35) rfl (fun K hK => ?_) AllReadyH.nil
    rw [if_pos (by rfl)]
    dsimp only [ak2o35]
    go_simp
    refine hK.out _ _ ?_ (fun hHeld => ?_)
    · exact ⟨⟨TW.out.1.whole, TW.out.2.1.whole⟩, K5.out.whole, K6.out.whole⟩
    clear hK K
    (try simp only [Act.put, List.setIfInBounds_toArray, List.set_cons_zero, List.set_cons_succ])
    refine wpAnyH_done (by kernel_rfl) ?_ _
    refine NoPanic.normal ?_
    go_wp2_with fail
    go_ret
    exact ⟨rfl, TW.out.2.2⟩

end Go.Proofs.Ythoahengdajpcaa
