/- TableBytes: the walk. Written by wip/tools/gen_tabbytes.py. -/
import Derived.Test.YthoahengdajpcaaTabK
import Derived.Test.YthoahengdajpcaaTabS
import Derived.Deep.CutRange
namespace Go.Proofs.Ythoahengdajpcaa
open Go.RowKit
set_option maxRecDepth 100000

abbrev tb7o0 : Oper := { dst := some 52, op := Op.move (Operand.tmp 9), type := 9, pos := "law.go:64", after := #[], guard := none }
abbrev tb7o1 : Oper := { dst := some 53, op := Op.move (Operand.tmp 11), type := 9, pos := "law.go:64", after := #[], guard := none }
abbrev tb7o2 : Oper := { dst := some 54, op := Op.binOp BinOp.neq 9 (Operand.tmp 52) (Operand.tmp 53) 9, type := 4, pos := "law.go:64", after := #[{ on := 0, ground := Ground.data }, { on := 1, ground := Ground.data }], guard := none }
abbrev tb7o3 : Oper := { dst := some 55, op := Op.move (Operand.tmp 54), type := 4, pos := "law.go:64", after := #[{ on := 2, ground := Ground.data }], guard := none }
abbrev tb7o4 : Oper := { dst := some 56, op := Op.move (Operand.tmp 10), type := 38, pos := "law.go:64", after := #[{ on := 3, ground := Ground.guard }], guard := some (3, false) }
abbrev tb7o5 : Oper := { dst := some 57, op := Op.move (Operand.tmp 12), type := 3, pos := "law.go:64", after := #[{ on := 3, ground := Ground.guard }], guard := some (3, false) }
abbrev tb7o6 : Oper := { dst := some 58, op := Op.binOp BinOp.neq 3 (Operand.tmp 56) (Operand.tmp 57) 3, type := 4, pos := "law.go:64", after := #[{ on := 4, ground := Ground.data }, { on := 5, ground := Ground.data }, { on := 3, ground := Ground.guard }], guard := some (3, false) }
abbrev tb7o7 : Oper := { dst := some 59, op := Op.pick (Operand.tmp 55) (Operand.const (Value.bool true)) (Operand.tmp 58), type := 4, pos := "law.go:64", after := #[{ on := 3, ground := Ground.data }, { on := 6, ground := Ground.data }], guard := none }
abbrev tb7o8 : Oper := { dst := some 60, op := Op.move (Operand.tmp 59), type := 4, pos := "law.go:64", after := #[{ on := 7, ground := Ground.data }, { on := 3, ground := Ground.chain }], guard := none }
abbrev tb7o9 : Oper := { dst := some 61, op := Op.load 28 (Operand.tmp 13), type := 28, pos := "law.go:64", after := #[{ on := 8, ground := Ground.guard }], guard := some (8, false) }
abbrev tb7o10 : Oper := { dst := some 62, op := Op.call { callee := Callee.value (Operand.func 8), args := #[Operand.tmp 61], argTypes := #[28] }, type := 34, pos := "law.go:64", after := #[{ on := 9, ground := Ground.data }, { on := 8, ground := Ground.chain }, { on := 8, ground := Ground.guard }], guard := some (8, false) }
abbrev tb7o11 : Oper := { dst := some 63, op := Op.load 34 (Operand.tmp 15), type := 34, pos := "law.go:64", after := #[{ on := 8, ground := Ground.guard }], guard := some (8, false) }
abbrev tb7o12 : Oper := { dst := some 64, op := Op.binOp BinOp.neq 34 (Operand.tmp 62) (Operand.tmp 63) 34, type := 4, pos := "law.go:64", after := #[{ on := 10, ground := Ground.data }, { on := 11, ground := Ground.data }, { on := 8, ground := Ground.guard }], guard := some (8, false) }
abbrev tb7o13 : Oper := { dst := some 65, op := Op.pick (Operand.tmp 60) (Operand.const (Value.bool true)) (Operand.tmp 64), type := 4, pos := "law.go:64", after := #[{ on := 8, ground := Ground.data }, { on := 12, ground := Ground.data }], guard := none }
abbrev tb7o14 : Oper := { dst := some 66, op := Op.move (Operand.tmp 65), type := 4, pos := "law.go:64", after := #[{ on := 13, ground := Ground.data }, { on := 10, ground := Ground.chain }], guard := none }
abbrev tb7o15 : Oper := { dst := some 67, op := Op.move (Operand.tmp 14), type := 38, pos := "law.go:64", after := #[{ on := 14, ground := Ground.guard }], guard := some (14, false) }
abbrev tb7o16 : Oper := { dst := some 68, op := Op.move (Operand.tmp 16), type := 3, pos := "law.go:64", after := #[{ on := 14, ground := Ground.guard }], guard := some (14, false) }
abbrev tb7o17 : Oper := { dst := some 69, op := Op.binOp BinOp.neq 3 (Operand.tmp 67) (Operand.tmp 68) 3, type := 4, pos := "law.go:64", after := #[{ on := 15, ground := Ground.data }, { on := 16, ground := Ground.data }, { on := 14, ground := Ground.guard }], guard := some (14, false) }
abbrev tb7o18 : Oper := { dst := some 70, op := Op.pick (Operand.tmp 66) (Operand.const (Value.bool true)) (Operand.tmp 69), type := 4, pos := "law.go:64", after := #[{ on := 14, ground := Ground.data }, { on := 17, ground := Ground.data }], guard := none }

theorem yieldsIf_binB {P : Program} {ops : Array Oper} {S : World → Prop} {o : Oper} {a : Act} (hw : Region.wanted o (yielded ops a.tmps) = true) (op : BinOp) (t u : TypeId) (x y : Operand) (ho : o.op = .binOp op t x y u)
    (xs ys : Array Value) (hx : a.eval x = .agg xs) (hy : a.eval y = .agg ys) (hm : P.eqGuardType P.depth t = false) (v : Value) (hrun : ∀ w, (binOp op t (.agg xs) (.agg ys)).run P w = .ok v w) : YieldsIf P ops S o v a :=
  .inl ⟨hw, fun w _ => by
    unfold execOp
    simp only [ho, hx, hy, Sem.run_bind, run_eqGuard_agg w op t x y xs ys hm, hrun, Result.andThen_ok, Sem.run_pure]⟩

set_option maxHeartbeats 32000000 in
theorem bytes_err (A D : List Value) (l x : List UInt8) (m n : Int) (ec dc : Nat) (w : World) (hl : l.length ≤ 2000)
    (hAl : A.length = 137) (hDl : D.length = 137) (hDo : D.toArray.all (·.oneCell') = true)
    (OF : Hid (∀ W, Calls Try.prog 8 #[.agg A.toArray] W fun e w' => e = .returned (.agg A.toArray) ∧ Below W.heap.size W w'))
    (OFD : Hid (∀ W, Calls Try.prog 8 #[.agg D.toArray] W fun e w' => e = .returned (.agg D.toArray) ∧ Below W.heap.size W w'))
    (EN : Hid (∀ W, Calls Try.prog 13 #[.agg A.toArray, .int .i64 m, .int .i64 n] W fun e w' => e = .returned (.tuple #[.string (bs x), .int .i64 (ec : Int)]) ∧ Below W.heap.size W w'))
    (REN : Hid (∀ W, Calls Try.prog 14 #[.agg A.toArray, .int .i64 m, .int .i64 n] W fun e w' => e = .returned (.tuple #[.string (bs x), .int .i64 (ec : Int)]) ∧ Below W.heap.size W w'))
    (DE : Hid (∀ W, Calls Try.prog 15 #[.string (bs l), .int .i64 m, .int .i64 n] W fun e w' => e = .returned (.tuple #[.agg D.toArray, .int .i64 (dc : Int)]) ∧ Below W.heap.size W w'))
    (RDE : Hid (∀ W, Calls Try.prog 16 #[.string (bs l), .int .i64 m, .int .i64 n] W fun e w' => e = .returned (.tuple #[.agg D.toArray, .int .i64 (dc : Int)]) ∧ Below W.heap.size W w'))
    (NEQ : Hid (∀ W, (binOp .neq 34 (.agg D.toArray) (.agg D.toArray)).run Try.prog W = .ok (.bool false) W))
    (hec : ((ec : Int) != 0) = true)
    (AW : Hid (∀ W, Calls Try.prog 7 #[] W fun e w' => e = .returned (.bool true) ∧ Below W.heap.size W w')) :
    Calls Try.prog 4 #[.agg A.toArray, .string (bs l), .int .i64 m, .int .i64 n] w fun e w' => e = .returned (.bool true) ∧ Below w.heap.size w w' := by
  have hszl := bs_size l
  have d1 : decide ((2000 : Int) < (l.length : Int)) = false := decide_eq_false (by omega)
  have hll := hl
  have hsA : (Try.prog.info? 28).map (·.size) = some A.length := by rw [hAl]; exact sizeTab
  have hsD : (Try.prog.info? 28).map (·.size) = some D.length := by rw [hDl]; exact sizeTab
  have hsD2 : (Try.prog.info? 28).map (·.size) = some D.toArray.size := by rw [List.size_toArray, hDl]; exact sizeTab
  have hrD : (Try.prog.info? 34).map (·.size) = some D.length := by rw [hDl]; exact sizeRTab
  have hrD2 : (Try.prog.info? 34).map (·.size) = some D.toArray.size := by rw [List.size_toArray, hDl]; exact sizeRTab
  have hz := zeroTab
  have hzr := zeroRTab
  obtain ⟨Z, hZ⟩ : ∃ Z, Z = tcs (fun _ => 0) 0 := ⟨_, rfl⟩
  have HZL : Hid (Z.length = 137) := Lib.hid (by rw [hZ]; exact tcs_len _ _)
  rw [← hZ] at hz hzr
  have HDL := Lib.hid hDl
  have TH : Hid (∀ (W : World) (T : TypeId), (W.alloc (.cells Z.toArray T)).there W.heap.size 0 D.toArray.size) := Lib.hid (fun W T => (show Blk _ _ _ _ from heap_alloc_new W (.cells Z.toArray T)).thereT (by rw [HZL.out, show D.toArray.size = 137 by rw [List.size_toArray, hDl]]; omega))
  have E1 : Hid (∀ (W : World) (T : TypeId), (W.alloc (.cells Z.toArray T)).setCells W.heap.size 0 D.toArray.toList = W.alloc (.cells D.toArray T)) := Lib.hid (fun W T => alloc_setCells W T Z D (by rw [hDl, HZL.out]))
  have A0 : Hid (Blk (w.alloc (.cells A.toArray 28)) w.heap.size 28 A ∧ Below w.heap.size w (w.alloc (.cells A.toArray 28))) := Lib.hid ⟨heap_alloc_new w _, (Below.refl _ _).alloc (Nat.le_refl _) _⟩
  have RA := Lib.hid A0.out.1.whole
  clear hZ hAl hDl hl
  go_enter Try.func4, Try.ntmps4
  go_wp2_with (refine wpList_load_mid rfl _ _ rfl w.heap.size 0 rfl A _ RA.out Try.underlying28 rfl hsA ?_)
  refine (EN.out _).mono ?_
  rintro e w1 ⟨rfl, b1⟩
  have A1 : Hid (Blk w1 w.heap.size 28 A ∧ Below w.heap.size w w1) := Lib.hid ⟨A0.out.1.keep b1, A0.out.2.trans (b1.mono A0.out.2.size)⟩
  have RA := Lib.hid A1.out.1.whole
  clear b1 A0
  go_wp2_with (refine wpList_load_mid rfl _ _ rfl w.heap.size 0 rfl A _ RA.out Try.underlying28 rfl hsA ?_)
  refine (OF.out _).mono ?_
  rintro e w2 ⟨rfl, b2⟩
  have A2 : Hid (Blk w2 w.heap.size 28 A ∧ Below w.heap.size w w2) := Lib.hid ⟨A1.out.1.keep b2, A1.out.2.trans (b2.mono A1.out.2.size)⟩
  clear b2 A1 RA
  go_wp2_with fail
  refine (REN.out _).mono ?_
  rintro e w3 ⟨rfl, b3⟩
  have A3 : Hid (Blk w3 w.heap.size 28 A ∧ Below w.heap.size w w3) := Lib.hid ⟨A2.out.1.keep b3, A2.out.2.trans (b3.mono A2.out.2.size)⟩
  clear b3 A2
  go_wp2_with fail
  refine (DE.out _).mono ?_
  rintro e w4 ⟨rfl, b4⟩
  have A4 : Hid (Blk w4 w.heap.size 28 A ∧ Below w.heap.size w w4) := Lib.hid ⟨A3.out.1.keep b4, A3.out.2.trans (b4.mono A3.out.2.size)⟩
  clear b4 A3
  go_upto_region 6 with (refine wpList_store_mid rfl _ _ _ rfl w4.heap.size 0 D.toArray rfl rfl (TH.out w4 28) hsD2 hDo ?_)
  refine wp_worldT (E1.out w4 28).symm ?_
  obtain ⟨b13, hb13⟩ : ∃ b, b = w4.heap.size := ⟨_, rfl⟩
  obtain ⟨V5, hV5⟩ : ∃ V, V = w4.alloc (.cells D.toArray 28) := ⟨_, rfl⟩
  have A5 : Hid (Blk V5 w.heap.size 28 A ∧ Blk V5 b13 28 D ∧ Below w.heap.size w V5) := Lib.hid (by rw [hV5, hb13]; exact ⟨A4.out.1.alloc _, heap_alloc_new w4 _, A4.out.2.alloc A4.out.2.size _⟩)
  rw [← hb13]
  refine wp_worldT hV5 ?_
  clear hV5 hb13 A4
  go_wp2_with fail
  refine (RDE.out _).mono ?_
  rintro e w6 ⟨rfl, b6⟩
  have A6 : Hid (Blk w6 w.heap.size 28 A ∧ Blk w6 b13 28 D ∧ Below w.heap.size w w6) := Lib.hid ⟨A5.out.1.keep b6, A5.out.2.1.keep b6, A5.out.2.2.trans (b6.mono A5.out.2.2.size)⟩
  clear b6 A5
  go_upto_region 7 with (refine wpList_store_mid rfl _ _ _ rfl w6.heap.size 0 D.toArray rfl rfl (TH.out w6 34) hrD2 hDo ?_)
  refine wp_worldT (E1.out w6 34).symm ?_
  obtain ⟨b15, hb15⟩ : ∃ b, b = w6.heap.size := ⟨_, rfl⟩
  obtain ⟨V7, hV7⟩ : ∃ V, V = w6.alloc (.cells D.toArray 34) := ⟨_, rfl⟩
  have K3 : Hid (Blk V7.drew w.heap.size 28 A ∧ Blk V7.drew b13 28 D ∧ Blk V7.drew b15 34 D ∧ Below w.heap.size w V7.drew) := Lib.hid (by
    rw [hV7, hb15]
    exact ⟨A6.out.1.alloc _, A6.out.2.1.alloc _, heap_alloc_new w6 _, (A6.out.2.2.alloc A6.out.2.2.size _).drew⟩)
  rw [← hb15]
  refine wp_worldT hV7 ?_
  clear hV7 hb15 A6
  refine wp_region_noPanic ?_
  refine wp_region_held_drew (S := fun w' => w'.rangeAt b13 0 D ∧ w'.rangeAt b15 0 D) (by kernel_rfl) ?_ (fun hHeld => ?_)
  · exact ⟨K3.out.2.1.whole, K3.out.2.2.1.whole⟩
  refine wpAnyH_take (i := 0) (oi := tb7o0) (v := ?_) rfl (by kernel_rfl) (by kernel_rfl) (by kernel_rfl) (fun _ _ _ h => h) (Or.inl ⟨by rfl, ?_⟩) (by assumption) ?_
  rotate_left
  · (intro w hSw; (try dsimp only at hSw); (try dsimp only [tb7o0]); go_simp; try (with_reducible rfl))
  (try simp only [Act.put, List.setIfInBounds_toArray, List.set_cons_zero, List.set_cons_succ])
  refine wpAnyH_take (i := 1) (oi := tb7o1) (v := ?_) rfl (by kernel_rfl) (by kernel_rfl) (by kernel_rfl) (fun _ _ _ h => h) (Or.inl ⟨by rfl, ?_⟩) (by assumption) ?_
  rotate_left
  · (intro w hSw; (try dsimp only at hSw); (try dsimp only [tb7o1]); go_simp; try (with_reducible rfl))
  (try simp only [Act.put, List.setIfInBounds_toArray, List.set_cons_zero, List.set_cons_succ])
  refine wpAnyH_take (i := 2) (oi := tb7o2) (v := ?_) rfl (by kernel_rfl) (by kernel_rfl) (by kernel_rfl) (fun _ _ _ h => h) (Or.inl ⟨by rfl, ?_⟩) (by assumption) ?_
  rotate_left
  · (intro w hSw; (try dsimp only at hSw); (try dsimp only [tb7o2]); go_simp; try (with_reducible rfl))
  (try simp only [Act.put, List.setIfInBounds_toArray, List.set_cons_zero, List.set_cons_succ])
  refine wpAnyH_take (i := 3) (oi := tb7o3) (v := ?_) rfl (by kernel_rfl) (by kernel_rfl) (by kernel_rfl) (fun _ _ _ h => h) (Or.inl ⟨by rfl, ?_⟩) (by assumption) ?_
  rotate_left
  · (intro w hSw; (try dsimp only at hSw); (try dsimp only [tb7o3]); go_simp; try (with_reducible rfl))
  (try simp only [Act.put, List.setIfInBounds_toArray, List.set_cons_zero, List.set_cons_succ])
  refine wpAnyH_take (i := 4) (oi := tb7o4) (v := ?_) rfl (by kernel_rfl) (by kernel_rfl) (by kernel_rfl) (fun _ _ _ h => h) (Or.inl ⟨by rfl, ?_⟩) (by assumption) ?_
  rotate_left
  · (intro w hSw; (try dsimp only at hSw); (try dsimp only [tb7o4]); go_simp; try (with_reducible rfl))
  (try simp only [Act.put, List.setIfInBounds_toArray, List.set_cons_zero, List.set_cons_succ])
  refine wpAnyH_take (i := 5) (oi := tb7o5) (v := ?_) rfl (by kernel_rfl) (by kernel_rfl) (by kernel_rfl) (fun _ _ _ h => h) (Or.inl ⟨by rfl, ?_⟩) (by assumption) ?_
  rotate_left
  · (intro w hSw; (try dsimp only at hSw); (try dsimp only [tb7o5]); go_simp; try (with_reducible rfl))
  (try simp only [Act.put, List.setIfInBounds_toArray, List.set_cons_zero, List.set_cons_succ])
  refine wpAnyH_take (i := 6) (oi := tb7o6) (v := ?_) rfl (by kernel_rfl) (by kernel_rfl) (by kernel_rfl) (fun _ _ _ h => h) (Or.inl ⟨by rfl, ?_⟩) (by assumption) ?_
  rotate_left
  · (intro w hSw; (try dsimp only at hSw); (try dsimp only [tb7o6]); go_simp; try (with_reducible rfl))
  (try simp only [Act.put, List.setIfInBounds_toArray, List.set_cons_zero, List.set_cons_succ])
  refine wpAnyH_take (i := 7) (oi := tb7o7) (v := ?_) rfl (by kernel_rfl) (by kernel_rfl) (by kernel_rfl) (fun _ _ _ h => h) (Or.inl ⟨by rfl, ?_⟩) (by assumption) ?_
  rotate_left
  · (intro w hSw; (try dsimp only at hSw); (try dsimp only [tb7o7]); go_simp; try (with_reducible rfl))
  (try simp only [Act.put, List.setIfInBounds_toArray, List.set_cons_zero, List.set_cons_succ])
  refine wpAnyH_take (i := 8) (oi := tb7o8) (v := ?_) rfl (by kernel_rfl) (by kernel_rfl) (by kernel_rfl) (fun _ _ _ h => h) (Or.inl ⟨by rfl, ?_⟩) (by assumption) ?_
  rotate_left
  · (intro w hSw; (try dsimp only at hSw); (try dsimp only [tb7o8]); go_simp; try (with_reducible rfl))
  (try simp only [Act.put, List.setIfInBounds_toArray, List.set_cons_zero, List.set_cons_succ])
  refine wpAnyH_take (i := 9) (oi := tb7o9) (v := _) rfl (by kernel_rfl) (by kernel_rfl) (by kernel_rfl) (fun _ _ _ h => h) (yieldsIf_load_mid ?_ 28 _ rfl b13 0 rfl D _ (fun _ (h : _ ∧ _) => h.1) Try.underlying28 rfl hsD) (by assumption) ?_
  · rfl
  (try simp only [Act.put, List.setIfInBounds_toArray, List.set_cons_zero, List.set_cons_succ])
  refine wpAnyH_take (i := 11) (oi := tb7o11) (v := _) rfl (by kernel_rfl) (by kernel_rfl) (by kernel_rfl) (fun _ _ _ h => h) (yieldsIf_load_mid ?_ 34 _ rfl b15 0 rfl D _ (fun _ (h : _ ∧ _) => h.2) Try.underlying34 rfl hrD) (by assumption) ?_
  · rfl
  (try simp only [Act.put, List.setIfInBounds_toArray, List.set_cons_zero, List.set_cons_succ])
  refine wpAnyH_ready (rs := [10]) (by kernel_rfl) (by simp) ?_
  refine AllReadyH.cons (o := tb7o10) rfl (fun K hK => ?_) AllReadyH.nil
  dsimp only [tb7o10]
  go_simp
  refine (OFD.out _).mono ?_
  rintro e wx ⟨rfl, bx⟩
  have K3 : Hid (Blk wx w.heap.size 28 A ∧ Blk wx b13 28 D ∧ Blk wx b15 34 D ∧ Below w.heap.size w wx) := Lib.hid ⟨K3.out.1.keep bx, K3.out.2.1.keep bx, K3.out.2.2.1.keep bx, K3.out.2.2.2.trans (bx.mono K3.out.2.2.2.size)⟩
  clear bx
  (try go_wp2_with fail)
  refine hK.out _ _ ?_ (fun hHeld => ?_)
  · exact ⟨K3.out.2.1.whole, K3.out.2.2.1.whole⟩
  clear hK K
  (try simp only [Act.put, List.setIfInBounds_toArray, List.set_cons_zero, List.set_cons_succ])
  refine wpAnyH_take (i := 12) (oi := tb7o12) (v := _) rfl (by kernel_rfl) (by kernel_rfl) (by kernel_rfl) (fun _ _ _ h => h) (yieldsIf_binB ?_ .neq 34 34 _ _ rfl D.toArray D.toArray rfl rfl guardRT (.bool false) NEQ.out) (by assumption) ?_
  · rfl
  (try simp only [Act.put, List.setIfInBounds_toArray, List.set_cons_zero, List.set_cons_succ])
  refine wpAnyH_take (i := 13) (oi := tb7o13) (v := ?_) rfl (by kernel_rfl) (by kernel_rfl) (by kernel_rfl) (fun _ _ _ h => h) (Or.inl ⟨by rfl, ?_⟩) (by assumption) ?_
  rotate_left
  · (intro w hSw; (try dsimp only at hSw); (try dsimp only [tb7o13]); go_simp; try (with_reducible rfl))
  (try simp only [Act.put, List.setIfInBounds_toArray, List.set_cons_zero, List.set_cons_succ])
  refine wpAnyH_take (i := 14) (oi := tb7o14) (v := ?_) rfl (by kernel_rfl) (by kernel_rfl) (by kernel_rfl) (fun _ _ _ h => h) (Or.inl ⟨by rfl, ?_⟩) (by assumption) ?_
  rotate_left
  · (intro w hSw; (try dsimp only at hSw); (try dsimp only [tb7o14]); go_simp; try (with_reducible rfl))
  (try simp only [Act.put, List.setIfInBounds_toArray, List.set_cons_zero, List.set_cons_succ])
  refine wpAnyH_take (i := 15) (oi := tb7o15) (v := ?_) rfl (by kernel_rfl) (by kernel_rfl) (by kernel_rfl) (fun _ _ _ h => h) (Or.inl ⟨by rfl, ?_⟩) (by assumption) ?_
  rotate_left
  · (intro w hSw; (try dsimp only at hSw); (try dsimp only [tb7o15]); go_simp; try (with_reducible rfl))
  (try simp only [Act.put, List.setIfInBounds_toArray, List.set_cons_zero, List.set_cons_succ])
  refine wpAnyH_take (i := 16) (oi := tb7o16) (v := ?_) rfl (by kernel_rfl) (by kernel_rfl) (by kernel_rfl) (fun _ _ _ h => h) (Or.inl ⟨by rfl, ?_⟩) (by assumption) ?_
  rotate_left
  · (intro w hSw; (try dsimp only at hSw); (try dsimp only [tb7o16]); go_simp; try (with_reducible rfl))
  (try simp only [Act.put, List.setIfInBounds_toArray, List.set_cons_zero, List.set_cons_succ])
  refine wpAnyH_take (i := 17) (oi := tb7o17) (v := ?_) rfl (by kernel_rfl) (by kernel_rfl) (by kernel_rfl) (fun _ _ _ h => h) (Or.inl ⟨by rfl, ?_⟩) (by assumption) ?_
  rotate_left
  · (intro w hSw; (try dsimp only at hSw); (try dsimp only [tb7o17]); go_simp; try (with_reducible rfl))
  (try simp only [Act.put, List.setIfInBounds_toArray, List.set_cons_zero, List.set_cons_succ])
  refine wpAnyH_take (i := 18) (oi := tb7o18) (v := ?_) rfl (by kernel_rfl) (by kernel_rfl) (by kernel_rfl) (fun _ _ _ h => h) (Or.inl ⟨by rfl, ?_⟩) (by assumption) ?_
  rotate_left
  · (intro w hSw; (try dsimp only at hSw); (try dsimp only [tb7o18]); go_simp; try (with_reducible rfl))
  (try simp only [Act.put, List.setIfInBounds_toArray, List.set_cons_zero, List.set_cons_succ])
  refine wpAnyH_done (by kernel_rfl) ?_ _
  refine NoPanic.normal ?_
  go_wp2_with fail
  refine (AW.out _).mono ?_
  rintro e w8 ⟨rfl, b8⟩
  have K8 := Lib.hid (K3.out.2.2.2.trans (b8.mono K3.out.2.2.2.size))
  clear b8
  go_wp2_with fail
  go_ret
  exact ⟨rfl, K8.out⟩

set_option maxHeartbeats 32000000 in
theorem bytes_good (A D U : List Value) (l x : List UInt8) (m n : Int) (dc : Nat) (w : World) (hl : l.length ≤ 2000)
    (hAl : A.length = 137) (hDl : D.length = 137) (hDo : D.toArray.all (·.oneCell') = true)
    (OF : Hid (∀ W, Calls Try.prog 8 #[.agg A.toArray] W fun e w' => e = .returned (.agg A.toArray) ∧ Below W.heap.size W w'))
    (OFD : Hid (∀ W, Calls Try.prog 8 #[.agg D.toArray] W fun e w' => e = .returned (.agg D.toArray) ∧ Below W.heap.size W w'))
    (EN : Hid (∀ W, Calls Try.prog 13 #[.agg A.toArray, .int .i64 m, .int .i64 n] W fun e w' => e = .returned (.tuple #[.string (bs x), .int .i64 0]) ∧ Below W.heap.size W w'))
    (REN : Hid (∀ W, Calls Try.prog 14 #[.agg A.toArray, .int .i64 m, .int .i64 n] W fun e w' => e = .returned (.tuple #[.string (bs x), .int .i64 0]) ∧ Below W.heap.size W w'))
    (DE : Hid (∀ W, Calls Try.prog 15 #[.string (bs l), .int .i64 m, .int .i64 n] W fun e w' => e = .returned (.tuple #[.agg D.toArray, .int .i64 (dc : Int)]) ∧ Below W.heap.size W w'))
    (RDE : Hid (∀ W, Calls Try.prog 16 #[.string (bs l), .int .i64 m, .int .i64 n] W fun e w' => e = .returned (.tuple #[.agg D.toArray, .int .i64 (dc : Int)]) ∧ Below W.heap.size W w'))
    (NEQ : Hid (∀ W, (binOp .neq 34 (.agg D.toArray) (.agg D.toArray)).run Try.prog W = .ok (.bool false) W))
    (hUl : U.length = 137) (hUo : U.toArray.all (·.oneCell') = true)
    (DE2 : Hid (∀ W, Calls Try.prog 15 #[.string (bs x), .int .i64 m, .int .i64 n] W fun e w' => e = .returned (.tuple #[.agg U.toArray, .int .i64 0]) ∧ Below W.heap.size W w'))
    (EQ : Hid (∀ W, (binOp .eql 28 (.agg U.toArray) (.agg A.toArray)).run Try.prog W = .ok (.bool true) W))
    (AW : Hid (∀ W, Calls Try.prog 7 #[] W fun e w' => e = .returned (.bool true) ∧ Below W.heap.size W w')) :
    Calls Try.prog 4 #[.agg A.toArray, .string (bs l), .int .i64 m, .int .i64 n] w fun e w' => e = .returned (.bool true) ∧ Below w.heap.size w w' := by
  have hszl := bs_size l
  have d1 : decide ((2000 : Int) < (l.length : Int)) = false := decide_eq_false (by omega)
  have hll := hl
  have hsA : (Try.prog.info? 28).map (·.size) = some A.length := by rw [hAl]; exact sizeTab
  have hsD : (Try.prog.info? 28).map (·.size) = some D.length := by rw [hDl]; exact sizeTab
  have hsD2 : (Try.prog.info? 28).map (·.size) = some D.toArray.size := by rw [List.size_toArray, hDl]; exact sizeTab
  have hrD : (Try.prog.info? 34).map (·.size) = some D.length := by rw [hDl]; exact sizeRTab
  have hrD2 : (Try.prog.info? 34).map (·.size) = some D.toArray.size := by rw [List.size_toArray, hDl]; exact sizeRTab
  have hz := zeroTab
  have hzr := zeroRTab
  obtain ⟨Z, hZ⟩ : ∃ Z, Z = tcs (fun _ => 0) 0 := ⟨_, rfl⟩
  have HZL : Hid (Z.length = 137) := Lib.hid (by rw [hZ]; exact tcs_len _ _)
  rw [← hZ] at hz hzr
  have HDL := Lib.hid hDl
  have TH : Hid (∀ (W : World) (T : TypeId), (W.alloc (.cells Z.toArray T)).there W.heap.size 0 D.toArray.size) := Lib.hid (fun W T => (show Blk _ _ _ _ from heap_alloc_new W (.cells Z.toArray T)).thereT (by rw [HZL.out, show D.toArray.size = 137 by rw [List.size_toArray, hDl]]; omega))
  have E1 : Hid (∀ (W : World) (T : TypeId), (W.alloc (.cells Z.toArray T)).setCells W.heap.size 0 D.toArray.toList = W.alloc (.cells D.toArray T)) := Lib.hid (fun W T => alloc_setCells W T Z D (by rw [hDl, HZL.out]))
  have A0 : Hid (Blk (w.alloc (.cells A.toArray 28)) w.heap.size 28 A ∧ Below w.heap.size w (w.alloc (.cells A.toArray 28))) := Lib.hid ⟨heap_alloc_new w _, (Below.refl _ _).alloc (Nat.le_refl _) _⟩
  have RA := Lib.hid A0.out.1.whole
  clear hZ hAl hDl hl
  go_enter Try.func4, Try.ntmps4
  go_wp2_with (refine wpList_load_mid rfl _ _ rfl w.heap.size 0 rfl A _ RA.out Try.underlying28 rfl hsA ?_)
  refine (EN.out _).mono ?_
  rintro e w1 ⟨rfl, b1⟩
  have A1 : Hid (Blk w1 w.heap.size 28 A ∧ Below w.heap.size w w1) := Lib.hid ⟨A0.out.1.keep b1, A0.out.2.trans (b1.mono A0.out.2.size)⟩
  have RA := Lib.hid A1.out.1.whole
  clear b1 A0
  go_wp2_with (refine wpList_load_mid rfl _ _ rfl w.heap.size 0 rfl A _ RA.out Try.underlying28 rfl hsA ?_)
  refine (OF.out _).mono ?_
  rintro e w2 ⟨rfl, b2⟩
  have A2 : Hid (Blk w2 w.heap.size 28 A ∧ Below w.heap.size w w2) := Lib.hid ⟨A1.out.1.keep b2, A1.out.2.trans (b2.mono A1.out.2.size)⟩
  clear b2 A1 RA
  go_wp2_with fail
  refine (REN.out _).mono ?_
  rintro e w3 ⟨rfl, b3⟩
  have A3 : Hid (Blk w3 w.heap.size 28 A ∧ Below w.heap.size w w3) := Lib.hid ⟨A2.out.1.keep b3, A2.out.2.trans (b3.mono A2.out.2.size)⟩
  clear b3 A2
  go_wp2_with fail
  refine (DE.out _).mono ?_
  rintro e w4 ⟨rfl, b4⟩
  have A4 : Hid (Blk w4 w.heap.size 28 A ∧ Below w.heap.size w w4) := Lib.hid ⟨A3.out.1.keep b4, A3.out.2.trans (b4.mono A3.out.2.size)⟩
  clear b4 A3
  go_upto_region 6 with (refine wpList_store_mid rfl _ _ _ rfl w4.heap.size 0 D.toArray rfl rfl (TH.out w4 28) hsD2 hDo ?_)
  refine wp_worldT (E1.out w4 28).symm ?_
  obtain ⟨b13, hb13⟩ : ∃ b, b = w4.heap.size := ⟨_, rfl⟩
  obtain ⟨V5, hV5⟩ : ∃ V, V = w4.alloc (.cells D.toArray 28) := ⟨_, rfl⟩
  have A5 : Hid (Blk V5 w.heap.size 28 A ∧ Blk V5 b13 28 D ∧ Below w.heap.size w V5) := Lib.hid (by rw [hV5, hb13]; exact ⟨A4.out.1.alloc _, heap_alloc_new w4 _, A4.out.2.alloc A4.out.2.size _⟩)
  rw [← hb13]
  refine wp_worldT hV5 ?_
  clear hV5 hb13 A4
  go_wp2_with fail
  refine (RDE.out _).mono ?_
  rintro e w6 ⟨rfl, b6⟩
  have A6 : Hid (Blk w6 w.heap.size 28 A ∧ Blk w6 b13 28 D ∧ Below w.heap.size w w6) := Lib.hid ⟨A5.out.1.keep b6, A5.out.2.1.keep b6, A5.out.2.2.trans (b6.mono A5.out.2.2.size)⟩
  clear b6 A5
  go_upto_region 7 with (refine wpList_store_mid rfl _ _ _ rfl w6.heap.size 0 D.toArray rfl rfl (TH.out w6 34) hrD2 hDo ?_)
  refine wp_worldT (E1.out w6 34).symm ?_
  obtain ⟨b15, hb15⟩ : ∃ b, b = w6.heap.size := ⟨_, rfl⟩
  obtain ⟨V7, hV7⟩ : ∃ V, V = w6.alloc (.cells D.toArray 34) := ⟨_, rfl⟩
  have K3 : Hid (Blk V7.drew w.heap.size 28 A ∧ Blk V7.drew b13 28 D ∧ Blk V7.drew b15 34 D ∧ Below w.heap.size w V7.drew) := Lib.hid (by
    rw [hV7, hb15]
    exact ⟨A6.out.1.alloc _, A6.out.2.1.alloc _, heap_alloc_new w6 _, (A6.out.2.2.alloc A6.out.2.2.size _).drew⟩)
  rw [← hb15]
  refine wp_worldT hV7 ?_
  clear hV7 hb15 A6
  refine wp_region_noPanic ?_
  refine wp_region_held_drew (S := fun w' => w'.rangeAt b13 0 D ∧ w'.rangeAt b15 0 D) (by kernel_rfl) ?_ (fun hHeld => ?_)
  · exact ⟨K3.out.2.1.whole, K3.out.2.2.1.whole⟩
  refine wpAnyH_take (i := 0) (oi := tb7o0) (v := ?_) rfl (by kernel_rfl) (by kernel_rfl) (by kernel_rfl) (fun _ _ _ h => h) (Or.inl ⟨by rfl, ?_⟩) (by assumption) ?_
  rotate_left
  · (intro w hSw; (try dsimp only at hSw); (try dsimp only [tb7o0]); go_simp; try (with_reducible rfl))
  (try simp only [Act.put, List.setIfInBounds_toArray, List.set_cons_zero, List.set_cons_succ])
  refine wpAnyH_take (i := 1) (oi := tb7o1) (v := ?_) rfl (by kernel_rfl) (by kernel_rfl) (by kernel_rfl) (fun _ _ _ h => h) (Or.inl ⟨by rfl, ?_⟩) (by assumption) ?_
  rotate_left
  · (intro w hSw; (try dsimp only at hSw); (try dsimp only [tb7o1]); go_simp; try (with_reducible rfl))
  (try simp only [Act.put, List.setIfInBounds_toArray, List.set_cons_zero, List.set_cons_succ])
  refine wpAnyH_take (i := 2) (oi := tb7o2) (v := ?_) rfl (by kernel_rfl) (by kernel_rfl) (by kernel_rfl) (fun _ _ _ h => h) (Or.inl ⟨by rfl, ?_⟩) (by assumption) ?_
  rotate_left
  · (intro w hSw; (try dsimp only at hSw); (try dsimp only [tb7o2]); go_simp; try (with_reducible rfl))
  (try simp only [Act.put, List.setIfInBounds_toArray, List.set_cons_zero, List.set_cons_succ])
  refine wpAnyH_take (i := 3) (oi := tb7o3) (v := ?_) rfl (by kernel_rfl) (by kernel_rfl) (by kernel_rfl) (fun _ _ _ h => h) (Or.inl ⟨by rfl, ?_⟩) (by assumption) ?_
  rotate_left
  · (intro w hSw; (try dsimp only at hSw); (try dsimp only [tb7o3]); go_simp; try (with_reducible rfl))
  (try simp only [Act.put, List.setIfInBounds_toArray, List.set_cons_zero, List.set_cons_succ])
  refine wpAnyH_take (i := 4) (oi := tb7o4) (v := ?_) rfl (by kernel_rfl) (by kernel_rfl) (by kernel_rfl) (fun _ _ _ h => h) (Or.inl ⟨by rfl, ?_⟩) (by assumption) ?_
  rotate_left
  · (intro w hSw; (try dsimp only at hSw); (try dsimp only [tb7o4]); go_simp; try (with_reducible rfl))
  (try simp only [Act.put, List.setIfInBounds_toArray, List.set_cons_zero, List.set_cons_succ])
  refine wpAnyH_take (i := 5) (oi := tb7o5) (v := ?_) rfl (by kernel_rfl) (by kernel_rfl) (by kernel_rfl) (fun _ _ _ h => h) (Or.inl ⟨by rfl, ?_⟩) (by assumption) ?_
  rotate_left
  · (intro w hSw; (try dsimp only at hSw); (try dsimp only [tb7o5]); go_simp; try (with_reducible rfl))
  (try simp only [Act.put, List.setIfInBounds_toArray, List.set_cons_zero, List.set_cons_succ])
  refine wpAnyH_take (i := 6) (oi := tb7o6) (v := ?_) rfl (by kernel_rfl) (by kernel_rfl) (by kernel_rfl) (fun _ _ _ h => h) (Or.inl ⟨by rfl, ?_⟩) (by assumption) ?_
  rotate_left
  · (intro w hSw; (try dsimp only at hSw); (try dsimp only [tb7o6]); go_simp; try (with_reducible rfl))
  (try simp only [Act.put, List.setIfInBounds_toArray, List.set_cons_zero, List.set_cons_succ])
  refine wpAnyH_take (i := 7) (oi := tb7o7) (v := ?_) rfl (by kernel_rfl) (by kernel_rfl) (by kernel_rfl) (fun _ _ _ h => h) (Or.inl ⟨by rfl, ?_⟩) (by assumption) ?_
  rotate_left
  · (intro w hSw; (try dsimp only at hSw); (try dsimp only [tb7o7]); go_simp; try (with_reducible rfl))
  (try simp only [Act.put, List.setIfInBounds_toArray, List.set_cons_zero, List.set_cons_succ])
  refine wpAnyH_take (i := 8) (oi := tb7o8) (v := ?_) rfl (by kernel_rfl) (by kernel_rfl) (by kernel_rfl) (fun _ _ _ h => h) (Or.inl ⟨by rfl, ?_⟩) (by assumption) ?_
  rotate_left
  · (intro w hSw; (try dsimp only at hSw); (try dsimp only [tb7o8]); go_simp; try (with_reducible rfl))
  (try simp only [Act.put, List.setIfInBounds_toArray, List.set_cons_zero, List.set_cons_succ])
  refine wpAnyH_take (i := 9) (oi := tb7o9) (v := _) rfl (by kernel_rfl) (by kernel_rfl) (by kernel_rfl) (fun _ _ _ h => h) (yieldsIf_load_mid ?_ 28 _ rfl b13 0 rfl D _ (fun _ (h : _ ∧ _) => h.1) Try.underlying28 rfl hsD) (by assumption) ?_
  · rfl
  (try simp only [Act.put, List.setIfInBounds_toArray, List.set_cons_zero, List.set_cons_succ])
  refine wpAnyH_take (i := 11) (oi := tb7o11) (v := _) rfl (by kernel_rfl) (by kernel_rfl) (by kernel_rfl) (fun _ _ _ h => h) (yieldsIf_load_mid ?_ 34 _ rfl b15 0 rfl D _ (fun _ (h : _ ∧ _) => h.2) Try.underlying34 rfl hrD) (by assumption) ?_
  · rfl
  (try simp only [Act.put, List.setIfInBounds_toArray, List.set_cons_zero, List.set_cons_succ])
  refine wpAnyH_ready (rs := [10]) (by kernel_rfl) (by simp) ?_
  refine AllReadyH.cons (o := tb7o10) rfl (fun K hK => ?_) AllReadyH.nil
  dsimp only [tb7o10]
  go_simp
  refine (OFD.out _).mono ?_
  rintro e wx ⟨rfl, bx⟩
  have K3 : Hid (Blk wx w.heap.size 28 A ∧ Blk wx b13 28 D ∧ Blk wx b15 34 D ∧ Below w.heap.size w wx) := Lib.hid ⟨K3.out.1.keep bx, K3.out.2.1.keep bx, K3.out.2.2.1.keep bx, K3.out.2.2.2.trans (bx.mono K3.out.2.2.2.size)⟩
  clear bx
  (try go_wp2_with fail)
  refine hK.out _ _ ?_ (fun hHeld => ?_)
  · exact ⟨K3.out.2.1.whole, K3.out.2.2.1.whole⟩
  clear hK K
  (try simp only [Act.put, List.setIfInBounds_toArray, List.set_cons_zero, List.set_cons_succ])
  refine wpAnyH_take (i := 12) (oi := tb7o12) (v := _) rfl (by kernel_rfl) (by kernel_rfl) (by kernel_rfl) (fun _ _ _ h => h) (yieldsIf_binB ?_ .neq 34 34 _ _ rfl D.toArray D.toArray rfl rfl guardRT (.bool false) NEQ.out) (by assumption) ?_
  · rfl
  (try simp only [Act.put, List.setIfInBounds_toArray, List.set_cons_zero, List.set_cons_succ])
  refine wpAnyH_take (i := 13) (oi := tb7o13) (v := ?_) rfl (by kernel_rfl) (by kernel_rfl) (by kernel_rfl) (fun _ _ _ h => h) (Or.inl ⟨by rfl, ?_⟩) (by assumption) ?_
  rotate_left
  · (intro w hSw; (try dsimp only at hSw); (try dsimp only [tb7o13]); go_simp; try (with_reducible rfl))
  (try simp only [Act.put, List.setIfInBounds_toArray, List.set_cons_zero, List.set_cons_succ])
  refine wpAnyH_take (i := 14) (oi := tb7o14) (v := ?_) rfl (by kernel_rfl) (by kernel_rfl) (by kernel_rfl) (fun _ _ _ h => h) (Or.inl ⟨by rfl, ?_⟩) (by assumption) ?_
  rotate_left
  · (intro w hSw; (try dsimp only at hSw); (try dsimp only [tb7o14]); go_simp; try (with_reducible rfl))
  (try simp only [Act.put, List.setIfInBounds_toArray, List.set_cons_zero, List.set_cons_succ])
  refine wpAnyH_take (i := 15) (oi := tb7o15) (v := ?_) rfl (by kernel_rfl) (by kernel_rfl) (by kernel_rfl) (fun _ _ _ h => h) (Or.inl ⟨by rfl, ?_⟩) (by assumption) ?_
  rotate_left
  · (intro w hSw; (try dsimp only at hSw); (try dsimp only [tb7o15]); go_simp; try (with_reducible rfl))
  (try simp only [Act.put, List.setIfInBounds_toArray, List.set_cons_zero, List.set_cons_succ])
  refine wpAnyH_take (i := 16) (oi := tb7o16) (v := ?_) rfl (by kernel_rfl) (by kernel_rfl) (by kernel_rfl) (fun _ _ _ h => h) (Or.inl ⟨by rfl, ?_⟩) (by assumption) ?_
  rotate_left
  · (intro w hSw; (try dsimp only at hSw); (try dsimp only [tb7o16]); go_simp; try (with_reducible rfl))
  (try simp only [Act.put, List.setIfInBounds_toArray, List.set_cons_zero, List.set_cons_succ])
  refine wpAnyH_take (i := 17) (oi := tb7o17) (v := ?_) rfl (by kernel_rfl) (by kernel_rfl) (by kernel_rfl) (fun _ _ _ h => h) (Or.inl ⟨by rfl, ?_⟩) (by assumption) ?_
  rotate_left
  · (intro w hSw; (try dsimp only at hSw); (try dsimp only [tb7o17]); go_simp; try (with_reducible rfl))
  (try simp only [Act.put, List.setIfInBounds_toArray, List.set_cons_zero, List.set_cons_succ])
  refine wpAnyH_take (i := 18) (oi := tb7o18) (v := ?_) rfl (by kernel_rfl) (by kernel_rfl) (by kernel_rfl) (fun _ _ _ h => h) (Or.inl ⟨by rfl, ?_⟩) (by assumption) ?_
  rotate_left
  · (intro w hSw; (try dsimp only at hSw); (try dsimp only [tb7o18]); go_simp; try (with_reducible rfl))
  (try simp only [Act.put, List.setIfInBounds_toArray, List.set_cons_zero, List.set_cons_succ])
  refine wpAnyH_done (by kernel_rfl) ?_ _
  refine NoPanic.normal ?_
  have hsU2 : (Try.prog.info? 28).map (·.size) = some U.toArray.size := by rw [List.size_toArray, hUl]; exact sizeTab
  have hsU : (Try.prog.info? 28).map (·.size) = some U.length := by rw [hUl]; exact sizeTab
  have TH2 : Hid (∀ (W : World), (W.alloc (.cells Z.toArray 28)).there W.heap.size 0 U.toArray.size) := Lib.hid (fun W => (show Blk _ _ _ _ from heap_alloc_new W (.cells Z.toArray 28)).thereT (by rw [HZL.out, show U.toArray.size = 137 by rw [List.size_toArray, hUl]]; omega))
  have E2 : Hid (∀ (W : World), (W.alloc (.cells Z.toArray 28)).setCells W.heap.size 0 U.toArray.toList = W.alloc (.cells U.toArray 28)) := Lib.hid (fun W => alloc_setCells W 28 Z U (by rw [hUl, HZL.out]))
  clear hUl
  go_wp2_with fail
  refine (DE2.out _).mono ?_
  rintro e w8 ⟨rfl, b8⟩
  have A8 : Hid (Blk w8 w.heap.size 28 A ∧ Below w.heap.size w w8) := Lib.hid ⟨K3.out.1.keep b8, K3.out.2.2.2.trans (b8.mono K3.out.2.2.2.size)⟩
  clear b8 K3
  go_upto_region 12 with (refine wpList_store_mid rfl _ _ _ rfl w8.heap.size 0 U.toArray rfl rfl (TH2.out w8) hsU2 hUo ?_)
  refine wp_worldT (E2.out w8).symm ?_
  obtain ⟨b17, hb17⟩ : ∃ b, b = w8.heap.size := ⟨_, rfl⟩
  obtain ⟨V9, hV9⟩ : ∃ V, V = w8.alloc (.cells U.toArray 28) := ⟨_, rfl⟩
  have A9 : Hid (Blk V9 w.heap.size 28 A ∧ Blk V9 b17 28 U ∧ Below w.heap.size w V9) := Lib.hid (by rw [hV9, hb17]; exact ⟨A8.out.1.alloc _, heap_alloc_new w8 _, A8.out.2.alloc A8.out.2.size _⟩)
  rw [← hb17]
  refine wp_worldT hV9 ?_
  clear hV9 hb17 A8
  go_wp2_with fail
  refine (AW.out _).mono ?_
  rintro e w10 ⟨rfl, b10⟩
  have A10 : Hid (Blk w10 w.heap.size 28 A ∧ Blk w10 b17 28 U ∧ Below w.heap.size w w10) := Lib.hid ⟨A9.out.1.keep b10, A9.out.2.1.keep b10, A9.out.2.2.trans (b10.mono A9.out.2.2.size)⟩
  have RA := Lib.hid A10.out.1.whole
  have RU := Lib.hid A10.out.2.1.whole
  clear b10 A9
  go_wp2_with (first
    | (refine wpList_load_midG (by rfl) _ _ rfl b17 0 rfl U _ RU.out Try.underlying28 rfl hsU ?_)
    | (refine wpList_load_midG (by rfl) _ _ rfl w.heap.size 0 rfl A _ RA.out Try.underlying28 rfl hsA ?_)
    | (refine wpList_bin_isG (by rfl) .eql 28 28 _ _ rfl U.toArray A.toArray rfl rfl guardT (.bool true) (EQ.out _) ?_))
  go_ret
  exact ⟨rfl, A10.out.2.2⟩

set_option maxHeartbeats 8000000 in
theorem bytes_long (A : List Value) (s : ByteArray) (m n : Int) (w : World) (h : 2000 < s.size) (hs : s.size ≤ maxLen) :
    Calls Try.prog 4 #[.agg A.toArray, .string s, .int .i64 m, .int .i64 n] w fun e w' => e = .returned (.bool true) ∧ Below w.heap.size w w' := by
  have AW := Lib.hid (fun W => tab_Awake W)
  obtain ⟨k, hk⟩ : ∃ k, k = s.size := ⟨_, rfl⟩
  have hk2 := hk.symm
  have d1 : decide ((2000 : Int) < (k : Int)) = true := decide_eq_true (by omega)
  have hkm : k ≤ maxLen := by rw [hk]; exact hs
  have A0 := Lib.hid ((Below.refl w.heap.size w).alloc (Nat.le_refl _) (.cells A.toArray 28))
  clear h hs hk
  go_enter Try.func4, Try.ntmps4
  go_wp2_with fail
  refine (AW.out _).mono ?_
  rintro e w1 ⟨rfl, b1⟩
  have B1 := Lib.hid (A0.out.trans (b1.mono A0.out.size))
  clear b1
  go_wp2_with fail
  go_ret
  exact ⟨rfl, B1.out⟩

theorem tableBytes_walk (f : Nat → Nat) (L : Nat) (hf : Fits f) (hL : L < 18446744073709551616) (s : ByteArray) (hs : s.size ≤ maxLen) (m : Int) (n : Int) (w : World) :
    Calls Try.prog 4 #[.agg (tcs f L).toArray, .string s, .int .i64 m, .int .i64 n] w fun e w' => e = .returned (.bool true) ∧ Below w.heap.size w w' := by
  by_cases hlong : 2000 < s.size
  · exact bytes_long _ s m n w hlong hs
  · obtain ⟨l, hl⟩ : ∃ l, s = bs l := ⟨s.data.toList, (bs_of s).symm⟩
    subst hl
    rw [bs_size] at hlong
    have OF := Lib.hid (fun W => law_Of f L W)
    have AW := Lib.hid (fun W => tab_Awake W)
    have hAl : (tcs f L).length = 137 := tcs_len _ _
    by_cases hr : (1 ≤ m ∧ m ≤ 16) ∧ (1 ≤ n ∧ n ≤ 8)
    · obtain ⟨M, rfl⟩ : ∃ M : Nat, m = (M : Int) := ⟨m.toNat, by omega⟩
      obtain ⟨N, rfl⟩ : ∃ N : Nat, n = (N : Int) := ⟨n.toNat, by omega⟩
      have hM : 1 ≤ M ∧ M ≤ 16 := by omega
      have hN : 1 ≤ N ∧ N ≤ 8 := by omega
      have DE := Lib.hid (fun W => tab_Decode_ok l M N W (by omega) hM hN)
      have RDE := Lib.hid (fun W => ref_Decode_all l M N W (by omega) hM hN)
      have OFD := Lib.hid (fun W => law_Of (decT l M N).1 (decT l M N).2.1 W)
      have NEQ := Lib.hid (fun W => binRT (decT l M N).1 (decT l M N).1 (decT l M N).2.1 (decT l M N).2.1 true ⟨fun _ => ⟨fun _ _ => rfl, rfl⟩, fun _ => rfl⟩ W)
      have hDl : (tcs (decT l M N).1 (decT l M N).2.1).length = 137 := tcs_len _ _
      have hDo : (tcs (decT l M N).1 (decT l M N).2.1).toArray.all (·.oneCell') = true := all_oneCell_toArray (tcs_one _ _)
      have EN := fun W => tab_Encode_ok f L M N W hf hL hM hN
      have REN := fun W => ref_Encode_ok f L M N W hf hL hM hN
      by_cases ht : Told f M N
      · rw [show encA f L M N = #[.string (bs (encL f L M N)), .int .i64 0] from if_pos ht] at EN REN
        obtain ⟨e1, e2⟩ := dec_enc f L M N hf hL hN.2 hM.2 ht
        have hxl : (encL f L M N).length ≤ 1000000 := by
          rw [encL_len f L M N hN.2 hM.2]
          have : N * (M + 1) ≤ 8 * 17 := Nat.mul_le_mul hN.2 (by omega)
          omega
        have DE2 := fun W => tab_Decode_ok (encL f L M N) M N W hxl hM hN
        rw [show (decT (encL f L M N) M N).2.1 = L from congrArg (·.1) e1, show (decT (encL f L M N) M N).2.2 = 0 from congrArg (·.2) e1] at DE2
        have EQ := Lib.hid (fun W => (binT .eql (decT (encL f L M N) M N).1 f L L true ⟨fun _ => ⟨e2, rfl⟩, fun _ => rfl⟩ W).1 rfl)
        exact bytes_good _ _ _ l (encL f L M N) M N _ w (by omega) hAl hDl hDo OF OFD (Lib.hid EN) (Lib.hid REN) DE RDE NEQ (tcs_len _ _) (all_oneCell_toArray (tcs_one _ _)) (Lib.hid DE2) EQ AW
      · rw [show encA f L M N = #[.string (bs []), .int .i64 4] from if_neg ht] at EN REN
        exact bytes_err _ _ l [] M N 4 _ w (by omega) hAl hDl hDo OF OFD (Lib.hid EN) (Lib.hid REN) DE RDE NEQ rfl AW
    · have DE := Lib.hid (fun W => tab_Decode_no l m n W hr)
      have RDE := Lib.hid (fun W => ref_Decode_no l m n W hr)
      have OFD := Lib.hid (fun W => law_Of (fun _ => 0) 0 W)
      have NEQ := Lib.hid (fun W => binRT (fun _ => 0) (fun _ => 0) 0 0 true ⟨fun _ => ⟨fun _ _ => rfl, rfl⟩, fun _ => rfl⟩ W)
      have EN := Lib.hid (fun W => tab_Encode_no f L m n W hr)
      have REN := Lib.hid (fun W => ref_Encode_no f L m n W hr)
      exact bytes_err _ _ l [] m n 5 5 w (by omega) hAl (tcs_len _ _) (all_oneCell_toArray (tcs_one _ _)) OF OFD EN REN DE RDE NEQ rfl AW

end Go.Proofs.Ythoahengdajpcaa
