/- TableSteps: the walk. Written by wip/tools/gen_tabsteps.py. -/
import Derived.Test.YthoahengdajpcaaTabS
import Derived.Deep.CutRange
namespace Go.Proofs.Ythoahengdajpcaa
open Go.RowKit
set_option maxRecDepth 100000

abbrev st13o0 : Oper := { dst := some 56, op := Op.move (Operand.tmp 8), type := 38, pos := "law.go:48", after := #[], guard := none }
abbrev st13o1 : Oper := { dst := some 57, op := Op.move (Operand.tmp 9), type := 3, pos := "law.go:48", after := #[], guard := none }
abbrev st13o2 : Oper := { dst := some 58, op := Op.binOp BinOp.neq 3 (Operand.tmp 56) (Operand.tmp 57) 3, type := 4, pos := "law.go:48", after := #[{ on := 0, ground := Ground.data }, { on := 1, ground := Ground.data }], guard := none }
abbrev st13o3 : Oper := { dst := some 59, op := Op.move (Operand.tmp 58), type := 4, pos := "law.go:48", after := #[{ on := 2, ground := Ground.data }], guard := none }
abbrev st13o4 : Oper := { dst := some 60, op := Op.load 28 (Operand.tmp 2), type := 28, pos := "law.go:48", after := #[{ on := 3, ground := Ground.guard }], guard := some (3, false) }
abbrev st13o5 : Oper := { dst := some 61, op := Op.call { callee := Callee.value (Operand.func 8), args := #[Operand.tmp 60], argTypes := #[28] }, type := 34, pos := "law.go:48", after := #[{ on := 4, ground := Ground.data }, { on := 3, ground := Ground.chain }, { on := 3, ground := Ground.guard }], guard := some (3, false) }
abbrev st13o6 : Oper := { dst := some 62, op := Op.load 34 (Operand.tmp 5), type := 34, pos := "law.go:48", after := #[{ on := 3, ground := Ground.guard }], guard := some (3, false) }
abbrev st13o7 : Oper := { dst := some 63, op := Op.binOp BinOp.neq 34 (Operand.tmp 61) (Operand.tmp 62) 34, type := 4, pos := "law.go:48", after := #[{ on := 5, ground := Ground.data }, { on := 6, ground := Ground.data }, { on := 3, ground := Ground.guard }], guard := some (3, false) }
abbrev st13o8 : Oper := { dst := some 64, op := Op.pick (Operand.tmp 59) (Operand.const (Value.bool true)) (Operand.tmp 63), type := 4, pos := "law.go:48", after := #[{ on := 3, ground := Ground.data }, { on := 7, ground := Ground.data }], guard := none }

theorem yieldsIf_binT {P : Program} {ops : Array Oper} {S : World → Prop} {o : Oper} {a : Act} (hw : Region.wanted o (yielded ops a.tmps) = true) (op : BinOp) (t u : TypeId) (x y : Operand) (ho : o.op = .binOp op t x y u)
    (xs ys : Array Value) (hx : a.eval x = .agg xs) (hy : a.eval y = .agg ys) (hm : P.eqGuardType P.depth t = false) (v : Value) (hrun : ∀ w, (binOp op t (.agg xs) (.agg ys)).run P w = .ok v w) : YieldsIf P ops S o v a :=
  .inl ⟨hw, fun w _ => by
    unfold execOp
    simp only [ho, hx, hy, Sem.run_bind, run_eqGuard_agg w op t x y xs ys hm, hrun, Result.andThen_ok, Sem.run_pure]⟩

/-- A table in its box p, the document's in its box q. -/
def TS (w W : World) (p q : Nat) (a b : List Value) : Prop := w.heap.size ≤ p ∧ p < q ∧ Blk W p 28 a ∧ Blk W q 34 b ∧ Below w.heap.size w W
theorem TS.below {w W V : World} {p q : Nat} {a b : List Value} (h : TS w W p q a b) (hb : Below W.heap.size W V) : TS w V p q a b := ⟨h.1, h.2.1, h.2.2.1.keep hb, h.2.2.2.1.keep hb, h.2.2.2.2.trans (hb.mono h.2.2.2.2.size)⟩
theorem TS.size {w W : World} {p q : Nat} {a b : List Value} (h : TS w W p q a b) : w.heap.size ≤ W.heap.size := h.2.2.2.2.size
theorem TS.drew {w W : World} {p q : Nat} {a b : List Value} (h : TS w W p q a b) : TS w W.drew p q a b := ⟨h.1, h.2.1, h.2.2.1, h.2.2.2.1, h.2.2.2.2.drew⟩
theorem TS.putP {w W : World} {p q : Nat} {a b c : List Value} (h : TS w W p q a b) (hl : c.length = a.length) : TS w (W.setCells p 0 c.toArray.toList) p q c b :=
  ⟨h.1, h.2.1, h.2.2.1.setWhole c hl, h.2.2.2.1.farT (by have := h.2.1; omega) _ _, Below.setCellsT h.2.2.2.2 h.1 _ _⟩
theorem TS.putQ {w W : World} {p q : Nat} {a b c : List Value} (h : TS w W p q a b) (hl : c.length = b.length) : TS w (W.setCells q 0 c.toArray.toList) p q a c :=
  ⟨h.1, h.2.1, h.2.2.1.farT (by have := h.2.1; omega) _ _, h.2.2.2.1.setWhole c hl, Below.setCellsT h.2.2.2.2 (by have := h.1; have := h.2.1; omega) _ _⟩

set_option maxHeartbeats 32000000 in
theorem tableSteps_walk (f : Nat → Nat) (L : Nat) (hf : Fits f) (hL : L < 18446744073709551616) (A : Option Addr) (n c : Nat) (l : Nat → StepT) (w : World) (h : Stp w A n l) (hn : n ≤ c) (hc : c ≤ maxLen) :
    Calls Try.prog 3 #[.agg (tcs f L).toArray, .slice A n c] w fun e w' => e = .returned (.bool true) ∧ Below w.heap.size w w' := by
  have AW := Lib.hid (fun W => tab_Awake W)
  by_cases h100 : 100 < n
  · have d1 : decide ((100 : Int) < (n : Int)) = true := decide_eq_true (by omega)
    clear h100 h
    obtain ⟨a, ha⟩ : ∃ a, a = tcs f L := ⟨_, rfl⟩
    rw [← ha]
    clear ha
    have B0 := Lib.hid ((Below.refl w.heap.size w).alloc (Nat.le_refl _) (.cells a.toArray 28))
    go_enter Try.func3, Try.ntmps3
    go_wp2_with fail
    refine (AW.out _).mono ?_
    rintro e w1 ⟨rfl, b1⟩
    have B1 := Lib.hid (B0.out.trans (b1.mono B0.out.size))
    clear b1
    go_wp2_with fail
    go_ret
    exact ⟨rfl, B1.out⟩
  · have d1 : decide ((100 : Int) < (n : Int)) = false := decide_eq_false (by omega)
    have hn100 : n ≤ 100 := by omega
    have OF := Lib.hid (fun W => law_Of f L W)
    have HFF := Lib.hid hf
    obtain ⟨a, ha⟩ : ∃ a, a = tcs f L := ⟨_, rfl⟩
    have hal : a.length = 137 := by rw [ha]; exact tcs_len _ _
    have hao : a.toArray.all (·.oneCell') = true := all_oneCell_toArray (by rw [ha]; exact tcs_one _ _)
    rw [← ha] at OF ⊢
    have HAE := Lib.hid ha
    clear h100 hf hL ha
    have hsa : (Try.prog.info? 28).map (·.size) = some a.length := by rw [hal]; exact sizeTab
    have hra : (Try.prog.info? 34).map (·.size) = some a.toArray.size := by rw [List.size_toArray, hal]; exact sizeRTab
    have hz := zeroRTab
    obtain ⟨Z, hZ⟩ : ∃ Z, Z = tcs (fun _ => 0) 0 := ⟨_, rfl⟩
    have hZl : Z.length = 137 := by rw [hZ]; exact tcs_len _ _
    rw [← hZ] at hz
    clear hZ
    have TH : Hid (∀ W : World, (W.alloc (.cells Z.toArray 34)).there W.heap.size 0 a.toArray.size) := Lib.hid (fun W => (show Blk _ _ _ _ from heap_alloc_new W (.cells Z.toArray 34)).thereT (by rw [hZl, show a.toArray.size = 137 by rw [List.size_toArray, hal]]; omega))
    have E1 : Hid (∀ W : World, (W.alloc (.cells Z.toArray 34)).setCells W.heap.size 0 a.toArray.toList = W.alloc (.cells a.toArray 34)) := Lib.hid (fun W => alloc_setCells W _ Z a (by rw [hal, hZl]))
    clear hal hZl
    obtain ⟨W0, hW0⟩ : ∃ W0, W0 = w.alloc (.cells a.toArray 28) := ⟨_, rfl⟩
    have A0 : Hid (Blk W0 w.heap.size 28 a ∧ Below w.heap.size w W0) := Lib.hid (by rw [hW0]; exact ⟨heap_alloc_new w _, (Below.refl _ _).alloc (Nat.le_refl _) _⟩)
    have RA := Lib.hid A0.out.1.whole
    have HST := Lib.hid h
    clear h
    go_enter Try.func3, Try.ntmps3
    go_upto_region 3 with fail
    rw [← hW0]
    clear hW0
    go_wp2_with (refine wpList_load_mid rfl _ _ rfl w.heap.size 0 rfl a _ RA.out Try.underlying28 rfl hsa ?_)
    refine (OF.out _).mono ?_
    rintro e w1 ⟨rfl, b1⟩
    have A1 : Hid (Blk w1 w.heap.size 28 a ∧ Below w.heap.size w w1) := Lib.hid ⟨A0.out.1.keep b1, A0.out.2.trans (b1.mono A0.out.2.size)⟩
    clear b1
    go_upto_region 4 with (refine wpList_store_mid rfl _ _ _ rfl w1.heap.size 0 a.toArray rfl rfl (TH.out w1) hra hao ?_)
    refine wp_worldT (E1.out w1).symm ?_
    obtain ⟨q, hq⟩ : ∃ q, q = w1.heap.size := ⟨_, rfl⟩
    obtain ⟨W1, hW1⟩ : ∃ W1, W1 = w1.alloc (.cells a.toArray 34) := ⟨_, rfl⟩
    have T1 : Hid (TS w W1 w.heap.size q a a) := Lib.hid (by
      rw [hW1, hq]
      exact ⟨Nat.le_refl _, A1.out.1.lt, A1.out.1.alloc _, heap_alloc_new w1 _, A1.out.2.alloc A1.out.2.size _⟩)
    rw [← hq]
    refine wp_worldT hW1 ?_
    rw [HAE.out] at T1
    clear hW1 hq hz RA A0 A1 hsa hra hao TH E1 OF
    go_wp2_with fail
    go_loopw [18] (fun iv wr => ∃ (k : Nat) (f1 : Nat → Nat) (L1 : Nat), iv = .int .i64 (k : Int) ∧ k ≤ n ∧ Fits f1 ∧ Hid (TS w wr w.heap.size q (tcs f1 L1) (tcs f1 L1))) (fun iv _ => n - (intOf iv).toNat)
    case atStart => exact ⟨0, f, L, rfl, Nat.zero_le _, HFF.out, T1⟩
    case round =>
      obtain ⟨k, f1, L1, rfl, hk, hf1, TT⟩ := hrel
      by_cases hlt : k < n
      · have hdec : decide ((k : Int) < (n : Int)) = true := decide_eq_true (by omega)
        have hw1 : IntKind.i64.wrap ((k : Int) + 1) = ((k + 1 : Nat) : Int) := by rw [IntWalk.i64_in _ (by omega)]; omega
        have HS2 := Lib.hid (HST.out.keep (TT.out.2.2.2.2))
        obtain ⟨b0, o0, hA, hcell⟩ := HS2.out (by omega)
        subst hA
        have y0 := hcell k hlt 0 _ rfl
        have y1 := hcell k hlt 1 _ rfl
        have y2 := hcell k hlt 2 _ rfl
        have y3 := hcell k hlt 3 _ rfl
        obtain ⟨xx, hxx⟩ : ∃ xx, xx = l k := ⟨_, rfl⟩
        rw [← hxx] at y0 y1 y2 y3
        clear hcell hxx
        obtain ⟨xc, xk, xr, xs⟩ := xx
        dsimp only at y0 y1 y2 y3
        simp only [Nat.add_zero] at y0
        have NN : Hid (k < n) := Lib.hid hlt
        have TW2 := Lib.hid (fun W => law_Of f1 L1 W)
        have PS := Lib.hid (fun W => tab_Seen f1 L1 xr W)
        have RS := Lib.hid (fun W => ref_Seen f1 L1 xr W)
        have PA := Lib.hid (fun W => tab_Add f1 L1 xc xk W hf1)
        have RAD := Lib.hid (fun W => ref_Add f1 L1 xc xk W hf1)
        have HF1 := Lib.hid hf1
        have hal : (tcs f1 L1).length = 137 := tcs_len _ _
        obtain ⟨a, ha⟩ : ∃ a, a = tcs f1 L1 := ⟨_, rfl⟩
        rw [← ha] at TT TW2 PS RS PA RAD hal
        clear ha
        have HA : Hid (a.length = 137 ∧ a.toArray.size = 137) := Lib.hid ⟨hal, by rw [List.size_toArray]; exact hal⟩
        have hsa : (Try.prog.info? 28).map (·.size) = some a.length := by rw [hal]; exact sizeTab
        have hra : (Try.prog.info? 34).map (·.size) = some a.length := by rw [hal]; exact sizeRTab
        obtain ⟨b7, hb7⟩ : ∃ b, b = wr.heap.size := ⟨_, rfl⟩
        obtain ⟨V0, hV0⟩ : ∃ V0, V0 = wr.alloc (.cells #[.int .i64 xc, .int .i64 xk, .int .u64 (xr : Int), .bool xs] 37) := ⟨_, rfl⟩
        have bl0 : Below wr.heap.size wr V0 := by rw [hV0]; exact (Below.refl _ _).alloc (Nat.le_refl _) _
        have SB : Hid (Blk V0 b7 37 [.int .i64 xc, .int .i64 xk, .int .u64 (xr : Int), .bool xs]) := Lib.hid (by rw [hV0, hb7]; exact heap_alloc_new wr _)
        have N7 : Hid (w.heap.size < b7 ∧ q < b7) := Lib.hid ⟨by rw [hb7]; exact TT.out.2.2.1.lt, by rw [hb7]; exact TT.out.2.2.2.1.lt⟩
        have TT := Lib.hid (TT.out.below bl0)
        have x0 := SB.out.cell 0
        have x1 := SB.out.cell 1
        have x2 := SB.out.cell 2
        have x3 := SB.out.cell 3
        dsimp only [List.getElem?_cons_zero, List.getElem?_cons_succ] at x0 x1 x2 x3
        clear bl0 hal hf1 hlt
        go_upto_region 8 with fail
        rw [← hb7]
        refine wp_worldT hV0 ?_
        clear hV0 hb7 y0 y1 y2 y3 HS2
        have hkn := NN.out
        cases xs with
        | true =>
          have PC := PS
          have RC := RS
          obtain ⟨f2, hf2⟩ : ∃ f2, f2 = f1 := ⟨_, rfl⟩
          obtain ⟨L2, hL2⟩ : ∃ L2, L2 = (seenT L1 xr).1 := ⟨_, rfl⟩
          obtain ⟨ec, hec⟩ : ∃ ec, ec = (seenT L1 xr).2 := ⟨_, rfl⟩
          have HF2 : Hid (Fits f2) := Lib.hid (by rw [hf2]; exact HF1.out)
          rw [← hf2, ← hL2, ← hec] at PC RC
          have OF2 := Lib.hid (fun W => law_Of f2 L2 W)
          have NEQ := Lib.hid (fun W => binRT f2 f2 L2 L2 true ⟨fun _ => ⟨fun _ _ => rfl, rfl⟩, fun _ => rfl⟩ W)
          have h2l : (tcs f2 L2).length = 137 := tcs_len _ _
          have h2o : (tcs f2 L2).toArray.all (·.oneCell') = true := all_oneCell_toArray (tcs_one _ _)
          obtain ⟨a2, ha2⟩ : ∃ a2, a2 = tcs f2 L2 := ⟨_, rfl⟩
          have HA2E := Lib.hid ha2
          rw [← ha2] at PC RC OF2 NEQ h2l h2o
          clear ha2
          have HA2 : Hid (a2.length = 137 ∧ a2.toArray.size = 137 ∧ a2.toArray.all (·.oneCell') = true) := Lib.hid ⟨h2l, by rw [List.size_toArray]; exact h2l, h2o⟩
          have hs2 : (Try.prog.info? 28).map (·.size) = some a2.length := by rw [h2l]; exact sizeTab
          have ht2 : (Try.prog.info? 28).map (·.size) = some a2.toArray.size := by rw [List.size_toArray, h2l]; exact sizeTab
          have hr2 : (Try.prog.info? 34).map (·.size) = some a2.length := by rw [h2l]; exact sizeRTab
          have hu2 : (Try.prog.info? 34).map (·.size) = some a2.toArray.size := by rw [List.size_toArray, h2l]; exact sizeRTab
          clear h2l h2o
          clear hf2 hL2 hec
          have HB1 := Lib.hid TT.out.2.2.1.whole
          go_wp2_with (refine wpList_load_mid rfl _ _ rfl w.heap.size 0 rfl a _ HB1.out Try.underlying28 rfl hsa ?_)
          refine (PC.out _).mono ?_
          rintro e wx ⟨rfl, bx⟩
          have TT := Lib.hid (TT.out.below bx)
          have SB := Lib.hid (SB.out.keep bx)
          have TH1 : Hid (wx.there w.heap.size 0 a2.toArray.size) := Lib.hid (TT.out.2.2.1.thereT (by rw [HA.out.1, HA2.out.2.1]; omega))
          clear bx HB1 x0 x1 x2 x3
          go_upto_region 10 with (refine wpList_store_mid rfl _ _ _ rfl w.heap.size 0 a2.toArray rfl rfl TH1.out ht2 HA2.out.2.2 ?_)
          obtain ⟨wy, hwy⟩ : ∃ wy, wy = wx.setCells w.heap.size 0 a2.toArray.toList := ⟨_, rfl⟩
          have TT : Hid (TS w wy w.heap.size q a2 a) := Lib.hid (by rw [hwy]; exact TT.out.putP (by rw [HA.out.1, HA2.out.1]))
          have SB : Hid (Blk wy b7 37 [.int .i64 xc, .int .i64 xk, .int .u64 (xr : Int), .bool true]) := Lib.hid (by rw [hwy]; exact SB.out.farT (by have := N7.out; omega) _ _)
          refine wp_worldT hwy ?_
          clear hwy TH1
          have x0 := SB.out.cell 0
          have x1 := SB.out.cell 1
          have x2 := SB.out.cell 2
          have x3 := SB.out.cell 3
          dsimp only [List.getElem?_cons_zero, List.getElem?_cons_succ] at x0 x1 x2 x3
          have HB1 := Lib.hid TT.out.2.2.2.1.whole
          go_wp2_with (refine wpList_load_mid rfl _ _ rfl q 0 rfl a _ HB1.out Try.underlying34 rfl hra ?_)
          refine (RC.out _).mono ?_
          rintro e wz ⟨rfl, bx⟩
          have TT := Lib.hid (TT.out.below bx)
          have TH1 : Hid (wz.there q 0 a2.toArray.size) := Lib.hid (TT.out.2.2.2.1.thereT (by rw [HA.out.1, HA2.out.2.1]; omega))
          clear bx HB1 x0 x1 x2 x3
          go_upto_region 13 with (refine wpList_store_mid rfl _ _ _ rfl q 0 a2.toArray rfl rfl TH1.out hu2 HA2.out.2.2 ?_)
          obtain ⟨wy2, hwy⟩ : ∃ wy, wy = wz.setCells q 0 a2.toArray.toList := ⟨_, rfl⟩
          have TT : Hid (TS w wy2 w.heap.size q a2 a2) := Lib.hid (by rw [hwy]; exact TT.out.putQ (by rw [HA.out.1, HA2.out.1]))
          refine wp_worldT hwy ?_
          clear hwy TH1
          have TT : Hid (TS w wy2.drew w.heap.size q a2 a2) := Lib.hid TT.out.drew
          refine wp_region_noPanic ?_
          refine wp_region_held_drew (S := fun w' => w'.rangeAt w.heap.size 0 a2 ∧ w'.rangeAt q 0 a2) (by kernel_rfl) ?_ (fun hHeld => ?_)
          · exact ⟨TT.out.2.2.1.whole, TT.out.2.2.2.1.whole⟩
          refine wpAnyH_take (i := 0) (oi := st13o0) (v := ?_) rfl (by kernel_rfl) (by kernel_rfl) (by kernel_rfl) (fun _ _ _ h => h) (Or.inl ⟨by rfl, ?_⟩) (by assumption) ?_
          rotate_left
          · (intro w hSw; (try dsimp only at hSw); (try dsimp only [st13o0]); go_simp; try (with_reducible rfl))
          (try simp only [Act.put, List.setIfInBounds_toArray, List.set_cons_zero, List.set_cons_succ])
          refine wpAnyH_take (i := 1) (oi := st13o1) (v := ?_) rfl (by kernel_rfl) (by kernel_rfl) (by kernel_rfl) (fun _ _ _ h => h) (Or.inl ⟨by rfl, ?_⟩) (by assumption) ?_
          rotate_left
          · (intro w hSw; (try dsimp only at hSw); (try dsimp only [st13o1]); go_simp; try (with_reducible rfl))
          (try simp only [Act.put, List.setIfInBounds_toArray, List.set_cons_zero, List.set_cons_succ])
          refine wpAnyH_take (i := 2) (oi := st13o2) (v := ?_) rfl (by kernel_rfl) (by kernel_rfl) (by kernel_rfl) (fun _ _ _ h => h) (Or.inl ⟨by rfl, ?_⟩) (by assumption) ?_
          rotate_left
          · (intro w hSw; (try dsimp only at hSw); (try dsimp only [st13o2]); go_simp; try (with_reducible rfl))
          (try simp only [Act.put, List.setIfInBounds_toArray, List.set_cons_zero, List.set_cons_succ])
          refine wpAnyH_take (i := 3) (oi := st13o3) (v := ?_) rfl (by kernel_rfl) (by kernel_rfl) (by kernel_rfl) (fun _ _ _ h => h) (Or.inl ⟨by rfl, ?_⟩) (by assumption) ?_
          rotate_left
          · (intro w hSw; (try dsimp only at hSw); (try dsimp only [st13o3]); go_simp; try (with_reducible rfl))
          (try simp only [Act.put, List.setIfInBounds_toArray, List.set_cons_zero, List.set_cons_succ])
          refine wpAnyH_take (i := 4) (oi := st13o4) (v := _) rfl (by kernel_rfl) (by kernel_rfl) (by kernel_rfl) (fun _ _ _ h => h) (yieldsIf_load_mid ?_ 28 _ rfl w.heap.size 0 rfl a2 _ (fun _ (h : _ ∧ _) => h.1) Try.underlying28 rfl hs2) (by assumption) ?_
          · rfl
          (try simp only [Act.put, List.setIfInBounds_toArray, List.set_cons_zero, List.set_cons_succ])
          refine wpAnyH_take (i := 6) (oi := st13o6) (v := _) rfl (by kernel_rfl) (by kernel_rfl) (by kernel_rfl) (fun _ _ _ h => h) (yieldsIf_load_mid ?_ 34 _ rfl q 0 rfl a2 _ (fun _ (h : _ ∧ _) => h.2) Try.underlying34 rfl hr2) (by assumption) ?_
          · rfl
          (try simp only [Act.put, List.setIfInBounds_toArray, List.set_cons_zero, List.set_cons_succ])
          refine wpAnyH_ready (rs := [5]) (by kernel_rfl) (by simp) ?_
          refine AllReadyH.cons (o := st13o5) rfl (fun K hK => ?_) AllReadyH.nil
          dsimp only [st13o5]
          go_simp
          refine (OF2.out _).mono ?_
          rintro e wx ⟨rfl, bx⟩
          have TT := Lib.hid (TT.out.below bx)
          clear bx
          (try go_wp2_with fail)
          refine hK.out _ _ ?_ (fun hHeld => ?_)
          · exact ⟨TT.out.2.2.1.whole, TT.out.2.2.2.1.whole⟩
          clear hK K
          (try simp only [Act.put, List.setIfInBounds_toArray, List.set_cons_zero, List.set_cons_succ])
          refine wpAnyH_take (i := 7) (oi := st13o7) (v := _) rfl (by kernel_rfl) (by kernel_rfl) (by kernel_rfl) (fun _ _ _ h => h) (yieldsIf_binT ?_ .neq 34 34 _ _ rfl a2.toArray a2.toArray rfl rfl guardRT (.bool false) NEQ.out) (by assumption) ?_
          · rfl
          (try simp only [Act.put, List.setIfInBounds_toArray, List.set_cons_zero, List.set_cons_succ])
          refine wpAnyH_take (i := 8) (oi := st13o8) (v := ?_) rfl (by kernel_rfl) (by kernel_rfl) (by kernel_rfl) (fun _ _ _ h => h) (Or.inl ⟨by rfl, ?_⟩) (by assumption) ?_
          rotate_left
          · (intro w hSw; (try dsimp only at hSw); (try dsimp only [st13o8]); go_simp; try (with_reducible rfl))
          (try simp only [Act.put, List.setIfInBounds_toArray, List.set_cons_zero, List.set_cons_succ])
          refine wpAnyH_done (by kernel_rfl) ?_ _
          refine NoPanic.normal ?_
          go_wp2_with fail
          go_roundw
          case rel => exact ⟨k + 1, f2, L2, by go_num, by omega, HF2.out, by have := TT; rw [HA2E.out] at this; exact this⟩
          case measure => simp [intOf]; omega
        | false =>
          have PC := PA
          have RC := RAD
          obtain ⟨f2, hf2⟩ : ∃ f2, f2 = (addT f1 xc xk).1 := ⟨_, rfl⟩
          obtain ⟨L2, hL2⟩ : ∃ L2, L2 = L1 := ⟨_, rfl⟩
          obtain ⟨ec, hec⟩ : ∃ ec, ec = (addT f1 xc xk).2 := ⟨_, rfl⟩
          have HF2 : Hid (Fits f2) := Lib.hid (by rw [hf2]; exact addT_fits HF1.out _ _)
          rw [← hf2, ← hL2, ← hec] at PC RC
          have OF2 := Lib.hid (fun W => law_Of f2 L2 W)
          have NEQ := Lib.hid (fun W => binRT f2 f2 L2 L2 true ⟨fun _ => ⟨fun _ _ => rfl, rfl⟩, fun _ => rfl⟩ W)
          have h2l : (tcs f2 L2).length = 137 := tcs_len _ _
          have h2o : (tcs f2 L2).toArray.all (·.oneCell') = true := all_oneCell_toArray (tcs_one _ _)
          obtain ⟨a2, ha2⟩ : ∃ a2, a2 = tcs f2 L2 := ⟨_, rfl⟩
          have HA2E := Lib.hid ha2
          rw [← ha2] at PC RC OF2 NEQ h2l h2o
          clear ha2
          have HA2 : Hid (a2.length = 137 ∧ a2.toArray.size = 137 ∧ a2.toArray.all (·.oneCell') = true) := Lib.hid ⟨h2l, by rw [List.size_toArray]; exact h2l, h2o⟩
          have hs2 : (Try.prog.info? 28).map (·.size) = some a2.length := by rw [h2l]; exact sizeTab
          have ht2 : (Try.prog.info? 28).map (·.size) = some a2.toArray.size := by rw [List.size_toArray, h2l]; exact sizeTab
          have hr2 : (Try.prog.info? 34).map (·.size) = some a2.length := by rw [h2l]; exact sizeRTab
          have hu2 : (Try.prog.info? 34).map (·.size) = some a2.toArray.size := by rw [List.size_toArray, h2l]; exact sizeRTab
          clear h2l h2o
          clear hf2 hL2 hec
          have HB1 := Lib.hid TT.out.2.2.1.whole
          go_wp2_with (refine wpList_load_mid rfl _ _ rfl w.heap.size 0 rfl a _ HB1.out Try.underlying28 rfl hsa ?_)
          refine (PC.out _).mono ?_
          rintro e wx ⟨rfl, bx⟩
          have TT := Lib.hid (TT.out.below bx)
          have SB := Lib.hid (SB.out.keep bx)
          have TH1 : Hid (wx.there w.heap.size 0 a2.toArray.size) := Lib.hid (TT.out.2.2.1.thereT (by rw [HA.out.1, HA2.out.2.1]; omega))
          clear bx HB1 x0 x1 x2 x3
          go_upto_region 12 with (refine wpList_store_mid rfl _ _ _ rfl w.heap.size 0 a2.toArray rfl rfl TH1.out ht2 HA2.out.2.2 ?_)
          obtain ⟨wy, hwy⟩ : ∃ wy, wy = wx.setCells w.heap.size 0 a2.toArray.toList := ⟨_, rfl⟩
          have TT : Hid (TS w wy w.heap.size q a2 a) := Lib.hid (by rw [hwy]; exact TT.out.putP (by rw [HA.out.1, HA2.out.1]))
          have SB : Hid (Blk wy b7 37 [.int .i64 xc, .int .i64 xk, .int .u64 (xr : Int), .bool false]) := Lib.hid (by rw [hwy]; exact SB.out.farT (by have := N7.out; omega) _ _)
          refine wp_worldT hwy ?_
          clear hwy TH1
          have x0 := SB.out.cell 0
          have x1 := SB.out.cell 1
          have x2 := SB.out.cell 2
          have x3 := SB.out.cell 3
          dsimp only [List.getElem?_cons_zero, List.getElem?_cons_succ] at x0 x1 x2 x3
          have HB1 := Lib.hid TT.out.2.2.2.1.whole
          go_wp2_with (refine wpList_load_mid rfl _ _ rfl q 0 rfl a _ HB1.out Try.underlying34 rfl hra ?_)
          refine (RC.out _).mono ?_
          rintro e wz ⟨rfl, bx⟩
          have TT := Lib.hid (TT.out.below bx)
          have TH1 : Hid (wz.there q 0 a2.toArray.size) := Lib.hid (TT.out.2.2.2.1.thereT (by rw [HA.out.1, HA2.out.2.1]; omega))
          clear bx HB1 x0 x1 x2 x3
          go_upto_region 13 with (refine wpList_store_mid rfl _ _ _ rfl q 0 a2.toArray rfl rfl TH1.out hu2 HA2.out.2.2 ?_)
          obtain ⟨wy2, hwy⟩ : ∃ wy, wy = wz.setCells q 0 a2.toArray.toList := ⟨_, rfl⟩
          have TT : Hid (TS w wy2 w.heap.size q a2 a2) := Lib.hid (by rw [hwy]; exact TT.out.putQ (by rw [HA.out.1, HA2.out.1]))
          refine wp_worldT hwy ?_
          clear hwy TH1
          have TT : Hid (TS w wy2.drew w.heap.size q a2 a2) := Lib.hid TT.out.drew
          refine wp_region_noPanic ?_
          refine wp_region_held_drew (S := fun w' => w'.rangeAt w.heap.size 0 a2 ∧ w'.rangeAt q 0 a2) (by kernel_rfl) ?_ (fun hHeld => ?_)
          · exact ⟨TT.out.2.2.1.whole, TT.out.2.2.2.1.whole⟩
          refine wpAnyH_take (i := 0) (oi := st13o0) (v := ?_) rfl (by kernel_rfl) (by kernel_rfl) (by kernel_rfl) (fun _ _ _ h => h) (Or.inl ⟨by rfl, ?_⟩) (by assumption) ?_
          rotate_left
          · (intro w hSw; (try dsimp only at hSw); (try dsimp only [st13o0]); go_simp; try (with_reducible rfl))
          (try simp only [Act.put, List.setIfInBounds_toArray, List.set_cons_zero, List.set_cons_succ])
          refine wpAnyH_take (i := 1) (oi := st13o1) (v := ?_) rfl (by kernel_rfl) (by kernel_rfl) (by kernel_rfl) (fun _ _ _ h => h) (Or.inl ⟨by rfl, ?_⟩) (by assumption) ?_
          rotate_left
          · (intro w hSw; (try dsimp only at hSw); (try dsimp only [st13o1]); go_simp; try (with_reducible rfl))
          (try simp only [Act.put, List.setIfInBounds_toArray, List.set_cons_zero, List.set_cons_succ])
          refine wpAnyH_take (i := 2) (oi := st13o2) (v := ?_) rfl (by kernel_rfl) (by kernel_rfl) (by kernel_rfl) (fun _ _ _ h => h) (Or.inl ⟨by rfl, ?_⟩) (by assumption) ?_
          rotate_left
          · (intro w hSw; (try dsimp only at hSw); (try dsimp only [st13o2]); go_simp; try (with_reducible rfl))
          (try simp only [Act.put, List.setIfInBounds_toArray, List.set_cons_zero, List.set_cons_succ])
          refine wpAnyH_take (i := 3) (oi := st13o3) (v := ?_) rfl (by kernel_rfl) (by kernel_rfl) (by kernel_rfl) (fun _ _ _ h => h) (Or.inl ⟨by rfl, ?_⟩) (by assumption) ?_
          rotate_left
          · (intro w hSw; (try dsimp only at hSw); (try dsimp only [st13o3]); go_simp; try (with_reducible rfl))
          (try simp only [Act.put, List.setIfInBounds_toArray, List.set_cons_zero, List.set_cons_succ])
          refine wpAnyH_take (i := 4) (oi := st13o4) (v := _) rfl (by kernel_rfl) (by kernel_rfl) (by kernel_rfl) (fun _ _ _ h => h) (yieldsIf_load_mid ?_ 28 _ rfl w.heap.size 0 rfl a2 _ (fun _ (h : _ ∧ _) => h.1) Try.underlying28 rfl hs2) (by assumption) ?_
          · rfl
          (try simp only [Act.put, List.setIfInBounds_toArray, List.set_cons_zero, List.set_cons_succ])
          refine wpAnyH_take (i := 6) (oi := st13o6) (v := _) rfl (by kernel_rfl) (by kernel_rfl) (by kernel_rfl) (fun _ _ _ h => h) (yieldsIf_load_mid ?_ 34 _ rfl q 0 rfl a2 _ (fun _ (h : _ ∧ _) => h.2) Try.underlying34 rfl hr2) (by assumption) ?_
          · rfl
          (try simp only [Act.put, List.setIfInBounds_toArray, List.set_cons_zero, List.set_cons_succ])
          refine wpAnyH_ready (rs := [5]) (by kernel_rfl) (by simp) ?_
          refine AllReadyH.cons (o := st13o5) rfl (fun K hK => ?_) AllReadyH.nil
          dsimp only [st13o5]
          go_simp
          refine (OF2.out _).mono ?_
          rintro e wx ⟨rfl, bx⟩
          have TT := Lib.hid (TT.out.below bx)
          clear bx
          (try go_wp2_with fail)
          refine hK.out _ _ ?_ (fun hHeld => ?_)
          · exact ⟨TT.out.2.2.1.whole, TT.out.2.2.2.1.whole⟩
          clear hK K
          (try simp only [Act.put, List.setIfInBounds_toArray, List.set_cons_zero, List.set_cons_succ])
          refine wpAnyH_take (i := 7) (oi := st13o7) (v := _) rfl (by kernel_rfl) (by kernel_rfl) (by kernel_rfl) (fun _ _ _ h => h) (yieldsIf_binT ?_ .neq 34 34 _ _ rfl a2.toArray a2.toArray rfl rfl guardRT (.bool false) NEQ.out) (by assumption) ?_
          · rfl
          (try simp only [Act.put, List.setIfInBounds_toArray, List.set_cons_zero, List.set_cons_succ])
          refine wpAnyH_take (i := 8) (oi := st13o8) (v := ?_) rfl (by kernel_rfl) (by kernel_rfl) (by kernel_rfl) (fun _ _ _ h => h) (Or.inl ⟨by rfl, ?_⟩) (by assumption) ?_
          rotate_left
          · (intro w hSw; (try dsimp only at hSw); (try dsimp only [st13o8]); go_simp; try (with_reducible rfl))
          (try simp only [Act.put, List.setIfInBounds_toArray, List.set_cons_zero, List.set_cons_succ])
          refine wpAnyH_done (by kernel_rfl) ?_ _
          refine NoPanic.normal ?_
          go_wp2_with fail
          go_roundw
          case rel => exact ⟨k + 1, f2, L2, by go_num, by omega, HF2.out, by have := TT; rw [HA2E.out] at this; exact this⟩
          case measure => simp [intOf]; omega
      · obtain rfl : k = n := by omega
        have hdec : decide ((k : Int) < (k : Int)) = false := decide_eq_false (by omega)
        go_wp2_with fail
        refine (AW.out _).mono ?_
        rintro e w5 ⟨rfl, b5⟩
        have B5 := Lib.hid (TT.out.2.2.2.2.trans (b5.mono TT.out.2.2.2.2.size))
        clear b5
        go_wp2_with fail
        go_ret
        exact ⟨rfl, B5.out⟩

end Go.Proofs.Ythoahengdajpcaa
