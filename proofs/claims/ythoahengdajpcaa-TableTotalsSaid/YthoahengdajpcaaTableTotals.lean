/- TableTotals: what tables that are made from the zero one have; the walk. Written by wip/tools/gen_tabtotals.py. -/
import Derived.Test.YthoahengdajpcaaTabS
namespace Go.Proofs.Ythoahengdajpcaa
open Go.RowKit
set_option maxRecDepth 100000

abbrev tt22o0 : Oper := { dst := some 59, op := Op.move (Operand.tmp 12), type := 3, pos := "law.go:99", after := #[], guard := none }
abbrev tt22o1 : Oper := { dst := some 60, op := Op.indexAddr 24 (Operand.tmp 9) (Operand.tmp 59), type := 0, pos := "law.go:99", after := #[{ on := 0, ground := Ground.data }], guard := none }
abbrev tt22o2 : Oper := { dst := some 61, op := Op.load 22 (Operand.tmp 60), type := 22, pos := "law.go:99", after := #[{ on := 1, ground := Ground.data }], guard := none }
abbrev tt22o3 : Oper := { dst := some 62, op := Op.move (Operand.tmp 12), type := 3, pos := "law.go:99", after := #[], guard := none }
abbrev tt22o4 : Oper := { dst := some 63, op := Op.indexAddr 24 (Operand.tmp 11) (Operand.tmp 62), type := 0, pos := "law.go:99", after := #[{ on := 3, ground := Ground.data }], guard := none }
abbrev tt22o5 : Oper := { dst := some 64, op := Op.load 22 (Operand.tmp 63), type := 22, pos := "law.go:99", after := #[{ on := 4, ground := Ground.data }], guard := none }
abbrev tt22o6 : Oper := { dst := some 65, op := Op.binOp BinOp.add 22 (Operand.tmp 61) (Operand.tmp 64) 22, type := 22, pos := "law.go:99", after := #[{ on := 2, ground := Ground.data }, { on := 5, ground := Ground.data }], guard := none }
abbrev tt22o7 : Oper := { dst := some 66, op := Op.indexAddr 24 (Operand.tmp 9) (Operand.tmp 59), type := 0, pos := "law.go:99", after := #[{ on := 0, ground := Ground.data }, { on := 0, ground := Ground.phase }, { on := 1, ground := Ground.phase }, { on := 2, ground := Ground.phase }, { on := 3, ground := Ground.phase }, { on := 4, ground := Ground.phase }, { on := 5, ground := Ground.phase }, { on := 6, ground := Ground.phase }], guard := none }
abbrev tt22o8 : Oper := { dst := none, op := Op.store 22 (Operand.tmp 66) (Operand.tmp 65), type := 0, pos := "law.go:99", after := #[{ on := 7, ground := Ground.data }, { on := 6, ground := Ground.data }, { on := 0, ground := Ground.phase }, { on := 1, ground := Ground.phase }, { on := 2, ground := Ground.phase }, { on := 3, ground := Ground.phase }, { on := 4, ground := Ground.phase }, { on := 5, ground := Ground.phase }, { on := 6, ground := Ground.phase }], guard := none }

/-- The sum of a class's counts over the first n contacts. -/
def colN (f : Nat → Nat) (k : Nat) : Nat → Nat
  | 0 => 0
  | n + 1 => colN f k n + f (8 * (n + 1) + k)
theorem colN_mono (f : Nat → Nat) (k m n : Nat) (h : m ≤ n) : colN f k m ≤ colN f k n := by
  induction n with
  | zero => obtain rfl : m = 0 := by omega
            exact Nat.le_refl _
  | succ n ih =>
    rcases Nat.lt_or_ge m (n + 1) with h1 | h1
    · exact Nat.le_trans (ih (by omega)) (Nat.le_add_right _ _)
    · obtain rfl : m = n + 1 := by omega
      exact Nat.le_refl _
/-- The row of all is the sum of the contacts' rows. -/
def TotP (f : Nat → Nat) : Prop := ∀ k, k < 8 → colN f k 16 = f k
def used (f : Nat → Nat) (a b : Nat) : Nat → Nat := upd (upd f (8 * (a + 1) + b) (f (8 * (a + 1) + b) + 1)) b (f b + 1)
theorem used_row (f : Nat → Nat) (a b k : Nat) (hb : b < 8) (hk : k < 8) : used f a b k = f k + if k = b then 1 else 0 := by
  unfold used upd
  by_cases h : k = b
  · subst h; rw [if_pos rfl, if_pos rfl]
  · rw [if_neg h, if_neg (by omega), if_neg h]; rfl
theorem used_col (f : Nat → Nat) (a b k n : Nat) (hb : b < 8) (hk : k < 8) : used f a b (8 * (n + 1) + k) = f (8 * (n + 1) + k) + if k = b ∧ n = a then 1 else 0 := by
  unfold used upd
  rw [if_neg (by omega)]
  by_cases h : k = b ∧ n = a
  · obtain ⟨rfl, rfl⟩ := h
    rw [if_pos rfl, if_pos ⟨rfl, rfl⟩]
  · rw [if_neg (by omega), if_neg h]; rfl
theorem used_colN (f : Nat → Nat) (a b k : Nat) (hb : b < 8) (hk : k < 8) (n : Nat) : colN (used f a b) k n = colN f k n + if k = b ∧ a < n then 1 else 0 := by
  induction n with
  | zero => rw [if_neg (by omega)]; rfl
  | succ n ih =>
    show colN (used f a b) k n + used f a b (8 * (n + 1) + k) = colN f k n + f (8 * (n + 1) + k) + _
    rw [ih, used_col f a b k n hb hk]
    by_cases h1 : k = b ∧ a < n
    · rw [if_pos h1, if_neg (by omega), if_pos (by omega)]; omega
    · rw [if_neg h1]
      by_cases h2 : k = b ∧ n = a
      · rw [if_pos h2, if_pos (by omega)]; omega
      · rw [if_neg h2, if_neg (by omega)]; omega
theorem used_sumN (f : Nat → Nat) (a b : Nat) (hb : b < 8) (m : Nat) (hm : m ≤ 8) : sumN (rowOf (used f a b) 0) m = sumN (rowOf f 0) m + if b < m then 1 else 0 := by
  induction m with
  | zero => rfl
  | succ m ih =>
    show sumN (rowOf (used f a b) 0) m + used f a b (8 * 0 + m) = sumN (rowOf f 0) m + f (8 * 0 + m) + _
    rw [ih (by omega), show 8 * 0 + m = m from by omega, used_row f a b m hb (by omega)]
    by_cases h1 : b < m
    · rw [if_pos h1, if_neg (by omega), if_pos (by omega)]; omega
    · rw [if_neg h1]
      by_cases h2 : m = b
      · rw [if_pos h2, if_pos (by omega)]; omega
      · rw [if_neg h2, if_neg (by omega)]; omega
theorem used_ge (f : Nat → Nat) (a b j : Nat) : f j ≤ used f a b j := by
  unfold used upd
  split
  · rename_i h; subst h; omega
  · split
    · rename_i h; subst h; omega
    · exact Nat.le_refl _
theorem add_facts (f : Nat → Nat) (c k : Int) (h : TotP f) : TotP (addT f c k).1 ∧ CovT (addT f c k).1 f 17 ∧ ((addT f c k).2 = 0 → sumN (rowOf (addT f c k).1 0) 8 = sumN (rowOf f 0) 8 + 1) ∧ ((addT f c k).2 ≠ 0 → (addT f c k).1 = f) := by
  refine addT_cases f c k (fun r => TotP r.1 ∧ CovT r.1 f 17 ∧ (r.2 = 0 → sumN (rowOf r.1 0) 8 = sumN (rowOf f 0) 8 + 1) ∧ (r.2 ≠ 0 → r.1 = f)) ?_ ?_ ?_ ?_
  · intro _; exact ⟨h, fun _ _ _ _ => Nat.le_refl _, fun e => (by cases e), fun _ => rfl⟩
  · intro _ _; exact ⟨h, fun _ _ _ _ => Nat.le_refl _, fun e => (by cases e), fun _ => rfl⟩
  · intro _ _ _ _ _ _ _; exact ⟨h, fun _ _ _ _ => Nat.le_refl _, fun e => (by cases e), fun _ => rfl⟩
  · intro a b ha hb _ _ _ _
    refine ⟨fun q hq => ?_, (CovT.iff _ _).2 fun j _ => used_ge f a b j, fun _ => ?_, fun e => absurd rfl e⟩
    · show colN (used f a b) q 16 = used f a b q
      rw [used_colN f a b q hb hq 16, used_row f a b q hb hq, h q hq]
      by_cases h1 : q = b
      · rw [if_pos ⟨h1, ha⟩, if_pos h1]
      · rw [if_neg (by omega), if_neg h1]
    · show sumN (rowOf (used f a b) 0) 8 = _
      rw [used_sumN f a b hb 8 (Nat.le_refl _), if_pos hb]

theorem run_index_rows {R r : List Value} {f : Nat → Nat} (c : Nat) (hc : c < 16) (hR : R = fcs (fun j => f (8 + j)) 128) (hr : r = fcs (rowOf f (c + 1)) 8) (W : World) :
    (Instr.index 25 (.agg R.toArray) (.int .i64 (c : Int))).run Try.prog W = .ok (.agg r.toArray) W := by
  have h1 : (0 : Int) ≤ (c : Int) ∧ (c : Int) < ((16 : Nat) : Int) := by omega
  have hp := run_part_arr (P := Try.prog) W Try.underlying24 sizeTRow R.toArray (c * 8)
  have he : R.toArray.extract (c * 8) (c * 8 + 8) = r.toArray := by
    apply Array.ext_getElem?
    intro j
    rw [Array.getElem?_extract, List.size_toArray, hR, fcs_len, hr, List.getElem?_toArray, List.getElem?_toArray]
    by_cases hj : j < 8
    · rw [if_pos (by omega), fcs_get _ 128 _ (by omega), fcs_get _ 8 j hj]
      unfold rowOf
      rw [show 8 + (c * 8 + j) = 8 * (c + 1) + j from by omega]
    · rw [if_neg (by omega), fcs_none _ 8 j (by omega)]
  rw [he] at hp
  simp [Instr.index, asIntOf, run_underlying Try.underlying25, hc, hp]

set_option maxHeartbeats 32000000 in
theorem tableTotals_walk (A : Option Addr) (n c : Nat) (l : Nat → StepT) (w : World) (h : Stp w A n l) (hn : n ≤ c) (hc : c ≤ maxLen) :
    Calls Try.prog 6 #[.slice A n c] w fun e w' => e = .returned (.bool true) ∧ Below w.heap.size w w' := by
  have AW := Lib.hid (fun W => tab_Awake W)
  by_cases h100 : 100 < n
  · have d1 : decide ((100 : Int) < (n : Int)) = true := decide_eq_true (by omega)
    clear h100 h
    go_enter Try.func6, Try.ntmps6
    go_wp2_with fail
    refine (AW.out _).mono ?_
    rintro e w1 ⟨rfl, b1⟩
    have B1 := Lib.hid b1
    clear b1
    go_wp2_with fail
    go_ret
    exact ⟨rfl, B1.out⟩
  · have d1 : decide ((100 : Int) < (n : Int)) = false := decide_eq_false (by omega)
    have hn100 : n ≤ 100 := by omega
    have hz := zeroTab
    obtain ⟨Z, hZ⟩ : ∃ Z, Z = tcs (fun _ => 0) 0 := ⟨_, rfl⟩
    have HZE := Lib.hid hZ
    have HZL : Hid (Z.length = 137) := Lib.hid (by rw [hZ]; exact tcs_len _ _)
    rw [← hZ] at hz
    clear hZ h100
    have B0 : Hid (Blk (w.alloc (.cells Z.toArray 28)) w.heap.size 28 (tcs (fun _ => 0) 0) ∧ Below w.heap.size w (w.alloc (.cells Z.toArray 28))) := Lib.hid ⟨by rw [← HZE.out]; exact heap_alloc_new w _, (Below.refl _ _).alloc (Nat.le_refl _) _⟩
    have HST := Lib.hid h
    clear h
    go_enter Try.func6, Try.ntmps6
    go_wp2_with fail
    go_loopw [4, 19] (fun nv iv wr => ∃ (k m : Nat) (f1 : Nat → Nat), nv = .int .u64 (m : Int) ∧ iv = .int .i64 (k : Int) ∧ k ≤ n ∧ m ≤ k ∧ Fits f1 ∧ Hid (TotP f1 ∧ sumN (rowOf f1 0) 8 = m) ∧ Hid (Blk wr w.heap.size 28 (tcs f1 0) ∧ Below w.heap.size w wr)) (fun _ iv _ => n - (intOf iv).toNat)
    case atStart => exact ⟨0, 0, fun _ => 0, rfl, rfl, Nat.zero_le _, Nat.le_refl _, Fits.zero, Lib.hid ⟨fun k _ => rfl, rfl⟩, B0⟩
    case round =>
      obtain ⟨k, m, f1, rfl, rfl, hk, hm, hf1, HT, TT⟩ := hrel
      by_cases hlt : k < n
      · have hdec : decide ((k : Int) < (n : Int)) = true := decide_eq_true (by omega)
        have hw1 : IntKind.i64.wrap ((k : Int) + 1) = ((k + 1 : Nat) : Int) := by rw [IntWalk.i64_in _ (by omega)]; omega
        have hw2 : IntKind.u64.wrap ((m : Int) + 1) = ((m + 1 : Nat) : Int) := by rw [IntWalk.u64_in _ (by omega)]; omega
        have HS2 := Lib.hid (HST.out.keep TT.out.2)
        obtain ⟨b0, o0, hA, hcell⟩ := HS2.out (by omega)
        subst hA
        have y0 := hcell k hlt 0 _ rfl
        have y1 := hcell k hlt 1 _ rfl
        have y2 := hcell k hlt 2 _ rfl
        have y3 := hcell k hlt 3 _ rfl
        obtain ⟨xx, hxx⟩ : ∃ xx, xx = l k := ⟨_, rfl⟩
        rw [← hxx] at y0 y1 y2 y3
        clear hcell hxx
        obtain ⟨xc, xk, xr, xs⟩ := xx
        dsimp only at y0 y1 y2 y3
        simp only [Nat.add_zero] at y0
        have NN : Hid (k < n ∧ m ≤ k) := Lib.hid ⟨hlt, hm⟩
        have PA := Lib.hid (fun W => tab_Add f1 0 xc xk W hf1)
        obtain ⟨q1, q2, q3, q4⟩ := add_facts f1 xc xk HT.out.1
        have HF1 := Lib.hid hf1
        have CV := Lib.hid (fun W => tab_Covers (addT f1 xc xk).1 f1 0 0 W)
        rw [decide_eq_true q2] at CV
        have Q1 := Lib.hid q1
        have Q3 := Lib.hid q3
        have Q4 := Lib.hid q4
        have HF2 : Hid (Fits (addT f1 xc xk).1) := Lib.hid (addT_fits hf1 _ _)
        have NEQ : Hid ((addT f1 xc xk).2 ≠ 0 → ∀ W, (binOp .neq 28 (.agg (tcs (addT f1 xc xk).1 0).toArray) (.agg (tcs f1 0).toArray)).run Try.prog W = .ok (.bool false) W) := Lib.hid (fun h W => by
          rw [q4 h]
          exact (binT .neq f1 f1 0 0 true ⟨fun _ => ⟨fun _ _ => rfl, rfl⟩, fun _ => rfl⟩ W).2 rfl)
        clear q1 q2 q3 q4
        obtain ⟨f2, hf2⟩ : ∃ f2, f2 = (addT f1 xc xk).1 := ⟨_, rfl⟩
        obtain ⟨ec, hec⟩ : ∃ ec, ec = (addT f1 xc xk).2 := ⟨_, rfl⟩
        rw [← hf2, ← hec] at PA
        rw [← hf2] at CV Q1 HF2
        rw [← hf2, ← hec] at Q3 Q4 NEQ
        have hal : (tcs f1 0).length = 137 := tcs_len _ _
        have h2l : (tcs f2 0).length = 137 := tcs_len _ _
        have h2o : (tcs f2 0).toArray.all (·.oneCell') = true := all_oneCell_toArray (tcs_one _ _)
        obtain ⟨a, ha⟩ : ∃ a, a = tcs f1 0 := ⟨_, rfl⟩
        obtain ⟨a2, ha2⟩ : ∃ a2, a2 = tcs f2 0 := ⟨_, rfl⟩
        have HA2E := Lib.hid ha2
        rw [← ha] at TT PA CV NEQ hal
        rw [← ha2] at PA CV NEQ h2l h2o
        clear ha ha2 hf2 hec
        have HA : Hid (a.length = 137) := Lib.hid hal
        have HA2 : Hid (a2.length = 137 ∧ a2.toArray.size = 137) := Lib.hid ⟨h2l, by rw [List.size_toArray]; exact h2l⟩
        have hsa : (Try.prog.info? 28).map (·.size) = some a.length := by rw [hal]; exact sizeTab
        have hs2 : (Try.prog.info? 28).map (·.size) = some a2.length := by rw [h2l]; exact sizeTab
        have ht2 : (Try.prog.info? 28).map (·.size) = some a2.toArray.size := by rw [List.size_toArray, h2l]; exact sizeTab
        obtain ⟨b7, hb7⟩ : ∃ b, b = wr.heap.size := ⟨_, rfl⟩
        obtain ⟨V0, hV0⟩ : ∃ V0, V0 = wr.alloc (.cells #[.int .i64 xc, .int .i64 xk, .int .u64 (xr : Int), .bool xs] 37) := ⟨_, rfl⟩
        have bl0 : Below wr.heap.size wr V0 := by rw [hV0]; exact (Below.refl _ _).alloc (Nat.le_refl _) _
        have SB : Hid (Blk V0 b7 37 [.int .i64 xc, .int .i64 xk, .int .u64 (xr : Int), .bool xs]) := Lib.hid (by rw [hV0, hb7]; exact heap_alloc_new wr _)
        have TT : Hid (Blk V0 w.heap.size 28 a ∧ Below w.heap.size w V0) := Lib.hid ⟨TT.out.1.keep bl0, TT.out.2.trans (bl0.mono TT.out.2.size)⟩
        have x0 := SB.out.cell 0
        have x1 := SB.out.cell 1
        have x2 := SB.out.cell 2
        have x3 := SB.out.cell 3
        dsimp only [List.getElem?_cons_zero, List.getElem?_cons_succ] at x0 x1 x2 x3
        clear bl0 hal h2l hf1 hm SB
        go_upto_region 8 with fail
        rw [← hb7]
        refine wp_worldT hV0 ?_
        clear hV0 hb7 y0 y1 y2 y3 HS2
        have HB1 := Lib.hid TT.out.1.whole
        go_wp2_with (refine wpList_load_mid rfl _ _ rfl w.heap.size 0 rfl a _ HB1.out Try.underlying28 rfl hsa ?_)
        refine (PA.out _).mono ?_
        rintro e wx ⟨rfl, bx⟩
        have TT : Hid (Blk wx w.heap.size 28 a ∧ Below w.heap.size w wx) := Lib.hid ⟨TT.out.1.keep bx, TT.out.2.trans (bx.mono TT.out.2.size)⟩
        have TH1 : Hid ((wx.alloc (.cells Z.toArray 28)).there wx.heap.size 0 a2.toArray.size) := Lib.hid ((show Blk _ _ _ _ from heap_alloc_new wx (.cells Z.toArray 28)).thereT (by rw [HZL.out, HA2.out.2]; omega))
        have E1 : Hid ((wx.alloc (.cells Z.toArray 28)).setCells wx.heap.size 0 a2.toArray.toList = wx.alloc (.cells a2.toArray 28)) := Lib.hid (alloc_setCells wx _ Z a2 (by rw [HA2.out.1, HZL.out]))
        clear bx HB1 x0 x1 x2 x3
        go_upto_region 9 with (refine wpList_store_mid rfl _ _ _ rfl wx.heap.size 0 a2.toArray rfl rfl TH1.out ht2 h2o ?_)
        refine wp_worldT E1.out.symm ?_
        obtain ⟨b8, hb8⟩ : ∃ b, b = wx.heap.size := ⟨_, rfl⟩
        obtain ⟨V1, hV1⟩ : ∃ V1, V1 = wx.alloc (.cells a2.toArray 28) := ⟨_, rfl⟩
        have TT : Hid (Blk V1 w.heap.size 28 a ∧ Below w.heap.size w V1) := Lib.hid (by rw [hV1]; exact ⟨TT.out.1.alloc _, TT.out.2.alloc TT.out.2.size _⟩)
        have UB : Hid (Blk V1 b8 28 a2) := Lib.hid (by rw [hV1, hb8]; exact heap_alloc_new wx _)
        rw [← hb8]
        refine wp_worldT hV1 ?_
        clear hV1 hb8 TH1 E1
        have HB1 := Lib.hid TT.out.1.whole
        have HB2 := Lib.hid UB.out.whole
        go_wp2_with (first
          | (refine wpList_load_mid rfl _ _ rfl b8 0 rfl a2 _ HB2.out Try.underlying28 rfl hs2 ?_)
          | (refine wpList_load_mid rfl _ _ rfl w.heap.size 0 rfl a _ HB1.out Try.underlying28 rfl hsa ?_))
        refine (CV.out _).mono ?_
        rintro e wy ⟨rfl, bx⟩
        have TT : Hid (Blk wy w.heap.size 28 a ∧ Below w.heap.size w wy) := Lib.hid ⟨TT.out.1.keep bx, TT.out.2.trans (bx.mono TT.out.2.size)⟩
        have UB := Lib.hid (UB.out.keep bx)
        have HB1 := Lib.hid TT.out.1.whole
        have HB2 := Lib.hid UB.out.whole
        have TH2 : Hid (wy.there w.heap.size 0 a2.toArray.size) := Lib.hid (TT.out.1.thereT (by rw [HA.out, HA2.out.2]; omega))
        have FIN : Hid (Blk (wy.setCells w.heap.size 0 a2.toArray.toList) w.heap.size 28 (tcs f2 0) ∧ Below w.heap.size w (wy.setCells w.heap.size 0 a2.toArray.toList)) := Lib.hid ⟨by rw [← HA2E.out]; exact TT.out.1.setWhole a2 (by rw [HA2.out.1, HA.out]), Below.setCellsT TT.out.2 (Nat.le_refl _) _ _⟩
        clear bx
        by_cases h0 : ec = 0
        · subst h0
          have S2 : Hid (sumN (rowOf f2 0) 8 = m + 1) := Lib.hid (by rw [Q3.out rfl, HT.out.2])
          go_wp2_with (first
            | (refine wpList_load_mid rfl _ _ rfl b8 0 rfl a2 _ HB2.out Try.underlying28 rfl hs2 ?_)
            | (refine wpList_store_mid rfl _ _ _ rfl w.heap.size 0 a2.toArray rfl rfl TH2.out ht2 h2o ?_))
          go_roundw
          case rel => exact ⟨k + 1, m + 1, f2, by go_num, by go_num, by omega, by have := NN.out; omega, HF2.out, Lib.hid ⟨Q1.out, S2.out⟩, FIN⟩
          case measure => simp [intOf]; omega
        · have e1 : ((ec : Int) != 0) = true := by rw [bne_iff_ne]; omega
          have e2 : ((ec : Int) == 0) = false := by rw [beq_eq_false_iff_ne]; omega
          have S2 : Hid (sumN (rowOf f2 0) 8 = m) := Lib.hid (by rw [Q4.out h0, HT.out.2])
          have NQ := Lib.hid (NEQ.out h0)
          clear h0
          go_wp2_with (first
            | (refine wpList_load_midG (by rfl) _ _ rfl b8 0 rfl a2 _ HB2.out Try.underlying28 rfl hs2 ?_)
            | (refine wpList_load_midG (by rfl) _ _ rfl w.heap.size 0 rfl a _ HB1.out Try.underlying28 rfl hsa ?_)
            | (refine wpList_bin_isG (by rfl) .neq 28 28 _ _ rfl a2.toArray a.toArray rfl rfl guardT (.bool false) (NQ.out _) ?_)
            | (refine wpList_store_mid rfl _ _ _ rfl w.heap.size 0 a2.toArray rfl rfl TH2.out ht2 h2o ?_))
          go_roundw
          case rel => exact ⟨k + 1, m, f2, rfl, by go_num, by omega, by have := NN.out; omega, HF2.out, Lib.hid ⟨Q1.out, S2.out⟩, FIN⟩
          case measure => simp [intOf]; omega
      · obtain rfl : k = n := by omega
        have hdec : decide ((k : Int) < (k : Int)) = false := decide_eq_false (by omega)
        have hdn : m ≤ 100 := by omega
        have SMC := Lib.hid (fun W => tab_Sum (rowOf f1 0) W (hf1.row 0))
        rw [HT.out.2] at SMC
        have HF1 := Lib.hid hf1
        clear hf1
        obtain ⟨R, hR⟩ : ∃ R, R = fcs (fun j => f1 (8 + j)) 128 := ⟨_, rfl⟩
        have HR := Lib.hid hR
        have RR : Hid ((wr.alloc (.cells (fcs (fun _ => 0) 8).toArray 24)).rangeAt w.heap.size 8 R) := Lib.hid (by rw [hR]; exact (TT.out.1.alloc _).rowsAt)
        have hsR : (Try.prog.info? 25).map (·.size) = some R.length := by rw [hR, fcs_len]; exact size16
        clear hR
        obtain ⟨s, hs⟩ : ∃ s, s = fcs (rowOf f1 0) 8 := ⟨_, rfl⟩
        have HSE := Lib.hid hs
        rw [← hs] at SMC
        have hss : (Try.prog.info? 24).map (·.size) = some s.length := by rw [hs, fcs_len]; exact sizeTRow
        have EQR := Lib.hid (fun W => binR (rowOf f1 0) (rowOf f1 0) true ⟨fun _ _ _ => rfl, fun _ => rfl⟩ W)
        rw [← hs] at EQR
        clear hs
        obtain ⟨a, ha⟩ : ∃ a, a = tcs f1 0 := ⟨_, rfl⟩
        have HAE := Lib.hid ha
        rw [← ha] at TT
        clear ha
        obtain ⟨b9, hb9⟩ : ∃ b, b = wr.heap.size := ⟨_, rfl⟩
        obtain ⟨V2, hV2⟩ : ∃ V, V = wr.alloc (.cells (fcs (fun _ => 0) 8).toArray 24) := ⟨_, rfl⟩
        have hV3 : V2 = wr.alloc (.cells #[.int .u32 0, .int .u32 0, .int .u32 0, .int .u32 0, .int .u32 0, .int .u32 0, .int .u32 0, .int .u32 0] 24) := hV2
        have KT : Hid (Blk V2 w.heap.size 28 a ∧ Blk V2 b9 24 (fcs (fun j => colN f1 j 0) 8) ∧ Below w.heap.size w V2) := Lib.hid (by
          rw [hV2, hb9]
          exact ⟨TT.out.1.alloc _, heap_alloc_new wr _, TT.out.2.alloc TT.out.2.size _⟩)
        have N9 : Hid (w.heap.size < b9) := Lib.hid (by rw [hb9]; exact TT.out.1.lt)
        rw [← hV2] at RR
        clear hV2
        go_upto_region 16 with fail
        rw [← hb9]
        refine wp_worldT hV3 ?_
        clear hV3 hb9 hdec
        go_wp2_with (refine wpList_load_mid rfl _ _ rfl w.heap.size 8 rfl R _ RR.out Try.underlying25 rfl hsR ?_)
        go_loopw [53] (fun iv wr => ∃ c : Nat, iv = .int .i64 (c : Int) ∧ c ≤ 16 ∧ Hid (Blk wr w.heap.size 28 a ∧ Blk wr b9 24 (fcs (fun j => colN f1 j c) 8) ∧ Below w.heap.size w wr)) (fun iv _ => 16 - (intOf iv).toNat)
        case atStart => exact ⟨0, rfl, Nat.zero_le _, KT⟩
        case round =>
          obtain ⟨c, rfl, hc16, KT⟩ := hrel
          by_cases hlt : c < 16
          · have hdec : decide ((c : Int) < 16) = true := decide_eq_true (by omega)
            have hw1 : IntKind.i64.wrap ((c : Int) + 1) = ((c + 1 : Nat) : Int) := by rw [IntWalk.i64_in _ (by omega)]; omega
            obtain ⟨r, hr⟩ : ∃ r, r = fcs (rowOf f1 (c + 1)) 8 := ⟨_, rfl⟩
            have ix : ∀ W, (Instr.index 25 (.agg R.toArray) (.int .i64 (c : Int))).run Try.prog W = .ok (.agg r.toArray) W := fun W => run_index_rows c hlt HR.out hr W
            have hrl : r.length = 8 := by rw [hr]; exact fcs_len _ _
            have hro : r.toArray.all (·.oneCell') = true := all_oneCell_toArray (by rw [hr]; exact fcs_one _ _)
            have hrs : (Try.prog.info? 24).map (·.size) = some r.toArray.size := by rw [List.size_toArray, hrl]; exact sizeTRow
            have TH3 : Hid ((wr.alloc (.cells #[.int .u32 0, .int .u32 0, .int .u32 0, .int .u32 0, .int .u32 0, .int .u32 0, .int .u32 0, .int .u32 0] 24)).there wr.heap.size 0 r.toArray.size) := Lib.hid ((show Blk _ _ _ (fcs (fun _ => 0) 8) from heap_alloc_new wr (.cells (fcs (fun _ => 0) 8).toArray 24)).thereT (by rw [fcs_len, show r.toArray.size = 8 by rw [List.size_toArray, hrl]]; omega))
            have E3 : Hid ((wr.alloc (.cells #[.int .u32 0, .int .u32 0, .int .u32 0, .int .u32 0, .int .u32 0, .int .u32 0, .int .u32 0, .int .u32 0] 24)).setCells wr.heap.size 0 r.toArray.toList = wr.alloc (.cells r.toArray 24)) := Lib.hid (alloc_setCells wr 24 (fcs (fun _ => 0) 8) r (by rw [hrl, fcs_len]))
            have HRE := Lib.hid hr
            clear hr hrl
            go_upto_region 19 with (refine wpList_store_mid rfl _ _ _ rfl wr.heap.size 0 r.toArray rfl rfl TH3.out hrs hro ?_)
            refine wp_worldT E3.out.symm ?_
            obtain ⟨b11, hb11⟩ : ∃ b, b = wr.heap.size := ⟨_, rfl⟩
            obtain ⟨V3, hV3⟩ : ∃ V, V = wr.alloc (.cells r.toArray 24) := ⟨_, rfl⟩
            have N11 : Hid (b9 < b11) := Lib.hid (by rw [hb11]; exact KT.out.2.1.lt)
            have LT : Hid (Blk V3 w.heap.size 28 a ∧ Blk V3 b9 24 (fcs (fun j => if j < 0 then colN f1 j (c + 1) else colN f1 j c) 8) ∧ Blk V3 b11 24 r ∧ Below w.heap.size w V3) := Lib.hid (by
              rw [hV3, hb11]
              refine ⟨KT.out.1.alloc _, ?_, heap_alloc_new wr _, KT.out.2.2.alloc KT.out.2.2.size _⟩
              rw [show fcs (fun j => if j < 0 then colN f1 j (c + 1) else colN f1 j c) 8 = fcs (fun j => colN f1 j c) 8 from fcs_congr fun j _ => if_neg (by omega)]
              exact KT.out.2.1.alloc _)
            rw [← hb11]
            refine wp_worldT hV3 ?_
            clear hV3 hb11 TH3 E3 ix
            go_wp2_with fail
            go_loopw [56] (fun iv wr => ∃ k : Nat, iv = .int .i64 (k : Int) ∧ k ≤ 8 ∧ Hid (Blk wr w.heap.size 28 a ∧ Blk wr b9 24 (fcs (fun j => if j < k then colN f1 j (c + 1) else colN f1 j c) 8) ∧ Blk wr b11 24 r ∧ Below w.heap.size w wr)) (fun iv _ => 8 - (intOf iv).toNat)
            case atStart => exact ⟨0, rfl, Nat.zero_le _, LT⟩
            case round =>
              obtain ⟨k, rfl, hk8, LT⟩ := hrel
              by_cases hlk : k < 8
              · have hdk : decide ((k : Int) < 8) = true := decide_eq_true (by omega)
                have hki : (k : Int) < 8 := by omega
                have hw3 : IntKind.i64.wrap ((k : Int) + 1) = ((k + 1 : Nat) : Int) := by rw [IntWalk.i64_in _ (by omega)]; omega
                obtain ⟨x, hx⟩ : ∃ x, x = colN f1 k c := ⟨_, rfl⟩
                obtain ⟨y, hy⟩ : ∃ y, y = f1 (8 * (c + 1) + k) := ⟨_, rfl⟩
                have hxy : x + y = colN f1 k (c + 1) := by rw [hx, hy]; rfl
                have hb32 : x + y < 4294967296 := by
                  rw [hxy]
                  have h1 := colN_mono f1 k (c + 1) 16 (by omega)
                  rw [HT.out.1 k hlk] at h1
                  exact Nat.lt_of_le_of_lt h1 (HF1.out k)
                have wxy : IntKind.u32.wrap ((x : Int) + (y : Int)) = ((x + y : Nat) : Int) := by simp [IntKind.wrap, IntKind.bits, IntKind.signed]; omega
                obtain ⟨g0, hg0⟩ : ∃ g, g = fun j => if j < k then colN f1 j (c + 1) else colN f1 j c := ⟨_, rfl⟩
                rw [← hg0] at LT
                have KT : Hid (Blk wr.drew w.heap.size 28 a ∧ Blk wr.drew b9 24 (fcs g0 8) ∧ Blk wr.drew b11 24 r ∧ Below w.heap.size w wr.drew) := Lib.hid ⟨LT.out.1, LT.out.2.1, LT.out.2.2.1, LT.out.2.2.2.drew⟩
                have CX : Hid (wr.drew.cell? ⟨b9, k, none⟩ = some (.int .u32 (x : Int))) := Lib.hid (by rw [KT.out.2.1.cell, fcs_get _ 8 k hlk, hg0, hx]; dsimp only; rw [if_neg (by omega)])
                have CY : Hid (wr.drew.cell? ⟨b11, k, none⟩ = some (.int .u32 (y : Int))) := Lib.hid (by rw [KT.out.2.2.1.cell, HRE.out, fcs_get _ 8 k hlk, hy]; rfl)
                have LT2 : Hid (Blk (wr.drew.setCell ⟨b9, k, none⟩ (.int .u32 ((x + y : Nat) : Int))) w.heap.size 28 a ∧ Blk (wr.drew.setCell ⟨b9, k, none⟩ (.int .u32 ((x + y : Nat) : Int))) b9 24 (fcs (fun j => if j < k + 1 then colN f1 j (c + 1) else colN f1 j c) 8) ∧ Blk (wr.drew.setCell ⟨b9, k, none⟩ (.int .u32 ((x + y : Nat) : Int))) b11 24 r ∧ Below w.heap.size w (wr.drew.setCell ⟨b9, k, none⟩ (.int .u32 ((x + y : Nat) : Int)))) := Lib.hid (by
                  refine ⟨KT.out.1.far (p := ⟨b9, k, none⟩) (by have := N9.out; show w.heap.size ≠ b9; omega) _, ?_, KT.out.2.2.1.far (p := ⟨b9, k, none⟩) (by have := N11.out; show b11 ≠ b9; omega) _, KT.out.2.2.2.setCell (p := ⟨b9, k, none⟩) (by have := N9.out; show w.heap.size ≤ b9; omega) _⟩
                  have h1 := KT.out.2.1.set_ k (.int .u32 ((x + y : Nat) : Int))
                  rw [fcs_set g0 8 k (x + y) hlk] at h1
                  rw [show fcs (fun j => if j < k + 1 then colN f1 j (c + 1) else colN f1 j c) 8 = fcs (upd g0 k (x + y)) 8 from fcs_congr fun j _ => by
                    unfold upd
                    rw [hg0, hxy]
                    dsimp only
                    by_cases e : j = k
                    · subst e; rw [if_pos (by omega), if_pos rfl]
                    · rw [if_neg e]
                      by_cases e2 : j < k
                      · rw [if_pos (by omega), if_pos e2]
                      · rw [if_neg (by omega), if_neg e2]]
                  exact h1)
                have CY2 : Hid ((wr.drew.setCell ⟨b9, k, none⟩ (.int .u32 ((x + y : Nat) : Int))).cell? ⟨b11, k, none⟩ = some (.int .u32 (y : Int))) := Lib.hid (by rw [LT2.out.2.2.1.cell, HRE.out, fcs_get _ 8 k hlk, hy]; rfl)
                clear hx hy hxy hb32 hg0 LT
                go_upto_region 22 with fail
                refine wp_region_noPanic ?_
                refine wp_region_held_drew (S := fun w' => w'.cell? ⟨b11, k, none⟩ = some (.int .u32 (y : Int))) (by kernel_rfl) ?_ (fun hHeld => ?_)
                · exact CY.out
                refine wpAnyH_take (i := 0) (oi := tt22o0) (v := ?_) rfl (by kernel_rfl) (by kernel_rfl) (by kernel_rfl) (fun _ _ _ h => h) (Or.inl ⟨by rfl, ?_⟩) (by assumption) ?_
                rotate_left
                · (intro w hSw; (try dsimp only at hSw); (try dsimp only [tt22o0]); go_simp; try (with_reducible rfl))
                (try simp only [Act.put, List.setIfInBounds_toArray, List.set_cons_zero, List.set_cons_succ])
                refine wpAnyH_take (i := 1) (oi := tt22o1) (v := ?_) rfl (by kernel_rfl) (by kernel_rfl) (by kernel_rfl) (fun _ _ _ h => h) (Or.inl ⟨by rfl, ?_⟩) (by assumption) ?_
                rotate_left
                · (intro w hSw; (try dsimp only at hSw); (try dsimp only [tt22o1]); go_simp; try (with_reducible rfl))
                (try simp only [Act.put, List.setIfInBounds_toArray, List.set_cons_zero, List.set_cons_succ])
                refine wpAnyH_take (i := 3) (oi := tt22o3) (v := ?_) rfl (by kernel_rfl) (by kernel_rfl) (by kernel_rfl) (fun _ _ _ h => h) (Or.inl ⟨by rfl, ?_⟩) (by assumption) ?_
                rotate_left
                · (intro w hSw; (try dsimp only at hSw); (try dsimp only [tt22o3]); go_simp; try (with_reducible rfl))
                (try simp only [Act.put, List.setIfInBounds_toArray, List.set_cons_zero, List.set_cons_succ])
                refine wpAnyH_take (i := 4) (oi := tt22o4) (v := ?_) rfl (by kernel_rfl) (by kernel_rfl) (by kernel_rfl) (fun _ _ _ h => h) (Or.inl ⟨by rfl, ?_⟩) (by assumption) ?_
                rotate_left
                · (intro w hSw; (try dsimp only at hSw); (try dsimp only [tt22o4]); go_simp; try (with_reducible rfl))
                (try simp only [Act.put, List.setIfInBounds_toArray, List.set_cons_zero, List.set_cons_succ])
                refine wpAnyH_take (i := 5) (oi := tt22o5) (v := ?_) rfl (by kernel_rfl) (by kernel_rfl) (by kernel_rfl) (fun _ _ _ h => h) (Or.inl ⟨by rfl, ?_⟩) (by assumption) ?_
                rotate_left
                · (intro w hSw; (try dsimp only at hSw); (try dsimp only [tt22o5]); go_simp; try (with_reducible rfl))
                (try simp only [Act.put, List.setIfInBounds_toArray, List.set_cons_zero, List.set_cons_succ])
                refine wpAnyH_ready (rs := [2]) (by kernel_rfl) (by simp) ?_
                refine AllReadyH.cons (o := tt22o2) rfl (fun K hK => ?_) AllReadyH.nil
                rw [if_pos (by rfl)]
                refine wp_load_isT _ _ rfl ⟨b9, k, none⟩ rfl (.int .u32 (x : Int)) (run_load_u32 _ _ _ CX.out) ?_
                refine hK.out _ _ ?_ (fun hHeld => ?_)
                · exact CY.out
                clear hK K
                (try simp only [Act.put, List.setIfInBounds_toArray, List.set_cons_zero, List.set_cons_succ])
                refine wpAnyH_take (i := 6) (oi := tt22o6) (v := ?_) rfl (by kernel_rfl) (by kernel_rfl) (by kernel_rfl) (fun _ _ _ h => h) (Or.inl ⟨by rfl, ?_⟩) (by assumption) ?_
                rotate_left
                · (intro w hSw; (try dsimp only at hSw); (try dsimp only [tt22o6]); go_simp; try (with_reducible rfl))
                (try simp only [Act.put, List.setIfInBounds_toArray, List.set_cons_zero, List.set_cons_succ])
                refine wpAnyH_take (i := 7) (oi := tt22o7) (v := ?_) rfl (by kernel_rfl) (by kernel_rfl) (by kernel_rfl) (fun _ _ _ h => h) (Or.inl ⟨by rfl, ?_⟩) (by assumption) ?_
                rotate_left
                · (intro w hSw; (try dsimp only at hSw); (try dsimp only [tt22o7]); go_simp; try (with_reducible rfl))
                (try simp only [Act.put, List.setIfInBounds_toArray, List.set_cons_zero, List.set_cons_succ])
                refine wpAnyH_ready (rs := [8]) (by kernel_rfl) (by simp) ?_
                refine AllReadyH.cons (o := tt22o8) rfl (fun K hK => ?_) AllReadyH.nil
                rw [if_pos (by rfl)]
                refine wp_store_isT _ _ _ rfl ⟨b9, k, none⟩ rfl (.int .u32 ((x + y : Nat) : Int)) rfl _ (run_store_u32 _ _ _ _ _ CX.out (KT.out.2.1.frozen _)) ?_
                refine hK.out _ _ ?_ (fun hHeld => ?_)
                · exact CY2.out
                clear hK K
                (try simp only [Act.put, List.setIfInBounds_toArray, List.set_cons_zero, List.set_cons_succ])
                refine wpAnyH_done (by kernel_rfl) ?_ _
                refine NoPanic.normal ?_
                go_wp2_with fail
                go_roundw
                case rel => exact ⟨k + 1, by go_num, by omega, LT2⟩
                case measure => simp [intOf]; omega
              · obtain rfl : k = 8 := by omega
                have hdk : decide (((8 : Nat) : Int) < 8) = false := by decide
                go_wp2_with fail
                go_roundw
                case rel =>
                  refine ⟨c + 1, by go_num, by omega, Lib.hid ⟨LT.out.1, ?_, LT.out.2.2.2⟩⟩
                  rw [show fcs (fun j => colN f1 j (c + 1)) 8 = fcs (fun j => if j < 8 then colN f1 j (c + 1) else colN f1 j c) 8 from fcs_congr fun j hj => (if_pos hj).symm]
                  exact LT.out.2.1
                case measure => simp [intOf]; omega
          · obtain rfl : c = 16 := by omega
            have hdec : decide (((16 : Nat) : Int) < 16) = false := by decide
            have KS : Hid (Blk wr b9 24 s ∧ wr.rangeAt w.heap.size 0 s) := Lib.hid (by
              refine ⟨?_, ?_⟩
              · rw [HSE.out, show fcs (rowOf f1 0) 8 = fcs (fun j => colN f1 j 16) 8 from fcs_congr fun j hj => by rw [HT.out.1 j hj]; unfold rowOf; rw [show 8 * 0 + j = j from by omega]]
                exact KT.out.2.1
              · rw [HSE.out]
                exact (show Blk wr w.heap.size 28 (tcs f1 0) by rw [← HAE.out]; exact KT.out.1).rowAt (i := 0) (by omega))
            go_wp2_with fail
            refine (AW.out _).mono ?_
            rintro e w6 ⟨rfl, b6⟩
            have K6 : Hid (Blk w6 b9 24 s ∧ w6.rangeAt w.heap.size 0 s ∧ Below w.heap.size w w6) := Lib.hid (by
              refine ⟨KS.out.1.keep b6, ?_, KT.out.2.2.trans (b6.mono KT.out.2.2.size)⟩
              rw [HSE.out]
              exact (show Blk w6 w.heap.size 28 (tcs f1 0) by rw [← HAE.out]; exact KT.out.1.keep b6).rowAt (i := 0) (by omega))
            have L6 := Lib.hid K6.out.1.whole
            have M6 := Lib.hid K6.out.2.1
            clear b6
            go_wp2_with (first
              | (refine wpList_load_midG (by rfl) _ _ rfl b9 0 rfl s _ L6.out Try.underlying24 rfl hss ?_)
              | (refine wpList_load_midG (by rfl) _ _ rfl w.heap.size 0 rfl s _ M6.out Try.underlying24 rfl hss ?_)
              | (refine wpList_bin_isG (by rfl) .eql 24 24 _ _ rfl s.toArray s.toArray rfl rfl guardR (.bool true) (EQR.out _) ?_))
            refine (SMC.out _).mono ?_
            rintro e w7 ⟨rfl, b7⟩
            have K7 := Lib.hid (K6.out.2.2.trans (b7.mono K6.out.2.2.size))
            clear b7
            go_wp2_with fail
            go_ret
            exact ⟨rfl, K7.out⟩

end Go.Proofs.Ythoahengdajpcaa
