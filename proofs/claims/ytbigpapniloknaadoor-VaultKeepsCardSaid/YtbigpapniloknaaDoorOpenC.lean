/- The contract of seal's Open: a sector whose sum is right. -/
import Derived.Test.YtbigpapniloknaaDoorJOpa
namespace Go.Proofs.YtbigpapniloknaaDoor
open Go.RowKit

theorem bs_H (l : List UInt8) : (bs l).extract 0 124 = bs (l.take 124) := by rw [bs_extract]; rfl
theorem beV_one_lt (l : List UInt8) (h : 1 ≤ l.length) : beV (l.take 1) < 256 := by have := beV_take_lt l 1 h; rwa [Nat.pow_one] at this
theorem beV_four_lt (l : List UInt8) (h : 4 ≤ l.length) : beV (l.take 4) < 4294967296 := beV_take_lt l 4 h
theorem beV_eight_lt (l : List UInt8) (h : 8 ≤ l.length) : beV (l.take 8) < 18446744073709551616 := beV_take_lt l 8 h

set_option maxHeartbeats 8000000 in
set_option maxRecDepth 100000 in
theorem seal_Open_great (l L0 L1 L2 L3 L4 : List UInt8) (n : Nat) (w : World) (hl : l.length = 128) (hz : zeroL l = false) (hs : l.drop 124 = leL (crcSum (l.take 124)))
    (h0 : L0 = l.take 124) (h1 : L1 = L0.drop 1) (h2 : L2 = L1.drop 8) (h3 : L3 = L2.drop 4) (h4 : L4 = L3.drop 1) (hn : n = beV (L3.take 1)) (hb : 110 < n) :
    Calls Tryd.prog 39 #[.string (bs l)] w fun e w' => e = .returned (.tuple #[recZ, .int .i64 4]) ∧ Below w.heap.size w w' := by
  have hsz := (bs_size l).trans hl
  have e0 : L0.length = 124 := by rw [h0, List.length_take]; omega
  have e1 : L1.length = 123 := by rw [h1, List.length_drop]; omega
  have e2 : L2.length = 115 := by rw [h2, List.length_drop]; omega
  have e3 : L3.length = 111 := by rw [h3, List.length_drop]; omega
  have e4 : L4.length = 110 := by rw [h4, List.length_drop]; omega
  have HB := Lib.hid (fun W => seal_blank l W (by omega))
  obtain ⟨T, hT⟩ : ∃ T, T = bs (l.drop 124) := ⟨_, rfl⟩
  obtain ⟨F, hF⟩ : ∃ F, F = bs (leL (crcSum L0)) := ⟨_, rfl⟩
  have hx1 : (bs l).extract 124 128 = T := by rw [bs_extract, hT, List.take_of_length_le (by rw [List.length_drop]; omega)]
  have hx2 : (bs l).extract 0 124 = bs L0 := by rw [bs_H, h0]
  have hcmp : (T.toList == F.toList) = true := by
    rw [hT, hF, bs, bs, ByteArray.toList_mk, ByteArray.toList_mk, beq_iff_eq, h0]
    exact hs
  have hcmp2 : (T.toList != F.toList) = false := by rw [bne, hcmp]; rfl
  have HF := Lib.hid (fun W => by rw [hF]; exact foot_bs L0 W (by omega) : ∀ W, Calls Tryd.prog 53 #[.string (bs L0)] W fun e w' => e = .returned (.string F) ∧ Below W.heap.size W w')
  obtain ⟨v0, q0⟩ : ∃ v, v = beV (L0.take 1) := ⟨_, rfl⟩
  obtain ⟨v1, q1⟩ : ∃ v, v = beV (L1.take 8) := ⟨_, rfl⟩
  obtain ⟨v2, q2⟩ : ∃ v, v = beV (L2.take 4) := ⟨_, rfl⟩
  have b0 : v0 < 256 := by rw [q0]; exact beV_one_lt _ (by omega)
  have b1 : v1 < 18446744073709551616 := by rw [q1]; exact beV_eight_lt _ (by omega)
  have b2 : v2 < 4294967296 := by rw [q2]; exact beV_four_lt _ (by omega)
  have bn : n < 256 := by rw [hn]; exact beV_one_lt _ (by omega)
  have k0 : IntKind.u8.wrap (v0 : Int) = (v0 : Int) := by rw [wrap_u8n, Nat.mod_eq_of_lt b0]
  have k2 : IntKind.u32.wrap (v2 : Int) = (v2 : Int) := u32_in v2 b2
  have kn : IntKind.i64.wrap (n : Int) = (n : Int) := IntWalk.i64_in _ (by omega)
  have T0 := Lib.hid (fun R W hB => by have h := seal_take R 1 L0 W hB (by omega) (by omega) (by omega); rw [← h1, ← q0] at h; exact h : ∀ R W, Blk W R 9 [.string (bs L0)] → Calls Tryd.prog 54 #[.int .i64 1, .pointer (some ⟨R, 0, none⟩)] W fun e w' => e = .returned (.int .u64 (v0 : Int)) ∧ w' = W.setCell ⟨R, 0, none⟩ (.string (bs L1)))
  have T1 := Lib.hid (fun R W hB => by have h := seal_take R 8 L1 W hB (by omega) (by omega) (by omega); rw [← h2, ← q1] at h; exact h : ∀ R W, Blk W R 9 [.string (bs L1)] → Calls Tryd.prog 54 #[.int .i64 8, .pointer (some ⟨R, 0, none⟩)] W fun e w' => e = .returned (.int .u64 (v1 : Int)) ∧ w' = W.setCell ⟨R, 0, none⟩ (.string (bs L2)))
  have T2 := Lib.hid (fun R W hB => by have h := seal_take R 4 L2 W hB (by omega) (by omega) (by omega); rw [← h3, ← q2] at h; exact h : ∀ R W, Blk W R 9 [.string (bs L2)] → Calls Tryd.prog 54 #[.int .i64 4, .pointer (some ⟨R, 0, none⟩)] W fun e w' => e = .returned (.int .u64 (v2 : Int)) ∧ w' = W.setCell ⟨R, 0, none⟩ (.string (bs L3)))
  have T3 := Lib.hid (fun R W hB => by have h := seal_take R 1 L3 W hB (by omega) (by omega) (by omega); rw [← h4, ← hn] at h; exact h : ∀ R W, Blk W R 9 [.string (bs L3)] → Calls Tryd.prog 54 #[.int .i64 1, .pointer (some ⟨R, 0, none⟩)] W fun e w' => e = .returned (.int .u64 (n : Int)) ∧ w' = W.setCell ⟨R, 0, none⟩ (.string (bs L4)))
  have hd : decide ((110 : Int) < (n : Int)) = true := decide_eq_true (by omega)
  clear hb
  have Q0 := Lib.hid q0
  have Q1 := Lib.hid q1
  have Q2 := Lib.hid q2
  have B0 := Lib.hid ((Below.refl w.heap.size w).alloc (Nat.le_refl _) (.cells #[.int .u8 0, .int .u64 0, .int .u32 0, .string ⟨#[]⟩] 89))
  have R0 := Lib.hid (show Blk (w.alloc (.cells #[.int .u8 0, .int .u64 0, .int .u32 0, .string ⟨#[]⟩] 89)) w.heap.size 89 [.int .u8 0, .int .u64 0, .int .u32 0, .string ⟨#[]⟩] from heap_alloc_new w _)
  clear hT hF hs h0 h1 h2 h3 h4 hn q0 q1 q2 e0 e1 e2 e3 b0 b1 b2
  go_enter Tryd.func39, Tryd.ntmps39
  go_wp2_with fail
  refine (HB.out _).mono ?_
  rintro e w1 ⟨rfl, hb1⟩
  have R1 := Lib.hid (R0.out.keep hb1)
  have B1 := Lib.hid (B0.out.trans (hb1.mono B0.out.size))
  clear hb1
  go_wp2_with fail
  go_region_held3 (fun _ => True) (trivial)
    ((go_at_call 53; refine (HF.out _).mono ?_; rintro e w2 ⟨rfl, hb2⟩))
  have R2 := Lib.hid (R1.out.keep ((Below.refl w1.heap.size w1).drew.trans hb2))
  have B2 := Lib.hid (B1.out.trans (((Below.refl w1.heap.size w1).drew.trans hb2).mono B1.out.size))
  have S2 := Lib.hid R2.out.lt
  clear hb2 hcmp hcmp2 hx1
  have SB : Hid (w.heap.size ≤ w2.heap.size) := Lib.hid B2.out.size
  have R3 := Lib.hid ((R2.out.alloc (.cells #[.string (bs L0)] 9)).alloc (.cells #[.int .u8 0, .int .u64 0, .int .u32 0, .string ⟨#[]⟩] 89))
  have P3 := Lib.hid ((Blk.new1 w2 9 (.string (bs L0))).alloc (.cells #[.int .u8 0, .int .u64 0, .int .u32 0, .string ⟨#[]⟩] 89))
  have C3 : Hid (Blk ((w2.alloc (.cells #[.string (bs L0)] 9)).alloc (.cells #[.int .u8 0, .int .u64 0, .int .u32 0, .string ⟨#[]⟩] 89)) (w2.heap.size + 1) 89 [.int .u8 0, .int .u64 0, .int .u32 0, .string ⟨#[]⟩]) := Lib.hid (by
    have h : Blk ((w2.alloc (.cells #[.string (bs L0)] 9)).alloc (.cells #[.int .u8 0, .int .u64 0, .int .u32 0, .string ⟨#[]⟩] 89)) (w2.alloc (.cells #[.string (bs L0)] 9)).heap.size 89 [.int .u8 0, .int .u64 0, .int .u32 0, .string ⟨#[]⟩] := heap_alloc_new _ _
    rw [show (w2.alloc (.cells #[.string (bs L0)] 9)).heap.size = w2.heap.size + 1 from by simp] at h
    exact h)
  have B3 : Hid (Below w.heap.size w ((w2.alloc (.cells #[.string (bs L0)] 9)).alloc (.cells #[.int .u8 0, .int .u64 0, .int .u32 0, .string ⟨#[]⟩] 89))) := Lib.hid ((B2.out.alloc B2.out.size _).alloc (Nat.le_trans B2.out.size (grow1 _ _)) _)
  go_wp2_with fail
  refine (T0.out _ _ P3.out).mono ?_
  rintro e w4a ⟨rfl, hw4⟩
  have R4a := Lib.hid (show Blk w4a w.heap.size 89 _ from by rw [hw4]; exact R3.out.far (p := ⟨w2.heap.size, 0, none⟩) (Nat.ne_of_lt S2.out) _)
  have P4a := Lib.hid (show Blk w4a w2.heap.size 9 [.string (bs L1)] from by rw [hw4]; exact P3.out.set_ 0 _)
  have C4a := Lib.hid (show Blk w4a (w2.heap.size + 1) 89 _ from by rw [hw4]; exact C3.out.far (p := ⟨w2.heap.size, 0, none⟩) (Nat.succ_ne_self _) _)
  have B4a := Lib.hid (show Below w.heap.size w w4a from by rw [hw4]; exact B3.out.setCell (p := ⟨w2.heap.size, 0, none⟩) SB.out _)
  clear hw4
  have y0 := C4a.out.frozen 0
  have x0 : w4a.cell? ⟨w2.heap.size + 1, 0, none⟩ = _ := C4a.out.cell 0
  simp only [List.getElem?_cons_zero, List.getElem?_cons_succ] at x0
  have R4 := Lib.hid (R4a.out.far (p := ⟨w2.heap.size + 1, 0, none⟩) (Nat.ne_of_lt (Nat.lt_succ_of_lt S2.out)) (.int .u8 (v0 : Int)))
  have P4 := Lib.hid (P4a.out.far (p := ⟨w2.heap.size + 1, 0, none⟩) (Nat.ne_of_lt (Nat.lt_succ_self _)) (.int .u8 (v0 : Int)))
  have C4 : Hid (Blk (w4a.setCell ⟨w2.heap.size + 1, 0, none⟩ (.int .u8 (v0 : Int))) (w2.heap.size + 1) 89 [.int .u8 (v0 : Int), .int .u64 0, .int .u32 0, .string ⟨#[]⟩]) := Lib.hid (C4a.out.set_ 0 _)
  have B4 := Lib.hid (B4a.out.setCell (p := ⟨w2.heap.size + 1, 0, none⟩) (Nat.le_succ_of_le SB.out) (.int .u8 (v0 : Int)))
  go_wp2_with fail
  clear x0 y0
  refine (T1.out _ _ P4.out).mono ?_
  rintro e w5a ⟨rfl, hw5⟩
  have R5a := Lib.hid (show Blk w5a w.heap.size 89 _ from by rw [hw5]; exact R4.out.far (p := ⟨w2.heap.size, 0, none⟩) (Nat.ne_of_lt S2.out) _)
  have P5a := Lib.hid (show Blk w5a w2.heap.size 9 [.string (bs L2)] from by rw [hw5]; exact P4.out.set_ 0 _)
  have C5a := Lib.hid (show Blk w5a (w2.heap.size + 1) 89 _ from by rw [hw5]; exact C4.out.far (p := ⟨w2.heap.size, 0, none⟩) (Nat.succ_ne_self _) _)
  have B5a := Lib.hid (show Below w.heap.size w w5a from by rw [hw5]; exact B4.out.setCell (p := ⟨w2.heap.size, 0, none⟩) SB.out _)
  clear hw5
  have y1 := C5a.out.frozen 1
  have x1 : w5a.cell? ⟨w2.heap.size + 1, 1, none⟩ = _ := C5a.out.cell 1
  simp only [List.getElem?_cons_zero, List.getElem?_cons_succ] at x1
  have R5 := Lib.hid (R5a.out.far (p := ⟨w2.heap.size + 1, 1, none⟩) (Nat.ne_of_lt (Nat.lt_succ_of_lt S2.out)) (.int .u64 (v1 : Int)))
  have P5 := Lib.hid (P5a.out.far (p := ⟨w2.heap.size + 1, 1, none⟩) (Nat.ne_of_lt (Nat.lt_succ_self _)) (.int .u64 (v1 : Int)))
  have C5 : Hid (Blk (w5a.setCell ⟨w2.heap.size + 1, 1, none⟩ (.int .u64 (v1 : Int))) (w2.heap.size + 1) 89 [.int .u8 (v0 : Int), .int .u64 (v1 : Int), .int .u32 0, .string ⟨#[]⟩]) := Lib.hid (C5a.out.set_ 1 _)
  have B5 := Lib.hid (B5a.out.setCell (p := ⟨w2.heap.size + 1, 1, none⟩) (Nat.le_succ_of_le SB.out) (.int .u64 (v1 : Int)))
  go_wp2_with fail
  clear x1 y1
  refine (T2.out _ _ P5.out).mono ?_
  rintro e w6a ⟨rfl, hw6⟩
  have R6a := Lib.hid (show Blk w6a w.heap.size 89 _ from by rw [hw6]; exact R5.out.far (p := ⟨w2.heap.size, 0, none⟩) (Nat.ne_of_lt S2.out) _)
  have P6a := Lib.hid (show Blk w6a w2.heap.size 9 [.string (bs L3)] from by rw [hw6]; exact P5.out.set_ 0 _)
  have C6a := Lib.hid (show Blk w6a (w2.heap.size + 1) 89 _ from by rw [hw6]; exact C5.out.far (p := ⟨w2.heap.size, 0, none⟩) (Nat.succ_ne_self _) _)
  have B6a := Lib.hid (show Below w.heap.size w w6a from by rw [hw6]; exact B5.out.setCell (p := ⟨w2.heap.size, 0, none⟩) SB.out _)
  clear hw6
  have y2 := C6a.out.frozen 2
  have x2 : w6a.cell? ⟨w2.heap.size + 1, 2, none⟩ = _ := C6a.out.cell 2
  simp only [List.getElem?_cons_zero, List.getElem?_cons_succ] at x2
  have R6 := Lib.hid (R6a.out.far (p := ⟨w2.heap.size + 1, 2, none⟩) (Nat.ne_of_lt (Nat.lt_succ_of_lt S2.out)) (.int .u32 (v2 : Int)))
  have P6 := Lib.hid (P6a.out.far (p := ⟨w2.heap.size + 1, 2, none⟩) (Nat.ne_of_lt (Nat.lt_succ_self _)) (.int .u32 (v2 : Int)))
  have C6 : Hid (Blk (w6a.setCell ⟨w2.heap.size + 1, 2, none⟩ (.int .u32 (v2 : Int))) (w2.heap.size + 1) 89 [.int .u8 (v0 : Int), .int .u64 (v1 : Int), .int .u32 (v2 : Int), .string ⟨#[]⟩]) := Lib.hid (C6a.out.set_ 2 _)
  have B6 := Lib.hid (B6a.out.setCell (p := ⟨w2.heap.size + 1, 2, none⟩) (Nat.le_succ_of_le SB.out) (.int .u32 (v2 : Int)))
  go_wp2_with fail
  clear x2 y2
  refine (T3.out _ _ P6.out).mono ?_
  rintro e w7a ⟨rfl, hw7⟩
  have R7a := Lib.hid (show Blk w7a w.heap.size 89 _ from by rw [hw7]; exact R6.out.far (p := ⟨w2.heap.size, 0, none⟩) (Nat.ne_of_lt S2.out) _)
  have P7a := Lib.hid (show Blk w7a w2.heap.size 9 [.string (bs L4)] from by rw [hw7]; exact P6.out.set_ 0 _)
  have C7a := Lib.hid (show Blk w7a (w2.heap.size + 1) 89 _ from by rw [hw7]; exact C6.out.far (p := ⟨w2.heap.size, 0, none⟩) (Nat.succ_ne_self _) _)
  have B7a := Lib.hid (show Below w.heap.size w w7a from by rw [hw7]; exact B6.out.setCell (p := ⟨w2.heap.size, 0, none⟩) SB.out _)
  clear hw7
  obtain ⟨c0, c1, c2, c3⟩ := R7a.out.four
  have f0 := R7a.out.frozen 0
  have f1 := R7a.out.frozen 1
  have f2 := R7a.out.frozen 2
  have f3 := R7a.out.frozen 3
  go_wp2_with fail
  obtain ⟨d0, d1, d2, d3⟩ := (R7a.out.put4 (.int .u8 0) (.int .u64 0) (.int .u32 0) (.string ⟨#[]⟩)).four
  refine bodyPost_ret (v := .tuple #[recZ, .int .i64 4]) (by simp [results, Tryd.results39, go_sem, recZ, d0, d1, d2, d3]) rfl ⟨rfl, ?_⟩
  exact below_put4 B7a.out (Nat.le_refl _) _ _ _ _

set_option maxHeartbeats 8000000 in
set_option maxRecDepth 100000 in
theorem seal_Open_bad (l L0 L1 L2 L3 L4 : List UInt8) (n : Nat) (w : World) (hl : l.length = 128) (hz : zeroL l = false) (hs : l.drop 124 = leL (crcSum (l.take 124)))
    (h0 : L0 = l.take 124) (h1 : L1 = L0.drop 1) (h2 : L2 = L1.drop 8) (h3 : L3 = L2.drop 4) (h4 : L4 = L3.drop 1) (hn : n = beV (L3.take 1)) (hb : n ≤ 110) (hb2 : zeroL (L4.drop n) = false) :
    Calls Tryd.prog 39 #[.string (bs l)] w fun e w' => e = .returned (.tuple #[recZ, .int .i64 4]) ∧ Below w.heap.size w w' := by
  have hsz := (bs_size l).trans hl
  have e0 : L0.length = 124 := by rw [h0, List.length_take]; omega
  have e1 : L1.length = 123 := by rw [h1, List.length_drop]; omega
  have e2 : L2.length = 115 := by rw [h2, List.length_drop]; omega
  have e3 : L3.length = 111 := by rw [h3, List.length_drop]; omega
  have e4 : L4.length = 110 := by rw [h4, List.length_drop]; omega
  have HB := Lib.hid (fun W => seal_blank l W (by omega))
  obtain ⟨T, hT⟩ : ∃ T, T = bs (l.drop 124) := ⟨_, rfl⟩
  obtain ⟨F, hF⟩ : ∃ F, F = bs (leL (crcSum L0)) := ⟨_, rfl⟩
  have hx1 : (bs l).extract 124 128 = T := by rw [bs_extract, hT, List.take_of_length_le (by rw [List.length_drop]; omega)]
  have hx2 : (bs l).extract 0 124 = bs L0 := by rw [bs_H, h0]
  have hcmp : (T.toList == F.toList) = true := by
    rw [hT, hF, bs, bs, ByteArray.toList_mk, ByteArray.toList_mk, beq_iff_eq, h0]
    exact hs
  have hcmp2 : (T.toList != F.toList) = false := by rw [bne, hcmp]; rfl
  have HF := Lib.hid (fun W => by rw [hF]; exact foot_bs L0 W (by omega) : ∀ W, Calls Tryd.prog 53 #[.string (bs L0)] W fun e w' => e = .returned (.string F) ∧ Below W.heap.size W w')
  obtain ⟨v0, q0⟩ : ∃ v, v = beV (L0.take 1) := ⟨_, rfl⟩
  obtain ⟨v1, q1⟩ : ∃ v, v = beV (L1.take 8) := ⟨_, rfl⟩
  obtain ⟨v2, q2⟩ : ∃ v, v = beV (L2.take 4) := ⟨_, rfl⟩
  have b0 : v0 < 256 := by rw [q0]; exact beV_one_lt _ (by omega)
  have b1 : v1 < 18446744073709551616 := by rw [q1]; exact beV_eight_lt _ (by omega)
  have b2 : v2 < 4294967296 := by rw [q2]; exact beV_four_lt _ (by omega)
  have bn : n < 256 := by rw [hn]; exact beV_one_lt _ (by omega)
  have k0 : IntKind.u8.wrap (v0 : Int) = (v0 : Int) := by rw [wrap_u8n, Nat.mod_eq_of_lt b0]
  have k2 : IntKind.u32.wrap (v2 : Int) = (v2 : Int) := u32_in v2 b2
  have kn : IntKind.i64.wrap (n : Int) = (n : Int) := IntWalk.i64_in _ (by omega)
  have T0 := Lib.hid (fun R W hB => by have h := seal_take R 1 L0 W hB (by omega) (by omega) (by omega); rw [← h1, ← q0] at h; exact h : ∀ R W, Blk W R 9 [.string (bs L0)] → Calls Tryd.prog 54 #[.int .i64 1, .pointer (some ⟨R, 0, none⟩)] W fun e w' => e = .returned (.int .u64 (v0 : Int)) ∧ w' = W.setCell ⟨R, 0, none⟩ (.string (bs L1)))
  have T1 := Lib.hid (fun R W hB => by have h := seal_take R 8 L1 W hB (by omega) (by omega) (by omega); rw [← h2, ← q1] at h; exact h : ∀ R W, Blk W R 9 [.string (bs L1)] → Calls Tryd.prog 54 #[.int .i64 8, .pointer (some ⟨R, 0, none⟩)] W fun e w' => e = .returned (.int .u64 (v1 : Int)) ∧ w' = W.setCell ⟨R, 0, none⟩ (.string (bs L2)))
  have T2 := Lib.hid (fun R W hB => by have h := seal_take R 4 L2 W hB (by omega) (by omega) (by omega); rw [← h3, ← q2] at h; exact h : ∀ R W, Blk W R 9 [.string (bs L2)] → Calls Tryd.prog 54 #[.int .i64 4, .pointer (some ⟨R, 0, none⟩)] W fun e w' => e = .returned (.int .u64 (v2 : Int)) ∧ w' = W.setCell ⟨R, 0, none⟩ (.string (bs L3)))
  have T3 := Lib.hid (fun R W hB => by have h := seal_take R 1 L3 W hB (by omega) (by omega) (by omega); rw [← h4, ← hn] at h; exact h : ∀ R W, Blk W R 9 [.string (bs L3)] → Calls Tryd.prog 54 #[.int .i64 1, .pointer (some ⟨R, 0, none⟩)] W fun e w' => e = .returned (.int .u64 (n : Int)) ∧ w' = W.setCell ⟨R, 0, none⟩ (.string (bs L4)))
  have hd : decide ((110 : Int) < (n : Int)) = false := decide_eq_false (by omega)
  have hs4 := (bs_size L4).trans e4
  have hx3 : (bs L4).extract n 110 = bs (L4.drop n) := by rw [bs_extract, List.take_of_length_le (by rw [List.length_drop]; omega)]
  have HB4 := Lib.hid (fun W => seal_blank (L4.drop n) W (by rw [List.length_drop]; omega))
  have hn1 : (n : Int) ≤ 110 := by omega
  clear hb
  have Q0 := Lib.hid q0
  have Q1 := Lib.hid q1
  have Q2 := Lib.hid q2
  have B0 := Lib.hid ((Below.refl w.heap.size w).alloc (Nat.le_refl _) (.cells #[.int .u8 0, .int .u64 0, .int .u32 0, .string ⟨#[]⟩] 89))
  have R0 := Lib.hid (show Blk (w.alloc (.cells #[.int .u8 0, .int .u64 0, .int .u32 0, .string ⟨#[]⟩] 89)) w.heap.size 89 [.int .u8 0, .int .u64 0, .int .u32 0, .string ⟨#[]⟩] from heap_alloc_new w _)
  clear hT hF hs h0 h1 h2 h3 h4 hn q0 q1 q2 e0 e1 e2 e3 b0 b1 b2
  go_enter Tryd.func39, Tryd.ntmps39
  go_wp2_with fail
  refine (HB.out _).mono ?_
  rintro e w1 ⟨rfl, hb1⟩
  have R1 := Lib.hid (R0.out.keep hb1)
  have B1 := Lib.hid (B0.out.trans (hb1.mono B0.out.size))
  clear hb1
  go_wp2_with fail
  go_region_held3 (fun _ => True) (trivial)
    ((go_at_call 53; refine (HF.out _).mono ?_; rintro e w2 ⟨rfl, hb2⟩))
  have R2 := Lib.hid (R1.out.keep ((Below.refl w1.heap.size w1).drew.trans hb2))
  have B2 := Lib.hid (B1.out.trans (((Below.refl w1.heap.size w1).drew.trans hb2).mono B1.out.size))
  have S2 := Lib.hid R2.out.lt
  clear hb2 hcmp hcmp2 hx1
  have SB : Hid (w.heap.size ≤ w2.heap.size) := Lib.hid B2.out.size
  have R3 := Lib.hid ((R2.out.alloc (.cells #[.string (bs L0)] 9)).alloc (.cells #[.int .u8 0, .int .u64 0, .int .u32 0, .string ⟨#[]⟩] 89))
  have P3 := Lib.hid ((Blk.new1 w2 9 (.string (bs L0))).alloc (.cells #[.int .u8 0, .int .u64 0, .int .u32 0, .string ⟨#[]⟩] 89))
  have C3 : Hid (Blk ((w2.alloc (.cells #[.string (bs L0)] 9)).alloc (.cells #[.int .u8 0, .int .u64 0, .int .u32 0, .string ⟨#[]⟩] 89)) (w2.heap.size + 1) 89 [.int .u8 0, .int .u64 0, .int .u32 0, .string ⟨#[]⟩]) := Lib.hid (by
    have h : Blk ((w2.alloc (.cells #[.string (bs L0)] 9)).alloc (.cells #[.int .u8 0, .int .u64 0, .int .u32 0, .string ⟨#[]⟩] 89)) (w2.alloc (.cells #[.string (bs L0)] 9)).heap.size 89 [.int .u8 0, .int .u64 0, .int .u32 0, .string ⟨#[]⟩] := heap_alloc_new _ _
    rw [show (w2.alloc (.cells #[.string (bs L0)] 9)).heap.size = w2.heap.size + 1 from by simp] at h
    exact h)
  have B3 : Hid (Below w.heap.size w ((w2.alloc (.cells #[.string (bs L0)] 9)).alloc (.cells #[.int .u8 0, .int .u64 0, .int .u32 0, .string ⟨#[]⟩] 89))) := Lib.hid ((B2.out.alloc B2.out.size _).alloc (Nat.le_trans B2.out.size (grow1 _ _)) _)
  go_wp2_with fail
  refine (T0.out _ _ P3.out).mono ?_
  rintro e w4a ⟨rfl, hw4⟩
  have R4a := Lib.hid (show Blk w4a w.heap.size 89 _ from by rw [hw4]; exact R3.out.far (p := ⟨w2.heap.size, 0, none⟩) (Nat.ne_of_lt S2.out) _)
  have P4a := Lib.hid (show Blk w4a w2.heap.size 9 [.string (bs L1)] from by rw [hw4]; exact P3.out.set_ 0 _)
  have C4a := Lib.hid (show Blk w4a (w2.heap.size + 1) 89 _ from by rw [hw4]; exact C3.out.far (p := ⟨w2.heap.size, 0, none⟩) (Nat.succ_ne_self _) _)
  have B4a := Lib.hid (show Below w.heap.size w w4a from by rw [hw4]; exact B3.out.setCell (p := ⟨w2.heap.size, 0, none⟩) SB.out _)
  clear hw4
  have y0 := C4a.out.frozen 0
  have x0 : w4a.cell? ⟨w2.heap.size + 1, 0, none⟩ = _ := C4a.out.cell 0
  simp only [List.getElem?_cons_zero, List.getElem?_cons_succ] at x0
  have R4 := Lib.hid (R4a.out.far (p := ⟨w2.heap.size + 1, 0, none⟩) (Nat.ne_of_lt (Nat.lt_succ_of_lt S2.out)) (.int .u8 (v0 : Int)))
  have P4 := Lib.hid (P4a.out.far (p := ⟨w2.heap.size + 1, 0, none⟩) (Nat.ne_of_lt (Nat.lt_succ_self _)) (.int .u8 (v0 : Int)))
  have C4 : Hid (Blk (w4a.setCell ⟨w2.heap.size + 1, 0, none⟩ (.int .u8 (v0 : Int))) (w2.heap.size + 1) 89 [.int .u8 (v0 : Int), .int .u64 0, .int .u32 0, .string ⟨#[]⟩]) := Lib.hid (C4a.out.set_ 0 _)
  have B4 := Lib.hid (B4a.out.setCell (p := ⟨w2.heap.size + 1, 0, none⟩) (Nat.le_succ_of_le SB.out) (.int .u8 (v0 : Int)))
  go_wp2_with fail
  clear x0 y0
  refine (T1.out _ _ P4.out).mono ?_
  rintro e w5a ⟨rfl, hw5⟩
  have R5a := Lib.hid (show Blk w5a w.heap.size 89 _ from by rw [hw5]; exact R4.out.far (p := ⟨w2.heap.size, 0, none⟩) (Nat.ne_of_lt S2.out) _)
  have P5a := Lib.hid (show Blk w5a w2.heap.size 9 [.string (bs L2)] from by rw [hw5]; exact P4.out.set_ 0 _)
  have C5a := Lib.hid (show Blk w5a (w2.heap.size + 1) 89 _ from by rw [hw5]; exact C4.out.far (p := ⟨w2.heap.size, 0, none⟩) (Nat.succ_ne_self _) _)
  have B5a := Lib.hid (show Below w.heap.size w w5a from by rw [hw5]; exact B4.out.setCell (p := ⟨w2.heap.size, 0, none⟩) SB.out _)
  clear hw5
  have y1 := C5a.out.frozen 1
  have x1 : w5a.cell? ⟨w2.heap.size + 1, 1, none⟩ = _ := C5a.out.cell 1
  simp only [List.getElem?_cons_zero, List.getElem?_cons_succ] at x1
  have R5 := Lib.hid (R5a.out.far (p := ⟨w2.heap.size + 1, 1, none⟩) (Nat.ne_of_lt (Nat.lt_succ_of_lt S2.out)) (.int .u64 (v1 : Int)))
  have P5 := Lib.hid (P5a.out.far (p := ⟨w2.heap.size + 1, 1, none⟩) (Nat.ne_of_lt (Nat.lt_succ_self _)) (.int .u64 (v1 : Int)))
  have C5 : Hid (Blk (w5a.setCell ⟨w2.heap.size + 1, 1, none⟩ (.int .u64 (v1 : Int))) (w2.heap.size + 1) 89 [.int .u8 (v0 : Int), .int .u64 (v1 : Int), .int .u32 0, .string ⟨#[]⟩]) := Lib.hid (C5a.out.set_ 1 _)
  have B5 := Lib.hid (B5a.out.setCell (p := ⟨w2.heap.size + 1, 1, none⟩) (Nat.le_succ_of_le SB.out) (.int .u64 (v1 : Int)))
  go_wp2_with fail
  clear x1 y1
  refine (T2.out _ _ P5.out).mono ?_
  rintro e w6a ⟨rfl, hw6⟩
  have R6a := Lib.hid (show Blk w6a w.heap.size 89 _ from by rw [hw6]; exact R5.out.far (p := ⟨w2.heap.size, 0, none⟩) (Nat.ne_of_lt S2.out) _)
  have P6a := Lib.hid (show Blk w6a w2.heap.size 9 [.string (bs L3)] from by rw [hw6]; exact P5.out.set_ 0 _)
  have C6a := Lib.hid (show Blk w6a (w2.heap.size + 1) 89 _ from by rw [hw6]; exact C5.out.far (p := ⟨w2.heap.size, 0, none⟩) (Nat.succ_ne_self _) _)
  have B6a := Lib.hid (show Below w.heap.size w w6a from by rw [hw6]; exact B5.out.setCell (p := ⟨w2.heap.size, 0, none⟩) SB.out _)
  clear hw6
  have y2 := C6a.out.frozen 2
  have x2 : w6a.cell? ⟨w2.heap.size + 1, 2, none⟩ = _ := C6a.out.cell 2
  simp only [List.getElem?_cons_zero, List.getElem?_cons_succ] at x2
  have R6 := Lib.hid (R6a.out.far (p := ⟨w2.heap.size + 1, 2, none⟩) (Nat.ne_of_lt (Nat.lt_succ_of_lt S2.out)) (.int .u32 (v2 : Int)))
  have P6 := Lib.hid (P6a.out.far (p := ⟨w2.heap.size + 1, 2, none⟩) (Nat.ne_of_lt (Nat.lt_succ_self _)) (.int .u32 (v2 : Int)))
  have C6 : Hid (Blk (w6a.setCell ⟨w2.heap.size + 1, 2, none⟩ (.int .u32 (v2 : Int))) (w2.heap.size + 1) 89 [.int .u8 (v0 : Int), .int .u64 (v1 : Int), .int .u32 (v2 : Int), .string ⟨#[]⟩]) := Lib.hid (C6a.out.set_ 2 _)
  have B6 := Lib.hid (B6a.out.setCell (p := ⟨w2.heap.size + 1, 2, none⟩) (Nat.le_succ_of_le SB.out) (.int .u32 (v2 : Int)))
  go_wp2_with fail
  clear x2 y2
  refine (T3.out _ _ P6.out).mono ?_
  rintro e w7a ⟨rfl, hw7⟩
  have R7a := Lib.hid (show Blk w7a w.heap.size 89 _ from by rw [hw7]; exact R6.out.far (p := ⟨w2.heap.size, 0, none⟩) (Nat.ne_of_lt S2.out) _)
  have P7a := Lib.hid (show Blk w7a w2.heap.size 9 [.string (bs L4)] from by rw [hw7]; exact P6.out.set_ 0 _)
  have C7a := Lib.hid (show Blk w7a (w2.heap.size + 1) 89 _ from by rw [hw7]; exact C6.out.far (p := ⟨w2.heap.size, 0, none⟩) (Nat.succ_ne_self _) _)
  have B7a := Lib.hid (show Below w.heap.size w w7a from by rw [hw7]; exact B6.out.setCell (p := ⟨w2.heap.size, 0, none⟩) SB.out _)
  clear hw7
  have p0 := P7a.out.cell0
  go_wp2_with fail
  refine (HB4.out _).mono ?_
  rintro e w8 ⟨rfl, hb8⟩
  have R8 := Lib.hid (R7a.out.keep hb8)
  have B8 := Lib.hid (B7a.out.trans (hb8.mono B7a.out.size))
  clear hb8
  obtain ⟨c0, c1, c2, c3⟩ := R8.out.four
  have f0 := R8.out.frozen 0
  have f1 := R8.out.frozen 1
  have f2 := R8.out.frozen 2
  have f3 := R8.out.frozen 3
  go_wp2_with fail
  obtain ⟨d0, d1, d2, d3⟩ := (R8.out.put4 (.int .u8 0) (.int .u64 0) (.int .u32 0) (.string ⟨#[]⟩)).four
  refine bodyPost_ret (v := .tuple #[recZ, .int .i64 4]) (by simp [results, Tryd.results39, go_sem, recZ, d0, d1, d2, d3]) rfl ⟨rfl, ?_⟩
  exact below_put4 B8.out (Nat.le_refl _) _ _ _ _

set_option maxHeartbeats 8000000 in
set_option maxRecDepth 100000 in
theorem seal_Open_ok (l L0 L1 L2 L3 L4 : List UInt8) (n : Nat) (w : World) (hl : l.length = 128) (hz : zeroL l = false) (hs : l.drop 124 = leL (crcSum (l.take 124)))
    (h0 : L0 = l.take 124) (h1 : L1 = L0.drop 1) (h2 : L2 = L1.drop 8) (h3 : L3 = L2.drop 4) (h4 : L4 = L3.drop 1) (hn : n = beV (L3.take 1)) (hb : n ≤ 110) (hb2 : zeroL (L4.drop n) = true) :
    Calls Tryd.prog 39 #[.string (bs l)] w fun e w' => e = .returned (.tuple #[.agg #[.int .u8 ((beV (L0.take 1) : Nat) : Int), .int .u64 ((beV (L1.take 8) : Nat) : Int), .int .u32 ((beV (L2.take 4) : Nat) : Int), .string (bs (L4.take n))], .int .i64 0]) ∧ Below w.heap.size w w' := by
  have hsz := (bs_size l).trans hl
  have e0 : L0.length = 124 := by rw [h0, List.length_take]; omega
  have e1 : L1.length = 123 := by rw [h1, List.length_drop]; omega
  have e2 : L2.length = 115 := by rw [h2, List.length_drop]; omega
  have e3 : L3.length = 111 := by rw [h3, List.length_drop]; omega
  have e4 : L4.length = 110 := by rw [h4, List.length_drop]; omega
  have HB := Lib.hid (fun W => seal_blank l W (by omega))
  obtain ⟨T, hT⟩ : ∃ T, T = bs (l.drop 124) := ⟨_, rfl⟩
  obtain ⟨F, hF⟩ : ∃ F, F = bs (leL (crcSum L0)) := ⟨_, rfl⟩
  have hx1 : (bs l).extract 124 128 = T := by rw [bs_extract, hT, List.take_of_length_le (by rw [List.length_drop]; omega)]
  have hx2 : (bs l).extract 0 124 = bs L0 := by rw [bs_H, h0]
  have hcmp : (T.toList == F.toList) = true := by
    rw [hT, hF, bs, bs, ByteArray.toList_mk, ByteArray.toList_mk, beq_iff_eq, h0]
    exact hs
  have hcmp2 : (T.toList != F.toList) = false := by rw [bne, hcmp]; rfl
  have HF := Lib.hid (fun W => by rw [hF]; exact foot_bs L0 W (by omega) : ∀ W, Calls Tryd.prog 53 #[.string (bs L0)] W fun e w' => e = .returned (.string F) ∧ Below W.heap.size W w')
  obtain ⟨v0, q0⟩ : ∃ v, v = beV (L0.take 1) := ⟨_, rfl⟩
  obtain ⟨v1, q1⟩ : ∃ v, v = beV (L1.take 8) := ⟨_, rfl⟩
  obtain ⟨v2, q2⟩ : ∃ v, v = beV (L2.take 4) := ⟨_, rfl⟩
  have b0 : v0 < 256 := by rw [q0]; exact beV_one_lt _ (by omega)
  have b1 : v1 < 18446744073709551616 := by rw [q1]; exact beV_eight_lt _ (by omega)
  have b2 : v2 < 4294967296 := by rw [q2]; exact beV_four_lt _ (by omega)
  have bn : n < 256 := by rw [hn]; exact beV_one_lt _ (by omega)
  have k0 : IntKind.u8.wrap (v0 : Int) = (v0 : Int) := by rw [wrap_u8n, Nat.mod_eq_of_lt b0]
  have k2 : IntKind.u32.wrap (v2 : Int) = (v2 : Int) := u32_in v2 b2
  have kn : IntKind.i64.wrap (n : Int) = (n : Int) := IntWalk.i64_in _ (by omega)
  have T0 := Lib.hid (fun R W hB => by have h := seal_take R 1 L0 W hB (by omega) (by omega) (by omega); rw [← h1, ← q0] at h; exact h : ∀ R W, Blk W R 9 [.string (bs L0)] → Calls Tryd.prog 54 #[.int .i64 1, .pointer (some ⟨R, 0, none⟩)] W fun e w' => e = .returned (.int .u64 (v0 : Int)) ∧ w' = W.setCell ⟨R, 0, none⟩ (.string (bs L1)))
  have T1 := Lib.hid (fun R W hB => by have h := seal_take R 8 L1 W hB (by omega) (by omega) (by omega); rw [← h2, ← q1] at h; exact h : ∀ R W, Blk W R 9 [.string (bs L1)] → Calls Tryd.prog 54 #[.int .i64 8, .pointer (some ⟨R, 0, none⟩)] W fun e w' => e = .returned (.int .u64 (v1 : Int)) ∧ w' = W.setCell ⟨R, 0, none⟩ (.string (bs L2)))
  have T2 := Lib.hid (fun R W hB => by have h := seal_take R 4 L2 W hB (by omega) (by omega) (by omega); rw [← h3, ← q2] at h; exact h : ∀ R W, Blk W R 9 [.string (bs L2)] → Calls Tryd.prog 54 #[.int .i64 4, .pointer (some ⟨R, 0, none⟩)] W fun e w' => e = .returned (.int .u64 (v2 : Int)) ∧ w' = W.setCell ⟨R, 0, none⟩ (.string (bs L3)))
  have T3 := Lib.hid (fun R W hB => by have h := seal_take R 1 L3 W hB (by omega) (by omega) (by omega); rw [← h4, ← hn] at h; exact h : ∀ R W, Blk W R 9 [.string (bs L3)] → Calls Tryd.prog 54 #[.int .i64 1, .pointer (some ⟨R, 0, none⟩)] W fun e w' => e = .returned (.int .u64 (n : Int)) ∧ w' = W.setCell ⟨R, 0, none⟩ (.string (bs L4)))
  have hd : decide ((110 : Int) < (n : Int)) = false := decide_eq_false (by omega)
  have hs4 := (bs_size L4).trans e4
  have hx3 : (bs L4).extract n 110 = bs (L4.drop n) := by rw [bs_extract, List.take_of_length_le (by rw [List.length_drop]; omega)]
  have HB4 := Lib.hid (fun W => seal_blank (L4.drop n) W (by rw [List.length_drop]; omega))
  have hn1 : (n : Int) ≤ 110 := by omega
  have hx4 : (bs L4).extract 0 n = bs (L4.take n) := by rw [bs_extract]; rfl
  have HC4 := Lib.hid (fun W => lib_Clone (bs (L4.take n)) W (by rw [bs_size, List.length_take]; omega))
  clear hb
  have Q0 := Lib.hid q0
  have Q1 := Lib.hid q1
  have Q2 := Lib.hid q2
  have B0 := Lib.hid ((Below.refl w.heap.size w).alloc (Nat.le_refl _) (.cells #[.int .u8 0, .int .u64 0, .int .u32 0, .string ⟨#[]⟩] 89))
  have R0 := Lib.hid (show Blk (w.alloc (.cells #[.int .u8 0, .int .u64 0, .int .u32 0, .string ⟨#[]⟩] 89)) w.heap.size 89 [.int .u8 0, .int .u64 0, .int .u32 0, .string ⟨#[]⟩] from heap_alloc_new w _)
  clear hT hF hs h0 h1 h2 h3 h4 hn q0 q1 q2 e0 e1 e2 e3 b0 b1 b2
  go_enter Tryd.func39, Tryd.ntmps39
  go_wp2_with fail
  refine (HB.out _).mono ?_
  rintro e w1 ⟨rfl, hb1⟩
  have R1 := Lib.hid (R0.out.keep hb1)
  have B1 := Lib.hid (B0.out.trans (hb1.mono B0.out.size))
  clear hb1
  go_wp2_with fail
  go_region_held3 (fun _ => True) (trivial)
    ((go_at_call 53; refine (HF.out _).mono ?_; rintro e w2 ⟨rfl, hb2⟩))
  have R2 := Lib.hid (R1.out.keep ((Below.refl w1.heap.size w1).drew.trans hb2))
  have B2 := Lib.hid (B1.out.trans (((Below.refl w1.heap.size w1).drew.trans hb2).mono B1.out.size))
  have S2 := Lib.hid R2.out.lt
  clear hb2 hcmp hcmp2 hx1
  have SB : Hid (w.heap.size ≤ w2.heap.size) := Lib.hid B2.out.size
  have R3 := Lib.hid ((R2.out.alloc (.cells #[.string (bs L0)] 9)).alloc (.cells #[.int .u8 0, .int .u64 0, .int .u32 0, .string ⟨#[]⟩] 89))
  have P3 := Lib.hid ((Blk.new1 w2 9 (.string (bs L0))).alloc (.cells #[.int .u8 0, .int .u64 0, .int .u32 0, .string ⟨#[]⟩] 89))
  have C3 : Hid (Blk ((w2.alloc (.cells #[.string (bs L0)] 9)).alloc (.cells #[.int .u8 0, .int .u64 0, .int .u32 0, .string ⟨#[]⟩] 89)) (w2.heap.size + 1) 89 [.int .u8 0, .int .u64 0, .int .u32 0, .string ⟨#[]⟩]) := Lib.hid (by
    have h : Blk ((w2.alloc (.cells #[.string (bs L0)] 9)).alloc (.cells #[.int .u8 0, .int .u64 0, .int .u32 0, .string ⟨#[]⟩] 89)) (w2.alloc (.cells #[.string (bs L0)] 9)).heap.size 89 [.int .u8 0, .int .u64 0, .int .u32 0, .string ⟨#[]⟩] := heap_alloc_new _ _
    rw [show (w2.alloc (.cells #[.string (bs L0)] 9)).heap.size = w2.heap.size + 1 from by simp] at h
    exact h)
  have B3 : Hid (Below w.heap.size w ((w2.alloc (.cells #[.string (bs L0)] 9)).alloc (.cells #[.int .u8 0, .int .u64 0, .int .u32 0, .string ⟨#[]⟩] 89))) := Lib.hid ((B2.out.alloc B2.out.size _).alloc (Nat.le_trans B2.out.size (grow1 _ _)) _)
  go_wp2_with fail
  refine (T0.out _ _ P3.out).mono ?_
  rintro e w4a ⟨rfl, hw4⟩
  have R4a := Lib.hid (show Blk w4a w.heap.size 89 _ from by rw [hw4]; exact R3.out.far (p := ⟨w2.heap.size, 0, none⟩) (Nat.ne_of_lt S2.out) _)
  have P4a := Lib.hid (show Blk w4a w2.heap.size 9 [.string (bs L1)] from by rw [hw4]; exact P3.out.set_ 0 _)
  have C4a := Lib.hid (show Blk w4a (w2.heap.size + 1) 89 _ from by rw [hw4]; exact C3.out.far (p := ⟨w2.heap.size, 0, none⟩) (Nat.succ_ne_self _) _)
  have B4a := Lib.hid (show Below w.heap.size w w4a from by rw [hw4]; exact B3.out.setCell (p := ⟨w2.heap.size, 0, none⟩) SB.out _)
  clear hw4
  have y0 := C4a.out.frozen 0
  have x0 : w4a.cell? ⟨w2.heap.size + 1, 0, none⟩ = _ := C4a.out.cell 0
  simp only [List.getElem?_cons_zero, List.getElem?_cons_succ] at x0
  have R4 := Lib.hid (R4a.out.far (p := ⟨w2.heap.size + 1, 0, none⟩) (Nat.ne_of_lt (Nat.lt_succ_of_lt S2.out)) (.int .u8 (v0 : Int)))
  have P4 := Lib.hid (P4a.out.far (p := ⟨w2.heap.size + 1, 0, none⟩) (Nat.ne_of_lt (Nat.lt_succ_self _)) (.int .u8 (v0 : Int)))
  have C4 : Hid (Blk (w4a.setCell ⟨w2.heap.size + 1, 0, none⟩ (.int .u8 (v0 : Int))) (w2.heap.size + 1) 89 [.int .u8 (v0 : Int), .int .u64 0, .int .u32 0, .string ⟨#[]⟩]) := Lib.hid (C4a.out.set_ 0 _)
  have B4 := Lib.hid (B4a.out.setCell (p := ⟨w2.heap.size + 1, 0, none⟩) (Nat.le_succ_of_le SB.out) (.int .u8 (v0 : Int)))
  go_wp2_with fail
  clear x0 y0
  refine (T1.out _ _ P4.out).mono ?_
  rintro e w5a ⟨rfl, hw5⟩
  have R5a := Lib.hid (show Blk w5a w.heap.size 89 _ from by rw [hw5]; exact R4.out.far (p := ⟨w2.heap.size, 0, none⟩) (Nat.ne_of_lt S2.out) _)
  have P5a := Lib.hid (show Blk w5a w2.heap.size 9 [.string (bs L2)] from by rw [hw5]; exact P4.out.set_ 0 _)
  have C5a := Lib.hid (show Blk w5a (w2.heap.size + 1) 89 _ from by rw [hw5]; exact C4.out.far (p := ⟨w2.heap.size, 0, none⟩) (Nat.succ_ne_self _) _)
  have B5a := Lib.hid (show Below w.heap.size w w5a from by rw [hw5]; exact B4.out.setCell (p := ⟨w2.heap.size, 0, none⟩) SB.out _)
  clear hw5
  have y1 := C5a.out.frozen 1
  have x1 : w5a.cell? ⟨w2.heap.size + 1, 1, none⟩ = _ := C5a.out.cell 1
  simp only [List.getElem?_cons_zero, List.getElem?_cons_succ] at x1
  have R5 := Lib.hid (R5a.out.far (p := ⟨w2.heap.size + 1, 1, none⟩) (Nat.ne_of_lt (Nat.lt_succ_of_lt S2.out)) (.int .u64 (v1 : Int)))
  have P5 := Lib.hid (P5a.out.far (p := ⟨w2.heap.size + 1, 1, none⟩) (Nat.ne_of_lt (Nat.lt_succ_self _)) (.int .u64 (v1 : Int)))
  have C5 : Hid (Blk (w5a.setCell ⟨w2.heap.size + 1, 1, none⟩ (.int .u64 (v1 : Int))) (w2.heap.size + 1) 89 [.int .u8 (v0 : Int), .int .u64 (v1 : Int), .int .u32 0, .string ⟨#[]⟩]) := Lib.hid (C5a.out.set_ 1 _)
  have B5 := Lib.hid (B5a.out.setCell (p := ⟨w2.heap.size + 1, 1, none⟩) (Nat.le_succ_of_le SB.out) (.int .u64 (v1 : Int)))
  go_wp2_with fail
  clear x1 y1
  refine (T2.out _ _ P5.out).mono ?_
  rintro e w6a ⟨rfl, hw6⟩
  have R6a := Lib.hid (show Blk w6a w.heap.size 89 _ from by rw [hw6]; exact R5.out.far (p := ⟨w2.heap.size, 0, none⟩) (Nat.ne_of_lt S2.out) _)
  have P6a := Lib.hid (show Blk w6a w2.heap.size 9 [.string (bs L3)] from by rw [hw6]; exact P5.out.set_ 0 _)
  have C6a := Lib.hid (show Blk w6a (w2.heap.size + 1) 89 _ from by rw [hw6]; exact C5.out.far (p := ⟨w2.heap.size, 0, none⟩) (Nat.succ_ne_self _) _)
  have B6a := Lib.hid (show Below w.heap.size w w6a from by rw [hw6]; exact B5.out.setCell (p := ⟨w2.heap.size, 0, none⟩) SB.out _)
  clear hw6
  have y2 := C6a.out.frozen 2
  have x2 : w6a.cell? ⟨w2.heap.size + 1, 2, none⟩ = _ := C6a.out.cell 2
  simp only [List.getElem?_cons_zero, List.getElem?_cons_succ] at x2
  have R6 := Lib.hid (R6a.out.far (p := ⟨w2.heap.size + 1, 2, none⟩) (Nat.ne_of_lt (Nat.lt_succ_of_lt S2.out)) (.int .u32 (v2 : Int)))
  have P6 := Lib.hid (P6a.out.far (p := ⟨w2.heap.size + 1, 2, none⟩) (Nat.ne_of_lt (Nat.lt_succ_self _)) (.int .u32 (v2 : Int)))
  have C6 : Hid (Blk (w6a.setCell ⟨w2.heap.size + 1, 2, none⟩ (.int .u32 (v2 : Int))) (w2.heap.size + 1) 89 [.int .u8 (v0 : Int), .int .u64 (v1 : Int), .int .u32 (v2 : Int), .string ⟨#[]⟩]) := Lib.hid (C6a.out.set_ 2 _)
  have B6 := Lib.hid (B6a.out.setCell (p := ⟨w2.heap.size + 1, 2, none⟩) (Nat.le_succ_of_le SB.out) (.int .u32 (v2 : Int)))
  go_wp2_with fail
  clear x2 y2
  refine (T3.out _ _ P6.out).mono ?_
  rintro e w7a ⟨rfl, hw7⟩
  have R7a := Lib.hid (show Blk w7a w.heap.size 89 _ from by rw [hw7]; exact R6.out.far (p := ⟨w2.heap.size, 0, none⟩) (Nat.ne_of_lt S2.out) _)
  have P7a := Lib.hid (show Blk w7a w2.heap.size 9 [.string (bs L4)] from by rw [hw7]; exact P6.out.set_ 0 _)
  have C7a := Lib.hid (show Blk w7a (w2.heap.size + 1) 89 _ from by rw [hw7]; exact C6.out.far (p := ⟨w2.heap.size, 0, none⟩) (Nat.succ_ne_self _) _)
  have B7a := Lib.hid (show Below w.heap.size w w7a from by rw [hw7]; exact B6.out.setCell (p := ⟨w2.heap.size, 0, none⟩) SB.out _)
  clear hw7
  have p0 := P7a.out.cell0
  go_wp2_with fail
  refine (HB4.out _).mono ?_
  rintro e w8 ⟨rfl, hb8⟩
  have R8 := Lib.hid (R7a.out.keep hb8)
  have P8 := Lib.hid (P7a.out.keep hb8)
  have C8 := Lib.hid (C7a.out.keep hb8)
  have B8 := Lib.hid (B7a.out.trans (hb8.mono B7a.out.size))
  have p8 := P8.out.cell0
  clear hb8 p0
  go_wp2_with fail
  refine (HC4.out _).mono ?_
  rintro e w9 ⟨rfl, hb9⟩
  have R9 := Lib.hid (R8.out.keep hb9)
  have C9 := Lib.hid (C8.out.keep hb9)
  have B9 := Lib.hid (B8.out.trans (hb9.mono B8.out.size))
  have y9 := C9.out.frozen 3
  have x9 := C9.out.four.2.2.2
  have C10 : Hid (Blk (w9.setCell ⟨w2.heap.size + 1, 3, none⟩ (.string (bs (L4.take n)))) (w2.heap.size + 1) 89 [.int .u8 (v0 : Int), .int .u64 (v1 : Int), .int .u32 (v2 : Int), .string (bs (L4.take n))]) := Lib.hid (C9.out.set_ 3 _)
  have R10 := Lib.hid (R9.out.far (p := ⟨w2.heap.size + 1, 3, none⟩) (Nat.ne_of_lt (Nat.lt_succ_of_lt S2.out)) (.string (bs (L4.take n))))
  have B10 := Lib.hid (B9.out.setCell (p := ⟨w2.heap.size + 1, 3, none⟩) (Nat.le_succ_of_le SB.out) (.string (bs (L4.take n))))
  obtain ⟨z0, z1, z2, z3⟩ := C10.out.four
  obtain ⟨c0, c1, c2, c3⟩ := R10.out.four
  have f0 := R10.out.frozen 0
  have f1 := R10.out.frozen 1
  have f2 := R10.out.frozen 2
  have f3 := R10.out.frozen 3
  clear hb9 p8
  go_wp2_with fail
  obtain ⟨d0, d1, d2, d3⟩ := (R10.out.put4 (.int .u8 (v0 : Int)) (.int .u64 (v1 : Int)) (.int .u32 (v2 : Int)) (.string (bs (L4.take n)))).four
  rw [← Q0.out, ← Q1.out, ← Q2.out]
  refine bodyPost_ret (v := .tuple #[.agg #[.int .u8 (v0 : Int), .int .u64 (v1 : Int), .int .u32 (v2 : Int), .string (bs (L4.take n))], .int .i64 0]) (by simp [results, Tryd.results39, go_sem, d0, d1, d2, d3]) rfl ⟨rfl, ?_⟩
  exact below_put4 B10.out (Nat.le_refl _) _ _ _ _

end Go.Proofs.YtbigpapniloknaaDoor
