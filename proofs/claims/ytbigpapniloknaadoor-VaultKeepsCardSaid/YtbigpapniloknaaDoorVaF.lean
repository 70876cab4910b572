/- The contract of vault's Open. -/
import Derived.Test.YtbigpapniloknaaDoorVaR
import Derived.Test.YtbigpapniloknaaDoorVaC
import Derived.Deep.Cut
import Derived.Deep.CutBlock
import Derived.Deep.RegionHeld3
namespace Go.Proofs.YtbigpapniloknaaDoor
open Go.RowKit Go.Maps
set_option maxRecDepth 100000

/-- What Open tells. -/
def openC (D : DSt) (n : Nat) : Nat :=
  if (lookF D ((2 * n : Nat) : Int) D.lasts.length).1 = true then 16
  else if ((lookF D ((2 * n : Nat) : Int) D.lasts.length).2.1 || (!(newestF D n).2.2.2 || decide ((newestF D n).2.1 < (lookF D ((2 * n : Nat) : Int) D.lasts.length).2.2))) = true then 8 else 0

theorem sight_at (bl br : Bool) (lg : Nat) (W : World) : (Instr.field 63 (.agg #[.bool bl, .bool br, .int .u64 (lg : Int)]) 0).run Tryd.prog W = .ok (.bool bl) W := by kernel_rfl

set_option maxHeartbeats 8000000 in
theorem vault_Open_no (base : Nat) (w : World) (p gl M : Nat) (v : Value) (D : DSt) (n : Nat) (h : IsDisk base w p gl M v D) (h1 : 1 ≤ n) (h2 : 2 * n + 1 ≤ D.lasts.length) (hc : openC D n ≠ 0) :
    Calls Tryd.prog 8 #[.pointer (some ⟨p, 0, none⟩), .int .i64 (n : Int)] w fun e w' => e = .returned (.tuple #[vaultV 0 0 0 0 0 0 false, .string ⟨#[]⟩, .slice none 0 0, .int .i64 ((openC D n : Nat) : Int)]) ∧ Below w.heap.size w w' := by
  have hl : D.lasts.length ≤ 4096 := h.2.2.2.2.1.2.1
  have HD : Hid (∀ W, Below w.heap.size w W → IsDisk base W p gl M v D) := Lib.hid (fun W hb => h.keep hb)
  have HF := Lib.hid (fun W (hb : Below w.heap.size w W) => vault_fits base W p gl M v D n (HD.out W hb) h1 h2)
  have HSL := Lib.hid (fun W => vault_slots n W)
  obtain ⟨q, hq⟩ : ∃ q, q = 2 * n := ⟨_, rfl⟩
  have HAT : Hid (∀ W b, Blk W b 3 [.int .i64 (n : Int)] → Calls Tryd.prog 41 #[.int .i64 2, .pointer (some ⟨b, 0, none⟩)] W fun e w' => e = .returned (.int .i64 (q : Int)) ∧ W = w') := Lib.hid (fun W b hb => by
    have := vault_at n 2 b W hb (by omega) (by decide)
    rw [← hq] at this
    exact this)
  have HLK := Lib.hid (fun W (hb : Below w.heap.size w W) => vault_look base W p gl M v D q (HD.out W hb) (by omega))
  have HNW := Lib.hid (fun W (hb : Below w.heap.size w W) => vault_newest base W p gl M v D n (HD.out W hb) (by omega))
  have HC : Hid (openC D n = if (lookF D (q : Int) D.lasts.length).1 = true then 16 else if ((lookF D (q : Int) D.lasts.length).2.1 || (!(newestF D n).2.2.2 || decide ((newestF D n).2.1 < (lookF D (q : Int) D.lasts.length).2.2))) = true then 8 else 0) := Lib.hid (by unfold openC; rw [← hq])
  obtain ⟨⟨bl, br, lg⟩, hx⟩ : ∃ x, x = lookF D (q : Int) D.lasts.length := ⟨_, rfl⟩
  obtain ⟨⟨sl, gn, tx, wh⟩, hy⟩ : ∃ x, x = newestF D n := ⟨_, rfl⟩
  obtain ⟨c, hcc⟩ : ∃ c, c = openC D n := ⟨_, rfl⟩
  rw [← hx, ← hy, ← hcc] at HC
  rw [← hx] at HLK
  rw [← hy] at HNW
  rw [← hcc] at hc ⊢
  unfold sightV at HLK
  unfold foundV at HNW
  dsimp only at HLK HNW HC
  have HRT := Lib.hid (fun W => vault_rotten bl br lg sl gn tx wh W)
  obtain ⟨W1, hW1⟩ : ∃ W1, W1 = w.alloc (.cells #[.int .i64 0, .int .i64 0, .int .i64 0, .int .i64 0, .int .u64 0, .int .i64 0, .bool false] 33) := ⟨_, rfl⟩
  have R1 : Hid (Blk W1 w.heap.size 33 [.int .i64 0, .int .i64 0, .int .i64 0, .int .i64 0, .int .u64 0, .int .i64 0, .bool false]) := Lib.hid (by rw [hW1]; exact Blk.box7 _ _ _ _ _ _ _ _ _)
  have B1 : Hid (Below w.heap.size w W1) := Lib.hid (by rw [hW1]; exact (Below.refl _ _).alloc (Nat.le_refl _) _)
  clear h h1 h2 hl hx hy hcc
  have HCN := Lib.hid hc
  clear hc hq
  unfold vaultV
  go_enter Tryd.func8, Tryd.ntmps8
  go_wp2_with fail
  rw [← hW1]
  clear hW1
  refine (HF.out _ B1.out).mono ?_
  rintro e w2 ⟨rfl, rfl⟩
  go_wp2_with fail
  refine (HSL.out _).mono ?_
  rintro e w2 ⟨rfl, s2, b2⟩
  have S2 := Lib.hid s2
  have R2 := Lib.hid (R1.out.keep b2)
  have B2 := Lib.hid (B1.out.trans (b2.mono B1.out.size))
  clear s2 b2 HF HSL R1 B1
  go_wp2_with fail
  refine (HAT.out _ _ S2.out).mono ?_
  rintro e w3 ⟨rfl, rfl⟩
  go_wp2_with fail
  refine (HLK.out _ B2.out).mono ?_
  rintro e w3 ⟨rfl, b3⟩
  have S3 := Lib.hid (S2.out.keep b3)
  have R3 := Lib.hid (R2.out.keep b3)
  have B3 := Lib.hid (B2.out.trans (b3.mono B2.out.size))
  clear b3 HLK S2 R2 B2
  go_wp2_with fail
  refine (HNW.out _ B3.out).mono ?_
  rintro e w4 ⟨rfl, b4⟩
  have S4 := Lib.hid (S3.out.keep b4)
  have R4 := Lib.hid (R3.out.keep b4)
  have B4 := Lib.hid (B3.out.trans (b4.mono B3.out.size))
  clear b4 HNW S3 R3 B3
  go_upto_region 5 with fail
  obtain ⟨W5, hW5⟩ : ∃ W5, W5 = ((w4.alloc (.cells #[.bool bl, .bool br, .int .u64 (lg : Int)] 63)).alloc (.cells #[.int .i64 (sl : Int), .int .u64 (gn : Int), .string (bs tx), .bool wh] 67)) := ⟨_, rfl⟩
  have bel5 : Below w4.heap.size w4 W5 := by rw [hW5]; exact ((Below.refl _ _).alloc (Nat.le_refl _) _).alloc (by simp) _
  have X5 : Hid (Blk W5 w4.heap.size 63 [.bool bl, .bool br, .int .u64 (lg : Int)]) := Lib.hid (by rw [hW5]; exact Blk.alloc (heap_alloc_new w4 _) _)
  have Y5 : Hid (Blk W5 (w4.heap.size + 1) 67 [.int .i64 (sl : Int), .int .u64 (gn : Int), .string (bs tx), .bool wh]) := Lib.hid (by rw [hW5]; have := heap_alloc_new (w4.alloc (.cells #[.bool bl, .bool br, .int .u64 (lg : Int)] 63)) (.cells #[.int .i64 (sl : Int), .int .u64 (gn : Int), .string (bs tx), .bool wh] 67); rw [World.size_alloc] at this; exact this)
  have R5 := Lib.hid (R4.out.keep bel5)
  have B5 := Lib.hid (B4.out.trans (bel5.mono B4.out.size))
  rw [← hW5]
  clear bel5 hW5 S4 R4 B4
  obtain ⟨x0, x1, x2⟩ := X5.out.threeV
  obtain ⟨y0, y1, y2, y3⟩ := Y5.out.four
  obtain ⟨a0, a1, a2, a3, a4, a5, a6⟩ := R5.out.sevenV
  obtain ⟨f0, f1, f2, f3, f4, f5, f6⟩ := R5.out.frozen7
  have hbuilt : Tryd.prog.built 33 [] = some #[.int .i64 0, .int .i64 0, .int .i64 0, .int .i64 0, .int .u64 0, .int .i64 0, .bool false] := by kernel_rfl
  obtain ⟨r0, r1, r2, r3, r4, r5, r6⟩ := (R5.out.put7 (.int .i64 0) (.int .i64 0) (.int .i64 0) (.int .i64 0) (.int .u64 0) (.int .i64 0) (.bool false)).sevenV
  cases bl with
  | true =>
    have HC1 : Hid (c = 16) := Lib.hid (by rw [HC.out, if_pos rfl])
    clear r0 r1 r2 r3 r4 r5 r6
    go_wp2_with fail
    obtain ⟨r0, r1, r2, r3, r4, r5, r6⟩ := (R5.out.put7 (.int .i64 0) (.int .i64 0) (.int .i64 0) (.int .i64 0) (.int .u64 0) (.int .i64 0) (.bool false)).sevenV
    refine bodyPost_ret (v := .tuple #[.agg #[.int .i64 0, .int .i64 0, .int .i64 0, .int .i64 0, .int .u64 0, .int .i64 0, .bool false], .string ⟨#[]⟩, .slice none 0 0, .int .i64 16]) (by simp [results, Tryd.results8, go_sem, r0, r1, r2, r3, r4, r5, r6]) rfl ?_
    exact ⟨by rw [HC1.out]; rfl, below_put7 B5.out (Nat.le_refl _) _ _ _ _ _ _ _⟩
  | false =>
    have hb : (br || (!wh || decide (gn < lg))) = true := by
      cases hz : (br || (!wh || decide (gn < lg))) with
      | true => rfl
      | false => exact absurd (by rw [HC.out, hz, if_neg (by decide), if_neg (by decide)]) HCN.out
    have HC1 : Hid (c = 8) := Lib.hid (by rw [HC.out, hb, if_neg (by decide), if_pos rfl])
    rw [hb] at HRT
    clear hb HC r0 r1 r2 r3 r4 r5 r6
    go_wp2_with fail
    refine (HRT.out _).mono ?_
    rintro e w6 ⟨rfl, b6⟩
    have R6 := Lib.hid (R5.out.keep b6)
    have B6 := Lib.hid (B5.out.trans (b6.mono B5.out.size))
    clear b6 HRT a0 a1 a2 a3 a4 a5 a6 f0 f1 f2 f3 f4 f5 f6 x0 x1 x2 y0 y1 y2 y3 R5 B5 X5 Y5
    obtain ⟨a0, a1, a2, a3, a4, a5, a6⟩ := R6.out.sevenV
    obtain ⟨f0, f1, f2, f3, f4, f5, f6⟩ := R6.out.frozen7
    go_wp2_with fail
    obtain ⟨r0, r1, r2, r3, r4, r5, r6⟩ := (R6.out.put7 (.int .i64 0) (.int .i64 0) (.int .i64 0) (.int .i64 0) (.int .u64 0) (.int .i64 0) (.bool false)).sevenV
    refine bodyPost_ret (v := .tuple #[.agg #[.int .i64 0, .int .i64 0, .int .i64 0, .int .i64 0, .int .u64 0, .int .i64 0, .bool false], .string ⟨#[]⟩, .slice none 0 0, .int .i64 8]) (by simp [results, Tryd.results8, go_sem, r0, r1, r2, r3, r4, r5, r6]) rfl ?_
    exact ⟨by rw [HC1.out]; rfl, below_put7 B6.out (Nat.le_refl _) _ _ _ _ _ _ _⟩
end Go.Proofs.YtbigpapniloknaaDoor
