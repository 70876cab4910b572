/- Contracts of a vault's Append. -/
import Derived.Test.YtbigpapniloknaaDoorVaR
import Derived.Test.YtbigpapniloknaaDoorVaA
import Derived.Deep.Cut
import Derived.Deep.CutBlock
namespace Go.Proofs.YtbigpapniloknaaDoor
open Go.RowKit Go.Maps
set_option maxRecDepth 100000

set_option maxHeartbeats 4000000 in
theorem vault_Append_stuck (n sl fr room : Int) (g : Nat) (nx : Int) (pd : Value) (s : ByteArray) (w : World) :
    Calls Tryd.prog 9 #[vaultV n sl fr room g nx true, pd, .string s] w fun e w' => e = .returned (.tuple #[vaultV n sl fr room g nx true, .int .i64 15]) ∧ Below w.heap.size w w' := by
  unfold vaultV
  obtain ⟨W0, hW0⟩ : ∃ W0, W0 = ((w.alloc (.cells #[.int .i64 n, .int .i64 sl, .int .i64 fr, .int .i64 room, .int .u64 (g : Int), .int .i64 nx, .bool true] 33)).alloc (.cells #[.int .i64 0, .int .i64 0, .int .i64 0, .int .i64 0, .int .u64 0, .int .i64 0, .bool false] 33)) := ⟨_, rfl⟩
  have V0 : Hid (Blk W0 w.heap.size 33 [.int .i64 n, .int .i64 sl, .int .i64 fr, .int .i64 room, .int .u64 (g : Int), .int .i64 nx, .bool true]) := Lib.hid (by rw [hW0]; exact (Blk.box7 _ _ _ _ _ _ _ _ _).alloc _)
  have R0 : Hid (Blk W0 (w.heap.size + 1) 33 [.int .i64 0, .int .i64 0, .int .i64 0, .int .i64 0, .int .u64 0, .int .i64 0, .bool false]) := Lib.hid (by rw [hW0]; have := Blk.box7 (w.alloc (.cells #[.int .i64 n, .int .i64 sl, .int .i64 fr, .int .i64 room, .int .u64 (g : Int), .int .i64 nx, .bool true] 33)) 33 (.int .i64 0) (.int .i64 0) (.int .i64 0) (.int .i64 0) (.int .u64 0) (.int .i64 0) (.bool false); rw [World.size_alloc] at this; exact this)
  have B0 : Hid (Below w.heap.size w W0) := Lib.hid (by rw [hW0]; exact ((Below.refl _ _).alloc (Nat.le_refl _) _).alloc (by simp) _)
  go_enter Tryd.func9, Tryd.ntmps9
  go_upto_region 1 with fail
  rw [← hW0]
  clear hW0
  obtain ⟨a0, a1, a2, a3, a4, a5, a6⟩ := V0.out.sevenV
  obtain ⟨b0, b1, b2, b3, b4, b5, b6⟩ := R0.out.sevenV
  obtain ⟨f0, f1, f2, f3, f4, f5, f6⟩ := R0.out.frozen7
  go_wp2_with fail
  obtain ⟨r0, r1, r2, r3, r4, r5, r6⟩ := (R0.out.put7 (.int .i64 n) (.int .i64 sl) (.int .i64 fr) (.int .i64 room) (.int .u64 (g : Int)) (.int .i64 nx) (.bool true)).sevenV
  refine bodyPost_ret (v := .tuple #[.agg #[.int .i64 n, .int .i64 sl, .int .i64 fr, .int .i64 room, .int .u64 (g : Int), .int .i64 nx, .bool true], .int .i64 15]) (by simp [results, Tryd.results9, go_sem, r0, r1, r2, r3, r4, r5, r6]) rfl ?_
  exact ⟨rfl, below_put7 B0.out (Nat.le_succ _) _ _ _ _ _ _ _⟩

set_option maxHeartbeats 8000000 in
theorem vault_Append (base : Nat) (w : World) (p gl M : Nat) (v : Value) (D : DSt) (n sl : Int) (fr room g nx : Nat) (d : List UInt8) (h : IsDisk base w p gl M v D) (hs : Small1 D) (hbs : base ≤ w.heap.size) (h1 : 1 ≤ room) (h2 : fr + room ≤ D.lasts.length) (h3 : nx ≤ room)
    (hg : g < 18446744073709551616) (hd : d.length ≤ 9223372036854775807) :
    Calls Tryd.prog 9 #[vaultV n sl (fr : Int) (room : Int) g (nx : Int) false, .pointer (some ⟨p, 0, none⟩), .string (bs d)] w fun e w' =>
      e = .returned (.tuple #[vaultV n sl (fr : Int) (room : Int) g (((appL D fr room g nx d).2.1 : Nat) : Int) false, .int .i64 (((appL D fr room g nx d).2.2 : Nat) : Int)]) ∧ ∃ v', IsDisk base w' p gl M v' (appL D fr room g nx d).1 ∧ Below base w w' ∧ Keeps w w' := by
  have HAP := Lib.hid (fun W (hW : IsDisk base W p gl M v D) (hb : base ≤ W.heap.size) => log_Append base W p gl M v D fr room g nx d hW hs hb h1 h2 h3 hg hd)
  obtain ⟨E, hE⟩ : ∃ E, E = (appL D fr room g nx d).1 := ⟨_, rfl⟩
  obtain ⟨y, hy⟩ : ∃ y, y = (appL D fr room g nx d).2.1 := ⟨_, rfl⟩
  obtain ⟨c, hc⟩ : ∃ c, c = (appL D fr room g nx d).2.2 := ⟨_, rfl⟩
  rw [← hE, ← hy, ← hc] at HAP ⊢
  unfold logV at HAP
  unfold vaultV
  obtain ⟨W0, hW0⟩ : ∃ W0, W0 = ((w.alloc (.cells #[.int .i64 n, .int .i64 sl, .int .i64 (fr : Int), .int .i64 (room : Int), .int .u64 (g : Int), .int .i64 (nx : Int), .bool false] 33)).alloc (.cells #[.int .i64 0, .int .i64 0, .int .i64 0, .int .i64 0, .int .u64 0, .int .i64 0, .bool false] 33)) := ⟨_, rfl⟩
  have V0 : Hid (Blk W0 w.heap.size 33 [.int .i64 n, .int .i64 sl, .int .i64 (fr : Int), .int .i64 (room : Int), .int .u64 (g : Int), .int .i64 (nx : Int), .bool false]) := Lib.hid (by rw [hW0]; exact (Blk.box7 _ _ _ _ _ _ _ _ _).alloc _)
  have R0 : Hid (Blk W0 (w.heap.size + 1) 33 [.int .i64 0, .int .i64 0, .int .i64 0, .int .i64 0, .int .u64 0, .int .i64 0, .bool false]) := Lib.hid (by rw [hW0]; have := Blk.box7 (w.alloc (.cells #[.int .i64 n, .int .i64 sl, .int .i64 (fr : Int), .int .i64 (room : Int), .int .u64 (g : Int), .int .i64 (nx : Int), .bool false] 33)) 33 (.int .i64 0) (.int .i64 0) (.int .i64 0) (.int .i64 0) (.int .u64 0) (.int .i64 0) (.bool false); rw [World.size_alloc] at this; exact this)
  have B0 : Hid (Below w.heap.size w W0) := Lib.hid (by rw [hW0]; exact ((Below.refl _ _).alloc (Nat.le_refl _) _).alloc (by simp) _)
  have D0 : Hid (IsDisk base W0 p gl M v D) := Lib.hid (h.keep B0.out)
  have HBS := Lib.hid hbs
  clear h hs hbs h1 h2 h3 hg hd hE hy hc
  go_enter Tryd.func9, Tryd.ntmps9
  go_upto_region 1 with fail
  rw [← hW0]
  clear hW0
  obtain ⟨a0, a1, a2, a3, a4, a5, a6⟩ := V0.out.sevenV
  go_wp2_with fail
  refine (HAP.out _ D0.out (Nat.le_trans HBS.out B0.out.size)).mono ?_
  rintro e w1 ⟨rfl, v1, h1, hb1, hk1⟩
  have V1 := Lib.hid (hk1 _ _ _ (by decide) (by decide) (by decide) V0.out)
  have R1 := Lib.hid (hk1 _ _ _ (by decide) (by decide) (by decide) R0.out)
  have B1 := Lib.hid ((B0.out.mono HBS.out).trans hb1)
  have K1 := Lib.hid ((Keeps.of_below B0.out).trans hk1)
  have D1 := Lib.hid h1
  clear h1 hb1 hk1 HAP V0 R0 B0 D0 a0 a1 a2 a3 a4 a5 a6
  obtain ⟨W2, hW2⟩ : ∃ W2, W2 = (((w1.setCell ⟨w.heap.size, 2, none⟩ (.int .i64 (fr : Int))).setCell ⟨w.heap.size, 3, none⟩ (.int .i64 (room : Int))).setCell ⟨w.heap.size, 4, none⟩ (.int .u64 (g : Int))).setCell ⟨w.heap.size, 5, none⟩ (.int .i64 (y : Int)) := ⟨_, rfl⟩
  have V2 : Hid (Blk W2 w.heap.size 33 [.int .i64 n, .int .i64 sl, .int .i64 (fr : Int), .int .i64 (room : Int), .int .u64 (g : Int), .int .i64 (y : Int), .bool false]) := Lib.hid (by rw [hW2]; exact V1.out.putL _ _ _ _)
  have R2 : Hid (Blk W2 (w.heap.size + 1) 33 [.int .i64 0, .int .i64 0, .int .i64 0, .int .i64 0, .int .u64 0, .int .i64 0, .bool false]) := Lib.hid (by rw [hW2]; exact R1.out.farN (g := w.heap.size) (by omega) 2 [.int .i64 (fr : Int), .int .i64 (room : Int), .int .u64 (g : Int), .int .i64 (y : Int)])
  have D2 : Hid (IsDisk base W2 p gl M v1 E) := Lib.hid (by rw [hW2]; exact D1.out.putN V1.out (by decide) (by decide) (by decide) 2 [.int .i64 (fr : Int), .int .i64 (room : Int), .int .u64 (g : Int), .int .i64 (y : Int)])
  have B2 : Hid (Below base w W2) := Lib.hid (by rw [hW2]; exact Below.setCells B1.out (g := w.heap.size) HBS.out [.int .i64 (fr : Int), .int .i64 (room : Int), .int .u64 (g : Int), .int .i64 (y : Int)] 2)
  have K2 : Hid (Keeps w W2) := Lib.hid (by rw [hW2]; exact K1.out.putN (g := w.heap.size) (Nat.le_refl _) 2 [.int .i64 (fr : Int), .int .i64 (room : Int), .int .u64 (g : Int), .int .i64 (y : Int)])
  obtain ⟨a0, a1, a2, a3, a4, a5, a6⟩ := V1.out.sevenV
  obtain ⟨f0, f1, f2, f3, f4, f5, f6⟩ := V1.out.frozen7
  go_upto_region 5 with fail
  rw [← hW2]
  clear hW2 V1 R1 D1 B1 K1 a0 a1 a2 a3 a4 a5 a6 f0 f1 f2 f3 f4 f5 f6
  obtain ⟨a0, a1, a2, a3, a4, a5, a6⟩ := V2.out.sevenV
  obtain ⟨b0, b1, b2, b3, b4, b5, b6⟩ := R2.out.sevenV
  obtain ⟨f0, f1, f2, f3, f4, f5, f6⟩ := R2.out.frozen7
  go_wp2_with fail
  obtain ⟨r0, r1, r2, r3, r4, r5, r6⟩ := (R2.out.put7 (.int .i64 n) (.int .i64 sl) (.int .i64 (fr : Int)) (.int .i64 (room : Int)) (.int .u64 (g : Int)) (.int .i64 (y : Int)) (.bool false)).sevenV
  refine bodyPost_ret (v := .tuple #[.agg #[.int .i64 n, .int .i64 sl, .int .i64 (fr : Int), .int .i64 (room : Int), .int .u64 (g : Int), .int .i64 (y : Int), .bool false], .int .i64 (c : Int)]) (by simp [results, Tryd.results9, go_sem, r0, r1, r2, r3, r4, r5, r6]) rfl ?_
  exact ⟨rfl, v1, D2.out.put7 R2.out (by decide) (by decide) (by decide) _ _ _ _ _ _ _, below_put7 B2.out (Nat.le_trans HBS.out (Nat.le_succ _)) _ _ _ _ _ _ _, K2.out.put7' (Nat.le_succ _) _ _ _ _ _ _ _⟩
end Go.Proofs.YtbigpapniloknaaDoor
