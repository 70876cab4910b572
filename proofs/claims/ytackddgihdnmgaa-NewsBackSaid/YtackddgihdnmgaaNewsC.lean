/- each of a round, by the functions that closed and opened hand over. Written by wip/tools/gen_news.py. -/
import Derived.Test.YtackddgihdnmgaaNewsB
namespace Go.Proofs.Ytackddgihdnmgaa
open Go.RowKit
set_option maxRecDepth 100000

set_option maxHeartbeats 8000000 in
theorem eachR_closed (n₀ B : Nat) {σ : Type} (step : σ → Nat → Nat → σ × Nat) (Inv : σ → World → Prop) (Can : σ → Nat → Prop) (HF : NumFn 35 #[.pointer (some ⟨B, 0, none⟩)] n₀ step Inv Can) (s : σ) (a b c : Nat) (w : World)
    (hs : Inv s w) (hc : Can s 3) (ha : a < 18446744073709551616) (hb : b < 4294967296) (hc8 : c < 256) (hn0 : n₀ ≤ w.heap.size) :
    Calls Try.prog 19 #[.agg #[.int .u64 (a : Int), .int .u32 (b : Int), .int .u8 (c : Int)], .func (.func 35) #[] #[.pointer (some ⟨B, 0, none⟩)]] w fun e w' =>
      e = .returned (.agg #[.int .u64 ((step s a 8).2 : Int), .int .u32 ((step (step s a 8).1 b 4).2 : Int), .int .u8 ((step (step (step s a 8).1 b 4).1 c 1).2 : Int)]) ∧ Inv (step (step (step s a 8).1 b 4).1 c 1).1 w' ∧ Below n₀ w w' ∧ KeepT eachT w w' := by
  obtain ⟨HC, HCan, HSm, HKp⟩ := HF
  have e8 : (256 : Nat) ^ 8 = 18446744073709551616 := by decide
  have e4 : (256 : Nat) ^ 4 = 4294967296 := by decide
  have e1 : (256 : Nat) ^ 1 = 256 := by decide
  obtain ⟨p1, hp1⟩ : ∃ p, p = step s a 8 := ⟨_, rfl⟩
  rw [← hp1]
  obtain ⟨p2, hp2⟩ : ∃ p, p = step p1.1 b 4 := ⟨_, rfl⟩
  rw [← hp2]
  obtain ⟨p3, hp3⟩ : ∃ p, p = step p2.1 c 1 := ⟨_, rfl⟩
  rw [← hp3]
  have c1 : Can p1.1 2 := by rw [hp1]; exact HCan s a 8 2 hc (by decide) (by decide)
  have c2 : Can p2.1 1 := by rw [hp2]; exact HCan p1.1 b 4 1 c1 (by decide) (by decide)
  have z2 : p2.2 < 4294967296 := by rw [hp2, ← e4]; exact HSm p1.1 b 4 (by decide) (by decide) (by omega)
  have z3 : p3.2 < 256 := by rw [hp3]; have := HSm p2.1 c 1 (by decide) (by decide) (by omega); omega
  have H1 := Lib.hid (fun W (h : Inv s W) => HC s a 8 2 W h hc (by decide) (by decide) (by omega) ha)
  have H2 := Lib.hid (fun W (h : Inv p1.1 W) => HC p1.1 b 4 1 W h c1 (by decide) (by decide) (by omega) (by omega))
  have H3 := Lib.hid (fun W (h : Inv p2.1 W) => HC p2.1 c 1 0 W h c2 (by decide) (by decide) (by omega) (by omega))
  rw [← hp1] at H1
  rw [← hp2] at H2
  rw [← hp3] at H3
  have KP := Lib.hid HKp
  have HS := Lib.hid hs
  have wb : IntKind.u64.wrap (b : Int) = (b : Int) := IntWalk.u64_in _ (by omega)
  have wc : IntKind.u64.wrap (c : Int) = (c : Int) := IntWalk.u64_in _ (by omega)
  have w2' : IntKind.u32.wrap (p2.2 : Int) = (p2.2 : Int) := by simp [IntKind.wrap, IntKind.bits, IntKind.signed]; omega
  have w3' : IntKind.u8.wrap (p3.2 : Int) = (p3.2 : Int) := by rw [oct_u8]; omega
  clear hp1 hp2 hp3 c1 c2 hc hs HC HCan HSm HKp
  obtain ⟨N, hN⟩ : ∃ N, N = w.heap.size := ⟨_, rfl⟩
  obtain ⟨x1, hx1⟩ : ∃ x, x = p1.2 := ⟨_, rfl⟩
  obtain ⟨x2, hx2⟩ : ∃ x, x = p2.2 := ⟨_, rfl⟩
  obtain ⟨x3, hx3⟩ : ∃ x, x = p3.2 := ⟨_, rfl⟩
  rw [← hx1] at H1 ⊢
  rw [← hx2] at H2 w2' ⊢
  rw [← hx3] at H3 w3' ⊢
  clear hx1 hx2 hx3 z2 z3 e8 e4 e1
  obtain ⟨W0, hW0⟩ : ∃ W0, W0 = ((w.alloc (.cells #[.int .u64 (a : Int), .int .u32 (b : Int), .int .u8 (c : Int)] 25)).alloc (.cells #[.int .u64 0, .int .u32 0, .int .u8 0] 25)).alloc (.cells #[.int .u64 0, .int .u32 0, .int .u8 0] 25) := ⟨_, rfl⟩
  have F0 : Hid (Blk W0 N 25 [.int .u64 (a : Int), .int .u32 (b : Int), .int .u8 (c : Int)] ∧ Blk W0 (N + 1) 25 [.int .u64 0, .int .u32 0, .int .u8 0] ∧ Blk W0 (N + 2) 25 [.int .u64 0, .int .u32 0, .int .u8 0]) := Lib.hid (by
    rw [hW0, hN]
    refine ⟨((show Blk _ _ _ _ from heap_alloc_new w _).alloc _).alloc _, ?_, ?_⟩
    · have h := (show Blk _ _ _ _ from heap_alloc_new (w.alloc (.cells #[.int .u64 (a : Int), .int .u32 (b : Int), .int .u8 (c : Int)] 25)) (.cells #[.int .u64 0, .int .u32 0, .int .u8 0] 25 (0, 0))).alloc (.cells #[.int .u64 0, .int .u32 0, .int .u8 0] 25)
      rw [World.size_alloc] at h
      exact h
    · have h := (show Blk _ _ _ _ from heap_alloc_new ((w.alloc (.cells #[.int .u64 (a : Int), .int .u32 (b : Int), .int .u8 (c : Int)] 25)).alloc (.cells #[.int .u64 0, .int .u32 0, .int .u8 0] 25)) (.cells #[.int .u64 0, .int .u32 0, .int .u8 0] 25 (0, 0)))
      rw [World.size_alloc, World.size_alloc] at h
      exact h)
  have B0 : Hid (Below N w W0) := Lib.hid (by rw [hW0, hN]; exact (((Below.refl _ _).alloc (Nat.le_refl _) _).alloc (by simp) _).alloc (by simp; omega) _)
  have I0 : Hid (Inv s W0) := Lib.hid (KP.out s _ _ HS.out (KeepT.of_below (by rw [← hN]; exact B0.out)))
  have NN : Hid (n₀ ≤ N) := Lib.hid (by omega)
  have c0 := F0.out.1.cell 0
  dsimp only [List.getElem?_cons_zero, List.getElem?_cons_succ] at c0
  have K0 : Hid (Below n₀ w W0 ∧ KeepT eachT w W0) := Lib.hid ⟨B0.out.mono NN.out, KeepT.of_below (by rw [← hN]; exact B0.out)⟩
  rw [hN] at F0 c0 NN
  clear HS B0 hN N
  go_enter Try.func19, Try.ntmps19
  go_wp2_with fail
  rw [← hW0]
  clear hW0
  refine (H1.out W0 I0.out).mono ?_
  rintro e w1 ⟨rfl, i1, b1, k1⟩
  have F1 : Hid (Blk w1 w.heap.size 25 [.int .u64 (a : Int), .int .u32 (b : Int), .int .u8 (c : Int)] ∧ Blk w1 (w.heap.size + 1) 25 [.int .u64 0, .int .u32 0, .int .u8 0] ∧ Blk w1 (w.heap.size + 1 + 1) 25 [.int .u64 0, .int .u32 0, .int .u8 0]) :=
    Lib.hid ⟨k1.blk F0.out.1 (by decide), k1.blk F0.out.2.1 (by decide), k1.blk F0.out.2.2 (by decide)⟩
  have m0 := F1.out.2.2.cell 0
  have n0 := F1.out.2.2.frozen 0
  obtain ⟨V1, hV1⟩ : ∃ V1, V1 = w1.setCell ⟨w.heap.size + 1 + 1, 0, none⟩ (.int .u64 (x1 : Int)) := ⟨_, rfl⟩
  have G1 : Hid (Blk V1 w.heap.size 25 [.int .u64 (a : Int), .int .u32 (b : Int), .int .u8 (c : Int)] ∧ Blk V1 (w.heap.size + 1) 25 [.int .u64 0, .int .u32 0, .int .u8 0] ∧ Blk V1 (w.heap.size + 1 + 1) 25 [.int .u64 (x1 : Int), .int .u32 0, .int .u8 0]) := Lib.hid (by
    rw [hV1]
    exact ⟨F1.out.1.far (show w.heap.size ≠ w.heap.size + 1 + 1 by omega) _, F1.out.2.1.far (show w.heap.size + 1 ≠ w.heap.size + 1 + 1 by omega) _, F1.out.2.2.set_ 0 _⟩)
  have J1 : Hid (Inv p1.1 V1) := Lib.hid (by rw [hV1]; exact KP.out _ _ _ i1 (KeepT.setCell F1.out.2.2 (by decide) 0 _))
  have K1 : Hid (Below n₀ w V1 ∧ KeepT eachT w V1) := Lib.hid (by
    refine ⟨by rw [hV1]; exact (K0.out.1.trans b1).setCell (p := ⟨w.heap.size + 1 + 1, 0, none⟩) (by show n₀ ≤ w.heap.size + 1 + 1; have := NN.out; omega) _, ?_⟩
    exact (K0.out.2.trans k1).new (by rw [hV1]; simp [World.setCell]) (fun j hj => by rw [hV1]; exact Below.heap_setCell _ _ _ _ (by show j ≠ w.heap.size + 1 + 1; omega)))
  have d1 : (w1.setCell ⟨w.heap.size + 1 + 1, 0, none⟩ (.int .u64 (x1 : Int))).cell? ⟨w.heap.size, 1, none⟩ = some (.int .u32 (b : Int)) := by rw [← hV1]; exact G1.out.1.cell 1
  clear i1 b1 k1 K0 F0 I0 c0
  dsimp only [List.getElem?_cons_zero, List.getElem?_cons_succ] at m0
  go_wp2_with fail
  rw [← hV1]
  clear hV1 F1 m0 n0 d1
  refine (H2.out V1 J1.out).mono ?_
  rintro e w2 ⟨rfl, i2, b2, k2⟩
  have F2 : Hid (Blk w2 w.heap.size 25 [.int .u64 (a : Int), .int .u32 (b : Int), .int .u8 (c : Int)] ∧ Blk w2 (w.heap.size + 1) 25 [.int .u64 0, .int .u32 0, .int .u8 0] ∧ Blk w2 (w.heap.size + 1 + 1) 25 [.int .u64 (x1 : Int), .int .u32 0, .int .u8 0]) :=
    Lib.hid ⟨k2.blk G1.out.1 (by decide), k2.blk G1.out.2.1 (by decide), k2.blk G1.out.2.2 (by decide)⟩
  have m0 := F2.out.2.2.cell 1
  have n0 := F2.out.2.2.frozen 1
  obtain ⟨V2, hV2⟩ : ∃ V2, V2 = w2.setCell ⟨w.heap.size + 1 + 1, 1, none⟩ (.int .u32 (x2 : Int)) := ⟨_, rfl⟩
  have G2 : Hid (Blk V2 w.heap.size 25 [.int .u64 (a : Int), .int .u32 (b : Int), .int .u8 (c : Int)] ∧ Blk V2 (w.heap.size + 1) 25 [.int .u64 0, .int .u32 0, .int .u8 0] ∧ Blk V2 (w.heap.size + 1 + 1) 25 [.int .u64 (x1 : Int), .int .u32 (x2 : Int), .int .u8 0]) := Lib.hid (by
    rw [hV2]
    exact ⟨F2.out.1.far (show w.heap.size ≠ w.heap.size + 1 + 1 by omega) _, F2.out.2.1.far (show w.heap.size + 1 ≠ w.heap.size + 1 + 1 by omega) _, F2.out.2.2.set_ 1 _⟩)
  have J2 : Hid (Inv p2.1 V2) := Lib.hid (by rw [hV2]; exact KP.out _ _ _ i2 (KeepT.setCell F2.out.2.2 (by decide) 1 _))
  have K2 : Hid (Below n₀ w V2 ∧ KeepT eachT w V2) := Lib.hid (by
    refine ⟨by rw [hV2]; exact (K1.out.1.trans b2).setCell (p := ⟨w.heap.size + 1 + 1, 1, none⟩) (by show n₀ ≤ w.heap.size + 1 + 1; have := NN.out; omega) _, ?_⟩
    exact (K1.out.2.trans k2).new (by rw [hV2]; simp [World.setCell]) (fun j hj => by rw [hV2]; exact Below.heap_setCell _ _ _ _ (by show j ≠ w.heap.size + 1 + 1; omega)))
  have d1 : (w2.setCell ⟨w.heap.size + 1 + 1, 1, none⟩ (.int .u32 (x2 : Int))).cell? ⟨w.heap.size, 2, none⟩ = some (.int .u8 (c : Int)) := by rw [← hV2]; exact G2.out.1.cell 2
  clear i2 b2 k2 K1 G1 J1
  dsimp only [List.getElem?_cons_zero, List.getElem?_cons_succ] at m0
  go_wp2_with fail
  rw [← hV2]
  clear hV2 F2 m0 n0 d1
  refine (H3.out V2 J2.out).mono ?_
  rintro e w3 ⟨rfl, i3, b3, k3⟩
  have F3 : Hid (Blk w3 (w.heap.size + 1) 25 [.int .u64 0, .int .u32 0, .int .u8 0] ∧ Blk w3 (w.heap.size + 1 + 1) 25 [.int .u64 (x1 : Int), .int .u32 (x2 : Int), .int .u8 0]) :=
    Lib.hid ⟨k3.blk G2.out.2.1 (by decide), k3.blk G2.out.2.2 (by decide)⟩
  have m0 := F3.out.2.cell 2
  have n0 := F3.out.2.frozen 2
  obtain ⟨V3, hV3⟩ : ∃ V3, V3 = w3.setCell ⟨w.heap.size + 1 + 1, 2, none⟩ (.int .u8 (x3 : Int)) := ⟨_, rfl⟩
  have G3 : Hid (Blk V3 (w.heap.size + 1) 25 [.int .u64 0, .int .u32 0, .int .u8 0] ∧ Blk V3 (w.heap.size + 1 + 1) 25 [.int .u64 (x1 : Int), .int .u32 (x2 : Int), .int .u8 (x3 : Int)]) := Lib.hid (by
    rw [hV3]
    exact ⟨F3.out.1.far (show w.heap.size + 1 ≠ w.heap.size + 1 + 1 by omega) _, F3.out.2.set_ 2 _⟩)
  have J3 : Hid (Inv p3.1 V3) := Lib.hid (by rw [hV3]; exact KP.out _ _ _ i3 (KeepT.setCell F3.out.2 (by decide) 2 _))
  have K3 : Hid (Below n₀ w V3 ∧ KeepT eachT w V3) := Lib.hid (by
    refine ⟨by rw [hV3]; exact (K2.out.1.trans b3).setCell (p := ⟨w.heap.size + 1 + 1, 2, none⟩) (by show n₀ ≤ w.heap.size + 1 + 1; have := NN.out; omega) _, ?_⟩
    exact (K2.out.2.trans k3).new (by rw [hV3]; simp [World.setCell]) (fun j hj => by rw [hV3]; exact Below.heap_setCell _ _ _ _ (by show j ≠ w.heap.size + 1 + 1; omega)))
  obtain ⟨g0, g1, g2⟩ := G3.out.2.three
  obtain ⟨h0, h1, h2⟩ := G3.out.1.three
  have q0 := G3.out.1.frozen 0
  have q1 := G3.out.1.frozen 1
  have q2 := G3.out.1.frozen 2
  rw [hV3] at g0 g1 g2 h0 h1 h2 q0 q1 q2
  clear i3 b3 k3 K2 G2 J2
  dsimp only [List.getElem?_cons_zero, List.getElem?_cons_succ] at m0
  go_wp2_with fail
  rw [← hV3]
  clear hV3 g0 g1 g2 h0 h1 h2 q0 q1 q2
  have GP := G3.out.1.put3 (.int .u64 (x1 : Int)) (.int .u32 (x2 : Int)) (.int .u8 (x3 : Int))
  obtain ⟨d0, d1, d2⟩ := GP.three
  refine bodyPost_ret (v := .agg #[.int .u64 (x1 : Int), .int .u32 (x2 : Int), .int .u8 (x3 : Int)]) (by simp [results, Try.results19, go_sem, d0, d1, d2]) rfl ⟨rfl, ?_, ?_, ?_⟩
  · exact KP.out _ _ _ J3.out (G3.out.1.keep3 (by decide) _ _ _)
  · have := NN.out
    exact ((K3.out.1.setCell (p := ⟨w.heap.size + 1, 0, none⟩) (by show n₀ ≤ w.heap.size + 1; omega) _).setCell (p := ⟨w.heap.size + 1, 1, none⟩) (by show n₀ ≤ w.heap.size + 1; omega) _).setCell (p := ⟨w.heap.size + 1, 2, none⟩) (by show n₀ ≤ w.heap.size + 1; omega) _
  · exact K3.out.2.new (by simp [World.setCell]) (fun j hj => by
      rw [Below.heap_setCell _ _ _ _ (by show j ≠ w.heap.size + 1; omega), Below.heap_setCell _ _ _ _ (by show j ≠ w.heap.size + 1; omega), Below.heap_setCell _ _ _ _ (by show j ≠ w.heap.size + 1; omega)])

set_option maxHeartbeats 8000000 in
theorem eachR_opened (n₀ B : Nat) {σ : Type} (step : σ → Nat → Nat → σ × Nat) (Inv : σ → World → Prop) (Can : σ → Nat → Prop) (HF : NumFn 31 #[.pointer (some ⟨B + 3, 0, none⟩), .pointer (some ⟨B, 0, none⟩), .pointer (some ⟨B + 4, 0, none⟩)] n₀ step Inv Can) (s : σ) (a b c : Nat) (w : World)
    (hs : Inv s w) (hc : Can s 3) (ha : a < 18446744073709551616) (hb : b < 4294967296) (hc8 : c < 256) (hn0 : n₀ ≤ w.heap.size) :
    Calls Try.prog 19 #[.agg #[.int .u64 (a : Int), .int .u32 (b : Int), .int .u8 (c : Int)], .func (.func 31) #[] #[.pointer (some ⟨B + 3, 0, none⟩), .pointer (some ⟨B, 0, none⟩), .pointer (some ⟨B + 4, 0, none⟩)]] w fun e w' =>
      e = .returned (.agg #[.int .u64 ((step s a 8).2 : Int), .int .u32 ((step (step s a 8).1 b 4).2 : Int), .int .u8 ((step (step (step s a 8).1 b 4).1 c 1).2 : Int)]) ∧ Inv (step (step (step s a 8).1 b 4).1 c 1).1 w' ∧ Below n₀ w w' ∧ KeepT eachT w w' := by
  obtain ⟨HC, HCan, HSm, HKp⟩ := HF
  have e8 : (256 : Nat) ^ 8 = 18446744073709551616 := by decide
  have e4 : (256 : Nat) ^ 4 = 4294967296 := by decide
  have e1 : (256 : Nat) ^ 1 = 256 := by decide
  obtain ⟨p1, hp1⟩ : ∃ p, p = step s a 8 := ⟨_, rfl⟩
  rw [← hp1]
  obtain ⟨p2, hp2⟩ : ∃ p, p = step p1.1 b 4 := ⟨_, rfl⟩
  rw [← hp2]
  obtain ⟨p3, hp3⟩ : ∃ p, p = step p2.1 c 1 := ⟨_, rfl⟩
  rw [← hp3]
  have c1 : Can p1.1 2 := by rw [hp1]; exact HCan s a 8 2 hc (by decide) (by decide)
  have c2 : Can p2.1 1 := by rw [hp2]; exact HCan p1.1 b 4 1 c1 (by decide) (by decide)
  have z2 : p2.2 < 4294967296 := by rw [hp2, ← e4]; exact HSm p1.1 b 4 (by decide) (by decide) (by omega)
  have z3 : p3.2 < 256 := by rw [hp3]; have := HSm p2.1 c 1 (by decide) (by decide) (by omega); omega
  have H1 := Lib.hid (fun W (h : Inv s W) => HC s a 8 2 W h hc (by decide) (by decide) (by omega) ha)
  have H2 := Lib.hid (fun W (h : Inv p1.1 W) => HC p1.1 b 4 1 W h c1 (by decide) (by decide) (by omega) (by omega))
  have H3 := Lib.hid (fun W (h : Inv p2.1 W) => HC p2.1 c 1 0 W h c2 (by decide) (by decide) (by omega) (by omega))
  rw [← hp1] at H1
  rw [← hp2] at H2
  rw [← hp3] at H3
  have KP := Lib.hid HKp
  have HS := Lib.hid hs
  have wb : IntKind.u64.wrap (b : Int) = (b : Int) := IntWalk.u64_in _ (by omega)
  have wc : IntKind.u64.wrap (c : Int) = (c : Int) := IntWalk.u64_in _ (by omega)
  have w2' : IntKind.u32.wrap (p2.2 : Int) = (p2.2 : Int) := by simp [IntKind.wrap, IntKind.bits, IntKind.signed]; omega
  have w3' : IntKind.u8.wrap (p3.2 : Int) = (p3.2 : Int) := by rw [oct_u8]; omega
  clear hp1 hp2 hp3 c1 c2 hc hs HC HCan HSm HKp
  obtain ⟨N, hN⟩ : ∃ N, N = w.heap.size := ⟨_, rfl⟩
  obtain ⟨x1, hx1⟩ : ∃ x, x = p1.2 := ⟨_, rfl⟩
  obtain ⟨x2, hx2⟩ : ∃ x, x = p2.2 := ⟨_, rfl⟩
  obtain ⟨x3, hx3⟩ : ∃ x, x = p3.2 := ⟨_, rfl⟩
  rw [← hx1] at H1 ⊢
  rw [← hx2] at H2 w2' ⊢
  rw [← hx3] at H3 w3' ⊢
  clear hx1 hx2 hx3 z2 z3 e8 e4 e1
  obtain ⟨W0, hW0⟩ : ∃ W0, W0 = ((w.alloc (.cells #[.int .u64 (a : Int), .int .u32 (b : Int), .int .u8 (c : Int)] 25)).alloc (.cells #[.int .u64 0, .int .u32 0, .int .u8 0] 25)).alloc (.cells #[.int .u64 0, .int .u32 0, .int .u8 0] 25) := ⟨_, rfl⟩
  have F0 : Hid (Blk W0 N 25 [.int .u64 (a : Int), .int .u32 (b : Int), .int .u8 (c : Int)] ∧ Blk W0 (N + 1) 25 [.int .u64 0, .int .u32 0, .int .u8 0] ∧ Blk W0 (N + 2) 25 [.int .u64 0, .int .u32 0, .int .u8 0]) := Lib.hid (by
    rw [hW0, hN]
    refine ⟨((show Blk _ _ _ _ from heap_alloc_new w _).alloc _).alloc _, ?_, ?_⟩
    · have h := (show Blk _ _ _ _ from heap_alloc_new (w.alloc (.cells #[.int .u64 (a : Int), .int .u32 (b : Int), .int .u8 (c : Int)] 25)) (.cells #[.int .u64 0, .int .u32 0, .int .u8 0] 25 (0, 0))).alloc (.cells #[.int .u64 0, .int .u32 0, .int .u8 0] 25)
      rw [World.size_alloc] at h
      exact h
    · have h := (show Blk _ _ _ _ from heap_alloc_new ((w.alloc (.cells #[.int .u64 (a : Int), .int .u32 (b : Int), .int .u8 (c : Int)] 25)).alloc (.cells #[.int .u64 0, .int .u32 0, .int .u8 0] 25)) (.cells #[.int .u64 0, .int .u32 0, .int .u8 0] 25 (0, 0)))
      rw [World.size_alloc, World.size_alloc] at h
      exact h)
  have B0 : Hid (Below N w W0) := Lib.hid (by rw [hW0, hN]; exact (((Below.refl _ _).alloc (Nat.le_refl _) _).alloc (by simp) _).alloc (by simp; omega) _)
  have I0 : Hid (Inv s W0) := Lib.hid (KP.out s _ _ HS.out (KeepT.of_below (by rw [← hN]; exact B0.out)))
  have NN : Hid (n₀ ≤ N) := Lib.hid (by omega)
  have c0 := F0.out.1.cell 0
  dsimp only [List.getElem?_cons_zero, List.getElem?_cons_succ] at c0
  have K0 : Hid (Below n₀ w W0 ∧ KeepT eachT w W0) := Lib.hid ⟨B0.out.mono NN.out, KeepT.of_below (by rw [← hN]; exact B0.out)⟩
  rw [hN] at F0 c0 NN
  clear HS B0 hN N
  go_enter Try.func19, Try.ntmps19
  go_wp2_with fail
  rw [← hW0]
  clear hW0
  refine (H1.out W0 I0.out).mono ?_
  rintro e w1 ⟨rfl, i1, b1, k1⟩
  have F1 : Hid (Blk w1 w.heap.size 25 [.int .u64 (a : Int), .int .u32 (b : Int), .int .u8 (c : Int)] ∧ Blk w1 (w.heap.size + 1) 25 [.int .u64 0, .int .u32 0, .int .u8 0] ∧ Blk w1 (w.heap.size + 1 + 1) 25 [.int .u64 0, .int .u32 0, .int .u8 0]) :=
    Lib.hid ⟨k1.blk F0.out.1 (by decide), k1.blk F0.out.2.1 (by decide), k1.blk F0.out.2.2 (by decide)⟩
  have m0 := F1.out.2.2.cell 0
  have n0 := F1.out.2.2.frozen 0
  obtain ⟨V1, hV1⟩ : ∃ V1, V1 = w1.setCell ⟨w.heap.size + 1 + 1, 0, none⟩ (.int .u64 (x1 : Int)) := ⟨_, rfl⟩
  have G1 : Hid (Blk V1 w.heap.size 25 [.int .u64 (a : Int), .int .u32 (b : Int), .int .u8 (c : Int)] ∧ Blk V1 (w.heap.size + 1) 25 [.int .u64 0, .int .u32 0, .int .u8 0] ∧ Blk V1 (w.heap.size + 1 + 1) 25 [.int .u64 (x1 : Int), .int .u32 0, .int .u8 0]) := Lib.hid (by
    rw [hV1]
    exact ⟨F1.out.1.far (show w.heap.size ≠ w.heap.size + 1 + 1 by omega) _, F1.out.2.1.far (show w.heap.size + 1 ≠ w.heap.size + 1 + 1 by omega) _, F1.out.2.2.set_ 0 _⟩)
  have J1 : Hid (Inv p1.1 V1) := Lib.hid (by rw [hV1]; exact KP.out _ _ _ i1 (KeepT.setCell F1.out.2.2 (by decide) 0 _))
  have K1 : Hid (Below n₀ w V1 ∧ KeepT eachT w V1) := Lib.hid (by
    refine ⟨by rw [hV1]; exact (K0.out.1.trans b1).setCell (p := ⟨w.heap.size + 1 + 1, 0, none⟩) (by show n₀ ≤ w.heap.size + 1 + 1; have := NN.out; omega) _, ?_⟩
    exact (K0.out.2.trans k1).new (by rw [hV1]; simp [World.setCell]) (fun j hj => by rw [hV1]; exact Below.heap_setCell _ _ _ _ (by show j ≠ w.heap.size + 1 + 1; omega)))
  have d1 : (w1.setCell ⟨w.heap.size + 1 + 1, 0, none⟩ (.int .u64 (x1 : Int))).cell? ⟨w.heap.size, 1, none⟩ = some (.int .u32 (b : Int)) := by rw [← hV1]; exact G1.out.1.cell 1
  clear i1 b1 k1 K0 F0 I0 c0
  dsimp only [List.getElem?_cons_zero, List.getElem?_cons_succ] at m0
  go_wp2_with fail
  rw [← hV1]
  clear hV1 F1 m0 n0 d1
  refine (H2.out V1 J1.out).mono ?_
  rintro e w2 ⟨rfl, i2, b2, k2⟩
  have F2 : Hid (Blk w2 w.heap.size 25 [.int .u64 (a : Int), .int .u32 (b : Int), .int .u8 (c : Int)] ∧ Blk w2 (w.heap.size + 1) 25 [.int .u64 0, .int .u32 0, .int .u8 0] ∧ Blk w2 (w.heap.size + 1 + 1) 25 [.int .u64 (x1 : Int), .int .u32 0, .int .u8 0]) :=
    Lib.hid ⟨k2.blk G1.out.1 (by decide), k2.blk G1.out.2.1 (by decide), k2.blk G1.out.2.2 (by decide)⟩
  have m0 := F2.out.2.2.cell 1
  have n0 := F2.out.2.2.frozen 1
  obtain ⟨V2, hV2⟩ : ∃ V2, V2 = w2.setCell ⟨w.heap.size + 1 + 1, 1, none⟩ (.int .u32 (x2 : Int)) := ⟨_, rfl⟩
  have G2 : Hid (Blk V2 w.heap.size 25 [.int .u64 (a : Int), .int .u32 (b : Int), .int .u8 (c : Int)] ∧ Blk V2 (w.heap.size + 1) 25 [.int .u64 0, .int .u32 0, .int .u8 0] ∧ Blk V2 (w.heap.size + 1 + 1) 25 [.int .u64 (x1 : Int), .int .u32 (x2 : Int), .int .u8 0]) := Lib.hid (by
    rw [hV2]
    exact ⟨F2.out.1.far (show w.heap.size ≠ w.heap.size + 1 + 1 by omega) _, F2.out.2.1.far (show w.heap.size + 1 ≠ w.heap.size + 1 + 1 by omega) _, F2.out.2.2.set_ 1 _⟩)
  have J2 : Hid (Inv p2.1 V2) := Lib.hid (by rw [hV2]; exact KP.out _ _ _ i2 (KeepT.setCell F2.out.2.2 (by decide) 1 _))
  have K2 : Hid (Below n₀ w V2 ∧ KeepT eachT w V2) := Lib.hid (by
    refine ⟨by rw [hV2]; exact (K1.out.1.trans b2).setCell (p := ⟨w.heap.size + 1 + 1, 1, none⟩) (by show n₀ ≤ w.heap.size + 1 + 1; have := NN.out; omega) _, ?_⟩
    exact (K1.out.2.trans k2).new (by rw [hV2]; simp [World.setCell]) (fun j hj => by rw [hV2]; exact Below.heap_setCell _ _ _ _ (by show j ≠ w.heap.size + 1 + 1; omega)))
  have d1 : (w2.setCell ⟨w.heap.size + 1 + 1, 1, none⟩ (.int .u32 (x2 : Int))).cell? ⟨w.heap.size, 2, none⟩ = some (.int .u8 (c : Int)) := by rw [← hV2]; exact G2.out.1.cell 2
  clear i2 b2 k2 K1 G1 J1
  dsimp only [List.getElem?_cons_zero, List.getElem?_cons_succ] at m0
  go_wp2_with fail
  rw [← hV2]
  clear hV2 F2 m0 n0 d1
  refine (H3.out V2 J2.out).mono ?_
  rintro e w3 ⟨rfl, i3, b3, k3⟩
  have F3 : Hid (Blk w3 (w.heap.size + 1) 25 [.int .u64 0, .int .u32 0, .int .u8 0] ∧ Blk w3 (w.heap.size + 1 + 1) 25 [.int .u64 (x1 : Int), .int .u32 (x2 : Int), .int .u8 0]) :=
    Lib.hid ⟨k3.blk G2.out.2.1 (by decide), k3.blk G2.out.2.2 (by decide)⟩
  have m0 := F3.out.2.cell 2
  have n0 := F3.out.2.frozen 2
  obtain ⟨V3, hV3⟩ : ∃ V3, V3 = w3.setCell ⟨w.heap.size + 1 + 1, 2, none⟩ (.int .u8 (x3 : Int)) := ⟨_, rfl⟩
  have G3 : Hid (Blk V3 (w.heap.size + 1) 25 [.int .u64 0, .int .u32 0, .int .u8 0] ∧ Blk V3 (w.heap.size + 1 + 1) 25 [.int .u64 (x1 : Int), .int .u32 (x2 : Int), .int .u8 (x3 : Int)]) := Lib.hid (by
    rw [hV3]
    exact ⟨F3.out.1.far (show w.heap.size + 1 ≠ w.heap.size + 1 + 1 by omega) _, F3.out.2.set_ 2 _⟩)
  have J3 : Hid (Inv p3.1 V3) := Lib.hid (by rw [hV3]; exact KP.out _ _ _ i3 (KeepT.setCell F3.out.2 (by decide) 2 _))
  have K3 : Hid (Below n₀ w V3 ∧ KeepT eachT w V3) := Lib.hid (by
    refine ⟨by rw [hV3]; exact (K2.out.1.trans b3).setCell (p := ⟨w.heap.size + 1 + 1, 2, none⟩) (by show n₀ ≤ w.heap.size + 1 + 1; have := NN.out; omega) _, ?_⟩
    exact (K2.out.2.trans k3).new (by rw [hV3]; simp [World.setCell]) (fun j hj => by rw [hV3]; exact Below.heap_setCell _ _ _ _ (by show j ≠ w.heap.size + 1 + 1; omega)))
  obtain ⟨g0, g1, g2⟩ := G3.out.2.three
  obtain ⟨h0, h1, h2⟩ := G3.out.1.three
  have q0 := G3.out.1.frozen 0
  have q1 := G3.out.1.frozen 1
  have q2 := G3.out.1.frozen 2
  rw [hV3] at g0 g1 g2 h0 h1 h2 q0 q1 q2
  clear i3 b3 k3 K2 G2 J2
  dsimp only [List.getElem?_cons_zero, List.getElem?_cons_succ] at m0
  go_wp2_with fail
  rw [← hV3]
  clear hV3 g0 g1 g2 h0 h1 h2 q0 q1 q2
  have GP := G3.out.1.put3 (.int .u64 (x1 : Int)) (.int .u32 (x2 : Int)) (.int .u8 (x3 : Int))
  obtain ⟨d0, d1, d2⟩ := GP.three
  refine bodyPost_ret (v := .agg #[.int .u64 (x1 : Int), .int .u32 (x2 : Int), .int .u8 (x3 : Int)]) (by simp [results, Try.results19, go_sem, d0, d1, d2]) rfl ⟨rfl, ?_, ?_, ?_⟩
  · exact KP.out _ _ _ J3.out (G3.out.1.keep3 (by decide) _ _ _)
  · have := NN.out
    exact ((K3.out.1.setCell (p := ⟨w.heap.size + 1, 0, none⟩) (by show n₀ ≤ w.heap.size + 1; omega) _).setCell (p := ⟨w.heap.size + 1, 1, none⟩) (by show n₀ ≤ w.heap.size + 1; omega) _).setCell (p := ⟨w.heap.size + 1, 2, none⟩) (by show n₀ ≤ w.heap.size + 1; omega) _
  · exact K3.out.2.new (by simp [World.setCell]) (fun j hj => by
      rw [Below.heap_setCell _ _ _ _ (by show j ≠ w.heap.size + 1; omega), Below.heap_setCell _ _ _ _ (by show j ≠ w.heap.size + 1; omega), Below.heap_setCell _ _ _ _ (by show j ≠ w.heap.size + 1; omega)])

end Go.Proofs.Ytackddgihdnmgaa
