/- each of a report, by the functions that closed and opened hand over. Written by wip/tools/gen_news.py. -/
import Derived.Test.YtackddgihdnmgaaNewsH
import Derived.Deep.Cut
import Derived.Deep.CutBlock
import Derived.Deep.RegionHeld3
namespace Go.Proofs.Ytackddgihdnmgaa
open Go.RowKit
set_option maxRecDepth 100000

abbrev ep8o0 : Oper := { dst := some 36, op := Op.fieldAddr 38 (Operand.tmp 5) 1, type := 0, pos := "news.go:116", after := #[], guard := none }
abbrev ep8o1 : Oper := { dst := some 37, op := Op.load 36 (Operand.tmp 36), type := 36, pos := "news.go:116", after := #[{ on := 0, ground := Ground.data }], guard := none }
abbrev ep8o2 : Oper := { dst := some 38, op := Op.move (Operand.tmp 6), type := 3, pos := "news.go:116", after := #[], guard := none }
abbrev ep8o3 : Oper := { dst := some 39, op := Op.move (Operand.tmp 1), type := 74, pos := "news.go:116", after := #[], guard := none }
abbrev ep8o4 : Oper := { dst := some 40, op := Op.fieldAddr 65 (Operand.tmp 7) 0, type := 0, pos := "news.go:116", after := #[], guard := none }
abbrev ep8o5 : Oper := { dst := some 41, op := Op.load 23 (Operand.tmp 40), type := 23, pos := "news.go:116", after := #[{ on := 4, ground := Ground.data }], guard := none }
abbrev ep8o6 : Oper := { dst := some 42, op := Op.convert 23 22 (Operand.tmp 41), type := 22, pos := "news.go:116", after := #[{ on := 5, ground := Ground.data }], guard := none }
abbrev ep8o7 : Oper := { dst := some 43, op := Op.call { callee := Callee.value (Operand.tmp 39), args := #[Operand.tmp 42, Operand.const (Value.int IntKind.i64 4)], argTypes := #[22, 3] }, type := 22, pos := "news.go:116", after := #[{ on := 3, ground := Ground.data }, { on := 6, ground := Ground.data }], guard := none }
abbrev ep8o8 : Oper := { dst := some 44, op := Op.convert 22 23 (Operand.tmp 43), type := 23, pos := "news.go:116", after := #[{ on := 7, ground := Ground.data }], guard := none }
abbrev ep8o9 : Oper := { dst := some 45, op := Op.indexAddr 36 (Operand.tmp 37) (Operand.tmp 38), type := 0, pos := "news.go:116", after := #[{ on := 1, ground := Ground.data }, { on := 2, ground := Ground.data }, { on := 0, ground := Ground.phase }, { on := 1, ground := Ground.phase }, { on := 2, ground := Ground.phase }, { on := 3, ground := Ground.phase }, { on := 4, ground := Ground.phase }, { on := 5, ground := Ground.phase }, { on := 6, ground := Ground.phase }, { on := 7, ground := Ground.phase }, { on := 8, ground := Ground.phase }], guard := none }
abbrev ep8o10 : Oper := { dst := some 46, op := Op.fieldAddr 65 (Operand.tmp 45) 0, type := 0, pos := "news.go:116", after := #[{ on := 9, ground := Ground.data }, { on := 0, ground := Ground.phase }, { on := 1, ground := Ground.phase }, { on := 2, ground := Ground.phase }, { on := 3, ground := Ground.phase }, { on := 4, ground := Ground.phase }, { on := 5, ground := Ground.phase }, { on := 6, ground := Ground.phase }, { on := 7, ground := Ground.phase }, { on := 8, ground := Ground.phase }], guard := none }
abbrev ep8o11 : Oper := { dst := none, op := Op.store 23 (Operand.tmp 46) (Operand.tmp 44), type := 0, pos := "news.go:116", after := #[{ on := 10, ground := Ground.data }, { on := 8, ground := Ground.data }, { on := 7, ground := Ground.chain }, { on := 0, ground := Ground.phase }, { on := 1, ground := Ground.phase }, { on := 2, ground := Ground.phase }, { on := 3, ground := Ground.phase }, { on := 4, ground := Ground.phase }, { on := 5, ground := Ground.phase }, { on := 6, ground := Ground.phase }, { on := 7, ground := Ground.phase }, { on := 8, ground := Ground.phase }], guard := none }
abbrev ep9o0 : Oper := { dst := some 47, op := Op.fieldAddr 38 (Operand.tmp 5) 1, type := 0, pos := "news.go:117", after := #[], guard := none }
abbrev ep9o1 : Oper := { dst := some 48, op := Op.load 36 (Operand.tmp 47), type := 36, pos := "news.go:117", after := #[{ on := 0, ground := Ground.data }], guard := none }
abbrev ep9o2 : Oper := { dst := some 49, op := Op.move (Operand.tmp 6), type := 3, pos := "news.go:117", after := #[], guard := none }
abbrev ep9o3 : Oper := { dst := some 50, op := Op.move (Operand.tmp 1), type := 74, pos := "news.go:117", after := #[], guard := none }
abbrev ep9o4 : Oper := { dst := some 51, op := Op.fieldAddr 65 (Operand.tmp 7) 1, type := 0, pos := "news.go:117", after := #[], guard := none }
abbrev ep9o5 : Oper := { dst := some 52, op := Op.load 23 (Operand.tmp 51), type := 23, pos := "news.go:117", after := #[{ on := 4, ground := Ground.data }], guard := none }
abbrev ep9o6 : Oper := { dst := some 53, op := Op.convert 23 22 (Operand.tmp 52), type := 22, pos := "news.go:117", after := #[{ on := 5, ground := Ground.data }], guard := none }
abbrev ep9o7 : Oper := { dst := some 54, op := Op.call { callee := Callee.value (Operand.tmp 50), args := #[Operand.tmp 53, Operand.const (Value.int IntKind.i64 4)], argTypes := #[22, 3] }, type := 22, pos := "news.go:117", after := #[{ on := 3, ground := Ground.data }, { on := 6, ground := Ground.data }], guard := none }
abbrev ep9o8 : Oper := { dst := some 55, op := Op.convert 22 23 (Operand.tmp 54), type := 23, pos := "news.go:117", after := #[{ on := 7, ground := Ground.data }], guard := none }
abbrev ep9o9 : Oper := { dst := some 56, op := Op.indexAddr 36 (Operand.tmp 48) (Operand.tmp 49), type := 0, pos := "news.go:117", after := #[{ on := 1, ground := Ground.data }, { on := 2, ground := Ground.data }, { on := 0, ground := Ground.phase }, { on := 1, ground := Ground.phase }, { on := 2, ground := Ground.phase }, { on := 3, ground := Ground.phase }, { on := 4, ground := Ground.phase }, { on := 5, ground := Ground.phase }, { on := 6, ground := Ground.phase }, { on := 7, ground := Ground.phase }, { on := 8, ground := Ground.phase }], guard := none }
abbrev ep9o10 : Oper := { dst := some 57, op := Op.fieldAddr 65 (Operand.tmp 56) 1, type := 0, pos := "news.go:117", after := #[{ on := 9, ground := Ground.data }, { on := 0, ground := Ground.phase }, { on := 1, ground := Ground.phase }, { on := 2, ground := Ground.phase }, { on := 3, ground := Ground.phase }, { on := 4, ground := Ground.phase }, { on := 5, ground := Ground.phase }, { on := 6, ground := Ground.phase }, { on := 7, ground := Ground.phase }, { on := 8, ground := Ground.phase }], guard := none }
abbrev ep9o11 : Oper := { dst := none, op := Op.store 23 (Operand.tmp 57) (Operand.tmp 55), type := 0, pos := "news.go:117", after := #[{ on := 10, ground := Ground.data }, { on := 8, ground := Ground.data }, { on := 7, ground := Ground.chain }, { on := 0, ground := Ground.phase }, { on := 1, ground := Ground.phase }, { on := 2, ground := Ground.phase }, { on := 3, ground := Ground.phase }, { on := 4, ground := Ground.phase }, { on := 5, ground := Ground.phase }, { on := 6, ground := Ground.phase }, { on := 7, ground := Ground.phase }, { on := 8, ground := Ground.phase }], guard := none }

set_option maxHeartbeats 16000000 in
theorem eachP_closed (n₀ B : Nat) {σ : Type} (step : σ → Nat → Nat → σ × Nat) (Inv : σ → World → Prop) (Can : σ → Nat → Prop) (HF : NumFn 40 #[.pointer (some ⟨B, 0, none⟩)] n₀ step Inv Can) (s : σ) (ep : Nat) (A : Option Addr) (n c : Nat) (rs : List RowT) (w : World) (p1 p2 : σ × Nat) (RS : List RowT) (F : σ × List RowT)
    (hs : Inv s w) (hc : Can s (2 * p2.2 + 2)) (hep : ep < 4294967296) (hR : ∀ W, Below n₀ w W → Rws W A n rs) (hn : n < 65536) (hnc : n ≤ c) (hp1 : p1 = step s ep 4) (hp2 : p2 = step p1.1 n 2) (hnm : n ≤ p2.2) (hn0 : n₀ ≤ w.heap.size)
    (hRS : RS = rs ++ List.replicate (p2.2 - n) (0, 0)) (hF : F = rowsStep step p2.1 RS) :
    Calls Try.prog 25 #[.agg #[.int .u32 (ep : Int), .slice A n c], .func (.func 40) #[] #[.pointer (some ⟨B, 0, none⟩)]] w fun e w' =>
      ∃ g, e = .returned (.agg #[.int .u32 (p1.2 : Int), .slice (some ⟨g, 0, none⟩) p2.2 p2.2]) ∧ Blk w' g 65 (rowsV F.2) ∧ w.heap.size ≤ g ∧ Inv F.1 w' ∧ Below n₀ w w' ∧ KeepT eachT w w' := by
  obtain ⟨HC, HCan, HSm, HKp⟩ := HF
  obtain ⟨i0, hi, hz0, hz1, hz2⟩ := info_parts infoRow
  have e4 : (256 : Nat) ^ 4 = 4294967296 := by decide
  have e2 : (256 : Nat) ^ 2 = 65536 := by decide
  have c1 : Can p1.1 (2 * p2.2 + 1) := by rw [hp1]; exact HCan s ep 4 _ hc (by decide) (by decide)
  have c2 : Can p2.1 (2 * p2.2) := by rw [hp2] at c1 ⊢; exact HCan p1.1 n 2 _ c1 (by decide) (by decide)
  have z1 : p1.2 < 4294967296 := by rw [hp1, ← e4]; exact HSm s ep 4 (by decide) (by decide) (by omega)
  have z2 : p2.2 < 65536 := by rw [hp2, ← e2]; exact HSm p1.1 n 2 (by decide) (by decide) (by omega)
  have H1 := Lib.hid (fun W (h : Inv s W) => HC s ep 4 _ W h hc (by decide) (by decide) (by omega) (by omega))
  have H2 := Lib.hid (fun W (h : Inv p1.1 W) => HC p1.1 n 2 _ W h c1 (by decide) (by decide) (by omega) (by omega))
  rw [← hp1] at H1
  rw [← hp2] at H2
  have KP := Lib.hid HKp
  have CN := Lib.hid HCan
  have HCC := Lib.hid HC
  have SM := Lib.hid HSm
  have HS := Lib.hid hs
  have HRR := Lib.hid hR
  have C2 := Lib.hid c2
  obtain ⟨x1, hx1⟩ : ∃ x, x = p1.2 := ⟨_, rfl⟩
  obtain ⟨m, hm⟩ : ∃ m, m = p2.2 := ⟨_, rfl⟩
  rw [← hx1] at H1 z1 ⊢
  rw [← hm] at H2 C2 z2 hnm hRS ⊢
  obtain ⟨q, hq⟩ : ∃ q, q = p2.1 := ⟨_, rfl⟩
  rw [← hq] at H2 C2 hF
  have wep : IntKind.u64.wrap (ep : Int) = (ep : Int) := IntWalk.u64_in _ (by omega)
  have wn : IntKind.u64.wrap (n : Int) = (n : Int) := IntWalk.u64_in _ (by omega)
  have wx : IntKind.u32.wrap (x1 : Int) = (x1 : Int) := by simp [IntKind.wrap, IntKind.bits, IntKind.signed]; omega
  have HRS := Lib.hid hRS
  have HFF := Lib.hid hF
  have RL : Hid (rs.length = n) := Lib.hid (hR w (Below.refl _ _)).1
  have RSL : Hid (RS.length = m) := Lib.hid (by rw [hRS, List.length_append, List.length_replicate, RL.out]; omega)
  have RSB : Hid (∀ j, (RS.getD j (0, 0)).1 < 4294967296 ∧ (RS.getD j (0, 0)).2 < 4294967296) := Lib.hid (fun j => by
    rcases Nat.lt_or_ge j n with h | h
    · have := (hR w (Below.refl _ _)).2.1 j h
      rw [hRS, List.getD_eq_getElem?_getD, List.getElem?_append_left (by rw [RL.out]; exact h), ← List.getD_eq_getElem?_getD]
      exact this
    · rw [hRS, List.getD_eq_getElem?_getD, List.getElem?_append_right (by rw [RL.out]; exact h), List.getElem?_replicate]
      split <;> exact ⟨by decide, by decide⟩)
  have NM := Lib.hid hnm
  clear hp1 hp2 hx1 hm hq c1 c2 hc hs hR HC HCan HSm HKp hRS hF e4 e2 hnm
  obtain ⟨W0, hW0⟩ : ∃ W0, W0 = ((w.alloc (.cells #[.int .u32 (ep : Int), .slice A n c] 38)).alloc (.cells #[.int .u32 0, .slice none 0 0] 38)).alloc (.cells #[.int .u32 0, .slice none 0 0] 38) := ⟨_, rfl⟩
  have F0 : Hid (Blk W0 w.heap.size 38 [.int .u32 (ep : Int), .slice A n c] ∧ Blk W0 (w.heap.size + 1) 38 [.int .u32 0, .slice none 0 0] ∧ Blk W0 (w.heap.size + 1 + 1) 38 [.int .u32 0, .slice none 0 0] ∧ w.heap.size + 1 + 1 < W0.heap.size) := Lib.hid (by
    rw [hW0]
    refine ⟨((show Blk _ _ _ _ from heap_alloc_new w _).alloc _).alloc _, ?_, ?_, by simp⟩
    · have h := (show Blk _ _ _ _ from heap_alloc_new (w.alloc (.cells #[.int .u32 (ep : Int), .slice A n c] 38)) (.cells #[.int .u32 0, .slice none 0 0] 38 (0, 0))).alloc (.cells #[.int .u32 0, .slice none 0 0] 38)
      rw [World.size_alloc] at h
      exact h
    · have h := (show Blk _ _ _ _ from heap_alloc_new ((w.alloc (.cells #[.int .u32 (ep : Int), .slice A n c] 38)).alloc (.cells #[.int .u32 0, .slice none 0 0] 38)) (.cells #[.int .u32 0, .slice none 0 0] 38 (0, 0)))
      rw [World.size_alloc, World.size_alloc] at h
      exact h)
  have B0 : Hid (Below w.heap.size w W0) := Lib.hid (by rw [hW0]; exact (((Below.refl _ _).alloc (Nat.le_refl _) _).alloc (by simp) _).alloc (by simp; omega) _)
  have I0 : Hid (Inv s W0) := Lib.hid (KP.out s _ _ HS.out (KeepT.of_below B0.out))
  have c0 := F0.out.1.cell 0
  dsimp only [List.getElem?_cons_zero, List.getElem?_cons_succ] at c0
  have K0 : Hid (Below n₀ w W0 ∧ KeepT eachT w W0) := Lib.hid ⟨B0.out.mono hn0, KeepT.of_below B0.out⟩
  clear HS B0
  go_enter Try.func25, Try.ntmps25
  go_wp2_with fail
  rw [← hW0]
  clear hW0
  refine (H1.out W0 I0.out).mono ?_
  rintro e w1 ⟨rfl, i1, b1, k1⟩
  have F1 : Hid (Blk w1 w.heap.size 38 [.int .u32 (ep : Int), .slice A n c] ∧ Blk w1 (w.heap.size + 1) 38 [.int .u32 0, .slice none 0 0] ∧ Blk w1 (w.heap.size + 1 + 1) 38 [.int .u32 0, .slice none 0 0]) :=
    Lib.hid ⟨k1.blk F0.out.1 (by decide), k1.blk F0.out.2.1 (by decide), k1.blk F0.out.2.2.1 (by decide)⟩
  have m0 := F1.out.2.2.cell 0
  have n0 := F1.out.2.2.frozen 0
  obtain ⟨V1, hV1⟩ : ∃ V1, V1 = w1.setCell ⟨w.heap.size + 1 + 1, 0, none⟩ (.int .u32 (x1 : Int)) := ⟨_, rfl⟩
  have G1 : Hid (Blk V1 w.heap.size 38 [.int .u32 (ep : Int), .slice A n c] ∧ Blk V1 (w.heap.size + 1) 38 [.int .u32 0, .slice none 0 0] ∧ Blk V1 (w.heap.size + 1 + 1) 38 [.int .u32 (x1 : Int), .slice none 0 0]) := Lib.hid (by
    rw [hV1]
    exact ⟨F1.out.1.far (show w.heap.size ≠ w.heap.size + 1 + 1 by omega) _, F1.out.2.1.far (show w.heap.size + 1 ≠ w.heap.size + 1 + 1 by omega) _, F1.out.2.2.set_ 0 _⟩)
  have J1 : Hid (Inv p1.1 V1) := Lib.hid (by rw [hV1]; exact KP.out _ _ _ i1 (KeepT.setCell F1.out.2.2 (by decide) 0 _))
  have K1 : Hid (Below n₀ w V1 ∧ KeepT eachT w V1) := Lib.hid (by
    refine ⟨by rw [hV1]; exact (K0.out.1.trans b1).setCell (p := ⟨w.heap.size + 1 + 1, 0, none⟩) (by show n₀ ≤ w.heap.size + 1 + 1; omega) _, ?_⟩
    exact (K0.out.2.trans k1).new (by rw [hV1]; simp [World.setCell]) (fun j hj => by rw [hV1]; exact Below.heap_setCell _ _ _ _ (by show j ≠ w.heap.size + 1 + 1; omega)))
  have d1 : (w1.setCell ⟨w.heap.size + 1 + 1, 0, none⟩ (.int .u32 (x1 : Int))).cell? ⟨w.heap.size, 1, none⟩ = some (.slice A n c) := by rw [← hV1]; exact G1.out.1.cell 1
  clear i1 b1 k1 K0 F0 I0 c0
  dsimp only [List.getElem?_cons_zero, List.getElem?_cons_succ] at m0
  go_wp2_with fail
  rw [← hV1]
  clear hV1 F1 m0 n0 d1
  refine (H2.out V1 J1.out).mono ?_
  rintro e w2 ⟨rfl, i2, b2, k2⟩
  have F2 : Hid (Blk w2 w.heap.size 38 [.int .u32 (ep : Int), .slice A n c] ∧ Blk w2 (w.heap.size + 1) 38 [.int .u32 0, .slice none 0 0] ∧ Blk w2 (w.heap.size + 1 + 1) 38 [.int .u32 (x1 : Int), .slice none 0 0]) :=
    Lib.hid ⟨k2.blk G1.out.1 (by decide), k2.blk G1.out.2.1 (by decide), k2.blk G1.out.2.2 (by decide)⟩
  have I2 := Lib.hid i2
  have K2 : Hid (Below n₀ w w2 ∧ KeepT eachT w w2) := Lib.hid ⟨K1.out.1.trans b2, K1.out.2.trans k2⟩
  clear i2 b2 k2 G1 J1 K1
  have hmb : i0.bytes * m ≤ 281474976710656 := by rw [hz2]; omega
  have hmm : m ≤ maxLen := by simp only [maxLen]; omega
  go_wp2_with (at_make; refine wpList_make_full _ rfl _ _ 36 rfl w2.heap.size 65 i0 (.agg #[.int .u32 0, .int .u32 0]) 2 Try.underlying36 hi hz0 hz1 .u64 .u64 _ _ m rfl rfl rfl rfl hmb hmm (Nat.le_refl _) ?_)
  intro w3 hown hgr
  have hz : (madeCells #[Value.int .u32 0, Value.int .u32 0] (m * 2)).toList = List.replicate (m * 2) (.int .u32 0) := made_repN (m * 2) (.int .u32 0) 2 (by decide)
  have hb3 : Blk w3 w2.heap.size 65 (List.replicate (m * 2) (.int .u32 0)) := by
    have h := blk_of_ownN hown (by decide)
    rw [hz] at h
    exact h
  have bl3 : Below w2.heap.size w2 w3 := (Below.refl _ _).grown hgr (Nat.le_refl _) (fun k hk => by cases hk)
  have F3 : Hid (Blk w3 w.heap.size 38 [.int .u32 (ep : Int), .slice A n c] ∧ Blk w3 (w.heap.size + 1) 38 [.int .u32 0, .slice none 0 0] ∧ Blk w3 (w.heap.size + 1 + 1) 38 [.int .u32 (x1 : Int), .slice none 0 0]) := Lib.hid ⟨F2.out.1.keep bl3, F2.out.2.1.keep bl3, F2.out.2.2.keep bl3⟩
  have GN : Hid (w.heap.size + 1 + 1 < w2.heap.size ∧ n₀ ≤ w.heap.size) := Lib.hid ⟨F2.out.2.2.lt, hn0⟩
  obtain ⟨g, hg⟩ : ∃ g, g = w2.heap.size := ⟨_, rfl⟩
  have I3 : Hid (Inv q w3) := Lib.hid (KP.out _ _ _ I2.out (KeepT.of_below bl3))
  have K3 : Hid (Below n₀ w w3 ∧ KeepT eachT w w3) := Lib.hid ⟨K2.out.1.trans (bl3.mono (by have := GN.out; omega)), K2.out.2.trans (KeepT.of_below bl3)⟩
  have HB3 := Lib.hid hb3
  rw [← hg] at GN HB3 ⊢
  clear hown hgr hz hb3 bl3 F2 I2 K2 hg hi hz0 hz1 hz2 hmb hmm
  have m0 := F3.out.2.2.cell 1
  have n0 := F3.out.2.2.frozen 1
  obtain ⟨V3, hV3⟩ : ∃ V3, V3 = w3.setCell ⟨w.heap.size + 1 + 1, 1, none⟩ (.slice (some ⟨g, 0, none⟩) m m) := ⟨_, rfl⟩
  have G3 : Hid (Blk V3 w.heap.size 38 [.int .u32 (ep : Int), .slice A n c] ∧ Blk V3 (w.heap.size + 1) 38 [.int .u32 0, .slice none 0 0] ∧ Blk V3 (w.heap.size + 1 + 1) 38 [.int .u32 (x1 : Int), .slice (some ⟨g, 0, none⟩) m m] ∧ Blk V3 g 65 (List.replicate (m * 2) (.int .u32 0))) := Lib.hid (by
    rw [hV3]
    exact ⟨F3.out.1.far (show w.heap.size ≠ w.heap.size + 1 + 1 by omega) _, F3.out.2.1.far (show w.heap.size + 1 ≠ w.heap.size + 1 + 1 by omega) _, F3.out.2.2.set_ 1 _, HB3.out.far (show g ≠ w.heap.size + 1 + 1 by have := GN.out; omega) _⟩)
  have J3 : Hid (Inv q V3) := Lib.hid (by rw [hV3]; exact KP.out _ _ _ I3.out (KeepT.setCell F3.out.2.2 (by decide) 1 _))
  have L3 : Hid (Below n₀ w V3 ∧ KeepT eachT w V3) := Lib.hid (by
    refine ⟨by rw [hV3]; exact K3.out.1.setCell (p := ⟨w.heap.size + 1 + 1, 1, none⟩) (by show n₀ ≤ w.heap.size + 1 + 1; omega) _, ?_⟩
    exact K3.out.2.new (by rw [hV3]; simp [World.setCell]) (fun j hj => by rw [hV3]; exact Below.heap_setCell _ _ _ _ (by show j ≠ w.heap.size + 1 + 1; omega)))
  have d1 : (w3.setCell ⟨w.heap.size + 1 + 1, 1, none⟩ (.slice (some ⟨g, 0, none⟩) m m)).cell? ⟨w.heap.size, 1, none⟩ = some (.slice A n c) := by rw [← hV3]; exact G3.out.1.cell 1
  have HCP : Hid (∀ ty, (Builtin.copy_ #[36, 36] ty #[.slice (some ⟨g, 0, none⟩) m m, .slice A n c]).run Try.prog (w3.setCell ⟨w.heap.size + 1 + 1, 1, none⟩ (.slice (some ⟨g, 0, none⟩) m m)) = .ok (.int .i64 (n : Int)) (V3.setRow g (rowsV RS).toArray)) := Lib.hid (fun ty => by
    have h := run_copy_rows V3 ty g m n c m A rs _ _ G3.out.2.2.2 (HRR.out V3 L3.out.1) NM.out (by rw [List.length_replicate]; have := NM.out; omega)
    rw [List.drop_replicate, show m * 2 - n * 2 = (m - n) * 2 from by omega, ← rowsV_zeros, ← rowsV_append, ← HRS.out] at h
    rw [← hV3]
    exact h)
  dsimp only [List.getElem?_cons_zero, List.getElem?_cons_succ] at m0
  obtain ⟨V4, hV4⟩ : ∃ V4, V4 = V3.setRow g (rowsV RS).toArray := ⟨_, rfl⟩
  rw [← hV4] at HCP
  have M4 : Hid (EpM w.heap.size g m x1 (rowsV (rowsStep step q (RS.take 0)).2 ++ rowsV (RS.drop 0)) V4) := Lib.hid (by
    rw [hV4]
    have e : ∀ k, k ≠ g → (V3.setRow g (rowsV RS).toArray).heap[k]? = V3.heap[k]? := fun k hk => setRow_other V3 g k _ hk
    refine ⟨GN.out.1, (e _ (by have := GN.out; omega)).trans G3.out.2.1, (e _ (by have := GN.out; omega)).trans G3.out.2.2.1, ?_⟩
    exact setRow_blk G3.out.2.2.2 _)
  have J4 : Hid (Inv (rowsStep step q (RS.take 0)).1 V4) := Lib.hid (by rw [hV4]; exact KP.out _ _ _ J3.out (KeepT.setRow G3.out.2.2.2 (by decide) _))
  have L4 : Hid (Below n₀ w V4 ∧ KeepT eachT w V4) := Lib.hid (by
    rw [hV4]
    exact ⟨below_setRow L3.out.1 (by have := GN.out; omega) _, L3.out.2.new (by simp [World.setRow]) (fun j hj => setRow_other V3 g j _ (by have := GN.out; omega))⟩)
  have C4 : Hid (Can (rowsStep step q (RS.take 0)).1 (2 * (m - 0))) := C2
  clear F3 HB3 I3 K3 J3 L3 G3 hV4
  have d2 := M4.out.2.2.1.cell 1
  dsimp only [List.getElem?_cons_zero, List.getElem?_cons_succ] at d2
  have hcp := HCP.out
  go_wp2_with fail
  clear hcp HCP d1 d2 m0 n0 hV3
  go_loopw [31] (fun iv wr => ∃ j : Nat, iv = .int .i64 (j : Int) ∧ j ≤ m ∧ Hid (EpM w.heap.size g m x1 (rowsV (rowsStep step q (RS.take j)).2 ++ rowsV (RS.drop j)) wr) ∧ Hid (Inv (rowsStep step q (RS.take j)).1 wr) ∧ Hid (Can (rowsStep step q (RS.take j)).1 (2 * (m - j))) ∧ Hid (Below n₀ w wr ∧ KeepT eachT w wr)) (fun iv _ => m - (intOf iv).toNat)
  case atStart => exact ⟨0, rfl, Nat.zero_le _, M4, J4, C4, L4⟩
  case round =>
    obtain ⟨j, rfl, hj, HM, HI, HCJ, HK⟩ := hrel
    by_cases hlt : j < m
    · obtain ⟨st, hst⟩ : ∃ st, st = rowsStep step q (RS.take j) := ⟨_, rfl⟩
      rw [← hst] at HM HI HCJ
      obtain ⟨d, hd⟩ : ∃ d, d = st.2 := ⟨_, rfl⟩
      have DL : Hid (d.length = j) := Lib.hid (by rw [hd, hst]; exact rowsStep_len step q RS j (by rw [RSL.out]; omega))
      obtain ⟨v, hv⟩ : ∃ v, v = (RS.getD j (0, 0)).1 := ⟨_, rfl⟩
      obtain ⟨t, ht⟩ : ∃ t, t = (RS.getD j (0, 0)).2 := ⟨_, rfl⟩
      have hvb : v < 4294967296 := by rw [hv]; exact (RSB.out j).1
      have htb : t < 4294967296 := by rw [ht]; exact (RSB.out j).2
      obtain ⟨z, hz⟩ : ∃ z, z = rowsV (RS.drop (j + 1)) := ⟨_, rfl⟩
      have HZ := Lib.hid hz
      have HDR : Hid (rowsV (RS.drop j) = .int .u32 (v : Int) :: .int .u32 (t : Int) :: z) := Lib.hid (by
        have hjl : j < RS.length := by rw [RSL.out]; exact hlt
        rw [List.drop_eq_getElem_cons hjl, rowsV_cons, hz, hv, ht, List.getD_eq_getElem?_getD, List.getElem?_eq_getElem hjl]
        rfl)
      rw [← hd, HDR.out] at HM
      obtain ⟨r1, hr1⟩ : ∃ r, r = step st.1 v 4 := ⟨_, rfl⟩
      obtain ⟨r2, hr2⟩ : ∃ r, r = step r1.1 t 4 := ⟨_, rfl⟩
      obtain ⟨k, hk⟩ : ∃ k, 2 * (m - j) = k + 1 + 1 := ⟨2 * (m - j) - 2, by omega⟩
      have e4 : (256 : Nat) ^ 4 = 4294967296 := by decide
      have cA : Can st.1 (k + 1 + 1) := by rw [← hk]; exact HCJ.out
      have cB : Can r1.1 (k + 1) := by rw [hr1]; exact CN.out st.1 v 4 (k + 1) cA (by decide) (by decide)
      have CJ2 : Hid (Can r2.1 (2 * (m - (j + 1)))) := Lib.hid (by rw [show 2 * (m - (j + 1)) = k from by omega, hr2]; exact CN.out r1.1 t 4 k cB (by decide) (by decide))
      have Q1 := Lib.hid (fun W (h : Inv st.1 W) => HCC.out st.1 v 4 (k + 1) W h cA (by decide) (by decide) (by omega) (by omega))
      have Q2 := Lib.hid (fun W (h : Inv r1.1 W) => HCC.out r1.1 t 4 k W h cB (by decide) (by decide) (by omega) (by omega))
      rw [← hr1] at Q1
      rw [← hr2] at Q2
      obtain ⟨x, hx⟩ : ∃ x, x = r1.2 := ⟨_, rfl⟩
      obtain ⟨y, hy⟩ : ∃ y, y = r2.2 := ⟨_, rfl⟩
      have hxb : x < 4294967296 := by rw [hx, hr1, ← e4]; exact SM.out st.1 v 4 (by decide) (by decide) (by omega)
      have hyb : y < 4294967296 := by rw [hy, hr2, ← e4]; exact SM.out r1.1 t 4 (by decide) (by decide) (by omega)
      rw [← hx] at Q1
      rw [← hy] at Q2
      have HNXT : Hid (rowsStep step q (RS.take (j + 1)) = (r2.1, d ++ [(x, y)])) := Lib.hid (by
        rw [rowsStep_take step q RS j (by rw [RSL.out]; exact hlt), ← hst]
        unfold rowStep
        rw [← hv, ← hr1, ← ht, ← hr2, ← hx, ← hy, ← hd])
      have wv : IntKind.u64.wrap (v : Int) = (v : Int) := IntWalk.u64_in _ (by omega)
      have wt : IntKind.u64.wrap (t : Int) = (t : Int) := IntWalk.u64_in _ (by omega)
      have wx' : IntKind.u32.wrap (x : Int) = (x : Int) := by simp [IntKind.wrap, IntKind.bits, IntKind.signed]; omega
      have wy' : IntKind.u32.wrap (y : Int) = (y : Int) := by simp [IntKind.wrap, IntKind.bits, IntKind.signed]; omega
      have k0 := (HM.out.2.2.2.cell (j * 2)).trans (rowsV_mid d _ _ z j DL.out).1
      have k1 := (HM.out.2.2.2.cell (j * 2 + 1)).trans (rowsV_mid d _ _ z j DL.out).2
      have hdec : decide ((j : Int) < (m : Int)) = true := decide_eq_true (by omega)
      have hw1 : IntKind.i64.wrap ((j : Int) + 1) = ((j + 1 : Nat) : Int) := by rw [IntWalk.i64_in _ (by omega)]; omega
      clear hst hd hv ht hz hr1 hr2 hk e4 cA cB hx hy hvb htb hxb hyb HDR HCJ
      obtain ⟨b7, hb7⟩ : ∃ b, b = wr.heap.size := ⟨_, rfl⟩
      obtain ⟨V0, hV0⟩ : ∃ V0, V0 = wr.alloc (.cells #[.int .u32 (v : Int), .int .u32 (t : Int)] 65) := ⟨_, rfl⟩
      have bl0 : Below wr.heap.size wr V0.drew := by rw [hV0]; exact ((Below.refl _ _).alloc (Nat.le_refl _) _).drew
      have M4 : Hid (EpM w.heap.size g m x1 (rowsV d ++ (.int .u32 (v : Int) :: .int .u32 (t : Int) :: z)) V0.drew) := Lib.hid (HM.out.keepT (KeepT.of_below bl0))
      have X4 : Hid (Blk V0.drew b7 65 [.int .u32 (v : Int), .int .u32 (t : Int)]) := Lib.hid (by rw [hV0, hb7]; exact heap_alloc_new wr _)
      have JD0 : Hid (Inv st.1 V0.drew) := Lib.hid (KP.out _ _ _ HI.out (KeepT.of_below bl0))
      have K4 : Hid (Below n₀ w V0.drew ∧ KeepT eachT w V0.drew) := Lib.hid ⟨HK.out.1.trans (bl0.mono (Nat.le_trans hn0 HK.out.1.size)), HK.out.2.trans (KeepT.of_below bl0)⟩
      have NE7 : Hid (b7 ≠ g) := Lib.hid (by have := HM.out.2.2.2.lt; omega)
      clear HM HI HK bl0
      go_upto_region 8 with fail
      rw [← hb7]
      refine wp_world hV0 ?_
      clear hV0 hb7 k0 k1
      refine wp_region_noPanic ?_
      refine wp_region_held_drew (S := fun w' => w'.cell? ⟨w.heap.size + 1 + 1, 1, none⟩ = some (.slice (some ⟨g, 0, none⟩) m m) ∧ w'.cell? ⟨b7, 0, none⟩ = some (.int .u32 (v : Int))) (by kernel_rfl) ?_ (fun hHeld => ?_)
      · exact ⟨M4.out.2.2.1.cell 1, X4.out.cell 0⟩
      refine wpAnyH_take (i := 0) (oi := ep8o0) (v := ?_) rfl (by kernel_rfl) (by kernel_rfl) (by kernel_rfl) (fun _ _ _ h => h) (Or.inl ⟨by rfl, ?_⟩) (by assumption) ?_
      rotate_left
      · (intro w hSw; (try dsimp only at hSw); obtain ⟨s0, s1⟩ := hSw; (try dsimp only [ep8o0]); go_simp; try (with_reducible rfl))
      (try simp only [Act.put, List.setIfInBounds_toArray, List.set_cons_zero, List.set_cons_succ])
      refine wpAnyH_take (i := 1) (oi := ep8o1) (v := ?_) rfl (by kernel_rfl) (by kernel_rfl) (by kernel_rfl) (fun _ _ _ h => h) (Or.inl ⟨by rfl, ?_⟩) (by assumption) ?_
      rotate_left
      · (intro w hSw; (try dsimp only at hSw); obtain ⟨s0, s1⟩ := hSw; (try dsimp only [ep8o1]); go_simp; try (with_reducible rfl))
      (try simp only [Act.put, List.setIfInBounds_toArray, List.set_cons_zero, List.set_cons_succ])
      refine wpAnyH_take (i := 2) (oi := ep8o2) (v := ?_) rfl (by kernel_rfl) (by kernel_rfl) (by kernel_rfl) (fun _ _ _ h => h) (Or.inl ⟨by rfl, ?_⟩) (by assumption) ?_
      rotate_left
      · (intro w hSw; (try dsimp only at hSw); obtain ⟨s0, s1⟩ := hSw; (try dsimp only [ep8o2]); go_simp; try (with_reducible rfl))
      (try simp only [Act.put, List.setIfInBounds_toArray, List.set_cons_zero, List.set_cons_succ])
      refine wpAnyH_take (i := 3) (oi := ep8o3) (v := ?_) rfl (by kernel_rfl) (by kernel_rfl) (by kernel_rfl) (fun _ _ _ h => h) (Or.inl ⟨by rfl, ?_⟩) (by assumption) ?_
      rotate_left
      · (intro w hSw; (try dsimp only at hSw); obtain ⟨s0, s1⟩ := hSw; (try dsimp only [ep8o3]); go_simp; try (with_reducible rfl))
      (try simp only [Act.put, List.setIfInBounds_toArray, List.set_cons_zero, List.set_cons_succ])
      refine wpAnyH_take (i := 4) (oi := ep8o4) (v := ?_) rfl (by kernel_rfl) (by kernel_rfl) (by kernel_rfl) (fun _ _ _ h => h) (Or.inl ⟨by rfl, ?_⟩) (by assumption) ?_
      rotate_left
      · (intro w hSw; (try dsimp only at hSw); obtain ⟨s0, s1⟩ := hSw; (try dsimp only [ep8o4]); go_simp; try (with_reducible rfl))
      (try simp only [Act.put, List.setIfInBounds_toArray, List.set_cons_zero, List.set_cons_succ])
      refine wpAnyH_take (i := 5) (oi := ep8o5) (v := ?_) rfl (by kernel_rfl) (by kernel_rfl) (by kernel_rfl) (fun _ _ _ h => h) (Or.inl ⟨by rfl, ?_⟩) (by assumption) ?_
      rotate_left
      · (intro w hSw; (try dsimp only at hSw); obtain ⟨s0, s1⟩ := hSw; (try dsimp only [ep8o5]); go_simp; try (with_reducible rfl))
      (try simp only [Act.put, List.setIfInBounds_toArray, List.set_cons_zero, List.set_cons_succ])
      refine wpAnyH_take (i := 6) (oi := ep8o6) (v := ?_) rfl (by kernel_rfl) (by kernel_rfl) (by kernel_rfl) (fun _ _ _ h => h) (Or.inl ⟨by rfl, ?_⟩) (by assumption) ?_
      rotate_left
      · (intro w hSw; (try dsimp only at hSw); obtain ⟨s0, s1⟩ := hSw; (try dsimp only [ep8o6]); go_simp; try (with_reducible rfl))
      (try simp only [Act.put, List.setIfInBounds_toArray, List.set_cons_zero, List.set_cons_succ])
      refine wpAnyH_ready (rs := [7]) (by kernel_rfl) (by simp) ?_
      refine AllReadyH.cons (o := ep8o7) rfl (fun K hK => ?_) AllReadyH.nil
      dsimp only [ep8o7]
      go_simp
      refine (Q1.out _ JD0.out).mono ?_
      rintro e w5 ⟨rfl, i5, k5b, k5⟩
      have M5 := Lib.hid (M4.out.keepT k5)
      have X5 := Lib.hid (k5.blk X4.out (by decide))
      have I5 := Lib.hid i5
      have K5 : Hid (Below n₀ w w5 ∧ KeepT eachT w w5) := Lib.hid ⟨K4.out.1.trans k5b, K4.out.2.trans k5⟩
      clear i5 k5b k5
      (try go_wp2_with fail)
      refine hK.out _ _ ?_ (fun hHeld => ?_)
      · exact ⟨M5.out.2.2.1.cell 1, X5.out.cell 0⟩
      clear hK K
      (try simp only [Act.put, List.setIfInBounds_toArray, List.set_cons_zero, List.set_cons_succ])
      refine wpAnyH_take (i := 8) (oi := ep8o8) (v := ?_) rfl (by kernel_rfl) (by kernel_rfl) (by kernel_rfl) (fun _ _ _ h => h) (Or.inl ⟨by rfl, ?_⟩) (by assumption) ?_
      rotate_left
      · (intro w hSw; (try dsimp only at hSw); obtain ⟨s0, s1⟩ := hSw; (try dsimp only [ep8o8]); go_simp; try (with_reducible rfl))
      (try simp only [Act.put, List.setIfInBounds_toArray, List.set_cons_zero, List.set_cons_succ])
      refine wpAnyH_take (i := 9) (oi := ep8o9) (v := ?_) rfl (by kernel_rfl) (by kernel_rfl) (by kernel_rfl) (fun _ _ _ h => h) (Or.inl ⟨by rfl, ?_⟩) (by assumption) ?_
      rotate_left
      · (intro w hSw; (try dsimp only at hSw); obtain ⟨s0, s1⟩ := hSw; (try dsimp only [ep8o9]); go_simp; try (with_reducible rfl))
      (try simp only [Act.put, List.setIfInBounds_toArray, List.set_cons_zero, List.set_cons_succ])
      refine wpAnyH_take (i := 10) (oi := ep8o10) (v := ?_) rfl (by kernel_rfl) (by kernel_rfl) (by kernel_rfl) (fun _ _ _ h => h) (Or.inl ⟨by rfl, ?_⟩) (by assumption) ?_
      rotate_left
      · (intro w hSw; (try dsimp only at hSw); obtain ⟨s0, s1⟩ := hSw; (try dsimp only [ep8o10]); go_simp; try (with_reducible rfl))
      (try simp only [Act.put, List.setIfInBounds_toArray, List.set_cons_zero, List.set_cons_succ])
      refine wpAnyH_ready (rs := [11]) (by kernel_rfl) (by simp) ?_
      refine AllReadyH.cons (o := ep8o11) rfl (fun K hK => ?_) AllReadyH.nil
      rw [if_pos (by rfl)]
      have ST := run_store1 w5 g (j * 2) 65 _ _ (.int .u32 (x : Int)) 23 M5.out.2.2.2 (rowsV_mid _ _ _ _ j DL.out).1 (by kernel_rfl) rfl
      refine wp_store_isN _ _ _ rfl ⟨g, j * 2, none⟩ rfl _ rfl _ ST ?_
      clear ST
      have M6 : Hid (EpM w.heap.size g m x1 (rowsV d ++ (.int .u32 (x : Int) :: .int .u32 (t : Int) :: z)) (w5.setCell ⟨g, j * 2, none⟩ (.int .u32 (x : Int)))) := Lib.hid (by have h := M5.out.set_ (j * 2) (.int .u32 (x : Int)); rw [rowsV_set0 d _ _ _ z j DL.out] at h; exact h)
      have X6 : Hid (Blk (w5.setCell ⟨g, j * 2, none⟩ (.int .u32 (x : Int))) b7 65 [.int .u32 (v : Int), .int .u32 (t : Int)]) := Lib.hid (X5.out.far (show b7 ≠ g from NE7.out) _)
      have I6 : Hid (Inv r1.1 (w5.setCell ⟨g, j * 2, none⟩ (.int .u32 (x : Int)))) := Lib.hid (KP.out _ _ _ I5.out (KeepT.setCell M5.out.2.2.2 (by decide) (j * 2) _))
      have K6 : Hid (Below n₀ w (w5.setCell ⟨g, j * 2, none⟩ (.int .u32 (x : Int))) ∧ KeepT eachT w (w5.setCell ⟨g, j * 2, none⟩ (.int .u32 (x : Int)))) := Lib.hid ⟨K5.out.1.setCell (p := ⟨g, j * 2, none⟩) (by show n₀ ≤ g; have := GN.out; omega) _, K5.out.2.new (by simp [World.setCell]) (fun k hk => Below.heap_setCell _ _ _ _ (by show k ≠ g; have := GN.out; omega))⟩
      refine hK.out _ _ ?_ (fun hHeld => ?_)
      · exact ⟨M6.out.2.2.1.cell 1, X6.out.cell 0⟩
      clear hK K
      (try simp only [Act.put, List.setIfInBounds_toArray, List.set_cons_zero, List.set_cons_succ])
      refine wpAnyH_done (by kernel_rfl) ?_ _
      refine NoPanic.normal ?_
      obtain ⟨V1, hV1⟩ : ∃ V1, V1 = w5.setCell ⟨g, j * 2, none⟩ (.int .u32 (x : Int)) := ⟨_, rfl⟩
      rw [← hV1] at M6 X6 I6 K6
      have N6 : Hid (EpM w.heap.size g m x1 (rowsV d ++ (.int .u32 (x : Int) :: .int .u32 (t : Int) :: z)) V1.drew) := Lib.hid M6.out
      have Y6 : Hid (Blk V1.drew b7 65 [.int .u32 (v : Int), .int .u32 (t : Int)]) := Lib.hid X6.out
      have JD1 : Hid (Inv r1.1 V1.drew) := Lib.hid (KP.out _ _ _ I6.out (KeepT.of_below (Below.refl _ _).drew))
      have L6 : Hid (Below n₀ w V1.drew ∧ KeepT eachT w V1.drew) := Lib.hid ⟨K6.out.1.drew, K6.out.2.trans (KeepT.of_below (Below.refl _ _).drew)⟩
      rw [← hV1]
      clear hV1 M4 X4 JD0 K4 M5 X5 I5 K5 M6 X6 I6 K6
      go_upto_region 9 with fail
      refine wp_region_noPanic ?_
      refine wp_region_held_drew (S := fun w' => w'.cell? ⟨w.heap.size + 1 + 1, 1, none⟩ = some (.slice (some ⟨g, 0, none⟩) m m) ∧ w'.cell? ⟨b7, 1, none⟩ = some (.int .u32 (t : Int))) (by kernel_rfl) ?_ (fun hHeld => ?_)
      · exact ⟨N6.out.2.2.1.cell 1, Y6.out.cell 1⟩
      refine wpAnyH_take (i := 0) (oi := ep9o0) (v := ?_) rfl (by kernel_rfl) (by kernel_rfl) (by kernel_rfl) (fun _ _ _ h => h) (Or.inl ⟨by rfl, ?_⟩) (by assumption) ?_
      rotate_left
      · (intro w hSw; (try dsimp only at hSw); obtain ⟨s0, s1⟩ := hSw; (try dsimp only [ep9o0]); go_simp; try (with_reducible rfl))
      (try simp only [Act.put, List.setIfInBounds_toArray, List.set_cons_zero, List.set_cons_succ])
      refine wpAnyH_take (i := 1) (oi := ep9o1) (v := ?_) rfl (by kernel_rfl) (by kernel_rfl) (by kernel_rfl) (fun _ _ _ h => h) (Or.inl ⟨by rfl, ?_⟩) (by assumption) ?_
      rotate_left
      · (intro w hSw; (try dsimp only at hSw); obtain ⟨s0, s1⟩ := hSw; (try dsimp only [ep9o1]); go_simp; try (with_reducible rfl))
      (try simp only [Act.put, List.setIfInBounds_toArray, List.set_cons_zero, List.set_cons_succ])
      refine wpAnyH_take (i := 2) (oi := ep9o2) (v := ?_) rfl (by kernel_rfl) (by kernel_rfl) (by kernel_rfl) (fun _ _ _ h => h) (Or.inl ⟨by rfl, ?_⟩) (by assumption) ?_
      rotate_left
      · (intro w hSw; (try dsimp only at hSw); obtain ⟨s0, s1⟩ := hSw; (try dsimp only [ep9o2]); go_simp; try (with_reducible rfl))
      (try simp only [Act.put, List.setIfInBounds_toArray, List.set_cons_zero, List.set_cons_succ])
      refine wpAnyH_take (i := 3) (oi := ep9o3) (v := ?_) rfl (by kernel_rfl) (by kernel_rfl) (by kernel_rfl) (fun _ _ _ h => h) (Or.inl ⟨by rfl, ?_⟩) (by assumption) ?_
      rotate_left
      · (intro w hSw; (try dsimp only at hSw); obtain ⟨s0, s1⟩ := hSw; (try dsimp only [ep9o3]); go_simp; try (with_reducible rfl))
      (try simp only [Act.put, List.setIfInBounds_toArray, List.set_cons_zero, List.set_cons_succ])
      refine wpAnyH_take (i := 4) (oi := ep9o4) (v := ?_) rfl (by kernel_rfl) (by kernel_rfl) (by kernel_rfl) (fun _ _ _ h => h) (Or.inl ⟨by rfl, ?_⟩) (by assumption) ?_
      rotate_left
      · (intro w hSw; (try dsimp only at hSw); obtain ⟨s0, s1⟩ := hSw; (try dsimp only [ep9o4]); go_simp; try (with_reducible rfl))
      (try simp only [Act.put, List.setIfInBounds_toArray, List.set_cons_zero, List.set_cons_succ])
      refine wpAnyH_take (i := 5) (oi := ep9o5) (v := ?_) rfl (by kernel_rfl) (by kernel_rfl) (by kernel_rfl) (fun _ _ _ h => h) (Or.inl ⟨by rfl, ?_⟩) (by assumption) ?_
      rotate_left
      · (intro w hSw; (try dsimp only at hSw); obtain ⟨s0, s1⟩ := hSw; (try dsimp only [ep9o5]); go_simp; try (with_reducible rfl))
      (try simp only [Act.put, List.setIfInBounds_toArray, List.set_cons_zero, List.set_cons_succ])
      refine wpAnyH_take (i := 6) (oi := ep9o6) (v := ?_) rfl (by kernel_rfl) (by kernel_rfl) (by kernel_rfl) (fun _ _ _ h => h) (Or.inl ⟨by rfl, ?_⟩) (by assumption) ?_
      rotate_left
      · (intro w hSw; (try dsimp only at hSw); obtain ⟨s0, s1⟩ := hSw; (try dsimp only [ep9o6]); go_simp; try (with_reducible rfl))
      (try simp only [Act.put, List.setIfInBounds_toArray, List.set_cons_zero, List.set_cons_succ])
      refine wpAnyH_ready (rs := [7]) (by kernel_rfl) (by simp) ?_
      refine AllReadyH.cons (o := ep9o7) rfl (fun K hK => ?_) AllReadyH.nil
      dsimp only [ep9o7]
      go_simp
      refine (Q2.out _ JD1.out).mono ?_
      rintro e w7 ⟨rfl, i7, k7b, k7⟩
      have M7 := Lib.hid (N6.out.keepT k7)
      have X7 := Lib.hid (k7.blk Y6.out (by decide))
      have I7 := Lib.hid i7
      have K7 : Hid (Below n₀ w w7 ∧ KeepT eachT w w7) := Lib.hid ⟨L6.out.1.trans k7b, L6.out.2.trans k7⟩
      clear i7 k7b k7
      (try go_wp2_with fail)
      refine hK.out _ _ ?_ (fun hHeld => ?_)
      · exact ⟨M7.out.2.2.1.cell 1, X7.out.cell 1⟩
      clear hK K
      (try simp only [Act.put, List.setIfInBounds_toArray, List.set_cons_zero, List.set_cons_succ])
      refine wpAnyH_take (i := 8) (oi := ep9o8) (v := ?_) rfl (by kernel_rfl) (by kernel_rfl) (by kernel_rfl) (fun _ _ _ h => h) (Or.inl ⟨by rfl, ?_⟩) (by assumption) ?_
      rotate_left
      · (intro w hSw; (try dsimp only at hSw); obtain ⟨s0, s1⟩ := hSw; (try dsimp only [ep9o8]); go_simp; try (with_reducible rfl))
      (try simp only [Act.put, List.setIfInBounds_toArray, List.set_cons_zero, List.set_cons_succ])
      refine wpAnyH_take (i := 9) (oi := ep9o9) (v := ?_) rfl (by kernel_rfl) (by kernel_rfl) (by kernel_rfl) (fun _ _ _ h => h) (Or.inl ⟨by rfl, ?_⟩) (by assumption) ?_
      rotate_left
      · (intro w hSw; (try dsimp only at hSw); obtain ⟨s0, s1⟩ := hSw; (try dsimp only [ep9o9]); go_simp; try (with_reducible rfl))
      (try simp only [Act.put, List.setIfInBounds_toArray, List.set_cons_zero, List.set_cons_succ])
      refine wpAnyH_take (i := 10) (oi := ep9o10) (v := ?_) rfl (by kernel_rfl) (by kernel_rfl) (by kernel_rfl) (fun _ _ _ h => h) (Or.inl ⟨by rfl, ?_⟩) (by assumption) ?_
      rotate_left
      · (intro w hSw; (try dsimp only at hSw); obtain ⟨s0, s1⟩ := hSw; (try dsimp only [ep9o10]); go_simp; try (with_reducible rfl))
      (try simp only [Act.put, List.setIfInBounds_toArray, List.set_cons_zero, List.set_cons_succ])
      refine wpAnyH_ready (rs := [11]) (by kernel_rfl) (by simp) ?_
      refine AllReadyH.cons (o := ep9o11) rfl (fun K hK => ?_) AllReadyH.nil
      rw [if_pos (by rfl)]
      have ST := run_store1 w7 g (j * 2 + 1) 65 _ _ (.int .u32 (y : Int)) 23 M7.out.2.2.2 (rowsV_mid _ _ _ _ j DL.out).2 (by kernel_rfl) rfl
      refine wp_store_isN _ _ _ rfl ⟨g, j * 2 + 1, none⟩ rfl _ rfl _ ST ?_
      clear ST
      have M8 : Hid (EpM w.heap.size g m x1 (rowsV d ++ (.int .u32 (x : Int) :: .int .u32 (y : Int) :: z)) (w7.setCell ⟨g, j * 2 + 1, none⟩ (.int .u32 (y : Int)))) := Lib.hid (by have h := M7.out.set_ (j * 2 + 1) (.int .u32 (y : Int)); rw [rowsV_set1 d _ _ _ z j DL.out] at h; exact h)
      have X8 : Hid (Blk (w7.setCell ⟨g, j * 2 + 1, none⟩ (.int .u32 (y : Int))) b7 65 [.int .u32 (v : Int), .int .u32 (t : Int)]) := Lib.hid (X7.out.far (show b7 ≠ g from NE7.out) _)
      have I8 : Hid (Inv r2.1 (w7.setCell ⟨g, j * 2 + 1, none⟩ (.int .u32 (y : Int)))) := Lib.hid (KP.out _ _ _ I7.out (KeepT.setCell M7.out.2.2.2 (by decide) (j * 2 + 1) _))
      have K8 : Hid (Below n₀ w (w7.setCell ⟨g, j * 2 + 1, none⟩ (.int .u32 (y : Int))) ∧ KeepT eachT w (w7.setCell ⟨g, j * 2 + 1, none⟩ (.int .u32 (y : Int)))) := Lib.hid ⟨K7.out.1.setCell (p := ⟨g, j * 2 + 1, none⟩) (by show n₀ ≤ g; have := GN.out; omega) _, K7.out.2.new (by simp [World.setCell]) (fun k hk => Below.heap_setCell _ _ _ _ (by show k ≠ g; have := GN.out; omega))⟩
      refine hK.out _ _ ?_ (fun hHeld => ?_)
      · exact ⟨M8.out.2.2.1.cell 1, X8.out.cell 1⟩
      clear hK K
      (try simp only [Act.put, List.setIfInBounds_toArray, List.set_cons_zero, List.set_cons_succ])
      refine wpAnyH_done (by kernel_rfl) ?_ _
      refine NoPanic.normal ?_
      clear N6 Y6 JD1 L6 M7 X7 I7 K7
      go_wp2_with fail
      go_roundw
      case rel => exact ⟨j + 1, by go_num, by omega, Lib.hid (by rw [HNXT.out]; dsimp only; rw [rowsV_append, List.append_assoc, ← HZ.out]; exact M8.out), Lib.hid (by rw [HNXT.out]; exact I8.out), Lib.hid (by rw [HNXT.out]; exact CJ2.out), K8⟩
      case measure => simp [intOf]; omega
    · have hjm : j = m := by omega
      subst hjm
      have hdec : decide ((j : Int) < (j : Int)) = false := decide_eq_false (by omega)
      rw [List.take_of_length_le (by rw [RSL.out]; exact Nat.le_refl _), ← HFF.out] at HM HI
      rw [List.drop_of_length_le (by rw [RSL.out]; exact Nat.le_refl _), rowsV_nil, List.append_nil] at HM
      obtain ⟨g0, g1⟩ := (show _ ∧ _ from ⟨HM.out.2.2.1.cell 0, HM.out.2.2.1.cell 1⟩)
      obtain ⟨h0, h1⟩ := (show _ ∧ _ from ⟨HM.out.2.1.cell 0, HM.out.2.1.cell 1⟩)
      have q0 := HM.out.2.1.frozen 0
      have q1 := HM.out.2.1.frozen 1
      dsimp only [List.getElem?_cons_zero, List.getElem?_cons_succ] at g0 g1 h0 h1
      go_wp2_with fail
      clear g0 g1 h0 h1 q0 q1
      have GP := (HM.out.2.1.set_ 0 (.int .u32 (x1 : Int))).set_ 1 (.slice (some ⟨g, 0, none⟩) j j)
      have d0 := GP.cell 0
      have d1 := GP.cell 1
      dsimp only [List.getElem?_cons_zero, List.getElem?_cons_succ, List.set_cons_zero, List.set_cons_succ] at d0 d1
      refine bodyPost_ret (v := .agg #[.int .u32 (x1 : Int), .slice (some ⟨g, 0, none⟩) j j]) (by simp [results, Try.results25, go_sem, d0, d1]) rfl ⟨g, rfl, ?_, ?_, ?_, ?_, ?_⟩
      · have := HM.out.1
        exact (HM.out.2.2.2.far (show g ≠ w.heap.size + 1 by omega) _).far (show g ≠ w.heap.size + 1 by omega) _
      · have := GN.out; omega
      · exact KP.out _ _ _ HI.out ((KeepT.setCell HM.out.2.1 (by decide) 0 _).trans (KeepT.setCell (HM.out.2.1.set_ 0 _) (by decide) 1 _))
      · exact (HK.out.1.setCell (p := ⟨w.heap.size + 1, 0, none⟩) (by show n₀ ≤ w.heap.size + 1; omega) _).setCell (p := ⟨w.heap.size + 1, 1, none⟩) (by show n₀ ≤ w.heap.size + 1; omega) _
      · exact HK.out.2.new (by simp [World.setCell]) (fun k hk => by
          rw [Below.heap_setCell _ _ _ _ (by show k ≠ w.heap.size + 1; omega), Below.heap_setCell _ _ _ _ (by show k ≠ w.heap.size + 1; omega)])

set_option maxHeartbeats 16000000 in
theorem eachP_opened (n₀ B : Nat) {σ : Type} (step : σ → Nat → Nat → σ × Nat) (Inv : σ → World → Prop) (Can : σ → Nat → Prop) (HF : NumFn 41 #[.pointer (some ⟨B + 3, 0, none⟩), .pointer (some ⟨B, 0, none⟩), .pointer (some ⟨B + 4, 0, none⟩)] n₀ step Inv Can) (s : σ) (ep : Nat) (A : Option Addr) (n c : Nat) (rs : List RowT) (w : World) (p1 p2 : σ × Nat) (RS : List RowT) (F : σ × List RowT)
    (hs : Inv s w) (hc : Can s (2 * p2.2 + 2)) (hep : ep < 4294967296) (hR : ∀ W, Below n₀ w W → Rws W A n rs) (hn : n < 65536) (hnc : n ≤ c) (hp1 : p1 = step s ep 4) (hp2 : p2 = step p1.1 n 2) (hnm : n ≤ p2.2) (hn0 : n₀ ≤ w.heap.size)
    (hRS : RS = rs ++ List.replicate (p2.2 - n) (0, 0)) (hF : F = rowsStep step p2.1 RS) :
    Calls Try.prog 25 #[.agg #[.int .u32 (ep : Int), .slice A n c], .func (.func 41) #[] #[.pointer (some ⟨B + 3, 0, none⟩), .pointer (some ⟨B, 0, none⟩), .pointer (some ⟨B + 4, 0, none⟩)]] w fun e w' =>
      ∃ g, e = .returned (.agg #[.int .u32 (p1.2 : Int), .slice (some ⟨g, 0, none⟩) p2.2 p2.2]) ∧ Blk w' g 65 (rowsV F.2) ∧ w.heap.size ≤ g ∧ Inv F.1 w' ∧ Below n₀ w w' ∧ KeepT eachT w w' := by
  obtain ⟨HC, HCan, HSm, HKp⟩ := HF
  obtain ⟨i0, hi, hz0, hz1, hz2⟩ := info_parts infoRow
  have e4 : (256 : Nat) ^ 4 = 4294967296 := by decide
  have e2 : (256 : Nat) ^ 2 = 65536 := by decide
  have c1 : Can p1.1 (2 * p2.2 + 1) := by rw [hp1]; exact HCan s ep 4 _ hc (by decide) (by decide)
  have c2 : Can p2.1 (2 * p2.2) := by rw [hp2] at c1 ⊢; exact HCan p1.1 n 2 _ c1 (by decide) (by decide)
  have z1 : p1.2 < 4294967296 := by rw [hp1, ← e4]; exact HSm s ep 4 (by decide) (by decide) (by omega)
  have z2 : p2.2 < 65536 := by rw [hp2, ← e2]; exact HSm p1.1 n 2 (by decide) (by decide) (by omega)
  have H1 := Lib.hid (fun W (h : Inv s W) => HC s ep 4 _ W h hc (by decide) (by decide) (by omega) (by omega))
  have H2 := Lib.hid (fun W (h : Inv p1.1 W) => HC p1.1 n 2 _ W h c1 (by decide) (by decide) (by omega) (by omega))
  rw [← hp1] at H1
  rw [← hp2] at H2
  have KP := Lib.hid HKp
  have CN := Lib.hid HCan
  have HCC := Lib.hid HC
  have SM := Lib.hid HSm
  have HS := Lib.hid hs
  have HRR := Lib.hid hR
  have C2 := Lib.hid c2
  obtain ⟨x1, hx1⟩ : ∃ x, x = p1.2 := ⟨_, rfl⟩
  obtain ⟨m, hm⟩ : ∃ m, m = p2.2 := ⟨_, rfl⟩
  rw [← hx1] at H1 z1 ⊢
  rw [← hm] at H2 C2 z2 hnm hRS ⊢
  obtain ⟨q, hq⟩ : ∃ q, q = p2.1 := ⟨_, rfl⟩
  rw [← hq] at H2 C2 hF
  have wep : IntKind.u64.wrap (ep : Int) = (ep : Int) := IntWalk.u64_in _ (by omega)
  have wn : IntKind.u64.wrap (n : Int) = (n : Int) := IntWalk.u64_in _ (by omega)
  have wx : IntKind.u32.wrap (x1 : Int) = (x1 : Int) := by simp [IntKind.wrap, IntKind.bits, IntKind.signed]; omega
  have HRS := Lib.hid hRS
  have HFF := Lib.hid hF
  have RL : Hid (rs.length = n) := Lib.hid (hR w (Below.refl _ _)).1
  have RSL : Hid (RS.length = m) := Lib.hid (by rw [hRS, List.length_append, List.length_replicate, RL.out]; omega)
  have RSB : Hid (∀ j, (RS.getD j (0, 0)).1 < 4294967296 ∧ (RS.getD j (0, 0)).2 < 4294967296) := Lib.hid (fun j => by
    rcases Nat.lt_or_ge j n with h | h
    · have := (hR w (Below.refl _ _)).2.1 j h
      rw [hRS, List.getD_eq_getElem?_getD, List.getElem?_append_left (by rw [RL.out]; exact h), ← List.getD_eq_getElem?_getD]
      exact this
    · rw [hRS, List.getD_eq_getElem?_getD, List.getElem?_append_right (by rw [RL.out]; exact h), List.getElem?_replicate]
      split <;> exact ⟨by decide, by decide⟩)
  have NM := Lib.hid hnm
  clear hp1 hp2 hx1 hm hq c1 c2 hc hs hR HC HCan HSm HKp hRS hF e4 e2 hnm
  obtain ⟨W0, hW0⟩ : ∃ W0, W0 = ((w.alloc (.cells #[.int .u32 (ep : Int), .slice A n c] 38)).alloc (.cells #[.int .u32 0, .slice none 0 0] 38)).alloc (.cells #[.int .u32 0, .slice none 0 0] 38) := ⟨_, rfl⟩
  have F0 : Hid (Blk W0 w.heap.size 38 [.int .u32 (ep : Int), .slice A n c] ∧ Blk W0 (w.heap.size + 1) 38 [.int .u32 0, .slice none 0 0] ∧ Blk W0 (w.heap.size + 1 + 1) 38 [.int .u32 0, .slice none 0 0] ∧ w.heap.size + 1 + 1 < W0.heap.size) := Lib.hid (by
    rw [hW0]
    refine ⟨((show Blk _ _ _ _ from heap_alloc_new w _).alloc _).alloc _, ?_, ?_, by simp⟩
    · have h := (show Blk _ _ _ _ from heap_alloc_new (w.alloc (.cells #[.int .u32 (ep : Int), .slice A n c] 38)) (.cells #[.int .u32 0, .slice none 0 0] 38 (0, 0))).alloc (.cells #[.int .u32 0, .slice none 0 0] 38)
      rw [World.size_alloc] at h
      exact h
    · have h := (show Blk _ _ _ _ from heap_alloc_new ((w.alloc (.cells #[.int .u32 (ep : Int), .slice A n c] 38)).alloc (.cells #[.int .u32 0, .slice none 0 0] 38)) (.cells #[.int .u32 0, .slice none 0 0] 38 (0, 0)))
      rw [World.size_alloc, World.size_alloc] at h
      exact h)
  have B0 : Hid (Below w.heap.size w W0) := Lib.hid (by rw [hW0]; exact (((Below.refl _ _).alloc (Nat.le_refl _) _).alloc (by simp) _).alloc (by simp; omega) _)
  have I0 : Hid (Inv s W0) := Lib.hid (KP.out s _ _ HS.out (KeepT.of_below B0.out))
  have c0 := F0.out.1.cell 0
  dsimp only [List.getElem?_cons_zero, List.getElem?_cons_succ] at c0
  have K0 : Hid (Below n₀ w W0 ∧ KeepT eachT w W0) := Lib.hid ⟨B0.out.mono hn0, KeepT.of_below B0.out⟩
  clear HS B0
  go_enter Try.func25, Try.ntmps25
  go_wp2_with fail
  rw [← hW0]
  clear hW0
  refine (H1.out W0 I0.out).mono ?_
  rintro e w1 ⟨rfl, i1, b1, k1⟩
  have F1 : Hid (Blk w1 w.heap.size 38 [.int .u32 (ep : Int), .slice A n c] ∧ Blk w1 (w.heap.size + 1) 38 [.int .u32 0, .slice none 0 0] ∧ Blk w1 (w.heap.size + 1 + 1) 38 [.int .u32 0, .slice none 0 0]) :=
    Lib.hid ⟨k1.blk F0.out.1 (by decide), k1.blk F0.out.2.1 (by decide), k1.blk F0.out.2.2.1 (by decide)⟩
  have m0 := F1.out.2.2.cell 0
  have n0 := F1.out.2.2.frozen 0
  obtain ⟨V1, hV1⟩ : ∃ V1, V1 = w1.setCell ⟨w.heap.size + 1 + 1, 0, none⟩ (.int .u32 (x1 : Int)) := ⟨_, rfl⟩
  have G1 : Hid (Blk V1 w.heap.size 38 [.int .u32 (ep : Int), .slice A n c] ∧ Blk V1 (w.heap.size + 1) 38 [.int .u32 0, .slice none 0 0] ∧ Blk V1 (w.heap.size + 1 + 1) 38 [.int .u32 (x1 : Int), .slice none 0 0]) := Lib.hid (by
    rw [hV1]
    exact ⟨F1.out.1.far (show w.heap.size ≠ w.heap.size + 1 + 1 by omega) _, F1.out.2.1.far (show w.heap.size + 1 ≠ w.heap.size + 1 + 1 by omega) _, F1.out.2.2.set_ 0 _⟩)
  have J1 : Hid (Inv p1.1 V1) := Lib.hid (by rw [hV1]; exact KP.out _ _ _ i1 (KeepT.setCell F1.out.2.2 (by decide) 0 _))
  have K1 : Hid (Below n₀ w V1 ∧ KeepT eachT w V1) := Lib.hid (by
    refine ⟨by rw [hV1]; exact (K0.out.1.trans b1).setCell (p := ⟨w.heap.size + 1 + 1, 0, none⟩) (by show n₀ ≤ w.heap.size + 1 + 1; omega) _, ?_⟩
    exact (K0.out.2.trans k1).new (by rw [hV1]; simp [World.setCell]) (fun j hj => by rw [hV1]; exact Below.heap_setCell _ _ _ _ (by show j ≠ w.heap.size + 1 + 1; omega)))
  have d1 : (w1.setCell ⟨w.heap.size + 1 + 1, 0, none⟩ (.int .u32 (x1 : Int))).cell? ⟨w.heap.size, 1, none⟩ = some (.slice A n c) := by rw [← hV1]; exact G1.out.1.cell 1
  clear i1 b1 k1 K0 F0 I0 c0
  dsimp only [List.getElem?_cons_zero, List.getElem?_cons_succ] at m0
  go_wp2_with fail
  rw [← hV1]
  clear hV1 F1 m0 n0 d1
  refine (H2.out V1 J1.out).mono ?_
  rintro e w2 ⟨rfl, i2, b2, k2⟩
  have F2 : Hid (Blk w2 w.heap.size 38 [.int .u32 (ep : Int), .slice A n c] ∧ Blk w2 (w.heap.size + 1) 38 [.int .u32 0, .slice none 0 0] ∧ Blk w2 (w.heap.size + 1 + 1) 38 [.int .u32 (x1 : Int), .slice none 0 0]) :=
    Lib.hid ⟨k2.blk G1.out.1 (by decide), k2.blk G1.out.2.1 (by decide), k2.blk G1.out.2.2 (by decide)⟩
  have I2 := Lib.hid i2
  have K2 : Hid (Below n₀ w w2 ∧ KeepT eachT w w2) := Lib.hid ⟨K1.out.1.trans b2, K1.out.2.trans k2⟩
  clear i2 b2 k2 G1 J1 K1
  have hmb : i0.bytes * m ≤ 281474976710656 := by rw [hz2]; omega
  have hmm : m ≤ maxLen := by simp only [maxLen]; omega
  go_wp2_with (at_make; refine wpList_make_full _ rfl _ _ 36 rfl w2.heap.size 65 i0 (.agg #[.int .u32 0, .int .u32 0]) 2 Try.underlying36 hi hz0 hz1 .u64 .u64 _ _ m rfl rfl rfl rfl hmb hmm (Nat.le_refl _) ?_)
  intro w3 hown hgr
  have hz : (madeCells #[Value.int .u32 0, Value.int .u32 0] (m * 2)).toList = List.replicate (m * 2) (.int .u32 0) := made_repN (m * 2) (.int .u32 0) 2 (by decide)
  have hb3 : Blk w3 w2.heap.size 65 (List.replicate (m * 2) (.int .u32 0)) := by
    have h := blk_of_ownN hown (by decide)
    rw [hz] at h
    exact h
  have bl3 : Below w2.heap.size w2 w3 := (Below.refl _ _).grown hgr (Nat.le_refl _) (fun k hk => by cases hk)
  have F3 : Hid (Blk w3 w.heap.size 38 [.int .u32 (ep : Int), .slice A n c] ∧ Blk w3 (w.heap.size + 1) 38 [.int .u32 0, .slice none 0 0] ∧ Blk w3 (w.heap.size + 1 + 1) 38 [.int .u32 (x1 : Int), .slice none 0 0]) := Lib.hid ⟨F2.out.1.keep bl3, F2.out.2.1.keep bl3, F2.out.2.2.keep bl3⟩
  have GN : Hid (w.heap.size + 1 + 1 < w2.heap.size ∧ n₀ ≤ w.heap.size) := Lib.hid ⟨F2.out.2.2.lt, hn0⟩
  obtain ⟨g, hg⟩ : ∃ g, g = w2.heap.size := ⟨_, rfl⟩
  have I3 : Hid (Inv q w3) := Lib.hid (KP.out _ _ _ I2.out (KeepT.of_below bl3))
  have K3 : Hid (Below n₀ w w3 ∧ KeepT eachT w w3) := Lib.hid ⟨K2.out.1.trans (bl3.mono (by have := GN.out; omega)), K2.out.2.trans (KeepT.of_below bl3)⟩
  have HB3 := Lib.hid hb3
  rw [← hg] at GN HB3 ⊢
  clear hown hgr hz hb3 bl3 F2 I2 K2 hg hi hz0 hz1 hz2 hmb hmm
  have m0 := F3.out.2.2.cell 1
  have n0 := F3.out.2.2.frozen 1
  obtain ⟨V3, hV3⟩ : ∃ V3, V3 = w3.setCell ⟨w.heap.size + 1 + 1, 1, none⟩ (.slice (some ⟨g, 0, none⟩) m m) := ⟨_, rfl⟩
  have G3 : Hid (Blk V3 w.heap.size 38 [.int .u32 (ep : Int), .slice A n c] ∧ Blk V3 (w.heap.size + 1) 38 [.int .u32 0, .slice none 0 0] ∧ Blk V3 (w.heap.size + 1 + 1) 38 [.int .u32 (x1 : Int), .slice (some ⟨g, 0, none⟩) m m] ∧ Blk V3 g 65 (List.replicate (m * 2) (.int .u32 0))) := Lib.hid (by
    rw [hV3]
    exact ⟨F3.out.1.far (show w.heap.size ≠ w.heap.size + 1 + 1 by omega) _, F3.out.2.1.far (show w.heap.size + 1 ≠ w.heap.size + 1 + 1 by omega) _, F3.out.2.2.set_ 1 _, HB3.out.far (show g ≠ w.heap.size + 1 + 1 by have := GN.out; omega) _⟩)
  have J3 : Hid (Inv q V3) := Lib.hid (by rw [hV3]; exact KP.out _ _ _ I3.out (KeepT.setCell F3.out.2.2 (by decide) 1 _))
  have L3 : Hid (Below n₀ w V3 ∧ KeepT eachT w V3) := Lib.hid (by
    refine ⟨by rw [hV3]; exact K3.out.1.setCell (p := ⟨w.heap.size + 1 + 1, 1, none⟩) (by show n₀ ≤ w.heap.size + 1 + 1; omega) _, ?_⟩
    exact K3.out.2.new (by rw [hV3]; simp [World.setCell]) (fun j hj => by rw [hV3]; exact Below.heap_setCell _ _ _ _ (by show j ≠ w.heap.size + 1 + 1; omega)))
  have d1 : (w3.setCell ⟨w.heap.size + 1 + 1, 1, none⟩ (.slice (some ⟨g, 0, none⟩) m m)).cell? ⟨w.heap.size, 1, none⟩ = some (.slice A n c) := by rw [← hV3]; exact G3.out.1.cell 1
  have HCP : Hid (∀ ty, (Builtin.copy_ #[36, 36] ty #[.slice (some ⟨g, 0, none⟩) m m, .slice A n c]).run Try.prog (w3.setCell ⟨w.heap.size + 1 + 1, 1, none⟩ (.slice (some ⟨g, 0, none⟩) m m)) = .ok (.int .i64 (n : Int)) (V3.setRow g (rowsV RS).toArray)) := Lib.hid (fun ty => by
    have h := run_copy_rows V3 ty g m n c m A rs _ _ G3.out.2.2.2 (HRR.out V3 L3.out.1) NM.out (by rw [List.length_replicate]; have := NM.out; omega)
    rw [List.drop_replicate, show m * 2 - n * 2 = (m - n) * 2 from by omega, ← rowsV_zeros, ← rowsV_append, ← HRS.out] at h
    rw [← hV3]
    exact h)
  dsimp only [List.getElem?_cons_zero, List.getElem?_cons_succ] at m0
  obtain ⟨V4, hV4⟩ : ∃ V4, V4 = V3.setRow g (rowsV RS).toArray := ⟨_, rfl⟩
  rw [← hV4] at HCP
  have M4 : Hid (EpM w.heap.size g m x1 (rowsV (rowsStep step q (RS.take 0)).2 ++ rowsV (RS.drop 0)) V4) := Lib.hid (by
    rw [hV4]
    have e : ∀ k, k ≠ g → (V3.setRow g (rowsV RS).toArray).heap[k]? = V3.heap[k]? := fun k hk => setRow_other V3 g k _ hk
    refine ⟨GN.out.1, (e _ (by have := GN.out; omega)).trans G3.out.2.1, (e _ (by have := GN.out; omega)).trans G3.out.2.2.1, ?_⟩
    exact setRow_blk G3.out.2.2.2 _)
  have J4 : Hid (Inv (rowsStep step q (RS.take 0)).1 V4) := Lib.hid (by rw [hV4]; exact KP.out _ _ _ J3.out (KeepT.setRow G3.out.2.2.2 (by decide) _))
  have L4 : Hid (Below n₀ w V4 ∧ KeepT eachT w V4) := Lib.hid (by
    rw [hV4]
    exact ⟨below_setRow L3.out.1 (by have := GN.out; omega) _, L3.out.2.new (by simp [World.setRow]) (fun j hj => setRow_other V3 g j _ (by have := GN.out; omega))⟩)
  have C4 : Hid (Can (rowsStep step q (RS.take 0)).1 (2 * (m - 0))) := C2
  clear F3 HB3 I3 K3 J3 L3 G3 hV4
  have d2 := M4.out.2.2.1.cell 1
  dsimp only [List.getElem?_cons_zero, List.getElem?_cons_succ] at d2
  have hcp := HCP.out
  go_wp2_with fail
  clear hcp HCP d1 d2 m0 n0 hV3
  go_loopw [31] (fun iv wr => ∃ j : Nat, iv = .int .i64 (j : Int) ∧ j ≤ m ∧ Hid (EpM w.heap.size g m x1 (rowsV (rowsStep step q (RS.take j)).2 ++ rowsV (RS.drop j)) wr) ∧ Hid (Inv (rowsStep step q (RS.take j)).1 wr) ∧ Hid (Can (rowsStep step q (RS.take j)).1 (2 * (m - j))) ∧ Hid (Below n₀ w wr ∧ KeepT eachT w wr)) (fun iv _ => m - (intOf iv).toNat)
  case atStart => exact ⟨0, rfl, Nat.zero_le _, M4, J4, C4, L4⟩
  case round =>
    obtain ⟨j, rfl, hj, HM, HI, HCJ, HK⟩ := hrel
    by_cases hlt : j < m
    · obtain ⟨st, hst⟩ : ∃ st, st = rowsStep step q (RS.take j) := ⟨_, rfl⟩
      rw [← hst] at HM HI HCJ
      obtain ⟨d, hd⟩ : ∃ d, d = st.2 := ⟨_, rfl⟩
      have DL : Hid (d.length = j) := Lib.hid (by rw [hd, hst]; exact rowsStep_len step q RS j (by rw [RSL.out]; omega))
      obtain ⟨v, hv⟩ : ∃ v, v = (RS.getD j (0, 0)).1 := ⟨_, rfl⟩
      obtain ⟨t, ht⟩ : ∃ t, t = (RS.getD j (0, 0)).2 := ⟨_, rfl⟩
      have hvb : v < 4294967296 := by rw [hv]; exact (RSB.out j).1
      have htb : t < 4294967296 := by rw [ht]; exact (RSB.out j).2
      obtain ⟨z, hz⟩ : ∃ z, z = rowsV (RS.drop (j + 1)) := ⟨_, rfl⟩
      have HZ := Lib.hid hz
      have HDR : Hid (rowsV (RS.drop j) = .int .u32 (v : Int) :: .int .u32 (t : Int) :: z) := Lib.hid (by
        have hjl : j < RS.length := by rw [RSL.out]; exact hlt
        rw [List.drop_eq_getElem_cons hjl, rowsV_cons, hz, hv, ht, List.getD_eq_getElem?_getD, List.getElem?_eq_getElem hjl]
        rfl)
      rw [← hd, HDR.out] at HM
      obtain ⟨r1, hr1⟩ : ∃ r, r = step st.1 v 4 := ⟨_, rfl⟩
      obtain ⟨r2, hr2⟩ : ∃ r, r = step r1.1 t 4 := ⟨_, rfl⟩
      obtain ⟨k, hk⟩ : ∃ k, 2 * (m - j) = k + 1 + 1 := ⟨2 * (m - j) - 2, by omega⟩
      have e4 : (256 : Nat) ^ 4 = 4294967296 := by decide
      have cA : Can st.1 (k + 1 + 1) := by rw [← hk]; exact HCJ.out
      have cB : Can r1.1 (k + 1) := by rw [hr1]; exact CN.out st.1 v 4 (k + 1) cA (by decide) (by decide)
      have CJ2 : Hid (Can r2.1 (2 * (m - (j + 1)))) := Lib.hid (by rw [show 2 * (m - (j + 1)) = k from by omega, hr2]; exact CN.out r1.1 t 4 k cB (by decide) (by decide))
      have Q1 := Lib.hid (fun W (h : Inv st.1 W) => HCC.out st.1 v 4 (k + 1) W h cA (by decide) (by decide) (by omega) (by omega))
      have Q2 := Lib.hid (fun W (h : Inv r1.1 W) => HCC.out r1.1 t 4 k W h cB (by decide) (by decide) (by omega) (by omega))
      rw [← hr1] at Q1
      rw [← hr2] at Q2
      obtain ⟨x, hx⟩ : ∃ x, x = r1.2 := ⟨_, rfl⟩
      obtain ⟨y, hy⟩ : ∃ y, y = r2.2 := ⟨_, rfl⟩
      have hxb : x < 4294967296 := by rw [hx, hr1, ← e4]; exact SM.out st.1 v 4 (by decide) (by decide) (by omega)
      have hyb : y < 4294967296 := by rw [hy, hr2, ← e4]; exact SM.out r1.1 t 4 (by decide) (by decide) (by omega)
      rw [← hx] at Q1
      rw [← hy] at Q2
      have HNXT : Hid (rowsStep step q (RS.take (j + 1)) = (r2.1, d ++ [(x, y)])) := Lib.hid (by
        rw [rowsStep_take step q RS j (by rw [RSL.out]; exact hlt), ← hst]
        unfold rowStep
        rw [← hv, ← hr1, ← ht, ← hr2, ← hx, ← hy, ← hd])
      have wv : IntKind.u64.wrap (v : Int) = (v : Int) := IntWalk.u64_in _ (by omega)
      have wt : IntKind.u64.wrap (t : Int) = (t : Int) := IntWalk.u64_in _ (by omega)
      have wx' : IntKind.u32.wrap (x : Int) = (x : Int) := by simp [IntKind.wrap, IntKind.bits, IntKind.signed]; omega
      have wy' : IntKind.u32.wrap (y : Int) = (y : Int) := by simp [IntKind.wrap, IntKind.bits, IntKind.signed]; omega
      have k0 := (HM.out.2.2.2.cell (j * 2)).trans (rowsV_mid d _ _ z j DL.out).1
      have k1 := (HM.out.2.2.2.cell (j * 2 + 1)).trans (rowsV_mid d _ _ z j DL.out).2
      have hdec : decide ((j : Int) < (m : Int)) = true := decide_eq_true (by omega)
      have hw1 : IntKind.i64.wrap ((j : Int) + 1) = ((j + 1 : Nat) : Int) := by rw [IntWalk.i64_in _ (by omega)]; omega
      clear hst hd hv ht hz hr1 hr2 hk e4 cA cB hx hy hvb htb hxb hyb HDR HCJ
      obtain ⟨b7, hb7⟩ : ∃ b, b = wr.heap.size := ⟨_, rfl⟩
      obtain ⟨V0, hV0⟩ : ∃ V0, V0 = wr.alloc (.cells #[.int .u32 (v : Int), .int .u32 (t : Int)] 65) := ⟨_, rfl⟩
      have bl0 : Below wr.heap.size wr V0.drew := by rw [hV0]; exact ((Below.refl _ _).alloc (Nat.le_refl _) _).drew
      have M4 : Hid (EpM w.heap.size g m x1 (rowsV d ++ (.int .u32 (v : Int) :: .int .u32 (t : Int) :: z)) V0.drew) := Lib.hid (HM.out.keepT (KeepT.of_below bl0))
      have X4 : Hid (Blk V0.drew b7 65 [.int .u32 (v : Int), .int .u32 (t : Int)]) := Lib.hid (by rw [hV0, hb7]; exact heap_alloc_new wr _)
      have JD0 : Hid (Inv st.1 V0.drew) := Lib.hid (KP.out _ _ _ HI.out (KeepT.of_below bl0))
      have K4 : Hid (Below n₀ w V0.drew ∧ KeepT eachT w V0.drew) := Lib.hid ⟨HK.out.1.trans (bl0.mono (Nat.le_trans hn0 HK.out.1.size)), HK.out.2.trans (KeepT.of_below bl0)⟩
      have NE7 : Hid (b7 ≠ g) := Lib.hid (by have := HM.out.2.2.2.lt; omega)
      clear HM HI HK bl0
      go_upto_region 8 with fail
      rw [← hb7]
      refine wp_world hV0 ?_
      clear hV0 hb7 k0 k1
      refine wp_region_noPanic ?_
      refine wp_region_held_drew (S := fun w' => w'.cell? ⟨w.heap.size + 1 + 1, 1, none⟩ = some (.slice (some ⟨g, 0, none⟩) m m) ∧ w'.cell? ⟨b7, 0, none⟩ = some (.int .u32 (v : Int))) (by kernel_rfl) ?_ (fun hHeld => ?_)
      · exact ⟨M4.out.2.2.1.cell 1, X4.out.cell 0⟩
      refine wpAnyH_take (i := 0) (oi := ep8o0) (v := ?_) rfl (by kernel_rfl) (by kernel_rfl) (by kernel_rfl) (fun _ _ _ h => h) (Or.inl ⟨by rfl, ?_⟩) (by assumption) ?_
      rotate_left
      · (intro w hSw; (try dsimp only at hSw); obtain ⟨s0, s1⟩ := hSw; (try dsimp only [ep8o0]); go_simp; try (with_reducible rfl))
      (try simp only [Act.put, List.setIfInBounds_toArray, List.set_cons_zero, List.set_cons_succ])
      refine wpAnyH_take (i := 1) (oi := ep8o1) (v := ?_) rfl (by kernel_rfl) (by kernel_rfl) (by kernel_rfl) (fun _ _ _ h => h) (Or.inl ⟨by rfl, ?_⟩) (by assumption) ?_
      rotate_left
      · (intro w hSw; (try dsimp only at hSw); obtain ⟨s0, s1⟩ := hSw; (try dsimp only [ep8o1]); go_simp; try (with_reducible rfl))
      (try simp only [Act.put, List.setIfInBounds_toArray, List.set_cons_zero, List.set_cons_succ])
      refine wpAnyH_take (i := 2) (oi := ep8o2) (v := ?_) rfl (by kernel_rfl) (by kernel_rfl) (by kernel_rfl) (fun _ _ _ h => h) (Or.inl ⟨by rfl, ?_⟩) (by assumption) ?_
      rotate_left
      · (intro w hSw; (try dsimp only at hSw); obtain ⟨s0, s1⟩ := hSw; (try dsimp only [ep8o2]); go_simp; try (with_reducible rfl))
      (try simp only [Act.put, List.setIfInBounds_toArray, List.set_cons_zero, List.set_cons_succ])
      refine wpAnyH_take (i := 3) (oi := ep8o3) (v := ?_) rfl (by kernel_rfl) (by kernel_rfl) (by kernel_rfl) (fun _ _ _ h => h) (Or.inl ⟨by rfl, ?_⟩) (by assumption) ?_
      rotate_left
      · (intro w hSw; (try dsimp only at hSw); obtain ⟨s0, s1⟩ := hSw; (try dsimp only [ep8o3]); go_simp; try (with_reducible rfl))
      (try simp only [Act.put, List.setIfInBounds_toArray, List.set_cons_zero, List.set_cons_succ])
      refine wpAnyH_take (i := 4) (oi := ep8o4) (v := ?_) rfl (by kernel_rfl) (by kernel_rfl) (by kernel_rfl) (fun _ _ _ h => h) (Or.inl ⟨by rfl, ?_⟩) (by assumption) ?_
      rotate_left
      · (intro w hSw; (try dsimp only at hSw); obtain ⟨s0, s1⟩ := hSw; (try dsimp only [ep8o4]); go_simp; try (with_reducible rfl))
      (try simp only [Act.put, List.setIfInBounds_toArray, List.set_cons_zero, List.set_cons_succ])
      refine wpAnyH_take (i := 5) (oi := ep8o5) (v := ?_) rfl (by kernel_rfl) (by kernel_rfl) (by kernel_rfl) (fun _ _ _ h => h) (Or.inl ⟨by rfl, ?_⟩) (by assumption) ?_
      rotate_left
      · (intro w hSw; (try dsimp only at hSw); obtain ⟨s0, s1⟩ := hSw; (try dsimp only [ep8o5]); go_simp; try (with_reducible rfl))
      (try simp only [Act.put, List.setIfInBounds_toArray, List.set_cons_zero, List.set_cons_succ])
      refine wpAnyH_take (i := 6) (oi := ep8o6) (v := ?_) rfl (by kernel_rfl) (by kernel_rfl) (by kernel_rfl) (fun _ _ _ h => h) (Or.inl ⟨by rfl, ?_⟩) (by assumption) ?_
      rotate_left
      · (intro w hSw; (try dsimp only at hSw); obtain ⟨s0, s1⟩ := hSw; (try dsimp only [ep8o6]); go_simp; try (with_reducible rfl))
      (try simp only [Act.put, List.setIfInBounds_toArray, List.set_cons_zero, List.set_cons_succ])
      refine wpAnyH_ready (rs := [7]) (by kernel_rfl) (by simp) ?_
      refine AllReadyH.cons (o := ep8o7) rfl (fun K hK => ?_) AllReadyH.nil
      dsimp only [ep8o7]
      go_simp
      refine (Q1.out _ JD0.out).mono ?_
      rintro e w5 ⟨rfl, i5, k5b, k5⟩
      have M5 := Lib.hid (M4.out.keepT k5)
      have X5 := Lib.hid (k5.blk X4.out (by decide))
      have I5 := Lib.hid i5
      have K5 : Hid (Below n₀ w w5 ∧ KeepT eachT w w5) := Lib.hid ⟨K4.out.1.trans k5b, K4.out.2.trans k5⟩
      clear i5 k5b k5
      (try go_wp2_with fail)
      refine hK.out _ _ ?_ (fun hHeld => ?_)
      · exact ⟨M5.out.2.2.1.cell 1, X5.out.cell 0⟩
      clear hK K
      (try simp only [Act.put, List.setIfInBounds_toArray, List.set_cons_zero, List.set_cons_succ])
      refine wpAnyH_take (i := 8) (oi := ep8o8) (v := ?_) rfl (by kernel_rfl) (by kernel_rfl) (by kernel_rfl) (fun _ _ _ h => h) (Or.inl ⟨by rfl, ?_⟩) (by assumption) ?_
      rotate_left
      · (intro w hSw; (try dsimp only at hSw); obtain ⟨s0, s1⟩ := hSw; (try dsimp only [ep8o8]); go_simp; try (with_reducible rfl))
      (try simp only [Act.put, List.setIfInBounds_toArray, List.set_cons_zero, List.set_cons_succ])
      refine wpAnyH_take (i := 9) (oi := ep8o9) (v := ?_) rfl (by kernel_rfl) (by kernel_rfl) (by kernel_rfl) (fun _ _ _ h => h) (Or.inl ⟨by rfl, ?_⟩) (by assumption) ?_
      rotate_left
      · (intro w hSw; (try dsimp only at hSw); obtain ⟨s0, s1⟩ := hSw; (try dsimp only [ep8o9]); go_simp; try (with_reducible rfl))
      (try simp only [Act.put, List.setIfInBounds_toArray, List.set_cons_zero, List.set_cons_succ])
      refine wpAnyH_take (i := 10) (oi := ep8o10) (v := ?_) rfl (by kernel_rfl) (by kernel_rfl) (by kernel_rfl) (fun _ _ _ h => h) (Or.inl ⟨by rfl, ?_⟩) (by assumption) ?_
      rotate_left
      · (intro w hSw; (try dsimp only at hSw); obtain ⟨s0, s1⟩ := hSw; (try dsimp only [ep8o10]); go_simp; try (with_reducible rfl))
      (try simp only [Act.put, List.setIfInBounds_toArray, List.set_cons_zero, List.set_cons_succ])
      refine wpAnyH_ready (rs := [11]) (by kernel_rfl) (by simp) ?_
      refine AllReadyH.cons (o := ep8o11) rfl (fun K hK => ?_) AllReadyH.nil
      rw [if_pos (by rfl)]
      have ST := run_store1 w5 g (j * 2) 65 _ _ (.int .u32 (x : Int)) 23 M5.out.2.2.2 (rowsV_mid _ _ _ _ j DL.out).1 (by kernel_rfl) rfl
      refine wp_store_isN _ _ _ rfl ⟨g, j * 2, none⟩ rfl _ rfl _ ST ?_
      clear ST
      have M6 : Hid (EpM w.heap.size g m x1 (rowsV d ++ (.int .u32 (x : Int) :: .int .u32 (t : Int) :: z)) (w5.setCell ⟨g, j * 2, none⟩ (.int .u32 (x : Int)))) := Lib.hid (by have h := M5.out.set_ (j * 2) (.int .u32 (x : Int)); rw [rowsV_set0 d _ _ _ z j DL.out] at h; exact h)
      have X6 : Hid (Blk (w5.setCell ⟨g, j * 2, none⟩ (.int .u32 (x : Int))) b7 65 [.int .u32 (v : Int), .int .u32 (t : Int)]) := Lib.hid (X5.out.far (show b7 ≠ g from NE7.out) _)
      have I6 : Hid (Inv r1.1 (w5.setCell ⟨g, j * 2, none⟩ (.int .u32 (x : Int)))) := Lib.hid (KP.out _ _ _ I5.out (KeepT.setCell M5.out.2.2.2 (by decide) (j * 2) _))
      have K6 : Hid (Below n₀ w (w5.setCell ⟨g, j * 2, none⟩ (.int .u32 (x : Int))) ∧ KeepT eachT w (w5.setCell ⟨g, j * 2, none⟩ (.int .u32 (x : Int)))) := Lib.hid ⟨K5.out.1.setCell (p := ⟨g, j * 2, none⟩) (by show n₀ ≤ g; have := GN.out; omega) _, K5.out.2.new (by simp [World.setCell]) (fun k hk => Below.heap_setCell _ _ _ _ (by show k ≠ g; have := GN.out; omega))⟩
      refine hK.out _ _ ?_ (fun hHeld => ?_)
      · exact ⟨M6.out.2.2.1.cell 1, X6.out.cell 0⟩
      clear hK K
      (try simp only [Act.put, List.setIfInBounds_toArray, List.set_cons_zero, List.set_cons_succ])
      refine wpAnyH_done (by kernel_rfl) ?_ _
      refine NoPanic.normal ?_
      obtain ⟨V1, hV1⟩ : ∃ V1, V1 = w5.setCell ⟨g, j * 2, none⟩ (.int .u32 (x : Int)) := ⟨_, rfl⟩
      rw [← hV1] at M6 X6 I6 K6
      have N6 : Hid (EpM w.heap.size g m x1 (rowsV d ++ (.int .u32 (x : Int) :: .int .u32 (t : Int) :: z)) V1.drew) := Lib.hid M6.out
      have Y6 : Hid (Blk V1.drew b7 65 [.int .u32 (v : Int), .int .u32 (t : Int)]) := Lib.hid X6.out
      have JD1 : Hid (Inv r1.1 V1.drew) := Lib.hid (KP.out _ _ _ I6.out (KeepT.of_below (Below.refl _ _).drew))
      have L6 : Hid (Below n₀ w V1.drew ∧ KeepT eachT w V1.drew) := Lib.hid ⟨K6.out.1.drew, K6.out.2.trans (KeepT.of_below (Below.refl _ _).drew)⟩
      rw [← hV1]
      clear hV1 M4 X4 JD0 K4 M5 X5 I5 K5 M6 X6 I6 K6
      go_upto_region 9 with fail
      refine wp_region_noPanic ?_
      refine wp_region_held_drew (S := fun w' => w'.cell? ⟨w.heap.size + 1 + 1, 1, none⟩ = some (.slice (some ⟨g, 0, none⟩) m m) ∧ w'.cell? ⟨b7, 1, none⟩ = some (.int .u32 (t : Int))) (by kernel_rfl) ?_ (fun hHeld => ?_)
      · exact ⟨N6.out.2.2.1.cell 1, Y6.out.cell 1⟩
      refine wpAnyH_take (i := 0) (oi := ep9o0) (v := ?_) rfl (by kernel_rfl) (by kernel_rfl) (by kernel_rfl) (fun _ _ _ h => h) (Or.inl ⟨by rfl, ?_⟩) (by assumption) ?_
      rotate_left
      · (intro w hSw; (try dsimp only at hSw); obtain ⟨s0, s1⟩ := hSw; (try dsimp only [ep9o0]); go_simp; try (with_reducible rfl))
      (try simp only [Act.put, List.setIfInBounds_toArray, List.set_cons_zero, List.set_cons_succ])
      refine wpAnyH_take (i := 1) (oi := ep9o1) (v := ?_) rfl (by kernel_rfl) (by kernel_rfl) (by kernel_rfl) (fun _ _ _ h => h) (Or.inl ⟨by rfl, ?_⟩) (by assumption) ?_
      rotate_left
      · (intro w hSw; (try dsimp only at hSw); obtain ⟨s0, s1⟩ := hSw; (try dsimp only [ep9o1]); go_simp; try (with_reducible rfl))
      (try simp only [Act.put, List.setIfInBounds_toArray, List.set_cons_zero, List.set_cons_succ])
      refine wpAnyH_take (i := 2) (oi := ep9o2) (v := ?_) rfl (by kernel_rfl) (by kernel_rfl) (by kernel_rfl) (fun _ _ _ h => h) (Or.inl ⟨by rfl, ?_⟩) (by assumption) ?_
      rotate_left
      · (intro w hSw; (try dsimp only at hSw); obtain ⟨s0, s1⟩ := hSw; (try dsimp only [ep9o2]); go_simp; try (with_reducible rfl))
      (try simp only [Act.put, List.setIfInBounds_toArray, List.set_cons_zero, List.set_cons_succ])
      refine wpAnyH_take (i := 3) (oi := ep9o3) (v := ?_) rfl (by kernel_rfl) (by kernel_rfl) (by kernel_rfl) (fun _ _ _ h => h) (Or.inl ⟨by rfl, ?_⟩) (by assumption) ?_
      rotate_left
      · (intro w hSw; (try dsimp only at hSw); obtain ⟨s0, s1⟩ := hSw; (try dsimp only [ep9o3]); go_simp; try (with_reducible rfl))
      (try simp only [Act.put, List.setIfInBounds_toArray, List.set_cons_zero, List.set_cons_succ])
      refine wpAnyH_take (i := 4) (oi := ep9o4) (v := ?_) rfl (by kernel_rfl) (by kernel_rfl) (by kernel_rfl) (fun _ _ _ h => h) (Or.inl ⟨by rfl, ?_⟩) (by assumption) ?_
      rotate_left
      · (intro w hSw; (try dsimp only at hSw); obtain ⟨s0, s1⟩ := hSw; (try dsimp only [ep9o4]); go_simp; try (with_reducible rfl))
      (try simp only [Act.put, List.setIfInBounds_toArray, List.set_cons_zero, List.set_cons_succ])
      refine wpAnyH_take (i := 5) (oi := ep9o5) (v := ?_) rfl (by kernel_rfl) (by kernel_rfl) (by kernel_rfl) (fun _ _ _ h => h) (Or.inl ⟨by rfl, ?_⟩) (by assumption) ?_
      rotate_left
      · (intro w hSw; (try dsimp only at hSw); obtain ⟨s0, s1⟩ := hSw; (try dsimp only [ep9o5]); go_simp; try (with_reducible rfl))
      (try simp only [Act.put, List.setIfInBounds_toArray, List.set_cons_zero, List.set_cons_succ])
      refine wpAnyH_take (i := 6) (oi := ep9o6) (v := ?_) rfl (by kernel_rfl) (by kernel_rfl) (by kernel_rfl) (fun _ _ _ h => h) (Or.inl ⟨by rfl, ?_⟩) (by assumption) ?_
      rotate_left
      · (intro w hSw; (try dsimp only at hSw); obtain ⟨s0, s1⟩ := hSw; (try dsimp only [ep9o6]); go_simp; try (with_reducible rfl))
      (try simp only [Act.put, List.setIfInBounds_toArray, List.set_cons_zero, List.set_cons_succ])
      refine wpAnyH_ready (rs := [7]) (by kernel_rfl) (by simp) ?_
      refine AllReadyH.cons (o := ep9o7) rfl (fun K hK => ?_) AllReadyH.nil
      dsimp only [ep9o7]
      go_simp
      refine (Q2.out _ JD1.out).mono ?_
      rintro e w7 ⟨rfl, i7, k7b, k7⟩
      have M7 := Lib.hid (N6.out.keepT k7)
      have X7 := Lib.hid (k7.blk Y6.out (by decide))
      have I7 := Lib.hid i7
      have K7 : Hid (Below n₀ w w7 ∧ KeepT eachT w w7) := Lib.hid ⟨L6.out.1.trans k7b, L6.out.2.trans k7⟩
      clear i7 k7b k7
      (try go_wp2_with fail)
      refine hK.out _ _ ?_ (fun hHeld => ?_)
      · exact ⟨M7.out.2.2.1.cell 1, X7.out.cell 1⟩
      clear hK K
      (try simp only [Act.put, List.setIfInBounds_toArray, List.set_cons_zero, List.set_cons_succ])
      refine wpAnyH_take (i := 8) (oi := ep9o8) (v := ?_) rfl (by kernel_rfl) (by kernel_rfl) (by kernel_rfl) (fun _ _ _ h => h) (Or.inl ⟨by rfl, ?_⟩) (by assumption) ?_
      rotate_left
      · (intro w hSw; (try dsimp only at hSw); obtain ⟨s0, s1⟩ := hSw; (try dsimp only [ep9o8]); go_simp; try (with_reducible rfl))
      (try simp only [Act.put, List.setIfInBounds_toArray, List.set_cons_zero, List.set_cons_succ])
      refine wpAnyH_take (i := 9) (oi := ep9o9) (v := ?_) rfl (by kernel_rfl) (by kernel_rfl) (by kernel_rfl) (fun _ _ _ h => h) (Or.inl ⟨by rfl, ?_⟩) (by assumption) ?_
      rotate_left
      · (intro w hSw; (try dsimp only at hSw); obtain ⟨s0, s1⟩ := hSw; (try dsimp only [ep9o9]); go_simp; try (with_reducible rfl))
      (try simp only [Act.put, List.setIfInBounds_toArray, List.set_cons_zero, List.set_cons_succ])
      refine wpAnyH_take (i := 10) (oi := ep9o10) (v := ?_) rfl (by kernel_rfl) (by kernel_rfl) (by kernel_rfl) (fun _ _ _ h => h) (Or.inl ⟨by rfl, ?_⟩) (by assumption) ?_
      rotate_left
      · (intro w hSw; (try dsimp only at hSw); obtain ⟨s0, s1⟩ := hSw; (try dsimp only [ep9o10]); go_simp; try (with_reducible rfl))
      (try simp only [Act.put, List.setIfInBounds_toArray, List.set_cons_zero, List.set_cons_succ])
      refine wpAnyH_ready (rs := [11]) (by kernel_rfl) (by simp) ?_
      refine AllReadyH.cons (o := ep9o11) rfl (fun K hK => ?_) AllReadyH.nil
      rw [if_pos (by rfl)]
      have ST := run_store1 w7 g (j * 2 + 1) 65 _ _ (.int .u32 (y : Int)) 23 M7.out.2.2.2 (rowsV_mid _ _ _ _ j DL.out).2 (by kernel_rfl) rfl
      refine wp_store_isN _ _ _ rfl ⟨g, j * 2 + 1, none⟩ rfl _ rfl _ ST ?_
      clear ST
      have M8 : Hid (EpM w.heap.size g m x1 (rowsV d ++ (.int .u32 (x : Int) :: .int .u32 (y : Int) :: z)) (w7.setCell ⟨g, j * 2 + 1, none⟩ (.int .u32 (y : Int)))) := Lib.hid (by have h := M7.out.set_ (j * 2 + 1) (.int .u32 (y : Int)); rw [rowsV_set1 d _ _ _ z j DL.out] at h; exact h)
      have X8 : Hid (Blk (w7.setCell ⟨g, j * 2 + 1, none⟩ (.int .u32 (y : Int))) b7 65 [.int .u32 (v : Int), .int .u32 (t : Int)]) := Lib.hid (X7.out.far (show b7 ≠ g from NE7.out) _)
      have I8 : Hid (Inv r2.1 (w7.setCell ⟨g, j * 2 + 1, none⟩ (.int .u32 (y : Int)))) := Lib.hid (KP.out _ _ _ I7.out (KeepT.setCell M7.out.2.2.2 (by decide) (j * 2 + 1) _))
      have K8 : Hid (Below n₀ w (w7.setCell ⟨g, j * 2 + 1, none⟩ (.int .u32 (y : Int))) ∧ KeepT eachT w (w7.setCell ⟨g, j * 2 + 1, none⟩ (.int .u32 (y : Int)))) := Lib.hid ⟨K7.out.1.setCell (p := ⟨g, j * 2 + 1, none⟩) (by show n₀ ≤ g; have := GN.out; omega) _, K7.out.2.new (by simp [World.setCell]) (fun k hk => Below.heap_setCell _ _ _ _ (by show k ≠ g; have := GN.out; omega))⟩
      refine hK.out _ _ ?_ (fun hHeld => ?_)
      · exact ⟨M8.out.2.2.1.cell 1, X8.out.cell 1⟩
      clear hK K
      (try simp only [Act.put, List.setIfInBounds_toArray, List.set_cons_zero, List.set_cons_succ])
      refine wpAnyH_done (by kernel_rfl) ?_ _
      refine NoPanic.normal ?_
      clear N6 Y6 JD1 L6 M7 X7 I7 K7
      go_wp2_with fail
      go_roundw
      case rel => exact ⟨j + 1, by go_num, by omega, Lib.hid (by rw [HNXT.out]; dsimp only; rw [rowsV_append, List.append_assoc, ← HZ.out]; exact M8.out), Lib.hid (by rw [HNXT.out]; exact I8.out), Lib.hid (by rw [HNXT.out]; exact CJ2.out), K8⟩
      case measure => simp [intOf]; omega
    · have hjm : j = m := by omega
      subst hjm
      have hdec : decide ((j : Int) < (j : Int)) = false := decide_eq_false (by omega)
      rw [List.take_of_length_le (by rw [RSL.out]; exact Nat.le_refl _), ← HFF.out] at HM HI
      rw [List.drop_of_length_le (by rw [RSL.out]; exact Nat.le_refl _), rowsV_nil, List.append_nil] at HM
      obtain ⟨g0, g1⟩ := (show _ ∧ _ from ⟨HM.out.2.2.1.cell 0, HM.out.2.2.1.cell 1⟩)
      obtain ⟨h0, h1⟩ := (show _ ∧ _ from ⟨HM.out.2.1.cell 0, HM.out.2.1.cell 1⟩)
      have q0 := HM.out.2.1.frozen 0
      have q1 := HM.out.2.1.frozen 1
      dsimp only [List.getElem?_cons_zero, List.getElem?_cons_succ] at g0 g1 h0 h1
      go_wp2_with fail
      clear g0 g1 h0 h1 q0 q1
      have GP := (HM.out.2.1.set_ 0 (.int .u32 (x1 : Int))).set_ 1 (.slice (some ⟨g, 0, none⟩) j j)
      have d0 := GP.cell 0
      have d1 := GP.cell 1
      dsimp only [List.getElem?_cons_zero, List.getElem?_cons_succ, List.set_cons_zero, List.set_cons_succ] at d0 d1
      refine bodyPost_ret (v := .agg #[.int .u32 (x1 : Int), .slice (some ⟨g, 0, none⟩) j j]) (by simp [results, Try.results25, go_sem, d0, d1]) rfl ⟨g, rfl, ?_, ?_, ?_, ?_, ?_⟩
      · have := HM.out.1
        exact (HM.out.2.2.2.far (show g ≠ w.heap.size + 1 by omega) _).far (show g ≠ w.heap.size + 1 by omega) _
      · have := GN.out; omega
      · exact KP.out _ _ _ HI.out ((KeepT.setCell HM.out.2.1 (by decide) 0 _).trans (KeepT.setCell (HM.out.2.1.set_ 0 _) (by decide) 1 _))
      · exact (HK.out.1.setCell (p := ⟨w.heap.size + 1, 0, none⟩) (by show n₀ ≤ w.heap.size + 1; omega) _).setCell (p := ⟨w.heap.size + 1, 1, none⟩) (by show n₀ ≤ w.heap.size + 1; omega) _
      · exact HK.out.2.new (by simp [World.setCell]) (fun k hk => by
          rw [Below.heap_setCell _ _ _ _ (by show k ≠ w.heap.size + 1; omega), Below.heap_setCell _ _ _ _ (by show k ≠ w.heap.size + 1; omega)])

end Go.Proofs.Ytackddgihdnmgaa
