/- The document's OpenReport. Written by wip/tools/gen_news.py. -/
import Derived.Test.YtackddgihdnmgaaNewsP
namespace Go.Proofs.Ytackddgihdnmgaa
open Go.RowKit
set_option maxRecDepth 100000

abbrev oqo0 : Oper := { dst := some 45, op := Op.fieldAddr 45 (Operand.tmp 5) 1, type := 0, pos := "ref.go:101", after := #[], guard := none }
abbrev oqo1 : Oper := { dst := some 46, op := Op.load 43 (Operand.tmp 45), type := 43, pos := "ref.go:101", after := #[{ on := 0, ground := Ground.data }], guard := none }
abbrev oqo2 : Oper := { dst := some 47, op := Op.move (Operand.tmp 0), type := 9, pos := "ref.go:101", after := #[], guard := none }
abbrev oqo3 : Oper := { dst := some 48, op := Op.move (Operand.tmp 6), type := 3, pos := "ref.go:101", after := #[], guard := none }
abbrev oqo4 : Oper := { dst := some 49, op := Op.binOp BinOp.mul 3 (Operand.const (Value.int IntKind.i64 8)) (Operand.tmp 48) 3, type := 3, pos := "ref.go:101", after := #[{ on := 3, ground := Ground.data }], guard := none }
abbrev oqo5 : Oper := { dst := some 50, op := Op.binOp BinOp.add 3 (Operand.const (Value.int IntKind.i64 7)) (Operand.tmp 49) 3, type := 3, pos := "ref.go:101", after := #[{ on := 4, ground := Ground.data }], guard := none }
abbrev oqo6 : Oper := { dst := some 51, op := Op.call { callee := Callee.value (Operand.func 20), args := #[Operand.tmp 47, Operand.tmp 50, Operand.const (Value.int IntKind.i64 4)], argTypes := #[9, 3, 3] }, type := 22, pos := "ref.go:101", after := #[{ on := 2, ground := Ground.data }, { on := 5, ground := Ground.data }], guard := none }
abbrev oqo7 : Oper := { dst := some 52, op := Op.convert 22 23 (Operand.tmp 51), type := 23, pos := "ref.go:101", after := #[{ on := 6, ground := Ground.data }], guard := none }
abbrev oqo8 : Oper := { dst := some 53, op := Op.move (Operand.tmp 0), type := 9, pos := "ref.go:101", after := #[], guard := none }
abbrev oqo9 : Oper := { dst := some 54, op := Op.move (Operand.tmp 6), type := 3, pos := "ref.go:101", after := #[], guard := none }
abbrev oqo10 : Oper := { dst := some 55, op := Op.binOp BinOp.mul 3 (Operand.const (Value.int IntKind.i64 8)) (Operand.tmp 54) 3, type := 3, pos := "ref.go:101", after := #[{ on := 9, ground := Ground.data }], guard := none }
abbrev oqo11 : Oper := { dst := some 56, op := Op.binOp BinOp.add 3 (Operand.const (Value.int IntKind.i64 11)) (Operand.tmp 55) 3, type := 3, pos := "ref.go:101", after := #[{ on := 10, ground := Ground.data }], guard := none }
abbrev oqo12 : Oper := { dst := some 57, op := Op.call { callee := Callee.value (Operand.func 20), args := #[Operand.tmp 53, Operand.tmp 56, Operand.const (Value.int IntKind.i64 4)], argTypes := #[9, 3, 3] }, type := 22, pos := "ref.go:101", after := #[{ on := 8, ground := Ground.data }, { on := 11, ground := Ground.data }, { on := 6, ground := Ground.chain }], guard := none }
abbrev oqo13 : Oper := { dst := some 58, op := Op.convert 22 23 (Operand.tmp 57), type := 23, pos := "ref.go:101", after := #[{ on := 12, ground := Ground.data }], guard := none }
abbrev oqo14 : Oper := { dst := some 59, op := Op.build 64 #[(0, Operand.tmp 52), (1, Operand.tmp 58)], type := 64, pos := "ref.go:101", after := #[{ on := 7, ground := Ground.data }, { on := 13, ground := Ground.data }], guard := none }
abbrev oqo15 : Oper := { dst := some 60, op := Op.buildSlice 43 1 #[(0, Operand.tmp 59)], type := 43, pos := "ref.go:101", after := #[{ on := 14, ground := Ground.data }], guard := none }
abbrev oqo16 : Oper := { dst := some 61, op := Op.call { callee := Callee.builtin Builtin.append, args := #[Operand.tmp 46, Operand.tmp 60], argTypes := #[43, 43] }, type := 43, pos := "ref.go:101", after := #[{ on := 1, ground := Ground.data }, { on := 15, ground := Ground.data }, { on := 12, ground := Ground.chain }], guard := none }
abbrev oqo17 : Oper := { dst := some 62, op := Op.fieldAddr 45 (Operand.tmp 5) 1, type := 0, pos := "ref.go:101", after := #[{ on := 0, ground := Ground.phase }, { on := 1, ground := Ground.phase }, { on := 2, ground := Ground.phase }, { on := 3, ground := Ground.phase }, { on := 4, ground := Ground.phase }, { on := 5, ground := Ground.phase }, { on := 6, ground := Ground.phase }, { on := 7, ground := Ground.phase }, { on := 8, ground := Ground.phase }, { on := 9, ground := Ground.phase }, { on := 10, ground := Ground.phase }, { on := 11, ground := Ground.phase }, { on := 12, ground := Ground.phase }, { on := 13, ground := Ground.phase }, { on := 14, ground := Ground.phase }, { on := 15, ground := Ground.phase }, { on := 16, ground := Ground.phase }], guard := none }
abbrev oqo18 : Oper := { dst := none, op := Op.store 43 (Operand.tmp 62) (Operand.tmp 61), type := 0, pos := "ref.go:101", after := #[{ on := 17, ground := Ground.data }, { on := 16, ground := Ground.data }, { on := 16, ground := Ground.chain }, { on := 0, ground := Ground.phase }, { on := 1, ground := Ground.phase }, { on := 2, ground := Ground.phase }, { on := 3, ground := Ground.phase }, { on := 4, ground := Ground.phase }, { on := 5, ground := Ground.phase }, { on := 6, ground := Ground.phase }, { on := 7, ground := Ground.phase }, { on := 8, ground := Ground.phase }, { on := 9, ground := Ground.phase }, { on := 10, ground := Ground.phase }, { on := 11, ground := Ground.phase }, { on := 12, ground := Ground.phase }, { on := 13, ground := Ground.phase }, { on := 14, ground := Ground.phase }, { on := 15, ground := Ground.phase }, { on := 16, ground := Ground.phase }], guard := none }

/-- A report that comes back, with what is wrong; there may be room behind its rows. -/
def RpPostC (T : (Nat × List RowT) × Nat) (e : Ending) (w' : World) : Prop :=
  ∃ A n c, e = .returned (.tuple #[.agg #[.int .u32 (T.1.1 : Int), .slice A n c], .int .i64 (T.2 : Int)]) ∧ Rws w' A n T.1.2 ∧ n ≤ c ∧ (c : Int) ≤ 9223372036854775807
theorem RpPostC.none (w' : World) (k : Nat) : RpPostC ((0, []), k) (.returned (.tuple #[rpZ, .int .i64 (k : Int)])) w' := ⟨_, 0, 0, rfl, Rws.nil _ _, Nat.le_refl _, by decide⟩

theorem newsr_OpenReport_none (w : World) :
    Calls Try.prog 15 #[.string (bs [])] w fun e w' => e = .returned (.tuple #[rpZ, .int .i64 10]) ∧ Below w.heap.size w w' := by
  have hsz := bs_size []
  go_enter Try.func15, Try.ntmps15
  go_wp2_with fail
  refine bodyPost_ret (v := .tuple #[rpZ, .int .i64 10]) (by simp [results, Try.results15, go_sem, rpZ]) rfl ⟨rfl, ?_⟩
  exact (Below.refl _ _).alloc (Nat.le_refl _) _

theorem newsr_OpenReport_form (x : UInt8) (l L : List UInt8) (w : World) (hL : L = x :: l) (hx : x ≠ 72) (hl : L.length ≤ 1000000) :
    Calls Try.prog 15 #[.string (bs L)] w fun e w' => e = .returned (.tuple #[rpZ, .int .i64 4]) ∧ Below w.heap.size w w' := by
  have hsz := bs_size L
  have hj : 0 < (bs L).size := by rw [hsz, hL]; simp
  have hne0 : ((L.length : Int) == 0) = false := by rw [beq_eq_false_iff_ne, hL]; simp; omega
  obtain ⟨v, hv⟩ : ∃ v, v = x.toNat := ⟨_, rfl⟩
  have hvi : (((bs L)[0]'hj).toNat : Int) = (v : Int) := by subst hL; rw [hv]; rfl
  have hne : ((v : Int) != 72) = true := by
    rw [bne_iff_ne]
    intro e
    apply hx
    apply UInt8.toNat_inj.1
    rw [← hv]
    show v = 72
    omega
  clear hv hL
  go_enter Try.func15, Try.ntmps15
  go_wp2_with fail
  refine bodyPost_ret (v := .tuple #[rpZ, .int .i64 4]) (by simp [results, Try.results15, go_sem, rpZ]) rfl ⟨rfl, ?_⟩
  exact (Below.refl _ _).alloc (Nat.le_refl _) _

theorem newsr_OpenReport_short (l L : List UInt8) (w : World) (hL : L = 72 :: l) (hs : L.length < 7) :
    Calls Try.prog 15 #[.string (bs L)] w fun e w' => e = .returned (.tuple #[rpZ, .int .i64 10]) ∧ Below w.heap.size w w' := by
  have hsz := bs_size L
  have hj : 0 < (bs L).size := by rw [hsz, hL]; simp
  have hne0 : ((L.length : Int) == 0) = false := by rw [beq_eq_false_iff_ne, hL]; simp; omega
  have hvi : (((bs L)[0]'hj).toNat : Int) = 72 := by subst hL; rfl
  have hd : decide ((L.length : Int) < 7) = true := decide_eq_true (by omega)
  clear hL
  go_enter Try.func15, Try.ntmps15
  go_wp2_with fail
  refine bodyPost_ret (v := .tuple #[rpZ, .int .i64 10]) (by simp [results, Try.results15, go_sem, rpZ]) rfl ⟨rfl, ?_⟩
  exact (Below.refl _ _).alloc (Nat.le_refl _) _

theorem be2_lt (L : List UInt8) (a : Nat) (h : a + 2 ≤ L.length) : beV ((L.drop a).take 2) < 65536 := by
  have e2 : (256 : Nat) ^ 2 = 65536 := by decide
  have h2 := beV_lt ((L.drop a).take 2)
  rw [List.length_take, List.length_drop, Nat.min_eq_left (by omega), e2] at h2
  exact h2

set_option maxHeartbeats 2000000 in
theorem newsr_OpenReport_cut (l L : List UInt8) (m : Nat) (w : World) (hL : L = 72 :: l) (h : 7 ≤ L.length) (hl : L.length ≤ 1000000) (hm : m = beV ((L.drop 5).take 2)) (hs : L.length ≠ 7 + 8 * m) :
    Calls Try.prog 15 #[.string (bs L)] w fun e w' => e = .returned (.tuple #[rpZ, .int .i64 (if L.length < 7 + 8 * m then 10 else 11)]) ∧ Below w.heap.size w w' := by
  have hsz := bs_size L
  have hj : 0 < (bs L).size := by rw [hsz]; omega
  have hne0 : ((L.length : Int) == 0) = false := by rw [beq_eq_false_iff_ne]; omega
  have hvi : (((bs L)[0]'hj).toNat : Int) = 72 := by subst hL; rfl
  have hd : decide ((L.length : Int) < 7) = false := decide_eq_false (by omega)
  have hmb : m < 65536 := by rw [hm]; exact be2_lt L 5 (by omega)
  have HG := Lib.hid (fun W => newsr_get L 5 2 W (by decide) (by decide) (by omega) hl)
  rw [← hm] at HG
  have wm : IntKind.i64.wrap (m : Int) = (m : Int) := IntWalk.i64_in _ (by omega)
  obtain ⟨q, hq⟩ : ∃ q, q = 8 * m := ⟨_, rfl⟩
  have wq : IntKind.i64.wrap (8 * (m : Int)) = (q : Int) := by rw [IntWalk.i64_in _ (by omega)]; omega
  obtain ⟨z, hz⟩ : ∃ z, z = 7 + q := ⟨_, rfl⟩
  have wz : IntKind.i64.wrap (7 + (q : Int)) = (z : Int) := by rw [IntWalk.i64_in _ (by omega)]; omega
  obtain ⟨W0, hW0⟩ : ∃ W0, W0 = w.alloc (.cells #[.int .u32 0, .slice none 0 0] 45) := ⟨_, rfl⟩
  have Z0 : Hid (Blk W0 w.heap.size 45 [.int .u32 0, .slice none 0 0]) := Lib.hid (by rw [hW0]; exact heap_alloc_new w _)
  have B0 : Hid (Below w.heap.size w W0) := Lib.hid (by rw [hW0]; exact (Below.refl _ _).alloc (Nat.le_refl _) _)
  by_cases hlt : L.length < 7 + 8 * m
  · rw [if_pos hlt]
    have hd2 : decide ((L.length : Int) < (z : Int)) = true := decide_eq_true (by omega)
    have hd3 : decide (L.length < z) = true := decide_eq_true (by omega)
    clear hL hm hq hz hs hlt
    go_enter Try.func15, Try.ntmps15
    go_wp2_with fail
    rw [← hW0]
    refine (HG.out _).mono ?_
    rintro e w1 ⟨rfl, b1⟩
    have Z1 := Lib.hid (Z0.out.keep b1)
    have g0 := Z1.out.cell 0
    have g1 := Z1.out.cell 1
    dsimp only [List.getElem?_cons_zero, List.getElem?_cons_succ] at g0 g1
    have f0 := Z1.out.frozen 0
    have f1 := Z1.out.frozen 1
    have B1 := Lib.hid (B0.out.trans (b1.mono B0.out.size))
    clear b1
    go_wp2_with fail
    have GP := (Z1.out.set_ 0 (.int .u32 0)).set_ 1 (.slice none 0 0)
    have d0 := GP.cell 0
    have d1 := GP.cell 1
    dsimp only [List.getElem?_cons_zero, List.getElem?_cons_succ, List.set_cons_zero, List.set_cons_succ] at d0 d1
    refine bodyPost_ret (v := .tuple #[rpZ, .int .i64 10]) (by simp [results, Try.results15, go_sem, rpZ, d0, d1]) rfl ⟨rfl, ?_⟩
    exact (B1.out.setCell (p := ⟨w.heap.size, 0, none⟩) (Nat.le_refl _) _).setCell (p := ⟨w.heap.size, 1, none⟩) (Nat.le_refl _) _
  · rw [if_neg hlt]
    have hd2 : decide ((L.length : Int) < (z : Int)) = false := decide_eq_false (by omega)
    have hd3 : decide (L.length < z) = false := decide_eq_false (by omega)
    have hd4 : decide ((z : Int) < (L.length : Int)) = true := decide_eq_true (by omega)
    have hd5 : decide (z < L.length) = true := decide_eq_true (by omega)
    clear hL hm hq hz hs hlt
    go_enter Try.func15, Try.ntmps15
    go_wp2_with fail
    rw [← hW0]
    refine (HG.out _).mono ?_
    rintro e w1 ⟨rfl, b1⟩
    have Z1 := Lib.hid (Z0.out.keep b1)
    have g0 := Z1.out.cell 0
    have g1 := Z1.out.cell 1
    dsimp only [List.getElem?_cons_zero, List.getElem?_cons_succ] at g0 g1
    have f0 := Z1.out.frozen 0
    have f1 := Z1.out.frozen 1
    have B1 := Lib.hid (B0.out.trans (b1.mono B0.out.size))
    clear b1
    go_wp2_with fail
    have GP := (Z1.out.set_ 0 (.int .u32 0)).set_ 1 (.slice none 0 0)
    have d0 := GP.cell 0
    have d1 := GP.cell 1
    dsimp only [List.getElem?_cons_zero, List.getElem?_cons_succ, List.set_cons_zero, List.set_cons_succ] at d0 d1
    refine bodyPost_ret (v := .tuple #[rpZ, .int .i64 11]) (by simp [results, Try.results15, go_sem, rpZ, d0, d1]) rfl ⟨rfl, ?_⟩
    exact (B1.out.setCell (p := ⟨w.heap.size, 0, none⟩) (Nat.le_refl _) _).setCell (p := ⟨w.heap.size, 1, none⟩) (Nat.le_refl _) _

set_option maxHeartbeats 16000000 in
theorem newsr_OpenReport_ok (l L : List UInt8) (m : Nat) (w : World) (hL : L = 72 :: l) (hl : L.length ≤ 1000000) (hm : m = beV ((L.drop 5).take 2)) (hs : L.length = 7 + 8 * m) :
    Calls Try.prog 15 #[.string (bs L)] w fun e w' => RpPostC (orpT L) e w' ∧ Below w.heap.size w w' := by
  have HT : Hid (orpT L = if MayP (rowsOf L m) then ((beV ((L.drop 1).take 4), rowsOf L m), 0) else ((0, []), 4)) := Lib.hid (orpT_ok l L m hL hs hm)
  obtain ⟨U, hU⟩ : ∃ U, U = orpT L := ⟨_, rfl⟩
  rw [← hU] at HT ⊢
  have hsz := bs_size L
  have hj0 : 0 < (bs L).size := by rw [hsz]; omega
  have hne0 : ((L.length : Int) == 0) = false := by rw [beq_eq_false_iff_ne]; omega
  have hvi : (((bs L)[0]'hj0).toNat : Int) = 72 := by subst hL; rfl
  have hd : decide ((L.length : Int) < 7) = false := decide_eq_false (by omega)
  have hmb : m < 65536 := by rw [hm]; exact be2_lt L 5 (by omega)
  have HG := Lib.hid (fun W => newsr_get L 5 2 W (by decide) (by decide) (by omega) hl)
  rw [← hm] at HG
  obtain ⟨ep, hep⟩ : ∃ ep, ep = beV ((L.drop 1).take 4) := ⟨_, rfl⟩
  have HGE := Lib.hid (fun W => newsr_get L 1 4 W (by decide) (by decide) (by omega) hl)
  rw [← hep] at HGE HT
  have hepb : ep < 4294967296 := by rw [hep]; exact be4_lt L 1 (by omega)
  have wep : IntKind.u32.wrap (ep : Int) = (ep : Int) := by simp [IntKind.wrap, IntKind.bits, IntKind.signed]; omega
  have HGX := Lib.hid (fun (a : Nat) (ha : a + 4 ≤ L.length) W => newsr_get L a 4 W (by decide) (by decide) ha hl)
  have wm : IntKind.i64.wrap (m : Int) = (m : Int) := IntWalk.i64_in _ (by omega)
  obtain ⟨q, hq⟩ : ∃ q, q = 8 * m := ⟨_, rfl⟩
  have wq : IntKind.i64.wrap (8 * (m : Int)) = (q : Int) := by rw [IntWalk.i64_in _ (by omega)]; omega
  obtain ⟨z, hz⟩ : ∃ z, z = 7 + q := ⟨_, rfl⟩
  have wz : IntKind.i64.wrap (7 + (q : Int)) = (z : Int) := by rw [IntWalk.i64_in _ (by omega)]; omega
  have hd2 : decide ((L.length : Int) < (z : Int)) = false := decide_eq_false (by omega)
  have hd3 : decide (L.length < z) = false := decide_eq_false (by omega)
  have hd4 : decide ((z : Int) < (L.length : Int)) = false := decide_eq_false (by omega)
  have hd5 : decide (z < L.length) = false := decide_eq_false (by omega)
  obtain ⟨W0, hW0⟩ : ∃ W0, W0 = w.alloc (.cells #[.int .u32 0, .slice none 0 0] 45) := ⟨_, rfl⟩
  have Z0 : Hid (Blk W0 w.heap.size 45 [.int .u32 0, .slice none 0 0]) := Lib.hid (by rw [hW0]; exact heap_alloc_new w _)
  have B0 : Hid (Below w.heap.size w W0) := Lib.hid (by rw [hW0]; exact (Below.refl _ _).alloc (Nat.le_refl _) _)
  have HSL : Hid (L.length = 7 + 8 * m ∧ L.length ≤ 1000000) := Lib.hid ⟨hs, hl⟩
  clear hL hm hq hz hs hU hep hepb hl
  go_enter Try.func15, Try.ntmps15
  go_wp2_with fail
  rw [← hW0]
  refine (HG.out _).mono ?_
  rintro e w1 ⟨rfl, b1⟩
  have Z1 := Lib.hid (Z0.out.keep b1)
  have B1 := Lib.hid (B0.out.trans (b1.mono B0.out.size))
  clear b1 hW0
  go_wp2_with fail
  refine (HGE.out _).mono ?_
  rintro e w2 ⟨rfl, b2⟩
  obtain ⟨W3, hW3⟩ : ∃ W3, W3 = w2.alloc (.cells #[.int .u32 (ep : Int), .slice none 0 0] 45) := ⟨_, rfl⟩
  obtain ⟨b5, hb5⟩ : ∃ b5, b5 = w2.heap.size := ⟨_, rfl⟩
  have Z3 : Hid (Blk W3 w.heap.size 45 [.int .u32 0, .slice none 0 0] ∧ Blk W3 b5 45 [.int .u32 (ep : Int), .slice none 0 0]) := Lib.hid (by rw [hW3, hb5]; exact ⟨(Z1.out.keep b2).alloc _, heap_alloc_new w2 _⟩)
  have HB5 : Hid (w.heap.size < b5) := Lib.hid (by rw [hb5]; exact (Z1.out.keep b2).lt)
  have B3 : Hid (Below w.heap.size w W3) := Lib.hid (by rw [hW3]; exact (B1.out.trans (b2.mono B1.out.size)).alloc (Nat.le_trans B1.out.size b2.size) _)
  clear b2 Z1 B1 Z0 B0 hne0 hvi hd hd2 hd3 hd4 hd5 wq wz
  go_wp2_with fail
  rw [← hW3, ← hb5]
  clear hW3 hb5 wep wm
  go_loopw [6] (fun iv wr => ∃ (j : Nat) (v : Value), iv = .int .i64 (j : Int) ∧ j ≤ m ∧ Hid (wr.ownsRow w.heap.size 64 2 v j (rowsV (rowsOf L j))) ∧ Hid (Blk wr w.heap.size 45 [.int .u32 0, .slice none 0 0] ∧ Blk wr b5 45 [.int .u32 (ep : Int), v]) ∧ Hid (Below w.heap.size w wr)) (fun iv _ => m - (intOf iv).toNat)
  case atStart => exact ⟨0, .slice none 0 0, rfl, Nat.zero_le _, Lib.hid (World.ownsRow_nil _ _ _ _), Z3, B3⟩
  case round =>
    obtain ⟨j, v, rfl, hj, HO, HZ, HB⟩ := hrel
    by_cases hlt : j < m
    · obtain ⟨q8, hq8⟩ : ∃ q, q = 8 * j := ⟨_, rfl⟩
      obtain ⟨a1, ha1⟩ : ∃ a, a = 7 + q8 := ⟨_, rfl⟩
      obtain ⟨a2, ha2⟩ : ∃ a, a = 11 + q8 := ⟨_, rfl⟩
      have hsl := HSL.out.1
      have HG1 := Lib.hid (HGX.out a1 (by omega))
      have HG2 := Lib.hid (HGX.out a2 (by omega))
      obtain ⟨x, hx⟩ : ∃ x, x = beV ((L.drop a1).take 4) := ⟨_, rfl⟩
      obtain ⟨y, hy⟩ : ∃ y, y = beV ((L.drop a2).take 4) := ⟨_, rfl⟩
      have hxb : x < 4294967296 := by rw [hx]; exact be4_lt L a1 (by omega)
      have hyb : y < 4294967296 := by rw [hy]; exact be4_lt L a2 (by omega)
      rw [← hx] at HG1
      rw [← hy] at HG2
      have HNX : Hid (rowsOf L j ++ [(x, y)] = rowsOf L (j + 1)) := Lib.hid (by
        rw [rowsOf_succ, hx, hy, ha1, ha2, hq8]; rfl)
      have wx : IntKind.u32.wrap (x : Int) = (x : Int) := by simp [IntKind.wrap, IntKind.bits, IntKind.signed]; omega
      have wy : IntKind.u32.wrap (y : Int) = (y : Int) := by simp [IntKind.wrap, IntKind.bits, IntKind.signed]; omega
      have w8 : IntKind.i64.wrap (8 * (j : Int)) = (q8 : Int) := by rw [IntWalk.i64_in _ (by omega)]; omega
      have wa1 : IntKind.i64.wrap (7 + (q8 : Int)) = (a1 : Int) := by rw [IntWalk.i64_in _ (by omega)]; omega
      have wa2 : IntKind.i64.wrap (11 + (q8 : Int)) = (a2 : Int) := by rw [IntWalk.i64_in _ (by omega)]; omega
      have hdec : decide ((j : Int) < (m : Int)) = true := decide_eq_true (by omega)
      have hw1 : IntKind.i64.wrap ((j : Int) + 1) = ((j + 1 : Nat) : Int) := by rw [IntWalk.i64_in _ (by omega)]; omega
      have K5 : Hid (Below wr.heap.size wr wr.drew) := Lib.hid (Below.refl _ _).drew
      have LDF : Hid (∀ w', Below wr.heap.size wr w' → (Instr.loadAt 43 (.pointer (some ⟨b5, 1, none⟩))).run Try.prog w' = .ok v w') := Lib.hid (fun w' hb => run_load_rows w' b5 1 v ((HZ.out.2.keep hb).cell 1))
      clear hq8 ha1 ha2 hsl hx hy hxb hyb
      go_upto_region 16 with fail
      refine wp_region_noPanic ?_
      refine wp_region_held_drew (S := fun _ => True) (by kernel_rfl) ?_ (fun hHeld => ?_)
      · exact trivial
      refine wpAnyH_take (i := 0) (oi := oqo0) (v := ?_) rfl (by kernel_rfl) (by kernel_rfl) (by kernel_rfl) (fun _ _ _ h => h) (Or.inl ⟨by rfl, ?_⟩) (by assumption) ?_
      rotate_left
      · (intro w hSw; (try dsimp only at hSw); (try dsimp only [oqo0]); go_simp; try (with_reducible rfl))
      (try simp only [Act.put, List.setIfInBounds_toArray, List.set_cons_zero, List.set_cons_succ])
      refine wpAnyH_take (i := 2) (oi := oqo2) (v := ?_) rfl (by kernel_rfl) (by kernel_rfl) (by kernel_rfl) (fun _ _ _ h => h) (Or.inl ⟨by rfl, ?_⟩) (by assumption) ?_
      rotate_left
      · (intro w hSw; (try dsimp only at hSw); (try dsimp only [oqo2]); go_simp; try (with_reducible rfl))
      (try simp only [Act.put, List.setIfInBounds_toArray, List.set_cons_zero, List.set_cons_succ])
      refine wpAnyH_take (i := 3) (oi := oqo3) (v := ?_) rfl (by kernel_rfl) (by kernel_rfl) (by kernel_rfl) (fun _ _ _ h => h) (Or.inl ⟨by rfl, ?_⟩) (by assumption) ?_
      rotate_left
      · (intro w hSw; (try dsimp only at hSw); (try dsimp only [oqo3]); go_simp; try (with_reducible rfl))
      (try simp only [Act.put, List.setIfInBounds_toArray, List.set_cons_zero, List.set_cons_succ])
      refine wpAnyH_take (i := 4) (oi := oqo4) (v := ?_) rfl (by kernel_rfl) (by kernel_rfl) (by kernel_rfl) (fun _ _ _ h => h) (Or.inl ⟨by rfl, ?_⟩) (by assumption) ?_
      rotate_left
      · (intro w hSw; (try dsimp only at hSw); (try dsimp only [oqo4]); go_simp; try (with_reducible rfl))
      (try simp only [Act.put, List.setIfInBounds_toArray, List.set_cons_zero, List.set_cons_succ])
      refine wpAnyH_take (i := 5) (oi := oqo5) (v := ?_) rfl (by kernel_rfl) (by kernel_rfl) (by kernel_rfl) (fun _ _ _ h => h) (Or.inl ⟨by rfl, ?_⟩) (by assumption) ?_
      rotate_left
      · (intro w hSw; (try dsimp only at hSw); (try dsimp only [oqo5]); go_simp; try (with_reducible rfl))
      (try simp only [Act.put, List.setIfInBounds_toArray, List.set_cons_zero, List.set_cons_succ])
      refine wpAnyH_take (i := 8) (oi := oqo8) (v := ?_) rfl (by kernel_rfl) (by kernel_rfl) (by kernel_rfl) (fun _ _ _ h => h) (Or.inl ⟨by rfl, ?_⟩) (by assumption) ?_
      rotate_left
      · (intro w hSw; (try dsimp only at hSw); (try dsimp only [oqo8]); go_simp; try (with_reducible rfl))
      (try simp only [Act.put, List.setIfInBounds_toArray, List.set_cons_zero, List.set_cons_succ])
      refine wpAnyH_take (i := 9) (oi := oqo9) (v := ?_) rfl (by kernel_rfl) (by kernel_rfl) (by kernel_rfl) (fun _ _ _ h => h) (Or.inl ⟨by rfl, ?_⟩) (by assumption) ?_
      rotate_left
      · (intro w hSw; (try dsimp only at hSw); (try dsimp only [oqo9]); go_simp; try (with_reducible rfl))
      (try simp only [Act.put, List.setIfInBounds_toArray, List.set_cons_zero, List.set_cons_succ])
      refine wpAnyH_take (i := 10) (oi := oqo10) (v := ?_) rfl (by kernel_rfl) (by kernel_rfl) (by kernel_rfl) (fun _ _ _ h => h) (Or.inl ⟨by rfl, ?_⟩) (by assumption) ?_
      rotate_left
      · (intro w hSw; (try dsimp only at hSw); (try dsimp only [oqo10]); go_simp; try (with_reducible rfl))
      (try simp only [Act.put, List.setIfInBounds_toArray, List.set_cons_zero, List.set_cons_succ])
      refine wpAnyH_take (i := 11) (oi := oqo11) (v := ?_) rfl (by kernel_rfl) (by kernel_rfl) (by kernel_rfl) (fun _ _ _ h => h) (Or.inl ⟨by rfl, ?_⟩) (by assumption) ?_
      rotate_left
      · (intro w hSw; (try dsimp only at hSw); (try dsimp only [oqo11]); go_simp; try (with_reducible rfl))
      (try simp only [Act.put, List.setIfInBounds_toArray, List.set_cons_zero, List.set_cons_succ])
      refine wpAnyH_ready (rs := [1, 6]) (by kernel_rfl) (by simp) ?_
      refine (AllReadyH.cons (o := oqo1) rfl (fun K hK => ?_) (AllReadyH.cons (o := oqo6) rfl (fun K hK => ?_) AllReadyH.nil))
      · rw [if_pos (by rfl)]
        refine wp_load_isN _ _ rfl ⟨b5, 1, none⟩ rfl v (by first | exact LDF.out _ K7.out | exact LDF.out _ K6.out | exact LDF.out _ K5.out | exact LDF.out _ (K7.out.alloc K7.out.size _)) ?_
        refine hK.out _ _ ?_ (fun hHeld => ?_)
        · exact trivial
        clear hK K
        (try simp only [Act.put, List.setIfInBounds_toArray, List.set_cons_zero, List.set_cons_succ])
        refine wpAnyH_ready (rs := [6]) (by kernel_rfl) (by simp) ?_
        refine AllReadyH.cons (o := oqo6) rfl (fun K hK => ?_) AllReadyH.nil
        dsimp only [oqo6]
        go_simp
        refine (HG1.out _).mono ?_
        rintro e w6 ⟨rfl, p6⟩
        have K6 := Lib.hid (K5.out.trans (p6.mono K5.out.size))
        clear p6
        (try go_wp2_with fail)
        refine hK.out _ _ ?_ (fun hHeld => ?_)
        · exact trivial
        clear hK K
        (try simp only [Act.put, List.setIfInBounds_toArray, List.set_cons_zero, List.set_cons_succ])
        refine wpAnyH_take (i := 7) (oi := oqo7) (v := ?_) rfl (by kernel_rfl) (by kernel_rfl) (by kernel_rfl) (fun _ _ _ h => h) (Or.inl ⟨by rfl, ?_⟩) (by assumption) ?_
        rotate_left
        · (intro w hSw; (try dsimp only at hSw); (try dsimp only [oqo7]); go_simp; try (with_reducible rfl))
        (try simp only [Act.put, List.setIfInBounds_toArray, List.set_cons_zero, List.set_cons_succ])
        refine wpAnyH_ready (rs := [12]) (by kernel_rfl) (by simp) ?_
        refine AllReadyH.cons (o := oqo12) rfl (fun K hK => ?_) AllReadyH.nil
        dsimp only [oqo12]
        go_simp
        refine (HG2.out _).mono ?_
        rintro e w7 ⟨rfl, p7⟩
        have K7 := Lib.hid (K6.out.trans (p7.mono K6.out.size))
        clear p7
        (try go_wp2_with fail)
        refine hK.out _ _ ?_ (fun hHeld => ?_)
        · exact trivial
        clear hK K
        (try simp only [Act.put, List.setIfInBounds_toArray, List.set_cons_zero, List.set_cons_succ])
        refine wpAnyH_take (i := 13) (oi := oqo13) (v := ?_) rfl (by kernel_rfl) (by kernel_rfl) (by kernel_rfl) (fun _ _ _ h => h) (Or.inl ⟨by rfl, ?_⟩) (by assumption) ?_
        rotate_left
        · (intro w hSw; (try dsimp only at hSw); (try dsimp only [oqo13]); go_simp; try (with_reducible rfl))
        (try simp only [Act.put, List.setIfInBounds_toArray, List.set_cons_zero, List.set_cons_succ])
        refine wpAnyH_take (i := 14) (oi := oqo14) (v := ?_) rfl (by kernel_rfl) (by kernel_rfl) (by kernel_rfl) (fun _ _ _ h => h) (Or.inl ⟨by rfl, ?_⟩) (by assumption) ?_
        rotate_left
        · (intro w hSw; (try dsimp only at hSw); (try dsimp only [oqo14]); go_simp; try (with_reducible rfl))
        (try simp only [Act.put, List.setIfInBounds_toArray, List.set_cons_zero, List.set_cons_succ])
        refine wpAnyH_ready (rs := [15]) (by kernel_rfl) (by simp) ?_
        refine AllReadyH.cons (o := oqo15) rfl (fun K hK => ?_) AllReadyH.nil
        rw [if_pos (by rfl)]
        dsimp only [oqo15]
        go_simp
        refine hK.out _ _ ?_ (fun hHeld => ?_)
        · exact trivial
        clear hK K
        (try simp only [Act.put, List.setIfInBounds_toArray, List.set_cons_zero, List.set_cons_succ])
        refine wpAnyH_ready (rs := [16]) (by kernel_rfl) (by simp) ?_
        refine AllReadyH.cons (o := oqo16) rfl (fun K hK => ?_) AllReadyH.nil
        have K8 : Hid (Below wr.heap.size wr (w7.alloc (.cells #[.int .u32 (x : Int), .int .u32 (y : Int)] 64))) := Lib.hid (K7.out.alloc K7.out.size _)
        obtain ⟨g, cap, w9, hap, hown, hb9, hk9⟩ := run_append_row (w7.alloc (.cells #[.int .u32 (x : Int), .int .u32 (y : Int)] 64)) w.heap.size w7.heap.size x y v (rowsOf L j) (by rw [rowsOf_len]; exact own_keepN HO.out K8.out) (heap_alloc_new w7 _) (by rw [rowsOf_len]; omega) (Nat.le_trans HB.out.size K8.out.size)
        rw [rowsOf_len] at hap
        rw [if_pos (by rfl)]
        refine wp_append_isN _ _ _ rfl _ _ rfl rfl (hap _) ?_
        have B9 : Hid (Below w.heap.size w w9) := Lib.hid ((HB.out.trans (K8.out.mono HB.out.size)).trans hb9)
        have Z9 : Hid (Blk w9 w.heap.size 45 [.int .u32 0, .slice none 0 0] ∧ Blk w9 b5 45 [.int .u32 (ep : Int), v]) := Lib.hid ⟨hk9 _ _ _ (by decide) (HZ.out.1.keep K8.out), hk9 _ _ _ (by decide) (HZ.out.2.keep K8.out)⟩
        have O9 := Lib.hid hown
        clear hap hown hb9 hk9
        refine hK.out _ _ ?_ (fun hHeld => ?_)
        · exact trivial
        clear hK K
        (try simp only [Act.put, List.setIfInBounds_toArray, List.set_cons_zero, List.set_cons_succ])
        refine wpAnyH_take (i := 17) (oi := oqo17) (v := ?_) rfl (by kernel_rfl) (by kernel_rfl) (by kernel_rfl) (fun _ _ _ h => h) (Or.inl ⟨by rfl, ?_⟩) (by assumption) ?_
        rotate_left
        · (intro w hSw; (try dsimp only at hSw); (try dsimp only [oqo17]); go_simp; try (with_reducible rfl))
        (try simp only [Act.put, List.setIfInBounds_toArray, List.set_cons_zero, List.set_cons_succ])
        refine wpAnyH_ready (rs := [18]) (by kernel_rfl) (by simp) ?_
        refine AllReadyH.cons (o := oqo18) rfl (fun K hK => ?_) AllReadyH.nil
        rw [if_pos (by rfl)]
        have ST := run_store1 w9 b5 1 45 _ _ (.slice (some ⟨g, 0, none⟩) (j + 1) cap) 43 Z9.out.2 rfl (by kernel_rfl) rfl
        refine wp_store_isN _ _ _ rfl ⟨b5, 1, none⟩ rfl _ rfl _ ST ?_
        clear ST
        refine hK.out _ _ ?_ (fun hHeld => ?_)
        · exact trivial
        clear hK K
        (try simp only [Act.put, List.setIfInBounds_toArray, List.set_cons_zero, List.set_cons_succ])
        refine wpAnyH_done (by kernel_rfl) ?_ _
        refine NoPanic.normal ?_
        clear K5 K6 K7 K8 LDF
        go_wp2_with fail
        go_roundw
        case rel => exact ⟨j + 1, .slice (some ⟨g, 0, none⟩) (j + 1) cap, by go_num, by omega, Lib.hid (by
          have h := O9.out
          rw [HNX.out] at h
          rw [rowsOf_len, rowsOf_len] at h
          exact own_setN h Z9.out.2 (by decide) _ _), Lib.hid ⟨Z9.out.1.far (show w.heap.size ≠ b5 by have := HB5.out; omega) _, Z9.out.2.set_ 1 _⟩, Lib.hid (B9.out.setCell (p := ⟨b5, 1, none⟩) (by show w.heap.size ≤ b5; have := HB5.out; omega) _)⟩
        case measure => simp [intOf]; omega
      · dsimp only [oqo6]
        go_simp
        refine (HG1.out _).mono ?_
        rintro e w6 ⟨rfl, p6⟩
        have K6 := Lib.hid (K5.out.trans (p6.mono K5.out.size))
        clear p6
        (try go_wp2_with fail)
        refine hK.out _ _ ?_ (fun hHeld => ?_)
        · exact trivial
        clear hK K
        (try simp only [Act.put, List.setIfInBounds_toArray, List.set_cons_zero, List.set_cons_succ])
        refine wpAnyH_take (i := 7) (oi := oqo7) (v := ?_) rfl (by kernel_rfl) (by kernel_rfl) (by kernel_rfl) (fun _ _ _ h => h) (Or.inl ⟨by rfl, ?_⟩) (by assumption) ?_
        rotate_left
        · (intro w hSw; (try dsimp only at hSw); (try dsimp only [oqo7]); go_simp; try (with_reducible rfl))
        (try simp only [Act.put, List.setIfInBounds_toArray, List.set_cons_zero, List.set_cons_succ])
        refine wpAnyH_ready (rs := [1, 12]) (by kernel_rfl) (by simp) ?_
        refine (AllReadyH.cons (o := oqo1) rfl (fun K hK => ?_) (AllReadyH.cons (o := oqo12) rfl (fun K hK => ?_) AllReadyH.nil))
        · rw [if_pos (by rfl)]
          refine wp_load_isN _ _ rfl ⟨b5, 1, none⟩ rfl v (by first | exact LDF.out _ K7.out | exact LDF.out _ K6.out | exact LDF.out _ K5.out | exact LDF.out _ (K7.out.alloc K7.out.size _)) ?_
          refine hK.out _ _ ?_ (fun hHeld => ?_)
          · exact trivial
          clear hK K
          (try simp only [Act.put, List.setIfInBounds_toArray, List.set_cons_zero, List.set_cons_succ])
          refine wpAnyH_ready (rs := [12]) (by kernel_rfl) (by simp) ?_
          refine AllReadyH.cons (o := oqo12) rfl (fun K hK => ?_) AllReadyH.nil
          dsimp only [oqo12]
          go_simp
          refine (HG2.out _).mono ?_
          rintro e w7 ⟨rfl, p7⟩
          have K7 := Lib.hid (K6.out.trans (p7.mono K6.out.size))
          clear p7
          (try go_wp2_with fail)
          refine hK.out _ _ ?_ (fun hHeld => ?_)
          · exact trivial
          clear hK K
          (try simp only [Act.put, List.setIfInBounds_toArray, List.set_cons_zero, List.set_cons_succ])
          refine wpAnyH_take (i := 13) (oi := oqo13) (v := ?_) rfl (by kernel_rfl) (by kernel_rfl) (by kernel_rfl) (fun _ _ _ h => h) (Or.inl ⟨by rfl, ?_⟩) (by assumption) ?_
          rotate_left
          · (intro w hSw; (try dsimp only at hSw); (try dsimp only [oqo13]); go_simp; try (with_reducible rfl))
          (try simp only [Act.put, List.setIfInBounds_toArray, List.set_cons_zero, List.set_cons_succ])
          refine wpAnyH_take (i := 14) (oi := oqo14) (v := ?_) rfl (by kernel_rfl) (by kernel_rfl) (by kernel_rfl) (fun _ _ _ h => h) (Or.inl ⟨by rfl, ?_⟩) (by assumption) ?_
          rotate_left
          · (intro w hSw; (try dsimp only at hSw); (try dsimp only [oqo14]); go_simp; try (with_reducible rfl))
          (try simp only [Act.put, List.setIfInBounds_toArray, List.set_cons_zero, List.set_cons_succ])
          refine wpAnyH_ready (rs := [15]) (by kernel_rfl) (by simp) ?_
          refine AllReadyH.cons (o := oqo15) rfl (fun K hK => ?_) AllReadyH.nil
          rw [if_pos (by rfl)]
          dsimp only [oqo15]
          go_simp
          refine hK.out _ _ ?_ (fun hHeld => ?_)
          · exact trivial
          clear hK K
          (try simp only [Act.put, List.setIfInBounds_toArray, List.set_cons_zero, List.set_cons_succ])
          refine wpAnyH_ready (rs := [16]) (by kernel_rfl) (by simp) ?_
          refine AllReadyH.cons (o := oqo16) rfl (fun K hK => ?_) AllReadyH.nil
          have K8 : Hid (Below wr.heap.size wr (w7.alloc (.cells #[.int .u32 (x : Int), .int .u32 (y : Int)] 64))) := Lib.hid (K7.out.alloc K7.out.size _)
          obtain ⟨g, cap, w9, hap, hown, hb9, hk9⟩ := run_append_row (w7.alloc (.cells #[.int .u32 (x : Int), .int .u32 (y : Int)] 64)) w.heap.size w7.heap.size x y v (rowsOf L j) (by rw [rowsOf_len]; exact own_keepN HO.out K8.out) (heap_alloc_new w7 _) (by rw [rowsOf_len]; omega) (Nat.le_trans HB.out.size K8.out.size)
          rw [rowsOf_len] at hap
          rw [if_pos (by rfl)]
          refine wp_append_isN _ _ _ rfl _ _ rfl rfl (hap _) ?_
          have B9 : Hid (Below w.heap.size w w9) := Lib.hid ((HB.out.trans (K8.out.mono HB.out.size)).trans hb9)
          have Z9 : Hid (Blk w9 w.heap.size 45 [.int .u32 0, .slice none 0 0] ∧ Blk w9 b5 45 [.int .u32 (ep : Int), v]) := Lib.hid ⟨hk9 _ _ _ (by decide) (HZ.out.1.keep K8.out), hk9 _ _ _ (by decide) (HZ.out.2.keep K8.out)⟩
          have O9 := Lib.hid hown
          clear hap hown hb9 hk9
          refine hK.out _ _ ?_ (fun hHeld => ?_)
          · exact trivial
          clear hK K
          (try simp only [Act.put, List.setIfInBounds_toArray, List.set_cons_zero, List.set_cons_succ])
          refine wpAnyH_take (i := 17) (oi := oqo17) (v := ?_) rfl (by kernel_rfl) (by kernel_rfl) (by kernel_rfl) (fun _ _ _ h => h) (Or.inl ⟨by rfl, ?_⟩) (by assumption) ?_
          rotate_left
          · (intro w hSw; (try dsimp only at hSw); (try dsimp only [oqo17]); go_simp; try (with_reducible rfl))
          (try simp only [Act.put, List.setIfInBounds_toArray, List.set_cons_zero, List.set_cons_succ])
          refine wpAnyH_ready (rs := [18]) (by kernel_rfl) (by simp) ?_
          refine AllReadyH.cons (o := oqo18) rfl (fun K hK => ?_) AllReadyH.nil
          rw [if_pos (by rfl)]
          have ST := run_store1 w9 b5 1 45 _ _ (.slice (some ⟨g, 0, none⟩) (j + 1) cap) 43 Z9.out.2 rfl (by kernel_rfl) rfl
          refine wp_store_isN _ _ _ rfl ⟨b5, 1, none⟩ rfl _ rfl _ ST ?_
          clear ST
          refine hK.out _ _ ?_ (fun hHeld => ?_)
          · exact trivial
          clear hK K
          (try simp only [Act.put, List.setIfInBounds_toArray, List.set_cons_zero, List.set_cons_succ])
          refine wpAnyH_done (by kernel_rfl) ?_ _
          refine NoPanic.normal ?_
          clear K5 K6 K7 K8 LDF
          go_wp2_with fail
          go_roundw
          case rel => exact ⟨j + 1, .slice (some ⟨g, 0, none⟩) (j + 1) cap, by go_num, by omega, Lib.hid (by
            have h := O9.out
            rw [HNX.out] at h
            rw [rowsOf_len, rowsOf_len] at h
            exact own_setN h Z9.out.2 (by decide) _ _), Lib.hid ⟨Z9.out.1.far (show w.heap.size ≠ b5 by have := HB5.out; omega) _, Z9.out.2.set_ 1 _⟩, Lib.hid (B9.out.setCell (p := ⟨b5, 1, none⟩) (by show w.heap.size ≤ b5; have := HB5.out; omega) _)⟩
          case measure => simp [intOf]; omega
        · dsimp only [oqo12]
          go_simp
          refine (HG2.out _).mono ?_
          rintro e w7 ⟨rfl, p7⟩
          have K7 := Lib.hid (K6.out.trans (p7.mono K6.out.size))
          clear p7
          (try go_wp2_with fail)
          refine hK.out _ _ ?_ (fun hHeld => ?_)
          · exact trivial
          clear hK K
          (try simp only [Act.put, List.setIfInBounds_toArray, List.set_cons_zero, List.set_cons_succ])
          refine wpAnyH_take (i := 13) (oi := oqo13) (v := ?_) rfl (by kernel_rfl) (by kernel_rfl) (by kernel_rfl) (fun _ _ _ h => h) (Or.inl ⟨by rfl, ?_⟩) (by assumption) ?_
          rotate_left
          · (intro w hSw; (try dsimp only at hSw); (try dsimp only [oqo13]); go_simp; try (with_reducible rfl))
          (try simp only [Act.put, List.setIfInBounds_toArray, List.set_cons_zero, List.set_cons_succ])
          refine wpAnyH_take (i := 14) (oi := oqo14) (v := ?_) rfl (by kernel_rfl) (by kernel_rfl) (by kernel_rfl) (fun _ _ _ h => h) (Or.inl ⟨by rfl, ?_⟩) (by assumption) ?_
          rotate_left
          · (intro w hSw; (try dsimp only at hSw); (try dsimp only [oqo14]); go_simp; try (with_reducible rfl))
          (try simp only [Act.put, List.setIfInBounds_toArray, List.set_cons_zero, List.set_cons_succ])
          refine wpAnyH_ready (rs := [1, 15]) (by kernel_rfl) (by simp) ?_
          refine (AllReadyH.cons (o := oqo1) rfl (fun K hK => ?_) (AllReadyH.cons (o := oqo15) rfl (fun K hK => ?_) AllReadyH.nil))
          · rw [if_pos (by rfl)]
            refine wp_load_isN _ _ rfl ⟨b5, 1, none⟩ rfl v (by first | exact LDF.out _ K7.out | exact LDF.out _ K6.out | exact LDF.out _ K5.out | exact LDF.out _ (K7.out.alloc K7.out.size _)) ?_
            refine hK.out _ _ ?_ (fun hHeld => ?_)
            · exact trivial
            clear hK K
            (try simp only [Act.put, List.setIfInBounds_toArray, List.set_cons_zero, List.set_cons_succ])
            refine wpAnyH_ready (rs := [15]) (by kernel_rfl) (by simp) ?_
            refine AllReadyH.cons (o := oqo15) rfl (fun K hK => ?_) AllReadyH.nil
            rw [if_pos (by rfl)]
            dsimp only [oqo15]
            go_simp
            refine hK.out _ _ ?_ (fun hHeld => ?_)
            · exact trivial
            clear hK K
            (try simp only [Act.put, List.setIfInBounds_toArray, List.set_cons_zero, List.set_cons_succ])
            refine wpAnyH_ready (rs := [16]) (by kernel_rfl) (by simp) ?_
            refine AllReadyH.cons (o := oqo16) rfl (fun K hK => ?_) AllReadyH.nil
            have K8 : Hid (Below wr.heap.size wr (w7.alloc (.cells #[.int .u32 (x : Int), .int .u32 (y : Int)] 64))) := Lib.hid (K7.out.alloc K7.out.size _)
            obtain ⟨g, cap, w9, hap, hown, hb9, hk9⟩ := run_append_row (w7.alloc (.cells #[.int .u32 (x : Int), .int .u32 (y : Int)] 64)) w.heap.size w7.heap.size x y v (rowsOf L j) (by rw [rowsOf_len]; exact own_keepN HO.out K8.out) (heap_alloc_new w7 _) (by rw [rowsOf_len]; omega) (Nat.le_trans HB.out.size K8.out.size)
            rw [rowsOf_len] at hap
            rw [if_pos (by rfl)]
            refine wp_append_isN _ _ _ rfl _ _ rfl rfl (hap _) ?_
            have B9 : Hid (Below w.heap.size w w9) := Lib.hid ((HB.out.trans (K8.out.mono HB.out.size)).trans hb9)
            have Z9 : Hid (Blk w9 w.heap.size 45 [.int .u32 0, .slice none 0 0] ∧ Blk w9 b5 45 [.int .u32 (ep : Int), v]) := Lib.hid ⟨hk9 _ _ _ (by decide) (HZ.out.1.keep K8.out), hk9 _ _ _ (by decide) (HZ.out.2.keep K8.out)⟩
            have O9 := Lib.hid hown
            clear hap hown hb9 hk9
            refine hK.out _ _ ?_ (fun hHeld => ?_)
            · exact trivial
            clear hK K
            (try simp only [Act.put, List.setIfInBounds_toArray, List.set_cons_zero, List.set_cons_succ])
            refine wpAnyH_take (i := 17) (oi := oqo17) (v := ?_) rfl (by kernel_rfl) (by kernel_rfl) (by kernel_rfl) (fun _ _ _ h => h) (Or.inl ⟨by rfl, ?_⟩) (by assumption) ?_
            rotate_left
            · (intro w hSw; (try dsimp only at hSw); (try dsimp only [oqo17]); go_simp; try (with_reducible rfl))
            (try simp only [Act.put, List.setIfInBounds_toArray, List.set_cons_zero, List.set_cons_succ])
            refine wpAnyH_ready (rs := [18]) (by kernel_rfl) (by simp) ?_
            refine AllReadyH.cons (o := oqo18) rfl (fun K hK => ?_) AllReadyH.nil
            rw [if_pos (by rfl)]
            have ST := run_store1 w9 b5 1 45 _ _ (.slice (some ⟨g, 0, none⟩) (j + 1) cap) 43 Z9.out.2 rfl (by kernel_rfl) rfl
            refine wp_store_isN _ _ _ rfl ⟨b5, 1, none⟩ rfl _ rfl _ ST ?_
            clear ST
            refine hK.out _ _ ?_ (fun hHeld => ?_)
            · exact trivial
            clear hK K
            (try simp only [Act.put, List.setIfInBounds_toArray, List.set_cons_zero, List.set_cons_succ])
            refine wpAnyH_done (by kernel_rfl) ?_ _
            refine NoPanic.normal ?_
            clear K5 K6 K7 K8 LDF
            go_wp2_with fail
            go_roundw
            case rel => exact ⟨j + 1, .slice (some ⟨g, 0, none⟩) (j + 1) cap, by go_num, by omega, Lib.hid (by
              have h := O9.out
              rw [HNX.out] at h
              rw [rowsOf_len, rowsOf_len] at h
              exact own_setN h Z9.out.2 (by decide) _ _), Lib.hid ⟨Z9.out.1.far (show w.heap.size ≠ b5 by have := HB5.out; omega) _, Z9.out.2.set_ 1 _⟩, Lib.hid (B9.out.setCell (p := ⟨b5, 1, none⟩) (by show w.heap.size ≤ b5; have := HB5.out; omega) _)⟩
            case measure => simp [intOf]; omega
          · rw [if_pos (by rfl)]
            dsimp only [oqo15]
            go_simp
            refine hK.out _ _ ?_ (fun hHeld => ?_)
            · exact trivial
            clear hK K
            (try simp only [Act.put, List.setIfInBounds_toArray, List.set_cons_zero, List.set_cons_succ])
            refine wpAnyH_ready (rs := [1]) (by kernel_rfl) (by simp) ?_
            refine AllReadyH.cons (o := oqo1) rfl (fun K hK => ?_) AllReadyH.nil
            rw [if_pos (by rfl)]
            refine wp_load_isN _ _ rfl ⟨b5, 1, none⟩ rfl v (by first | exact LDF.out _ K7.out | exact LDF.out _ K6.out | exact LDF.out _ K5.out | exact LDF.out _ (K7.out.alloc K7.out.size _)) ?_
            refine hK.out _ _ ?_ (fun hHeld => ?_)
            · exact trivial
            clear hK K
            (try simp only [Act.put, List.setIfInBounds_toArray, List.set_cons_zero, List.set_cons_succ])
            refine wpAnyH_ready (rs := [16]) (by kernel_rfl) (by simp) ?_
            refine AllReadyH.cons (o := oqo16) rfl (fun K hK => ?_) AllReadyH.nil
            have K8 : Hid (Below wr.heap.size wr (w7.alloc (.cells #[.int .u32 (x : Int), .int .u32 (y : Int)] 64))) := Lib.hid (K7.out.alloc K7.out.size _)
            obtain ⟨g, cap, w9, hap, hown, hb9, hk9⟩ := run_append_row (w7.alloc (.cells #[.int .u32 (x : Int), .int .u32 (y : Int)] 64)) w.heap.size w7.heap.size x y v (rowsOf L j) (by rw [rowsOf_len]; exact own_keepN HO.out K8.out) (heap_alloc_new w7 _) (by rw [rowsOf_len]; omega) (Nat.le_trans HB.out.size K8.out.size)
            rw [rowsOf_len] at hap
            rw [if_pos (by rfl)]
            refine wp_append_isN _ _ _ rfl _ _ rfl rfl (hap _) ?_
            have B9 : Hid (Below w.heap.size w w9) := Lib.hid ((HB.out.trans (K8.out.mono HB.out.size)).trans hb9)
            have Z9 : Hid (Blk w9 w.heap.size 45 [.int .u32 0, .slice none 0 0] ∧ Blk w9 b5 45 [.int .u32 (ep : Int), v]) := Lib.hid ⟨hk9 _ _ _ (by decide) (HZ.out.1.keep K8.out), hk9 _ _ _ (by decide) (HZ.out.2.keep K8.out)⟩
            have O9 := Lib.hid hown
            clear hap hown hb9 hk9
            refine hK.out _ _ ?_ (fun hHeld => ?_)
            · exact trivial
            clear hK K
            (try simp only [Act.put, List.setIfInBounds_toArray, List.set_cons_zero, List.set_cons_succ])
            refine wpAnyH_take (i := 17) (oi := oqo17) (v := ?_) rfl (by kernel_rfl) (by kernel_rfl) (by kernel_rfl) (fun _ _ _ h => h) (Or.inl ⟨by rfl, ?_⟩) (by assumption) ?_
            rotate_left
            · (intro w hSw; (try dsimp only at hSw); (try dsimp only [oqo17]); go_simp; try (with_reducible rfl))
            (try simp only [Act.put, List.setIfInBounds_toArray, List.set_cons_zero, List.set_cons_succ])
            refine wpAnyH_ready (rs := [18]) (by kernel_rfl) (by simp) ?_
            refine AllReadyH.cons (o := oqo18) rfl (fun K hK => ?_) AllReadyH.nil
            rw [if_pos (by rfl)]
            have ST := run_store1 w9 b5 1 45 _ _ (.slice (some ⟨g, 0, none⟩) (j + 1) cap) 43 Z9.out.2 rfl (by kernel_rfl) rfl
            refine wp_store_isN _ _ _ rfl ⟨b5, 1, none⟩ rfl _ rfl _ ST ?_
            clear ST
            refine hK.out _ _ ?_ (fun hHeld => ?_)
            · exact trivial
            clear hK K
            (try simp only [Act.put, List.setIfInBounds_toArray, List.set_cons_zero, List.set_cons_succ])
            refine wpAnyH_done (by kernel_rfl) ?_ _
            refine NoPanic.normal ?_
            clear K5 K6 K7 K8 LDF
            go_wp2_with fail
            go_roundw
            case rel => exact ⟨j + 1, .slice (some ⟨g, 0, none⟩) (j + 1) cap, by go_num, by omega, Lib.hid (by
              have h := O9.out
              rw [HNX.out] at h
              rw [rowsOf_len, rowsOf_len] at h
              exact own_setN h Z9.out.2 (by decide) _ _), Lib.hid ⟨Z9.out.1.far (show w.heap.size ≠ b5 by have := HB5.out; omega) _, Z9.out.2.set_ 1 _⟩, Lib.hid (B9.out.setCell (p := ⟨b5, 1, none⟩) (by show w.heap.size ≤ b5; have := HB5.out; omega) _)⟩
            case measure => simp [intOf]; omega
    · have hjm : j = m := by omega
      subst hjm
      have hdec : decide ((j : Int) < (j : Int)) = false := decide_eq_false (by omega)
      have HO2 : Hid (wr.ownsRow w.heap.size 64 2 v (rowsOf L j).length (rowsV (rowsOf L j))) := Lib.hid (by rw [rowsOf_len]; exact HO.out)
      obtain ⟨A', c', hv, hc1, hc2, hR2⟩ := Rws.of_own HO2.out (fun i _ => rowsOf_small L j (by have := HSL.out.1; omega) i)
      have HRR := Lib.hid hR2
      rw [rowsOf_len] at HRR hv hc1
      subst hv
      have HMY := Lib.hid (newsr_May ep A' j c' (rowsOf L j) wr HRR.out hc1 hc2)
      have g0 := HZ.out.2.cell 0
      have g1 := HZ.out.2.cell 1
      dsimp only [List.getElem?_cons_zero, List.getElem?_cons_succ] at g0 g1
      clear hR2 HO HO2
      by_cases hmy : MayP (rowsOf L j)
      · rw [decide_eq_true hmy] at HMY
        have HTU : Hid (U = ((ep, rowsOf L j), 0)) := Lib.hid (by rw [HT.out, if_pos hmy])
        clear hmy HT
        go_wp2_with fail
        clear g0 g1
        refine HMY.out.mono ?_
        rintro e w5 ⟨rfl, p5⟩
        have Z5 := Lib.hid (HZ.out.2.keep p5)
        have Y5 := Lib.hid (HZ.out.1.keep p5)
        have R5 := Lib.hid (HRR.out.keep p5)
        have B5 := Lib.hid (HB.out.trans (p5.mono HB.out.size))
        have g0 := Z5.out.cell 0
        have g1 := Z5.out.cell 1
        have h0 := Y5.out.cell 0
        have h1 := Y5.out.cell 1
        have f0 := Y5.out.frozen 0
        have f1 := Y5.out.frozen 1
        dsimp only [List.getElem?_cons_zero, List.getElem?_cons_succ] at g0 g1 h0 h1
        clear p5 HMY
        go_wp2_with fail
        have GP := (Y5.out.set_ 0 (.int .u32 (ep : Int))).set_ 1 (.slice A' j c')
        have d0 := GP.cell 0
        have d1 := GP.cell 1
        dsimp only [List.getElem?_cons_zero, List.getElem?_cons_succ, List.set_cons_zero, List.set_cons_succ] at d0 d1
        refine bodyPost_ret (v := .tuple #[.agg #[.int .u32 (ep : Int), .slice A' j c'], .int .i64 0]) (by simp [results, Try.results15, go_sem, d0, d1]) rfl ⟨?_, ?_⟩
        · rw [HTU.out]
          exact ⟨A', j, c', rfl, (R5.out.far2 Y5.out 0 _).far2 (Y5.out.set_ 0 (.int .u32 (ep : Int))) 1 _, hc1, hc2⟩
        · exact (B5.out.setCell (p := ⟨w.heap.size, 0, none⟩) (Nat.le_refl _) _).setCell (p := ⟨w.heap.size, 1, none⟩) (Nat.le_refl _) _
      · rw [decide_eq_false hmy] at HMY
        have HTU : Hid (U = ((0, []), 4)) := Lib.hid (by rw [HT.out, if_neg hmy])
        clear hmy HT
        go_wp2_with fail
        clear g0 g1
        refine HMY.out.mono ?_
        rintro e w5 ⟨rfl, p5⟩
        have Y5 := Lib.hid (HZ.out.1.keep p5)
        have B5 := Lib.hid (HB.out.trans (p5.mono HB.out.size))
        have h0 := Y5.out.cell 0
        have h1 := Y5.out.cell 1
        have f0 := Y5.out.frozen 0
        have f1 := Y5.out.frozen 1
        dsimp only [List.getElem?_cons_zero, List.getElem?_cons_succ] at h0 h1
        clear p5 HMY
        go_wp2_with fail
        have GP := (Y5.out.set_ 0 (.int .u32 0)).set_ 1 (.slice none 0 0)
        have d0 := GP.cell 0
        have d1 := GP.cell 1
        dsimp only [List.getElem?_cons_zero, List.getElem?_cons_succ, List.set_cons_zero, List.set_cons_succ] at d0 d1
        refine bodyPost_ret (v := .tuple #[rpZ, .int .i64 4]) (by simp [results, Try.results15, go_sem, rpZ, d0, d1]) rfl ⟨?_, ?_⟩
        · rw [HTU.out]
          exact RpPostC.none _ 4
        · exact (B5.out.setCell (p := ⟨w.heap.size, 0, none⟩) (Nat.le_refl _) _).setCell (p := ⟨w.heap.size, 1, none⟩) (Nat.le_refl _) _

theorem newsr_OpenReport (l : List UInt8) (w : World) (hl : l.length ≤ 1000000) :
    Calls Try.prog 15 #[.string (bs l)] w fun e w' => RpPostC (orpT l) e w' ∧ Below w.heap.size w w' := by
  cases l with
  | nil =>
    refine (newsr_OpenReport_none w).mono ?_
    rintro e w' ⟨rfl, hb⟩
    exact ⟨RpPostC.none _ 10, hb⟩
  | cons x l =>
    by_cases hx : x = 72
    · subst hx
      by_cases h7 : (72 :: l).length < 7
      · rw [orpT_short l _ rfl h7]
        refine (newsr_OpenReport_short l _ w rfl h7).mono ?_
        rintro e w' ⟨rfl, hb⟩
        exact ⟨RpPostC.none _ 10, hb⟩
      · obtain ⟨m, hm⟩ : ∃ m, m = beV (((72 :: l).drop 5).take 2) := ⟨_, rfl⟩
        by_cases hs : (72 :: l).length = 7 + 8 * m
        · exact newsr_OpenReport_ok l _ m w rfl hl hm hs
        · refine (newsr_OpenReport_cut l _ m w rfl (by omega) hl hm hs).mono ?_
          rintro e w' ⟨rfl, hb⟩
          refine ⟨?_, hb⟩
          by_cases hlt : (72 :: l).length < 7 + 8 * m
          · rw [orpT_cut l _ m rfl (by omega) hm hlt, if_pos hlt]
            exact RpPostC.none _ 10
          · rw [orpT_long l _ m rfl (by omega) hm (by omega), if_neg hlt]
            exact RpPostC.none _ 11
    · rw [orpT_form x l hx]
      refine (newsr_OpenReport_form x l _ w rfl hx hl).mono ?_
      rintro e w' ⟨rfl, hb⟩
      exact ⟨RpPostC.none _ 4, hb⟩
theorem orpT_few (l : List UInt8) : (orpT l).1.2.length ≤ 256 := by
  unfold orpT
  split
  · split
    · rename_i h; exact h.2.1
    · exact Nat.zero_le _
  · exact Nat.zero_le _

end Go.Proofs.Ytackddgihdnmgaa
