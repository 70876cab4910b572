/- OpenRound; the document's num, get, CloseRound, OpenRound. Written by wip/tools/gen_news.py. -/
import Derived.Test.YtackddgihdnmgaaNewsD
import Derived.Deep.MidRow
namespace Go.Proofs.Ytackddgihdnmgaa
open Go.RowKit
set_option maxRecDepth 100000

abbrev or9o0 : Oper := { dst := some 20, op := Op.move (Operand.tmp 0), type := 9, pos := "ref.go:53", after := #[], guard := none }
abbrev or9o1 : Oper := { dst := some 21, op := Op.call { callee := Callee.value (Operand.func 20), args := #[Operand.tmp 20, Operand.const (Value.int IntKind.i64 1), Operand.const (Value.int IntKind.i64 8)], argTypes := #[9, 3, 3] }, type := 22, pos := "ref.go:53", after := #[{ on := 0, ground := Ground.data }], guard := none }
abbrev or9o2 : Oper := { dst := some 22, op := Op.move (Operand.tmp 0), type := 9, pos := "ref.go:53", after := #[], guard := none }
abbrev or9o3 : Oper := { dst := some 23, op := Op.call { callee := Callee.value (Operand.func 20), args := #[Operand.tmp 22, Operand.const (Value.int IntKind.i64 9), Operand.const (Value.int IntKind.i64 4)], argTypes := #[9, 3, 3] }, type := 22, pos := "ref.go:53", after := #[{ on := 2, ground := Ground.data }, { on := 1, ground := Ground.chain }], guard := none }
abbrev or9o4 : Oper := { dst := some 24, op := Op.convert 22 23 (Operand.tmp 23), type := 23, pos := "ref.go:53", after := #[{ on := 3, ground := Ground.data }], guard := none }
abbrev or9o5 : Oper := { dst := some 25, op := Op.move (Operand.tmp 0), type := 9, pos := "ref.go:53", after := #[], guard := none }
abbrev or9o6 : Oper := { dst := some 26, op := Op.index 9 (Operand.tmp 25) (Operand.const (Value.int IntKind.i64 13)), type := 5, pos := "ref.go:53", after := #[{ on := 5, ground := Ground.data }], guard := none }
abbrev or9o7 : Oper := { dst := some 27, op := Op.build 30 #[(0, Operand.tmp 21), (1, Operand.tmp 24), (2, Operand.tmp 26)], type := 30, pos := "ref.go:53", after := #[{ on := 1, ground := Ground.data }, { on := 4, ground := Ground.data }, { on := 6, ground := Ground.data }], guard := none }
abbrev or9o8 : Oper := { dst := none, op := Op.store 30 (Operand.tmp 2) (Operand.tmp 27), type := 0, pos := "ref.go:53", after := #[{ on := 7, ground := Ground.data }, { on := 3, ground := Ground.chain }, { on := 0, ground := Ground.phase }, { on := 1, ground := Ground.phase }, { on := 2, ground := Ground.phase }, { on := 3, ground := Ground.phase }, { on := 4, ground := Ground.phase }, { on := 5, ground := Ground.phase }, { on := 6, ground := Ground.phase }, { on := 7, ground := Ground.phase }], guard := none }
abbrev or9o9 : Oper := { dst := some 3, op := Op.assign (Operand.const (Value.int IntKind.i64 0)), type := 3, pos := "ref.go:53", after := #[{ on := 8, ground := Ground.chain }, { on := 0, ground := Ground.phase }, { on := 1, ground := Ground.phase }, { on := 2, ground := Ground.phase }, { on := 3, ground := Ground.phase }, { on := 4, ground := Ground.phase }, { on := 5, ground := Ground.phase }, { on := 6, ground := Ground.phase }, { on := 7, ground := Ground.phase }, { on := 8, ground := Ground.phase }], guard := none }
abbrev cr1o0 : Oper := { dst := some 3, op := Op.fieldAddr 30 (Operand.tmp 1) 0, type := 0, pos := "ref.go:36", after := #[], guard := none }
abbrev cr1o1 : Oper := { dst := some 4, op := Op.load 22 (Operand.tmp 3), type := 22, pos := "ref.go:36", after := #[{ on := 0, ground := Ground.data }], guard := none }
abbrev cr1o2 : Oper := { dst := some 5, op := Op.call { callee := Callee.value (Operand.func 22), args := #[Operand.tmp 4, Operand.const (Value.int IntKind.i64 8)], argTypes := #[22, 3] }, type := 9, pos := "ref.go:36", after := #[{ on := 1, ground := Ground.data }], guard := none }
abbrev cr1o3 : Oper := { dst := some 6, op := Op.binOp BinOp.add 9 (Operand.const (Value.string { data := #[82] })) (Operand.tmp 5) 9, type := 9, pos := "ref.go:36", after := #[{ on := 2, ground := Ground.data }], guard := none }
abbrev cr1o4 : Oper := { dst := some 7, op := Op.fieldAddr 30 (Operand.tmp 1) 1, type := 0, pos := "ref.go:36", after := #[], guard := none }
abbrev cr1o5 : Oper := { dst := some 8, op := Op.load 23 (Operand.tmp 7), type := 23, pos := "ref.go:36", after := #[{ on := 4, ground := Ground.data }], guard := none }
abbrev cr1o6 : Oper := { dst := some 9, op := Op.convert 23 22 (Operand.tmp 8), type := 22, pos := "ref.go:36", after := #[{ on := 5, ground := Ground.data }], guard := none }
abbrev cr1o7 : Oper := { dst := some 10, op := Op.call { callee := Callee.value (Operand.func 22), args := #[Operand.tmp 9, Operand.const (Value.int IntKind.i64 4)], argTypes := #[22, 3] }, type := 9, pos := "ref.go:36", after := #[{ on := 6, ground := Ground.data }, { on := 2, ground := Ground.chain }], guard := none }
abbrev cr1o8 : Oper := { dst := some 11, op := Op.binOp BinOp.add 9 (Operand.tmp 6) (Operand.tmp 10) 9, type := 9, pos := "ref.go:36", after := #[{ on := 3, ground := Ground.data }, { on := 7, ground := Ground.data }], guard := none }
abbrev cr1o9 : Oper := { dst := some 12, op := Op.fieldAddr 30 (Operand.tmp 1) 2, type := 0, pos := "ref.go:36", after := #[], guard := none }
abbrev cr1o10 : Oper := { dst := some 13, op := Op.load 5 (Operand.tmp 12), type := 5, pos := "ref.go:36", after := #[{ on := 9, ground := Ground.data }], guard := none }
abbrev cr1o11 : Oper := { dst := some 14, op := Op.convert 5 22 (Operand.tmp 13), type := 22, pos := "ref.go:36", after := #[{ on := 10, ground := Ground.data }], guard := none }
abbrev cr1o12 : Oper := { dst := some 15, op := Op.call { callee := Callee.value (Operand.func 22), args := #[Operand.tmp 14, Operand.const (Value.int IntKind.i64 1)], argTypes := #[22, 3] }, type := 9, pos := "ref.go:36", after := #[{ on := 11, ground := Ground.data }, { on := 7, ground := Ground.chain }], guard := none }
abbrev cr1o13 : Oper := { dst := some 16, op := Op.binOp BinOp.add 9 (Operand.tmp 11) (Operand.tmp 15) 9, type := 9, pos := "ref.go:36", after := #[{ on := 8, ground := Ground.data }, { on := 12, ground := Ground.data }], guard := none }
abbrev cr1o14 : Oper := { dst := some 2, op := Op.assign (Operand.tmp 16), type := 9, pos := "ref.go:36", after := #[{ on := 13, ground := Ground.data }, { on := 12, ground := Ground.chain }, { on := 0, ground := Ground.phase }, { on := 1, ground := Ground.phase }, { on := 2, ground := Ground.phase }, { on := 3, ground := Ground.phase }, { on := 4, ground := Ground.phase }, { on := 5, ground := Ground.phase }, { on := 6, ground := Ground.phase }, { on := 7, ground := Ground.phase }, { on := 8, ground := Ground.phase }, { on := 9, ground := Ground.phase }, { on := 10, ground := Ground.phase }, { on := 11, ground := Ground.phase }, { on := 12, ground := Ground.phase }, { on := 13, ground := Ground.phase }], guard := none }

theorem wp_store_isN {P : Program} {o : Oper} {a : Act} {w : World} {K : Act → World → Prop} {Q : Exit → Act → World → Prop} (ty : TypeId) (x y : Operand) (ho : o.op = .store ty x y)
    (ad : Addr) (hx : a.eval x = .pointer (some ad)) (v : Value) (hy : a.eval y = v) (w' : World) (hrun : (Instr.storeAt ty (.pointer (some ad)) v).run P w = .ok () w') (h : K (a.put o.dst undef) w') : o.wp P a w K Q := by
  unfold Oper.wp execOp
  simp only [ho, hx, hy, hrun, Sem.run_bind, Sem.run_pure, Result.andThen_ok]
  exact h
theorem Blk.thereN {w : World} {g t : Nat} {a b c : Value} (h : Blk w g t [a, b, c]) : w.there g 0 3 := fun j hj => by
  rw [Nat.zero_add]
  refine ⟨?_, h.frozen j⟩
  rw [h.cell j]
  match j, hj with
  | 0, _ => rfl
  | 1, _ => rfl
  | 2, _ => rfl
theorem run_store3 (w : World) (g : Nat) (T : TypeId) {a b c : Value} (a' b' c' : Value) (h : Blk w g T [a, b, c]) (hi : (Try.prog.info? T).map (·.size) = some 3) (h1 : a'.oneCell' = true) (h2 : b'.oneCell' = true) (h3 : c'.oneCell' = true) :
    (Instr.storeAt T (.pointer (some ⟨g, 0, none⟩)) (.agg #[a', b', c'])).run Try.prog w = .ok () (((w.setCell ⟨g, 0, none⟩ a').setCell ⟨g, 1, none⟩ b').setCell ⟨g, 2, none⟩ c') :=
  run_storeAt_mid w g 0 T #[a', b', c'] h.thereN hi (by simp [h1, h2, h3])

/-- What OpenRound answers: a round's numbers, and what is wrong. -/
def ordT (l : List UInt8) : (Nat × Nat × Nat) × Nat :=
  if l = [] then ((0, 0, 0), 10) else if l.head? ≠ some 82 then ((0, 0, 0), 4) else if l.length < 14 then ((0, 0, 0), 10) else if 14 < l.length then ((0, 0, 0), 11)
  else ((beV ((l.drop 1).take 8), beV ((l.drop 9).take 4), beV ((l.drop 13).take 1)), 0)
def ordV (p : Nat × Nat × Nat) : Value := .agg #[.int .u64 (p.1 : Int), .int .u32 (p.2.1 : Int), .int .u8 (p.2.2 : Int)]

theorem opR_ok (l : List UInt8) (h : 1 ≤ l.length) : opE (opR l).1 l = (if l.length < 14 then 10 else if 14 < l.length then 11 else 0) ∧
    (l.length = 14 → (opR l).2 = (beV ((l.drop 1).take 8), beV ((l.drop 9).take 4), beV ((l.drop 13).take 1))) := by
  unfold opR
  dsimp only
  by_cases h9 : l.length < 9
  · have e1 : stO l (1, 0) 0 8 = ((l.length, 10), 0) := by unfold stO; dsimp only; rw [if_neg (by omega)]; rfl
    have e2 : stO l (l.length, 10) 0 4 = ((l.length, 10), 0) := by unfold stO; dsimp only; rw [if_neg (by omega)]; rfl
    have e3 : stO l (l.length, 10) 0 1 = ((l.length, 10), 0) := by unfold stO; dsimp only; rw [if_neg (by omega)]; rfl
    rw [e1]; dsimp only; rw [e2]; dsimp only; rw [e3]; dsimp only
    refine ⟨by rw [if_pos (by omega)]; rfl, fun h => by omega⟩
  · have e1 : stO l (1, 0) 0 8 = ((9, 0), beV ((l.drop 1).take 8)) := by unfold stO; dsimp only; rw [if_pos (by omega)]
    rw [e1]; dsimp only
    by_cases h13 : l.length < 13
    · have e2 : stO l (9, 0) 0 4 = ((l.length, 10), 0) := by unfold stO; dsimp only; rw [if_neg (by omega)]; rfl
      have e3 : stO l (l.length, 10) 0 1 = ((l.length, 10), 0) := by unfold stO; dsimp only; rw [if_neg (by omega)]; rfl
      rw [e2]; dsimp only; rw [e3]; dsimp only
      refine ⟨by rw [if_pos (by omega)]; rfl, fun h => by omega⟩
    · have e2 : stO l (9, 0) 0 4 = ((13, 0), beV ((l.drop 9).take 4)) := by unfold stO; dsimp only; rw [if_pos (by omega)]
      rw [e2]; dsimp only
      by_cases h14 : l.length < 14
      · have e3 : stO l (13, 0) 0 1 = ((l.length, 10), 0) := by unfold stO; dsimp only; rw [if_neg (by omega)]; rfl
        rw [e3]; dsimp only
        refine ⟨by rw [if_pos h14]; rfl, fun h => by omega⟩
      · have e3 : stO l (13, 0) 0 1 = ((14, 0), beV ((l.drop 13).take 1)) := by unfold stO; dsimp only; rw [if_pos (by omega)]
        rw [e3]; dsimp only
        refine ⟨?_, fun _ => rfl⟩
        rw [if_neg h14]
        rfl

theorem news_openedR (l : List UInt8) (w : World) (hl : l.length ≤ 1000000) :
    Calls Try.prog 18 #[.int .u8 82, .func (.func 19) #[rdZ] #[], .string (bs l)] w fun e w' => e = .returned (.tuple #[ordV (ordT l).1, .int .i64 ((ordT l).2 : Int)]) ∧ Below w.heap.size w w' := by
  unfold ordT
  cases l with
  | nil => exact news_openedR_none w
  | cons x l =>
    rw [if_neg (by simp)]
    by_cases hx : x = 82
    · subst hx
      rw [if_neg (by simp)]
      have h := news_openedR_ok l (82 :: l) w rfl hl
      obtain ⟨h1, h2⟩ := opR_ok (82 :: l) (by simp)
      unfold opV at h
      rw [h1] at h
      by_cases a : (82 :: l).length < 14
      · rw [if_pos a] at h ⊢
        exact h
      · rw [if_neg a] at h ⊢
        by_cases b : 14 < (82 :: l).length
        · rw [if_pos b] at h ⊢
          exact h
        · rw [if_neg b] at h ⊢
          rw [h2 (by omega)] at h
          exact h
    · rw [if_pos (by simp [hx])]
      exact news_openedR_form x l w hx

set_option maxHeartbeats 2000000 in
theorem news_OpenRound (l : List UInt8) (w : World) (hl : l.length ≤ 1000000) :
    Calls Try.prog 7 #[.string (bs l)] w fun e w' => e = .returned (.tuple #[ordV (ordT l).1, .int .i64 ((ordT l).2 : Int)]) ∧ Below w.heap.size w w' := by
  have H := Lib.hid (fun W => news_openedR l W hl)
  obtain ⟨⟨⟨x1, x2, x3⟩, c⟩, hT⟩ : ∃ T, T = ordT l := ⟨_, rfl⟩
  rw [← hT] at H ⊢
  clear hT
  unfold ordV rdZ at H
  unfold ordV
  dsimp only at H ⊢
  obtain ⟨W0, hW0⟩ : ∃ W0, W0 = w.alloc (.cells #[.int .u64 0, .int .u32 0, .int .u8 0] 25) := ⟨_, rfl⟩
  have Z0 : Hid (Blk W0 w.heap.size 25 [.int .u64 0, .int .u32 0, .int .u8 0]) := Lib.hid (by rw [hW0]; exact heap_alloc_new w _)
  have B0 : Hid (Below w.heap.size w W0) := Lib.hid (by rw [hW0]; exact (Below.refl _ _).alloc (Nat.le_refl _) _)
  go_enter Try.func7, Try.ntmps7
  go_wp2_with fail
  rw [← hW0]
  clear hW0
  refine (H.out _).mono ?_
  rintro e w1 ⟨rfl, b1⟩
  have Z1 := Lib.hid (Z0.out.keep b1)
  have B1 := Lib.hid (B0.out.trans (b1.mono B0.out.size))
  obtain ⟨g0, g1, g2⟩ := Z1.out.three
  have q0 := Z1.out.frozen 0
  have q1 := Z1.out.frozen 1
  have q2 := Z1.out.frozen 2
  clear b1 Z0 B0
  go_wp2_with fail
  have GP := Z1.out.put3 (.int .u64 (x1 : Int)) (.int .u32 (x2 : Int)) (.int .u8 (x3 : Int))
  obtain ⟨d0, d1, d2⟩ := GP.three
  refine bodyPost_ret (v := .tuple #[.agg #[.int .u64 (x1 : Int), .int .u32 (x2 : Int), .int .u8 (x3 : Int)], .int .i64 (c : Int)]) (by simp [results, Try.results7, go_sem, d0, d1, d2]) rfl ⟨rfl, ?_⟩
  exact ((B1.out.setCell (p := ⟨w.heap.size, 0, none⟩) (Nat.le_refl _) _).setCell (p := ⟨w.heap.size, 1, none⟩) (Nat.le_refl _) _).setCell (p := ⟨w.heap.size, 2, none⟩) (Nat.le_refl _) _

theorem newsr_num (v n : Nat) (w : World) (h1 : 1 ≤ n) (h8 : n ≤ 8) (hf : v < 256 ^ n) (hv : v < 18446744073709551616) :
    Calls Try.prog 22 #[.int .u64 (v : Int), .int .i64 (n : Int)] w fun e w' => e = .returned (.string (bs (beL v n))) ∧ Below w.heap.size w w' := by
  have H : Hid (∀ W, Calls Try.prog 36 #[.int .u64 (v : Int), .int .i64 (n : Int)] W fun e w' => e = .returned (.tuple #[.string (bs (beL v n)), .int .i64 0]) ∧ Below W.heap.size W w') := Lib.hid (fun W => by
    have h := octr_Put v n W h1 h8 hv
    unfold putB putE at h
    rw [if_pos hf, if_pos hf] at h
    exact h)
  clear hf
  go_enter Try.func22, Try.ntmps22
  go_wp2_with fail
  refine (H.out _).mono ?_
  rintro e w1 ⟨rfl, hb1⟩
  go_wp2_with fail
  go_ret
  exact ⟨rfl, hb1⟩

theorem newsr_get (l : List UInt8) (a n : Nat) (w : World) (h1 : 1 ≤ n) (h8 : n ≤ 8) (ha : a + n ≤ l.length) (hl : l.length ≤ 1000000) :
    Calls Try.prog 20 #[.string (bs l), .int .i64 (a : Int), .int .i64 (n : Int)] w fun e w' => e = .returned (.int .u64 ((beV ((l.drop a).take n) : Nat) : Int)) ∧ Below w.heap.size w w' := by
  obtain ⟨T, hT⟩ : ∃ T, T = l.drop a := ⟨_, rfl⟩
  have H := Lib.hid (fun W => octr_Take_ok T n W h1 h8 (by rw [hT, List.length_drop]; omega) (by rw [hT, List.length_drop]; omega))
  rw [← hT]
  obtain ⟨x, hx⟩ : ∃ x, x = beV (T.take n) := ⟨_, rfl⟩
  rw [← hx] at H ⊢
  have hsl := fun W => run_str_fromN l T a W (by omega) hT.symm
  clear hx hT
  go_enter Try.func20, Try.ntmps20
  go_wp2_with fail
  refine (H.out _).mono ?_
  rintro e w1 ⟨rfl, hb1⟩
  go_wp2_with fail
  go_ret
  exact ⟨rfl, hb1⟩

set_option maxHeartbeats 4000000 in
theorem newsr_CloseRound (a b c : Nat) (w : World) (ha : a < 18446744073709551616) (hb : b < 4294967296) (hc : c < 256) :
    Calls Try.prog 10 #[.agg #[.int .u64 (a : Int), .int .u32 (b : Int), .int .u8 (c : Int)]] w fun e w' => e = .returned (.string (bs (rdL a b c))) ∧ Below w.heap.size w w' := by
  have e8 : (256 : Nat) ^ 8 = 18446744073709551616 := by decide
  have e4 : (256 : Nat) ^ 4 = 4294967296 := by decide
  have e1 : (256 : Nat) ^ 1 = 256 := by decide
  have HN1 := Lib.hid (fun W => newsr_num a 8 W (by decide) (by decide) (by omega) ha)
  have HN2 := Lib.hid (fun W => newsr_num b 4 W (by decide) (by decide) (by omega) (by omega))
  have HN3 := Lib.hid (fun W => newsr_num c 1 W (by decide) (by decide) (by omega) (by omega))
  have wb : IntKind.u64.wrap (b : Int) = (b : Int) := IntWalk.u64_in _ (by omega)
  have wc : IntKind.u64.wrap (c : Int) = (c : Int) := IntWalk.u64_in _ (by omega)
  obtain ⟨X1, hX1⟩ : ∃ X, X = beL a 8 := ⟨_, rfl⟩
  obtain ⟨X2, hX2⟩ : ∃ X, X = beL b 4 := ⟨_, rfl⟩
  obtain ⟨X3, hX3⟩ : ∃ X, X = beL c 1 := ⟨_, rfl⟩
  have HR : Hid (rdL a b c = (([82] ++ X1) ++ X2) ++ X3) := Lib.hid (by rw [hX1, hX2, hX3]; rfl)
  rw [← hX1] at HN1
  rw [← hX2] at HN2
  rw [← hX3] at HN3
  have s1 : X1.length = 8 := by rw [hX1, beL_len]
  have s2 : X2.length = 4 := by rw [hX2, beL_len]
  have s3 : X3.length = 1 := by rw [hX3, beL_len]
  have A1 : ∀ W, (Op.stringOp .add ⟨#[82]⟩ (bs X1)).run Try.prog W = .ok (.string (bs ([82] ++ X1))) W := fun W => by
    rw [← bs_append]; exact run_string_add_sum W _ _ (by rw [bs_size, s1]; decide)
  have A2 : ∀ W, (Op.stringOp .add (bs ([82] ++ X1)) (bs X2)).run Try.prog W = .ok (.string (bs (([82] ++ X1) ++ X2))) W := fun W => by
    rw [← bs_append ([82] ++ X1)]; exact run_string_add_sum W _ _ (by rw [bs_size, bs_size, List.length_append, s1, s2]; decide)
  have A3 : ∀ W, (Op.stringOp .add (bs (([82] ++ X1) ++ X2)) (bs X3)).run Try.prog W = .ok (.string (bs ((([82] ++ X1) ++ X2) ++ X3))) W := fun W => by
    rw [← bs_append (([82] ++ X1) ++ X2)]; exact run_string_add_sum W _ _ (by rw [bs_size, bs_size, List.length_append, List.length_append, s1, s2, s3]; decide)
  obtain ⟨Y1, hY1⟩ : ∃ Y, Y = [82] ++ X1 := ⟨_, rfl⟩
  rw [← hY1] at A1 A2 A3 HR
  obtain ⟨Y2, hY2⟩ : ∃ Y, Y = Y1 ++ X2 := ⟨_, rfl⟩
  rw [← hY2] at A2 A3 HR
  obtain ⟨Y3, hY3⟩ : ∃ Y, Y = Y2 ++ X3 := ⟨_, rfl⟩
  rw [← hY3] at A3 HR
  rw [HR.out]
  obtain ⟨W0, hW0⟩ : ∃ W0, W0 = w.alloc (.cells #[.int .u64 (a : Int), .int .u32 (b : Int), .int .u8 (c : Int)] 30) := ⟨_, rfl⟩
  have Z0 : Hid (Blk W0 w.heap.size 30 [.int .u64 (a : Int), .int .u32 (b : Int), .int .u8 (c : Int)]) := Lib.hid (by rw [hW0]; exact heap_alloc_new w _)
  have B0 : Hid (Below w.heap.size w W0) := Lib.hid (by rw [hW0]; exact (Below.refl _ _).alloc (Nat.le_refl _) _)
  have HC : Hid (∀ w', Below W0.heap.size W0 w' → w'.cell? ⟨w.heap.size, 0, none⟩ = some (.int .u64 (a : Int)) ∧ w'.cell? ⟨w.heap.size, 1, none⟩ = some (.int .u32 (b : Int)) ∧ w'.cell? ⟨w.heap.size, 2, none⟩ = some (.int .u8 (c : Int))) := Lib.hid (fun w' hb => (Z0.out.keep hb).three)
  have K0 : Hid (Below W0.heap.size W0 W0.drew) := Lib.hid (Below.refl _ _).drew
  clear hX1 hX2 hX3 s1 s2 s3 hY1 hY2 hY3 HR ha hb hc e8 e4 e1
  go_enter Try.func10, Try.ntmps10
  go_upto_region 1 with fail
  refine wp_world hW0 ?_
  clear hW0
  refine wp_region_noPanic ?_
  refine wp_region_held_drew (S := fun w' => w'.cell? ⟨w.heap.size, 0, none⟩ = some (.int .u64 (a : Int)) ∧ w'.cell? ⟨w.heap.size, 1, none⟩ = some (.int .u32 (b : Int)) ∧ w'.cell? ⟨w.heap.size, 2, none⟩ = some (.int .u8 (c : Int))) (by kernel_rfl) ?_ (fun hHeld => ?_)
  · exact HC.out _ K0.out
  refine wpAnyH_take (i := 0) (oi := cr1o0) (v := ?_) rfl (by kernel_rfl) (by kernel_rfl) (by kernel_rfl) (fun _ _ _ h => h) (Or.inl ⟨by rfl, ?_⟩) (by assumption) ?_
  rotate_left
  · (intro w hSw; (try dsimp only at hSw); obtain ⟨c0, c1, c2⟩ := hSw; (try dsimp only [cr1o0]); go_simp; try (with_reducible rfl))
  (try simp only [Act.put, List.setIfInBounds_toArray, List.set_cons_zero, List.set_cons_succ])
  refine wpAnyH_take (i := 1) (oi := cr1o1) (v := ?_) rfl (by kernel_rfl) (by kernel_rfl) (by kernel_rfl) (fun _ _ _ h => h) (Or.inl ⟨by rfl, ?_⟩) (by assumption) ?_
  rotate_left
  · (intro w hSw; (try dsimp only at hSw); obtain ⟨c0, c1, c2⟩ := hSw; (try dsimp only [cr1o1]); go_simp; try (with_reducible rfl))
  (try simp only [Act.put, List.setIfInBounds_toArray, List.set_cons_zero, List.set_cons_succ])
  refine wpAnyH_take (i := 4) (oi := cr1o4) (v := ?_) rfl (by kernel_rfl) (by kernel_rfl) (by kernel_rfl) (fun _ _ _ h => h) (Or.inl ⟨by rfl, ?_⟩) (by assumption) ?_
  rotate_left
  · (intro w hSw; (try dsimp only at hSw); obtain ⟨c0, c1, c2⟩ := hSw; (try dsimp only [cr1o4]); go_simp; try (with_reducible rfl))
  (try simp only [Act.put, List.setIfInBounds_toArray, List.set_cons_zero, List.set_cons_succ])
  refine wpAnyH_take (i := 5) (oi := cr1o5) (v := ?_) rfl (by kernel_rfl) (by kernel_rfl) (by kernel_rfl) (fun _ _ _ h => h) (Or.inl ⟨by rfl, ?_⟩) (by assumption) ?_
  rotate_left
  · (intro w hSw; (try dsimp only at hSw); obtain ⟨c0, c1, c2⟩ := hSw; (try dsimp only [cr1o5]); go_simp; try (with_reducible rfl))
  (try simp only [Act.put, List.setIfInBounds_toArray, List.set_cons_zero, List.set_cons_succ])
  refine wpAnyH_take (i := 6) (oi := cr1o6) (v := ?_) rfl (by kernel_rfl) (by kernel_rfl) (by kernel_rfl) (fun _ _ _ h => h) (Or.inl ⟨by rfl, ?_⟩) (by assumption) ?_
  rotate_left
  · (intro w hSw; (try dsimp only at hSw); obtain ⟨c0, c1, c2⟩ := hSw; (try dsimp only [cr1o6]); go_simp; try (with_reducible rfl))
  (try simp only [Act.put, List.setIfInBounds_toArray, List.set_cons_zero, List.set_cons_succ])
  refine wpAnyH_take (i := 9) (oi := cr1o9) (v := ?_) rfl (by kernel_rfl) (by kernel_rfl) (by kernel_rfl) (fun _ _ _ h => h) (Or.inl ⟨by rfl, ?_⟩) (by assumption) ?_
  rotate_left
  · (intro w hSw; (try dsimp only at hSw); obtain ⟨c0, c1, c2⟩ := hSw; (try dsimp only [cr1o9]); go_simp; try (with_reducible rfl))
  (try simp only [Act.put, List.setIfInBounds_toArray, List.set_cons_zero, List.set_cons_succ])
  refine wpAnyH_take (i := 10) (oi := cr1o10) (v := ?_) rfl (by kernel_rfl) (by kernel_rfl) (by kernel_rfl) (fun _ _ _ h => h) (Or.inl ⟨by rfl, ?_⟩) (by assumption) ?_
  rotate_left
  · (intro w hSw; (try dsimp only at hSw); obtain ⟨c0, c1, c2⟩ := hSw; (try dsimp only [cr1o10]); go_simp; try (with_reducible rfl))
  (try simp only [Act.put, List.setIfInBounds_toArray, List.set_cons_zero, List.set_cons_succ])
  refine wpAnyH_take (i := 11) (oi := cr1o11) (v := ?_) rfl (by kernel_rfl) (by kernel_rfl) (by kernel_rfl) (fun _ _ _ h => h) (Or.inl ⟨by rfl, ?_⟩) (by assumption) ?_
  rotate_left
  · (intro w hSw; (try dsimp only at hSw); obtain ⟨c0, c1, c2⟩ := hSw; (try dsimp only [cr1o11]); go_simp; try (with_reducible rfl))
  (try simp only [Act.put, List.setIfInBounds_toArray, List.set_cons_zero, List.set_cons_succ])
  refine wpAnyH_ready (rs := [2]) (by kernel_rfl) (by simp) ?_
  refine AllReadyH.cons (o := cr1o2) rfl (fun K hK => ?_) AllReadyH.nil
  dsimp only [cr1o2]
  go_simp
  refine (HN1.out _).mono ?_
  rintro e w1 ⟨rfl, b1⟩
  have K1 := Lib.hid (K0.out.trans (b1.mono K0.out.size))
  clear b1
  (try go_wp2_with fail)
  refine hK.out _ _ ?_ (fun hHeld => ?_)
  · exact HC.out _ K1.out
  clear hK K
  (try simp only [Act.put, List.setIfInBounds_toArray, List.set_cons_zero, List.set_cons_succ])
  refine wpAnyH_take (i := 3) (oi := cr1o3) (v := ?_) rfl (by kernel_rfl) (by kernel_rfl) (by kernel_rfl) (fun _ _ _ h => h) (Or.inl ⟨by rfl, ?_⟩) (by assumption) ?_
  rotate_left
  · (intro w hSw; (try dsimp only at hSw); obtain ⟨c0, c1, c2⟩ := hSw; (try dsimp only [cr1o3]); go_simp; try (with_reducible rfl))
  (try simp only [Act.put, List.setIfInBounds_toArray, List.set_cons_zero, List.set_cons_succ])
  refine wpAnyH_ready (rs := [7]) (by kernel_rfl) (by simp) ?_
  refine AllReadyH.cons (o := cr1o7) rfl (fun K hK => ?_) AllReadyH.nil
  dsimp only [cr1o7]
  go_simp
  refine (HN2.out _).mono ?_
  rintro e w2 ⟨rfl, b2⟩
  have K2 := Lib.hid (K1.out.trans (b2.mono K1.out.size))
  clear b2
  (try go_wp2_with fail)
  refine hK.out _ _ ?_ (fun hHeld => ?_)
  · exact HC.out _ K2.out
  clear hK K
  (try simp only [Act.put, List.setIfInBounds_toArray, List.set_cons_zero, List.set_cons_succ])
  refine wpAnyH_take (i := 8) (oi := cr1o8) (v := ?_) rfl (by kernel_rfl) (by kernel_rfl) (by kernel_rfl) (fun _ _ _ h => h) (Or.inl ⟨by rfl, ?_⟩) (by assumption) ?_
  rotate_left
  · (intro w hSw; (try dsimp only at hSw); obtain ⟨c0, c1, c2⟩ := hSw; (try dsimp only [cr1o8]); go_simp; try (with_reducible rfl))
  (try simp only [Act.put, List.setIfInBounds_toArray, List.set_cons_zero, List.set_cons_succ])
  refine wpAnyH_ready (rs := [12]) (by kernel_rfl) (by simp) ?_
  refine AllReadyH.cons (o := cr1o12) rfl (fun K hK => ?_) AllReadyH.nil
  dsimp only [cr1o12]
  go_simp
  refine (HN3.out _).mono ?_
  rintro e w3 ⟨rfl, b3⟩
  have K3 := Lib.hid (K2.out.trans (b3.mono K2.out.size))
  clear b3
  (try go_wp2_with fail)
  refine hK.out _ _ ?_ (fun hHeld => ?_)
  · exact HC.out _ K3.out
  clear hK K
  (try simp only [Act.put, List.setIfInBounds_toArray, List.set_cons_zero, List.set_cons_succ])
  refine wpAnyH_take (i := 13) (oi := cr1o13) (v := ?_) rfl (by kernel_rfl) (by kernel_rfl) (by kernel_rfl) (fun _ _ _ h => h) (Or.inl ⟨by rfl, ?_⟩) (by assumption) ?_
  rotate_left
  · (intro w hSw; (try dsimp only at hSw); obtain ⟨c0, c1, c2⟩ := hSw; (try dsimp only [cr1o13]); go_simp; try (with_reducible rfl))
  (try simp only [Act.put, List.setIfInBounds_toArray, List.set_cons_zero, List.set_cons_succ])
  refine wpAnyH_take (i := 14) (oi := cr1o14) (v := ?_) rfl (by kernel_rfl) (by kernel_rfl) (by kernel_rfl) (fun _ _ _ h => h) (Or.inl ⟨by rfl, ?_⟩) (by assumption) ?_
  rotate_left
  · (intro w hSw; (try dsimp only at hSw); obtain ⟨c0, c1, c2⟩ := hSw; (try dsimp only [cr1o14]); go_simp; try (with_reducible rfl))
  (try simp only [Act.put, List.setIfInBounds_toArray, List.set_cons_zero, List.set_cons_succ])
  refine wpAnyH_done (by kernel_rfl) ?_ _
  refine NoPanic.normal ?_
  go_wp2_with fail
  go_ret
  exact ⟨rfl, B0.out.trans (K3.out.mono B0.out.size)⟩

end Go.Proofs.Ytackddgihdnmgaa
