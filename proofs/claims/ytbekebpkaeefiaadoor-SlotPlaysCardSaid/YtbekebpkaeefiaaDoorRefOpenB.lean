/- The document's Open of a sector, behind its early answers. Written by wip/tools/gen_refopen.py. -/
import Derived.Test.YtbekebpkaeefiaaDoorJRop
import Derived.Laws.PanicsMore
import Derived.Deep.MidRow
namespace Go.Proofs.YtbekebpkaeefiaaDoor
open Go.RowKit

abbrev o5o0 : Oper := { dst := some 12, op := Op.move (Operand.tmp 0), type := 9, pos := "ref.go:83", after := #[], guard := none }
abbrev o5o1 : Oper := { dst := some 13, op := Op.index 9 (Operand.tmp 12) (Operand.const (Value.int IntKind.i64 127)), type := 5, pos := "ref.go:83", after := #[{ on := 0, ground := Ground.data }], guard := none }
abbrev o5o2 : Oper := { dst := some 14, op := Op.move (Operand.tmp 0), type := 9, pos := "ref.go:83", after := #[], guard := none }
abbrev o5o3 : Oper := { dst := some 15, op := Op.index 9 (Operand.tmp 14) (Operand.const (Value.int IntKind.i64 126)), type := 5, pos := "ref.go:83", after := #[{ on := 2, ground := Ground.data }], guard := none }
abbrev o5o4 : Oper := { dst := some 16, op := Op.move (Operand.tmp 0), type := 9, pos := "ref.go:83", after := #[], guard := none }
abbrev o5o5 : Oper := { dst := some 17, op := Op.index 9 (Operand.tmp 16) (Operand.const (Value.int IntKind.i64 125)), type := 5, pos := "ref.go:83", after := #[{ on := 4, ground := Ground.data }], guard := none }
abbrev o5o6 : Oper := { dst := some 18, op := Op.move (Operand.tmp 0), type := 9, pos := "ref.go:83", after := #[], guard := none }
abbrev o5o7 : Oper := { dst := some 19, op := Op.index 9 (Operand.tmp 18) (Operand.const (Value.int IntKind.i64 124)), type := 5, pos := "ref.go:83", after := #[{ on := 6, ground := Ground.data }], guard := none }
abbrev o5o8 : Oper := { dst := some 20, op := Op.buildSlice 107 4 #[(0, Operand.tmp 13), (1, Operand.tmp 15), (2, Operand.tmp 17), (3, Operand.tmp 19)], type := 107, pos := "ref.go:83", after := #[{ on := 1, ground := Ground.data }, { on := 3, ground := Ground.data }, { on := 5, ground := Ground.data }, { on := 7, ground := Ground.data }], guard := none }
abbrev o5o9 : Oper := { dst := some 21, op := Op.convert 107 9 (Operand.tmp 20), type := 9, pos := "ref.go:83", after := #[{ on := 8, ground := Ground.data }], guard := none }
abbrev o5o10 : Oper := { dst := some 22, op := Op.call { callee := Callee.value (Operand.func 83), args := #[Operand.tmp 21], argTypes := #[9] }, type := 33, pos := "ref.go:83", after := #[{ on := 9, ground := Ground.data }], guard := none }
abbrev o5o11 : Oper := { dst := some 23, op := Op.move (Operand.tmp 0), type := 9, pos := "ref.go:83", after := #[], guard := none }
abbrev o5o12 : Oper := { dst := some 24, op := Op.slice 9 (Operand.tmp 23) none (some (Operand.const (Value.int IntKind.i64 124))) none, type := 9, pos := "ref.go:83", after := #[{ on := 11, ground := Ground.data }], guard := none }
abbrev o5o13 : Oper := { dst := some 25, op := Op.call { callee := Callee.value (Operand.func 78), args := #[Operand.tmp 24], argTypes := #[9] }, type := 33, pos := "ref.go:83", after := #[{ on := 12, ground := Ground.data }, { on := 10, ground := Ground.chain }], guard := none }
abbrev o5o14 : Oper := { dst := some 26, op := Op.binOp BinOp.neq 33 (Operand.tmp 22) (Operand.tmp 25) 33, type := 4, pos := "ref.go:83", after := #[{ on := 10, ground := Ground.data }, { on := 13, ground := Ground.data }], guard := none }
abbrev o10o0 : Oper := { dst := some 42, op := Op.move (Operand.tmp 0), type := 9, pos := "ref.go:90", after := #[], guard := none }
abbrev o10o1 : Oper := { dst := some 43, op := Op.index 9 (Operand.tmp 42) (Operand.const (Value.int IntKind.i64 0)), type := 5, pos := "ref.go:90", after := #[{ on := 0, ground := Ground.data }], guard := none }
abbrev o10o2 : Oper := { dst := some 44, op := Op.move (Operand.tmp 0), type := 9, pos := "ref.go:90", after := #[], guard := none }
abbrev o10o3 : Oper := { dst := some 45, op := Op.slice 9 (Operand.tmp 44) (some (Operand.const (Value.int IntKind.i64 1))) (some (Operand.const (Value.int IntKind.i64 9))) none, type := 9, pos := "ref.go:90", after := #[{ on := 2, ground := Ground.data }], guard := none }
abbrev o10o4 : Oper := { dst := some 46, op := Op.call { callee := Callee.value (Operand.func 83), args := #[Operand.tmp 45], argTypes := #[9] }, type := 33, pos := "ref.go:90", after := #[{ on := 3, ground := Ground.data }], guard := none }
abbrev o10o5 : Oper := { dst := some 47, op := Op.move (Operand.tmp 0), type := 9, pos := "ref.go:90", after := #[], guard := none }
abbrev o10o6 : Oper := { dst := some 48, op := Op.slice 9 (Operand.tmp 47) (some (Operand.const (Value.int IntKind.i64 9))) (some (Operand.const (Value.int IntKind.i64 13))) none, type := 9, pos := "ref.go:90", after := #[{ on := 5, ground := Ground.data }], guard := none }
abbrev o10o7 : Oper := { dst := some 49, op := Op.call { callee := Callee.value (Operand.func 83), args := #[Operand.tmp 48], argTypes := #[9] }, type := 33, pos := "ref.go:90", after := #[{ on := 6, ground := Ground.data }, { on := 4, ground := Ground.chain }], guard := none }
abbrev o10o8 : Oper := { dst := some 50, op := Op.convert 33 49 (Operand.tmp 49), type := 49, pos := "ref.go:90", after := #[{ on := 7, ground := Ground.data }], guard := none }
abbrev o10o9 : Oper := { dst := some 51, op := Op.move (Operand.tmp 0), type := 9, pos := "ref.go:90", after := #[], guard := none }
abbrev o10o10 : Oper := { dst := some 52, op := Op.move (Operand.tmp 4), type := 3, pos := "ref.go:90", after := #[], guard := none }
abbrev o10o11 : Oper := { dst := some 53, op := Op.binOp BinOp.add 3 (Operand.const (Value.int IntKind.i64 14)) (Operand.tmp 52) 3, type := 3, pos := "ref.go:90", after := #[{ on := 10, ground := Ground.data }], guard := none }
abbrev o10o12 : Oper := { dst := some 54, op := Op.slice 9 (Operand.tmp 51) (some (Operand.const (Value.int IntKind.i64 14))) (some (Operand.tmp 53)) none, type := 9, pos := "ref.go:90", after := #[{ on := 9, ground := Ground.data }, { on := 11, ground := Ground.data }], guard := none }
abbrev o10o13 : Oper := { dst := some 55, op := Op.build 97 #[(0, Operand.tmp 43), (1, Operand.tmp 46), (2, Operand.tmp 50), (3, Operand.tmp 54)], type := 97, pos := "ref.go:90", after := #[{ on := 1, ground := Ground.data }, { on := 4, ground := Ground.data }, { on := 8, ground := Ground.data }, { on := 12, ground := Ground.data }], guard := none }
abbrev o10o14 : Oper := { dst := none, op := Op.store 97 (Operand.tmp 2) (Operand.tmp 55), type := 0, pos := "ref.go:90", after := #[{ on := 13, ground := Ground.data }, { on := 7, ground := Ground.chain }, { on := 0, ground := Ground.phase }, { on := 1, ground := Ground.phase }, { on := 2, ground := Ground.phase }, { on := 3, ground := Ground.phase }, { on := 4, ground := Ground.phase }, { on := 5, ground := Ground.phase }, { on := 6, ground := Ground.phase }, { on := 7, ground := Ground.phase }, { on := 8, ground := Ground.phase }, { on := 9, ground := Ground.phase }, { on := 10, ground := Ground.phase }, { on := 11, ground := Ground.phase }, { on := 12, ground := Ground.phase }, { on := 13, ground := Ground.phase }], guard := none }
abbrev o10o15 : Oper := { dst := some 3, op := Op.assign (Operand.const (Value.int IntKind.i64 0)), type := 3, pos := "ref.go:90", after := #[{ on := 14, ground := Ground.chain }, { on := 0, ground := Ground.phase }, { on := 1, ground := Ground.phase }, { on := 2, ground := Ground.phase }, { on := 3, ground := Ground.phase }, { on := 4, ground := Ground.phase }, { on := 5, ground := Ground.phase }, { on := 6, ground := Ground.phase }, { on := 7, ground := Ground.phase }, { on := 8, ground := Ground.phase }, { on := 9, ground := Ground.phase }, { on := 10, ground := Ground.phase }, { on := 11, ground := Ground.phase }, { on := 12, ground := Ground.phase }, { on := 13, ground := Ground.phase }, { on := 14, ground := Ground.phase }], guard := none }

section
theorem wp_build_isR {P : Program} {o : Oper} {a : Act} {w : World} {K : Act → World → Prop} {Q : Exit → Act → World → Prop} (t : TypeId) (len : Nat) (parts : Array (Nat × Operand)) (ho : o.op = .buildSlice t len parts)
    (vals : Array (Nat × Value)) (hv : (parts.map fun (i, x) => (i, a.eval x)) = vals) (v : Value) (w' : World) (hrun : (Instr.buildSlice t len vals).run P w = .ok v w') (h : K (a.put o.dst v) w') : o.wp P a w K Q := by
  unfold Oper.wp execOp
  simp only [ho, hv, hrun, Sem.run_bind, Sem.run_pure, Result.andThen_ok]
  exact h
theorem wp_store_isR {P : Program} {o : Oper} {a : Act} {w : World} {K : Act → World → Prop} {Q : Exit → Act → World → Prop} (ty : TypeId) (x y : Operand) (ho : o.op = .store ty x y)
    (ad : Addr) (hx : a.eval x = .pointer (some ad)) (v : Value) (hy : a.eval y = v) (w' : World) (hrun : (Instr.storeAt ty (.pointer (some ad)) v).run P w = .ok () w') (h : K (a.put o.dst undef) w') : o.wp P a w K Q := by
  unfold Oper.wp execOp
  simp only [ho, hx, hy, hrun, Sem.run_bind, Sem.run_pure, Result.andThen_ok]
  exact h
theorem wp_conv_is {P : Program} {o : Oper} {a : Act} {w : World} {K : Act → World → Prop} {Q : Exit → Act → World → Prop} (t u : TypeId) (x : Operand) (ho : o.op = .convert t u x)
    (v : Value) (hx : a.eval x = v) (r : Value) (hrun : (convert t u v).run P w = .ok r w) (h : K (a.put o.dst r) w) : o.wp P a w K Q := by
  unfold Oper.wp execOp
  simp only [ho, hx, hrun, Sem.run_bind, Sem.run_pure, Result.andThen_ok]
  exact h
end

theorem run_str_slice (l T : List UInt8) (i j : Nat) (W : World) (hij : i ≤ j) (hj : j ≤ l.length) (hT : (bs l).extract i j = bs T) :
    (Instr.slice 9 (.string (bs l)) (some (.int .i64 (i : Int))) (some (.int .i64 (j : Int))) none).run Tryd.prog W = .ok (.string (bs T)) W := by
  have h0 : (0 : Int) ≤ (i : Int) := by omega
  have h2 : (0 : Int) ≤ (j : Int) := by omega
  have h4 : j ≤ (bs l).size := by rw [bs_size]; omega
  simp [Instr.slice, Instr.sliceBounds, Instr.sliceBound, asIntOf, run_underlying Tryd.underlying9, go_sem, h0, h2, h4, hij, hT]

set_option maxHeartbeats 4000000 in
set_option maxRecDepth 100000 in
theorem ref_Open_rot (l : List UInt8) (w : World) (hl : l.length = 128) (hz : zeroL l = false) (hs : l.drop 124 ≠ leL (crcSum (l.take 124))) :
    Calls Tryd.prog 57 #[.string (bs l)] w fun e w' => e = .returned (.tuple #[recZ, .int .i64 8]) ∧ Below w.heap.size w w' := by
  have hsz := (bs_size l).trans hl
  have HB := Lib.hid (fun W => ref_blank l W (by omega))
  rw [hz] at HB
  obtain ⟨a, ha⟩ : ∃ a, a = l[127] := ⟨_, rfl⟩
  obtain ⟨b, hb⟩ : ∃ b, b = l[126] := ⟨_, rfl⟩
  obtain ⟨c, hc⟩ : ∃ c, c = l[125] := ⟨_, rfl⟩
  obtain ⟨d, hd⟩ : ∃ d, d = l[124] := ⟨_, rfl⟩
  have g127 : (bs l)[127]'(by rw [bs_size]; omega) = a := by rw [ha]; rfl
  have g126 : (bs l)[126]'(by rw [bs_size]; omega) = b := by rw [hb]; rfl
  have g125 : (bs l)[125]'(by rw [bs_size]; omega) = c := by rw [hc]; rfl
  have g124 : (bs l)[124]'(by rw [bs_size]; omega) = d := by rw [hd]; rfl
  obtain ⟨X, hX⟩ : ∃ X, X = crcSum (l.take 124) := ⟨_, rfl⟩
  obtain ⟨Y, hY⟩ : ∃ Y, Y = beV [a, b, c, d] := ⟨_, rfl⟩
  have hXY : ((Y : Int) != (X : Int)) = true := by
    rw [bne_iff_ne]
    intro e
    have e2 : Y = X := by omega
    apply hs
    rw [drop_four hl, ← ha, ← hb, ← hc, ← hd, ← hX]
    exact (leL_beV (by rw [hX]; exact crcSum_lt _) a b c d).2 (by rw [← hY]; exact e2)
  have hx2 : (bs l).extract 0 124 = bs (l.take 124) := bs_H l
  have HS : Hid (∀ W, Calls Tryd.prog 78 #[.string (bs (l.take 124))] W fun e w' => e = .returned (.int .u64 (X : Int)) ∧ W = w') := Lib.hid (fun W => by
    have h := ref_Sum (bs (l.take 124)) W (by rw [bs_size, List.length_take]; omega)
    rw [bs_list, ← hX] at h
    exact h)
  have HV : Hid (∀ W, Calls Tryd.prog 83 #[.string (bs [a, b, c, d])] W fun e w' => e = .returned (.int .u64 (Y : Int)) ∧ W = w') := Lib.hid (fun W => by
    have h := ref_value [a, b, c, d] W (by simp)
    rw [← hY] at h
    exact h)
  obtain ⟨W1, hW1⟩ : ∃ W1, W1 = w.alloc (.cells #[.int .u8 0, .int .u64 0, .int .u32 0, .string ⟨#[]⟩] 97) := ⟨_, rfl⟩
  obtain ⟨W5, hW5⟩ : ∃ W5, W5 = (W1.alloc (.cells #[.int .u8 (a.toNat : Int), .int .u8 (b.toNat : Int), .int .u8 (c.toNat : Int), .int .u8 (d.toNat : Int)] 5)).drew := ⟨_, rfl⟩
  have s1 : W1.heap.size = w.heap.size + 1 := by rw [hW1]; simp
  have HC9 : Hid ((convert 107 9 (.slice (some ⟨w.heap.size + 1, 0, none⟩) 4 4)).run Tryd.prog W5 = .ok (.string (bs [a, b, c, d])) W5) := Lib.hid (by
    have h := conv_lit4 a b c d W1
    rw [s1, ← hW5] at h
    exact h)
  have HB8 : Hid ((Instr.buildSlice 107 4 #[(0, .int .u8 (a.toNat : Int)), (1, .int .u8 (b.toNat : Int)), (2, .int .u8 (c.toNat : Int)), (3, .int .u8 (d.toNat : Int))]).run Tryd.prog W1.drew = .ok (.slice (some ⟨w.heap.size + 1, 0, none⟩) 4 4) W5) := Lib.hid (by
    rw [hW5, ← s1]
    go_simp
    try rfl)
  have B5 : Hid (Below w.heap.size w W5) := Lib.hid (by
    rw [hW5, hW1]
    exact (((Below.refl _ _).alloc (Nat.le_refl _) _).alloc (grow1 _ _) _).drew)
  have R5 : Hid (Blk W5 w.heap.size 97 [.int .u8 0, .int .u64 0, .int .u32 0, .string ⟨#[]⟩]) := Lib.hid (by
    rw [hW5, hW1]
    exact Blk.alloc (w := w.alloc _) (heap_alloc_new w _) _)
  have HW1 := Lib.hid hW1
  clear ha hb hc hd hX hY hs hW5 s1 hW1
  go_enter Tryd.func57, Tryd.ntmps57
  go_wp2_with fail
  refine (HB.out _).mono ?_
  rintro e w1 ⟨rfl, rfl⟩
  rw [← HW1.out]
  go_wp2_with fail
  refine wp_region_any (by kernel_rfl) ?_
  (try change wpAny _ _ _ _ _ _ _ (World.drew _))
  refine wpAny_take (i := 0) (oi := o5o0) (v := ?_) rfl (by kernel_rfl) (by kernel_rfl) (by kernel_rfl) (fun _ _ _ h => h) (Or.inl ⟨by rfl, ?_⟩) ?_
  rotate_left
  · (intro w; dsimp only [o5o0]; go_simp; try (with_reducible rfl))
  (try simp only [Act.put, List.setIfInBounds_toArray, List.set_cons_zero, List.set_cons_succ])
  refine wpAny_take (i := 1) (oi := o5o1) (v := ?_) rfl (by kernel_rfl) (by kernel_rfl) (by kernel_rfl) (fun _ _ _ h => h) (Or.inl ⟨by rfl, ?_⟩) ?_
  rotate_left
  · (intro w; dsimp only [o5o1]; go_simp; try (with_reducible rfl))
  (try simp only [Act.put, List.setIfInBounds_toArray, List.set_cons_zero, List.set_cons_succ])
  refine wpAny_take (i := 2) (oi := o5o2) (v := ?_) rfl (by kernel_rfl) (by kernel_rfl) (by kernel_rfl) (fun _ _ _ h => h) (Or.inl ⟨by rfl, ?_⟩) ?_
  rotate_left
  · (intro w; dsimp only [o5o2]; go_simp; try (with_reducible rfl))
  (try simp only [Act.put, List.setIfInBounds_toArray, List.set_cons_zero, List.set_cons_succ])
  refine wpAny_take (i := 3) (oi := o5o3) (v := ?_) rfl (by kernel_rfl) (by kernel_rfl) (by kernel_rfl) (fun _ _ _ h => h) (Or.inl ⟨by rfl, ?_⟩) ?_
  rotate_left
  · (intro w; dsimp only [o5o3]; go_simp; try (with_reducible rfl))
  (try simp only [Act.put, List.setIfInBounds_toArray, List.set_cons_zero, List.set_cons_succ])
  refine wpAny_take (i := 4) (oi := o5o4) (v := ?_) rfl (by kernel_rfl) (by kernel_rfl) (by kernel_rfl) (fun _ _ _ h => h) (Or.inl ⟨by rfl, ?_⟩) ?_
  rotate_left
  · (intro w; dsimp only [o5o4]; go_simp; try (with_reducible rfl))
  (try simp only [Act.put, List.setIfInBounds_toArray, List.set_cons_zero, List.set_cons_succ])
  refine wpAny_take (i := 5) (oi := o5o5) (v := ?_) rfl (by kernel_rfl) (by kernel_rfl) (by kernel_rfl) (fun _ _ _ h => h) (Or.inl ⟨by rfl, ?_⟩) ?_
  rotate_left
  · (intro w; dsimp only [o5o5]; go_simp; try (with_reducible rfl))
  (try simp only [Act.put, List.setIfInBounds_toArray, List.set_cons_zero, List.set_cons_succ])
  refine wpAny_take (i := 6) (oi := o5o6) (v := ?_) rfl (by kernel_rfl) (by kernel_rfl) (by kernel_rfl) (fun _ _ _ h => h) (Or.inl ⟨by rfl, ?_⟩) ?_
  rotate_left
  · (intro w; dsimp only [o5o6]; go_simp; try (with_reducible rfl))
  (try simp only [Act.put, List.setIfInBounds_toArray, List.set_cons_zero, List.set_cons_succ])
  refine wpAny_take (i := 7) (oi := o5o7) (v := ?_) rfl (by kernel_rfl) (by kernel_rfl) (by kernel_rfl) (fun _ _ _ h => h) (Or.inl ⟨by rfl, ?_⟩) ?_
  rotate_left
  · (intro w; dsimp only [o5o7]; go_simp; try (with_reducible rfl))
  (try simp only [Act.put, List.setIfInBounds_toArray, List.set_cons_zero, List.set_cons_succ])
  refine wpAny_take (i := 11) (oi := o5o11) (v := ?_) rfl (by kernel_rfl) (by kernel_rfl) (by kernel_rfl) (fun _ _ _ h => h) (Or.inl ⟨by rfl, ?_⟩) ?_
  rotate_left
  · (intro w; dsimp only [o5o11]; go_simp; try (with_reducible rfl))
  (try simp only [Act.put, List.setIfInBounds_toArray, List.set_cons_zero, List.set_cons_succ])
  refine wpAny_take (i := 12) (oi := o5o12) (v := ?_) rfl (by kernel_rfl) (by kernel_rfl) (by kernel_rfl) (fun _ _ _ h => h) (Or.inl ⟨by rfl, ?_⟩) ?_
  rotate_left
  · (intro w; dsimp only [o5o12]; go_simp; try (with_reducible rfl))
  (try simp only [Act.put, List.setIfInBounds_toArray, List.set_cons_zero, List.set_cons_succ])
  refine wpAny_ready (rs := [8]) (by kernel_rfl) (by simp) ?_
  refine AllReady.cons (o := o5o8) rfl (fun K hK => ?_) AllReady.nil
  rw [if_pos (by rfl)]
  refine wp_build_isR _ _ _ rfl #[(0, .int .u8 (a.toNat : Int)), (1, .int .u8 (b.toNat : Int)), (2, .int .u8 (c.toNat : Int)), (3, .int .u8 (d.toNat : Int))] (by simp [Act.eval]) (.slice (some ⟨w.heap.size + 1, 0, none⟩) 4 4) W5 HB8.out ?_
  refine hK _ _ ?_
  clear hK K
  (try simp only [Act.put, List.setIfInBounds_toArray, List.set_cons_zero, List.set_cons_succ])
  refine wpAny_ready (rs := [9]) (by kernel_rfl) (by simp) ?_
  refine AllReady.cons (o := o5o9) rfl (fun K hK => ?_) AllReady.nil
  rw [if_pos (by rfl)]
  refine wp_conv_is _ _ _ rfl (.slice (some ⟨w.heap.size + 1, 0, none⟩) 4 4) rfl (.string (bs [a, b, c, d])) HC9.out ?_
  refine hK _ _ ?_
  clear hK K
  (try simp only [Act.put, List.setIfInBounds_toArray, List.set_cons_zero, List.set_cons_succ])
  refine wpAny_ready (rs := [10]) (by kernel_rfl) (by simp) ?_
  refine AllReady.cons (o := o5o10) rfl (fun K hK => ?_) AllReady.nil
  have HK := Lib.hid hK
  clear hK
  dsimp only [o5o10]
  go_simp
  refine (HV.out _).mono ?_
  rintro e v1 ⟨rfl, rfl⟩
  (try go_wp2_with fail)
  refine HK.out _ _ ?_
  clear HK K
  (try simp only [Act.put, List.setIfInBounds_toArray, List.set_cons_zero, List.set_cons_succ])
  refine wpAny_ready (rs := [13]) (by kernel_rfl) (by simp) ?_
  refine AllReady.cons (o := o5o13) rfl (fun K hK => ?_) AllReady.nil
  have HK := Lib.hid hK
  clear hK
  dsimp only [o5o13]
  go_simp
  refine (HS.out _).mono ?_
  rintro e v1 ⟨rfl, rfl⟩
  (try go_wp2_with fail)
  refine HK.out _ _ ?_
  clear HK K
  (try simp only [Act.put, List.setIfInBounds_toArray, List.set_cons_zero, List.set_cons_succ])
  refine wpAny_take (i := 14) (oi := o5o14) (v := ?_) rfl (by kernel_rfl) (by kernel_rfl) (by kernel_rfl) (fun _ _ _ h => h) (Or.inl ⟨by rfl, ?_⟩) ?_
  rotate_left
  · (intro w; dsimp only [o5o14]; go_simp; try (with_reducible rfl))
  (try simp only [Act.put, List.setIfInBounds_toArray, List.set_cons_zero, List.set_cons_succ])
  refine wpAny_done (by kernel_rfl) ?_ _
  obtain ⟨c0, c1, c2, c3⟩ := R5.out.four
  have f0 := R5.out.frozen 0
  have f1 := R5.out.frozen 1
  have f2 := R5.out.frozen 2
  have f3 := R5.out.frozen 3
  go_wp2_with fail
  obtain ⟨d0, d1, d2, d3⟩ := (R5.out.put4 (.int .u8 0) (.int .u64 0) (.int .u32 0) (.string ⟨#[]⟩)).four
  refine bodyPost_ret (v := .tuple #[recZ, .int .i64 8]) (by simp [results, Tryd.results57, go_sem, recZ, d0, d1, d2, d3]) rfl ⟨rfl, ?_⟩
  exact below_put4 B5.out (Nat.le_refl _) _ _ _ _

set_option maxHeartbeats 4000000 in
set_option maxRecDepth 100000 in
theorem ref_Open_great (l : List UInt8) (n : Nat) (w : World) (hl : l.length = 128) (hz : zeroL l = false) (hs : l.drop 124 = leL (crcSum (l.take 124))) (hn : n = (l[13]).toNat) (hg : 110 < n) :
    Calls Tryd.prog 57 #[.string (bs l)] w fun e w' => e = .returned (.tuple #[recZ, .int .i64 4]) ∧ Below w.heap.size w w' := by
  have hsz := (bs_size l).trans hl
  have HB := Lib.hid (fun W => ref_blank l W (by omega))
  rw [hz] at HB
  obtain ⟨a, ha⟩ : ∃ a, a = l[127] := ⟨_, rfl⟩
  obtain ⟨b, hb⟩ : ∃ b, b = l[126] := ⟨_, rfl⟩
  obtain ⟨c, hc⟩ : ∃ c, c = l[125] := ⟨_, rfl⟩
  obtain ⟨d, hd⟩ : ∃ d, d = l[124] := ⟨_, rfl⟩
  have g127 : (bs l)[127]'(by rw [bs_size]; omega) = a := by rw [ha]; rfl
  have g126 : (bs l)[126]'(by rw [bs_size]; omega) = b := by rw [hb]; rfl
  have g125 : (bs l)[125]'(by rw [bs_size]; omega) = c := by rw [hc]; rfl
  have g124 : (bs l)[124]'(by rw [bs_size]; omega) = d := by rw [hd]; rfl
  obtain ⟨X, hX⟩ : ∃ X, X = crcSum (l.take 124) := ⟨_, rfl⟩
  obtain ⟨Y, hY⟩ : ∃ Y, Y = beV [a, b, c, d] := ⟨_, rfl⟩
  have hXY : ((Y : Int) != (X : Int)) = false := by
    have e : Y = X := by
      rw [drop_four hl, ← ha, ← hb, ← hc, ← hd, ← hX] at hs
      rw [hY]
      exact (leL_beV (by rw [hX]; exact crcSum_lt _) a b c d).1 hs
    rw [e]; simp
  have hnn : ((((bs l)[13]'(by rw [bs_size]; omega)).toNat : Nat) : Int) = (n : Int) := by rw [hn]; rfl
  have hnb : n < 256 := by rw [hn]; exact (l[13]).toNat_lt
  have hnw : IntKind.i64.wrap (n : Int) = (n : Int) := IntWalk.i64_in _ (by omega)
  have hnw2 : IntKind.i64.wrap (14 + (n : Int)) = 14 + (n : Int) := IntWalk.i64_in _ (by omega)
  have hx2 : (bs l).extract 0 124 = bs (l.take 124) := bs_H l
  have HS : Hid (∀ W, Calls Tryd.prog 78 #[.string (bs (l.take 124))] W fun e w' => e = .returned (.int .u64 (X : Int)) ∧ W = w') := Lib.hid (fun W => by
    have h := ref_Sum (bs (l.take 124)) W (by rw [bs_size, List.length_take]; omega)
    rw [bs_list, ← hX] at h
    exact h)
  have HV : Hid (∀ W, Calls Tryd.prog 83 #[.string (bs [a, b, c, d])] W fun e w' => e = .returned (.int .u64 (Y : Int)) ∧ W = w') := Lib.hid (fun W => by
    have h := ref_value [a, b, c, d] W (by simp)
    rw [← hY] at h
    exact h)
  obtain ⟨W1, hW1⟩ : ∃ W1, W1 = w.alloc (.cells #[.int .u8 0, .int .u64 0, .int .u32 0, .string ⟨#[]⟩] 97) := ⟨_, rfl⟩
  obtain ⟨W5, hW5⟩ : ∃ W5, W5 = (W1.alloc (.cells #[.int .u8 (a.toNat : Int), .int .u8 (b.toNat : Int), .int .u8 (c.toNat : Int), .int .u8 (d.toNat : Int)] 5)).drew := ⟨_, rfl⟩
  have s1 : W1.heap.size = w.heap.size + 1 := by rw [hW1]; simp
  have HC9 : Hid ((convert 107 9 (.slice (some ⟨w.heap.size + 1, 0, none⟩) 4 4)).run Tryd.prog W5 = .ok (.string (bs [a, b, c, d])) W5) := Lib.hid (by
    have h := conv_lit4 a b c d W1
    rw [s1, ← hW5] at h
    exact h)
  have HB8 : Hid ((Instr.buildSlice 107 4 #[(0, .int .u8 (a.toNat : Int)), (1, .int .u8 (b.toNat : Int)), (2, .int .u8 (c.toNat : Int)), (3, .int .u8 (d.toNat : Int))]).run Tryd.prog W1.drew = .ok (.slice (some ⟨w.heap.size + 1, 0, none⟩) 4 4) W5) := Lib.hid (by
    rw [hW5, ← s1]
    go_simp
    try rfl)
  have B5 : Hid (Below w.heap.size w W5) := Lib.hid (by
    rw [hW5, hW1]
    exact (((Below.refl _ _).alloc (Nat.le_refl _) _).alloc (grow1 _ _) _).drew)
  have R5 : Hid (Blk W5 w.heap.size 97 [.int .u8 0, .int .u64 0, .int .u32 0, .string ⟨#[]⟩]) := Lib.hid (by
    rw [hW5, hW1]
    exact Blk.alloc (w := w.alloc _) (heap_alloc_new w _) _)
  have HW1 := Lib.hid hW1
  have hgt : decide ((110 : Int) < (n : Int)) = true := decide_eq_true (by omega)
  clear ha hb hc hd hX hY hs hW5 s1 hW1 hn
  go_enter Tryd.func57, Tryd.ntmps57
  go_wp2_with fail
  refine (HB.out _).mono ?_
  rintro e w1 ⟨rfl, rfl⟩
  rw [← HW1.out]
  go_wp2_with fail
  refine wp_region_any (by kernel_rfl) ?_
  (try change wpAny _ _ _ _ _ _ _ (World.drew _))
  refine wpAny_take (i := 0) (oi := o5o0) (v := ?_) rfl (by kernel_rfl) (by kernel_rfl) (by kernel_rfl) (fun _ _ _ h => h) (Or.inl ⟨by rfl, ?_⟩) ?_
  rotate_left
  · (intro w; dsimp only [o5o0]; go_simp; try (with_reducible rfl))
  (try simp only [Act.put, List.setIfInBounds_toArray, List.set_cons_zero, List.set_cons_succ])
  refine wpAny_take (i := 1) (oi := o5o1) (v := ?_) rfl (by kernel_rfl) (by kernel_rfl) (by kernel_rfl) (fun _ _ _ h => h) (Or.inl ⟨by rfl, ?_⟩) ?_
  rotate_left
  · (intro w; dsimp only [o5o1]; go_simp; try (with_reducible rfl))
  (try simp only [Act.put, List.setIfInBounds_toArray, List.set_cons_zero, List.set_cons_succ])
  refine wpAny_take (i := 2) (oi := o5o2) (v := ?_) rfl (by kernel_rfl) (by kernel_rfl) (by kernel_rfl) (fun _ _ _ h => h) (Or.inl ⟨by rfl, ?_⟩) ?_
  rotate_left
  · (intro w; dsimp only [o5o2]; go_simp; try (with_reducible rfl))
  (try simp only [Act.put, List.setIfInBounds_toArray, List.set_cons_zero, List.set_cons_succ])
  refine wpAny_take (i := 3) (oi := o5o3) (v := ?_) rfl (by kernel_rfl) (by kernel_rfl) (by kernel_rfl) (fun _ _ _ h => h) (Or.inl ⟨by rfl, ?_⟩) ?_
  rotate_left
  · (intro w; dsimp only [o5o3]; go_simp; try (with_reducible rfl))
  (try simp only [Act.put, List.setIfInBounds_toArray, List.set_cons_zero, List.set_cons_succ])
  refine wpAny_take (i := 4) (oi := o5o4) (v := ?_) rfl (by kernel_rfl) (by kernel_rfl) (by kernel_rfl) (fun _ _ _ h => h) (Or.inl ⟨by rfl, ?_⟩) ?_
  rotate_left
  · (intro w; dsimp only [o5o4]; go_simp; try (with_reducible rfl))
  (try simp only [Act.put, List.setIfInBounds_toArray, List.set_cons_zero, List.set_cons_succ])
  refine wpAny_take (i := 5) (oi := o5o5) (v := ?_) rfl (by kernel_rfl) (by kernel_rfl) (by kernel_rfl) (fun _ _ _ h => h) (Or.inl ⟨by rfl, ?_⟩) ?_
  rotate_left
  · (intro w; dsimp only [o5o5]; go_simp; try (with_reducible rfl))
  (try simp only [Act.put, List.setIfInBounds_toArray, List.set_cons_zero, List.set_cons_succ])
  refine wpAny_take (i := 6) (oi := o5o6) (v := ?_) rfl (by kernel_rfl) (by kernel_rfl) (by kernel_rfl) (fun _ _ _ h => h) (Or.inl ⟨by rfl, ?_⟩) ?_
  rotate_left
  · (intro w; dsimp only [o5o6]; go_simp; try (with_reducible rfl))
  (try simp only [Act.put, List.setIfInBounds_toArray, List.set_cons_zero, List.set_cons_succ])
  refine wpAny_take (i := 7) (oi := o5o7) (v := ?_) rfl (by kernel_rfl) (by kernel_rfl) (by kernel_rfl) (fun _ _ _ h => h) (Or.inl ⟨by rfl, ?_⟩) ?_
  rotate_left
  · (intro w; dsimp only [o5o7]; go_simp; try (with_reducible rfl))
  (try simp only [Act.put, List.setIfInBounds_toArray, List.set_cons_zero, List.set_cons_succ])
  refine wpAny_take (i := 11) (oi := o5o11) (v := ?_) rfl (by kernel_rfl) (by kernel_rfl) (by kernel_rfl) (fun _ _ _ h => h) (Or.inl ⟨by rfl, ?_⟩) ?_
  rotate_left
  · (intro w; dsimp only [o5o11]; go_simp; try (with_reducible rfl))
  (try simp only [Act.put, List.setIfInBounds_toArray, List.set_cons_zero, List.set_cons_succ])
  refine wpAny_take (i := 12) (oi := o5o12) (v := ?_) rfl (by kernel_rfl) (by kernel_rfl) (by kernel_rfl) (fun _ _ _ h => h) (Or.inl ⟨by rfl, ?_⟩) ?_
  rotate_left
  · (intro w; dsimp only [o5o12]; go_simp; try (with_reducible rfl))
  (try simp only [Act.put, List.setIfInBounds_toArray, List.set_cons_zero, List.set_cons_succ])
  refine wpAny_ready (rs := [8]) (by kernel_rfl) (by simp) ?_
  refine AllReady.cons (o := o5o8) rfl (fun K hK => ?_) AllReady.nil
  rw [if_pos (by rfl)]
  refine wp_build_isR _ _ _ rfl #[(0, .int .u8 (a.toNat : Int)), (1, .int .u8 (b.toNat : Int)), (2, .int .u8 (c.toNat : Int)), (3, .int .u8 (d.toNat : Int))] (by simp [Act.eval]) (.slice (some ⟨w.heap.size + 1, 0, none⟩) 4 4) W5 HB8.out ?_
  refine hK _ _ ?_
  clear hK K
  (try simp only [Act.put, List.setIfInBounds_toArray, List.set_cons_zero, List.set_cons_succ])
  refine wpAny_ready (rs := [9]) (by kernel_rfl) (by simp) ?_
  refine AllReady.cons (o := o5o9) rfl (fun K hK => ?_) AllReady.nil
  rw [if_pos (by rfl)]
  refine wp_conv_is _ _ _ rfl (.slice (some ⟨w.heap.size + 1, 0, none⟩) 4 4) rfl (.string (bs [a, b, c, d])) HC9.out ?_
  refine hK _ _ ?_
  clear hK K
  (try simp only [Act.put, List.setIfInBounds_toArray, List.set_cons_zero, List.set_cons_succ])
  refine wpAny_ready (rs := [10]) (by kernel_rfl) (by simp) ?_
  refine AllReady.cons (o := o5o10) rfl (fun K hK => ?_) AllReady.nil
  have HK := Lib.hid hK
  clear hK
  dsimp only [o5o10]
  go_simp
  refine (HV.out _).mono ?_
  rintro e v1 ⟨rfl, rfl⟩
  (try go_wp2_with fail)
  refine HK.out _ _ ?_
  clear HK K
  (try simp only [Act.put, List.setIfInBounds_toArray, List.set_cons_zero, List.set_cons_succ])
  refine wpAny_ready (rs := [13]) (by kernel_rfl) (by simp) ?_
  refine AllReady.cons (o := o5o13) rfl (fun K hK => ?_) AllReady.nil
  have HK := Lib.hid hK
  clear hK
  dsimp only [o5o13]
  go_simp
  refine (HS.out _).mono ?_
  rintro e v1 ⟨rfl, rfl⟩
  (try go_wp2_with fail)
  refine HK.out _ _ ?_
  clear HK K
  (try simp only [Act.put, List.setIfInBounds_toArray, List.set_cons_zero, List.set_cons_succ])
  refine wpAny_take (i := 14) (oi := o5o14) (v := ?_) rfl (by kernel_rfl) (by kernel_rfl) (by kernel_rfl) (fun _ _ _ h => h) (Or.inl ⟨by rfl, ?_⟩) ?_
  rotate_left
  · (intro w; dsimp only [o5o14]; go_simp; try (with_reducible rfl))
  (try simp only [Act.put, List.setIfInBounds_toArray, List.set_cons_zero, List.set_cons_succ])
  refine wpAny_done (by kernel_rfl) ?_ _
  obtain ⟨c0, c1, c2, c3⟩ := R5.out.four
  have f0 := R5.out.frozen 0
  have f1 := R5.out.frozen 1
  have f2 := R5.out.frozen 2
  have f3 := R5.out.frozen 3
  go_wp2_with fail
  obtain ⟨d0, d1, d2, d3⟩ := (R5.out.put4 (.int .u8 0) (.int .u64 0) (.int .u32 0) (.string ⟨#[]⟩)).four
  refine bodyPost_ret (v := .tuple #[recZ, .int .i64 4]) (by simp [results, Tryd.results57, go_sem, recZ, d0, d1, d2, d3]) rfl ⟨rfl, ?_⟩
  exact below_put4 B5.out (Nat.le_refl _) _ _ _ _

set_option maxHeartbeats 4000000 in
set_option maxRecDepth 100000 in
theorem ref_Open_bad (l : List UInt8) (n : Nat) (w : World) (hl : l.length = 128) (hz : zeroL l = false) (hs : l.drop 124 = leL (crcSum (l.take 124))) (hn : n = (l[13]).toNat) (hg : n ≤ 110) (ht : zeroL ((l.drop (14 + n)).take (110 - n)) = false) :
    Calls Tryd.prog 57 #[.string (bs l)] w fun e w' => e = .returned (.tuple #[recZ, .int .i64 4]) ∧ Below w.heap.size w w' := by
  have hsz := (bs_size l).trans hl
  have HB := Lib.hid (fun W => ref_blank l W (by omega))
  rw [hz] at HB
  obtain ⟨a, ha⟩ : ∃ a, a = l[127] := ⟨_, rfl⟩
  obtain ⟨b, hb⟩ : ∃ b, b = l[126] := ⟨_, rfl⟩
  obtain ⟨c, hc⟩ : ∃ c, c = l[125] := ⟨_, rfl⟩
  obtain ⟨d, hd⟩ : ∃ d, d = l[124] := ⟨_, rfl⟩
  have g127 : (bs l)[127]'(by rw [bs_size]; omega) = a := by rw [ha]; rfl
  have g126 : (bs l)[126]'(by rw [bs_size]; omega) = b := by rw [hb]; rfl
  have g125 : (bs l)[125]'(by rw [bs_size]; omega) = c := by rw [hc]; rfl
  have g124 : (bs l)[124]'(by rw [bs_size]; omega) = d := by rw [hd]; rfl
  obtain ⟨X, hX⟩ : ∃ X, X = crcSum (l.take 124) := ⟨_, rfl⟩
  obtain ⟨Y, hY⟩ : ∃ Y, Y = beV [a, b, c, d] := ⟨_, rfl⟩
  have hXY : ((Y : Int) != (X : Int)) = false := by
    have e : Y = X := by
      rw [drop_four hl, ← ha, ← hb, ← hc, ← hd, ← hX] at hs
      rw [hY]
      exact (leL_beV (by rw [hX]; exact crcSum_lt _) a b c d).1 hs
    rw [e]; simp
  have hnn : ((((bs l)[13]'(by rw [bs_size]; omega)).toNat : Nat) : Int) = (n : Int) := by rw [hn]; rfl
  have hnb : n < 256 := by rw [hn]; exact (l[13]).toNat_lt
  have hnw : IntKind.i64.wrap (n : Int) = (n : Int) := IntWalk.i64_in _ (by omega)
  have hnw2 : IntKind.i64.wrap (14 + (n : Int)) = 14 + (n : Int) := IntWalk.i64_in _ (by omega)
  have hx2 : (bs l).extract 0 124 = bs (l.take 124) := bs_H l
  have HS : Hid (∀ W, Calls Tryd.prog 78 #[.string (bs (l.take 124))] W fun e w' => e = .returned (.int .u64 (X : Int)) ∧ W = w') := Lib.hid (fun W => by
    have h := ref_Sum (bs (l.take 124)) W (by rw [bs_size, List.length_take]; omega)
    rw [bs_list, ← hX] at h
    exact h)
  have HV : Hid (∀ W, Calls Tryd.prog 83 #[.string (bs [a, b, c, d])] W fun e w' => e = .returned (.int .u64 (Y : Int)) ∧ W = w') := Lib.hid (fun W => by
    have h := ref_value [a, b, c, d] W (by simp)
    rw [← hY] at h
    exact h)
  obtain ⟨W1, hW1⟩ : ∃ W1, W1 = w.alloc (.cells #[.int .u8 0, .int .u64 0, .int .u32 0, .string ⟨#[]⟩] 97) := ⟨_, rfl⟩
  obtain ⟨W5, hW5⟩ : ∃ W5, W5 = (W1.alloc (.cells #[.int .u8 (a.toNat : Int), .int .u8 (b.toNat : Int), .int .u8 (c.toNat : Int), .int .u8 (d.toNat : Int)] 5)).drew := ⟨_, rfl⟩
  have s1 : W1.heap.size = w.heap.size + 1 := by rw [hW1]; simp
  have HC9 : Hid ((convert 107 9 (.slice (some ⟨w.heap.size + 1, 0, none⟩) 4 4)).run Tryd.prog W5 = .ok (.string (bs [a, b, c, d])) W5) := Lib.hid (by
    have h := conv_lit4 a b c d W1
    rw [s1, ← hW5] at h
    exact h)
  have HB8 : Hid ((Instr.buildSlice 107 4 #[(0, .int .u8 (a.toNat : Int)), (1, .int .u8 (b.toNat : Int)), (2, .int .u8 (c.toNat : Int)), (3, .int .u8 (d.toNat : Int))]).run Tryd.prog W1.drew = .ok (.slice (some ⟨w.heap.size + 1, 0, none⟩) 4 4) W5) := Lib.hid (by
    rw [hW5, ← s1]
    go_simp
    try rfl)
  have B5 : Hid (Below w.heap.size w W5) := Lib.hid (by
    rw [hW5, hW1]
    exact (((Below.refl _ _).alloc (Nat.le_refl _) _).alloc (grow1 _ _) _).drew)
  have R5 : Hid (Blk W5 w.heap.size 97 [.int .u8 0, .int .u64 0, .int .u32 0, .string ⟨#[]⟩]) := Lib.hid (by
    rw [hW5, hW1]
    exact Blk.alloc (w := w.alloc _) (heap_alloc_new w _) _)
  have HW1 := Lib.hid hW1
  have hgt : decide ((110 : Int) < (n : Int)) = false := decide_eq_false (by omega)
  obtain ⟨T, hT⟩ : ∃ T, T = (l.drop (14 + n)).take (110 - n) := ⟨_, rfl⟩
  obtain ⟨m, hm⟩ : ∃ m, m = 14 + n := ⟨_, rfl⟩
  have hmi : 14 + (n : Int) = (m : Int) := by omega
  have hm4 : m ≤ 124 := by omega
  have hx3 : (bs l).extract m 124 = bs T := by rw [bs_extract, hT, hm, show 124 - (14 + n) = 110 - n from by omega]
  have hsl : ∀ W, (Instr.slice 9 (.string (bs l)) (some (.int .i64 (m : Int))) (some (.int .i64 124)) none).run Tryd.prog W = .ok (.string (bs T)) W := fun W => run_str_slice l T m 124 W hm4 (by omega) hx3
  have HBT := Lib.hid (fun W => ref_blank T W (by rw [hT, List.length_take]; omega))
  rw [hT, ht] at HBT
  rw [← hT] at HBT
  clear hT ht hm
  clear ha hb hc hd hX hY hs hW5 s1 hW1 hn
  go_enter Tryd.func57, Tryd.ntmps57
  go_wp2_with fail
  refine (HB.out _).mono ?_
  rintro e w1 ⟨rfl, rfl⟩
  rw [← HW1.out]
  go_wp2_with fail
  refine wp_region_any (by kernel_rfl) ?_
  (try change wpAny _ _ _ _ _ _ _ (World.drew _))
  refine wpAny_take (i := 0) (oi := o5o0) (v := ?_) rfl (by kernel_rfl) (by kernel_rfl) (by kernel_rfl) (fun _ _ _ h => h) (Or.inl ⟨by rfl, ?_⟩) ?_
  rotate_left
  · (intro w; dsimp only [o5o0]; go_simp; try (with_reducible rfl))
  (try simp only [Act.put, List.setIfInBounds_toArray, List.set_cons_zero, List.set_cons_succ])
  refine wpAny_take (i := 1) (oi := o5o1) (v := ?_) rfl (by kernel_rfl) (by kernel_rfl) (by kernel_rfl) (fun _ _ _ h => h) (Or.inl ⟨by rfl, ?_⟩) ?_
  rotate_left
  · (intro w; dsimp only [o5o1]; go_simp; try (with_reducible rfl))
  (try simp only [Act.put, List.setIfInBounds_toArray, List.set_cons_zero, List.set_cons_succ])
  refine wpAny_take (i := 2) (oi := o5o2) (v := ?_) rfl (by kernel_rfl) (by kernel_rfl) (by kernel_rfl) (fun _ _ _ h => h) (Or.inl ⟨by rfl, ?_⟩) ?_
  rotate_left
  · (intro w; dsimp only [o5o2]; go_simp; try (with_reducible rfl))
  (try simp only [Act.put, List.setIfInBounds_toArray, List.set_cons_zero, List.set_cons_succ])
  refine wpAny_take (i := 3) (oi := o5o3) (v := ?_) rfl (by kernel_rfl) (by kernel_rfl) (by kernel_rfl) (fun _ _ _ h => h) (Or.inl ⟨by rfl, ?_⟩) ?_
  rotate_left
  · (intro w; dsimp only [o5o3]; go_simp; try (with_reducible rfl))
  (try simp only [Act.put, List.setIfInBounds_toArray, List.set_cons_zero, List.set_cons_succ])
  refine wpAny_take (i := 4) (oi := o5o4) (v := ?_) rfl (by kernel_rfl) (by kernel_rfl) (by kernel_rfl) (fun _ _ _ h => h) (Or.inl ⟨by rfl, ?_⟩) ?_
  rotate_left
  · (intro w; dsimp only [o5o4]; go_simp; try (with_reducible rfl))
  (try simp only [Act.put, List.setIfInBounds_toArray, List.set_cons_zero, List.set_cons_succ])
  refine wpAny_take (i := 5) (oi := o5o5) (v := ?_) rfl (by kernel_rfl) (by kernel_rfl) (by kernel_rfl) (fun _ _ _ h => h) (Or.inl ⟨by rfl, ?_⟩) ?_
  rotate_left
  · (intro w; dsimp only [o5o5]; go_simp; try (with_reducible rfl))
  (try simp only [Act.put, List.setIfInBounds_toArray, List.set_cons_zero, List.set_cons_succ])
  refine wpAny_take (i := 6) (oi := o5o6) (v := ?_) rfl (by kernel_rfl) (by kernel_rfl) (by kernel_rfl) (fun _ _ _ h => h) (Or.inl ⟨by rfl, ?_⟩) ?_
  rotate_left
  · (intro w; dsimp only [o5o6]; go_simp; try (with_reducible rfl))
  (try simp only [Act.put, List.setIfInBounds_toArray, List.set_cons_zero, List.set_cons_succ])
  refine wpAny_take (i := 7) (oi := o5o7) (v := ?_) rfl (by kernel_rfl) (by kernel_rfl) (by kernel_rfl) (fun _ _ _ h => h) (Or.inl ⟨by rfl, ?_⟩) ?_
  rotate_left
  · (intro w; dsimp only [o5o7]; go_simp; try (with_reducible rfl))
  (try simp only [Act.put, List.setIfInBounds_toArray, List.set_cons_zero, List.set_cons_succ])
  refine wpAny_take (i := 11) (oi := o5o11) (v := ?_) rfl (by kernel_rfl) (by kernel_rfl) (by kernel_rfl) (fun _ _ _ h => h) (Or.inl ⟨by rfl, ?_⟩) ?_
  rotate_left
  · (intro w; dsimp only [o5o11]; go_simp; try (with_reducible rfl))
  (try simp only [Act.put, List.setIfInBounds_toArray, List.set_cons_zero, List.set_cons_succ])
  refine wpAny_take (i := 12) (oi := o5o12) (v := ?_) rfl (by kernel_rfl) (by kernel_rfl) (by kernel_rfl) (fun _ _ _ h => h) (Or.inl ⟨by rfl, ?_⟩) ?_
  rotate_left
  · (intro w; dsimp only [o5o12]; go_simp; try (with_reducible rfl))
  (try simp only [Act.put, List.setIfInBounds_toArray, List.set_cons_zero, List.set_cons_succ])
  refine wpAny_ready (rs := [8]) (by kernel_rfl) (by simp) ?_
  refine AllReady.cons (o := o5o8) rfl (fun K hK => ?_) AllReady.nil
  rw [if_pos (by rfl)]
  refine wp_build_isR _ _ _ rfl #[(0, .int .u8 (a.toNat : Int)), (1, .int .u8 (b.toNat : Int)), (2, .int .u8 (c.toNat : Int)), (3, .int .u8 (d.toNat : Int))] (by simp [Act.eval]) (.slice (some ⟨w.heap.size + 1, 0, none⟩) 4 4) W5 HB8.out ?_
  refine hK _ _ ?_
  clear hK K
  (try simp only [Act.put, List.setIfInBounds_toArray, List.set_cons_zero, List.set_cons_succ])
  refine wpAny_ready (rs := [9]) (by kernel_rfl) (by simp) ?_
  refine AllReady.cons (o := o5o9) rfl (fun K hK => ?_) AllReady.nil
  rw [if_pos (by rfl)]
  refine wp_conv_is _ _ _ rfl (.slice (some ⟨w.heap.size + 1, 0, none⟩) 4 4) rfl (.string (bs [a, b, c, d])) HC9.out ?_
  refine hK _ _ ?_
  clear hK K
  (try simp only [Act.put, List.setIfInBounds_toArray, List.set_cons_zero, List.set_cons_succ])
  refine wpAny_ready (rs := [10]) (by kernel_rfl) (by simp) ?_
  refine AllReady.cons (o := o5o10) rfl (fun K hK => ?_) AllReady.nil
  have HK := Lib.hid hK
  clear hK
  dsimp only [o5o10]
  go_simp
  refine (HV.out _).mono ?_
  rintro e v1 ⟨rfl, rfl⟩
  (try go_wp2_with fail)
  refine HK.out _ _ ?_
  clear HK K
  (try simp only [Act.put, List.setIfInBounds_toArray, List.set_cons_zero, List.set_cons_succ])
  refine wpAny_ready (rs := [13]) (by kernel_rfl) (by simp) ?_
  refine AllReady.cons (o := o5o13) rfl (fun K hK => ?_) AllReady.nil
  have HK := Lib.hid hK
  clear hK
  dsimp only [o5o13]
  go_simp
  refine (HS.out _).mono ?_
  rintro e v1 ⟨rfl, rfl⟩
  (try go_wp2_with fail)
  refine HK.out _ _ ?_
  clear HK K
  (try simp only [Act.put, List.setIfInBounds_toArray, List.set_cons_zero, List.set_cons_succ])
  refine wpAny_take (i := 14) (oi := o5o14) (v := ?_) rfl (by kernel_rfl) (by kernel_rfl) (by kernel_rfl) (fun _ _ _ h => h) (Or.inl ⟨by rfl, ?_⟩) ?_
  rotate_left
  · (intro w; dsimp only [o5o14]; go_simp; try (with_reducible rfl))
  (try simp only [Act.put, List.setIfInBounds_toArray, List.set_cons_zero, List.set_cons_succ])
  refine wpAny_done (by kernel_rfl) ?_ _
  obtain ⟨c0, c1, c2, c3⟩ := R5.out.four
  have f0 := R5.out.frozen 0
  have f1 := R5.out.frozen 1
  have f2 := R5.out.frozen 2
  have f3 := R5.out.frozen 3
  go_wp2_with fail
  refine (HBT.out _).mono ?_
  rintro e w2 ⟨rfl, rfl⟩
  go_wp2_with fail
  obtain ⟨d0, d1, d2, d3⟩ := (R5.out.put4 (.int .u8 0) (.int .u64 0) (.int .u32 0) (.string ⟨#[]⟩)).four
  refine bodyPost_ret (v := .tuple #[recZ, .int .i64 4]) (by simp [results, Tryd.results57, go_sem, recZ, d0, d1, d2, d3]) rfl ⟨rfl, ?_⟩
  exact below_put4 B5.out (Nat.le_refl _) _ _ _ _

set_option maxHeartbeats 4000000 in
set_option maxRecDepth 100000 in
theorem ref_Open_ok (l : List UInt8) (n : Nat) (w : World) (hl : l.length = 128) (hz : zeroL l = false) (hs : l.drop 124 = leL (crcSum (l.take 124))) (hn : n = (l[13]).toNat) (hg : n ≤ 110) (ht : zeroL ((l.drop (14 + n)).take (110 - n)) = true) :
    Calls Tryd.prog 57 #[.string (bs l)] w fun e w' => e = .returned (.tuple #[.agg #[.int .u8 ((l[0]).toNat : Int), .int .u64 ((beV ((l.drop 1).take 8) : Nat) : Int), .int .u32 ((beV ((l.drop 9).take 4) : Nat) : Int), .string (bs ((l.drop 14).take n))], .int .i64 0]) ∧ Below w.heap.size w w' := by
  have hsz := (bs_size l).trans hl
  have HB := Lib.hid (fun W => ref_blank l W (by omega))
  rw [hz] at HB
  obtain ⟨a, ha⟩ : ∃ a, a = l[127] := ⟨_, rfl⟩
  obtain ⟨b, hb⟩ : ∃ b, b = l[126] := ⟨_, rfl⟩
  obtain ⟨c, hc⟩ : ∃ c, c = l[125] := ⟨_, rfl⟩
  obtain ⟨d, hd⟩ : ∃ d, d = l[124] := ⟨_, rfl⟩
  have g127 : (bs l)[127]'(by rw [bs_size]; omega) = a := by rw [ha]; rfl
  have g126 : (bs l)[126]'(by rw [bs_size]; omega) = b := by rw [hb]; rfl
  have g125 : (bs l)[125]'(by rw [bs_size]; omega) = c := by rw [hc]; rfl
  have g124 : (bs l)[124]'(by rw [bs_size]; omega) = d := by rw [hd]; rfl
  obtain ⟨X, hX⟩ : ∃ X, X = crcSum (l.take 124) := ⟨_, rfl⟩
  obtain ⟨Y, hY⟩ : ∃ Y, Y = beV [a, b, c, d] := ⟨_, rfl⟩
  have hXY : ((Y : Int) != (X : Int)) = false := by
    have e : Y = X := by
      rw [drop_four hl, ← ha, ← hb, ← hc, ← hd, ← hX] at hs
      rw [hY]
      exact (leL_beV (by rw [hX]; exact crcSum_lt _) a b c d).1 hs
    rw [e]; simp
  have hnn : ((((bs l)[13]'(by rw [bs_size]; omega)).toNat : Nat) : Int) = (n : Int) := by rw [hn]; rfl
  have hnb : n < 256 := by rw [hn]; exact (l[13]).toNat_lt
  have hnw : IntKind.i64.wrap (n : Int) = (n : Int) := IntWalk.i64_in _ (by omega)
  have hnw2 : IntKind.i64.wrap (14 + (n : Int)) = 14 + (n : Int) := IntWalk.i64_in _ (by omega)
  have hx2 : (bs l).extract 0 124 = bs (l.take 124) := bs_H l
  have HS : Hid (∀ W, Calls Tryd.prog 78 #[.string (bs (l.take 124))] W fun e w' => e = .returned (.int .u64 (X : Int)) ∧ W = w') := Lib.hid (fun W => by
    have h := ref_Sum (bs (l.take 124)) W (by rw [bs_size, List.length_take]; omega)
    rw [bs_list, ← hX] at h
    exact h)
  have HV : Hid (∀ W, Calls Tryd.prog 83 #[.string (bs [a, b, c, d])] W fun e w' => e = .returned (.int .u64 (Y : Int)) ∧ W = w') := Lib.hid (fun W => by
    have h := ref_value [a, b, c, d] W (by simp)
    rw [← hY] at h
    exact h)
  obtain ⟨W1, hW1⟩ : ∃ W1, W1 = w.alloc (.cells #[.int .u8 0, .int .u64 0, .int .u32 0, .string ⟨#[]⟩] 97) := ⟨_, rfl⟩
  obtain ⟨W5, hW5⟩ : ∃ W5, W5 = (W1.alloc (.cells #[.int .u8 (a.toNat : Int), .int .u8 (b.toNat : Int), .int .u8 (c.toNat : Int), .int .u8 (d.toNat : Int)] 5)).drew := ⟨_, rfl⟩
  have s1 : W1.heap.size = w.heap.size + 1 := by rw [hW1]; simp
  have HC9 : Hid ((convert 107 9 (.slice (some ⟨w.heap.size + 1, 0, none⟩) 4 4)).run Tryd.prog W5 = .ok (.string (bs [a, b, c, d])) W5) := Lib.hid (by
    have h := conv_lit4 a b c d W1
    rw [s1, ← hW5] at h
    exact h)
  have HB8 : Hid ((Instr.buildSlice 107 4 #[(0, .int .u8 (a.toNat : Int)), (1, .int .u8 (b.toNat : Int)), (2, .int .u8 (c.toNat : Int)), (3, .int .u8 (d.toNat : Int))]).run Tryd.prog W1.drew = .ok (.slice (some ⟨w.heap.size + 1, 0, none⟩) 4 4) W5) := Lib.hid (by
    rw [hW5, ← s1]
    go_simp
    try rfl)
  have B5 : Hid (Below w.heap.size w W5) := Lib.hid (by
    rw [hW5, hW1]
    exact (((Below.refl _ _).alloc (Nat.le_refl _) _).alloc (grow1 _ _) _).drew)
  have R5 : Hid (Blk W5 w.heap.size 97 [.int .u8 0, .int .u64 0, .int .u32 0, .string ⟨#[]⟩]) := Lib.hid (by
    rw [hW5, hW1]
    exact Blk.alloc (w := w.alloc _) (heap_alloc_new w _) _)
  have HW1 := Lib.hid hW1
  have hgt : decide ((110 : Int) < (n : Int)) = false := decide_eq_false (by omega)
  obtain ⟨T, hT⟩ : ∃ T, T = (l.drop (14 + n)).take (110 - n) := ⟨_, rfl⟩
  obtain ⟨m, hm⟩ : ∃ m, m = 14 + n := ⟨_, rfl⟩
  have hmi : 14 + (n : Int) = (m : Int) := by omega
  have hm4 : m ≤ 124 := by omega
  have hx3 : (bs l).extract m 124 = bs T := by rw [bs_extract, hT, hm, show 124 - (14 + n) = 110 - n from by omega]
  have hsl : ∀ W, (Instr.slice 9 (.string (bs l)) (some (.int .i64 (m : Int))) (some (.int .i64 124)) none).run Tryd.prog W = .ok (.string (bs T)) W := fun W => run_str_slice l T m 124 W hm4 (by omega) hx3
  have HBT := Lib.hid (fun W => ref_blank T W (by rw [hT, List.length_take]; omega))
  rw [hT, ht] at HBT
  rw [← hT] at HBT
  obtain ⟨x0, hx0⟩ : ∃ x0, x0 = (l[0]).toNat := ⟨_, rfl⟩
  obtain ⟨L1, hL1⟩ : ∃ L1, L1 = (l.drop 1).take 8 := ⟨_, rfl⟩
  obtain ⟨L2, hL2⟩ : ∃ L2, L2 = (l.drop 9).take 4 := ⟨_, rfl⟩
  obtain ⟨L3, hL3⟩ : ∃ L3, L3 = (l.drop 14).take n := ⟨_, rfl⟩
  have g0 : ((((bs l)[0]'(by rw [bs_size]; omega)).toNat : Nat) : Int) = (x0 : Int) := by rw [hx0]; rfl
  have hy1 : (bs l).extract 1 9 = bs L1 := by rw [bs_extract, hL1]
  have hy2 : (bs l).extract 9 13 = bs L2 := by rw [bs_extract, hL2]
  have hy3 : (bs l).extract 14 m = bs L3 := by rw [bs_extract, hL3, hm, show 14 + n - 14 = n from by omega]
  rw [← hx0, ← hL1, ← hL2, ← hL3]
  obtain ⟨x1, hx1⟩ : ∃ x1, x1 = beV L1 := ⟨_, rfl⟩
  obtain ⟨x2, hx2'⟩ : ∃ x2, x2 = beV L2 := ⟨_, rfl⟩
  have hb2 : x2 < 4294967296 := by
    have h := beV_lt L2
    rw [hx2']
    have h4 : L2.length = 4 := by rw [hL2, List.length_take, List.length_drop]; omega
    rw [h4] at h
    exact h
  have hw2 : IntKind.u32.wrap (x2 : Int) = (x2 : Int) := by simp [IntKind.wrap, IntKind.bits, IntKind.signed]; omega
  have HV1 := Lib.hid (fun W => ref_value L1 W (by rw [hL1, List.length_take, List.length_drop]; omega))
  have HV2 := Lib.hid (fun W => ref_value L2 W (by rw [hL2, List.length_take, List.length_drop]; omega))
  rw [← hx1, ← hx2'] at *
  have hmn : m ≤ 128 := by omega
  have hmw : IntKind.i64.wrap (m : Int) = (m : Int) := IntWalk.i64_in _ (by omega)
  have hsl2 : ∀ W, (Instr.slice 9 (.string (bs l)) (some (.int .i64 14)) (some (.int .i64 (m : Int))) none).run Tryd.prog W = .ok (.string (bs L3)) W := fun W => run_str_slice l L3 14 m W (by omega) (by omega) hy3
  have h14 : 14 ≤ m := by omega
  clear hT ht hm hx0 hL1 hL2 hL3 hx1 hx2'
  clear ha hb hc hd hX hY hs hW5 s1 hW1 hn
  go_enter Tryd.func57, Tryd.ntmps57
  go_wp2_with fail
  refine (HB.out _).mono ?_
  rintro e w1 ⟨rfl, rfl⟩
  rw [← HW1.out]
  go_wp2_with fail
  refine wp_region_any (by kernel_rfl) ?_
  (try change wpAny _ _ _ _ _ _ _ (World.drew _))
  refine wpAny_take (i := 0) (oi := o5o0) (v := ?_) rfl (by kernel_rfl) (by kernel_rfl) (by kernel_rfl) (fun _ _ _ h => h) (Or.inl ⟨by rfl, ?_⟩) ?_
  rotate_left
  · (intro w; dsimp only [o5o0]; go_simp; try (with_reducible rfl))
  (try simp only [Act.put, List.setIfInBounds_toArray, List.set_cons_zero, List.set_cons_succ])
  refine wpAny_take (i := 1) (oi := o5o1) (v := ?_) rfl (by kernel_rfl) (by kernel_rfl) (by kernel_rfl) (fun _ _ _ h => h) (Or.inl ⟨by rfl, ?_⟩) ?_
  rotate_left
  · (intro w; dsimp only [o5o1]; go_simp; try (with_reducible rfl))
  (try simp only [Act.put, List.setIfInBounds_toArray, List.set_cons_zero, List.set_cons_succ])
  refine wpAny_take (i := 2) (oi := o5o2) (v := ?_) rfl (by kernel_rfl) (by kernel_rfl) (by kernel_rfl) (fun _ _ _ h => h) (Or.inl ⟨by rfl, ?_⟩) ?_
  rotate_left
  · (intro w; dsimp only [o5o2]; go_simp; try (with_reducible rfl))
  (try simp only [Act.put, List.setIfInBounds_toArray, List.set_cons_zero, List.set_cons_succ])
  refine wpAny_take (i := 3) (oi := o5o3) (v := ?_) rfl (by kernel_rfl) (by kernel_rfl) (by kernel_rfl) (fun _ _ _ h => h) (Or.inl ⟨by rfl, ?_⟩) ?_
  rotate_left
  · (intro w; dsimp only [o5o3]; go_simp; try (with_reducible rfl))
  (try simp only [Act.put, List.setIfInBounds_toArray, List.set_cons_zero, List.set_cons_succ])
  refine wpAny_take (i := 4) (oi := o5o4) (v := ?_) rfl (by kernel_rfl) (by kernel_rfl) (by kernel_rfl) (fun _ _ _ h => h) (Or.inl ⟨by rfl, ?_⟩) ?_
  rotate_left
  · (intro w; dsimp only [o5o4]; go_simp; try (with_reducible rfl))
  (try simp only [Act.put, List.setIfInBounds_toArray, List.set_cons_zero, List.set_cons_succ])
  refine wpAny_take (i := 5) (oi := o5o5) (v := ?_) rfl (by kernel_rfl) (by kernel_rfl) (by kernel_rfl) (fun _ _ _ h => h) (Or.inl ⟨by rfl, ?_⟩) ?_
  rotate_left
  · (intro w; dsimp only [o5o5]; go_simp; try (with_reducible rfl))
  (try simp only [Act.put, List.setIfInBounds_toArray, List.set_cons_zero, List.set_cons_succ])
  refine wpAny_take (i := 6) (oi := o5o6) (v := ?_) rfl (by kernel_rfl) (by kernel_rfl) (by kernel_rfl) (fun _ _ _ h => h) (Or.inl ⟨by rfl, ?_⟩) ?_
  rotate_left
  · (intro w; dsimp only [o5o6]; go_simp; try (with_reducible rfl))
  (try simp only [Act.put, List.setIfInBounds_toArray, List.set_cons_zero, List.set_cons_succ])
  refine wpAny_take (i := 7) (oi := o5o7) (v := ?_) rfl (by kernel_rfl) (by kernel_rfl) (by kernel_rfl) (fun _ _ _ h => h) (Or.inl ⟨by rfl, ?_⟩) ?_
  rotate_left
  · (intro w; dsimp only [o5o7]; go_simp; try (with_reducible rfl))
  (try simp only [Act.put, List.setIfInBounds_toArray, List.set_cons_zero, List.set_cons_succ])
  refine wpAny_take (i := 11) (oi := o5o11) (v := ?_) rfl (by kernel_rfl) (by kernel_rfl) (by kernel_rfl) (fun _ _ _ h => h) (Or.inl ⟨by rfl, ?_⟩) ?_
  rotate_left
  · (intro w; dsimp only [o5o11]; go_simp; try (with_reducible rfl))
  (try simp only [Act.put, List.setIfInBounds_toArray, List.set_cons_zero, List.set_cons_succ])
  refine wpAny_take (i := 12) (oi := o5o12) (v := ?_) rfl (by kernel_rfl) (by kernel_rfl) (by kernel_rfl) (fun _ _ _ h => h) (Or.inl ⟨by rfl, ?_⟩) ?_
  rotate_left
  · (intro w; dsimp only [o5o12]; go_simp; try (with_reducible rfl))
  (try simp only [Act.put, List.setIfInBounds_toArray, List.set_cons_zero, List.set_cons_succ])
  refine wpAny_ready (rs := [8]) (by kernel_rfl) (by simp) ?_
  refine AllReady.cons (o := o5o8) rfl (fun K hK => ?_) AllReady.nil
  rw [if_pos (by rfl)]
  refine wp_build_isR _ _ _ rfl #[(0, .int .u8 (a.toNat : Int)), (1, .int .u8 (b.toNat : Int)), (2, .int .u8 (c.toNat : Int)), (3, .int .u8 (d.toNat : Int))] (by simp [Act.eval]) (.slice (some ⟨w.heap.size + 1, 0, none⟩) 4 4) W5 HB8.out ?_
  refine hK _ _ ?_
  clear hK K
  (try simp only [Act.put, List.setIfInBounds_toArray, List.set_cons_zero, List.set_cons_succ])
  refine wpAny_ready (rs := [9]) (by kernel_rfl) (by simp) ?_
  refine AllReady.cons (o := o5o9) rfl (fun K hK => ?_) AllReady.nil
  rw [if_pos (by rfl)]
  refine wp_conv_is _ _ _ rfl (.slice (some ⟨w.heap.size + 1, 0, none⟩) 4 4) rfl (.string (bs [a, b, c, d])) HC9.out ?_
  refine hK _ _ ?_
  clear hK K
  (try simp only [Act.put, List.setIfInBounds_toArray, List.set_cons_zero, List.set_cons_succ])
  refine wpAny_ready (rs := [10]) (by kernel_rfl) (by simp) ?_
  refine AllReady.cons (o := o5o10) rfl (fun K hK => ?_) AllReady.nil
  have HK := Lib.hid hK
  clear hK
  dsimp only [o5o10]
  go_simp
  refine (HV.out _).mono ?_
  rintro e v1 ⟨rfl, rfl⟩
  (try go_wp2_with fail)
  refine HK.out _ _ ?_
  clear HK K
  (try simp only [Act.put, List.setIfInBounds_toArray, List.set_cons_zero, List.set_cons_succ])
  refine wpAny_ready (rs := [13]) (by kernel_rfl) (by simp) ?_
  refine AllReady.cons (o := o5o13) rfl (fun K hK => ?_) AllReady.nil
  have HK := Lib.hid hK
  clear hK
  dsimp only [o5o13]
  go_simp
  refine (HS.out _).mono ?_
  rintro e v1 ⟨rfl, rfl⟩
  (try go_wp2_with fail)
  refine HK.out _ _ ?_
  clear HK K
  (try simp only [Act.put, List.setIfInBounds_toArray, List.set_cons_zero, List.set_cons_succ])
  refine wpAny_take (i := 14) (oi := o5o14) (v := ?_) rfl (by kernel_rfl) (by kernel_rfl) (by kernel_rfl) (fun _ _ _ h => h) (Or.inl ⟨by rfl, ?_⟩) ?_
  rotate_left
  · (intro w; dsimp only [o5o14]; go_simp; try (with_reducible rfl))
  (try simp only [Act.put, List.setIfInBounds_toArray, List.set_cons_zero, List.set_cons_succ])
  refine wpAny_done (by kernel_rfl) ?_ _
  obtain ⟨c0, c1, c2, c3⟩ := R5.out.four
  have f0 := R5.out.frozen 0
  have f1 := R5.out.frozen 1
  have f2 := R5.out.frozen 2
  have f3 := R5.out.frozen 3
  go_wp2_with fail
  refine (HBT.out _).mono ?_
  rintro e w2 ⟨rfl, rfl⟩
  go_wp2_with fail
  have hthere : W5.drew.there w.heap.size 0 4 := fun j hj => by
    have e := R5.out.cell j
    refine ⟨?_, R5.out.frozen _⟩
    rw [Nat.zero_add]
    show (W5.cell? _).isSome = true
    rw [e]
    match j, hj with
    | 0, _ => rfl
    | 1, _ => rfl
    | 2, _ => rfl
    | 3, _ => rfl
  obtain ⟨W6, hW6⟩ : ∃ W6, W6 = ((((W5.drew.setCell ⟨w.heap.size, 0, none⟩ (.int .u8 (x0 : Int))).setCell ⟨w.heap.size, 1, none⟩ (.int .u64 (x1 : Int))).setCell ⟨w.heap.size, 2, none⟩ (.int .u32 (x2 : Int))).setCell ⟨w.heap.size, 3, none⟩ (.string (bs L3))) := ⟨_, rfl⟩
  have R6 : Hid (Blk W6 w.heap.size 97 [.int .u8 (x0 : Int), .int .u64 (x1 : Int), .int .u32 (x2 : Int), .string (bs L3)]) := Lib.hid (by rw [hW6]; exact Blk.put4 (w := W5.drew) R5.out _ _ _ _)
  have B6 : Hid (Below w.heap.size w W6) := Lib.hid (by rw [hW6]; exact below_put4 B5.out.drew (Nat.le_refl _) _ _ _ _)
  have HS14 : Hid ((Instr.storeAt 97 (.pointer (some ⟨w.heap.size, 0, none⟩)) (.agg #[.int .u8 (x0 : Int), .int .u64 (x1 : Int), .int .u32 (x2 : Int), .string (bs L3)])).run Tryd.prog W5.drew = .ok () W6) := Lib.hid (by rw [hW6]; exact run_storeAt_mid W5.drew w.heap.size 0 97 #[.int .u8 (x0 : Int), .int .u64 (x1 : Int), .int .u32 (x2 : Int), .string (bs L3)] hthere (by kernel_rfl) (by simp [Value.oneCell']))
  clear hthere hW6
  refine wp_region_any (by kernel_rfl) ?_
  (try change wpAny _ _ _ _ _ _ _ (World.drew _))
  refine wpAny_take (i := 0) (oi := o10o0) (v := ?_) rfl (by kernel_rfl) (by kernel_rfl) (by kernel_rfl) (fun _ _ _ h => h) (Or.inl ⟨by rfl, ?_⟩) ?_
  rotate_left
  · (intro w; dsimp only [o10o0]; go_simp; try (with_reducible rfl))
  (try simp only [Act.put, List.setIfInBounds_toArray, List.set_cons_zero, List.set_cons_succ])
  refine wpAny_take (i := 1) (oi := o10o1) (v := ?_) rfl (by kernel_rfl) (by kernel_rfl) (by kernel_rfl) (fun _ _ _ h => h) (Or.inl ⟨by rfl, ?_⟩) ?_
  rotate_left
  · (intro w; dsimp only [o10o1]; go_simp; try (with_reducible rfl))
  (try simp only [Act.put, List.setIfInBounds_toArray, List.set_cons_zero, List.set_cons_succ])
  refine wpAny_take (i := 2) (oi := o10o2) (v := ?_) rfl (by kernel_rfl) (by kernel_rfl) (by kernel_rfl) (fun _ _ _ h => h) (Or.inl ⟨by rfl, ?_⟩) ?_
  rotate_left
  · (intro w; dsimp only [o10o2]; go_simp; try (with_reducible rfl))
  (try simp only [Act.put, List.setIfInBounds_toArray, List.set_cons_zero, List.set_cons_succ])
  refine wpAny_take (i := 3) (oi := o10o3) (v := ?_) rfl (by kernel_rfl) (by kernel_rfl) (by kernel_rfl) (fun _ _ _ h => h) (Or.inl ⟨by rfl, ?_⟩) ?_
  rotate_left
  · (intro w; dsimp only [o10o3]; go_simp; try (with_reducible rfl))
  (try simp only [Act.put, List.setIfInBounds_toArray, List.set_cons_zero, List.set_cons_succ])
  refine wpAny_take (i := 5) (oi := o10o5) (v := ?_) rfl (by kernel_rfl) (by kernel_rfl) (by kernel_rfl) (fun _ _ _ h => h) (Or.inl ⟨by rfl, ?_⟩) ?_
  rotate_left
  · (intro w; dsimp only [o10o5]; go_simp; try (with_reducible rfl))
  (try simp only [Act.put, List.setIfInBounds_toArray, List.set_cons_zero, List.set_cons_succ])
  refine wpAny_take (i := 6) (oi := o10o6) (v := ?_) rfl (by kernel_rfl) (by kernel_rfl) (by kernel_rfl) (fun _ _ _ h => h) (Or.inl ⟨by rfl, ?_⟩) ?_
  rotate_left
  · (intro w; dsimp only [o10o6]; go_simp; try (with_reducible rfl))
  (try simp only [Act.put, List.setIfInBounds_toArray, List.set_cons_zero, List.set_cons_succ])
  refine wpAny_take (i := 9) (oi := o10o9) (v := ?_) rfl (by kernel_rfl) (by kernel_rfl) (by kernel_rfl) (fun _ _ _ h => h) (Or.inl ⟨by rfl, ?_⟩) ?_
  rotate_left
  · (intro w; dsimp only [o10o9]; go_simp; try (with_reducible rfl))
  (try simp only [Act.put, List.setIfInBounds_toArray, List.set_cons_zero, List.set_cons_succ])
  refine wpAny_take (i := 10) (oi := o10o10) (v := ?_) rfl (by kernel_rfl) (by kernel_rfl) (by kernel_rfl) (fun _ _ _ h => h) (Or.inl ⟨by rfl, ?_⟩) ?_
  rotate_left
  · (intro w; dsimp only [o10o10]; go_simp; try (with_reducible rfl))
  (try simp only [Act.put, List.setIfInBounds_toArray, List.set_cons_zero, List.set_cons_succ])
  refine wpAny_take (i := 11) (oi := o10o11) (v := ?_) rfl (by kernel_rfl) (by kernel_rfl) (by kernel_rfl) (fun _ _ _ h => h) (Or.inl ⟨by rfl, ?_⟩) ?_
  rotate_left
  · (intro w; dsimp only [o10o11]; go_simp; try (with_reducible rfl))
  (try simp only [Act.put, List.setIfInBounds_toArray, List.set_cons_zero, List.set_cons_succ])
  refine wpAny_take (i := 12) (oi := o10o12) (v := ?_) rfl (by kernel_rfl) (by kernel_rfl) (by kernel_rfl) (fun _ _ _ h => h) (Or.inl ⟨by rfl, ?_⟩) ?_
  rotate_left
  · (intro w; dsimp only [o10o12]; go_simp; try (with_reducible rfl))
  (try simp only [Act.put, List.setIfInBounds_toArray, List.set_cons_zero, List.set_cons_succ])
  refine wpAny_ready (rs := [4]) (by kernel_rfl) (by simp) ?_
  refine AllReady.cons (o := o10o4) rfl (fun K hK => ?_) AllReady.nil
  have HK := Lib.hid hK
  clear hK
  dsimp only [o10o4]
  go_simp
  refine (HV1.out _).mono ?_
  rintro e v1 ⟨rfl, rfl⟩
  (try go_wp2_with fail)
  refine HK.out _ _ ?_
  clear HK K
  (try simp only [Act.put, List.setIfInBounds_toArray, List.set_cons_zero, List.set_cons_succ])
  refine wpAny_ready (rs := [7]) (by kernel_rfl) (by simp) ?_
  refine AllReady.cons (o := o10o7) rfl (fun K hK => ?_) AllReady.nil
  have HK := Lib.hid hK
  clear hK
  dsimp only [o10o7]
  go_simp
  refine (HV2.out _).mono ?_
  rintro e v1 ⟨rfl, rfl⟩
  (try go_wp2_with fail)
  refine HK.out _ _ ?_
  clear HK K
  (try simp only [Act.put, List.setIfInBounds_toArray, List.set_cons_zero, List.set_cons_succ])
  refine wpAny_take (i := 8) (oi := o10o8) (v := ?_) rfl (by kernel_rfl) (by kernel_rfl) (by kernel_rfl) (fun _ _ _ h => h) (Or.inl ⟨by rfl, ?_⟩) ?_
  rotate_left
  · (intro w; dsimp only [o10o8]; go_simp; try (with_reducible rfl))
  (try simp only [Act.put, List.setIfInBounds_toArray, List.set_cons_zero, List.set_cons_succ])
  refine wpAny_take (i := 13) (oi := o10o13) (v := ?_) rfl (by kernel_rfl) (by kernel_rfl) (by kernel_rfl) (fun _ _ _ h => h) (Or.inl ⟨by rfl, ?_⟩) ?_
  rotate_left
  · (intro w; dsimp only [o10o13]; go_simp; try (with_reducible rfl))
  (try simp only [Act.put, List.setIfInBounds_toArray, List.set_cons_zero, List.set_cons_succ])
  refine wpAny_ready (rs := [14]) (by kernel_rfl) (by simp) ?_
  refine AllReady.cons (o := o10o14) rfl (fun K hK => ?_) AllReady.nil
  rw [if_pos (by rfl)]
  refine wp_store_isR _ _ _ rfl ⟨w.heap.size, 0, none⟩ rfl _ rfl _ HS14.out ?_
  refine hK _ _ ?_
  clear hK K
  (try simp only [Act.put, List.setIfInBounds_toArray, List.set_cons_zero, List.set_cons_succ])
  refine wpAny_take (i := 15) (oi := o10o15) (v := ?_) rfl (by kernel_rfl) (by kernel_rfl) (by kernel_rfl) (fun _ _ _ h => h) (Or.inl ⟨by rfl, ?_⟩) ?_
  rotate_left
  · (intro w; dsimp only [o10o15]; go_simp; try (with_reducible rfl))
  (try simp only [Act.put, List.setIfInBounds_toArray, List.set_cons_zero, List.set_cons_succ])
  refine wpAny_done (by kernel_rfl) ?_ _
  go_wp2_with fail
  obtain ⟨d0, d1, d2, d3⟩ := R6.out.four
  refine bodyPost_ret (v := .tuple #[.agg #[.int .u8 (x0 : Int), .int .u64 (x1 : Int), .int .u32 (x2 : Int), .string (bs L3)], .int .i64 0]) (by simp [results, Tryd.results57, go_sem, d0, d1, d2, d3]) rfl ⟨rfl, ?_⟩
  exact B6.out

end Go.Proofs.YtbekebpkaeefiaaDoor
