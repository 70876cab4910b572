/- The walk of SealOpens: the record of any bytes, or what is wrong. Written by wip/tools/gen_sealopens.py. -/
import Derived.Test.YtciophpplpmmfaaDoorRefOpenC
import Derived.Test.YtciophpplpmmfaaDoorSealTells
namespace Go.Proofs.YtciophpplpmmfaaDoor
open Go.RowKit

abbrev so5o0 : Oper := { dst := some 23, op := Op.move (Operand.tmp 0), type := 9, pos := "law.go:31", after := #[], guard := none }
abbrev so5o1 : Oper := { dst := some 24, op := Op.slice 9 (Operand.tmp 23) none (some (Operand.const (Value.int IntKind.i64 124))) none, type := 9, pos := "law.go:31", after := #[{ on := 0, ground := Ground.data }], guard := none }
abbrev so5o2 : Oper := { dst := some 25, op := Op.move (Operand.tmp 5), type := 23, pos := "law.go:31", after := #[], guard := none }
abbrev so5o3 : Oper := { dst := some 26, op := Op.convert 23 5 (Operand.tmp 25), type := 5, pos := "law.go:31", after := #[{ on := 2, ground := Ground.data }], guard := none }
abbrev so5o4 : Oper := { dst := some 27, op := Op.move (Operand.tmp 5), type := 23, pos := "law.go:31", after := #[], guard := none }
abbrev so5o5 : Oper := { dst := some 28, op := Op.binOp BinOp.shr 23 (Operand.tmp 27) (Operand.const (Value.int IntKind.u64 8)) 25, type := 23, pos := "law.go:31", after := #[{ on := 4, ground := Ground.data }], guard := none }
abbrev so5o6 : Oper := { dst := some 29, op := Op.convert 23 5 (Operand.tmp 28), type := 5, pos := "law.go:31", after := #[{ on := 5, ground := Ground.data }], guard := none }
abbrev so5o7 : Oper := { dst := some 30, op := Op.move (Operand.tmp 5), type := 23, pos := "law.go:31", after := #[], guard := none }
abbrev so5o8 : Oper := { dst := some 31, op := Op.binOp BinOp.shr 23 (Operand.tmp 30) (Operand.const (Value.int IntKind.u64 16)) 25, type := 23, pos := "law.go:31", after := #[{ on := 7, ground := Ground.data }], guard := none }
abbrev so5o9 : Oper := { dst := some 32, op := Op.convert 23 5 (Operand.tmp 31), type := 5, pos := "law.go:31", after := #[{ on := 8, ground := Ground.data }], guard := none }
abbrev so5o10 : Oper := { dst := some 33, op := Op.move (Operand.tmp 5), type := 23, pos := "law.go:31", after := #[], guard := none }
abbrev so5o11 : Oper := { dst := some 34, op := Op.binOp BinOp.shr 23 (Operand.tmp 33) (Operand.const (Value.int IntKind.u64 24)) 25, type := 23, pos := "law.go:31", after := #[{ on := 10, ground := Ground.data }], guard := none }
abbrev so5o12 : Oper := { dst := some 35, op := Op.convert 23 5 (Operand.tmp 34), type := 5, pos := "law.go:31", after := #[{ on := 11, ground := Ground.data }], guard := none }
abbrev so5o13 : Oper := { dst := some 36, op := Op.buildSlice 26 4 #[(0, Operand.tmp 26), (1, Operand.tmp 29), (2, Operand.tmp 32), (3, Operand.tmp 35)], type := 26, pos := "law.go:31", after := #[{ on := 3, ground := Ground.data }, { on := 6, ground := Ground.data }, { on := 9, ground := Ground.data }, { on := 12, ground := Ground.data }], guard := none }
abbrev so5o14 : Oper := { dst := some 37, op := Op.convert 26 9 (Operand.tmp 36), type := 9, pos := "law.go:31", after := #[{ on := 13, ground := Ground.data }], guard := none }
abbrev so5o15 : Oper := { dst := some 38, op := Op.binOp BinOp.add 9 (Operand.tmp 24) (Operand.tmp 37) 9, type := 9, pos := "law.go:31", after := #[{ on := 1, ground := Ground.data }, { on := 14, ground := Ground.data }], guard := none }
abbrev so5o16 : Oper := { dst := some 0, op := Op.assign (Operand.tmp 38), type := 9, pos := "law.go:31", after := #[{ on := 15, ground := Ground.data }, { on := 0, ground := Ground.phase }, { on := 1, ground := Ground.phase }, { on := 2, ground := Ground.phase }, { on := 3, ground := Ground.phase }, { on := 4, ground := Ground.phase }, { on := 5, ground := Ground.phase }, { on := 6, ground := Ground.phase }, { on := 7, ground := Ground.phase }, { on := 8, ground := Ground.phase }, { on := 9, ground := Ground.phase }, { on := 10, ground := Ground.phase }, { on := 11, ground := Ground.phase }, { on := 12, ground := Ground.phase }, { on := 13, ground := Ground.phase }, { on := 14, ground := Ground.phase }, { on := 15, ground := Ground.phase }], guard := none }

set_option maxHeartbeats 4000000 in
set_option maxRecDepth 100000 in
theorem opens_idle (l : List UInt8) (b : Bool) (w : World) (hl : 300 < l.length) (hl2 : l.length ≤ 9223372036854775807) :
    Calls Tryd.prog 3 #[.string (bs l), .bool b] w fun e w' => e = .returned (.bool true) ∧ Below w.heap.size w w' := by
  have hsz := bs_size l
  have HA := Lib.hid seal_Awake
  have hd : decide ((300 : Int) < (l.length : Int)) = true := decide_eq_true (by omega)
  go_enter Tryd.func3, Tryd.ntmps3
  go_wp2_with fail
  refine (HA.out _).mono ?_
  rintro e wC ⟨rfl, hbC⟩
  go_wp2_with fail
  go_ret
  exact ⟨rfl, hbC⟩

set_option maxHeartbeats 4000000 in
set_option maxRecDepth 100000 in
theorem opens_plain (l : List UInt8) (w : World) (hl : l.length ≤ 300) :
    Calls Tryd.prog 3 #[.string (bs l), .bool false] w fun e w' => e = .returned (.bool true) ∧ Below w.heap.size w w' := by
  have hsz := bs_size l
  have hd : decide ((300 : Int) < (l.length : Int)) = false := decide_eq_false (by omega)
  obtain ⟨r, hr⟩ : ∃ r, r = (openT l).1 := ⟨_, rfl⟩
  obtain ⟨c, hc⟩ : ∃ c, c = (openT l).2 := ⟨_, rfl⟩
  have HO := Lib.hid (fun W => by have h := seal_Open l W (by omega); rw [← hr, ← hc] at h; exact h : ∀ W, Calls Tryd.prog 8 #[.string (bs l)] W fun e w' => e = .returned (.tuple #[.agg #[.int .u8 (r.1 : Int), .int .u64 (r.2.1 : Int), .int .u32 (r.2.2.1 : Int), .string (bs r.2.2.2)], .int .i64 (c : Int)]) ∧ Below W.heap.size W w')
  have HR := Lib.hid (fun W => by have h := ref_Open l W (by omega); rw [← hr, ← hc] at h; exact h : ∀ W, Calls Tryd.prog 9 #[.string (bs l)] W fun e w' => e = .returned (.tuple #[.agg #[.int .u8 (r.1 : Int), .int .u64 (r.2.1 : Int), .int .u32 (r.2.2.1 : Int), .string (bs r.2.2.2)], .int .i64 (c : Int)]) ∧ Below W.heap.size W w')
  have hss : ((bs r.2.2.2).toList == (bs r.2.2.2).toList) = true := by simp
  have HA := Lib.hid seal_Awake
  have B0 := Lib.hid (Below.refl w.heap.size w)
  clear hr hc
  go_enter Tryd.func3, Tryd.ntmps3
  go_wp2_with fail
  refine (HO.out _).mono ?_
  rintro e wA ⟨rfl, hbA⟩
  have BA := Lib.hid (B0.out.trans (hbA.mono B0.out.size))
  have B1 := Lib.hid (BA.out.alloc BA.out.size (.cells #[.int .u8 (r.1 : Int), .int .u64 (r.2.1 : Int), .int .u32 (r.2.2.1 : Int), .string (bs r.2.2.2)] 29))
  have R1 : Hid (Blk (wA.alloc (.cells #[.int .u8 (r.1 : Int), .int .u64 (r.2.1 : Int), .int .u32 (r.2.2.1 : Int), .string (bs r.2.2.2)] 29)) wA.heap.size 29 [.int .u8 (r.1 : Int), .int .u64 (r.2.1 : Int), .int .u32 (r.2.2.1 : Int), .string (bs r.2.2.2)]) := Lib.hid (heap_alloc_new wA _)
  clear hbA
  go_wp2_with fail
  refine (HR.out _).mono ?_
  rintro e wB ⟨rfl, hbB⟩
  have R2 := Lib.hid ((R1.out.keep hbB).alloc (.cells #[.int .u8 (r.1 : Int), .int .u64 (r.2.1 : Int), .int .u32 (r.2.2.1 : Int), .string (bs r.2.2.2)] 33))
  have BB := Lib.hid (B1.out.trans (hbB.mono B1.out.size))
  have B3 := Lib.hid (BB.out.alloc BB.out.size (.cells #[.int .u8 (r.1 : Int), .int .u64 (r.2.1 : Int), .int .u32 (r.2.2.1 : Int), .string (bs r.2.2.2)] 33))
  have Q2 : Hid (Blk (wB.alloc (.cells #[.int .u8 (r.1 : Int), .int .u64 (r.2.1 : Int), .int .u32 (r.2.2.1 : Int), .string (bs r.2.2.2)] 33)) wB.heap.size 33 [.int .u8 (r.1 : Int), .int .u64 (r.2.1 : Int), .int .u32 (r.2.2.1 : Int), .string (bs r.2.2.2)]) := Lib.hid (heap_alloc_new wB _)
  clear hbB
  go_wp2_with fail
  refine (HA.out _).mono ?_
  rintro e wC ⟨rfl, hbC⟩
  have B4 := Lib.hid (B3.out.trans (hbC.mono B3.out.size))
  obtain ⟨c0, c1, c2, c3⟩ := (R2.out.keep hbC).four
  obtain ⟨d0, d1, d2, d3⟩ := (Q2.out.keep hbC).four
  clear hbC
  go_wp2_with fail
  go_ret
  exact ⟨rfl, B4.out⟩

set_option maxHeartbeats 4000000 in
set_option maxRecDepth 100000 in
theorem opens_other (l : List UInt8) (w : World) (hl : l.length ≤ 300) (hne : l.length ≠ 128) :
    Calls Tryd.prog 3 #[.string (bs l), .bool true] w fun e w' => e = .returned (.bool true) ∧ Below w.heap.size w w' := by
  have hsz := bs_size l
  have hd : decide ((300 : Int) < (l.length : Int)) = false := decide_eq_false (by omega)
  have hn2 : ((l.length : Int) == 128) = false := by rw [beq_eq_false_iff_ne]; omega
  obtain ⟨r, hr⟩ : ∃ r, r = (openT l).1 := ⟨_, rfl⟩
  obtain ⟨c, hc⟩ : ∃ c, c = (openT l).2 := ⟨_, rfl⟩
  have HO := Lib.hid (fun W => by have h := seal_Open l W (by omega); rw [← hr, ← hc] at h; exact h : ∀ W, Calls Tryd.prog 8 #[.string (bs l)] W fun e w' => e = .returned (.tuple #[.agg #[.int .u8 (r.1 : Int), .int .u64 (r.2.1 : Int), .int .u32 (r.2.2.1 : Int), .string (bs r.2.2.2)], .int .i64 (c : Int)]) ∧ Below W.heap.size W w')
  have HR := Lib.hid (fun W => by have h := ref_Open l W (by omega); rw [← hr, ← hc] at h; exact h : ∀ W, Calls Tryd.prog 9 #[.string (bs l)] W fun e w' => e = .returned (.tuple #[.agg #[.int .u8 (r.1 : Int), .int .u64 (r.2.1 : Int), .int .u32 (r.2.2.1 : Int), .string (bs r.2.2.2)], .int .i64 (c : Int)]) ∧ Below W.heap.size W w')
  have hss : ((bs r.2.2.2).toList == (bs r.2.2.2).toList) = true := by simp
  have HA := Lib.hid seal_Awake
  have B0 := Lib.hid (Below.refl w.heap.size w)
  clear hr hc
  go_enter Tryd.func3, Tryd.ntmps3
  go_wp2_with fail
  refine (HO.out _).mono ?_
  rintro e wA ⟨rfl, hbA⟩
  have BA := Lib.hid (B0.out.trans (hbA.mono B0.out.size))
  have B1 := Lib.hid (BA.out.alloc BA.out.size (.cells #[.int .u8 (r.1 : Int), .int .u64 (r.2.1 : Int), .int .u32 (r.2.2.1 : Int), .string (bs r.2.2.2)] 29))
  have R1 : Hid (Blk (wA.alloc (.cells #[.int .u8 (r.1 : Int), .int .u64 (r.2.1 : Int), .int .u32 (r.2.2.1 : Int), .string (bs r.2.2.2)] 29)) wA.heap.size 29 [.int .u8 (r.1 : Int), .int .u64 (r.2.1 : Int), .int .u32 (r.2.2.1 : Int), .string (bs r.2.2.2)]) := Lib.hid (heap_alloc_new wA _)
  clear hbA
  go_wp2_with fail
  refine (HR.out _).mono ?_
  rintro e wB ⟨rfl, hbB⟩
  have R2 := Lib.hid ((R1.out.keep hbB).alloc (.cells #[.int .u8 (r.1 : Int), .int .u64 (r.2.1 : Int), .int .u32 (r.2.2.1 : Int), .string (bs r.2.2.2)] 33))
  have BB := Lib.hid (B1.out.trans (hbB.mono B1.out.size))
  have B3 := Lib.hid (BB.out.alloc BB.out.size (.cells #[.int .u8 (r.1 : Int), .int .u64 (r.2.1 : Int), .int .u32 (r.2.2.1 : Int), .string (bs r.2.2.2)] 33))
  have Q2 : Hid (Blk (wB.alloc (.cells #[.int .u8 (r.1 : Int), .int .u64 (r.2.1 : Int), .int .u32 (r.2.2.1 : Int), .string (bs r.2.2.2)] 33)) wB.heap.size 33 [.int .u8 (r.1 : Int), .int .u64 (r.2.1 : Int), .int .u32 (r.2.2.1 : Int), .string (bs r.2.2.2)]) := Lib.hid (heap_alloc_new wB _)
  clear hbB
  go_wp2_with fail
  refine (HA.out _).mono ?_
  rintro e wC ⟨rfl, hbC⟩
  have B4 := Lib.hid (B3.out.trans (hbC.mono B3.out.size))
  obtain ⟨c0, c1, c2, c3⟩ := (R2.out.keep hbC).four
  obtain ⟨d0, d1, d2, d3⟩ := (Q2.out.keep hbC).four
  clear hbC
  go_wp2_with fail
  go_ret
  exact ⟨rfl, B4.out⟩

set_option maxHeartbeats 4000000 in
set_option maxRecDepth 100000 in
theorem opens_right (l : List UInt8) (w : World) (hl : l.length = 128) :
    Calls Tryd.prog 3 #[.string (bs l), .bool true] w fun e w' => e = .returned (.bool true) ∧ Below w.heap.size w w' := by
  have hsz := (bs_size l).trans hl
  obtain ⟨X, hX⟩ : ∃ X, X = crcSum (l.take 124) := ⟨_, rfl⟩
  have hXb : X < 4294967296 := by rw [hX]; exact crcSum_lt _
  have HS : Hid (∀ W, Calls Tryd.prog 7 #[.string (bs (l.take 124))] W fun e w' => e = .returned (.int .u64 (X : Int)) ∧ W = w') := Lib.hid (fun W => by
    have h := ref_Sum (bs (l.take 124)) W (by rw [bs_size, List.length_take]; omega)
    rw [bs_list, ← hX] at h
    exact h)
  have hx2 : (bs l).extract 0 124 = bs (l.take 124) := bs_H l
  obtain ⟨t, ht⟩ : ∃ t, t = l.take 124 ++ leL X := ⟨_, rfl⟩
  have htl : t.length = 128 := by rw [ht, List.length_append, List.length_take, leL_len]; omega
  have happ : bs (l.take 124) ++ bs (leL X) = bs t := by rw [bs_append, ht]
  have hz1 : (bs (l.take 124)).size = 124 := by rw [bs_size, List.length_take]; omega
  have hz2 : (bs (leL X)).size = 4 := by rw [bs_size, leL_len]
  obtain ⟨x0, hx0⟩ : ∃ x0, x0 = X % 256 := ⟨_, rfl⟩
  obtain ⟨x1, hx1⟩ : ∃ x1, x1 = X / 256 % 256 := ⟨_, rfl⟩
  obtain ⟨x2, hx2'⟩ : ∃ x2, x2 = X / 65536 % 256 := ⟨_, rfl⟩
  obtain ⟨x3, hx3⟩ : ∃ x3, x3 = X / 16777216 % 256 := ⟨_, rfl⟩
  obtain ⟨y1, hy1⟩ : ∃ y1, y1 = X / 256 := ⟨_, rfl⟩
  obtain ⟨y2, hy2⟩ : ∃ y2, y2 = X / 65536 := ⟨_, rfl⟩
  obtain ⟨y3, hy3⟩ : ∃ y3, y3 = X / 16777216 := ⟨_, rfl⟩
  have s8 : IntKind.u8.wrap (X : Int) = (x0 : Int) := by rw [wrap_u8i]; omega
  have v8 : IntKind.u8.wrap (y1 : Int) = (x1 : Int) := by rw [wrap_u8i]; omega
  have v16 : IntKind.u8.wrap (y2 : Int) = (x2 : Int) := by rw [wrap_u8i]; omega
  have v24 : IntKind.u8.wrap (y3 : Int) = (x3 : Int) := by rw [wrap_u8i]; omega
  have u8 : (X : Int) / 256 = (y1 : Int) := by omega
  have u16 : (X : Int) / 65536 = (y2 : Int) := by omega
  have u24 : (X : Int) / 16777216 = (y3 : Int) := by omega
  have z1 : IntKind.u64.wrap (y1 : Int) = (y1 : Int) := IntWalk.u64_in _ (by omega)
  have z2 : IntKind.u64.wrap (y2 : Int) = (y2 : Int) := IntWalk.u64_in _ (by omega)
  have z3 : IntKind.u64.wrap (y3 : Int) = (y3 : Int) := IntWalk.u64_in _ (by omega)
  have zX : IntKind.u64.wrap (X : Int) = (X : Int) := IntWalk.u64_in _ (by omega)
  have hleL : leL X = [UInt8.ofNat x0, UInt8.ofNat x1, UInt8.ofNat x2, UInt8.ofNat x3] := by rw [hx0, hx1, hx2', hx3]; rfl
  have t0 : (UInt8.ofNat x0).toNat = x0 := by rw [UInt8.toNat_ofNat']; omega
  have t1 : (UInt8.ofNat x1).toNat = x1 := by rw [UInt8.toNat_ofNat']; omega
  have t2 : (UInt8.ofNat x2).toNat = x2 := by rw [UInt8.toNat_ofNat']; omega
  have t3 : (UInt8.ofNat x3).toNat = x3 := by rw [UInt8.toNat_ofNat']; omega
  obtain ⟨W5, hW5⟩ : ∃ W5, W5 = (w.alloc (.cells #[.int .u8 (x0 : Int), .int .u8 (x1 : Int), .int .u8 (x2 : Int), .int .u8 (x3 : Int)] 5)).drew := ⟨_, rfl⟩
  have HC9 : Hid ((convert 26 9 (.slice (some ⟨w.heap.size, 0, none⟩) 4 4)).run Tryd.prog W5 = .ok (.string (bs (leL X))) W5) := Lib.hid (by
    have h := conv_lit4 (UInt8.ofNat x0) (UInt8.ofNat x1) (UInt8.ofNat x2) (UInt8.ofNat x3) w
    rw [t0, t1, t2, t3, ← hW5, ← hleL] at h
    exact h)
  have HB8 : Hid ((Instr.buildSlice 26 4 #[(0, .int .u8 (x0 : Int)), (1, .int .u8 (x1 : Int)), (2, .int .u8 (x2 : Int)), (3, .int .u8 (x3 : Int))]).run Tryd.prog w.drew = .ok (.slice (some ⟨w.heap.size, 0, none⟩) 4 4) W5) := Lib.hid (by
    rw [hW5]
    go_simp
    try rfl)
  obtain ⟨r, hr⟩ : ∃ r, r = (openT t).1 := ⟨_, rfl⟩
  obtain ⟨c, hc⟩ : ∃ c, c = (openT t).2 := ⟨_, rfl⟩
  have HO := Lib.hid (fun W => by have h := seal_Open t W (by omega); rw [← hr, ← hc] at h; exact h : ∀ W, Calls Tryd.prog 8 #[.string (bs t)] W fun e w' => e = .returned (.tuple #[.agg #[.int .u8 (r.1 : Int), .int .u64 (r.2.1 : Int), .int .u32 (r.2.2.1 : Int), .string (bs r.2.2.2)], .int .i64 (c : Int)]) ∧ Below W.heap.size W w')
  have HR := Lib.hid (fun W => by have h := ref_Open t W (by omega); rw [← hr, ← hc] at h; exact h : ∀ W, Calls Tryd.prog 9 #[.string (bs t)] W fun e w' => e = .returned (.tuple #[.agg #[.int .u8 (r.1 : Int), .int .u64 (r.2.1 : Int), .int .u32 (r.2.2.1 : Int), .string (bs r.2.2.2)], .int .i64 (c : Int)]) ∧ Below W.heap.size W w')
  have hss : ((bs r.2.2.2).toList == (bs r.2.2.2).toList) = true := by simp
  have HA := Lib.hid seal_Awake
  have B0 : Hid (Below w.heap.size w W5) := Lib.hid (by
    rw [hW5]
    exact ((Below.refl _ _).alloc (Nat.le_refl _) _).drew)
  have hd : decide ((300 : Int) < (128 : Int)) = false := by decide
  clear hr hc hX ht hx0 hx1 hx2' hx3 hy1 hy2 hy3 hleL t0 t1 t2 t3 hW5
  go_enter Tryd.func3, Tryd.ntmps3
  go_wp2_with fail
  refine (HS.out _).mono ?_
  rintro e w1 ⟨rfl, rfl⟩
  go_wp2_with fail
  refine wp_region_any (by kernel_rfl) ?_
  (try change wpAny _ _ _ _ _ _ _ (World.drew _))
  refine wpAny_take (i := 0) (oi := so5o0) (v := ?_) rfl (by kernel_rfl) (by kernel_rfl) (by kernel_rfl) (fun _ _ _ h => h) (Or.inl ⟨by rfl, ?_⟩) ?_
  rotate_left
  · (intro w; dsimp only [so5o0]; go_simp; try (with_reducible rfl))
  (try simp only [Act.put, List.setIfInBounds_toArray, List.set_cons_zero, List.set_cons_succ])
  refine wpAny_take (i := 1) (oi := so5o1) (v := ?_) rfl (by kernel_rfl) (by kernel_rfl) (by kernel_rfl) (fun _ _ _ h => h) (Or.inl ⟨by rfl, ?_⟩) ?_
  rotate_left
  · (intro w; dsimp only [so5o1]; go_simp; try (with_reducible rfl))
  (try simp only [Act.put, List.setIfInBounds_toArray, List.set_cons_zero, List.set_cons_succ])
  refine wpAny_take (i := 2) (oi := so5o2) (v := ?_) rfl (by kernel_rfl) (by kernel_rfl) (by kernel_rfl) (fun _ _ _ h => h) (Or.inl ⟨by rfl, ?_⟩) ?_
  rotate_left
  · (intro w; dsimp only [so5o2]; go_simp; try (with_reducible rfl))
  (try simp only [Act.put, List.setIfInBounds_toArray, List.set_cons_zero, List.set_cons_succ])
  refine wpAny_take (i := 3) (oi := so5o3) (v := ?_) rfl (by kernel_rfl) (by kernel_rfl) (by kernel_rfl) (fun _ _ _ h => h) (Or.inl ⟨by rfl, ?_⟩) ?_
  rotate_left
  · (intro w; dsimp only [so5o3]; go_simp; try (with_reducible rfl))
  (try simp only [Act.put, List.setIfInBounds_toArray, List.set_cons_zero, List.set_cons_succ])
  refine wpAny_take (i := 4) (oi := so5o4) (v := ?_) rfl (by kernel_rfl) (by kernel_rfl) (by kernel_rfl) (fun _ _ _ h => h) (Or.inl ⟨by rfl, ?_⟩) ?_
  rotate_left
  · (intro w; dsimp only [so5o4]; go_simp; try (with_reducible rfl))
  (try simp only [Act.put, List.setIfInBounds_toArray, List.set_cons_zero, List.set_cons_succ])
  refine wpAny_take (i := 5) (oi := so5o5) (v := ?_) rfl (by kernel_rfl) (by kernel_rfl) (by kernel_rfl) (fun _ _ _ h => h) (Or.inl ⟨by rfl, ?_⟩) ?_
  rotate_left
  · (intro w; dsimp only [so5o5]; go_simp; try (with_reducible rfl))
  (try simp only [Act.put, List.setIfInBounds_toArray, List.set_cons_zero, List.set_cons_succ])
  refine wpAny_take (i := 6) (oi := so5o6) (v := ?_) rfl (by kernel_rfl) (by kernel_rfl) (by kernel_rfl) (fun _ _ _ h => h) (Or.inl ⟨by rfl, ?_⟩) ?_
  rotate_left
  · (intro w; dsimp only [so5o6]; go_simp; try (with_reducible rfl))
  (try simp only [Act.put, List.setIfInBounds_toArray, List.set_cons_zero, List.set_cons_succ])
  refine wpAny_take (i := 7) (oi := so5o7) (v := ?_) rfl (by kernel_rfl) (by kernel_rfl) (by kernel_rfl) (fun _ _ _ h => h) (Or.inl ⟨by rfl, ?_⟩) ?_
  rotate_left
  · (intro w; dsimp only [so5o7]; go_simp; try (with_reducible rfl))
  (try simp only [Act.put, List.setIfInBounds_toArray, List.set_cons_zero, List.set_cons_succ])
  refine wpAny_take (i := 8) (oi := so5o8) (v := ?_) rfl (by kernel_rfl) (by kernel_rfl) (by kernel_rfl) (fun _ _ _ h => h) (Or.inl ⟨by rfl, ?_⟩) ?_
  rotate_left
  · (intro w; dsimp only [so5o8]; go_simp; try (with_reducible rfl))
  (try simp only [Act.put, List.setIfInBounds_toArray, List.set_cons_zero, List.set_cons_succ])
  refine wpAny_take (i := 9) (oi := so5o9) (v := ?_) rfl (by kernel_rfl) (by kernel_rfl) (by kernel_rfl) (fun _ _ _ h => h) (Or.inl ⟨by rfl, ?_⟩) ?_
  rotate_left
  · (intro w; dsimp only [so5o9]; go_simp; try (with_reducible rfl))
  (try simp only [Act.put, List.setIfInBounds_toArray, List.set_cons_zero, List.set_cons_succ])
  refine wpAny_take (i := 10) (oi := so5o10) (v := ?_) rfl (by kernel_rfl) (by kernel_rfl) (by kernel_rfl) (fun _ _ _ h => h) (Or.inl ⟨by rfl, ?_⟩) ?_
  rotate_left
  · (intro w; dsimp only [so5o10]; go_simp; try (with_reducible rfl))
  (try simp only [Act.put, List.setIfInBounds_toArray, List.set_cons_zero, List.set_cons_succ])
  refine wpAny_take (i := 11) (oi := so5o11) (v := ?_) rfl (by kernel_rfl) (by kernel_rfl) (by kernel_rfl) (fun _ _ _ h => h) (Or.inl ⟨by rfl, ?_⟩) ?_
  rotate_left
  · (intro w; dsimp only [so5o11]; go_simp; try (with_reducible rfl))
  (try simp only [Act.put, List.setIfInBounds_toArray, List.set_cons_zero, List.set_cons_succ])
  refine wpAny_take (i := 12) (oi := so5o12) (v := ?_) rfl (by kernel_rfl) (by kernel_rfl) (by kernel_rfl) (fun _ _ _ h => h) (Or.inl ⟨by rfl, ?_⟩) ?_
  rotate_left
  · (intro w; dsimp only [so5o12]; go_simp; try (with_reducible rfl))
  (try simp only [Act.put, List.setIfInBounds_toArray, List.set_cons_zero, List.set_cons_succ])
  refine wpAny_ready (rs := [13]) (by kernel_rfl) (by simp) ?_
  refine AllReady.cons (o := so5o13) rfl (fun K hK => ?_) AllReady.nil
  rw [if_pos (by rfl)]
  refine wp_build_is _ _ _ rfl #[(0, .int .u8 (x0 : Int)), (1, .int .u8 (x1 : Int)), (2, .int .u8 (x2 : Int)), (3, .int .u8 (x3 : Int))] (by simp [Act.eval]) (.slice (some ⟨w.heap.size, 0, none⟩) 4 4) W5 HB8.out ?_
  refine hK _ _ ?_
  clear hK K
  (try simp only [Act.put, List.setIfInBounds_toArray, List.set_cons_zero, List.set_cons_succ])
  refine wpAny_ready (rs := [14]) (by kernel_rfl) (by simp) ?_
  refine AllReady.cons (o := so5o14) rfl (fun K hK => ?_) AllReady.nil
  rw [if_pos (by rfl)]
  refine wp_conv_is _ _ _ rfl (.slice (some ⟨w.heap.size, 0, none⟩) 4 4) rfl (.string (bs (leL X))) HC9.out ?_
  refine hK _ _ ?_
  clear hK K
  (try simp only [Act.put, List.setIfInBounds_toArray, List.set_cons_zero, List.set_cons_succ])
  refine wpAny_take (i := 15) (oi := so5o15) (v := ?_) rfl (by kernel_rfl) (by kernel_rfl) (by kernel_rfl) (fun _ _ _ h => h) (Or.inl ⟨by rfl, ?_⟩) ?_
  rotate_left
  · (intro w; dsimp only [so5o15]; go_simp; try (with_reducible rfl))
  (try simp only [Act.put, List.setIfInBounds_toArray, List.set_cons_zero, List.set_cons_succ])
  refine wpAny_take (i := 16) (oi := so5o16) (v := ?_) rfl (by kernel_rfl) (by kernel_rfl) (by kernel_rfl) (fun _ _ _ h => h) (Or.inl ⟨by rfl, ?_⟩) ?_
  rotate_left
  · (intro w; dsimp only [so5o16]; go_simp; try (with_reducible rfl))
  (try simp only [Act.put, List.setIfInBounds_toArray, List.set_cons_zero, List.set_cons_succ])
  refine wpAny_done (by kernel_rfl) ?_ _
  go_wp2_with fail
  refine (HO.out _).mono ?_
  rintro e wA ⟨rfl, hbA⟩
  have BA := Lib.hid (B0.out.trans (hbA.mono B0.out.size))
  have B1 := Lib.hid (BA.out.alloc BA.out.size (.cells #[.int .u8 (r.1 : Int), .int .u64 (r.2.1 : Int), .int .u32 (r.2.2.1 : Int), .string (bs r.2.2.2)] 29))
  have R1 : Hid (Blk (wA.alloc (.cells #[.int .u8 (r.1 : Int), .int .u64 (r.2.1 : Int), .int .u32 (r.2.2.1 : Int), .string (bs r.2.2.2)] 29)) wA.heap.size 29 [.int .u8 (r.1 : Int), .int .u64 (r.2.1 : Int), .int .u32 (r.2.2.1 : Int), .string (bs r.2.2.2)]) := Lib.hid (heap_alloc_new wA _)
  clear hbA
  go_wp2_with fail
  refine (HR.out _).mono ?_
  rintro e wB ⟨rfl, hbB⟩
  have R2 := Lib.hid ((R1.out.keep hbB).alloc (.cells #[.int .u8 (r.1 : Int), .int .u64 (r.2.1 : Int), .int .u32 (r.2.2.1 : Int), .string (bs r.2.2.2)] 33))
  have BB := Lib.hid (B1.out.trans (hbB.mono B1.out.size))
  have B3 := Lib.hid (BB.out.alloc BB.out.size (.cells #[.int .u8 (r.1 : Int), .int .u64 (r.2.1 : Int), .int .u32 (r.2.2.1 : Int), .string (bs r.2.2.2)] 33))
  have Q2 : Hid (Blk (wB.alloc (.cells #[.int .u8 (r.1 : Int), .int .u64 (r.2.1 : Int), .int .u32 (r.2.2.1 : Int), .string (bs r.2.2.2)] 33)) wB.heap.size 33 [.int .u8 (r.1 : Int), .int .u64 (r.2.1 : Int), .int .u32 (r.2.2.1 : Int), .string (bs r.2.2.2)]) := Lib.hid (heap_alloc_new wB _)
  clear hbB
  go_wp2_with fail
  refine (HA.out _).mono ?_
  rintro e wC ⟨rfl, hbC⟩
  have B4 := Lib.hid (B3.out.trans (hbC.mono B3.out.size))
  obtain ⟨c0, c1, c2, c3⟩ := (R2.out.keep hbC).four
  obtain ⟨d0, d1, d2, d3⟩ := (Q2.out.keep hbC).four
  clear hbC
  go_wp2_with fail
  go_ret
  exact ⟨rfl, B4.out⟩

theorem sealOpens_walk (s : ByteArray) (hs : s.size ≤ maxLen) (b : Bool) (w : World) :
    Calls Tryd.prog 3 #[.string s, .bool b] w fun e w' => e = .returned (.bool true) ∧ Below w.heap.size w w' := by
  obtain ⟨l, hl⟩ : ∃ l, l = s.data.toList := ⟨_, rfl⟩
  have hs2 : s = bs l := by rw [hl, bs_of]
  have hll : l.length = s.size := by rw [hl, Array.length_toList]; rfl
  simp only [maxLen] at hs
  rw [hs2]
  by_cases h : 300 < l.length
  · exact opens_idle l b w h (by omega)
  · cases b
    · exact opens_plain l w (by omega)
    · by_cases h2 : l.length = 128
      · exact opens_right l w h2
      · exact opens_other l w (by omega) h2

end Go.Proofs.YtciophpplpmmfaaDoor
