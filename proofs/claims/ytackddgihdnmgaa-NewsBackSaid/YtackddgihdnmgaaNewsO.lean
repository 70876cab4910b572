/- The document's CloseReport. Written by wip/tools/gen_news.py. -/
import Derived.Test.YtackddgihdnmgaaNewsN
namespace Go.Proofs.Ytackddgihdnmgaa
open Go.RowKit
set_option maxRecDepth 100000

abbrev cp3o0 : Oper := { dst := some 9, op := Op.fieldAddr 45 (Operand.tmp 1) 0, type := 0, pos := "ref.go:74", after := #[], guard := none }
abbrev cp3o1 : Oper := { dst := some 10, op := Op.load 23 (Operand.tmp 9), type := 23, pos := "ref.go:74", after := #[{ on := 0, ground := Ground.data }], guard := none }
abbrev cp3o2 : Oper := { dst := some 11, op := Op.convert 23 22 (Operand.tmp 10), type := 22, pos := "ref.go:74", after := #[{ on := 1, ground := Ground.data }], guard := none }
abbrev cp3o3 : Oper := { dst := some 12, op := Op.call { callee := Callee.value (Operand.func 22), args := #[Operand.tmp 11, Operand.const (Value.int IntKind.i64 4)], argTypes := #[22, 3] }, type := 9, pos := "ref.go:74", after := #[{ on := 2, ground := Ground.data }], guard := none }
abbrev cp3o4 : Oper := { dst := some 13, op := Op.binOp BinOp.add 9 (Operand.const (Value.string { data := #[72] })) (Operand.tmp 12) 9, type := 9, pos := "ref.go:74", after := #[{ on := 3, ground := Ground.data }], guard := none }
abbrev cp3o5 : Oper := { dst := some 14, op := Op.fieldAddr 45 (Operand.tmp 1) 1, type := 0, pos := "ref.go:74", after := #[], guard := none }
abbrev cp3o6 : Oper := { dst := some 15, op := Op.load 43 (Operand.tmp 14), type := 43, pos := "ref.go:74", after := #[{ on := 5, ground := Ground.data }], guard := none }
abbrev cp3o7 : Oper := { dst := some 16, op := Op.call { callee := Callee.builtin Builtin.len, args := #[Operand.tmp 15], argTypes := #[43] }, type := 3, pos := "ref.go:74", after := #[{ on := 6, ground := Ground.data }], guard := none }
abbrev cp3o8 : Oper := { dst := some 17, op := Op.convert 3 22 (Operand.tmp 16), type := 22, pos := "ref.go:74", after := #[{ on := 7, ground := Ground.data }], guard := none }
abbrev cp3o9 : Oper := { dst := some 18, op := Op.call { callee := Callee.value (Operand.func 22), args := #[Operand.tmp 17, Operand.const (Value.int IntKind.i64 2)], argTypes := #[22, 3] }, type := 9, pos := "ref.go:74", after := #[{ on := 8, ground := Ground.data }, { on := 3, ground := Ground.chain }], guard := none }
abbrev cp3o10 : Oper := { dst := some 19, op := Op.binOp BinOp.add 9 (Operand.tmp 13) (Operand.tmp 18) 9, type := 9, pos := "ref.go:74", after := #[{ on := 4, ground := Ground.data }, { on := 9, ground := Ground.data }], guard := none }
abbrev cp3o11 : Oper := { dst := some 4, op := Op.assign (Operand.tmp 19), type := 9, pos := "ref.go:74", after := #[{ on := 10, ground := Ground.data }, { on := 9, ground := Ground.chain }, { on := 0, ground := Ground.phase }, { on := 1, ground := Ground.phase }, { on := 2, ground := Ground.phase }, { on := 3, ground := Ground.phase }, { on := 4, ground := Ground.phase }, { on := 5, ground := Ground.phase }, { on := 6, ground := Ground.phase }, { on := 7, ground := Ground.phase }, { on := 8, ground := Ground.phase }, { on := 9, ground := Ground.phase }, { on := 10, ground := Ground.phase }], guard := none }
abbrev cp7o0 : Oper := { dst := some 27, op := Op.move (Operand.tmp 4), type := 9, pos := "ref.go:76", after := #[], guard := none }
abbrev cp7o1 : Oper := { dst := some 28, op := Op.fieldAddr 45 (Operand.tmp 1) 1, type := 0, pos := "ref.go:76", after := #[], guard := none }
abbrev cp7o2 : Oper := { dst := some 29, op := Op.load 43 (Operand.tmp 28), type := 43, pos := "ref.go:76", after := #[{ on := 1, ground := Ground.data }], guard := none }
abbrev cp7o3 : Oper := { dst := some 30, op := Op.move (Operand.tmp 5), type := 3, pos := "ref.go:76", after := #[], guard := none }
abbrev cp7o4 : Oper := { dst := some 31, op := Op.indexAddr 43 (Operand.tmp 29) (Operand.tmp 30), type := 0, pos := "ref.go:76", after := #[{ on := 2, ground := Ground.data }, { on := 3, ground := Ground.data }], guard := none }
abbrev cp7o5 : Oper := { dst := some 32, op := Op.fieldAddr 64 (Operand.tmp 31) 0, type := 0, pos := "ref.go:76", after := #[{ on := 4, ground := Ground.data }], guard := none }
abbrev cp7o6 : Oper := { dst := some 33, op := Op.load 23 (Operand.tmp 32), type := 23, pos := "ref.go:76", after := #[{ on := 5, ground := Ground.data }], guard := none }
abbrev cp7o7 : Oper := { dst := some 34, op := Op.convert 23 22 (Operand.tmp 33), type := 22, pos := "ref.go:76", after := #[{ on := 6, ground := Ground.data }], guard := none }
abbrev cp7o8 : Oper := { dst := some 35, op := Op.call { callee := Callee.value (Operand.func 22), args := #[Operand.tmp 34, Operand.const (Value.int IntKind.i64 4)], argTypes := #[22, 3] }, type := 9, pos := "ref.go:76", after := #[{ on := 7, ground := Ground.data }], guard := none }
abbrev cp7o9 : Oper := { dst := some 36, op := Op.binOp BinOp.add 9 (Operand.tmp 27) (Operand.tmp 35) 9, type := 9, pos := "ref.go:76", after := #[{ on := 0, ground := Ground.data }, { on := 8, ground := Ground.data }], guard := none }
abbrev cp7o10 : Oper := { dst := some 37, op := Op.fieldAddr 45 (Operand.tmp 1) 1, type := 0, pos := "ref.go:76", after := #[], guard := none }
abbrev cp7o11 : Oper := { dst := some 38, op := Op.load 43 (Operand.tmp 37), type := 43, pos := "ref.go:76", after := #[{ on := 10, ground := Ground.data }], guard := none }
abbrev cp7o12 : Oper := { dst := some 39, op := Op.move (Operand.tmp 5), type := 3, pos := "ref.go:76", after := #[], guard := none }
abbrev cp7o13 : Oper := { dst := some 40, op := Op.indexAddr 43 (Operand.tmp 38) (Operand.tmp 39), type := 0, pos := "ref.go:76", after := #[{ on := 11, ground := Ground.data }, { on := 12, ground := Ground.data }], guard := none }
abbrev cp7o14 : Oper := { dst := some 41, op := Op.fieldAddr 64 (Operand.tmp 40) 1, type := 0, pos := "ref.go:76", after := #[{ on := 13, ground := Ground.data }], guard := none }
abbrev cp7o15 : Oper := { dst := some 42, op := Op.load 23 (Operand.tmp 41), type := 23, pos := "ref.go:76", after := #[{ on := 14, ground := Ground.data }], guard := none }
abbrev cp7o16 : Oper := { dst := some 43, op := Op.convert 23 22 (Operand.tmp 42), type := 22, pos := "ref.go:76", after := #[{ on := 15, ground := Ground.data }], guard := none }
abbrev cp7o17 : Oper := { dst := some 44, op := Op.call { callee := Callee.value (Operand.func 22), args := #[Operand.tmp 43, Operand.const (Value.int IntKind.i64 4)], argTypes := #[22, 3] }, type := 9, pos := "ref.go:76", after := #[{ on := 16, ground := Ground.data }, { on := 8, ground := Ground.chain }], guard := none }
abbrev cp7o18 : Oper := { dst := some 45, op := Op.binOp BinOp.add 9 (Operand.tmp 36) (Operand.tmp 44) 9, type := 9, pos := "ref.go:76", after := #[{ on := 9, ground := Ground.data }, { on := 17, ground := Ground.data }], guard := none }
abbrev cp7o19 : Oper := { dst := some 4, op := Op.assign (Operand.tmp 45), type := 9, pos := "ref.go:76", after := #[{ on := 18, ground := Ground.data }, { on := 17, ground := Ground.chain }, { on := 0, ground := Ground.phase }, { on := 1, ground := Ground.phase }, { on := 2, ground := Ground.phase }, { on := 3, ground := Ground.phase }, { on := 4, ground := Ground.phase }, { on := 5, ground := Ground.phase }, { on := 6, ground := Ground.phase }, { on := 7, ground := Ground.phase }, { on := 8, ground := Ground.phase }, { on := 9, ground := Ground.phase }, { on := 10, ground := Ground.phase }, { on := 11, ground := Ground.phase }, { on := 12, ground := Ground.phase }, { on := 13, ground := Ground.phase }, { on := 14, ground := Ground.phase }, { on := 15, ground := Ground.phase }, { on := 16, ground := Ground.phase }, { on := 17, ground := Ground.phase }, { on := 18, ground := Ground.phase }], guard := none }

theorem run_add_bs (X Y Z : List UInt8) (W : World) (hZ : X ++ Y = Z) (hl : Z.length ≤ 1000000) : (Op.stringOp .add (bs X) (bs Y)).run Try.prog W = .ok (.string (bs Z)) W := by
  rw [← hZ, ← bs_append]
  refine run_string_add_sum W _ _ ?_
  rw [bs_size, bs_size]
  rw [← hZ, List.length_append] at hl
  omega
theorem rwL_take (rs : List RowT) (j : Nat) (h : j < rs.length) : rwL (rs.take (j + 1)) = (rwL (rs.take j) ++ beL (rs.getD j (0, 0)).1 4) ++ beL (rs.getD j (0, 0)).2 4 := by
  unfold rwL
  rw [List.take_succ_eq_append_getElem h, List.flatMap_append, List.getD_eq_getElem?_getD, List.getElem?_eq_getElem h]
  simp [List.append_assoc]

set_option maxHeartbeats 8000000 in
theorem newsr_CloseReport (ep : Nat) (A : Option Addr) (n c : Nat) (rs : List RowT) (w : World) (hep : ep < 4294967296) (h : Rws w A n rs) (hc : n ≤ c) (hcm : (c : Int) ≤ 9223372036854775807) :
    Calls Try.prog 12 #[.agg #[.int .u32 (ep : Int), .slice A n c]] w fun e w' => e = .returned (.tuple #[.string (bs (clB ep rs)), .int .i64 (clE rs : Int)]) ∧ Below w.heap.size w w' := by
  obtain ⟨W0, hW0⟩ : ∃ W0, W0 = w.alloc (.cells #[.int .u32 (ep : Int), .slice A n c] 45) := ⟨_, rfl⟩
  have Z0 : Hid (Blk W0 w.heap.size 45 [.int .u32 (ep : Int), .slice A n c]) := Lib.hid (by rw [hW0]; exact heap_alloc_new w _)
  have B0 : Hid (Below w.heap.size w W0) := Lib.hid (by rw [hW0]; exact (Below.refl _ _).alloc (Nat.le_refl _) _)
  have HR : Hid (Rws W0 A n rs) := Lib.hid (h.keep B0.out)
  have HLN : Hid (rs.length = n) := Lib.hid h.1
  have HMY := Lib.hid (newsr_May ep A n c rs W0 HR.out hc hcm)
  by_cases hm : MayP rs
  · rw [decide_eq_true hm] at HMY
    have HN : Hid (1 ≤ n ∧ n ≤ 256) := Lib.hid ⟨((MayP.of HLN.out).1 hm).1, ((MayP.of HLN.out).1 hm).2.1⟩
    have hnb : n ≤ 256 := HN.out.2
    have e4 : (256 : Nat) ^ 4 = 4294967296 := by decide
    have e2 : (256 : Nat) ^ 2 = 65536 := by decide
    have HN1 := Lib.hid (fun W => newsr_num ep 4 W (by decide) (by decide) (by omega) (by omega))
    have HN2 := Lib.hid (fun W => newsr_num n 2 W (by decide) (by decide) (by omega) (by omega))
    have HNM := Lib.hid (fun (v : Nat) (hv : v < 4294967296) W => newsr_num v 4 W (by decide) (by decide) (by omega) (by omega))
    have wep : IntKind.u64.wrap (ep : Int) = (ep : Int) := IntWalk.u64_in _ (by omega)
    have wn : IntKind.u64.wrap (n : Int) = (n : Int) := IntWalk.u64_in _ (by omega)
    obtain ⟨X1, hX1⟩ : ∃ X, X = beL ep 4 := ⟨_, rfl⟩
    obtain ⟨X2, hX2⟩ : ∃ X, X = beL n 2 := ⟨_, rfl⟩
    rw [← hX1] at HN1
    rw [← hX2] at HN2
    obtain ⟨Y1, hY1⟩ : ∃ Y, Y = [72] ++ X1 := ⟨_, rfl⟩
    obtain ⟨Y2, hY2⟩ : ∃ Y, Y = Y1 ++ X2 := ⟨_, rfl⟩
    have l1 : Y1.length = 5 := by rw [hY1, hX1, List.length_append, beL_len]; rfl
    have l2 : Y2.length = 7 := by rw [hY2, List.length_append, l1, hX2, beL_len]
    have L2 := Lib.hid l2
    have A1 : ∀ W, (Op.stringOp .add ⟨#[72]⟩ (bs X1)).run Try.prog W = .ok (.string (bs Y1)) W := fun W => run_add_bs [72] X1 Y1 W hY1.symm (by omega)
    have A2 : ∀ W, (Op.stringOp .add (bs Y1) (bs X2)).run Try.prog W = .ok (.string (bs Y2)) W := fun W => run_add_bs Y1 X2 Y2 W hY2.symm (by omega)
    have HE : Hid (clB ep rs = Y2 ++ rwL rs ∧ clE rs = 0) := Lib.hid (by unfold clB clE; rw [if_pos hm, if_pos hm, rpL, HLN.out, hY2, hY1, hX1, hX2]; exact ⟨rfl, rfl⟩)
    rw [HE.out.1, HE.out.2]
    clear hm h hep e4 e2 hX1 hX2 hY1 hY2 l1 l2
    go_enter Try.func12, Try.ntmps12
    go_upto_region 3 with (go_at_call 26; rw [← hW0]; refine HMY.out.mono ?_; rintro e w1 ⟨rfl, b1⟩)
    have HC : Hid (∀ w', Below W0.heap.size W0 w' → w'.cell? ⟨w.heap.size, 0, none⟩ = some (.int .u32 (ep : Int)) ∧ w'.cell? ⟨w.heap.size, 1, none⟩ = some (.slice A n c)) := Lib.hid (fun w' hb => ⟨(Z0.out.keep hb).cell 0, (Z0.out.keep hb).cell 1⟩)
    have K1 : Hid (Below W0.heap.size W0 w1.drew) := Lib.hid b1.drew
    clear hW0 b1 HMY
    refine wp_region_noPanic ?_
    refine wp_region_held_drew (S := fun w' => w'.cell? ⟨w.heap.size, 0, none⟩ = some (.int .u32 (ep : Int)) ∧ w'.cell? ⟨w.heap.size, 1, none⟩ = some (.slice A n c)) (by kernel_rfl) ?_ (fun hHeld => ?_)
    · exact HC.out _ K1.out
    refine wpAnyH_take (i := 0) (oi := cp3o0) (v := ?_) rfl (by kernel_rfl) (by kernel_rfl) (by kernel_rfl) (fun _ _ _ h => h) (Or.inl ⟨by rfl, ?_⟩) (by assumption) ?_
    rotate_left
    · (intro w hSw; (try dsimp only at hSw); obtain ⟨s0, s1⟩ := hSw; (try dsimp only [cp3o0]); go_simp; try (with_reducible rfl))
    (try simp only [Act.put, List.setIfInBounds_toArray, List.set_cons_zero, List.set_cons_succ])
    refine wpAnyH_take (i := 1) (oi := cp3o1) (v := ?_) rfl (by kernel_rfl) (by kernel_rfl) (by kernel_rfl) (fun _ _ _ h => h) (Or.inl ⟨by rfl, ?_⟩) (by assumption) ?_
    rotate_left
    · (intro w hSw; (try dsimp only at hSw); obtain ⟨s0, s1⟩ := hSw; (try dsimp only [cp3o1]); go_simp; try (with_reducible rfl))
    (try simp only [Act.put, List.setIfInBounds_toArray, List.set_cons_zero, List.set_cons_succ])
    refine wpAnyH_take (i := 2) (oi := cp3o2) (v := ?_) rfl (by kernel_rfl) (by kernel_rfl) (by kernel_rfl) (fun _ _ _ h => h) (Or.inl ⟨by rfl, ?_⟩) (by assumption) ?_
    rotate_left
    · (intro w hSw; (try dsimp only at hSw); obtain ⟨s0, s1⟩ := hSw; (try dsimp only [cp3o2]); go_simp; try (with_reducible rfl))
    (try simp only [Act.put, List.setIfInBounds_toArray, List.set_cons_zero, List.set_cons_succ])
    refine wpAnyH_take (i := 5) (oi := cp3o5) (v := ?_) rfl (by kernel_rfl) (by kernel_rfl) (by kernel_rfl) (fun _ _ _ h => h) (Or.inl ⟨by rfl, ?_⟩) (by assumption) ?_
    rotate_left
    · (intro w hSw; (try dsimp only at hSw); obtain ⟨s0, s1⟩ := hSw; (try dsimp only [cp3o5]); go_simp; try (with_reducible rfl))
    (try simp only [Act.put, List.setIfInBounds_toArray, List.set_cons_zero, List.set_cons_succ])
    refine wpAnyH_take (i := 6) (oi := cp3o6) (v := ?_) rfl (by kernel_rfl) (by kernel_rfl) (by kernel_rfl) (fun _ _ _ h => h) (Or.inl ⟨by rfl, ?_⟩) (by assumption) ?_
    rotate_left
    · (intro w hSw; (try dsimp only at hSw); obtain ⟨s0, s1⟩ := hSw; (try dsimp only [cp3o6]); go_simp; try (with_reducible rfl))
    (try simp only [Act.put, List.setIfInBounds_toArray, List.set_cons_zero, List.set_cons_succ])
    refine wpAnyH_take (i := 7) (oi := cp3o7) (v := ?_) rfl (by kernel_rfl) (by kernel_rfl) (by kernel_rfl) (fun _ _ _ h => h) (Or.inl ⟨by rfl, ?_⟩) (by assumption) ?_
    rotate_left
    · (intro w hSw; (try dsimp only at hSw); obtain ⟨s0, s1⟩ := hSw; (try dsimp only [cp3o7]); go_simp; try (with_reducible rfl))
    (try simp only [Act.put, List.setIfInBounds_toArray, List.set_cons_zero, List.set_cons_succ])
    refine wpAnyH_take (i := 8) (oi := cp3o8) (v := ?_) rfl (by kernel_rfl) (by kernel_rfl) (by kernel_rfl) (fun _ _ _ h => h) (Or.inl ⟨by rfl, ?_⟩) (by assumption) ?_
    rotate_left
    · (intro w hSw; (try dsimp only at hSw); obtain ⟨s0, s1⟩ := hSw; (try dsimp only [cp3o8]); go_simp; try (with_reducible rfl))
    (try simp only [Act.put, List.setIfInBounds_toArray, List.set_cons_zero, List.set_cons_succ])
    refine wpAnyH_ready (rs := [3]) (by kernel_rfl) (by simp) ?_
    refine AllReadyH.cons (o := cp3o3) rfl (fun K hK => ?_) AllReadyH.nil
    dsimp only [cp3o3]
    go_simp
    refine (HN1.out _).mono ?_
    rintro e w2 ⟨rfl, b2⟩
    have K2 := Lib.hid (K1.out.trans (b2.mono K1.out.size))
    clear b2
    (try go_wp2_with fail)
    refine hK.out _ _ ?_ (fun hHeld => ?_)
    · exact HC.out _ K2.out
    clear hK K
    (try simp only [Act.put, List.setIfInBounds_toArray, List.set_cons_zero, List.set_cons_succ])
    refine wpAnyH_take (i := 4) (oi := cp3o4) (v := ?_) rfl (by kernel_rfl) (by kernel_rfl) (by kernel_rfl) (fun _ _ _ h => h) (Or.inl ⟨by rfl, ?_⟩) (by assumption) ?_
    rotate_left
    · (intro w hSw; (try dsimp only at hSw); obtain ⟨s0, s1⟩ := hSw; (try dsimp only [cp3o4]); go_simp; try (with_reducible rfl))
    (try simp only [Act.put, List.setIfInBounds_toArray, List.set_cons_zero, List.set_cons_succ])
    refine wpAnyH_ready (rs := [9]) (by kernel_rfl) (by simp) ?_
    refine AllReadyH.cons (o := cp3o9) rfl (fun K hK => ?_) AllReadyH.nil
    dsimp only [cp3o9]
    go_simp
    refine (HN2.out _).mono ?_
    rintro e w3 ⟨rfl, b3⟩
    have K3 := Lib.hid (K2.out.trans (b3.mono K2.out.size))
    clear b3
    (try go_wp2_with fail)
    refine hK.out _ _ ?_ (fun hHeld => ?_)
    · exact HC.out _ K3.out
    clear hK K
    (try simp only [Act.put, List.setIfInBounds_toArray, List.set_cons_zero, List.set_cons_succ])
    refine wpAnyH_take (i := 10) (oi := cp3o10) (v := ?_) rfl (by kernel_rfl) (by kernel_rfl) (by kernel_rfl) (fun _ _ _ h => h) (Or.inl ⟨by rfl, ?_⟩) (by assumption) ?_
    rotate_left
    · (intro w hSw; (try dsimp only at hSw); obtain ⟨s0, s1⟩ := hSw; (try dsimp only [cp3o10]); go_simp; try (with_reducible rfl))
    (try simp only [Act.put, List.setIfInBounds_toArray, List.set_cons_zero, List.set_cons_succ])
    refine wpAnyH_take (i := 11) (oi := cp3o11) (v := ?_) rfl (by kernel_rfl) (by kernel_rfl) (by kernel_rfl) (fun _ _ _ h => h) (Or.inl ⟨by rfl, ?_⟩) (by assumption) ?_
    rotate_left
    · (intro w hSw; (try dsimp only at hSw); obtain ⟨s0, s1⟩ := hSw; (try dsimp only [cp3o11]); go_simp; try (with_reducible rfl))
    (try simp only [Act.put, List.setIfInBounds_toArray, List.set_cons_zero, List.set_cons_succ])
    refine wpAnyH_done (by kernel_rfl) ?_ _
    refine NoPanic.normal ?_
    go_wp2_with fail
    clear A1 A2 wep wn
    go_loopw [4, 5] (fun sv iv wr => ∃ j : Nat, sv = .string (bs (Y2 ++ rwL (rs.take j))) ∧ iv = .int .i64 (j : Int) ∧ j ≤ n ∧ Hid (Below W0.heap.size W0 wr)) (fun _ iv _ => n - (intOf iv).toNat)
    case atStart => exact ⟨0, by rw [List.take_zero]; show Value.string (bs Y2) = .string (bs (Y2 ++ [])); rw [List.append_nil], rfl, Nat.zero_le _, K3⟩
    case round =>
      obtain ⟨j, rfl, rfl, hj, HB⟩ := hrel
      have q1 := (Z0.out.keep HB.out).cell 1
      dsimp only [List.getElem?_cons_zero, List.getElem?_cons_succ] at q1
      by_cases hlt : j < n
      · obtain ⟨b, o, rfl, hcell⟩ := (HR.out.keep HB.out).2.2 (by omega)
        obtain ⟨c0, c1⟩ := hcell j hlt
        obtain ⟨v, hv⟩ : ∃ v, v = (rs.getD j (0, 0)).1 := ⟨_, rfl⟩
        obtain ⟨t, ht⟩ : ∃ t, t = (rs.getD j (0, 0)).2 := ⟨_, rfl⟩
        have hvb : v < 4294967296 := by rw [hv]; exact (HR.out.2.1 j hlt).1
        have htb : t < 4294967296 := by rw [ht]; exact (HR.out.2.1 j hlt).2
        have HNXT : Hid (rwL (rs.take (j + 1)) = (rwL (rs.take j) ++ beL v 4) ++ beL t 4) := Lib.hid (by rw [hv, ht]; exact rwL_take rs j (by rw [HLN.out]; exact hlt))
        rw [← hv] at c0
        rw [← ht] at c1
        have HV1 := Lib.hid (HNM.out v hvb)
        have HV2 := Lib.hid (HNM.out t htb)
        obtain ⟨X3, hX3⟩ : ∃ X, X = beL v 4 := ⟨_, rfl⟩
        obtain ⟨X4, hX4⟩ : ∃ X, X = beL t 4 := ⟨_, rfl⟩
        rw [← hX3] at HV1 HNXT
        rw [← hX4] at HV2 HNXT
        obtain ⟨P, hP⟩ : ∃ P, P = Y2 ++ rwL (rs.take j) := ⟨_, rfl⟩
        obtain ⟨P1, hP1⟩ : ∃ P1, P1 = P ++ X3 := ⟨_, rfl⟩
        obtain ⟨P2, hP2⟩ : ∃ P2, P2 = P1 ++ X4 := ⟨_, rfl⟩
        have lP : P.length = 7 + 8 * j := by rw [hP, List.length_append, L2.out, rwL_len, List.length_take, HLN.out]; omega
        have lP1 : P1.length = 11 + 8 * j := by rw [hP1, List.length_append, lP, hX3, beL_len]; omega
        have lP2 : P2.length = 15 + 8 * j := by rw [hP2, List.length_append, lP1, hX4, beL_len]; omega
        have A3 : ∀ W, (Op.stringOp .add (bs P) (bs X3)).run Try.prog W = .ok (.string (bs P1)) W := fun W => run_add_bs P X3 P1 W hP1.symm (by omega)
        have A4 : ∀ W, (Op.stringOp .add (bs P1) (bs X4)).run Try.prog W = .ok (.string (bs P2)) W := fun W => run_add_bs P1 X4 P2 W hP2.symm (by omega)
        have HP2 : Hid (P2 = Y2 ++ rwL (rs.take (j + 1))) := Lib.hid (by rw [HNXT.out, hP2, hP1, hP, List.append_assoc, List.append_assoc, List.append_assoc])
        have wv : IntKind.u64.wrap (v : Int) = (v : Int) := IntWalk.u64_in _ (by omega)
        have wt : IntKind.u64.wrap (t : Int) = (t : Int) := IntWalk.u64_in _ (by omega)
        have hdec : decide ((j : Int) < (n : Int)) = true := decide_eq_true (by omega)
        have hw1 : IntKind.i64.wrap ((j : Int) + 1) = ((j + 1 : Nat) : Int) := by rw [IntWalk.i64_in _ (by omega)]; omega
        have hjn : (j : Int) < (n : Int) := by omega
        have hjc : (j : Int) < (c : Int) := by omega
        have HC7 : Hid (∀ w', Below wr.heap.size wr w' → w'.cell? ⟨w.heap.size, 1, none⟩ = some (.slice (some ⟨b, o, none⟩) n c) ∧ w'.cell? ⟨b, o + j * 2, none⟩ = some (.int .u32 (v : Int)) ∧ w'.cell? ⟨b, o + j * 2 + 1, none⟩ = some (.int .u32 (t : Int))) := Lib.hid (fun w' hb => ⟨((Z0.out.keep HB.out).keep hb).cell 1, (hb.cell (p := ⟨b, o + j * 2, none⟩) (block_lt_of_cell c0)).trans c0, (hb.cell (p := ⟨b, o + j * 2 + 1, none⟩) (block_lt_of_cell c1)).trans c1⟩)
        have K4 : Hid (Below wr.heap.size wr wr.drew) := Lib.hid (Below.refl _ _).drew
        rw [← hP]
        clear hv ht hvb htb hcell hX3 hX4 hP hP1 hP2 lP lP1 lP2 HNXT c0 c1
        go_upto_region 7 with fail
        clear q1
        refine wp_region_noPanic ?_
        refine wp_region_held_drew (S := fun w' => w'.cell? ⟨w.heap.size, 1, none⟩ = some (.slice (some ⟨b, o, none⟩) n c) ∧ w'.cell? ⟨b, o + j * 2, none⟩ = some (.int .u32 (v : Int)) ∧ w'.cell? ⟨b, o + j * 2 + 1, none⟩ = some (.int .u32 (t : Int))) (by kernel_rfl) ?_ (fun hHeld => ?_)
        · exact HC7.out _ K4.out
        refine wpAnyH_take (i := 0) (oi := cp7o0) (v := ?_) rfl (by kernel_rfl) (by kernel_rfl) (by kernel_rfl) (fun _ _ _ h => h) (Or.inl ⟨by rfl, ?_⟩) (by assumption) ?_
        rotate_left
        · (intro w hSw; (try dsimp only at hSw); obtain ⟨s0, s1, s2⟩ := hSw; (try dsimp only [cp7o0]); go_simp; try (with_reducible rfl))
        (try simp only [Act.put, List.setIfInBounds_toArray, List.set_cons_zero, List.set_cons_succ])
        refine wpAnyH_take (i := 1) (oi := cp7o1) (v := ?_) rfl (by kernel_rfl) (by kernel_rfl) (by kernel_rfl) (fun _ _ _ h => h) (Or.inl ⟨by rfl, ?_⟩) (by assumption) ?_
        rotate_left
        · (intro w hSw; (try dsimp only at hSw); obtain ⟨s0, s1, s2⟩ := hSw; (try dsimp only [cp7o1]); go_simp; try (with_reducible rfl))
        (try simp only [Act.put, List.setIfInBounds_toArray, List.set_cons_zero, List.set_cons_succ])
        refine wpAnyH_take (i := 2) (oi := cp7o2) (v := ?_) rfl (by kernel_rfl) (by kernel_rfl) (by kernel_rfl) (fun _ _ _ h => h) (Or.inl ⟨by rfl, ?_⟩) (by assumption) ?_
        rotate_left
        · (intro w hSw; (try dsimp only at hSw); obtain ⟨s0, s1, s2⟩ := hSw; (try dsimp only [cp7o2]); go_simp; try (with_reducible rfl))
        (try simp only [Act.put, List.setIfInBounds_toArray, List.set_cons_zero, List.set_cons_succ])
        refine wpAnyH_take (i := 3) (oi := cp7o3) (v := ?_) rfl (by kernel_rfl) (by kernel_rfl) (by kernel_rfl) (fun _ _ _ h => h) (Or.inl ⟨by rfl, ?_⟩) (by assumption) ?_
        rotate_left
        · (intro w hSw; (try dsimp only at hSw); obtain ⟨s0, s1, s2⟩ := hSw; (try dsimp only [cp7o3]); go_simp; try (with_reducible rfl))
        (try simp only [Act.put, List.setIfInBounds_toArray, List.set_cons_zero, List.set_cons_succ])
        refine wpAnyH_take (i := 4) (oi := cp7o4) (v := ?_) rfl (by kernel_rfl) (by kernel_rfl) (by kernel_rfl) (fun _ _ _ h => h) (Or.inl ⟨by rfl, ?_⟩) (by assumption) ?_
        rotate_left
        · (intro w hSw; (try dsimp only at hSw); obtain ⟨s0, s1, s2⟩ := hSw; (try dsimp only [cp7o4]); go_simp; try (with_reducible rfl))
        (try simp only [Act.put, List.setIfInBounds_toArray, List.set_cons_zero, List.set_cons_succ])
        refine wpAnyH_take (i := 5) (oi := cp7o5) (v := ?_) rfl (by kernel_rfl) (by kernel_rfl) (by kernel_rfl) (fun _ _ _ h => h) (Or.inl ⟨by rfl, ?_⟩) (by assumption) ?_
        rotate_left
        · (intro w hSw; (try dsimp only at hSw); obtain ⟨s0, s1, s2⟩ := hSw; (try dsimp only [cp7o5]); go_simp; try (with_reducible rfl))
        (try simp only [Act.put, List.setIfInBounds_toArray, List.set_cons_zero, List.set_cons_succ])
        refine wpAnyH_take (i := 6) (oi := cp7o6) (v := ?_) rfl (by kernel_rfl) (by kernel_rfl) (by kernel_rfl) (fun _ _ _ h => h) (Or.inl ⟨by rfl, ?_⟩) (by assumption) ?_
        rotate_left
        · (intro w hSw; (try dsimp only at hSw); obtain ⟨s0, s1, s2⟩ := hSw; (try dsimp only [cp7o6]); go_simp; try (with_reducible rfl))
        (try simp only [Act.put, List.setIfInBounds_toArray, List.set_cons_zero, List.set_cons_succ])
        refine wpAnyH_take (i := 7) (oi := cp7o7) (v := ?_) rfl (by kernel_rfl) (by kernel_rfl) (by kernel_rfl) (fun _ _ _ h => h) (Or.inl ⟨by rfl, ?_⟩) (by assumption) ?_
        rotate_left
        · (intro w hSw; (try dsimp only at hSw); obtain ⟨s0, s1, s2⟩ := hSw; (try dsimp only [cp7o7]); go_simp; try (with_reducible rfl))
        (try simp only [Act.put, List.setIfInBounds_toArray, List.set_cons_zero, List.set_cons_succ])
        refine wpAnyH_take (i := 10) (oi := cp7o10) (v := ?_) rfl (by kernel_rfl) (by kernel_rfl) (by kernel_rfl) (fun _ _ _ h => h) (Or.inl ⟨by rfl, ?_⟩) (by assumption) ?_
        rotate_left
        · (intro w hSw; (try dsimp only at hSw); obtain ⟨s0, s1, s2⟩ := hSw; (try dsimp only [cp7o10]); go_simp; try (with_reducible rfl))
        (try simp only [Act.put, List.setIfInBounds_toArray, List.set_cons_zero, List.set_cons_succ])
        refine wpAnyH_take (i := 11) (oi := cp7o11) (v := ?_) rfl (by kernel_rfl) (by kernel_rfl) (by kernel_rfl) (fun _ _ _ h => h) (Or.inl ⟨by rfl, ?_⟩) (by assumption) ?_
        rotate_left
        · (intro w hSw; (try dsimp only at hSw); obtain ⟨s0, s1, s2⟩ := hSw; (try dsimp only [cp7o11]); go_simp; try (with_reducible rfl))
        (try simp only [Act.put, List.setIfInBounds_toArray, List.set_cons_zero, List.set_cons_succ])
        refine wpAnyH_take (i := 12) (oi := cp7o12) (v := ?_) rfl (by kernel_rfl) (by kernel_rfl) (by kernel_rfl) (fun _ _ _ h => h) (Or.inl ⟨by rfl, ?_⟩) (by assumption) ?_
        rotate_left
        · (intro w hSw; (try dsimp only at hSw); obtain ⟨s0, s1, s2⟩ := hSw; (try dsimp only [cp7o12]); go_simp; try (with_reducible rfl))
        (try simp only [Act.put, List.setIfInBounds_toArray, List.set_cons_zero, List.set_cons_succ])
        refine wpAnyH_take (i := 13) (oi := cp7o13) (v := ?_) rfl (by kernel_rfl) (by kernel_rfl) (by kernel_rfl) (fun _ _ _ h => h) (Or.inl ⟨by rfl, ?_⟩) (by assumption) ?_
        rotate_left
        · (intro w hSw; (try dsimp only at hSw); obtain ⟨s0, s1, s2⟩ := hSw; (try dsimp only [cp7o13]); go_simp; try (with_reducible rfl))
        (try simp only [Act.put, List.setIfInBounds_toArray, List.set_cons_zero, List.set_cons_succ])
        refine wpAnyH_take (i := 14) (oi := cp7o14) (v := ?_) rfl (by kernel_rfl) (by kernel_rfl) (by kernel_rfl) (fun _ _ _ h => h) (Or.inl ⟨by rfl, ?_⟩) (by assumption) ?_
        rotate_left
        · (intro w hSw; (try dsimp only at hSw); obtain ⟨s0, s1, s2⟩ := hSw; (try dsimp only [cp7o14]); go_simp; try (with_reducible rfl))
        (try simp only [Act.put, List.setIfInBounds_toArray, List.set_cons_zero, List.set_cons_succ])
        refine wpAnyH_take (i := 15) (oi := cp7o15) (v := ?_) rfl (by kernel_rfl) (by kernel_rfl) (by kernel_rfl) (fun _ _ _ h => h) (Or.inl ⟨by rfl, ?_⟩) (by assumption) ?_
        rotate_left
        · (intro w hSw; (try dsimp only at hSw); obtain ⟨s0, s1, s2⟩ := hSw; (try dsimp only [cp7o15]); go_simp; try (with_reducible rfl))
        (try simp only [Act.put, List.setIfInBounds_toArray, List.set_cons_zero, List.set_cons_succ])
        refine wpAnyH_take (i := 16) (oi := cp7o16) (v := ?_) rfl (by kernel_rfl) (by kernel_rfl) (by kernel_rfl) (fun _ _ _ h => h) (Or.inl ⟨by rfl, ?_⟩) (by assumption) ?_
        rotate_left
        · (intro w hSw; (try dsimp only at hSw); obtain ⟨s0, s1, s2⟩ := hSw; (try dsimp only [cp7o16]); go_simp; try (with_reducible rfl))
        (try simp only [Act.put, List.setIfInBounds_toArray, List.set_cons_zero, List.set_cons_succ])
        refine wpAnyH_ready (rs := [8]) (by kernel_rfl) (by simp) ?_
        refine AllReadyH.cons (o := cp7o8) rfl (fun K hK => ?_) AllReadyH.nil
        dsimp only [cp7o8]
        go_simp
        refine (HV1.out _).mono ?_
        rintro e w5 ⟨rfl, b5⟩
        have K5 := Lib.hid (K4.out.trans (b5.mono K4.out.size))
        clear b5
        (try go_wp2_with fail)
        refine hK.out _ _ ?_ (fun hHeld => ?_)
        · exact HC7.out _ K5.out
        clear hK K
        (try simp only [Act.put, List.setIfInBounds_toArray, List.set_cons_zero, List.set_cons_succ])
        refine wpAnyH_take (i := 9) (oi := cp7o9) (v := ?_) rfl (by kernel_rfl) (by kernel_rfl) (by kernel_rfl) (fun _ _ _ h => h) (Or.inl ⟨by rfl, ?_⟩) (by assumption) ?_
        rotate_left
        · (intro w hSw; (try dsimp only at hSw); obtain ⟨s0, s1, s2⟩ := hSw; (try dsimp only [cp7o9]); go_simp; try (with_reducible rfl))
        (try simp only [Act.put, List.setIfInBounds_toArray, List.set_cons_zero, List.set_cons_succ])
        refine wpAnyH_ready (rs := [17]) (by kernel_rfl) (by simp) ?_
        refine AllReadyH.cons (o := cp7o17) rfl (fun K hK => ?_) AllReadyH.nil
        dsimp only [cp7o17]
        go_simp
        refine (HV2.out _).mono ?_
        rintro e w6 ⟨rfl, b6⟩
        have K6 := Lib.hid (K5.out.trans (b6.mono K5.out.size))
        clear b6
        (try go_wp2_with fail)
        refine hK.out _ _ ?_ (fun hHeld => ?_)
        · exact HC7.out _ K6.out
        clear hK K
        (try simp only [Act.put, List.setIfInBounds_toArray, List.set_cons_zero, List.set_cons_succ])
        refine wpAnyH_take (i := 18) (oi := cp7o18) (v := ?_) rfl (by kernel_rfl) (by kernel_rfl) (by kernel_rfl) (fun _ _ _ h => h) (Or.inl ⟨by rfl, ?_⟩) (by assumption) ?_
        rotate_left
        · (intro w hSw; (try dsimp only at hSw); obtain ⟨s0, s1, s2⟩ := hSw; (try dsimp only [cp7o18]); go_simp; try (with_reducible rfl))
        (try simp only [Act.put, List.setIfInBounds_toArray, List.set_cons_zero, List.set_cons_succ])
        refine wpAnyH_take (i := 19) (oi := cp7o19) (v := ?_) rfl (by kernel_rfl) (by kernel_rfl) (by kernel_rfl) (fun _ _ _ h => h) (Or.inl ⟨by rfl, ?_⟩) (by assumption) ?_
        rotate_left
        · (intro w hSw; (try dsimp only at hSw); obtain ⟨s0, s1, s2⟩ := hSw; (try dsimp only [cp7o19]); go_simp; try (with_reducible rfl))
        (try simp only [Act.put, List.setIfInBounds_toArray, List.set_cons_zero, List.set_cons_succ])
        refine wpAnyH_done (by kernel_rfl) ?_ _
        refine NoPanic.normal ?_
        go_wp2_with fail
        go_roundw
        case rel => exact ⟨j + 1, by rw [HP2.out], by go_num, by omega, Lib.hid (HB.out.trans (K6.out.mono HB.out.size))⟩
        case measure => simp [intOf]; omega
      · have hjm : j = n := by omega
        subst hjm
        have hdec : decide ((j : Int) < (j : Int)) = false := decide_eq_false (by omega)
        rw [List.take_of_length_le (by rw [HLN.out]; exact Nat.le_refl _)]
        obtain ⟨P, hP⟩ : ∃ P, P = Y2 ++ rwL rs := ⟨_, rfl⟩
        rw [← hP]
        have HPP := Lib.hid hP
        clear hP
        go_wp2_with fail
        go_ret2
        exact ⟨by rw [← HPP.out]; rfl, B0.out.trans (HB.out.mono B0.out.size)⟩
  · rw [decide_eq_false hm] at HMY
    have HE : Hid (clB ep rs = [] ∧ clE rs = 4) := Lib.hid (by unfold clB clE; rw [if_neg hm, if_neg hm]; exact ⟨rfl, rfl⟩)
    rw [HE.out.1, HE.out.2]
    clear hm h hep
    go_enter Try.func12, Try.ntmps12
    go_wp2_with fail
    rw [← hW0]
    refine HMY.out.mono ?_
    rintro e w1 ⟨rfl, b1⟩
    have B2 := Lib.hid (B0.out.trans (b1.mono B0.out.size))
    clear b1
    go_wp2_with fail
    go_ret2
    exact ⟨rfl, B2.out⟩

end Go.Proofs.Ytackddgihdnmgaa
