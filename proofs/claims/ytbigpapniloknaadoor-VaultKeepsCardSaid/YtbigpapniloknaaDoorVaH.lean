/- Contracts of vault's tears and mayWait. Written by wip/tools/gen_vamay.py. -/
import Derived.Test.YtbigpapniloknaaDoorVaR
import Derived.Test.YtbigpapniloknaaDoorVaC
import Derived.Deep.Cut
import Derived.Deep.CutBlock
import Derived.Deep.RegionHeld3
namespace Go.Proofs.YtbigpapniloknaaDoor
open Go.RowKit Go.Maps
set_option maxRecDepth 100000

abbrev mw1o0 : Oper := { dst := some 7, op := Op.fieldAddr 33 (Operand.tmp 2) 0, type := 0, pos := "vault.go:97", after := #[], guard := none }
abbrev mw1o1 : Oper := { dst := some 8, op := Op.load 3 (Operand.tmp 7), type := 3, pos := "vault.go:97", after := #[{ on := 0, ground := Ground.data }], guard := none }
abbrev mw1o2 : Oper := { dst := some 9, op := Op.call { callee := Callee.value (Operand.func 20), args := #[Operand.tmp 8], argTypes := #[3] }, type := 60, pos := "vault.go:97", after := #[{ on := 1, ground := Ground.data }], guard := none }
abbrev mw1o3 : Oper := { dst := some 10, op := Op.fieldAddr 33 (Operand.tmp 2) 1, type := 0, pos := "vault.go:97", after := #[], guard := none }
abbrev mw1o4 : Oper := { dst := some 11, op := Op.load 3 (Operand.tmp 10), type := 3, pos := "vault.go:97", after := #[{ on := 3, ground := Ground.data }], guard := none }
abbrev mw1o5 : Oper := { dst := some 12, op := Op.binOp BinOp.sub 3 (Operand.const (Value.int IntKind.i64 1)) (Operand.tmp 11) 3, type := 3, pos := "vault.go:97", after := #[{ on := 4, ground := Ground.data }], guard := none }
abbrev mw1o6 : Oper := { dst := some 13, op := Op.call { callee := Callee.value (Operand.tmp 9), args := #[Operand.tmp 12], argTypes := #[3] }, type := 3, pos := "vault.go:97", after := #[{ on := 2, ground := Ground.data }, { on := 5, ground := Ground.data }, { on := 2, ground := Ground.chain }], guard := none }
abbrev mw1o7 : Oper := { dst := some 5, op := Op.assign (Operand.tmp 13), type := 3, pos := "vault.go:97", after := #[{ on := 6, ground := Ground.data }, { on := 6, ground := Ground.chain }, { on := 0, ground := Ground.phase }, { on := 1, ground := Ground.phase }, { on := 2, ground := Ground.phase }, { on := 3, ground := Ground.phase }, { on := 4, ground := Ground.phase }, { on := 5, ground := Ground.phase }, { on := 6, ground := Ground.phase }], guard := none }
abbrev mw4o0 : Oper := { dst := some 24, op := Op.move (Operand.tmp 1), type := 24, pos := "vault.go:103", after := #[], guard := none }
abbrev mw4o1 : Oper := { dst := some 25, op := Op.move (Operand.tmp 5), type := 3, pos := "vault.go:103", after := #[], guard := none }
abbrev mw4o2 : Oper := { dst := some 26, op := Op.binOp BinOp.add 3 (Operand.tmp 25) (Operand.const (Value.int IntKind.i64 1)) 3, type := 3, pos := "vault.go:103", after := #[{ on := 1, ground := Ground.data }], guard := none }
abbrev mw4o3 : Oper := { dst := some 27, op := Op.fieldAddr 33 (Operand.tmp 2) 0, type := 0, pos := "vault.go:103", after := #[], guard := none }
abbrev mw4o4 : Oper := { dst := some 28, op := Op.load 3 (Operand.tmp 27), type := 3, pos := "vault.go:103", after := #[{ on := 3, ground := Ground.data }], guard := none }
abbrev mw4o5 : Oper := { dst := some 29, op := Op.binOp BinOp.sub 3 (Operand.tmp 28) (Operand.const (Value.int IntKind.i64 1)) 3, type := 3, pos := "vault.go:103", after := #[{ on := 4, ground := Ground.data }], guard := none }
abbrev mw4o6 : Oper := { dst := some 30, op := Op.call { callee := Callee.value (Operand.func 28), args := #[Operand.tmp 24, Operand.tmp 26, Operand.tmp 29], argTypes := #[24, 3, 3] }, type := 29, pos := "vault.go:103", after := #[{ on := 0, ground := Ground.data }, { on := 2, ground := Ground.data }, { on := 5, ground := Ground.data }], guard := none }
abbrev mw4o7 : Oper := { dst := some 31, op := Op.fieldAddr 33 (Operand.tmp 2) 2, type := 0, pos := "vault.go:103", after := #[], guard := none }
abbrev mw4o8 : Oper := { dst := some 32, op := Op.fieldAddr 31 (Operand.tmp 31) 2, type := 0, pos := "vault.go:103", after := #[{ on := 7, ground := Ground.data }], guard := none }
abbrev mw4o9 : Oper := { dst := some 33, op := Op.load 29 (Operand.tmp 32), type := 29, pos := "vault.go:103", after := #[{ on := 8, ground := Ground.data }], guard := none }
abbrev mw4o10 : Oper := { dst := some 34, op := Op.binOp BinOp.gtr 29 (Operand.tmp 30) (Operand.tmp 33) 29, type := 4, pos := "vault.go:103", after := #[{ on := 6, ground := Ground.data }, { on := 9, ground := Ground.data }], guard := none }
abbrev mw4o11 : Oper := { dst := some 23, op := Op.assign (Operand.tmp 34), type := 4, pos := "vault.go:103", after := #[{ on := 10, ground := Ground.data }, { on := 6, ground := Ground.chain }], guard := none }
abbrev mw6o0 : Oper := { dst := some 35, op := Op.move (Operand.tmp 1), type := 24, pos := "vault.go:107", after := #[], guard := none }
abbrev mw6o1 : Oper := { dst := some 36, op := Op.move (Operand.tmp 5), type := 3, pos := "vault.go:107", after := #[], guard := none }
abbrev mw6o2 : Oper := { dst := some 37, op := Op.fieldAddr 33 (Operand.tmp 2) 0, type := 0, pos := "vault.go:107", after := #[], guard := none }
abbrev mw6o3 : Oper := { dst := some 38, op := Op.load 3 (Operand.tmp 37), type := 3, pos := "vault.go:107", after := #[{ on := 2, ground := Ground.data }], guard := none }
abbrev mw6o4 : Oper := { dst := some 39, op := Op.call { callee := Callee.value (Operand.func 28), args := #[Operand.tmp 35, Operand.tmp 36, Operand.tmp 38], argTypes := #[24, 3, 3] }, type := 29, pos := "vault.go:107", after := #[{ on := 0, ground := Ground.data }, { on := 1, ground := Ground.data }, { on := 3, ground := Ground.data }], guard := none }
abbrev mw6o5 : Oper := { dst := some 40, op := Op.fieldAddr 33 (Operand.tmp 2) 2, type := 0, pos := "vault.go:107", after := #[], guard := none }
abbrev mw6o6 : Oper := { dst := some 41, op := Op.fieldAddr 31 (Operand.tmp 40) 2, type := 0, pos := "vault.go:107", after := #[{ on := 5, ground := Ground.data }], guard := none }
abbrev mw6o7 : Oper := { dst := some 42, op := Op.load 29 (Operand.tmp 41), type := 29, pos := "vault.go:107", after := #[{ on := 6, ground := Ground.data }], guard := none }
abbrev mw6o8 : Oper := { dst := some 43, op := Op.call { callee := Callee.builtin Builtin.max, args := #[Operand.tmp 39, Operand.tmp 42], argTypes := #[29, 29] }, type := 29, pos := "vault.go:107", after := #[{ on := 4, ground := Ground.data }, { on := 7, ground := Ground.data }], guard := none }
abbrev mw6o9 : Oper := { dst := some 44, op := Op.fieldAddr 33 (Operand.tmp 2) 2, type := 0, pos := "vault.go:107", after := #[], guard := none }
abbrev mw6o10 : Oper := { dst := some 45, op := Op.fieldAddr 31 (Operand.tmp 44) 2, type := 0, pos := "vault.go:107", after := #[{ on := 9, ground := Ground.data }], guard := none }
abbrev mw6o11 : Oper := { dst := some 46, op := Op.load 29 (Operand.tmp 45), type := 29, pos := "vault.go:107", after := #[{ on := 10, ground := Ground.data }], guard := none }
abbrev mw6o12 : Oper := { dst := some 47, op := Op.binOp BinOp.sub 29 (Operand.tmp 43) (Operand.tmp 46) 29, type := 29, pos := "vault.go:107", after := #[{ on := 8, ground := Ground.data }, { on := 11, ground := Ground.data }], guard := none }
abbrev mw6o13 : Oper := { dst := some 6, op := Op.assign (Operand.tmp 47), type := 29, pos := "vault.go:107", after := #[{ on := 12, ground := Ground.data }, { on := 4, ground := Ground.chain }, { on := 0, ground := Ground.phase }, { on := 1, ground := Ground.phase }, { on := 2, ground := Ground.phase }, { on := 3, ground := Ground.phase }, { on := 4, ground := Ground.phase }, { on := 5, ground := Ground.phase }, { on := 6, ground := Ground.phase }, { on := 7, ground := Ground.phase }, { on := 8, ground := Ground.phase }, { on := 9, ground := Ground.phase }, { on := 10, ground := Ground.phase }, { on := 11, ground := Ground.phase }, { on := 12, ground := Ground.phase }], guard := none }

theorem vault_tears (t : List UInt8) (w : World) :
    Calls Tryd.prog 29 #[.string (bs t)] w fun e w' => e = .returned (.bool (decide (106 < t.length))) ∧ w = w' := by
  have hsz := bs_size t
  by_cases h : 106 < t.length
  · have hd : decide ((106 : Int) < (t.length : Int)) = true := decide_eq_true (by omega)
    have hd' : decide (106 < t.length) = true := decide_eq_true h
    rw [hd']
    clear h
    go_enter Tryd.func29, Tryd.ntmps29
    go_wp2_with fail
    go_ret
    exact ⟨rfl, rfl⟩
  · have hd : decide ((106 : Int) < (t.length : Int)) = false := decide_eq_false (by omega)
    have hd' : decide (106 < t.length) = false := decide_eq_false h
    rw [hd']
    clear h
    go_enter Tryd.func29, Tryd.ntmps29
    go_wp2_with fail
    go_ret
    exact ⟨rfl, rfl⟩

set_option maxHeartbeats 8000000 in
theorem vault_mayWait (base : Nat) (w : World) (p gl M : Nat) (v : Value) (D : DSt) (n sl g : Nat) (fr room nx : Int) (st : Bool) (h : IsDisk base w p gl M v D) (h1 : 1 ≤ n) (hn : n ≤ 4096) (hsl : sl < 2) (hg : g < 18446744073709551616) :
    Calls Tryd.prog 30 #[vaultV (n : Int) (sl : Int) fr room g nx st, .pointer (some ⟨p, 0, none⟩)] w fun e w' => (∃ b : Bool, e = .returned (.bool b)) ∧ Below w.heap.size w w' := by
  have HD : Hid (∀ W, Below w.heap.size w W → IsDisk base W p gl M v D) := Lib.hid (fun W hb => h.keep hb)
  have HSL := Lib.hid (fun W => vault_slots n W)
  obtain ⟨o, ho⟩ : ∃ o, o = 1 - sl := ⟨_, rfl⟩
  obtain ⟨q, hq⟩ : ∃ q, q = o * n := ⟨_, rfl⟩
  have ho1 : o ≤ 1 := by omega
  have hql : q ≤ 1 * 4096 := by rw [hq]; exact Nat.mul_le_mul ho1 hn
  have hqb1 : (q : Int) + 1 ≤ 9223372036854775807 := by omega
  have hqb2 : (q : Int) ≤ 9223372036854775807 := by omega
  have HAT : Hid (∀ W b, Blk W b 3 [.int .i64 (n : Int)] → Calls Tryd.prog 41 #[.int .i64 (o : Int), .pointer (some ⟨b, 0, none⟩)] W fun e w' => e = .returned (.int .i64 (q : Int)) ∧ W = w') := Lib.hid (fun W b hb => by
    have := vault_at n o b W hb hn (by omega)
    rw [← hq] at this
    exact this)
  have HNW := Lib.hid (fun W (hb : Below w.heap.size w W) (i r : Int) (hi : i ≤ 9223372036854775807) => slot_Newest base W p gl M v D i r hi (HD.out W hb))
  obtain ⟨e1, he1⟩ : ∃ e1, e1 = newF (openL2 D ((q : Int) + 1) ((n : Int) - 1)) := ⟨_, rfl⟩
  obtain ⟨e2, he2⟩ : ∃ e2, e2 = newF (openL2 D (q : Int) (n : Int)) := ⟨_, rfl⟩
  have HN1 := Lib.hid (fun W (hb : Below w.heap.size w W) => HNW.out W hb ((q : Int) + 1) ((n : Int) - 1) hqb1)
  have HN2 := Lib.hid (fun W (hb : Below w.heap.size w W) => HNW.out W hb (q : Int) (n : Int) hqb2)
  rw [← he1] at HN1
  rw [← he2] at HN2
  clear hqb1 hqb2 HNW he1 he2
  have HWT := Lib.hid (fun W (hb : Below w.heap.size w W) => disk_Waiting base W p gl M v D (HD.out W hb))
  have hws : IntKind.i64.wrap (1 - (sl : Int)) = (o : Int) := by rw [IntWalk.i64_in _ (by omega)]; omega
  have hq1 : IntKind.i64.wrap ((q : Int) + 1) = (q : Int) + 1 := IntWalk.i64_in _ (by omega)
  have hn1 : IntKind.i64.wrap ((n : Int) - 1) = (n : Int) - 1 := IntWalk.i64_in _ (by omega)
  unfold vaultV
  obtain ⟨W0, hW0⟩ : ∃ W0, W0 = w.alloc (.cells #[.int .i64 (n : Int), .int .i64 (sl : Int), .int .i64 fr, .int .i64 room, .int .u64 (g : Int), .int .i64 nx, .bool st] 33) := ⟨_, rfl⟩
  have V0 : Hid (Blk W0 w.heap.size 33 [.int .i64 (n : Int), .int .i64 (sl : Int), .int .i64 fr, .int .i64 room, .int .u64 (g : Int), .int .i64 nx, .bool st]) := Lib.hid (by rw [hW0]; exact Blk.box7 _ _ _ _ _ _ _ _ _)
  have B0 : Hid (Below w.heap.size w W0) := Lib.hid (by rw [hW0]; exact (Below.refl _ _).alloc (Nat.le_refl _) _)
  have HC : Hid (∀ w', Below W0.heap.size W0 w' → w'.cell? ⟨w.heap.size, 0, none⟩ = some (.int .i64 (n : Int)) ∧ w'.cell? ⟨w.heap.size, 1, none⟩ = some (.int .i64 (sl : Int)) ∧ w'.cell? ⟨w.heap.size, 4, none⟩ = some (.int .u64 (g : Int))) := Lib.hid (fun w' hb => ⟨(V0.out.keep hb).cell 0, (V0.out.keep hb).cell 1, (V0.out.keep hb).cell 4⟩)
  have K0 : Hid (Below W0.heap.size W0 W0.drew) := Lib.hid (Below.refl _ _).drew
  clear h ho hq hql ho1
  go_enter Tryd.func30, Tryd.ntmps30
  go_upto_region 1 with fail
  rw [← hW0]
  clear hW0
  refine wp_region_noPanic ?_
  refine wp_region_held_drew (S := fun w' => w'.cell? ⟨w.heap.size, 0, none⟩ = some (.int .i64 (n : Int)) ∧ w'.cell? ⟨w.heap.size, 1, none⟩ = some (.int .i64 (sl : Int)) ∧ w'.cell? ⟨w.heap.size, 4, none⟩ = some (.int .u64 (g : Int))) (by kernel_rfl) ?_ (fun hHeld => ?_)
  · exact HC.out _ K0.out
  refine wpAnyH_take (i := 0) (oi := mw1o0) (v := ?_) rfl (by kernel_rfl) (by kernel_rfl) (by kernel_rfl) (fun _ _ _ h => h) (Or.inl ⟨by rfl, ?_⟩) (by assumption) ?_
  rotate_left
  · (intro w hSw; (try dsimp only at hSw); obtain ⟨s0, s1, s4⟩ := hSw; (try dsimp only [mw1o0]); go_simp; try (with_reducible rfl))
  (try simp only [Act.put, List.setIfInBounds_toArray, List.set_cons_zero, List.set_cons_succ])
  refine wpAnyH_take (i := 1) (oi := mw1o1) (v := ?_) rfl (by kernel_rfl) (by kernel_rfl) (by kernel_rfl) (fun _ _ _ h => h) (Or.inl ⟨by rfl, ?_⟩) (by assumption) ?_
  rotate_left
  · (intro w hSw; (try dsimp only at hSw); obtain ⟨s0, s1, s4⟩ := hSw; (try dsimp only [mw1o1]); go_simp; try (with_reducible rfl))
  (try simp only [Act.put, List.setIfInBounds_toArray, List.set_cons_zero, List.set_cons_succ])
  refine wpAnyH_take (i := 3) (oi := mw1o3) (v := ?_) rfl (by kernel_rfl) (by kernel_rfl) (by kernel_rfl) (fun _ _ _ h => h) (Or.inl ⟨by rfl, ?_⟩) (by assumption) ?_
  rotate_left
  · (intro w hSw; (try dsimp only at hSw); obtain ⟨s0, s1, s4⟩ := hSw; (try dsimp only [mw1o3]); go_simp; try (with_reducible rfl))
  (try simp only [Act.put, List.setIfInBounds_toArray, List.set_cons_zero, List.set_cons_succ])
  refine wpAnyH_take (i := 4) (oi := mw1o4) (v := ?_) rfl (by kernel_rfl) (by kernel_rfl) (by kernel_rfl) (fun _ _ _ h => h) (Or.inl ⟨by rfl, ?_⟩) (by assumption) ?_
  rotate_left
  · (intro w hSw; (try dsimp only at hSw); obtain ⟨s0, s1, s4⟩ := hSw; (try dsimp only [mw1o4]); go_simp; try (with_reducible rfl))
  (try simp only [Act.put, List.setIfInBounds_toArray, List.set_cons_zero, List.set_cons_succ])
  refine wpAnyH_take (i := 5) (oi := mw1o5) (v := ?_) rfl (by kernel_rfl) (by kernel_rfl) (by kernel_rfl) (fun _ _ _ h => h) (Or.inl ⟨by rfl, ?_⟩) (by assumption) ?_
  rotate_left
  · (intro w hSw; (try dsimp only at hSw); obtain ⟨s0, s1, s4⟩ := hSw; (try dsimp only [mw1o5]); go_simp; try (with_reducible rfl))
  (try simp only [Act.put, List.setIfInBounds_toArray, List.set_cons_zero, List.set_cons_succ])
  refine wpAnyH_ready (rs := [2]) (by kernel_rfl) (by simp) ?_
  refine AllReadyH.cons (o := mw1o2) rfl (fun K hK => ?_) AllReadyH.nil
  dsimp only [mw1o2]
  go_simp
  refine (HSL.out _).mono ?_
  rintro e w1 ⟨rfl, s1, b1⟩
  have K1 := Lib.hid (K0.out.trans (b1.mono K0.out.size))
  have S1 := Lib.hid s1
  clear s1 b1
  (try go_wp2_with fail)
  refine hK.out _ _ ?_ (fun hHeld => ?_)
  · exact HC.out _ K1.out
  clear hK K
  (try simp only [Act.put, List.setIfInBounds_toArray, List.set_cons_zero, List.set_cons_succ])
  refine wpAnyH_ready (rs := [6]) (by kernel_rfl) (by simp) ?_
  refine AllReadyH.cons (o := mw1o6) rfl (fun K hK => ?_) AllReadyH.nil
  simp only [hws]
  dsimp only [mw1o6]
  go_simp
  refine (HAT.out _ _ S1.out).mono ?_
  rintro e w2 ⟨rfl, rfl⟩
  (try go_wp2_with fail)
  refine hK.out _ _ ?_ (fun hHeld => ?_)
  · exact HC.out _ K1.out
  clear hK K
  (try simp only [Act.put, List.setIfInBounds_toArray, List.set_cons_zero, List.set_cons_succ])
  refine wpAnyH_take (i := 7) (oi := mw1o7) (v := ?_) rfl (by kernel_rfl) (by kernel_rfl) (by kernel_rfl) (fun _ _ _ h => h) (Or.inl ⟨by rfl, ?_⟩) (by assumption) ?_
  rotate_left
  · (intro w hSw; (try dsimp only at hSw); obtain ⟨s0, s1, s4⟩ := hSw; (try dsimp only [mw1o7]); go_simp; try (with_reducible rfl))
  (try simp only [Act.put, List.setIfInBounds_toArray, List.set_cons_zero, List.set_cons_succ])
  refine wpAnyH_done (by kernel_rfl) ?_ _
  refine NoPanic.normal ?_
  cases st with
  | false =>
    obtain ⟨a0, a1, a2, a3, a4, a5, a6⟩ := (V0.out.keep K1.out).sevenV
    go_wp2_with fail
    go_ret
    exact ⟨⟨_, rfl⟩, B0.out.trans (K1.out.mono B0.out.size)⟩
  | true =>
    by_cases hnx : 0 < nx
    · have d1 : decide ((0 : Int) < nx) = true := decide_eq_true hnx
      obtain ⟨a0, a1, a2, a3, a4, a5, a6⟩ := (V0.out.keep K1.out).sevenV
      go_wp2_with fail
      go_ret
      exact ⟨⟨_, rfl⟩, B0.out.trans (K1.out.mono B0.out.size)⟩
    · have d1 : decide ((0 : Int) < nx) = false := decide_eq_false hnx
      obtain ⟨a0, a1, a2, a3, a4, a5, a6⟩ := (V0.out.keep K1.out).sevenV
      clear hnx
      go_upto_region 4 with fail
      clear a0 a1 a2 a3 a4 a5 a6
      refine wp_region_noPanic ?_
      refine wp_region_held_drew (S := fun w' => w'.cell? ⟨w.heap.size, 0, none⟩ = some (.int .i64 (n : Int)) ∧ w'.cell? ⟨w.heap.size, 1, none⟩ = some (.int .i64 (sl : Int)) ∧ w'.cell? ⟨w.heap.size, 4, none⟩ = some (.int .u64 (g : Int))) (by kernel_rfl) ?_ (fun hHeld => ?_)
      · exact HC.out _ K1.out.drew
      refine wpAnyH_take (i := 0) (oi := mw4o0) (v := ?_) rfl (by kernel_rfl) (by kernel_rfl) (by kernel_rfl) (fun _ _ _ h => h) (Or.inl ⟨by rfl, ?_⟩) (by assumption) ?_
      rotate_left
      · (intro w hSw; (try dsimp only at hSw); obtain ⟨s0, s1, s4⟩ := hSw; (try dsimp only [mw4o0]); go_simp; try (with_reducible rfl))
      (try simp only [Act.put, List.setIfInBounds_toArray, List.set_cons_zero, List.set_cons_succ])
      refine wpAnyH_take (i := 1) (oi := mw4o1) (v := ?_) rfl (by kernel_rfl) (by kernel_rfl) (by kernel_rfl) (fun _ _ _ h => h) (Or.inl ⟨by rfl, ?_⟩) (by assumption) ?_
      rotate_left
      · (intro w hSw; (try dsimp only at hSw); obtain ⟨s0, s1, s4⟩ := hSw; (try dsimp only [mw4o1]); go_simp; try (with_reducible rfl))
      (try simp only [Act.put, List.setIfInBounds_toArray, List.set_cons_zero, List.set_cons_succ])
      refine wpAnyH_take (i := 2) (oi := mw4o2) (v := ?_) rfl (by kernel_rfl) (by kernel_rfl) (by kernel_rfl) (fun _ _ _ h => h) (Or.inl ⟨by rfl, ?_⟩) (by assumption) ?_
      rotate_left
      · (intro w hSw; (try dsimp only at hSw); obtain ⟨s0, s1, s4⟩ := hSw; (try dsimp only [mw4o2]); go_simp; try (with_reducible rfl))
      (try simp only [Act.put, List.setIfInBounds_toArray, List.set_cons_zero, List.set_cons_succ])
      refine wpAnyH_take (i := 3) (oi := mw4o3) (v := ?_) rfl (by kernel_rfl) (by kernel_rfl) (by kernel_rfl) (fun _ _ _ h => h) (Or.inl ⟨by rfl, ?_⟩) (by assumption) ?_
      rotate_left
      · (intro w hSw; (try dsimp only at hSw); obtain ⟨s0, s1, s4⟩ := hSw; (try dsimp only [mw4o3]); go_simp; try (with_reducible rfl))
      (try simp only [Act.put, List.setIfInBounds_toArray, List.set_cons_zero, List.set_cons_succ])
      refine wpAnyH_take (i := 4) (oi := mw4o4) (v := ?_) rfl (by kernel_rfl) (by kernel_rfl) (by kernel_rfl) (fun _ _ _ h => h) (Or.inl ⟨by rfl, ?_⟩) (by assumption) ?_
      rotate_left
      · (intro w hSw; (try dsimp only at hSw); obtain ⟨s0, s1, s4⟩ := hSw; (try dsimp only [mw4o4]); go_simp; try (with_reducible rfl))
      (try simp only [Act.put, List.setIfInBounds_toArray, List.set_cons_zero, List.set_cons_succ])
      refine wpAnyH_take (i := 5) (oi := mw4o5) (v := ?_) rfl (by kernel_rfl) (by kernel_rfl) (by kernel_rfl) (fun _ _ _ h => h) (Or.inl ⟨by rfl, ?_⟩) (by assumption) ?_
      rotate_left
      · (intro w hSw; (try dsimp only at hSw); obtain ⟨s0, s1, s4⟩ := hSw; (try dsimp only [mw4o5]); go_simp; try (with_reducible rfl))
      (try simp only [Act.put, List.setIfInBounds_toArray, List.set_cons_zero, List.set_cons_succ])
      refine wpAnyH_take (i := 7) (oi := mw4o7) (v := ?_) rfl (by kernel_rfl) (by kernel_rfl) (by kernel_rfl) (fun _ _ _ h => h) (Or.inl ⟨by rfl, ?_⟩) (by assumption) ?_
      rotate_left
      · (intro w hSw; (try dsimp only at hSw); obtain ⟨s0, s1, s4⟩ := hSw; (try dsimp only [mw4o7]); go_simp; try (with_reducible rfl))
      (try simp only [Act.put, List.setIfInBounds_toArray, List.set_cons_zero, List.set_cons_succ])
      refine wpAnyH_take (i := 8) (oi := mw4o8) (v := ?_) rfl (by kernel_rfl) (by kernel_rfl) (by kernel_rfl) (fun _ _ _ h => h) (Or.inl ⟨by rfl, ?_⟩) (by assumption) ?_
      rotate_left
      · (intro w hSw; (try dsimp only at hSw); obtain ⟨s0, s1, s4⟩ := hSw; (try dsimp only [mw4o8]); go_simp; try (with_reducible rfl))
      (try simp only [Act.put, List.setIfInBounds_toArray, List.set_cons_zero, List.set_cons_succ])
      refine wpAnyH_take (i := 9) (oi := mw4o9) (v := ?_) rfl (by kernel_rfl) (by kernel_rfl) (by kernel_rfl) (fun _ _ _ h => h) (Or.inl ⟨by rfl, ?_⟩) (by assumption) ?_
      rotate_left
      · (intro w hSw; (try dsimp only at hSw); obtain ⟨s0, s1, s4⟩ := hSw; (try dsimp only [mw4o9]); go_simp; try (with_reducible rfl))
      (try simp only [Act.put, List.setIfInBounds_toArray, List.set_cons_zero, List.set_cons_succ])
      refine wpAnyH_ready (rs := [6]) (by kernel_rfl) (by simp) ?_
      refine AllReadyH.cons (o := mw4o6) rfl (fun K hK => ?_) AllReadyH.nil
      simp only [hq1, hn1]
      dsimp only [mw4o6]
      go_simp
      refine (HN1.out _ (B0.out.trans ((K1.out.drew).mono B0.out.size))).mono ?_
      rintro e w3 ⟨rfl, b3⟩
      have K3 := Lib.hid (K1.out.drew.trans (b3.mono K1.out.drew.size))
      clear b3
      (try go_wp2_with fail)
      refine hK.out _ _ ?_ (fun hHeld => ?_)
      · exact HC.out _ K3.out
      clear hK K
      (try simp only [Act.put, List.setIfInBounds_toArray, List.set_cons_zero, List.set_cons_succ])
      refine wpAnyH_take (i := 10) (oi := mw4o10) (v := ?_) rfl (by kernel_rfl) (by kernel_rfl) (by kernel_rfl) (fun _ _ _ h => h) (Or.inl ⟨by rfl, ?_⟩) (by assumption) ?_
      rotate_left
      · (intro w hSw; (try dsimp only at hSw); obtain ⟨s0, s1, s4⟩ := hSw; (try dsimp only [mw4o10]); go_simp; try (with_reducible rfl))
      (try simp only [Act.put, List.setIfInBounds_toArray, List.set_cons_zero, List.set_cons_succ])
      refine wpAnyH_take (i := 11) (oi := mw4o11) (v := ?_) rfl (by kernel_rfl) (by kernel_rfl) (by kernel_rfl) (fun _ _ _ h => h) (Or.inl ⟨by rfl, ?_⟩) (by assumption) ?_
      rotate_left
      · (intro w hSw; (try dsimp only at hSw); obtain ⟨s0, s1, s4⟩ := hSw; (try dsimp only [mw4o11]); go_simp; try (with_reducible rfl))
      (try simp only [Act.put, List.setIfInBounds_toArray, List.set_cons_zero, List.set_cons_succ])
      refine wpAnyH_done (by kernel_rfl) ?_ _
      refine NoPanic.normal ?_
      clear hws hq1 hn1
      by_cases hgt : g < e1
      · have d2 : decide (g < e1) = true := decide_eq_true hgt
        rw [d2]
        clear hgt
        go_wp2_with fail
        go_ret
        exact ⟨⟨_, rfl⟩, B0.out.trans (K3.out.mono B0.out.size)⟩
      · have d2 : decide (g < e1) = false := decide_eq_false hgt
        rw [d2]
        clear hgt
        go_upto_region 6 with fail
        refine wp_region_noPanic ?_
        refine wp_region_held_drew (S := fun w' => w'.cell? ⟨w.heap.size, 0, none⟩ = some (.int .i64 (n : Int)) ∧ w'.cell? ⟨w.heap.size, 1, none⟩ = some (.int .i64 (sl : Int)) ∧ w'.cell? ⟨w.heap.size, 4, none⟩ = some (.int .u64 (g : Int))) (by kernel_rfl) ?_ (fun hHeld => ?_)
        · exact HC.out _ K3.out.drew
        refine wpAnyH_take (i := 0) (oi := mw6o0) (v := ?_) rfl (by kernel_rfl) (by kernel_rfl) (by kernel_rfl) (fun _ _ _ h => h) (Or.inl ⟨by rfl, ?_⟩) (by assumption) ?_
        rotate_left
        · (intro w hSw; (try dsimp only at hSw); obtain ⟨s0, s1, s4⟩ := hSw; (try dsimp only [mw6o0]); go_simp; try (with_reducible rfl))
        (try simp only [Act.put, List.setIfInBounds_toArray, List.set_cons_zero, List.set_cons_succ])
        refine wpAnyH_take (i := 1) (oi := mw6o1) (v := ?_) rfl (by kernel_rfl) (by kernel_rfl) (by kernel_rfl) (fun _ _ _ h => h) (Or.inl ⟨by rfl, ?_⟩) (by assumption) ?_
        rotate_left
        · (intro w hSw; (try dsimp only at hSw); obtain ⟨s0, s1, s4⟩ := hSw; (try dsimp only [mw6o1]); go_simp; try (with_reducible rfl))
        (try simp only [Act.put, List.setIfInBounds_toArray, List.set_cons_zero, List.set_cons_succ])
        refine wpAnyH_take (i := 2) (oi := mw6o2) (v := ?_) rfl (by kernel_rfl) (by kernel_rfl) (by kernel_rfl) (fun _ _ _ h => h) (Or.inl ⟨by rfl, ?_⟩) (by assumption) ?_
        rotate_left
        · (intro w hSw; (try dsimp only at hSw); obtain ⟨s0, s1, s4⟩ := hSw; (try dsimp only [mw6o2]); go_simp; try (with_reducible rfl))
        (try simp only [Act.put, List.setIfInBounds_toArray, List.set_cons_zero, List.set_cons_succ])
        refine wpAnyH_take (i := 3) (oi := mw6o3) (v := ?_) rfl (by kernel_rfl) (by kernel_rfl) (by kernel_rfl) (fun _ _ _ h => h) (Or.inl ⟨by rfl, ?_⟩) (by assumption) ?_
        rotate_left
        · (intro w hSw; (try dsimp only at hSw); obtain ⟨s0, s1, s4⟩ := hSw; (try dsimp only [mw6o3]); go_simp; try (with_reducible rfl))
        (try simp only [Act.put, List.setIfInBounds_toArray, List.set_cons_zero, List.set_cons_succ])
        refine wpAnyH_take (i := 5) (oi := mw6o5) (v := ?_) rfl (by kernel_rfl) (by kernel_rfl) (by kernel_rfl) (fun _ _ _ h => h) (Or.inl ⟨by rfl, ?_⟩) (by assumption) ?_
        rotate_left
        · (intro w hSw; (try dsimp only at hSw); obtain ⟨s0, s1, s4⟩ := hSw; (try dsimp only [mw6o5]); go_simp; try (with_reducible rfl))
        (try simp only [Act.put, List.setIfInBounds_toArray, List.set_cons_zero, List.set_cons_succ])
        refine wpAnyH_take (i := 6) (oi := mw6o6) (v := ?_) rfl (by kernel_rfl) (by kernel_rfl) (by kernel_rfl) (fun _ _ _ h => h) (Or.inl ⟨by rfl, ?_⟩) (by assumption) ?_
        rotate_left
        · (intro w hSw; (try dsimp only at hSw); obtain ⟨s0, s1, s4⟩ := hSw; (try dsimp only [mw6o6]); go_simp; try (with_reducible rfl))
        (try simp only [Act.put, List.setIfInBounds_toArray, List.set_cons_zero, List.set_cons_succ])
        refine wpAnyH_take (i := 7) (oi := mw6o7) (v := ?_) rfl (by kernel_rfl) (by kernel_rfl) (by kernel_rfl) (fun _ _ _ h => h) (Or.inl ⟨by rfl, ?_⟩) (by assumption) ?_
        rotate_left
        · (intro w hSw; (try dsimp only at hSw); obtain ⟨s0, s1, s4⟩ := hSw; (try dsimp only [mw6o7]); go_simp; try (with_reducible rfl))
        (try simp only [Act.put, List.setIfInBounds_toArray, List.set_cons_zero, List.set_cons_succ])
        refine wpAnyH_take (i := 9) (oi := mw6o9) (v := ?_) rfl (by kernel_rfl) (by kernel_rfl) (by kernel_rfl) (fun _ _ _ h => h) (Or.inl ⟨by rfl, ?_⟩) (by assumption) ?_
        rotate_left
        · (intro w hSw; (try dsimp only at hSw); obtain ⟨s0, s1, s4⟩ := hSw; (try dsimp only [mw6o9]); go_simp; try (with_reducible rfl))
        (try simp only [Act.put, List.setIfInBounds_toArray, List.set_cons_zero, List.set_cons_succ])
        refine wpAnyH_take (i := 10) (oi := mw6o10) (v := ?_) rfl (by kernel_rfl) (by kernel_rfl) (by kernel_rfl) (fun _ _ _ h => h) (Or.inl ⟨by rfl, ?_⟩) (by assumption) ?_
        rotate_left
        · (intro w hSw; (try dsimp only at hSw); obtain ⟨s0, s1, s4⟩ := hSw; (try dsimp only [mw6o10]); go_simp; try (with_reducible rfl))
        (try simp only [Act.put, List.setIfInBounds_toArray, List.set_cons_zero, List.set_cons_succ])
        refine wpAnyH_take (i := 11) (oi := mw6o11) (v := ?_) rfl (by kernel_rfl) (by kernel_rfl) (by kernel_rfl) (fun _ _ _ h => h) (Or.inl ⟨by rfl, ?_⟩) (by assumption) ?_
        rotate_left
        · (intro w hSw; (try dsimp only at hSw); obtain ⟨s0, s1, s4⟩ := hSw; (try dsimp only [mw6o11]); go_simp; try (with_reducible rfl))
        (try simp only [Act.put, List.setIfInBounds_toArray, List.set_cons_zero, List.set_cons_succ])
        refine wpAnyH_ready (rs := [4]) (by kernel_rfl) (by simp) ?_
        refine AllReadyH.cons (o := mw6o4) rfl (fun K hK => ?_) AllReadyH.nil
        dsimp only [mw6o4]
        go_simp
        refine (HN2.out _ (B0.out.trans ((K3.out.drew).mono B0.out.size))).mono ?_
        rintro e w4 ⟨rfl, b4⟩
        have K4 := Lib.hid (K3.out.drew.trans (b4.mono K3.out.drew.size))
        clear b4
        (try go_wp2_with fail)
        refine hK.out _ _ ?_ (fun hHeld => ?_)
        · exact HC.out _ K4.out
        clear hK K
        (try simp only [Act.put, List.setIfInBounds_toArray, List.set_cons_zero, List.set_cons_succ])
        refine wpAnyH_ready (rs := [8]) (by kernel_rfl) (by simp) ?_
        refine AllReadyH.cons (o := mw6o8) rfl (fun K hK => ?_) AllReadyH.nil
        dsimp only [mw6o8]
        go_simp
        refine hK.out _ _ ?_ (fun hHeld => ?_)
        · exact HC.out _ K4.out
        clear hK K
        (try simp only [Act.put, List.setIfInBounds_toArray, List.set_cons_zero, List.set_cons_succ])
        refine wpAnyH_take (i := 12) (oi := mw6o12) (v := ?_) rfl (by kernel_rfl) (by kernel_rfl) (by kernel_rfl) (fun _ _ _ h => h) (Or.inl ⟨by rfl, ?_⟩) (by assumption) ?_
        rotate_left
        · (intro w hSw; (try dsimp only at hSw); obtain ⟨s0, s1, s4⟩ := hSw; (try dsimp only [mw6o12]); go_simp; try (with_reducible rfl))
        (try simp only [Act.put, List.setIfInBounds_toArray, List.set_cons_zero, List.set_cons_succ])
        refine wpAnyH_take (i := 13) (oi := mw6o13) (v := ?_) rfl (by kernel_rfl) (by kernel_rfl) (by kernel_rfl) (fun _ _ _ h => h) (Or.inl ⟨by rfl, ?_⟩) (by assumption) ?_
        rotate_left
        · (intro w hSw; (try dsimp only at hSw); obtain ⟨s0, s1, s4⟩ := hSw; (try dsimp only [mw6o13]); go_simp; try (with_reducible rfl))
        (try simp only [Act.put, List.setIfInBounds_toArray, List.set_cons_zero, List.set_cons_succ])
        refine wpAnyH_done (by kernel_rfl) ?_ _
        refine NoPanic.normal ?_
        go_wp2_with fail
        refine (HWT.out _ (B0.out.trans (K4.out.mono B0.out.size))).mono ?_
        rintro e w5 ⟨rfl, rfl⟩
        go_wp2_with fail
        go_ret
        exact ⟨⟨_, rfl⟩, B0.out.trans (K4.out.mono B0.out.size)⟩
end Go.Proofs.YtbigpapniloknaaDoor
