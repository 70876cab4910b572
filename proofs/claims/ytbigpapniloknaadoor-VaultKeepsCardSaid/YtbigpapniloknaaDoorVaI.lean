/- The contract of vault's Settle, of a text that has room. Written by wip/tools/gen_vasettle.py. -/
import Derived.Test.YtbigpapniloknaaDoorVaH
namespace Go.Proofs.YtbigpapniloknaaDoor
open Go.RowKit Go.Maps
set_option maxRecDepth 100000

abbrev se1o0 : Oper := { dst := some 14, op := Op.fieldAddr 33 (Operand.tmp 3) 0, type := 0, pos := "vault.go:70", after := #[], guard := none }
abbrev se1o1 : Oper := { dst := some 15, op := Op.load 3 (Operand.tmp 14), type := 3, pos := "vault.go:70", after := #[{ on := 0, ground := Ground.data }], guard := none }
abbrev se1o2 : Oper := { dst := some 16, op := Op.call { callee := Callee.value (Operand.func 20), args := #[Operand.tmp 15], argTypes := #[3] }, type := 60, pos := "vault.go:70", after := #[{ on := 1, ground := Ground.data }], guard := none }
abbrev se1o3 : Oper := { dst := some 17, op := Op.fieldAddr 33 (Operand.tmp 3) 1, type := 0, pos := "vault.go:70", after := #[{ on := 6, ground := Ground.gcOnly Departure.lateStores }], guard := none }
abbrev se1o4 : Oper := { dst := some 18, op := Op.load 3 (Operand.tmp 17), type := 3, pos := "vault.go:70", after := #[{ on := 3, ground := Ground.data }, { on := 6, ground := Ground.gcOnly Departure.lateStores }], guard := none }
abbrev se1o5 : Oper := { dst := some 19, op := Op.binOp BinOp.sub 3 (Operand.const (Value.int IntKind.i64 1)) (Operand.tmp 18) 3, type := 3, pos := "vault.go:70", after := #[{ on := 4, ground := Ground.data }, { on := 6, ground := Ground.gcOnly Departure.lateStores }], guard := none }
abbrev se1o6 : Oper := { dst := some 8, op := Op.assign (Operand.tmp 16), type := 60, pos := "vault.go:70", after := #[{ on := 2, ground := Ground.data }, { on := 2, ground := Ground.chain }, { on := 0, ground := Ground.phase }, { on := 1, ground := Ground.phase }, { on := 2, ground := Ground.phase }, { on := 3, ground := Ground.textOnly Departure.lateStores }, { on := 4, ground := Ground.textOnly Departure.lateStores }, { on := 5, ground := Ground.textOnly Departure.lateStores }], guard := none }
abbrev se1o7 : Oper := { dst := some 9, op := Op.assign (Operand.tmp 19), type := 3, pos := "vault.go:70", after := #[{ on := 5, ground := Ground.data }, { on := 6, ground := Ground.chain }, { on := 0, ground := Ground.phase }, { on := 1, ground := Ground.phase }, { on := 2, ground := Ground.phase }, { on := 3, ground := Ground.phase }, { on := 4, ground := Ground.phase }, { on := 5, ground := Ground.phase }, { on := 6, ground := Ground.phase }], guard := none }
abbrev se2o0 : Oper := { dst := some 20, op := Op.move (Operand.tmp 1), type := 24, pos := "vault.go:71", after := #[], guard := none }
abbrev se2o1 : Oper := { dst := some 21, op := Op.move (Operand.tmp 8), type := 60, pos := "vault.go:71", after := #[], guard := none }
abbrev se2o2 : Oper := { dst := some 22, op := Op.move (Operand.tmp 9), type := 3, pos := "vault.go:71", after := #[], guard := none }
abbrev se2o3 : Oper := { dst := some 23, op := Op.call { callee := Callee.value (Operand.tmp 21), args := #[Operand.tmp 22], argTypes := #[3] }, type := 3, pos := "vault.go:71", after := #[{ on := 1, ground := Ground.data }, { on := 2, ground := Ground.data }], guard := none }
abbrev se2o4 : Oper := { dst := some 24, op := Op.fieldAddr 33 (Operand.tmp 3) 0, type := 0, pos := "vault.go:71", after := #[], guard := none }
abbrev se2o5 : Oper := { dst := some 25, op := Op.load 3 (Operand.tmp 24), type := 3, pos := "vault.go:71", after := #[{ on := 4, ground := Ground.data }], guard := none }
abbrev se2o6 : Oper := { dst := some 26, op := Op.call { callee := Callee.value (Operand.func 28), args := #[Operand.tmp 20, Operand.tmp 23, Operand.tmp 25], argTypes := #[24, 3, 3] }, type := 29, pos := "vault.go:71", after := #[{ on := 0, ground := Ground.data }, { on := 3, ground := Ground.data }, { on := 5, ground := Ground.data }, { on := 3, ground := Ground.chain }], guard := none }
abbrev se2o7 : Oper := { dst := some 27, op := Op.move (Operand.tmp 1), type := 24, pos := "vault.go:71", after := #[], guard := none }
abbrev se2o8 : Oper := { dst := some 28, op := Op.move (Operand.tmp 8), type := 60, pos := "vault.go:71", after := #[], guard := none }
abbrev se2o9 : Oper := { dst := some 29, op := Op.fieldAddr 33 (Operand.tmp 3) 1, type := 0, pos := "vault.go:71", after := #[], guard := none }
abbrev se2o10 : Oper := { dst := some 30, op := Op.load 3 (Operand.tmp 29), type := 3, pos := "vault.go:71", after := #[{ on := 9, ground := Ground.data }], guard := none }
abbrev se2o11 : Oper := { dst := some 31, op := Op.call { callee := Callee.value (Operand.tmp 28), args := #[Operand.tmp 30], argTypes := #[3] }, type := 3, pos := "vault.go:71", after := #[{ on := 8, ground := Ground.data }, { on := 10, ground := Ground.data }, { on := 6, ground := Ground.chain }], guard := none }
abbrev se2o12 : Oper := { dst := some 32, op := Op.fieldAddr 33 (Operand.tmp 3) 0, type := 0, pos := "vault.go:71", after := #[], guard := none }
abbrev se2o13 : Oper := { dst := some 33, op := Op.load 3 (Operand.tmp 32), type := 3, pos := "vault.go:71", after := #[{ on := 12, ground := Ground.data }], guard := none }
abbrev se2o14 : Oper := { dst := some 34, op := Op.call { callee := Callee.value (Operand.func 28), args := #[Operand.tmp 27, Operand.tmp 31, Operand.tmp 33], argTypes := #[24, 3, 3] }, type := 29, pos := "vault.go:71", after := #[{ on := 7, ground := Ground.data }, { on := 11, ground := Ground.data }, { on := 13, ground := Ground.data }, { on := 11, ground := Ground.chain }], guard := none }
abbrev se2o15 : Oper := { dst := some 35, op := Op.call { callee := Callee.builtin Builtin.max, args := #[Operand.tmp 26, Operand.tmp 34], argTypes := #[29, 29] }, type := 29, pos := "vault.go:71", after := #[{ on := 6, ground := Ground.data }, { on := 14, ground := Ground.data }], guard := none }
abbrev se2o16 : Oper := { dst := some 10, op := Op.assign (Operand.tmp 35), type := 29, pos := "vault.go:71", after := #[{ on := 15, ground := Ground.data }, { on := 14, ground := Ground.chain }, { on := 0, ground := Ground.phase }, { on := 1, ground := Ground.phase }, { on := 2, ground := Ground.phase }, { on := 3, ground := Ground.phase }, { on := 4, ground := Ground.phase }, { on := 5, ground := Ground.phase }, { on := 6, ground := Ground.phase }, { on := 7, ground := Ground.phase }, { on := 8, ground := Ground.phase }, { on := 9, ground := Ground.phase }, { on := 10, ground := Ground.phase }, { on := 11, ground := Ground.phase }, { on := 12, ground := Ground.phase }, { on := 13, ground := Ground.phase }, { on := 14, ground := Ground.phase }, { on := 15, ground := Ground.phase }], guard := none }
abbrev se3o0 : Oper := { dst := some 62, op := Op.move (Operand.tmp 1), type := 24, pos := "vault.go:84", after := #[], guard := none }
abbrev se3o1 : Oper := { dst := some 63, op := Op.move (Operand.tmp 8), type := 60, pos := "vault.go:84", after := #[], guard := none }
abbrev se3o2 : Oper := { dst := some 64, op := Op.move (Operand.tmp 9), type := 3, pos := "vault.go:84", after := #[], guard := none }
abbrev se3o3 : Oper := { dst := some 65, op := Op.call { callee := Callee.value (Operand.tmp 63), args := #[Operand.tmp 64], argTypes := #[3] }, type := 3, pos := "vault.go:84", after := #[{ on := 1, ground := Ground.data }, { on := 2, ground := Ground.data }], guard := none }
abbrev se3o4 : Oper := { dst := some 66, op := Op.fieldAddr 33 (Operand.tmp 3) 0, type := 0, pos := "vault.go:84", after := #[], guard := none }
abbrev se3o5 : Oper := { dst := some 67, op := Op.load 3 (Operand.tmp 66), type := 3, pos := "vault.go:84", after := #[{ on := 4, ground := Ground.data }], guard := none }
abbrev se3o6 : Oper := { dst := some 68, op := Op.move (Operand.tmp 10), type := 29, pos := "vault.go:84", after := #[], guard := none }
abbrev se3o7 : Oper := { dst := some 69, op := Op.binOp BinOp.add 29 (Operand.tmp 68) (Operand.const (Value.int IntKind.u64 1)) 29, type := 29, pos := "vault.go:84", after := #[{ on := 6, ground := Ground.data }], guard := none }
abbrev se3o8 : Oper := { dst := some 70, op := Op.move (Operand.tmp 2), type := 9, pos := "vault.go:84", after := #[], guard := none }
abbrev se3o9 : Oper := { dst := some 71, op := Op.call { callee := Callee.value (Operand.func 22), args := #[Operand.tmp 62, Operand.tmp 65, Operand.tmp 67, Operand.tmp 69, Operand.tmp 70], argTypes := #[24, 3, 3, 29, 9] }, type := 25, pos := "vault.go:84", after := #[{ on := 0, ground := Ground.data }, { on := 3, ground := Ground.data }, { on := 5, ground := Ground.data }, { on := 7, ground := Ground.data }, { on := 8, ground := Ground.data }, { on := 3, ground := Ground.chain }], guard := none }
abbrev se3o10 : Oper := { dst := some 12, op := Op.assign (Operand.tmp 71), type := 25, pos := "vault.go:84", after := #[{ on := 9, ground := Ground.data }, { on := 9, ground := Ground.chain }, { on := 0, ground := Ground.phase }, { on := 1, ground := Ground.phase }, { on := 2, ground := Ground.phase }, { on := 3, ground := Ground.phase }, { on := 4, ground := Ground.phase }, { on := 5, ground := Ground.phase }, { on := 6, ground := Ground.phase }, { on := 7, ground := Ground.phase }, { on := 8, ground := Ground.phase }, { on := 9, ground := Ground.phase }], guard := none }

/-- The vault that Settle answers. -/
def settleV (n sl fr room : Int) (g : Nat) (nx : Int) (st : Bool) (o : Int) (gn c : Nat) : Value := if c = 0 then vaultV n o fr room (gn + 1) 0 false else vaultV n sl fr room g nx st
theorem builtV3 (n o fr room : Int) (g : Int) (nx : Int) : Tryd.prog.built 33 [(0, .int .i64 n), (1, .int .i64 o), (2, .agg #[.int .i64 fr, .int .i64 room, .int .u64 g, .int .i64 nx])] = some #[.int .i64 n, .int .i64 o, .int .i64 fr, .int .i64 room, .int .u64 g, .int .i64 nx, .bool false] := by kernel_rfl

set_option maxHeartbeats 16000000 in
theorem vault_Settle (base : Nat) (w : World) (p gl M : Nat) (v : Value) (D : DSt) (n sl g : Nat) (fr room nx : Int) (st : Bool) (t : List UInt8) (h : IsDisk base w p gl M v D) (hs : SmallN 20000 D) (hbs : base ≤ w.heap.size) (h1 : 1 ≤ n) (hn : n ≤ 4096) (hsl : sl < 2) (hg : g < 18446744073709551616) (ht : t.length + 4 ≤ 110 * n) (htl : t.length ≤ 400000) (hgn : genN D n sl + 1 < 18446744073709551616) :
    Calls Tryd.prog 10 #[vaultV (n : Int) (sl : Int) fr room g nx st, .pointer (some ⟨p, 0, none⟩), .string (bs t)] w fun e w' =>
      ∃ (D' : DSt) (c : Nat) (st' : Bool), e = .returned (.tuple #[settleV (n : Int) (sl : Int) fr room g nx st' ((1 - sl : Nat) : Int) (genN D n sl) c, .int .i64 (c : Int)]) ∧ SettleR D n sl st t D' c st' ∧ (∃ v', IsDisk base w' p gl M v' D') ∧ Below base w w' ∧ Keeps w w' := by
  have HD : Hid (∀ W, Below w.heap.size w W → IsDisk base W p gl M v D) := Lib.hid (fun W hb => h.keep hb)
  have HSL := Lib.hid (fun W => vault_slots n W)
  obtain ⟨o, ho⟩ : ∃ o, o = 1 - sl := ⟨_, rfl⟩
  obtain ⟨q, hq⟩ : ∃ q, q = o * n := ⟨_, rfl⟩
  obtain ⟨q2, hq2⟩ : ∃ q2, q2 = sl * n := ⟨_, rfl⟩
  have ho1 : o ≤ 1 := by omega
  have hql : q ≤ 1 * 4096 := by rw [hq]; exact Nat.mul_le_mul ho1 hn
  have hql2 : q2 ≤ 1 * 4096 := by rw [hq2]; exact Nat.mul_le_mul (show sl ≤ 1 by omega) hn
  have HATo : Hid (∀ W b, Blk W b 3 [.int .i64 (n : Int)] → Calls Tryd.prog 41 #[.int .i64 (o : Int), .pointer (some ⟨b, 0, none⟩)] W fun e w' => e = .returned (.int .i64 (q : Int)) ∧ W = w') := Lib.hid (fun W b hb => by
    have := vault_at n o b W hb hn (by omega)
    rw [← hq] at this
    exact this)
  have HATs : Hid (∀ W b, Blk W b 3 [.int .i64 (n : Int)] → Calls Tryd.prog 41 #[.int .i64 (sl : Int), .pointer (some ⟨b, 0, none⟩)] W fun e w' => e = .returned (.int .i64 (q2 : Int)) ∧ W = w') := Lib.hid (fun W b hb => by
    have := vault_at n sl b W hb hn (by omega)
    rw [← hq2] at this
    exact this)
  obtain ⟨e1, he1⟩ : ∃ e1, e1 = newF (openL2 D (q : Int) (n : Int)) := ⟨_, rfl⟩
  obtain ⟨e2, he2⟩ : ∃ e2, e2 = newF (openL2 D (q2 : Int) (n : Int)) := ⟨_, rfl⟩
  have HN1 := Lib.hid (fun W (hb : Below w.heap.size w W) => slot_Newest base W p gl M v D (q : Int) (n : Int) (by omega) (HD.out W hb))
  have HN2 := Lib.hid (fun W (hb : Below w.heap.size w W) => slot_Newest base W p gl M v D (q2 : Int) (n : Int) (by omega) (HD.out W hb))
  rw [← he1] at HN1
  rw [← he2] at HN2
  obtain ⟨m, hm⟩ : ∃ m, m = max e1 e2 := ⟨_, rfl⟩
  have HGN : Hid (genN D n sl = m) := Lib.hid (by unfold genN; rw [← ho, ← hq, ← hq2, ← he1, ← he2, hm])
  rw [HGN.out] at hgn ⊢
  obtain ⟨m1, hm1e⟩ : ∃ m1, m1 = m + 1 := ⟨_, rfl⟩
  have hmx : max (e1 : Int) (e2 : Int) = (m : Int) := by omega
  have hmx' : max e1 e2 = m := hm.symm
  have hm1 : IntKind.u64.wrap ((m : Int) + 1) = (m1 : Int) := by rw [IntWalk.u64_in _ (by omega)]; omega
  have hws : IntKind.i64.wrap (1 - (sl : Int)) = (o : Int) := by rw [IntWalk.i64_in _ (by omega)]; omega
  obtain ⟨l1, hl1⟩ : ∃ l1, l1 = 110 * n := ⟨_, rfl⟩
  obtain ⟨l2, hl2⟩ : ∃ l2, l2 = l1 - 4 := ⟨_, rfl⟩
  have hw1 : IntKind.i64.wrap (110 * (n : Int)) = (l1 : Int) := by rw [IntWalk.i64_in _ (by omega)]; omega
  have hw2 : IntKind.i64.wrap ((l1 : Int) - 4) = (l2 : Int) := by rw [IntWalk.i64_in _ (by omega)]; omega
  have hsz := bs_size t
  have c1 : decide ((l2 : Int) < (t.length : Int)) = false := decide_eq_false (by omega)
  have c1' : decide (l2 < t.length) = false := decide_eq_false (by omega)
  have c2 : ((m : Int) == 18446744073709551615) = false := by rw [beq_eq_false_iff_ne]; omega
  have HSR : Hid (∀ (D' : DSt) (c : Nat) (st' : Bool), ((106 < t.length ∧ c = (syD D).2 ∧ c ≠ 0 ∧ D' = (syD D).1 ∧ st' = st) ∨ (∃ E, (E = D ∨ (106 < t.length ∧ (syD D).2 = 0 ∧ E = (syD D).1)) ∧ D' = (layD E q n m1 t).1 ∧ c = (layD E q n m1 t).2 ∧ st' = !decide (c = 0))) → SettleR D n sl st t D' c st') := Lib.hid (fun D' c st' x => by
    unfold SettleR
    rw [HGN.out, ← ho, ← hq, ← hm1e]
    exact x)
  have HMW := Lib.hid (fun W (hb : Below w.heap.size w W) => vault_mayWait base W p gl M v D n sl g fr room nx st (HD.out W hb) h1 hn hsl hg)
  have HTE := Lib.hid (fun W => vault_tears t W)
  have HSY := Lib.hid (fun W (hb : Below w.heap.size w W) => disk_Sync base W p gl M v D (HD.out W hb) hs.small (Nat.le_trans hbs hb.size))
  have HLYE : Hid (∀ E, (E = D ∨ (106 < t.length ∧ (syD D).2 = 0 ∧ E = (syD D).1)) → ∀ W v', IsDisk base W p gl M v' E → base ≤ W.heap.size → Calls Tryd.prog 22 #[.pointer (some ⟨p, 0, none⟩), .int .i64 (q : Int), .int .i64 (n : Int), .int .u64 (m1 : Int), .string (bs t)] W fun e w' => e = .returned (.int .i64 (((layD E q n m1 t).2 : Nat) : Int)) ∧ ∃ v'', IsDisk base w' p gl M v'' (layD E q n m1 t).1 ∧ Below base W w' ∧ Keeps W w') := Lib.hid (fun E hE W v' hW hb => by
    refine vault_lay base W p gl M v' E q n m1 t hW ?_ hb (by omega) (by omega) htl
    rcases hE with rfl | ⟨_, _, rfl⟩
    · exact hs.mono (by omega)
    · exact SmallN.sy (hs.mono (by omega)))
  rw [← ho]
  unfold vaultV at HMW
  obtain ⟨W0, hW0⟩ : ∃ W0, W0 = (w.alloc (.cells #[.int .i64 (n : Int), .int .i64 (sl : Int), .int .i64 fr, .int .i64 room, .int .u64 (g : Int), .int .i64 nx, .bool st] 33)).alloc (.cells #[.int .i64 0, .int .i64 0, .int .i64 0, .int .i64 0, .int .u64 0, .int .i64 0, .bool false] 33) := ⟨_, rfl⟩
  have V0 : Hid (Blk W0 w.heap.size 33 [.int .i64 (n : Int), .int .i64 (sl : Int), .int .i64 fr, .int .i64 room, .int .u64 (g : Int), .int .i64 nx, .bool st]) := Lib.hid (by rw [hW0]; exact (Blk.box7 _ _ _ _ _ _ _ _ _).alloc _)
  have R0 : Hid (Blk W0 (w.heap.size + 1) 33 [.int .i64 0, .int .i64 0, .int .i64 0, .int .i64 0, .int .u64 0, .int .i64 0, .bool false]) := Lib.hid (by rw [hW0]; have := Blk.box7 (w.alloc (.cells #[.int .i64 (n : Int), .int .i64 (sl : Int), .int .i64 fr, .int .i64 room, .int .u64 (g : Int), .int .i64 nx, .bool st] 33)) 33 (.int .i64 0) (.int .i64 0) (.int .i64 0) (.int .i64 0) (.int .u64 0) (.int .i64 0) (.bool false); rw [World.size_alloc] at this; exact this)
  have B0 : Hid (Below w.heap.size w W0) := Lib.hid (by rw [hW0]; exact ((Below.refl _ _).alloc (Nat.le_refl _) _).alloc (by simp) _)
  have HC : Hid (∀ w' : World, Blk w' w.heap.size 33 [.int .i64 (n : Int), .int .i64 (sl : Int), .int .i64 fr, .int .i64 room, .int .u64 (g : Int), .int .i64 nx, .bool st] → w'.cell? ⟨w.heap.size, 0, none⟩ = some (.int .i64 (n : Int)) ∧ w'.cell? ⟨w.heap.size, 1, none⟩ = some (.int .i64 (sl : Int))) := Lib.hid (fun w' hb => ⟨hb.cell 0, hb.cell 1⟩)
  have K0 : Hid (Below W0.heap.size W0 W0.drew) := Lib.hid (Below.refl _ _).drew
  have HBS := Lib.hid hbs
  have HM1 := Lib.hid hm1e
  clear h hs hbs h1 hn hsl hg ht htl hgn ho hq hq2 ho1 hql hql2 he1 he2 hm hm1e hl1 hl2 HGN
  unfold vaultV
  go_enter Tryd.func10, Tryd.ntmps10
  go_upto_region 1 with fail
  rw [← hW0]
  clear hW0
  refine wp_region_noPanic ?_
  refine wp_region_held_drew (S := fun w' => w'.cell? ⟨w.heap.size, 0, none⟩ = some (.int .i64 (n : Int)) ∧ w'.cell? ⟨w.heap.size, 1, none⟩ = some (.int .i64 (sl : Int))) (by kernel_rfl) ?_ (fun hHeld => ?_)
  · exact HC.out _ (V0.out.keep K0.out)
  refine wpAnyH_take (i := 0) (oi := se1o0) (v := ?_) rfl (by kernel_rfl) (by kernel_rfl) (by kernel_rfl) (fun _ _ _ h => h) (Or.inl ⟨by rfl, ?_⟩) (by assumption) ?_
  rotate_left
  · (intro w hSw; (try dsimp only at hSw); obtain ⟨s0, s1x⟩ := hSw; (try dsimp only [se1o0]); go_simp; try (with_reducible rfl))
  (try simp only [Act.put, List.setIfInBounds_toArray, List.set_cons_zero, List.set_cons_succ])
  refine wpAnyH_take (i := 1) (oi := se1o1) (v := ?_) rfl (by kernel_rfl) (by kernel_rfl) (by kernel_rfl) (fun _ _ _ h => h) (Or.inl ⟨by rfl, ?_⟩) (by assumption) ?_
  rotate_left
  · (intro w hSw; (try dsimp only at hSw); obtain ⟨s0, s1x⟩ := hSw; (try dsimp only [se1o1]); go_simp; try (with_reducible rfl))
  (try simp only [Act.put, List.setIfInBounds_toArray, List.set_cons_zero, List.set_cons_succ])
  refine wpAnyH_take (i := 3) (oi := se1o3) (v := ?_) rfl (by kernel_rfl) (by kernel_rfl) (by kernel_rfl) (fun _ _ _ h => h) (Or.inl ⟨by rfl, ?_⟩) (by assumption) ?_
  rotate_left
  · (intro w hSw; (try dsimp only at hSw); obtain ⟨s0, s1x⟩ := hSw; (try dsimp only [se1o3]); go_simp; try (with_reducible rfl))
  (try simp only [Act.put, List.setIfInBounds_toArray, List.set_cons_zero, List.set_cons_succ])
  refine wpAnyH_take (i := 4) (oi := se1o4) (v := ?_) rfl (by kernel_rfl) (by kernel_rfl) (by kernel_rfl) (fun _ _ _ h => h) (Or.inl ⟨by rfl, ?_⟩) (by assumption) ?_
  rotate_left
  · (intro w hSw; (try dsimp only at hSw); obtain ⟨s0, s1x⟩ := hSw; (try dsimp only [se1o4]); go_simp; try (with_reducible rfl))
  (try simp only [Act.put, List.setIfInBounds_toArray, List.set_cons_zero, List.set_cons_succ])
  refine wpAnyH_take (i := 5) (oi := se1o5) (v := ?_) rfl (by kernel_rfl) (by kernel_rfl) (by kernel_rfl) (fun _ _ _ h => h) (Or.inl ⟨by rfl, ?_⟩) (by assumption) ?_
  rotate_left
  · (intro w hSw; (try dsimp only at hSw); obtain ⟨s0, s1x⟩ := hSw; (try dsimp only [se1o5]); go_simp; try (with_reducible rfl))
  (try simp only [Act.put, List.setIfInBounds_toArray, List.set_cons_zero, List.set_cons_succ])
  refine wpAnyH_ready (rs := [2]) (by kernel_rfl) (by simp) ?_
  refine AllReadyH.cons (o := se1o2) rfl (fun K hK => ?_) AllReadyH.nil
  dsimp only [se1o2]
  go_simp
  refine (HSL.out _).mono ?_
  rintro e w1 ⟨rfl, s1, b1⟩
  have K1 := Lib.hid (K0.out.trans (b1.mono K0.out.size))
  have S1 := Lib.hid s1
  clear s1 b1
  (try go_wp2_with fail)
  refine hK.out _ _ ?_ (fun hHeld => ?_)
  · exact HC.out _ (V0.out.keep K1.out)
  clear hK K
  (try simp only [Act.put, List.setIfInBounds_toArray, List.set_cons_zero, List.set_cons_succ])
  refine wpAnyH_take (i := 6) (oi := se1o6) (v := ?_) rfl (by kernel_rfl) (by kernel_rfl) (by kernel_rfl) (fun _ _ _ h => h) (Or.inl ⟨by rfl, ?_⟩) (by assumption) ?_
  rotate_left
  · (intro w hSw; (try dsimp only at hSw); obtain ⟨s0, s1x⟩ := hSw; (try dsimp only [se1o6]); go_simp; try (with_reducible rfl))
  (try simp only [Act.put, List.setIfInBounds_toArray, List.set_cons_zero, List.set_cons_succ])
  refine wpAnyH_take (i := 7) (oi := se1o7) (v := ?_) rfl (by kernel_rfl) (by kernel_rfl) (by kernel_rfl) (fun _ _ _ h => h) (Or.inl ⟨by rfl, ?_⟩) (by assumption) ?_
  rotate_left
  · (intro w hSw; (try dsimp only at hSw); obtain ⟨s0, s1x⟩ := hSw; (try dsimp only [se1o7]); go_simp; try (with_reducible rfl))
  (try simp only [Act.put, List.setIfInBounds_toArray, List.set_cons_zero, List.set_cons_succ])
  refine wpAnyH_done (by kernel_rfl) ?_ _
  refine NoPanic.normal ?_
  go_upto_region 2 with fail
  refine wp_region_noPanic ?_
  refine wp_region_held_drew (S := fun w' => w'.cell? ⟨w.heap.size, 0, none⟩ = some (.int .i64 (n : Int)) ∧ w'.cell? ⟨w.heap.size, 1, none⟩ = some (.int .i64 (sl : Int))) (by kernel_rfl) ?_ (fun hHeld => ?_)
  · exact HC.out _ (V0.out.keep K1.out.drew)
  refine wpAnyH_take (i := 0) (oi := se2o0) (v := ?_) rfl (by kernel_rfl) (by kernel_rfl) (by kernel_rfl) (fun _ _ _ h => h) (Or.inl ⟨by rfl, ?_⟩) (by assumption) ?_
  rotate_left
  · (intro w hSw; (try dsimp only at hSw); obtain ⟨s0, s1x⟩ := hSw; (try dsimp only [se2o0]); go_simp; try (with_reducible rfl))
  (try simp only [Act.put, List.setIfInBounds_toArray, List.set_cons_zero, List.set_cons_succ])
  refine wpAnyH_take (i := 1) (oi := se2o1) (v := ?_) rfl (by kernel_rfl) (by kernel_rfl) (by kernel_rfl) (fun _ _ _ h => h) (Or.inl ⟨by rfl, ?_⟩) (by assumption) ?_
  rotate_left
  · (intro w hSw; (try dsimp only at hSw); obtain ⟨s0, s1x⟩ := hSw; (try dsimp only [se2o1]); go_simp; try (with_reducible rfl))
  (try simp only [Act.put, List.setIfInBounds_toArray, List.set_cons_zero, List.set_cons_succ])
  refine wpAnyH_take (i := 2) (oi := se2o2) (v := ?_) rfl (by kernel_rfl) (by kernel_rfl) (by kernel_rfl) (fun _ _ _ h => h) (Or.inl ⟨by rfl, ?_⟩) (by assumption) ?_
  rotate_left
  · (intro w hSw; (try dsimp only at hSw); obtain ⟨s0, s1x⟩ := hSw; (try dsimp only [se2o2]); go_simp; try (with_reducible rfl))
  (try simp only [Act.put, List.setIfInBounds_toArray, List.set_cons_zero, List.set_cons_succ])
  refine wpAnyH_take (i := 4) (oi := se2o4) (v := ?_) rfl (by kernel_rfl) (by kernel_rfl) (by kernel_rfl) (fun _ _ _ h => h) (Or.inl ⟨by rfl, ?_⟩) (by assumption) ?_
  rotate_left
  · (intro w hSw; (try dsimp only at hSw); obtain ⟨s0, s1x⟩ := hSw; (try dsimp only [se2o4]); go_simp; try (with_reducible rfl))
  (try simp only [Act.put, List.setIfInBounds_toArray, List.set_cons_zero, List.set_cons_succ])
  refine wpAnyH_take (i := 5) (oi := se2o5) (v := ?_) rfl (by kernel_rfl) (by kernel_rfl) (by kernel_rfl) (fun _ _ _ h => h) (Or.inl ⟨by rfl, ?_⟩) (by assumption) ?_
  rotate_left
  · (intro w hSw; (try dsimp only at hSw); obtain ⟨s0, s1x⟩ := hSw; (try dsimp only [se2o5]); go_simp; try (with_reducible rfl))
  (try simp only [Act.put, List.setIfInBounds_toArray, List.set_cons_zero, List.set_cons_succ])
  refine wpAnyH_take (i := 7) (oi := se2o7) (v := ?_) rfl (by kernel_rfl) (by kernel_rfl) (by kernel_rfl) (fun _ _ _ h => h) (Or.inl ⟨by rfl, ?_⟩) (by assumption) ?_
  rotate_left
  · (intro w hSw; (try dsimp only at hSw); obtain ⟨s0, s1x⟩ := hSw; (try dsimp only [se2o7]); go_simp; try (with_reducible rfl))
  (try simp only [Act.put, List.setIfInBounds_toArray, List.set_cons_zero, List.set_cons_succ])
  refine wpAnyH_take (i := 8) (oi := se2o8) (v := ?_) rfl (by kernel_rfl) (by kernel_rfl) (by kernel_rfl) (fun _ _ _ h => h) (Or.inl ⟨by rfl, ?_⟩) (by assumption) ?_
  rotate_left
  · (intro w hSw; (try dsimp only at hSw); obtain ⟨s0, s1x⟩ := hSw; (try dsimp only [se2o8]); go_simp; try (with_reducible rfl))
  (try simp only [Act.put, List.setIfInBounds_toArray, List.set_cons_zero, List.set_cons_succ])
  refine wpAnyH_take (i := 9) (oi := se2o9) (v := ?_) rfl (by kernel_rfl) (by kernel_rfl) (by kernel_rfl) (fun _ _ _ h => h) (Or.inl ⟨by rfl, ?_⟩) (by assumption) ?_
  rotate_left
  · (intro w hSw; (try dsimp only at hSw); obtain ⟨s0, s1x⟩ := hSw; (try dsimp only [se2o9]); go_simp; try (with_reducible rfl))
  (try simp only [Act.put, List.setIfInBounds_toArray, List.set_cons_zero, List.set_cons_succ])
  refine wpAnyH_take (i := 10) (oi := se2o10) (v := ?_) rfl (by kernel_rfl) (by kernel_rfl) (by kernel_rfl) (fun _ _ _ h => h) (Or.inl ⟨by rfl, ?_⟩) (by assumption) ?_
  rotate_left
  · (intro w hSw; (try dsimp only at hSw); obtain ⟨s0, s1x⟩ := hSw; (try dsimp only [se2o10]); go_simp; try (with_reducible rfl))
  (try simp only [Act.put, List.setIfInBounds_toArray, List.set_cons_zero, List.set_cons_succ])
  refine wpAnyH_take (i := 12) (oi := se2o12) (v := ?_) rfl (by kernel_rfl) (by kernel_rfl) (by kernel_rfl) (fun _ _ _ h => h) (Or.inl ⟨by rfl, ?_⟩) (by assumption) ?_
  rotate_left
  · (intro w hSw; (try dsimp only at hSw); obtain ⟨s0, s1x⟩ := hSw; (try dsimp only [se2o12]); go_simp; try (with_reducible rfl))
  (try simp only [Act.put, List.setIfInBounds_toArray, List.set_cons_zero, List.set_cons_succ])
  refine wpAnyH_take (i := 13) (oi := se2o13) (v := ?_) rfl (by kernel_rfl) (by kernel_rfl) (by kernel_rfl) (fun _ _ _ h => h) (Or.inl ⟨by rfl, ?_⟩) (by assumption) ?_
  rotate_left
  · (intro w hSw; (try dsimp only at hSw); obtain ⟨s0, s1x⟩ := hSw; (try dsimp only [se2o13]); go_simp; try (with_reducible rfl))
  (try simp only [Act.put, List.setIfInBounds_toArray, List.set_cons_zero, List.set_cons_succ])
  refine wpAnyH_ready (rs := [3]) (by kernel_rfl) (by simp) ?_
  refine AllReadyH.cons (o := se2o3) rfl (fun K hK => ?_) AllReadyH.nil
  dsimp only [se2o3]
  go_simp
  refine (HATo.out _ _ (show Blk w1.drew _ _ _ from S1.out)).mono ?_
  rintro e w2 ⟨rfl, rfl⟩
  (try go_wp2_with fail)
  refine hK.out _ _ ?_ (fun hHeld => ?_)
  · exact HC.out _ (V0.out.keep K1.out.drew)
  clear hK K
  (try simp only [Act.put, List.setIfInBounds_toArray, List.set_cons_zero, List.set_cons_succ])
  refine wpAnyH_ready (rs := [6]) (by kernel_rfl) (by simp) ?_
  refine AllReadyH.cons (o := se2o6) rfl (fun K hK => ?_) AllReadyH.nil
  dsimp only [se2o6]
  go_simp
  refine (HN1.out _ (B0.out.trans (K1.out.drew.mono B0.out.size))).mono ?_
  rintro e w2 ⟨rfl, b2⟩
  have K2 := Lib.hid (K1.out.drew.trans (b2.mono K1.out.drew.size))
  have S2 := Lib.hid ((show Blk w1.drew _ _ _ from S1.out).keep b2)
  clear b2
  (try go_wp2_with fail)
  refine hK.out _ _ ?_ (fun hHeld => ?_)
  · exact HC.out _ (V0.out.keep K2.out)
  clear hK K
  (try simp only [Act.put, List.setIfInBounds_toArray, List.set_cons_zero, List.set_cons_succ])
  refine wpAnyH_ready (rs := [11]) (by kernel_rfl) (by simp) ?_
  refine AllReadyH.cons (o := se2o11) rfl (fun K hK => ?_) AllReadyH.nil
  dsimp only [se2o11]
  go_simp
  refine (HATs.out _ _ S2.out).mono ?_
  rintro e w3 ⟨rfl, rfl⟩
  (try go_wp2_with fail)
  refine hK.out _ _ ?_ (fun hHeld => ?_)
  · exact HC.out _ (V0.out.keep K2.out)
  clear hK K
  (try simp only [Act.put, List.setIfInBounds_toArray, List.set_cons_zero, List.set_cons_succ])
  refine wpAnyH_ready (rs := [14]) (by kernel_rfl) (by simp) ?_
  refine AllReadyH.cons (o := se2o14) rfl (fun K hK => ?_) AllReadyH.nil
  dsimp only [se2o14]
  go_simp
  refine (HN2.out _ (B0.out.trans (K2.out.mono B0.out.size))).mono ?_
  rintro e w3 ⟨rfl, b3⟩
  have K3 := Lib.hid (K2.out.trans (b3.mono K2.out.size))
  have S3 := Lib.hid (S2.out.keep b3)
  clear b3
  (try go_wp2_with fail)
  refine hK.out _ _ ?_ (fun hHeld => ?_)
  · exact HC.out _ (V0.out.keep K3.out)
  clear hK K
  (try simp only [Act.put, List.setIfInBounds_toArray, List.set_cons_zero, List.set_cons_succ])
  refine wpAnyH_ready (rs := [15]) (by kernel_rfl) (by simp) ?_
  refine AllReadyH.cons (o := se2o15) rfl (fun K hK => ?_) AllReadyH.nil
  dsimp only [se2o15]
  go_simp
  refine hK.out _ _ ?_ (fun hHeld => ?_)
  · exact HC.out _ (V0.out.keep K3.out)
  clear hK K
  (try simp only [Act.put, List.setIfInBounds_toArray, List.set_cons_zero, List.set_cons_succ])
  refine wpAnyH_take (i := 16) (oi := se2o16) (v := ?_) rfl (by kernel_rfl) (by kernel_rfl) (by kernel_rfl) (fun _ _ _ h => h) (Or.inl ⟨by rfl, ?_⟩) (by assumption) ?_
  rotate_left
  · (intro w hSw; (try dsimp only at hSw); obtain ⟨s0, s1x⟩ := hSw; (try dsimp only [se2o16]); go_simp; try (with_reducible rfl))
  (try simp only [Act.put, List.setIfInBounds_toArray, List.set_cons_zero, List.set_cons_succ])
  refine wpAnyH_done (by kernel_rfl) ?_ _
  refine NoPanic.normal ?_
  have V3 := Lib.hid (V0.out.keep K3.out)
  have R3 := Lib.hid (R0.out.keep K3.out)
  clear K0 K1 K2 S1 S2 HN1 HN2 HSL HATs V0 R0
  obtain ⟨a0, a1, a2, a3, a4, a5, a6⟩ := V3.out.sevenV
  go_upto_region 7 with fail
  clear hw1 hw2 c1 c1' c2 hmx hmx' hws
  go_cut [55] from 49 to 55 (fun s55 wx => ∃ (B : Bool) (w4 : World), s55 = .bool B ∧ w4 = wx ∧ Hid (B = true → 106 < t.length) ∧ Hid (Below w3.heap.size w3 w4))
  case first =>
    by_cases h106 : 106 < t.length
    · rw [decide_eq_true h106] at HTE
      have H106 := Lib.hid h106
      clear h106
      go_wp2_with fail
      refine (HTE.out _).mono ?_
      rintro e w4 ⟨rfl, rfl⟩
      go_wp2_with fail
      refine (HMW.out _ (B0.out.trans (K3.out.mono B0.out.size))).mono ?_
      rintro e w4 ⟨⟨B, rfl⟩, b4⟩
      have K4 := Lib.hid b4
      clear b4
      go_wp2_with fail
      go_meet
      exact ⟨B, _, rfl, rfl, Lib.hid (fun _ => H106.out), K4⟩
    · rw [decide_eq_false h106] at HTE
      clear h106
      go_wp2_with fail
      refine (HTE.out _).mono ?_
      rintro e w4 ⟨rfl, rfl⟩
      go_wp2_with fail
      go_meet
      exact ⟨false, _, rfl, rfl, Lib.hid (fun x => by cases x), Lib.hid (Below.refl _ _)⟩
  case rest =>
    obtain ⟨B, w4, rfl, rfl, HB, K4⟩ := hcut
    clear a0 a1 a2 a3 a4 a5 a6
    have V4 := Lib.hid (V3.out.keep K4.out)
    have R4 := Lib.hid (R3.out.keep K4.out)
    have S4 := Lib.hid (S3.out.keep K4.out)
    have B4 := Lib.hid ((B0.out.trans (K3.out.mono B0.out.size)).trans (K4.out.mono (B0.out.trans (K3.out.mono B0.out.size)).size))
    clear V3 R3 S3 K3 K4 B0 HMW HTE
    go_upto_if 55 with fail
    go_cut [11] from 56 to 61 (fun s11 wx => ∃ (E : DSt) (v5 : Value) (w5 : World), w5 = wx ∧ Hid (E = D ∨ (106 < t.length ∧ (syD D).2 = 0 ∧ E = (syD D).1)) ∧ Hid (IsDisk base w5 p gl M v5 E) ∧ Hid (Blk w5 w.heap.size 33 [.int .i64 (n : Int), .int .i64 (sl : Int), .int .i64 fr, .int .i64 room, .int .u64 (g : Int), .int .i64 nx, .bool st]) ∧ Hid (Blk w5 (w.heap.size + 1) 33 [.int .i64 0, .int .i64 0, .int .i64 0, .int .i64 0, .int .u64 0, .int .i64 0, .bool false]) ∧ Hid (Blk w5 W0.drew.heap.size 3 [.int .i64 (n : Int)]) ∧ Hid (Below base w w5) ∧ Hid (Keeps w w5))
    case first =>
      cases B with
      | false =>
        go_wp2_with fail
        go_meet
        exact ⟨D, v, _, rfl, Lib.hid (.inl rfl), Lib.hid (HD.out _ B4.out), V4, R4, S4, Lib.hid (B4.out.mono HBS.out), Lib.hid (Keeps.of_below B4.out)⟩
      | true =>
        have H106 := Lib.hid (HB.out rfl)
        obtain ⟨c, hc⟩ : ∃ c, c = (syD D).2 := ⟨_, rfl⟩
        have HSY1 := Lib.hid (HSY.out w4 B4.out)
        rw [← hc] at HSY1
        have HCC := Lib.hid hc
        clear hc
        go_wp2_with fail
        refine HSY1.out.mono ?_
        rintro e w5 ⟨rfl, v5, h5, b5, k5⟩
        have D5 := Lib.hid h5
        have V5 := Lib.hid (k5 _ _ _ (by decide) (by decide) (by decide) V4.out)
        have R5 := Lib.hid (k5 _ _ _ (by decide) (by decide) (by decide) R4.out)
        have S5 := Lib.hid (k5 _ _ _ (by decide) (by decide) (by decide) S4.out)
        have B5 := Lib.hid ((B4.out.mono HBS.out).trans b5)
        have KP5 := Lib.hid ((Keeps.of_below B4.out).trans k5)
        clear h5 b5 k5 HSY1 V4 R4 S4
        by_cases h0 : c = 0
        · have e1' : ((c : Int) != 0) = false := by rw [bne_eq_false_iff_eq]; omega
          have HC0 : Hid ((syD D).2 = 0) := Lib.hid (by rw [← HCC.out]; exact h0)
          clear h0
          go_wp2_with fail
          go_meet
          exact ⟨_, v5, _, rfl, Lib.hid (.inr ⟨H106.out, HC0.out, rfl⟩), D5, V5, R5, S5, B5, KP5⟩
        · have e1' : ((c : Int) != 0) = true := by rw [bne_iff_ne]; omega
          have HC0 := Lib.hid h0
          clear h0
          obtain ⟨a0, a1, a2, a3, a4, a5, a6⟩ := V5.out.sevenV
          obtain ⟨f0, f1, f2, f3, f4, f5, f6⟩ := R5.out.frozen7
          obtain ⟨b0, b1, b2, b3, b4, b5, b6⟩ := R5.out.sevenV
          go_wp2_with fail
          obtain ⟨r0, r1, r2, r3, r4, r5, r6⟩ := (R5.out.put7 (.int .i64 (n : Int)) (.int .i64 (sl : Int)) (.int .i64 fr) (.int .i64 room) (.int .u64 (g : Int)) (.int .i64 nx) (.bool st)).sevenV
          refine bodyPost_ret (v := .tuple #[.agg #[.int .i64 (n : Int), .int .i64 (sl : Int), .int .i64 fr, .int .i64 room, .int .u64 (g : Int), .int .i64 nx, .bool st], .int .i64 (c : Int)]) (by simp [results, Tryd.results10, go_sem, r0, r1, r2, r3, r4, r5, r6]) rfl ?_
          exact ⟨_, c, st, by unfold settleV; rw [if_neg HC0.out]; rfl, HSR.out _ _ _ (.inl ⟨H106.out, HCC.out, HC0.out, rfl, rfl⟩), ⟨v5, D5.out.put7 R5.out (by decide) (by decide) (by decide) _ _ _ _ _ _ _⟩, below_put7 B5.out (Nat.le_trans HBS.out (Nat.le_succ _)) _ _ _ _ _ _ _, KP5.out.put7' (Nat.le_succ _) _ _ _ _ _ _ _⟩
    case rest =>
      obtain ⟨E, v5, w5, rfl, HE, D5, V5, R5, S5, B5, KP5⟩ := hcut
      clear V4 R4 S4 B4 HB HSY HD
      obtain ⟨F, hF⟩ : ∃ F, F = (layD E q n m1 t).1 := ⟨_, rfl⟩
      obtain ⟨c, hc⟩ : ∃ c, c = (layD E q n m1 t).2 := ⟨_, rfl⟩
      have HLY := Lib.hid (HLYE.out E HE.out)
      rw [← hF, ← hc] at HLY
      have HFE := Lib.hid hF
      have HCE := Lib.hid hc
      have SZ5 : Hid (base ≤ w5.heap.size) := Lib.hid (by have := R5.out.lt; have := HBS.out; omega)
      clear hF hc HLYE
      go_upto_region 11 with fail
      refine wp_region_noPanic ?_
      refine wp_region_held_drew (S := fun w' => w'.cell? ⟨w.heap.size, 0, none⟩ = some (.int .i64 (n : Int)) ∧ w'.cell? ⟨w.heap.size, 1, none⟩ = some (.int .i64 (sl : Int))) (by kernel_rfl) ?_ (fun hHeld => ?_)
      · exact HC.out _ (show Blk w5.drew _ _ _ from V5.out)
      refine wpAnyH_take (i := 0) (oi := se3o0) (v := ?_) rfl (by kernel_rfl) (by kernel_rfl) (by kernel_rfl) (fun _ _ _ h => h) (Or.inl ⟨by rfl, ?_⟩) (by assumption) ?_
      rotate_left
      · (intro w hSw; (try dsimp only at hSw); obtain ⟨s0, s1x⟩ := hSw; (try dsimp only [se3o0]); go_simp; try (with_reducible rfl))
      (try simp only [Act.put, List.setIfInBounds_toArray, List.set_cons_zero, List.set_cons_succ])
      refine wpAnyH_take (i := 1) (oi := se3o1) (v := ?_) rfl (by kernel_rfl) (by kernel_rfl) (by kernel_rfl) (fun _ _ _ h => h) (Or.inl ⟨by rfl, ?_⟩) (by assumption) ?_
      rotate_left
      · (intro w hSw; (try dsimp only at hSw); obtain ⟨s0, s1x⟩ := hSw; (try dsimp only [se3o1]); go_simp; try (with_reducible rfl))
      (try simp only [Act.put, List.setIfInBounds_toArray, List.set_cons_zero, List.set_cons_succ])
      refine wpAnyH_take (i := 2) (oi := se3o2) (v := ?_) rfl (by kernel_rfl) (by kernel_rfl) (by kernel_rfl) (fun _ _ _ h => h) (Or.inl ⟨by rfl, ?_⟩) (by assumption) ?_
      rotate_left
      · (intro w hSw; (try dsimp only at hSw); obtain ⟨s0, s1x⟩ := hSw; (try dsimp only [se3o2]); go_simp; try (with_reducible rfl))
      (try simp only [Act.put, List.setIfInBounds_toArray, List.set_cons_zero, List.set_cons_succ])
      refine wpAnyH_take (i := 4) (oi := se3o4) (v := ?_) rfl (by kernel_rfl) (by kernel_rfl) (by kernel_rfl) (fun _ _ _ h => h) (Or.inl ⟨by rfl, ?_⟩) (by assumption) ?_
      rotate_left
      · (intro w hSw; (try dsimp only at hSw); obtain ⟨s0, s1x⟩ := hSw; (try dsimp only [se3o4]); go_simp; try (with_reducible rfl))
      (try simp only [Act.put, List.setIfInBounds_toArray, List.set_cons_zero, List.set_cons_succ])
      refine wpAnyH_take (i := 5) (oi := se3o5) (v := ?_) rfl (by kernel_rfl) (by kernel_rfl) (by kernel_rfl) (fun _ _ _ h => h) (Or.inl ⟨by rfl, ?_⟩) (by assumption) ?_
      rotate_left
      · (intro w hSw; (try dsimp only at hSw); obtain ⟨s0, s1x⟩ := hSw; (try dsimp only [se3o5]); go_simp; try (with_reducible rfl))
      (try simp only [Act.put, List.setIfInBounds_toArray, List.set_cons_zero, List.set_cons_succ])
      refine wpAnyH_take (i := 6) (oi := se3o6) (v := ?_) rfl (by kernel_rfl) (by kernel_rfl) (by kernel_rfl) (fun _ _ _ h => h) (Or.inl ⟨by rfl, ?_⟩) (by assumption) ?_
      rotate_left
      · (intro w hSw; (try dsimp only at hSw); obtain ⟨s0, s1x⟩ := hSw; (try dsimp only [se3o6]); go_simp; try (with_reducible rfl))
      (try simp only [Act.put, List.setIfInBounds_toArray, List.set_cons_zero, List.set_cons_succ])
      refine wpAnyH_take (i := 7) (oi := se3o7) (v := ?_) rfl (by kernel_rfl) (by kernel_rfl) (by kernel_rfl) (fun _ _ _ h => h) (Or.inl ⟨by rfl, ?_⟩) (by assumption) ?_
      rotate_left
      · (intro w hSw; (try dsimp only at hSw); obtain ⟨s0, s1x⟩ := hSw; (try dsimp only [se3o7]); go_simp; try (with_reducible rfl))
      (try simp only [Act.put, List.setIfInBounds_toArray, List.set_cons_zero, List.set_cons_succ])
      refine wpAnyH_take (i := 8) (oi := se3o8) (v := ?_) rfl (by kernel_rfl) (by kernel_rfl) (by kernel_rfl) (fun _ _ _ h => h) (Or.inl ⟨by rfl, ?_⟩) (by assumption) ?_
      rotate_left
      · (intro w hSw; (try dsimp only at hSw); obtain ⟨s0, s1x⟩ := hSw; (try dsimp only [se3o8]); go_simp; try (with_reducible rfl))
      (try simp only [Act.put, List.setIfInBounds_toArray, List.set_cons_zero, List.set_cons_succ])
      refine wpAnyH_ready (rs := [3]) (by kernel_rfl) (by simp) ?_
      refine AllReadyH.cons (o := se3o3) rfl (fun K hK => ?_) AllReadyH.nil
      dsimp only [se3o3]
      go_simp
      refine (HATo.out _ _ (show Blk w5.drew _ _ _ from S5.out)).mono ?_
      rintro e w6 ⟨rfl, rfl⟩
      (try go_wp2_with fail)
      refine hK.out _ _ ?_ (fun hHeld => ?_)
      · exact HC.out _ (show Blk w5.drew _ _ _ from V5.out)
      clear hK K
      (try simp only [Act.put, List.setIfInBounds_toArray, List.set_cons_zero, List.set_cons_succ])
      refine wpAnyH_ready (rs := [9]) (by kernel_rfl) (by simp) ?_
      refine AllReadyH.cons (o := se3o9) rfl (fun K hK => ?_) AllReadyH.nil
      dsimp only [se3o9]
      go_simp
      refine (HLY.out w5.drew v5 (D5.out.keep (Below.refl _ _).drew) (show base ≤ w5.drew.heap.size from SZ5.out)).mono ?_
      rintro e w6 ⟨rfl, v6, h6, b6, k6⟩
      have V6 := Lib.hid (k6 _ _ _ (by decide) (by decide) (by decide) (show Blk w5.drew _ _ _ from V5.out))
      have R6 := Lib.hid (k6 _ _ _ (by decide) (by decide) (by decide) (show Blk w5.drew _ _ _ from R5.out))
      have D6 := Lib.hid h6
      have B6 := Lib.hid (B5.out.drew.trans b6)
      have B56 := Lib.hid b6.size
      have KP6 := Lib.hid (KP5.out.drew'.trans k6)
      clear h6 b6 k6
      (try go_wp2_with fail)
      refine hK.out _ _ ?_ (fun hHeld => ?_)
      · exact HC.out _ V6.out
      clear hK K
      (try simp only [Act.put, List.setIfInBounds_toArray, List.set_cons_zero, List.set_cons_succ])
      refine wpAnyH_take (i := 10) (oi := se3o10) (v := ?_) rfl (by kernel_rfl) (by kernel_rfl) (by kernel_rfl) (fun _ _ _ h => h) (Or.inl ⟨by rfl, ?_⟩) (by assumption) ?_
      rotate_left
      · (intro w hSw; (try dsimp only at hSw); obtain ⟨s0, s1x⟩ := hSw; (try dsimp only [se3o10]); go_simp; try (with_reducible rfl))
      (try simp only [Act.put, List.setIfInBounds_toArray, List.set_cons_zero, List.set_cons_succ])
      refine wpAnyH_done (by kernel_rfl) ?_ _
      refine NoPanic.normal ?_
      by_cases h0 : c = 0
      · have e1' : ((c : Int) != 0) = false := by rw [bne_eq_false_iff_eq]; omega
        have HC0 := Lib.hid h0
        clear h0
        obtain ⟨W7, hW7⟩ : ∃ W7, W7 = w6.alloc (.cells #[.int .i64 fr, .int .i64 room, .int .u64 (m1 : Int), .int .i64 0] 31) := ⟨_, rfl⟩
        have bel7 : Below w6.heap.size w6 W7 := by rw [hW7]; exact (Below.refl _ _).alloc (Nat.le_refl _) _
        have L7 : Hid (Blk W7 w6.heap.size 31 [.int .i64 fr, .int .i64 room, .int .u64 (m1 : Int), .int .i64 0]) := Lib.hid (by rw [hW7]; exact Blk.box4 _ _ _ _ _ _)
        have V7 := Lib.hid (V6.out.keep bel7)
        have R7 := Lib.hid (R6.out.keep bel7)
        have D7 := Lib.hid (D6.out.keep bel7)
        have B7 := Lib.hid (B6.out.trans (bel7.mono (Nat.le_trans SZ5.out (Nat.le_trans (show w5.heap.size ≤ w5.drew.heap.size from Nat.le_refl _) B56.out))))
        have KP7 := Lib.hid (KP6.out.trans (Keeps.of_below bel7))
        clear bel7
        obtain ⟨a0, a1, a2, a3, a4, a5, a6⟩ := V6.out.sevenV
        go_upto_region 16 with (first | (refine wpList_build_is rfl 31 _ rfl [(0, .int .i64 fr), (1, .int .i64 room), (2, .int .u64 (m1 : Int))] (by simp [Act.eval]) _ (builtLog fr room (m1 : Int)) ?_))
        rw [← hW7]
        clear hW7 a0 a1 a2 a3 a4 a5 a6 V6 R6 D6 B6 KP6
        obtain ⟨a0, a1, a2, a3, a4, a5, a6⟩ := V7.out.sevenV
        obtain ⟨l0, l1', l2', l3⟩ := L7.out.four
        obtain ⟨b0, b1, b2, b3, b4, b5, b6⟩ := R7.out.sevenV
        obtain ⟨f0, f1, f2, f3, f4, f5, f6⟩ := R7.out.frozen7
        go_wp2_with (first | (refine wpList_build_is rfl 33 _ rfl [(0, .int .i64 (n : Int)), (1, .int .i64 (o : Int)), (2, .agg #[.int .i64 fr, .int .i64 room, .int .u64 (m1 : Int), .int .i64 0])] (by simp [Act.eval]) _ (builtV3 (n : Int) (o : Int) fr room (m1 : Int) 0) ?_))
        obtain ⟨r0, r1, r2, r3, r4, r5, r6⟩ := (R7.out.put7 (.int .i64 (n : Int)) (.int .i64 (o : Int)) (.int .i64 fr) (.int .i64 room) (.int .u64 (m1 : Int)) (.int .i64 0) (.bool false)).sevenV
        refine bodyPost_ret (v := .tuple #[.agg #[.int .i64 (n : Int), .int .i64 (o : Int), .int .i64 fr, .int .i64 room, .int .u64 (m1 : Int), .int .i64 0, .bool false], .int .i64 0]) (by simp [results, Tryd.results10, go_sem, r0, r1, r2, r3, r4, r5, r6]) rfl ?_
        exact ⟨F, c, false, by unfold settleV; rw [if_pos HC0.out, HC0.out, ← HM1.out]; rfl, HSR.out _ _ _ (.inr ⟨E, HE.out, HFE.out, HCE.out, by rw [HC0.out]; rfl⟩), ⟨v6, D7.out.put7 R7.out (by decide) (by decide) (by decide) _ _ _ _ _ _ _⟩, below_put7 B7.out (Nat.le_trans HBS.out (Nat.le_succ _)) _ _ _ _ _ _ _, KP7.out.put7' (Nat.le_succ _) _ _ _ _ _ _ _⟩
      · have e1' : ((c : Int) != 0) = true := by rw [bne_iff_ne]; omega
        have HC0 := Lib.hid h0
        clear h0
        obtain ⟨W7, hW7⟩ : ∃ W7, W7 = w6.setCell ⟨w.heap.size, 6, none⟩ (.bool true) := ⟨_, rfl⟩
        have V7 : Hid (Blk W7 w.heap.size 33 [.int .i64 (n : Int), .int .i64 (sl : Int), .int .i64 fr, .int .i64 room, .int .u64 (g : Int), .int .i64 nx, .bool true]) := Lib.hid (by rw [hW7]; exact V6.out.set_ 6 (.bool true))
        have R7 : Hid (Blk W7 (w.heap.size + 1) 33 [.int .i64 0, .int .i64 0, .int .i64 0, .int .i64 0, .int .u64 0, .int .i64 0, .bool false]) := Lib.hid (by rw [hW7]; exact R6.out.far (p := ⟨w.heap.size, 6, none⟩) (by show w.heap.size + 1 ≠ w.heap.size; omega) _)
        have D7 : Hid (IsDisk base W7 p gl M v6 F) := Lib.hid (by rw [hW7]; exact D6.out.put1 V6.out (by decide) (by decide) (by decide) 6 _)
        have B7 : Hid (Below base w W7) := Lib.hid (by rw [hW7]; exact B6.out.setCell (p := ⟨w.heap.size, 6, none⟩) HBS.out _)
        have KP7 : Hid (Keeps w W7) := Lib.hid (by rw [hW7]; exact KP6.out.put1' (Nat.le_refl _) 6 _)
        obtain ⟨a0, a1, a2, a3, a4, a5, a6⟩ := V6.out.sevenV
        obtain ⟨f0, f1, f2, f3, f4, f5, f6⟩ := V6.out.frozen7
        go_upto_region 14 with fail
        rw [← hW7]
        clear hW7 a0 a1 a2 a3 a4 a5 a6 f0 f1 f2 f3 f4 f5 f6 V6 R6 D6 B6 KP6
        obtain ⟨a0, a1, a2, a3, a4, a5, a6⟩ := V7.out.sevenV
        obtain ⟨b0, b1, b2, b3, b4, b5, b6⟩ := R7.out.sevenV
        obtain ⟨f0, f1, f2, f3, f4, f5, f6⟩ := R7.out.frozen7
        go_wp2_with fail
        obtain ⟨r0, r1, r2, r3, r4, r5, r6⟩ := (R7.out.put7 (.int .i64 (n : Int)) (.int .i64 (sl : Int)) (.int .i64 fr) (.int .i64 room) (.int .u64 (g : Int)) (.int .i64 nx) (.bool true)).sevenV
        refine bodyPost_ret (v := .tuple #[.agg #[.int .i64 (n : Int), .int .i64 (sl : Int), .int .i64 fr, .int .i64 room, .int .u64 (g : Int), .int .i64 nx, .bool true], .int .i64 (c : Int)]) (by simp [results, Tryd.results10, go_sem, r0, r1, r2, r3, r4, r5, r6]) rfl ?_
        exact ⟨F, c, true, by unfold settleV; rw [if_neg HC0.out]; rfl, HSR.out _ _ _ (.inr ⟨E, HE.out, HFE.out, HCE.out, by rw [decide_eq_false HC0.out]; rfl⟩), ⟨v6, D7.out.put7 R7.out (by decide) (by decide) (by decide) _ _ _ _ _ _ _⟩, below_put7 B7.out (Nat.le_trans HBS.out (Nat.le_succ _)) _ _ _ _ _ _ _, KP7.out.put7' (Nat.le_succ _) _ _ _ _ _ _ _⟩
end Go.Proofs.YtbigpapniloknaaDoor
