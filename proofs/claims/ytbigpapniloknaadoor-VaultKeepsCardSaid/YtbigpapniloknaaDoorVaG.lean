/- The contract of vault's Open, where it tells a text. -/
import Derived.Test.YtbigpapniloknaaDoorVaF
import Derived.StillTailTactics
namespace Go.Proofs.YtbigpapniloknaaDoor
open Go.RowKit Go.Maps
set_option maxRecDepth 100000

-- DEFS begin
abbrev oqo0 : Oper := { dst := some 56, op := Op.move (Operand.tmp 1), type := 3, pos := "vault.go:55", after := #[], guard := none }
abbrev oqo1 : Oper := { dst := some 57, op := Op.fieldAddr 67 (Operand.tmp 10) 0, type := 0, pos := "vault.go:55", after := #[], guard := none }
abbrev oqo2 : Oper := { dst := some 58, op := Op.load 3 (Operand.tmp 57), type := 3, pos := "vault.go:55", after := #[{ on := 1, ground := Ground.data }], guard := none }
abbrev oqo3 : Oper := { dst := some 59, op := Op.load 31 (Operand.tmp 11), type := 31, pos := "vault.go:55", after := #[], guard := none }
abbrev oqo4 : Oper := { dst := some 60, op := Op.build 33 #[(0, Operand.tmp 56), (1, Operand.tmp 58), (2, Operand.tmp 59), (3, Operand.const (Value.bool true))], type := 33, pos := "vault.go:55", after := #[{ on := 0, ground := Ground.data }, { on := 2, ground := Ground.data }, { on := 3, ground := Ground.data }], guard := none }
abbrev oqo5 : Oper := { dst := some 61, op := Op.fieldAddr 67 (Operand.tmp 10) 2, type := 0, pos := "vault.go:55", after := #[{ on := 8, ground := Ground.gcOnly Departure.lateStores }], guard := none }
abbrev oqo6 : Oper := { dst := some 62, op := Op.load 9 (Operand.tmp 61), type := 9, pos := "vault.go:55", after := #[{ on := 5, ground := Ground.data }, { on := 8, ground := Ground.gcOnly Departure.lateStores }], guard := none }
abbrev oqo7 : Oper := { dst := some 63, op := Op.move (Operand.tmp 12), type := 34, pos := "vault.go:55", after := #[{ on := 9, ground := Ground.gcOnly Departure.lateStores }], guard := none }
abbrev oqo8 : Oper := { dst := none, op := Op.store 33 (Operand.tmp 4) (Operand.tmp 60), type := 0, pos := "vault.go:55", after := #[{ on := 4, ground := Ground.data }, { on := 0, ground := Ground.phase }, { on := 1, ground := Ground.phase }, { on := 2, ground := Ground.phase }, { on := 3, ground := Ground.phase }, { on := 4, ground := Ground.phase }, { on := 5, ground := Ground.textOnly Departure.lateStores }, { on := 6, ground := Ground.textOnly Departure.lateStores }, { on := 7, ground := Ground.textOnly Departure.lateStores }], guard := none }
abbrev oqo9 : Oper := { dst := some 5, op := Op.assign (Operand.tmp 62), type := 9, pos := "vault.go:55", after := #[{ on := 6, ground := Ground.data }, { on := 8, ground := Ground.chain }, { on := 0, ground := Ground.phase }, { on := 1, ground := Ground.phase }, { on := 2, ground := Ground.phase }, { on := 3, ground := Ground.phase }, { on := 4, ground := Ground.phase }, { on := 5, ground := Ground.phase }, { on := 6, ground := Ground.phase }, { on := 7, ground := Ground.textOnly Departure.lateStores }, { on := 8, ground := Ground.phase }], guard := none }
abbrev oqo10 : Oper := { dst := some 6, op := Op.assign (Operand.tmp 63), type := 34, pos := "vault.go:55", after := #[{ on := 7, ground := Ground.data }, { on := 9, ground := Ground.chain }, { on := 0, ground := Ground.phase }, { on := 1, ground := Ground.phase }, { on := 2, ground := Ground.phase }, { on := 3, ground := Ground.phase }, { on := 4, ground := Ground.phase }, { on := 5, ground := Ground.phase }, { on := 6, ground := Ground.phase }, { on := 7, ground := Ground.phase }, { on := 8, ground := Ground.phase }, { on := 9, ground := Ground.phase }], guard := none }
abbrev oqo11 : Oper := { dst := some 7, op := Op.assign (Operand.const (Value.int IntKind.i64 0)), type := 25, pos := "vault.go:55", after := #[{ on := 10, ground := Ground.chain }, { on := 0, ground := Ground.phase }, { on := 1, ground := Ground.phase }, { on := 2, ground := Ground.phase }, { on := 3, ground := Ground.phase }, { on := 4, ground := Ground.phase }, { on := 5, ground := Ground.phase }, { on := 6, ground := Ground.phase }, { on := 7, ground := Ground.phase }, { on := 8, ground := Ground.phase }, { on := 9, ground := Ground.phase }, { on := 10, ground := Ground.phase }], guard := none }
-- DEFS end
theorem own_aside {base n : Nat} {w w' : World} {v : Value} {xs : List Value} (h : w.ownsRow base 9 1 v n xs) {g T : Nat} {cs : List Value} (hg : Blk w g T cs) (hT : T ≠ 9) (he : ∀ k, k ≠ g → w'.heap[k]? = w.heap[k]?) : w'.ownsRow base 9 1 v n xs := by
  refine ⟨h.1, ?_⟩
  rcases h.2 with h0 | ⟨b, cap, cur, hv, hb, hh, hr⟩
  · exact .inl h0
  · refine .inr ⟨b, cap, cur, hv, hb, (he b ?_).trans hh, hr⟩
    have hx := own_ne h hg hT
    rw [hv] at hx
    intro e
    exact hx (by rw [e]; rfl)
theorem own_base {w : World} {b b' e s n : Nat} {v : Value} {xs : List Value} (h : w.ownsRow b e s v n xs) (hb : b' ≤ b) : w.ownsRow b' e s v n xs :=
  ⟨h.1, h.2.imp id (fun ⟨g, cap, cur, hv, hg, r⟩ => ⟨g, cap, cur, hv, Nat.le_trans hb hg, r⟩)⟩
theorem built7 (n sl fr room : Int) (g : Int) (nx : Int) : Tryd.prog.built 33 [(0, .int .i64 n), (1, .int .i64 sl), (2, .agg #[.int .i64 fr, .int .i64 room, .int .u64 g, .int .i64 nx]), (3, .bool true)] = some #[.int .i64 n, .int .i64 sl, .int .i64 fr, .int .i64 room, .int .u64 g, .int .i64 nx, .bool true] := by kernel_rfl

set_option maxHeartbeats 8000000 in
theorem vault_Open_yes (base : Nat) (w : World) (p gl M : Nat) (v : Value) (D : DSt) (n : Nat) (h : IsDisk base w p gl M v D) (h1 : 1 ≤ n) (h2 : 2 * n + 1 ≤ D.lasts.length) (hc : openC D n = 0) (hg : (newestF D n).2.1 < 18446744073709551616) :
    Calls Tryd.prog 8 #[.pointer (some ⟨p, 0, none⟩), .int .i64 (n : Int)] w fun e w' =>
      ∃ u, e = .returned (.tuple #[vaultV (n : Int) ((newestF D n).1 : Int) ((2 * n : Nat) : Int) ((D.lasts.length - 2 * n : Nat) : Int) (newestF D n).2.1 (((logL D (2 * n) (newestF D n).2.1 (D.lasts.length - 2 * n) 0).length : Nat) : Int) true, .string (bs (newestF D n).2.2.1), u, .int .i64 0]) ∧
        w'.ownsRow w.heap.size 9 1 u (logL D (2 * n) (newestF D n).2.1 (D.lasts.length - 2 * n) 0).length (strsV (logL D (2 * n) (newestF D n).2.1 (D.lasts.length - 2 * n) 0)) ∧ Below w.heap.size w w' := by
  have hl : D.lasts.length ≤ 4096 := h.2.2.2.2.1.2.1
  have HD : Hid (∀ W, Below w.heap.size w W → IsDisk base W p gl M v D) := Lib.hid (fun W hb => h.keep hb)
  have HF := Lib.hid (fun W (hb : Below w.heap.size w W) => vault_fits base W p gl M v D n (HD.out W hb) h1 h2)
  have HSL := Lib.hid (fun W => vault_slots n W)
  obtain ⟨q, hq⟩ : ∃ q, q = 2 * n := ⟨_, rfl⟩
  have HAT : Hid (∀ W b, Blk W b 3 [.int .i64 (n : Int)] → Calls Tryd.prog 41 #[.int .i64 2, .pointer (some ⟨b, 0, none⟩)] W fun e w' => e = .returned (.int .i64 (q : Int)) ∧ W = w') := Lib.hid (fun W b hb => by
    have := vault_at n 2 b W hb (by omega) (by decide)
    rw [← hq] at this
    exact this)
  have HLK := Lib.hid (fun W (hb : Below w.heap.size w W) => vault_look base W p gl M v D q (HD.out W hb) (by omega))
  have HNW := Lib.hid (fun W (hb : Below w.heap.size w W) => vault_newest base W p gl M v D n (HD.out W hb) (by omega))
  have HC : Hid (openC D n = if (lookF D (q : Int) D.lasts.length).1 = true then 16 else if ((lookF D (q : Int) D.lasts.length).2.1 || (!(newestF D n).2.2.2 || decide ((newestF D n).2.1 < (lookF D (q : Int) D.lasts.length).2.2))) = true then 8 else 0) := Lib.hid (by unfold openC; rw [← hq])
  obtain ⟨L, hL⟩ : ∃ L, L = D.lasts.length := ⟨_, rfl⟩
  obtain ⟨rm, hrm⟩ : ∃ rm, rm = D.lasts.length - 2 * n := ⟨_, rfl⟩
  have HSZ : Hid (∀ W, Below w.heap.size w W → Calls Tryd.prog 26 #[.pointer (some ⟨p, 0, none⟩)] W fun e w' => e = .returned (.int .i64 (L : Int)) ∧ W = w') := Lib.hid (fun W hb => by rw [hL]; exact disk_Size base W p gl M v D (HD.out W hb))
  have hsub : IntKind.i64.wrap ((L : Int) - (q : Int)) = (rm : Int) := by rw [IntWalk.i64_in _ (by omega)]; omega
  have HRP := Lib.hid (fun W (hb : Below w.heap.size w W) => log_Replay base W p gl M v D q rm (newestF D n).2.1 (HD.out W hb) (by omega) (by omega) hg)
  rw [← hrm, ← hq]
  obtain ⟨lo, hlo⟩ : ∃ lo, lo = logL D q (newestF D n).2.1 rm 0 := ⟨_, rfl⟩
  rw [← hlo] at HRP ⊢
  obtain ⟨⟨bl, br, lg⟩, hx⟩ : ∃ x, x = lookF D (q : Int) D.lasts.length := ⟨_, rfl⟩
  obtain ⟨⟨sl, gn, tx, wh⟩, hy⟩ : ∃ x, x = newestF D n := ⟨_, rfl⟩
  obtain ⟨c, hcc⟩ : ∃ c, c = openC D n := ⟨_, rfl⟩
  rw [← hx, ← hy, ← hcc] at HC
  rw [← hx] at HLK
  rw [← hy] at HNW HRP ⊢
  rw [← hcc] at hc
  unfold sightV at HLK
  unfold foundV at HNW
  unfold logV at HRP
  dsimp only at HLK HNW HC HRP ⊢
  obtain ⟨nn, hnn⟩ : ∃ nn, nn = lo.length := ⟨_, rfl⟩
  rw [← hnn] at HRP ⊢
  have HRT := Lib.hid (fun W => vault_rotten bl br lg sl gn tx wh W)
  obtain ⟨W1, hW1⟩ : ∃ W1, W1 = w.alloc (.cells #[.int .i64 0, .int .i64 0, .int .i64 0, .int .i64 0, .int .u64 0, .int .i64 0, .bool false] 33) := ⟨_, rfl⟩
  have R1 : Hid (Blk W1 w.heap.size 33 [.int .i64 0, .int .i64 0, .int .i64 0, .int .i64 0, .int .u64 0, .int .i64 0, .bool false]) := Lib.hid (by rw [hW1]; exact Blk.box7 _ _ _ _ _ _ _ _ _)
  have B1 : Hid (Below w.heap.size w W1) := Lib.hid (by rw [hW1]; exact (Below.refl _ _).alloc (Nat.le_refl _) _)
  have HB0 : Hid (bl = false ∧ (br || (!wh || decide (gn < lg))) = false) := Lib.hid (by
    have e := HC.out
    rw [hc] at e
    cases bl with
    | true => rw [if_pos rfl] at e; cases e
    | false =>
      refine ⟨rfl, ?_⟩
      cases hz : (br || (!wh || decide (gn < lg))) with
      | false => rfl
      | true => rw [hz, if_neg (by decide), if_pos rfl] at e; cases e)
  obtain ⟨rfl, hbz⟩ := HB0.out
  rw [hbz] at HRT
  clear h h1 h2 hl hx hy hcc hc hq hL hrm hlo hnn hg hbz HB0 HC c
  unfold vaultV
  go_enter Tryd.func8, Tryd.ntmps8
  go_wp2_with fail
  rw [← hW1]
  clear hW1
  refine (HF.out _ B1.out).mono ?_
  rintro e w2 ⟨rfl, rfl⟩
  go_wp2_with fail
  refine (HSL.out _).mono ?_
  rintro e w2 ⟨rfl, s2, b2⟩
  have S2 := Lib.hid s2
  have R2 := Lib.hid (R1.out.keep b2)
  have B2 := Lib.hid (B1.out.trans (b2.mono B1.out.size))
  clear s2 b2 HF HSL R1 B1
  go_wp2_with fail
  refine (HAT.out _ _ S2.out).mono ?_
  rintro e w3 ⟨rfl, rfl⟩
  go_wp2_with fail
  refine (HLK.out _ B2.out).mono ?_
  rintro e w3 ⟨rfl, b3⟩
  have S3 := Lib.hid (S2.out.keep b3)
  have R3 := Lib.hid (R2.out.keep b3)
  have B3 := Lib.hid (B2.out.trans (b3.mono B2.out.size))
  clear b3 HLK S2 R2 B2
  go_wp2_with fail
  refine (HNW.out _ B3.out).mono ?_
  rintro e w4 ⟨rfl, b4⟩
  have S4 := Lib.hid (S3.out.keep b4)
  have R4 := Lib.hid (R3.out.keep b4)
  have B4 := Lib.hid (B3.out.trans (b4.mono B3.out.size))
  clear b4 HNW S3 R3 B3
  go_upto_region 5 with fail
  obtain ⟨W5, hW5⟩ : ∃ W5, W5 = ((w4.alloc (.cells #[.bool false, .bool br, .int .u64 (lg : Int)] 63)).alloc (.cells #[.int .i64 (sl : Int), .int .u64 (gn : Int), .string (bs tx), .bool wh] 67)) := ⟨_, rfl⟩
  have bel5 : Below w4.heap.size w4 W5 := by rw [hW5]; exact ((Below.refl _ _).alloc (Nat.le_refl _) _).alloc (by simp) _
  have X5 : Hid (Blk W5 w4.heap.size 63 [.bool false, .bool br, .int .u64 (lg : Int)]) := Lib.hid (by rw [hW5]; exact Blk.alloc (heap_alloc_new w4 _) _)
  have Y5 : Hid (Blk W5 (w4.heap.size + 1) 67 [.int .i64 (sl : Int), .int .u64 (gn : Int), .string (bs tx), .bool wh]) := Lib.hid (by rw [hW5]; have := heap_alloc_new (w4.alloc (.cells #[.bool false, .bool br, .int .u64 (lg : Int)] 63)) (.cells #[.int .i64 (sl : Int), .int .u64 (gn : Int), .string (bs tx), .bool wh] 67); rw [World.size_alloc] at this; exact this)
  have R5 := Lib.hid (R4.out.keep bel5)
  have B5 := Lib.hid (B4.out.trans (bel5.mono B4.out.size))
  rw [← hW5]
  have S5 := Lib.hid (S4.out.keep bel5)
  clear bel5 hW5 S4 R4 B4
  obtain ⟨x0, x1, x2⟩ := X5.out.threeV
  obtain ⟨y0, y1, y2, y3⟩ := Y5.out.four
  obtain ⟨a0, a1, a2, a3, a4, a5, a6⟩ := R5.out.sevenV
  obtain ⟨f0, f1, f2, f3, f4, f5, f6⟩ := R5.out.frozen7
  have hbuilt : Tryd.prog.built 33 [] = some #[.int .i64 0, .int .i64 0, .int .i64 0, .int .i64 0, .int .u64 0, .int .i64 0, .bool false] := by kernel_rfl
  obtain ⟨r0, r1, r2, r3, r4, r5, r6⟩ := (R5.out.put7 (.int .i64 0) (.int .i64 0) (.int .i64 0) (.int .i64 0) (.int .u64 0) (.int .i64 0) (.bool false)).sevenV
  clear r0 r1 r2 r3 r4 r5 r6
  go_wp2_with fail
  refine (HRT.out _).mono ?_
  rintro e w6 ⟨rfl, b6⟩
  have R6 := Lib.hid (R5.out.keep b6)
  have S6 := Lib.hid (S5.out.keep b6)
  have Y6 := Lib.hid (Y5.out.keep b6)
  have B6 := Lib.hid (B5.out.trans (b6.mono B5.out.size))
  clear b6 HRT a0 a1 a2 a3 a4 a5 a6 f0 f1 f2 f3 f4 f5 f6 x0 x1 x2 y0 y1 y2 y3 R5 B5 X5 Y5 S5
  go_upto_region 9 with fail
  have HCE : Hid (∀ W, Below w6.heap.size w6 W → W.cell? ⟨w4.heap.size + 1, 1, none⟩ = some (.int .u64 (gn : Int))) := Lib.hid (fun W hb => (Y6.out.keep hb).cell 1)
  have HAT6 : Hid (∀ W, Below w6.heap.size w6 W → Calls Tryd.prog 41 #[.int .i64 2, .pointer (some ⟨W1.heap.size, 0, none⟩)] W fun e w' => e = .returned (.int .i64 (q : Int)) ∧ W = w') := Lib.hid (fun W hb => HAT.out _ _ (S6.out.keep hb))
  have HSZ6 := Lib.hid (fun W (hb : Below w6.heap.size w6 W) => HSZ.out W (B6.out.trans (hb.mono B6.out.size)))
  have HRP6 : Hid (∀ W, Below w6.heap.size w6 W → Calls Tryd.prog 25 #[.pointer (some ⟨p, 0, none⟩), .int .i64 (q : Int), .int .i64 (rm : Int), .int .u64 (gn : Int)] W fun e w' => ∃ u, e = .returned (.tuple #[.agg #[.int .i64 (q : Int), .int .i64 (rm : Int), .int .u64 (gn : Int), .int .i64 (nn : Int)], u, .int .i64 0]) ∧ w'.ownsRow w.heap.size 9 1 u nn (strsV lo) ∧ Below W.heap.size W w') := Lib.hid (fun W hb => (HRP.out W (B6.out.trans (hb.mono B6.out.size))).mono (fun e w' ⟨u, h1, h2, h3⟩ => ⟨u, h1, own_base h2 (Nat.le_trans B6.out.size hb.size), h3⟩))
  have K0 : Hid (Below w6.heap.size w6 w6.drew) := Lib.hid ((Below.refl _ _).drew)
  have K0b : Hid (Below w6.heap.size w6 (w6.alloc (.cells #[.int .i64 0, .int .i64 0, .int .u64 0, .int .i64 0] 31)).drew) := Lib.hid (((Below.refl _ _).alloc (Nat.le_refl _) _).drew)
  have L0 : Hid (Blk (w6.alloc (.cells #[.int .i64 0, .int .i64 0, .int .u64 0, .int .i64 0] 31)).drew w6.heap.size 31 [.int .i64 0, .int .i64 0, .int .u64 0, .int .i64 0]) := Lib.hid (Blk.box4 _ _ _ _ _ _)
  clear HAT HSZ HRP
  go_cut [11, 12, 13] from 37 to 51 (fun s11 s12 s13 wx => ∃ (lb : Nat) (u : Value) (w8 : World), s11 = .pointer (some ⟨lb, 0, none⟩) ∧ u = s12 ∧ s13 = .int .i64 0 ∧ w8 = wx ∧ w6.heap.size ≤ lb ∧ Hid (Blk wx lb 31 [.int .i64 (q : Int), .int .i64 (rm : Int), .int .u64 (gn : Int), .int .i64 (nn : Int)]) ∧ Hid (wx.ownsRow w.heap.size 9 1 u nn (strsV lo)) ∧ Hid (Below w6.heap.size w6 wx))
  case first =>
    go_region_held3 (fun W => W.cell? ⟨w4.heap.size + 1, 1, none⟩ = some (.int .u64 (gn : Int)))
      (first | exact HCE.out _ (below_put4 (K1.out.alloc K1.out.size _) K1.out.size _ _ _ _) | exact HCE.out _ (K1.out.alloc K1.out.size _) | exact HCE.out _ (below_put4 K1.out (Nat.le_refl _) _ _ _ _) | exact HCE.out _ K1.out | exact HCE.out _ (K0.out.alloc K0.out.size _) | exact HCE.out _ K0.out | exact HCE.out _ K0b.out | exact HCE.out _ ((Below.refl _ _).alloc (Nat.le_refl _) _) | exact HCE.out _ (Below.refl _ _))
      (first
        | (go_at_call 41
           refine (HAT6.out _ ?_).mono ?_
           (first | exact K0.out | exact K0b.out | exact K0.out.alloc K0.out.size _)
           rintro e w7 ⟨rfl, rfl⟩)
        | (go_at_call 26
           refine (HSZ6.out _ ?_).mono ?_
           (first | exact K0.out | exact K0b.out | exact K0.out.alloc K0.out.size _)
           rintro e w7 ⟨rfl, rfl⟩)
        | (go_at_call 25
           refine (HRP6.out _ ?_).mono ?_
           (first | exact K0.out | exact K0b.out | exact K0.out.alloc K0.out.size _)
           rintro e w7 ⟨u, rfl, o7, b7⟩
           first | have K1 := Lib.hid (K0.out.trans (b7.mono K0.out.size)) | have K1 := Lib.hid (K0b.out.trans (b7.mono K0b.out.size)) | have K1 := Lib.hid ((K0.out.alloc K0.out.size _).trans (b7.mono (K0.out.alloc K0.out.size _).size))
           first
             | (have L1 := Lib.hid (L0.out.keep b7)
                obtain ⟨l0, l1, l2, l3⟩ := L1.out.four
                have lf0 := L1.out.frozen 0
                have lf1 := L1.out.frozen 1
                have lf2 := L1.out.frozen 2
                have lf3 := L1.out.frozen 3)
             | (have L1 := Lib.hid (Blk.box4 w7 31 (.int .i64 0) (.int .i64 0) (.int .u64 0) (.int .i64 0))
                obtain ⟨l0, l1, l2, l3⟩ := L1.out.four
                have lf0 := L1.out.frozen 0
                have lf1 := L1.out.frozen 1
                have lf2 := L1.out.frozen 2
                have lf3 := L1.out.frozen 3)
           have O7 := Lib.hid o7
           clear o7 b7))
    all_goals go_wp2_with fail
    all_goals go_meet
    all_goals refine ⟨_, u, _, rfl, rfl, rfl, rfl, ?_, ?_, ?_, ?_⟩
    all_goals first
      | with_reducible exact Nat.le_refl _
      | with_reducible exact K1.out.size
      | with_reducible exact Lib.hid (Blk.box4 _ _ _ _ _ _)
      | with_reducible exact Lib.hid (L1.out.put4 _ _ _ _)
      | with_reducible exact Lib.hid (own_keep O7.out ((Below.refl _ _).alloc (Nat.le_refl _) _))
      | with_reducible exact Lib.hid (owns_put4 O7.out L1.out (by decide) _ _ _ _)
      | with_reducible exact Lib.hid (K1.out.alloc K1.out.size _)
      | with_reducible exact Lib.hid (below_put4 K1.out (Nat.le_refl _) _ _ _ _)
  case rest =>
    obtain ⟨lb, u, w8, rfl, rfl, rfl, rfl, hlb, L8, O8, K8⟩ := hcut
    have R8 := Lib.hid (R6.out.keep K8.out)
    have Y8 := Lib.hid (Y6.out.keep K8.out)
    have B8 := Lib.hid (B6.out.trans (K8.out.mono B6.out.size))
    have hne1 : w4.heap.size + 1 ≠ w.heap.size := by have := Y6.out.ne_ R6.out (by decide); exact this
    have hne2 : lb ≠ w.heap.size := L8.out.ne_ R8.out (by decide)
    have hneu : u.ownBlock ≠ some w.heap.size := own_ne O8.out R8.out (by decide)
    have HNU := Lib.hid hneu
    have HCE8 : Hid (∀ W : World, Blk W (w4.heap.size + 1) 67 [.int .i64 (sl : Int), .int .u64 (gn : Int), .string (bs tx), .bool wh] → Blk W lb 31 [.int .i64 (q : Int), .int .i64 (rm : Int), .int .u64 (gn : Int), .int .i64 (nn : Int)] →
        W.cell? ⟨w4.heap.size + 1, 0, none⟩ = some (.int .i64 (sl : Int)) ∧ W.cell? ⟨w4.heap.size + 1, 2, none⟩ = some (.string (bs tx)) ∧ W.cell? ⟨lb, 0, none⟩ = some (.int .i64 (q : Int)) ∧ W.cell? ⟨lb, 1, none⟩ = some (.int .i64 (rm : Int)) ∧ W.cell? ⟨lb, 2, none⟩ = some (.int .u64 (gn : Int)) ∧ W.cell? ⟨lb, 3, none⟩ = some (.int .i64 (nn : Int))) := Lib.hid (fun W y l => ⟨y.cell 0, y.cell 2, l.cell 0, l.cell 1, l.cell 2, l.cell 3⟩)
    clear R6 Y6 B6 K8 HCE K0 K0b L0 HRP6 HAT6 HSZ6 hlb hneu
    obtain ⟨a0, a1, a2, a3, a4, a5, a6⟩ := R8.out.sevenV
    obtain ⟨f0, f1, f2, f3, f4, f5, f6⟩ := R8.out.frozen7
    obtain ⟨W9, hrun, R9, B9, he9, hs9⟩ := store_va (w := w8.drew) (g := w.heap.size) R8.out (n : Int) (sl : Int) (q : Int) (rm : Int) (gn : Int) (nn : Int) true
    have ST := Lib.hid hrun
    have HSd := Lib.hid (HCE8.out w8.drew Y8.out L8.out)
    have HS9 := Lib.hid (HCE8.out W9 ((he9 _ hne1).trans Y8.out) ((he9 _ hne2).trans L8.out))
    have BB9 := Lib.hid (B9 w.heap.size w B8.out.drew (Nat.le_refl _))
    have OO9 : Hid (W9.ownsRow w.heap.size 9 1 u nn (strsV lo)) := Lib.hid (own_aside O8.out R8.out (by decide) he9)
    have RR9 := Lib.hid R9
    clear hrun R9 B9 he9 hs9 a0 a1 a2 a3 a4 a5 a6 f0 f1 f2 f3 f4 f5 f6 R8 Y8 L8 O8 B8 hne1 hne2 HNU
    go_upto_region 12 with fail
    -- R12 begin
    refine wp_region_noPanic ?_
    refine wp_region_held_drew (S := fun w' => w'.cell? ⟨w4.heap.size + 1, 0, none⟩ = some (.int .i64 (sl : Int)) ∧ w'.cell? ⟨w4.heap.size + 1, 2, none⟩ = some (.string (bs tx)) ∧ w'.cell? ⟨lb, 0, none⟩ = some (.int .i64 (q : Int)) ∧ w'.cell? ⟨lb, 1, none⟩ = some (.int .i64 (rm : Int)) ∧ w'.cell? ⟨lb, 2, none⟩ = some (.int .u64 (gn : Int)) ∧ w'.cell? ⟨lb, 3, none⟩ = some (.int .i64 (nn : Int))) (by kernel_rfl) ?_ (fun hHeld => ?_)
    · exact HSd.out
    refine wpAnyH_take (i := 0) (oi := oqo0) (v := ?_) rfl (by kernel_rfl) (by kernel_rfl) (by kernel_rfl) (fun _ _ _ h => h) (Or.inl ⟨by rfl, ?_⟩) (by assumption) ?_
    rotate_left
    · (intro w hSw; (try dsimp only at hSw); obtain ⟨s0, s1, s2, s3, s4, s5⟩ := hSw; (try dsimp only [oqo0]); go_simp; try (with_reducible rfl))
    (try simp only [Act.put, List.setIfInBounds_toArray, List.set_cons_zero, List.set_cons_succ])
    refine wpAnyH_take (i := 1) (oi := oqo1) (v := ?_) rfl (by kernel_rfl) (by kernel_rfl) (by kernel_rfl) (fun _ _ _ h => h) (Or.inl ⟨by rfl, ?_⟩) (by assumption) ?_
    rotate_left
    · (intro w hSw; (try dsimp only at hSw); obtain ⟨s0, s1, s2, s3, s4, s5⟩ := hSw; (try dsimp only [oqo1]); go_simp; try (with_reducible rfl))
    (try simp only [Act.put, List.setIfInBounds_toArray, List.set_cons_zero, List.set_cons_succ])
    refine wpAnyH_take (i := 2) (oi := oqo2) (v := ?_) rfl (by kernel_rfl) (by kernel_rfl) (by kernel_rfl) (fun _ _ _ h => h) (Or.inl ⟨by rfl, ?_⟩) (by assumption) ?_
    rotate_left
    · (intro w hSw; (try dsimp only at hSw); obtain ⟨s0, s1, s2, s3, s4, s5⟩ := hSw; (try dsimp only [oqo2]); go_simp; try (with_reducible rfl))
    (try simp only [Act.put, List.setIfInBounds_toArray, List.set_cons_zero, List.set_cons_succ])
    refine wpAnyH_take (i := 3) (oi := oqo3) (v := ?_) rfl (by kernel_rfl) (by kernel_rfl) (by kernel_rfl) (fun _ _ _ h => h) (Or.inl ⟨by rfl, ?_⟩) (by assumption) ?_
    rotate_left
    · (intro w hSw; (try dsimp only at hSw); obtain ⟨s0, s1, s2, s3, s4, s5⟩ := hSw; (try dsimp only [oqo3]); go_simp; try (with_reducible rfl))
    (try simp only [Act.put, List.setIfInBounds_toArray, List.set_cons_zero, List.set_cons_succ])
    refine wpAnyH_take (i := 5) (oi := oqo5) (v := ?_) rfl (by kernel_rfl) (by kernel_rfl) (by kernel_rfl) (fun _ _ _ h => h) (Or.inl ⟨by rfl, ?_⟩) (by assumption) ?_
    rotate_left
    · (intro w hSw; (try dsimp only at hSw); obtain ⟨s0, s1, s2, s3, s4, s5⟩ := hSw; (try dsimp only [oqo5]); go_simp; try (with_reducible rfl))
    (try simp only [Act.put, List.setIfInBounds_toArray, List.set_cons_zero, List.set_cons_succ])
    refine wpAnyH_take (i := 6) (oi := oqo6) (v := ?_) rfl (by kernel_rfl) (by kernel_rfl) (by kernel_rfl) (fun _ _ _ h => h) (Or.inl ⟨by rfl, ?_⟩) (by assumption) ?_
    rotate_left
    · (intro w hSw; (try dsimp only at hSw); obtain ⟨s0, s1, s2, s3, s4, s5⟩ := hSw; (try dsimp only [oqo6]); go_simp; try (with_reducible rfl))
    (try simp only [Act.put, List.setIfInBounds_toArray, List.set_cons_zero, List.set_cons_succ])
    refine wpAnyH_take (i := 7) (oi := oqo7) (v := ?_) rfl (by kernel_rfl) (by kernel_rfl) (by kernel_rfl) (fun _ _ _ h => h) (Or.inl ⟨by rfl, ?_⟩) (by assumption) ?_
    rotate_left
    · (intro w hSw; (try dsimp only at hSw); obtain ⟨s0, s1, s2, s3, s4, s5⟩ := hSw; (try dsimp only [oqo7]); go_simp; try (with_reducible rfl))
    (try simp only [Act.put, List.setIfInBounds_toArray, List.set_cons_zero, List.set_cons_succ])
    refine wpAnyH_ready (rs := [4]) (by kernel_rfl) (by simp) ?_
    refine AllReadyH.cons (o := oqo4) rfl (fun K hK => ?_) AllReadyH.nil
    rw [if_pos (by rfl)]
    refine wp_built_is 33 _ rfl [(0, .int .i64 (n : Int)), (1, .int .i64 (sl : Int)), (2, .agg #[.int .i64 (q : Int), .int .i64 (rm : Int), .int .u64 (gn : Int), .int .i64 (nn : Int)]), (3, .bool true)] (by simp [Act.eval]) _ (built7 (n : Int) (sl : Int) (q : Int) (rm : Int) (gn : Int) (nn : Int)) ?_
    refine hK.out _ _ ?_ (fun hHeld => ?_)
    · exact HSd.out
    clear hK K
    (try simp only [Act.put, List.setIfInBounds_toArray, List.set_cons_zero, List.set_cons_succ])
    refine wpAnyH_ready (rs := [8]) (by kernel_rfl) (by simp) ?_
    refine AllReadyH.cons (o := oqo8) rfl (fun K hK => ?_) AllReadyH.nil
    rw [if_pos (by rfl)]
    refine wp_store_is _ _ _ rfl ⟨w.heap.size, 0, none⟩ rfl _ rfl _ ST.out ?_
    refine hK.out _ _ ?_ (fun hHeld => ?_)
    · exact HS9.out
    clear hK K
    (try simp only [Act.put, List.setIfInBounds_toArray, List.set_cons_zero, List.set_cons_succ])
    refine wpAnyH_take (i := 9) (oi := oqo9) (v := ?_) rfl (by kernel_rfl) (by kernel_rfl) (by kernel_rfl) (fun _ _ _ h => h) (Or.inl ⟨by rfl, ?_⟩) (by assumption) ?_
    rotate_left
    · (intro w hSw; (try dsimp only at hSw); obtain ⟨s0, s1, s2, s3, s4, s5⟩ := hSw; (try dsimp only [oqo9]); go_simp; try (with_reducible rfl))
    (try simp only [Act.put, List.setIfInBounds_toArray, List.set_cons_zero, List.set_cons_succ])
    refine wpAnyH_take (i := 10) (oi := oqo10) (v := ?_) rfl (by kernel_rfl) (by kernel_rfl) (by kernel_rfl) (fun _ _ _ h => h) (Or.inl ⟨by rfl, ?_⟩) (by assumption) ?_
    rotate_left
    · (intro w hSw; (try dsimp only at hSw); obtain ⟨s0, s1, s2, s3, s4, s5⟩ := hSw; (try dsimp only [oqo10]); go_simp; try (with_reducible rfl))
    (try simp only [Act.put, List.setIfInBounds_toArray, List.set_cons_zero, List.set_cons_succ])
    refine wpAnyH_take (i := 11) (oi := oqo11) (v := ?_) rfl (by kernel_rfl) (by kernel_rfl) (by kernel_rfl) (fun _ _ _ h => h) (Or.inl ⟨by rfl, ?_⟩) (by assumption) ?_
    rotate_left
    · (intro w hSw; (try dsimp only at hSw); obtain ⟨s0, s1, s2, s3, s4, s5⟩ := hSw; (try dsimp only [oqo11]); go_simp; try (with_reducible rfl))
    (try simp only [Act.put, List.setIfInBounds_toArray, List.set_cons_zero, List.set_cons_succ])
    refine wpAnyH_done (by kernel_rfl) ?_ _
    refine NoPanic.normal ?_
    -- R12 end
    go_wp2_with fail
    obtain ⟨r0, r1, r2, r3, r4, r5, r6⟩ := RR9.out.sevenV
    refine bodyPost_ret (v := .tuple #[.agg #[.int .i64 (n : Int), .int .i64 (sl : Int), .int .i64 (q : Int), .int .i64 (rm : Int), .int .u64 (gn : Int), .int .i64 (nn : Int), .bool true], .string (bs tx), u, .int .i64 0]) (by simp [results, Tryd.results8, go_sem, r0, r1, r2, r3, r4, r5, r6]) rfl ?_
    exact ⟨u, rfl, OO9.out, BB9.out⟩
end Go.Proofs.YtbigpapniloknaaDoor
