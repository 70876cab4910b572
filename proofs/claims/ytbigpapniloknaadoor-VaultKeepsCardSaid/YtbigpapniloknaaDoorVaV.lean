/- The walk of VaultKeeps. -/
import Derived.Test.YtbigpapniloknaaDoorVaU
import Derived.Deep.Cut
import Derived.Deep.CutBlock
namespace Go.Proofs.YtbigpapniloknaaDoor
open Go.RowKit Go.Maps
set_option maxRecDepth 100000

-- DEFS begin
abbrev vko0 : Oper := { dst := some 86, op := Op.move (Operand.tmp 9), type := 39, pos := "law.go:156", after := #[], guard := none }
abbrev vko1 : Oper := { dst := some 87, op := Op.move (Operand.tmp 9), type := 39, pos := "law.go:156", after := #[], guard := none }
abbrev vko2 : Oper := { dst := some 88, op := Op.indexAddr 39 (Operand.tmp 87) (Operand.const (Value.int IntKind.i64 0)), type := 0, pos := "law.go:156", after := #[{ on := 1, ground := Ground.data }], guard := none }
abbrev vko3 : Oper := { dst := some 89, op := Op.fieldAddr 38 (Operand.tmp 88) 1, type := 0, pos := "law.go:156", after := #[{ on := 2, ground := Ground.data }], guard := none }
abbrev vko4 : Oper := { dst := some 90, op := Op.load 34 (Operand.tmp 89), type := 34, pos := "law.go:156", after := #[{ on := 3, ground := Ground.data }], guard := none }
abbrev vko5 : Oper := { dst := some 91, op := Op.fieldAddr 42 (Operand.tmp 11) 1, type := 0, pos := "law.go:156", after := #[], guard := none }
abbrev vko6 : Oper := { dst := some 92, op := Op.load 9 (Operand.tmp 91), type := 9, pos := "law.go:156", after := #[{ on := 5, ground := Ground.data }], guard := none }
abbrev vko7 : Oper := { dst := some 93, op := Op.buildSlice 34 1 #[(0, Operand.tmp 92)], type := 34, pos := "law.go:156", after := #[{ on := 6, ground := Ground.data }], guard := none }
abbrev vko8 : Oper := { dst := some 94, op := Op.call { callee := Callee.builtin Builtin.append, args := #[Operand.tmp 90, Operand.tmp 93], argTypes := #[34, 34] }, type := 34, pos := "law.go:156", after := #[{ on := 4, ground := Ground.data }, { on := 7, ground := Ground.data }], guard := none }
abbrev vko9 : Oper := { dst := some 95, op := Op.indexAddr 39 (Operand.tmp 86) (Operand.const (Value.int IntKind.i64 0)), type := 0, pos := "law.go:156", after := #[{ on := 0, ground := Ground.data }, { on := 0, ground := Ground.phase }, { on := 1, ground := Ground.phase }, { on := 2, ground := Ground.phase }, { on := 3, ground := Ground.phase }, { on := 4, ground := Ground.phase }, { on := 5, ground := Ground.phase }, { on := 6, ground := Ground.phase }, { on := 7, ground := Ground.phase }, { on := 8, ground := Ground.phase }], guard := none }
abbrev vko10 : Oper := { dst := some 96, op := Op.fieldAddr 38 (Operand.tmp 95) 1, type := 0, pos := "law.go:156", after := #[{ on := 9, ground := Ground.data }, { on := 0, ground := Ground.phase }, { on := 1, ground := Ground.phase }, { on := 2, ground := Ground.phase }, { on := 3, ground := Ground.phase }, { on := 4, ground := Ground.phase }, { on := 5, ground := Ground.phase }, { on := 6, ground := Ground.phase }, { on := 7, ground := Ground.phase }, { on := 8, ground := Ground.phase }], guard := none }
abbrev vko11 : Oper := { dst := none, op := Op.store 34 (Operand.tmp 96) (Operand.tmp 94), type := 0, pos := "law.go:156", after := #[{ on := 10, ground := Ground.data }, { on := 8, ground := Ground.data }, { on := 8, ground := Ground.chain }, { on := 0, ground := Ground.phase }, { on := 1, ground := Ground.phase }, { on := 2, ground := Ground.phase }, { on := 3, ground := Ground.phase }, { on := 4, ground := Ground.phase }, { on := 5, ground := Ground.phase }, { on := 6, ground := Ground.phase }, { on := 7, ground := Ground.phase }, { on := 8, ground := Ground.phase }], guard := none }
-- DEFS end
theorem infoLast : (Tryd.prog.info? 38).map (fun i => (i.zero, i.size, i.bytes)) = some (some (.agg #[.string ⟨#[]⟩, .slice none 0 0, .int .i64 0]), 3, 48) := by kernel_rfl
theorem builtLast1 (s : ByteArray) : Tryd.prog.built 38 [(0, .string s)] = some #[.string s, .slice none 0 0, .int .i64 0] := by kernel_rfl
theorem builtLast3 (s : ByteArray) (A : Option Addr) (n c : Nat) (k : Int) : Tryd.prog.built 38 [(0, .string s), (1, .slice A n c), (2, .int .i64 k)] = some #[.string s, .slice A n c, .int .i64 k] := by kernel_rfl

set_option maxHeartbeats 40000000 in
theorem vaultKeeps_main (La : Option Addr) (ln lc : Nat) (l : Nat → ActV) (w : World) (hL : ActsV w La ln l) (hln : ln ≤ 30) :
    Calls Tryd.prog 3 #[.slice La ln lc] w fun e w' => e = .returned (.bool true) ∧ Below w.heap.size w w' := by
  obtain ⟨i0, hi0, hz0, hz1, hz2⟩ := info_parts infoLast
  obtain ⟨j0, hj0, hy0, hy1, hy2⟩ := info_parts infoString
  have HA := Lib.hid vault_Awake
  have HN := Lib.hid (disk_New 10 w (by omega) (by omega))
  have HL := Lib.hid hL
  have HLN := Lib.hid hln
  have hd1 : decide ((30 : Int) < (ln : Int)) = false := decide_eq_false (by omega)
  have hd1' : decide (30 < ln) = false := decide_eq_false (by omega)
  obtain ⟨DF, hDF⟩ : ∃ DF, DF = (formatD (newD 10) 2 [116]).1 := ⟨_, rfl⟩
  obtain ⟨fc, fa, fw, fv⟩ := VI.begins (t := [116]) (by decide)
  have FS : Hid (SmallN 400000 DF) := Lib.hid (by rw [hDF, format_new]; exact SmallN.lay ((smallN_new 10).mono (by omega)) (by decide))
  rw [← hDF] at fa fw fv
  have FV := Lib.hid fv
  have HFC : Hid (formatD (newD 10) 2 [116] = (DF, 0)) := Lib.hid (Prod.ext hDF.symm fc)
  obtain ⟨ho1, ho2, m0, ho3, ho4, ho5⟩ := fv.opens (by decide) fw
  have HO1 := Lib.hid ho1
  have HO2 := Lib.hid ho2
  have HO5 : Hid (logL DF 4 1 6 0 = []) := Lib.hid (by rw [ho5, List.take_nil])
  clear hL hDF fc fa fw fv ho1 ho2 ho3 ho4 ho5 hln
  go_enter Tryd.func3, Tryd.ntmps3
  go_wp2_with fail
  refine HN.out.mono ?_
  rintro e w1 ⟨p, gl, M, v, rfl, h1, hb1⟩
  have B1 := Lib.hid hb1
  have HF : Hid (Calls Tryd.prog 7 #[.pointer (some ⟨p, 0, none⟩), .int .i64 2, .string ⟨#[116]⟩] w1 fun e w' => e = .returned (.int .i64 0) ∧ ∃ v', IsDisk w.heap.size w' p gl M v' DF ∧ Below w.heap.size w1 w' ∧ Keeps w1 w') := Lib.hid (by
    have h := vault_Format _ w1 p gl M v (newD 10) 2 [116] h1 ((smallN_new 10).mono (by omega)) hb1.size (by decide) (by simp [newD]) (by decide)
    rw [HFC.out] at h
    exact h)
  clear h1 hb1 HN hd1 hd1'
  go_wp2_with fail
  refine HF.out.mono ?_
  rintro e w2 ⟨rfl, v2, h2, b2, _⟩
  have B2 := Lib.hid (B1.out.trans b2)
  have D2 := Lib.hid h2
  have HO : Hid (Calls Tryd.prog 8 #[.pointer (some ⟨p, 0, none⟩), .int .i64 2] w2 fun e w' => ∃ u, e = .returned (.tuple #[.agg #[.int .i64 2, .int .i64 0, .int .i64 4, .int .i64 6, .int .u64 1, .int .i64 0, .bool true], .string ⟨#[116]⟩, u, .int .i64 0]) ∧ Below w2.heap.size w2 w') := Lib.hid (by
    have h := vault_Open_yes _ w2 p gl M v2 DF 2 h2 (by decide) (by rw [FV.out.len]; decide) HO1.out (by rw [HO2.out]; exact (by decide : 1 < 18446744073709551616))
    rw [HO2.out, FV.out.len] at h
    dsimp only at h
    rw [show logL DF (2 * 2) 1 (10 - 2 * 2) 0 = [] from HO5.out] at h
    refine h.mono ?_
    rintro e w' ⟨u, q1, _, q3⟩
    exact ⟨u, q1, q3⟩)
  clear h2 b2 HF B1 HO1 HO2 HO5 HFC
  go_wp2_with fail
  refine HO.out.mono ?_
  rintro e w3 ⟨u3, rfl, b3⟩
  have D3 := Lib.hid (D2.out.keep b3)
  have B3 := Lib.hid (B2.out.trans (b3.mono B2.out.size))
  clear b3 HO D2 B2
  obtain ⟨W3, hW3⟩ : ∃ W3, W3 = (w3.alloc (.cells #[.int .i64 2, .int .i64 0, .int .i64 4, .int .i64 6, .int .u64 1, .int .i64 0, .bool true] 33)).alloc (.cells #[.string ⟨#[116]⟩, .slice none 0 0, .int .i64 0] 38) := ⟨_, rfl⟩
  have bel3 : Below w3.heap.size w3 W3 := by rw [hW3]; exact ((Below.refl _ _).alloc (Nat.le_refl _) _).alloc (by simp) _
  have ST0 : Hid (VkSt w p gl M w3.heap.size 0 W3 (.slice (some ⟨w3.heap.size + 1, 0, none⟩) 1 1) DF v2 0 1 true [116] [] 0 [] (.slice none 0 0)) := Lib.hid
    { inv := FV.out
      sm := FS.out
      ml := Nat.le_refl _
      box := by rw [hW3]; exact (Blk.box7 _ _ _ _ _ _ _ _ _).alloc _
      dsk := D3.out.keep bel3
      row := by
        have h := World.ownsRow_lit (base := w.heap.size) (e := 38) (size := 3) (w3.alloc (.cells #[.int .i64 2, .int .i64 0, .int .i64 4, .int .i64 6, .int .u64 1, .int .i64 0, .bool true] 33)) #[.string ⟨#[116]⟩, .slice none 0 0, .int .i64 0] 1 (Nat.le_trans B3.out.size (by simp)) (by decide) rfl
        rw [World.size_alloc, ← hW3] at h
        exact h
      own := World.ownsRow_nil _ _ _ _
      bel := B3.out.trans (bel3.mono B3.out.size)
      low := B3.out.size }
  have fne : ((⟨#[116]⟩ : ByteArray).toList != (⟨#[116]⟩ : ByteArray).toList) = false := by simp
  clear bel3 D3 B3 FV FS
  go_upto_region 10 with (first | (refine wpList_build_is rfl 38 _ rfl [(0, .string ⟨#[116]⟩)] (by simp [Act.eval]) _ (builtLast1 ⟨#[116]⟩) ?_))
  rw [← hW3]
  clear hW3 fne
  go_wp2_with fail
  go_loopw [9, 52] (fun mvv iv wr => ∃ (i : Nat) (mv : Value) (D : DSt) (dv : Value) (a g : Nat) (st : Bool) (T0 : List UInt8) (all : List (List UInt8)) (sure : Nat) (more : List (List UInt8)) (u : Value), mv = mvv ∧ iv = .int .i64 i ∧ i ≤ ln ∧ Hid (VkSt w p gl M w3.heap.size i wr mv D dv a g st T0 all sure more u)) (fun _ iv _ => ln - (intOf iv).toNat)
  case atStart => exact ⟨0, _, DF, v2, 0, 1, true, [116], [], 0, [], .slice none 0 0, rfl, rfl, Nat.zero_le _, ST0⟩
  case round =>
    obtain ⟨i, mv, D, dv, a, g, st, T0, all, sure, more, u, rfl, rfl, hi, H⟩ := hrel
    clear ST0
    by_cases hlt : i < ln
    · obtain ⟨ab, ao, rfl, hcx⟩ := HL.out (by omega)
      obtain ⟨hok, hcl0⟩ := hcx i hlt
      have hcl : ∀ k u, (l i).cells[k]? = some u → wr.cell? ⟨ab, ao + i * 5 + k, none⟩ = some u := fun k u hu => (H.out.bel.cell (p := ⟨ab, ao + i * 5 + k, none⟩) (block_lt_of_cell (hcl0 k u hu))).trans (hcl0 k u hu)
      clear hcl0
      obtain ⟨⟨kk, t, N, y, Ka, kn, kc, ks⟩, hq⟩ : ∃ q, q = l i := ⟨_, rfl⟩
      rw [← hq] at hok hcl
      obtain ⟨o1, o2, o3, o4, o5, o6⟩ := hok
      dsimp only at o1 o2 o3 o4 o5 o6
      have c0 := hcl 0 _ rfl
      have c1 := hcl 1 _ rfl
      have c2 := hcl 2 _ rfl
      have c3 := hcl 3 _ rfl
      have c4 := hcl 4 _ rfl
      dsimp only at c0 c1 c2 c3 c4
      rw [Nat.add_zero] at c0
      have HK := Lib.hid o5
      have HNB := Lib.hid o3
      have hst := bs_size t
      have hd : decide ((i : Int) < (ln : Int)) = true := decide_eq_true (by omega)
      have hd' : decide (i < ln) = true := decide_eq_true hlt
      have hkw : IntKind.i64.wrap ((i : Int) + 1) = (i : Int) + 1 := IntWalk.i64_in _ (by have := HLN.out; omega)
      have HLT := Lib.hid hlt
      obtain ⟨CS, hCS⟩ : ∃ CS : Obj, CS = .cells #[.int .u8 (kk : Int), .string (bs t), .int .i64 N, .int .u8 (y : Int), .slice Ka kn kc] 42 := ⟨_, rfl⟩
      have ST4 := Lib.hid (H.out.keep ((Below.refl wr.heap.size wr).alloc (Nat.le_refl _) CS))
      have AA : Hid (Blk (wr.alloc CS) wr.heap.size 42 [.int .u8 (kk : Int), .string (bs t), .int .i64 N, .int .u8 (y : Int), .slice Ka kn kc]) := Lib.hid (by rw [hCS]; exact heap_alloc_new wr _)
      clear hcx hcl hq hlt o3 o5
      by_cases h110 : 110 < t.length
      · have hk1 : decide ((110 : Int) < (t.length : Int)) = true := decide_eq_true (by omega)
        have hk1' : decide (110 < t.length) = true := decide_eq_true h110
        have B4 := Lib.hid ST4.out.bel
        rw [hCS] at B4
        go_wp2_with fail
        refine (HA.out _).mono ?_
        rintro e w5 ⟨rfl, hb5⟩
        go_wp2_with fail
        go_ret
        exact ⟨rfl, B4.out.trans (hb5.mono B4.out.size)⟩
      · have hk1 : decide ((110 : Int) < (t.length : Int)) = false := decide_eq_false (by omega)
        have hk1' : decide (110 < t.length) = false := decide_eq_false h110
        by_cases h50 : 50 < kn
        · have hk2 : decide ((50 : Int) < (kn : Int)) = true := decide_eq_true (by omega)
          have hk2' : decide (50 < kn) = true := decide_eq_true h50
          have B4 := Lib.hid ST4.out.bel
          rw [hCS] at B4
          go_wp2_with fail
          refine (HA.out _).mono ?_
          rintro e w5 ⟨rfl, hb5⟩
          go_wp2_with fail
          go_ret
          exact ⟨rfl, B4.out.trans (hb5.mono B4.out.size)⟩
        · have hk2 : decide ((50 : Int) < (kn : Int)) = false := decide_eq_false (by omega)
          have hk2' : decide (50 < kn) = false := decide_eq_false h50
          have HT : Hid (t.length ≤ 110 ∧ kn ≤ 50) := Lib.hid ⟨by omega, by omega⟩
          obtain ⟨W4, hW4⟩ : ∃ W4, W4 = wr.alloc CS := ⟨_, rfl⟩
          rw [← hW4] at ST4 AA
          rw [hCS] at hW4
          clear hCS h110 h50 o1 o2 o4 o6
          go_upto_region 15 with fail
          rw [← hW4]
          clear hW4 c0 c1 c2 c3 c4 hk1 hk1' hk2 hk2' hd hd'
          obtain ⟨x0, x1, x2, x3, x4⟩ := AA.out.five
          by_cases k0 : kk = 0
          · have e0 : ((kk : Int) == 0) = true := by rw [beq_iff_eq]; omega
            -- K0 begin
            obtain ⟨nx, hnx⟩ : ∃ nx, nx = all.length := ⟨_, rfl⟩
            have HAP : Hid (Calls Tryd.prog 9 #[.agg #[.int .i64 2, .int .i64 (a : Int), .int .i64 4, .int .i64 6, .int .u64 (g : Int), .int .i64 (nx : Int), .bool st], .pointer (some ⟨p, 0, none⟩), .string (bs t)] W4 fun e w' => ∃ (E : DSt) (dv' : Value) (c nx' : Nat), e = .returned (.tuple #[.agg #[.int .i64 2, .int .i64 (a : Int), .int .i64 4, .int .i64 6, .int .u64 (g : Int), .int .i64 (nx' : Int), .bool st], .int .i64 (c : Int)]) ∧ IsDisk w.heap.size w' p gl M dv' E ∧ Below w.heap.size W4 w' ∧ Keeps W4 w' ∧ SmallN (400000 - 6000 * (i + 1)) E ∧ all.length ≤ 6 ∧
                ((nx' = nx ∧ c ≠ 0 ∧ VI E a g st T0 all sure more i) ∨ (nx' = nx + 1 ∧ ((c ≠ 0 ∧ VI E a g st T0 (all ++ [t]) sure more i) ∨ (c = 0 ∧ VI E a g st T0 (all ++ [t]) (all.length + 1) more i))))) := Lib.hid (by
              have hv := ST4.out.inv
              have hi30 : i ≤ 30 := by have := HLT.out; have := HLN.out; omega
              have hs : SmallN (400000 - 6000 * (i + 1) + 2) D := ST4.out.sm.mono (by omega)
              cases hst' : st with
              | true =>
                refine (vault_Append_stuck 2 (a : Int) 4 6 g (nx : Int) _ _ W4).mono ?_
                rintro e w' ⟨q1, q2⟩
                rw [hst'] at hv
                exact ⟨D, dv, 15, nx, q1, ST4.out.dsk.keep q2, q2.mono ST4.out.bel.size, Keeps.of_below q2, hs.mono (by omega), hv.hall, .inl ⟨rfl, by decide, hv⟩⟩
              | false =>
                rw [hst'] at hv
                have h := vault_Append _ W4 p gl M dv D 2 (a : Int) 4 6 g nx t ST4.out.dsk ⟨hs.1, by have := hs.2.1; omega, by have := hs.2.2; omega⟩ ST4.out.bel.size (by decide) (by rw [hv.len]; decide) (by rw [hnx]; exact hv.hall) (by have := hv.hgi; omega) (by have := HT.out.1; omega)
                refine h.mono ?_
                rintro e w' ⟨q1, v', q2, q3, q4⟩
                have hva := vi_append hv (by omega) HT.out.1
                rw [← hnx] at hva
                refine ⟨_, v', _, _, q1, q2, q3, q4, SmallN.app hs _ _ _ _ _, hv.hall, ?_⟩
                rw [← hnx]
                rcases hva with ⟨z1, z2, z3⟩ | ⟨z1, z2, z3⟩ | ⟨z1, z2, z3⟩
                · exact .inl ⟨z1, z2, z3⟩
                · exact .inr ⟨z1, .inl ⟨z2, z3⟩⟩
                · exact .inr ⟨z1, .inr ⟨z2, z3⟩⟩)
            obtain ⟨a0, a1, a2, a3, a4, a5, a6⟩ := ST4.out.box.sevenV
            rw [← hnx] at a5
            have HNX := Lib.hid hnx
            clear hnx k0
            go_wp2_with fail
            clear a0 a1 a2 a3 a4 a5 a6
            refine HAP.out.mono ?_
            rintro e w5 ⟨E, dv', c, nx', rfl, h5, b5, k5, sm5, al6, hcs⟩
            obtain ⟨gm, mcap, rfl, hgm, _⟩ := ST4.out.row.form (by omega)
            obtain ⟨ua, uc, hua, _⟩ := StrC.of_own ST4.out.own rfl
            obtain ⟨un, hun⟩ : ∃ un, un = all.length := ⟨_, rfl⟩
            rw [← hun] at hua
            subst hua
            obtain ⟨L, hL⟩ : ∃ L, L = 1 + more.length := ⟨_, rfl⟩
            have HLE := Lib.hid hL
            have HL0 : Hid (0 < L) := Lib.hid (by omega)
            have HL3 : Hid (1 < L * 3) := Lib.hid (by omega)
            have GML := Lib.hid hgm
            have AL6 := Lib.hid al6
            have SM5 := Lib.hid sm5
            have LO := Lib.hid ST4.out.low
            have ML := Lib.hid ST4.out.ml
            have HCS0 := Lib.hid hcs
            have bel6 : Below w5.heap.size w5 (w5.alloc (.cells #[.int .i64 2, .int .i64 (a : Int), .int .i64 4, .int .i64 6, .int .u64 (g : Int), .int .i64 (nx' : Int), .bool st] 33)) := (Below.refl _ _).alloc (Nat.le_refl _) _
            have hrow5 := own_keepsT ST4.out.row k5 (by decide) (by decide) (by decide)
            rw [← hL] at hrow5
            have hbox5 := k5 _ _ _ (by decide) (by decide) (by decide) ST4.out.box
            rw [← HNX.out] at hbox5
            have XNE : Hid (w5.heap.size ≠ w3.heap.size) := Lib.hid (by have := hbox5.lt; omega)
            obtain ⟨W6, hW6⟩ : ∃ W6, W6 = w5.alloc (.cells #[.int .i64 2, .int .i64 (a : Int), .int .i64 4, .int .i64 6, .int .u64 (g : Int), .int .i64 (nx' : Int), .bool st] 33) := ⟨_, rfl⟩
            have M6 : Hid (VkMid w p gl M W6 E dv' gm L mcap (mayC T0 (.slice ua un uc) sure more) (.slice ua un uc) all w3.heap.size [.int .i64 2, .int .i64 (a : Int), .int .i64 4, .int .i64 6, .int .u64 (g : Int), .int .i64 (nx : Int), .bool st] w5.heap.size [.int .i64 2, .int .i64 (a : Int), .int .i64 4, .int .i64 6, .int .u64 (g : Int), .int .i64 (nx' : Int), .bool st] wr.heap.size [.int .u8 (kk : Int), .string (bs t), .int .i64 N, .int .u8 (y : Int), .slice Ka kn kc]) := Lib.hid (by
              rw [hW6]
              exact
                { row := ownW_keep hrow5 bel6
                  own := ownW_keep (own_keepsT ST4.out.own k5 (by decide) (by decide) (by decide)) bel6
                  box := hbox5.keep bel6
                  xbx := Blk.box7 _ _ _ _ _ _ _ _ _
                  act := (k5 _ _ _ (by decide) (by decide) (by decide) AA.out).keep bel6
                  dsk := h5.keep bel6
                  bel := (ST4.out.bel.trans b5).trans (bel6.mono (ST4.out.bel.trans b5).size) })
            rw [← hL]
            clear h5 b5 k5 sm5 hcs HAP ST4 AA x0 x1 x2 x3 x4 bel6 hrow5 hbox5 hL hgm al6
            obtain ⟨a0, a1, a2, a3, a4, a5, a6⟩ := M6.out.xbx.sevenV
            obtain ⟨b0, b1, b2, b3, b4, b5, b6⟩ := M6.out.box.sevenV
            go_upto_region 18 with fail
            rw [← hW6]
            clear hW6
            by_cases hnn : nx' = nx
            · have hcmp : decide ((nx : Int) < (nx' : Int)) = false := decide_eq_false (by omega)
              have hcmp' : decide (nx < nx') = false := decide_eq_false (by omega)
              have HC1 : Hid (c ≠ 0 ∧ VI E a g st T0 all sure more i) := Lib.hid (by
                rcases HCS0.out with ⟨_, q⟩ | ⟨q, _⟩
                · exact q
                · omega)
              have HNP : Hid (nx' = all.length) := Lib.hid (hnn.trans HNX.out)
              obtain ⟨f0, f1, f2, f3, f4, f5, f6⟩ := M6.out.box.frozen7
              obtain ⟨W7, hW7⟩ : ∃ W7, W7 = (((((((W6.setCell ⟨w3.heap.size, 0, none⟩ (.int .i64 2)).setCell ⟨w3.heap.size, 1, none⟩ (.int .i64 (a : Int))).setCell ⟨w3.heap.size, 2, none⟩ (.int .i64 4)).setCell ⟨w3.heap.size, 3, none⟩ (.int .i64 6)).setCell ⟨w3.heap.size, 4, none⟩ (.int .u64 (g : Int))).setCell ⟨w3.heap.size, 5, none⟩ (.int .i64 (nx' : Int))).setCell ⟨w3.heap.size, 6, none⟩ (.bool st)) := ⟨_, rfl⟩
              have M7 : Hid (VkMid w p gl M W7 E dv' gm L mcap (mayC T0 (.slice ua un uc) sure more) (.slice ua un uc) all w3.heap.size [.int .i64 2, .int .i64 (a : Int), .int .i64 4, .int .i64 6, .int .u64 (g : Int), .int .i64 (nx' : Int), .bool st] w5.heap.size [.int .i64 2, .int .i64 (a : Int), .int .i64 4, .int .i64 6, .int .u64 (g : Int), .int .i64 (nx' : Int), .bool st] wr.heap.size [.int .u8 (kk : Int), .string (bs t), .int .i64 N, .int .u8 (y : Int), .slice Ka kn kc]) := Lib.hid (by rw [hW7]; exact M6.out.putBox LO.out XNE.out _ _ _ _ _ _ _)
              have ec : ((c : Int) == 0) = false := by have := HC1.out.1; rw [beq_eq_false_iff_ne]; omega
              clear hnn
              go_upto_region 21 with fail
              rw [← hW7]
              clear hW7 a0 a1 a2 a3 a4 a5 a6 b0 b1 b2 b3 b4 b5 b6 f0 f1 f2 f3 f4 f5 f6 hcmp hcmp'
              have ST8 : Hid (VkSt w p gl M w3.heap.size (i + 1) W7 (.slice (some ⟨gm, 0, none⟩) L mcap) E dv' a g st T0 all sure more (.slice ua un uc)) := Lib.hid
                { inv := HC1.out.2.mono (Nat.le_succ i), sm := SM5.out, ml := Nat.le_trans ML.out (Nat.le_succ i)
                  box := by have hb := M7.out.box; rw [HNP.out] at hb; exact hb
                  dsk := M7.out.dsk
                  row := by have hr := M7.out.row; rw [HLE.out] at hr ⊢; exact hr
                  own := M7.out.own, bel := M7.out.bel, low := LO.out }
              go_wp2_with fail
              exact ⟨⟨i + 1, _, E, dv', a, g, st, T0, all, sure, more, _, rfl, by go_num, by have := HLT.out; omega, ST8⟩, by have := HLT.out; simp [intOf]; omega⟩
            · have HCS : Hid ((c ≠ 0 ∧ VI E a g st T0 (all ++ [t]) sure more i) ∨ (c = 0 ∧ VI E a g st T0 (all ++ [t]) (all.length + 1) more i)) := Lib.hid (by
                rcases HCS0.out with ⟨q, _⟩ | ⟨_, q⟩
                · exact absurd q hnn
                · exact q)
              have HNP : Hid (nx' = all.length + 1) := Lib.hid (by
                rcases HCS0.out with ⟨q, _⟩ | ⟨q, _⟩
                · exact absurd q hnn
                · rw [q, HNX.out])
              have hcmp : decide ((nx : Int) < (nx' : Int)) = true := decide_eq_true (by have := HNP.out; have := HNX.out; omega)
              have hcmp' : decide (nx < nx') = true := decide_eq_true (by have := HNP.out; have := HNX.out; omega)
              clear hnn HCS0
              go_upto_region 19 with fail
              clear a0 a1 a2 a3 a4 a5 a6 b0 b1 b2 b3 b4 b5 b6 hcmp hcmp'
              obtain ⟨Wd, hWd⟩ : ∃ Wd, Wd = W6.drew := ⟨_, rfl⟩
              have Md := Lib.hid (M6.out.keep ((Below.refl W6.heap.size W6).drew))
              rw [← hWd] at Md
              have HSD := Lib.hid (Md.out.act.cell 1)
              have M8 := Lib.hid (Md.out.keep ((Below.refl Wd.heap.size Wd).alloc (Nat.le_refl _) (.cells #[.string (bs t)] 9)))
              have HS8 := Lib.hid (M8.out.act.cell 1)
              have LDD := Lib.hid (load_all (Md.out.cells HL0.out).1)
              have LD8 := Lib.hid (load_all (M8.out.cells HL0.out).1)
              have hgl : (0 : Int) < (L : Int) := by have := HL0.out; omega
              have hgl' : 0 < L := HL0.out
              rw [hWd] at HSD
              refine wp_region_noPanic ?_
              refine wp_region_held_drew (S := fun w' => w'.cell? ⟨wr.heap.size, 1, none⟩ = some (.string (bs t))) (by kernel_rfl) ?_ (fun hHeld => ?_)
              · exact HSD.out
              rw [← hWd]
              rw [← hWd] at HSD
              refine wpAnyH_take (i := 0) (oi := vko0) (v := ?_) rfl (by kernel_rfl) (by kernel_rfl) (by kernel_rfl) (fun _ _ _ h => h) (Or.inl ⟨by rfl, ?_⟩) (by assumption) ?_
              rotate_left
              · (intro w hSw; (try dsimp only at hSw); (try dsimp only [vko0]); go_simp; try (with_reducible rfl))
              (try simp only [Act.put, List.setIfInBounds_toArray, List.set_cons_zero, List.set_cons_succ])
              refine wpAnyH_take (i := 1) (oi := vko1) (v := ?_) rfl (by kernel_rfl) (by kernel_rfl) (by kernel_rfl) (fun _ _ _ h => h) (Or.inl ⟨by rfl, ?_⟩) (by assumption) ?_
              rotate_left
              · (intro w hSw; (try dsimp only at hSw); (try dsimp only [vko1]); go_simp; try (with_reducible rfl))
              (try simp only [Act.put, List.setIfInBounds_toArray, List.set_cons_zero, List.set_cons_succ])
              refine wpAnyH_take (i := 2) (oi := vko2) (v := ?_) rfl (by kernel_rfl) (by kernel_rfl) (by kernel_rfl) (fun _ _ _ h => h) (Or.inl ⟨by rfl, ?_⟩) (by assumption) ?_
              rotate_left
              · (intro w hSw; (try dsimp only at hSw); (try dsimp only [vko2]); go_simp; try (with_reducible rfl))
              (try simp only [Act.put, List.setIfInBounds_toArray, List.set_cons_zero, List.set_cons_succ])
              refine wpAnyH_take (i := 3) (oi := vko3) (v := ?_) rfl (by kernel_rfl) (by kernel_rfl) (by kernel_rfl) (fun _ _ _ h => h) (Or.inl ⟨by rfl, ?_⟩) (by assumption) ?_
              rotate_left
              · (intro w hSw; (try dsimp only at hSw); (try dsimp only [vko3]); go_simp; try (with_reducible rfl))
              (try simp only [Act.put, List.setIfInBounds_toArray, List.set_cons_zero, List.set_cons_succ])
              refine wpAnyH_take (i := 5) (oi := vko5) (v := ?_) rfl (by kernel_rfl) (by kernel_rfl) (by kernel_rfl) (fun _ _ _ h => h) (Or.inl ⟨by rfl, ?_⟩) (by assumption) ?_
              rotate_left
              · (intro w hSw; (try dsimp only at hSw); (try dsimp only [vko5]); go_simp; try (with_reducible rfl))
              (try simp only [Act.put, List.setIfInBounds_toArray, List.set_cons_zero, List.set_cons_succ])
              refine wpAnyH_take (i := 6) (oi := vko6) (v := ?_) rfl (by kernel_rfl) (by kernel_rfl) (by kernel_rfl) (fun _ _ _ h => h) (Or.inl ⟨by rfl, ?_⟩) (by assumption) ?_
              rotate_left
              · (intro w hSw; (try dsimp only at hSw); (try dsimp only [vko6]); go_simp; try (with_reducible rfl))
              (try simp only [Act.put, List.setIfInBounds_toArray, List.set_cons_zero, List.set_cons_succ])
              refine wpAnyH_ready (rs := [4, 7]) (by kernel_rfl) (by simp) ?_
              refine (AllReadyH.cons (o := vko4) rfl (fun K hK => ?_) (AllReadyH.cons (o := vko7) rfl (fun K hK => ?_) AllReadyH.nil))
              · rw [if_pos (by rfl)]
                refine wp_load_is _ _ rfl ⟨gm, 1, none⟩ rfl (.slice ua un uc) (by first | exact LDD.out | exact LD8.out) ?_
                refine hK.out _ _ ?_ (fun hHeld => ?_)
                · exact (by first | exact HSD.out | exact HS8.out)
                clear hK K
                (try simp only [Act.put, List.setIfInBounds_toArray, List.set_cons_zero, List.set_cons_succ])
                refine wpAnyH_ready (rs := [7]) (by kernel_rfl) (by simp) ?_
                refine AllReadyH.cons (o := vko7) rfl (fun K hK => ?_) AllReadyH.nil
                rw [if_pos (by rfl)]
                refine wp_build_is _ _ _ rfl #[(0, .string (bs t))] (by simp [Act.eval]) (.slice (some ⟨Wd.heap.size, 0, none⟩) 1 1) (Wd.alloc (.cells #[.string (bs t)] 9)) (by go_simp; try rfl) ?_
                refine hK.out _ _ ?_ (fun hHeld => ?_)
                · exact HS8.out
                clear hK K
                (try simp only [Act.put, List.setIfInBounds_toArray, List.set_cons_zero, List.set_cons_succ])
                refine wpAnyH_ready (rs := [8]) (by kernel_rfl) (by simp) ?_
                refine AllReadyH.cons (o := vko8) rfl (fun K hK => ?_) AllReadyH.nil
                refine wp_append_own _ _ _ 34 rfl w.heap.size 9 j0 (.string ⟨#[]⟩) 1 16 Tryd.underlying34 hj0 hy0 hy1 hy2 rfl (by decide) _ _ _ rfl M8.out.own ⟨Wd.heap.size, 0, none⟩ 1 1 [.string (bs t)] rfl rfl (World.news_of_block (cs := #[.string (bs t)]) (heap_alloc_new Wd _)) (by intro z hz; simp at hz; subst hz; rfl) (by have := AL6.out; simp only [maxLen]; omega) (by have := AL6.out; omega) M8.out.bel.size ?_
                intro v9 W9 hown9 hgr9 _
                obtain ⟨g9, cap9, rfl, _, _⟩ := hown9.form (Nat.succ_pos _)
                have M9 := Lib.hid (M8.out.grown hown9 hgr9)
                clear hown9 hgr9
                refine hK.out _ _ ?_ (fun hHeld => ?_)
                · exact (M9.out.act.cell 1)
                clear hK K
                (try simp only [Act.put, List.setIfInBounds_toArray, List.set_cons_zero, List.set_cons_succ])
                refine wpAnyH_take (i := 9) (oi := vko9) (v := ?_) rfl (by kernel_rfl) (by kernel_rfl) (by kernel_rfl) (fun _ _ _ h => h) (Or.inl ⟨by rfl, ?_⟩) (by assumption) ?_
                rotate_left
                · (intro w hSw; (try dsimp only at hSw); (try dsimp only [vko9]); go_simp; try (with_reducible rfl))
                (try simp only [Act.put, List.setIfInBounds_toArray, List.set_cons_zero, List.set_cons_succ])
                refine wpAnyH_take (i := 10) (oi := vko10) (v := ?_) rfl (by kernel_rfl) (by kernel_rfl) (by kernel_rfl) (fun _ _ _ h => h) (Or.inl ⟨by rfl, ?_⟩) (by assumption) ?_
                rotate_left
                · (intro w hSw; (try dsimp only at hSw); (try dsimp only [vko10]); go_simp; try (with_reducible rfl))
                (try simp only [Act.put, List.setIfInBounds_toArray, List.set_cons_zero, List.set_cons_succ])
                refine wpAnyH_ready (rs := [11]) (by kernel_rfl) (by simp) ?_
                refine AllReadyH.cons (o := vko11) rfl (fun K hK => ?_) AllReadyH.nil
                rw [if_pos (by rfl)]
                have ST9 := Lib.hid (store_all (M9.out.row.cellAt 1 HL3.out) (M9.out.row.frozenAt 1) (some ⟨g9, 0, none⟩) (all.length + 1) cap9)
                refine wp_store_is _ _ _ rfl ⟨gm, 1, none⟩ rfl _ rfl _ ST9.out ?_
                have M10 : Hid (VkMid w p gl M (W9.setCell ⟨gm, 1, none⟩ (.slice (some ⟨g9, 0, none⟩) (all.length + 1) cap9)) E dv' gm L mcap (mayC T0 (.slice (some ⟨g9, 0, none⟩) (all.length + 1) cap9) sure more) (.slice (some ⟨g9, 0, none⟩) (all.length + 1) cap9) (all ++ [t]) w3.heap.size [.int .i64 2, .int .i64 (a : Int), .int .i64 4, .int .i64 6, .int .u64 (g : Int), .int .i64 (nx : Int), .bool st] w5.heap.size [.int .i64 2, .int .i64 (a : Int), .int .i64 4, .int .i64 6, .int .u64 (g : Int), .int .i64 (nx' : Int), .bool st] wr.heap.size [.int .u8 (kk : Int), .string (bs t), .int .i64 N, .int .u8 (y : Int), .slice Ka kn kc]) := Lib.hid (M9.out.putRow GML.out 1 _)
                refine hK.out _ _ ?_ (fun hHeld => ?_)
                · exact (M10.out.act.cell 1)
                clear hK K
                (try simp only [Act.put, List.setIfInBounds_toArray, List.set_cons_zero, List.set_cons_succ])
                refine wpAnyH_done (by kernel_rfl) ?_ _
                refine NoPanic.normal ?_
                obtain ⟨W10, hW10⟩ : ∃ W10, W10 = W9.setCell ⟨gm, 1, none⟩ (.slice (some ⟨g9, 0, none⟩) (all.length + 1) cap9) := ⟨_, rfl⟩
                rw [← hW10] at M10 ⊢
                clear hW10 M9 ST9
                have M11 : Hid (VkMid w p gl M (((((((W10.setCell ⟨w3.heap.size, 0, none⟩ (.int .i64 2)).setCell ⟨w3.heap.size, 1, none⟩ (.int .i64 (a : Int))).setCell ⟨w3.heap.size, 2, none⟩ (.int .i64 4)).setCell ⟨w3.heap.size, 3, none⟩ (.int .i64 6)).setCell ⟨w3.heap.size, 4, none⟩ (.int .u64 (g : Int))).setCell ⟨w3.heap.size, 5, none⟩ (.int .i64 (nx' : Int))).setCell ⟨w3.heap.size, 6, none⟩ (.bool st)) E dv' gm L mcap (mayC T0 (.slice (some ⟨g9, 0, none⟩) (all.length + 1) cap9) sure more) (.slice (some ⟨g9, 0, none⟩) (all.length + 1) cap9) (all ++ [t]) w3.heap.size [.int .i64 2, .int .i64 (a : Int), .int .i64 4, .int .i64 6, .int .u64 (g : Int), .int .i64 (nx' : Int), .bool st] w5.heap.size [.int .i64 2, .int .i64 (a : Int), .int .i64 4, .int .i64 6, .int .u64 (g : Int), .int .i64 (nx' : Int), .bool st] wr.heap.size [.int .u8 (kk : Int), .string (bs t), .int .i64 N, .int .u8 (y : Int), .slice Ka kn kc]) := Lib.hid (M10.out.putBox LO.out XNE.out _ _ _ _ _ _ _)
                obtain ⟨a0, a1, a2, a3, a4, a5, a6⟩ := M10.out.xbx.sevenV
                obtain ⟨b0, b1, b2, b3, b4, b5, b6⟩ := M10.out.box.sevenV
                obtain ⟨f0, f1, f2, f3, f4, f5, f6⟩ := M10.out.box.frozen7
                obtain ⟨W11, hW11⟩ : ∃ W11, W11 = (((((((W10.setCell ⟨w3.heap.size, 0, none⟩ (.int .i64 2)).setCell ⟨w3.heap.size, 1, none⟩ (.int .i64 (a : Int))).setCell ⟨w3.heap.size, 2, none⟩ (.int .i64 4)).setCell ⟨w3.heap.size, 3, none⟩ (.int .i64 6)).setCell ⟨w3.heap.size, 4, none⟩ (.int .u64 (g : Int))).setCell ⟨w3.heap.size, 5, none⟩ (.int .i64 (nx' : Int))).setCell ⟨w3.heap.size, 6, none⟩ (.bool st)) := ⟨_, rfl⟩
                rw [← hW11] at M11
                go_upto_region 21 with fail
                rw [← hW11]
                clear hW11 a0 a1 a2 a3 a4 a5 a6 b0 b1 b2 b3 b4 b5 b6 f0 f1 f2 f3 f4 f5 f6
                by_cases hc0 : c = 0
                · have ec : ((c : Int) == 0) = true := by rw [beq_iff_eq]; omega
                  have HQ : Hid (VI E a g st T0 (all ++ [t]) (all.length + 1) more i) := Lib.hid (HCS.out.resolve_left (fun q => q.1 hc0)).2
                  obtain ⟨h1, h2, h3, h4⟩ := M11.out.cells HL0.out
                  have M12 : Hid (VkMid w p gl M (W11.setCell ⟨gm, 2, none⟩ (.int .i64 (all.length + 1 : Int))) E dv' gm L mcap (mayC T0 (.slice (some ⟨g9, 0, none⟩) (all.length + 1) cap9) (all.length + 1) more) (.slice (some ⟨g9, 0, none⟩) (all.length + 1) cap9) (all ++ [t]) w3.heap.size [.int .i64 2, .int .i64 (a : Int), .int .i64 4, .int .i64 6, .int .u64 (g : Int), .int .i64 (nx' : Int), .bool st] w5.heap.size [.int .i64 2, .int .i64 (a : Int), .int .i64 4, .int .i64 6, .int .u64 (g : Int), .int .i64 (nx' : Int), .bool st] wr.heap.size [.int .u8 (kk : Int), .string (bs t), .int .i64 N, .int .u8 (y : Int), .slice Ka kn kc]) := Lib.hid (M11.out.putRow GML.out 2 _)
                  clear hc0
                  go_wp2_with fail
                  have ST13 : Hid (VkSt w p gl M w3.heap.size (i + 1) (W11.setCell ⟨gm, 2, none⟩ (.int .i64 (all.length + 1 : Int))) (.slice (some ⟨gm, 0, none⟩) L mcap) E dv' a g st T0 (all ++ [t]) (all.length + 1) more (.slice (some ⟨g9, 0, none⟩) (all.length + 1) cap9)) := Lib.hid
                    { inv := HQ.out.mono (Nat.le_succ i), sm := SM5.out, ml := Nat.le_trans ML.out (Nat.le_succ i)
                      box := by have hb := M12.out.box; rw [HNP.out] at hb; rw [List.length_append]; exact hb
                      dsk := M12.out.dsk
                      row := by have hr := M12.out.row; rw [HLE.out] at hr ⊢; exact hr
                      own := M12.out.own, bel := M12.out.bel, low := LO.out }
                  exact ⟨⟨i + 1, _, E, dv', a, g, st, T0, all ++ [t], all.length + 1, more, _, rfl, by go_num, by have := HLT.out; omega, ST13⟩, by have := HLT.out; simp [intOf]; omega⟩
                · have ec : ((c : Int) == 0) = false := by rw [beq_eq_false_iff_ne]; omega
                  have HQ : Hid (VI E a g st T0 (all ++ [t]) sure more i) := Lib.hid (HCS.out.resolve_right (fun q => hc0 q.1)).2
                  clear hc0
                  go_wp2_with fail
                  have ST13 : Hid (VkSt w p gl M w3.heap.size (i + 1) W11 (.slice (some ⟨gm, 0, none⟩) L mcap) E dv' a g st T0 (all ++ [t]) sure more (.slice (some ⟨g9, 0, none⟩) (all.length + 1) cap9)) := Lib.hid
                    { inv := HQ.out.mono (Nat.le_succ i), sm := SM5.out, ml := Nat.le_trans ML.out (Nat.le_succ i)
                      box := by have hb := M11.out.box; rw [HNP.out] at hb; rw [List.length_append]; exact hb
                      dsk := M11.out.dsk
                      row := by have hr := M11.out.row; rw [HLE.out] at hr ⊢; exact hr
                      own := M11.out.own, bel := M11.out.bel, low := LO.out }
                  exact ⟨⟨i + 1, _, E, dv', a, g, st, T0, all ++ [t], sure, more, _, rfl, by go_num, by have := HLT.out; omega, ST13⟩, by have := HLT.out; simp [intOf]; omega⟩
              · rw [if_pos (by rfl)]
                refine wp_build_is _ _ _ rfl #[(0, .string (bs t))] (by simp [Act.eval]) (.slice (some ⟨Wd.heap.size, 0, none⟩) 1 1) (Wd.alloc (.cells #[.string (bs t)] 9)) (by go_simp; try rfl) ?_
                refine hK.out _ _ ?_ (fun hHeld => ?_)
                · exact HS8.out
                clear hK K
                (try simp only [Act.put, List.setIfInBounds_toArray, List.set_cons_zero, List.set_cons_succ])
                refine wpAnyH_ready (rs := [4]) (by kernel_rfl) (by simp) ?_
                refine AllReadyH.cons (o := vko4) rfl (fun K hK => ?_) AllReadyH.nil
                rw [if_pos (by rfl)]
                refine wp_load_is _ _ rfl ⟨gm, 1, none⟩ rfl (.slice ua un uc) (by first | exact LDD.out | exact LD8.out) ?_
                refine hK.out _ _ ?_ (fun hHeld => ?_)
                · exact (by first | exact HSD.out | exact HS8.out)
                clear hK K
                (try simp only [Act.put, List.setIfInBounds_toArray, List.set_cons_zero, List.set_cons_succ])
                refine wpAnyH_ready (rs := [8]) (by kernel_rfl) (by simp) ?_
                refine AllReadyH.cons (o := vko8) rfl (fun K hK => ?_) AllReadyH.nil
                refine wp_append_own _ _ _ 34 rfl w.heap.size 9 j0 (.string ⟨#[]⟩) 1 16 Tryd.underlying34 hj0 hy0 hy1 hy2 rfl (by decide) _ _ _ rfl M8.out.own ⟨Wd.heap.size, 0, none⟩ 1 1 [.string (bs t)] rfl rfl (World.news_of_block (cs := #[.string (bs t)]) (heap_alloc_new Wd _)) (by intro z hz; simp at hz; subst hz; rfl) (by have := AL6.out; simp only [maxLen]; omega) (by have := AL6.out; omega) M8.out.bel.size ?_
                intro v9 W9 hown9 hgr9 _
                obtain ⟨g9, cap9, rfl, _, _⟩ := hown9.form (Nat.succ_pos _)
                have M9 := Lib.hid (M8.out.grown hown9 hgr9)
                clear hown9 hgr9
                refine hK.out _ _ ?_ (fun hHeld => ?_)
                · exact (M9.out.act.cell 1)
                clear hK K
                (try simp only [Act.put, List.setIfInBounds_toArray, List.set_cons_zero, List.set_cons_succ])
                refine wpAnyH_take (i := 9) (oi := vko9) (v := ?_) rfl (by kernel_rfl) (by kernel_rfl) (by kernel_rfl) (fun _ _ _ h => h) (Or.inl ⟨by rfl, ?_⟩) (by assumption) ?_
                rotate_left
                · (intro w hSw; (try dsimp only at hSw); (try dsimp only [vko9]); go_simp; try (with_reducible rfl))
                (try simp only [Act.put, List.setIfInBounds_toArray, List.set_cons_zero, List.set_cons_succ])
                refine wpAnyH_take (i := 10) (oi := vko10) (v := ?_) rfl (by kernel_rfl) (by kernel_rfl) (by kernel_rfl) (fun _ _ _ h => h) (Or.inl ⟨by rfl, ?_⟩) (by assumption) ?_
                rotate_left
                · (intro w hSw; (try dsimp only at hSw); (try dsimp only [vko10]); go_simp; try (with_reducible rfl))
                (try simp only [Act.put, List.setIfInBounds_toArray, List.set_cons_zero, List.set_cons_succ])
                refine wpAnyH_ready (rs := [11]) (by kernel_rfl) (by simp) ?_
                refine AllReadyH.cons (o := vko11) rfl (fun K hK => ?_) AllReadyH.nil
                rw [if_pos (by rfl)]
                have ST9 := Lib.hid (store_all (M9.out.row.cellAt 1 HL3.out) (M9.out.row.frozenAt 1) (some ⟨g9, 0, none⟩) (all.length + 1) cap9)
                refine wp_store_is _ _ _ rfl ⟨gm, 1, none⟩ rfl _ rfl _ ST9.out ?_
                have M10 : Hid (VkMid w p gl M (W9.setCell ⟨gm, 1, none⟩ (.slice (some ⟨g9, 0, none⟩) (all.length + 1) cap9)) E dv' gm L mcap (mayC T0 (.slice (some ⟨g9, 0, none⟩) (all.length + 1) cap9) sure more) (.slice (some ⟨g9, 0, none⟩) (all.length + 1) cap9) (all ++ [t]) w3.heap.size [.int .i64 2, .int .i64 (a : Int), .int .i64 4, .int .i64 6, .int .u64 (g : Int), .int .i64 (nx : Int), .bool st] w5.heap.size [.int .i64 2, .int .i64 (a : Int), .int .i64 4, .int .i64 6, .int .u64 (g : Int), .int .i64 (nx' : Int), .bool st] wr.heap.size [.int .u8 (kk : Int), .string (bs t), .int .i64 N, .int .u8 (y : Int), .slice Ka kn kc]) := Lib.hid (M9.out.putRow GML.out 1 _)
                refine hK.out _ _ ?_ (fun hHeld => ?_)
                · exact (M10.out.act.cell 1)
                clear hK K
                (try simp only [Act.put, List.setIfInBounds_toArray, List.set_cons_zero, List.set_cons_succ])
                refine wpAnyH_done (by kernel_rfl) ?_ _
                refine NoPanic.normal ?_
                obtain ⟨W10, hW10⟩ : ∃ W10, W10 = W9.setCell ⟨gm, 1, none⟩ (.slice (some ⟨g9, 0, none⟩) (all.length + 1) cap9) := ⟨_, rfl⟩
                rw [← hW10] at M10 ⊢
                clear hW10 M9 ST9
                have M11 : Hid (VkMid w p gl M (((((((W10.setCell ⟨w3.heap.size, 0, none⟩ (.int .i64 2)).setCell ⟨w3.heap.size, 1, none⟩ (.int .i64 (a : Int))).setCell ⟨w3.heap.size, 2, none⟩ (.int .i64 4)).setCell ⟨w3.heap.size, 3, none⟩ (.int .i64 6)).setCell ⟨w3.heap.size, 4, none⟩ (.int .u64 (g : Int))).setCell ⟨w3.heap.size, 5, none⟩ (.int .i64 (nx' : Int))).setCell ⟨w3.heap.size, 6, none⟩ (.bool st)) E dv' gm L mcap (mayC T0 (.slice (some ⟨g9, 0, none⟩) (all.length + 1) cap9) sure more) (.slice (some ⟨g9, 0, none⟩) (all.length + 1) cap9) (all ++ [t]) w3.heap.size [.int .i64 2, .int .i64 (a : Int), .int .i64 4, .int .i64 6, .int .u64 (g : Int), .int .i64 (nx' : Int), .bool st] w5.heap.size [.int .i64 2, .int .i64 (a : Int), .int .i64 4, .int .i64 6, .int .u64 (g : Int), .int .i64 (nx' : Int), .bool st] wr.heap.size [.int .u8 (kk : Int), .string (bs t), .int .i64 N, .int .u8 (y : Int), .slice Ka kn kc]) := Lib.hid (M10.out.putBox LO.out XNE.out _ _ _ _ _ _ _)
                obtain ⟨a0, a1, a2, a3, a4, a5, a6⟩ := M10.out.xbx.sevenV
                obtain ⟨b0, b1, b2, b3, b4, b5, b6⟩ := M10.out.box.sevenV
                obtain ⟨f0, f1, f2, f3, f4, f5, f6⟩ := M10.out.box.frozen7
                obtain ⟨W11, hW11⟩ : ∃ W11, W11 = (((((((W10.setCell ⟨w3.heap.size, 0, none⟩ (.int .i64 2)).setCell ⟨w3.heap.size, 1, none⟩ (.int .i64 (a : Int))).setCell ⟨w3.heap.size, 2, none⟩ (.int .i64 4)).setCell ⟨w3.heap.size, 3, none⟩ (.int .i64 6)).setCell ⟨w3.heap.size, 4, none⟩ (.int .u64 (g : Int))).setCell ⟨w3.heap.size, 5, none⟩ (.int .i64 (nx' : Int))).setCell ⟨w3.heap.size, 6, none⟩ (.bool st)) := ⟨_, rfl⟩
                rw [← hW11] at M11
                go_upto_region 21 with fail
                rw [← hW11]
                clear hW11 a0 a1 a2 a3 a4 a5 a6 b0 b1 b2 b3 b4 b5 b6 f0 f1 f2 f3 f4 f5 f6
                by_cases hc0 : c = 0
                · have ec : ((c : Int) == 0) = true := by rw [beq_iff_eq]; omega
                  have HQ : Hid (VI E a g st T0 (all ++ [t]) (all.length + 1) more i) := Lib.hid (HCS.out.resolve_left (fun q => q.1 hc0)).2
                  obtain ⟨h1, h2, h3, h4⟩ := M11.out.cells HL0.out
                  have M12 : Hid (VkMid w p gl M (W11.setCell ⟨gm, 2, none⟩ (.int .i64 (all.length + 1 : Int))) E dv' gm L mcap (mayC T0 (.slice (some ⟨g9, 0, none⟩) (all.length + 1) cap9) (all.length + 1) more) (.slice (some ⟨g9, 0, none⟩) (all.length + 1) cap9) (all ++ [t]) w3.heap.size [.int .i64 2, .int .i64 (a : Int), .int .i64 4, .int .i64 6, .int .u64 (g : Int), .int .i64 (nx' : Int), .bool st] w5.heap.size [.int .i64 2, .int .i64 (a : Int), .int .i64 4, .int .i64 6, .int .u64 (g : Int), .int .i64 (nx' : Int), .bool st] wr.heap.size [.int .u8 (kk : Int), .string (bs t), .int .i64 N, .int .u8 (y : Int), .slice Ka kn kc]) := Lib.hid (M11.out.putRow GML.out 2 _)
                  clear hc0
                  go_wp2_with fail
                  have ST13 : Hid (VkSt w p gl M w3.heap.size (i + 1) (W11.setCell ⟨gm, 2, none⟩ (.int .i64 (all.length + 1 : Int))) (.slice (some ⟨gm, 0, none⟩) L mcap) E dv' a g st T0 (all ++ [t]) (all.length + 1) more (.slice (some ⟨g9, 0, none⟩) (all.length + 1) cap9)) := Lib.hid
                    { inv := HQ.out.mono (Nat.le_succ i), sm := SM5.out, ml := Nat.le_trans ML.out (Nat.le_succ i)
                      box := by have hb := M12.out.box; rw [HNP.out] at hb; rw [List.length_append]; exact hb
                      dsk := M12.out.dsk
                      row := by have hr := M12.out.row; rw [HLE.out] at hr ⊢; exact hr
                      own := M12.out.own, bel := M12.out.bel, low := LO.out }
                  exact ⟨⟨i + 1, _, E, dv', a, g, st, T0, all ++ [t], all.length + 1, more, _, rfl, by go_num, by have := HLT.out; omega, ST13⟩, by have := HLT.out; simp [intOf]; omega⟩
                · have ec : ((c : Int) == 0) = false := by rw [beq_eq_false_iff_ne]; omega
                  have HQ : Hid (VI E a g st T0 (all ++ [t]) sure more i) := Lib.hid (HCS.out.resolve_right (fun q => hc0 q.1)).2
                  clear hc0
                  go_wp2_with fail
                  have ST13 : Hid (VkSt w p gl M w3.heap.size (i + 1) W11 (.slice (some ⟨gm, 0, none⟩) L mcap) E dv' a g st T0 (all ++ [t]) sure more (.slice (some ⟨g9, 0, none⟩) (all.length + 1) cap9)) := Lib.hid
                    { inv := HQ.out.mono (Nat.le_succ i), sm := SM5.out, ml := Nat.le_trans ML.out (Nat.le_succ i)
                      box := by have hb := M11.out.box; rw [HNP.out] at hb; rw [List.length_append]; exact hb
                      dsk := M11.out.dsk
                      row := by have hr := M11.out.row; rw [HLE.out] at hr ⊢; exact hr
                      own := M11.out.own, bel := M11.out.bel, low := LO.out }
                  exact ⟨⟨i + 1, _, E, dv', a, g, st, T0, all ++ [t], sure, more, _, rfl, by go_num, by have := HLT.out; omega, ST13⟩, by have := HLT.out; simp [intOf]; omega⟩
            -- K0 end
          · have e0 : ((kk : Int) == 0) = false := by rw [beq_eq_false_iff_ne]; omega
            by_cases k1 : kk = 1
            · have e1 : ((kk : Int) == 1) = true := by rw [beq_iff_eq]; omega
              obtain ⟨nx, hnx⟩ : ∃ nx, nx = all.length := ⟨_, rfl⟩
              have HSE : Hid (Calls Tryd.prog 10 #[.agg #[.int .i64 2, .int .i64 (a : Int), .int .i64 4, .int .i64 6, .int .u64 (g : Int), .int .i64 (nx : Int), .bool st], .pointer (some ⟨p, 0, none⟩), .string (bs t)] W4 fun e w' => ∃ (D' : DSt) (dv' : Value) (c a' g' nx' : Nat) (st' : Bool), e = .returned (.tuple #[.agg #[.int .i64 2, .int .i64 (a' : Int), .int .i64 4, .int .i64 6, .int .u64 (g' : Int), .int .i64 (nx' : Int), .bool st'], .int .i64 (c : Int)]) ∧ IsDisk w.heap.size w' p gl M dv' D' ∧ Below w.heap.size W4 w' ∧ Keeps W4 w' ∧ SmallN (400000 - 6000 * (i + 1)) D' ∧
                  ((c = 0 ∧ nx' = 0 ∧ VI D' a' g' st' t [] 0 [] (i + 1)) ∨ (c ≠ 0 ∧ nx' = nx ∧ VI D' a' g' st' T0 all sure (more ++ [t]) (i + 1)))) := Lib.hid (by
                have hv := ST4.out.inv
                have hi30 : i ≤ 30 := by have := HLT.out; have := HLN.out; omega
                have hgen := hv.gen
                have h := vault_Settle _ W4 p gl M dv D 2 a g 4 6 (nx : Int) st t ST4.out.dsk (ST4.out.sm.mono (by omega)) ST4.out.bel.size (by decide) (by decide) hv.ha (by have := hv.hgi; omega) (by have := HT.out.1; omega) (by have := HT.out.1; omega) (by rw [genN_two hv.len hv.ha]; omega)
                refine h.mono ?_
                rintro e w' ⟨D', c, st', rfl, hr, ⟨dv', hd⟩, hb, hk⟩
                have hs := SmallN.settle (n := 400000 - 6000 * (i + 1)) (ST4.out.sm.mono (by omega)) (by have := HT.out.1; omega) hr
                rcases hv.settle (by omega) (by have := HT.out.1; omega) hr with ⟨q1, q2⟩ | ⟨q1, q2⟩
                · exact ⟨D', dv', c, 1 - a, genN D 2 a + 1, 0, false, by unfold settleV; rw [if_pos q1]; rfl, hd, hb, hk, hs, .inl ⟨q1, rfl, q2⟩⟩
                · exact ⟨D', dv', c, a, g, nx, st', by unfold settleV; rw [if_neg q1]; rfl, hd, hb, hk, hs, .inr ⟨q1, rfl, q2⟩⟩)
              obtain ⟨a0, a1, a2, a3, a4, a5, a6⟩ := ST4.out.box.sevenV
              rw [← hnx] at a5
              have HNX := Lib.hid hnx
              clear hnx k0 k1
              go_wp2_with fail
              clear a0 a1 a2 a3 a4 a5 a6
              refine HSE.out.mono ?_
              rintro e w5 ⟨D', dv', c, a', g', nx', st', rfl, h5, b5, k5, sm5, hcs⟩
              have V5 := Lib.hid (k5 _ _ _ (by decide) (by decide) (by decide) ST4.out.box)
              have A5 := Lib.hid (k5 _ _ _ (by decide) (by decide) (by decide) AA.out)
              have D5 := Lib.hid h5
              have B5 := Lib.hid (ST4.out.bel.trans b5)
              have R5 := Lib.hid (own_keepsT ST4.out.row k5 (by decide) (by decide) (by decide))
              have O5 := Lib.hid (own_keepsT ST4.out.own k5 (by decide) (by decide) (by decide))
              have LO := Lib.hid ST4.out.low
              have ML := Lib.hid ST4.out.ml
              have SM5 := Lib.hid sm5
              have HCS := Lib.hid hcs
              clear h5 b5 k5 sm5 hcs HSE ST4 AA x0 x1 x2 x3 x4
              obtain ⟨W6, hW6⟩ : ∃ W6, W6 = w5.alloc (.cells #[.int .i64 2, .int .i64 (a' : Int), .int .i64 4, .int .i64 6, .int .u64 (g' : Int), .int .i64 (nx' : Int), .bool st'] 33) := ⟨_, rfl⟩
              have bel6 : Below w5.heap.size w5 W6 := by rw [hW6]; exact (Below.refl _ _).alloc (Nat.le_refl _) _
              have V6 := Lib.hid (V5.out.keep bel6)
              have A6 := Lib.hid (A5.out.keep bel6)
              have D6 := Lib.hid (D5.out.keep bel6)
              have B6 := Lib.hid (B5.out.trans (bel6.mono B5.out.size))
              have R6 := Lib.hid (ownW_keep R5.out bel6)
              have O6 := Lib.hid (ownW_keep O5.out bel6)
              have X6 : Hid (Blk W6 w5.heap.size 33 [.int .i64 2, .int .i64 (a' : Int), .int .i64 4, .int .i64 6, .int .u64 (g' : Int), .int .i64 (nx' : Int), .bool st']) := Lib.hid (by rw [hW6]; exact Blk.box7 _ _ _ _ _ _ _ _ _)
              clear bel6 V5 A5 D5 B5 R5 O5
              go_upto_region 25 with fail
              rw [← hW6]
              clear hW6
              obtain ⟨a0, a1, a2, a3, a4, a5, a6⟩ := X6.out.sevenV
              obtain ⟨b0, b1, b2, b3, b4, b5, b6⟩ := V6.out.sevenV
              obtain ⟨f0, f1, f2, f3, f4, f5, f6⟩ := V6.out.frozen7
              obtain ⟨W7, hW7⟩ : ∃ W7, W7 = (((((((W6.setCell ⟨w3.heap.size, 0, none⟩ (.int .i64 2)).setCell ⟨w3.heap.size, 1, none⟩ (.int .i64 (a' : Int))).setCell ⟨w3.heap.size, 2, none⟩ (.int .i64 4)).setCell ⟨w3.heap.size, 3, none⟩ (.int .i64 6)).setCell ⟨w3.heap.size, 4, none⟩ (.int .u64 (g' : Int))).setCell ⟨w3.heap.size, 5, none⟩ (.int .i64 (nx' : Int))).setCell ⟨w3.heap.size, 6, none⟩ (.bool st')) := ⟨_, rfl⟩
              have he7 : ∀ k, k ≠ w3.heap.size → W7.heap[k]? = W6.heap[k]? := fun k hk => by rw [hW7]; exact heap_put7 _ _ _ _ _ _ _ _ _ k hk
              have V7 : Hid (Blk W7 w3.heap.size 33 [.int .i64 2, .int .i64 (a' : Int), .int .i64 4, .int .i64 6, .int .u64 (g' : Int), .int .i64 (nx' : Int), .bool st']) := Lib.hid (by rw [hW7]; exact V6.out.put7 _ _ _ _ _ _ _)
              have A7 : Hid (Blk W7 wr.heap.size 42 [.int .u8 (kk : Int), .string (bs t), .int .i64 N, .int .u8 (y : Int), .slice Ka kn kc]) := Lib.hid ((he7 _ (A6.out.ne_ V6.out (by decide))).trans A6.out)
              have D7 : Hid (IsDisk w.heap.size W7 p gl M dv' D') := Lib.hid (by rw [hW7]; exact D6.out.put7 V6.out (by decide) (by decide) (by decide) _ _ _ _ _ _ _)
              have B7 : Hid (Below w.heap.size w W7) := Lib.hid (by rw [hW7]; exact below_put7 B6.out LO.out _ _ _ _ _ _ _)
              have R7 := Lib.hid (own_asideT R6.out V6.out (by decide) he7)
              have O7 := Lib.hid (own_asideT O6.out V6.out (by decide) he7)
              go_upto_region 26 with fail
              rw [← hW7]
              clear hW7 he7 X6 V6 A6 D6 B6 R6 O6 a0 a1 a2 a3 a4 a5 a6 b0 b1 b2 b3 b4 b5 b6 f0 f1 f2 f3 f4 f5 f6
              obtain ⟨x0, x1, x2, x3, x4⟩ := A7.out.five
              rcases HCS.out with ⟨q1, q2, q3⟩ | ⟨q1, q2, q3⟩
              · have ec : ((c : Int) == 0) = true := by rw [beq_iff_eq]; omega
                have ST8 : Hid (VkSt w p gl M w3.heap.size (i + 1) (W7.alloc (.cells #[.string (bs t), .slice none 0 0, .int .i64 0] 38)) (.slice (some ⟨W7.heap.size, 0, none⟩) 1 1) D' dv' a' g' st' t [] 0 [] (.slice none 0 0)) := Lib.hid
                  { inv := q3
                    sm := SM5.out
                    ml := Nat.zero_le _
                    box := by
                      have hv := V7.out.alloc (.cells #[.string (bs t), .slice none 0 0, .int .i64 0] 38)
                      rw [q2] at hv
                      exact hv
                    dsk := D7.out.keep ((Below.refl _ _).alloc (Nat.le_refl _) _)
                    row := World.ownsRow_lit (base := w.heap.size) (e := 38) (size := 3) W7 #[.string (bs t), .slice none 0 0, .int .i64 0] 1 B7.out.size (by decide) rfl
                    own := World.ownsRow_nil _ _ _ _
                    bel := B7.out.alloc B7.out.size _
                    low := LO.out }
                clear q1 q2 q3 HCS
                go_wp2_with (first | (refine wpList_build_is rfl 38 _ rfl [(0, .string (bs t))] (by simp [Act.eval]) _ (builtLast1 (bs t)) ?_))
                exact ⟨⟨i + 1, _, D', dv', a', g', st', t, [], 0, [], .slice none 0 0, rfl, by go_num, by have := HLT.out; omega, ST8⟩, by have := HLT.out; simp [intOf]; omega⟩
              · have ec : ((c : Int) == 0) = false := by rw [beq_eq_false_iff_ne]; omega
                have HQ3 := Lib.hid q3
                have HQ2 : Hid (nx' = all.length) := Lib.hid (q2.trans HNX.out)
                have B8 := Lib.hid (B7.out.alloc B7.out.size (.cells #[.string (bs t), .slice none 0 0, .int .i64 0] 38))
                have HNEWS : Hid (∀ j x, [Value.string (bs t), .slice none 0 0, .int .i64 0][j]? = some x → (W7.alloc (.cells #[.string (bs t), .slice none 0 0, .int .i64 0] 38)).cell? ((⟨W7.heap.size, 0, none⟩ : Addr).add j) = some x) := Lib.hid (World.news_of_block (cs := #[.string (bs t), .slice none 0 0, .int .i64 0]) (heap_alloc_new W7 _))
                have R8 := Lib.hid (World.ownsRow.alloc R7.out (.cells #[.string (bs t), .slice none 0 0, .int .i64 0] 38))
                have GROW : Hid (∀ v9 w9, w9.ownsRow w.heap.size 38 3 v9 (1 + more.length + 1) (mayC T0 u sure more ++ [.string (bs t), .slice none 0 0, .int .i64 0]) → (W7.alloc (.cells #[.string (bs t), .slice none 0 0, .int .i64 0] 38)).grownBy w9 mv.ownBlock → VkSt w p gl M w3.heap.size (i + 1) w9 v9 D' dv' a' g' st' T0 all sure (more ++ [t]) u) := Lib.hid (fun v9 w9 ho hg => by
                  have hrow : ∀ g, mv.ownBlock = some g → ∃ T cs, Blk (W7.alloc (.cells #[.string (bs t), .slice none 0 0, .int .i64 0] 38)) g T cs ∧ T ≠ 58 ∧ T ≠ 80 ∧ T ≠ 82 := fun g e => by
                    rcases R8.out.2 with ⟨e1, _⟩ | ⟨g', c', cur, e1, _, hh, _⟩
                    · rw [e1] at e; cases e
                    · rw [e1] at e
                      injection e with e
                      subst e
                      have hb : Blk (W7.alloc (.cells #[.string (bs t), .slice none 0 0, .int .i64 0] 38)) g' 38 cur.toList := by unfold Blk; rw [Array.toArray_toList]; exact hh
                      exact ⟨_, _, hb, by decide, by decide, by decide⟩
                  exact
                    { inv := HQ3.out
                      sm := SM5.out
                      ml := by rw [List.length_append]; have := ML.out; simp; omega
                      box := by rw [← HQ2.out]; exact (V7.out.alloc _).grown hg (fun e => ownW_ne R8.out (V7.out.alloc _) (by decide) e.symm)
                      dsk := (D7.out.keep ((Below.refl _ _).alloc (Nat.le_refl _) _)).grown hg hrow
                      row := by rw [mayC_snoc, List.length_append, ← Nat.add_assoc]; exact ho
                      own := World.ownsRow.kept (World.ownsRow.alloc O7.out _) hg (own_disj (World.ownsRow.alloc O7.out _) R8.out (by decide))
                      bel := B8.out.grown hg (Nat.le_trans B7.out.size (by simp)) (fun b e => (World.ownsRow.lt R8.out b e).1)
                      low := LO.out })
                clear q1 q2 q3 HCS
                go_wp2_with (first | (refine wpList_build_is rfl 38 _ rfl [(0, .string (bs t))] (by simp [Act.eval]) _ (builtLast1 (bs t)) ?_) | (at_builtin; refine wpList_append_own _ rfl _ _ 39 rfl w.heap.size 38 i0 (.agg #[.string ⟨#[]⟩, .slice none 0 0, .int .i64 0]) 3 48 Tryd.underlying39 hi0 hz0 hz1 hz2 rfl (by decide) _ _ _ rfl R8.out ⟨W7.heap.size, 0, none⟩ 1 1 [.string (bs t), .slice none 0 0, .int .i64 0] rfl rfl HNEWS.out (by intro z hz; simp at hz; rcases hz with rfl | rfl | rfl <;> rfl) (by have := ML.out; have := HLT.out; have := HLN.out; simp only [maxLen]; omega) (by have := ML.out; have := HLT.out; have := HLN.out; omega) B8.out.size ?_; intro v9 w9 hown9 hgr9 hni9; have ST9 := Lib.hid (GROW.out v9 w9 hown9 hgr9); clear hown9 hgr9 hni9))
                exact ⟨⟨i + 1, v9, D', dv', a', g', st', T0, all, sure, more ++ [t], u, rfl, by go_num, by have := HLT.out; omega, ST9⟩, by have := HLT.out; simp [intOf]; omega⟩
            · have e1 : ((kk : Int) == 1) = false := by rw [beq_eq_false_iff_ne]; omega
              by_cases k2 : kk = 2
              · have e2 : ((kk : Int) == 2) = true := by rw [beq_iff_eq]; omega
                obtain ⟨D', hD'⟩ : ∃ D', D' = crashed D ks := ⟨_, rfl⟩
                have HCR : Hid (Calls Tryd.prog 11 #[.pointer (some ⟨p, 0, none⟩), .slice Ka kn kc] W4 fun e w' => e = .returned (.tuple #[]) ∧ ∃ v', IsDisk w.heap.size w' p gl M v' D' ∧ Below w.heap.size W4 w' ∧ Keeps W4 w') := Lib.hid (by
                  rw [hD']
                  exact disk_Crash _ W4 p gl M dv D Ka kn kc ks ST4.out.dsk (fun w' hb _ => HK.out.keepV (ST4.out.bel.trans hb)) (by have := HT.out.2; omega) (by have := ST4.out.sm.2.1; omega) ST4.out.bel.size)
                have HV : Hid (∃ (a' g' : Nat) (T' : List UInt8) (rs : List (List UInt8)), openC D' 2 = 0 ∧ newestF D' 2 = (a', g', T', true) ∧ logL D' 4 g' 6 0 = rs ∧ VI D' a' g' true T' rs rs.length [] i ∧ ((T' = T0 ∧ sure ≤ rs.length ∧ rs.length ≤ all.length ∧ rs = all.take rs.length) ∨ (T' ∈ more ∧ rs.length = 0))) := Lib.hid (by
                  have hv := ST4.out.inv
                  obtain ⟨q1, q2, q3, q4⟩ := hv.crash (by have := hv.hgi; have := HLT.out; have := HLN.out; omega) ks hD'
                  have hl : D'.lasts.length = 10 := by rw [hD']; exact (settleK_len _ _).trans hv.len
                  rcases q4 with ⟨r1, m, r2, r3, r4, r5⟩ | ⟨t', G, r1, r2, r3, r4, r5⟩
                  · have hm : (all.take m).length = m := by rw [List.length_take]; omega
                    refine ⟨a, g, T0, all.take m, openC_ok (n := 2) (by rw [hl]; exact q1) (by rw [hl]; exact q2) (by rw [hl]; exact q3) r1, r1, r4, by rw [hm]; exact r5, .inl ⟨rfl, by omega, by omega, by rw [hm]⟩⟩
                  · exact ⟨1 - a, G, t', [], openC_ok (n := 2) (by rw [hl]; exact q1) (by rw [hl]; exact q2) (by rw [hl]; exact Nat.le_trans q3 (Nat.le_of_lt r2)) r1, r1, r4, r5, .inr ⟨r3, rfl⟩⟩)
                have SM5 : Hid (SmallN (400000 - 6000 * (i + 1)) D') := Lib.hid (by rw [hD']; exact (ST4.out.sm.mono (by omega)).crash ks)
                clear hD' k0 k1 k2
                go_wp2_with fail
                refine HCR.out.mono ?_
                rintro e w5 ⟨rfl, v5, h5, b5, k5⟩
                have V5 := Lib.hid (k5 _ _ _ (by decide) (by decide) (by decide) ST4.out.box)
                have D5 := Lib.hid h5
                have B5 := Lib.hid (ST4.out.bel.trans b5)
                have R5 := Lib.hid (own_keepsT ST4.out.row k5 (by decide) (by decide) (by decide))
                have O5 := Lib.hid (own_keepsT ST4.out.own k5 (by decide) (by decide) (by decide))
                have LO := Lib.hid ST4.out.low
                have ML := Lib.hid ST4.out.ml
                clear h5 b5 k5 HCR ST4 AA x0 x1 x2 x3 x4
                obtain ⟨a', g', T', rs, z1, z2, z3, z4, z5⟩ := HV.out
                have HVI := Lib.hid z4
                have HFT := Lib.hid z5
                obtain ⟨m, hm⟩ : ∃ m, m = rs.length := ⟨_, rfl⟩
                have HM := Lib.hid hm
                have HOP : Hid (Calls Tryd.prog 8 #[.pointer (some ⟨p, 0, none⟩), .int .i64 2] w5 fun e w' => ∃ u', e = .returned (.tuple #[.agg #[.int .i64 2, .int .i64 (a' : Int), .int .i64 4, .int .i64 6, .int .u64 (g' : Int), .int .i64 (m : Int), .bool true], .string (bs T'), u', .int .i64 0]) ∧ w'.ownsRow w5.heap.size 9 1 u' m (strsV rs) ∧ Below w5.heap.size w5 w') := Lib.hid (by
                  have h := vault_Open_yes _ w5 p gl M v5 D' 2 D5.out (by decide) (by rw [HVI.out.len]; decide) z1 (by rw [z2]; have := HVI.out.hgi; have := HLT.out; have := HLN.out; show g' < _; omega)
                  rw [z2, HVI.out.len] at h
                  dsimp only at h
                  rw [show logL D' (2 * 2) g' (10 - 2 * 2) 0 = rs from z3, ← hm] at h
                  exact h)
                clear z1 z2 z3 z4 z5 hm HV
                go_wp2_with fail
                refine HOP.out.mono ?_
                rintro e w6 ⟨u', rfl, o6, b6⟩
                obtain ⟨RA, mc, rfl, sr6⟩ := StrC.of_own o6 HM.out.symm
                have SR6 := Lib.hid sr6
                have OR6 := Lib.hid (own_base o6 B5.out.size)
                have V6 := Lib.hid (V5.out.keep b6)
                have D6 := Lib.hid (D5.out.keep b6)
                have B6 := Lib.hid (B5.out.trans (b6.mono B5.out.size))
                have R6 := Lib.hid (ownW_keep R5.out b6)
                have O6 := Lib.hid (ownW_keep O5.out b6)
                clear o6 b6 sr6 V5 D5 B5 R5 O5 HOP
                obtain ⟨W7, hW7⟩ : ∃ W7, W7 = w6.alloc (.cells #[.int .i64 2, .int .i64 (a' : Int), .int .i64 4, .int .i64 6, .int .u64 (g' : Int), .int .i64 (m : Int), .bool true] 33) := ⟨_, rfl⟩
                have bel7 : Below w6.heap.size w6 W7 := by rw [hW7]; exact (Below.refl _ _).alloc (Nat.le_refl _) _
                have X7 : Hid (Blk W7 w6.heap.size 33 [.int .i64 2, .int .i64 (a' : Int), .int .i64 4, .int .i64 6, .int .u64 (g' : Int), .int .i64 (m : Int), .bool true]) := Lib.hid (by rw [hW7]; exact Blk.box7 _ _ _ _ _ _ _ _ _)
                have SR7 := Lib.hid (SR6.out.keep bel7)
                have OR7 := Lib.hid (ownW_keep OR6.out bel7)
                have V7 := Lib.hid (V6.out.keep bel7)
                have D7 := Lib.hid (D6.out.keep bel7)
                have B7 := Lib.hid (B6.out.trans (bel7.mono B6.out.size))
                have R7 := Lib.hid (ownW_keep R6.out bel7)
                have O7 := Lib.hid (ownW_keep O6.out bel7)
                have HFI : Hid (Calls Tryd.prog 12 #[mv, .string (bs T'), .slice RA m mc] W7 fun e w' => e = .returned (.bool true) ∧ Below W7.heap.size W7 w') := Lib.hid (by
                  obtain ⟨A0, ac, hu, su⟩ := StrC.of_own O7.out rfl
                  have hr := R7.out
                  rw [hu] at hr
                  exact va_fits W7 w.heap.size mv T0 T' A0 ac all sure more RA m mc rs hr su SR7.out (by have := ML.out; have := HLT.out; have := HLN.out; omega) (by rw [HM.out]; exact HFT.out))
                clear bel7 SR6 OR6 V6 D6 B6 R6 O6 R7 O7 HFT SR7
                go_upto_region 32 with fail
                rw [← hW7]
                clear hW7
                go_wp2_with fail
                refine HFI.out.mono ?_
                rintro e w8 ⟨rfl, b8⟩
                have X8 := Lib.hid (X7.out.keep b8)
                have OR8 := Lib.hid (ownW_keep OR7.out b8)
                have V8 := Lib.hid (V7.out.keep b8)
                have D8 := Lib.hid (D7.out.keep b8)
                have B8 := Lib.hid (B7.out.trans (b8.mono B7.out.size))
                clear b8 X7 OR7 V7 D7 B7 HFI
                obtain ⟨a0, a1, a2, a3, a4, a5, a6⟩ := X8.out.sevenV
                obtain ⟨b0, b1, b2, b3, b4, b5, b6⟩ := V8.out.sevenV
                obtain ⟨f0, f1, f2, f3, f4, f5, f6⟩ := V8.out.frozen7
                obtain ⟨W9, hW9⟩ : ∃ W9, W9 = (((((((w8.setCell ⟨w3.heap.size, 0, none⟩ (.int .i64 2)).setCell ⟨w3.heap.size, 1, none⟩ (.int .i64 (a' : Int))).setCell ⟨w3.heap.size, 2, none⟩ (.int .i64 4)).setCell ⟨w3.heap.size, 3, none⟩ (.int .i64 6)).setCell ⟨w3.heap.size, 4, none⟩ (.int .u64 (g' : Int))).setCell ⟨w3.heap.size, 5, none⟩ (.int .i64 (m : Int))).setCell ⟨w3.heap.size, 6, none⟩ (.bool true)) := ⟨_, rfl⟩
                have he9 : ∀ k, k ≠ w3.heap.size → W9.heap[k]? = w8.heap[k]? := fun k hk => by rw [hW9]; exact heap_put7 _ _ _ _ _ _ _ _ _ k hk
                have V9 : Hid (Blk W9 w3.heap.size 33 [.int .i64 2, .int .i64 (a' : Int), .int .i64 4, .int .i64 6, .int .u64 (g' : Int), .int .i64 (m : Int), .bool true]) := Lib.hid (by rw [hW9]; exact V8.out.put7 _ _ _ _ _ _ _)
                have D9 : Hid (IsDisk w.heap.size W9 p gl M v5 D') := Lib.hid (by rw [hW9]; exact D8.out.put7 V8.out (by decide) (by decide) (by decide) _ _ _ _ _ _ _)
                have B9 : Hid (Below w.heap.size w W9) := Lib.hid (by rw [hW9]; exact below_put7 B8.out LO.out _ _ _ _ _ _ _)
                have OR9 := Lib.hid (own_asideT OR8.out V8.out (by decide) he9)
                go_upto_region 35 with fail
                rw [← hW9]
                clear hW9 he9 a0 a1 a2 a3 a4 a5 a6 b0 b1 b2 b3 b4 b5 b6 f0 f1 f2 f3 f4 f5 f6 X8 V8 D8 B8 OR8
                have ST10 : Hid (VkSt w p gl M w3.heap.size (i + 1) (W9.alloc (.cells #[.string (bs T'), .slice RA m mc, .int .i64 (m : Int)] 38)) (.slice (some ⟨W9.heap.size, 0, none⟩) 1 1) D' v5 a' g' true T' rs m [] (.slice RA m mc)) := Lib.hid
                  { inv := by rw [HM.out]; exact HVI.out.mono (Nat.le_succ i)
                    sm := SM5.out
                    ml := Nat.zero_le _
                    box := by rw [← HM.out]; exact V9.out.alloc _
                    dsk := D9.out.keep ((Below.refl _ _).alloc (Nat.le_refl _) _)
                    row := World.ownsRow_lit (base := w.heap.size) (e := 38) (size := 3) W9 #[.string (bs T'), .slice RA m mc, .int .i64 (m : Int)] 1 B9.out.size (by decide) rfl
                    own := by rw [← HM.out]; exact World.ownsRow.alloc OR9.out _
                    bel := B9.out.alloc B9.out.size _
                    low := LO.out }
                go_wp2_with (first | (refine wpList_build_is rfl 38 _ rfl [(0, .string (bs T')), (1, .slice RA m mc), (2, .int .i64 (m : Int))] (by simp [Act.eval]) _ (builtLast3 (bs T') RA m mc (m : Int)) ?_))
                exact ⟨⟨i + 1, _, D', v5, a', g', true, T', rs, m, [], .slice RA m mc, rfl, by go_num, by have := HLT.out; omega, ST10⟩, by have := HLT.out; simp [intOf]; omega⟩
              · have e2 : ((kk : Int) == 2) = false := by rw [beq_eq_false_iff_ne]; omega
                by_cases k3 : kk = 3
                · have e3 : ((kk : Int) == 3) = true := by rw [beq_iff_eq]; omega
                  have HAR := Lib.hid (disk_Arm _ W4 p gl M dv D N ST4.out.dsk)
                  clear k0 k1 k2 k3
                  go_wp2_with fail
                  refine HAR.out.mono ?_
                  rintro e w5 ⟨rfl, h5, b5, k5⟩
                  have ST5 : Hid (VkSt w p gl M w3.heap.size (i + 1) w5 mv { D with armed := N } dv a g st T0 all sure more u) := Lib.hid
                    { inv := (VI.same (D' := { D with armed := N }) ST4.out.inv rfl rfl).mono (by omega)
                      sm := by
                        have hs : SmallN (400000 - 6000 * (i + 1)) D := ST4.out.sm.mono (by omega)
                        exact ⟨HNB.out, hs.2.1, hs.2.2⟩
                      ml := Nat.le_trans ST4.out.ml (by omega)
                      box := k5 _ _ _ (by decide) (by decide) (by decide) ST4.out.box
                      dsk := h5
                      row := own_keepsT ST4.out.row k5 (by decide) (by decide) (by decide)
                      own := own_keepsT ST4.out.own k5 (by decide) (by decide) (by decide)
                      bel := ST4.out.bel.trans b5
                      low := ST4.out.low }
                  clear h5 b5 k5 HAR ST4
                  go_wp2_with fail
                  exact ⟨⟨i + 1, mv, _, dv, a, g, st, T0, all, sure, more, u, rfl, by go_num, by have := HLT.out; omega, ST5⟩, by have := HLT.out; simp [intOf]; omega⟩
                · have e3 : ((kk : Int) == 3) = false := by rw [beq_eq_false_iff_ne]; omega
                  have ST5 := Lib.hid (ST4.out.mono (Nat.le_succ i))
                  clear k0 k1 k2 k3
                  go_wp2_with fail
                  exact ⟨⟨i + 1, mv, D, dv, a, g, st, T0, all, sure, more, u, rfl, by go_num, by have := HLT.out; omega, ST5⟩, by have := HLT.out; simp [intOf]; omega⟩
    · obtain rfl : i = ln := by omega
      have hd : decide ((i : Int) < (i : Int)) = false := decide_eq_false (by omega)
      have hd' : decide (i < i) = false := decide_eq_false (by omega)
      go_wp2_with fail
      refine (HA.out _).mono ?_
      rintro e w5 ⟨rfl, hb5⟩
      go_wp2_with fail
      go_ret
      exact ⟨rfl, H.out.bel.trans (hb5.mono H.out.bel.size)⟩
end Go.Proofs.YtbigpapniloknaaDoor
