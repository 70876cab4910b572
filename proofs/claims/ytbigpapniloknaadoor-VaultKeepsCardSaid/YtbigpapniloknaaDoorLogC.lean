/- The contract of a log's Replay. -/
import Derived.Test.YtbigpapniloknaaDoorLogA
import Derived.Test.YtbigpapniloknaaDoorDiskF
import Derived.Test.YtbigpapniloknaaDoorJDsi
import Derived.Deep.RegionHeld3
import Derived.OwnWalk
import Derived.WalkMore
namespace Go.Proofs.YtbigpapniloknaaDoor
open Go.RowKit Go.Maps
set_option maxRecDepth 100000

/-- The record that stands in a sector. -/
def recAt (D : DSt) (i : Nat) : (Nat × Nat × Nat × List UInt8) × Nat := openT (rdD D (i : Int)).1
/-- The data of a log's records, from a place on. -/
def logL (D : DSt) (fr gen : Nat) : Nat → Nat → List (List UInt8)
  | 0, _ => []
  | f + 1, i => if (recAt D (fr + i)).2 = 0 ∧ (recAt D (fr + i)).1.1 = 1 ∧ (recAt D (fr + i)).1.2.1 = gen ∧ (recAt D (fr + i)).1.2.2.1 = i then (recAt D (fr + i)).1.2.2.2 :: logL D fr gen f (i + 1) else []
theorem logL_len (D : DSt) (fr gen : Nat) : ∀ f i, (logL D fr gen f i).length ≤ f
  | 0, _ => Nat.le_refl _
  | f + 1, i => by
    unfold logL
    split
    · have := logL_len D fr gen f (i + 1); simp; omega
    · simp
theorem rdD_len {base : Nat} {w : World} {p gl M : Nat} {v : Value} {D : DSt} (h : IsDisk base w p gl M v D) (i : Int) : (rdD D i).1.length ≤ 128 := by
  have hok := h.2.2.2.2.1
  unfold rdD
  split
  · cases hx : lastIx D.waits i.toNat with
    | none =>
      simp only
      rw [List.getD_eq_getElem?_getD]
      by_cases hj : i.toNat < D.lasts.length
      · rw [List.getElem?_eq_getElem hj]; exact Nat.le_of_eq (hok.2.2.1 _ (List.getElem_mem hj))
      · rw [List.getElem?_eq_none (by omega)]; exact Nat.zero_le _
    | some j =>
      simp only
      have hj := lastIx_lt hx
      rw [List.getD_eq_getElem?_getD, List.getElem?_eq_getElem hj]
      exact Nat.le_of_eq (hok.2.2.2 _ (List.getElem_mem hj)).2
  · exact Nat.zero_le _

theorem owns_keeps {base n : Nat} {w w' : World} {v : Value} {xs : List Value} (h : w.ownsRow base 9 1 v n xs) (hk : Keeps w w') : w'.ownsRow base 9 1 v n xs := by
  refine ⟨h.1, ?_⟩
  rcases h.2 with h0 | ⟨g, cap, cur, hv, hg, hh, hr⟩
  · exact .inl h0
  · have hb : Blk w g 9 cur.toList := by unfold Blk; rw [Array.toArray_toList]; exact hh
    have h2 := hk.blk g _ _ (by decide) (by decide) (by decide) hb
    unfold Blk at h2
    rw [Array.toArray_toList] at h2
    exact .inr ⟨g, cap, cur, hv, hg, h2, hr⟩

theorem own_slLen {base e n : Nat} {w : World} {v : Value} {xs : List Value} (h : w.ownsRow base e 1 v n xs) : slLen v = n := by
  rcases h.2 with ⟨rfl, rfl⟩ | ⟨g, cap, cur, rfl, _⟩ <;> rfl
theorem strsV_snoc (l : List (List UInt8)) (t : List UInt8) : strsV (l ++ [t]) = strsV l ++ [.string (bs t)] := by unfold strsV; rw [List.map_append]; rfl
theorem owns_put4 {base n : Nat} {w : World} {v : Value} {xs : List Value} (h : w.ownsRow base 9 1 v n xs) {B T : Nat} {cs : List Value} (hB : Blk w B T cs) (hT : T ≠ 9) (a b c d : Value) :
    ((((w.setCell ⟨B, 0, none⟩ a).setCell ⟨B, 1, none⟩ b).setCell ⟨B, 2, none⟩ c).setCell ⟨B, 3, none⟩ d).ownsRow base 9 1 v n xs := by
  have hne := own_ne h hB hT
  exact ownsRow_setCell_other (ownsRow_setCell_other (ownsRow_setCell_other (ownsRow_setCell_other h hne a) hne b) hne c) hne d
theorem builtLog (a b : Int) (g : Int) : Tryd.prog.built 31 [(0, .int .i64 a), (1, .int .i64 b), (2, .int .u64 g)] = some #[.int .i64 a, .int .i64 b, .int .u64 g, .int .i64 0] := by kernel_rfl

set_option maxHeartbeats 8000000 in
theorem log_Replay (base : Nat) (w : World) (p gl M : Nat) (v : Value) (D : DSt) (fr room gen : Nat) (h : IsDisk base w p gl M v D) (h1 : 1 ≤ room) (h2 : fr + room ≤ D.lasts.length) (hg : gen < 18446744073709551616) :
    Calls Tryd.prog 25 #[.pointer (some ⟨p, 0, none⟩), .int .i64 (fr : Int), .int .i64 (room : Int), .int .u64 (gen : Int)] w fun e w' =>
      ∃ u, e = .returned (.tuple #[logV (fr : Int) (room : Int) gen (((logL D fr gen room 0).length : Nat) : Int), u, .int .i64 0]) ∧ w'.ownsRow w.heap.size 9 1 u (logL D fr gen room 0).length (strsV (logL D fr gen room 0)) ∧ Below w.heap.size w w' := by
  obtain ⟨i0, hi, hz0, hz1, hz2⟩ := info_parts infoString
  have H0 := Lib.hid (fun W (hb : Below w.heap.size w W) => h.keep hb)
  have HN4 : Hid (D.lasts.length ≤ 4096) := Lib.hid h.2.2.2.2.1.2.1
  have HRL : Hid (∀ i, (rdD D i).1.length ≤ 128) := Lib.hid (rdD_len h)
  have HL : Hid (∀ W, Below w.heap.size w W → Calls Tryd.prog 42 #[logV (fr : Int) (room : Int) gen 0, .pointer (some ⟨p, 0, none⟩)] W fun e w' => e = .returned (.bool true) ∧ Below W.heap.size W w') := Lib.hid (fun W hb => by
    have := log_lies base W p gl M v D (fr : Int) (room : Int) gen 0 (by have := HN4.out; omega) (H0.out W hb)
    rw [liesB_nat h1 h2] at this
    exact this)
  have HFL : Hid (∀ (k : Nat) W, Calls Tryd.prog 37 #[logV (fr : Int) (room : Int) gen (k : Int)] W fun e w' => e = .returned (.bool (decide ((room : Int) ≤ (k : Int)))) ∧ Below W.heap.size W w') := Lib.hid (fun k W => log_Full _ _ _ _ W)
  have HFR : Hid (fr + room ≤ 4096) := Lib.hid (by have := HN4.out; omega)
  clear h
  unfold logV at HL HFL ⊢
  go_enter Tryd.func25, Tryd.ntmps25
  go_wp2_with fail
  go_step3
  go_wp2_with (refine wpList_build_is rfl 31 _ rfl _ rfl _ (builtLog (fr : Int) (room : Int) (gen : Int)) ?_)
  obtain ⟨W0, hW0⟩ : ∃ W0, W0 = ((w.alloc (.cells #[.int .i64 0, .int .i64 0, .int .u64 0, .int .i64 0] 31)).alloc (.cells #[.int .i64 (fr : Int), .int .i64 (room : Int), .int .u64 (gen : Int), .int .i64 0] 31)) := ⟨_, rfl⟩
  have R0 : Hid (Blk W0 w.heap.size 31 [.int .i64 0, .int .i64 0, .int .u64 0, .int .i64 0]) := Lib.hid (by rw [hW0]; exact (Blk.box4 _ _ _ _ _ _).alloc _)
  have L0 : Hid (Blk W0 (w.heap.size + 1) 31 [.int .i64 (fr : Int), .int .i64 (room : Int), .int .u64 (gen : Int), .int .i64 0]) := Lib.hid (by rw [hW0]; have := Blk.box4 (w.alloc (.cells #[.int .i64 0, .int .i64 0, .int .u64 0, .int .i64 0] 31)) 31 (.int .i64 (fr : Int)) (.int .i64 (room : Int)) (.int .u64 (gen : Int)) (.int .i64 0); rw [World.size_alloc] at this; exact this)
  have B1 : Hid (Below w.heap.size w W0) := Lib.hid (by rw [hW0]; exact ((Below.refl _ _).alloc (Nat.le_refl _) _).alloc (by simp) _)
  rw [← hW0]
  clear hW0
  refine (HL.out _ B1.out).mono ?_
  rintro e w1 ⟨rfl, hb1⟩
  have B2 := Lib.hid (B1.out.trans (hb1.mono B1.out.size))
  have L1 := Lib.hid (L0.out.keep hb1)
  have R1 := Lib.hid (R0.out.keep hb1)
  clear hb1 B1 L0 R0 HL
  go_wp2_with fail
  go_step3
  go_wp2_with fail
  go_loopw [12] (fun dv wr => ∃ (i : Nat) (pre : List (List UInt8)) (u : Value), u = dv ∧ i ≤ room ∧ Hid (pre.length = i ∧ pre ++ logL D fr gen (room - i) i = logL D fr gen room 0) ∧ Hid (wr.ownsRow w.heap.size 9 1 u pre.length (strsV pre)) ∧
      Hid (Blk wr w.heap.size 31 [.int .i64 0, .int .i64 0, .int .u64 0, .int .i64 0]) ∧ Hid (Blk wr (w.heap.size + 1) 31 [.int .i64 (fr : Int), .int .i64 (room : Int), .int .u64 (gen : Int), .int .i64 (i : Int)]) ∧ Hid (Below w.heap.size w wr)) (fun dv _ => room - slLen dv)
  case atStart => exact ⟨0, [], _, rfl, Nat.zero_le _, Lib.hid ⟨rfl, rfl⟩, Lib.hid (World.ownsRow_nil _ _ _ _), R1, L1, B2⟩
  case round =>
    obtain ⟨i, pre, u, rfl, hir, HP, HO, HR, HLg, HB⟩ := hrel
    obtain ⟨c0, c1, c2, c3⟩ := HLg.out.four
    clear B2 L1 R1
    go_wp2_with fail
    refine (HFL.out i _).mono ?_
    rintro e w2 ⟨rfl, hb2⟩
    have B2 := Lib.hid (HB.out.trans (hb2.mono HB.out.size))
    have L2 := Lib.hid (HLg.out.keep hb2)
    have R2 := Lib.hid (HR.out.keep hb2)
    have O2 := Lib.hid (own_keep HO.out hb2)
    clear hb2 HB HLg HR HO c0 c1 c2 c3
    obtain ⟨c0, c1, c2, c3⟩ := L2.out.four
    by_cases hlt : i < room
    · have hdf : decide ((room : Int) ≤ (i : Int)) = false := decide_eq_false (by omega)
      have hdf2 : decide (room ≤ i) = false := decide_eq_false (by omega)
      obtain ⟨q, hq⟩ : ∃ q, q = fr + i := ⟨_, rfl⟩
      have hqi : IntKind.i64.wrap ((fr : Int) + (i : Int)) = (q : Int) := by rw [IntWalk.i64_in _ (by have := HFR.out; omega)]; omega
      have HRD := Lib.hid (disk_Read base w2 p gl M v D (q : Int) (H0.out w2 B2.out))
      have HOP := Lib.hid (fun W => seal_Open (rdD D (q : Int)).1 W (by have := HRL.out (q : Int); omega))
      have HRO := Lib.hid (openT_ok (rdD D (q : Int)).1)
      obtain ⟨k, hk⟩ : ∃ k, k = (openT (rdD D (q : Int)).1).1.1 := ⟨_, rfl⟩
      obtain ⟨g, hgg⟩ : ∃ g, g = (openT (rdD D (q : Int)).1).1.2.1 := ⟨_, rfl⟩
      obtain ⟨x, hx⟩ : ∃ x, x = (openT (rdD D (q : Int)).1).1.2.2.1 := ⟨_, rfl⟩
      obtain ⟨t, ht⟩ : ∃ t, t = (openT (rdD D (q : Int)).1).1.2.2.2 := ⟨_, rfl⟩
      obtain ⟨c, hc⟩ : ∃ c, c = (openT (rdD D (q : Int)).1).2 := ⟨_, rfl⟩
      unfold RecOk at HRO
      unfold recV at HOP
      rw [← hk, ← hgg, ← hx, ← ht] at HRO HOP
      rw [← hc] at HOP
      have HST : Hid (logL D fr gen (room - i) i = if c = 0 ∧ k = 1 ∧ g = gen ∧ x = i then t :: logL D fr gen (room - (i + 1)) (i + 1) else []) := Lib.hid (by
        rw [show room - i = (room - (i + 1)) + 1 from by omega]
        conv => lhs; unfold logL
        unfold recAt
        rw [← hq, ← hk, ← hgg, ← hx, ← ht, ← hc])
      obtain ⟨S, hS⟩ : ∃ S, S = bs (rdD D (q : Int)).1 := ⟨_, rfl⟩
      rw [← hS] at HRD HOP
      obtain ⟨e7, he7⟩ : ∃ e7, e7 = (rdD D (q : Int)).2 := ⟨_, rfl⟩
      rw [← he7] at HRD
      clear hq hk hgg hx ht hc hS he7
      go_wp2_with fail
      refine HRD.out.mono ?_
      rintro e w3 ⟨rfl, rfl⟩
      go_wp2_with fail
      refine (HOP.out _).mono ?_
      rintro e w4 ⟨rfl, hb4⟩
      have B4 := Lib.hid (B2.out.trans (hb4.mono B2.out.size))
      have L4 := Lib.hid (L2.out.keep hb4)
      have R4 := Lib.hid (R2.out.keep hb4)
      have O4 := Lib.hid (own_keep O2.out hb4)
      clear hb4 B2 L2 R2 O2 c0 c1 c2 c3 HRD HOP
      obtain ⟨W5, hW5⟩ : ∃ W5, W5 = w4.alloc (.cells #[.int .u8 (k : Int), .int .u64 (g : Int), .int .u32 (x : Int), .string (bs t)] 89) := ⟨_, rfl⟩
      have B5 : Hid (Below w.heap.size w W5) := Lib.hid (by rw [hW5]; exact B4.out.alloc B4.out.size _)
      have L5 : Hid (Blk W5 (w.heap.size + 1) 31 [.int .i64 (fr : Int), .int .i64 (room : Int), .int .u64 (gen : Int), .int .i64 (i : Int)]) := Lib.hid (by rw [hW5]; exact L4.out.alloc _)
      have R5 : Hid (Blk W5 w.heap.size 31 [.int .i64 0, .int .i64 0, .int .u64 0, .int .i64 0]) := Lib.hid (by rw [hW5]; exact R4.out.alloc _)
      have O5 : Hid (W5.ownsRow w.heap.size 9 1 u pre.length (strsV pre)) := Lib.hid (by rw [hW5]; exact O4.out.alloc _)
      have C5 : Hid (Blk W5 w4.heap.size 89 [.int .u8 (k : Int), .int .u64 (g : Int), .int .u32 (x : Int), .string (bs t)]) := Lib.hid (by rw [hW5]; exact Blk.box4 _ _ _ _ _ _)
      obtain ⟨l0, l1, l2, l3⟩ := L4.out.four
      have hs4 : w.heap.size + 1 < w4.heap.size := L4.out.lt
      have hs5 : w.heap.size < w4.heap.size := R4.out.lt
      obtain ⟨b0, b1, b2, b3⟩ := R4.out.four
      have f0 := R4.out.frozen 0
      have f1 := R4.out.frozen 1
      have f2 := R4.out.frozen 2
      have f3 := R4.out.frozen 3
      subst hW5
      have hix : (i : Int) % 4294967296 = (i : Int) := by have := HFR.out; omega
      have HEND : Hid (¬ (c = 0 ∧ k = 1 ∧ g = gen ∧ x = i) → pre = logL D fr gen room 0) := Lib.hid (fun hn => by
        have := HP.out.2
        rw [HST.out, if_neg hn, List.append_nil] at this
        exact this)
      by_cases hcond : c = 0 ∧ k = 1 ∧ g = gen ∧ x = i
      · obtain ⟨rfl, rfl, rfl, rfl⟩ := hcond
        have hcb : (((0 : Nat) : Int) != 0) = false := rfl
        have hkb : (((1 : Nat) : Int) != 1) = false := rfl
        have hgb : ((g : Int) != (g : Int)) = false := by simp
        have hxb : ((x : Int) != (x : Int)) = false := by simp
        have HNEWS : Hid (∀ j y, [Value.string (bs t)][j]? = some y → ((w4.alloc (.cells #[.int .u8 1, .int .u64 (g : Int), .int .u32 (x : Int), .string (bs t)] 89)).alloc (.cells #[.string (bs t)] 9)).cell? ((⟨w4.heap.size + 1, 0, none⟩ : Addr).add j) = some y) := Lib.hid (fun j y hj => by
          match j, hj with
          | 0, hj =>
            simp at hj
            subst hj
            rw [Addr.add_lit, World.cell?_alloc2_new]
            rfl)
        have HPL : Hid (pre.length = x) := Lib.hid HP.out.1
        have HXB : Hid (x < 4096) := Lib.hid (by have := HFR.out; omega)
        have HNE := Lib.hid (own_ne O5.out L5.out (by decide))
        have HNR := Lib.hid (own_ne O5.out R5.out (by decide))
        have HSZ : Hid (w.heap.size ≤ ((w4.alloc (.cells #[.int .u8 1, .int .u64 (g : Int), .int .u32 (x : Int), .string (bs t)] 89)).alloc (.cells #[.string (bs t)] 9)).heap.size) := Lib.hid (by simp; omega)
        have hwx : IntKind.i64.wrap ((x : Int) + 1) = ((x + 1 : Nat) : Int) := by rw [IntWalk.i64_in _ (by have := HXB.out; omega)]; omega
        go_wp2_with (at_builtin; refine wpList_append_own _ rfl _ _ 34 rfl w.heap.size 9 i0 (.string ⟨#[]⟩) 1 16 Tryd.underlying34 hi hz0 hz1 hz2 rfl (by decide) _ _ _ rfl (O5.out.alloc _) ⟨w4.heap.size + 1, 0, none⟩ 1 1 [.string (bs t)] rfl rfl HNEWS.out (by intro y hy; simp at hy; subst hy; rfl) (by rw [HPL.out]; have := HXB.out; simp only [maxLen]; omega) (by rw [HPL.out]; have := HXB.out; omega) HSZ.out ?_; intro v6 w6 hown6 hgr6 hni6; have OW6 := Lib.hid hown6; have GR6 := Lib.hid hgr6; have L6 := Lib.hid ((L5.out.alloc (.cells #[.string (bs t)] 9)).grown hgr6 (fun e => HNE.out e.symm)); have R6 := Lib.hid ((R5.out.alloc (.cells #[.string (bs t)] 9)).grown hgr6 (fun e => HNR.out e.symm)); obtain ⟨m0, m1, m2, m3⟩ := L6.out.four; have mf := L6.out.frozen 3; clear hown6 hgr6 hni6)
        have HO6 : Hid (w6.ownsRow w.heap.size 9 1 v6 (pre ++ [t]).length (strsV (pre ++ [t]))) := Lib.hid (by rw [strsV_snoc, List.length_append]; exact OW6.out)
        refine ⟨⟨x + 1, pre ++ [t], v6, rfl, by omega, Lib.hid ⟨by rw [List.length_append, HPL.out]; rfl, ?_⟩, Lib.hid (ownsRow_setCell_other HO6.out (own_ne HO6.out L6.out (by decide)) _), Lib.hid (R6.out.far (p := ⟨w.heap.size + 1, 3, none⟩) (by show w.heap.size ≠ w.heap.size + 1; omega) _), Lib.hid (L6.out.set_ 3 _), Lib.hid ?_⟩, ?_⟩
        · have := HP.out.2
          rw [HST.out, if_pos (by simp)] at this
          rw [List.append_assoc]
          exact this
        · exact ((B5.out.alloc B5.out.size _).grown GR6.out HSZ.out (fun b e => (O5.out.lt b e).1)).setCell (p := ⟨w.heap.size + 1, 3, none⟩) (Nat.le_succ _) _
        · rw [own_slLen HO6.out, own_slLen O5.out, List.length_append, HPL.out]
          simp; omega
      · have HE := Lib.hid (HEND.out hcond)
        clear HEND
        have HCS : Hid (((c : Int) != 0) = true ∨ (((c : Int) != 0) = false ∧ ((k : Int) != 1) = true) ∨ (((c : Int) != 0) = false ∧ ((k : Int) != 1) = false ∧ ((g : Int) != (gen : Int)) = true) ∨ (((c : Int) != 0) = false ∧ ((k : Int) != 1) = false ∧ ((g : Int) != (gen : Int)) = false ∧ ((x : Int) != (i : Int)) = true)) := Lib.hid (by
          simp only [bne_iff_ne, bne_eq_false_iff_eq]
          omega)
        rcases HCS.out with hcb | ⟨hcb, hkb⟩ | ⟨hcb, hkb, hgb⟩ | ⟨hcb, hkb, hgb, hxb⟩
        all_goals go_wp2_with fail
        all_goals obtain ⟨r0, r1, r2, r3⟩ := ((R4.out.put4 (.int .i64 (fr : Int)) (.int .i64 (room : Int)) (.int .u64 (gen : Int)) (.int .i64 (i : Int))).alloc (.cells #[.int .u8 (k : Int), .int .u64 (g : Int), .int .u32 (x : Int), .string (bs t)] 89)).four
        all_goals rw [Exit.noGoto_ret]
        all_goals refine bodyPost_ret (v := .tuple #[.agg #[.int .i64 (fr : Int), .int .i64 (room : Int), .int .u64 (gen : Int), .int .i64 (i : Int)], u, .int .i64 0]) (by simp [results, Tryd.results25, go_sem, r0, r1, r2, r3]) rfl ⟨u, ?_, ?_, ?_⟩
        all_goals first
          | (rw [← HE.out, HP.out.1]; done)
          | (rw [← HE.out]; exact (owns_put4 O4.out R4.out (by decide) _ _ _ _).alloc _)
          | exact (below_put4 B4.out (Nat.le_refl _) _ _ _ _).alloc (Nat.le_trans B4.out.size (size_put4 _ _ _ _ _ _)) _
    · obtain rfl : i = room := by omega
      have hdf : decide ((i : Int) ≤ (i : Int)) = true := decide_eq_true (Int.le_refl _)
      have hdf2 : decide (i ≤ i) = true := decide_eq_true (Nat.le_refl _)
      obtain ⟨b0, b1, b2, b3⟩ := R2.out.four
      have f0 := R2.out.frozen 0
      have f1 := R2.out.frozen 1
      have f2 := R2.out.frozen 2
      have f3 := R2.out.frozen 3
      have HE : Hid (pre = logL D fr gen i 0) := Lib.hid (by
        have := HP.out.2
        rw [Nat.sub_self] at this
        rw [← this]
        show pre = pre ++ []
        rw [List.append_nil])
      go_wp2_with fail
      obtain ⟨r0, r1, r2, r3⟩ := (R2.out.put4 (.int .i64 (fr : Int)) (.int .i64 (i : Int)) (.int .u64 (gen : Int)) (.int .i64 (i : Int))).four
      rw [Exit.noGoto_ret]
      refine bodyPost_ret (v := .tuple #[.agg #[.int .i64 (fr : Int), .int .i64 (i : Int), .int .u64 (gen : Int), .int .i64 (i : Int)], u, .int .i64 0]) (by simp [results, Tryd.results25, go_sem, r0, r1, r2, r3]) rfl ⟨u, ?_, ?_, ?_⟩
      · rw [← HE.out, HP.out.1]
      · rw [← HE.out]; exact owns_put4 O2.out R2.out (by decide) _ _ _ _
      · exact below_put4 B2.out (Nat.le_refl _) _ _ _ _
end Go.Proofs.YtbigpapniloknaaDoor
