/- The walk of LogKeeps. -/
import Derived.Test.YtcnbpajlocoocaaDoorLogF
import Derived.Test.YtcnbpajlocoocaaDoorSlices0
namespace Go.Proofs.YtcnbpajlocoocaaDoor
open Go.RowKit Go.Maps
set_option maxRecDepth 100000

set_option maxHeartbeats 2000000 in
theorem logKeeps_idle (a0 : Option Addr) (n0 k0 : Nat) (y : Nat) (K : Option Addr) (kn kc : Nat) (w : World) (h : 20 < n0 ∨ 50 < kn) (hb0 : (n0 : Int) ≤ 9223372036854775807) (hb1 : (kn : Int) ≤ 9223372036854775807) :
    Calls Tryd.prog 3 #[.slice a0 n0 k0, .int .u8 (y : Int), .slice K kn kc] w fun e w' => e = .returned (.bool true) ∧ Below w.heap.size w w' := by
  have HA := Lib.hid log_Awake
  by_cases h0 : 20 < n0
  · have hd : decide ((20 : Int) < (n0 : Int)) = true := decide_eq_true (by omega)
    have hd' : decide (20 < n0) = true := decide_eq_true h0
    go_enter Tryd.func3, Tryd.ntmps3
    go_wp2_with fail
    refine (HA.out _).mono ?_
    rintro e w1 ⟨rfl, hb⟩
    go_wp2_with fail
    go_ret
    exact ⟨rfl, hb⟩
  · have hd : decide ((20 : Int) < (n0 : Int)) = false := decide_eq_false (by omega)
    have hd' : decide (20 < n0) = false := decide_eq_false h0
    have hd1 : decide ((50 : Int) < (kn : Int)) = true := decide_eq_true (by omega)
    have hd1' : decide (50 < kn) = true := decide_eq_true (by omega)
    go_enter Tryd.func3, Tryd.ntmps3
    go_wp2_with fail
    refine (HA.out _).mono ?_
    rintro e w1 ⟨rfl, hb⟩
    go_wp2_with fail
    go_ret
    exact ⟨rfl, hb⟩

theorem KSl.keep {w w' : World} {A : Option Addr} {n : Nat} {ks : List Bool} (h : KSl w A n ks) (hb : Below w.heap.size w w') : KSl w' A n ks :=
  ⟨h.1, fun hn => by
    obtain ⟨b, off, e, hc⟩ := h.2 hn
    refine ⟨b, off, e, fun j hj => (hb.cell (p := ⟨b, off + j, none⟩) ?_).trans (hc j hj)⟩
    exact block_lt_of_cell (hc j hj)⟩

set_option maxHeartbeats 16000000 in
theorem logKeeps_main (a0 : Option Addr) (n0 k0 : Nat) (ts : List (List UInt8)) (y : Nat) (K : Option Addr) (kn kc : Nat) (ks : List Bool) (w : World) (hT : StrC w a0 n0 k0 ts) (hTl : ∀ j, (ts.getD j []).length ≤ 9223372036854775807) (hy : y < 256) (hks : KSl w K kn ks) (h0 : n0 ≤ 20) (h1 : kn ≤ 50) :
    Calls Tryd.prog 3 #[.slice a0 n0 k0, .int .u8 (y : Int), .slice K kn kc] w fun e w' => e = .returned (.bool true) ∧ Below w.heap.size w w' := by
  obtain ⟨i0, hi, hz0, hz1, hz2⟩ := info_parts infoString
  have HA := Lib.hid log_Awake
  have HN := Lib.hid (disk_New 21 w (by omega) (by omega))
  have HT := Lib.hid hT
  have HTL := Lib.hid hTl
  have HKS := Lib.hid hks
  have hd0 : decide ((20 : Int) < (n0 : Int)) = false := decide_eq_false (by omega)
  have hd1 : decide ((50 : Int) < (kn : Int)) = false := decide_eq_false (by omega)
  have hd0' : decide (20 < n0) = false := decide_eq_false (by omega)
  have hd1' : decide (50 < kn) = false := decide_eq_false (by omega)
  clear hT hTl hks
  go_enter Tryd.func3, Tryd.ntmps3
  go_wp2_with fail
  refine HN.out.mono ?_
  rintro e w1 ⟨p, gl, M, v, rfl, h1', hb1⟩
  have D1 := Lib.hid h1'
  have B1 := Lib.hid hb1
  have HR : Hid (Calls Tryd.prog 9 #[.pointer (some ⟨p, 0, none⟩), .int .i64 0, .int .i64 21, .int .u64 5] w1 fun e w' => ∃ u, e = .returned (.tuple #[.agg #[.int .i64 0, .int .i64 21, .int .u64 5, .int .i64 0], u, .int .i64 0]) ∧ Below w1.heap.size w1 w') := Lib.hid (by
    have h := log_Replay _ w1 p gl M v (newD 21) 0 21 5 h1' (by omega) (by simp [newD]) (by omega)
    rw [logL_new (n := 21) (by omega) (by omega)] at h
    refine h.mono ?_
    rintro e w' ⟨u, rfl, _, hb⟩
    exact ⟨u, rfl, hb⟩)
  clear h1' hb1 HN hd0 hd1 hd0' hd1'
  go_wp2_with fail
  refine HR.out.mono ?_
  rintro e w2 ⟨u, rfl, hb2⟩
  have D2 := Lib.hid (D1.out.keep hb2)
  have B2 := Lib.hid (B1.out.trans (hb2.mono B1.out.size))
  have SZ := Lib.hid B2.out.size
  clear HR D1 B1 hb2
  obtain ⟨W2, hW2⟩ : ∃ W2, W2 = w2.alloc (.cells #[.int .i64 0, .int .i64 21, .int .u64 5, .int .i64 0] 31) := ⟨_, rfl⟩
  have L2 : Hid (Blk W2 w2.heap.size 31 [.int .i64 0, .int .i64 21, .int .u64 5, .int .i64 0]) := Lib.hid (by rw [hW2]; exact Blk.box4 _ _ _ _ _ _)
  have D3 : Hid (IsDisk w.heap.size W2 p gl M v (newD 21)) := Lib.hid (by rw [hW2]; exact D2.out.keep ((Below.refl _ _).alloc (Nat.le_refl _) _))
  have B3 : Hid (Below w.heap.size w W2) := Lib.hid (by rw [hW2]; exact B2.out.alloc B2.out.size _)
  obtain ⟨q, hq⟩ : ∃ q, q = y % 50 := ⟨_, rfl⟩
  have hq50 : q < 50 := by omega
  have hqi : (y : Int) % 50 = (q : Int) := by omega
  have hqt : (y : Int).tmod 50 = (q : Int) := by rw [Int.tmod_eq_emod_of_nonneg (by omega)]; exact hqi
  have hqw : IntKind.i64.wrap (q : Int) = (q : Int) := IntWalk.i64_in _ (by omega)
  have HAR := Lib.hid (disk_Arm _ W2 p gl M v (newD 21) (q : Int) D3.out)
  have HL0 := Lib.hid (lg_new (q : Int) (by omega) (by omega))
  rw [hW2] at HAR
  clear hq
  go_wp2_with fail
  refine HAR.out.mono ?_
  rintro e w3 ⟨rfl, h3, hb3, hk3⟩
  rw [← hW2] at hb3 hk3
  have L3 := Lib.hid (hk3 _ _ _ (by decide) (by decide) (by decide) L2.out)
  have D4 := Lib.hid h3
  have B4 := Lib.hid (B3.out.trans hb3)
  clear h3 hb3 hk3 HAR L2 D3 B3 D2 B2 hW2
  go_wp2_with fail
  go_loopw [12, 13, 50] (fun sv av iv wr => ∃ (i m : Nat) (all : List (List UInt8)) (D : DSt) (v u : Value), u = av ∧ sv = .int .i64 m ∧ iv = .int .i64 i ∧ i ≤ n0 ∧ Hid (LgSt D m all i) ∧ Hid (wr.ownsRow w.heap.size 9 1 u all.length (strsV all)) ∧
      Hid (Blk wr w2.heap.size 31 [.int .i64 0, .int .i64 21, .int .u64 5, .int .i64 (all.length : Int)]) ∧ Hid (IsDisk w.heap.size wr p gl M v D) ∧ Hid (Below w.heap.size w wr)) (fun _ _ iv _ => n0 - (intOf iv).toNat)
  case atStart => exact ⟨0, 0, [], _, v, _, rfl, rfl, rfl, Nat.zero_le _, HL0, Lib.hid (World.ownsRow_nil _ _ _ _), L3, D4, B4⟩
  case round =>
    obtain ⟨i, m, all, D, v, u, rfl, rfl, rfl, hin, HG, HO, HL, HD, HB⟩ := hrel
    clear D4 B4 L3 HL0
    by_cases hlt : i < n0
    · obtain ⟨ab, ao, rfl, hbl, hcx⟩ := (HT.out.keep HB.out).2.2.2 (by omega)
      obtain ⟨d, hdd⟩ : ∃ d, d = ts.getD i [] := ⟨_, rfl⟩
      have hc := hcx i hlt
      rw [← hdd] at hc
      have hsz := bs_size d
      have HDL : Hid (d.length ≤ 9223372036854775807) := Lib.hid (by rw [hdd]; exact HTL.out i)
      have hd : decide ((i : Int) < (n0 : Int)) = true := decide_eq_true (by omega)
      have hd' : decide (i < n0) = true := decide_eq_true hlt
      have hiw1 : IntKind.i64.wrap ((i : Int) + 1) = (i : Int) + 1 := IntWalk.i64_in _ (by omega)
      clear hdd hcx hbl
      by_cases hlong : 110 < d.length
      · have hdl : decide ((110 : Int) < (d.length : Int)) = true := decide_eq_true (by omega)
        have hdl' : decide (110 < d.length) = true := decide_eq_true hlong
        go_wp2_with fail
        refine (HA.out _).mono ?_
        rintro e w4 ⟨rfl, hb4⟩
        have B4 := Lib.hid (HB.out.trans (hb4.mono HB.out.size))
        clear hb4
        go_wp2_with fail
        go_ret
        exact ⟨rfl, B4.out⟩
      · have hdl : decide ((110 : Int) < (d.length : Int)) = false := decide_eq_false (by omega)
        have hdl' : decide (110 < d.length) = false := decide_eq_false hlong
        have HSTEP := Lib.hid (lg_step HG.out (by omega) (d := d) (by omega))
        obtain ⟨n, hn⟩ : ∃ n, n = all.length := ⟨_, rfl⟩
        obtain ⟨D', hD'⟩ : ∃ D', D' = (appL D 0 21 5 all.length d).1 := ⟨_, rfl⟩
        obtain ⟨nx, hnx⟩ : ∃ nx, nx = (appL D 0 21 5 all.length d).2.1 := ⟨_, rfl⟩
        obtain ⟨c, hcc⟩ : ∃ c, c = (appL D 0 21 5 all.length d).2.2 := ⟨_, rfl⟩
        have HAP : Hid (Calls Tryd.prog 11 #[.agg #[.int .i64 0, .int .i64 21, .int .u64 5, .int .i64 (n : Int)], .pointer (some ⟨p, 0, none⟩), .string (bs d)] wr fun e w' => e = .returned (.tuple #[.agg #[.int .i64 0, .int .i64 21, .int .u64 5, .int .i64 (nx : Int)], .int .i64 (c : Int)]) ∧ ∃ v', IsDisk w.heap.size w' p gl M v' D' ∧ Below w.heap.size wr w' ∧ Keeps wr w') := Lib.hid (by
          have h := log_Append _ wr p gl M v D 0 21 5 all.length d HD.out (HG.out.small (by omega)) HB.out.size (by omega) (by have := HG.out.1; omega) (by have := HG.out.2.2.1; omega) (by omega) HDL.out
          rw [← hD', ← hnx, ← hcc, ← hn] at h
          exact h)
        rw [← hD', ← hnx, ← hcc, ← hn] at HSTEP
        rw [← hn] at HL HO
        have HNL := Lib.hid hn
        have HN20 : Hid (n ≤ 20) := Lib.hid (by rw [hn]; have := HG.out.2.2.1; omega)
        clear hD' hnx hcc hn
        obtain ⟨l0, l1, l2, l3⟩ := HL.out.four
        go_wp2_with fail
        refine HAP.out.mono ?_
        rintro e w5 ⟨rfl, v5, h5, hb5, hk5⟩
        have D5 := Lib.hid h5
        have B5 := Lib.hid (HB.out.trans hb5)
        have L5 := Lib.hid (hk5 _ _ _ (by decide) (by decide) (by decide) HL.out)
        have O5 := Lib.hid (owns_keeps HO.out hk5)
        clear h5 hb5 hk5 HAP HL HO HD HB l0 l1 l2 l3 hc
        obtain ⟨W5, hW5⟩ : ∃ W5, W5 = w5.alloc (.cells #[.int .i64 0, .int .i64 21, .int .u64 5, .int .i64 (nx : Int)] 31) := ⟨_, rfl⟩
        have bel5 : Below w5.heap.size w5 W5 := by rw [hW5]; exact (Below.refl _ _).alloc (Nat.le_refl _) _
        have D6 := Lib.hid (D5.out.keep bel5)
        have B6 := Lib.hid (B5.out.trans (bel5.mono B5.out.size))
        have L6 := Lib.hid (L5.out.keep bel5)
        have O6 := Lib.hid (own_keep O5.out bel5)
        have Y6 : Hid (Blk W5 w5.heap.size 31 [.int .i64 0, .int .i64 21, .int .u64 5, .int .i64 (nx : Int)]) := Lib.hid (by rw [hW5]; exact Blk.box4 _ _ _ _ _ _)
        have hs5 : w2.heap.size < w5.heap.size := L5.out.lt
        obtain ⟨l0, l1, l2, l3⟩ := L5.out.four
        have f0 := L5.out.frozen 0
        have f1 := L5.out.frozen 1
        have f2 := L5.out.frozen 2
        have f3 := L5.out.frozen 3
        clear bel5
        have HNEWS : Hid (∀ j x, [Value.string (bs d)][j]? = some x → ((w5.alloc (.cells #[.int .i64 0, .int .i64 21, .int .u64 5, .int .i64 (nx : Int)] 31)).alloc (.cells #[.string (bs d)] 9)).cell? ((⟨w5.heap.size + 1, 0, none⟩ : Addr).add j) = some x) := Lib.hid (fun j x hj => by
          match j, hj with
          | 0, hj =>
            simp at hj
            subst hj
            rw [Addr.add_lit, World.cell?_alloc2_new]
            rfl)
        have HSZ : Hid (w.heap.size ≤ ((w5.alloc (.cells #[.int .i64 0, .int .i64 21, .int .u64 5, .int .i64 (nx : Int)] 31)).alloc (.cells #[.string (bs d)] 9)).heap.size) := Lib.hid (by have := B5.out.size; simp; omega)
        subst hW5
        have GROW : Hid (∀ v7 w7, w7.ownsRow w.heap.size 9 1 v7 (n + 1) (strsV all ++ [.string (bs d)]) → ((w5.alloc (.cells #[.int .i64 0, .int .i64 21, .int .u64 5, .int .i64 (nx : Int)] 31)).alloc (.cells #[.string (bs d)] 9)).grownBy w7 u.ownBlock →
            IsDisk w.heap.size w7 p gl M v5 D' ∧ Blk w7 w2.heap.size 31 [.int .i64 0, .int .i64 21, .int .u64 5, .int .i64 (n : Int)] ∧ Blk w7 w5.heap.size 31 [.int .i64 0, .int .i64 21, .int .u64 5, .int .i64 (nx : Int)] ∧ Below w.heap.size w w7 ∧ w7.ownsRow w.heap.size 9 1 v7 (all ++ [d]).length (strsV (all ++ [d]))) := Lib.hid (fun v7 w7 ho hg => by
          have hrow : ∀ g, u.ownBlock = some g → ∃ T cs, Blk ((w5.alloc (.cells #[.int .i64 0, .int .i64 21, .int .u64 5, .int .i64 (nx : Int)] 31)).alloc (.cells #[.string (bs d)] 9)) g T cs ∧ T ≠ 75 ∧ T ≠ 81 ∧ T ≠ 83 := fun g e => by
            rcases O6.out.2 with ⟨e1, _⟩ | ⟨g', c', cur, e1, _, hh, _⟩
            · rw [e1] at e; cases e
            · rw [e1] at e
              injection e with e
              subst e
              have hb : Blk (w5.alloc (.cells #[.int .i64 0, .int .i64 21, .int .u64 5, .int .i64 (nx : Int)] 31)) g' 9 cur.toList := by unfold Blk; rw [Array.toArray_toList]; exact hh
              exact ⟨_, _, hb.alloc _, by decide, by decide, by decide⟩
          refine ⟨(D6.out.keep ((Below.refl _ _).alloc (Nat.le_refl _) _)).grown hg hrow, (L6.out.alloc _).grown hg (fun e => own_ne O6.out L6.out (by decide) e.symm), (Y6.out.alloc _).grown hg (fun e => own_ne O6.out Y6.out (by decide) e.symm), (B6.out.alloc B6.out.size _).grown hg HSZ.out (fun b e => (O6.out.lt b e).1), ?_⟩
          rw [strsV_snoc, List.length_append, ← HNL.out]
          exact ho)
        rcases HSTEP.out with ⟨hnx, hcne, hst⟩ | ⟨hnx, hcne, hst⟩ | ⟨hnx, hcne, hst⟩
        · have HST := Lib.hid hst
          have HNX : Hid (nx = all.length) := Lib.hid (hnx.trans HNL.out)
          have hlt2 : decide ((n : Int) < (nx : Int)) = false := decide_eq_false (by omega)
          have hlt3 : decide (n < nx) = false := decide_eq_false (by omega)
          have hcb : ((c : Int) == 0) = false := by rw [beq_eq_false_iff_ne]; omega
          clear hst HSTEP hnx hcne
          go_wp2_with fail
          refine ⟨⟨i + 1, m, all, D', v5, u, rfl, rfl, by go_num, by omega, HST, Lib.hid ?_, Lib.hid ?_, Lib.hid ?_, Lib.hid ?_⟩, by simp [intOf]; omega⟩
          · rw [← HNL.out]; exact (owns_put4 O5.out L5.out (by decide) _ _ _ _).alloc _
          · rw [← HNX.out]; exact (L5.out.put4 _ _ _ _).alloc _
          · exact (D5.out.put4 L5.out (by decide) (by decide) (by decide) _ _ _ _).keep ((Below.refl _ _).alloc (Nat.le_refl _) _)
          · exact (below_put4 B5.out SZ.out _ _ _ _).alloc (Nat.le_trans B5.out.size (size_put4 _ _ _ _ _ _)) _
        · have HST := Lib.hid hst
          have HNX : Hid (nx = (all ++ [d]).length) := Lib.hid (by rw [List.length_append, ← HNL.out]; exact hnx)
          have hlt2 : decide ((n : Int) < (nx : Int)) = true := decide_eq_true (by omega)
          have hlt3 : decide (n < nx) = true := decide_eq_true (by omega)
          have hcb : ((c : Int) == 0) = false := by rw [beq_eq_false_iff_ne]; omega
          clear hst HSTEP hnx hcne
          go_wp2_with (at_builtin; refine wpList_append_own _ rfl _ _ 22 rfl w.heap.size 9 i0 (.string ⟨#[]⟩) 1 16 Tryd.underlying22 hi hz0 hz1 hz2 rfl (by decide) _ _ _ rfl (O6.out.alloc _) ⟨w5.heap.size + 1, 0, none⟩ 1 1 [.string (bs d)] rfl rfl HNEWS.out (by intro z hz; simp at hz; subst hz; rfl) (by have := HN20.out; simp only [maxLen]; omega) (by have := HN20.out; omega) HSZ.out ?_; intro v7 w7 hown7 hgr7 hni7; obtain ⟨g1, g2, g3, g4, g5⟩ := GROW.out v7 w7 hown7 hgr7; have D7 := Lib.hid g1; have L7 := Lib.hid g2; have Y7 := Lib.hid g3; have B7 := Lib.hid g4; have O7 := Lib.hid g5; obtain ⟨m0, m1, m2, m3⟩ := L7.out.four; obtain ⟨y0, y1, y2, y3⟩ := Y7.out.four; have mf0 := L7.out.frozen 0; have mf1 := L7.out.frozen 1; have mf2 := L7.out.frozen 2; have mf3 := L7.out.frozen 3; clear hown7 hgr7 hni7 g1 g2 g3 g4 g5)
          refine ⟨⟨i + 1, m, all ++ [d], D', v5, v7, rfl, rfl, by go_num, by omega, HST, Lib.hid ?_, Lib.hid ?_, Lib.hid ?_, Lib.hid ?_⟩, by simp [intOf]; omega⟩
          · exact owns_put4 O7.out L7.out (by decide) _ _ _ _
          · rw [← HNX.out]; exact L7.out.put4 _ _ _ _
          · exact D7.out.put4 L7.out (by decide) (by decide) (by decide) _ _ _ _
          · exact below_put4 B7.out SZ.out _ _ _ _
        · have HST := Lib.hid hst
          have HNX : Hid (nx = (all ++ [d]).length) := Lib.hid (by rw [List.length_append, ← HNL.out]; exact hnx)
          have HNX2 : Hid (nx = n + 1) := Lib.hid hnx
          have hlt2 : decide ((n : Int) < (nx : Int)) = true := decide_eq_true (by omega)
          have hlt3 : decide (n < nx) = true := decide_eq_true (by omega)
          have hcb : ((c : Int) == 0) = true := by rw [beq_iff_eq]; omega
          clear hst HSTEP hnx hcne
          go_wp2_with (at_builtin; refine wpList_append_own _ rfl _ _ 22 rfl w.heap.size 9 i0 (.string ⟨#[]⟩) 1 16 Tryd.underlying22 hi hz0 hz1 hz2 rfl (by decide) _ _ _ rfl (O6.out.alloc _) ⟨w5.heap.size + 1, 0, none⟩ 1 1 [.string (bs d)] rfl rfl HNEWS.out (by intro z hz; simp at hz; subst hz; rfl) (by have := HN20.out; simp only [maxLen]; omega) (by have := HN20.out; omega) HSZ.out ?_; intro v7 w7 hown7 hgr7 hni7; obtain ⟨g1, g2, g3, g4, g5⟩ := GROW.out v7 w7 hown7 hgr7; have D7 := Lib.hid g1; have L7 := Lib.hid g2; have Y7 := Lib.hid g3; have B7 := Lib.hid g4; have O7 := Lib.hid g5; obtain ⟨m0, m1, m2, m3⟩ := L7.out.four; obtain ⟨y0, y1, y2, y3⟩ := Y7.out.four; have mf0 := L7.out.frozen 0; have mf1 := L7.out.frozen 1; have mf2 := L7.out.frozen 2; have mf3 := L7.out.frozen 3; have g6 := O7.out; rw [← HNX.out] at g6; obtain ⟨gq, cq, hv7, _⟩ := own_strs g6 (by rw [HNX2.out]; omega); clear hown7 hgr7 hni7 g1 g2 g3 g4 g5 g6; subst hv7)
          have hst2 := HST.out
          rw [← HNX2.out] at hst2
          refine ⟨⟨i + 1, nx, all ++ [d], D', v5, _, rfl, rfl, by go_num, by omega, Lib.hid hst2, Lib.hid ?_, Lib.hid ?_, Lib.hid ?_, Lib.hid ?_⟩, by simp [intOf]; omega⟩
          · exact owns_put4 O7.out L7.out (by decide) _ _ _ _
          · rw [← HNX.out]; exact L7.out.put4 _ _ _ _
          · exact D7.out.put4 L7.out (by decide) (by decide) (by decide) _ _ _ _
          · exact below_put4 B7.out SZ.out _ _ _ _
    · obtain rfl : i = n0 := by omega
      obtain ⟨A2, c2, rfl, SA2⟩ := StrC.of_own HO.out rfl
      have HC := Lib.hid (disk_Crash _ wr p gl M v D K kn kc ks HD.out (fun w' hb _ => HKS.out.keep (HB.out.trans hb)) (by omega) (by rw [HG.out.2.2.2.2.2.1, seqW_len]; have := HG.out.2.2.1; omega) HB.out.size)
      obtain ⟨kk, q1, q2, q3⟩ := lg_crash HG.out h0 ks
      obtain ⟨got, hgot⟩ : ∃ got, got = all.take kk := ⟨_, rfl⟩
      have hgl : got.length = kk := by rw [hgot, List.length_take]; omega
      have DL : Hid ((crashed D ks).lasts.length = 21) := Lib.hid (by show (settleK D.lasts (D.waits.zip ks)).length = 21; rw [settleK_len]; exact HG.out.1)
      obtain ⟨D2, hD2⟩ : ∃ D2, D2 = crashed D ks := ⟨_, rfl⟩
      have HN20 : Hid (all.length ≤ 20) := Lib.hid (by have := HG.out.2.2.1; omega)
      have hnc : all.length ≤ c2 := SA2.2.1
      have HNC := Lib.hid hnc
      rw [← hD2] at HC q3 DL
      rw [← hgot] at q3
      have HALL : Hid (∀ W : World, W.ownsRow w.heap.size 9 1 (.slice A2 all.length c2) all.length (strsV all) → StrC W A2 all.length c2 all) := Lib.hid (fun W h => by
        obtain ⟨A', c', e, h'⟩ := StrC.of_own h rfl
        cases e
        exact h')
      obtain ⟨n, hn⟩ : ∃ n, n = all.length := ⟨_, rfl⟩
      have HN := Lib.hid hn
      rw [← hn] at q1 HO HNC HN20 HALL hnc ⊢
      have Q3 := Lib.hid q3
      have HGL := Lib.hid hgl
      have HGOT := Lib.hid hgot
      clear SA2 HD HL HG hn hgot hgl hD2 hlt q3
      go_wp2_with fail
      refine HC.out.mono ?_
      rintro e w4 ⟨rfl, v4, h4, hb4, hk4⟩
      have D4 := Lib.hid h4
      have B4 := Lib.hid (HB.out.trans hb4)
      have O4 := Lib.hid (owns_keeps HO.out hk4)
      have HR : Hid (Calls Tryd.prog 9 #[.pointer (some ⟨p, 0, none⟩), .int .i64 0, .int .i64 21, .int .u64 5] w4 fun e w' => ∃ u, e = .returned (.tuple #[.agg #[.int .i64 0, .int .i64 21, .int .u64 5, .int .i64 (kk : Int)], u, .int .i64 0]) ∧ w'.ownsRow w4.heap.size 9 1 u got.length (strsV got) ∧ Below w4.heap.size w4 w') := Lib.hid (by
        have h := log_Replay _ w4 p gl M v4 D2 0 21 5 h4 (by omega) (by have := DL.out; omega) (by omega)
        rw [Q3.out] at h
        rw [← HGL.out]
        exact h)
      clear h4 hb4 hk4 HC HO HB
      go_wp2_with fail
      refine HR.out.mono ?_
      rintro e w5 ⟨u5, rfl, hu5, hb5⟩
      have B5 := Lib.hid (B4.out.trans (hb5.mono B4.out.size))
      have O5 := Lib.hid (own_keep O4.out hb5)
      obtain ⟨A5, c5, rfl, SG5⟩ := StrC.of_own hu5 rfl
      have SG := Lib.hid SG5
      rw [HGL.out] at SG
      rw [HGL.out]
      clear SG5 hu5 hb5 HR D4 B4 O4
      obtain ⟨W5, hW5⟩ : ∃ W5, W5 = w5.alloc (.cells #[.int .i64 0, .int .i64 21, .int .u64 5, .int .i64 (kk : Int)] 31) := ⟨_, rfl⟩
      have bel5 : Below w5.heap.size w5 W5 := by rw [hW5]; exact (Below.refl _ _).alloc (Nat.le_refl _) _
      have B6 := Lib.hid (B5.out.trans (bel5.mono B5.out.size))
      have O6 := Lib.hid (own_keep O5.out bel5)
      have SG6 := Lib.hid (SG.out.keep bel5)
      have z1 : ((kk : Int) != (kk : Int)) = false := by simp
      have z2 : decide ((kk : Int) < (m : Int)) = false := decide_eq_false (by omega)
      have z2' : decide (kk < m) = false := decide_eq_false (by omega)
      have z3 : decide ((n : Int) < (kk : Int)) = false := decide_eq_false (by omega)
      have z3' : decide (n < kk) = false := decide_eq_false (by omega)
      clear bel5 B5 O5 SG
      go_wp2_with fail
      rw [← hW5]
      refine (HA.out _).mono ?_
      rintro e w6 ⟨rfl, hb6⟩
      have B7 := Lib.hid (B6.out.trans (hb6.mono B6.out.size))
      have SA7 := Lib.hid ((HALL.out _ (own_keep O6.out hb6)).take q1)
      have SG7 := Lib.hid (SG6.out.keep hb6)
      have hkc : (kk : Int) ≤ (c2 : Int) := by omega
      have hkc' : kk ≤ c2 := by omega
      clear hb6 B6 O6 SG6 hW5 z1 z2 z2' z3 z3'
      rw [← HGOT.out] at SA7
      have HTX := Lib.hid (law_texts w6 A5 kk c5 A2 c2 got SG7.out SA7.out)
      go_wp2_with fail
      refine HTX.out.mono ?_
      rintro e w7 ⟨rfl, hb7⟩
      have B8 := Lib.hid (B7.out.trans (hb7.mono B7.out.size))
      clear hb7
      go_wp2_with fail
      go_ret
      exact ⟨rfl, B8.out⟩

theorem logKeeps_walk {w : World} (a0 : Option Addr) (n0 k0 : Nat) (ts : List (List UInt8)) (hT : StrC w a0 n0 k0 ts ∧ ∀ j, (ts.getD j []).length ≤ 9223372036854775807) (y : Nat) (hy : y < 256) (K : Option Addr) (kn kc : Nat) (ks : List Bool) (hK : KSl w K kn ks ∧ (kn : Int) ≤ 9223372036854775807) (w' : World) (hw : w' = w) :
    Calls Tryd.prog 3 #[.slice a0 n0 k0, .int .u8 (y : Int), .slice K kn kc] w' fun e w'' => e = .returned (.bool true) ∧ Below w'.heap.size w' w'' := by
  subst hw
  by_cases h : 20 < n0 ∨ 50 < kn
  · exact logKeeps_idle a0 n0 k0 y K kn kc w' h (by have := hT.1.2.1; have := hT.1.2.2.1; omega) hK.2
  · exact logKeeps_main a0 n0 k0 ts y K kn kc ks w' hT.1 hT.2 hy hK.1 (by omega) (by omega)
end Go.Proofs.YtcnbpajlocoocaaDoor
