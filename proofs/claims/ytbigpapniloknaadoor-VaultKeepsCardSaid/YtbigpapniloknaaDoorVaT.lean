/- The walk of VaultRots. -/
import Derived.Test.YtbigpapniloknaaDoorVaS
import Derived.Test.YtbigpapniloknaaDoorVaY
import Derived.Test.YtbigpapniloknaaDoorSlices0
namespace Go.Proofs.YtbigpapniloknaaDoor
open Go.RowKit Go.Maps
set_option maxRecDepth 100000

/-- What an opening finds of a disk on which nothing waits. -/
theorem VI.opens {D : DSt} {a g : Nat} {st : Bool} {T0 : List UInt8} {all : List (List UInt8)} {sure : Nat} {i : Nat} (h : VI D a g st T0 all sure [] i) (hg : g < 18446744073709551616) (hw : D.waits = []) :
    openC D 2 = 0 ∧ newestF D 2 = (a, g, T0, true) ∧ ∃ m, sure ≤ m ∧ m ≤ all.length ∧ logL D 4 g 6 0 = all.take m := by
  obtain ⟨q1, q2, q3, q4⟩ := h.crash hg [] (crashed_dry hw).symm
  rcases q4 with ⟨r1, m, r2, r3, r4, _⟩ | ⟨t, G, _, _, r, _⟩
  · refine ⟨openC_ok (n := 2) ?_ ?_ ?_ r1, r1, m, r2, r3, r4⟩
    · rw [h.len]; exact q1
    · rw [h.len]; exact q2
    · rw [h.len]; exact q3
  · cases r
theorem rotD_len (D : DSt) (i a : Int) (y : Nat) : (rotD D i a y).lasts.length = D.lasts.length := by
  unfold rotD
  split
  · show (D.lasts.set _ _).length = _; rw [List.length_set]
  · rfl

set_option maxHeartbeats 4000000 in
theorem vaultRots_idle (s : ByteArray) (a0 : Option Addr) (n0 k0 : Nat) (x i y : Nat) (w : World) (h : 200 < s.size ∨ 5 < n0 ∨ y = 0) (hb : (n0 : Int) ≤ 9223372036854775807) :
    Calls Tryd.prog 4 #[.string s, .slice a0 n0 k0, .int .u8 (x : Int), .int .u8 (i : Int), .int .u8 (y : Int)] w fun e w' => e = .returned (.bool true) ∧ Below w.heap.size w w' := by
  have HA := Lib.hid vault_Awake
  by_cases h0 : 200 < s.size
  · have hd : decide ((200 : Int) < (s.size : Int)) = true := decide_eq_true (by omega)
    have hd' : decide (200 < s.size) = true := decide_eq_true h0
    go_enter Tryd.func4, Tryd.ntmps4
    go_wp2_with fail
    refine (HA.out _).mono ?_
    rintro e w1 ⟨rfl, hb⟩
    go_wp2_with fail
    go_ret
    exact ⟨rfl, hb⟩
  · have hd : decide ((200 : Int) < (s.size : Int)) = false := decide_eq_false (by omega)
    have hd' : decide (200 < s.size) = false := decide_eq_false h0
    by_cases h1 : 5 < n0
    · have hd1 : decide ((5 : Int) < (n0 : Int)) = true := decide_eq_true (by omega)
      have hd1' : decide (5 < n0) = true := decide_eq_true h1
      go_enter Tryd.func4, Tryd.ntmps4
      go_wp2_with fail
      refine (HA.out _).mono ?_
      rintro e w1 ⟨rfl, hb⟩
      go_wp2_with fail
      go_ret
      exact ⟨rfl, hb⟩
    · have hd1 : decide ((5 : Int) < (n0 : Int)) = false := decide_eq_false (by omega)
      have hd1' : decide (5 < n0) = false := decide_eq_false h1
      obtain rfl : y = 0 := by omega
      go_enter Tryd.func4, Tryd.ntmps4
      go_wp2_with fail
      refine (HA.out _).mono ?_
      rintro e w1 ⟨rfl, hb⟩
      go_wp2_with fail
      go_ret
      exact ⟨rfl, hb⟩

set_option maxHeartbeats 16000000 in
theorem vaultRots_main (t : List UInt8) (a0 : Option Addr) (n0 k0 : Nat) (ts : List (List UInt8)) (x i y : Nat) (w : World) (ht : t.length ≤ 200) (hT : StrC w a0 n0 k0 ts) (hTl : ∀ j, (ts.getD j []).length ≤ 9223372036854775807) (h0 : n0 ≤ 5) (hy : y ≠ 0) (hy2 : y < 256) (hx : x < 256) (hi : i < 256) :
    Calls Tryd.prog 4 #[.string (bs t), .slice a0 n0 k0, .int .u8 (x : Int), .int .u8 (i : Int), .int .u8 (y : Int)] w fun e w' => e = .returned (.bool true) ∧ Below w.heap.size w w' := by
  have HA := Lib.hid vault_Awake
  have HN := Lib.hid (disk_New 10 w (by omega) (by omega))
  have HT := Lib.hid hT
  have HTL := Lib.hid hTl
  have HY := Lib.hid hy
  have hsz := bs_size t
  have hd0 : decide ((200 : Int) < (t.length : Int)) = false := decide_eq_false (by omega)
  have hd0' : decide (200 < t.length) = false := decide_eq_false (by omega)
  have hd1 : decide ((5 : Int) < (n0 : Int)) = false := decide_eq_false (by omega)
  have hd1' : decide (5 < n0) = false := decide_eq_false (by omega)
  have hd2 : ((y : Int) == 0) = false := by rw [beq_eq_false_iff_ne]; omega
  obtain ⟨DF, hDF⟩ : ∃ DF, DF = (formatD (newD 10) 2 t).1 := ⟨_, rfl⟩
  obtain ⟨fc, fa, fw, fv⟩ := VI.begins (t := t) (by omega)
  have FS : Hid (SmallN 400000 DF) := Lib.hid (by rw [hDF, format_new]; exact SmallN.lay ((smallN_new 10).mono (by omega)) (by omega))
  rw [← hDF] at fa fw fv
  have FV := Lib.hid fv
  have FA := Lib.hid fa
  have FW := Lib.hid fw
  have HFC : Hid (formatD (newD 10) 2 t = (DF, 0)) := Lib.hid (Prod.ext hDF.symm fc)
  have HTX : Hid (t.length ≤ 200) := Lib.hid ht
  obtain ⟨ho1, ho2, m0, ho3, ho4, ho5⟩ := fv.opens (by decide) fw
  have HO1 := Lib.hid ho1
  have HO2 := Lib.hid ho2
  have HO5 : Hid (logL DF 4 1 6 0 = []) := Lib.hid (by rw [ho5, List.take_nil])
  have HN0 : Hid (n0 ≤ 5) := Lib.hid h0
  obtain ⟨r, hr⟩ : ∃ r, r = i % 10 := ⟨_, rfl⟩
  have hr10 : r < 10 := by omega
  have hri : (i : Int) % 10 = (r : Int) := by omega
  have hrt : (i : Int).tmod 10 = (r : Int) := by rw [Int.tmod_eq_emod_of_nonneg (by omega)]; exact hri
  obtain ⟨q, hq⟩ : ∃ q, q = x % 128 := ⟨_, rfl⟩
  have hq128 : q < 128 := by omega
  have hqi : (x : Int) % 128 = (q : Int) := by omega
  have hqt : (x : Int).tmod 128 = (q : Int) := by rw [Int.tmod_eq_emod_of_nonneg (by omega)]; exact hqi
  have HR := Lib.hid (⟨hri, hrt, hqi, hqt, hr10, hq128, hy2⟩ : (i : Int) % 10 = (r : Int) ∧ (i : Int).tmod 10 = (r : Int) ∧ (x : Int) % 128 = (q : Int) ∧ (x : Int).tmod 128 = (q : Int) ∧ r < 10 ∧ q < 128 ∧ y < 256)
  clear ht hT hTl hy hy2 hDF fc fa fw fv ho1 ho2 ho3 ho4 ho5 h0 hr hri hrt hq hqi hqt hr10 hq128
  go_enter Tryd.func4, Tryd.ntmps4
  go_wp2_with fail
  refine HN.out.mono ?_
  rintro e w1 ⟨p, gl, M, v, rfl, h1, hb1⟩
  have B1 := Lib.hid hb1
  have HF : Hid (Calls Tryd.prog 7 #[.pointer (some ⟨p, 0, none⟩), .int .i64 2, .string (bs t)] w1 fun e w' => e = .returned (.int .i64 0) ∧ ∃ v', IsDisk w.heap.size w' p gl M v' DF ∧ Below w.heap.size w1 w' ∧ Keeps w1 w') := Lib.hid (by
    have h := vault_Format _ w1 p gl M v (newD 10) 2 t h1 ((smallN_new 10).mono (by omega)) hb1.size (by decide) (by simp [newD]) (by have := HTX.out; omega)
    rw [HFC.out] at h
    exact h)
  clear h1 hb1 HN hd0 hd0' hd1 hd1' hd2
  go_wp2_with fail
  refine HF.out.mono ?_
  rintro e w2 ⟨rfl, v2, h2, b2, _⟩
  have B2 := Lib.hid (B1.out.trans b2)
  have D2 := Lib.hid h2
  have HO : Hid (Calls Tryd.prog 8 #[.pointer (some ⟨p, 0, none⟩), .int .i64 2] w2 fun e w' => ∃ u, e = .returned (.tuple #[.agg #[.int .i64 2, .int .i64 0, .int .i64 4, .int .i64 6, .int .u64 1, .int .i64 0, .bool true], .string (bs t), u, .int .i64 0]) ∧ Below w2.heap.size w2 w') := Lib.hid (by
    have h := vault_Open_yes _ w2 p gl M v2 DF 2 h2 (by decide) (by rw [FV.out.len]; decide) HO1.out (by rw [HO2.out]; exact (by decide : 1 < 18446744073709551616))
    rw [HO2.out, FV.out.len] at h
    dsimp only at h
    rw [show logL DF (2 * 2) 1 (10 - 2 * 2) 0 = [] from HO5.out] at h
    refine h.mono ?_
    rintro e w' ⟨u, q1, _, q3⟩
    exact ⟨u, q1, q3⟩)
  clear h2 b2 HF B1 HO1 HO2 HO5 HFC
  go_wp2_with fail
  refine HO.out.mono ?_
  rintro e w3 ⟨u3, rfl, b3⟩
  have D3 := Lib.hid (D2.out.keep b3)
  have B3 := Lib.hid (B2.out.trans (b3.mono B2.out.size))
  clear b3 HO D2 B2
  obtain ⟨W3, hW3⟩ : ∃ W3, W3 = w3.alloc (.cells #[.int .i64 2, .int .i64 0, .int .i64 4, .int .i64 6, .int .u64 1, .int .i64 0, .bool true] 33) := ⟨_, rfl⟩
  have bel3 : Below w3.heap.size w3 W3 := by rw [hW3]; exact (Below.refl _ _).alloc (Nat.le_refl _) _
  have V3 : Hid (Blk W3 w3.heap.size 33 [.int .i64 2, .int .i64 0, .int .i64 4, .int .i64 6, .int .u64 1, .int .i64 0, .bool true]) := Lib.hid (by rw [hW3]; exact Blk.box7 _ _ _ _ _ _ _ _ _)
  have D4 := Lib.hid (D3.out.keep bel3)
  have B4 := Lib.hid (B3.out.trans (bel3.mono B3.out.size))
  have S4 := Lib.hid B3.out.size
  clear bel3 D3 B3
  obtain ⟨g, hg⟩ : ∃ g, g = genN DF 2 0 + 1 := ⟨_, rfl⟩
  have HGB : Hid (g < 18446744073709551616 ∧ g = genN DF 2 0 + 1) := Lib.hid ⟨by
    have := FV.out.gen
    rw [hg, genN_two FV.out.len (by decide)]
    omega, hg⟩
  have HST : Hid (Calls Tryd.prog 10 #[.agg #[.int .i64 2, .int .i64 0, .int .i64 4, .int .i64 6, .int .u64 1, .int .i64 0, .bool true], .pointer (some ⟨p, 0, none⟩), .string (bs t)] W3 fun e w' => e = .returned (.tuple #[.agg #[.int .i64 2, .int .i64 1, .int .i64 4, .int .i64 6, .int .u64 (g : Int), .int .i64 0, .bool false], .int .i64 0]) ∧ ∃ (v' : Value) (D' : DSt), IsDisk w.heap.size w' p gl M v' D' ∧ Below w.heap.size W3 w' ∧ Keeps W3 w' ∧ VI D' 1 g false t [] 0 [] 1 ∧ D'.armed = 0 ∧ D'.waits = [] ∧ SmallN 300000 D') := Lib.hid (by
    have h := vault_Settle _ W3 p gl M v2 DF 2 0 1 4 6 0 true t D4.out (FS.out.mono (by decide)) B4.out.size (by decide) (by decide) (by decide) (by decide) (by have := HTX.out; omega) (by have := HTX.out; omega) (by rw [← HGB.out.2]; exact HGB.out.1)
    refine h.mono ?_
    rintro e w' ⟨D', c, st', rfl, hr, ⟨v', hd⟩, hb, hk⟩
    obtain ⟨z1, z2, z3⟩ := settle_zero FV.out FA.out (by have := HTX.out; omega) hr
    have hs := SmallN.settle (n := 300000) (FS.out.mono (by decide)) (by have := HTX.out; omega) hr
    subst z1
    rcases FV.out.settle (by decide) (by have := HTX.out; omega) hr with ⟨_, hv⟩ | ⟨hv, _⟩
    · rw [← hg] at hv
      refine ⟨?_, v', D', hd, hb, hk, hv, z2, z3, hs⟩
      unfold settleV
      rw [if_pos rfl, ← hg]
      rfl
    · exact absurd rfl hv)
  clear hg FS FV FA FW
  go_upto_region 9 with fail
  rw [← hW3]
  clear hW3
  obtain ⟨a0', a1, a2, a3, a4, a5, a6⟩ := V3.out.sevenV
  go_wp2_with fail
  refine HST.out.mono ?_
  rintro e w7 ⟨rfl, v7, D7, h7, b7, k7, vi7, ar7, wt7, sm7⟩
  have V7 := Lib.hid (k7 _ _ _ (by decide) (by decide) (by decide) V3.out)
  have D7' := Lib.hid h7
  have B7 := Lib.hid (B4.out.trans b7)
  have I7 := Lib.hid (⟨vi7, ar7, wt7, sm7⟩ : VI D7 1 g false t [] 0 [] 1 ∧ D7.armed = 0 ∧ D7.waits = [] ∧ SmallN 300000 D7)
  clear h7 b7 k7 HST V3 D4 B4 a0' a1 a2 a3 a4 a5 a6 vi7 ar7 wt7 sm7
  obtain ⟨a0', a1, a2, a3, a4, a5, a6⟩ := V7.out.sevenV
  obtain ⟨f0, f1, f2, f3, f4, f5, f6⟩ := V7.out.frozen7
  obtain ⟨W7, hW7⟩ : ∃ W7, W7 = (((((((w7.setCell ⟨w3.heap.size, 0, none⟩ (.int .i64 2)).setCell ⟨w3.heap.size, 1, none⟩ (.int .i64 1)).setCell ⟨w3.heap.size, 2, none⟩ (.int .i64 4)).setCell ⟨w3.heap.size, 3, none⟩ (.int .i64 6)).setCell ⟨w3.heap.size, 4, none⟩ (.int .u64 (g : Int))).setCell ⟨w3.heap.size, 5, none⟩ (.int .i64 0)).setCell ⟨w3.heap.size, 6, none⟩ (.bool false)) := ⟨_, rfl⟩
  have V8 : Hid (Blk W7 w3.heap.size 33 [.int .i64 2, .int .i64 1, .int .i64 4, .int .i64 6, .int .u64 (g : Int), .int .i64 0, .bool false]) := Lib.hid (by rw [hW7]; exact V7.out.put7 _ _ _ _ _ _ _)
  have D8 : Hid (IsDisk w.heap.size W7 p gl M v7 D7) := Lib.hid (by rw [hW7]; exact D7'.out.put7 V7.out (by decide) (by decide) (by decide) _ _ _ _ _ _ _)
  have B8 : Hid (Below w.heap.size w W7) := Lib.hid (by rw [hW7]; exact below_put7 B7.out S4.out _ _ _ _ _ _ _)
  go_upto_region 12 with fail
  rw [← hW7]
  clear hW7 V7 D7' B7 a0' a1 a2 a3 a4 a5 a6 f0 f1 f2 f3 f4 f5 f6
  go_wp2_with fail
  go_loopw [16, 66] (fun ev iv wr => ∃ (k : Nat) (D : DSt) (v : Value), ev = .int .i64 0 ∧ iv = .int .i64 k ∧ k ≤ n0 ∧ Hid (VI D 1 g false t (ts.take k) k [] 1 ∧ D.armed = 0 ∧ D.waits = [] ∧ SmallN (300000 - 10 * k) D) ∧ Hid (Blk wr w3.heap.size 33 [.int .i64 2, .int .i64 1, .int .i64 4, .int .i64 6, .int .u64 (g : Int), .int .i64 (k : Int), .bool false]) ∧ Hid (IsDisk w.heap.size wr p gl M v D) ∧ Hid (Below w.heap.size w wr)) (fun _ iv _ => n0 - (intOf iv).toNat)
  case atStart => exact ⟨0, D7, v7, rfl, rfl, Nat.zero_le _, I7, V8, D8, B8⟩
  case round =>
    obtain ⟨k, D, v, rfl, rfl, hk, HI, HV, HD, HB⟩ := hrel
    clear I7 V8 D8 B8
    by_cases hlt : k < n0
    · obtain ⟨ab, ao, rfl, hbl, hcx⟩ := (HT.out.keep HB.out).2.2.2 (by omega)
      have htl : ts.length = n0 := HT.out.1
      obtain ⟨d, hdd⟩ : ∃ d, d = ts.getD k [] := ⟨_, rfl⟩
      have hc := hcx k hlt
      rw [← hdd] at hc
      have hsd := bs_size d
      have HDL : Hid (d.length ≤ 9223372036854775807) := Lib.hid (by rw [hdd]; exact HTL.out k)
      have hd : decide ((k : Int) < (n0 : Int)) = true := decide_eq_true (by omega)
      have hd' : decide (k < n0) = true := decide_eq_true hlt
      have hkw : IntKind.i64.wrap ((k : Int) + 1) = (k : Int) + 1 := IntWalk.i64_in _ (by have := HN0.out; omega)
      have HTK : Hid (ts.take (k + 1) = ts.take k ++ [d] ∧ (ts.take k).length = k) := Lib.hid ⟨by
        rw [List.take_succ_eq_append_getElem (by omega), hdd, List.getD_eq_getElem?_getD, List.getElem?_eq_getElem (by omega)]
        rfl, by rw [List.length_take]; omega⟩
      clear hcx hdd hbl htl
      by_cases hlong : 110 < d.length
      · have hdl : decide ((110 : Int) < (d.length : Int)) = true := decide_eq_true (by omega)
        have hdl' : decide (110 < d.length) = true := decide_eq_true hlong
        go_wp2_with fail
        refine (HA.out _).mono ?_
        rintro e w4 ⟨rfl, hb4⟩
        have B4 := Lib.hid (HB.out.trans (hb4.mono HB.out.size))
        clear hb4
        go_wp2_with fail
        go_ret
        exact ⟨rfl, B4.out⟩
      · have hdl : decide ((110 : Int) < (d.length : Int)) = false := decide_eq_false (by omega)
        have hdl' : decide (110 < d.length) = false := decide_eq_false hlong
        obtain ⟨E, hE⟩ : ∃ E, E = (appL D 4 6 g k d).1 := ⟨_, rfl⟩
        have HST : Hid ((appL D 4 6 g k d).2.1 = k + 1 ∧ (appL D 4 6 g k d).2.2 = 0 ∧ E.armed = 0 ∧ E.waits = [] ∧ VI E 1 g false t (ts.take (k + 1)) (k + 1) [] 1) := Lib.hid (by
          have h := append_zero HI.out.1 (by decide) HI.out.2.1 HI.out.2.2.1 (d := d) (by rw [HTK.out.2]; have := HN0.out; omega) (by omega)
          rw [HTK.out.2, ← hE, ← HTK.out.1] at h
          exact h)
        have HSE : Hid (SmallN (300000 - 10 * (k + 1)) E) := Lib.hid (by
          rw [hE]
          exact SmallN.app (HI.out.2.2.2.mono (by have := HN0.out; omega)) _ _ _ _ _)
        have HAP : Hid (Calls Tryd.prog 9 #[.agg #[.int .i64 2, .int .i64 1, .int .i64 4, .int .i64 6, .int .u64 (g : Int), .int .i64 (k : Int), .bool false], .pointer (some ⟨p, 0, none⟩), .string (bs d)] wr fun e w' => e = .returned (.tuple #[.agg #[.int .i64 2, .int .i64 1, .int .i64 4, .int .i64 6, .int .u64 (g : Int), .int .i64 (k + 1 : Int), .bool false], .int .i64 0]) ∧ ∃ v', IsDisk w.heap.size w' p gl M v' E ∧ Below w.heap.size wr w' ∧ Keeps wr w') := Lib.hid (by
          have hs := HI.out.2.2.2
          have h := vault_Append _ wr p gl M v D 2 1 4 6 g k d HD.out ⟨hs.1, by have := hs.2.1; have := HN0.out; omega, by have := hs.2.2; have := HN0.out; omega⟩ HB.out.size (by decide) (by rw [HI.out.1.len]; decide) (by have := HN0.out; omega) HGB.out.1 HDL.out
          rw [← hE, HST.out.1, HST.out.2.1] at h
          exact h)
        clear hE hlong
        obtain ⟨a0', a1, a2, a3, a4, a5, a6⟩ := HV.out.sevenV
        go_wp2_with fail
        refine HAP.out.mono ?_
        rintro e w5 ⟨rfl, v5, h5, hb5, hk5⟩
        have V5 := Lib.hid (hk5 _ _ _ (by decide) (by decide) (by decide) HV.out)
        have D5 := Lib.hid h5
        have B5 := Lib.hid (HB.out.trans hb5)
        clear h5 hb5 hk5 HAP HV HD HB a0' a1 a2 a3 a4 a5 a6 hc
        obtain ⟨a0', a1, a2, a3, a4, a5, a6⟩ := V5.out.sevenV
        obtain ⟨f0, f1, f2, f3, f4, f5, f6⟩ := V5.out.frozen7
        go_wp2_with fail
        refine ⟨⟨k + 1, E, v5, rfl, by go_num, by omega, Lib.hid ⟨HST.out.2.2.2.2, HST.out.2.2.1, HST.out.2.2.2.1, HSE.out⟩, Lib.hid ?_, Lib.hid ?_, Lib.hid ?_⟩, by simp [intOf]; omega⟩
        · exact V5.out.put7 _ _ _ _ _ _ _
        · exact D5.out.put7 V5.out (by decide) (by decide) (by decide) _ _ _ _ _ _ _
        · exact below_put7 B5.out S4.out _ _ _ _ _ _ _
    · obtain rfl : k = n0 := by omega
      have hd : decide ((k : Int) < (k : Int)) = false := decide_eq_false (by omega)
      have hd' : decide (k < k) = false := decide_eq_false (by omega)
      obtain ⟨hri, hrt, hqi, hqt, hr10, hq128, hy2⟩ := HR.out
      have hrw : IntKind.u8.wrap (r : Int) = (r : Int) := IntWalk.u8_in _ (by omega)
      have hrw2 : IntKind.i64.wrap (r : Int) = (r : Int) := IntWalk.i64_in _ (by omega)
      have hqw : IntKind.u8.wrap (q : Int) = (q : Int) := IntWalk.u8_in _ (by omega)
      have hqw2 : IntKind.i64.wrap (q : Int) = (q : Int) := IntWalk.i64_in _ (by omega)
      have hlen := HI.out.1.len
      have hok := HI.out.1.ok
      obtain ⟨s, hs⟩ : ∃ s, s = (rdD D (r : Int)).1 := ⟨_, rfl⟩
      obtain ⟨c1, hc1⟩ : ∃ c1, c1 = (rdD D (r : Int)).2 := ⟨_, rfl⟩
      obtain ⟨E, hE⟩ : ∃ E, E = rotD D (r : Int) (q : Int) y := ⟨_, rfl⟩
      have HRD := Lib.hid (disk_Read _ wr p gl M v D (r : Int) HD.out)
      have HRO := Lib.hid (disk_Rot _ wr p gl M v D (r : Int) (q : Int) y hy2 HD.out)
      have HEL : Hid (E.lasts.length = 10) := Lib.hid (by rw [hE, rotD_len]; exact hlen)
      have HTWO : Hid (openC E 2 = 8 ∨ s = secOf 0) := Lib.hid (by
        rcases HI.out.1.okc r hr10 (view D r) (poss_view (by omega)) with z | z
        · have hz := rot_code HI.out.2.2.1 hlen hok hr10 hq128 HY.out hy2 z
          rw [← hE] at hz
          exact .inl (openC_broken (j := r) (by rw [hE, rotD_len]; omega) (by rw [hz]; decide) (by rw [hz]; decide))
        · have := blank_16 (poss_len hok (by omega) (poss_view (by omega))) z
          rw [hs]
          exact .inr this)
      rw [← hs, ← hc1] at HRD
      rw [← hE] at HRO
      clear hs hc1 hE hlen hok hr10 hq128 hy2 hlt HR
      go_wp2_with fail
      refine HRD.out.mono ?_
      rintro e w4 ⟨rfl, rfl⟩
      go_wp2_with fail
      refine HRO.out.mono ?_
      rintro e w5 ⟨rfl, h5, b5, _⟩
      have D5 := Lib.hid h5
      have B5 := Lib.hid (HB.out.trans b5)
      clear h5 b5 HRO HRD HD HB HV
      obtain ⟨c, hc⟩ : ∃ c, c = openC E 2 := ⟨_, rfl⟩
      have HOP : Hid (Calls Tryd.prog 8 #[.pointer (some ⟨p, 0, none⟩), .int .i64 2] w5 fun e w' => ∃ x0 x1 x2, e = .returned (.tuple #[x0, x1, x2, .int .i64 (c : Int)]) ∧ Below w5.heap.size w5 w') := Lib.hid (by
        by_cases h0 : openC E 2 = 0
        · have h := vault_Open_yes _ w5 p gl M v E 2 D5.out (by decide) (by rw [HEL.out]; decide) h0 (newest_lt HEL.out (fun j hj => poss_len D5.out.2.2.2.2.1 (by rw [HEL.out]; exact hj) (poss_view (by rw [HEL.out]; exact hj))))
          refine h.mono ?_
          rintro e w' ⟨u, q1, _, q3⟩
          rw [hc, h0]
          exact ⟨_, _, _, q1, q3⟩
        · have h := vault_Open_no _ w5 p gl M v E 2 D5.out (by decide) (by rw [HEL.out]; decide) h0
          refine h.mono ?_
          rintro e w' ⟨q1, q3⟩
          rw [hc]
          exact ⟨_, _, _, q1, q3⟩)
      rw [← hc] at HTWO
      clear hc hri hrt hqi hqt hrw hrw2 hqw hqw2 hd hd'
      go_wp2_with fail
      refine HOP.out.mono ?_
      rintro e w6 ⟨x0, x1, x2, rfl, b6⟩
      have B6 := Lib.hid (B5.out.trans (b6.mono B5.out.size))
      clear b6 HOP
      go_wp2_with fail
      refine (HA.out _).mono ?_
      rintro e w7 ⟨rfl, b7⟩
      have B7 := Lib.hid (B6.out.trans (b7.mono B6.out.size))
      clear b7
      by_cases h8 : c = 8
      · have hc8 : ((c : Int) == 8) = true := by rw [beq_iff_eq]; omega
        clear h8
        go_wp2_with fail
        go_ret
        exact ⟨rfl, B7.out⟩
      · have hc8 : ((c : Int) == 8) = false := by rw [beq_eq_false_iff_ne]; omega
        have HSB : Hid (s = secOf 0) := Lib.hid (HTWO.out.resolve_left h8)
        clear h8
        go_wp2_with fail
        refine (ref_Blank _).mono ?_
        rintro e w8 ⟨rfl, b8⟩
        have B8 := Lib.hid (B7.out.trans (b8.mono B7.out.size))
        clear b8
        rw [HSB.out]
        go_wp2_with fail
        go_ret
        exact ⟨rfl, B8.out⟩

theorem vaultRots_walk {w : World} (s : ByteArray) (hs : s.size ≤ maxLen) (a0 : Option Addr) (n0 k0 : Nat) (ts : List (List UInt8)) (hT : StrC w a0 n0 k0 ts ∧ ∀ j, (ts.getD j []).length ≤ 9223372036854775807) (x : Nat) (hx : x < 256) (i : Nat) (hi : i < 256) (y : Nat) (hy : y < 256) (w' : World) (hw : w' = w) :
    Calls Tryd.prog 4 #[.string s, .slice a0 n0 k0, .int .u8 (x : Int), .int .u8 (i : Int), .int .u8 (y : Int)] w' fun e w'' => e = .returned (.bool true) ∧ Below w'.heap.size w' w'' := by
  subst hw
  by_cases h : 200 < s.size ∨ 5 < n0 ∨ y = 0
  · exact vaultRots_idle s a0 n0 k0 x i y w' h (by have := hT.1.2.1; have := hT.1.2.2.1; omega)
  · have e : s = bs s.data.toList := by unfold bs; cases s; simp
    have hl : s.data.toList.length = s.size := by rw [e, bs_size, ← e]
    rw [e]
    exact vaultRots_main s.data.toList a0 n0 k0 ts x i y w' (by omega) hT.1 hT.2 (by omega) (by omega) hy hx hi
end Go.Proofs.YtbigpapniloknaaDoor
