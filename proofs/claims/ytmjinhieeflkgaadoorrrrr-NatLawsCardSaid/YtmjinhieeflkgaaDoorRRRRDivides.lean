/- The statement NatDivides walked. -/
import Derived.Test.YtmjinhieeflkgaaDoorRRRRBox
import Derived.Test.YtmjinhieeflkgaaDoorRRRRRefG
namespace Go.Proofs.YtmjinhieeflkgaaDoorRRRR
open Go.RowKit

theorem small_lim {xs : List Nat} {m : Nat} (hd : Dig B64 xs) (hl : xs.length = m) (hm : m ≤ 64) : val B64 xs < Lim := by
  have := val_lt hd
  rw [hl] at this
  exact Nat.lt_of_lt_of_le this (Nat.pow_le_pow_right B64_pos hm)

set_option maxHeartbeats 8000000 in
set_option maxRecDepth 100000 in
theorem natDivides_walk (a0 : Option Addr) (len0 cap0 : Nat) (z0 : List Int) (a1 : Option Addr) (len1 cap1 : Nat) (z1 : List Int) (w : World) (w0 : RowOf .u64 w a0 len0 cap0 z0) (w1 : RowOf .u64 w a1 len1 cap1 z1) (ht : Tz w) :
    Calls Tryd.prog 3 #[.slice a0 len0 cap0, .slice a1 len1 cap1] w fun e w' => e = .returned (.bool true) ∧ Below w.heap.size w w' := by
  obtain ⟨xs, hsx, hdx⟩ := w0.sl
  obtain ⟨ys, hsy, hdy⟩ := w1.sl
  have hLX := hsx.1
  have hLY := hsy.1
  have SX_0 := Lib.hid hsx
  have SY_0 := Lib.hid hsy
  have T_0 := Lib.hid ht
  have B_0 : Hid (Below w.heap.size w w) := Lib.hid (Below.refl _ _)
  clear hsx hsy w0 w1 ht
  by_cases hbig : 40 < len0 ∨ 40 < len1
  · have HLX := Lib.hid hLX
    have HLY := Lib.hid hLY
    clear hLX hLY
    rcases (show 40 < len0 ∨ (¬ 40 < len0 ∧ 40 < len1) from by omega) with h | ⟨h, h2⟩
    all_goals
      go_enter Tryd.func3, Tryd.ntmps3
      go_wp2_with fail
      refine (law_Awake _).mono ?_
      rintro e w10 ⟨rfl, hb10⟩
      have HB10 := Lib.hid hb10
      clear hb10
      go_wp2
      go_ret
      exact ⟨rfl, HB10.out⟩
  have hl0 : ¬ 40 < len0 := by omega
  have hl1 : ¬ 40 < len1 := by omega
  clear hbig
  have hxl := small_lim hdx hLX (by omega)
  have hyl := small_lim hdy hLY (by omega)
  have HDX : Hid (∀ (W : World) (A : Option Addr) (n c : Nat), Rep .i64 65536 W A n c (val B64 xs) → n ≤ 160) := Lib.hid (fun W A n c h => Nat.le_trans (h.dig_le hdx hLX) (by omega))
  have HDY : Hid (∀ (W : World) (A : Option Addr) (n c : Nat), Rep .i64 65536 W A n c (val B64 ys) → n ≤ 160) := Lib.hid (fun W A n c h => Nat.le_trans (h.dig_le hdy hLY) (by omega))
  have HX := Lib.hid hdx
  have HY := Lib.hid hdy
  obtain ⟨x, hx⟩ : ∃ x, x = val B64 xs := ⟨_, rfl⟩
  obtain ⟨y, hy⟩ : ∃ y, y = val B64 ys := ⟨_, rfl⟩
  rw [← hx] at hxl HDX
  rw [← hy] at hyl HDY
  have HXE := Lib.hid hx
  have HYE := Lib.hid hy
  have HXL := Lib.hid hxl
  have HYL := Lib.hid hyl
  clear hLX hLY hdx hdy hx hy hxl hyl
  go_enter Tryd.func3, Tryd.ntmps3
  go_wp2_with fail
  refine (ref_From a0 len0 cap0 xs _ SX_0.out HX.out (by omega)).mono ?_
  rintro e wa ⟨M, nm, cm, rfl, hrm, hb⟩
  have SX_1 := Lib.hid (SX_0.out.keep hb)
  have SY_1 := Lib.hid (SY_0.out.keep hb)
  have T_1 := Lib.hid (T_0.out.keep hb)
  have B_1 := Lib.hid (keepW B_0.out hb)
  rw [← HXE.out] at hrm
  have hnm := HDX.out _ _ _ _ hrm
  clear hb B_0 SX_0 SY_0 T_0 
  have M_0 := Lib.hid (hrm)
  clear hrm
  go_wp2_with fail
  refine (ref_From a1 len1 cap1 ys _ SY_1.out HY.out (by omega)).mono ?_
  rintro e wb ⟨N, nn, cn, rfl, hrn, hb⟩
  have SX_2 := Lib.hid (SX_1.out.keep hb)
  have SY_2 := Lib.hid (SY_1.out.keep hb)
  have T_2 := Lib.hid (T_1.out.keep hb)
  have M_1 := Lib.hid (M_0.out.keep hb)
  have B_2 := Lib.hid (keepW B_1.out hb)
  rw [← HYE.out] at hrn
  have hnn := HDY.out _ _ _ _ hrn
  clear hb B_1 SX_1 SY_1 T_1 M_0 
  have N_0 := Lib.hid (hrn)
  clear hrn
  go_wp2_with fail
  refine (nat_From a0 len0 cap0 xs _ SX_2.out HX.out).mono ?_
  rintro e wc ⟨A, n, c, code, rfl, hgot, hb⟩
  have SX_3 := Lib.hid (SX_2.out.keep hb)
  have SY_3 := Lib.hid (SY_2.out.keep hb)
  have T_3 := Lib.hid (T_2.out.keep hb)
  have M_2 := Lib.hid (M_1.out.keep hb)
  have N_1 := Lib.hid (N_0.out.keep hb)
  have B_3 := Lib.hid (keepW B_2.out hb)
  rw [← HXE.out] at hgot
  obtain ⟨rfl, hra⟩ := hgot.ok HXL.out
  have hn := hra.le64 HXL.out
  clear hb B_2 SX_2 SY_2 T_2 M_1 N_0 
  have hal : Below wc.heap.size wc (wc.alloc (.cells #[.slice A n c] 28)) := (Below.refl _ _).alloc (Nat.le_refl _) _
  have SX_4 := Lib.hid (SX_3.out.keep hal)
  have SY_4 := Lib.hid (SY_3.out.keep hal)
  have T_4 := Lib.hid (T_3.out.keep hal)
  have M_3 := Lib.hid (M_2.out.keep hal)
  have N_2 := Lib.hid (N_1.out.keep hal)
  have B_4 := Lib.hid (keepW B_3.out hal)
  have XA_0 := Lib.hid (Box.new hra)
  have cXA_0 := XA_0.out.cell
  clear hal B_3 SX_3 SY_3 T_3 M_2 N_1
  clear hra hgot
  clear SX_4
  go_wp2_with fail
  refine (nat_From a1 len1 cap1 ys _ SY_4.out HY.out).mono ?_
  rintro e wd ⟨B, m, cb, code, rfl, hgot, hb⟩
  have SY_5 := Lib.hid (SY_4.out.keep hb)
  have T_5 := Lib.hid (T_4.out.keep hb)
  have M_4 := Lib.hid (M_3.out.keep hb)
  have N_3 := Lib.hid (N_2.out.keep hb)
  have XA_1 := Lib.hid (XA_0.out.keep hb)
  have cXA_1 := XA_1.out.cell
  have B_5 := Lib.hid (keepW B_4.out hb)
  rw [← HYE.out] at hgot
  obtain ⟨rfl, hrb⟩ := hgot.ok HYL.out
  have hm := hrb.le64 HYL.out
  clear hb B_4 SY_4 T_4 M_3 N_2 XA_0 cXA_0 
  have hal : Below wd.heap.size wd (wd.alloc (.cells #[.slice B m cb] 28)) := (Below.refl _ _).alloc (Nat.le_refl _) _
  have SY_6 := Lib.hid (SY_5.out.keep hal)
  have T_6 := Lib.hid (T_5.out.keep hal)
  have M_5 := Lib.hid (M_4.out.keep hal)
  have N_4 := Lib.hid (N_3.out.keep hal)
  have XA_2 := Lib.hid (XA_1.out.keep hal)
  have cXA_2 := XA_2.out.cell
  have B_6 := Lib.hid (keepW B_5.out hal)
  have XB_0 := Lib.hid (Box.new hrb)
  have cXB_0 := XB_0.out.cell
  clear hal B_5 SY_5 T_5 M_4 N_3 XA_1 cXA_1
  clear hrb hgot
  clear SY_6
  go_wp2_with fail
  refine (nat_Div A n c x B m cb y _ XA_2.out.2 XB_0.out.2 (by omega) HXL.out).mono ?_
  rintro e wf ⟨A1, n1, c1, A2, n2, c2, code, rfl, hb, hdiv⟩
  have T_7 := Lib.hid (T_6.out.keep hb)
  have M_6 := Lib.hid (M_5.out.keep hb)
  have N_5 := Lib.hid (N_4.out.keep hb)
  have XA_3 := Lib.hid (XA_2.out.keep hb)
  have cXA_3 := XA_3.out.cell
  have XB_1 := Lib.hid (XB_0.out.keep hb)
  have cXB_1 := XB_1.out.cell
  have B_7 := Lib.hid (keepW B_6.out hb)
  have HDIV := Lib.hid hdiv
  clear hdiv
  clear hb B_6 T_6 M_5 N_4 XA_2 cXA_2 XB_0 cXB_0 
  by_cases hy0 : y = 0
  · obtain ⟨hy0b, rfl, hrq, hrr⟩ | ⟨hy0b, _⟩ := HDIV.out
    rotate_left
    · omega
    clear HDIV hy0b
    have hrr2 := hrr.alloc (.cells #[.slice A1 n1 c1] 28)
    have hal : Below wf.heap.size wf (wf.alloc (.cells #[.slice A1 n1 c1] 28)) := (Below.refl _ _).alloc (Nat.le_refl _) _
    have T_8 := Lib.hid (T_7.out.keep hal)
    have M_7 := Lib.hid (M_6.out.keep hal)
    have N_6 := Lib.hid (N_5.out.keep hal)
    have XA_4 := Lib.hid (XA_3.out.keep hal)
    have cXA_4 := XA_4.out.cell
    have XB_2 := Lib.hid (XB_1.out.keep hal)
    have cXB_2 := XB_2.out.cell
    have B_8 := Lib.hid (keepW B_7.out hal)
    have XQ_0 := Lib.hid (Box.new hrq)
    have cXQ_0 := XQ_0.out.cell
    clear hal B_7 T_7 M_6 N_5 XA_3 cXA_3 XB_1 cXB_1
    clear hrq hrr
    have hal : Below ((wf.alloc (.cells #[.slice A1 n1 c1] 28))).heap.size ((wf.alloc (.cells #[.slice A1 n1 c1] 28))) (((wf.alloc (.cells #[.slice A1 n1 c1] 28))).alloc (.cells #[.slice A2 n2 c2] 28)) := (Below.refl _ _).alloc (Nat.le_refl _) _
    have T_9 := Lib.hid (T_8.out.keep hal)
    have M_8 := Lib.hid (M_7.out.keep hal)
    have N_7 := Lib.hid (N_6.out.keep hal)
    have XA_5 := Lib.hid (XA_4.out.keep hal)
    have cXA_5 := XA_5.out.cell
    have XB_3 := Lib.hid (XB_2.out.keep hal)
    have cXB_3 := XB_3.out.cell
    have XQ_1 := Lib.hid (XQ_0.out.keep hal)
    have cXQ_1 := XQ_1.out.cell
    have B_9 := Lib.hid (keepW B_8.out hal)
    have XR_0 := Lib.hid (Box.new2 hrr2)
    have cXR_0 := XR_0.out.cell
    clear hal B_8 T_8 M_7 N_6 XA_4 cXA_4 XB_2 cXB_2 XQ_0 cXQ_0
    clear hrr2
    have hn1 : n1 = 0 := (XQ_1.out.2.zero_iff B64_pos).2 rfl
    have hn2 : n2 = 0 := (XR_0.out.2.zero_iff B64_pos).2 rfl
    have hnn0 : nn = 0 := (N_7.out.zero_iff (by decide)).2 hy0
    have HQ1 := Lib.hid hn1
    have HR1 := Lib.hid hn2
    have HNN := Lib.hid hnn0
    have HY0 := Lib.hid hy0
    have hnz : ((nn : Int) == 0) = true := by rw [hnn0]; rfl
    clear hn1 hn2 hnn0 hy0
    go_wp2_with fail
    refine (law_Awake _).mono ?_
    rintro e wg ⟨rfl, hb⟩
    have T_10 := Lib.hid (T_9.out.keep hb)
    have M_9 := Lib.hid (M_8.out.keep hb)
    have N_8 := Lib.hid (N_7.out.keep hb)
    have XA_6 := Lib.hid (XA_5.out.keep hb)
    have cXA_6 := XA_6.out.cell
    have XB_4 := Lib.hid (XB_3.out.keep hb)
    have cXB_4 := XB_4.out.cell
    have XQ_2 := Lib.hid (XQ_1.out.keep hb)
    have cXQ_2 := XQ_2.out.cell
    have XR_1 := Lib.hid (XR_0.out.keep hb)
    have cXR_1 := XR_1.out.cell
    have B_10 := Lib.hid (keepW B_9.out hb)
    clear hb B_9 T_9 M_8 N_7 XA_5 cXA_5 XB_3 cXB_3 XQ_1 cXQ_1 XR_0 cXR_0 
    have hq0 : decide (n1 = 0) = true := decide_eq_true HQ1.out
    have hr0 : decide (n2 = 0) = true := decide_eq_true HR1.out
    go_wp2_with fail
    refine (nat_Zero A1 n1 c1 _).mono ?_
    rintro e wh ⟨rfl, hb⟩
    have T_11 := Lib.hid (T_10.out.keep hb)
    have M_10 := Lib.hid (M_9.out.keep hb)
    have N_9 := Lib.hid (N_8.out.keep hb)
    have XA_7 := Lib.hid (XA_6.out.keep hb)
    have cXA_7 := XA_7.out.cell
    have XB_5 := Lib.hid (XB_4.out.keep hb)
    have cXB_5 := XB_5.out.cell
    have XQ_3 := Lib.hid (XQ_2.out.keep hb)
    have cXQ_3 := XQ_3.out.cell
    have XR_2 := Lib.hid (XR_1.out.keep hb)
    have cXR_2 := XR_2.out.cell
    have B_11 := Lib.hid (keepW B_10.out hb)
    clear hb B_10 T_10 M_9 N_8 XA_6 cXA_6 XB_4 cXB_4 XQ_2 cXQ_2 XR_1 cXR_1 
    go_wp2_with fail
    refine (nat_Zero A2 n2 c2 _).mono ?_
    rintro e wi ⟨rfl, hb⟩
    have T_12 := Lib.hid (T_11.out.keep hb)
    have M_11 := Lib.hid (M_10.out.keep hb)
    have N_10 := Lib.hid (N_9.out.keep hb)
    have XA_8 := Lib.hid (XA_7.out.keep hb)
    have cXA_8 := XA_8.out.cell
    have XB_6 := Lib.hid (XB_5.out.keep hb)
    have cXB_6 := XB_6.out.cell
    have XQ_4 := Lib.hid (XQ_3.out.keep hb)
    have cXQ_4 := XQ_4.out.cell
    have XR_3 := Lib.hid (XR_2.out.keep hb)
    have cXR_3 := XR_3.out.cell
    have B_12 := Lib.hid (keepW B_11.out hb)
    clear hb B_11 T_11 M_10 N_9 XA_7 cXA_7 XB_5 cXB_5 XQ_3 cXQ_3 XR_2 cXR_2 
    go_wp2_with fail
    refine (nat_Gcd A n c x B m cb y _ XA_8.out.2 XB_6.out.2 (by omega) (by omega) HXL.out T_12.out).mono ?_
    rintro e wj ⟨A3, n3, c3, rfl, hrg, hb⟩
    have T_13 := Lib.hid (T_12.out.keep hb)
    have M_12 := Lib.hid (M_11.out.keep hb)
    have N_11 := Lib.hid (N_10.out.keep hb)
    have XA_9 := Lib.hid (XA_8.out.keep hb)
    have cXA_9 := XA_9.out.cell
    have XB_7 := Lib.hid (XB_6.out.keep hb)
    have cXB_7 := XB_7.out.cell
    have XQ_5 := Lib.hid (XQ_4.out.keep hb)
    have cXQ_5 := XQ_5.out.cell
    have XR_4 := Lib.hid (XR_3.out.keep hb)
    have cXR_4 := XR_4.out.cell
    have B_13 := Lib.hid (keepW B_12.out hb)
    rw [HY0.out, Nat.gcd_zero_right] at hrg
    have hn3 := hrg.le64 HXL.out
    have RG := Lib.hid hrg
    clear hrg
    clear hb B_12 T_12 M_11 N_10 XA_8 cXA_8 XB_6 cXB_6 XQ_4 cXQ_4 XR_3 cXR_3 
    go_wp2_with fail
    refine (law_Is A3 n3 c3 x M nm cm x _ RG.out (by omega) M_12.out).mono ?_
    rintro e wk ⟨rfl, hb⟩
    have T_14 := Lib.hid (T_13.out.keep hb)
    have M_13 := Lib.hid (M_12.out.keep hb)
    have N_12 := Lib.hid (N_11.out.keep hb)
    have XA_10 := Lib.hid (XA_9.out.keep hb)
    have cXA_10 := XA_10.out.cell
    have XB_8 := Lib.hid (XB_7.out.keep hb)
    have cXB_8 := XB_8.out.cell
    have XQ_6 := Lib.hid (XQ_5.out.keep hb)
    have cXQ_6 := XQ_6.out.cell
    have XR_5 := Lib.hid (XR_4.out.keep hb)
    have cXR_5 := XR_5.out.cell
    have B_14 := Lib.hid (keepW B_13.out hb)
    clear hb B_13 T_13 M_12 N_11 XA_9 cXA_9 XB_7 cXB_7 XQ_5 cXQ_5 XR_4 cXR_4 
    rw [show decide (x = x) = true from by simp]
    go_wp2
    go_ret
    exact ⟨rfl, B_14.out⟩
  · obtain ⟨hy0b, _⟩ | ⟨hy0b, rfl, hrq, hrr⟩ := HDIV.out
    · omega
    clear HDIV
    have hql : x / y < Lim := Nat.lt_of_le_of_lt (Nat.div_le_self _ _) HXL.out
    have hrl : x % y < Lim := Nat.lt_of_le_of_lt (Nat.mod_le _ _) HXL.out
    have hn1 := hrq.le64 hql
    have hn2 := hrr.le64 hrl
    clear hql hrl
    have hrr2 := hrr.alloc (.cells #[.slice A1 n1 c1] 28)
    have hal : Below wf.heap.size wf (wf.alloc (.cells #[.slice A1 n1 c1] 28)) := (Below.refl _ _).alloc (Nat.le_refl _) _
    have T_8 := Lib.hid (T_7.out.keep hal)
    have M_7 := Lib.hid (M_6.out.keep hal)
    have N_6 := Lib.hid (N_5.out.keep hal)
    have XA_4 := Lib.hid (XA_3.out.keep hal)
    have cXA_4 := XA_4.out.cell
    have XB_2 := Lib.hid (XB_1.out.keep hal)
    have cXB_2 := XB_2.out.cell
    have B_8 := Lib.hid (keepW B_7.out hal)
    have XQ_0 := Lib.hid (Box.new hrq)
    have cXQ_0 := XQ_0.out.cell
    clear hal B_7 T_7 M_6 N_5 XA_3 cXA_3 XB_1 cXB_1
    clear hrq hrr
    have hal : Below ((wf.alloc (.cells #[.slice A1 n1 c1] 28))).heap.size ((wf.alloc (.cells #[.slice A1 n1 c1] 28))) (((wf.alloc (.cells #[.slice A1 n1 c1] 28))).alloc (.cells #[.slice A2 n2 c2] 28)) := (Below.refl _ _).alloc (Nat.le_refl _) _
    have T_9 := Lib.hid (T_8.out.keep hal)
    have M_8 := Lib.hid (M_7.out.keep hal)
    have N_7 := Lib.hid (N_6.out.keep hal)
    have XA_5 := Lib.hid (XA_4.out.keep hal)
    have cXA_5 := XA_5.out.cell
    have XB_3 := Lib.hid (XB_2.out.keep hal)
    have cXB_3 := XB_3.out.cell
    have XQ_1 := Lib.hid (XQ_0.out.keep hal)
    have cXQ_1 := XQ_1.out.cell
    have B_9 := Lib.hid (keepW B_8.out hal)
    have XR_0 := Lib.hid (Box.new2 hrr2)
    have cXR_0 := XR_0.out.cell
    clear hal B_8 T_8 M_7 N_6 XA_4 cXA_4 XB_2 cXB_2 XQ_0 cXQ_0
    clear hrr2
    have hnn0 : ¬ nn = 0 := fun e => hy0 ((N_7.out.zero_iff (by decide)).1 e)
    have hnz : ((nn : Int) == 0) = false := by rw [beq_eq_false_iff_ne]; omega
    have HYP := Lib.hid hy0b
    clear hnn0 hy0 hy0b
    go_wp2_with fail
    refine (ref_Div M nm cm x N nn cn y _ M_8.out N_7.out HYP.out (by omega) (by omega)).mono ?_
    rintro e wg ⟨A4, n4, c4, A5, n5, c5, rfl, hr4, hr5, hb⟩
    have T_10 := Lib.hid (T_9.out.keep hb)
    have M_9 := Lib.hid (M_8.out.keep hb)
    have N_8 := Lib.hid (N_7.out.keep hb)
    have XA_6 := Lib.hid (XA_5.out.keep hb)
    have cXA_6 := XA_6.out.cell
    have XB_4 := Lib.hid (XB_3.out.keep hb)
    have cXB_4 := XB_4.out.cell
    have XQ_2 := Lib.hid (XQ_1.out.keep hb)
    have cXQ_2 := XQ_2.out.cell
    have XR_1 := Lib.hid (XR_0.out.keep hb)
    have cXR_1 := XR_1.out.cell
    have B_10 := Lib.hid (keepW B_9.out hb)
    clear hb B_9 T_9 M_8 N_7 XA_5 cXA_5 XB_3 cXB_3 XQ_1 cXQ_1 XR_0 cXR_0 
    have R4_0 := Lib.hid (hr4)
    have R5_0 := Lib.hid (hr5)
    clear hr4 hr5
    go_wp2_with fail
    refine (law_Awake _).mono ?_
    rintro e wh ⟨rfl, hb⟩
    have T_11 := Lib.hid (T_10.out.keep hb)
    have M_10 := Lib.hid (M_9.out.keep hb)
    have N_9 := Lib.hid (N_8.out.keep hb)
    have XA_7 := Lib.hid (XA_6.out.keep hb)
    have cXA_7 := XA_7.out.cell
    have XB_5 := Lib.hid (XB_4.out.keep hb)
    have cXB_5 := XB_5.out.cell
    have XQ_3 := Lib.hid (XQ_2.out.keep hb)
    have cXQ_3 := XQ_3.out.cell
    have XR_2 := Lib.hid (XR_1.out.keep hb)
    have cXR_2 := XR_2.out.cell
    have R4_1 := Lib.hid (R4_0.out.keep hb)
    have R5_1 := Lib.hid (R5_0.out.keep hb)
    have B_11 := Lib.hid (keepW B_10.out hb)
    clear hb B_10 T_10 M_9 N_8 XA_6 cXA_6 XB_4 cXB_4 XQ_2 cXQ_2 XR_1 cXR_1 R4_0 R5_0 
    go_wp2_with fail
    refine (law_Is A1 n1 c1 (x / y) A4 n4 c4 (x / y) _ XQ_3.out.2 (by omega) R4_1.out).mono ?_
    rintro e wi ⟨rfl, hb⟩
    have T_12 := Lib.hid (T_11.out.keep hb)
    have M_11 := Lib.hid (M_10.out.keep hb)
    have N_10 := Lib.hid (N_9.out.keep hb)
    have XA_8 := Lib.hid (XA_7.out.keep hb)
    have cXA_8 := XA_8.out.cell
    have XB_6 := Lib.hid (XB_5.out.keep hb)
    have cXB_6 := XB_6.out.cell
    have XQ_4 := Lib.hid (XQ_3.out.keep hb)
    have cXQ_4 := XQ_4.out.cell
    have XR_3 := Lib.hid (XR_2.out.keep hb)
    have cXR_3 := XR_3.out.cell
    have R4_2 := Lib.hid (R4_1.out.keep hb)
    have R5_2 := Lib.hid (R5_1.out.keep hb)
    have B_12 := Lib.hid (keepW B_11.out hb)
    clear hb B_11 T_11 M_10 N_9 XA_7 cXA_7 XB_5 cXB_5 XQ_3 cXQ_3 XR_2 cXR_2 R4_1 R5_1 
    rw [show decide (x / y = x / y) = true from by simp]
    go_wp2_with fail
    refine (law_Is A2 n2 c2 (x % y) A5 n5 c5 (x % y) _ XR_3.out.2 (by omega) R5_2.out).mono ?_
    rintro e wj ⟨rfl, hb⟩
    have T_13 := Lib.hid (T_12.out.keep hb)
    have M_12 := Lib.hid (M_11.out.keep hb)
    have N_11 := Lib.hid (N_10.out.keep hb)
    have XA_9 := Lib.hid (XA_8.out.keep hb)
    have cXA_9 := XA_9.out.cell
    have XB_7 := Lib.hid (XB_6.out.keep hb)
    have cXB_7 := XB_7.out.cell
    have XQ_5 := Lib.hid (XQ_4.out.keep hb)
    have cXQ_5 := XQ_5.out.cell
    have XR_4 := Lib.hid (XR_3.out.keep hb)
    have cXR_4 := XR_4.out.cell
    have R4_3 := Lib.hid (R4_2.out.keep hb)
    have R5_3 := Lib.hid (R5_2.out.keep hb)
    have B_13 := Lib.hid (keepW B_12.out hb)
    clear hb B_12 T_12 M_11 N_10 XA_8 cXA_8 XB_6 cXB_6 XQ_4 cXQ_4 XR_3 cXR_3 R4_2 R5_2 
    rw [show decide (x % y = x % y) = true from by simp]
    by_cases hs : 6 < len0 ∨ 6 < len1
    · rcases (show 6 < len0 ∨ (¬ 6 < len0 ∧ 6 < len1) from by omega) with h | ⟨h, h2⟩
      all_goals
        clear hs
        go_wp2
        go_ret
        exact ⟨rfl, B_13.out⟩
    · have h6 : ¬ 6 < len0 := by omega
      have h7 : ¬ 6 < len1 := by omega
      clear hs
      go_wp2_with fail
      refine (nat_Gcd A n c x B m cb y _ XA_9.out.2 XB_7.out.2 (by omega) (by omega) HXL.out T_13.out).mono ?_
      rintro e wk ⟨A3, n3, c3, rfl, hrg, hb⟩
      have T_14 := Lib.hid (T_13.out.keep hb)
      have M_13 := Lib.hid (M_12.out.keep hb)
      have N_12 := Lib.hid (N_11.out.keep hb)
      have XA_10 := Lib.hid (XA_9.out.keep hb)
      have cXA_10 := XA_10.out.cell
      have XB_8 := Lib.hid (XB_7.out.keep hb)
      have cXB_8 := XB_8.out.cell
      have XQ_6 := Lib.hid (XQ_5.out.keep hb)
      have cXQ_6 := XQ_6.out.cell
      have XR_5 := Lib.hid (XR_4.out.keep hb)
      have cXR_5 := XR_5.out.cell
      have R4_4 := Lib.hid (R4_3.out.keep hb)
      have R5_4 := Lib.hid (R5_3.out.keep hb)
      have B_14 := Lib.hid (keepW B_13.out hb)
      have hgl : Nat.gcd x y < Lim := Nat.lt_of_le_of_lt (Nat.gcd_le_right x HYP.out) HYL.out
      have hn3 := hrg.le64 hgl
      clear hgl
      clear hb B_13 T_13 M_12 N_11 XA_9 cXA_9 XB_7 cXB_7 XQ_5 cXQ_5 XR_4 cXR_4 R4_3 R5_3 
      have RG_0 := Lib.hid (hrg)
      clear hrg
      go_wp2_with fail
      refine (ref_Gcd M nm cm x N nn cn y _ M_13.out N_12.out (by omega) (by omega)).mono ?_
      rintro e wl ⟨A6, n6, c6, rfl, hr6, hb⟩
      have T_15 := Lib.hid (T_14.out.keep hb)
      have M_14 := Lib.hid (M_13.out.keep hb)
      have N_13 := Lib.hid (N_12.out.keep hb)
      have XA_11 := Lib.hid (XA_10.out.keep hb)
      have cXA_11 := XA_11.out.cell
      have XB_9 := Lib.hid (XB_8.out.keep hb)
      have cXB_9 := XB_9.out.cell
      have XQ_7 := Lib.hid (XQ_6.out.keep hb)
      have cXQ_7 := XQ_7.out.cell
      have XR_6 := Lib.hid (XR_5.out.keep hb)
      have cXR_6 := XR_6.out.cell
      have R4_5 := Lib.hid (R4_4.out.keep hb)
      have R5_5 := Lib.hid (R5_4.out.keep hb)
      have RG_1 := Lib.hid (RG_0.out.keep hb)
      have B_15 := Lib.hid (keepW B_14.out hb)
      have R6 := Lib.hid hr6
      clear hr6
      clear hb B_14 T_14 M_13 N_12 XA_10 cXA_10 XB_8 cXB_8 XQ_6 cXQ_6 XR_5 cXR_5 R4_4 R5_4 RG_0 
      go_wp2_with fail
      refine (law_Is A3 n3 c3 (Nat.gcd x y) A6 n6 c6 (Nat.gcd x y) _ RG_1.out (by omega) R6.out).mono ?_
      rintro e wm ⟨rfl, hb⟩
      have T_16 := Lib.hid (T_15.out.keep hb)
      have M_15 := Lib.hid (M_14.out.keep hb)
      have N_14 := Lib.hid (N_13.out.keep hb)
      have XA_12 := Lib.hid (XA_11.out.keep hb)
      have cXA_12 := XA_12.out.cell
      have XB_10 := Lib.hid (XB_9.out.keep hb)
      have cXB_10 := XB_10.out.cell
      have XQ_8 := Lib.hid (XQ_7.out.keep hb)
      have cXQ_8 := XQ_8.out.cell
      have XR_7 := Lib.hid (XR_6.out.keep hb)
      have cXR_7 := XR_7.out.cell
      have R4_6 := Lib.hid (R4_5.out.keep hb)
      have R5_6 := Lib.hid (R5_5.out.keep hb)
      have RG_2 := Lib.hid (RG_1.out.keep hb)
      have B_16 := Lib.hid (keepW B_15.out hb)
      clear hb B_15 T_15 M_14 N_13 XA_11 cXA_11 XB_9 cXB_9 XQ_7 cXQ_7 XR_6 cXR_6 R4_5 R5_5 RG_1 
      rw [show decide (Nat.gcd x y = Nat.gcd x y) = true from by simp]
      go_wp2
      go_ret
      exact ⟨rfl, B_16.out⟩

end Go.Proofs.YtmjinhieeflkgaaDoorRRRR
