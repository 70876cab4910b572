/- The statement NatShifts walked. -/
import Derived.Test.YtmjinhieeflkgaaBox
import Derived.Test.YtmjinhieeflkgaaShr
import Derived.Test.YtmjinhieeflkgaaShrB
import Derived.Deep.RegionHeld3
namespace Go.Proofs.Ytmjinhieeflkgaa
open Go.RowKit

theorem Got.eqv {w : World} {x y : Nat} {A : Option Addr} {n c : Nat} {code : Int} (h : Got w x A n c code) (e : x = y ∨ (Lim ≤ x ∧ Lim ≤ y)) : Got w y A n c code := by
  rcases e with rfl | ⟨h1, h2⟩
  · exact h
  · rcases h with ⟨h3, _⟩ | ⟨_, h4⟩
    · omega
    · exact .inr ⟨h2, h4⟩

theorem bl_lim {x : Nat} (hx : x < Lim) : bl x ≤ 4096 := lim_bl.1 hx

theorem shl_min {x s k : Nat} (hk : k = min s 5000) : x * 2 ^ s = x * 2 ^ k ∨ (Lim ≤ x * 2 ^ s ∧ Lim ≤ x * 2 ^ k) := by
  by_cases h : s ≤ 5000
  · left; rw [show k = s from by omega]
  · have hk2 : k = 5000 := by omega
    rcases Nat.eq_zero_or_pos x with rfl | hx
    · left; rw [Nat.zero_mul, Nat.zero_mul]
    · right
      have h1 : ∀ t, 5000 ≤ t → Lim ≤ x * 2 ^ t := fun t ht => by
        apply Nat.le_of_not_lt
        intro hl
        have := bl_lim hl
        rw [bl_shl (by omega)] at this
        omega
      exact ⟨h1 s (by omega), h1 k (by omega)⟩

theorem shr_min {x s k : Nat} (hx : x < Lim) (hk : k = min s 5000) : x / 2 ^ s = x / 2 ^ k := by
  by_cases h : s ≤ 5000
  · rw [show k = s from by omega]
  · have hb := bl_lim hx
    have h1 : ∀ t, 5000 ≤ t → x / 2 ^ t = 0 := fun t ht => Nat.div_eq_of_lt (bl_le.1 (by omega))
    rw [h1 s (by omega), h1 k (by omega)]

theorem shl_digits {w : World} {A : Option Addr} {n c x k : Nat} (hx : x < Lim) (hk : k ≤ 5000) (h : Rep .i64 65536 w A n c (x * 2 ^ k)) : n ≤ 600 := by
  obtain ⟨K, hK⟩ : ∃ K, K = 600 := ⟨_, rfl⟩
  rw [← hK, h.len_le (by omega) K, show (65536 : Nat) = 2 ^ 16 from rfl, ← Nat.pow_mul, ← bl_le]
  rcases Nat.eq_zero_or_pos x with rfl | hx0
  · rw [Nat.zero_mul, bl_zero]; omega
  · rw [bl_shl (by omega)]
    have := bl_lim hx
    omega

set_option maxHeartbeats 8000000 in
set_option maxRecDepth 100000 in
theorem natShifts_walk (a0 : Option Addr) (len0 cap0 : Nat) (z0 : List Int) (a1 : Int) (w : World) (w0 : RowOf .u64 w a0 len0 cap0 z0) (w1 : (Lit.int .i64 a1).wf = true) :
    Calls Try.prog 3 #[.slice a0 len0 cap0, .int .i64 a1] w fun e w' => e = .returned (.bool true) ∧ Below w.heap.size w w' := by
  have hi64 : a1 ≤ 9223372036854775807 := (bounds_i64 w1).2
  obtain ⟨xs, hsx, hdx⟩ := w0.sl
  have hLX := hsx.1
  have SX := Lib.hid hsx
  have HX := Lib.hid hdx
  have HLX := Lib.hid hLX
  clear hsx w0 w1 hdx hLX
  by_cases h70 : len0 ≤ 70
  · have hd70 : decide (len0 ≤ 70) = true := by simpa using h70
    have HDX : Hid (∀ (W : World) (A : Option Addr) (n c : Nat), Rep .i64 65536 W A n c (val B64 xs) → n ≤ 280) := Lib.hid (fun W A n c h => Nat.le_trans (h.dig_le HX.out HLX.out) (by omega))
    obtain ⟨x, hx⟩ : ∃ x, x = val B64 xs := ⟨_, rfl⟩
    rw [← hx] at HDX
    have HXE := Lib.hid hx
    clear hx
    go_enter Try.func3, Try.ntmps3
    go_wp2_with fail
    refine (few1 w a0 len0 cap0).mono ?_
    rintro e w' ⟨rfl, rfl⟩
    rw [hd70]
    have B_0 : Hid (Below w.heap.size w (w.alloc (.cells #[.slice a0 len0 cap0] 22))) := Lib.hid ((Below.refl _ _).alloc (Nat.le_refl _) _)
    have SX_0 := Lib.hid (SX.out.alloc (.cells #[.slice a0 len0 cap0] 22))
    go_wp2_with fail
    refine (ref_FromN a0 len0 cap0 xs _ SX_0.out HX.out (by omega)).mono ?_
    rintro e wa ⟨M, nm, cm, rfl, hrm, hmn, hb⟩
    have SX_1 := Lib.hid (SX_0.out.keep hb)
    have B_1 := Lib.hid (keepW B_0.out hb)
    rw [← HXE.out] at hrm
    have hnm := HDX.out _ _ _ _ hrm
    have HMN := Lib.hid hmn
    clear hmn
    clear hb B_0 SX_0 
    have M_0 := Lib.hid (hrm)
    clear hrm
    go_wp2_with fail
    refine (nat_From a0 len0 cap0 xs _ SX_1.out HX.out).mono ?_
    rintro e wc ⟨A, n, c, code, rfl, hgot, hb⟩
    have SX_2 := Lib.hid (SX_1.out.keep hb)
    have M_1 := Lib.hid (M_0.out.keep hb)
    have B_2 := Lib.hid (keepW B_1.out hb)
    rw [← HXE.out] at hgot
    have HG := Lib.hid hgot
    clear hgot
    clear hb B_1 SX_1 M_0 
    clear SX_2
    rcases HG.out with ⟨hxl, rfl, hra⟩ | ⟨hxl, rfl, rfl, rfl, rfl⟩
    rotate_left
    · have hbx : ¬ bl x ≤ 4096 := fun e => by have := lim_bl.2 e; omega
      clear HG hxl
      have hal : Below wc.heap.size wc (wc.alloc (.cells #[.slice none 0 0] 29)) := (Below.refl _ _).alloc (Nat.le_refl _) _
      have M_2 := Lib.hid (M_1.out.keep hal)
      have B_3 := Lib.hid (keepW B_2.out hal)
      clear hal M_1
      go_wp2_with fail
      refine (law_Awake _).mono ?_
      rintro e wd ⟨rfl, hb⟩
      have M_3 := Lib.hid (M_2.out.keep hb)
      have B_4 := Lib.hid (keepW B_3.out hb)
      clear hb B_3 M_2 
      go_wp2_with fail
      refine (ref_Bits M nm cm x _ M_3.out (by omega)).mono ?_
      rintro e we ⟨rfl, rfl⟩
      have hbx2 : (4096 : Int) < (bl x : Nat) := by omega
      go_wp2
      go_ret
      exact ⟨rfl, B_4.out⟩
    · have HXL := Lib.hid hxl
      have hn := hra.le64 hxl
      clear HG hxl
      have hal : Below wc.heap.size wc (wc.alloc (.cells #[.slice A n c] 29)) := (Below.refl _ _).alloc (Nat.le_refl _) _
      have M_2 := Lib.hid (M_1.out.keep hal)
      have B_3 := Lib.hid (keepW B_2.out hal)
      have XA_0 := Lib.hid (Box.new hra)
      have cXA_0 := XA_0.out.cell
      clear hal B_2 M_1
      clear hra
      by_cases hneg : a1 < 0
      · go_wp2_with fail
        refine (nat_Shl_neg A n c a1 hneg _).mono ?_
        rintro e wd ⟨rfl, hb⟩
        have M_3 := Lib.hid (M_2.out.keep hb)
        have XA_1 := Lib.hid (XA_0.out.keep hb)
        have cXA_1 := XA_1.out.cell
        have B_4 := Lib.hid (keepW B_3.out hb)
        clear hb B_3 M_2 XA_0 cXA_0 
        have hrz := Rep.zero .u64 B64 wd
        have hal : Below wd.heap.size wd (wd.alloc (.cells #[.slice none 0 0] 29)) := (Below.refl _ _).alloc (Nat.le_refl _) _
        have M_4 := Lib.hid (M_3.out.keep hal)
        have XA_2 := Lib.hid (XA_1.out.keep hal)
        have cXA_2 := XA_2.out.cell
        have B_5 := Lib.hid (keepW B_4.out hal)
        have Xwd_0 := Lib.hid (Box.new hrz)
        have cXwd_0 := Xwd_0.out.cell
        clear hal B_4 M_3 XA_1 cXA_1
        clear hrz
        go_wp2_with fail
        refine (nat_Shr_neg A n c a1 hneg _).mono ?_
        rintro e we ⟨rfl, hb⟩
        have M_5 := Lib.hid (M_4.out.keep hb)
        have XA_3 := Lib.hid (XA_2.out.keep hb)
        have cXA_3 := XA_3.out.cell
        have Xwd_1 := Lib.hid (Xwd_0.out.keep hb)
        have cXwd_1 := Xwd_1.out.cell
        have B_6 := Lib.hid (keepW B_5.out hb)
        clear hb B_5 M_4 XA_2 cXA_2 Xwd_0 cXwd_0 
        have hrz := Rep.zero .u64 B64 we
        have hal : Below we.heap.size we (we.alloc (.cells #[.slice none 0 0] 29)) := (Below.refl _ _).alloc (Nat.le_refl _) _
        have M_6 := Lib.hid (M_5.out.keep hal)
        have XA_4 := Lib.hid (XA_3.out.keep hal)
        have cXA_4 := XA_4.out.cell
        have Xwd_2 := Lib.hid (Xwd_1.out.keep hal)
        have cXwd_2 := Xwd_2.out.cell
        have B_7 := Lib.hid (keepW B_6.out hal)
        have Xwe_0 := Lib.hid (Box.new hrz)
        have cXwe_0 := Xwe_0.out.cell
        clear hal B_6 M_5 XA_3 cXA_3 Xwd_1 cXwd_1
        clear hrz
        go_wp2_with fail
        refine (law_Awake _).mono ?_
        rintro e wf ⟨rfl, hb⟩
        have M_7 := Lib.hid (M_6.out.keep hb)
        have XA_5 := Lib.hid (XA_4.out.keep hb)
        have cXA_5 := XA_5.out.cell
        have Xwd_3 := Lib.hid (Xwd_2.out.keep hb)
        have cXwd_3 := Xwd_3.out.cell
        have Xwe_1 := Lib.hid (Xwe_0.out.keep hb)
        have cXwe_1 := Xwe_1.out.cell
        have B_8 := Lib.hid (keepW B_7.out hb)
        clear hb B_7 M_6 XA_4 cXA_4 Xwd_2 cXwd_2 Xwe_0 cXwe_0 
        have hz0 : decide ((0 : Nat) = 0) = true := rfl
        go_wp2_with fail
        refine (nat_Zero none 0 0 _).mono ?_
        rintro e wg ⟨rfl, hb⟩
        have M_8 := Lib.hid (M_7.out.keep hb)
        have XA_6 := Lib.hid (XA_5.out.keep hb)
        have cXA_6 := XA_6.out.cell
        have Xwd_4 := Lib.hid (Xwd_3.out.keep hb)
        have cXwd_4 := Xwd_4.out.cell
        have Xwe_2 := Lib.hid (Xwe_1.out.keep hb)
        have cXwe_2 := Xwe_2.out.cell
        have B_9 := Lib.hid (keepW B_8.out hb)
        clear hb B_8 M_7 XA_5 cXA_5 Xwd_3 cXwd_3 Xwe_1 cXwe_1 
        go_wp2_with fail
        refine (nat_Zero none 0 0 _).mono ?_
        rintro e wh ⟨rfl, hb⟩
        have M_9 := Lib.hid (M_8.out.keep hb)
        have XA_7 := Lib.hid (XA_6.out.keep hb)
        have cXA_7 := XA_7.out.cell
        have Xwd_5 := Lib.hid (Xwd_4.out.keep hb)
        have cXwd_5 := Xwd_5.out.cell
        have Xwe_3 := Lib.hid (Xwe_2.out.keep hb)
        have cXwe_3 := Xwe_3.out.cell
        have B_10 := Lib.hid (keepW B_9.out hb)
        clear hb B_9 M_8 XA_6 cXA_6 Xwd_4 cXwd_4 Xwe_2 cXwe_2 
        go_wp2
        go_ret
        exact ⟨rfl, B_10.out⟩
      · obtain ⟨s, rfl⟩ : ∃ s : Nat, a1 = (s : Int) := ⟨a1.toNat, by omega⟩
        clear hneg
        go_wp2_with fail
        refine (nat_Shl A n c x s _ XA_0.out.2 (by omega) HXL.out).mono ?_
        rintro e wd ⟨A1, n1, c1, code1, rfl, hgot, hb⟩
        have M_3 := Lib.hid (M_2.out.keep hb)
        have XA_1 := Lib.hid (XA_0.out.keep hb)
        have cXA_1 := XA_1.out.cell
        have B_4 := Lib.hid (keepW B_3.out hb)
        clear hb B_3 M_2 XA_0 cXA_0 
        have hal : Below wd.heap.size wd (wd.alloc (.cells #[.slice A1 n1 c1] 29)) := (Below.refl _ _).alloc (Nat.le_refl _) _
        have M_4 := Lib.hid (M_3.out.keep hal)
        have XA_2 := Lib.hid (XA_1.out.keep hal)
        have cXA_2 := XA_2.out.cell
        have B_5 := Lib.hid (keepW B_4.out hal)
        have G_0 := Lib.hid (hgot.keep hal)
        have L_0 := Lib.hid (Blk.new1 wd 29 (.slice A1 n1 c1))
        clear hal hgot B_4 M_3 XA_1 cXA_1
        go_wp2_with fail
        refine (nat_Shr A n c x s _ XA_2.out.2 (by omega) HXL.out).mono ?_
        rintro e we ⟨A2, n2, c2, rfl, hr2, hb⟩
        have M_5 := Lib.hid (M_4.out.keep hb)
        have XA_3 := Lib.hid (XA_2.out.keep hb)
        have cXA_3 := XA_3.out.cell
        have G_1 := Lib.hid (G_0.out.keep hb)
        have L_1 := Lib.hid (L_0.out.keep hb)
        have B_6 := Lib.hid (keepW B_5.out hb)
        have hn2 := hr2.le64 (Nat.lt_of_le_of_lt (Nat.div_le_self _ _) HXL.out)
        clear hb B_5 M_4 XA_2 cXA_2 G_0 L_0 
        have hal : Below we.heap.size we (we.alloc (.cells #[.slice A2 n2 c2] 29)) := (Below.refl _ _).alloc (Nat.le_refl _) _
        have M_6 := Lib.hid (M_5.out.keep hal)
        have XA_4 := Lib.hid (XA_3.out.keep hal)
        have cXA_4 := XA_4.out.cell
        have G_2 := Lib.hid (G_1.out.keep hal)
        have L_2 := Lib.hid (L_1.out.keep hal)
        have B_7 := Lib.hid (keepW B_6.out hal)
        have XR_0 := Lib.hid (Box.new hr2)
        have cXR_0 := XR_0.out.cell
        clear hal B_6 M_5 XA_3 cXA_3 G_1 L_1
        clear hr2
        clear XA_4 cXA_4
        obtain ⟨k, hk⟩ : ∃ k, k = min s 5000 := ⟨_, rfl⟩
        have hmin : min (s : Int) 5000 = (k : Int) := by omega
        have hkb : k ≤ 5000 := by omega
        have HGK := Lib.hid (G_2.out.eqv (shl_min (x := x) hk))
        have HSR := Lib.hid (shr_min HXL.out hk)
        have SB : Hid (∀ (W : World) (A : Option Addr) (n c : Nat), Rep .i64 65536 W A n c (x * 2 ^ k) → n ≤ 600) := Lib.hid (fun W A n c h => shl_digits HXL.out hkb h)
        clear hk cXR_0
        go_wp2
        generalize hW : we.alloc (.cells #[.slice A2 n2 c2] 29) = W at *
        clear hW
        have HC : Hid (∀ w', Below W.heap.size W w' → w'.cell? ⟨wd.heap.size, 0, none⟩ = some (.slice A1 n1 c1) ∧ w'.cell? ⟨we.heap.size, 0, none⟩ = some (.slice A2 n2 c2)) := Lib.hid (fun w' hb => ⟨(L_2.out.keep hb).cell0, (XR_0.out.1.keep hb).cell0⟩)
        have HK0 : Hid (Below W.heap.size W W.drew) := Lib.hid (Below.refl _ _).drew
        obtain ⟨k1, k2⟩ := HC.out _ (Below.refl _ _)
        go_region_held3 (fun w' => w'.cell? ⟨wd.heap.size, 0, none⟩ = some (.slice A1 n1 c1) ∧ w'.cell? ⟨we.heap.size, 0, none⟩ = some (.slice A2 n2 c2))
          (first | exact HC.out _ HK5.out | exact HC.out _ HK4.out | exact HC.out _ HK3.out | exact HC.out _ HK2.out | exact HC.out _ HK1.out | exact HC.out _ HK0.out | exact HC.out _ (Below.refl _ _) | (simp [*]; done))
          (first
            | (go_at_call 5
               refine (law_Awake _).mono ?_
               rintro e v1 ⟨rfl, hb1⟩
               have HK1 := Lib.hid (keepW HK0.out hb1)
               clear hb1)
            | (go_at_call 13
               refine (ref_Shl M nm cm x k _ (M_6.out.keep HK1.out) HMN.out (by omega) (by omega)).mono ?_
               rintro e v2 ⟨D1, d1, e1, rfl, hr1, hb2⟩
               have HK2 := Lib.hid (keepW HK1.out hb2)
               have hd1 := SB.out _ _ _ _ hr1
               have HR1 := Lib.hid hr1
               clear hr1 hb2)
            | (go_at_call 12
               refine (law_got A1 n1 c1 (x * 2 ^ k) code1 D1 d1 e1 _ (HGK.out.keep HK2.out) HR1.out (by omega)).mono ?_
               rintro e v3 ⟨rfl, hb3⟩
               have HK3 := Lib.hid (keepW HK2.out hb3)
               clear hb3)
            | (go_at_call 15
               refine (ref_Shr M nm cm x k _ (M_6.out.keep HK3.out) (by omega) (by omega)).mono ?_
               rintro e v4 ⟨D2, d2, e2, rfl, hr2, hb4⟩
               have HK4 := Lib.hid (keepW HK3.out hb4)
               have HR2 := Lib.hid hr2
               clear hr2 hb4)
            | (go_at_call 14
               refine (law_Is A2 n2 c2 (x / 2 ^ s) D2 d2 e2 (x / 2 ^ k) _ (XR_0.out.2.keep HK4.out) (by omega) HR2.out).mono ?_
               rintro e v5 ⟨rfl, hb5⟩
               rw [decide_eq_true HSR.out]
               have HK5 := Lib.hid (keepW HK4.out hb5)
               clear hb5))
        go_wp2
        go_ret
        exact ⟨rfl, keepW B_7.out HK5.out⟩
  · have h70b : ¬ len0 ≤ 70 := h70
    have hd70 : decide (len0 ≤ 70) = false := by simpa using h70
    go_enter Try.func3, Try.ntmps3
    go_wp2_with fail
    refine (few1 w a0 len0 cap0).mono ?_
    rintro e w' ⟨rfl, rfl⟩
    rw [hd70]
    go_wp2_with fail
    refine (law_Awake _).mono ?_
    rintro e w10 ⟨rfl, hb10⟩
    have HB10 : Hid (Below w.heap.size w w10) := Lib.hid (keepW ((Below.refl _ _).alloc (Nat.le_refl _) _) hb10)
    clear hb10
    go_wp2
    go_ret
    exact ⟨rfl, HB10.out⟩

end Go.Proofs.Ytmjinhieeflkgaa
