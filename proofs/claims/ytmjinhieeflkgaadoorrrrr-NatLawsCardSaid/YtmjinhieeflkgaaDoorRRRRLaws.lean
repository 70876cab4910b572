/- The statement NatLaws walked. -/
import Derived.Test.YtmjinhieeflkgaaDoorRRRRBox
import Derived.Test.YtmjinhieeflkgaaDoorRRRRDivides
namespace Go.Proofs.YtmjinhieeflkgaaDoorRRRR
open Go.RowKit

theorem laws_bounds {x y z : Nat} (hx : x < B64 ^ 15) (hy : y < B64 ^ 15) (hz : z < B64 ^ 15) :
    x < Lim ∧ y < Lim ∧ z < Lim ∧ x + y < Lim ∧ (x + y) * z < Lim ∧ x * z < Lim ∧ y * z < Lim ∧ x * z + y * z < Lim := by
  have h15 : B64 ^ 15 ≤ Lim := Nat.pow_le_pow_right B64_pos (by omega)
  have h31 : B64 ^ 16 * B64 ^ 15 ≤ Lim := by rw [← Nat.pow_add]; exact Nat.pow_le_pow_right B64_pos (by omega)
  have hs : x + y < B64 ^ 16 := two_pow_le hx hy
  have h16 : B64 ^ 16 ≤ Lim := Nat.pow_le_pow_right B64_pos (by omega)
  have hl : (x + y) * z < Lim := Nat.lt_of_lt_of_le (Nat.mul_lt_mul_of_lt_of_le hs (Nat.le_of_lt hz) (Nat.pow_pos B64_pos)) h31
  have h1 : x * z ≤ (x + y) * z := Nat.mul_le_mul_right _ (by omega)
  have h2 : y * z ≤ (x + y) * z := Nat.mul_le_mul_right _ (by omega)
  refine ⟨by omega, by omega, by omega, by omega, hl, by omega, by omega, by rw [← Nat.add_mul]; exact hl⟩

set_option maxHeartbeats 16000000 in
set_option maxRecDepth 100000 in
theorem natLaws_walk (a0 : Option Addr) (len0 cap0 : Nat) (z0 : List Int) (a1 : Option Addr) (len1 cap1 : Nat) (z1 : List Int) (a2 : Option Addr) (len2 cap2 : Nat) (z2 : List Int) (w : World)
    (w0 : RowOf .u64 w a0 len0 cap0 z0) (w1 : RowOf .u64 w a1 len1 cap1 z1) (w2 : RowOf .u64 w a2 len2 cap2 z2) (ht : Tz w) :
    Calls Tryd.prog 4 #[.slice a0 len0 cap0, .slice a1 len1 cap1, .slice a2 len2 cap2] w fun e w' => e = .returned (.bool true) ∧ Below w.heap.size w w' := by
  obtain ⟨xs, hsx, hdx⟩ := w0.sl
  obtain ⟨ys, hsy, hdy⟩ := w1.sl
  obtain ⟨zs, hsz, hdz⟩ := w2.sl
  have hLX := hsx.1
  have hLY := hsy.1
  have hLZ := hsz.1
  have SX_0 := Lib.hid hsx
  have SY_0 := Lib.hid hsy
  have SZ_0 := Lib.hid hsz
  have T_0 := Lib.hid ht
  have B_0 : Hid (Below w.heap.size w w) := Lib.hid (Below.refl _ _)
  clear hsx hsy hsz w0 w1 w2 ht
  by_cases hbig : 15 < len0 ∨ 15 < len1 ∨ 15 < len2
  · have HLX := Lib.hid hLX
    have HLY := Lib.hid hLY
    have HLZ := Lib.hid hLZ
    clear hLX hLY hLZ
    rcases (show 15 < len0 ∨ (¬ 15 < len0 ∧ 15 < len1) ∨ (¬ 15 < len0 ∧ ¬ 15 < len1 ∧ 15 < len2) from by omega) with h | ⟨h, h2⟩ | ⟨h, h2, h3⟩
    all_goals
      go_enter Tryd.func4, Tryd.ntmps4
      go_wp2_with fail
      refine (law_Awake _).mono ?_
      rintro e w10 ⟨rfl, hb10⟩
      have HB10 := Lib.hid hb10
      clear hb10
      go_wp2
      go_ret
      exact ⟨rfl, HB10.out⟩
  have hl0 : ¬ 15 < len0 := by omega
  have hl1 : ¬ 15 < len1 := by omega
  have hl2 : ¬ 15 < len2 := by omega
  clear hbig
  have hv : ∀ (us : List Nat) (m : Nat), Dig B64 us → us.length = m → m ≤ 15 → val B64 us < B64 ^ 15 := fun us m hd hl hm => Nat.lt_of_lt_of_le (val_lt hd) (Nat.pow_le_pow_right B64_pos (by omega))
  have HBO := Lib.hid (laws_bounds (hv xs len0 hdx hLX (by omega)) (hv ys len1 hdy hLY (by omega)) (hv zs len2 hdz hLZ (by omega)))
  have HX := Lib.hid hdx
  have HY := Lib.hid hdy
  have HZ := Lib.hid hdz
  obtain ⟨x, hx⟩ : ∃ x, x = val B64 xs := ⟨_, rfl⟩
  obtain ⟨y, hy⟩ : ∃ y, y = val B64 ys := ⟨_, rfl⟩
  obtain ⟨z, hz⟩ : ∃ z, z = val B64 zs := ⟨_, rfl⟩
  rw [← hx, ← hy, ← hz] at HBO
  have HXE := Lib.hid hx
  have HYE := Lib.hid hy
  have HZE := Lib.hid hz
  have LX : Hid (x < Lim) := Lib.hid HBO.out.1
  have LY : Hid (y < Lim) := Lib.hid HBO.out.2.1
  have LZ : Hid (z < Lim) := Lib.hid HBO.out.2.2.1
  have LS : Hid (x + y < Lim) := Lib.hid HBO.out.2.2.2.1
  have LSZ : Hid ((x + y) * z < Lim) := Lib.hid HBO.out.2.2.2.2.1
  have LXZ : Hid (x * z < Lim) := Lib.hid HBO.out.2.2.2.2.2.1
  have LYZ : Hid (y * z < Lim) := Lib.hid HBO.out.2.2.2.2.2.2.1
  have LR : Hid (x * z + y * z < Lim) := Lib.hid HBO.out.2.2.2.2.2.2.2
  clear hLX hLY hLZ hdx hdy hdz hx hy hz hv HBO
  go_enter Tryd.func4, Tryd.ntmps4
  go_wp2_with fail
  refine (nat_From a0 len0 cap0 xs _ SX_0.out HX.out).mono ?_
  rintro e v1 ⟨A, na, ca, code, rfl, hgot, hb⟩
  have SX_1 := Lib.hid (SX_0.out.keep hb)
  have SY_1 := Lib.hid (SY_0.out.keep hb)
  have SZ_1 := Lib.hid (SZ_0.out.keep hb)
  have T_1 := Lib.hid (T_0.out.keep hb)
  have B_1 := Lib.hid (keepW B_0.out hb)
  rw [← HXE.out] at hgot
  obtain ⟨rfl, hr⟩ := hgot.ok LX.out
  have hna := hr.le64 LX.out
  clear hb B_0 SX_0 SY_0 SZ_0 T_0 
  have hal : Below v1.heap.size v1 (v1.alloc (.cells #[.slice A na ca] 28)) := (Below.refl _ _).alloc (Nat.le_refl _) _
  have SX_2 := Lib.hid (SX_1.out.keep hal)
  have SY_2 := Lib.hid (SY_1.out.keep hal)
  have SZ_2 := Lib.hid (SZ_1.out.keep hal)
  have T_2 := Lib.hid (T_1.out.keep hal)
  have B_2 := Lib.hid (keepW B_1.out hal)
  have XA_0 := Lib.hid (Box.new hr)
  have cXA_0 := XA_0.out.cell
  clear hal B_1 SX_1 SY_1 SZ_1 T_1
  clear hr hgot
  clear SX_2
  go_wp2_with fail
  refine (nat_From a1 len1 cap1 ys _ SY_2.out HY.out).mono ?_
  rintro e v2 ⟨B, nb, cb, code, rfl, hgot, hb⟩
  have SY_3 := Lib.hid (SY_2.out.keep hb)
  have SZ_3 := Lib.hid (SZ_2.out.keep hb)
  have T_3 := Lib.hid (T_2.out.keep hb)
  have XA_1 := Lib.hid (XA_0.out.keep hb)
  have cXA_1 := XA_1.out.cell
  have B_3 := Lib.hid (keepW B_2.out hb)
  rw [← HYE.out] at hgot
  obtain ⟨rfl, hr⟩ := hgot.ok LY.out
  have hnb := hr.le64 LY.out
  clear hb B_2 SY_2 SZ_2 T_2 XA_0 cXA_0 
  have hal : Below v2.heap.size v2 (v2.alloc (.cells #[.slice B nb cb] 28)) := (Below.refl _ _).alloc (Nat.le_refl _) _
  have SY_4 := Lib.hid (SY_3.out.keep hal)
  have SZ_4 := Lib.hid (SZ_3.out.keep hal)
  have T_4 := Lib.hid (T_3.out.keep hal)
  have XA_2 := Lib.hid (XA_1.out.keep hal)
  have cXA_2 := XA_2.out.cell
  have B_4 := Lib.hid (keepW B_3.out hal)
  have XB_0 := Lib.hid (Box.new hr)
  have cXB_0 := XB_0.out.cell
  clear hal B_3 SY_3 SZ_3 T_3 XA_1 cXA_1
  clear hr hgot
  clear SY_4
  go_wp2_with fail
  refine (nat_From a2 len2 cap2 zs _ SZ_4.out HZ.out).mono ?_
  rintro e v3 ⟨C, nc, cc, code, rfl, hgot, hb⟩
  have SZ_5 := Lib.hid (SZ_4.out.keep hb)
  have T_5 := Lib.hid (T_4.out.keep hb)
  have XA_3 := Lib.hid (XA_2.out.keep hb)
  have cXA_3 := XA_3.out.cell
  have XB_1 := Lib.hid (XB_0.out.keep hb)
  have cXB_1 := XB_1.out.cell
  have B_5 := Lib.hid (keepW B_4.out hb)
  rw [← HZE.out] at hgot
  obtain ⟨rfl, hr⟩ := hgot.ok LZ.out
  have hnc := hr.le64 LZ.out
  clear hb B_4 SZ_4 T_4 XA_2 cXA_2 XB_0 cXB_0 
  have hal : Below v3.heap.size v3 (v3.alloc (.cells #[.slice C nc cc] 28)) := (Below.refl _ _).alloc (Nat.le_refl _) _
  have SZ_6 := Lib.hid (SZ_5.out.keep hal)
  have T_6 := Lib.hid (T_5.out.keep hal)
  have XA_4 := Lib.hid (XA_3.out.keep hal)
  have cXA_4 := XA_4.out.cell
  have XB_2 := Lib.hid (XB_1.out.keep hal)
  have cXB_2 := XB_2.out.cell
  have B_6 := Lib.hid (keepW B_5.out hal)
  have XC_0 := Lib.hid (Box.new hr)
  have cXC_0 := XC_0.out.cell
  clear hal B_5 SZ_5 T_5 XA_3 cXA_3 XB_1 cXB_1
  clear hr hgot
  clear SZ_6
  go_wp2_with fail
  refine (nat_Add A na ca x B nb cb y _ XA_4.out.2 XB_2.out.2 (by omega) (by omega)).mono ?_
  rintro e v4 ⟨S, ns, cs, code, rfl, hgot, hb⟩
  have T_7 := Lib.hid (T_6.out.keep hb)
  have XA_5 := Lib.hid (XA_4.out.keep hb)
  have cXA_5 := XA_5.out.cell
  have XB_3 := Lib.hid (XB_2.out.keep hb)
  have cXB_3 := XB_3.out.cell
  have XC_1 := Lib.hid (XC_0.out.keep hb)
  have cXC_1 := XC_1.out.cell
  have B_7 := Lib.hid (keepW B_6.out hb)
  obtain ⟨rfl, hr⟩ := hgot.ok LS.out
  have hns := hr.le64 LS.out
  clear hb B_6 T_6 XA_4 cXA_4 XB_2 cXB_2 XC_0 cXC_0 
  have hal : Below v4.heap.size v4 (v4.alloc (.cells #[.slice S ns cs] 28)) := (Below.refl _ _).alloc (Nat.le_refl _) _
  have T_8 := Lib.hid (T_7.out.keep hal)
  have XA_6 := Lib.hid (XA_5.out.keep hal)
  have cXA_6 := XA_6.out.cell
  have XB_4 := Lib.hid (XB_3.out.keep hal)
  have cXB_4 := XB_4.out.cell
  have XC_2 := Lib.hid (XC_1.out.keep hal)
  have cXC_2 := XC_2.out.cell
  have B_8 := Lib.hid (keepW B_7.out hal)
  have XS_0 := Lib.hid (Box.new hr)
  have cXS_0 := XS_0.out.cell
  clear hal B_7 T_7 XA_5 cXA_5 XB_3 cXB_3 XC_1 cXC_1
  clear hr hgot
  go_wp2_with fail
  refine (nat_Mul S ns cs (x + y) C nc cc z _ XS_0.out.2 XC_2.out.2 (by omega) (by omega)).mono ?_
  rintro e v5 ⟨L, nl, cl, code, rfl, hgot, hb⟩
  have T_9 := Lib.hid (T_8.out.keep hb)
  have XA_7 := Lib.hid (XA_6.out.keep hb)
  have cXA_7 := XA_7.out.cell
  have XB_5 := Lib.hid (XB_4.out.keep hb)
  have cXB_5 := XB_5.out.cell
  have XC_3 := Lib.hid (XC_2.out.keep hb)
  have cXC_3 := XC_3.out.cell
  have XS_1 := Lib.hid (XS_0.out.keep hb)
  have cXS_1 := XS_1.out.cell
  have B_9 := Lib.hid (keepW B_8.out hb)
  obtain ⟨rfl, hr⟩ := hgot.ok LSZ.out
  have hnl := hr.le64 LSZ.out
  clear hb B_8 T_8 XA_6 cXA_6 XB_4 cXB_4 XC_2 cXC_2 XS_0 cXS_0 
  have hal : Below v5.heap.size v5 (v5.alloc (.cells #[.slice L nl cl] 28)) := (Below.refl _ _).alloc (Nat.le_refl _) _
  have T_10 := Lib.hid (T_9.out.keep hal)
  have XA_8 := Lib.hid (XA_7.out.keep hal)
  have cXA_8 := XA_8.out.cell
  have XB_6 := Lib.hid (XB_5.out.keep hal)
  have cXB_6 := XB_6.out.cell
  have XC_4 := Lib.hid (XC_3.out.keep hal)
  have cXC_4 := XC_4.out.cell
  have XS_2 := Lib.hid (XS_1.out.keep hal)
  have cXS_2 := XS_2.out.cell
  have B_10 := Lib.hid (keepW B_9.out hal)
  have XL_0 := Lib.hid (Box.new hr)
  have cXL_0 := XL_0.out.cell
  clear hal B_9 T_9 XA_7 cXA_7 XB_5 cXB_5 XC_3 cXC_3 XS_1 cXS_1
  clear hr hgot
  clear XS_2 cXS_2
  go_wp2_with fail
  refine (nat_Mul A na ca x C nc cc z _ XA_8.out.2 XC_4.out.2 (by omega) (by omega)).mono ?_
  rintro e v6 ⟨X1, nx, cx, code, rfl, hgot, hb⟩
  have T_11 := Lib.hid (T_10.out.keep hb)
  have XA_9 := Lib.hid (XA_8.out.keep hb)
  have cXA_9 := XA_9.out.cell
  have XB_7 := Lib.hid (XB_6.out.keep hb)
  have cXB_7 := XB_7.out.cell
  have XC_5 := Lib.hid (XC_4.out.keep hb)
  have cXC_5 := XC_5.out.cell
  have XL_1 := Lib.hid (XL_0.out.keep hb)
  have cXL_1 := XL_1.out.cell
  have B_11 := Lib.hid (keepW B_10.out hb)
  obtain ⟨rfl, hr⟩ := hgot.ok LXZ.out
  have hnx := hr.le64 LXZ.out
  clear hb B_10 T_10 XA_8 cXA_8 XB_6 cXB_6 XC_4 cXC_4 XL_0 cXL_0 
  have hal : Below v6.heap.size v6 (v6.alloc (.cells #[.slice X1 nx cx] 28)) := (Below.refl _ _).alloc (Nat.le_refl _) _
  have T_12 := Lib.hid (T_11.out.keep hal)
  have XA_10 := Lib.hid (XA_9.out.keep hal)
  have cXA_10 := XA_10.out.cell
  have XB_8 := Lib.hid (XB_7.out.keep hal)
  have cXB_8 := XB_8.out.cell
  have XC_6 := Lib.hid (XC_5.out.keep hal)
  have cXC_6 := XC_6.out.cell
  have XL_2 := Lib.hid (XL_1.out.keep hal)
  have cXL_2 := XL_2.out.cell
  have B_12 := Lib.hid (keepW B_11.out hal)
  have XX_0 := Lib.hid (Box.new hr)
  have cXX_0 := XX_0.out.cell
  clear hal B_11 T_11 XA_9 cXA_9 XB_7 cXB_7 XC_5 cXC_5 XL_1 cXL_1
  clear hr hgot
  go_wp2_with fail
  refine (nat_Mul B nb cb y C nc cc z _ XB_8.out.2 XC_6.out.2 (by omega) (by omega)).mono ?_
  rintro e v7 ⟨Y1, ny, cy, code, rfl, hgot, hb⟩
  have T_13 := Lib.hid (T_12.out.keep hb)
  have XA_11 := Lib.hid (XA_10.out.keep hb)
  have cXA_11 := XA_11.out.cell
  have XB_9 := Lib.hid (XB_8.out.keep hb)
  have cXB_9 := XB_9.out.cell
  have XC_7 := Lib.hid (XC_6.out.keep hb)
  have cXC_7 := XC_7.out.cell
  have XL_3 := Lib.hid (XL_2.out.keep hb)
  have cXL_3 := XL_3.out.cell
  have XX_1 := Lib.hid (XX_0.out.keep hb)
  have cXX_1 := XX_1.out.cell
  have B_13 := Lib.hid (keepW B_12.out hb)
  obtain ⟨rfl, hr⟩ := hgot.ok LYZ.out
  have hny := hr.le64 LYZ.out
  clear hb B_12 T_12 XA_10 cXA_10 XB_8 cXB_8 XC_6 cXC_6 XL_2 cXL_2 XX_0 cXX_0 
  have hal : Below v7.heap.size v7 (v7.alloc (.cells #[.slice Y1 ny cy] 28)) := (Below.refl _ _).alloc (Nat.le_refl _) _
  have T_14 := Lib.hid (T_13.out.keep hal)
  have XA_12 := Lib.hid (XA_11.out.keep hal)
  have cXA_12 := XA_12.out.cell
  have XB_10 := Lib.hid (XB_9.out.keep hal)
  have cXB_10 := XB_10.out.cell
  have XC_8 := Lib.hid (XC_7.out.keep hal)
  have cXC_8 := XC_8.out.cell
  have XL_4 := Lib.hid (XL_3.out.keep hal)
  have cXL_4 := XL_4.out.cell
  have XX_2 := Lib.hid (XX_1.out.keep hal)
  have cXX_2 := XX_2.out.cell
  have B_14 := Lib.hid (keepW B_13.out hal)
  have XY_0 := Lib.hid (Box.new hr)
  have cXY_0 := XY_0.out.cell
  clear hal B_13 T_13 XA_11 cXA_11 XB_9 cXB_9 XC_7 cXC_7 XL_3 cXL_3 XX_1 cXX_1
  clear hr hgot
  clear XC_8 cXC_8
  go_wp2_with fail
  refine (nat_Add X1 nx cx (x * z) Y1 ny cy (y * z) _ XX_2.out.2 XY_0.out.2 (by omega) (by omega)).mono ?_
  rintro e v8 ⟨R, nr, cr, code, rfl, hgot, hb⟩
  have T_15 := Lib.hid (T_14.out.keep hb)
  have XA_13 := Lib.hid (XA_12.out.keep hb)
  have cXA_13 := XA_13.out.cell
  have XB_11 := Lib.hid (XB_10.out.keep hb)
  have cXB_11 := XB_11.out.cell
  have XL_5 := Lib.hid (XL_4.out.keep hb)
  have cXL_5 := XL_5.out.cell
  have XX_3 := Lib.hid (XX_2.out.keep hb)
  have cXX_3 := XX_3.out.cell
  have XY_1 := Lib.hid (XY_0.out.keep hb)
  have cXY_1 := XY_1.out.cell
  have B_15 := Lib.hid (keepW B_14.out hb)
  obtain ⟨rfl, hr⟩ := hgot.ok LR.out
  have hnr := hr.le64 LR.out
  clear hb B_14 T_14 XA_12 cXA_12 XB_10 cXB_10 XL_4 cXL_4 XX_2 cXX_2 XY_0 cXY_0 
  have hal : Below v8.heap.size v8 (v8.alloc (.cells #[.slice R nr cr] 28)) := (Below.refl _ _).alloc (Nat.le_refl _) _
  have T_16 := Lib.hid (T_15.out.keep hal)
  have XA_14 := Lib.hid (XA_13.out.keep hal)
  have cXA_14 := XA_14.out.cell
  have XB_12 := Lib.hid (XB_11.out.keep hal)
  have cXB_12 := XB_12.out.cell
  have XL_6 := Lib.hid (XL_5.out.keep hal)
  have cXL_6 := XL_6.out.cell
  have XX_4 := Lib.hid (XX_3.out.keep hal)
  have cXX_4 := XX_4.out.cell
  have XY_2 := Lib.hid (XY_1.out.keep hal)
  have cXY_2 := XY_2.out.cell
  have B_16 := Lib.hid (keepW B_15.out hal)
  have XR_0 := Lib.hid (Box.new hr)
  have cXR_0 := XR_0.out.cell
  clear hal B_15 T_15 XA_13 cXA_13 XB_11 cXB_11 XL_5 cXL_5 XX_3 cXX_3 XY_1 cXY_1
  clear hr hgot
  clear XX_4 cXX_4
  clear XY_2 cXY_2
  go_wp2_with fail
  refine (nat_Cmp L nl cl ((x + y) * z) R nr cr (x * z + y * z) _ XL_6.out.2 XR_0.out.2).mono ?_
  rintro e v9 ⟨rfl, hb⟩
  have T_17 := Lib.hid (T_16.out.keep hb)
  have XA_15 := Lib.hid (XA_14.out.keep hb)
  have cXA_15 := XA_15.out.cell
  have XB_13 := Lib.hid (XB_12.out.keep hb)
  have cXB_13 := XB_13.out.cell
  have XL_7 := Lib.hid (XL_6.out.keep hb)
  have cXL_7 := XL_7.out.cell
  have XR_1 := Lib.hid (XR_0.out.keep hb)
  have cXR_1 := XR_1.out.cell
  have B_17 := Lib.hid (keepW B_16.out hb)
  rw [show cmpN ((x + y) * z) (x * z + y * z) = 0 from cmpN_zero.2 (Nat.add_mul x y z)]
  clear hb B_16 T_16 XA_14 cXA_14 XB_12 cXB_12 XL_6 cXL_6 XR_0 cXR_0 
  clear XL_7 cXL_7
  clear XR_1 cXR_1
  go_wp2_with fail
  refine (nat_Zero B nb cb _).mono ?_
  rintro e v10 ⟨rfl, hb⟩
  have T_18 := Lib.hid (T_17.out.keep hb)
  have XA_16 := Lib.hid (XA_15.out.keep hb)
  have cXA_16 := XA_16.out.cell
  have XB_14 := Lib.hid (XB_13.out.keep hb)
  have cXB_14 := XB_14.out.cell
  have B_18 := Lib.hid (keepW B_17.out hb)
  clear hb B_17 T_17 XA_15 cXA_15 XB_13 cXB_13 
  by_cases hz0 : nb = 0
  · have hd : decide (nb = 0) = true := decide_eq_true hz0
    have HZ0 := Lib.hid hz0
    clear hz0
    go_wp2_with fail
    refine (law_Awake _).mono ?_
    rintro e va ⟨rfl, hb⟩
    have T_19 := Lib.hid (T_18.out.keep hb)
    have XA_17 := Lib.hid (XA_16.out.keep hb)
    have cXA_17 := XA_17.out.cell
    have XB_15 := Lib.hid (XB_14.out.keep hb)
    have cXB_15 := XB_15.out.cell
    have B_19 := Lib.hid (keepW B_18.out hb)
    clear hb B_18 T_18 XA_16 cXA_16 XB_14 cXB_14 
    go_wp2
    go_ret
    exact ⟨rfl, B_19.out⟩
  have hd : decide (nb = 0) = false := decide_eq_false hz0
  have hy0 : 0 < y := Nat.pos_of_ne_zero (fun e => hz0 ((XB_14.out.2.zero_iff B64_pos).2 e))
  have HYP := Lib.hid hy0
  clear hz0 hy0
  have LQ : Hid (x / y < Lim) := Lib.hid (Nat.lt_of_le_of_lt (Nat.div_le_self _ _) LX.out)
  have LRR : Hid (x % y < Lim) := Lib.hid (Nat.lt_of_le_of_lt (Nat.mod_le _ _) LX.out)
  have LP : Hid (x / y * y < Lim) := Lib.hid (Nat.lt_of_le_of_lt (Nat.div_mul_le_self x y) LX.out)
  have HXD : Hid (x / y * y + x % y = x) := Lib.hid (by rw [Nat.mul_comm]; exact Nat.div_add_mod x y)
  have LB : Hid (x / y * y + x % y < Lim) := Lib.hid (by rw [HXD.out]; exact LX.out)
  have LG : Hid (Nat.gcd x y < Lim) := Lib.hid (Nat.lt_of_le_of_lt (Nat.gcd_le_right x HYP.out) LY.out)
  have HGP : Hid (0 < Nat.gcd x y) := Lib.hid (Nat.gcd_pos_of_pos_right x HYP.out)
  have HGX : Hid (x % Nat.gcd x y = 0) := Lib.hid (Nat.mod_eq_zero_of_dvd (Nat.gcd_dvd_left x y))
  have HGY : Hid (y % Nat.gcd x y = 0) := Lib.hid (Nat.mod_eq_zero_of_dvd (Nat.gcd_dvd_right x y))
  go_wp2_with fail
  refine (nat_Div A na ca x B nb cb y _ XA_16.out.2 XB_14.out.2 (by omega) LX.out).mono ?_
  rintro e v11 ⟨Q, nQ, cQ, T1, nT1, cT1, code, rfl, hb, hdiv⟩
  have T_19 := Lib.hid (T_18.out.keep hb)
  have XA_17 := Lib.hid (XA_16.out.keep hb)
  have cXA_17 := XA_17.out.cell
  have XB_15 := Lib.hid (XB_14.out.keep hb)
  have cXB_15 := XB_15.out.cell
  have B_19 := Lib.hid (keepW B_18.out hb)
  obtain ⟨hbad, _⟩ | ⟨_, rfl, hrq, hrr⟩ := hdiv
  · exact absurd hbad (Nat.ne_of_gt HYP.out)
  clear hb B_18 T_18 XA_16 cXA_16 XB_14 cXB_14 
  have hnQ := hrq.le64 LQ.out
  have hnT1 := hrr.le64 LRR.out
  have hrr2 := hrr.alloc (.cells #[.slice Q nQ cQ] 28)
  have hal : Below v11.heap.size v11 (v11.alloc (.cells #[.slice Q nQ cQ] 28)) := (Below.refl _ _).alloc (Nat.le_refl _) _
  have T_20 := Lib.hid (T_19.out.keep hal)
  have XA_18 := Lib.hid (XA_17.out.keep hal)
  have cXA_18 := XA_18.out.cell
  have XB_16 := Lib.hid (XB_15.out.keep hal)
  have cXB_16 := XB_16.out.cell
  have B_20 := Lib.hid (keepW B_19.out hal)
  have XQ_0 := Lib.hid (Box.new hrq)
  have cXQ_0 := XQ_0.out.cell
  clear hal B_19 T_19 XA_17 cXA_17 XB_15 cXB_15
  clear hrq hrr
  have hal : Below ((v11.alloc (.cells #[.slice Q nQ cQ] 28))).heap.size ((v11.alloc (.cells #[.slice Q nQ cQ] 28))) (((v11.alloc (.cells #[.slice Q nQ cQ] 28))).alloc (.cells #[.slice T1 nT1 cT1] 28)) := (Below.refl _ _).alloc (Nat.le_refl _) _
  have T_21 := Lib.hid (T_20.out.keep hal)
  have XA_19 := Lib.hid (XA_18.out.keep hal)
  have cXA_19 := XA_19.out.cell
  have XB_17 := Lib.hid (XB_16.out.keep hal)
  have cXB_17 := XB_17.out.cell
  have XQ_1 := Lib.hid (XQ_0.out.keep hal)
  have cXQ_1 := XQ_1.out.cell
  have B_21 := Lib.hid (keepW B_20.out hal)
  have XT_0 := Lib.hid (Box.new2 hrr2)
  have cXT_0 := XT_0.out.cell
  clear hal B_20 T_20 XA_18 cXA_18 XB_16 cXB_16 XQ_0 cXQ_0
  clear hrr2
  go_wp2_with fail
  refine (nat_Mul Q nQ cQ (x / y) B nb cb y _ XQ_1.out.2 XB_17.out.2 (by omega) (by omega)).mono ?_
  rintro e v12 ⟨P, np, cp, code, rfl, hgot, hb⟩
  have T_22 := Lib.hid (T_21.out.keep hb)
  have XA_20 := Lib.hid (XA_19.out.keep hb)
  have cXA_20 := XA_20.out.cell
  have XB_18 := Lib.hid (XB_17.out.keep hb)
  have cXB_18 := XB_18.out.cell
  have XQ_2 := Lib.hid (XQ_1.out.keep hb)
  have cXQ_2 := XQ_2.out.cell
  have XT_1 := Lib.hid (XT_0.out.keep hb)
  have cXT_1 := XT_1.out.cell
  have B_22 := Lib.hid (keepW B_21.out hb)
  obtain ⟨rfl, hr⟩ := hgot.ok LP.out
  have hnp := hr.le64 LP.out
  clear hb B_21 T_21 XA_19 cXA_19 XB_17 cXB_17 XQ_1 cXQ_1 XT_0 cXT_0 
  have hal : Below v12.heap.size v12 (v12.alloc (.cells #[.slice P np cp] 28)) := (Below.refl _ _).alloc (Nat.le_refl _) _
  have T_23 := Lib.hid (T_22.out.keep hal)
  have XA_21 := Lib.hid (XA_20.out.keep hal)
  have cXA_21 := XA_21.out.cell
  have XB_19 := Lib.hid (XB_18.out.keep hal)
  have cXB_19 := XB_19.out.cell
  have XQ_3 := Lib.hid (XQ_2.out.keep hal)
  have cXQ_3 := XQ_3.out.cell
  have XT_2 := Lib.hid (XT_1.out.keep hal)
  have cXT_2 := XT_2.out.cell
  have B_23 := Lib.hid (keepW B_22.out hal)
  have XP_0 := Lib.hid (Box.new hr)
  have cXP_0 := XP_0.out.cell
  clear hal B_22 T_22 XA_20 cXA_20 XB_18 cXB_18 XQ_2 cXQ_2 XT_1 cXT_1
  clear hr hgot
  go_wp2_with fail
  refine (nat_Add P np cp (x / y * y) T1 nT1 cT1 (x % y) _ XP_0.out.2 XT_2.out.2 (by omega) (by omega)).mono ?_
  rintro e v13 ⟨K, nk, ck, code, rfl, hgot, hb⟩
  have T_24 := Lib.hid (T_23.out.keep hb)
  have XA_22 := Lib.hid (XA_21.out.keep hb)
  have cXA_22 := XA_22.out.cell
  have XB_20 := Lib.hid (XB_19.out.keep hb)
  have cXB_20 := XB_20.out.cell
  have XQ_4 := Lib.hid (XQ_3.out.keep hb)
  have cXQ_4 := XQ_4.out.cell
  have XT_3 := Lib.hid (XT_2.out.keep hb)
  have cXT_3 := XT_3.out.cell
  have XP_1 := Lib.hid (XP_0.out.keep hb)
  have cXP_1 := XP_1.out.cell
  have B_24 := Lib.hid (keepW B_23.out hb)
  obtain ⟨rfl, hr⟩ := hgot.ok LB.out
  have hnk := hr.le64 LB.out
  clear hb B_23 T_23 XA_21 cXA_21 XB_19 cXB_19 XQ_3 cXQ_3 XT_2 cXT_2 XP_0 cXP_0 
  have hal : Below v13.heap.size v13 (v13.alloc (.cells #[.slice K nk ck] 28)) := (Below.refl _ _).alloc (Nat.le_refl _) _
  have T_25 := Lib.hid (T_24.out.keep hal)
  have XA_23 := Lib.hid (XA_22.out.keep hal)
  have cXA_23 := XA_23.out.cell
  have XB_21 := Lib.hid (XB_20.out.keep hal)
  have cXB_21 := XB_21.out.cell
  have XQ_5 := Lib.hid (XQ_4.out.keep hal)
  have cXQ_5 := XQ_5.out.cell
  have XT_4 := Lib.hid (XT_3.out.keep hal)
  have cXT_4 := XT_4.out.cell
  have XP_2 := Lib.hid (XP_1.out.keep hal)
  have cXP_2 := XP_2.out.cell
  have B_25 := Lib.hid (keepW B_24.out hal)
  have XK_0 := Lib.hid (Box.new hr)
  have cXK_0 := XK_0.out.cell
  clear hal B_24 T_24 XA_22 cXA_22 XB_20 cXB_20 XQ_4 cXQ_4 XT_3 cXT_3 XP_1 cXP_1
  clear hr hgot
  clear XP_2 cXP_2
  clear XQ_5 cXQ_5
  go_wp2_with fail
  refine (nat_Gcd A na ca x B nb cb y _ XA_23.out.2 XB_21.out.2 (by omega) (by omega) LX.out T_25.out).mono ?_
  rintro e v14 ⟨G, ng, cg, rfl, hrg, hb⟩
  have T_26 := Lib.hid (T_25.out.keep hb)
  have XA_24 := Lib.hid (XA_23.out.keep hb)
  have cXA_24 := XA_24.out.cell
  have XB_22 := Lib.hid (XB_21.out.keep hb)
  have cXB_22 := XB_22.out.cell
  have XT_5 := Lib.hid (XT_4.out.keep hb)
  have cXT_5 := XT_5.out.cell
  have XK_1 := Lib.hid (XK_0.out.keep hb)
  have cXK_1 := XK_1.out.cell
  have B_26 := Lib.hid (keepW B_25.out hb)
  have hng := hrg.le64 LG.out
  clear hb B_25 T_25 XA_23 cXA_23 XB_21 cXB_21 XT_4 cXT_4 XK_0 cXK_0 
  have hal : Below v14.heap.size v14 (v14.alloc (.cells #[.slice G ng cg] 28)) := (Below.refl _ _).alloc (Nat.le_refl _) _
  have T_27 := Lib.hid (T_26.out.keep hal)
  have XA_25 := Lib.hid (XA_24.out.keep hal)
  have cXA_25 := XA_25.out.cell
  have XB_23 := Lib.hid (XB_22.out.keep hal)
  have cXB_23 := XB_23.out.cell
  have XT_6 := Lib.hid (XT_5.out.keep hal)
  have cXT_6 := XT_6.out.cell
  have XK_2 := Lib.hid (XK_1.out.keep hal)
  have cXK_2 := XK_2.out.cell
  have B_27 := Lib.hid (keepW B_26.out hal)
  have XG_0 := Lib.hid (Box.new hrg)
  have cXG_0 := XG_0.out.cell
  clear hal B_26 T_26 XA_24 cXA_24 XB_22 cXB_22 XT_5 cXT_5 XK_1 cXK_1
  clear hrg
  go_wp2_with fail
  refine (nat_Div A na ca x G ng cg (Nat.gcd x y) _ XA_25.out.2 XG_0.out.2 (by omega) LX.out).mono ?_
  rintro e v15 ⟨M1, nM1, cM1, M2, nM2, cM2, code, rfl, hb, hdiv⟩
  have T_28 := Lib.hid (T_27.out.keep hb)
  have XA_26 := Lib.hid (XA_25.out.keep hb)
  have cXA_26 := XA_26.out.cell
  have XB_24 := Lib.hid (XB_23.out.keep hb)
  have cXB_24 := XB_24.out.cell
  have XT_7 := Lib.hid (XT_6.out.keep hb)
  have cXT_7 := XT_7.out.cell
  have XK_3 := Lib.hid (XK_2.out.keep hb)
  have cXK_3 := XK_3.out.cell
  have XG_1 := Lib.hid (XG_0.out.keep hb)
  have cXG_1 := XG_1.out.cell
  have B_28 := Lib.hid (keepW B_27.out hb)
  obtain ⟨hbad, _⟩ | ⟨_, rfl, hrq, hrr⟩ := hdiv
  · exact absurd hbad (Nat.ne_of_gt HGP.out)
  clear hb B_27 T_27 XA_25 cXA_25 XB_23 cXB_23 XT_6 cXT_6 XK_2 cXK_2 XG_0 cXG_0 
  have hnM1 := hrq.le64 (Nat.lt_of_le_of_lt (Nat.div_le_self _ _) LX.out)
  have hnM2 := hrr.le64 (Nat.lt_of_le_of_lt (Nat.mod_le _ _) LX.out)
  have hrr2 := hrr.alloc (.cells #[.slice M1 nM1 cM1] 28)
  rw [HGX.out] at hrr2
  have hal : Below v15.heap.size v15 (v15.alloc (.cells #[.slice M1 nM1 cM1] 28)) := (Below.refl _ _).alloc (Nat.le_refl _) _
  have T_29 := Lib.hid (T_28.out.keep hal)
  have XA_27 := Lib.hid (XA_26.out.keep hal)
  have cXA_27 := XA_27.out.cell
  have XB_25 := Lib.hid (XB_24.out.keep hal)
  have cXB_25 := XB_25.out.cell
  have XT_8 := Lib.hid (XT_7.out.keep hal)
  have cXT_8 := XT_8.out.cell
  have XK_4 := Lib.hid (XK_3.out.keep hal)
  have cXK_4 := XK_4.out.cell
  have XG_2 := Lib.hid (XG_1.out.keep hal)
  have cXG_2 := XG_2.out.cell
  have B_29 := Lib.hid (keepW B_28.out hal)
  have XM1_0 := Lib.hid (Box.new hrq)
  have cXM1_0 := XM1_0.out.cell
  clear hal B_28 T_28 XA_26 cXA_26 XB_24 cXB_24 XT_7 cXT_7 XK_3 cXK_3 XG_1 cXG_1
  clear hrq hrr
  have hal : Below ((v15.alloc (.cells #[.slice M1 nM1 cM1] 28))).heap.size ((v15.alloc (.cells #[.slice M1 nM1 cM1] 28))) (((v15.alloc (.cells #[.slice M1 nM1 cM1] 28))).alloc (.cells #[.slice M2 nM2 cM2] 28)) := (Below.refl _ _).alloc (Nat.le_refl _) _
  have T_30 := Lib.hid (T_29.out.keep hal)
  have XA_28 := Lib.hid (XA_27.out.keep hal)
  have cXA_28 := XA_28.out.cell
  have XB_26 := Lib.hid (XB_25.out.keep hal)
  have cXB_26 := XB_26.out.cell
  have XT_9 := Lib.hid (XT_8.out.keep hal)
  have cXT_9 := XT_9.out.cell
  have XK_5 := Lib.hid (XK_4.out.keep hal)
  have cXK_5 := XK_5.out.cell
  have XG_3 := Lib.hid (XG_2.out.keep hal)
  have cXG_3 := XG_3.out.cell
  have XM1_1 := Lib.hid (XM1_0.out.keep hal)
  have cXM1_1 := XM1_1.out.cell
  have B_30 := Lib.hid (keepW B_29.out hal)
  have XM2_0 := Lib.hid (Box.new2 hrr2)
  have cXM2_0 := XM2_0.out.cell
  clear hal B_29 T_29 XA_27 cXA_27 XB_25 cXB_25 XT_8 cXT_8 XK_4 cXK_4 XG_2 cXG_2 XM1_0 cXM1_0
  clear hrr2
  clear XM1_1 cXM1_1
  go_wp2_with fail
  refine (nat_Div B nb cb y G ng cg (Nat.gcd x y) _ XB_26.out.2 XG_3.out.2 (by omega) LY.out).mono ?_
  rintro e v16 ⟨N1, nN1, cN1, N2, nN2, cN2, code, rfl, hb, hdiv⟩
  have T_31 := Lib.hid (T_30.out.keep hb)
  have XA_29 := Lib.hid (XA_28.out.keep hb)
  have cXA_29 := XA_29.out.cell
  have XB_27 := Lib.hid (XB_26.out.keep hb)
  have cXB_27 := XB_27.out.cell
  have XT_10 := Lib.hid (XT_9.out.keep hb)
  have cXT_10 := XT_10.out.cell
  have XK_6 := Lib.hid (XK_5.out.keep hb)
  have cXK_6 := XK_6.out.cell
  have XG_4 := Lib.hid (XG_3.out.keep hb)
  have cXG_4 := XG_4.out.cell
  have XM2_1 := Lib.hid (XM2_0.out.keep hb)
  have cXM2_1 := XM2_1.out.cell
  have B_31 := Lib.hid (keepW B_30.out hb)
  obtain ⟨hbad, _⟩ | ⟨_, rfl, hrq, hrr⟩ := hdiv
  · exact absurd hbad (Nat.ne_of_gt HGP.out)
  clear hb B_30 T_30 XA_28 cXA_28 XB_26 cXB_26 XT_9 cXT_9 XK_5 cXK_5 XG_3 cXG_3 XM2_0 cXM2_0 
  have hnN1 := hrq.le64 (Nat.lt_of_le_of_lt (Nat.div_le_self _ _) LY.out)
  have hnN2 := hrr.le64 (Nat.lt_of_le_of_lt (Nat.mod_le _ _) LY.out)
  have hrr2 := hrr.alloc (.cells #[.slice N1 nN1 cN1] 28)
  rw [HGY.out] at hrr2
  have hal : Below v16.heap.size v16 (v16.alloc (.cells #[.slice N1 nN1 cN1] 28)) := (Below.refl _ _).alloc (Nat.le_refl _) _
  have T_32 := Lib.hid (T_31.out.keep hal)
  have XA_30 := Lib.hid (XA_29.out.keep hal)
  have cXA_30 := XA_30.out.cell
  have XB_28 := Lib.hid (XB_27.out.keep hal)
  have cXB_28 := XB_28.out.cell
  have XT_11 := Lib.hid (XT_10.out.keep hal)
  have cXT_11 := XT_11.out.cell
  have XK_7 := Lib.hid (XK_6.out.keep hal)
  have cXK_7 := XK_7.out.cell
  have XG_5 := Lib.hid (XG_4.out.keep hal)
  have cXG_5 := XG_5.out.cell
  have XM2_2 := Lib.hid (XM2_1.out.keep hal)
  have cXM2_2 := XM2_2.out.cell
  have B_32 := Lib.hid (keepW B_31.out hal)
  have XN1_0 := Lib.hid (Box.new hrq)
  have cXN1_0 := XN1_0.out.cell
  clear hal B_31 T_31 XA_29 cXA_29 XB_27 cXB_27 XT_10 cXT_10 XK_6 cXK_6 XG_4 cXG_4 XM2_1 cXM2_1
  clear hrq hrr
  have hal : Below ((v16.alloc (.cells #[.slice N1 nN1 cN1] 28))).heap.size ((v16.alloc (.cells #[.slice N1 nN1 cN1] 28))) (((v16.alloc (.cells #[.slice N1 nN1 cN1] 28))).alloc (.cells #[.slice N2 nN2 cN2] 28)) := (Below.refl _ _).alloc (Nat.le_refl _) _
  have T_33 := Lib.hid (T_32.out.keep hal)
  have XA_31 := Lib.hid (XA_30.out.keep hal)
  have cXA_31 := XA_31.out.cell
  have XB_29 := Lib.hid (XB_28.out.keep hal)
  have cXB_29 := XB_29.out.cell
  have XT_12 := Lib.hid (XT_11.out.keep hal)
  have cXT_12 := XT_12.out.cell
  have XK_8 := Lib.hid (XK_7.out.keep hal)
  have cXK_8 := XK_8.out.cell
  have XG_6 := Lib.hid (XG_5.out.keep hal)
  have cXG_6 := XG_6.out.cell
  have XM2_3 := Lib.hid (XM2_2.out.keep hal)
  have cXM2_3 := XM2_3.out.cell
  have XN1_1 := Lib.hid (XN1_0.out.keep hal)
  have cXN1_1 := XN1_1.out.cell
  have B_33 := Lib.hid (keepW B_32.out hal)
  have XN2_0 := Lib.hid (Box.new2 hrr2)
  have cXN2_0 := XN2_0.out.cell
  clear hal B_32 T_32 XA_30 cXA_30 XB_28 cXB_28 XT_11 cXT_11 XK_7 cXK_7 XG_5 cXG_5 XM2_2 cXM2_2 XN1_0 cXN1_0
  clear hrr2
  clear XN1_1 cXN1_1
  clear XG_6 cXG_6
  clear T_33
  go_wp2_with fail
  refine (law_Awake _).mono ?_
  rintro e va ⟨rfl, hb⟩
  have XA_32 := Lib.hid (XA_31.out.keep hb)
  have cXA_32 := XA_32.out.cell
  have XB_30 := Lib.hid (XB_29.out.keep hb)
  have cXB_30 := XB_30.out.cell
  have XT_13 := Lib.hid (XT_12.out.keep hb)
  have cXT_13 := XT_13.out.cell
  have XK_9 := Lib.hid (XK_8.out.keep hb)
  have cXK_9 := XK_9.out.cell
  have XM2_4 := Lib.hid (XM2_3.out.keep hb)
  have cXM2_4 := XM2_4.out.cell
  have XN2_1 := Lib.hid (XN2_0.out.keep hb)
  have cXN2_1 := XN2_1.out.cell
  have B_34 := Lib.hid (keepW B_33.out hb)
  clear hb B_33 XA_31 cXA_31 XB_29 cXB_29 XT_12 cXT_12 XK_8 cXK_8 XM2_3 cXM2_3 XN2_0 cXN2_0 
  go_wp2_with fail
  refine (nat_Cmp K nk ck (x / y * y + x % y) A na ca x _ XK_9.out.2 XA_32.out.2).mono ?_
  rintro e v17 ⟨rfl, hb⟩
  have XA_33 := Lib.hid (XA_32.out.keep hb)
  have cXA_33 := XA_33.out.cell
  have XB_31 := Lib.hid (XB_30.out.keep hb)
  have cXB_31 := XB_31.out.cell
  have XT_14 := Lib.hid (XT_13.out.keep hb)
  have cXT_14 := XT_14.out.cell
  have XK_10 := Lib.hid (XK_9.out.keep hb)
  have cXK_10 := XK_10.out.cell
  have XM2_5 := Lib.hid (XM2_4.out.keep hb)
  have cXM2_5 := XM2_5.out.cell
  have XN2_2 := Lib.hid (XN2_1.out.keep hb)
  have cXN2_2 := XN2_2.out.cell
  have B_35 := Lib.hid (keepW B_34.out hb)
  rw [show cmpN (x / y * y + x % y) x = 0 from cmpN_zero.2 HXD.out]
  clear hb B_34 XA_32 cXA_32 XB_30 cXB_30 XT_13 cXT_13 XK_9 cXK_9 XM2_4 cXM2_4 XN2_1 cXN2_1 
  go_wp2_with fail
  refine (nat_Cmp T1 nT1 cT1 (x % y) B nb cb y _ XT_14.out.2 XB_31.out.2).mono ?_
  rintro e v18 ⟨rfl, hb⟩
  have XA_34 := Lib.hid (XA_33.out.keep hb)
  have cXA_34 := XA_34.out.cell
  have XB_32 := Lib.hid (XB_31.out.keep hb)
  have cXB_32 := XB_32.out.cell
  have XT_15 := Lib.hid (XT_14.out.keep hb)
  have cXT_15 := XT_15.out.cell
  have XK_11 := Lib.hid (XK_10.out.keep hb)
  have cXK_11 := XK_11.out.cell
  have XM2_6 := Lib.hid (XM2_5.out.keep hb)
  have cXM2_6 := XM2_6.out.cell
  have XN2_3 := Lib.hid (XN2_2.out.keep hb)
  have cXN2_3 := XN2_3.out.cell
  have B_36 := Lib.hid (keepW B_35.out hb)
  rw [cmpN_lt (Nat.mod_lt x HYP.out)]
  clear hb B_35 XA_33 cXA_33 XB_31 cXB_31 XT_14 cXT_14 XK_10 cXK_10 XM2_5 cXM2_5 XN2_2 cXN2_2 
  have hm2 : decide (nM2 = 0) = true := decide_eq_true ((XM2_6.out.2.zero_iff B64_pos).2 rfl)
  have hn2 : decide (nN2 = 0) = true := decide_eq_true ((XN2_3.out.2.zero_iff B64_pos).2 rfl)
  go_wp2_with fail
  refine (nat_Zero M2 nM2 cM2 _).mono ?_
  rintro e v19 ⟨rfl, hb⟩
  have XA_35 := Lib.hid (XA_34.out.keep hb)
  have cXA_35 := XA_35.out.cell
  have XB_33 := Lib.hid (XB_32.out.keep hb)
  have cXB_33 := XB_33.out.cell
  have XT_16 := Lib.hid (XT_15.out.keep hb)
  have cXT_16 := XT_16.out.cell
  have XK_12 := Lib.hid (XK_11.out.keep hb)
  have cXK_12 := XK_12.out.cell
  have XM2_7 := Lib.hid (XM2_6.out.keep hb)
  have cXM2_7 := XM2_7.out.cell
  have XN2_4 := Lib.hid (XN2_3.out.keep hb)
  have cXN2_4 := XN2_4.out.cell
  have B_37 := Lib.hid (keepW B_36.out hb)
  clear hb B_36 XA_34 cXA_34 XB_32 cXB_32 XT_15 cXT_15 XK_11 cXK_11 XM2_6 cXM2_6 XN2_3 cXN2_3 
  go_wp2_with fail
  refine (nat_Zero N2 nN2 cN2 _).mono ?_
  rintro e v20 ⟨rfl, hb⟩
  have XA_36 := Lib.hid (XA_35.out.keep hb)
  have cXA_36 := XA_36.out.cell
  have XB_34 := Lib.hid (XB_33.out.keep hb)
  have cXB_34 := XB_34.out.cell
  have XT_17 := Lib.hid (XT_16.out.keep hb)
  have cXT_17 := XT_17.out.cell
  have XK_13 := Lib.hid (XK_12.out.keep hb)
  have cXK_13 := XK_13.out.cell
  have XM2_8 := Lib.hid (XM2_7.out.keep hb)
  have cXM2_8 := XM2_8.out.cell
  have XN2_5 := Lib.hid (XN2_4.out.keep hb)
  have cXN2_5 := XN2_5.out.cell
  have B_38 := Lib.hid (keepW B_37.out hb)
  clear hb B_37 XA_35 cXA_35 XB_33 cXB_33 XT_16 cXT_16 XK_12 cXK_12 XM2_7 cXM2_7 XN2_4 cXN2_4 
  go_wp2
  go_ret
  exact ⟨rfl, B_38.out⟩

end Go.Proofs.YtmjinhieeflkgaaDoorRRRR
