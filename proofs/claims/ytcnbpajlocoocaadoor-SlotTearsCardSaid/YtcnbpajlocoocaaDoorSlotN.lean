/- What lies on a disk behind slot's Write; the document's example of layer 15. -/
import Derived.Test.YtcnbpajlocoocaaDoorSlotM
import Derived.Test.YtcnbpajlocoocaaDoorSealSums
namespace Go.Proofs.YtcnbpajlocoocaaDoor
open Go.RowKit Go.Maps
set_option maxRecDepth 100000

theorem slotW_fit {D : DSt} {i r gen : Nat} {t : List UInt8} (h1 : 1 ≤ r) (h2 : i + r ≤ D.lasts.length) (ht : t.length + 4 ≤ 110 * r) : slotW D (i : Int) (r : Int) gen t = wrParts D i (partsL gen t) := by
  unfold slotW
  rw [liesB_yes h1 h2, if_neg (by decide), if_neg (by omega), Int.toNat_natCast]
theorem slotW_long {D : DSt} {i r gen : Nat} {t : List UInt8} (h1 : 1 ≤ r) (h2 : i + r ≤ D.lasts.length) (ht : 110 * r < t.length + 4) : slotW D (i : Int) (r : Int) gen t = (D, 11) := by
  unfold slotW
  rw [liesB_yes h1 h2, if_neg (by decide), if_pos (by omega)]
theorem slotW_small {n : Nat} {D : DSt} {i r : Int} {gen : Nat} {t : List UInt8} (h : SmallN (n + 5000) D) (ht : t.length ≤ 400000) : SmallN n (slotW D i r gen t).1 := by
  have hl := sumT_len t
  unfold slotW
  split
  · exact h.mono (by omega)
  · split
    · exact h.mono (by omega)
    · refine SmallN.parts _ (h.mono ?_)
      rw [partsL_len]
      unfold partN
      omega
theorem slotW_state {D : DSt} {i r gen : Nat} {t : List UInt8} (h1 : 1 ≤ r) (h2 : i + r ≤ D.lasts.length) (ht : t.length + 4 ≤ 110 * r) :
    ∃ m, m ≤ partN (sumT t) ∧ (slotW D (i : Int) (r : Int) gen t).1.waits = D.waits ++ seqW (fun q => secP gen (sumT t) (q - i)) i m ∧ (slotW D (i : Int) (r : Int) gen t).1.lasts = D.lasts ∧ ((slotW D (i : Int) (r : Int) gen t).2 = 0 → m = partN (sumT t)) ∧
      (D.armed = 0 → (slotW D (i : Int) (r : Int) gen t).2 = 0 ∧ (slotW D (i : Int) (r : Int) gen t).1.armed = 0) := by
  rw [slotW_fit h1 h2 ht]
  have hl := sumT_len t
  exact wr_parts (by have := partN_le (sumT t) (r := r) (by omega); omega) (partN (sumT t)) (Nat.le_refl _)
theorem parts_room {t : List UInt8} {r : Nat} (ht : t.length + 4 ≤ 110 * r) : partN (sumT t) ≤ r := partN_le _ (by rw [sumT_len]; exact ht)
theorem smallN_new (n : Nat) : SmallN 500000 (newD n) := ⟨⟨by simp [newD], by simp [newD]⟩, by simp [newD], by simp [newD]⟩

/-- The example's disk. -/
def exS : DSt := (slotW (newD 3) 1 1 7 [97, 98]).1
theorem exS_is : (slotW (newD 3) 1 1 7 [97, 98]).2 = 0 ∧ exS.waits = [(1, secP 7 (sumT [97, 98]) 0)] ∧ exS.lasts = (newD 3).lasts ∧ partN (sumT [97, 98]) = 1 := by
  have hp : partN (sumT [97, 98]) = 1 := by unfold partN; rw [sumT_len]; rfl
  obtain ⟨m, m1, m2, m3, m4, m5⟩ := slotW_state (D := newD 3) (i := 1) (r := 1) (gen := 7) (t := [97, 98]) (Nat.le_refl _) (by simp [newD]) (by simp)
  have h5 := m5 rfl
  have hm := m4 h5.1
  rw [hp] at hm
  subst hm
  exact ⟨h5.1, m2, m3, hp⟩
theorem exS_read : rdD exS 1 = (secP 7 (sumT [97, 98]) 0, 0) := by
  obtain ⟨_, h2, h3, _⟩ := exS_is
  have h := rdD_wait (D := exS) (i := 1) (j := 0) (by rw [h3]; decide) (by rw [h2]; rfl)
  rw [h2] at h
  exact h
theorem exS_open : openT (secP 7 (sumT [97, 98]) 0) = ((3, 7, 0, sumT [97, 98]), 0) := by
  rw [open_part (by omega) (by omega)]
  unfold partAt
  rw [if_pos (by rw [exS_is.2.2.2]), Nat.mul_zero, List.drop_zero, List.take_of_length_le (by rw [sumT_len]; decide)]
theorem exS_found : readF (foundL exS 1 2) = ([97, 98], 7, true) := by
  obtain ⟨_, h2, h3, hp⟩ := exS_is
  have h0 : recAt exS 1 = (partAt 7 (sumT [97, 98]) 0, 0) := by
    unfold recAt
    rw [show (((1 : Nat) : Int)) = 1 from rfl, exS_read]
    exact open_part (by omega) (by omega)
  obtain ⟨m, m1, m2, m3, _⟩ := found_all (r := 2) (by omega) (by rw [hp]; omega) h0 (fun j a b c => by omega)
  have hm : m = partN (sumT [97, 98]) := by omega
  have e : foundL exS 1 2 = foundF 0 0 (openK exS 1 2) := foundL_K (i := 1) (r := 2) (by omega) (by rw [h3]; simp [newD])
  rw [e, m3, hm, read_whole]

set_option maxHeartbeats 8000000 in
theorem slot_Awake (w : World) : Calls Tryd.prog 14 #[] w fun e w' => e = .returned (.bool true) ∧ Below w.heap.size w w' := by
  have HN := Lib.hid (disk_New 3 w (by omega) (by omega))
  have HA1 := Lib.hid disk_Awake
  have HA2 := Lib.hid seal_Awake
  go_enter Tryd.func14, Tryd.ntmps14
  go_wp2_with fail
  refine HN.out.mono ?_
  rintro e w1 ⟨p, gl, M, v, rfl, h1, hb1⟩
  have D1 := Lib.hid h1
  have B1 := Lib.hid hb1
  have HW : Hid (Calls Tryd.prog 16 #[.pointer (some ⟨p, 0, none⟩), .int .i64 1, .int .i64 1, .int .u64 7, .string ⟨#[97, 98]⟩] w1 fun e w' => e = .returned (.int .i64 0) ∧ ∃ v', IsDisk w.heap.size w' p gl M v' exS ∧ Below w.heap.size w1 w' ∧ Keeps w1 w') := Lib.hid (by
    have h := slot_Write _ w1 p gl M v (newD 3) 1 1 7 [97, 98] h1 ((smallN_new 3).mono (by omega)) hb1.size (by omega) (by omega) (by simp)
    rw [exS_is.1] at h
    exact h)
  clear h1 hb1 HN
  go_wp2_with fail
  refine HW.out.mono ?_
  rintro e w2 ⟨rfl, v2, h2, hb2, _⟩
  have D2 := Lib.hid h2
  have B2 := Lib.hid (B1.out.trans hb2)
  have HR := Lib.hid (disk_Read _ w2 p gl M v2 exS 1 h2)
  rw [exS_read] at HR
  obtain ⟨s, hs⟩ : ∃ s, s = secP 7 (sumT [97, 98]) 0 := ⟨_, rfl⟩
  have HOP : Hid (∀ W, Calls Tryd.prog 36 #[.string (bs s)] W fun e w' => e = .returned (.tuple #[recV (3, 7, 0, sumT [97, 98]), .int .i64 0]) ∧ Below W.heap.size W w') := Lib.hid (fun W => by
    have h := seal_Open s W (by rw [hs, secP_len]; omega)
    rw [hs, exS_open] at h
    rw [hs]
    exact h)
  rw [← hs] at HR
  unfold recV at HOP
  obtain ⟨T, hT⟩ : ∃ T, T = bs (sumT [97, 98]) := ⟨_, rfl⟩
  have hTs : T.size = 6 := by rw [hT, bs_size, sumT_len]; rfl
  rw [← hT] at HOP
  clear h2 hb2 HW hs hT
  go_wp2_with fail
  refine HR.out.mono ?_
  rintro e w3 ⟨rfl, rfl⟩
  clear HR
  go_wp2_with fail
  refine (HOP.out _).mono ?_
  rintro e w4 ⟨rfl, hb4⟩
  have D4 := Lib.hid (D2.out.keep hb4)
  have B4 := Lib.hid (B2.out.trans (hb4.mono B2.out.size))
  obtain ⟨W4, hW4⟩ : ∃ W4, W4 = w4.alloc (.cells #[.int .u8 3, .int .u64 7, .int .u32 0, .string T] 59) := ⟨_, rfl⟩
  have R4 : Hid (Blk W4 w4.heap.size 59 [.int .u8 3, .int .u64 7, .int .u32 0, .string T]) := Lib.hid (by rw [hW4]; exact Blk.box4 _ _ _ _ _ _)
  have D5 : Hid (IsDisk w.heap.size W4 p gl M v2 exS) := Lib.hid (by rw [hW4]; exact D4.out.keep ((Below.refl _ _).alloc (Nat.le_refl _) _))
  have B5 : Hid (Below w.heap.size w W4) := Lib.hid (by rw [hW4]; exact B4.out.alloc B4.out.size _)
  have HRD : Hid (Calls Tryd.prog 27 #[.pointer (some ⟨p, 0, none⟩), .int .i64 1, .int .i64 2] W4 fun e w' => e = .returned (.tuple #[.string ⟨#[97, 98]⟩, .int .u64 7, .bool true]) ∧ Below W4.heap.size W4 w') := Lib.hid (by
    have h := slot_Read _ W4 p gl M v2 exS 1 2 (by omega) D5.out
    rw [exS_found] at h
    exact h)
  rw [hW4] at HRD
  clear hb4 D2 B2 D4 HOP
  go_wp2_with fail
  refine HRD.out.mono ?_
  rintro e w5 ⟨rfl, hb5⟩
  rw [← hW4] at hb5
  have R5 := Lib.hid (R4.out.keep hb5)
  have B6 := Lib.hid (B5.out.trans (hb5.mono B5.out.size))
  clear hb5 HRD R4 D5 B5 hW4 B4
  go_wp2_with fail
  refine (HA1.out _).mono ?_
  rintro e w6 ⟨rfl, hb6⟩
  have R6 := Lib.hid (R5.out.keep hb6)
  have B7 := Lib.hid (B6.out.trans (hb6.mono B6.out.size))
  clear hb6 R5 B6
  go_wp2_with fail
  refine (HA2.out _).mono ?_
  rintro e w7 ⟨rfl, hb7⟩
  have R7 := Lib.hid (R6.out.keep hb7)
  have B8 := Lib.hid (B7.out.trans (hb7.mono B7.out.size))
  obtain ⟨c0, c1, c2, c3⟩ := R7.out.four
  clear hb7 R6 B7
  go_wp2_with fail
  go_ret
  exact ⟨rfl, B8.out⟩
end Go.Proofs.YtcnbpajlocoocaaDoor
