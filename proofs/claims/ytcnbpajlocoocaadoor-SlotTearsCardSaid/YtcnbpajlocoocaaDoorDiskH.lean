/- Write and Sync as functions of what a disk holds; the document's example of layer 12. -/
import Derived.Test.YtcnbpajlocoocaaDoorDiskG
namespace Go.Proofs.YtcnbpajlocoocaaDoor
set_option maxRecDepth 100000
open Go.RowKit Go.Maps Go.ChangeMaps Go.MapKept

def wrD (D : DSt) (i : Int) (s : List UInt8) : DSt × Nat :=
  if hasB D i = false then (D, 5) else if s.length ≠ 128 then (D, 4) else if (fires D).2 = true then ((fires D).1, 7) else (wrote (fires D).1 i.toNat s, 0)
def syD (D : DSt) : DSt × Nat := if (fires D).2 = true then ((fires D).1, 7) else (synced (fires D).1, 0)

/-- What a disk may have grown to. -/
def Small (D : DSt) : Prop := ArmOk D ∧ D.waits.length ≤ 1000000 ∧ D.ops ≤ 1000000000

theorem disk_Write (base : Nat) (w : World) (p gl M : Nat) (v : Value) (D : DSt) (i : Int) (s : List UInt8) (h : IsDisk base w p gl M v D) (hs : Small D) (hbs : base ≤ w.heap.size) (hsl : s.length ≤ 1000000) :
    Calls Tryd.prog 24 #[.pointer (some ⟨p, 0, none⟩), .int .i64 i, .string (bs s)] w fun e w' => e = .returned (.int .i64 (((wrD D i s).2 : Nat) : Int)) ∧ ∃ v', IsDisk base w' p gl M v' (wrD D i s).1 ∧ Below base w w' ∧ Keeps w w' := by
  unfold wrD
  by_cases h1 : hasB D i = false
  · rw [if_pos h1]
    refine (disk_Write_range base w p gl M v D i (bs s) h h1).mono ?_
    rintro e w' ⟨rfl, rfl⟩
    exact ⟨rfl, v, h, Below.refl _ _, Keeps.refl _⟩
  · rw [if_neg h1]
    have h1' : hasB D i = true := by simpa using h1
    by_cases h2 : s.length ≠ 128
    · rw [if_pos h2]
      refine (disk_Write_form base w p gl M v D i (bs s) h h1' (by rw [bs_size]; exact h2)).mono ?_
      rintro e w' ⟨rfl, rfl⟩
      exact ⟨rfl, v, h, Below.refl _ _, Keeps.refl _⟩
    · rw [if_neg h2]
      have h2' : (bs s).size = 128 := by rw [bs_size]; omega
      by_cases h3 : (fires D).2 = true
      · rw [if_pos h3]
        refine (disk_Write_bad base w p gl M v D i (bs s) h h1' h2' hs.1 h3).mono ?_
        rintro e w' ⟨rfl, h4, h5, h6⟩
        exact ⟨rfl, v, h4, h5, h6⟩
      · rw [if_neg h3]
        obtain ⟨k, rfl, hk⟩ := hasB_nat_iff.1 h1'
        rw [Int.toNat_natCast]
        have := disk_Write_ok base w p gl M v D k (bs s) h hk h2' hs.1 (by simpa using h3) hs.2.1 hs.2.2 hbs
        rw [bs_list] at this
        exact this

theorem disk_Sync (base : Nat) (w : World) (p gl M : Nat) (v : Value) (D : DSt) (h : IsDisk base w p gl M v D) (hs : Small D) (hbs : base ≤ w.heap.size) :
    Calls Tryd.prog 18 #[.pointer (some ⟨p, 0, none⟩)] w fun e w' => e = .returned (.int .i64 (((syD D).2 : Nat) : Int)) ∧ ∃ v', IsDisk base w' p gl M v' (syD D).1 ∧ Below base w w' ∧ Keeps w w' := by
  unfold syD
  by_cases h3 : (fires D).2 = true
  · rw [if_pos h3]
    refine (disk_Sync_bad base w p gl M v D h hs.1 h3).mono ?_
    rintro e w' ⟨rfl, h4, h5, h6⟩
    exact ⟨rfl, v, h4, h5, h6⟩
  · rw [if_neg h3]
    exact disk_Sync_ok base w p gl M v D h hs.1 (by simpa using h3) hs.2.1 hs.2.2 hbs

theorem disk_Crash0 (base : Nat) (w : World) (p gl M : Nat) (v : Value) (D : DSt) (h : IsDisk base w p gl M v D) (hw : D.waits.length ≤ 1000000) (hbs : base ≤ w.heap.size) :
    Calls Tryd.prog 12 #[.pointer (some ⟨p, 0, none⟩), .slice none 0 0] w fun e w' => e = .returned (.tuple #[]) ∧ ∃ v', IsDisk base w' p gl M v' (crashed D []) ∧ Below base w w' ∧ Keeps w w' :=
  disk_Crash base w p gl M v D none 0 0 [] h (fun _ _ _ => ⟨rfl, fun h => by omega⟩) (by omega) hw hbs

set_option maxHeartbeats 1000000 in
theorem ref_Blank (w : World) : Calls Tryd.prog 38 #[] w fun e w' => e = .returned (.string (bs (secOf 0))) ∧ Below w.heap.size w w' := by
  obtain ⟨i0, hi, hz0, hz1, hz2⟩ := info_parts infoByte
  go_enter Tryd.func38, Tryd.ntmps38
  go_wp2_with (at_make; refine wpList_make_full _ rfl _ _ 100 rfl w.heap.size 5 i0 (.int .u8 0) 1 Tryd.underlying100 hi hz0 hz1 .i64 .i64 _ _ 128 rfl rfl rfl rfl (by rw [hz2]; omega) (by simp only [maxLen]; omega) (Nat.le_refl _) ?_; intro w1 hown hgr; have G0 := Lib.hid hown; clear hown)
  have hcv : (convert 100 9 (.slice (some ⟨w.heap.size, 0, none⟩) 128 128)).run Tryd.prog w1 = .ok (.string (bs (secOf 0))) w1 := by
    have h := Blk.of_make G0.out (by omega)
    have hat : At w1 w.heap.size 0 (secOf 0) := by
      intro j hj
      have e : (secOf 0)[j] = 0 := List.getElem_replicate _
      rw [e]
      rw [secOf_len] at hj
      rw [Nat.zero_add, h.cell, List.getElem?_replicate_of_lt hj]
      rfl
    have h2 := hat.conv 128
    rwa [secOf_len] at h2
  have B1 := Lib.hid ((Below.refl w.heap.size w).grown hgr (Nat.le_refl _) (fun k hk => by cases hk))
  clear hgr G0
  rw [hcv]
  go_simp
  go_wp2_with fail
  go_ret
  exact ⟨rfl, B1.out⟩

theorem fires_zero {D : DSt} (h : D.armed = 0) : fires D = (D, false) := by unfold fires; rw [if_pos (by omega)]
theorem small_new (n : Nat) : Small (newD n) := ⟨⟨by simp [newD], by simp [newD]⟩, by simp [newD], by simp [newD]⟩

/-- The example's disk. -/
theorem ex_write : wrD (newD 2) 0 (secOf 7) = (wrote (newD 2) 0 (secOf 7), 0) := by
  unfold wrD
  rw [fires_zero rfl, if_neg (by decide), if_neg (by rw [secOf_len]; decide), if_neg (by decide)]
  rfl
theorem ex_read : rdD (wrote (newD 2) 0 (secOf 7)) 0 = (secOf 7, 0) := by
  have h := rdD_wait (D := wrote (newD 2) 0 (secOf 7)) (i := 0) (j := 0) (by decide) (by decide)
  exact h
theorem ex_read2 : rdD (crashed (wrote (newD 2) 0 (secOf 7)) []) 0 = (secOf 0, 0) := by
  have h := rdD_last (D := crashed (wrote (newD 2) 0 (secOf 7)) []) (i := 0) (by decide) rfl
  exact h

set_option maxHeartbeats 2000000 in
set_option maxRecDepth 100000 in
theorem disk_Awake (w : World) : Calls Tryd.prog 31 #[] w fun e w' => e = .returned (.bool true) ∧ Below w.heap.size w w' := by
  have HN := Lib.hid (disk_New 2 w (by omega) (by omega))
  have HF := Lib.hid (fun W => law_Fill 7 W (by omega) : ∀ W, Calls Tryd.prog 61 #[.int .u8 7] W fun e w' => e = .returned (.string (bs (secOf 7))) ∧ Below W.heap.size W w')
  have HB := Lib.hid ref_Blank
  go_enter Tryd.func31, Tryd.ntmps31
  go_wp2_with fail
  refine HN.out.mono ?_
  rintro e w1 ⟨p, gl, M, v, rfl, h1, hb1⟩
  have D1 := Lib.hid h1
  have B1 := Lib.hid hb1
  clear h1 hb1 HN
  go_wp2_with fail
  refine (HF.out _).mono ?_
  rintro e w2 ⟨rfl, hb2⟩
  have D2 := Lib.hid (D1.out.keep hb2)
  have B2 := Lib.hid (B1.out.trans (hb2.mono B1.out.size))
  have HW := Lib.hid (disk_Write _ _ p gl M v _ 0 (secOf 7) D2.out (small_new 2) B2.out.size (by rw [secOf_len]; omega))
  rw [ex_write] at HW
  clear hb2
  go_wp2_with fail
  refine HW.out.mono ?_
  rintro e w3 ⟨rfl, v3, h3, hb3, _⟩
  have D3 := Lib.hid h3
  have B3 := Lib.hid (B2.out.trans hb3)
  have HR := Lib.hid (disk_Read _ _ p gl M v3 _ 0 D3.out)
  rw [ex_read] at HR
  clear h3 hb3 HW
  go_wp2_with fail
  refine HR.out.mono ?_
  rintro e w4 ⟨rfl, rfl⟩
  have HC := Lib.hid (disk_Crash0 _ _ p gl M v3 _ D3.out (by decide) B3.out.size)
  clear HR
  go_wp2_with fail
  refine HC.out.mono ?_
  rintro e w5 ⟨rfl, v5, h5, hb5, _⟩
  have D5 := Lib.hid h5
  have B5 := Lib.hid (B3.out.trans hb5)
  have HR := Lib.hid (disk_Read _ _ p gl M v5 _ 0 D5.out)
  rw [ex_read2] at HR
  clear h5 hb5 HC
  go_wp2_with fail
  refine HR.out.mono ?_
  rintro e w6 ⟨rfl, rfl⟩
  clear HR
  go_wp2_with fail
  refine (HF.out _).mono ?_
  rintro e w7 ⟨rfl, hb7⟩
  have D7 := Lib.hid (D5.out.keep hb7)
  have B7 := Lib.hid (B5.out.trans (hb7.mono B5.out.size))
  have e7 : ((bs (secOf 7)).toList == (bs (secOf 7)).toList) = true := by simp
  clear hb7
  go_wp2_with fail
  refine (HB.out _).mono ?_
  rintro e w8 ⟨rfl, hb8⟩
  have D8 := Lib.hid (D7.out.keep hb8)
  have B8 := Lib.hid (B7.out.trans (hb8.mono B7.out.size))
  have HS := Lib.hid (disk_Size _ _ p gl M v5 _ D8.out)
  clear hb8 e7
  have e8 : ((bs (secOf 0)).toList == (bs (secOf 0)).toList) = true := by simp
  go_wp2_with fail
  refine HS.out.mono ?_
  rintro e w9 ⟨rfl, rfl⟩
  go_wp2_with fail
  go_ret
  exact ⟨rfl, B8.out⟩

end Go.Proofs.YtcnbpajlocoocaaDoor
