/- Contracts of the statements' helpers: Few, Of, Is, got, Awake. -/
import Derived.Test.YtmjinhieeflkgaaStr
import Derived.Test.YtmjinhieeflkgaaNatD
namespace Go.Proofs.Ytmjinhieeflkgaa
open Go.RowKit

theorem law_Few (b c : Nat) (ls : List Nat) (w : World) (hc : ∀ j, j < ls.length → ∃ A k, w.cell? ⟨b, j, none⟩ = some (.slice A (ls.getD j 0) k)) (hl : (ls.length : Int) ≤ 9223372036854775807) :
    Calls Try.prog 4 #[.slice (some ⟨b, 0, none⟩) ls.length c] w fun e w' => e = .returned (.bool (ls.all fun n => decide (n ≤ 70))) ∧ w = w' := by
  go_enter Try.func4, Try.ntmps4
  have HC := Lib.hid hc
  clear hc
  go_wp2
  go_loop [7] (fun i => ∃ k : Nat, i = .int .i64 k ∧ k ≤ ls.length ∧ Hid ((ls.take k).all (fun n => decide (n ≤ 70)) = true)) (fun i => ls.length - (intOf i).toNat)
  case atStart => exact ⟨0, rfl, by omega, Lib.hid (by simp)⟩
  case round =>
    obtain ⟨k, rfl, hk, hall⟩ := hrel
    by_cases hlt : k < ls.length
    · obtain ⟨A, q, hcell⟩ := HC.out k hlt
      obtain ⟨m, hm⟩ : ∃ m, m = ls.getD k 0 := ⟨_, rfl⟩
      rw [← hm] at hcell
      have hsp : ls.take (k + 1) = ls.take k ++ [m] := by
        have := List.take_append_getElem (l := ls) (i := k) hlt
        rw [← this, hm, List.getD_eq_getElem?_getD, List.getElem?_eq_getElem hlt]; rfl
      have hmem : m ∈ ls := by rw [hm, List.getD_eq_getElem?_getD, List.getElem?_eq_getElem hlt]; exact List.getElem_mem hlt
      have HM := Lib.hid hmem
      have HS := Lib.hid hsp
      clear hm hsp hmem
      by_cases h70 : m ≤ 70
      · have HN : Hid ((ls.take (k + 1)).all (fun n => decide (n ≤ 70)) = true) := Lib.hid (by rw [HS.out, List.all_append, hall.out]; simpa using h70)
        clear hall
        go_wp2
        go_round
        case rel => exact ⟨k + 1, by go_num, by omega, HN⟩
        case measure => simp [intOf]; omega
      · have HF : Hid ((ls.all fun n => decide (n ≤ 70)) = false) := Lib.hid (by
          rw [List.all_eq_false]
          exact ⟨m, HM.out, by simpa using h70⟩)
        clear hall
        go_wp2
        go_ret
        exact ⟨ret_bool HF.out.symm, rfl⟩
    · have hkn : k = ls.length := by omega
      have HT : Hid ((ls.all fun n => decide (n ≤ 70)) = true) := Lib.hid (by have := hall.out; rw [hkn, List.take_length] at this; exact this)
      clear hall
      subst hkn
      go_wp2
      go_ret
      exact ⟨ret_bool HT.out.symm, rfl⟩

theorem law_Of (A : Option Addr) (n c x : Nat) (w : World) (h : Rep .u64 B64 w A n c x) (hm2 : n ≤ 1099511627776) :
    Calls Try.prog 28 #[.agg #[.slice A n c]] w fun e w' => ∃ A' n' c', e = .returned (.slice A' n' c') ∧ Rep .i64 65536 w' A' n' c' x ∧ Below w.heap.size w w' := by
  have H := Lib.hid h
  clear h
  go_enter Try.func28, Try.ntmps28
  go_wp2_with fail
  refine (nat_Words A n c x _ (H.out.alloc _) hm2).mono ?_
  rintro e w1 ⟨A1, n1, c1, rfl, hn1, hr1, hb1⟩
  obtain ⟨xs, g1, g2, g3, g4⟩ := hr1
  have HG := Lib.hid g1
  have HB := Lib.hid hb1
  have H4 := Lib.hid g4
  clear g1 hb1 g4
  go_wp2_with fail
  refine (ref_From A1 n1 c1 xs _ HG.out g2 hn1).mono ?_
  rintro e w2 ⟨A2, n2, c2, rfl, hr2, hb2⟩
  have HR := Lib.hid hr2
  have HB2 := Lib.hid hb2
  clear hr2 hb2
  go_wp2
  go_ret
  exact ⟨_, _, _, rfl, by have := HR.out; rw [H4.out] at this; exact this, (((Below.refl _ _).alloc (Nat.le_refl _) _).trans (HB.out.mono (by simp))).trans (HB2.out.mono (by have := HB.out.size; simp at this; omega))⟩

/-- Is, of two that are the same number. -/
theorem law_Is (A : Option Addr) (n c x : Nat) (A' : Option Addr) (n' c' y : Nat) (w : World) (h : Rep .u64 B64 w A n c x) (hm2 : n ≤ 1099511627776) (h' : Rep .i64 65536 w A' n' c' y) :
    Calls Try.prog 14 #[.agg #[.slice A n c], .slice A' n' c'] w fun e w' => e = .returned (.bool (decide (x = y))) ∧ Below w.heap.size w w' := by
  have H := Lib.hid h
  have H' := Lib.hid h'
  clear h h'
  go_enter Try.func14, Try.ntmps14
  go_wp2_with fail
  refine (law_Of A n c x _ (H.out.alloc _) hm2).mono ?_
  rintro e w1 ⟨A1, n1, c1, rfl, hr1, hb1⟩
  have HR := Lib.hid hr1
  have HB := Lib.hid hb1
  clear hr1 hb1
  have HB1 : Hid (Below w.heap.size w w1) := Lib.hid (((Below.refl _ _).alloc (Nat.le_refl _) _).trans (HB.out.mono (by simp)))
  go_wp2_with fail
  refine (ref_Cmp A1 n1 c1 x A' n' c' y _ HR.out (H'.out.keep HB1.out)).mono ?_
  rintro e w2 ⟨rfl, q, rfl⟩
  by_cases hxy : x = y
  · subst hxy
    rw [cmpN_eq]
    go_wp2
    go_ret
    exact ⟨ret_bool (by simp), Below.drewN HB1.out q⟩
  · have hz : (cmpN x y == 0) = false := beq_eq_false_iff_ne.2 (fun e => hxy (cmpN_zero.1 e))
    go_wp2
    go_ret
    exact ⟨ret_bool (by simpa using hxy), Below.drewN HB1.out q⟩

theorem Lim_bl {x : Nat} : x < Lim ↔ bl x ≤ 4096 := by
  have h : x < Lim ↔ bl x ≤ 64 * 64 := by
    rw [bl_le]
    unfold Lim
    rw [B64_pow, ← Nat.pow_mul]
  exact h

/-- got, where the call answered what it should. -/
theorem law_got (A : Option Addr) (n c x : Nat) (code : Int) (A' : Option Addr) (n' c' : Nat) (w : World) (h : Got w x A n c code) (h' : Rep .i64 65536 w A' n' c' x) (hn' : n' ≤ 1099511627776) :
    Calls Try.prog 12 #[.agg #[.slice A n c], .int .i64 code, .slice A' n' c'] w fun e w' => e = .returned (.bool true) ∧ Below w.heap.size w w' := by
  have H' := Lib.hid h'
  clear h'
  rcases h with ⟨hx, rfl, hr⟩ | ⟨hx, rfl, rfl, rfl, rfl⟩
  · have hbl := Lim_bl.1 hx
    have hn : n ≤ 64 := (hr.len_le (by decide) 64).2 hx
    have H := Lib.hid hr
    clear hr hx
    go_enter Try.func12, Try.ntmps12
    go_wp2_with fail
    refine (ref_Bits A' n' c' x _ (H'.out.alloc _) hn').mono ?_
    rintro e w1 ⟨rfl, rfl⟩
    go_wp2_with fail
    refine (law_Is A n c x A' n' c' x _ (H.out.alloc _) (by omega) (H'.out.alloc _)).mono ?_
    rintro e w2 ⟨rfl, hb⟩
    have HB := Lib.hid hb
    clear hb
    rw [show decide (x = x) = true from by simp]
    go_wp2
    go_ret
    exact ⟨rfl, ((Below.refl _ _).alloc (Nat.le_refl _) _).trans (HB.out.mono (by simp))⟩
  · have hbl : ¬ bl x ≤ 4096 := fun e => by have := Lim_bl.2 e; omega
    clear hx
    go_enter Try.func12, Try.ntmps12
    go_wp2_with fail
    refine (ref_Bits A' n' c' x _ (H'.out.alloc _) hn').mono ?_
    rintro e w1 ⟨rfl, rfl⟩
    go_wp2_with fail
    refine (nat_Zero _ _ _ _).mono ?_
    rintro e w2 ⟨rfl, hb⟩
    have HB := Lib.hid hb
    clear hb
    go_wp2
    go_ret
    exact ⟨rfl, ((Below.refl _ _).alloc (Nat.le_refl _) _).trans (HB.out.mono (by simp))⟩

theorem two64_lim : val B64 [0, 1] < Lim := by
  have h2 : B64 ^ 2 ≤ B64 ^ 64 := Nat.pow_le_pow_right B64_pos (by omega)
  have h1 : val B64 [0, 1] < B64 ^ 2 := by decide
  exact Nat.lt_of_lt_of_le h1 h2
theorem two64_bl : bl (val B64 [0, 1]) = 65 := by decide
theorem two64_dec : IsDec (val B64 [0, 1]) ⟨#[49, 56, 52, 52, 54, 55, 52, 52, 48, 55, 51, 55, 48, 57, 53, 53, 49, 54, 49, 54]⟩ :=
  .inr ⟨by decide, [6, 1, 6, 1, 5, 5, 9, 0, 7, 3, 7, 0, 4, 4, 7, 6, 4, 4, 8, 1], by unfold Dig; decide, by decide, by decide, by decide⟩

set_option maxHeartbeats 1000000 in
theorem law_Awake (w : World) : Calls Try.prog 5 #[] w fun e w' => e = .returned (.bool true) ∧ Below w.heap.size w w' := by
  go_enter Try.func5, Try.ntmps5
  go_wp2_with fail
  have hs : Sl .u64 (w.alloc (.cells #[.int .u64 0, .int .u64 1] 40)) (some ⟨w.heap.size, 0, none⟩) 2 2 [0, 1] := Sl.of_blk0 (t := 40) (heap_alloc_new w _) rfl (by omega) (by omega)
  have HS := Lib.hid hs
  clear hs
  refine (nat_From _ 2 2 [0, 1] _ HS.out (by unfold Dig; decide)).mono ?_
  rintro e w1 ⟨A, n, c, code, rfl, hgot, hb⟩
  obtain ⟨x, hx⟩ : ∃ x, x = val B64 [0, 1] := ⟨_, rfl⟩
  have hlim := two64_lim
  have hbl := two64_bl
  have hdec := two64_dec
  rw [← hx] at hgot hlim hbl hdec
  obtain ⟨rfl, hr⟩ := hgot.ok hlim
  have hn : n ≤ 64 := (hr.len_le (by decide) 64).2 hlim
  have HR := Lib.hid hr
  have HB : Hid (Below w.heap.size w w1) := Lib.hid (((Below.refl _ _).alloc (Nat.le_refl _) _).trans (hb.mono (by simp)))
  have HBL := Lib.hid hbl
  have HDEC := Lib.hid hdec
  have HLIM := Lib.hid hlim
  clear hr hb hbl hdec hlim hgot hx
  go_wp2_with fail
  refine (nat_Bits A n c x _ (HR.out.alloc _) (by omega)).mono ?_
  rintro e w2 ⟨rfl, hb2⟩
  have HB2 : Hid (Below w1.heap.size w1 w2) := Lib.hid (((Below.refl _ _).alloc (Nat.le_refl _) _).trans (hb2.mono (by simp)))
  have hbx := (Blk.new1 w1 29 (.slice A n c)).keep hb2
  have hx0 := hbx.cell0
  have HBX := Lib.hid hbx
  rw [HBL.out]
  clear hb2 hbx
  go_wp2_with fail
  refine (nat_String A n c x _ (HR.out.keep HB2.out) HLIM.out).mono ?_
  rintro e w3 ⟨s, rfl, hs, hb3⟩
  have hs2 := IsDec.unique hs HDEC.out
  subst hs2
  have HB3 : Hid (Below w.heap.size w w3) := Lib.hid ((HB.out.trans (HB2.out.mono HB.out.size)).trans (hb3.mono (Nat.le_trans HB.out.size HB2.out.size)))
  clear hs hb3 hx0
  go_wp2_with fail
  refine (nat_Of 7 _ (by decide)).mono ?_
  rintro e w4 ⟨A4, n4, c4, rfl, hr4, hb4⟩
  have HR4 := Lib.hid hr4
  have HB4 := Lib.hid hb4
  clear hr4 hb4
  go_wp2_with fail
  refine (nat_Of 6 _ (by decide)).mono ?_
  rintro e w5 ⟨A5, n5, c5, rfl, hr5, hb5⟩
  have HR5 := Lib.hid hr5
  have HB5 := Lib.hid hb5
  clear hr5 hb5
  go_wp2_with fail
  refine (nat_Cmp A4 n4 c4 7 A5 n5 c5 6 _ (HR4.out.keep HB5.out) HR5.out).mono ?_
  rintro e w6 ⟨rfl, hb6⟩
  have HB6 := Lib.hid hb6
  clear hb6
  rw [show cmpN 7 6 = 1 from by decide]
  go_wp2
  go_ret
  exact ⟨rfl, ((HB3.out.trans (HB4.out.mono HB3.out.size)).trans (HB5.out.mono (Nat.le_trans HB3.out.size HB4.out.size))).trans (HB6.out.mono (Nat.le_trans HB3.out.size (Nat.le_trans HB4.out.size HB5.out.size)))⟩

end Go.Proofs.Ytmjinhieeflkgaa
