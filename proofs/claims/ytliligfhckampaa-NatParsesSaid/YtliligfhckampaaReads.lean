/- The statement NatReads walked: whatever the words are, it returns true and writes nothing that was there. -/
import Derived.Test.YtliligfhckampaaLawA
import Derived.Test.YtliligfhckampaaRefC
import Derived.OpenShut
namespace Go.Proofs.Ytliligfhckampaa
open Go.RowKit

/-- A slice of integers that came in, as the row's frame hands it. -/
def RowOf (k : IntKind) (w : World) (a : Option Addr) (len cap : Nat) (zs : List Int) : Prop :=
  (a = none ∧ len = 0 ∧ cap = 0 ∧ zs = []) ∨
  ∃ x, a = some x ∧ len ≤ cap ∧ cap ≤ maxLen ∧ zs.length = cap ∧ (∀ i, i < zs.length → w.cell? (x.add i) = some (.int k (zs.getD i 0))) ∧ ∀ n ∈ zs, (Lit.int k n).wf = true

theorem RowOf.sl {w : World} {a : Option Addr} {len cap : Nat} {zs : List Int} (h : RowOf .u64 w a len cap zs) : ∃ xs, Sl .u64 w a len cap xs ∧ Dig B64 xs := by
  rcases h with ⟨rfl, rfl, rfl, rfl⟩ | ⟨x, rfl, hl, hm, hz, hc, hw⟩
  · exact ⟨[], Sl.nil _ _, Dig.nil _⟩
  · have hb : ∀ n ∈ zs, 0 ≤ n ∧ n ≤ 18446744073709551615 := fun n hn => bounds_u64 (hw n hn)
    refine ⟨(zs.take len).map Int.toNat, ⟨by rw [List.length_map, List.length_take]; omega, hl, by unfold maxLen at hm; omega, fun hpos => ?_⟩, ?_⟩
    · obtain ⟨b, off, rfl, hc2⟩ := ints_at hc (by omega)
      refine ⟨b, off, rfl, fun j hj => ?_⟩
      have hj2 : j < zs.length := by omega
      rw [hc2 j hj2]
      have h1 := (hb zs[j] (List.getElem_mem hj2)).1
      rw [List.getD_eq_getElem?_getD, List.getElem?_eq_getElem hj2, List.getD_eq_getElem?_getD, List.getElem?_map, List.getElem?_take_of_lt hj, List.getElem?_eq_getElem hj2]
      simp only [Option.map_some, Option.getD_some]
      rw [Int.toNat_of_nonneg h1]
    · intro y hy
      obtain ⟨n, hn, rfl⟩ := List.mem_map.1 hy
      have h1 := hb n (List.mem_of_mem_take hn)
      rw [B64_eq]
      omega

theorem few1 (w : World) (A : Option Addr) (n c : Nat) :
    Calls Try.prog 7 #[.slice (some ⟨w.heap.size, 0, none⟩) 1 1] (w.alloc (.cells #[.slice A n c] 22)) fun e w' => e = .returned (.bool (decide (n ≤ 70))) ∧ w.alloc (.cells #[.slice A n c] 22) = w' := by
  refine (law_Few w.heap.size 1 [n] _ (fun j hj => ?_) (by simp)).mono ?_
  · have : j = 0 := by simp at hj; omega
    subst this
    exact ⟨A, c, World.cell?_alloc_at (w := w) #[.slice A n c] 22 w.heap.size 0 rfl⟩
  · rintro e w' ⟨rfl, rfl⟩
    exact ⟨ret_bool (by simp), rfl⟩

theorem Rep.dig_le {w : World} {A : Option Addr} {n c : Nat} {xs : List Nat} {m : Nat} (h : Rep .i64 65536 w A n c (val B64 xs)) (hd : Dig B64 xs) (hl : xs.length = m) : n ≤ 4 * m := by
  rw [h.len_le (by omega) (4 * m), ← B64_16, ← hl]
  exact val_lt hd

set_option maxHeartbeats 4000000 in
set_option maxRecDepth 100000 in
theorem natReads_walk (a0 : Option Addr) (len0 cap0 : Nat) (z0 : List Int) (w : World) (w0 : RowOf .u64 w a0 len0 cap0 z0) :
    Calls Try.prog 3 #[.slice a0 len0 cap0] w fun e w' => e = .returned (.bool true) ∧ Below w.heap.size w w' := by
  obtain ⟨xs, hsl, hdig⟩ := w0.sl
  by_cases h70 : len0 ≤ 70
  · have hlen := hsl.1
    have H := Lib.hid hsl
    have HD := Lib.hid hdig
    have HLEN := Lib.hid hlen
    have hd70 : decide (len0 ≤ 70) = true := by simpa using h70
    clear hsl hdig hlen w0
    go_enter Try.func3, Try.ntmps3
    go_wp2_with fail
    refine (few1 w a0 len0 cap0).mono ?_
    rintro e w' ⟨rfl, rfl⟩
    rw [hd70]
    go_wp2_with fail
    refine (ref_From a0 len0 cap0 xs _ (H.out.alloc _) HD.out (by omega)).mono ?_
    rintro e w1 ⟨M, nm, cm, rfl, hrm, hb1⟩
    have hnm : nm ≤ 4 * len0 := hrm.dig_le HD.out HLEN.out
    have HRM := Lib.hid hrm
    have HB1 : Hid (Below w.heap.size w w1) := Lib.hid (((Below.refl _ _).alloc (Nat.le_refl _) _).trans (hb1.mono (by simp)))
    clear hrm hb1
    go_wp2_with fail
    refine (nat_From a0 len0 cap0 xs _ (H.out.keep HB1.out) HD.out).mono ?_
    rintro e w2 ⟨A, n, c, code, rfl, hgot, hb2⟩
    have HG := Lib.hid hgot
    have HB2 := Lib.hid hb2
    have HB02 : Hid (Below w.heap.size w w2) := Lib.hid (HB1.out.trans (hb2.mono HB1.out.size))
    clear hgot hb2
    obtain ⟨x, hx⟩ : ∃ x, x = val B64 xs := ⟨_, rfl⟩
    rw [← hx] at HRM HG
    clear hx
    go_wp2_with fail
    refine (law_got A n c x code M nm cm _ (HG.out.keep ((Below.refl _ _).alloc (Nat.le_refl _) _)) ((HRM.out.keep HB2.out).alloc _) (by omega)).mono ?_
    rintro e w3 ⟨rfl, hb3⟩
    have hbx := (Blk.new1 w2 29 (.slice A n c)).keep hb3
    have HBX := Lib.hid hbx
    have HB23 : Hid (Below w2.heap.size w2 w3) := Lib.hid (((Below.refl _ _).alloc (Nat.le_refl _) _).trans (hb3.mono (by simp)))
    have HB03 : Hid (Below w.heap.size w w3) := Lib.hid (HB02.out.trans (HB23.out.mono HB02.out.size))
    have hx3 := hbx.cell0
    clear hbx hb3
    have HRM3 := Lib.hid ((HRM.out.keep HB2.out).keep HB23.out)
    rcases HG.out with ⟨hxl, rfl, hra⟩ | ⟨hxl, rfl, rfl, rfl, rfl⟩
    · have hn64 : n ≤ 64 := (hra.len_le (by decide) 64).2 hxl
      have HRA := Lib.hid (hra.keep HB23.out)
      have HXL := Lib.hid hxl
      clear hra hxl HG HRM
      go_wp2_with fail
      refine (nat_Words A n c x _ HRA.out (by omega)).mono ?_
      rintro e w4 ⟨A4, n4, c4, rfl, hn4, hr4, hb4⟩
      have hx4 := (HBX.out.keep hb4).cell0
      have HBX4 := Lib.hid (HBX.out.keep hb4)
      have HR4 := Lib.hid hr4
      have HRM4 := Lib.hid (HRM3.out.keep hb4)
      have HRA4 := Lib.hid (HRA.out.keep hb4)
      have HB04 : Hid (Below w.heap.size w w4) := Lib.hid (HB03.out.trans (hb4.mono HB03.out.size))
      clear hr4 hb4 hx3 HRM3 HRA
      go_wp2_with fail
      refine (ref_Words M nm cm x _ HRM4.out (by omega)).mono ?_
      rintro e w5 ⟨A5, n5, c5, rfl, hr5, hb5⟩
      have hx5 := (HBX4.out.keep hb5).cell0
      have HBX5 := Lib.hid (HBX4.out.keep hb5)
      have HRM5 := Lib.hid (HRM4.out.keep hb5)
      have HRA5 := Lib.hid (HRA4.out.keep hb5)
      have HB05 : Hid (Below w.heap.size w w5) := Lib.hid (HB04.out.trans (hb5.mono HB04.out.size))
      obtain ⟨ps, p1, p2, p3, p4⟩ := HR4.out.keep hb5
      obtain ⟨qs, q1, q2, q3, q4⟩ := hr5
      have hpq := trim_inj p2 q2 p3 q3 (by rw [p4, q4])
      subst hpq
      have hnn : n4 = n5 := by rw [← p1.1, ← q1.1]
      subst hnn
      have hn4b : (n4 : Int) ≤ 1099511627776 := by omega
      have P1 := Lib.hid p1
      have Q1 := Lib.hid q1
      clear hx4 hb5 p1 p2 p3 p4 q1 q2 q3 q4 HR4 HRM4 HRA4
      go_wp2_with fail
      refine (nat_Bits A n c x _ HRA5.out (by omega)).mono ?_
      rintro e w6 ⟨rfl, hb6⟩
      have hx6 := (HBX5.out.keep hb6).cell0
      have HBX6 := Lib.hid (HBX5.out.keep hb6)
      have HRM6 := Lib.hid (HRM5.out.keep hb6)
      have HRA6 := Lib.hid (HRA5.out.keep hb6)
      have HP6 := Lib.hid (P1.out.keep hb6)
      have HQ6 := Lib.hid (Q1.out.keep hb6)
      have HB06 : Hid (Below w.heap.size w w6) := Lib.hid (HB05.out.trans (hb6.mono HB05.out.size))
      clear hx5 hb6 HRM5 HRA5 P1 Q1
      go_wp2_with fail
      refine (ref_Bits M nm cm x _ HRM6.out (by omega)).mono ?_
      rintro e w7 ⟨rfl, rfl⟩
      go_wp2_with fail
      refine (nat_Zero _ _ _ _).mono ?_
      rintro e w7 ⟨rfl, hb7⟩
      have hzz : (n = 0) ↔ (nm = 0) := (HRA6.out.zero_iff B64_pos).trans (HRM6.out.zero_iff (by omega)).symm
      have hdz : (decide (n = 0)) = (decide (nm = 0)) := by simp [hzz]
      have hx7 := (HBX6.out.keep hb7).cell0
      have HBX7 := Lib.hid (HBX6.out.keep hb7)
      have HRM7 := Lib.hid (HRM6.out.keep hb7)
      have HRA7 := Lib.hid (HRA6.out.keep hb7)
      have HP7 := Lib.hid (HP6.out.keep hb7)
      have HQ7 := Lib.hid (HQ6.out.keep hb7)
      have HB07 : Hid (Below w.heap.size w w7) := Lib.hid (HB06.out.trans (hb7.mono HB06.out.size))
      obtain ⟨B, hB1, hB2⟩ : ∃ B, decide (nm = 0) = B ∧ ((nm : Int) == 0) = B := ⟨_, rfl, by rw [Bool.eq_iff_iff]; simp⟩
      rw [hdz, hB1]
      clear hx6 hb7 HRM6 HRA6 HP6 HQ6 hzz hdz hB1
      go_wp2_with fail
      refine (nat_String A n c x _ HRA7.out HXL.out).mono ?_
      rintro e w8 ⟨s, rfl, hs, hb8⟩
      have HRM8 := Lib.hid (HRM7.out.keep hb8)
      have HP8 := Lib.hid (HP7.out.keep hb8)
      have HQ8 := Lib.hid (HQ7.out.keep hb8)
      have HB08 : Hid (Below w.heap.size w w8) := Lib.hid (HB07.out.trans (hb8.mono HB07.out.size))
      have HS := Lib.hid hs
      clear hx7 hb8 HRM7 HRA7 HP7 HQ7 hs hB2
      go_wp2_with fail
      refine (ref_String M nm cm x _ HRM8.out (by omega) HXL.out).mono ?_
      rintro e w9 ⟨s', rfl, hs', hb9⟩
      have hss := IsDec.unique hs' HS.out
      subst hss
      have HP9 := Lib.hid (HP8.out.keep hb9)
      have HQ9 := Lib.hid (HQ8.out.keep hb9)
      have HB09 : Hid (Below w.heap.size w w9) := Lib.hid (HB08.out.trans (hb9.mono HB08.out.size))
      clear hb9 HRM8 HP8 HQ8 hs'
      go_wp2
      go_loopw [62] (fun i wr => ∃ k q : Nat, i = .int .i64 k ∧ k ≤ n4 ∧ wr = w9.drewN q) (fun i _ => n4 - (intOf i).toNat)
      case atStart => exact ⟨0, 0, rfl, Nat.zero_le _, rfl⟩
      case round =>
        obtain ⟨k, q, rfl, hk, rfl⟩ := hrel
        by_cases hlt : k < n4
        · obtain ⟨b, off, rfl, hbl, hc⟩ := HP9.out.block (by omega)
          obtain ⟨b2, off2, rfl, hbl2, hc2⟩ := HQ9.out.block (by omega)
          have hcell := hc k hlt
          have hcell2 := hc2 k hlt
          obtain ⟨u, hu⟩ : ∃ u, u = ps.getD k 0 := ⟨_, rfl⟩
          rw [← hu] at hcell hcell2
          clear hc hc2 hu
          go_wp2
          go_quiet (fail)
          go_wp2
          go_roundw
          case rel => exact ⟨k + 1, _, by go_num, by omega, rfl⟩
          case measure => simp [intOf]; omega
        · go_wp2_with fail
          refine (law_Awake _).mono ?_
          rintro e w10 ⟨rfl, hb10⟩
          have HB10 := Lib.hid hb10
          clear hb10
          go_wp2
          go_ret
          exact ⟨rfl, (Below.drewN HB09.out q).trans (HB10.out.mono HB09.out.size)⟩
    · clear HG HRM
      go_wp2_with fail
      refine (law_Awake _).mono ?_
      rintro e w10 ⟨rfl, hb10⟩
      have HB10 := Lib.hid hb10
      clear hb10
      go_wp2
      go_ret
      exact ⟨rfl, HB03.out.trans (HB10.out.mono HB03.out.size)⟩
  · have hd70 : decide (len0 ≤ 70) = false := by simpa using h70
    clear hsl hdig w0
    go_enter Try.func3, Try.ntmps3
    go_wp2_with fail
    refine (few1 w a0 len0 cap0).mono ?_
    rintro e w' ⟨rfl, rfl⟩
    rw [hd70]
    go_wp2_with fail
    refine (law_Awake _).mono ?_
    rintro e w10 ⟨rfl, hb10⟩
    have HB10 := Lib.hid hb10
    clear hb10
    go_wp2
    go_ret
    exact ⟨rfl, ((Below.refl _ _).alloc (Nat.le_refl _) _).trans (HB10.out.mono (by simp))⟩

end Go.Proofs.Ytliligfhckampaa
