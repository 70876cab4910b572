/- The walk of SlotTears. -/
import Derived.Test.YtcnbpajlocoocaaDoorSlotBack
import Derived.Test.YtcnbpajlocoocaaDoorSlices0
namespace Go.Proofs.YtcnbpajlocoocaaDoor
open Go.RowKit Go.Maps
set_option maxRecDepth 100000

theorem KSl.keepB {w w' : World} {A : Option Addr} {n : Nat} {ks : List Bool} (h : KSl w A n ks) (hb : Below w.heap.size w w') : KSl w' A n ks :=
  ⟨h.1, fun hn => by
    obtain ⟨b, off, e, hc⟩ := h.2 hn
    refine ⟨b, off, e, fun j hj => (hb.cell (p := ⟨b, off + j, none⟩) ?_).trans (hc j hj)⟩
    exact block_lt_of_cell (hc j hj)⟩
theorem SmallN.sync {n : Nat} {D : DSt} (h : SmallN (n + 1) D) : SmallN n (synced D) := ⟨h.1, by show 0 + n ≤ _; have := h.2.1; omega, by show D.ops + 1 + n ≤ _; have := h.2.2; omega⟩
theorem SmallN.arm {n : Nat} {D : DSt} (h : SmallN n D) {k : Int} (h1 : -9223372036854775808 ≤ k) (h2 : k ≤ 9223372036854775807) : SmallN n { D with armed := k } := ⟨⟨h1, h2⟩, h.2.1, h.2.2⟩

/-- What is read behind a crash within the second write. -/
theorem tears_read {t0 t1 : List UInt8} {q : Int} {ks : List Bool} {E2 E4 : DSt} (h0 : t0.length ≤ 800) (h1 : t1.length ≤ 800)
    (hE2 : E2 = synced (slotW (newD 8) ((0 : Nat) : Int) ((8 : Nat) : Int) 5 t0).1) (hE4 : E4 = (slotW { E2 with armed := q } ((0 : Nat) : Int) ((8 : Nat) : Int) 6 t1).1) :
    (slotW (newD 8) ((0 : Nat) : Int) ((8 : Nat) : Int) 5 t0).2 = 0 ∧ (slotW (newD 8) ((0 : Nat) : Int) ((8 : Nat) : Int) 5 t0).1.armed = 0 ∧
      (readF (foundL (crashed E4 ks) ((0 : Nat) : Int) ((8 : Nat) : Int)) = ([], 0, false) ∨ readF (foundL (crashed E4 ks) ((0 : Nat) : Int) ((8 : Nat) : Int)) = (t0, 5, true) ∨ readF (foundL (crashed E4 ks) ((0 : Nat) : Int) ((8 : Nat) : Int)) = (t1, 6, true)) := by
  have hn8 : (newD 8).lasts.length = 8 := by simp [newD]
  obtain ⟨m, m1, m2, m3, m4, m5⟩ := slotW_state (D := newD 8) (i := 0) (r := 8) (gen := 5) (t := t0) (by omega) (by omega) (by omega)
  have hc := m5 rfl
  have hm := m4 hc.1
  subst hm
  refine ⟨hc.1, hc.2, ?_⟩
  have hN0 := parts_room (t := t0) (r := 8) (by omega)
  have hN1 := parts_room (t := t1) (r := 8) (by omega)
  have e2 : E2.lasts = settle (newD 8).lasts (seqW (fun q => secP 5 (sumT t0) (q - 0)) 0 (partN (sumT t0))) := by
    rw [hE2]
    show settle _ _ = _
    rw [m2, m3]
    rfl
  have l2 : E2.lasts.length = 8 := by rw [e2, settle_len, hn8]
  have w2 : E2.waits = [] := by rw [hE2]; rfl
  obtain ⟨m', n1, n2, n3, _, _⟩ := slotW_state (D := { E2 with armed := q }) (i := 0) (r := 8) (gen := 6) (t := t1) (by omega) (by show 0 + 8 ≤ E2.lasts.length; omega) (by omega)
  rw [← hE4] at n2 n3
  have n2' : E4.waits = seqW (fun q => secP 6 (sumT t1) (q - 0)) 0 m' := by
    rw [n2]
    show E2.waits ++ _ = _
    rw [w2, List.nil_append]
  have n3' : E4.lasts = E2.lasts := n3
  have l5 : (crashed E4 ks).lasts.length = 8 := by show (settleK _ _).length = 8; rw [settleK_len, n3', l2]
  have hx : ∀ j, j < 8 → (j < partN (sumT t1) ∧ recAt (crashed E4 ks) (0 + j) = (partAt 6 (sumT t1) j, 0)) ∨ (j < partN (sumT t0) ∧ recAt (crashed E4 ks) (0 + j) = (partAt 5 (sumT t0) j, 0)) ∨ (recAt (crashed E4 ks) (0 + j)).2 ≠ 0 := fun j hj => by
    rw [Nat.zero_add, recAt_dry rfl (by rw [l5]; exact hj)]
    have e5 : (crashed E4 ks).lasts.getD j [] = if 0 ≤ j ∧ j < 0 + m' ∧ ks.getD (j - 0) false = true then secP 6 (sumT t1) (j - 0) else if 0 ≤ j ∧ j < 0 + partN (sumT t0) then secP 5 (sumT t0) (j - 0) else (newD 8).lasts.getD j [] := by
      show (settleK E4.lasts (E4.waits.zip ks)).getD j [] = _
      rw [n2', n3', settleK_seq _ _ _ _ _ (by rw [l2]; omega), e2, settle_seq _ _ _ _ (by rw [hn8]; omega)]
    rw [e5]
    by_cases c1 : 0 ≤ j ∧ j < 0 + m' ∧ ks.getD (j - 0) false = true
    · rw [if_pos c1, Nat.sub_zero]
      exact .inl ⟨by omega, open_part (by omega) (by omega)⟩
    · rw [if_neg c1]
      by_cases c2 : 0 ≤ j ∧ j < 0 + partN (sumT t0)
      · rw [if_pos c2, Nat.sub_zero]
        exact .inr (.inl ⟨by omega, open_part (by omega) (by omega)⟩)
      · rw [if_neg c2, newD_get hj, open_blank]
        exact .inr (.inr (by show ¬ (16 = 0); decide))
  rw [foundL_K (by omega) (by rw [l5]; decide)]
  rcases hx 0 (by omega) with ⟨a1, a2⟩ | ⟨a1, a2⟩ | a2
  · obtain ⟨k, k1, k2, k3, _⟩ := found_all (D := crashed E4 ks) (fr := 0) (g := 6) (r := 8) (S := sumT t1) (by omega) a1 a2 (fun j b1 b2 b3 => by
      rcases hx j b3 with ⟨_, c⟩ | ⟨_, c⟩ | c
      · exact .inl c
      · exact .inr (.inr (by rw [c]; show ¬ (5 = 6); decide))
      · exact .inr (.inl c))
    rw [k3]
    by_cases hk : k = partN (sumT t1)
    · rw [hk, read_whole]; exact .inr (.inr rfl)
    · rw [read_part k1 (by omega)]; exact .inl rfl
  · obtain ⟨k, k1, k2, k3, _⟩ := found_all (D := crashed E4 ks) (fr := 0) (g := 5) (r := 8) (S := sumT t0) (by omega) a1 a2 (fun j b1 b2 b3 => by
      rcases hx j b3 with ⟨_, c⟩ | ⟨_, c⟩ | c
      · exact .inr (.inr (by rw [c]; show ¬ (6 = 5); decide))
      · exact .inl c
      · exact .inr (.inl c))
    rw [k3]
    by_cases hk : k = partN (sumT t0)
    · rw [hk, read_whole]; exact .inr (.inl rfl)
    · rw [read_part k1 (by omega)]; exact .inl rfl
  · rw [found_none a2, read_nil]; exact .inl rfl

set_option maxHeartbeats 4000000 in
theorem slotTears_idle (s0 s1 : ByteArray) (K : Option Addr) (kn kc : Nat) (y : Nat) (w : World) (h : 800 < s0.size ∨ 800 < s1.size ∨ 50 < kn) (hb0 : (s0.size : Int) ≤ 9223372036854775807) (hb1 : (s1.size : Int) ≤ 9223372036854775807) (hb2 : (kn : Int) ≤ 9223372036854775807) :
    Calls Tryd.prog 6 #[.string s0, .string s1, .slice K kn kc, .int .u8 (y : Int)] w fun e w' => e = .returned (.bool true) ∧ Below w.heap.size w w' := by
  have HA := Lib.hid slot_Awake
  by_cases h0 : 800 < s0.size
  · have hd : decide ((800 : Int) < (s0.size : Int)) = true := decide_eq_true (by omega)
    have hd' : decide (800 < s0.size) = true := decide_eq_true h0
    go_enter Tryd.func6, Tryd.ntmps6
    go_wp2_with fail
    refine (HA.out _).mono ?_
    rintro e w1 ⟨rfl, hb⟩
    go_wp2_with fail
    go_ret
    exact ⟨rfl, hb⟩
  · have hd : decide ((800 : Int) < (s0.size : Int)) = false := decide_eq_false (by omega)
    have hd' : decide (800 < s0.size) = false := decide_eq_false h0
    by_cases h1 : 800 < s1.size
    · have hd1 : decide ((800 : Int) < (s1.size : Int)) = true := decide_eq_true (by omega)
      have hd1' : decide (800 < s1.size) = true := decide_eq_true h1
      go_enter Tryd.func6, Tryd.ntmps6
      go_wp2_with fail
      refine (HA.out _).mono ?_
      rintro e w1 ⟨rfl, hb⟩
      go_wp2_with fail
      go_ret
      exact ⟨rfl, hb⟩
    · have hd1 : decide ((800 : Int) < (s1.size : Int)) = false := decide_eq_false (by omega)
      have hd1' : decide (800 < s1.size) = false := decide_eq_false h1
      have hd2 : decide ((50 : Int) < (kn : Int)) = true := decide_eq_true (by omega)
      have hd2' : decide (50 < kn) = true := decide_eq_true (by omega)
      go_enter Tryd.func6, Tryd.ntmps6
      go_wp2_with fail
      refine (HA.out _).mono ?_
      rintro e w1 ⟨rfl, hb⟩
      go_wp2_with fail
      go_ret
      exact ⟨rfl, hb⟩

theorem toList_bs (l : List UInt8) : (bs l).toList = l := by unfold bs; rw [ByteArray.toList_mk]

set_option maxHeartbeats 8000000 in
theorem slotTears_main (s0 s1 : ByteArray) (K : Option Addr) (kn kc : Nat) (ks : List Bool) (y : Nat) (w : World) (h0 : s0.size ≤ 800) (h1 : s1.size ≤ 800) (h2 : kn ≤ 50) (hks : KSl w K kn ks) (hy : y < 256) :
    Calls Tryd.prog 6 #[.string s0, .string s1, .slice K kn kc, .int .u8 (y : Int)] w fun e w' => e = .returned (.bool true) ∧ Below w.heap.size w w' := by
  obtain ⟨q, hq⟩ : ∃ q, q = y % 12 := ⟨_, rfl⟩
  have hq12 : q < 12 := by omega
  have hqi : (y : Int) % 12 = (q : Int) := by omega
  have hqt : (y : Int).tmod 12 = (q : Int) := by rw [Int.tmod_eq_emod_of_nonneg (by omega)]; exact hqi
  have hqw : IntKind.i64.wrap (q : Int) = (q : Int) := IntWalk.i64_in _ (by omega)
  have HA := Lib.hid slot_Awake
  have HKS := Lib.hid hks
  have HN := Lib.hid (disk_New 8 w (by omega) (by omega))
  have hd0 : decide ((800 : Int) < (s0.size : Int)) = false := decide_eq_false (by omega)
  have hd0' : decide (800 < s0.size) = false := decide_eq_false (by omega)
  have hd1 : decide ((800 : Int) < (s1.size : Int)) = false := decide_eq_false (by omega)
  have hd1' : decide (800 < s1.size) = false := decide_eq_false (by omega)
  have hd2 : decide ((50 : Int) < (kn : Int)) = false := decide_eq_false (by omega)
  have hd2' : decide (50 < kn) = false := decide_eq_false (by omega)
  obtain ⟨t0, ht0⟩ : ∃ t, t = s0.data.toList := ⟨_, rfl⟩
  obtain ⟨t1, ht1⟩ : ∃ t, t = s1.data.toList := ⟨_, rfl⟩
  have HS0 : Hid (bs t0 = s0) := Lib.hid (by rw [ht0, bs_of])
  have HS1 : Hid (bs t1 = s1) := Lib.hid (by rw [ht1, bs_of])
  have hl0 : t0.length = s0.size := by rw [← HS0.out, bs_size]
  have hl1 : t1.length = s1.size := by rw [← HS1.out, bs_size]
  obtain ⟨E1, hE1⟩ : ∃ D, D = (slotW (newD 8) ((0 : Nat) : Int) ((8 : Nat) : Int) 5 t0).1 := ⟨_, rfl⟩
  obtain ⟨E2, hE2⟩ : ∃ D, D = synced (slotW (newD 8) ((0 : Nat) : Int) ((8 : Nat) : Int) 5 t0).1 := ⟨_, rfl⟩
  obtain ⟨E4, hE4⟩ : ∃ D, D = (slotW { E2 with armed := (q : Int) } ((0 : Nat) : Int) ((8 : Nat) : Int) 6 t1).1 := ⟨_, rfl⟩
  obtain ⟨c4, hc4⟩ : ∃ c, c = (slotW { E2 with armed := (q : Int) } ((0 : Nat) : Int) ((8 : Nat) : Int) 6 t1).2 := ⟨_, rfl⟩
  obtain ⟨k1, k2, hcs⟩ := tears_read (ks := ks) (by omega) (by omega) hE2 hE4
  have HSM1 : Hid (SmallN 20001 E1) := Lib.hid (by rw [hE1]; exact slotW_small ((smallN_new _).mono (by omega)) (by omega))
  have he2 : E2 = synced E1 := by rw [hE2, hE1]
  have HSM2 : Hid (SmallN 20000 { E2 with armed := (q : Int) }) := Lib.hid (SmallN.arm (by rw [he2]; exact HSM1.out.sync) (by omega) (by omega))
  have HSM4 : Hid (SmallN 10000 E4) := Lib.hid (by rw [hE4]; exact slotW_small (HSM2.out.mono (by omega)) (by omega))
  have hsy : syD E1 = (E2, 0) := by
    unfold syD
    rw [hE1, fires_zero k2, if_neg (show ¬ (((slotW (newD 8) ((0 : Nat) : Int) ((8 : Nat) : Int) 5 t0).1, false).2 = true) from fun h => by cases h), hE2]
  have HW1 : Hid (∀ W p gl M v, IsDisk w.heap.size W p gl M v (newD 8) → w.heap.size ≤ W.heap.size → Calls Tryd.prog 16 #[.pointer (some ⟨p, 0, none⟩), .int .i64 0, .int .i64 8, .int .u64 5, .string s0] W fun e w' => e = .returned (.int .i64 0) ∧ ∃ v', IsDisk w.heap.size w' p gl M v' E1 ∧ Below w.heap.size W w' ∧ Keeps W w') := Lib.hid (fun W p gl M v hI hs => by
    have h := slot_Write _ W p gl M v (newD 8) ((0 : Nat) : Int) ((8 : Nat) : Int) 5 t0 hI ((smallN_new _).mono (by omega)) hs (by omega) (by omega) (by omega)
    rw [← hE1, k1, HS0.out] at h
    exact h)
  have HSY : Hid (∀ W p gl M v, IsDisk w.heap.size W p gl M v E1 → w.heap.size ≤ W.heap.size → Calls Tryd.prog 18 #[.pointer (some ⟨p, 0, none⟩)] W fun e w' => e = .returned (.int .i64 0) ∧ ∃ v', IsDisk w.heap.size w' p gl M v' E2 ∧ Below w.heap.size W w' ∧ Keeps W w') := Lib.hid (fun W p gl M v hI hs => by
    have h := disk_Sync _ W p gl M v E1 hI HSM1.out.small hs
    rw [hsy] at h
    exact h)
  have HAR : Hid (∀ W p gl M v, IsDisk w.heap.size W p gl M v E2 → Calls Tryd.prog 10 #[.pointer (some ⟨p, 0, none⟩), .int .i64 (q : Int)] W fun e w' => e = .returned (.tuple #[]) ∧ IsDisk w.heap.size w' p gl M v { E2 with armed := (q : Int) } ∧ Below w.heap.size W w' ∧ Keeps W w') := Lib.hid (fun W p gl M v hI => disk_Arm _ W p gl M v E2 (q : Int) hI)
  have HW2 : Hid (∀ W p gl M v, IsDisk w.heap.size W p gl M v { E2 with armed := (q : Int) } → w.heap.size ≤ W.heap.size → Calls Tryd.prog 16 #[.pointer (some ⟨p, 0, none⟩), .int .i64 0, .int .i64 8, .int .u64 6, .string s1] W fun e w' => e = .returned (.int .i64 (c4 : Int)) ∧ ∃ v', IsDisk w.heap.size w' p gl M v' E4 ∧ Below w.heap.size W w' ∧ Keeps W w') := Lib.hid (fun W p gl M v hI hs => by
    have h := slot_Write _ W p gl M v { E2 with armed := (q : Int) } ((0 : Nat) : Int) ((8 : Nat) : Int) 6 t1 hI (HSM2.out.mono (by omega)) hs (by omega) (by omega) (by omega)
    rw [← hE4, ← hc4, HS1.out] at h
    exact h)
  have HCR : Hid (∀ W p gl M v, IsDisk w.heap.size W p gl M v E4 → Below w.heap.size w W → Calls Tryd.prog 12 #[.pointer (some ⟨p, 0, none⟩), .slice K kn kc] W fun e w' => e = .returned (.tuple #[]) ∧ ∃ v', IsDisk w.heap.size w' p gl M v' (crashed E4 ks) ∧ Below w.heap.size W w' ∧ Keeps W w') := Lib.hid (fun W p gl M v hI hb =>
    disk_Crash _ W p gl M v E4 K kn kc ks hI (fun w' hb' _ => HKS.out.keepB (hb.trans hb')) (by omega) (by have := HSM4.out.2.1; omega) hb.size)
  obtain ⟨E5, hE5⟩ : ∃ D, D = crashed E4 ks := ⟨_, rfl⟩
  rw [← hE5] at hcs HCR
  obtain ⟨R, hR⟩ : ∃ R, R = readF (foundL E5 ((0 : Nat) : Int) ((8 : Nat) : Int)) := ⟨_, rfl⟩
  have HRD : Hid (∀ W p gl M v, IsDisk w.heap.size W p gl M v E5 → Calls Tryd.prog 27 #[.pointer (some ⟨p, 0, none⟩), .int .i64 0, .int .i64 8] W fun e w' => e = .returned (.tuple #[.string (bs R.1), .int .u64 ((R.2.1 : Nat) : Int), .bool R.2.2]) ∧ Below W.heap.size W w') := Lib.hid (fun W p gl M v hI => by
    have h := slot_Read _ W p gl M v E5 ((0 : Nat) : Int) ((8 : Nat) : Int) (by omega) hI
    rw [← hR] at h
    exact h)
  rw [← hR] at hcs
  have HCS := Lib.hid hcs
  have HEQ : Hid ((s1 = s0 ∧ (s1.toList == s0.toList) = true) ∨ (s1.toList == s0.toList) = false) := Lib.hid (by
    cases hc : (s1.toList == s0.toList) with
    | false => exact .inr rfl
    | true =>
      refine .inl ⟨?_, rfl⟩
      rw [beq_iff_eq, ← HS0.out, ← HS1.out, toList_bs, toList_bs] at hc
      rw [← HS0.out, ← HS1.out, hc])
  clear hq ht0 ht1 hl0 hl1 hE1 hE2 hE4 hc4 k1 k2 hcs HSM1 he2 HSM2 HSM4 hsy hE5 hR hks
  go_enter Tryd.func6, Tryd.ntmps6
  go_wp2_with fail
  refine HN.out.mono ?_
  rintro e w1 ⟨p, gl, M, v, rfl, i1, hb1⟩
  have I1 := Lib.hid i1
  have B1 := Lib.hid hb1
  clear i1 hb1 HN hd0 hd0' hd1 hd1' hd2 hd2'
  go_wp2_with fail
  refine (HW1.out _ _ _ _ _ I1.out B1.out.size).mono ?_
  rintro e w2 ⟨rfl, v2, i2, hb2, _⟩
  have I2 := Lib.hid i2
  have B2 := Lib.hid (B1.out.trans hb2)
  clear i2 hb2 HW1 I1 B1
  go_wp2_with fail
  refine (HSY.out _ _ _ _ _ I2.out B2.out.size).mono ?_
  rintro e w3 ⟨rfl, v3, i3, hb3, _⟩
  have I3 := Lib.hid i3
  have B3 := Lib.hid (B2.out.trans hb3)
  clear i3 hb3 HSY I2 B2
  go_wp2_with fail
  refine (HAR.out _ _ _ _ _ I3.out).mono ?_
  rintro e w4 ⟨rfl, i4, hb4, _⟩
  have I4 := Lib.hid i4
  have B4 := Lib.hid (B3.out.trans hb4)
  clear i4 hb4 HAR I3 B3 hqi hqt hqw
  go_wp2_with fail
  refine (HW2.out _ _ _ _ _ I4.out B4.out.size).mono ?_
  rintro e w5 ⟨rfl, v5, i5, hb5, _⟩
  have I5 := Lib.hid i5
  have B5 := Lib.hid (B4.out.trans hb5)
  clear i5 hb5 HW2 I4 B4
  go_wp2_with fail
  refine (HCR.out _ _ _ _ _ I5.out B5.out).mono ?_
  rintro e w6 ⟨rfl, v6, i6, hb6, _⟩
  have I6 := Lib.hid i6
  have B6 := Lib.hid (B5.out.trans hb6)
  clear i6 hb6 HCR I5 B5
  go_wp2_with fail
  refine (HRD.out _ _ _ _ _ I6.out).mono ?_
  rintro e w7 ⟨rfl, hb7⟩
  have B7 := Lib.hid (B6.out.trans (hb7.mono B6.out.size))
  clear hb7 HRD I6 B6
  rcases HCS.out with r1 | r1 | r1
  · rw [r1]
    dsimp only
    rw [bs_nil]
    clear r1 HCS HEQ
    go_wp2_with fail
    refine (HA.out _).mono ?_
    rintro e w8 ⟨rfl, hb8⟩
    go_wp2_with fail
    go_ret
    exact ⟨rfl, B7.out.trans (hb8.mono B7.out.size)⟩
  · rw [r1]
    dsimp only
    rw [HS0.out]
    clear r1 HCS HEQ
    go_wp2_with fail
    refine (HA.out _).mono ?_
    rintro e w8 ⟨rfl, hb8⟩
    go_wp2_with fail
    go_ret
    exact ⟨rfl, B7.out.trans (hb8.mono B7.out.size)⟩
  · rw [r1]
    dsimp only
    rw [HS1.out]
    clear r1 HCS
    rcases HEQ.out with ⟨_, he⟩ | he
    · clear HEQ
      go_wp2_with fail
      refine (HA.out _).mono ?_
      rintro e w8 ⟨rfl, hb8⟩
      go_wp2_with fail
      go_ret
      exact ⟨rfl, B7.out.trans (hb8.mono B7.out.size)⟩
    · clear HEQ
      go_wp2_with fail
      refine (HA.out _).mono ?_
      rintro e w8 ⟨rfl, hb8⟩
      go_wp2_with fail
      go_ret
      exact ⟨rfl, B7.out.trans (hb8.mono B7.out.size)⟩

theorem slotTears_walk {w : World} (s0 : ByteArray) (h0 : s0.size ≤ maxLen) (s1 : ByteArray) (h1 : s1.size ≤ maxLen) (K : Option Addr) (kn kc : Nat) (ks : List Bool) (hK : KSl w K kn ks ∧ (kn : Int) ≤ 9223372036854775807) (y : Nat) (hy : y < 256) (w' : World) (hw : w' = w) :
    Calls Tryd.prog 6 #[.string s0, .string s1, .slice K kn kc, .int .u8 (y : Int)] w' fun e w'' => e = .returned (.bool true) ∧ Below w'.heap.size w' w'' := by
  subst hw
  by_cases h : 800 < s0.size ∨ 800 < s1.size ∨ 50 < kn
  · exact slotTears_idle s0 s1 K kn kc y w' h (by simp only [maxLen] at h0; omega) (by simp only [maxLen] at h1; omega) hK.2
  · exact slotTears_main s0 s1 K kn kc ks y w' (by omega) (by omega) (by omega) hK.1 hy
end Go.Proofs.YtcnbpajlocoocaaDoor
