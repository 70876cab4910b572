/- The walk of SlotBack. -/
import Derived.Test.YtcnbpajlocoocaaDoorSlotN
namespace Go.Proofs.YtcnbpajlocoocaaDoor
open Go.RowKit Go.Maps
set_option maxRecDepth 100000

theorem settle_append (ws zs : List (Nat × List UInt8)) (ls : List (List UInt8)) : settle ls (ws ++ zs) = settle (settle ls ws) zs := by unfold settle; rw [List.foldl_append]

/-- Behind a write that had room, and a sync, the parts lie there. -/
theorem back_parts {D : DSt} {i r gen : Nat} {t : List UInt8} (ha : D.armed = 0) (h1 : 1 ≤ r) (h2 : i + r ≤ D.lasts.length) (hD : D.lasts.length ≤ 4096) (ht : t.length + 4 ≤ 110 * r) (hg : gen < 18446744073709551616) :
    (slotW D (i : Int) (r : Int) gen t).2 = 0 ∧ (slotW D (i : Int) (r : Int) gen t).1.armed = 0 ∧ (synced (slotW D (i : Int) (r : Int) gen t).1).lasts.length = D.lasts.length ∧
      ∀ j, j < partN (sumT t) → recAt (synced (slotW D (i : Int) (r : Int) gen t).1) (i + j) = (partAt gen (sumT t) j, 0) := by
  obtain ⟨m, m1, m2, m3, m4, m5⟩ := slotW_state (gen := gen) h1 h2 ht
  have hN := parts_room ht
  have hc := m5 ha
  have hm := m4 hc.1
  subst hm
  have hlen : (synced (slotW D (i : Int) (r : Int) gen t).1).lasts.length = D.lasts.length := by
    show (settle _ _).length = _
    rw [settle_len, m3]
  refine ⟨hc.1, hc.2, hlen, fun j hj => ?_⟩
  rw [recAt_dry rfl (by rw [hlen]; omega)]
  have e : (synced (slotW D (i : Int) (r : Int) gen t).1).lasts = settle (settle D.lasts D.waits) (seqW (fun q => secP gen (sumT t) (q - i)) i (partN (sumT t))) := by
    show settle _ _ = _
    rw [m2, m3, settle_append]
  rw [e, settle_seq _ _ _ _ (by rw [settle_len]; omega), if_pos ⟨by omega, by omega⟩, Nat.add_sub_cancel_left]
  exact open_part hg (by omega)
theorem read_back {D : DSt} {i r gen : Nat} {t : List UInt8} (h1 : 1 ≤ r) (h2 : i + r ≤ D.lasts.length) (hN : partN (sumT t) ≤ r) (h : ∀ j, j < partN (sumT t) → recAt D (i + j) = (partAt gen (sumT t) j, 0)) :
    readF (foundL D (i : Int) (r : Int)) = (t, gen, true) ∧ gen ≤ newF (openL2 D (i : Int) (r : Int)) := by
  have hp := partN_pos t
  have h0 : recAt D i = (partAt gen (sumT t) 0, 0) := h 0 hp
  obtain ⟨m, m1, m2, m3, m4⟩ := found_all h1 hp h0 (fun j a b c => .inl (h j b))
  refine ⟨by rw [foundL_K h1 h2, m3, m4 h hN, read_whole], ?_⟩
  unfold openL2
  rw [if_pos (liesB_yes h1 h2), Int.toNat_natCast, Int.toNat_natCast, openK_R]
  obtain ⟨f, rfl⟩ : ∃ f, r = f + 1 := ⟨r - 1, by omega⟩
  rw [openR_yes (n := 0) (x := partAt gen (sumT t) 0) h0]
  refine newF_ge (x := (0, partAt gen (sumT t) 0)) (List.mem_cons_self ..) ?_
  show (if 0 + 1 = partN (sumT t) then 3 else 2) = 2 ∨ (if 0 + 1 = partN (sumT t) then 3 else 2) = 3
  split
  · exact .inr rfl
  · exact .inl rfl
/-- Whether it has room or not, the disk's size and its arm stay. -/
theorem slotW_kept {D : DSt} {i r gen : Nat} {t : List UInt8} (ha : D.armed = 0) (h1 : 1 ≤ r) (h2 : i + r ≤ D.lasts.length) : (slotW D (i : Int) (r : Int) gen t).1.armed = 0 ∧ (slotW D (i : Int) (r : Int) gen t).1.lasts = D.lasts := by
  by_cases ht : t.length + 4 ≤ 110 * r
  · obtain ⟨m, m1, m2, m3, m4, m5⟩ := slotW_state (gen := gen) h1 h2 ht
    exact ⟨(m5 ha).2, m3⟩
  · rw [slotW_long h1 h2 (by omega)]
    exact ⟨ha, rfl⟩

set_option maxHeartbeats 4000000 in
theorem slotBack_idle (s0 s1 : ByteArray) (g y : Nat) (w : World) (h : 1500 < s0.size ∨ 1500 < s1.size) (hb0 : (s0.size : Int) ≤ 9223372036854775807) (hb1 : (s1.size : Int) ≤ 9223372036854775807) :
    Calls Tryd.prog 5 #[.string s0, .string s1, .int .u64 (g : Int), .int .u8 (y : Int)] w fun e w' => e = .returned (.bool true) ∧ Below w.heap.size w w' := by
  obtain ⟨q, hq⟩ : ∃ q, q = y % 12 := ⟨_, rfl⟩
  have hq12 : q < 12 := by omega
  have hqi : (y : Int) % 12 = (q : Int) := by omega
  have hqt : (y : Int).tmod 12 = (q : Int) := by rw [Int.tmod_eq_emod_of_nonneg (by omega)]; exact hqi
  have hqw : IntKind.i64.wrap (q : Int) = (q : Int) := IntWalk.i64_in _ (by omega)
  have HA := Lib.hid slot_Awake
  have HN : Hid (Calls Tryd.prog 8 #[.int .i64 ((q : Int) + 1 + 1)] w fun e w' => ∃ p gl M v, e = .returned (.tuple #[.pointer (some ⟨p, 0, none⟩), .int .i64 0]) ∧ IsDisk w.heap.size w' p gl M v (newD (q + 2)) ∧ Below w.heap.size w w') := Lib.hid (by
    have h := disk_New (q + 2) w (by omega) (by omega)
    rw [show (((q + 2 : Nat)) : Int) = (q : Int) + 1 + 1 by omega] at h
    exact h)
  clear hq
  by_cases h0 : 1500 < s0.size
  · have hd : decide ((1500 : Int) < (s0.size : Int)) = true := decide_eq_true (by omega)
    have hd' : decide (1500 < s0.size) = true := decide_eq_true h0
    go_enter Tryd.func5, Tryd.ntmps5
    go_wp2_with fail
    refine HN.out.mono ?_
    rintro e w1 ⟨p, gl, M, v, rfl, h1, hb1⟩
    go_wp2_with fail
    refine (HA.out _).mono ?_
    rintro e w2 ⟨rfl, hb⟩
    go_wp2_with fail
    go_ret
    exact ⟨rfl, hb1.trans (hb.mono hb1.size)⟩
  · have hd : decide ((1500 : Int) < (s0.size : Int)) = false := decide_eq_false (by omega)
    have hd' : decide (1500 < s0.size) = false := decide_eq_false h0
    have hd1 : decide ((1500 : Int) < (s1.size : Int)) = true := decide_eq_true (by omega)
    have hd1' : decide (1500 < s1.size) = true := decide_eq_true (by omega)
    go_enter Tryd.func5, Tryd.ntmps5
    go_wp2_with fail
    refine HN.out.mono ?_
    rintro e w1 ⟨p, gl, M, v, rfl, h1, hb1⟩
    go_wp2_with fail
    refine (HA.out _).mono ?_
    rintro e w2 ⟨rfl, hb⟩
    go_wp2_with fail
    go_ret
    exact ⟨rfl, hb1.trans (hb.mono hb1.size)⟩

set_option maxHeartbeats 8000000 in
theorem slotBack_main (s0 s1 : ByteArray) (g y : Nat) (w : World) (h0 : s0.size ≤ 1500) (h1 : s1.size ≤ 1500) (hg : g < 18446744073709551616) :
    Calls Tryd.prog 5 #[.string s0, .string s1, .int .u64 (g : Int), .int .u8 (y : Int)] w fun e w' => e = .returned (.bool true) ∧ Below w.heap.size w w' := by
  obtain ⟨q, hq⟩ : ∃ q, q = y % 12 := ⟨_, rfl⟩
  have hq12 : q < 12 := by omega
  have hqi : (y : Int) % 12 = (q : Int) := by omega
  have hqt : (y : Int).tmod 12 = (q : Int) := by rw [Int.tmod_eq_emod_of_nonneg (by omega)]; exact hqi
  have hqw : IntKind.i64.wrap (q : Int) = (q : Int) := IntWalk.i64_in _ (by omega)
  have HA := Lib.hid slot_Awake
  have HN : Hid (Calls Tryd.prog 8 #[.int .i64 ((q : Int) + 1 + 1)] w fun e w' => ∃ p gl M v, e = .returned (.tuple #[.pointer (some ⟨p, 0, none⟩), .int .i64 0]) ∧ IsDisk w.heap.size w' p gl M v (newD (q + 2)) ∧ Below w.heap.size w w') := Lib.hid (by
    have h := disk_New (q + 2) w (by omega) (by omega)
    rw [show (((q + 2 : Nat)) : Int) = (q : Int) + 1 + 1 by omega] at h
    exact h)
  have hd0 : decide ((1500 : Int) < (s0.size : Int)) = false := decide_eq_false (by omega)
  have hd0' : decide (1500 < s0.size) = false := decide_eq_false (by omega)
  have hd1 : decide ((1500 : Int) < (s1.size : Int)) = false := decide_eq_false (by omega)
  have hd1' : decide (1500 < s1.size) = false := decide_eq_false (by omega)
  have hnq : ((q + 1 : Nat) : Int) = (q : Int) + 1 := by omega
  have HNQ := Lib.hid hnq
  -- the states
  obtain ⟨t0, ht0⟩ : ∃ t, t = s0.data.toList := ⟨_, rfl⟩
  obtain ⟨t1, ht1⟩ : ∃ t, t = s1.data.toList := ⟨_, rfl⟩
  have HS0 : Hid (bs t0 = s0) := Lib.hid (by rw [ht0, bs_of])
  have HS1 : Hid (bs t1 = s1) := Lib.hid (by rw [ht1, bs_of])
  have hl0 : t0.length = s0.size := by rw [← HS0.out, bs_size]
  have hl1 : t1.length = s1.size := by rw [← HS1.out, bs_size]
  obtain ⟨D0, hD0⟩ : ∃ D, D = newD (q + 2) := ⟨_, rfl⟩
  have hDl : D0.lasts.length = q + 2 := by rw [hD0]; simp [newD]
  have hDa : D0.armed = 0 := by rw [hD0]; rfl
  have HSM0 : Hid (SmallN 20000 D0) := Lib.hid (by rw [hD0]; exact (smallN_new _).mono (by omega))
  obtain ⟨k1, k2⟩ := slotW_kept (i := 1) (r := q + 1) (gen := 3) (t := t0) hDa (by omega) (by omega)
  obtain ⟨E1, hE1⟩ : ∃ D, D = (slotW D0 ((1 : Nat) : Int) ((q + 1 : Nat) : Int) 3 t0).1 := ⟨_, rfl⟩
  obtain ⟨c1, hc1⟩ : ∃ c, c = (slotW D0 ((1 : Nat) : Int) ((q + 1 : Nat) : Int) 3 t0).2 := ⟨_, rfl⟩
  have HSM1 : Hid (SmallN 15000 E1) := Lib.hid (by rw [hE1]; exact slotW_small HSM0.out (by omega))
  rw [← hE1] at k1 k2
  obtain ⟨q1, q2⟩ := slotW_kept (D := E1) (i := 1) (r := q + 1) (gen := g) (t := t1) k1 (by omega) (by rw [k2]; omega)
  obtain ⟨E2, hE2⟩ : ∃ D, D = (slotW E1 ((1 : Nat) : Int) ((q + 1 : Nat) : Int) g t1).1 := ⟨_, rfl⟩
  obtain ⟨c2, hc2⟩ : ∃ c, c = (slotW E1 ((1 : Nat) : Int) ((q + 1 : Nat) : Int) g t1).2 := ⟨_, rfl⟩
  have HSM2 : Hid (SmallN 10000 E2) := Lib.hid (by rw [hE2]; exact slotW_small HSM1.out (by omega))
  rw [← hE2] at q1 q2
  have hsy : syD E2 = (synced E2, 0) := by
    unfold syD
    rw [fires_zero q1, if_neg (show ¬ ((E2, false).2 = true) from fun h => by cases h)]
  have HL3 : Hid ((synced E2).lasts.length = q + 2) := Lib.hid (by show (settle _ _).length = _; rw [settle_len, q2, k2, hDl])
  have HCS : Hid ((110 * (q + 1) < t1.length + 4 ∧ c2 = 11) ∨ (t1.length + 4 ≤ 110 * (q + 1) ∧ c2 = 0 ∧ readF (foundL (synced E2) ((1 : Nat) : Int) ((q + 1 : Nat) : Int)) = (t1, g, true) ∧ g ≤ newF (openL2 (synced E2) ((1 : Nat) : Int) ((q + 1 : Nat) : Int)))) := Lib.hid (by
    by_cases ht : t1.length + 4 ≤ 110 * (q + 1)
    · obtain ⟨b1, b2, b3, b4⟩ := back_parts (D := E1) (i := 1) (r := q + 1) (gen := g) (t := t1) k1 (by omega) (by rw [k2]; omega) (by rw [k2]; omega) ht hg
      rw [← hE2] at b3 b4
      obtain ⟨r1, r2⟩ := read_back (D := synced E2) (i := 1) (r := q + 1) (gen := g) (t := t1) (by omega) (by rw [b3, k2]; omega) (parts_room ht) b4
      exact .inr ⟨ht, by rw [hc2]; exact b1, r1, r2⟩
    · exact .inl ⟨by omega, by rw [hc2, slotW_long (by omega) (by rw [k2]; omega) (by omega)]⟩)
  have HW1 : Hid (∀ W p gl M v, IsDisk w.heap.size W p gl M v D0 → w.heap.size ≤ W.heap.size → Calls Tryd.prog 16 #[.pointer (some ⟨p, 0, none⟩), .int .i64 1, .int .i64 ((q : Int) + 1), .int .u64 3, .string s0] W fun e w' => e = .returned (.int .i64 (c1 : Int)) ∧ ∃ v', IsDisk w.heap.size w' p gl M v' E1 ∧ Below w.heap.size W w' ∧ Keeps W w') := Lib.hid (fun W p gl M v hI hs => by
    have h := slot_Write _ W p gl M v D0 ((1 : Nat) : Int) ((q + 1 : Nat) : Int) 3 t0 hI (HSM0.out.mono (by omega)) hs (by omega) (by omega) (by omega)
    rw [← hE1, ← hc1, HS0.out, hnq] at h
    exact h)
  have HW2 : Hid (∀ W p gl M v, IsDisk w.heap.size W p gl M v E1 → w.heap.size ≤ W.heap.size → Calls Tryd.prog 16 #[.pointer (some ⟨p, 0, none⟩), .int .i64 1, .int .i64 ((q : Int) + 1), .int .u64 (g : Int), .string s1] W fun e w' => e = .returned (.int .i64 (c2 : Int)) ∧ ∃ v', IsDisk w.heap.size w' p gl M v' E2 ∧ Below w.heap.size W w' ∧ Keeps W w') := Lib.hid (fun W p gl M v hI hs => by
    have h := slot_Write _ W p gl M v E1 ((1 : Nat) : Int) ((q + 1 : Nat) : Int) g t1 hI (HSM1.out.mono (by omega)) hs (by omega) hg (by omega)
    rw [← hE2, ← hc2, HS1.out, hnq] at h
    exact h)
  have HSY : Hid (∀ W p gl M v, IsDisk w.heap.size W p gl M v E2 → w.heap.size ≤ W.heap.size → Calls Tryd.prog 18 #[.pointer (some ⟨p, 0, none⟩)] W fun e w' => e = .returned (.int .i64 0) ∧ ∃ v', IsDisk w.heap.size w' p gl M v' (synced E2) ∧ Below w.heap.size W w' ∧ Keeps W w') := Lib.hid (fun W p gl M v hI hs => by
    have h := disk_Sync _ W p gl M v E2 hI HSM2.out.small hs
    rw [hsy] at h
    exact h)
  obtain ⟨E3, hE3⟩ : ∃ D, D = synced E2 := ⟨_, rfl⟩
  rw [← hE3] at HCS HSY
  obtain ⟨R, hR⟩ : ∃ R, R = readF (foundL E3 ((1 : Nat) : Int) ((q + 1 : Nat) : Int)) := ⟨_, rfl⟩
  obtain ⟨nw, hnw⟩ : ∃ n, n = newF (openL2 E3 ((1 : Nat) : Int) ((q + 1 : Nat) : Int)) := ⟨_, rfl⟩
  have HRD : Hid (∀ W p gl M v, IsDisk w.heap.size W p gl M v E3 → Calls Tryd.prog 27 #[.pointer (some ⟨p, 0, none⟩), .int .i64 1, .int .i64 ((q : Int) + 1)] W fun e w' => e = .returned (.tuple #[.string (bs R.1), .int .u64 ((R.2.1 : Nat) : Int), .bool R.2.2]) ∧ Below W.heap.size W w') := Lib.hid (fun W p gl M v hI => by
    have h := slot_Read _ W p gl M v E3 ((1 : Nat) : Int) ((q + 1 : Nat) : Int) (by omega) hI
    rw [← hR, hnq] at h
    exact h)
  have HNW : Hid (∀ W p gl M v, IsDisk w.heap.size W p gl M v E3 → Calls Tryd.prog 29 #[.pointer (some ⟨p, 0, none⟩), .int .i64 1, .int .i64 ((q : Int) + 1)] W fun e w' => e = .returned (.int .u64 (nw : Int)) ∧ Below W.heap.size W w') := Lib.hid (fun W p gl M v hI => by
    have h := slot_Newest _ W p gl M v E3 ((1 : Nat) : Int) ((q + 1 : Nat) : Int) (by omega) hI
    rw [← hnw, hnq] at h
    exact h)
  rw [← hR, ← hnw, hl1] at HCS
  rw [← hD0] at HN
  clear hq ht0 ht1 hl0 hl1 hD0 hDl hDa HSM0 k1 k2 hE1 hc1 HSM1 q1 q2 hE2 hc2 HSM2 hsy HL3 hE3 hR hnw hnq HNQ HS0
  have HB1 : Hid (bs t1 = s1) := HS1
  clear HS1
  go_enter Tryd.func5, Tryd.ntmps5
  go_wp2_with fail
  refine HN.out.mono ?_
  rintro e w1 ⟨p, gl, M, v, rfl, i1, hb1⟩
  have I1 := Lib.hid i1
  have B1 := Lib.hid hb1
  clear i1 hb1 HN hqi hqt hqw
  go_wp2_with fail
  refine (HW1.out _ _ _ _ _ I1.out B1.out.size).mono ?_
  rintro e w2 ⟨rfl, v2, i2, hb2, _⟩
  have I2 := Lib.hid i2
  have B2 := Lib.hid (B1.out.trans hb2)
  clear i2 hb2 HW1 I1 B1 hd0 hd0' hd1 hd1'
  go_wp2_with fail
  refine (HW2.out _ _ _ _ _ I2.out B2.out.size).mono ?_
  rintro e w3 ⟨rfl, v3, i3, hb3, _⟩
  have I3 := Lib.hid i3
  have B3 := Lib.hid (B2.out.trans hb3)
  clear i3 hb3 HW2 I2 B2
  go_wp2_with fail
  refine (HSY.out _ _ _ _ _ I3.out B3.out.size).mono ?_
  rintro e w4 ⟨rfl, v4, i4, hb4, _⟩
  have I4 := Lib.hid i4
  have B4 := Lib.hid (B3.out.trans hb4)
  clear i4 hb4 HSY I3 B3
  go_wp2_with fail
  refine (HRD.out _ _ _ _ _ I4.out).mono ?_
  rintro e w5 ⟨rfl, hb5⟩
  have I5 := Lib.hid (I4.out.keep hb5)
  have B5 := Lib.hid (B4.out.trans (hb5.mono B4.out.size))
  clear hb5 HRD I4 B4
  rcases HCS.out with ⟨t2, rfl⟩ | ⟨t2, rfl, r1, r2⟩
  · have hcmp : decide (110 * ((q : Int) + 1) - 4 < (s1.size : Int)) = true := decide_eq_true (by omega)
    clear HCS
    go_wp2_with fail
    refine (HA.out _).mono ?_
    rintro e w6 ⟨rfl, hb6⟩
    go_wp2_with fail
    go_ret
    exact ⟨rfl, B5.out.trans (hb6.mono B5.out.size)⟩
  · have hcmp : decide (110 * ((q : Int) + 1) - 4 < (s1.size : Int)) = false := decide_eq_false (by omega)
    have hge : decide ((g : Int) ≤ (nw : Int)) = true := decide_eq_true (by omega)
    have hge' : decide (g ≤ nw) = true := decide_eq_true r2
    rw [r1]
    dsimp only
    rw [HB1.out]
    clear HCS r1 r2
    go_wp2_with fail
    refine (HA.out _).mono ?_
    rintro e w6 ⟨rfl, hb6⟩
    have I6 := Lib.hid (I5.out.keep hb6)
    have B6 := Lib.hid (B5.out.trans (hb6.mono B5.out.size))
    clear hb6
    go_wp2_with fail
    refine (HNW.out _ _ _ _ _ I6.out).mono ?_
    rintro e w7 ⟨rfl, hb7⟩
    go_wp2_with fail
    go_ret
    exact ⟨rfl, B6.out.trans (hb7.mono B6.out.size)⟩

theorem slotBack_walk (s0 : ByteArray) (h0 : s0.size ≤ maxLen) (s1 : ByteArray) (h1 : s1.size ≤ maxLen) (g : Nat) (hg : g < 18446744073709551616) (y : Nat) (_hy : y < 256) (w : World) :
    Calls Tryd.prog 5 #[.string s0, .string s1, .int .u64 (g : Int), .int .u8 (y : Int)] w fun e w' => e = .returned (.bool true) ∧ Below w.heap.size w w' := by
  by_cases h : 1500 < s0.size ∨ 1500 < s1.size
  · exact slotBack_idle s0 s1 g y w h (by simp only [maxLen] at h0; omega) (by simp only [maxLen] at h1; omega)
  · exact slotBack_main s0 s1 g y w (by omega) (by omega) hg
end Go.Proofs.YtcnbpajlocoocaaDoor
