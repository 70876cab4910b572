/- The walk of DiskArms: armed by n, the n-th write fails. -/
import Derived.Test.YtciophpplpmmfaaDiskH
namespace Go.Proofs.Ytciophpplpmmfaa
open Go.RowKit Go.Maps Go.ChangeMaps Go.MapKept

/-- How many writes were done of i, where the k-th fails. -/
def doneN (k i : Nat) : Nat := if 1 ≤ k ∧ k ≤ i then i - 1 else i
theorem done_a {k i : Nat} (h : 1 ≤ k ∧ k ≤ i) : doneN k i = i - 1 := by unfold doneN; rw [if_pos h]
theorem done_b {k i : Nat} (h : ¬ (1 ≤ k ∧ k ≤ i)) : doneN k i = i := by unfold doneN; rw [if_neg h]

/-- The disk behind i writes. -/
def Armed (k i : Nat) (D : DSt) : Prop := D.lasts.length = 4 ∧ D.waits.length = doneN k i ∧ D.ops = doneN k i ∧ D.armed = if i < k then (k : Int) - (i : Int) else 0

theorem hasB_four {D : DSt} (h : D.lasts.length = 4) (i : Nat) : hasB D ((i % 4 : Nat) : Int) = true := hasB_nat (by rw [h]; omega)
theorem armed_ok {k i : Nat} {D : DSt} (h : Armed k i D) (hi : i + 1 ≠ k) (s : List UInt8) (hs : s.length = 128) : (wrD D ((i % 4 : Nat) : Int) s).2 = 0 ∧ Armed k (i + 1) (wrD D ((i % 4 : Nat) : Int) s).1 := by
  obtain ⟨h1, h2, h3, h4⟩ := h
  have hf : (fires D).2 = false ∧ (fires D).1.lasts = D.lasts ∧ (fires D).1.waits = D.waits ∧ (fires D).1.ops = D.ops ∧ (fires D).1.armed = if i + 1 < k then (k : Int) - ((i + 1 : Nat) : Int) else 0 := by
    refine ⟨?_, fires_lasts D, fires_waits D, fires_ops D, ?_⟩
    · unfold fires
      split
      · rfl
      · rename_i h0
        rw [h4] at h0 ⊢
        split at h0
        · rename_i h5
          rw [if_pos h5]
          simp only [beq_eq_false_iff_ne]
          omega
        · omega
    · unfold fires
      split
      · rename_i h0
        rw [h4] at h0 ⊢
        split at h0
        · omega
        · rename_i h5
          rw [if_neg h5, if_neg (by omega)]
      · rename_i h0
        simp only
        rw [h4] at h0 ⊢
        split at h0
        · rename_i h5
          rw [if_pos h5, if_pos (by omega)]
          omega
        · omega
  unfold wrD
  rw [if_neg (by rw [hasB_four h1]; decide), if_neg (by rw [hs]; decide), hf.1, if_neg (by decide)]
  refine ⟨rfl, ?_, ?_, ?_, hf.2.2.2.2⟩
  · show (fires D).1.lasts.length = 4; rw [hf.2.1]; exact h1
  · show ((fires D).1.waits ++ _).length = _
    rw [List.length_append, hf.2.2.1, h2, List.length_singleton]
    by_cases hk : 1 ≤ k ∧ k ≤ i
    · rw [done_a hk, done_a (by omega)]; omega
    · rw [done_b hk, done_b (by omega)]
  · show (fires D).1.ops + 1 = _
    rw [hf.2.2.2.1, h3]
    by_cases hk : 1 ≤ k ∧ k ≤ i
    · rw [done_a hk, done_a (by omega)]; omega
    · rw [done_b hk, done_b (by omega)]
theorem armed_bad {k i : Nat} {D : DSt} (h : Armed k i D) (hi : i + 1 = k) (s : List UInt8) (hs : s.length = 128) : (wrD D ((i % 4 : Nat) : Int) s).2 = 7 ∧ Armed k (i + 1) (wrD D ((i % 4 : Nat) : Int) s).1 := by
  obtain ⟨h1, h2, h3, h4⟩ := h
  rw [if_pos (by omega)] at h4
  have e : fires D = ({ D with armed := D.armed - 1 }, true) := by
    unfold fires
    rw [if_neg (by omega), h4]
    congr 1
    rw [beq_iff_eq]
    omega
  unfold wrD
  rw [if_neg (by rw [hasB_four h1]; decide), if_neg (by rw [hs]; decide), e, if_pos rfl]
  refine ⟨rfl, h1, ?_, ?_, ?_⟩
  · show D.waits.length = _
    rw [h2, done_a (k := k) (i := i + 1) (by omega), done_b (k := k) (i := i) (by omega)]; omega
  · show D.ops = _
    rw [h3, done_a (k := k) (i := i + 1) (by omega), done_b (k := k) (i := i) (by omega)]; omega
  · show D.armed - 1 = _
    rw [h4, if_neg (by omega)]; omega
theorem armed_small {k i : Nat} {D : DSt} (h : Armed k i D) (hk : k ≤ 20) (hi : i ≤ 20) : Small D := by
  obtain ⟨h1, h2, h3, h4⟩ := h
  have hd : doneN k i ≤ i := by unfold doneN; split <;> omega
  refine ⟨?_, by omega, by omega⟩
  unfold ArmOk
  rw [h4]
  split <;> omega

set_option maxHeartbeats 4000000 in
set_option maxRecDepth 100000 in
theorem diskArms_walk (n : Nat) (hn : n < 256) (al : Nat) (ha : al < 256) (w : World) :
    Calls Try.prog 5 #[.int .u8 (n : Int), .int .u8 (al : Int)] w fun e w' => e = .returned (.bool true) ∧ Below w.heap.size w w' := by
  have HN := Lib.hid (disk_New 4 w (by omega) (by omega))
  have HA := Lib.hid disk_Awake
  obtain ⟨k, hk⟩ : ∃ k, k = n % 20 := ⟨_, rfl⟩
  obtain ⟨m, hm⟩ : ∃ m, m = al % 20 := ⟨_, rfl⟩
  have hki : (n : Int) % 20 = (k : Int) := by omega
  have hmi : (al : Int) % 20 = (m : Int) := by omega
  have hk20 : k < 20 := by omega
  have hm20 : m < 20 := by omega
  have hkw : IntKind.i64.wrap (k : Int) = (k : Int) := IntWalk.i64_in _ (by omega)
  have hmw : IntKind.i64.wrap (m : Int) = (m : Int) := IntWalk.i64_in _ (by omega)
  have HK20 := Lib.hid hk20
  have HM20 := Lib.hid hm20
  clear hk hm hn ha hk20 hm20
  go_enter Try.func5, Try.ntmps5
  go_wp2_with fail
  refine HN.out.mono ?_
  rintro e w1 ⟨p, gl, M, v, rfl, h1, hb1⟩
  have HAR := Lib.hid (disk_Arm _ _ p gl M v _ (k : Int) h1)
  have B1 := Lib.hid hb1
  clear h1 hb1 HN
  go_wp2_with fail
  refine HAR.out.mono ?_
  rintro e w2 ⟨rfl, h2, hb2, _⟩
  have D2 := Lib.hid h2
  have B2 := Lib.hid (B1.out.trans hb2)
  clear h2 hb2 HAR
  go_wp2_with fail
  go_loopw [9, 32] (fun dv iv wr => ∃ (i : Nat) (D : DSt) (v : Value), iv = .int .i64 i ∧ i ≤ m ∧ dv = .int .i64 ((doneN k i : Nat) : Int) ∧ Hid (Armed k i D) ∧ Hid (IsDisk w.heap.size wr p gl M v D) ∧ Hid (Below w.heap.size w wr)) (fun _ iv _ => m - (intOf iv).toNat)
  case atStart =>
    refine ⟨0, _, v, rfl, Nat.zero_le _, by rw [done_b (by omega)]; rfl, Lib.hid ⟨rfl, ?_, ?_, ?_⟩, D2, B2⟩
    · rw [done_b (by omega)]; rfl
    · rw [done_b (by omega)]; rfl
    · show (k : Int) = _
      by_cases h0 : 0 < k
      · rw [if_pos h0]; omega
      · rw [if_neg h0]; omega
  case round =>
    obtain ⟨i, D, v, rfl, hi, rfl, HAD, HD, HB⟩ := hrel
    by_cases hlt : i < m
    · have HI20 : Hid (i < 20) := Lib.hid (by have := HM20.out; omega)
      obtain ⟨q, hq⟩ : ∃ q, q = i % 4 := ⟨_, rfl⟩
      have hqi : (i : Int) % 4 = (q : Int) := by omega
      have hqt : (i : Int).tmod 4 = (q : Int) := by rw [Int.tmod_eq_emod_of_nonneg (by omega)]; exact hqi
      have hw1 : IntKind.i64.wrap ((i : Int) + 1) = (i : Int) + 1 := IntWalk.i64_in _ (by have := HI20.out; omega)
      have hw2 : IntKind.u8.wrap ((i : Int) + 1) = (i : Int) + 1 := by
        have := HI20.out
        have e : IntKind.u8.wrap ((i : Int) + 1) = ((i : Int) + 1) % 256 := by simp [IntKind.wrap, IntKind.bits, IntKind.signed]
        rw [e]; omega
      have HF : Hid (∀ W, Calls Try.prog 14 #[.int .u8 ((i : Int) + 1)] W fun e w' => e = .returned (.string (bs (secOf (i + 1)))) ∧ Below W.heap.size W w') := Lib.hid (fun W => law_Fill (i + 1) W (by have := HI20.out; omega))
      have hd : decide ((i : Int) < (m : Int)) = true := decide_eq_true (by omega)
      have SM := Lib.hid (armed_small HAD.out (Nat.le_of_lt HK20.out) (Nat.le_of_lt HI20.out))
      by_cases hik : i + 1 = k
      · obtain ⟨a1, a2⟩ := armed_bad HAD.out hik (secOf (i + 1)) (secOf_len _)
        rw [← hq] at a1 a2
        have A1 := Lib.hid a1
        have A2 := Lib.hid a2
        have hke : ((i : Int) + 1 == (k : Int)) = true := by rw [beq_iff_eq]; omega
        have HDN : Hid (doneN k (i + 1) = doneN k i) := Lib.hid (by rw [done_a (k := k) (i := i + 1) (by omega), done_b (k := k) (i := i) (by omega)]; omega)
        clear a1 a2 hq hik
        go_wp2_with fail
        refine (HF.out _).mono ?_
        rintro e w4 ⟨rfl, hb4⟩
        have D4 := Lib.hid (HD.out.keep hb4)
        have B4 := Lib.hid (HB.out.trans (hb4.mono HB.out.size))
        have HW := Lib.hid (disk_Write _ _ p gl M v _ (q : Int) (secOf (i + 1)) D4.out SM.out B4.out.size (by rw [secOf_len]; omega))
        rw [A1.out] at HW
        clear hb4
        go_wp2_with fail
        refine HW.out.mono ?_
        rintro e w5 ⟨rfl, v5, h5, hb5, _⟩
        have D5 := Lib.hid h5
        have B5 := Lib.hid (B4.out.trans hb5)
        clear h5 hb5 HW
        go_wp2_with fail
        go_roundw
        case rel => exact ⟨i + 1, _, v5, by go_num, by omega, by rw [HDN.out], A2, D5, B5⟩
        case measure => simp [intOf]; omega
      · obtain ⟨a1, a2⟩ := armed_ok HAD.out hik (secOf (i + 1)) (secOf_len _)
        rw [← hq] at a1 a2
        have A1 := Lib.hid a1
        have A2 := Lib.hid a2
        have hke : ((i : Int) + 1 == (k : Int)) = false := by rw [beq_eq_false_iff_ne]; omega
        have hdb : (doneN k i : Int) ≤ 20 := by have := HI20.out; have : doneN k i ≤ i := (by unfold doneN; split <;> omega); omega
        have hdw : IntKind.i64.wrap ((doneN k i : Int) + 1) = (doneN k i : Int) + 1 := IntWalk.i64_in _ (by omega)
        have HDN : Hid (doneN k (i + 1) = doneN k i + 1) := Lib.hid (by
          by_cases hk : 1 ≤ k ∧ k ≤ i
          · rw [done_a hk, done_a (by omega)]; omega
          · rw [done_b hk, done_b (by omega)])
        clear a1 a2 hq hik
        go_wp2_with fail
        refine (HF.out _).mono ?_
        rintro e w4 ⟨rfl, hb4⟩
        have D4 := Lib.hid (HD.out.keep hb4)
        have B4 := Lib.hid (HB.out.trans (hb4.mono HB.out.size))
        have HW := Lib.hid (disk_Write _ _ p gl M v _ (q : Int) (secOf (i + 1)) D4.out SM.out B4.out.size (by rw [secOf_len]; omega))
        rw [A1.out] at HW
        clear hb4
        go_wp2_with fail
        refine HW.out.mono ?_
        rintro e w5 ⟨rfl, v5, h5, hb5, _⟩
        have D5 := Lib.hid h5
        have B5 := Lib.hid (B4.out.trans hb5)
        clear h5 hb5 HW
        go_wp2_with fail
        go_roundw
        case rel => exact ⟨i + 1, _, v5, by go_num, by omega, by rw [HDN.out]; go_num, A2, D5, B5⟩
        case measure => simp [intOf]; omega
    · obtain rfl : m = i := by omega
      obtain ⟨q1, q2, q3, q4⟩ := HAD.out
      have HOP := Lib.hid (fun W h => disk_Ops _ W p gl M v D h : ∀ W, IsDisk w.heap.size W p gl M v D → Calls Try.prog 19 #[.pointer (some ⟨p, 0, none⟩)] W fun e w' => e = .returned (.int .i64 (D.ops : Int)) ∧ W = w')
      have HWT := Lib.hid (fun W h => disk_Waiting _ W p gl M v D h : ∀ W, IsDisk w.heap.size W p gl M v D → Calls Try.prog 16 #[.pointer (some ⟨p, 0, none⟩)] W fun e w' => e = .returned (.int .i64 (D.waits.length : Int)) ∧ W = w')
      rw [q3] at HOP
      rw [q2] at HWT
      clear q1 q2 q3 q4
      have hw1 : IntKind.i64.wrap ((m : Int) - 1) = (m : Int) - 1 := IntWalk.i64_in _ (by have := HM20.out; omega)
      have HC : Hid (k < 1 ∨ (1 ≤ k ∧ m < k) ∨ (1 ≤ k ∧ k ≤ m ∧ doneN k m = m - 1 ∧ 1 ≤ m)) := Lib.hid (by
        rcases Nat.lt_or_ge k 1 with h | h
        · exact .inl h
        · rcases Nat.lt_or_ge m k with h2 | h2
          · exact .inr (.inl ⟨h, h2⟩)
          · exact .inr (.inr ⟨h, h2, done_a ⟨h, h2⟩, by omega⟩))
      go_wp2_with fail
      refine (HA.out _).mono ?_
      rintro e w4 ⟨rfl, hb4⟩
      have D4 := Lib.hid (HD.out.keep hb4)
      have B4 := Lib.hid (HB.out.trans (hb4.mono HB.out.size))
      clear hb4
      go_wp2_with fail
      refine (HOP.out _ D4.out).mono ?_
      rintro e w5 ⟨rfl, rfl⟩
      go_wp2_with fail
      refine (HWT.out _ D4.out).mono ?_
      rintro e w6 ⟨rfl, rfl⟩
      rcases HC.out with h | ⟨h, h2⟩ | ⟨h, h2, h3, h4⟩
      · have e1 : decide ((k : Int) < 1) = true := decide_eq_true (by omega)
        clear h
        go_wp2_with fail
        all_goals go_ret
        all_goals exact ⟨rfl, B4.out⟩
      · have e1 : decide ((k : Int) < 1) = false := decide_eq_false (by omega)
        have e2 : decide ((m : Int) < (k : Int)) = true := decide_eq_true (by omega)
        have e4 : decide (m < k) = true := decide_eq_true h2
        have e5 : ¬ k < 1 := by omega
        clear h
        go_wp2_with fail
        all_goals go_ret
        all_goals first
          | exact ⟨rfl, B4.out⟩
          | exact ⟨ret_bool (by rw [e4, Bool.true_or]), B4.out⟩
      · have e1 : decide ((k : Int) < 1) = false := decide_eq_false (by omega)
        have e2 : decide ((m : Int) < (k : Int)) = false := decide_eq_false (by omega)
        have e4 : decide (m < k) = false := decide_eq_false (by omega)
        have e3 : ((doneN k m : Int) == (m : Int) - 1) = true := by rw [beq_iff_eq]; omega
        clear h h2 h3 h4
        go_wp2_with fail
        all_goals go_ret
        all_goals first
          | exact ⟨rfl, B4.out⟩
          | exact ⟨ret_bool (by rw [e3, Bool.or_true]), B4.out⟩

end Go.Proofs.Ytciophpplpmmfaa
