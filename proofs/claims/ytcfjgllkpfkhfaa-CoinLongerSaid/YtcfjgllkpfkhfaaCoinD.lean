/- Contracts of the document's Decay, and of the coins' statements' Awake. -/
import Derived.Test.YtcfjgllkpfkhfaaCoinC
namespace Go.Proofs.Ytcfjgllkpfkhfaa
open Go.RowKit

set_option maxHeartbeats 4000000 in
set_option maxRecDepth 100000 in
theorem rcoin_Decay (s : ByteArray) (a u d : Nat) (w : World) (hs : (s.size : Int) ≤ 1000000) (ha : a ≤ 8 * s.size) (_hu : (u : Int) ≤ 18446744073709551615) (hd : (d : Int) ≤ 18446744073709551615) :
    Calls Try.prog 24 #[.agg #[.string s, .int .i64 (a : Int)], .int .u64 (u : Int), .int .u64 (d : Int)] w (DeRet s a u d w) := by
  by_cases h0 : d = 0
  · subst h0
    rw [show ((0 : Nat) : Int) = 0 from rfl]
    go_enter Try.func24, Try.ntmps24
    go_wp2_with fail
    go_region
    all_goals go_wp2_with fail
    all_goals refine bodyPost_ret (v := .tuple #[.bool false, .agg #[.string s, .int .i64 (a : Int)], .int .i64 3]) (by simp [results, Try.results24, go_sem]) rfl ⟨false, a, 3, deT_zero _ _ _, rfl, ?_⟩
    all_goals exact (((Below.refl _ _).alloc (Nat.le_refl _) _).alloc (hz1 _ _) _).drew
  · have h00 : ((d : Int) == 0) = false := beq_eq_false_iff_ne.2 (by omega)
    have HD0 : Hid (d ≠ 0) := Lib.hid h0
    by_cases h1 : d < u
    · have HR := Lib.hid (deT_range (l := s.data.toList) (a := a) (u := u) (d := d) h0 (.inl h1))
      have q1 : decide (d < u) = true := decide_eq_true h1
      clear h0
      go_enter Try.func24, Try.ntmps24
      go_wp2_with fail
      go_region
      all_goals go_wp2_with fail
      all_goals refine bodyPost_ret (v := .tuple #[.bool false, .agg #[.string s, .int .i64 (a : Int)], .int .i64 5]) (by simp [results, Try.results24, go_sem]) rfl ⟨false, a, 5, HR.out, rfl, ?_⟩
      all_goals exact (((Below.refl _ _).alloc (Nat.le_refl _) _).alloc (hz1 _ _) _).drew
    · have q1 : decide (d < u) = false := decide_eq_false h1
      by_cases h2 : 4294967296 ≤ d
      · have HR := Lib.hid (deT_range (l := s.data.toList) (a := a) (u := u) (d := d) h0 (.inr h2))
        have q2 : decide (4294967296 ≤ (d : Int)) = true := decide_eq_true (by omega)
        clear h0 h1
        go_enter Try.func24, Try.ntmps24
        go_wp2_with fail
        go_region
        all_goals go_wp2_with fail
        all_goals refine bodyPost_ret (v := .tuple #[.bool false, .agg #[.string s, .int .i64 (a : Int)], .int .i64 5]) (by simp [results, Try.results24, go_sem]) rfl ⟨false, a, 5, HR.out, rfl, ?_⟩
        all_goals exact (((Below.refl _ _).alloc (Nat.le_refl _) _).alloc (hz1 _ _) _).drew
      · have q2 : decide (4294967296 ≤ (d : Int)) = false := decide_eq_false (by omega)
        have HRG : Hid (¬ (d < u ∨ 4294967296 ≤ d)) := Lib.hid (by omega)
        have hd32 : (d : Int) ≤ 4294967295 := by omega
        have hud : (u : Int) ≤ (d : Int) := by omega
        obtain ⟨F, hF⟩ : ∃ F, F = decL s.data.toList u d (8 * s.data.toList.length + 2) 1 a := ⟨_, rfl⟩
        have HNONE : Hid (F = none → deT s.data.toList a u d = (false, a, 6)) := Lib.hid (fun h => deT_none HD0.out HRG.out (by rw [← hF]; exact h))
        have HSOME : Hid (∀ B z, F = some (B, z) → deT s.data.toList a u d = (B, z, 0)) := Lib.hid (fun B z h => deT_some HD0.out HRG.out (by rw [← hF]; exact h))
        have HF := Lib.hid hF
        have hm8 : IntKind.i64.wrap (8 * (s.size : Int)) = 8 * (s.size : Int) := IntWalk.i64_in _ (by omega)
        have hm82 : IntKind.i64.wrap (8 * (s.size : Int) + 2) = 8 * (s.size : Int) + 2 := IntWalk.i64_in _ (by omega)
        clear h0 h1 h2 hF
        go_enter Try.func24, Try.ntmps24
        go_wp2_with fail
        go_loopw [10] (fun kv wr => ∃ (k f x : Nat), kv = .int .i64 (k : Int) ∧ Hid (decL s.data.toList u d f k x = F) ∧ Hid (k + f = 8 * s.size + 3) ∧
            Hid (k ≤ x + 2) ∧ Hid (x ≤ 8 * s.size) ∧ Hid (1 ≤ k) ∧ TBox 28 wr w.heap.size s a ∧ TBox 28 wr (w.heap.size + 1) ⟨#[]⟩ 0 ∧ TBox 28 wr (w.heap.size + 1 + 1) s x ∧ Below w.heap.size w wr) (fun kv _ => 8 * s.size + 10 - (intOf kv).toNat)
        case atStart =>
          have Y0 := TBox.new 28 (w.alloc (.cells #[.string s, .int .i64 (a : Int)] 28)) ⟨#[]⟩ 0
          rw [show (w.alloc (.cells #[.string s, .int .i64 (a : Int)] 28)).heap.size = w.heap.size + 1 from by simp] at Y0
          have Z0 := TBox.new 28 ((w.alloc (.cells #[.string s, .int .i64 (a : Int)] 28)).alloc (.cells #[.string ⟨#[]⟩, .int .i64 0] 28)) s a
          rw [show ((w.alloc (.cells #[.string s, .int .i64 (a : Int)] 28)).alloc (.cells #[.string ⟨#[]⟩, .int .i64 0] 28)).heap.size = w.heap.size + 1 + 1 from by simp] at Z0
          refine ⟨1, 8 * s.size + 2, a, rfl, Lib.hid (by rw [HF.out, dlen]), Lib.hid (by omega), Lib.hid (by omega), Lib.hid ha, Lib.hid (Nat.le_refl _), ?_, ?_, ?_, ?_⟩
          · exact ((TBox.new 28 w s a).alloc _).alloc _
          · exact Y0.alloc _
          · exact Z0
          · exact ((((Below.refl _ _).alloc (Nat.le_refl _) _).alloc (hz1 _ _) _).alloc (Nat.le_trans (hz1 _ _) (hz1 _ _)) _)
        case round =>
          obtain ⟨k, f, x, rfl, HL, HKF, HKX, HX, HK1, X, Y, Z, hB⟩ := hrel
          have XS := Lib.hid X
          have YS := Lib.hid Y
          have ZS := Lib.hid Z
          have BS := Lib.hid hB
          obtain ⟨a0, a1⟩ := X.cells
          obtain ⟨c0, c1⟩ := Z.cells
          clear X Y Z hB
          obtain ⟨f', rfl⟩ : ∃ f', f = f' + 1 := ⟨f - 1, by have := HKF.out; have := HKX.out; have := HX.out; omega⟩
          obtain ⟨D, hDD⟩ : ∃ D, D = d * k := ⟨_, rfl⟩
          have hk8 : k ≤ 8000003 := by have := HKX.out; have := HX.out; omega
          have hDb : D ≤ 40000000000000000 := by rw [hDD]; exact Nat.le_trans (Nat.mul_le_mul (show d ≤ 4294967295 by omega) hk8) (by decide)
          have HBW := Lib.hid (fun W => rcoin_Below s x D W hs HX.out (by omega))
          have hkk : (k : Int) ≤ 8000003 := by omega
          have hkN : (k : Int) ≤ 8 * (s.size : Int) + 2 := by have := HKX.out; have := HX.out; omega
          have hkw : IntKind.u64.wrap (k : Int) = (k : Int) := IntWalk.u64_in _ (by omega)
          have hmul : IntKind.u64.wrap ((d : Int) * (k : Int)) = (D : Int) := by
            rw [show (d : Int) * (k : Int) = (D : Int) from by rw [hDD]; push_cast; rfl, IntWalk.u64_in _ (by omega)]
          have HDD := Lib.hid hDD
          clear hDD hDb hk8
          go_wp2_with fail
          refine (HBW.out _).mono ?_
          rintro e w2 ⟨v, z, c, hbe, rfl, hb2⟩
          have HE : Hid (beT s.data.toList x (d * k) = (v, z, c)) := Lib.hid (by rw [← HDD.out]; exact hbe)
          have X2 := Lib.hid (XS.out.keep hb2)
          have Y2 := Lib.hid (YS.out.keep hb2)
          have Z2 := Lib.hid (ZS.out.keep hb2)
          have BW2 := Lib.hid (keepB BS.out hb2)
          clear hbe hb2 XS YS ZS BS a0 a1 c0 c1 hmul hkw
          obtain ⟨a0, a1⟩ := X2.out.cells
          obtain ⟨b0, b1⟩ := Y2.out.cells
          obtain ⟨c0, c1⟩ := Z2.out.cells
          obtain ⟨f0, f1⟩ := Y2.out.fz
          obtain ⟨e0, e1⟩ := Z2.out.fz
          have hsx := Z2.out.lt
          have hsy := Y2.out.lt
          have hsw := X2.out.lt
          by_cases hc : c = 0
          · have hE0 : beT s.data.toList x (d * k) = (v, z, 0) := by rw [← hc]; exact HE.out
            have hc1 : ((c : Int) == 0) = true := by rw [hc]; rfl
            have hc2 : ((c : Int) != 0) = false := by rw [hc]; rfl
            by_cases hvu : v < u
            · have hroom := decL_room (by rw [dlen]; exact HX.out) HKX.out HK1.out (Nat.pos_of_ne_zero HD0.out) hE0
              have HL' : Hid (decL s.data.toList u d f' (k + 1) z = F) := Lib.hid (by rw [← decL_next hE0 hvu]; exact HL.out)
              have HZ : Hid (z ≤ 8 * s.size) := Lib.hid (by have := hroom.2; rw [dlen] at this; exact this)
              have HKZ : Hid (k + 1 ≤ z + 2) := Lib.hid hroom.1
              have HKF' : Hid (k + 1 + f' = 8 * s.size + 3) := Lib.hid (by have := HKF.out; omega)
              have hvi : ¬ ((u : Int) ≤ (v : Int)) := by omega
              clear hc hE0 hroom
              go_wp2_with fail
              go_roundw
              case rel => exact ⟨k + 1, f', z, by go_num, HL', HKF', HKZ, HZ, Lib.hid (by omega), ((X2.out.far (by simp; omega) _).far (by simp; omega) _).alloc _, ((Y2.out.far (by simp) _).far (by simp) _).alloc _, (Z2.out.store z).alloc _, below_alloc (Below.put2 BW2.out (by omega) _ _) _⟩
              case measure => simp [intOf]; omega
            · have HR := Lib.hid (HSOME.out _ _ (HL.out.symm.trans (decL_some hE0 (by omega))))
              obtain ⟨P, hP⟩ : ∃ P, P = decide (k % 2 = 1) := ⟨_, rfl⟩
              rw [← hP] at HR
              have hp1 : ((k : Int) % 2 == 1) = P := by rw [hP, Bool.eq_iff_iff]; simp; omega
              have hvi : (u : Int) ≤ (v : Int) := by omega
              clear hc hE0 hP HNONE HSOME
              go_wp2_with fail
              go_region
              all_goals go_wp2_with fail
              all_goals refine bodyPost_ret (v := .tuple #[.bool P, .agg #[.string s, .int .i64 (z : Int)], .int .i64 0]) (by simp [results, Try.results24, go_sem, b0, b1, hsy]) rfl ⟨P, z, 0, HR.out, rfl, ?_⟩
              all_goals exact Below.drew (below_alloc (Below.put2 (Below.put2 BW2.out (by omega) _ _) (Nat.le_succ _) _ _) _)
          · have hdk : d * k ≠ 0 := Nat.mul_ne_zero HD0.out (by have := HK1.out; omega)
            have hc6 := beT_code (by rw [dlen]; exact HX.out) hdk HE.out hc
            have HR := Lib.hid (HNONE.out (HL.out.symm.trans (decL_none (by rw [HE.out]; exact hc))))
            subst hc6
            clear hc hdk HNONE HSOME
            go_wp2_with fail
            go_region
            all_goals go_wp2_with fail
            all_goals refine bodyPost_ret (v := .tuple #[.bool false, .agg #[.string s, .int .i64 (a : Int)], .int .i64 6]) (by simp [results, Try.results24, go_sem, b0, b1, hsy]) rfl ⟨false, a, 6, HR.out, rfl, ?_⟩
            all_goals exact Below.drew (below_alloc (Below.put2 BW2.out (Nat.le_succ _) _ _) _)

theorem awake8 (W : World) : Calls Try.prog 20 #[.agg #[.string ⟨#[96]⟩, .int .i64 0], .int .u64 3] W fun e w' =>
    e = .returned (.tuple #[.int .u64 1, .agg #[.string ⟨#[96]⟩, .int .i64 2], .int .i64 0]) ∧ Below W.heap.size W w' := by
  refine (coin_Below ⟨#[96]⟩ 0 3 W (by decide) (by decide) (by decide)).mono ?_
  rintro e w' ⟨v, z, c, hr, he, hb⟩
  have h4 := hr.symm.trans (show beT [96] 0 3 = (1, 2, 0) from by decide)
  injection h4 with e1 e2
  injection e2 with e2 e3
  subst e1 e2 e3
  exact ⟨he, hb⟩

set_option maxHeartbeats 2000000 in
set_option maxRecDepth 100000 in
theorem law8_Awake (w : World) : Calls Try.prog 19 #[] w fun e w' => e = .returned (.bool true) ∧ Below w.heap.size w w' := by
  have HA := Lib.hid (fun W => tape_At ⟨#[96]⟩ 2 W)
  go_enter Try.func19, Try.ntmps19
  go_wp2_with fail
  refine (tape_New ⟨#[96]⟩ _).mono ?_
  rintro e w1 ⟨rfl, hb1⟩
  have B1 := Lib.hid hb1
  clear hb1
  go_wp2_with fail
  refine (awake8 _).mono ?_
  rintro e w2 ⟨rfl, hb2⟩
  have B2 := Lib.hid (below_alloc (keepB B1.out hb2) (.cells #[.string ⟨#[96]⟩, .int .i64 2] 25))
  have X2 := Lib.hid (TBox.new 25 w2 ⟨#[96]⟩ 2)
  clear hb2 B1
  go_wp2_with fail
  refine (law7_Awake _).mono ?_
  rintro e w3 ⟨rfl, hb3⟩
  have B3 := Lib.hid (keepB B2.out hb3)
  have X3 := Lib.hid (X2.out.keep hb3)
  obtain ⟨c0, c1⟩ := X3.out.cells
  clear hb3 B2 X2
  go_wp2_with fail
  refine (HA.out _).mono ?_
  rintro e w4 ⟨rfl, hb4⟩
  have B4 := Lib.hid (keepB B3.out hb4)
  clear hb4 B3
  go_wp2_with fail
  go_ret
  exact ⟨rfl, B4.out⟩
end Go.Proofs.Ytcfjgllkpfkhfaa
