/- Contracts of coin's Decay, and of the document's. -/
import Derived.Test.YtcfjgllkpfkhfaaCoinB
namespace Go.Proofs.Ytcfjgllkpfkhfaa
open Go.RowKit

/-- What a decay answers. -/
def DeRet (s : ByteArray) (a u d : Nat) (w : World) (e : Ending) (w' : World) : Prop :=
  ∃ (B : Bool) (z c : Nat), deT s.data.toList a u d = (B, z, c) ∧ e = .returned (.tuple #[.bool B, .agg #[.string s, .int .i64 (z : Int)], .int .i64 (c : Int)]) ∧ Below w.heap.size w w'

theorem beT_code {l : List UInt8} {a n v z c : Nat} (ha : a ≤ 8 * l.length) (hn : n ≠ 0) (h : beT l a n = (v, z, c)) (hc : c ≠ 0) : c = 6 := by
  rcases beT_cases l a n ha with ⟨h0, _⟩ | ⟨_, _, e⟩ | ⟨v2, a2, _, _, e, _⟩
  · exact absurd h0 hn
  · rw [h] at e; injection e with _ e; injection e
  · rw [h] at e; injection e with _ e; injection e with _ e; exact absurd e hc

set_option maxHeartbeats 4000000 in
set_option maxRecDepth 100000 in
theorem coin_Decay (s : ByteArray) (a u d : Nat) (w : World) (hs : (s.size : Int) ≤ 1000000) (ha : a ≤ 8 * s.size) (hu : (u : Int) ≤ 18446744073709551615) (hd : (d : Int) ≤ 18446744073709551615) :
    Calls Try.prog 23 #[.agg #[.string s, .int .i64 (a : Int)], .int .u64 (u : Int), .int .u64 (d : Int)] w (DeRet s a u d w) := by
  by_cases h0 : d = 0
  · subst h0
    rw [show ((0 : Nat) : Int) = 0 from rfl]
    go_enter Try.func23, Try.ntmps23
    go_wp2_with fail
    go_region
    all_goals go_wp2_with fail
    all_goals refine bodyPost_ret (v := .tuple #[.bool false, .agg #[.string s, .int .i64 (a : Int)], .int .i64 3]) (by simp [results, Try.results23, go_sem]) rfl ⟨false, a, 3, deT_zero _ _ _, rfl, ?_⟩
    all_goals exact (((Below.refl _ _).alloc (Nat.le_refl _) _).alloc (hz1 _ _) _).drew
  · have h00 : ((d : Int) == 0) = false := beq_eq_false_iff_ne.2 (by omega)
    have HD0 : Hid (d ≠ 0) := Lib.hid h0
    by_cases h1 : d < u
    · have HR := Lib.hid (deT_range (l := s.data.toList) (a := a) (u := u) (d := d) h0 (.inl h1))
      have q1 : decide (d < u) = true := decide_eq_true h1
      clear h0
      go_enter Try.func23, Try.ntmps23
      go_wp2_with fail
      go_region
      all_goals go_wp2_with fail
      all_goals refine bodyPost_ret (v := .tuple #[.bool false, .agg #[.string s, .int .i64 (a : Int)], .int .i64 5]) (by simp [results, Try.results23, go_sem]) rfl ⟨false, a, 5, HR.out, rfl, ?_⟩
      all_goals exact (((Below.refl _ _).alloc (Nat.le_refl _) _).alloc (hz1 _ _) _).drew
    · have q1 : decide (d < u) = false := decide_eq_false h1
      by_cases h2 : 4294967296 ≤ d
      · have HR := Lib.hid (deT_range (l := s.data.toList) (a := a) (u := u) (d := d) h0 (.inr h2))
        have q2 : decide (4294967295 < (d : Int)) = true := decide_eq_true (by omega)
        clear h0 h1
        go_enter Try.func23, Try.ntmps23
        go_wp2_with fail
        go_region
        all_goals go_wp2_with fail
        all_goals refine bodyPost_ret (v := .tuple #[.bool false, .agg #[.string s, .int .i64 (a : Int)], .int .i64 5]) (by simp [results, Try.results23, go_sem]) rfl ⟨false, a, 5, HR.out, rfl, ?_⟩
        all_goals exact (((Below.refl _ _).alloc (Nat.le_refl _) _).alloc (hz1 _ _) _).drew
      · have q2 : decide (4294967295 < (d : Int)) = false := decide_eq_false (by omega)
        have HRG : Hid (¬ (d < u ∨ 4294967296 ≤ d)) := Lib.hid (by omega)
        have hd32 : (d : Int) ≤ 4294967295 := by omega
        have hud : (u : Int) ≤ (d : Int) := by omega
        obtain ⟨F, hF⟩ : ∃ F, F = decL s.data.toList u d (8 * s.data.toList.length + 2) 1 a := ⟨_, rfl⟩
        have HNONE : Hid (F = none → deT s.data.toList a u d = (false, a, 6)) := Lib.hid (fun h => deT_none HD0.out HRG.out (by rw [← hF]; exact h))
        have HSOME : Hid (∀ B z, F = some (B, z) → deT s.data.toList a u d = (B, z, 0)) := Lib.hid (fun B z h => deT_some HD0.out HRG.out (by rw [← hF]; exact h))
        have HF := Lib.hid hF
        have HCH := Lib.hid (fun W => coin_Chance s a u d W hs ha hu hd)
        have X0 := Lib.hid ((TBox.new 25 w s a).alloc (.cells #[.string ⟨#[]⟩, .int .i64 0] 25))
        have Y0 := TBox.new 25 (w.alloc (.cells #[.string s, .int .i64 (a : Int)] 25)) ⟨#[]⟩ 0
        rw [show (w.alloc (.cells #[.string s, .int .i64 (a : Int)] 25)).heap.size = w.heap.size + 1 from by simp] at Y0
        have Y0 := Lib.hid Y0
        have B0 := Lib.hid (((Below.refl w.heap.size w).alloc (Nat.le_refl _) (.cells #[.string s, .int .i64 (a : Int)] 25)).alloc (hz1 _ _) (.cells #[.string ⟨#[]⟩, .int .i64 0] 25))
        clear h0 h1 h2 hF
        go_enter Try.func23, Try.ntmps23
        go_wp2_with fail
        refine (HCH.out _).mono ?_
        rintro e w1 ⟨v1, z1, c1, B1, hbe, hBB, rfl, hb1⟩
        have HBE := Lib.hid hbe
        have HBB := Lib.hid hBB
        have X1 := Lib.hid ((X0.out.keep hb1).alloc (.cells #[.string s, .int .i64 (z1 : Int)] 25))
        have Y1 := Lib.hid ((Y0.out.keep hb1).alloc (.cells #[.string s, .int .i64 (z1 : Int)] 25))
        have Z1 := Lib.hid (TBox.new 25 w1 s z1)
        have BW1 := Lib.hid (below_alloc (keepB B0.out hb1) (.cells #[.string s, .int .i64 (z1 : Int)] 25))
        have G1 : Hid (w.heap.size + 1 < w1.heap.size) := Lib.hid (Y0.out.keep hb1).lt
        have hg1 := G1.out
        clear hbe hBB hb1 X0 Y0 B0 HCH
        go_wp2_with fail
        go_loopw [9, 10, 12] (fun kv bv cv wr => ∃ (k f x v z c : Nat) (B : Bool), kv = .int .u64 (k : Int) ∧ bv = .bool B ∧ cv = .int .i64 (c : Int) ∧ Hid (beT s.data.toList x (d * k) = (v, z, c)) ∧ Hid (B = true ↔ c = 0 ∧ v < u) ∧ Hid (decL s.data.toList u d f k x = F) ∧ Hid (k + f = 8 * s.size + 3) ∧
            Hid (k ≤ x + 2) ∧ Hid (x ≤ 8 * s.size) ∧ Hid (1 ≤ k) ∧ TBox 25 wr w.heap.size s a ∧ TBox 25 wr (w.heap.size + 1) ⟨#[]⟩ 0 ∧ TBox 25 wr w1.heap.size s z ∧ Below w.heap.size w wr) (fun kv _ _ _ => 8 * s.size + 10 - (intOf kv).toNat)
        case atStart => exact ⟨1, 8 * s.size + 2, a, v1, z1, c1, B1, rfl, rfl, rfl, Lib.hid (by rw [Nat.mul_one]; exact HBE.out), HBB, Lib.hid (by rw [HF.out, dlen]), Lib.hid (by omega), Lib.hid (by omega), Lib.hid ha, Lib.hid (Nat.le_refl _), X1.out, Y1.out, Z1.out, BW1.out⟩
        case round =>
          clear X1 Y1 Z1 BW1 HBE HBB
          obtain ⟨k, f, x, v, z, c, B, rfl, rfl, rfl, HE, HI, HL, HKF, HKX, HX, HK1, X, Y, Z, hB⟩ := hrel
          have XS := Lib.hid X
          have YS := Lib.hid Y
          have ZS := Lib.hid Z
          have BS := Lib.hid hB
          obtain ⟨a0, a1⟩ := X.cells
          obtain ⟨b0, b1⟩ := Y.cells
          obtain ⟨c0, c1⟩ := Z.cells
          obtain ⟨f0, f1⟩ := Y.fz
          obtain ⟨e0, e1⟩ := Z.fz
          clear X Y Z hB
          obtain ⟨f', rfl⟩ : ∃ f', f = f' + 1 := ⟨f - 1, by have := HKF.out; have := HKX.out; have := HX.out; omega⟩
          cases B with
          | true =>
            have hcv := HI.out.1 rfl
            obtain ⟨hc0, hvu⟩ := hcv
            have hE0 : beT s.data.toList x (d * k) = (v, z, 0) := by rw [← hc0]; exact HE.out
            have hroom := decL_room (by rw [dlen]; exact HX.out) HKX.out HK1.out (Nat.pos_of_ne_zero HD0.out) hE0
            have HL' : Hid (decL s.data.toList u d f' (k + 1) z = F) := Lib.hid (by rw [← decL_next hE0 hvu]; exact HL.out)
            obtain ⟨D, hDD⟩ : ∃ D, D = d * (k + 1) := ⟨_, rfl⟩
            have hk8 : k + 1 ≤ 8000003 := by have := HKX.out; have := HX.out; omega
            have hDb : D ≤ 40000000000000000 := by rw [hDD]; exact Nat.le_trans (Nat.mul_le_mul (show d ≤ 4294967295 by omega) hk8) (by decide)
            have hz8 : z ≤ 8 * s.size := by have := hroom.2; rw [dlen] at this; exact this
            have HCH := Lib.hid (fun W => coin_Chance s z u D W hs hz8 hu (by omega))
            have HZ := Lib.hid hz8
            have HKZ : Hid (k + 1 ≤ z + 2) := Lib.hid hroom.1
            have HKF' : Hid (k + 1 + f' = 8 * s.size + 3) := Lib.hid (by have := HKF.out; omega)
            have HDD := Lib.hid hDD
            have hkk : (k : Int) ≤ 8000003 := by omega
            have HKN : Hid (k ≤ 8 * s.size + 2) := Lib.hid (by have := HKX.out; have := HX.out; omega)
            have hmul : IntKind.u64.wrap ((d : Int) * ((k : Int) + 1)) = (D : Int) := by
              rw [show (d : Int) * ((k : Int) + 1) = (D : Int) from by rw [hDD]; push_cast; rfl, IntWalk.u64_in _ (by omega)]
            have hk1 : IntKind.u64.wrap ((k : Int) + 1) = (k : Int) + 1 := IntWalk.u64_in _ (by omega)
            clear hc0 hvu hE0 hroom hDD hDb hz8 hk8
            go_wp2_with fail
            refine (HCH.out _).mono ?_
            rintro e w2 ⟨v2, z2, c2, B2, hbe, hBB, rfl, hb2⟩
            have HE2 : Hid (beT s.data.toList z (d * (k + 1)) = (v2, z2, c2)) := Lib.hid (by rw [← HDD.out]; exact hbe)
            have HI2 := Lib.hid hBB
            have X2 := Lib.hid (XS.out.keep hb2)
            have Y2 := Lib.hid (YS.out.keep hb2)
            have Z2 := Lib.hid (ZS.out.keep hb2)
            have BW2 := Lib.hid (keepB BS.out hb2)
            clear hbe hBB hb2 XS YS ZS BS a0 a1 b0 b1 c0 c1 f0 f1 e0 e1
            obtain ⟨c0, c1⟩ := Z2.out.cells
            obtain ⟨e0, e1⟩ := Z2.out.fz
            go_wp2_with fail
            go_roundw
            case rel => exact ⟨k + 1, f', z, v2, z2, c2, B2, by go_num, rfl, rfl, HE2, HI2, HL', HKF', HKZ, HZ, Lib.hid (by omega), (X2.out.far (by have := G1.out; simp; omega) _).far (by have := G1.out; simp; omega) _, (Y2.out.far (by have := G1.out; simp; omega) _).far (by have := G1.out; simp; omega) _, Z2.out.store z2, Below.put2 BW2.out (by have := G1.out; omega) _ _⟩
            case measure => have := HKN.out; simp [intOf]; omega
          | false =>
            have hnot : ¬ (c = 0 ∧ v < u) := fun h => by have := HI.out.2 h; cases this
            by_cases hc : c = 0
            · have hE0 : beT s.data.toList x (d * k) = (v, z, 0) := by rw [← hc]; exact HE.out
              have HR := Lib.hid (HSOME.out _ _ (HL.out.symm.trans (decL_some hE0 (by omega))))
              obtain ⟨P, hP⟩ : ∃ P, P = decide (k % 2 = 1) := ⟨_, rfl⟩
              rw [← hP] at HR
              have hp1 : ((k : Int) % 2 == 1) = P := by rw [hP, Bool.eq_iff_iff]; simp; omega
              have hc1 : ((c : Int) == 0) = true := by rw [hc]; rfl
              have hc2 : ((c : Int) != 0) = false := by rw [hc]; rfl
              clear hnot hc hE0 hP HNONE HSOME
              go_wp2_with fail
              go_region
              all_goals go_wp2_with fail
              all_goals refine bodyPost_ret (v := .tuple #[.bool P, .agg #[.string s, .int .i64 (z : Int)], .int .i64 0]) (by simp [results, Try.results23, go_sem, b0, b1]) rfl ⟨P, z, 0, HR.out, rfl, ?_⟩
              all_goals exact Below.drew (Below.put2 BS.out (Nat.le_succ _) _ _)
            · have hdk : d * k ≠ 0 := Nat.mul_ne_zero HD0.out (by have := HK1.out; omega)
              have hc6 := beT_code (by rw [dlen]; exact HX.out) hdk HE.out hc
              have HR := Lib.hid (HNONE.out (HL.out.symm.trans (decL_none (by rw [HE.out]; exact hc))))
              subst hc6
              clear hnot hc hdk HNONE HSOME
              go_wp2_with fail
              go_region
              all_goals go_wp2_with fail
              all_goals refine bodyPost_ret (v := .tuple #[.bool false, .agg #[.string s, .int .i64 (a : Int)], .int .i64 6]) (by simp [results, Try.results23, go_sem, b0, b1]) rfl ⟨false, a, 6, HR.out, rfl, ?_⟩
              all_goals exact Below.drew (Below.put2 BS.out (Nat.le_succ _) _ _)
end Go.Proofs.Ytcfjgllkpfkhfaa
