/- Contracts of the document's answers for coins: Below. -/
import Derived.Test.YtcfjgllkpfkhfaaCoinA
namespace Go.Proofs.Ytcfjgllkpfkhfaa
open Go.RowKit

theorem below_alloc {w w' : World} (h : Below w.heap.size w w') (o : Obj) : Below w.heap.size w (w'.alloc o) := h.alloc h.size o

set_option maxHeartbeats 4000000 in
set_option maxRecDepth 100000 in
theorem rcoin_Below (s : ByteArray) (a n : Nat) (w : World) (hs : (s.size : Int) ≤ 1000000) (ha : a ≤ 8 * s.size) (hn : (n : Int) ≤ 18446744073709551615) :
    Calls Try.prog 21 #[.agg #[.string s, .int .i64 (a : Int)], .int .u64 (n : Int)] w (BeRet s a n w) := by
  by_cases h0 : n = 0
  · subst h0
    rw [show ((0 : Nat) : Int) = 0 from rfl]
    go_enter Try.func21, Try.ntmps21
    go_wp2_with fail
    go_region
    all_goals go_wp2_with fail
    all_goals refine bodyPost_ret (v := .tuple #[.int .u64 0, .agg #[.string s, .int .i64 (a : Int)], .int .i64 3]) (by simp [results, Try.results21, go_sem]) rfl ⟨0, a, 3, beT_zero _ _, rfl, ?_⟩
    all_goals exact (((Below.refl _ _).alloc (Nat.le_refl _) _).alloc (hz1 _ _) _).drew
  · obtain ⟨n1, hn1⟩ : ∃ n1, n = n1 + 1 := ⟨n - 1, by omega⟩
    obtain ⟨b, hb⟩ : ∃ b, b = wid n := ⟨_, rfl⟩
    have hb64 : b ≤ 64 := by rw [hb]; exact wid_le (by omega)
    have HBL : Hid (b = bl n1) := Lib.hid (by rw [hb, hn1]; rfl)
    have hnw : IntKind.u64.wrap ((n : Int) - 1) = (n1 : Int) := by rw [IntWalk.u64_in _ (by omega)]; omega
    have hn1b : (n1 : Int) ≤ 18446744073709551614 := by omega
    have HB := Lib.hid hb
    have HBP : Hid (b = 0 → n = 1) := Lib.hid (by
      intro e
      have : ¬ 1 < n := fun h => by have := wid_pos h; omega
      omega)
    have h00 : ((n : Int) == 0) = false := beq_eq_false_iff_ne.2 (by omega)
    have HN0 : Hid (n ≠ 0) := Lib.hid (by omega)
    have hm8 : IntKind.i64.wrap (8 * (s.size : Int)) = 8 * (s.size : Int) := IntWalk.i64_in _ (by omega)
    obtain ⟨F, hF⟩ : ∃ F, F = belL s.data.toList n b (8 * s.data.toList.length + 1) a := ⟨_, rfl⟩
    have HNONE : Hid (F = none → beT s.data.toList a n = (0, a, 6)) := Lib.hid (fun h => beT_none HN0.out (by rw [← HB.out, ← hF]; exact h))
    have HSOME : Hid (∀ v z, F = some (v, z) → beT s.data.toList a n = (v, z, 0)) := Lib.hid (fun v z h => beT_some HN0.out (by rw [← HB.out, ← hF]; exact h))
    have HF := Lib.hid hF
    clear hb h0 hF hn1
    go_enter Try.func21, Try.ntmps21
    go_wp2_with fail
    go_loop [7, 8] (fun bv mv => ∃ j m : Nat, bv = .int .i64 (j : Int) ∧ mv = .int .u64 (m : Int) ∧ (m : Int) ≤ 18446744073709551614 ∧ Hid (j + bl m = b)) (fun _ mv => (intOf mv).toNat)
    case atStart => exact ⟨0, n1, rfl, rfl, hn1b, Lib.hid (by rw [HBL.out]; omega)⟩
    case round =>
      obtain ⟨j, m, rfl, rfl, hm, HJ⟩ := hrel
      by_cases hm0 : 0 < m
      · have HJ' : Hid (j + 1 + bl (m / 2) = b) := Lib.hid (by have := HJ.out; rw [bl_halves (by omega)] at this; omega)
        have hj64 : j ≤ 64 := by have := HJ.out; omega
        go_wp2_with fail
        go_round
        case rel => exact ⟨j + 1, m / 2, by go_num, by go_num, by omega, HJ'⟩
        case measure => simp [intOf]; omega
      · have hm00 : m = 0 := by omega
        subst hm00
        have hjb : j = b := by have := HJ.out; rw [show bl 0 = 0 from rfl] at this; omega
        subst hjb
        have hjm := HJ
        clear HJ hm hm0 hjm
        go_wp2_with fail
        go_loopw [10] (fun iv wr => ∃ i f x : Nat, iv = .int .i64 (i : Int) ∧ Hid (i + f = 8 * s.size + 1) ∧ Hid (x ≤ 8 * s.size) ∧ Hid (8 * s.size + 1 ≤ f + x) ∧ Hid (belL s.data.toList n j f x = F) ∧ TBox 28 wr w.heap.size s a ∧ TBox 28 wr (w.heap.size + 1) ⟨#[]⟩ 0 ∧ TBox 28 wr (w.heap.size + 1 + 1) s x ∧ Below w.heap.size w wr)
          (fun iv _ => 8 * s.size + 1 - (intOf iv).toNat)
        case atStart =>
          have Y0 := TBox.new 28 (w.alloc (.cells #[.string s, .int .i64 (a : Int)] 28)) ⟨#[]⟩ 0
          rw [show (w.alloc (.cells #[.string s, .int .i64 (a : Int)] 28)).heap.size = w.heap.size + 1 from by simp] at Y0
          have Z0 := TBox.new 28 ((w.alloc (.cells #[.string s, .int .i64 (a : Int)] 28)).alloc (.cells #[.string ⟨#[]⟩, .int .i64 0] 28)) s a
          rw [show ((w.alloc (.cells #[.string s, .int .i64 (a : Int)] 28)).alloc (.cells #[.string ⟨#[]⟩, .int .i64 0] 28)).heap.size = w.heap.size + 1 + 1 from by simp] at Z0
          refine ⟨0, 8 * s.size + 1, a, rfl, Lib.hid (by omega), Lib.hid ha, Lib.hid (by omega), Lib.hid (by rw [HF.out, dlen]), ?_, ?_, ?_, ?_⟩
          · exact ((TBox.new 28 w s a).alloc _).alloc _
          · exact Y0.alloc _
          · exact Z0
          · exact ((((Below.refl _ _).alloc (Nat.le_refl _) _).alloc (hz1 _ _) _).alloc (Nat.le_trans (hz1 _ _) (hz1 _ _)) _)
        case round =>
          obtain ⟨i, f, x, rfl, HI, HX, HFX, HBL2, X, Y, Z, hB⟩ := hrel
          have XS := Lib.hid X
          have YS := Lib.hid Y
          have ZS := Lib.hid Z
          have BS := Lib.hid hB
          obtain ⟨c0, c1⟩ := Z.cells
          obtain ⟨b0, b1⟩ := X.cells
          clear X Y Z hB
          obtain ⟨f', rfl⟩ : ∃ f', f = f' + 1 := ⟨f - 1, by have := HX.out; have := HFX.out; omega⟩
          have hi8 : (i : Int) ≤ 8 * (s.size : Int) := by have := HI.out; omega
          by_cases hfew : 8 * s.size < x + j
          · have HT := Lib.hid (fun W => rtape_Read_short s x j W hs hb64 HX.out hfew)
            have HR := Lib.hid (HNONE.out (HBL2.out.symm.trans (belL_none _ _ _ _ _ (by rw [dlen]; exact hfew))))
            clear hfew HNONE HSOME
            go_wp2_with fail
            refine (HT.out _).mono ?_
            rintro e w1 ⟨rfl, hb1⟩
            have X1 := Lib.hid (XS.out.keep hb1)
            have Y1 := Lib.hid (YS.out.keep hb1)
            have B1 := Lib.hid (keepB BS.out hb1)
            obtain ⟨g0, g1⟩ := X1.out.cells
            obtain ⟨h0, h1⟩ := Y1.out.cells
            obtain ⟨i0, i1⟩ := Y1.out.fz
            have hsz := Y1.out.lt
            have hsx := X1.out.lt
            clear hb1 XS YS ZS BS c0 c1 b0 b1
            go_wp2_with fail
            go_region
            all_goals go_wp2_with fail
            all_goals refine bodyPost_ret (v := .tuple #[.int .u64 0, .agg #[.string s, .int .i64 (a : Int)], .int .i64 6]) (by simp [results, Try.results21, go_sem, h0, h1, hsz]) rfl ⟨0, a, 6, HR.out, rfl, ?_⟩
            all_goals first | exact Below.drew ((Below.put2 B1.out (Nat.le_succ _) _ _).alloc (hz2 B1.out) _) | exact Below.drew (Below.put2 (B1.out.alloc B1.out.size _) (Nat.le_succ _) _ _)
          · obtain ⟨v, hv⟩ : ∃ v, v = numL s.data.toList x j := ⟨_, rfl⟩
            obtain ⟨z, hz⟩ : ∃ z, z = x + j := ⟨_, rfl⟩
            have HT := Lib.hid (fun W => rtape_Read_ok s x j v z W hs hb64 (by omega) (Lib.hid hv) (Lib.hid hz))
            by_cases hlt : v < n
            · have HR := Lib.hid (HSOME.out v z (HBL2.out.symm.trans (by rw [hv, hz]; exact belL_some _ _ _ _ _ (by rw [dlen]; omega) (by rw [← hv]; exact hlt))))
              clear hfew HNONE HSOME hv hz
              go_wp2_with fail
              refine (HT.out _).mono ?_
              rintro e w1 ⟨rfl, hb1⟩
              have Y1 := Lib.hid (YS.out.keep hb1)
              have Z1 := Lib.hid (ZS.out.keep hb1)
              have B1 := Lib.hid (keepB BS.out hb1)
              obtain ⟨d0, d1⟩ := Z1.out.cells
              obtain ⟨f0, f1⟩ := Z1.out.fz
              obtain ⟨h0, h1⟩ := Y1.out.cells
              obtain ⟨i0, i1⟩ := Y1.out.fz
              have hsz := Y1.out.lt
              have hsx := Z1.out.lt
              clear hb1 XS YS ZS BS c0 c1 b0 b1
              go_wp2_with fail
              go_region
              all_goals go_wp2_with fail
              all_goals refine bodyPost_ret (v := .tuple #[.int .u64 (v : Int), .agg #[.string s, .int .i64 (z : Int)], .int .i64 0]) (by simp [results, Try.results21, go_sem, h0, h1, hsz]) rfl ⟨v, z, 0, HR.out, rfl, ?_⟩
              all_goals exact Below.drew (below_alloc (Below.put2 (Below.put2 B1.out (by omega) _ _) (Nat.le_succ _) _ _) _)
            · have HBL' : Hid (belL s.data.toList n j f' z = F) := Lib.hid (by rw [hz, ← belL_next _ _ _ _ _ (by rw [dlen]; omega) (by rw [← hv]; omega)]; exact HBL2.out)
              have HZ : Hid (z ≤ 8 * s.size) := Lib.hid (by omega)
              have HBX : Hid (x < z) := Lib.hid (by
                have hb0 : j ≠ 0 := fun e => by
                  have h1 := HBP.out e
                  have h2 : v = 0 := by rw [hv, e]; rfl
                  omega
                omega)
              have HFZ : Hid (8 * s.size + 1 ≤ f' + z) := Lib.hid (by have := HBX.out; have := HFX.out; omega)
              have HI' : Hid (i + 1 + f' = 8 * s.size + 1) := Lib.hid (by have := HI.out; omega)
              have hge : ¬ ((v : Int) < (n : Int)) := by omega
              clear hfew hv hz
              go_wp2_with fail
              refine (HT.out _).mono ?_
              rintro e w1 ⟨rfl, hb1⟩
              have X1 := Lib.hid (XS.out.keep hb1)
              have Y1 := Lib.hid (YS.out.keep hb1)
              have Z1 := Lib.hid (ZS.out.keep hb1)
              have B1 := Lib.hid (keepB BS.out hb1)
              obtain ⟨d0, d1⟩ := Z1.out.cells
              obtain ⟨f0, f1⟩ := Z1.out.fz
              have hsx := Z1.out.lt
              clear hb1 XS YS ZS BS c0 c1 b0 b1
              go_wp2_with fail
              go_roundw
              case rel => exact ⟨i + 1, f', z, by go_num, HI', HZ, HFZ, HBL', ((X1.out.far (by simp; omega) _).far (by simp; omega) _).alloc _, ((Y1.out.far (by simp) _).far (by simp) _).alloc _, (Z1.out.store z).alloc _, below_alloc (Below.put2 B1.out (by omega) _ _) _⟩
              case measure => simp [intOf]; omega
end Go.Proofs.Ytcfjgllkpfkhfaa
