/- Contracts of coin's Below and Chance. -/
import Derived.Test.YtcfjgllkpfkhfaaTapeM
namespace Go.Proofs.Ytcfjgllkpfkhfaa
open Go.RowKit

theorem bl_halves {x : Nat} (h : x ≠ 0) : bl x = bl (x / 2) + 1 := bl_half (by omega)
theorem bitLen_bl8 (x : Nat) (h : x < 2 ^ 64) : Lib.bitLen x = bl x := by
  induction x using Nat.strongRecOn with
  | ind x ih =>
    by_cases h0 : x = 0
    · subst h0; rfl
    · rw [Lib.bitLen_half x h0 h, bl_halves (by omega), ih (x / 2) (by omega) (by omega), Nat.add_comm]
theorem len64 (x y : Nat) (w : World) (hx : x < 18446744073709551616) (hy : Hid (y = bl x)) :
    Calls Try.prog 31 #[.int .u64 (x : Int)] w fun e w' => e = .returned (.int .i64 (y : Int)) ∧ w = w' := by
  refine (Try.bits_Len64 x w (by omega) (by omega)).mono ?_
  rintro e w' ⟨rfl, rfl⟩
  refine ⟨?_, rfl⟩
  have h3 : (2 : Nat) ^ 64 = 18446744073709551616 := by decide
  rw [Int.toNat_natCast, bitLen_bl8 x (by rw [h3]; exact hx), hy.out]

/-- Where a tape's box stands, for a loop's measure. -/
def tapeAt (w : World) (g : Nat) : Nat := match w.cell? ⟨g, 1, none⟩ with | some (.int _ n) => n.toNat | _ => 0
theorem TBox.at {T : TypeId} {w : World} {g : Nat} {s : ByteArray} {a : Nat} (h : TBox T w g s a) : tapeAt w g = a := by
  unfold tapeAt
  rw [h.cells.2]
  exact Int.toNat_natCast a

/-- What a number below n answers. -/
def BeRet (s : ByteArray) (a n : Nat) (w : World) (e : Ending) (w' : World) : Prop :=
  ∃ v z c : Nat, beT s.data.toList a n = (v, z, c) ∧ e = .returned (.tuple #[.int .u64 (v : Int), .agg #[.string s, .int .i64 (z : Int)], .int .i64 (c : Int)]) ∧ Below w.heap.size w w'

set_option maxHeartbeats 4000000 in
set_option maxRecDepth 100000 in
theorem coin_Below (s : ByteArray) (a n : Nat) (w : World) (hs : (s.size : Int) ≤ 1000000) (ha : a ≤ 8 * s.size) (hn : (n : Int) ≤ 18446744073709551615) :
    Calls Try.prog 20 #[.agg #[.string s, .int .i64 (a : Int)], .int .u64 (n : Int)] w (BeRet s a n w) := by
  by_cases h0 : n = 0
  · subst h0
    rw [show ((0 : Nat) : Int) = 0 from rfl]
    go_enter Try.func20, Try.ntmps20
    go_wp2_with fail
    go_step3
    go_wp2_with fail
    go_region
    all_goals go_wp2_with fail
    all_goals rw [Exit.noGoto_ret]
    all_goals refine bodyPost_ret (v := .tuple #[.int .u64 0, .agg #[.string s, .int .i64 (a : Int)], .int .i64 3]) (by simp [results, Try.results20, go_sem]) rfl ⟨0, a, 3, beT_zero _ _, rfl, ?_⟩
    all_goals exact (((Below.refl _ _).alloc (Nat.le_refl _) _).alloc (hz1 _ _) _).drew
  · obtain ⟨n1, hn1⟩ : ∃ n1, n = n1 + 1 := ⟨n - 1, by omega⟩
    obtain ⟨b, hb⟩ : ∃ b, b = wid n := ⟨_, rfl⟩
    have hb64 : b ≤ 64 := by rw [hb]; exact wid_le (by omega)
    have HLEN := Lib.hid (fun W => len64 n1 b W (by omega) (Lib.hid (by rw [hb, hn1]; rfl)))
    have hnw : IntKind.u64.wrap ((n : Int) - 1) = (n1 : Int) := by rw [IntWalk.u64_in _ (by omega)]; omega
    have HB := Lib.hid hb
    have HBP : Hid (b = 0 → n = 1) := Lib.hid (by
      intro e
      have : ¬ 1 < n := fun h => by have := wid_pos h; omega
      omega)
    have h00 : ((n : Int) == 0) = false := beq_eq_false_iff_ne.2 (by omega)
    have HN0 : Hid (n ≠ 0) := Lib.hid (by omega)
    obtain ⟨F, hF⟩ : ∃ F, F = belL s.data.toList n b (8 * s.data.toList.length + 1) a := ⟨_, rfl⟩
    have HNONE : Hid (F = none → beT s.data.toList a n = (0, a, 6)) := Lib.hid (fun h => beT_none HN0.out (by rw [← HB.out, ← hF]; exact h))
    have HSOME : Hid (∀ v z, F = some (v, z) → beT s.data.toList a n = (v, z, 0)) := Lib.hid (fun v z h => beT_some HN0.out (by rw [← HB.out, ← hF]; exact h))
    have HF := Lib.hid hF
    clear hb h0 hF hn1
    go_enter Try.func20, Try.ntmps20
    go_wp2_with fail
    go_step3
    go_wp2_with fail
    refine (HLEN.out _).mono ?_
    rintro e w' ⟨rfl, rfl⟩
    go_wp2_with fail
    go_step3
    go_wp2_with fail
    go_loopw [8, 10] (fun _ _ wr => ∃ f x : Nat, Hid (x ≤ 8 * s.size) ∧ Hid (8 * s.size + 1 ≤ f + x) ∧ Hid (belL s.data.toList n b f x = F) ∧ TBox 25 wr w.heap.size s a ∧ TBox 25 wr (w.heap.size + 1) ⟨#[]⟩ 0 ∧ TBox 25 wr (w.heap.size + 1 + 1) s x ∧ Below w.heap.size w wr)
      (fun _ _ wr => 8 * s.size - tapeAt wr (w.heap.size + 1 + 1))
    case atStart =>
      have Y0 := TBox.new 25 (w.alloc (.cells #[.string s, .int .i64 (a : Int)] 25)) ⟨#[]⟩ 0
      rw [show (w.alloc (.cells #[.string s, .int .i64 (a : Int)] 25)).heap.size = w.heap.size + 1 from by simp] at Y0
      have Z0 := TBox.new 25 ((w.alloc (.cells #[.string s, .int .i64 (a : Int)] 25)).alloc (.cells #[.string ⟨#[]⟩, .int .i64 0] 25)) s a
      rw [show ((w.alloc (.cells #[.string s, .int .i64 (a : Int)] 25)).alloc (.cells #[.string ⟨#[]⟩, .int .i64 0] 25)).heap.size = w.heap.size + 1 + 1 from by simp] at Z0
      refine ⟨8 * s.size + 1, a, Lib.hid ha, Lib.hid (by omega), Lib.hid (by rw [HF.out, dlen]), ?_, ?_, ?_, ?_⟩
      · exact ((TBox.new 25 w s a).alloc _).alloc _
      · exact Y0.alloc _
      · exact Z0
      · exact ((((Below.refl _ _).alloc (Nat.le_refl _) _).alloc (hz1 _ _) _).alloc (Nat.le_trans (hz1 _ _) (hz1 _ _)) _)
    case round =>
      obtain ⟨f, x, HX, HFX, HBL, X, Y, Z, hB⟩ := hrel
      have XS := Lib.hid X
      have YS := Lib.hid Y
      have ZS := Lib.hid Z
      have BS := Lib.hid hB
      obtain ⟨c0, c1⟩ := Z.cells
      clear X Y Z hB
      by_cases hfew : 8 * s.size < x + b
      · have HT := Lib.hid (fun W => tape_Read_short s x b W hs hb64 HX.out hfew)
        have HR := Lib.hid (HNONE.out (HBL.out.symm.trans (belL_none _ _ _ _ _ (by rw [dlen]; exact hfew))))
        clear hfew HNONE HSOME
        go_wp2_with fail
        refine (HT.out _).mono ?_
        rintro e w1 ⟨rfl, hb1⟩
        have X1 := Lib.hid (XS.out.keep hb1)
        have Y1 := Lib.hid (YS.out.keep hb1)
        have Z1 := Lib.hid (ZS.out.keep hb1)
        have B1 := Lib.hid (keepB BS.out hb1)
        obtain ⟨d0, d1⟩ := Z1.out.cells
        obtain ⟨f0, f1⟩ := Z1.out.fz
        obtain ⟨g0, g1⟩ := X1.out.cells
        obtain ⟨h0, h1⟩ := Y1.out.cells
        obtain ⟨i0, i1⟩ := Y1.out.fz
        clear hb1 XS YS ZS BS c0 c1
        go_wp2_with fail
        go_region
        all_goals go_wp2_with fail
        all_goals rw [Exit.noGoto_ret]
        all_goals refine bodyPost_ret (v := .tuple #[.int .u64 0, .agg #[.string s, .int .i64 (a : Int)], .int .i64 6]) (by simp [results, Try.results20, go_sem, h0, h1]) rfl ⟨0, a, 6, HR.out, rfl, ?_⟩
        all_goals exact Below.drew (Below.put2 (Below.put2 B1.out (by omega) _ _) (Nat.le_succ _) _ _)
      · obtain ⟨v, hv⟩ : ∃ v, v = numL s.data.toList x b := ⟨_, rfl⟩
        obtain ⟨z, hz⟩ : ∃ z, z = x + b := ⟨_, rfl⟩
        have HT := Lib.hid (fun W => tape_Read_ok s x b v z W hs hb64 (by omega) (Lib.hid hv) (Lib.hid hz))
        obtain ⟨f', rfl⟩ : ∃ f', f = f' + 1 := ⟨f - 1, by have := HX.out; have := HFX.out; omega⟩
        by_cases hlt : v < n
        · have HR := Lib.hid (HSOME.out v z (HBL.out.symm.trans (by rw [hv, hz]; exact belL_some _ _ _ _ _ (by rw [dlen]; omega) (by rw [← hv]; exact hlt))))
          clear hfew HNONE HSOME hv hz
          go_wp2_with fail
          refine (HT.out _).mono ?_
          rintro e w1 ⟨rfl, hb1⟩
          have X1 := Lib.hid (XS.out.keep hb1)
          have Y1 := Lib.hid (YS.out.keep hb1)
          have Z1 := Lib.hid (ZS.out.keep hb1)
          have B1 := Lib.hid (keepB BS.out hb1)
          obtain ⟨d0, d1⟩ := Z1.out.cells
          obtain ⟨f0, f1⟩ := Z1.out.fz
          obtain ⟨h0, h1⟩ := Y1.out.cells
          obtain ⟨i0, i1⟩ := Y1.out.fz
          clear hb1 XS YS ZS BS c0 c1
          go_wp2_with fail
          go_region
          all_goals go_wp2_with fail
          all_goals rw [Exit.noGoto_ret]
          all_goals refine bodyPost_ret (v := .tuple #[.int .u64 (v : Int), .agg #[.string s, .int .i64 (z : Int)], .int .i64 0]) (by simp [results, Try.results20, go_sem, h0, h1]) rfl ⟨v, z, 0, HR.out, rfl, ?_⟩
          all_goals exact Below.drew (Below.put2 (Below.put2 B1.out (by omega) _ _) (Nat.le_succ _) _ _)
        · have HBL' : Hid (belL s.data.toList n b f' z = F) := Lib.hid (by rw [hz, ← belL_next _ _ _ _ _ (by rw [dlen]; omega) (by rw [← hv]; omega)]; exact HBL.out)
          have HZ : Hid (z ≤ 8 * s.size) := Lib.hid (by omega)
          have HBX : Hid (x < z) := Lib.hid (by
            have hb0 : b ≠ 0 := fun e => by
              have h1 := HBP.out e
              have h2 : v = 0 := by rw [hv, e]; rfl
              omega
            omega)
          have HFZ : Hid (8 * s.size + 1 ≤ f' + z) := Lib.hid (by have := HBX.out; have := HFX.out; omega)
          have hge : ¬ ((v : Int) < (n : Int)) := by omega
          clear hfew hv hz
          go_wp2_with fail
          refine (HT.out _).mono ?_
          rintro e w1 ⟨rfl, hb1⟩
          have X1 := Lib.hid (XS.out.keep hb1)
          have Y1 := Lib.hid (YS.out.keep hb1)
          have Z1 := Lib.hid (ZS.out.keep hb1)
          have B1 := Lib.hid (keepB BS.out hb1)
          obtain ⟨d0, d1⟩ := Z1.out.cells
          obtain ⟨f0, f1⟩ := Z1.out.fz
          have HM : Hid (8 * s.size - tapeAt ((w1.setCell ⟨w.heap.size + 1 + 1, 0, none⟩ (.string s)).setCell ⟨w.heap.size + 1 + 1, 1, none⟩ (.int .i64 (z : Int))) (w.heap.size + 1 + 1) < 8 * s.size - tapeAt wr (w.heap.size + 1 + 1)) := Lib.hid (by
            rw [(Z1.out.store z).at, ZS.out.at]
            have := HBX.out
            have := HZ.out
            omega)
          clear hb1 XS YS ZS BS c0 c1
          go_wp2_with fail
          go_roundw
          case rel => exact ⟨f', z, HZ, HFZ, HBL', (X1.out.far (by simp; omega) _).far (by simp; omega) _, (Y1.out.far (by simp) _).far (by simp) _, Z1.out.store z, Below.put2 B1.out (by omega) _ _⟩
          case measure => exact HM.out

/-- What a chance answers. -/
def ChRet (s : ByteArray) (a n d : Nat) (w : World) (e : Ending) (w' : World) : Prop :=
  ∃ (v z c : Nat) (B : Bool), beT s.data.toList a d = (v, z, c) ∧ (B = true ↔ c = 0 ∧ v < n) ∧ e = .returned (.tuple #[.bool B, .agg #[.string s, .int .i64 (z : Int)], .int .i64 (c : Int)]) ∧ Below w.heap.size w w'

set_option maxHeartbeats 4000000 in
set_option maxRecDepth 100000 in
theorem coin_Chance (s : ByteArray) (a n d : Nat) (w : World) (hs : (s.size : Int) ≤ 1000000) (ha : a ≤ 8 * s.size) (_hn : (n : Int) ≤ 18446744073709551615) (hd : (d : Int) ≤ 18446744073709551615) :
    Calls Try.prog 22 #[.agg #[.string s, .int .i64 (a : Int)], .int .u64 (n : Int), .int .u64 (d : Int)] w (ChRet s a n d w) := by
  have HBE := Lib.hid (fun W => coin_Below s a d W hs ha hd)
  have Y0 := TBox.new 25 (w.alloc (.cells #[.string s, .int .i64 (a : Int)] 25)) ⟨#[]⟩ 0
  rw [show (w.alloc (.cells #[.string s, .int .i64 (a : Int)] 25)).heap.size = w.heap.size + 1 from by simp] at Y0
  have Y0 := Lib.hid Y0
  have B0 := Lib.hid (((Below.refl w.heap.size w).alloc (Nat.le_refl _) (.cells #[.string s, .int .i64 (a : Int)] 25)).alloc (hz1 _ _) (.cells #[.string ⟨#[]⟩, .int .i64 0] 25))
  go_enter Try.func22, Try.ntmps22
  go_wp2_with fail
  refine (HBE.out _).mono ?_
  rintro e w1 ⟨v, z, c, hbe, rfl, hb1⟩
  have HR := Lib.hid hbe
  have Y1 := Lib.hid (Y0.out.keep hb1)
  have B1 := Lib.hid (keepB B0.out hb1)
  obtain ⟨h0, h1⟩ := Y1.out.cells
  obtain ⟨i0, i1⟩ := Y1.out.fz
  have hsz := Y1.out.lt
  clear hbe hb1 Y0 B0
  by_cases hc : c = 0
  · have hc0 : ((c : Int) == 0) = true := by rw [hc]; rfl
    by_cases hv : v < n
    · have HB := Lib.hid (And.intro hc hv)
      have hv1 : decide (v < n) = true := decide_eq_true hv
      have hv2 : decide ((v : Int) < (n : Int)) = true := decide_eq_true (by omega)
      clear hc hv
      go_wp2_with fail
      go_region
      all_goals go_wp2_with fail
      all_goals refine bodyPost_ret (v := .tuple #[.bool true, .agg #[.string s, .int .i64 (z : Int)], .int .i64 (c : Int)]) (by simp [results, Try.results22, go_sem, h0, h1, hsz]) rfl ⟨v, z, c, true, HR.out, ⟨fun _ => HB.out, fun _ => rfl⟩, rfl, ?_⟩
      all_goals exact Below.drew ((Below.put2 B1.out (Nat.le_succ _) _ _).alloc (hz2 B1.out) _)
    · have HB := Lib.hid (show (false = true ↔ c = 0 ∧ v < n) from ⟨fun h => by (cases h), fun h => absurd h.2 hv⟩)
      have hv1 : decide (v < n) = false := decide_eq_false hv
      have hv2 : decide ((v : Int) < (n : Int)) = false := decide_eq_false (by omega)
      clear hc hv
      go_wp2_with fail
      go_region
      all_goals go_wp2_with fail
      all_goals refine bodyPost_ret (v := .tuple #[.bool false, .agg #[.string s, .int .i64 (z : Int)], .int .i64 (c : Int)]) (by simp [results, Try.results22, go_sem, h0, h1, hsz]) rfl ⟨v, z, c, false, HR.out, HB.out, rfl, ?_⟩
      all_goals exact Below.drew ((Below.put2 B1.out (Nat.le_succ _) _ _).alloc (hz2 B1.out) _)
  · have hc0 : ((c : Int) == 0) = false := beq_eq_false_iff_ne.2 (by omega)
    have HB := Lib.hid (show (false = true ↔ c = 0 ∧ v < n) from ⟨fun h => by (cases h), fun h => absurd h.1 hc⟩)
    clear hc
    go_wp2_with fail
    go_region
    all_goals go_wp2_with fail
    all_goals refine bodyPost_ret (v := .tuple #[.bool false, .agg #[.string s, .int .i64 (z : Int)], .int .i64 (c : Int)]) (by simp [results, Try.results22, go_sem, h0, h1, hsz]) rfl ⟨v, z, c, false, HR.out, HB.out, rfl, ?_⟩
    all_goals exact Below.drew ((Below.put2 B1.out (Nat.le_succ _) _ _).alloc (hz2 B1.out) _)
end Go.Proofs.Ytcfjgllkpfkhfaa
