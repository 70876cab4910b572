/- The contract of a log's Append. -/
import Derived.Test.YtbigpapniloknaaDoorLogA
import Derived.Deep.RegionHeld3
import Derived.OwnWalk
namespace Go.Proofs.YtbigpapniloknaaDoor
open Go.RowKit Go.Maps
set_option maxRecDepth 100000

/-- What Append does. -/
def appL (D : DSt) (fr room gen next : Nat) (d : List UInt8) : DSt × Nat × Nat :=
  if next = room then (D, next, 9) else if 110 < d.length then (D, next, 11) else
    if (wrD D ((fr + next : Nat) : Int) (secL 1 gen next d)).2 = 0 then
      ((syD (wrD D ((fr + next : Nat) : Int) (secL 1 gen next d)).1).1, next + 1, (syD (wrD D ((fr + next : Nat) : Int) (secL 1 gen next d)).1).2)
    else ((wrD D ((fr + next : Nat) : Int) (secL 1 gen next d)).1, next, (wrD D ((fr + next : Nat) : Int) (secL 1 gen next d)).2)

/-- A disk that may be written once more and stays small. -/
def Small1 (D : DSt) : Prop := ArmOk D ∧ D.waits.length + 1 ≤ 1000000 ∧ D.ops + 1 ≤ 1000000000
theorem Small1.small {D : DSt} (h : Small1 D) : Small D := ⟨h.1, by have := h.2.1; omega, by have := h.2.2; omega⟩
theorem Small1.wr {D : DSt} (h : Small1 D) (i : Int) (s : List UInt8) : Small (wrD D i s).1 := by
  unfold wrD
  split
  · exact h.small
  · split
    · exact h.small
    · have h1 := fires_arm h.1
      have h2 := fires_waits D
      have h3 := fires_ops D
      split
      · exact ⟨h1, by rw [h2]; have := h.2.1; omega, by rw [h3]; have := h.2.2; omega⟩
      · refine ⟨h1, ?_, ?_⟩
        · show ((fires D).1.waits ++ _).length ≤ _; rw [List.length_append, h2]; have := h.2.1; simpa using this
        · show (fires D).1.ops + 1 ≤ _; rw [h3]; exact h.2.2

theorem close_log (gen next : Nat) (d : List UInt8) (w : World) (hg : gen < 18446744073709551616) (hn : next < 4294967296) (hd : d.length ≤ 110) :
    Calls Tryd.prog 43 #[.agg #[.int .u8 1, .int .u64 (gen : Int), .int .u32 (next : Int), .string (bs d)]] w fun e w' => e = .returned (.tuple #[.string (bs (secL 1 gen next d)), .int .i64 0]) ∧ Below w.heap.size w w' := by
  have h2 := seal_Close_ok 1 gen next (bs d) w (by omega) hg hn (by rw [bs_size]; exact hd)
  rw [bs_list] at h2
  exact h2
theorem close_long (gen next : Nat) (d : List UInt8) (w : World) (hd : 110 < d.length) (hd2 : d.length ≤ 9223372036854775807) :
    Calls Tryd.prog 43 #[.agg #[.int .u8 1, .int .u64 (gen : Int), .int .u32 (next : Int), .string (bs d)]] w fun e w' => e = .returned (.tuple #[.string ⟨#[]⟩, .int .i64 11]) ∧ Below w.heap.size w w' :=
  seal_Close_long 1 gen next (bs d) w (by rw [bs_size]; exact hd) (by rw [bs_size]; omega)

set_option maxHeartbeats 8000000 in
theorem log_Append (base : Nat) (w : World) (p gl M : Nat) (v : Value) (D : DSt) (fr room gen next : Nat) (d : List UInt8) (h : IsDisk base w p gl M v D) (hs : Small1 D) (hbs : base ≤ w.heap.size) (h1 : 1 ≤ room) (h2 : fr + room ≤ D.lasts.length) (h3 : next ≤ room)
    (hg : gen < 18446744073709551616) (hd : d.length ≤ 9223372036854775807) :
    Calls Tryd.prog 27 #[logV (fr : Int) (room : Int) gen (next : Int), .pointer (some ⟨p, 0, none⟩), .string (bs d)] w fun e w' =>
      e = .returned (.tuple #[logV (fr : Int) (room : Int) gen (((appL D fr room gen next d).2.1 : Nat) : Int), .int .i64 (((appL D fr room gen next d).2.2 : Nat) : Int)]) ∧ ∃ v', IsDisk base w' p gl M v' (appL D fr room gen next d).1 ∧ Below base w w' ∧ Keeps w w' := by
  have H0 := Lib.hid h
  have HN4 : Hid (D.lasts.length ≤ 4096) := Lib.hid h.2.2.2.2.1.2.1
  have HL : Hid (∀ W, Below w.heap.size w W → Calls Tryd.prog 42 #[logV (fr : Int) (room : Int) gen (next : Int), .pointer (some ⟨p, 0, none⟩)] W fun e w' => e = .returned (.bool true) ∧ Below W.heap.size W w') := Lib.hid (fun W hb => by
    have := log_lies base W p gl M v D (fr : Int) (room : Int) gen (next : Int) (by have := HN4.out; omega) (H0.out.keep hb)
    rw [liesB_nat h1 h2] at this
    exact this)
  have n0 : decide ((next : Int) < 0) = false := decide_eq_false (by omega)
  have n1 : decide ((room : Int) < (next : Int)) = false := decide_eq_false (by omega)
  have n2 : decide (room < next) = false := decide_eq_false (by omega)
  have hnx : (next : Int) % 4294967296 = (next : Int) := by have := HN4.out; omega
  have HNX : Hid (next < 4294967296) := Lib.hid (by have := HN4.out; omega)
  have B1 : Hid (Below w.heap.size w ((w.alloc (.cells #[.int .i64 (fr : Int), .int .i64 (room : Int), .int .u64 (gen : Int), .int .i64 (next : Int)] 31)).alloc (.cells #[.int .i64 0, .int .i64 0, .int .u64 0, .int .i64 0] 31))) := Lib.hid (((Below.refl _ _).alloc (Nat.le_refl _) _).alloc (by simp) _)
  have HFL : Hid (∀ W, Calls Tryd.prog 37 #[logV (fr : Int) (room : Int) gen (next : Int)] W fun e w' => e = .returned (.bool (decide ((room : Int) ≤ (next : Int)))) ∧ Below W.heap.size W w') := Lib.hid (fun W => log_Full _ _ _ _ W)
  clear h
  unfold logV at HL HFL ⊢
  go_enter Tryd.func27, Tryd.ntmps27
  go_wp2_with fail
  obtain ⟨W0, hW0⟩ : ∃ W0, W0 = ((w.alloc (.cells #[.int .i64 (fr : Int), .int .i64 (room : Int), .int .u64 (gen : Int), .int .i64 (next : Int)] 31)).alloc (.cells #[.int .i64 0, .int .i64 0, .int .u64 0, .int .i64 0] 31)) := ⟨_, rfl⟩
  have L0 : Hid (Blk W0 w.heap.size 31 [.int .i64 (fr : Int), .int .i64 (room : Int), .int .u64 (gen : Int), .int .i64 (next : Int)]) := Lib.hid (by rw [hW0]; exact (Blk.box4 _ _ _ _ _ _).alloc _)
  have R0 : Hid (Blk W0 (w.heap.size + 1) 31 [.int .i64 0, .int .i64 0, .int .u64 0, .int .i64 0]) := Lib.hid (by rw [hW0]; have := Blk.box4 (w.alloc (.cells #[.int .i64 (fr : Int), .int .i64 (room : Int), .int .u64 (gen : Int), .int .i64 (next : Int)] 31)) 31 (.int .i64 0) (.int .i64 0) (.int .u64 0) (.int .i64 0); rw [World.size_alloc] at this; exact this)
  rw [← hW0] at B1 ⊢
  clear hW0
  refine (HL.out _ B1.out).mono ?_
  rintro e w1 ⟨rfl, hb1⟩
  have B2 := Lib.hid (B1.out.trans (hb1.mono B1.out.size))
  have L1 := Lib.hid (L0.out.keep hb1)
  have R1 := Lib.hid (R0.out.keep hb1)
  obtain ⟨c0, c1, c2, c3⟩ := L1.out.four
  clear hb1 B1 L0 R0 HL
  go_wp2_with fail
  refine (HFL.out _).mono ?_
  rintro e w2 ⟨rfl, hb2⟩
  have B3 := Lib.hid (B2.out.trans (hb2.mono B2.out.size))
  have L2 := Lib.hid (L1.out.keep hb2)
  have R2 := Lib.hid (R1.out.keep hb2)
  clear hb2 B2 L1 R1 HFL c0 c1 c2 c3
  obtain ⟨c0, c1, c2, c3⟩ := L2.out.four
  obtain ⟨b0, b1, b2, b3⟩ := R2.out.four
  have f0 := R2.out.frozen 0
  have f1 := R2.out.frozen 1
  have f2 := R2.out.frozen 2
  have f3 := R2.out.frozen 3
  have hd3 : Hid (Below base w w2) := Lib.hid (B3.out.mono hbs)
  by_cases hfu : next = room
  · have hdf : decide ((room : Int) ≤ (next : Int)) = true := decide_eq_true (by omega)
    have hdf2 : decide (room ≤ next) = true := decide_eq_true (by omega)
    have e1 : appL D fr room gen next d = (D, next, 9) := by unfold appL; rw [if_pos hfu]
    have E1 := Lib.hid e1
    have D2 := Lib.hid (H0.out.keep B3.out)
    clear e1 hfu
    go_wp2_with fail
    obtain ⟨r0, r1, r2, r3⟩ := (R2.out.put4 (.int .i64 (fr : Int)) (.int .i64 (room : Int)) (.int .u64 (gen : Int)) (.int .i64 (next : Int))).four
    refine bodyPost_ret (v := .tuple #[.agg #[.int .i64 (fr : Int), .int .i64 (room : Int), .int .u64 (gen : Int), .int .i64 (next : Int)], .int .i64 9]) (by simp [results, Tryd.results27, go_sem, r0, r1, r2, r3]) rfl ?_
    rw [E1.out]
    have hb := below_put4 (g := w.heap.size + 1) B3.out (Nat.le_succ _) (.int .i64 (fr : Int)) (.int .i64 (room : Int)) (.int .u64 (gen : Int)) (.int .i64 (next : Int))
    exact ⟨rfl, v, H0.out.keep hb, hb.mono hbs, Keeps.of_below hb⟩
  · have hdf : decide ((room : Int) ≤ (next : Int)) = false := decide_eq_false (by omega)
    have hdf2 : decide (room ≤ next) = false := decide_eq_false (by omega)
    go_wp2_with fail
    by_cases hlong : 110 < d.length
    · have E1 : Hid (appL D fr room gen next d = (D, next, 11)) := Lib.hid (by unfold appL; rw [if_neg hfu, if_pos hlong])
      refine (close_long gen next d _ hlong hd).mono ?_
      rintro e w3 ⟨rfl, hb3⟩
      have B4 := Lib.hid (B3.out.trans (hb3.mono B3.out.size))
      have L3 := Lib.hid (L2.out.keep hb3)
      have R3 := Lib.hid (R2.out.keep hb3)
      clear hb3 B3 L2 R2 c0 c1 c2 c3 f0 f1 f2 f3 b0 b1 b2 b3
      obtain ⟨c0, c1, c2, c3⟩ := L3.out.four
      obtain ⟨b0, b1, b2, b3⟩ := R3.out.four
      have f0 := R3.out.frozen 0
      have f1 := R3.out.frozen 1
      have f2 := R3.out.frozen 2
      have f3 := R3.out.frozen 3
      go_wp2_with fail
      obtain ⟨r0, r1, r2, r3⟩ := (R3.out.put4 (.int .i64 (fr : Int)) (.int .i64 (room : Int)) (.int .u64 (gen : Int)) (.int .i64 (next : Int))).four
      refine bodyPost_ret (v := .tuple #[.agg #[.int .i64 (fr : Int), .int .i64 (room : Int), .int .u64 (gen : Int), .int .i64 (next : Int)], .int .i64 11]) (by simp [results, Tryd.results27, go_sem, r0, r1, r2, r3]) rfl ?_
      rw [E1.out]
      have hb := below_put4 (g := w.heap.size + 1) B4.out (Nat.le_succ _) (.int .i64 (fr : Int)) (.int .i64 (room : Int)) (.int .u64 (gen : Int)) (.int .i64 (next : Int))
      exact ⟨rfl, v, H0.out.keep hb, hb.mono hbs, Keeps.of_below hb⟩
    · refine (close_log gen next d _ hg HNX.out (by omega)).mono ?_
      rintro e w3 ⟨rfl, hb3⟩
      have B4 := Lib.hid (B3.out.trans (hb3.mono B3.out.size))
      have L3 := Lib.hid (L2.out.keep hb3)
      have R3 := Lib.hid (R2.out.keep hb3)
      have D3 := Lib.hid (H0.out.keep B4.out)
      clear hb3 B3 L2 R2 c0 c1 c2 c3 f0 f1 f2 f3 b0 b1 b2 b3
      obtain ⟨c0, c1, c2, c3⟩ := L3.out.four
      obtain ⟨S, hS⟩ : ∃ S, S = secL 1 gen next d := ⟨_, rfl⟩
      have HSL : Hid (S.length = 128) := Lib.hid (by rw [hS]; exact secL_len _ _ _ _ (by omega))
      obtain ⟨q, hq⟩ : ∃ q, q = fr + next := ⟨_, rfl⟩
      have hqi : IntKind.i64.wrap ((fr : Int) + (next : Int)) = (q : Int) := by rw [IntWalk.i64_in _ (by have := HN4.out; omega)]; omega
      have HW := Lib.hid (disk_Write base w3 p gl M v D (q : Int) S D3.out hs.small (Nat.le_trans hbs B4.out.size) (by rw [HSL.out]; omega))
      obtain ⟨D4, hD4⟩ : ∃ D4, D4 = (wrD D (q : Int) S).1 := ⟨_, rfl⟩
      obtain ⟨k4, hk4⟩ : ∃ k4, k4 = (wrD D (q : Int) S).2 := ⟨_, rfl⟩
      have SM4 := Lib.hid (hs.wr (q : Int) S)
      have E1 : Hid (appL D fr room gen next d = if k4 = 0 then ((syD D4).1, next + 1, (syD D4).2) else (D4, next, k4)) := Lib.hid (by
        unfold appL; rw [if_neg hfu, if_neg hlong, hk4, hD4, hS, hq])
      rw [← hD4] at HW SM4
      rw [← hk4] at HW
      rw [← hS]
      clear hS hq hD4 hk4 H0
      go_wp2_with fail
      refine HW.out.mono ?_
      rintro e w4 ⟨rfl, v4, h4, hb4, hkp4⟩
      have D4' := Lib.hid h4
      have B5 := Lib.hid ((B4.out.mono hbs).trans hb4)
      have L4 := Lib.hid (hkp4 _ _ _ (by decide) (by decide) (by decide) L3.out)
      have R4 := Lib.hid (hkp4 _ _ _ (by decide) (by decide) (by decide) R3.out)
      have K4 := Lib.hid ((Keeps.of_below B4.out).trans hkp4)
      have SZ4 : Hid (w.heap.size + 2 ≤ w4.heap.size) := Lib.hid (by have := R4.out.lt; omega)
      clear h4 hb4 hkp4 HW L3 R3 c0 c1 c2 c3 D3
      obtain ⟨c0, c1, c2, c3⟩ := L4.out.four
      obtain ⟨b0, b1, b2, b3⟩ := R4.out.four
      have f0 := R4.out.frozen 0
      have f1 := R4.out.frozen 1
      have f2 := R4.out.frozen 2
      have f3 := R4.out.frozen 3
      by_cases hk : k4 = 0
      · subst hk
        obtain ⟨nx, hnxe⟩ : ∃ nx, nx = next + 1 := ⟨_, rfl⟩
        have hwn : IntKind.i64.wrap ((next : Int) + 1) = (nx : Int) := by rw [IntWalk.i64_in _ (by have := HNX.out; omega)]; omega
        have HNXE := Lib.hid hnxe
        clear hnxe
        have hkb : (((0 : Nat) : Int) != 0) = false := rfl
        have LX := Lib.hid (L4.out.set_ 3 (.int .i64 (nx : Int)))
        have RX := Lib.hid (R4.out.far (p := ⟨w.heap.size, 3, none⟩) (by show w.heap.size + 1 ≠ w.heap.size; omega) (.int .i64 (nx : Int)))
        have DX := Lib.hid (D4'.out.put1 L4.out (by decide) (by decide) (by decide) 3 (.int .i64 (nx : Int)))
        have BX := Lib.hid (B5.out.setCell (p := ⟨w.heap.size, 3, none⟩) hbs (.int .i64 (nx : Int)))
        have KX := Lib.hid (K4.out.put1' (Nat.le_refl _) 3 (.int .i64 (nx : Int)))
        have g3 := L4.out.frozen 3
        obtain ⟨W5, hW5⟩ : ∃ W5, W5 = w4.setCell ⟨w.heap.size, 3, none⟩ (.int .i64 (nx : Int)) := ⟨_, rfl⟩
        rw [← hW5] at LX RX DX BX KX
        go_wp2_with fail
        rw [← hW5]
        clear hW5 L4 R4 D4' B5 K4 b0 b1 b2 b3 f0 f1 f2 f3 c0 c1 c2 c3
        have HSY : Hid (∀ W, IsDisk base W p gl M v4 D4 → base ≤ W.heap.size → Calls Tryd.prog 31 #[.pointer (some ⟨p, 0, none⟩)] W fun e w' => e = .returned (.int .i64 (((syD D4).2 : Nat) : Int)) ∧ ∃ v', IsDisk base w' p gl M v' (syD D4).1 ∧ Below base W w' ∧ Keeps W w') := Lib.hid (fun W h hb => disk_Sync base W p gl M v4 D4 h SM4.out hb)
        have LD : Hid (Blk W5.drew w.heap.size 31 [.int .i64 (fr : Int), .int .i64 (room : Int), .int .u64 (gen : Int), .int .i64 (nx : Int)]) := LX
        have RD : Hid (Blk W5.drew (w.heap.size + 1) 31 [.int .i64 0, .int .i64 0, .int .u64 0, .int .i64 0]) := RX
        have DD := Lib.hid (DX.out.keep (Below.refl _ _).drew)
        have BD := Lib.hid BX.out.drew
        have KD := Lib.hid KX.out.drew'
        have HLC : Hid (∀ W, Blk W w.heap.size 31 [.int .i64 (fr : Int), .int .i64 (room : Int), .int .u64 (gen : Int), .int .i64 (nx : Int)] → W.cell? ⟨w.heap.size, 0, none⟩ = some (.int .i64 (fr : Int)) ∧ W.cell? ⟨w.heap.size, 1, none⟩ = some (.int .i64 (room : Int)) ∧ W.cell? ⟨w.heap.size, 2, none⟩ = some (.int .u64 (gen : Int)) ∧ W.cell? ⟨w.heap.size, 3, none⟩ = some (.int .i64 (nx : Int))) := Lib.hid (fun W h => h.four)
        obtain ⟨k5, hk5⟩ : ∃ k5, k5 = (syD D4).2 := ⟨_, rfl⟩
        obtain ⟨D5, hD5⟩ : ∃ D5, D5 = (syD D4).1 := ⟨_, rfl⟩
        have E2 : Hid (appL D fr room gen next d = (D5, nx, k5)) := Lib.hid (by rw [E1.out, hk5, hD5, HNXE.out]; simp)
        rw [← hk5, ← hD5] at HSY
        clear hk5 hD5 E1 LX RX DX BX KX SM4
        go_region_held3 (fun w' => w'.cell? ⟨w.heap.size, 0, none⟩ = some (.int .i64 (fr : Int)) ∧ w'.cell? ⟨w.heap.size, 1, none⟩ = some (.int .i64 (room : Int)) ∧ w'.cell? ⟨w.heap.size, 2, none⟩ = some (.int .u64 (gen : Int)) ∧ w'.cell? ⟨w.heap.size, 3, none⟩ = some (.int .i64 (nx : Int)))
          (first | exact HLC.out _ LD.out | exact HLC.out _ L6.out | exact HLC.out _ (L6.out.far4' (Nat.ne_of_lt (Nat.lt_succ_self _)) _ _ _ _))
          ((go_at_call 31; refine (HSY.out _ DD.out (Nat.le_trans hbs (Nat.le_of_lt LD.out.lt))).mono ?_; rintro e w6 ⟨rfl, v6, h6, hb6, hk6⟩; have L6 := Lib.hid (hk6 _ _ _ (by decide) (by decide) (by decide) LD.out); have R6 := Lib.hid (hk6 _ _ _ (by decide) (by decide) (by decide) RD.out); obtain ⟨b0, b1, b2, b3⟩ := R6.out.four; have f0 := R6.out.frozen 0; have f1 := R6.out.frozen 1; have f2 := R6.out.frozen 2; have f3 := R6.out.frozen 3))
        all_goals go_wp2_with fail
        all_goals obtain ⟨r0, r1, r2, r3⟩ := (R6.out.put4 (.int .i64 (fr : Int)) (.int .i64 (room : Int)) (.int .u64 (gen : Int)) (.int .i64 (nx : Int))).four
        all_goals refine bodyPost_ret (v := .tuple #[.agg #[.int .i64 (fr : Int), .int .i64 (room : Int), .int .u64 (gen : Int), .int .i64 (nx : Int)], .int .i64 (k5 : Int)]) (by simp [results, Tryd.results27, go_sem, r0, r1, r2, r3]) rfl ?_
        all_goals rw [E2.out]
        all_goals exact ⟨rfl, v6, h6.put4 R6.out (by decide) (by decide) (by decide) _ _ _ _, below_put4 (BD.out.trans hb6) (Nat.le_trans hbs (Nat.le_succ _)) _ _ _ _, (KD.out.trans hk6).put4' (Nat.le_succ _) _ _ _ _⟩
      · have hkb : (((k4 : Nat) : Int) != 0) = true := by rw [bne_iff_ne]; omega
        go_wp2_with fail
        obtain ⟨r0, r1, r2, r3⟩ := (R4.out.put4 (.int .i64 (fr : Int)) (.int .i64 (room : Int)) (.int .u64 (gen : Int)) (.int .i64 (next : Int))).four
        refine bodyPost_ret (v := .tuple #[.agg #[.int .i64 (fr : Int), .int .i64 (room : Int), .int .u64 (gen : Int), .int .i64 (next : Int)], .int .i64 (k4 : Int)]) (by simp [results, Tryd.results27, go_sem, r0, r1, r2, r3]) rfl ?_
        rw [E1.out, if_neg hk]
        exact ⟨rfl, v4, D4'.out.put4 R4.out (by decide) (by decide) (by decide) _ _ _ _, below_put4 B5.out (Nat.le_trans hbs (Nat.le_succ _)) _ _ _ _, K4.out.put4' (Nat.le_succ _) _ _ _ _⟩
end Go.Proofs.YtbigpapniloknaaDoor
