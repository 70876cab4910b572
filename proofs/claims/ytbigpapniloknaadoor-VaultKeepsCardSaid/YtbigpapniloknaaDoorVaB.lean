/- The contract of vault's look. -/
import Derived.Test.YtbigpapniloknaaDoorVaA
namespace Go.Proofs.YtbigpapniloknaaDoor
open Go.RowKit Go.Maps
set_option maxRecDepth 100000

def sightC (x : Bool × Bool × Nat) : List Value := [.bool x.1, .bool x.2.1, .int .u64 (x.2.2 : Int)]
def sightV (x : Bool × Bool × Nat) : Value := .agg #[.bool x.1, .bool x.2.1, .int .u64 (x.2.2 : Int)]
theorem Blk.threeV {w : World} {g t : Nat} {a b c : Value} (h : Blk w g t [a, b, c]) : w.cell? ⟨g, 0, none⟩ = some a ∧ w.cell? ⟨g, 1, none⟩ = some b ∧ w.cell? ⟨g, 2, none⟩ = some c := ⟨h.cell 0, h.cell 1, h.cell 2⟩

set_option maxHeartbeats 8000000 in
theorem vault_look (base : Nat) (w : World) (p gl M : Nat) (v : Value) (D : DSt) (fr : Nat) (h : IsDisk base w p gl M v D) (hfr : fr ≤ 100000) :
    Calls Tryd.prog 21 #[.pointer (some ⟨p, 0, none⟩), .int .i64 (fr : Int)] w fun e w' => e = .returned (sightV (lookF D (fr : Int) D.lasts.length)) ∧ Below w.heap.size w w' := by
  have HD : Hid (∀ W, Below w.heap.size w W → IsDisk base W p gl M v D) := Lib.hid (fun W hb => h.keep hb)
  have HSZ := Lib.hid (fun W (hb : Below w.heap.size w W) => disk_Size base W p gl M v D (HD.out W hb))
  have HRD := Lib.hid (fun W (hb : Below w.heap.size w W) (k : Nat) => disk_Read base W p gl M v D (k : Int) (HD.out W hb))
  have HOP := Lib.hid (fun (l : List UInt8) (hl : l.length ≤ 128) W => seal_Open l W (by omega))
  have HRL := Lib.hid (fun k : Nat => rdD_len h (k : Int))
  have hl : D.lasts.length ≤ 4096 := h.2.2.2.2.1.2.1
  obtain ⟨L, hL⟩ : ∃ L, L = D.lasts.length := ⟨_, rfl⟩
  rw [← hL] at HSZ hl ⊢
  clear hL h
  have B0 : Hid (Below w.heap.size w ((w.alloc (.cells #[.bool false, .bool false, .int .u64 0] 63)).alloc (.cells #[.bool true, .bool false, .int .u64 0] 63))) := Lib.hid (((Below.refl _ _).alloc (Nat.le_refl _) _).alloc (grow1 _ _) _)
  have R0 : Hid (Blk ((w.alloc (.cells #[.bool false, .bool false, .int .u64 0] 63)).alloc (.cells #[.bool true, .bool false, .int .u64 0] 63)) w.heap.size 63 [.bool false, .bool false, .int .u64 0]) := Lib.hid (Blk.alloc (heap_alloc_new w _) _)
  have S0 : Hid (Blk ((w.alloc (.cells #[.bool false, .bool false, .int .u64 0] 63)).alloc (.cells #[.bool true, .bool false, .int .u64 0] 63)) (w.heap.size + 1) 63 [.bool true, .bool false, .int .u64 0]) := Lib.hid (by
    have hx := heap_alloc_new (w.alloc (.cells #[.bool false, .bool false, .int .u64 0] 63)) (.cells #[.bool true, .bool false, .int .u64 0] 63)
    rw [World.size_alloc] at hx
    exact hx)
  go_enter Tryd.func21, Tryd.ntmps21
  go_wp2_with fail
  refine (HSZ.out _ B0.out).mono ?_
  rintro e w1 ⟨rfl, rfl⟩
  go_wp2_with fail
  go_loopw [14] (fun iv wr => ∃ (k : Nat), iv = .int .i64 k ∧ k ≤ L ∧ Hid (Blk wr w.heap.size 63 [.bool false, .bool false, .int .u64 0]) ∧ Hid (Blk wr (w.heap.size + 1) 63 [.bool (lookF D (fr : Int) k).1, .bool (lookF D (fr : Int) k).2.1, .int .u64 ((lookF D (fr : Int) k).2.2 : Int)]) ∧ Hid (Below w.heap.size w wr)) (fun iv _ => L - (intOf iv).toNat)
  case atStart => exact ⟨0, rfl, Nat.zero_le _, R0, S0, B0⟩
  case round =>
    obtain ⟨k, rfl, hk, HR, HS, HB⟩ := hrel
    clear B0 R0 S0
    by_cases hlt : k < L
    · have hd : decide ((k : Int) < (L : Int)) = true := decide_eq_true (by omega)
      have hd' : decide (k < L) = true := decide_eq_true hlt
      have hkw : IntKind.i64.wrap ((k : Int) + 1) = (k : Int) + 1 := IntWalk.i64_in _ (by omega)
      obtain ⟨⟨b, r, g⟩, hbr⟩ : ∃ x, x = lookF D (fr : Int) k := ⟨_, rfl⟩
      have HN : Hid (lookF D (fr : Int) (k + 1) = lookS (fr : Int) (b, r, g) k (recAt D k)) := Lib.hid (by rw [hbr]; rfl)
      rw [← hbr] at HS
      dsimp only at HS
      clear hbr
      have HR1 := Lib.hid (HRD.out wr HB.out k)
      have HO1 := Lib.hid (HOP.out (rdD D (k : Int)).1 (HRL.out k))
      have e0 : openT (rdD D (k : Int)).1 = recAt D k := rfl
      rw [e0] at HO1
      obtain ⟨⟨⟨kd, gn, ix, dt⟩, cd⟩, hrec⟩ : ∃ x, recAt D k = x := ⟨_, rfl⟩
      rw [hrec] at HN HO1
      obtain ⟨s, hs⟩ : ∃ s, s = (rdD D (k : Int)).1 := ⟨_, rfl⟩
      obtain ⟨c, hc⟩ : ∃ c, c = (rdD D (k : Int)).2 := ⟨_, rfl⟩
      rw [← hs, ← hc] at HR1
      rw [← hs] at HO1
      unfold recV at HO1
      dsimp only at HO1
      unfold lookS at HN
      dsimp only at HN
      clear e0 hrec hs hc
      go_wp2_with fail
      refine HR1.out.mono ?_
      rintro e w2 ⟨rfl, rfl⟩
      go_wp2_with fail
      refine (HO1.out _).mono ?_
      rintro e w3 ⟨rfl, hb3⟩
      have R3 := Lib.hid (HR.out.keep hb3)
      have S3 := Lib.hid (HS.out.keep hb3)
      have B3 := Lib.hid (HB.out.trans (hb3.mono HB.out.size))
      have R4 := Lib.hid (R3.out.alloc (.cells #[.int .u8 (kd : Int), .int .u64 (gn : Int), .int .u32 (ix : Int), .string (bs dt)] 89))
      have S4 := Lib.hid (S3.out.alloc (.cells #[.int .u8 (kd : Int), .int .u64 (gn : Int), .int .u32 (ix : Int), .string (bs dt)] 89))
      have B4 := Lib.hid (B3.out.alloc B3.out.size (.cells #[.int .u8 (kd : Int), .int .u64 (gn : Int), .int .u32 (ix : Int), .string (bs dt)] 89))
      obtain ⟨s0, s1, s2⟩ := S4.out.threeV
      have f0 := S4.out.frozen 0
      have f1 := S4.out.frozen 1
      have f2 := S4.out.frozen 2
      clear hb3 HR1 HO1 HR HS HB
      by_cases h16 : cd = 16
      · have e1 : ((cd : Int) == 16) = true := by rw [beq_iff_eq]; omega
        have HN1 : Hid (lookF D (fr : Int) (k + 1) = (b, r, g)) := Lib.hid (by rw [HN.out, if_pos h16])
        clear HN h16
        go_wp2_with fail
        refine ⟨⟨k + 1, by go_num, by omega, R4, Lib.hid (by rw [HN1.out]; exact S4.out), B4⟩, by simp [intOf]; omega⟩
      · have e1 : ((cd : Int) == 16) = false := by rw [beq_eq_false_iff_ne]; omega
        by_cases hc0 : cd = 0
        · have e2 : ((cd : Int) != 0) = false := by rw [bne_eq_false_iff_eq]; omega
          by_cases hf : fr ≤ k
          · have e3 : decide ((fr : Int) ≤ (k : Int)) = true := decide_eq_true (by omega)
            have e3' : decide (fr ≤ k) = true := decide_eq_true hf
            by_cases hkd : kd = 1
            · have e4 : ((kd : Int) == 1) = true := by rw [beq_iff_eq]; omega
              have HN1 : Hid (lookF D (fr : Int) (k + 1) = (false, r, max g gn)) := Lib.hid (by rw [HN.out, if_neg h16, if_neg (fun hx => hx hc0), if_pos ⟨by omega, hkd⟩])
              obtain ⟨mx, hmx⟩ : ∃ mx, mx = max g gn := ⟨_, rfl⟩
              have hmi : max (g : Int) (gn : Int) = (mx : Int) := by omega
              rw [← hmx] at HN1
              have T3 := Lib.hid (S4.out.set_ 2 (.int .u64 (mx : Int)))
              obtain ⟨t0, t1, t2⟩ := T3.out.threeV
              have g0 := T3.out.frozen 0
              clear HN h16 hc0 hf hkd hmx
              go_wp2_with fail
              refine ⟨⟨k + 1, by go_num, by omega, Lib.hid ((R4.out.far (p := ⟨w.heap.size + 1, 2, none⟩) (by show w.heap.size ≠ w.heap.size + 1; omega) _).far (p := ⟨w.heap.size + 1, 0, none⟩) (by show w.heap.size ≠ w.heap.size + 1; omega) _), Lib.hid (by rw [HN1.out]; exact T3.out.set_ 0 (.bool false)), Lib.hid ?_⟩, by simp [intOf]; omega⟩
              exact ((B4.out.setCell (p := ⟨w.heap.size + 1, 2, none⟩) (Nat.le_succ _) _).setCell (p := ⟨w.heap.size + 1, 0, none⟩) (Nat.le_succ _) _)
            · have e4 : ((kd : Int) == 1) = false := by rw [beq_eq_false_iff_ne]; omega
              have HN1 : Hid (lookF D (fr : Int) (k + 1) = (false, r, g)) := Lib.hid (by rw [HN.out, if_neg h16, if_neg (fun hx => hx hc0), if_neg (fun hx => hkd hx.2)])
              clear HN h16 hc0 hf hkd
              go_wp2_with fail
              refine ⟨⟨k + 1, by go_num, by omega, Lib.hid (R4.out.far (p := ⟨w.heap.size + 1, 0, none⟩) (by show w.heap.size ≠ w.heap.size + 1; omega) _), Lib.hid (by rw [HN1.out]; exact S4.out.set_ 0 (.bool false)), Lib.hid ?_⟩, by simp [intOf]; omega⟩
              exact (B4.out.setCell (p := ⟨w.heap.size + 1, 0, none⟩) (Nat.le_succ _) _)
          · have e3 : decide ((fr : Int) ≤ (k : Int)) = false := decide_eq_false (by omega)
            have e3' : decide (fr ≤ k) = false := decide_eq_false hf
            have HN1 : Hid (lookF D (fr : Int) (k + 1) = (false, r, g)) := Lib.hid (by rw [HN.out, if_neg h16, if_neg (fun hx => hx hc0), if_neg (fun hx => hf (by omega))])
            clear HN h16 hc0 hf
            go_wp2_with fail
            refine ⟨⟨k + 1, by go_num, by omega, Lib.hid (R4.out.far (p := ⟨w.heap.size + 1, 0, none⟩) (by show w.heap.size ≠ w.heap.size + 1; omega) _), Lib.hid (by rw [HN1.out]; exact S4.out.set_ 0 (.bool false)), Lib.hid ?_⟩, by simp [intOf]; omega⟩
            exact (B4.out.setCell (p := ⟨w.heap.size + 1, 0, none⟩) (Nat.le_succ _) _)
        · have e2 : ((cd : Int) != 0) = true := by rw [bne_iff_ne]; omega
          have HN1 : Hid (lookF D (fr : Int) (k + 1) = (false, true, g)) := Lib.hid (by rw [HN.out, if_neg h16, if_pos hc0])
          have T3 := Lib.hid (S4.out.set_ 1 (.bool true))
          obtain ⟨t0, t1, t2⟩ := T3.out.threeV
          have g0 := T3.out.frozen 0
          clear HN h16 hc0
          go_wp2_with fail
          refine ⟨⟨k + 1, by go_num, by omega, Lib.hid ((R4.out.far (p := ⟨w.heap.size + 1, 1, none⟩) (by show w.heap.size ≠ w.heap.size + 1; omega) _).far (p := ⟨w.heap.size + 1, 0, none⟩) (by show w.heap.size ≠ w.heap.size + 1; omega) _), Lib.hid (by rw [HN1.out]; exact T3.out.set_ 0 (.bool false)), Lib.hid ?_⟩, by simp [intOf]; omega⟩
          exact ((B4.out.setCell (p := ⟨w.heap.size + 1, 1, none⟩) (Nat.le_succ _) _).setCell (p := ⟨w.heap.size + 1, 0, none⟩) (Nat.le_succ _) _)
    · obtain rfl : k = L := by omega
      have hd : decide ((k : Int) < (k : Int)) = false := decide_eq_false (by omega)
      have hd' : decide (k < k) = false := decide_eq_false (by omega)
      obtain ⟨⟨b, r, g⟩, hbr⟩ : ∃ x, x = lookF D (fr : Int) k := ⟨_, rfl⟩
      rw [← hbr] at HS
      dsimp only at HS
      have HX := Lib.hid hbr
      clear hbr
      obtain ⟨s0, s1, s2⟩ := HS.out.threeV
      obtain ⟨r0, r1, r2⟩ := HR.out.threeV
      have f0 := HR.out.frozen 0
      have f1 := HR.out.frozen 1
      have f2 := HR.out.frozen 2
      go_wp2_with fail
      have TX := Lib.hid (((HR.out.set_ 0 (.bool b)).set_ 1 (.bool r)).set_ 2 (.int .u64 (g : Int)))
      obtain ⟨d0, d1, d2⟩ := (show Blk _ _ _ [.bool b, .bool r, .int .u64 (g : Int)] from TX.out).threeV
      refine bodyPost_ret (v := sightV (b, r, g)) (by simp [sightV, results, Tryd.results21, go_sem, d0, d1, d2]) rfl ⟨by rw [← HX.out], ?_⟩
      exact ((HB.out.setCell (p := ⟨w.heap.size, 0, none⟩) (Nat.le_refl _) _).setCell (p := ⟨w.heap.size, 1, none⟩) (Nat.le_refl _) _).setCell (p := ⟨w.heap.size, 2, none⟩) (Nat.le_refl _) _
end Go.Proofs.YtbigpapniloknaaDoor
