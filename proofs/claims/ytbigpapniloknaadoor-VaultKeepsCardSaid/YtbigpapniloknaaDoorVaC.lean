/- The contract of vault's newest. -/
import Derived.Test.YtbigpapniloknaaDoorVaB
namespace Go.Proofs.YtbigpapniloknaaDoor
open Go.RowKit Go.Maps
set_option maxRecDepth 100000

def foundV (x : Nat × Nat × List UInt8 × Bool) : Value := .agg #[.int .i64 (x.1 : Int), .int .u64 (x.2.1 : Int), .string (bs x.2.2.1), .bool x.2.2.2]
def bestK (D : DSt) (n : Nat) : Nat → Nat × Nat × List UInt8 × Bool
  | 0 => (0, 0, [], false)
  | k + 1 => newestS (bestK D n k) k (readF (foundL D ((k * n : Nat) : Int) (n : Int)))
theorem bestK_two (D : DSt) (n : Nat) : bestK D n 2 = newestF D n := by
  unfold newestF
  show newestS (newestS (0, 0, [], false) 0 (readF (foundL D ((0 * n : Nat) : Int) (n : Int)))) 1 (readF (foundL D ((1 * n : Nat) : Int) (n : Int))) = _
  rw [Nat.zero_mul, Nat.one_mul]
  rfl

set_option maxHeartbeats 8000000 in
theorem vault_newest (base : Nat) (w : World) (p gl M : Nat) (v : Value) (D : DSt) (n : Nat) (h : IsDisk base w p gl M v D) (hn : n ≤ 4096) :
    Calls Tryd.prog 23 #[.pointer (some ⟨p, 0, none⟩), .int .i64 (n : Int)] w fun e w' => e = .returned (foundV (newestF D n)) ∧ Below w.heap.size w w' := by
  have HD : Hid (∀ W, Below w.heap.size w W → IsDisk base W p gl M v D) := Lib.hid (fun W hb => h.keep hb)
  have HRD := Lib.hid (fun W (hb : Below w.heap.size w W) (q : Nat) (hq : q ≤ 100000) => slot_Read base W p gl M v D (q : Int) (n : Int) (by omega) (HD.out W hb))
  have B0 : Hid (Below w.heap.size w (w.alloc (.cells #[.int .i64 0, .int .u64 0, .string ⟨#[]⟩, .bool false] 67))) := Lib.hid ((Below.refl _ _).alloc (Nat.le_refl _) _)
  have R0 : Hid (Blk (w.alloc (.cells #[.int .i64 0, .int .u64 0, .string ⟨#[]⟩, .bool false] 67)) w.heap.size 67 [.int .i64 0, .int .u64 0, .string ⟨#[]⟩, .bool false]) := Lib.hid (heap_alloc_new w _)
  have HSL := Lib.hid (vault_slots n (w.alloc (.cells #[.int .i64 0, .int .u64 0, .string ⟨#[]⟩, .bool false] 67)))
  clear h
  go_enter Tryd.func23, Tryd.ntmps23
  go_wp2_with fail
  refine HSL.out.mono ?_
  rintro e w1 ⟨rfl, hs1, hb1⟩
  rw [World.size_alloc] at hs1
  have B1 := Lib.hid (B0.out.trans (hb1.mono B0.out.size))
  have R1 := Lib.hid (R0.out.keep hb1)
  have S1 := Lib.hid hs1
  clear hb1 hs1 HSL B0 R0
  go_wp2_with fail
  have gsz : w.heap.size + 1 < w1.heap.size := S1.out.lt
  have ba : ∀ o, Below w1.heap.size w1 (w1.alloc o) := fun o => (Below.refl _ _).alloc (Nat.le_refl _) o
  have B2 := Lib.hid (B1.out.alloc B1.out.size (.cells #[.int .i64 0, .int .u64 0, .string ⟨#[]⟩, .bool false] 67))
  have R2 := Lib.hid (R1.out.keep (ba (.cells #[.int .i64 0, .int .u64 0, .string ⟨#[]⟩, .bool false] 67)))
  have S2 := Lib.hid (S1.out.keep (ba (.cells #[.int .i64 0, .int .u64 0, .string ⟨#[]⟩, .bool false] 67)))
  have F2 : Hid (Blk (w1.alloc (.cells #[.int .i64 0, .int .u64 0, .string ⟨#[]⟩, .bool false] 67)) w1.heap.size 67 [.int .i64 0, .int .u64 0, .string ⟨#[]⟩, .bool false]) := Lib.hid (heap_alloc_new w1 _)
  clear ba B1 R1 S1
  go_loopw [13] (fun iv wr => ∃ (k : Nat) (x : Nat × Nat × List UInt8 × Bool), iv = .int .i64 k ∧ k ≤ 2 ∧ Hid (x = bestK D n k) ∧ Hid (Blk wr w.heap.size 67 [.int .i64 0, .int .u64 0, .string ⟨#[]⟩, .bool false]) ∧ Hid (Blk wr (w.heap.size + 1) 3 [.int .i64 (n : Int)]) ∧ Hid (Blk wr w1.heap.size 67 [.int .i64 (x.1 : Int), .int .u64 (x.2.1 : Int), .string (bs x.2.2.1), .bool x.2.2.2]) ∧ Hid (Below w.heap.size w wr)) (fun iv _ => 2 - (intOf iv).toNat)
  case atStart => exact ⟨0, (0, 0, [], false), rfl, Nat.zero_le _, Lib.hid rfl, R2, S2, F2, B2⟩
  case round =>
    obtain ⟨k, ⟨sl, gn, tx, wh⟩, rfl, hk, HX, HR, HS, HF, HB⟩ := hrel
    clear B2 R2 S2 F2
    dsimp only at HF
    by_cases hlt : k < 2
    · have hd : decide ((k : Int) < 2) = true := decide_eq_true (by omega)
      have hd' : decide (k < 2) = true := decide_eq_true hlt
      have hkw : IntKind.i64.wrap ((k : Int) + 1) = (k : Int) + 1 := IntWalk.i64_in _ (by omega)
      have HAT := Lib.hid (vault_at n k (w.heap.size + 1) wr HS.out hn (by omega))
      obtain ⟨q, hq⟩ : ∃ q, q = k * n := ⟨_, rfl⟩
      have hql : q ≤ 8192 := by rw [hq]; exact Nat.mul_le_mul (show k ≤ 2 by omega) hn
      obtain ⟨⟨rt, rg, rb⟩, hrr⟩ : ∃ x, x = readF (foundL D (q : Int) (n : Int)) := ⟨_, rfl⟩
      have HN : Hid (bestK D n (k + 1) = newestS (sl, gn, tx, wh) k (rt, rg, rb)) := Lib.hid (by
        show newestS (bestK D n k) k (readF (foundL D ((k * n : Nat) : Int) (n : Int))) = _
        rw [← HX.out, ← hq, hrr])
      have HR1 := Lib.hid (HRD.out wr HB.out q (by omega))
      rw [← hq] at HAT
      rw [← hrr] at HR1
      unfold newestS at HN
      dsimp only at HN HR1
      clear hq hrr HX
      go_wp2_with fail
      refine HAT.out.mono ?_
      rintro e w2 ⟨rfl, rfl⟩
      go_wp2_with fail
      refine HR1.out.mono ?_
      rintro e w3 ⟨rfl, hb3⟩
      have R3 := Lib.hid (HR.out.keep hb3)
      have S3 := Lib.hid (HS.out.keep hb3)
      have F3 := Lib.hid (HF.out.keep hb3)
      have B3 := Lib.hid (HB.out.trans (hb3.mono HB.out.size))
      obtain ⟨s0, s1, s2, s3⟩ := F3.out.four
      have f0 := F3.out.frozen 0
      have f1 := F3.out.frozen 1
      have f2 := F3.out.frozen 2
      have f3 := F3.out.frozen 3
      clear hb3 HR1 HAT HR HS HF HB
      cases rb with
      | false =>
        have HN1 : Hid ((sl, gn, tx, wh) = bestK D n (k + 1)) := Lib.hid (by rw [HN.out, if_neg (fun hx => by cases hx.1)])
        clear HN
        go_wp2_with fail
        exact ⟨⟨k + 1, (sl, gn, tx, wh), by go_num, by omega, HN1, R3, S3, F3, B3⟩, by simp [intOf]; omega⟩
      | true =>
        have fin : ∀ W', W' = (((w3.setCell ⟨w1.heap.size, 0, none⟩ (.int .i64 (k : Int))).setCell ⟨w1.heap.size, 1, none⟩ (.int .u64 (rg : Int))).setCell ⟨w1.heap.size, 2, none⟩ (.string (bs rt))).setCell ⟨w1.heap.size, 3, none⟩ (.bool true) →
            Hid (Blk W' w.heap.size 67 [.int .i64 0, .int .u64 0, .string ⟨#[]⟩, .bool false]) ∧ Hid (Blk W' (w.heap.size + 1) 3 [.int .i64 (n : Int)]) ∧ Hid (Blk W' w1.heap.size 67 [.int .i64 (k : Int), .int .u64 (rg : Int), .string (bs rt), .bool true]) ∧ Hid (Below w.heap.size w W') := fun W' e => by
          subst e
          exact ⟨Lib.hid (Blk.far4' R3.out (by omega) _ _ _ _), Lib.hid (Blk.far4' S3.out (by omega) _ _ _ _), Lib.hid (F3.out.put4 _ _ _ _), Lib.hid (below_put4 B3.out (by omega) _ _ _ _)⟩
        have FIN := Lib.hid fin
        clear fin
        cases wh with
        | false =>
          have HN1 : Hid ((k, rg, rt, true) = bestK D n (k + 1)) := Lib.hid (by rw [HN.out, if_pos ⟨rfl, .inl rfl⟩])
          clear HN
          go_wp2_with fail
          obtain ⟨q1, q2, q3, q4⟩ := FIN.out _ rfl
          exact ⟨⟨k + 1, (k, rg, rt, true), by go_num, by omega, HN1, q1, q2, q3, q4⟩, by simp [intOf]; omega⟩
        | true =>
          by_cases hgt : gn < rg
          · have e1 : decide ((gn : Int) < (rg : Int)) = true := decide_eq_true (by omega)
            have e1' : decide (gn < rg) = true := decide_eq_true hgt
            have HN1 : Hid ((k, rg, rt, true) = bestK D n (k + 1)) := Lib.hid (by rw [HN.out, if_pos ⟨rfl, .inr hgt⟩])
            clear HN hgt
            go_wp2_with fail
            obtain ⟨q1, q2, q3, q4⟩ := FIN.out _ rfl
            exact ⟨⟨k + 1, (k, rg, rt, true), by go_num, by omega, HN1, q1, q2, q3, q4⟩, by simp [intOf]; omega⟩
          · have e1 : decide ((gn : Int) < (rg : Int)) = false := decide_eq_false (by omega)
            have e1' : decide (gn < rg) = false := decide_eq_false hgt
            have HN1 : Hid ((sl, gn, tx, true) = bestK D n (k + 1)) := Lib.hid (by rw [HN.out, if_neg (fun hx => hx.2.elim (fun q => by cases q) (fun q => hgt q))])
            clear HN hgt
            go_wp2_with fail
            exact ⟨⟨k + 1, (sl, gn, tx, true), by go_num, by omega, HN1, R3, S3, F3, B3⟩, by simp [intOf]; omega⟩
    · obtain rfl : k = 2 := by omega
      have HX2 : Hid ((sl, gn, tx, wh) = newestF D n) := Lib.hid (by rw [← bestK_two]; exact HX.out)
      obtain ⟨s0, s1, s2, s3⟩ := HF.out.four
      obtain ⟨r0, r1, r2, r3⟩ := HR.out.four
      have f0 := HR.out.frozen 0
      have f1 := HR.out.frozen 1
      have f2 := HR.out.frozen 2
      have f3 := HR.out.frozen 3
      clear HX
      go_wp2_with fail
      obtain ⟨d0, d1, d2, d3⟩ := (HR.out.put4 (.int .i64 (sl : Int)) (.int .u64 (gn : Int)) (.string (bs tx)) (.bool wh)).four
      refine bodyPost_ret (v := foundV (sl, gn, tx, wh)) (by simp [foundV, results, Tryd.results23, go_sem, d0, d1, d2, d3]) rfl ⟨by rw [← HX2.out], ?_⟩
      exact below_put4 HB.out (Nat.le_refl _) _ _ _ _
end Go.Proofs.YtbigpapniloknaaDoor
