/- The statement NatSums walked. -/
import Derived.Test.YtliligfhckampaaReads
import Derived.Test.YtliligfhckampaaMul
import Derived.Deep.RegionHeld3
namespace Go.Proofs.Ytliligfhckampaa
open Go.RowKit

/-- The four numbers at hand, in memory. -/
def Four (w : World) (A : Option Addr) (n c : Nat) (B : Option Addr) (m cb : Nat) (M : Option Addr) (nm cm : Nat) (N : Option Addr) (nn cn x y : Nat) : Prop :=
  Rep .u64 B64 w A n c x ∧ Rep .u64 B64 w B m cb y ∧ Rep .i64 65536 w M nm cm x ∧ Rep .i64 65536 w N nn cn y
theorem Four.keep {w w' : World} {A : Option Addr} {n c : Nat} {B : Option Addr} {m cb : Nat} {M : Option Addr} {nm cm : Nat} {N : Option Addr} {nn cn x y : Nat} (h : Four w A n c B m cb M nm cm N nn cn x y) (hb : Below w.heap.size w w') :
    Four w' A n c B m cb M nm cm N nn cn x y := ⟨h.1.keep hb, h.2.1.keep hb, h.2.2.1.keep hb, h.2.2.2.keep hb⟩

theorem few2 (w : World) (A : Option Addr) (n c : Nat) (B : Option Addr) (m cb : Nat) :
    Calls Try.prog 7 #[.slice (some ⟨w.heap.size, 0, none⟩) 2 2] (w.alloc (.cells #[.slice A n c, .slice B m cb] 22)) fun e w' => e = .returned (.bool (decide (n ≤ 70 ∧ m ≤ 70))) ∧ w.alloc (.cells #[.slice A n c, .slice B m cb] 22) = w' := by
  refine (law_Few w.heap.size 2 [n, m] _ (fun j hj => ?_) (by simp)).mono ?_
  · have hj2 : j = 0 ∨ j = 1 := by simp at hj; omega
    rcases hj2 with rfl | rfl
    · exact ⟨A, c, World.cell?_alloc_at (w := w) #[.slice A n c, .slice B m cb] 22 w.heap.size 0 rfl⟩
    · exact ⟨B, cb, World.cell?_alloc_at (w := w) #[.slice A n c, .slice B m cb] 22 w.heap.size 1 rfl⟩
  · rintro e w' ⟨rfl, rfl⟩
    exact ⟨ret_bool (by simp), rfl⟩

theorem keep2 {w w1 w2 : World} (h : Below w.heap.size w w1) (k : Below w1.heap.size w1 w2) : Below w.heap.size w w2 := h.trans (k.mono h.size)

set_option maxHeartbeats 8000000 in
set_option maxRecDepth 100000 in
theorem natSums_walk (a0 : Option Addr) (len0 cap0 : Nat) (z0 : List Int) (a1 : Option Addr) (len1 cap1 : Nat) (z1 : List Int) (w : World) (w0 : RowOf .u64 w a0 len0 cap0 z0) (w1 : RowOf .u64 w a1 len1 cap1 z1) :
    Calls Try.prog 5 #[.slice a0 len0 cap0, .slice a1 len1 cap1] w fun e w' => e = .returned (.bool true) ∧ Below w.heap.size w w' := by
  obtain ⟨xs, hs0, hd0⟩ := w0.sl
  obtain ⟨ys, hs1, hd1⟩ := w1.sl
  by_cases h70 : len0 ≤ 70 ∧ len1 ≤ 70
  · have hdc : decide (len0 ≤ 70 ∧ len1 ≤ 70) = true := by simpa using h70
    obtain ⟨h70a, h70b⟩ := h70
    have S0 := Lib.hid hs0
    have S1 := Lib.hid hs1
    have D0 := Lib.hid hd0
    have D1 := Lib.hid hd1
    clear hs0 hs1 hd0 hd1 w0 w1
    go_enter Try.func5, Try.ntmps5
    go_wp2_with fail
    refine (few2 w a0 len0 cap0 a1 len1 cap1).mono ?_
    rintro e w' ⟨rfl, rfl⟩
    rw [hdc]
    have B0 : Hid (Below w.heap.size w (w.alloc (.cells #[.slice a0 len0 cap0, .slice a1 len1 cap1] 22))) := Lib.hid ((Below.refl _ _).alloc (Nat.le_refl _) _)
    go_wp2_with fail
    refine (ref_From a0 len0 cap0 xs _ (S0.out.keep B0.out) D0.out (by omega)).mono ?_
    rintro e w1 ⟨M, nm, cm, rfl, hrm, hb1⟩
    have hnm : nm ≤ 4 * len0 := hrm.dig_le D0.out S0.out.1
    have RM1 := Lib.hid hrm
    have B1 := Lib.hid (keep2 B0.out hb1)
    clear hrm hb1
    go_wp2_with fail
    refine (ref_From a1 len1 cap1 ys _ (S1.out.keep B1.out) D1.out (by omega)).mono ?_
    rintro e w2 ⟨N, nn, cn, rfl, hrn, hb2⟩
    have hnn : nn ≤ 4 * len1 := hrn.dig_le D1.out S1.out.1
    have RM2 := Lib.hid (RM1.out.keep hb2)
    have RN2 := Lib.hid hrn
    have B2 := Lib.hid (keep2 B1.out hb2)
    clear hrn hb2 RM1
    go_wp2_with fail
    refine (nat_From a0 len0 cap0 xs _ (S0.out.keep B2.out) D0.out).mono ?_
    rintro e w3 ⟨A, n, c, codeA, rfl, hga, hb3⟩
    have RM3 := Lib.hid (RM2.out.keep hb3)
    have RN3 := Lib.hid (RN2.out.keep hb3)
    have GA3 := Lib.hid hga
    have B3 := Lib.hid (keep2 B2.out hb3)
    clear hga hb3 RM2 RN2
    have B3a : Hid (Below w3.heap.size w3 (w3.alloc (.cells #[.slice A n c] 29))) := Lib.hid ((Below.refl _ _).alloc (Nat.le_refl _) _)
    go_wp2_with fail
    refine (nat_From a1 len1 cap1 ys _ (S1.out.keep (keep2 B3.out B3a.out)) D1.out).mono ?_
    rintro e w4 ⟨B, m, cb, codeB, rfl, hgb, hb4⟩
    have B34 := Lib.hid (keep2 B3a.out hb4)
    have RM4 := Lib.hid (RM3.out.keep B34.out)
    have RN4 := Lib.hid (RN3.out.keep B34.out)
    have GA4 := Lib.hid (GA3.out.keep B34.out)
    have GB4 := Lib.hid hgb
    have X7 := Lib.hid ((Blk.new1 w3 29 (.slice A n c)).keep hb4)
    have B4 := Lib.hid (keep2 B3.out B34.out)
    clear hgb hb4 RM3 RN3 GA3 B3a B34
    obtain ⟨x, hx⟩ : ∃ x, x = val B64 xs := ⟨_, rfl⟩
    obtain ⟨y, hy⟩ : ∃ y, y = val B64 ys := ⟨_, rfl⟩
    rw [← hx] at RM4 GA4
    rw [← hy] at RN4 GB4
    clear hx hy D0 D1
    have B4a : Hid (Below w4.heap.size w4 (w4.alloc (.cells #[.slice B m cb] 29))) := Lib.hid ((Below.refl _ _).alloc (Nat.le_refl _) _)
    have X9 := Lib.hid (Blk.new1 w4 29 (.slice B m cb))
    rcases GA4.out with ⟨hxl, rfl, hra⟩ | ⟨hxl, rfl, rfl, rfl, rfl⟩
    · rcases GB4.out with ⟨hyl, rfl, hrb⟩ | ⟨hyl, rfl, rfl, rfl, rfl⟩
      · have hn64 : n ≤ 64 := (hra.len_le (by decide) 64).2 hxl
        have hm64 : m ≤ 64 := (hrb.len_le (by decide) 64).2 hyl
        have XL := Lib.hid hxl
        have YL := Lib.hid hyl
        have F4 : Hid (Four (w4.alloc (.cells #[.slice B m cb] 29)) A n c B m cb M nm cm N nn cn x y) := Lib.hid ⟨hra.keep B4a.out, hrb.keep B4a.out, RM4.out.keep B4a.out, RN4.out.keep B4a.out⟩
        have X7a := X7.out.keep B4a.out
        have hx7 := X7a.cell0
        have X7b := Lib.hid X7a
        clear hxl hyl hra hrb GA4 GB4 RM4 RN4 X7a
        go_wp2_with fail
        refine (nat_Add A n c x B m cb y _ F4.out.1 F4.out.2.1 (by omega) (by omega)).mono ?_
        rintro e w5 ⟨E, ne, ce, codeE, rfl, hge, hb5⟩
        have F5 := Lib.hid (F4.out.keep hb5)
        have X7c := Lib.hid (X7b.out.keep hb5)
        have X9c := Lib.hid (X9.out.keep hb5)
        have GE := Lib.hid hge
        have B5 := Lib.hid (keep2 (keep2 B4.out B4a.out) hb5)
        clear hge hb5 hx7 X7b X9 F4
        have B5a : Hid (Below w5.heap.size w5 (w5.alloc (.cells #[.slice E ne ce] 29))) := Lib.hid ((Below.refl _ _).alloc (Nat.le_refl _) _)
        have X11 := Lib.hid (Blk.new1 w5 29 (.slice E ne ce))
        have hx7 := (X7c.out.keep B5a.out).cell0
        have hx9 := (X9c.out.keep B5a.out).cell0
        go_wp2_with fail
        refine (nat_Mul A n c x B m cb y _ (F5.out.keep B5a.out).1 (F5.out.keep B5a.out).2.1 (by omega) (by omega)).mono ?_
        rintro e w6 ⟨P, np, cp, codeP, rfl, hgp, hb6⟩
        have B56 := Lib.hid (keep2 B5a.out hb6)
        have F6 := Lib.hid (F5.out.keep B56.out)
        have X7d := Lib.hid (X7c.out.keep B56.out)
        have X9d := Lib.hid (X9c.out.keep B56.out)
        have X11d := Lib.hid (X11.out.keep hb6)
        have GE6 := Lib.hid (GE.out.keep B56.out)
        have GP := Lib.hid hgp
        have B6 := Lib.hid (keep2 B5.out B56.out)
        clear hgp hb6 hx7 hx9 X7c X9c X11 F5 GE
        have B6a : Hid (Below w6.heap.size w6 (w6.alloc (.cells #[.slice P np cp] 29))) := Lib.hid ((Below.refl _ _).alloc (Nat.le_refl _) _)
        have X12 := Lib.hid (Blk.new1 w6 29 (.slice P np cp))
        have FW := Lib.hid (F6.out.keep B6a.out)
        have C7 := Lib.hid (X7d.out.keep B6a.out)
        have C9 := Lib.hid (X9d.out.keep B6a.out)
        have C11 := Lib.hid (X11d.out.keep B6a.out)
        have GEW := Lib.hid (GE6.out.keep B6a.out)
        have GPW := Lib.hid (GP.out.keep B6a.out)
        have BW := Lib.hid (keep2 B6.out B6a.out)
        have SB : Hid (∀ (W : World) (D : Option Addr) (d dc : Nat), Rep .i64 65536 W D d dc (x + y) → d ≤ 4 * (64 + 1)) := Lib.hid (fun W D d dc h => (h.len_le (by omega) (4 * (64 + 1))).2 (by
          have := two_pow_le (M := 64) XL.out YL.out
          rw [B64_16] at this
          exact this))
        have PB : Hid (∀ (W : World) (D : Option Addr) (d dc : Nat), Rep .i64 65536 W D d dc (x * y) → d ≤ 4 * (64 + 64)) := Lib.hid (fun W D d dc h => (h.len_le (by omega) (4 * (64 + 64))).2 (by
          have h1 : x * y < B64 ^ 64 * B64 ^ 64 := Nat.mul_lt_mul'' XL.out YL.out
          rw [← Nat.pow_add, B64_16] at h1
          exact h1))
        go_wp2_with fail
        clear F6 X7d X9d X11d GE6 GP B6 B6a B5 B5a B4 B4a B3 B2 B1 B0 B56 S0 S1
        generalize hW : w6.alloc (.cells #[.slice P np cp] 29) = W at *
        have C12 : Hid (Blk W w6.heap.size 29 [.slice P np cp]) := X12
        have HC : Hid (∀ w', Below W.heap.size W w' → w'.cell? ⟨w3.heap.size, 0, none⟩ = some (.slice A n c) ∧ w'.cell? ⟨w4.heap.size, 0, none⟩ = some (.slice B m cb) ∧ w'.cell? ⟨w5.heap.size, 0, none⟩ = some (.slice E ne ce) ∧ w'.cell? ⟨w6.heap.size, 0, none⟩ = some (.slice P np cp)) :=
          Lib.hid (fun w' hb => ⟨(C7.out.keep hb).cell0, (C9.out.keep hb).cell0, (C11.out.keep hb).cell0, (C12.out.keep hb).cell0⟩)
        have HK0 : Hid (Below W.heap.size W W.drew) := Lib.hid ((Below.refl _ _).drew)
        obtain ⟨k7, k9, k11, k12⟩ := HC.out _ (Below.refl _ _)
        clear hW X12
        go_region_held3 (fun w' => w'.cell? ⟨w3.heap.size, 0, none⟩ = some (.slice A n c) ∧ w'.cell? ⟨w4.heap.size, 0, none⟩ = some (.slice B m cb) ∧ w'.cell? ⟨w5.heap.size, 0, none⟩ = some (.slice E ne ce) ∧ w'.cell? ⟨w6.heap.size, 0, none⟩ = some (.slice P np cp))
          (first | exact HC.out _ HK6.out | exact HC.out _ HK5.out | exact HC.out _ HK4.out | exact HC.out _ HK3.out | exact HC.out _ HK2.out | exact HC.out _ HK1.out | exact HC.out _ HK0.out | exact HC.out _ (Below.refl _ _) | (simp [*]; done))
          (first
            | (go_at_call 24
               refine (ref_Add M nm cm x N nn cn y _ (FW.out.keep HK0.out).2.2.1 (FW.out.keep HK0.out).2.2.2 (by omega) (by omega)).mono ?_
               rintro e v1 ⟨D1, d1, dc1, rfl, hr1, hb1⟩
               have HK1 := Lib.hid (keep2 HK0.out hb1)
               have hd1 := SB.out _ _ _ _ hr1
               have HR1 := Lib.hid hr1
               clear hr1 hb1)
            | (go_at_call 11
               with_reducible refine (law_got E ne ce (x + y) codeE D1 d1 dc1 _ (GEW.out.keep HK1.out) HR1.out (by omega)).mono ?_
               rintro e v2 ⟨rfl, hb2⟩
               have HK2 := Lib.hid (keep2 HK1.out hb2)
               clear hb2)
            | (go_at_call 25
               refine (ref_Mul M nm cm x N nn cn y _ (FW.out.keep HK2.out).2.2.1 (FW.out.keep HK2.out).2.2.2 (by omega) (by omega)).mono ?_
               rintro e v3 ⟨D3, d3, dc3, rfl, hr3, hb3⟩
               have HK3 := Lib.hid (keep2 HK2.out hb3)
               have hd3 := PB.out _ _ _ _ hr3
               have HR3 := Lib.hid hr3
               clear hr3 hb3)
            | (go_at_call 11
               with_reducible refine (law_got P np cp (x * y) codeP D3 d3 dc3 _ (GPW.out.keep HK3.out) HR3.out (by omega)).mono ?_
               rintro e v4 ⟨rfl, hb4⟩
               have HK4 := Lib.hid (keep2 HK3.out hb4)
               clear hb4)
            | (go_at_call 26
               refine (nat_Cmp A n c x B m cb y _ (FW.out.keep HK4.out).1 (FW.out.keep HK4.out).2.1).mono ?_
               rintro e v5 ⟨rfl, hb5⟩
               have HK5 := Lib.hid (keep2 HK4.out hb5)
               clear hb5)
            | (go_at_call 27
               refine (ref_Cmp M nm cm x N nn cn y _ (FW.out.keep HK5.out).2.2.1 (FW.out.keep HK5.out).2.2.2).mono ?_
               rintro e v6 ⟨rfl, q6, rfl⟩
               have HK6 : Hid (Below W.heap.size W (v5.drewN q6)) := Lib.hid (Below.drewN HK5.out q6)))
        have F6 := Lib.hid (FW.out.keep HK6.out)
        have B6 := Lib.hid (keep2 BW.out HK6.out)
        obtain ⟨j7, j9, j11, j12⟩ := HC.out _ HK6.out
        clear HK0 HK1 HK2 HK3 HK4 HK5 HK6 HR1 HR3 GEW GPW FW C7 C9 C11 C12 BW HC k7 k9 k11 k12 j11 j12
        generalize v5.drewN q6 = V at *
        go_wp2_with fail
        refine (nat_Sub A n c x B m cb y _ F6.out.1 F6.out.2.1 (by omega) XL.out).mono ?_
        rintro e w7 ⟨G, ng, cg, codeG, rfl, hb7, hcase⟩
        have F7 := Lib.hid (F6.out.keep hb7)
        have B7 := Lib.hid (keep2 B6.out hb7)
        have HCASE := Lib.hid hcase
        have B7a : Hid (Below w7.heap.size w7 (w7.alloc (.cells #[.slice G ng cg] 29))) := Lib.hid ((Below.refl _ _).alloc (Nat.le_refl _) _)
        have X13 := Lib.hid (Blk.new1 w7 29 (.slice G ng cg))
        clear hb7 hcase F6 B6 j7 j9
        go_wp2_with fail
        refine (ref_Cmp M nm cm x N nn cn y _ (F7.out.keep B7a.out).2.2.1 (F7.out.keep B7a.out).2.2.2).mono ?_
        rintro e w8 ⟨rfl, q8, rfl⟩
        by_cases hlt : x < y
        · rw [cmpN_lt hlt]
          rcases HCASE.out with ⟨_, rfl, rfl⟩ | ⟨h, _⟩
          · go_wp2_with fail
            refine (law_Awake _).mono ?_
            rintro e w9 ⟨rfl, hb9⟩
            have hx13 := ((X13.out.drewN q8).keep hb9).cell0
            have B9 := Lib.hid (keep2 (keep2 B7.out (Below.drewN B7a.out q8)) hb9)
            clear hb9
            go_wp2_with fail
            refine (nat_Zero _ _ _ _).mono ?_
            rintro e w10 ⟨rfl, hb10⟩
            have B10 := Lib.hid (keep2 B9.out hb10)
            clear hb10
            go_wp2
            go_ret
            exact ⟨rfl, B10.out⟩
          · omega
        · rcases HCASE.out with ⟨h, _⟩ | ⟨hyx, rfl, hrg⟩
          · omega
          · have hc0 : decide (cmpN x y < 0) = false := by
              unfold cmpN; rw [if_neg hlt]; split <;> decide
            obtain ⟨cz, hcz⟩ : ∃ cz, cz = cmpN x y := ⟨_, rfl⟩
            rw [← hcz] at hc0 ⊢
            have hc1 : ¬ cz < 0 := of_decide_eq_false hc0
            have F8 := Lib.hid (F7.out.keep (Below.drewN B7a.out q8))
            have RG := Lib.hid (hrg.keep (Below.drewN B7a.out q8))
            have X13b := Lib.hid (X13.out.drewN q8)
            have B8 := Lib.hid (keep2 B7.out (Below.drewN B7a.out q8))
            have hng : ng ≤ 64 := (hrg.len_le (by decide) 64).2 (Nat.lt_of_le_of_lt (Nat.sub_le _ _) XL.out)
            clear hcz hrg F7 B7 B7a X13 HCASE
            go_wp2_with fail
            generalize (w7.alloc (.cells #[.slice G ng cg] 29)).drewN q8 = V8 at *
            have HC : Hid (∀ w', Below V8.heap.size V8 w' → w'.cell? ⟨w7.heap.size, 0, none⟩ = some (.slice G ng cg)) := Lib.hid (fun w' hb => (X13b.out.keep hb).cell0)
            have HK0 : Hid (Below V8.heap.size V8 V8.drew) := Lib.hid ((Below.refl _ _).drew)
            have k13 := HC.out _ (Below.refl _ _)
            go_region_held3 (fun w' => w'.cell? ⟨w7.heap.size, 0, none⟩ = some (.slice G ng cg))
              (first | exact HC.out _ HK3.out | exact HC.out _ HK2.out | exact HC.out _ HK1.out | exact HC.out _ HK0.out | exact HC.out _ (Below.refl _ _) | (simp [*]; done))
              (first
                | (go_at_call 8
                   refine (law_Awake _).mono ?_
                   rintro e v1 ⟨rfl, hb1⟩
                   have HK1 := Lib.hid (keep2 HK0.out hb1)
                   clear hb1)
                | (go_at_call 29
                   refine (ref_Sub M nm cm x N nn cn y _ (F8.out.keep HK1.out).2.2.1 (F8.out.keep HK1.out).2.2.2 (by omega) hyx).mono ?_
                   rintro e v2 ⟨D2, d2, dc2, rfl, hr2, hb2⟩
                   have HK2 := Lib.hid (keep2 HK1.out hb2)
                   have HR2 := Lib.hid hr2
                   clear hr2 hb2)
                | (go_at_call 21
                   refine (law_Is G ng cg (x - y) D2 d2 dc2 (x - y) _ (RG.out.keep HK2.out) (by omega) HR2.out).mono ?_
                   rintro e v3 ⟨rfl, hb3⟩
                   have HK3 := Lib.hid (keep2 HK2.out hb3)
                   rw [show decide (x - y = x - y) = true from by simp]
                   clear hb3))
            go_wp2
            go_ret
            exact ⟨rfl, keep2 B8.out HK3.out⟩
      · have hbx := Lim_bl.1 hxl
        have hby : ¬ bl y ≤ 4096 := fun e => by have := Lim_bl.2 e; omega
        have RM := Lib.hid (RM4.out.keep B4a.out)
        have RN := Lib.hid (RN4.out.keep B4a.out)
        have BB := Lib.hid (keep2 B4.out B4a.out)
        clear hxl hyl hra GA4 GB4 RM4 RN4
        go_wp2_with fail
        refine (law_Awake _).mono ?_
        rintro e w9 ⟨rfl, hb9⟩
        have RM9 := Lib.hid (RM.out.keep hb9)
        have RN9 := Lib.hid (RN.out.keep hb9)
        have B9 := Lib.hid (keep2 BB.out hb9)
        clear hb9
        go_wp2_with fail
        refine (ref_Bits M nm cm x _ RM9.out (by omega)).mono ?_
        rintro e w10 ⟨rfl, rfl⟩
        go_wp2_with fail
        refine (ref_Bits N nn cn y _ RN9.out (by omega)).mono ?_
        rintro e w11 ⟨rfl, rfl⟩
        have hor : (decide ((4096 : Int) < (bl x : Int)) || decide ((4096 : Int) < (bl y : Int))) = true := by simp; omega
        go_wp2
        go_ret
        exact ⟨rfl, B9.out⟩
    · have hbx : ¬ bl x ≤ 4096 := fun e => by have := Lim_bl.2 e; omega
      have RM := Lib.hid (RM4.out.keep B4a.out)
      have BB := Lib.hid (keep2 B4.out B4a.out)
      clear hxl GA4 GB4 RM4 RN4
      go_wp2_with fail
      refine (law_Awake _).mono ?_
      rintro e w9 ⟨rfl, hb9⟩
      have RM9 := Lib.hid (RM.out.keep hb9)
      have B9 := Lib.hid (keep2 BB.out hb9)
      clear hb9
      go_wp2_with fail
      refine (ref_Bits M nm cm x _ RM9.out (by omega)).mono ?_
      rintro e w10 ⟨rfl, rfl⟩
      go_wp2
      go_ret
      exact ⟨rfl, B9.out⟩
  · have hdc : decide (len0 ≤ 70 ∧ len1 ≤ 70) = false := by simpa using h70
    clear hs0 hs1 hd0 hd1 w0 w1
    go_enter Try.func5, Try.ntmps5
    go_wp2_with fail
    refine (few2 w a0 len0 cap0 a1 len1 cap1).mono ?_
    rintro e w' ⟨rfl, rfl⟩
    rw [hdc]
    go_wp2_with fail
    refine (law_Awake _).mono ?_
    rintro e w10 ⟨rfl, hb10⟩
    have HB10 := Lib.hid hb10
    clear hb10
    go_wp2
    go_ret
    exact ⟨rfl, ((Below.refl _ _).alloc (Nat.le_refl _) _).trans (HB10.out.mono (by simp))⟩

end Go.Proofs.Ytliligfhckampaa
