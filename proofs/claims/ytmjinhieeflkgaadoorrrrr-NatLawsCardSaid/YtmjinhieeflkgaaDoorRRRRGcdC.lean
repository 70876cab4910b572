/- The contract of nat's oddGcd. -/
import Derived.Test.YtmjinhieeflkgaaDoorRRRRGcdB
import Derived.Test.YtmjinhieeflkgaaDoorRRRRCarryB
namespace Go.Proofs.YtmjinhieeflkgaaDoorRRRR
open Go.RowKit

/-- A number's words as they lie in a block that the call may write into. -/
def Opd (w : World) (g f n c x : Nat) : Prop :=
  ∃ (ps xs : List Nat) (rest : List Value), Blk w g 43 (nums .u64 (ps ++ xs) ++ rest) ∧ ps.length = f ∧ xs.length = n ∧ Dig B64 xs ∧ trimL xs = xs ∧ n ≤ c ∧ (c : Int) ≤ 9223372036854775807 ∧ n ≤ 1000000000 ∧ val B64 xs = x
/-- What lies in other blocks than these two stays. -/
def Others (w w' : World) (a b : Nat) : Prop := w.heap.size ≤ w'.heap.size ∧ ∀ j, j < w.heap.size → j ≠ a → j ≠ b → w'.heap[j]? = w.heap[j]?
theorem Others.refl (w : World) (a b : Nat) : Others w w a b := ⟨Nat.le_refl _, fun _ _ _ _ => rfl⟩
theorem Others.grown {w w1 w2 : World} {a b g : Nat} (h : Others w w1 a b) (hg : w1.grownBy w2 (some g)) (he : g = a ∨ g = b) : Others w w2 a b :=
  ⟨Nat.le_trans h.1 hg.size, fun j hj ha hb => (hg.block j (Nat.lt_of_lt_of_le hj h.1) (by intro e; injection e with e; omega)).trans (h.2 j hj ha hb)⟩
theorem Tz.of_below {w w' : World} {B : Nat} (h : Tz w) (hb : Below B w w') (hB : 0 < B) : Tz w' := fun j hj => (hb.cell (p := ⟨0, j, none⟩) hB).trans (h j hj)

set_option maxHeartbeats 4000000 in
theorem nat_oddGcd (ga0 fa0 na0 ca0 x gb0 fb0 nb0 cb0 y B : Nat) (w0 w : World) (ha : Opd w ga0 fa0 na0 ca0 x) (hb : Opd w gb0 fb0 nb0 cb0 y) (hx : ∃ m, x = 2 * m + 1) (hy : ∃ m, y = 2 * m + 1) (hne : ga0 ≠ gb0) (hBa : B ≤ ga0) (hBb : B ≤ gb0)
    (hbel : Below B w0 w) (hsz0 : B ≤ w.heap.size) (htz : Tz w0) (htB : 0 < B) :
    Calls Tryd.prog 28 #[.slice (some ⟨ga0, fa0, none⟩) na0 ca0, .slice (some ⟨gb0, fb0, none⟩) nb0 cb0] w fun e w' => ∃ (A' : Option Addr) (n' c' : Nat) (zs : List Nat), e = .returned (.slice A' n' c') ∧
      Sl .u64 w' A' n' c' zs ∧ Dig B64 zs ∧ val B64 zs = Nat.gcd x y ∧ Below B w0 w' ∧ Others w w' ga0 gb0 := by
  have HA := Lib.hid ha
  have HB := Lib.hid hb
  have HX := Lib.hid hx
  have HY := Lib.hid hy
  have HW := Lib.hid hbel
  have HS := Lib.hid hsz0
  clear ha hb hx hy hbel hsz0
  go_enter Tryd.func28, Tryd.ntmps28
  go_wp2
  go_loopg [0, 1] (x + y) (fun k av bv wr => ∃ (ga fa na ca X gb fb nb cb Y : Nat), av = .slice (some ⟨ga, fa, none⟩) na ca ∧ bv = .slice (some ⟨gb, fb, none⟩) nb cb ∧ ga ≠ gb ∧ B ≤ ga ∧ B ≤ gb ∧ Hid (k = X + Y) ∧ Hid (Opd wr ga fa na ca X) ∧ Hid (Opd wr gb fb nb cb Y) ∧
      Hid (∃ m, X = 2 * m + 1) ∧ Hid (∃ m, Y = 2 * m + 1) ∧ Hid (Nat.gcd X Y = Nat.gcd x y) ∧ Hid (Below B w0 wr) ∧ Hid (B ≤ wr.heap.size) ∧ ((ga = ga0 ∧ gb = gb0) ∨ (ga = gb0 ∧ gb = ga0)) ∧ Hid (Others w wr ga0 gb0))
  case atStart => exact ⟨ga0, fa0, na0, ca0, x, gb0, fb0, nb0, cb0, y, rfl, rfl, hne, hBa, hBb, Lib.hid rfl, HA, HB, HX, HY, Lib.hid rfl, HW, HS, .inl ⟨rfl, rfl⟩, Lib.hid (Others.refl _ _ _)⟩
  case round =>
    clear HA HB HX HY HW HS hne hBa hBb
    obtain ⟨ga, fa, na, ca, X, gb, fb, nb, cb, Y, rfl, rfl, hne, hBa, hBb, hK, hA, hB, hOX, hOY, hG, hW0, hsz, hwho, hot0⟩ := hrel
    have HWHO := Lib.hid hwho
    clear hwho
    have HRA : Hid (Rep .u64 B64 wr (some ⟨ga, fa, none⟩) na ca X) := Lib.hid (by
      obtain ⟨ps, xs, rest, h1, h2, h3, h4, h5, h6, h7, h8, h9⟩ := hA.out
      exact ⟨xs, h1.slAt h2 h3 h6 h7, h4, h5, h9⟩)
    have HRB : Hid (Rep .u64 B64 wr (some ⟨gb, fb, none⟩) nb cb Y) := Lib.hid (by
      obtain ⟨ps, xs, rest, h1, h2, h3, h4, h5, h6, h7, h8, h9⟩ := hB.out
      exact ⟨xs, h1.slAt h2 h3 h6 h7, h4, h5, h9⟩)
    go_wp2_with fail
    refine (nat_compare _ na ca X _ nb cb Y _ HRA.out HRB.out).mono ?_
    rintro e w1 ⟨rfl, q, rfl⟩
    have hA1 : Hid (Opd (wr.drewN q) ga fa na ca X) := hA
    have hB1 : Hid (Opd (wr.drewN q) gb fb nb cb Y) := hB
    have hW : Hid (Below B w0 (wr.drewN q)) := Lib.hid (Below.drewN hW0.out q)
    have hsz1 : Hid (B ≤ (wr.drewN q).heap.size) := hsz
    have hot : Hid (Others w (wr.drewN q) ga0 gb0) := hot0
    generalize World.drewN wr q = w1 at hA1 hB1 hW hsz1 hot ⊢
    clear hA hB hW0 hsz HRA HRB hot0
    have hsz := hsz1
    clear hsz1
    rcases Nat.lt_trichotomy X Y with hlt | heq | hlt
    · rw [cmpN_lt hlt]
      obtain ⟨pa, xa, ra, a1, a2, a3, a4, a5, a6, a7, a9, a8⟩ := hA1.out
      obtain ⟨pb, xb, rb, b1, b2, b3, b4, b5, b6, b7, b9, b8⟩ := hB1.out
      clear hA1 hB1
      have hnn : na ≤ nb := by
        have h1 := val_lt b4
        rw [b3, b8] at h1
        have := (trim_len_le (k := nb) (by decide) a4 a5).2 (by rw [a8]; omega)
        rw [a3] at this
        exact this
      have HA1 := Lib.hid b1
      have HB1 := Lib.hid a1
      have HA2 := Lib.hid b2
      have HB2 := Lib.hid a2
      have HA3 := Lib.hid b3
      have HB3 := Lib.hid a3
      have HA5 := Lib.hid b5
      have HB5 := Lib.hid a5
      have HA8 := Lib.hid b8
      have HB8 := Lib.hid a8
      have HLT := Lib.hid hlt
      have HSB := Lib.hid (a1.slAt a2 a3 a6 a7)
      clear b1 a1 b2 a2 b3 a3 b5 a5 b8 a8 hlt
      go_wp2_with fail
      refine (nat_subAt gb fb nb cb na ca (some ⟨ga, fa, none⟩) pb xb xa rb _ HA1.out HA2.out HA3.out b4 (by omega) HSB.out a4 hnn (fun _ b' o' e => by
        injection e with e
        injection e with e
        omega)).mono ?_
      rintro e w2 ⟨zs, cy, rfl, hb2, hl2, hd2, hcy, hv2, hg2⟩
      have hval : val B64 zs = Y - X := by
        have hb := val_lt hd2
        rw [hl2] at hb
        rw [HA8.out, HB8.out] at hv2
        have := HLT.out
        rcases Nat.eq_zero_or_pos cy with rfl | hp
        · omega
        · have : B64 ^ nb * 1 ≤ B64 ^ nb * cy := Nat.mul_le_mul_left _ hp
          omega
      have HVAL := Lib.hid hval
      have HPOS : Hid (0 < val B64 zs) := Lib.hid (by rw [hval]; have := HLT.out; omega)
      have HW2 := Lib.hid (hW.out.grown hg2 hsz.out (fun k hk => by cases hk; exact hBb))
      have HT2 : Hid (Tz w2) := Lib.hid (htz.of_below HW2.out htB)
      have HBK := Lib.hid (HB1.out.grown hg2 (by intro e; injection e with e; omega))
      have HBL := Lib.hid hb2
      have HLL := Lib.hid hl2
      have HSZ2 := Lib.hid (Nat.le_trans hsz.out hg2.size)
      clear hb2 hl2 hv2 hval hcy
      go_wp2_with fail
      refine (nat_halve gb fb nb cb pb zs rb _ HBL.out HA2.out HLL.out hd2 (by omega) b6 b7 HPOS.out HT2.out (by omega)).mono ?_
      rintro e w3 ⟨f', n', c', t, M, ps', us, rest', rfl, hb3, hp3, hl3, hd3, ht3, hn3, hc3, hc4, hv3, hv4, hg3⟩
      have HW3 := Lib.hid (HW2.out.grown hg3 HSZ2.out (fun k hk => by cases hk; exact hBb))
      have HSZ3 := Lib.hid (Nat.le_trans HSZ2.out hg3.size)
      have HOT3 := Lib.hid ((hot.out.grown hg2 (by have := HWHO.out; omega)).grown hg3 (by have := HWHO.out; omega))
      have HOP : Hid (Opd w3 gb f' n' c' (2 * M + 1)) := Lib.hid ⟨ps', us, rest', hb3, hp3, hl3, hd3, ht3, hc3, hc4, by omega, hv4⟩
      have HOB : Hid (Opd w3 ga fa na ca X) := Lib.hid ⟨pa, xa, ra, HBK.out.grown hg3 (by intro e; injection e with e; omega), HB2.out, HB3.out, a4, HB5.out, a6, a7, a9, HB8.out⟩
      rw [HVAL.out] at hv3
      have HG : Hid (Nat.gcd (2 * M + 1) X = Nat.gcd x y) := Lib.hid (by
        obtain ⟨j, hj⟩ := hOX.out
        rw [gcd_odd_sub (Nat.le_of_lt HLT.out) hj hv3]
        rw [Nat.gcd_comm]; exact hG.out)
      have HME : Hid (2 * M + 1 + X < gk) := Lib.hid (by
        have h5 : 2 * M + 1 ≤ 2 ^ t * (2 * M + 1) := Nat.le_mul_of_pos_left _ (Nat.two_pow_pos t)
        obtain ⟨j, hj⟩ := hOX.out
        have := hK.out
        have := HLT.out
        omega)
      clear hb3 hp3 hl3 hd3 ht3 hn3 hc3 hc4 hv3 hv4 hg3 hg2
      go_wp2
      go_roundg (2 * M + 1 + X)
      case measure => exact HME.out
      case rel => exact ⟨gb, f', n', c', 2 * M + 1, ga, fa, na, ca, X, rfl, rfl, by omega, hBb, hBa, Lib.hid rfl, HOP, HOB, Lib.hid ⟨M, rfl⟩, hOX, HG, HW3, HSZ3, by have := HWHO.out; omega, HOT3⟩
    · obtain ⟨pa, xa, ra, a1, a2, a3, a4, a5, a6, a7, a9, a8⟩ := hA1.out
      have HSL := Lib.hid (a1.slAt a2 a3 a6 a7)
      have HV : Hid (val B64 xa = Nat.gcd x y) := Lib.hid (by rw [a8, ← hG.out, ← heq, Nat.gcd_self])
      have he : cmpN X Y = 0 := cmpN_zero.2 heq
      rw [he]
      clear a1 a2 a3 a5 a8 hA1 hB1 he heq hG hK
      go_wp2
      go_ret
      exact ⟨_, _, _, xa, rfl, HSL.out, a4, HV.out, hW.out, hot.out⟩
    · rw [cmpN_gt hlt]
      obtain ⟨pa, xa, ra, a1, a2, a3, a4, a5, a6, a7, a9, a8⟩ := hA1.out
      obtain ⟨pb, xb, rb, b1, b2, b3, b4, b5, b6, b7, b9, b8⟩ := hB1.out
      clear hA1 hB1
      have hnn : nb ≤ na := by
        have h1 := val_lt a4
        rw [a3, a8] at h1
        have := (trim_len_le (k := na) (by decide) b4 b5).2 (by rw [b8]; omega)
        rw [b3] at this
        exact this
      have HA1 := Lib.hid a1
      have HB1 := Lib.hid b1
      have HA2 := Lib.hid a2
      have HB2 := Lib.hid b2
      have HA3 := Lib.hid a3
      have HB3 := Lib.hid b3
      have HA5 := Lib.hid a5
      have HB5 := Lib.hid b5
      have HA8 := Lib.hid a8
      have HB8 := Lib.hid b8
      have HLT := Lib.hid hlt
      have HSB := Lib.hid (b1.slAt b2 b3 b6 b7)
      clear a1 b1 a2 b2 a3 b3 a5 b5 a8 b8 hlt
      go_wp2_with fail
      refine (nat_subAt ga fa na ca nb cb (some ⟨gb, fb, none⟩) pa xa xb ra _ HA1.out HA2.out HA3.out a4 (by omega) HSB.out b4 hnn (fun _ b' o' e => by
        injection e with e
        injection e with e
        omega)).mono ?_
      rintro e w2 ⟨zs, cy, rfl, hb2, hl2, hd2, hcy, hv2, hg2⟩
      have hval : val B64 zs = X - Y := by
        have hb := val_lt hd2
        rw [hl2] at hb
        rw [HA8.out, HB8.out] at hv2
        have := HLT.out
        rcases Nat.eq_zero_or_pos cy with rfl | hp
        · omega
        · have : B64 ^ na * 1 ≤ B64 ^ na * cy := Nat.mul_le_mul_left _ hp
          omega
      have HVAL := Lib.hid hval
      have HPOS : Hid (0 < val B64 zs) := Lib.hid (by rw [hval]; have := HLT.out; omega)
      have HW2 := Lib.hid (hW.out.grown hg2 hsz.out (fun k hk => by cases hk; exact hBa))
      have HT2 : Hid (Tz w2) := Lib.hid (htz.of_below HW2.out htB)
      have HBK := Lib.hid (HB1.out.grown hg2 (by intro e; injection e with e; omega))
      have HBL := Lib.hid hb2
      have HLL := Lib.hid hl2
      have HSZ2 := Lib.hid (Nat.le_trans hsz.out hg2.size)
      clear hb2 hl2 hv2 hval hcy
      go_wp2_with fail
      refine (nat_halve ga fa na ca pa zs ra _ HBL.out HA2.out HLL.out hd2 (by omega) a6 a7 HPOS.out HT2.out (by omega)).mono ?_
      rintro e w3 ⟨f', n', c', t, M, ps', us, rest', rfl, hb3, hp3, hl3, hd3, ht3, hn3, hc3, hc4, hv3, hv4, hg3⟩
      have HW3 := Lib.hid (HW2.out.grown hg3 HSZ2.out (fun k hk => by cases hk; exact hBa))
      have HSZ3 := Lib.hid (Nat.le_trans HSZ2.out hg3.size)
      have HOT3 := Lib.hid ((hot.out.grown hg2 (by have := HWHO.out; omega)).grown hg3 (by have := HWHO.out; omega))
      have HOP : Hid (Opd w3 ga f' n' c' (2 * M + 1)) := Lib.hid ⟨ps', us, rest', hb3, hp3, hl3, hd3, ht3, hc3, hc4, by omega, hv4⟩
      have HOB : Hid (Opd w3 gb fb nb cb Y) := Lib.hid ⟨pb, xb, rb, HBK.out.grown hg3 (by intro e; injection e with e; omega), HB2.out, HB3.out, b4, HB5.out, b6, b7, b9, HB8.out⟩
      rw [HVAL.out] at hv3
      have HG : Hid (Nat.gcd (2 * M + 1) Y = Nat.gcd x y) := Lib.hid (by
        obtain ⟨j, hj⟩ := hOY.out
        rw [gcd_odd_sub (Nat.le_of_lt HLT.out) hj hv3]
        exact hG.out)
      have HME : Hid (2 * M + 1 + Y < gk) := Lib.hid (by
        have h5 : 2 * M + 1 ≤ 2 ^ t * (2 * M + 1) := Nat.le_mul_of_pos_left _ (Nat.two_pow_pos t)
        obtain ⟨j, hj⟩ := hOY.out
        have := hK.out
        have := HLT.out
        omega)
      clear hb3 hp3 hl3 hd3 ht3 hn3 hc3 hc4 hv3 hv4 hg3 hg2
      go_wp2
      go_roundg (2 * M + 1 + Y)
      case measure => exact HME.out
      case rel => exact ⟨ga, f', n', c', 2 * M + 1, gb, fb, nb, cb, Y, rfl, rfl, by omega, hBa, hBb, Lib.hid rfl, HOP, HOB, Lib.hid ⟨M, rfl⟩, hOY, HG, HW3, HSZ3, by have := HWHO.out; omega, HOT3⟩

end Go.Proofs.YtmjinhieeflkgaaDoorRRRR
