/- The contract of nat's Shr. -/
import Derived.Test.YtmjinhieeflkgaaQuoMathB
import Derived.Test.YtmjinhieeflkgaaShl
namespace Go.Proofs.Ytmjinhieeflkgaa
open Go.RowKit

theorem drop_valS (xs : List Nat) (q : Nat) (hd : Dig B64 xs) (hq : q ≤ xs.length) : val B64 (xs.drop q) = val B64 xs / B64 ^ q := by
  have h1 : val B64 xs = val B64 (xs.take q) + B64 ^ q * val B64 (xs.drop q) := by
    conv => lhs; rw [← List.take_append_drop q xs]
    rw [val_append, List.length_take, Nat.min_eq_left hq]
  have h2 := val_lt (hd.take q)
  rw [List.length_take, Nat.min_eq_left hq] at h2
  rw [h1, Nat.add_mul_div_left _ _ (Nat.pow_pos B64_pos), Nat.div_eq_of_lt h2, Nat.zero_add]

theorem Sl.drop {k : IntKind} {w : World} {b off n c q : Nat} {xs : List Nat} (h : Sl k w (some ⟨b, off, none⟩) n c xs) (hq : q < n) : Sl k w (some ⟨b, off + q, none⟩) (n - q) (c - q) (xs.drop q) := by
  obtain ⟨h1, h2, h3, h4⟩ := h
  refine ⟨by rw [List.length_drop, h1], by omega, by omega, fun _ => ⟨b, off + q, rfl, fun j hj => ?_⟩⟩
  obtain ⟨b', off', e, hc⟩ := h4 (by omega)
  injection e with e
  injection e with e1 e2
  subst e1 e2
  have := hc (q + j) (by omega)
  rw [← Nat.add_assoc] at this
  rw [this]
  congr 3
  simp [List.getD_eq_getElem?_getD, List.getElem?_drop]

theorem nat_Shr_neg (A : Option Addr) (n c : Nat) (k : Int) (hk : k < 0) (w : World) :
    Calls Try.prog 10 #[.agg #[.slice A n c], .int .i64 k] w fun e w' => e = .returned (.tuple #[.agg #[.slice none 0 0], .int .i64 5]) ∧ Below w.heap.size w w' := by
  go_enter Try.func10, Try.ntmps10
  obtain ⟨b1, b2, hB⟩ := two_boxes w 29 (.slice A n c) (.slice none 0 0)
  have hx2 := b2.cell0
  have hf2 := b2.frozen 0
  have HB := Lib.hid hB
  clear b1 b2 hB
  go_wp2
  exact bodyPost_ret (v := .tuple #[.agg #[.slice none 0 0], .int .i64 5]) (by simp [results, Try.results10, go_sem]) rfl ⟨rfl, HB.out⟩

set_option maxHeartbeats 4000000 in
theorem nat_Shr (A : Option Addr) (n c x s : Nat) (w : World) (h : Rep .u64 B64 w A n c x) (hn : n ≤ 1000000000) (hx : x < Lim) :
    Calls Try.prog 10 #[.agg #[.slice A n c], .int .i64 s] w fun e w' => ∃ A' n' c', e = .returned (.tuple #[.agg #[.slice A' n' c'], .int .i64 0]) ∧ Rep .u64 B64 w' A' n' c' (x / 2 ^ s) ∧ Below w.heap.size w w' := by
  have HXN : Hid (bl x ≤ 64 * n) := Lib.hid (bl_le.2 (by rw [Nat.pow_mul, ← B64_pow]; exact (h.len_le (by decide) n).1 (Nat.le_refl _)))
  have HXL := Lib.hid hx
  by_cases hge : bl x ≤ s
  · have HZ : Hid (x / 2 ^ s = 0) := Lib.hid (Nat.div_eq_of_lt (Nat.lt_of_lt_of_le (bl_le.1 (Nat.le_refl _)) (Nat.pow_le_pow_right (by omega) hge)))
    clear hx
    go_enter Try.func10, Try.ntmps10
    obtain ⟨b1, b2, hB⟩ := two_boxes w 29 (.slice A n c) (.slice none 0 0)
    have H2 := Lib.hid b2
    have HB := Lib.hid hB
    have HR := Lib.hid (h.keep hB)
    clear b1 b2 hB h
    go_wp2_with fail
    refine (nat_Bits A n c x _ HR.out (by omega)).mono ?_
    rintro e w2 ⟨rfl, hb2⟩
    have L2 := H2.out.keep hb2
    have hx2 := L2.cell0
    have hf2 := L2.frozen 0
    have hst := L2.stored (.slice none 0 0)
    have HB2 := Lib.hid (HB.out.trans (hb2.mono HB.out.size))
    clear hb2 L2
    go_wp2
    exact bodyPost_ret (v := .tuple #[.agg #[.slice none 0 0], .int .i64 0]) (by simp [results, Try.results10, go_sem, hst]) rfl
      ⟨_, _, _, rfl, by rw [HZ.out]; exact Rep.zero _ _ _, HB2.out.setCell (by simp) _⟩
  · have hlt : ¬ bl x ≤ s := hge
    obtain ⟨q, hq⟩ : ∃ q, q = s / 64 := ⟨_, rfl⟩
    obtain ⟨r, hr⟩ : ∃ r, r = s % 64 := ⟨_, rfl⟩
    have hr64 : r < 64 := by omega
    have hqn : q < n := by have := HXN.out; omega
    have HSR : Hid (s = 64 * q + r) := Lib.hid (by omega)
    have hqx : (s : Int) / 64 = (q : Int) := by omega
    have hrx : (s : Int) % 64 = (r : Int) := by omega
    have hsb : s ≤ 64000000000 := by have := HXN.out; omega
    have hncap := h.le
    have hcq : ¬ c = q := by omega
    obtain ⟨xs, h1, h2, h3, h4⟩ := h
    obtain ⟨b, off, rfl, hbl, _⟩ := h1.block (by omega)
    have HR0 : Hid (Rep .u64 B64 w (some ⟨b, off, none⟩) n c x) := Lib.hid ⟨xs, h1, h2, h3, h4⟩
    have H1 := Lib.hid h1
    have H4 := Lib.hid h4
    have HL := Lib.hid h1.1
    clear h1 h3 h4 hx hq hr hge
    go_enter Try.func10, Try.ntmps10
    obtain ⟨b1, b2, hB⟩ := two_boxes w 29 (.slice (some ⟨b, off, none⟩) n c) (.slice none 0 0)
    have K1 := Lib.hid b1
    have K2 := Lib.hid b2
    have HB := Lib.hid hB
    have HR := Lib.hid (HR0.out.keep hB)
    clear b1 b2 hB
    go_wp2_with fail
    refine (nat_Bits _ n c x _ HR.out (by omega)).mono ?_
    rintro e w2 ⟨rfl, hb2⟩
    have L2 := Lib.hid (K2.out.keep hb2)
    have hx1 := (K1.out.keep hb2).cell0
    have HB2 := Lib.hid (HB.out.trans (hb2.mono HB.out.size))
    have HS2 := Lib.hid ((H1.out.keep HB2.out).drop hqn)
    clear hb2
    go_wp2_with fail
    refine (nat_clone _ (n - q) (c - q) (xs.drop q) _ HS2.out (by omega)).mono ?_
    rintro e w3 ⟨g, rfl, hg, hblk, hb3⟩
    have HBL := Lib.hid hblk
    have M2 := Lib.hid (L2.out.keep hb3)
    have HB3 := Lib.hid (HB2.out.trans (hb3.mono HB2.out.size))
    have hgw : w.heap.size ≤ g := Nat.le_trans HB2.out.size hg
    have hgr : w.heap.size + 1 < g := Nat.lt_of_lt_of_le L2.out.lt hg
    clear hblk hb3 hx1
    go_wp2_with fail
    refine (nat_lower g 0 (n - q) (n - q) r [] (xs.drop q) [] _ (by rw [List.append_nil]; exact HBL.out) rfl (by rw [List.length_drop, HL.out]) (h2.drop q) (by omega) hr64).mono ?_
    rintro e w4 ⟨zs, rfl, hb4, hl4, hd4, hv4, hg4⟩
    have HV : Hid (val B64 zs = x / 2 ^ s) := Lib.hid (by
      rw [hv4, drop_valS xs q h2 (by rw [HL.out]; omega), H4.out, Nat.div_div_eq_div_mul, HSR.out, Nat.pow_add, Nat.pow_mul, ← B64_pow])
    have HSL : Hid (Sl .u64 w4 (some ⟨g, 0, none⟩) (n - q) (n - q) zs) := Lib.hid (by
      rw [List.nil_append, List.append_nil] at hb4
      exact Sl.of_blk0 hb4 hl4 (Nat.le_refl _) (by omega))
    have N2 := Lib.hid (M2.out.grown hg4 (by intro e; injection e with e; omega))
    have HB4 : Hid (Below w.heap.size w w4) := Lib.hid (HB3.out.grown hg4 HB3.out.size (fun k hk => by cases hk; exact hgw))
    clear hb4 hl4 hv4 hg4
    go_wp2_with fail
    refine (nat_made _ _ _ zs _ HSL.out hd4).mono ?_
    rintro e w5 ⟨A3, n3, c3, code, rfl, hgot, hb5⟩
    rw [HV.out] at hgot
    obtain ⟨rfl, hr3⟩ := hgot.ok (Nat.lt_of_le_of_lt (Nat.div_le_self _ _) HXL.out)
    have P2 := N2.out.keep hb5
    have hx2 := P2.cell0
    have hf2 := P2.frozen 0
    have hst := P2.stored (.slice A3 n3 c3)
    have HR3 := Lib.hid hr3
    have HB5 := Lib.hid (HB4.out.trans (hb5.mono HB4.out.size))
    clear P2 hgot hb5 hr3
    go_wp2
    exact bodyPost_ret (v := .tuple #[.agg #[.slice A3 n3 c3], .int .i64 0]) (by simp [results, Try.results10, go_sem, hst]) rfl
      ⟨_, _, _, rfl, HR3.out.setCell hx2 (fun i e => by cases e) _, HB5.out.setCell (by simp) _⟩

end Go.Proofs.Ytmjinhieeflkgaa
