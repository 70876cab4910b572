/- Contracts of nat's Bits, Of, Cmp, and of the statements' helpers: Of, Is, got, Few. -/
import Derived.Test.YtmjinhieeflkgaaNatB
import Derived.Test.YtmjinhieeflkgaaRefA
import Derived.Test.YtmjinhieeflkgaaShelf
namespace Go.Proofs.Ytmjinhieeflkgaa
open Go.RowKit

theorem bitLen_bl (x : Nat) (h : x < 2 ^ 64) : Lib.bitLen x = bl x := by
  induction x using Nat.strongRecOn with
  | ind x ih =>
    by_cases h0 : x = 0
    · subst h0; rfl
    · rw [Lib.bitLen_half x h0 h, bl_half (by omega), ih (x / 2) (by omega) (by omega), Nat.add_comm]

theorem bits_Len64 (x : Nat) (w : World) (hx : x < B64) :
    Calls Try.prog 30 #[.int .u64 x] w fun e w' => e = .returned (.int .i64 (bl x : Nat)) ∧ w = w' := by
  refine (Try.bits_Len64 x w (by omega) (by rw [B64_eq] at hx; omega)).mono ?_
  rintro e w' ⟨rfl, rfl⟩
  refine ⟨?_, rfl⟩
  rw [Int.toNat_natCast, bitLen_bl x (by rw [B64_pow] at hx; exact hx)]

theorem nat_Bits (A : Option Addr) (n c x : Nat) (w : World) (h : Rep .u64 B64 w A n c x) (hm2 : n ≤ 1099511627776) :
    Calls Try.prog 16 #[.agg #[.slice A n c]] w fun e w' => e = .returned (.int .i64 (bl x : Nat)) ∧ Below w.heap.size w w' := by
  by_cases h0 : n = 0
  · subst h0
    have hx : x = 0 := (Rep.zero_iff B64_pos h).1 rfl
    subst hx
    clear h
    go_enter Try.func16, Try.ntmps16
    go_wp2_with (go_at_call 11; refine (nat_Zero _ _ _ _).mono ?_; rintro e w1 ⟨rfl, hb⟩)
    go_ret
    exact ⟨rfl, (((Below.refl _ _).alloc (Nat.le_refl _) _).trans (hb.mono (by simp)))⟩
  · obtain ⟨m, rfl⟩ : ∃ m, n = m + 1 := ⟨n - 1, by omega⟩
    obtain ⟨xs, h1, h2, h3, h4⟩ := h
    obtain ⟨b, off, rfl, hbl, hc⟩ := h1.block (by omega)
    have hcell := hc m (by omega)
    have hbits := bl_digits (s := 64) B64_pow h2 h1.1 h3
    have hd := h2.getD B64_pos m
    rw [h4] at hbits
    generalize xs.getD m 0 = d at *
    have HB := Lib.hid hbits.1
    have hX : bl d ≤ 64 := bl_le.2 (by rw [B64_pow] at hd; exact hd)
    have HD := Lib.hid hd
    have hdz : decide (m + 1 = 0) = false := by simp
    clear hbits h1 h2 h3 h4 hc hd
    go_enter Try.func16, Try.ntmps16
    go_wp2_with fail
    refine (nat_Zero _ _ _ _).mono ?_
    rintro e w1 ⟨rfl, hb⟩
    have hbx := (Blk.new1 w 29 (.slice (some ⟨b, off, none⟩) (m + 1) c)).keep hb
    have hx0 := hbx.cell0
    have hcw := (((Below.refl w.heap.size w).alloc (Nat.le_refl _) _).trans (hb.mono (by simp))).cell (p := ⟨b, off + m, none⟩) hbl
    rw [hcell] at hcw
    have HBB := Lib.hid hb
    clear hbx hb
    go_wp2_with (go_at_call 30; refine (bits_Len64 d _ HD.out).mono ?_; rintro e w' ⟨rfl, rfl⟩)
    go_ret
    exact ⟨ret_int (by rw [HB.out]; omega), (((Below.refl _ _).alloc (Nat.le_refl _) _).trans (HBB.out.mono (by simp)))⟩

theorem nat_Of (x : Nat) (w : World) (hx : x < B64) :
    Calls Try.prog 18 #[.int .u64 x] w fun e w' => ∃ A' n' c', e = .returned (.agg #[.slice A' n' c']) ∧ Rep .u64 B64 w' A' n' c' x ∧ Below w.heap.size w w' := by
  have HX := Lib.hid hx
  clear hx
  go_enter Try.func18, Try.ntmps18
  go_wp2_with fail
  have hs : Sl .u64 ((w.alloc (.cells #[.slice none 0 0] 29)).alloc (.cells #[.int .u64 x] 40)) (some ⟨w.heap.size + 1, 0, none⟩) 1 1 [x] := by
    have := Sl.of_blk0 (xs := [x]) (k := .u64) (n := 1) (c := 1) (t := 40) (Blk.new1 (w.alloc (.cells #[.slice none 0 0] 29)) 40 (.int .u64 x)) rfl (by omega) (by omega)
    simpa using this
  have HS := Lib.hid hs
  clear hs
  refine (nat_made _ 1 1 [x] _ HS.out (Dig.cons HX.out (Dig.nil _))).mono ?_
  rintro e w1 ⟨A2, n2, c2, code, rfl, hgot, hb⟩
  have hlim : val B64 [x] < Lim := by
    have h1 := HX.out
    have h2 : B64 ^ 1 ≤ B64 ^ 64 := Nat.pow_le_pow_right B64_pos (by omega)
    rw [Nat.pow_one] at h2
    simp only [val, Nat.mul_zero, Nat.add_zero, Lim]
    omega
  obtain ⟨rfl, hr⟩ := hgot.ok hlim
  have hbx := ((Blk.new1 w 29 (.slice none 0 0)).alloc (.cells #[.int .u64 x] 40)).keep hb
  have hx0 := fun o => (hbx.alloc o).cell0
  have hx1 := fun o => (hbx.alloc o).frozen 0
  have HBX := Lib.hid hbx
  have HB : Below w.heap.size w w1 := (((Below.refl _ _).alloc (Nat.le_refl _) _).alloc (by simp) _).trans (hb.mono (by simp; omega))
  have HR : Rep .u64 B64 w1 A2 n2 c2 x := by simpa [val] using hr
  have HRR := Lib.hid HR
  clear hgot hr hlim hbx hb HR
  have hst := (HBX.out.alloc (.cells #[.slice A2 n2 c2] 29)).stored (.slice A2 n2 c2)
  go_wp2
  exact bodyPost_ret (v := .agg #[.slice A2 n2 c2]) (by simp [results, Try.results18, go_sem, hst]) rfl
    ⟨_, _, _, rfl, (HRR.out.alloc _).setCell (hx0 _) (fun i h => by cases h) _, (HB.alloc HB.size _).setCell (Nat.le_refl _) _⟩

end Go.Proofs.Ytmjinhieeflkgaa
