/- Contracts of nat's From, Of, Zero, Words, Bits, and of math/bits.Len64. -/
import Derived.Test.YtmjinhieeflkgaaNatA
namespace Go.Proofs.Ytmjinhieeflkgaa
open Go.RowKit

theorem nat_From (A : Option Addr) (n c : Nat) (xs : List Nat) (w : World) (h : Sl .u64 w A n c xs) (hd : Dig B64 xs) :
    Calls Try.prog 7 #[.slice A n c] w (RetGot w (val B64 xs)) := by
  have hl := trim_len_le (k := 64) (by decide) (trimL_dig hd) (trimL_idem xs)
  rw [val_trim] at hl
  have hle := trimL_len xs
  have ht := h.take (trimL xs).length (by rw [← h.1]; exact hle)
  rw [← trimL_take] at ht
  have H := Lib.hid h
  have HT := Lib.hid ht
  have HV := Lib.hid (val_trim B64 xs)
  have h2 := h.2.1
  have h3 := h.2.2.1
  have hm : (trimL xs).length ≤ n := by rw [← h.1]; exact hle
  have hdt := trimL_dig hd
  clear h ht
  go_enter Try.func7, Try.ntmps7
  go_wp2_with (go_at_call 21; refine (nat_trim A n c xs _ (H.out.alloc _)).mono ?_; rintro e w' ⟨rfl, rfl⟩)
  · have hbig : 64 < ((trimL xs).length : Int) := by assumption
    exact bodyPost_ret (v := .tuple #[.agg #[.slice none 0 0], .int .i64 1]) (by simp [results, Try.results7, go_sem]) rfl
      ⟨_, _, _, _, rfl, .inr ⟨by unfold Lim; omega, rfl, rfl, rfl, rfl⟩, (Below.refl _ _).alloc (Nat.le_refl _) _⟩
  · have hsm : ((trimL xs).length : Int) ≤ 64 := by assumption
    go_wp2_with fail
    refine (nat_clone A _ c _ _ (HT.out.alloc _) (by omega)).mono ?_
    rintro e w1 ⟨g, rfl, hg, hblk, hb⟩
    go_wp2_with fail
    refine (nat_made _ _ _ (trimL xs) _ (Sl.of_blk0 hblk rfl (Nat.le_refl _) (by omega)) hdt).mono ?_
    rintro e w2 ⟨A2, n2, c2, code, rfl, hgot, hb2⟩
    have hbx := ((Blk.new1 w 29 (.slice none 0 0)).keep hb).keep hb2
    have hx0 := hbx.cell0
    have hx1 := hbx.frozen 0
    have HB := Lib.hid hbx
    have HG := Lib.hid hgot
    have hB2 : Below w.heap.size w w2 := (((Below.refl _ _).alloc (Nat.le_refl _) _).trans (hb.mono (by simp))).trans (hb2.mono (by have := hb.size; simp at this; omega))
    clear hbx hgot hblk
    go_wp2
    have hst := HB.out.stored (.slice A2 n2 c2)
    exact bodyPost_ret (v := .tuple #[.agg #[.slice A2 n2 c2], .int .i64 code]) (by simp [results, Try.results7, go_sem, hst]) rfl
      ⟨_, _, _, _, rfl, by have := HG.out; rw [HV.out] at this; exact this.setCell hx0 (fun i h => by cases h) _, hB2.setCell (Nat.le_refl _) _⟩

theorem nat_Zero (A : Option Addr) (n c : Nat) (w : World) :
    Calls Try.prog 11 #[.agg #[.slice A n c]] w fun e w' => e = .returned (.bool (decide (n = 0))) ∧ Below w.heap.size w w' := by
  go_enter Try.func11, Try.ntmps11
  go_wp2
  go_ret
  exact ⟨ret_bool (by rw [Bool.eq_iff_iff]; simp), (Below.refl _ _).alloc (Nat.le_refl _) _⟩

/-- Words: the words, in new memory. -/
theorem nat_Words (A : Option Addr) (n c x : Nat) (w : World) (h : Rep .u64 B64 w A n c x) (hm2 : n ≤ 1099511627776) :
    Calls Try.prog 35 #[.agg #[.slice A n c]] w fun e w' => ∃ A' n' c', e = .returned (.slice A' n' c') ∧ n' ≤ 1099511627776 ∧ Rep .u64 B64 w' A' n' c' x ∧ Below w.heap.size w w' := by
  obtain ⟨xs, h1, h2, h3, h4⟩ := h
  have hz : Rep .u64 B64 w A n c x := ⟨xs, h1, h2, h3, h4⟩
  have hlen := h1.1
  have H := Lib.hid h1
  have HZ := Lib.hid hz
  have H4 := Lib.hid h4
  clear h1 hz h4
  by_cases h0 : n = 0
  · have hx : x = 0 := (Rep.zero_iff B64_pos HZ.out).1 h0
    subst hx
    subst h0
    go_enter Try.func35, Try.ntmps35
    go_wp2_with (go_at_call 11; refine (nat_Zero _ _ _ _).mono ?_; rintro e w1 ⟨rfl, hb⟩)
    go_ret
    exact ⟨_, _, _, rfl, by omega, Rep.zero _ _ _, (((Below.refl _ _).alloc (Nat.le_refl _) _).trans (hb.mono (by simp)))⟩
  · have hd : decide (n = 0) = false := by simpa using h0
    go_enter Try.func35, Try.ntmps35
    go_wp2_with fail
    refine (nat_Zero _ _ _ _).mono ?_
    rintro e w1 ⟨rfl, hb⟩
    have hbx := (Blk.new1 w 29 (.slice A n c)).keep hb
    have hx0 := hbx.cell0
    have hx1 := hbx.frozen 0
    have hb1 := Lib.hid hb
    have hsz := hb.size
    simp at hsz
    clear hbx hb
    go_wp2_with fail
    refine (nat_clone A _ c xs _ ((H.out.alloc _).keep hb1.out) hm2).mono ?_
    rintro e w2 ⟨g, rfl, hg, hblk, hb2⟩
    have HB := Lib.hid hblk
    clear hblk
    go_wp2
    go_ret
    exact ⟨_, _, _, rfl, by omega, ⟨xs, Sl.of_blk0 HB.out hlen (Nat.le_refl _) (by omega), h2, h3, H4.out⟩,
      (((Below.refl _ _).alloc (Nat.le_refl _) _).trans (hb1.out.mono (by simp))).trans (hb2.mono (by omega))⟩

end Go.Proofs.Ytmjinhieeflkgaa
