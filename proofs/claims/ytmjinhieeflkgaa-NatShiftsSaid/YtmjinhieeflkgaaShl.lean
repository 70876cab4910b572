/- The contract of nat's Shl. -/
import Derived.Test.YtmjinhieeflkgaaQuoMathB
import Derived.Test.YtmjinhieeflkgaaShift
import Derived.Deep.RegionLaw
namespace Go.Proofs.Ytmjinhieeflkgaa
open Go.RowKit

theorem lim_bl {x : Nat} : x < Lim ↔ bl x ≤ 4096 := by
  have h : x < Lim ↔ bl x ≤ 64 * 64 := by
    rw [bl_le]
    unfold Lim
    rw [B64_pow, ← Nat.pow_mul]
  exact h

/-- Two boxes behind one another: where a call of one number and one result begins. -/
theorem two_boxes (w : World) (t : TypeId) (a q : Value) :
    Blk ((w.alloc (.cells #[a] t)).alloc (.cells #[q] t)) w.heap.size t [a] ∧ Blk ((w.alloc (.cells #[a] t)).alloc (.cells #[q] t)) (w.heap.size + 1) t [q] ∧
    Below w.heap.size w ((w.alloc (.cells #[a] t)).alloc (.cells #[q] t)) := by
  refine ⟨(Blk.new1 w t a).alloc _, ?_, ((Below.refl _ _).alloc (Nat.le_refl _) _).alloc (by simp) _⟩
  have := Blk.new1 (w.alloc (.cells #[a] t)) t q
  simpa using this

theorem nat_Shl_neg (A : Option Addr) (n c : Nat) (k : Int) (hk : k < 0) (w : World) :
    Calls Try.prog 9 #[.agg #[.slice A n c], .int .i64 k] w fun e w' => e = .returned (.tuple #[.agg #[.slice none 0 0], .int .i64 5]) ∧ Below w.heap.size w w' := by
  go_enter Try.func9, Try.ntmps9
  obtain ⟨b1, b2, hB⟩ := two_boxes w 29 (.slice A n c) (.slice none 0 0)
  have hx2 := b2.cell0
  have hf2 := b2.frozen 0
  have HB := Lib.hid hB
  clear b1 b2 hB
  go_wp2
  exact bodyPost_ret (v := .tuple #[.agg #[.slice none 0 0], .int .i64 5]) (by simp [results, Try.results9, go_sem]) rfl ⟨rfl, HB.out⟩

theorem nat_Shl_zero (A : Option Addr) (c s : Nat) (w : World) (h : Rep .u64 B64 w A 0 c 0) :
    Calls Try.prog 9 #[.agg #[.slice A 0 c], .int .i64 s] w (RetGot w 0) := by
  go_enter Try.func9, Try.ntmps9
  obtain ⟨b1, b2, hB⟩ := two_boxes w 29 (.slice A 0 c) (.slice none 0 0)
  have H1 := Lib.hid b1
  have H2 := Lib.hid b2
  have HB := Lib.hid hB
  have HR := Lib.hid (h.keep hB)
  clear b1 b2 hB h
  have hd : decide ((0 : Nat) = 0) = true := rfl
  go_wp2_with fail
  refine (nat_Zero A 0 c _).mono ?_
  rintro e w1 ⟨rfl, hb1⟩
  have hx1 := (H1.out.keep hb1).cell0
  have K2 := H2.out.keep hb1
  have hx2 := K2.cell0
  have hf2 := K2.frozen 0
  have hst := K2.stored (.slice A 0 c)
  have HB1 := Lib.hid (HB.out.trans (hb1.mono HB.out.size))
  have HR1 := Lib.hid (HR.out.keep hb1)
  clear hb1 K2
  go_wp2
  exact bodyPost_ret (v := .tuple #[.agg #[.slice A 0 c], .int .i64 0]) (by simp [results, Try.results9, go_sem, hst]) rfl
    ⟨_, _, _, _, rfl, .inl ⟨by unfold Lim; exact Nat.pow_pos B64_pos, rfl, HR1.out.setCell hx2 (fun i e => by cases e) _⟩, HB1.out.setCell (by simp) _⟩

theorem nat_Shl_great (A : Option Addr) (n c x s : Nat) (w : World) (h : Rep .u64 B64 w A n c x) (hn : n ≤ 1000000000) (hn0 : 0 < n) (hx : x < Lim) (hg : 4096 < bl x + s) :
    Calls Try.prog 9 #[.agg #[.slice A n c], .int .i64 s] w (RetGot w (x * 2 ^ s)) := by
  have hx0 : x ≠ 0 := fun e => by have := (h.zero_iff B64_pos).2 e; omega
  have HG : Hid (Lim ≤ x * 2 ^ s) := Lib.hid (Nat.le_of_not_lt (fun hl => by rw [lim_bl, bl_shl hx0] at hl; omega))
  have hbx := lim_bl.1 hx
  go_enter Try.func9, Try.ntmps9
  obtain ⟨b1, b2, hB⟩ := two_boxes w 29 (.slice A n c) (.slice none 0 0)
  have H1 := Lib.hid b1
  have H2 := Lib.hid b2
  have HB := Lib.hid hB
  have HR := Lib.hid (h.keep hB)
  clear b1 b2 hB h hx hx0
  have hd : decide (n = 0) = false := decide_eq_false (by omega)
  go_wp2_with fail
  refine (nat_Zero A n c _).mono ?_
  rintro e w1 ⟨rfl, hb1⟩
  have hx1 := (H1.out.keep hb1).cell0
  have K1 := Lib.hid (H1.out.keep hb1)
  have K2 := Lib.hid (H2.out.keep hb1)
  have HB1 := Lib.hid (HB.out.trans (hb1.mono HB.out.size))
  have HR1 := Lib.hid (HR.out.keep hb1)
  clear hb1
  go_wp2_with fail
  refine (nat_Bits A n c x _ HR1.out (by omega)).mono ?_
  rintro e w2 ⟨rfl, hb2⟩
  have L2 := K2.out.keep hb2
  have hx2 := L2.cell0
  have hf2 := L2.frozen 0
  have hst := L2.stored (.slice none 0 0)
  have HB2 := Lib.hid (HB1.out.trans (hb2.mono HB1.out.size))
  clear hb2 L2
  have hgt : (4096 : Int) - (bl x : Nat) < (s : Int) := by omega
  go_wp2
  exact bodyPost_ret (v := .tuple #[.agg #[.slice none 0 0], .int .i64 1]) (by simp [results, Try.results9, go_sem, hst]) rfl
    ⟨_, _, _, _, rfl, .inr ⟨HG.out, rfl, rfl, rfl, rfl⟩, HB2.out.setCell (by simp) _⟩

theorem splice_raise {N wh n : Nat} {xs : List Nat} (hl : xs.length = n) (hN : N = wh + n + 1) : splice (List.replicate N (.int .u64 0)) wh (nums .u64 xs) = nums .u64 (List.replicate wh 0 ++ (xs ++ [0])) := by
  rw [hN, nums_append, nums_append, nums_replicate]
  simp [splice, nums_length, hl]
  rw [Nat.min_eq_left (by omega)]; rfl

theorem Blk.src {k : IntKind} {w w1 : World} {A : Option Addr} {n c : Nat} {xs : List Nat} (h : Sl k w A n c xs) (hk : ∀ b o v, w.cell? ⟨b, o, none⟩ = some (.int k v) → w1.cell? ⟨b, o, none⟩ = some (.int k v)) : Sl k w1 A n c xs := h.of_cells hk

set_option maxHeartbeats 4000000 in
set_option maxRecDepth 100000 in
theorem nat_Shl_main (A : Option Addr) (n c x s : Nat) (w : World) (h : Rep .u64 B64 w A n c x) (hn : n ≤ 1000000000) (hn0 : 0 < n) (hx : x < Lim) (hg : bl x + s ≤ 4096) :
    Calls Try.prog 9 #[.agg #[.slice A n c], .int .i64 s] w (RetGot w (x * 2 ^ s)) := by
  obtain ⟨i0, hi, hz0, hz1, hz2⟩ := info_parts Try.info40
  have hbx := lim_bl.1 hx
  have hs4096 : s ≤ 4096 := by omega
  obtain ⟨wh, hwh⟩ : ∃ wh, wh = s / 64 := ⟨_, rfl⟩
  obtain ⟨r, hr⟩ : ∃ r, r = s % 64 := ⟨_, rfl⟩
  obtain ⟨N, hN⟩ : ∃ N, N = wh + n + 1 := ⟨_, rfl⟩
  have hr64 : r < 64 := by omega
  have HSR : Hid (s = 64 * wh + r) := Lib.hid (by omega)
  have hqx : (s : Int) / 64 = (wh : Int) := by omega
  have hrx : (s : Int) % 64 = (r : Int) := by omega
  have hNx : (wh : Int) + (n : Int) + 1 = (N : Int) := by omega
  have hNb : N ≤ 1000000100 := by omega
  have hwN : wh ≤ N := by omega
  have hne : ¬ N = wh := by omega
  have hNw : N - wh = n + 1 := by omega
  have HN := Lib.hid hN
  have hle : ¬ (4096 : Int) - (bl x : Nat) < (s : Int) := by omega
  have hd : decide (n = 0) = false := decide_eq_false (by omega)
  go_enter Try.func9, Try.ntmps9
  obtain ⟨b1, b2, hB⟩ := two_boxes w 29 (.slice A n c) (.slice none 0 0)
  have H1 := Lib.hid b1
  have H2 := Lib.hid b2
  have HB := Lib.hid hB
  have HR := Lib.hid (h.keep hB)
  clear b1 b2 hB h hx hwh hr hN
  go_wp2_with fail
  refine (nat_Zero A n c _).mono ?_
  rintro e w1 ⟨rfl, hb1⟩
  have hx1 := (H1.out.keep hb1).cell0
  have K1 := Lib.hid (H1.out.keep hb1)
  have K2 := Lib.hid (H2.out.keep hb1)
  have HB1 := Lib.hid (HB.out.trans (hb1.mono HB.out.size))
  have HR1 := Lib.hid (HR.out.keep hb1)
  clear hb1
  go_wp2_with fail
  refine (nat_Bits A n c x _ HR1.out (by omega)).mono ?_
  rintro e w2 ⟨rfl, hb2⟩
  have L1 := Lib.hid (K1.out.keep hb2)
  have L2 := Lib.hid (K2.out.keep hb2)
  have hy1 := L1.out.cell0
  have HB2 := Lib.hid (HB1.out.trans (hb2.mono HB1.out.size))
  have HR2 := Lib.hid (HR1.out.keep hb2)
  clear hb2 hx1
  go_wp2_with (at_make; refine wpList_make_full _ rfl _ _ 22 rfl w2.heap.size 40 i0 (.int .u64 0) 1 Try.underlying22 hi hz0 hz1 .i64 .i64 _ _ N rfl rfl rfl rfl (by rw [hz2]; omega) (by simp only [maxLen]; omega) (Nat.le_refl _) ?_; intro w3 hown hgr; have hbq := Lib.hid (Blk.of_make hown (by omega)); have hb3 := Lib.hid ((Below.refl w2.heap.size w2).grown hgr (Nat.le_refl _) (fun k hk => by cases hk)); clear hown hgr)
  obtain ⟨xs, r1, r2, r3, r4⟩ := HR2.out
  have HS := Lib.hid r1
  have HX4 := Lib.hid r4
  have HLX := Lib.hid r1.1
  have hz1' := (L1.out.keep hb3.out).cell0
  have HSRC : Hid (0 < (nums .u64 xs).length → ∃ ad, A = some ad ∧ ∀ j v, (nums .u64 xs)[j]? = some v → (w3.drewN 1).cell? (ad.add j) = some v) := Lib.hid (fun hp => HS.out.src (Below.drewN hb3.out 1) hp)
  have HHEAP : Hid ((w3.drewN 1).heap[w2.heap.size]? = some (.cells (List.replicate N (Value.int .u64 0)).toArray 40 (0, 0))) := hbq
  have HBD : Hid (Below w2.heap.size w2 (w3.drewN 1)) := Lib.hid (Below.drewN hb3.out 1)
  have HLN : Hid ((nums .u64 xs).length = Nat.min n (n + 1)) := Lib.hid (by rw [nums_length, HLX.out]; exact (Nat.min_eq_left (by omega)).symm)
  have HFIT : Hid (wh + (nums .u64 xs).length ≤ (List.replicate N (Value.int .u64 0)).length) := Lib.hid (by rw [nums_length, HLX.out, List.length_replicate, HN.out]; omega)
  clear r1 r3 r4 hb3 hbq hy1
  go_wp2
  go_region_law ((refine step_copy_splice rfl (.tmp 34) (.tmp 36) 22 22 rfl 40 Try.underlying22 Try.size40 (some ⟨w2.heap.size, wh, none⟩) A (n + 1) (n + 1) n c (by simp [Act.eval]) (by simp [Act.eval]) w2.heap.size wh (List.replicate N (Value.int .u64 0)) 40 HHEAP.out (nums .u64 xs) HLN.out (fun hp => ⟨rfl, HSRC.out hp⟩) HFIT.out (nums_one _ _) w2.heap.size w2 HBD.out (Nat.le_refl _) ?_); intro w4 hblk4 hb4)
  go_wp2_with fail
  have HB4 : Hid (Blk w4 w2.heap.size 40 (nums .u64 (List.replicate wh 0 ++ (xs ++ [0])) ++ [])) := Lib.hid (by
    rw [List.append_nil, ← splice_raise HLX.out HN.out]
    exact hblk4.out)
  have HBW4 : Hid (Below w.heap.size w w4) := Lib.hid (HB2.out.trans (hb4.mono HB2.out.size))
  have M2 := Lib.hid (L2.out.below hb4 L2.out.lt)
  have hl2 : w.heap.size + 1 < w2.heap.size := L2.out.lt
  have hgq : w.heap.size ≤ w2.heap.size := by omega
  clear hblk4 hb4
  refine (nat_raise w2.heap.size wh (n + 1) (n + 1) r (List.replicate wh 0) (xs ++ [0]) [] w4 HB4.out (by rw [List.length_replicate]) (by rw [List.length_append, HLX.out]; rfl) (r2.app (Dig.cons B64_pos (Dig.nil _))) (by omega) hr64).mono ?_
  rintro e w5 ⟨zs, o, rfl, hb5, hl5, hd5, hv5, hg5⟩
  have hxv : val B64 (xs ++ [0]) = x := by rw [val_snoc, Nat.mul_zero, Nat.add_zero]; exact HX4.out
  rw [hxv] at hv5
  have hxn : x < B64 ^ n := by have := val_lt r2; rw [HX4.out, HLX.out] at this; exact this
  have hv6 : o = 0 ∧ val B64 zs = x * 2 ^ r := no_out hv5 (raised_fits hxn hr64)
  have HVZ : Hid (val B64 (List.replicate wh 0 ++ zs) = x * 2 ^ s) := Lib.hid (by
    rw [val_append, val_replicate, List.length_replicate, hv6.2, Nat.zero_add, HSR.out, Nat.pow_add, Nat.pow_mul, ← B64_pow, Nat.mul_left_comm])
  have HDZ : Hid (Dig B64 (List.replicate wh 0 ++ zs)) := Lib.hid ((Dig.replicate B64_pos _).app hd5)
  have HSL : Hid (Sl .u64 w5 (some ⟨w2.heap.size, 0, none⟩) N N (List.replicate wh 0 ++ zs)) := Lib.hid (by
    rw [List.append_nil] at hb5
    exact Sl.of_blk0 hb5 (by rw [List.length_append, List.length_replicate, hl5, HN.out]; omega) (Nat.le_refl _) (by omega))
  have N2 := Lib.hid (M2.out.grown hg5 (by intro e; injection e with e; omega))
  have HB5 : Hid (Below w.heap.size w w5) := Lib.hid (HBW4.out.grown hg5 HBW4.out.size (fun k hk => by cases hk; exact hgq))
  clear hb5 hl5 hv5 hv6 hg5 hxv hxn hd5 hz1'
  go_wp2_with fail
  refine (nat_made _ N N (List.replicate wh 0 ++ zs) _ HSL.out HDZ.out).mono ?_
  rintro e w6 ⟨A3, n3, c3, code, rfl, hgot, hb6⟩
  rw [HVZ.out] at hgot
  have P2 := N2.out.keep hb6
  have hx2 := P2.cell0
  have hf2 := P2.frozen 0
  have hst := P2.stored (.slice A3 n3 c3)
  have HG := Lib.hid hgot
  have HB6 := Lib.hid (HB5.out.trans (hb6.mono HB5.out.size))
  clear P2 hgot hb6
  go_wp2
  exact bodyPost_ret (v := .tuple #[.agg #[.slice A3 n3 c3], .int .i64 code]) (by simp [results, Try.results9, go_sem, hst]) rfl
    ⟨_, _, _, _, rfl, HG.out.setCell hx2 (fun i e => by cases e) _, HB6.out.setCell (by simp) _⟩

theorem nat_Shl (A : Option Addr) (n c x s : Nat) (w : World) (h : Rep .u64 B64 w A n c x) (hn : n ≤ 1000000000) (hx : x < Lim) :
    Calls Try.prog 9 #[.agg #[.slice A n c], .int .i64 s] w (RetGot w (x * 2 ^ s)) := by
  rcases Nat.eq_zero_or_pos n with h0 | h0
  · have hx0 := (h.zero_iff B64_pos).1 h0
    subst hx0
    subst h0
    rw [Nat.zero_mul]
    exact nat_Shl_zero A c s w h
  · rcases Nat.lt_or_ge 4096 (bl x + s) with hg | hg
    · exact nat_Shl_great A n c x s w h hn h0 hx hg
    · exact nat_Shl_main A n c x s w h hn h0 hx hg

end Go.Proofs.Ytmjinhieeflkgaa
