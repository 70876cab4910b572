/- Contracts of nat's Cmp and compare. -/
import Derived.Test.YtmjinhieeflkgaaNatC
namespace Go.Proofs.Ytmjinhieeflkgaa
open Go.RowKit

theorem isNaN64 (x : Nat) (w : World) :
    Calls Try.prog 41 #[.int .u64 x] w fun e w' => e = .returned (.bool false) ∧ w = w' := by
  go_enter Try.func41, Try.ntmps41
  go_wp2
  go_ret
  exact ⟨ret_bool (by simp), rfl⟩

theorem compare64 (x y : Nat) (w : World) :
    Calls Try.prog 38 #[.int .u64 x, .int .u64 y] w fun e w' => e = .returned (.int .i64 (cmpN x y)) ∧ w = w' := by
  rcases Nat.lt_trichotomy x y with hlt | heq | hgt
  · have HE := Lib.hid (cmpN_lt hlt)
    go_enter Try.func38, Try.ntmps38
    go_wp2_with (go_at_call 41; refine (isNaN64 _ _).mono ?_; rintro e w' ⟨rfl, rfl⟩)
    go_ret
    exact ⟨ret_int HE.out.symm, rfl⟩
  · subst heq
    have HE := Lib.hid (cmpN_eq x)
    go_enter Try.func38, Try.ntmps38
    go_wp2_with (go_at_call 41; refine (isNaN64 _ _).mono ?_; rintro e w' ⟨rfl, rfl⟩)
    go_ret
    exact ⟨ret_int HE.out.symm, rfl⟩
  · have HE := Lib.hid (cmpN_gt hgt)
    have hnl : ¬ x < y := by omega
    go_enter Try.func38, Try.ntmps38
    go_wp2_with (go_at_call 41; refine (isNaN64 _ _).mono ?_; rintro e w' ⟨rfl, rfl⟩)
    go_ret
    exact ⟨ret_int HE.out.symm, rfl⟩

theorem isNaNInt (x : Nat) (w : World) :
    Calls Try.prog 40 #[.int .i64 x] w fun e w' => e = .returned (.bool false) ∧ w = w' := by
  go_enter Try.func40, Try.ntmps40
  go_wp2
  go_ret
  exact ⟨ret_bool (by simp), rfl⟩

theorem compareInt (x y : Nat) (w : World) :
    Calls Try.prog 37 #[.int .i64 x, .int .i64 y] w fun e w' => e = .returned (.int .i64 (cmpN x y)) ∧ w = w' := by
  rcases Nat.lt_trichotomy x y with hlt | heq | hgt
  · have HE := Lib.hid (cmpN_lt hlt)
    go_enter Try.func37, Try.ntmps37
    go_wp2_with (go_at_call 40; refine (isNaNInt _ _).mono ?_; rintro e w' ⟨rfl, rfl⟩)
    go_ret
    exact ⟨ret_int HE.out.symm, rfl⟩
  · subst heq
    have HE := Lib.hid (cmpN_eq x)
    go_enter Try.func37, Try.ntmps37
    go_wp2_with (go_at_call 40; refine (isNaNInt _ _).mono ?_; rintro e w' ⟨rfl, rfl⟩)
    go_ret
    exact ⟨ret_int HE.out.symm, rfl⟩
  · have HE := Lib.hid (cmpN_gt hgt)
    have hnl : ¬ x < y := by omega
    go_enter Try.func37, Try.ntmps37
    go_wp2_with (go_at_call 40; refine (isNaNInt _ _).mono ?_; rintro e w' ⟨rfl, rfl⟩)
    go_ret
    exact ⟨ret_int HE.out.symm, rfl⟩

set_option maxHeartbeats 1000000 in
theorem nat_compare (A : Option Addr) (n c x : Nat) (A' : Option Addr) (n' c' y : Nat) (w : World) (h : Rep .u64 B64 w A n c x) (h' : Rep .u64 B64 w A' n' c' y) :
    Calls Try.prog 33 #[.slice A n c, .slice A' n' c'] w fun e w' => e = .returned (.int .i64 (cmpN x y)) ∧ ∃ q, w' = w.drewN q := by
  obtain ⟨xs, h1, h2, h3, h4⟩ := h
  obtain ⟨ys, k1, k2, k3, k4⟩ := h'
  by_cases hne : n = n'
  · subst hne
    have hlx := h1.1
    have hly := k1.1
    have hnb : (n : Int) ≤ 9223372036854775807 := by have := h1.2.1; have := h1.2.2.1; omega
    have H1 := Lib.hid h1
    have K1 := Lib.hid k1
    have H4 := Lib.hid h4
    have K4 := Lib.hid k4
    have H3 := Lib.hid h3
    have K3 := Lib.hid k3
    have HLX := Lib.hid hlx
    have HLY := Lib.hid hly
    clear h1 k1 h4 k4 h3 k3 hlx hly
    go_enter Try.func33, Try.ntmps33
    go_wp2
    go_loopw [19] (fun i wr => ∃ k q : Nat, k ≤ n ∧ i = .int .i64 k ∧ Hid (xs.drop (n - k) = ys.drop (n - k)) ∧ wr = w.drewN q) (fun i _ => n - (intOf i).toNat)
    case atStart => exact ⟨0, 0, Nat.zero_le _, rfl, Lib.hid (by rw [List.drop_of_length_le (by rw [HLX.out]; omega), List.drop_of_length_le (by rw [HLY.out]; omega)]), rfl⟩
    case round =>
      obtain ⟨k, q, hk, rfl, hd, rfl⟩ := hrel
      by_cases hk0 : k < n
      · obtain ⟨b, off, rfl, hbl, hc⟩ := H1.out.block (by omega)
        obtain ⟨b2, off2, rfl, hbl2, hc2⟩ := K1.out.block (by omega)
        obtain ⟨j, hj⟩ : ∃ j, n = j + 1 + k := ⟨n - 1 - k, by omega⟩
        subst hj
        have hcell := hc j (by omega)
        have hcell2 := hc2 j (by omega)
        obtain ⟨u, hu⟩ : ∃ u, u = xs.getD j 0 := ⟨_, rfl⟩
        obtain ⟨v, hv⟩ : ∃ v, v = ys.getD j 0 := ⟨_, rfl⟩
        rw [← hu] at hcell
        rw [← hv] at hcell2
        have HU := Lib.hid hu
        have HV := Lib.hid hv
        have hjx : j < xs.length := by rw [HLX.out]; omega
        have hjy : j < ys.length := by rw [HLY.out]; omega
        have HJ : Hid (xs.drop (j + 1) = ys.drop (j + 1)) := Lib.hid (by have := hd.out; rw [show j + 1 + k - k = j + 1 from by omega] at this; exact this)
        clear hu hv hc hc2 hd
        by_cases heq : u = v
        · subst heq
          have HS : Hid (xs.drop (j + 1 + k - (k + 1)) = ys.drop (j + 1 + k - (k + 1))) := Lib.hid (by rw [show j + 1 + k - (k + 1) = j from by omega]; exact drop_eq_step hjx hjy HJ.out (by rw [← HU.out, ← HV.out]))
          go_wp2
          go_quiet (fail)
          go_wp2
          go_roundw
          case rel => exact ⟨k + 1, _, by omega, by go_num, HS, rfl⟩
          case measure => simp [intOf]; omega
        · have HE : Hid (cmpN u v = cmpN x y) := Lib.hid (by
            rcases Nat.lt_or_gt_of_ne heq with hlt | hgt
            · rw [cmpN_lt hlt, cmpN_lt (by rw [← H4.out, ← K4.out]; exact cmp_lt h2 hjx hjy HJ.out (by rw [← HU.out, ← HV.out]; exact hlt))]
            · rw [cmpN_gt hgt, cmpN_gt (by rw [← H4.out, ← K4.out]; exact cmp_lt k2 hjy hjx HJ.out.symm (by rw [← HU.out, ← HV.out]; exact hgt))])
          have hne1 : ((u : Int) == (v : Int)) = false := beq_eq_false_iff_ne.2 (by omega)
          have hne2 : ((u : Int) != (v : Int)) = true := by rw [bne_iff_ne]; omega
          go_wp2
          go_quiet (fail)
          go_wp2
          go_quiet ((go_at_call 38; exact qcall (compare64 _ _ _)))
          go_wp2
          go_ret
          exact ⟨ret_int HE.out, _, drewN3 _ _ _ _⟩
      · have hk00 : k = n := by omega
        subst hk00
        have HE : Hid (cmpN x y = 0) := Lib.hid (cmpN_zero.2 (by have := hd.out; rw [Nat.sub_self] at this; rw [← H4.out, ← K4.out, show xs = ys from this]))
        clear hd
        go_wp2
        go_ret
        exact ⟨ret_int HE.out.symm, _, rfl⟩
  · have hn1 : ((n : Int) == (n' : Int)) = false := beq_eq_false_iff_ne.2 (by omega)
    have hn2 : ((n : Int) != (n' : Int)) = true := by rw [bne_iff_ne]; omega
    have hb1 := h1.2.1
    have hb2 := k1.2.1
    have hx1 := h1.1
    have hy1 := k1.1
    have HE : Hid (cmpN n n' = cmpN x y) := Lib.hid (by
      rcases Nat.lt_or_gt_of_ne hne with hlt | hgt
      · rw [cmpN_lt hlt, cmpN_lt (by rw [← h4, ← k4]; exact cmp_len (by decide) h2 k2 k3 (by omega))]
      · rw [cmpN_gt hgt, cmpN_gt (by rw [← h4, ← k4]; exact cmp_len (by decide) k2 h2 h3 (by omega))])
    clear h4 k4 h1 k1 h3 k3 hx1 hy1
    go_enter Try.func33, Try.ntmps33
    go_wp2_with (go_at_call 37; refine (compareInt _ _ _).mono ?_; rintro e w' ⟨rfl, rfl⟩)
    go_ret
    exact ⟨ret_int HE.out, 0, rfl⟩

theorem nat_Cmp (A : Option Addr) (n c x : Nat) (A' : Option Addr) (n' c' y : Nat) (w : World) (h : Rep .u64 B64 w A n c x) (h' : Rep .u64 B64 w A' n' c' y) :
    Calls Try.prog 19 #[.agg #[.slice A n c], .agg #[.slice A' n' c']] w fun e w' => e = .returned (.int .i64 (cmpN x y)) ∧ Below w.heap.size w w' := by
  go_enter Try.func19, Try.ntmps19
  have H := Lib.hid h
  have H' := Lib.hid h'
  clear h h'
  go_wp2_with (go_at_call 33; refine (nat_compare A n c x A' n' c' y _ ((H.out.alloc _).alloc _) ((H'.out.alloc _).alloc _)).mono ?_; rintro e w' ⟨rfl, q, rfl⟩)
  go_ret
  exact ⟨rfl, Below.drewN (((Below.refl _ _).alloc (Nat.le_refl _) _).alloc (by simp) _) q⟩

end Go.Proofs.Ytmjinhieeflkgaa
