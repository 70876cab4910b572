/- Contracts of the document's at, Add, Sub. -/
import Derived.Test.YtliligfhckampaaRefA
namespace Go.Proofs.Ytliligfhckampaa
open Go.RowKit

theorem ref_at (A : Option Addr) (n c j : Nat) (xs : List Nat) (w : World) (h : Sl .i64 w A n c xs) :
    Calls Try.prog 49 #[.slice A n c, .int .i64 j] w fun e w' => e = .returned (.int .i64 (xs.getD j 0 : Nat)) ∧ w = w' := by
  by_cases hj : j < n
  · obtain ⟨b, off, rfl, hc⟩ := h.2.2.2 (by omega)
    have hcell := hc j hj
    obtain ⟨u, hu⟩ : ∃ u, u = xs.getD j 0 := ⟨_, rfl⟩
    rw [← hu] at hcell ⊢
    clear hc h hu
    go_enter Try.func49, Try.ntmps49
    go_wp2
    go_ret
    exact ⟨rfl, rfl⟩
  · have h0 : xs.getD j 0 = 0 := by rw [List.getD_eq_getElem?_getD, List.getElem?_eq_none (by rw [h.1]; omega)]; rfl
    rw [h0]
    clear h h0
    go_enter Try.func49, Try.ntmps49
    go_wp2
    go_ret
    exact ⟨rfl, rfl⟩

/-- One digit of a sum, any base. -/
theorem add_stepG {b : Nat} {zs xs ys : List Nat} {k cy : Nat} (hl : zs.length = k) (h : val b zs + b ^ k * cy = val b (xs.take k) + val b (ys.take k)) :
    val b (zs ++ [(xs.getD k 0 + ys.getD k 0 + cy) % b]) + b ^ (k + 1) * ((xs.getD k 0 + ys.getD k 0 + cy) / b) = val b (xs.take (k + 1)) + val b (ys.take (k + 1)) := by
  have hx : val b (xs.take (k + 1)) = val b (xs.take k) + b ^ k * xs.getD k 0 := by
    by_cases h : k < xs.length
    · exact val_take_succ b xs k h
    · rw [List.take_of_length_le (by omega), List.take_of_length_le (by omega), List.getD_eq_getElem?_getD, List.getElem?_eq_none (by omega)]; simp
  have hy : val b (ys.take (k + 1)) = val b (ys.take k) + b ^ k * ys.getD k 0 := by
    by_cases h : k < ys.length
    · exact val_take_succ b ys k h
    · rw [List.take_of_length_le (by omega), List.take_of_length_le (by omega), List.getD_eq_getElem?_getD, List.getElem?_eq_none (by omega)]; simp
  rw [val_snoc, hl, Nat.pow_succ, Nat.mul_assoc, Nat.add_assoc, ← Nat.mul_add, Nat.mod_add_div, hx, hy, Nat.mul_add, Nat.mul_add]
  omega

set_option maxHeartbeats 2000000 in
theorem ref_Add (A : Option Addr) (n c x : Nat) (B : Option Addr) (m cb y : Nat) (w : World) (h : Rep .i64 65536 w A n c x) (h' : Rep .i64 65536 w B m cb y) (hn : n ≤ 1000000000) (hm : m ≤ 1000000000) :
    Calls Try.prog 24 #[.slice A n c, .slice B m cb] w fun e w' => ∃ A' n' c', e = .returned (.slice A' n' c') ∧ Rep .i64 65536 w' A' n' c' (x + y) ∧ Below w.heap.size w w' := by
  obtain ⟨i0, hi, hz0, hz1, hz2⟩ := info_parts Try.info3
  obtain ⟨xs, h1, h2, h3, h4⟩ := h
  obtain ⟨ys, k1, k2, k3, k4⟩ := h'
  obtain ⟨M, hM⟩ : ∃ M, M = max n m := ⟨_, rfl⟩
  have hMn : n ≤ M := by omega
  have hMm : m ≤ M := by omega
  have hMb : M ≤ 1000000000 := by omega
  have HM : Hid (M ≤ n ∨ M ≤ m) := Lib.hid (by omega)
  have H1 := Lib.hid h1
  have K1 := Lib.hid k1
  have H4 := Lib.hid h4
  have K4 := Lib.hid k4
  have HLX := Lib.hid h1.1
  have HLY := Lib.hid k1.1
  clear h1 k1 h3 k3 h4 k4 hM
  go_enter Try.func24, Try.ntmps24
  go_wp2
  go_loopw [5, 6, 7] (fun v cv iv wr => ∃ (k cy : Nat) (zs : List Nat), iv = .int .i64 k ∧ cv = .int .i64 cy ∧ cy ≤ 1 ∧ k ≤ M + 1 ∧ Hid (k ≤ M ∨ cy = 0) ∧ wr.ownsRow w.heap.size 3 1 v zs.length (nums .i64 zs) ∧ Dig 65536 zs ∧ Hid (zs.length = k) ∧
      Hid (val 65536 zs + 65536 ^ k * cy = val 65536 (xs.take k) + val 65536 (ys.take k)) ∧ Below w.heap.size w wr) (fun _ _ iv _ => M + 2 - (intOf iv).toNat)
  case atStart => exact ⟨0, 0, [], rfl, rfl, by omega, by omega, Lib.hid (.inl (Nat.zero_le _)), World.ownsRow_nil _ _ _ _, Dig.nil _, Lib.hid rfl, Lib.hid rfl, Below.refl _ _⟩
  case round =>
    obtain ⟨k, cy, zs, rfl, rfl, hcy, hkM, hor, hown, hdz, hlz, hv, hb⟩ := hrel
    by_cases hgo : k < n ∨ k < m ∨ 0 < cy
    · have hkM2 : k ≤ M := by
        rcases hgo with h | h | h
        · omega
        · omega
        · rcases hor.out with h' | h' <;> omega
      have hx0 := h2.getD (by omega) k
      have hy0 := k2.getD (by omega) k
      have hS1 := Lib.hid (H1.out.keep hb)
      have hS2 := Lib.hid (K1.out.keep hb)
      have hst := add_stepG hlz.out hv.out
      have HAT1 := Lib.hid (fun W (hW : Sl .i64 W A n c xs) => ref_at A n c k xs W hW)
      have HAT2 := Lib.hid (fun W (hW : Sl .i64 W B m cb ys) => ref_at B m cb k ys W hW)
      obtain ⟨u, hu⟩ : ∃ u, u = xs.getD k 0 := ⟨_, rfl⟩
      obtain ⟨v, hv2⟩ : ∃ v, v = ys.getD k 0 := ⟨_, rfl⟩
      rw [← hu] at hx0 hst HAT1
      rw [← hv2] at hy0 hst HAT2
      have HST := Lib.hid hst
      have hor2 : Hid (k + 1 ≤ M ∨ (u + v + cy) / 65536 = 0) := Lib.hid (by
        by_cases hk : k + 1 ≤ M
        · exact .inl hk
        · right
          have h5 : u = 0 := by
            by_cases hkn : k < n
            · omega
            · rw [hu, List.getD_eq_getElem?_getD, List.getElem?_eq_none (by rw [HLX.out]; omega)]; rfl
          have h6 : v = 0 := by
            by_cases hkm : k < m
            · omega
            · rw [hv2, List.getD_eq_getElem?_getD, List.getElem?_eq_none (by rw [HLY.out]; omega)]; rfl
          rw [h5, h6]; omega)
      have hlb : zs.length ≤ 8796093022208 := by rw [hlz.out]; omega
      have hsz := hb.size
      have HLZ : Hid ((zs ++ [(u + v + cy) % 65536]).length = k + 1) := Lib.hid (by rw [List.length_append, hlz.out]; rfl)
      clear hst hu hv2 hv hor hlz
      rcases (show k < n ∨ (¬ k < n ∧ k < m) ∨ (¬ k < n ∧ ¬ k < m ∧ 0 < cy) from by omega) with d1 | ⟨d1, d2⟩ | ⟨d1, d2, d3⟩
      all_goals
        go_wp2_with fail
        refine (HAT1.out _ hS1.out).mono ?_
        rintro e w1 ⟨rfl, rfl⟩
        go_wp2_with fail
        refine (HAT2.out _ hS2.out).mono ?_
        rintro e w2 ⟨rfl, rfl⟩
        go_wp2_with (at_builtin; refine wpList_append1 rfl (.tmp 34) (.tmp 37) 26 rfl .i64 w.heap.size 3 i0 (.int .i64 0) 8 Try.underlying26 hi hz0 hz1 hz2 rfl _ zs rfl hown _ ((u + v + cy) % 65536) ?_ _ rfl hlb (by omega) hb hsz ?_)
        · omega
        · intro v1 w3 hown3 hb3 _
          clear hown hb
          go_wp2
          go_roundw
          case rel => exact ⟨k + 1, (u + v + cy) / 65536, _, by go_num, by go_num, by omega, by omega, hor2, by rw [List.length_append]; exact hown3, hdz.app (Dig.cons (Nat.mod_lt _ (by omega)) (Dig.nil _)), HLZ, HST, hb3⟩
          case measure => simp [intOf]; omega
    · have d1 : ¬ k < n := by omega
      have d2 : ¬ k < m := by omega
      have d3 : cy = 0 := by omega
      subst d3
      obtain ⟨A', c', rfl, hsl⟩ := Sl.of_owns hown
      have HSL := Lib.hid hsl
      have HV : Hid (val 65536 zs = x + y) := Lib.hid (by
        have := hv.out
        rw [List.take_of_length_le (l := xs) (by rw [HLX.out]; omega), List.take_of_length_le (l := ys) (by rw [HLY.out]; omega), H4.out, K4.out] at this
        omega)
      clear hsl hv hown hlz hor
      go_wp2_with (go_at_call 35; refine (ref_trim _ _ _ zs _ HSL.out).mono ?_; rintro e w' ⟨rfl, rfl⟩)
      go_ret
      refine ⟨_, _, _, rfl, ⟨trimL zs, ?_, trimL_dig hdz, trimL_idem zs, ?_⟩, hb⟩
      · have := HSL.out.take (trimL zs).length (trimL_len zs)
        rw [← trimL_take] at this
        exact this
      · rw [val_trim, HV.out]

/-- One digit of a difference, any base. -/
theorem sub_stepG {b u v bw d W : Nat} {zs xs ys : List Nat} {k : Nat} (hl : zs.length = k) (h : val b zs + val b (ys.take k) = val b (xs.take k) + b ^ k * bw) (hw : d + v + bw = u + b * W)
    (hx : val b (xs.take (k + 1)) = val b (xs.take k) + b ^ k * u) (hy : val b (ys.take (k + 1)) = val b (ys.take k) + b ^ k * v) :
    val b (zs ++ [d]) + val b (ys.take (k + 1)) = val b (xs.take (k + 1)) + b ^ (k + 1) * W := by
  have h2 : b ^ k * (d + v + bw) = b ^ k * (u + b * W) := by rw [hw]
  rw [val_snoc, hl, hx, hy, Nat.pow_succ, Nat.mul_assoc]
  simp only [Nat.mul_add] at h2
  omega

set_option maxHeartbeats 2000000 in
theorem ref_Sub (A : Option Addr) (n c x : Nat) (B : Option Addr) (m cb y : Nat) (w : World) (h : Rep .i64 65536 w A n c x) (h' : Rep .i64 65536 w B m cb y) (hn : n ≤ 1000000000) (hyx : y ≤ x) :
    Calls Try.prog 29 #[.slice A n c, .slice B m cb] w fun e w' => ∃ A' n' c', e = .returned (.slice A' n' c') ∧ Rep .i64 65536 w' A' n' c' (x - y) ∧ Below w.heap.size w w' := by
  obtain ⟨i0, hi, hz0, hz1, hz2⟩ := info_parts Try.info3
  have hmn : m ≤ n := (h'.len_le (by omega) n).2 (Nat.lt_of_le_of_lt hyx ((h.len_le (by omega) n).1 (Nat.le_refl n)))
  obtain ⟨xs, h1, h2, h3, h4⟩ := h
  obtain ⟨ys, k1, k2, k3, k4⟩ := h'
  have H1 := Lib.hid h1
  have K1 := Lib.hid k1
  have H4 := Lib.hid h4
  have K4 := Lib.hid k4
  have HLX := Lib.hid h1.1
  have HLY := Lib.hid k1.1
  clear h1 k1 h3 k3 h4 k4
  go_enter Try.func29, Try.ntmps29
  go_wp2
  go_loopw [5, 6, 7] (fun v cv iv wr => ∃ (k cy : Nat) (zs : List Nat), iv = .int .i64 k ∧ cv = .int .i64 cy ∧ cy ≤ 1 ∧ k ≤ n ∧ wr.ownsRow w.heap.size 3 1 v zs.length (nums .i64 zs) ∧ Dig 65536 zs ∧ Hid (zs.length = k) ∧
      Hid (val 65536 zs + val 65536 (ys.take k) = val 65536 (xs.take k) + 65536 ^ k * cy) ∧ Below w.heap.size w wr) (fun _ _ iv _ => n - (intOf iv).toNat)
  case atStart => exact ⟨0, 0, [], rfl, rfl, by omega, by omega, World.ownsRow_nil _ _ _ _, Dig.nil _, Lib.hid rfl, Lib.hid rfl, Below.refl _ _⟩
  case round =>
    obtain ⟨k, cy, zs, rfl, rfl, hcy, hkn, hown, hdz, hlz, hv, hb⟩ := hrel
    by_cases hlt : k < n
    · have hkx : k < xs.length := by rw [HLX.out]; omega
      obtain ⟨b, off, rfl, hbl, hc⟩ := H1.out.block (by omega)
      have hcell := (hb.cell (p := ⟨b, off + k, none⟩) hbl).trans (hc k hlt)
      have hx0 := h2.getD (by omega) k
      have hy0 := k2.getD (by omega) k
      have hS2 := Lib.hid (K1.out.keep hb)
      have HAT2 := Lib.hid (fun W (hW : Sl .i64 W B m cb ys) => ref_at B m cb k ys W hW)
      have hvx := val_take_succ 65536 xs k hkx
      have hvy : val 65536 (ys.take (k + 1)) = val 65536 (ys.take k) + 65536 ^ k * ys.getD k 0 := by
        by_cases h : k < ys.length
        · exact val_take_succ _ ys k h
        · rw [List.take_of_length_le (by omega), List.take_of_length_le (by omega), List.getD_eq_getElem?_getD, List.getElem?_eq_none (by omega)]; simp
      obtain ⟨u, hu⟩ : ∃ u, u = xs.getD k 0 := ⟨_, rfl⟩
      obtain ⟨v, hv2⟩ : ∃ v, v = ys.getD k 0 := ⟨_, rfl⟩
      rw [← hu] at hx0 hcell hvx
      rw [← hv2] at hy0 HAT2 hvy
      have hlb : zs.length ≤ 8796093022208 := by rw [hlz.out]; omega
      have hsz := hb.size
      have HVX := Lib.hid hvx
      have HVY := Lib.hid hvy
      clear hu hv2 hvx hvy hc
      go_wp2
      go_quiet ((go_at_call 49; exact qcall0 (HAT2.out _ (hS2.out.drewN _))))
      have hown2 := owns_all hown nq
      have hb2 := Below.drewN hb nq
      generalize World.drewN wr nq = w2 at hown2 hb2 ⊢
      have hsz2 := hb2.size
      clear hown hb hsz hcell
      by_cases hneg : (u : Int) - (v : Int) - (cy : Int) < 0
      · have HST := Lib.hid (sub_stepG (W := 1) (d := u + 65536 - v - cy) hlz.out hv.out (by omega) HVX.out HVY.out)
        have HLZ : Hid ((zs ++ [u + 65536 - v - cy]).length = k + 1) := Lib.hid (by rw [List.length_append, hlz.out]; rfl)
        clear hv hlz
        go_wp2_with (at_builtin; refine wpList_append1 rfl (.tmp 29) (.tmp 31) 26 rfl .i64 w.heap.size 3 i0 (.int .i64 0) 8 Try.underlying26 hi hz0 hz1 hz2 rfl _ zs rfl hown2 _ (u + 65536 - v - cy) ?_ _ rfl hlb (by omega) hb2 hsz2 ?_)
        · omega
        · intro v1 w3 hown3 hb3 _
          clear hown2 hb2
          go_wp2
          go_roundw
          case rel => exact ⟨k + 1, 1, _, by go_num, rfl, by omega, by omega, by rw [List.length_append]; exact hown3, hdz.app (Dig.cons (by omega) (Dig.nil _)), HLZ, HST, hb3⟩
          case measure => simp [intOf]; omega
      · have HST := Lib.hid (sub_stepG (W := 0) (d := u - v - cy) hlz.out hv.out (by omega) HVX.out HVY.out)
        have HLZ : Hid ((zs ++ [u - v - cy]).length = k + 1) := Lib.hid (by rw [List.length_append, hlz.out]; rfl)
        clear hv hlz
        go_wp2_with (at_builtin; refine wpList_append1 rfl (.tmp 29) (.tmp 31) 26 rfl .i64 w.heap.size 3 i0 (.int .i64 0) 8 Try.underlying26 hi hz0 hz1 hz2 rfl _ zs rfl hown2 _ (u - v - cy) ?_ _ rfl hlb (by omega) hb2 hsz2 ?_)
        · omega
        · intro v1 w3 hown3 hb3 _
          clear hown2 hb2
          go_wp2
          go_roundw
          case rel => exact ⟨k + 1, 0, _, by go_num, rfl, by omega, by omega, by rw [List.length_append]; exact hown3, hdz.app (Dig.cons (by omega) (Dig.nil _)), HLZ, HST, hb3⟩
          case measure => simp [intOf]; omega
    · have hkn2 : k = n := by omega
      obtain ⟨A', c', rfl, hsl⟩ := Sl.of_owns hown
      have HSL := Lib.hid hsl
      have HV : Hid (val 65536 zs = x - y) := Lib.hid (by
        have := hv.out
        rw [List.take_of_length_le (l := xs) (by rw [HLX.out]; omega), List.take_of_length_le (l := ys) (by rw [HLY.out]; omega), H4.out, K4.out] at this
        have hb2 := val_lt hdz
        rw [hlz.out] at hb2
        rcases Nat.eq_zero_or_pos cy with rfl | hp
        · omega
        · have : 65536 ^ k * 1 ≤ 65536 ^ k * cy := Nat.mul_le_mul_left _ hp
          omega)
      clear hsl hv hown hlz
      go_wp2_with (go_at_call 35; refine (ref_trim _ _ _ zs _ HSL.out).mono ?_; rintro e w' ⟨rfl, rfl⟩)
      go_ret
      refine ⟨_, _, _, rfl, ⟨trimL zs, ?_, trimL_dig hdz, trimL_idem zs, ?_⟩, hb⟩
      · have := HSL.out.take (trimL zs).length (trimL_len zs)
        rw [← trimL_take] at this
        exact this
      · rw [val_trim, HV.out]

end Go.Proofs.Ytliligfhckampaa
