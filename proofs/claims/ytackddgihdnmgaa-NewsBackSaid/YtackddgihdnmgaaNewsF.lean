/- The document's OpenRound; the example of layer 19. Written by wip/tools/gen_news.py. -/
import Derived.Test.YtackddgihdnmgaaNewsE
namespace Go.Proofs.Ytackddgihdnmgaa
open Go.RowKit
set_option maxRecDepth 100000

theorem newsr_OpenRound_none (w : World) :
    Calls Try.prog 8 #[.string (bs [])] w fun e w' => e = .returned (.tuple #[ordV (0, 0, 0), .int .i64 10]) ∧ Below w.heap.size w w' := by
  have hsz := bs_size []
  go_enter Try.func8, Try.ntmps8
  go_wp2_with fail
  refine bodyPost_ret (v := .tuple #[ordV (0, 0, 0), .int .i64 10]) (by simp [results, Try.results8, go_sem, ordV]) rfl ⟨rfl, ?_⟩
  exact (Below.refl _ _).alloc (Nat.le_refl _) _

theorem newsr_OpenRound_form (x : UInt8) (l L : List UInt8) (w : World) (hL : L = x :: l) (hx : x ≠ 82) (hl : L.length ≤ 1000000) :
    Calls Try.prog 8 #[.string (bs L)] w fun e w' => e = .returned (.tuple #[ordV (0, 0, 0), .int .i64 4]) ∧ Below w.heap.size w w' := by
  have hsz := bs_size L
  have hj : 0 < (bs L).size := by rw [hsz, hL]; simp
  have hne0 : ((L.length : Int) == 0) = false := by rw [beq_eq_false_iff_ne, hL]; simp; omega
  obtain ⟨v, hv⟩ : ∃ v, v = x.toNat := ⟨_, rfl⟩
  have hvi : (((bs L)[0]'hj).toNat : Int) = (v : Int) := by subst hL; rw [hv]; rfl
  have hne : ((v : Int) != 82) = true := by
    rw [bne_iff_ne]
    intro e
    apply hx
    apply UInt8.toNat_inj.1
    rw [← hv]
    show v = 82
    omega
  clear hv hL
  go_enter Try.func8, Try.ntmps8
  go_wp2_with fail
  refine bodyPost_ret (v := .tuple #[ordV (0, 0, 0), .int .i64 4]) (by simp [results, Try.results8, go_sem, ordV]) rfl ⟨rfl, ?_⟩
  exact (Below.refl _ _).alloc (Nat.le_refl _) _

theorem newsr_OpenRound_short (l L : List UInt8) (w : World) (hL : L = 82 :: l) (hs : L.length < 14) :
    Calls Try.prog 8 #[.string (bs L)] w fun e w' => e = .returned (.tuple #[ordV (0, 0, 0), .int .i64 10]) ∧ Below w.heap.size w w' := by
  have hsz := bs_size L
  have hj : 0 < (bs L).size := by rw [hsz, hL]; simp
  have hne0 : ((L.length : Int) == 0) = false := by rw [beq_eq_false_iff_ne, hL]; simp; omega
  have hvi : (((bs L)[0]'hj).toNat : Int) = 82 := by subst hL; rfl
  have hd : decide ((L.length : Int) < 14) = true := decide_eq_true (by omega)
  clear hL
  go_enter Try.func8, Try.ntmps8
  go_wp2_with fail
  refine bodyPost_ret (v := .tuple #[ordV (0, 0, 0), .int .i64 10]) (by simp [results, Try.results8, go_sem, ordV]) rfl ⟨rfl, ?_⟩
  exact (Below.refl _ _).alloc (Nat.le_refl _) _

theorem newsr_OpenRound_long (l L : List UInt8) (w : World) (hL : L = 82 :: l) (hs : 14 < L.length) (hl : L.length ≤ 1000000) :
    Calls Try.prog 8 #[.string (bs L)] w fun e w' => e = .returned (.tuple #[ordV (0, 0, 0), .int .i64 11]) ∧ Below w.heap.size w w' := by
  have hsz := bs_size L
  have hj : 0 < (bs L).size := by rw [hsz, hL]; simp
  have hne0 : ((L.length : Int) == 0) = false := by rw [beq_eq_false_iff_ne, hL]; simp; omega
  have hvi : (((bs L)[0]'hj).toNat : Int) = 82 := by subst hL; rfl
  have hd : decide ((L.length : Int) < 14) = false := decide_eq_false (by omega)
  have hd2 : decide ((14 : Int) < (L.length : Int)) = true := decide_eq_true (by omega)
  clear hL
  go_enter Try.func8, Try.ntmps8
  go_wp2_with fail
  refine bodyPost_ret (v := .tuple #[ordV (0, 0, 0), .int .i64 11]) (by simp [results, Try.results8, go_sem, ordV]) rfl ⟨rfl, ?_⟩
  exact (Below.refl _ _).alloc (Nat.le_refl _) _

theorem beV_one (l : List UInt8) (i : Nat) (h : i < l.length) : beV ((l.drop i).take 1) = (l[i]).toNat := by
  rw [List.drop_eq_getElem_cons h]
  show beV [l[i]] = _
  unfold beV
  simp

set_option maxHeartbeats 4000000 in
theorem newsr_OpenRound_ok (l L : List UInt8) (w : World) (hL : L = 82 :: l) (hs : L.length = 14) :
    Calls Try.prog 8 #[.string (bs L)] w fun e w' => e = .returned (.tuple #[ordV (beV ((L.drop 1).take 8), beV ((L.drop 9).take 4), beV ((L.drop 13).take 1)), .int .i64 0]) ∧ Below w.heap.size w w' := by
  have hsz := (bs_size L).trans hs
  have hj : 0 < (bs L).size := by rw [hsz]; decide
  have hvi : (((bs L)[0]'hj).toNat : Int) = 82 := by subst hL; rfl
  have hj13 : 13 < (bs L).size := by rw [hsz]; decide
  have HG1 := Lib.hid (fun W => newsr_get L 1 8 W (by decide) (by decide) (by omega) (by omega))
  have HG2 := Lib.hid (fun W => newsr_get L 9 4 W (by decide) (by decide) (by omega) (by omega))
  obtain ⟨x1, hx1⟩ : ∃ x, x = beV ((L.drop 1).take 8) := ⟨_, rfl⟩
  obtain ⟨x2, hx2⟩ : ∃ x, x = beV ((L.drop 9).take 4) := ⟨_, rfl⟩
  obtain ⟨x3, hx3⟩ : ∃ x, x = beV ((L.drop 13).take 1) := ⟨_, rfl⟩
  have hv13 : (((bs L)[13]'hj13).toNat : Int) = (x3 : Int) := by rw [hx3, beV_one L 13 (by omega)]; rfl
  have hx2b : x2 < 4294967296 := by
    have h := beV_lt ((L.drop 9).take 4)
    rw [← hx2, List.length_take, List.length_drop, hs] at h
    have e4 : (256 : Nat) ^ 4 = 4294967296 := by decide
    simpa [e4] using h
  have w2' : IntKind.u32.wrap (x2 : Int) = (x2 : Int) := by simp [IntKind.wrap, IntKind.bits, IntKind.signed]; omega
  rw [← hx1] at HG1
  rw [← hx2] at HG2
  rw [← hx1, ← hx2, ← hx3]
  clear hx1 hx2 hx3 hx2b hL hs
  obtain ⟨W0, hW0⟩ : ∃ W0, W0 = w.alloc (.cells #[.int .u64 0, .int .u32 0, .int .u8 0] 30) := ⟨_, rfl⟩
  have Z0 : Hid (Blk W0 w.heap.size 30 [.int .u64 0, .int .u32 0, .int .u8 0]) := Lib.hid (by rw [hW0]; exact heap_alloc_new w _)
  have B0 : Hid (Below w.heap.size w W0) := Lib.hid (by rw [hW0]; exact (Below.refl _ _).alloc (Nat.le_refl _) _)
  have K0 : Hid (Below W0.heap.size W0 W0.drew) := Lib.hid (Below.refl _ _).drew
  go_enter Try.func8, Try.ntmps8
  go_upto_region 9 with fail
  refine wp_world hW0 ?_
  clear hW0
  refine wp_region_noPanic ?_
  refine wp_region_held_drew (S := fun _ => True) (by kernel_rfl) ?_ (fun hHeld => ?_)
  · exact trivial
  refine wpAnyH_take (i := 0) (oi := or9o0) (v := ?_) rfl (by kernel_rfl) (by kernel_rfl) (by kernel_rfl) (fun _ _ _ h => h) (Or.inl ⟨by rfl, ?_⟩) (by assumption) ?_
  rotate_left
  · (intro w hSw; (try dsimp only at hSw); (try dsimp only [or9o0]); go_simp; try (with_reducible rfl))
  (try simp only [Act.put, List.setIfInBounds_toArray, List.set_cons_zero, List.set_cons_succ])
  refine wpAnyH_take (i := 2) (oi := or9o2) (v := ?_) rfl (by kernel_rfl) (by kernel_rfl) (by kernel_rfl) (fun _ _ _ h => h) (Or.inl ⟨by rfl, ?_⟩) (by assumption) ?_
  rotate_left
  · (intro w hSw; (try dsimp only at hSw); (try dsimp only [or9o2]); go_simp; try (with_reducible rfl))
  (try simp only [Act.put, List.setIfInBounds_toArray, List.set_cons_zero, List.set_cons_succ])
  refine wpAnyH_take (i := 5) (oi := or9o5) (v := ?_) rfl (by kernel_rfl) (by kernel_rfl) (by kernel_rfl) (fun _ _ _ h => h) (Or.inl ⟨by rfl, ?_⟩) (by assumption) ?_
  rotate_left
  · (intro w hSw; (try dsimp only at hSw); (try dsimp only [or9o5]); go_simp; try (with_reducible rfl))
  (try simp only [Act.put, List.setIfInBounds_toArray, List.set_cons_zero, List.set_cons_succ])
  refine wpAnyH_take (i := 6) (oi := or9o6) (v := ?_) rfl (by kernel_rfl) (by kernel_rfl) (by kernel_rfl) (fun _ _ _ h => h) (Or.inl ⟨by rfl, ?_⟩) (by assumption) ?_
  rotate_left
  · (intro w hSw; (try dsimp only at hSw); (try dsimp only [or9o6]); go_simp; try (with_reducible rfl))
  (try simp only [Act.put, List.setIfInBounds_toArray, List.set_cons_zero, List.set_cons_succ])
  refine wpAnyH_ready (rs := [1]) (by kernel_rfl) (by simp) ?_
  refine AllReadyH.cons (o := or9o1) rfl (fun K hK => ?_) AllReadyH.nil
  dsimp only [or9o1]
  go_simp
  refine (HG1.out _).mono ?_
  rintro e w1 ⟨rfl, b1⟩
  have K1 := Lib.hid (K0.out.trans (b1.mono K0.out.size))
  clear b1
  (try go_wp2_with fail)
  refine hK.out _ _ ?_ (fun hHeld => ?_)
  · exact trivial
  clear hK K
  (try simp only [Act.put, List.setIfInBounds_toArray, List.set_cons_zero, List.set_cons_succ])
  refine wpAnyH_ready (rs := [3]) (by kernel_rfl) (by simp) ?_
  refine AllReadyH.cons (o := or9o3) rfl (fun K hK => ?_) AllReadyH.nil
  dsimp only [or9o3]
  go_simp
  refine (HG2.out _).mono ?_
  rintro e w2 ⟨rfl, b2⟩
  have K2 := Lib.hid (K1.out.trans (b2.mono K1.out.size))
  clear b2
  (try go_wp2_with fail)
  refine hK.out _ _ ?_ (fun hHeld => ?_)
  · exact trivial
  clear hK K
  (try simp only [Act.put, List.setIfInBounds_toArray, List.set_cons_zero, List.set_cons_succ])
  refine wpAnyH_take (i := 4) (oi := or9o4) (v := ?_) rfl (by kernel_rfl) (by kernel_rfl) (by kernel_rfl) (fun _ _ _ h => h) (Or.inl ⟨by rfl, ?_⟩) (by assumption) ?_
  rotate_left
  · (intro w hSw; (try dsimp only at hSw); (try dsimp only [or9o4]); go_simp; try (with_reducible rfl))
  (try simp only [Act.put, List.setIfInBounds_toArray, List.set_cons_zero, List.set_cons_succ])
  refine wpAnyH_take (i := 7) (oi := or9o7) (v := ?_) rfl (by kernel_rfl) (by kernel_rfl) (by kernel_rfl) (fun _ _ _ h => h) (Or.inl ⟨by rfl, ?_⟩) (by assumption) ?_
  rotate_left
  · (intro w hSw; (try dsimp only at hSw); (try dsimp only [or9o7]); go_simp; try (with_reducible rfl))
  (try simp only [Act.put, List.setIfInBounds_toArray, List.set_cons_zero, List.set_cons_succ])
  refine wpAnyH_ready (rs := [8]) (by kernel_rfl) (by simp) ?_
  refine AllReadyH.cons (o := or9o8) rfl (fun K hK => ?_) AllReadyH.nil
  rw [if_pos (by rfl)]
  have Z2 := Z0.out.keep K2.out
  have ST := run_store3 w2 w.heap.size 30 (.int .u64 (x1 : Int)) (.int .u32 (x2 : Int)) (.int .u8 (x3 : Int)) Z2 (by kernel_rfl) rfl rfl rfl
  refine wp_store_isN _ _ _ rfl ⟨w.heap.size, 0, none⟩ rfl _ rfl _ ST ?_
  clear ST
  refine hK.out _ _ ?_ (fun hHeld => ?_)
  · exact trivial
  clear hK K
  (try simp only [Act.put, List.setIfInBounds_toArray, List.set_cons_zero, List.set_cons_succ])
  refine wpAnyH_take (i := 9) (oi := or9o9) (v := ?_) rfl (by kernel_rfl) (by kernel_rfl) (by kernel_rfl) (fun _ _ _ h => h) (Or.inl ⟨by rfl, ?_⟩) (by assumption) ?_
  rotate_left
  · (intro w hSw; (try dsimp only at hSw); (try dsimp only [or9o9]); go_simp; try (with_reducible rfl))
  (try simp only [Act.put, List.setIfInBounds_toArray, List.set_cons_zero, List.set_cons_succ])
  refine wpAnyH_done (by kernel_rfl) ?_ _
  refine NoPanic.normal ?_
  have GP := Z2.put3 (.int .u64 (x1 : Int)) (.int .u32 (x2 : Int)) (.int .u8 (x3 : Int))
  obtain ⟨d0, d1, d2⟩ := GP.three
  have B2 := B0.out.trans (K2.out.mono B0.out.size)
  go_wp2_with fail
  refine bodyPost_ret (v := .tuple #[ordV (x1, x2, x3), .int .i64 0]) (by simp [results, Try.results8, go_sem, ordV, d0, d1, d2]) rfl ⟨rfl, ?_⟩
  exact ((B2.setCell (p := ⟨w.heap.size, 0, none⟩) (Nat.le_refl _) _).setCell (p := ⟨w.heap.size, 1, none⟩) (Nat.le_refl _) _).setCell (p := ⟨w.heap.size, 2, none⟩) (Nat.le_refl _) _

theorem newsr_OpenRound (l : List UInt8) (w : World) (hl : l.length ≤ 1000000) :
    Calls Try.prog 8 #[.string (bs l)] w fun e w' => e = .returned (.tuple #[ordV (ordT l).1, .int .i64 ((ordT l).2 : Int)]) ∧ Below w.heap.size w w' := by
  unfold ordT
  cases l with
  | nil => exact newsr_OpenRound_none w
  | cons x l =>
    rw [if_neg (by simp)]
    by_cases hx : x = 82
    · subst hx
      rw [if_neg (by simp)]
      by_cases a : (82 :: l).length < 14
      · rw [if_pos a]
        exact newsr_OpenRound_short l _ w rfl a
      · rw [if_neg a]
        by_cases b : 14 < (82 :: l).length
        · rw [if_pos b]
          exact newsr_OpenRound_long l _ w rfl b hl
        · rw [if_neg b]
          exact newsr_OpenRound_ok l _ w rfl (by omega)
    · rw [if_pos (by simp [hx])]
      exact newsr_OpenRound_form x l _ w rfl hx hl

theorem news_Awake (w : World) :
    Calls Try.prog 6 #[] w fun e w' => e = .returned (.bool true) ∧ Below w.heap.size w w' := by
  have HA := Lib.hid (fun W => oct_Awake W)
  have e : rdL 1 2 3 = [82, 0, 0, 0, 0, 0, 0, 0, 1, 0, 0, 0, 2, 3] := by decide
  have HC : Hid (∀ W, Calls Try.prog 9 #[.agg #[.int .u64 1, .int .u32 2, .int .u8 3]] W fun e w' => e = .returned (.string ⟨#[82, 0, 0, 0, 0, 0, 0, 0, 1, 0, 0, 0, 2, 3]⟩) ∧ Below W.heap.size W w') := Lib.hid (fun W => by
    have h := news_CloseRound 1 2 3 W (by decide) (by decide) (by decide)
    rw [e] at h
    exact h)
  clear e
  go_enter Try.func6, Try.ntmps6
  go_wp2_with (first
    | (go_at_call 17; refine (HA.out _).mono ?_; rintro e w1 ⟨rfl, hb1⟩)
    | (go_at_call 9; refine (HC.out _).mono ?_; rintro e w2 ⟨rfl, hb2⟩))
  go_ret
  exact ⟨rfl, hb1.trans (hb2.mono hb1.size)⟩

end Go.Proofs.Ytackddgihdnmgaa
