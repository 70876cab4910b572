/- The contracts of opened of a report, and of OpenReport. Written by wip/tools/gen_news.py. -/
import Derived.Test.YtackddgihdnmgaaNewsJ
namespace Go.Proofs.Ytackddgihdnmgaa
open Go.RowKit
set_option maxRecDepth 100000

/-- What opened's function tells of a report's bytes. -/
def opP (l : List UInt8) : (Nat × Nat) × (Nat × List RowT) :=
  let p1 := stO l (1, 0) 0 4
  let p2 := stO l p1.1 0 2
  let F := rowsStep (stO l) p2.1 (List.replicate p2.2 (0, 0))
  (F.1, (p1.2, F.2))
def rpZ : Value := .agg #[.int .u32 0, .slice none 0 0]
/-- What opened answers behind the first byte. -/
def OpPost (P : (Nat × Nat) × (Nat × List RowT)) (L : List UInt8) (e : Ending) (w' : World) : Prop :=
  if opE P.1 L = 0 then ∃ g, e = .returned (.tuple #[.agg #[.int .u32 (P.2.1 : Int), .slice (some ⟨g, 0, none⟩) P.2.2.length P.2.2.length], .int .i64 0]) ∧ Rws w' (some ⟨g, 0, none⟩) P.2.2.length P.2.2
  else e = .returned (.tuple #[rpZ, .int .i64 (opE P.1 L : Int)])
theorem stO_small (l : List UInt8) (s : Nat × Nat) (v n : Nat) : (stO l s v n).2 < 256 ^ n := by
  unfold stO
  split
  · rename_i hs
    have := beV_lt ((l.drop s.1).take n)
    rw [List.length_take, List.length_drop, Nat.min_eq_left (by omega)] at this
    exact this
  · exact Nat.pow_pos (by omega)
theorem rowsStep_small (l : List UInt8) (s : Nat × Nat) (rs : List RowT) : ∀ j, (((rowsStep (stO l) s rs).2).getD j (0, 0)).1 < 4294967296 ∧ (((rowsStep (stO l) s rs).2).getD j (0, 0)).2 < 4294967296 := by
  have e4 : (256 : Nat) ^ 4 = 4294967296 := by decide
  have key : ∀ k, k ≤ rs.length → ∀ r ∈ (rowsStep (stO l) s (rs.take k)).2, r.1 < 4294967296 ∧ r.2 < 4294967296 := by
    intro k
    induction k with
    | zero => intro _ r hr; rw [List.take_zero] at hr; cases hr
    | succ k ih =>
      intro hk r hr
      rw [rowsStep_take _ _ _ _ (by omega)] at hr
      unfold rowStep at hr
      dsimp only at hr
      rw [List.mem_append] at hr
      rcases hr with hr | hr
      · exact ih (by omega) r hr
      · obtain rfl := List.mem_singleton.1 hr
        rw [← e4]
        exact ⟨stO_small _ _ _ _, stO_small _ _ _ _⟩
  intro j
  have h := key rs.length (Nat.le_refl _)
  rw [List.take_length] at h
  rw [List.getD_eq_getElem?_getD]
  cases hq : (rowsStep (stO l) s rs).2[j]? with
  | none => exact ⟨by decide, by decide⟩
  | some r => exact h r (List.mem_of_getElem? hq)
theorem opP_len (l : List UInt8) : (opP l).2.2.length = (stO l (stO l (1, 0) 0 4).1 0 2).2 := by
  unfold opP
  dsimp only
  have h := rowsStep_len (stO l) (stO l (stO l (1, 0) 0 4).1 0 2).1 (List.replicate (stO l (stO l (1, 0) 0 4).1 0 2).2 (0, 0)) _ (Nat.le_refl _)
  rw [List.take_length, List.length_replicate] at h
  exact h

theorem news_openedP_none (w : World) :
    Calls Try.prog 27 #[.int .u8 72, .func (.func 25) #[rpZ] #[], .string (bs [])] w fun e w' => e = .returned (.tuple #[rpZ, .int .i64 10]) ∧ Below w.heap.size w w' := by
  have h1 : (bs []).toList.isEmpty = true := by rw [bs, ByteArray.toList_mk]; rfl
  go_enter Try.func27, Try.ntmps27
  go_wp2_with fail
  refine bodyPost_ret (v := .tuple #[rpZ, .int .i64 10]) (by simp [results, Try.results27, go_sem, rpZ]) rfl ⟨rfl, ?_⟩
  exact (((Below.refl _ _).alloc (Nat.le_refl _) _).alloc (by simp) _).alloc (by simp; omega) _

theorem news_openedP_form (x : UInt8) (l : List UInt8) (w : World) (hx : x ≠ 72) :
    Calls Try.prog 27 #[.int .u8 72, .func (.func 25) #[rpZ] #[], .string (bs (x :: l))] w fun e w' => e = .returned (.tuple #[rpZ, .int .i64 4]) ∧ Below w.heap.size w w' := by
  have h1 : (bs (x :: l)).toList.isEmpty = false := by rw [bs, ByteArray.toList_mk]; rfl
  have hj : 0 < (bs (x :: l)).size := by rw [bs_size]; simp
  obtain ⟨v, hv⟩ : ∃ v, v = x.toNat := ⟨_, rfl⟩
  have hvi : (((bs (x :: l))[0]'hj).toNat : Int) = (v : Int) := by rw [hv]; rfl
  have hne : ((v : Int) != 72) = true := by
    rw [bne_iff_ne]
    intro e
    apply hx
    apply UInt8.toNat_inj.1
    rw [← hv]
    show v = 72
    omega
  clear hv
  go_enter Try.func27, Try.ntmps27
  go_wp2_with fail
  refine bodyPost_ret (v := .tuple #[rpZ, .int .i64 4]) (by simp [results, Try.results27, go_sem, rpZ]) rfl ⟨rfl, ?_⟩
  exact (((Below.refl _ _).alloc (Nat.le_refl _) _).alloc (by simp) _).alloc (by simp; omega) _

set_option maxHeartbeats 8000000 in
theorem news_openedP_ok (l L : List UInt8) (w : World) (hL : L = 72 :: l) (hl : L.length ≤ 1000000) :
    Calls Try.prog 27 #[.int .u8 72, .func (.func 25) #[rpZ] #[], .string (bs L)] w fun e w' =>
      OpPost (opP L) L e w' ∧ Below w.heap.size w w' := by
  have h1 : (bs L).toList.isEmpty = false := by rw [hL, bs, ByteArray.toList_mk]; rfl
  have hj : 0 < (bs L).size := by rw [bs_size, hL]; simp
  have hvi : (((bs L)[0]'hj).toNat : Int) = 72 := by subst hL; rfl
  have hln : 1 ≤ L.length := by rw [hL]; simp
  clear hL
  obtain ⟨W0, hW0⟩ : ∃ W0, W0 = ((((w.alloc (.cells #[.string (bs L)] 9)).alloc (.cells #[.int .u32 0, .slice none 0 0] 38)).alloc (.cells #[.int .u32 0, .slice none 0 0] 38)).alloc (.cells #[.int .i64 1] 3)).alloc (.cells #[.int .i64 0] 27) := ⟨_, rfl⟩
  have F0 := opened_boxes w W0 L 38 #[.int .u32 0, .slice none 0 0] hW0
  have I0 : Hid (InvO w.heap.size w.heap.size L (1, 0) W0) := Lib.hid ⟨Nat.le_refl _, hln, F0.1, F0.2.2.2.1, F0.2.2.2.2.1⟩
  have Z0 : Hid (Blk W0 (w.heap.size + 1) 38 [.int .u32 0, .slice none 0 0] ∧ Blk W0 (w.heap.size + 1 + 1) 38 [.int .u32 0, .slice none 0 0]) := Lib.hid ⟨F0.2.1, F0.2.2.1⟩
  have B0 : Hid (Below w.heap.size w W0) := Lib.hid F0.2.2.2.2.2
  have HE := Lib.hid (eachP_opened w.heap.size w.heap.size (stO L) _ _ (openedP_num w.heap.size w.heap.size L hl) (1, 0) 0 none 0 0 [] W0 (stO L (1, 0) 0 4) (stO L (stO L (1, 0) 0 4).1 0 2) (List.replicate (stO L (stO L (1, 0) 0 4).1 0 2).2 (0, 0)) _ ⟨I0.out, B0.out.size⟩ trivial (by decide) (fun W _ => Rws.nil W none) (by decide) (by decide) rfl rfl (Nat.zero_le _) B0.out.size (by simp) rfl)
  have HPL := Lib.hid (opP_len L)
  have HPS : Hid (∀ j, ((opP L).2.2.getD j (0, 0)).1 < 4294967296 ∧ ((opP L).2.2.getD j (0, 0)).2 < 4294967296) := Lib.hid (rowsStep_small L _ _)
  obtain ⟨P, hP⟩ : ∃ P, P = opP L := ⟨_, rfl⟩
  have HE2 : Hid (Calls Try.prog 25 #[rpZ, .func (.func 41) #[] #[.pointer (some ⟨w.heap.size + 3, 0, none⟩), .pointer (some ⟨w.heap.size, 0, none⟩), .pointer (some ⟨w.heap.size + 4, 0, none⟩)]] W0 fun e w' =>
      ∃ g, e = .returned (.agg #[.int .u32 (P.2.1 : Int), .slice (some ⟨g, 0, none⟩) P.2.2.length P.2.2.length]) ∧ Blk w' g 65 (rowsV P.2.2) ∧ W0.heap.size ≤ g ∧ (InvO w.heap.size w.heap.size L P.1 w' ∧ w.heap.size ≤ w'.heap.size) ∧ Below w.heap.size W0 w' ∧ KeepT eachT W0 w') := Lib.hid (by rw [hP, HPL.out]; exact HE.out)
  rw [← hP] at HPS ⊢
  obtain ⟨⟨at', f⟩, x1, rows⟩ := P
  dsimp only at HE2 HPS
  obtain ⟨nr, hnr⟩ : ∃ n, n = rows.length := ⟨_, rfl⟩
  rw [← hnr] at HE2
  have HNR := Lib.hid hnr
  clear hP HE F0 I0 HPL hnr
  go_enter Try.func27, Try.ntmps27
  go_upto_region 8 with (go_at_call 25; rw [← hW0]; refine HE2.out.mono ?_; rintro e W1 ⟨g, rfl, r1, gg, ⟨i1, s1⟩, b1, k1⟩)
  have Z1 : Hid (Blk W1 (w.heap.size + 1) 38 [.int .u32 0, .slice none 0 0] ∧ Blk W1 (w.heap.size + 1 + 1) 38 [.int .u32 0, .slice none 0 0] ∧ Blk W1 g 65 (rowsV rows)) := Lib.hid ⟨k1.blk Z0.out.1 (by decide), k1.blk Z0.out.2 (by decide), r1⟩
  have B1 := Lib.hid (B0.out.trans b1)
  have I1 := Lib.hid i1
  have GG : Hid (w.heap.size + 1 < g) := Lib.hid (by have := Z0.out.2.lt; omega)
  clear HE2 Z0 B0 b1 k1 i1 h1 hvi hW0 r1 gg
  obtain ⟨W2, hW2⟩ : ∃ W2, W2 = W1.alloc (.cells #[.int .u32 (x1 : Int), .slice (some ⟨g, 0, none⟩) nr nr] 38) := ⟨_, rfl⟩
  have Z2 : Hid (Blk W2 (w.heap.size + 1) 38 [.int .u32 0, .slice none 0 0] ∧ Blk W2 (w.heap.size + 1 + 1) 38 [.int .u32 0, .slice none 0 0] ∧ Blk W2 W1.heap.size 38 [.int .u32 (x1 : Int), .slice (some ⟨g, 0, none⟩) nr nr] ∧ Blk W2 g 65 (rowsV rows)) := Lib.hid (by
    rw [hW2]
    exact ⟨Z1.out.1.alloc _, Z1.out.2.1.alloc _, heap_alloc_new W1 _, Z1.out.2.2.alloc _⟩)
  have B2 : Hid (Below w.heap.size w W2) := Lib.hid (by rw [hW2]; exact B1.out.alloc B1.out.size _)
  have HC : Hid (∀ w', Below W2.heap.size W2 w' → w'.cell? ⟨w.heap.size, 0, none⟩ = some (.string (bs L)) ∧ w'.cell? ⟨w.heap.size + 1 + 1 + 1, 0, none⟩ = some (.int .i64 (at' : Int)) ∧ w'.cell? ⟨w.heap.size + 1 + 1 + 1 + 1, 0, none⟩ = some (.int .i64 (f : Int))) := Lib.hid (fun w' hb => by
    obtain ⟨q1, q2, q3, q4, q5⟩ := I1.out
    have e : ∀ {g t : Nat} {cs : List Value}, Blk W1 g t cs → Blk w' g t cs := fun h => (by rw [hW2] at hb; exact (h.alloc _).keep hb)
    exact ⟨(e q3).cell0, (e q4).cell0, (e q5).cell0⟩)
  have K0 : Hid (Below W2.heap.size W2 W2.drew) := Lib.hid (Below.refl _ _).drew
  have hat : at' ≤ L.length := I1.out.2.1
  have HSL := Lib.hid (fun W => run_str_fromN L (L.drop at') at' W hat rfl)
  obtain ⟨E, hE, hEn⟩ : ∃ E : Nat, (∀ W, Calls Try.prog 33 #[.string (bs (L.drop at'))] W fun e w' => e = .returned (.int .i64 (E : Int)) ∧ W = w') ∧ E = (if at' < L.length then 11 else 0) := by
    by_cases h : at' < L.length
    · refine ⟨11, fun W => oct_End_some _ W ?_, by rw [if_pos h]⟩
      intro e
      have := congrArg List.length e
      rw [List.length_drop] at this
      simp at this
      omega
    · refine ⟨0, fun W => ?_, by rw [if_neg h]⟩
      rw [List.drop_of_length_le (by omega)]
      exact oct_End_none W
  have HEE := Lib.hid hE
  have HOR := Lib.hid (fun g W hb => cmp_Or (f : Int) (E : Int) g W hb)
  obtain ⟨F, hF⟩ : ∃ F, F = opE (at', f) L := ⟨_, rfl⟩
  have hFi : (if (f : Int) = 0 then (E : Int) else (f : Int)) = (F : Int) := by
    rw [hF, hEn]
    unfold opE
    dsimp only
    by_cases h : f = 0
    · subst h
      rfl
    · rw [if_neg h, if_neg (by omega)]
  rw [hFi] at HOR
  have HF := Lib.hid hF
  have hsl := HSL.out
  clear hF hFi hE hEn hat
  refine wp_world hW2 ?_
  clear hW2 I1 Z1 HSL
  refine wp_region_noPanic ?_
  refine wp_region_held_drew (S := fun w' => w'.cell? ⟨w.heap.size, 0, none⟩ = some (.string (bs L)) ∧ w'.cell? ⟨w.heap.size + 1 + 1 + 1, 0, none⟩ = some (.int .i64 (at' : Int)) ∧ w'.cell? ⟨w.heap.size + 1 + 1 + 1 + 1, 0, none⟩ = some (.int .i64 (f : Int))) (by kernel_rfl) ?_ (fun hHeld => ?_)
  · exact HC.out _ K0.out
  refine wpAnyH_take (i := 0) (oi := on8o0) (v := ?_) rfl (by kernel_rfl) (by kernel_rfl) (by kernel_rfl) (fun _ _ _ h => h) (Or.inl ⟨by rfl, ?_⟩) (by assumption) ?_
  rotate_left
  · (intro w hSw; (try dsimp only at hSw); obtain ⟨s0, s1, s2⟩ := hSw; (try dsimp only [on8o0]); go_simp; try (with_reducible rfl))
  (try simp only [Act.put, List.setIfInBounds_toArray, List.set_cons_zero, List.set_cons_succ])
  refine wpAnyH_take (i := 1) (oi := on8o1) (v := ?_) rfl (by kernel_rfl) (by kernel_rfl) (by kernel_rfl) (fun _ _ _ h => h) (Or.inl ⟨by rfl, ?_⟩) (by assumption) ?_
  rotate_left
  · (intro w hSw; (try dsimp only at hSw); obtain ⟨s0, s1, s2⟩ := hSw; (try dsimp only [on8o1]); go_simp; try (with_reducible rfl))
  (try simp only [Act.put, List.setIfInBounds_toArray, List.set_cons_zero, List.set_cons_succ])
  refine wpAnyH_take (i := 2) (oi := on8o2) (v := ?_) rfl (by kernel_rfl) (by kernel_rfl) (by kernel_rfl) (fun _ _ _ h => h) (Or.inl ⟨by rfl, ?_⟩) (by assumption) ?_
  rotate_left
  · (intro w hSw; (try dsimp only at hSw); obtain ⟨s0, s1, s2⟩ := hSw; (try dsimp only [on8o2]); go_simp; try (with_reducible rfl))
  (try simp only [Act.put, List.setIfInBounds_toArray, List.set_cons_zero, List.set_cons_succ])
  refine wpAnyH_take (i := 3) (oi := on8o3) (v := ?_) rfl (by kernel_rfl) (by kernel_rfl) (by kernel_rfl) (fun _ _ _ h => h) (Or.inl ⟨by rfl, ?_⟩) (by assumption) ?_
  rotate_left
  · (intro w hSw; (try dsimp only at hSw); obtain ⟨s0, s1, s2⟩ := hSw; (try dsimp only [on8o3]); go_simp; try (with_reducible rfl))
  (try simp only [Act.put, List.setIfInBounds_toArray, List.set_cons_zero, List.set_cons_succ])
  refine wpAnyH_ready (rs := [4]) (by kernel_rfl) (by simp) ?_
  refine AllReadyH.cons (o := on8o4) rfl (fun K hK => ?_) AllReadyH.nil
  dsimp only [on8o4]
  go_simp
  refine (HEE.out _).mono ?_
  rintro e w3 ⟨rfl, rfl⟩
  (try go_wp2_with fail)
  refine hK.out _ _ ?_ (fun hHeld => ?_)
  · exact HC.out _ K0.out
  clear hK K
  (try simp only [Act.put, List.setIfInBounds_toArray, List.set_cons_zero, List.set_cons_succ])
  refine wpAnyH_ready (rs := [5]) (by kernel_rfl) (by simp) ?_
  refine AllReadyH.cons (o := on8o5) rfl (fun K hK => ?_) AllReadyH.nil
  rw [if_pos (by rfl)]
  dsimp only [on8o5]
  go_simp
  refine hK.out _ _ ?_ (fun hHeld => ?_)
  · exact HC.out _ (K0.out.alloc (Nat.le_refl _) _)
  clear hK K
  (try simp only [Act.put, List.setIfInBounds_toArray, List.set_cons_zero, List.set_cons_succ])
  refine wpAnyH_ready (rs := [6]) (by kernel_rfl) (by simp) ?_
  refine AllReadyH.cons (o := on8o6) rfl (fun K hK => ?_) AllReadyH.nil
  dsimp only [on8o6]
  go_simp
  refine (HOR.out W2.heap.size (W2.alloc (.cells #[.int .i64 (f : Int), .int .i64 (E : Int)] 27)).drew (heap_alloc_new W2 _)).mono ?_
  rintro e w3 ⟨rfl, rfl⟩
  (try go_wp2_with fail)
  refine hK.out _ _ ?_ (fun hHeld => ?_)
  · exact HC.out _ (K0.out.alloc (Nat.le_refl _) _)
  clear hK K
  (try simp only [Act.put, List.setIfInBounds_toArray, List.set_cons_zero, List.set_cons_succ])
  refine wpAnyH_take (i := 7) (oi := on8o7) (v := ?_) rfl (by kernel_rfl) (by kernel_rfl) (by kernel_rfl) (fun _ _ _ h => h) (Or.inl ⟨by rfl, ?_⟩) (by assumption) ?_
  rotate_left
  · (intro w hSw; (try dsimp only at hSw); obtain ⟨s0, s1, s2⟩ := hSw; (try dsimp only [on8o7]); go_simp; try (with_reducible rfl))
  (try simp only [Act.put, List.setIfInBounds_toArray, List.set_cons_zero, List.set_cons_succ])
  refine wpAnyH_done (by kernel_rfl) ?_ _
  refine NoPanic.normal ?_
  obtain ⟨W3, hW3⟩ : ∃ W3, W3 = (W2.alloc (.cells #[.int .i64 (f : Int), .int .i64 (E : Int)] 27)).drew := ⟨_, rfl⟩
  have B3 : Hid (Below W2.heap.size W2 W3) := Lib.hid (by rw [hW3]; exact ((Below.refl _ _).alloc (Nat.le_refl _) _).drew)
  have Z3 : Hid (Blk W3 (w.heap.size + 1) 38 [.int .u32 0, .slice none 0 0] ∧ Blk W3 (w.heap.size + 1 + 1) 38 [.int .u32 0, .slice none 0 0] ∧ Blk W3 W1.heap.size 38 [.int .u32 (x1 : Int), .slice (some ⟨g, 0, none⟩) nr nr] ∧ Blk W3 g 65 (rowsV rows)) := Lib.hid ⟨Z2.out.1.keep B3.out, Z2.out.2.1.keep B3.out, Z2.out.2.2.1.keep B3.out, Z2.out.2.2.2.keep B3.out⟩
  have BW : Hid (Below w.heap.size w W3) := Lib.hid (B2.out.trans (B3.out.mono B2.out.size))
  rw [← hW3]
  clear hW3 HC hsl B3 B2 Z2 HOR HEE K0 hj hln
  have g0 := Z3.out.1.cell 0
  have g1 := Z3.out.1.cell 1
  dsimp only [List.getElem?_cons_zero, List.getElem?_cons_succ] at g0 g1
  have q0 := Z3.out.1.frozen 0
  have q1 := Z3.out.1.frozen 1
  by_cases hF0 : F = 0
  · subst hF0
    have m0 := Z3.out.2.2.1.cell 0
    have m1 := Z3.out.2.2.1.cell 1
    dsimp only [List.getElem?_cons_zero, List.getElem?_cons_succ] at m0 m1
    go_wp2_with fail
    have GP := (Z3.out.1.set_ 0 (.int .u32 (x1 : Int))).set_ 1 (.slice (some ⟨g, 0, none⟩) nr nr)
    have d0 := GP.cell 0
    have d1 := GP.cell 1
    dsimp only [List.getElem?_cons_zero, List.getElem?_cons_succ, List.set_cons_zero, List.set_cons_succ] at d0 d1
    refine bodyPost_ret (v := .tuple #[.agg #[.int .u32 (x1 : Int), .slice (some ⟨g, 0, none⟩) nr nr], .int .i64 0]) (by simp [results, Try.results27, go_sem, d0, d1]) rfl ⟨?_, ?_⟩
    · unfold OpPost
      rw [if_pos HF.out.symm]
      dsimp only
      rw [← HNR.out]
      refine ⟨g, rfl, ?_⟩
      have hB : Blk ((W3.setCell ⟨w.heap.size + 1, 0, none⟩ (.int .u32 (x1 : Int))).setCell ⟨w.heap.size + 1, 1, none⟩ (.slice (some ⟨g, 0, none⟩) nr nr)) g 65 (rowsV rows) := (Z3.out.2.2.2.far (show g ≠ w.heap.size + 1 by have := GG.out; omega) _).far (show g ≠ w.heap.size + 1 by have := GG.out; omega) _
      rw [HNR.out] at hB ⊢
      exact Rws.of_blk hB (fun j _ => HPS.out j)
    · exact (BW.out.setCell (p := ⟨w.heap.size + 1, 0, none⟩) (by show w.heap.size ≤ w.heap.size + 1; omega) _).setCell (p := ⟨w.heap.size + 1, 1, none⟩) (by show w.heap.size ≤ w.heap.size + 1; omega) _
  · have m0 := Z3.out.2.1.cell 0
    have m1 := Z3.out.2.1.cell 1
    dsimp only [List.getElem?_cons_zero, List.getElem?_cons_succ] at m0 m1
    have hFn : ((F : Int) != 0) = true := by rw [bne_iff_ne]; omega
    have hFz := Lib.hid hF0
    clear hF0
    go_wp2_with fail
    have GP := (Z3.out.1.set_ 0 (.int .u32 0)).set_ 1 (.slice none 0 0)
    have d0 := GP.cell 0
    have d1 := GP.cell 1
    dsimp only [List.getElem?_cons_zero, List.getElem?_cons_succ, List.set_cons_zero, List.set_cons_succ] at d0 d1
    refine bodyPost_ret (v := .tuple #[.agg #[.int .u32 0, .slice none 0 0], .int .i64 (F : Int)]) (by simp [results, Try.results27, go_sem, d0, d1]) rfl ⟨?_, ?_⟩
    · unfold OpPost
      rw [← HF.out, if_neg hFz.out]
      rfl
    · exact (BW.out.setCell (p := ⟨w.heap.size + 1, 0, none⟩) (by show w.heap.size ≤ w.heap.size + 1; omega) _).setCell (p := ⟨w.heap.size + 1, 1, none⟩) (by show w.heap.size ≤ w.heap.size + 1; omega) _

end Go.Proofs.Ytackddgihdnmgaa
