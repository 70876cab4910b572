/- The contract of OpenReport; what it answers is what the document says. Written by wip/tools/gen_news.py. -/
import Derived.Test.YtackddgihdnmgaaNewsK
namespace Go.Proofs.Ytackddgihdnmgaa
open Go.RowKit
set_option maxRecDepth 100000

/-- What opened answers of a report's bytes. -/
def oppT (l : List UInt8) : (Nat × List RowT) × Nat :=
  if l = [] then ((0, []), 10) else if l.head? ≠ some 72 then ((0, []), 4) else if opE (opP l).1 l = 0 then ((opP l).2, 0) else ((0, []), opE (opP l).1 l)
/-- What OpenReport answers. -/
def orpT (l : List UInt8) : (Nat × List RowT) × Nat :=
  if (oppT l).2 = 0 then (if MayP (oppT l).1.2 then (oppT l).1 else (0, []), if MayP (oppT l).1.2 then 0 else 4) else ((0, []), (oppT l).2)
/-- A report that comes back, with what is wrong. -/
def RpPost (T : (Nat × List RowT) × Nat) (e : Ending) (w' : World) : Prop :=
  ∃ A n, e = .returned (.tuple #[.agg #[.int .u32 (T.1.1 : Int), .slice A n n], .int .i64 (T.2 : Int)]) ∧ Rws w' A n T.1.2 ∧ (n : Int) ≤ 9223372036854775807

theorem news_openedP (l : List UInt8) (w : World) (hl : l.length ≤ 1000000) :
    Calls Try.prog 27 #[.int .u8 72, .func (.func 25) #[rpZ] #[], .string (bs l)] w fun e w' => RpPost (oppT l) e w' ∧ Below w.heap.size w w' := by
  unfold oppT
  cases l with
  | nil =>
    refine (news_openedP_none w).mono ?_
    rintro e w' ⟨rfl, hb⟩
    exact ⟨⟨none, 0, rfl, Rws.nil _ _, by decide⟩, hb⟩
  | cons x l =>
    rw [if_neg (by simp)]
    by_cases hx : x = 72
    · subst hx
      rw [if_neg (by simp)]
      refine (news_openedP_ok l (72 :: l) w rfl hl).mono ?_
      rintro e w' ⟨h, hb⟩
      refine ⟨?_, hb⟩
      unfold OpPost at h
      by_cases ho : opE (opP (72 :: l)).1 (72 :: l) = 0
      · rw [if_pos ho] at h ⊢
        obtain ⟨g, rfl, hr⟩ := h
        refine ⟨_, _, rfl, hr, ?_⟩
        have h1 := opP_len (72 :: l)
        have h2 := stO_small (72 :: l) (stO (72 :: l) (1, 0) 0 4).1 0 2
        have e2 : (256 : Nat) ^ 2 = 65536 := by decide
        rw [← h1, e2] at h2
        omega
      · rw [if_neg ho] at h ⊢
        subst h
        exact ⟨none, 0, rfl, Rws.nil _ _, by decide⟩
    · rw [if_pos (by simp [hx])]
      refine (news_openedP_form x l w hx).mono ?_
      rintro e w' ⟨rfl, hb⟩
      exact ⟨⟨none, 0, rfl, Rws.nil _ _, by decide⟩, hb⟩

set_option maxHeartbeats 4000000 in
theorem news_OpenReport (l : List UInt8) (w : World) (hl : l.length ≤ 1000000) :
    Calls Try.prog 14 #[.string (bs l)] w fun e w' => RpPost (orpT l) e w' ∧ Below w.heap.size w w' := by
  have H := Lib.hid (fun W => news_openedP l W hl)
  obtain ⟨T, hT⟩ : ∃ T, T = oppT l := ⟨_, rfl⟩
  rw [← hT] at H
  have HO : Hid (orpT l = if T.2 = 0 then (if MayP T.1.2 then T.1 else (0, []), if MayP T.1.2 then 0 else 4) else ((0, []), T.2)) := Lib.hid (by rw [hT]; rfl)
  obtain ⟨U, hU⟩ : ∃ U, U = orpT l := ⟨_, rfl⟩
  rw [← hU] at HO ⊢
  clear hT hU
  obtain ⟨⟨ep, rows⟩, cd⟩ := T
  dsimp only at HO
  obtain ⟨W0, hW0⟩ : ∃ W0, W0 = w.alloc (.cells #[.int .u32 0, .slice none 0 0] 38) := ⟨_, rfl⟩
  have Z0 : Hid (Blk W0 w.heap.size 38 [.int .u32 0, .slice none 0 0]) := Lib.hid (by rw [hW0]; exact heap_alloc_new w _)
  have B0 : Hid (Below w.heap.size w W0) := Lib.hid (by rw [hW0]; exact (Below.refl _ _).alloc (Nat.le_refl _) _)
  go_enter Try.func14, Try.ntmps14
  go_wp2_with fail
  rw [← hW0]
  clear hW0
  refine (H.out _).mono ?_
  rintro e w1 ⟨⟨A, n, rfl, hr, hnm⟩, b1⟩
  dsimp only at hr
  obtain ⟨W2, hW2⟩ : ∃ W2, W2 = w1.alloc (.cells #[.int .u32 (ep : Int), .slice A n n] 38) := ⟨_, rfl⟩
  have Y2 : Hid (Blk W2 w1.heap.size 38 [.int .u32 (ep : Int), .slice A n n]) := Lib.hid (by rw [hW2]; exact heap_alloc_new w1 _)
  have Z2 : Hid (Blk W2 w.heap.size 38 [.int .u32 0, .slice none 0 0]) := Lib.hid (by rw [hW2]; exact (Z0.out.keep b1).alloc _)
  have B2 : Hid (Below w.heap.size w W2) := Lib.hid (by rw [hW2]; exact (B0.out.trans (b1.mono B0.out.size)).alloc (Nat.le_trans B0.out.size b1.size) _)
  have R2 : Hid (Rws W2 A n rows) := Lib.hid (by rw [hW2]; exact hr.keep ((Below.refl _ _).alloc (Nat.le_refl _) _))
  have HCK := Lib.hid (news_check ep A n n rows W2 R2.out (Nat.le_refl _) hnm)
  obtain ⟨ck, hck⟩ : ∃ ck : Nat, ck = if MayP rows then 0 else 4 := ⟨_, rfl⟩
  have hcki : (if MayP rows then (0 : Int) else 4) = (ck : Int) := by rw [hck]; split <;> rfl
  rw [hcki] at HCK
  have HOR := Lib.hid (fun g W hb => cmp_Or (cd : Int) (ck : Int) g W hb)
  obtain ⟨F, hF⟩ : ∃ F : Nat, F = if cd = 0 then ck else cd := ⟨_, rfl⟩
  have hFi : (if (cd : Int) = 0 then (ck : Int) else (cd : Int)) = (F : Int) := by
    rw [hF]
    by_cases h : cd = 0
    · rw [if_pos h, if_pos (by omega)]
    · rw [if_neg h, if_neg (by omega)]
  rw [hFi] at HOR
  have HF := Lib.hid hF
  have HCKK := Lib.hid hck
  have NE : Hid (w.heap.size < w1.heap.size) := Lib.hid (Z0.out.keep b1).lt
  clear hF hFi hck hcki hr b1 Z0 B0 H
  have y0 : (w1.alloc (.cells #[.int .u32 (ep : Int), .slice A n n] 38)).cell? ⟨w1.heap.size, 0, none⟩ = some (.int .u32 (ep : Int)) := by rw [← hW2]; exact Y2.out.cell 0
  have y1 : (w1.alloc (.cells #[.int .u32 (ep : Int), .slice A n n] 38)).cell? ⟨w1.heap.size, 1, none⟩ = some (.slice A n n) := by rw [← hW2]; exact Y2.out.cell 1
  go_wp2_with fail
  clear y0 y1
  rw [← hW2]
  clear hW2
  refine HCK.out.mono ?_
  rintro e w3 ⟨rfl, b3⟩
  have Y3 := Lib.hid (Y2.out.keep b3)
  have Z3 := Lib.hid (Z2.out.keep b3)
  have B3 : Hid (Below w.heap.size w w3) := Lib.hid (B2.out.trans (b3.mono B2.out.size))
  have R3 := Lib.hid (R2.out.keep b3)
  clear b3 HCK Y2 Z2 B2 R2
  go_wp2_with fail
  refine (HOR.out _ _ (heap_alloc_new w3 _)).mono ?_
  rintro e w4 ⟨rfl, rfl⟩
  obtain ⟨W4, hW4⟩ : ∃ W4, W4 = w3.alloc (.cells #[.int .i64 (cd : Int), .int .i64 (ck : Int)] 27) := ⟨_, rfl⟩
  have bl4 : Below w3.heap.size w3 W4 := by rw [hW4]; exact (Below.refl _ _).alloc (Nat.le_refl _) _
  have Y4 := Lib.hid (Y3.out.keep bl4)
  have Z4 := Lib.hid (Z3.out.keep bl4)
  have B4 : Hid (Below w.heap.size w W4) := Lib.hid (B3.out.trans (bl4.mono B3.out.size))
  have R4 := Lib.hid (R3.out.keep bl4)
  rw [← hW4]
  clear hW4 bl4 Y3 Z3 B3 R3 HOR
  have g0 := Z4.out.cell 0
  have g1 := Z4.out.cell 1
  have m0 := Y4.out.cell 0
  have m1 := Y4.out.cell 1
  dsimp only [List.getElem?_cons_zero, List.getElem?_cons_succ] at g0 g1 m0 m1
  have q0 := Z4.out.frozen 0
  have q1 := Z4.out.frozen 1
  by_cases hF0 : F = 0
  · subst hF0
    have HOK : Hid (U = ((ep, rows), 0)) := Lib.hid (by
      have h := HF.out
      by_cases hc : cd = 0
      · rw [if_pos hc] at h
        have h2 := HCKK.out
        by_cases hm : MayP rows
        · rw [HO.out, if_pos hc, if_pos hm, if_pos hm]
        · rw [if_neg hm] at h2; omega
      · rw [if_neg hc] at h; omega)
    clear HO HF HCKK
    go_wp2_with fail
    have GP := (Z4.out.set_ 0 (.int .u32 (ep : Int))).set_ 1 (.slice A n n)
    have d0 := GP.cell 0
    have d1 := GP.cell 1
    dsimp only [List.getElem?_cons_zero, List.getElem?_cons_succ, List.set_cons_zero, List.set_cons_succ] at d0 d1
    refine bodyPost_ret (v := .tuple #[.agg #[.int .u32 (ep : Int), .slice A n n], .int .i64 0]) (by simp [results, Try.results14, go_sem, d0, d1]) rfl ⟨?_, ?_⟩
    · rw [HOK.out]
      refine ⟨A, n, rfl, ?_, hnm⟩
      exact (R4.out.far2 Z4.out 0 _).far2 (Z4.out.set_ 0 (.int .u32 (ep : Int))) 1 _
    · exact (B4.out.setCell (p := ⟨w.heap.size, 0, none⟩) (Nat.le_refl _) _).setCell (p := ⟨w.heap.size, 1, none⟩) (Nat.le_refl _) _
  · have HOK : Hid (U = ((0, []), F)) := Lib.hid (by
      have h := HF.out
      by_cases hc : cd = 0
      · rw [if_pos hc] at h
        have h2 := HCKK.out
        by_cases hm : MayP rows
        · rw [if_pos hm] at h2; omega
        · rw [if_neg hm] at h2; rw [HO.out, if_pos hc, if_neg hm, if_neg hm, h, h2]
      · rw [if_neg hc] at h; rw [HO.out, if_neg hc, h])
    have hFn : ((F : Int) != 0) = true := by rw [bne_iff_ne]; omega
    clear HO HF HCKK hF0
    go_wp2_with fail
    have GP := (Z4.out.set_ 0 (.int .u32 0)).set_ 1 (.slice none 0 0)
    have d0 := GP.cell 0
    have d1 := GP.cell 1
    dsimp only [List.getElem?_cons_zero, List.getElem?_cons_succ, List.set_cons_zero, List.set_cons_succ] at d0 d1
    refine bodyPost_ret (v := .tuple #[.agg #[.int .u32 0, .slice none 0 0], .int .i64 (F : Int)]) (by simp [results, Try.results14, go_sem, d0, d1]) rfl ⟨?_, ?_⟩
    · rw [HOK.out]
      exact ⟨none, 0, rfl, Rws.nil _ _, by decide⟩
    · exact (B4.out.setCell (p := ⟨w.heap.size, 0, none⟩) (Nat.le_refl _) _).setCell (p := ⟨w.heap.size, 1, none⟩) (Nat.le_refl _) _

end Go.Proofs.Ytackddgihdnmgaa
