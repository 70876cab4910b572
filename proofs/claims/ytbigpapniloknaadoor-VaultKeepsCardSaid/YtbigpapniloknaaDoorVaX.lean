/- The document's example of layer 16: what lies on its disk; what an opening tells: plain mathematics. -/
import Derived.Test.YtbigpapniloknaaDoorVaF
namespace Go.Proofs.YtbigpapniloknaaDoor
open Go.RowKit
set_option maxRecDepth 100000

theorem openC_ok {D : DSt} {n sl g : Nat} {t : List UInt8} (h1 : (lookF D ((2 * n : Nat) : Int) D.lasts.length).1 = false) (h2 : (lookF D ((2 * n : Nat) : Int) D.lasts.length).2.1 = false) (h3 : (lookF D ((2 * n : Nat) : Int) D.lasts.length).2.2 ≤ g) (h4 : newestF D n = (sl, g, t, true)) : openC D n = 0 := by
  unfold openC
  rw [h1, h2, h4, if_neg (by decide), if_neg]
  show ¬ ((false || (!true || decide (g < (lookF D ((2 * n : Nat) : Int) D.lasts.length).2.2))) = true)
  rw [decide_eq_false (by omega)]
  decide

def blankR : RecT × Nat := ((0, 0, 0, []), 16)
theorem openK1 (D : DSt) (fr : Nat) : openK D fr 1 = opens2 (recAt D fr) blankR := by
  unfold opens2
  rw [if_neg (show ¬ (blankR.2 = 0) from fun h => by cases h), List.append_nil]
  by_cases h : (recAt D fr).2 = 0
  · rw [if_pos h]; exact openK_yes (D := D) (fr := fr) (i := 0) h
  · rw [if_neg h]; exact openK_no (D := D) (fr := fr) (i := 0) h
theorem readS1 {D : DSt} {b : Nat} (hb : b + 1 ≤ D.lasts.length) : readF (foundL D (b : Int) ((1 : Nat) : Int)) = read2 (recAt D b) blankR := by
  rw [foundL_K (by omega) hb, openK1]; rfl
theorem newS1 {D : DSt} {b : Nat} (hb : b + 1 ≤ D.lasts.length) : newF (openL2 D (b : Int) ((1 : Nat) : Int)) = new2 (recAt D b) blankR := by
  unfold openL2
  rw [liesB_yes (by omega) hb, if_pos rfl, Int.toNat_natCast, Int.toNat_natCast, openK1]; rfl
theorem newest1 {D : DSt} (hlen : 2 ≤ D.lasts.length) : newestF D 1 = newestS (newestS (0, 0, [], false) 0 (read2 (recAt D 0) blankR)) 1 (read2 (recAt D 1) blankR) := by
  unfold newestF
  have h0 := readS1 (D := D) (b := 0) (by omega)
  have h1 := readS1 (D := D) (b := 1) (by omega)
  rw [← h0, ← h1]
  rfl
theorem exP : partN (sumT [97]) = 1 := by unfold partN; rw [sumT_len]; rfl
theorem lay_rec {D : DSt} (h0 : D.armed = 0) (hok : DOk D) (hlen : D.lasts.length = 4) {fr g : Nat} (hfr : fr < 4) (hg : g < 18446744073709551616) :
    (layD D fr 1 g [97]).2 = 0 ∧ (layD D fr 1 g [97]).1.armed = 0 ∧ (layD D fr 1 g [97]).1.waits = [] ∧ (layD D fr 1 g [97]).1.lasts.length = 4 ∧ DOk (layD D fr 1 g [97]).1 ∧ ∀ i, i < 4 → recAt (layD D fr 1 g [97]).1 i = if i = fr then (partAt g (sumT [97]) 0, 0) else recAt D i := by
  obtain ⟨F, f1, f2, f3, f4, f5⟩ := lay_zero (D := D) (fr := fr) (r := 1) (g := g) (t := [97]) h0 hok (by decide) (by omega) (by simp)
  have hF : DOk F := dok_more hok f1 f2 (fun x hx => by
    obtain ⟨q1, q2, q3⟩ := seqW_mem hx
    rw [exP] at q2
    exact ⟨by omega, by rw [q3]; exact secP_len _ _ _⟩)
  have hl : F.lasts.length = 4 := by rw [f1]; exact hlen
  refine ⟨f4, f5, f3.wts, f3.len.trans hl, f3.ok hF, fun i hi => ?_⟩
  rw [f3.recAt (by omega), recAt_view, view_seq _ _ _ F f1 f2 i (by omega), exP]
  by_cases q : i = fr
  · rw [if_pos (by omega), if_pos q, q, Nat.sub_self]
    exact open_part hg (by decide)
  · rw [if_neg (by omega), if_neg q]
    rfl

/-- A disk of the example's. -/
structure Ex (D : DSt) (r0 r1 r2 r3 : RecT × Nat) : Prop where
  len : D.lasts.length = 4
  ok : DOk D
  dry : D.waits = []
  arm : D.armed = 0
  e0 : recAt D 0 = r0
  e1 : recAt D 1 = r1
  e2 : recAt D 2 = r2
  e3 : recAt D 3 = r3
def exP1 : RecT × Nat := (partAt 1 (sumT [97]) 0, 0)
def exP2 : RecT × Nat := (partAt 2 (sumT [97]) 0, 0)
def exA : DSt := (formatD (newD 4) 1 [97]).1
def exB : DSt := (layD exA 1 1 2 [97]).1
def exC : DSt := { exB with lasts := exB.lasts.set 2 (secL 1 2 0 [98]), waits := [], ops := exB.ops + 2 }
theorem exA_ex : Ex exA exP1 blankR blankR blankR ∧ (formatD (newD 4) 1 [97]).2 = 0 := by
  unfold exA
  rw [format_new]
  obtain ⟨q1, q2, q3, q4, q5, q6⟩ := lay_rec (D := newD 4) rfl (newD_ok (by decide) (by decide)) (by simp [newD]) (fr := 0) (g := 1) (by decide) (by decide)
  have hb : ∀ i, i < 4 → recAt (newD 4) i = blankR := fun i hi => by rw [recAt_dry rfl (by simp [newD]; omega), newD_get hi, open_blank]; rfl
  exact ⟨⟨q4, q5, q3, q2, (q6 0 (by decide)).trans (if_pos rfl), (q6 1 (by decide)).trans ((if_neg (by decide)).trans (hb 1 (by decide))), (q6 2 (by decide)).trans ((if_neg (by decide)).trans (hb 2 (by decide))), (q6 3 (by decide)).trans ((if_neg (by decide)).trans (hb 3 (by decide)))⟩, q1⟩
theorem exB_ex : Ex exB exP1 exP2 blankR blankR ∧ (layD exA 1 1 2 [97]).2 = 0 := by
  unfold exB
  have hA := exA_ex.1
  obtain ⟨q1, q2, q3, q4, q5, q6⟩ := lay_rec (D := exA) hA.arm hA.ok hA.len (fr := 1) (g := 2) (by decide) (by decide)
  exact ⟨⟨q4, q5, q3, q2, (q6 0 (by decide)).trans ((if_neg (by decide)).trans hA.e0), (q6 1 (by decide)).trans (if_pos rfl), (q6 2 (by decide)).trans ((if_neg (by decide)).trans hA.e2), (q6 3 (by decide)).trans ((if_neg (by decide)).trans hA.e3)⟩, q1⟩
theorem exC_app : appL exB 2 2 2 0 [98] = (exC, 1, 0) := app_dry exB_ex.1.dry exB_ex.1.arm (by decide) (by rw [exB_ex.1.len]; decide) (by simp)
theorem exC_ex : Ex exC exP1 exP2 ((1, 2, 0, [98]), 0) blankR := by
  have hB := exB_ex.1
  have hl : exC.lasts.length = 4 := by show (exB.lasts.set 2 _).length = 4; rw [List.length_set]; exact hB.len
  have hr : ∀ i, i < 4 → recAt exC i = if 2 = i then ((1, 2, 0, [98]), 0) else recAt exB i := fun i hi => by
    rw [recAt_dry rfl (by rw [hl]; exact hi), recAt_dry hB.dry (by rw [hB.len]; exact hi)]
    show openT ((exB.lasts.set 2 (secL 1 2 0 [98])).getD i []) = _
    rw [getD_set _ _ _ _ _ (by rw [hB.len]; decide)]
    by_cases q : 2 = i
    · rw [if_pos q, if_pos q]; exact next_sec (by decide) (by decide) (by decide)
    · rw [if_neg q, if_neg q]
  have hok : DOk exC := by
    refine ⟨by rw [hl]; decide, by rw [hl]; decide, fun t ht => ?_, fun x hx => by cases hx⟩
    rcases List.mem_or_eq_of_mem_set ht with q | q
    · exact hB.ok.2.2.1 t q
    · rw [q]; exact secL_len _ _ _ _ (by decide)
  exact ⟨hl, hok, rfl, hB.arm, (hr 0 (by decide)).trans ((if_neg (by decide)).trans hB.e0), (hr 1 (by decide)).trans ((if_neg (by decide)).trans hB.e1), (hr 2 (by decide)).trans (if_pos rfl), (hr 3 (by decide)).trans ((if_neg (by decide)).trans hB.e3)⟩
theorem exR1 : read2 exP1 blankR = ([97], 1, true) := read2_parts (by decide) (by decide) (.inl exP)
theorem exR2 : read2 exP2 blankR = ([97], 2, true) := read2_parts (by decide) (by decide) (.inl exP)
theorem exR0 : read2 blankR blankR = ([], 0, false) := by
  have e : opens2 blankR blankR = [] := rfl
  unfold read2
  rw [e]
  exact read_nil
theorem exA_new : newestF exA 1 = (0, 1, [97], true) := by
  rw [newest1 (by rw [exA_ex.1.len]; decide), exA_ex.1.e0, exA_ex.1.e1, exR1, exR0]
  rfl
theorem exC_new : newestF exC 1 = (1, 2, [97], true) := by
  rw [newest1 (by rw [exC_ex.len]; decide), exC_ex.e0, exC_ex.e1, exR1, exR2]
  rfl
theorem exA_gen : genN exA 1 0 = 1 := by
  have h0 := newS1 (D := exA) (b := 0) (by rw [exA_ex.1.len]; decide)
  have h1 := newS1 (D := exA) (b := 1) (by rw [exA_ex.1.len]; decide)
  rw [exA_ex.1.e0] at h0
  rw [exA_ex.1.e1] at h1
  unfold genN
  show max (newF (openL2 exA ((1 : Nat) : Int) ((1 : Nat) : Int))) (newF (openL2 exA ((0 : Nat) : Int) ((1 : Nat) : Int))) = 1
  rw [h0, h1]
  have hk : exP1.1.1 = 3 := by show (if 0 + 1 = partN (sumT [97]) then 3 else 2) = 3; rw [exP]; rfl
  have e1 : new2 blankR blankR = 0 := rfl
  have e0 : new2 exP1 blankR = 1 := by
    show newStep 0 (0, exP1.1) = 1
    unfold newStep
    rw [if_pos (.inr hk)]
    rfl
  rw [e0, e1]
  rfl
theorem exA_open : openC exA 1 = 0 := by
  have h := look_ok (D := exA) (fr := ((2 * 1 : Nat) : Int)) (g := 1) 4 (fun j hj => by
    match j, hj with
    | 0, _ => rw [exA_ex.1.e0]; exact .inl rfl
    | 1, _ => rw [exA_ex.1.e1]; exact .inr rfl
    | 2, _ => rw [exA_ex.1.e2]; exact .inr rfl
    | 3, _ => rw [exA_ex.1.e3]; exact .inr rfl) (fun j hj hf q => by
    match j, hj, hf with
    | 0, _, hf => omega
    | 1, _, hf => omega
    | 2, _, _ => rw [exA_ex.1.e2] at q; cases q
    | 3, _, _ => rw [exA_ex.1.e3] at q; cases q)
  have hl := exA_ex.1.len
  refine openC_ok (sl := 0) (g := 1) (t := [97]) ?_ ?_ ?_ exA_new
  · rw [hl]; exact h.2.2 ⟨0, by decide, by rw [exA_ex.1.e0]; rfl⟩
  · rw [hl]; exact h.1
  · rw [hl]; exact h.2.1
theorem exC_open : openC exC 1 = 0 := by
  have h := look_ok (D := exC) (fr := ((2 * 1 : Nat) : Int)) (g := 2) 4 (fun j hj => by
    match j, hj with
    | 0, _ => rw [exC_ex.e0]; exact .inl rfl
    | 1, _ => rw [exC_ex.e1]; exact .inl rfl
    | 2, _ => rw [exC_ex.e2]; exact .inl rfl
    | 3, _ => rw [exC_ex.e3]; exact .inr rfl) (fun j hj hf q => by
    match j, hj, hf with
    | 0, _, hf => omega
    | 1, _, hf => omega
    | 2, _, _ => rw [exC_ex.e2]; exact fun _ => Nat.le_refl _
    | 3, _, _ => rw [exC_ex.e3] at q; cases q)
  have hl := exC_ex.len
  refine openC_ok (sl := 1) (g := 2) (t := [97]) ?_ ?_ ?_ exC_new
  · rw [hl]; exact h.2.2 ⟨0, by decide, by rw [exC_ex.e0]; rfl⟩
  · rw [hl]; exact h.1
  · rw [hl]; exact h.2.1
theorem exA_log : logL exA 2 1 2 0 = [] := by
  show (if (recAt exA 2).2 = 0 ∧ (recAt exA 2).1.1 = 1 ∧ (recAt exA 2).1.2.1 = 1 ∧ (recAt exA 2).1.2.2.1 = 0 then _ else []) = []
  rw [exA_ex.1.e2, if_neg (fun h => by cases h.1)]
theorem exC_log : logL exC 2 2 2 0 = [[98]] := by
  show (if (recAt exC 2).2 = 0 ∧ (recAt exC 2).1.1 = 1 ∧ (recAt exC 2).1.2.1 = 2 ∧ (recAt exC 2).1.2.2.1 = 0 then (recAt exC 2).1.2.2.2 :: (if (recAt exC 3).2 = 0 ∧ (recAt exC 3).1.1 = 1 ∧ (recAt exC 3).1.2.1 = 2 ∧ (recAt exC 3).1.2.2.1 = 1 then _ else []) else []) = _
  rw [exC_ex.e2, exC_ex.e3, if_pos ⟨rfl, rfl, rfl, rfl⟩, if_neg (fun h => by cases h.1)]
end Go.Proofs.YtbigpapniloknaaDoor
