/- What the document says of a report's bytes is what opened tells of them. -/
import Derived.Test.YtackddgihdnmgaaNewsO
namespace Go.Proofs.Ytackddgihdnmgaa
open Go.RowKit
set_option maxRecDepth 100000

def rowAt (l : List UInt8) (i : Nat) : RowT := (beV ((l.drop (7 + 8 * i)).take 4), beV ((l.drop (11 + 8 * i)).take 4))
def rowsOf (l : List UInt8) (m : Nat) : List RowT := (List.range m).map (rowAt l)
theorem rowsOf_len (l : List UInt8) (m : Nat) : (rowsOf l m).length = m := by unfold rowsOf; rw [List.length_map, List.length_range]
theorem rowsOf_succ (l : List UInt8) (m : Nat) : rowsOf l (m + 1) = rowsOf l m ++ [rowAt l m] := by unfold rowsOf; rw [List.range_succ, List.map_append]; rfl
theorem be4_lt (l : List UInt8) (a : Nat) (h : a + 4 ≤ l.length) : beV ((l.drop a).take 4) < 4294967296 := by
  have e4 : (256 : Nat) ^ 4 = 4294967296 := by decide
  have h2 := beV_lt ((l.drop a).take 4)
  rw [List.length_take, List.length_drop, Nat.min_eq_left (by omega), e4] at h2
  exact h2
theorem rowsOf_small (l : List UInt8) (m : Nat) (h : 7 + 8 * m ≤ l.length) (j : Nat) : ((rowsOf l m).getD j (0, 0)).1 < 4294967296 ∧ ((rowsOf l m).getD j (0, 0)).2 < 4294967296 := by
  rw [List.getD_eq_getElem?_getD]
  unfold rowsOf
  rw [List.getElem?_map]
  rcases Nat.lt_or_ge j m with hj | hj
  · rw [List.getElem?_range hj]
    exact ⟨be4_lt l _ (by omega), be4_lt l _ (by omega)⟩
  · rw [List.getElem?_eq_none (by rw [List.length_range]; exact hj)]
    exact ⟨show (0 : Nat) < 4294967296 by decide, show (0 : Nat) < 4294967296 by decide⟩

theorem rowsStep_succ {σ : Type} (step : σ → Nat → Nat → σ × Nat) (s : σ) (k : Nat) : rowsStep step s (List.replicate (k + 1) (0, 0)) = rowStep step (rowsStep step s (List.replicate k (0, 0))) (0, 0) := by
  unfold rowsStep
  rw [List.replicate_succ', List.foldl_append]
  rfl
theorem stO_fail (l : List UInt8) (v n : Nat) (hn : 1 ≤ n) : stO l (l.length, 10) v n = ((l.length, 10), 0) := by
  unfold stO
  dsimp only
  rw [if_neg (by omega)]
  rfl
/-- What opened's function tells of rows. -/
theorem stO_rows (l : List UInt8) (k : Nat) : (7 + 8 * k ≤ l.length → rowsStep (stO l) (7, 0) (List.replicate k (0, 0)) = ((7 + 8 * k, 0), rowsOf l k)) ∧ (l.length < 7 + 8 * k → 7 ≤ l.length → (rowsStep (stO l) (7, 0) (List.replicate k (0, 0))).1 = (l.length, 10)) := by
  induction k with
  | zero => exact ⟨fun _ => rfl, fun h h2 => by omega⟩
  | succ k ih =>
    rw [rowsStep_succ]
    constructor
    · intro h
      rw [ih.1 (by omega), rowsOf_succ]
      unfold rowStep
      dsimp only
      have e1 : stO l (7 + 8 * k, 0) 0 4 = ((11 + 8 * k, 0), beV ((l.drop (7 + 8 * k)).take 4)) := by
        unfold stO
        dsimp only
        rw [if_pos (by omega), show 7 + 8 * k + 4 = 11 + 8 * k from by omega]
      have e2 : stO l (11 + 8 * k, 0) 0 4 = ((15 + 8 * k, 0), beV ((l.drop (11 + 8 * k)).take 4)) := by
        unfold stO
        dsimp only
        rw [if_pos (by omega), show 11 + 8 * k + 4 = 15 + 8 * k from by omega]
      rw [e1]
      dsimp only
      rw [e2]
      dsimp only
      rw [show 15 + 8 * k = 7 + 8 * (k + 1) from by omega]
      rfl
    · intro h h7
      unfold rowStep
      dsimp only
      by_cases hk : 7 + 8 * k ≤ l.length
      · rw [ih.1 hk]
        dsimp only
        by_cases h4 : 7 + 8 * k + 4 ≤ l.length
        · have e1 : stO l (7 + 8 * k, 0) 0 4 = ((11 + 8 * k, 0), beV ((l.drop (7 + 8 * k)).take 4)) := by
            unfold stO
            dsimp only
            rw [if_pos (by omega), show 7 + 8 * k + 4 = 11 + 8 * k from by omega]
          have e2 : stO l (11 + 8 * k, 0) 0 4 = ((l.length, 10), 0) := by
            unfold stO
            dsimp only
            rw [if_neg (by omega)]
            rfl
          rw [e1]
          dsimp only
          rw [e2]
        · have e1 : stO l (7 + 8 * k, 0) 0 4 = ((l.length, 10), 0) := by
            unfold stO
            dsimp only
            rw [if_neg h4]
            rfl
          rw [e1]
          dsimp only
          rw [stO_fail l 0 4 (by decide)]
      · rw [ih.2 (by omega) h7, stO_fail l 0 4 (by decide)]
        dsimp only
        rw [stO_fail l 0 4 (by decide)]

theorem opP_short (l : List UInt8) (h1 : 1 ≤ l.length) (h : l.length < 7) : opE (opP l).1 l = 10 := by
  unfold opP
  dsimp only
  by_cases h5 : l.length < 5
  · have e1 : stO l (1, 0) 0 4 = ((l.length, 10), 0) := by unfold stO; dsimp only; rw [if_neg (by omega)]; rfl
    rw [e1]; dsimp only; rw [stO_fail l 0 2 (by decide)]
    rfl
  · have e1 : stO l (1, 0) 0 4 = ((5, 0), beV ((l.drop 1).take 4)) := by unfold stO; dsimp only; rw [if_pos (by omega)]
    have e2 : stO l (5, 0) 0 2 = ((l.length, 10), 0) := by unfold stO; dsimp only; rw [if_neg (by omega)]; rfl
    rw [e1]; dsimp only; rw [e2]
    rfl
theorem opP_more (l : List UInt8) (m : Nat) (h : 7 ≤ l.length) (hm : m = beV ((l.drop 5).take 2)) :
    opE (opP l).1 l = (if l.length < 7 + 8 * m then 10 else if 7 + 8 * m < l.length then 11 else 0) ∧ (7 + 8 * m ≤ l.length → (opP l).2 = (beV ((l.drop 1).take 4), rowsOf l m)) := by
  unfold opP
  dsimp only
  have e1 : stO l (1, 0) 0 4 = ((5, 0), beV ((l.drop 1).take 4)) := by unfold stO; dsimp only; rw [if_pos (by omega)]
  have e2 : stO l (5, 0) 0 2 = ((7, 0), m) := by unfold stO; dsimp only; rw [if_pos (by omega), hm]
  rw [e1]; dsimp only; rw [e2]; dsimp only
  obtain ⟨r1, r2⟩ := stO_rows l m
  by_cases hs : l.length < 7 + 8 * m
  · rw [if_pos hs, r2 hs h]
    exact ⟨rfl, fun h2 => by omega⟩
  · rw [if_neg hs, r1 (by omega)]
    exact ⟨rfl, fun _ => rfl⟩

/-- What OpenReport answers, case by case. -/
theorem orpT_none : orpT [] = ((0, []), 10) := rfl
theorem orpT_form (x : UInt8) (l : List UInt8) (hx : x ≠ 72) : orpT (x :: l) = ((0, []), 4) := by
  have e : oppT (x :: l) = ((0, []), 4) := by unfold oppT; rw [if_neg (by simp), if_pos (by simp [hx])]
  unfold orpT
  rw [e]
  rfl
theorem oppT_tail (l : List UInt8) : oppT (72 :: l) = if opE (opP (72 :: l)).1 (72 :: l) = 0 then ((opP (72 :: l)).2, 0) else ((0, []), opE (opP (72 :: l)).1 (72 :: l)) := by
  unfold oppT
  rw [if_neg (by simp), if_neg (by simp)]
theorem orpT_short (l L : List UInt8) (hL : L = 72 :: l) (h : L.length < 7) : orpT L = ((0, []), 10) := by
  have e : oppT L = ((0, []), 10) := by
    subst hL
    rw [oppT_tail, opP_short _ (by simp) h]
    rfl
  unfold orpT
  rw [e]
  rfl
theorem orpT_cut (l L : List UInt8) (m : Nat) (hL : L = 72 :: l) (h : 7 ≤ L.length) (hm : m = beV ((L.drop 5).take 2)) (hs : L.length < 7 + 8 * m) : orpT L = ((0, []), 10) := by
  have e : oppT L = ((0, []), 10) := by
    subst hL
    rw [oppT_tail, (opP_more _ m h hm).1, if_pos hs]
    rfl
  unfold orpT
  rw [e]
  rfl
theorem orpT_long (l L : List UInt8) (m : Nat) (hL : L = 72 :: l) (h : 7 ≤ L.length) (hm : m = beV ((L.drop 5).take 2)) (hs : 7 + 8 * m < L.length) : orpT L = ((0, []), 11) := by
  have e : oppT L = ((0, []), 11) := by
    subst hL
    rw [oppT_tail, (opP_more _ m h hm).1, if_neg (Nat.not_lt_of_lt hs), if_pos hs]
    rfl
  unfold orpT
  rw [e]
  rfl
theorem orpT_ok (l L : List UInt8) (m : Nat) (hL : L = 72 :: l) (h : L.length = 7 + 8 * m) (hm : m = beV ((L.drop 5).take 2)) :
    orpT L = if MayP (rowsOf L m) then ((beV ((L.drop 1).take 4), rowsOf L m), 0) else ((0, []), 4) := by
  have e : oppT L = ((beV ((L.drop 1).take 4), rowsOf L m), 0) := by
    have h1 := opP_more L m (by omega) hm
    rw [if_neg (by omega), if_neg (by omega)] at h1
    rw [← h1.2 (by omega)]
    subst hL
    rw [oppT_tail, h1.1]
    rfl
  unfold orpT
  rw [e]
  dsimp only
  rw [if_pos rfl]
  by_cases hp : MayP (rowsOf L m)
  · rw [if_pos hp, if_pos hp, if_pos hp]
  · rw [if_neg hp, if_neg hp, if_neg hp]

theorem wp_load_isN {P : Program} {o : Oper} {a : Act} {w : World} {K : Act → World → Prop} {Q : Exit → Act → World → Prop} (ty : TypeId) (x : Operand) (ho : o.op = .load ty x)
    (ad : Addr) (hx : a.eval x = .pointer (some ad)) (v : Value) (hrun : (Instr.loadAt ty (.pointer (some ad))).run P w = .ok v w) (h : K (a.put o.dst v) w) : o.wp P a w K Q := by
  unfold Oper.wp execOp
  simp only [ho, hx, hrun, Sem.run_bind, Sem.run_pure, Result.andThen_ok]
  exact h
theorem run_load_rows (w : World) (g i : Nat) (v : Value) (hc : w.cell? ⟨g, i, none⟩ = some v) : (Instr.loadAt 43 (.pointer (some ⟨g, i, none⟩))).run Try.prog w = .ok v w := by
  go_simp

end Go.Proofs.Ytackddgihdnmgaa
