/- What may stand in a sector behind a crash; what is read of two sectors: plain mathematics. -/
import Derived.Test.YtbigpapniloknaaDoorJSlm
import Derived.Test.YtbigpapniloknaaDoorLogF
namespace Go.Proofs.YtbigpapniloknaaDoor
open Go.RowKit
set_option maxRecDepth 100000

/-- What may stand in a sector behind a crash. -/
def Poss (D : DSt) (i : Nat) (s : List UInt8) : Prop := s = D.lasts.getD i [] ∨ (i, s) ∈ D.waits

theorem lastR_at : ∀ (r : List (Nat × List UInt8)) (i j : Nat), lastR r i = some j → r.reverse.getD j (0, []) ∈ r.reverse ∧ (r.reverse.getD j (0, [])).1 = i
  | [], _, _, h => by cases h
  | x :: r, i, j, h => by
    unfold lastR at h
    rw [List.reverse_cons]
    split at h
    · rename_i hx
      injection h with h
      have e : (r.reverse ++ [x]).getD j (0, []) = x := by
        rw [List.getD_eq_getElem?_getD, List.getElem?_append_right (by rw [List.length_reverse]; omega), List.length_reverse, ← h, Nat.sub_self]; rfl
      rw [e]
      exact ⟨List.mem_append_right _ (List.mem_singleton.2 rfl), hx⟩
    · have hl := lastR_lt r i j h
      have e : (r.reverse ++ [x]).getD j (0, []) = r.reverse.getD j (0, []) := by
        rw [List.getD_eq_getElem?_getD, List.getElem?_append_left (by rw [List.length_reverse]; exact hl), List.getD_eq_getElem?_getD]
      rw [e]
      obtain ⟨a, b⟩ := lastR_at r i j h
      exact ⟨List.mem_append_left _ a, b⟩
theorem lastIx_at {ws : List (Nat × List UInt8)} {i j : Nat} (h : lastIx ws i = some j) : ws.getD j (0, []) ∈ ws ∧ (ws.getD j (0, [])).1 = i := by
  have := lastR_at ws.reverse i j h
  rwa [List.reverse_reverse] at this

/-- What is read of a sector. -/
def view (D : DSt) (i : Nat) : List UInt8 := (rdD D (i : Int)).1
theorem view_eq {D : DSt} {i : Nat} (hi : i < D.lasts.length) : view D i = match lastIx D.waits i with | some j => (D.waits.getD j (0, [])).2 | none => D.lasts.getD i [] := by
  unfold view rdD
  rw [if_pos (hasB_nat hi), Int.toNat_natCast]
  cases lastIx D.waits i with
  | none => rfl
  | some j => rfl
theorem poss_view {D : DSt} {i : Nat} (hi : i < D.lasts.length) : Poss D i (view D i) := by
  rw [view_eq hi]
  cases h : lastIx D.waits i with
  | none => exact .inl rfl
  | some j =>
    obtain ⟨a, b⟩ := lastIx_at h
    refine .inr ?_
    show (i, (D.waits.getD j (0, [])).2) ∈ D.waits
    rw [← b]
    exact a
theorem view_dry {D : DSt} (h : D.waits = []) {i : Nat} (hi : i < D.lasts.length) : view D i = D.lasts.getD i [] := by unfold view; rw [read_dry h hi]
theorem poss_dry {D : DSt} (h : D.waits = []) {i : Nat} (hi : i < D.lasts.length) {s : List UInt8} : Poss D i s ↔ s = view D i := by
  rw [view_dry h hi]
  unfold Poss
  rw [h]
  exact ⟨fun x => x.elim id (fun y => by cases y), .inl⟩

theorem settleK_poss (zs : List ((Nat × List UInt8) × Bool)) : ∀ (ls : List (List UInt8)) (i : Nat), i < ls.length → (settleK ls zs).getD i [] = ls.getD i [] ∨ ∃ z ∈ zs, z.1 = (i, (settleK ls zs).getD i []) := by
  induction zs with
  | nil => intro ls i _; exact .inl rfl
  | cons z zs ih =>
    intro ls i hi
    show (settleK (if z.2 then ls.set z.1.1 z.1.2 else ls) zs).getD i [] = _ ∨ _
    have hl : i < (if z.2 then ls.set z.1.1 z.1.2 else ls).length := by split; · rw [List.length_set]; exact hi
                                                                        · exact hi
    rcases ih _ i hl with h | ⟨y, hy, e⟩
    · by_cases hz : z.2 = true
      · rw [if_pos hz] at h
        by_cases hzi : z.1.1 = i
        · refine .inr ⟨z, List.mem_cons_self .., ?_⟩
          have h2 : (settleK ls (z :: zs)).getD i [] = z.1.2 := by
            show (settleK (if z.2 then ls.set z.1.1 z.1.2 else ls) zs).getD i [] = _
            rw [if_pos hz, h, getD_set _ _ _ _ _ (by omega), if_pos hzi]
          rw [h2, ← hzi]
        · refine .inl ?_
          rw [if_pos hz, h]
          by_cases hb : z.1.1 < ls.length
          · rw [getD_set _ _ _ _ _ hb, if_neg hzi]
          · rw [List.set_eq_of_length_le (by omega)]
      · rw [if_neg hz] at h
        refine .inl ?_
        rw [if_neg hz, h]
    · exact .inr ⟨y, List.mem_cons_of_mem _ hy, e⟩
theorem zip_mem {α β : Type} {x : α} {y : β} : ∀ {l : List α} {m : List β}, (x, y) ∈ l.zip m → x ∈ l
  | [], _, h => by simp at h
  | a :: l, [], h => by simp at h
  | a :: l, b :: m, h => by
    rw [List.zip_cons_cons] at h
    rcases List.mem_cons.1 h with h | h
    · injection h with h1 _; rw [h1]; exact List.mem_cons_self ..
    · exact List.mem_cons_of_mem _ (zip_mem h)
theorem poss_crash {D : DSt} (ks : List Bool) {i : Nat} (hi : i < D.lasts.length) : Poss D i ((crashed D ks).lasts.getD i []) := by
  show Poss D i ((settleK D.lasts (D.waits.zip ks)).getD i [])
  rcases settleK_poss (D.waits.zip ks) D.lasts i hi with h | ⟨z, hz, e⟩
  · exact .inl h
  · refine .inr ?_
    rw [← e]
    exact zip_mem (y := z.2) hz

theorem settle_view : ∀ (r : List (Nat × List UInt8)) (ls : List (List UInt8)) (i : Nat), i < ls.length → (∀ x ∈ r, x.1 < ls.length) →
    (settle ls r.reverse).length = ls.length ∧ (settle ls r.reverse).getD i [] = match lastR r i with | some j => (r.reverse.getD j (0, [])).2 | none => ls.getD i []
  | [], ls, i, _, _ => ⟨rfl, rfl⟩
  | x :: r, ls, i, hi, hr => by
    obtain ⟨a, b⟩ := settle_view r ls i hi (fun y hy => hr y (List.mem_cons_of_mem _ hy))
    have e : settle ls (x :: r).reverse = (settle ls r.reverse).set x.1 x.2 := by
      unfold settle; rw [List.reverse_cons, List.foldl_append]; rfl
    refine ⟨by rw [e, List.length_set]; exact a, ?_⟩
    rw [e, getD_set _ _ _ _ _ (by rw [a]; exact hr x (List.mem_cons_self ..))]
    unfold lastR
    by_cases hx : x.1 = i
    · rw [if_pos hx, if_pos hx, List.reverse_cons]
      show x.2 = ((r.reverse ++ [x]).getD r.length (0, [])).2
      rw [List.getD_eq_getElem?_getD, List.getElem?_append_right (by rw [List.length_reverse]; exact Nat.le_refl _), List.length_reverse, Nat.sub_self]
      rfl
    · rw [if_neg hx, if_neg hx, b, List.reverse_cons]
      cases hl : lastR r i with
      | none => rfl
      | some j =>
        have hj := lastR_lt r i j hl
        show (r.reverse.getD j (0, [])).2 = ((r.reverse ++ [x]).getD j (0, [])).2
        rw [List.getD_eq_getElem?_getD, List.getD_eq_getElem?_getD, List.getElem?_append_left (by rw [List.length_reverse]; exact hj)]
theorem synced_view {D : DSt} (hok : DOk D) {i : Nat} (hi : i < D.lasts.length) : (synced D).lasts.getD i [] = view D i := by
  rw [view_eq hi]
  have h := settle_view D.waits.reverse D.lasts i hi (fun x hx => (hok.2.2.2 x (List.mem_reverse.1 hx)).1)
  rw [List.reverse_reverse] at h
  exact h.2
theorem synced_len {D : DSt} (hok : DOk D) : (synced D).lasts.length = D.lasts.length := settle_len _ _

/-- What is read of two sectors. -/
def opens2 (x0 x1 : RecT × Nat) : List (Nat × RecT) := (if x0.2 = 0 then [(0, x0.1)] else []) ++ (if x1.2 = 0 then [(1, x1.1)] else [])
def read2 (x0 x1 : RecT × Nat) : List UInt8 × Nat × Bool := readF (foundF 0 0 (opens2 x0 x1))
def new2 (x0 x1 : RecT × Nat) : Nat := newF (opens2 x0 x1)
theorem openK2 (D : DSt) (fr : Nat) : openK D fr 2 = opens2 (recAt D fr) (recAt D (fr + 1)) := by
  unfold opens2
  have h0 : openK D fr 1 = if (recAt D fr).2 = 0 then [(0, (recAt D fr).1)] else [] := by
    by_cases h : (recAt D fr).2 = 0
    · rw [if_pos h]; exact openK_yes (D := D) (fr := fr) (i := 0) h
    · rw [if_neg h]; exact openK_no (D := D) (fr := fr) (i := 0) h
  by_cases h : (recAt D (fr + 1)).2 = 0
  · rw [show openK D fr 2 = openK D fr (1 + 1) from rfl, openK_yes h, h0, if_pos h]
  · rw [show openK D fr 2 = openK D fr (1 + 1) from rfl, openK_no h, h0, if_neg h, List.append_nil]

theorem readF_nil2 {L : List RecT} (h : (readF L).2.2 = true) : L ≠ [] := fun e => by rw [e, read_nil] at h; cases h
theorem no_yes {t : List UInt8} {g : Nat} (h : (([], 0, false) : List UInt8 × Nat × Bool) = (t, g, true)) : False := by
  have := congrArg (fun x => x.2.2) h
  cases this
theorem yes_gen {a b : List UInt8} {g k : Nat} (h : ((a, k, true) : List UInt8 × Nat × Bool) = (b, g, true)) : k = g := congrArg (fun x => x.2.1) h
/-- What is read of a row whose last record is known. -/
theorem readF_gen {L : List RecT} {t : List UInt8} {g : Nat} (h : readF L = (t, g, true)) : (endR L).1 = 3 ∧ (endR L).2.1 = g := by
  unfold readF at h
  split at h
  · rename_i hc
    exact ⟨hc.1, yes_gen h⟩
  · exact (no_yes h).elim
/-- A text that lies in two sectors. -/
theorem read2_yes {x0 x1 : RecT × Nat} {t : List UInt8} {g : Nat} (h : read2 x0 x1 = (t, g, true)) :
    x0.2 = 0 ∧ x0.1.2.1 = g ∧ ((x0.1.1 = 3 ∧ ∀ y, read2 x0 y = (t, g, true)) ∨ (x0.1.1 = 2 ∧ x1.2 = 0 ∧ x1.1.2.1 = g)) := by
  have hne := readF_nil2 (L := foundF 0 0 (opens2 x0 x1)) (by unfold read2 at h; rw [h])
  by_cases h0 : x0.2 = 0
  · have e : ∀ y, opens2 x0 y = (0, x0.1) :: (if y.2 = 0 then [(1, y.1)] else []) := fun y => by unfold opens2; rw [if_pos h0]; rfl
    have hk : okF 0 0 (0, x0.1) = true := by
      cases hq : okF 0 0 (0, x0.1) with
      | true => rfl
      | false => rw [e, foundF_no hq] at hne; exact absurd rfl hne
    have hf : ∀ y, foundF 0 0 (opens2 x0 y) = x0.1 :: (if x0.1.1 = 3 then [] else foundF 1 x0.1.2.1 (if y.2 = 0 then [(1, y.1)] else [])) := fun y => by
      rw [e, foundF_yes hk, if_pos rfl]
    unfold read2 at h ⊢
    rw [hf] at h
    by_cases h3 : x0.1.1 = 3
    · rw [if_pos h3] at h
      exact ⟨h0, (readF_gen h).2, .inl ⟨h3, fun y => by rw [hf, if_pos h3]; exact h⟩⟩
    · rw [if_neg h3] at h
      have h2 : x0.1.1 = 2 := by
        unfold okF wholeB at hk
        by_cases h2 : x0.1.1 = 2
        · exact h2
        · rw [if_neg h2, if_neg h3] at hk; simp at hk
      have hone : ¬ (readF [x0.1] = (t, g, true)) := fun hx => by
        have := (readF_gen hx).1
        rw [show endR [x0.1] = x0.1 from rfl, h2] at this
        cases this
      by_cases h1 : x1.2 = 0
      · rw [if_pos h1] at h
        cases hq : okF 1 x0.1.2.1 (1, x1.1) with
        | true =>
          have hgen : x1.1.2.1 = x0.1.2.1 := by
            unfold okF at hq
            rw [if_neg (show ¬ ((1, x1.1).1 = 0) by show ¬ (1 = 0); decide)] at hq
            simp only [Bool.and_eq_true, decide_eq_true_eq] at hq
            exact hq.2.2.1
          have hff : foundF 1 x0.1.2.1 [(1, x1.1)] = [x1.1] := by
            rw [foundF_yes hq]
            split
            · rfl
            · rw [foundF_head (fun x hx => by cases hx)]
          rw [hff] at h
          have hg := (readF_gen h).2
          rw [show endR [x0.1, x1.1] = x1.1 from rfl] at hg
          exact ⟨h0, by rw [← hgen]; exact hg, .inr ⟨h2, h1, hg⟩⟩
        | false =>
          rw [foundF_no hq] at h
          exact absurd h hone
      · rw [if_neg h1, foundF_head (fun x hx => by cases hx)] at h
        exact absurd h hone
  · exfalso
    have e : foundF 0 0 (opens2 x0 x1) = [] := by
      unfold opens2
      rw [if_neg h0, List.nil_append]
      exact foundF_head (fun x hx => by
        split at hx
        · rw [List.mem_singleton.1 hx]; show ¬ (1 = 0); decide
        · cases hx)
    exact hne e
end Go.Proofs.YtbigpapniloknaaDoor
