/- What may stand in a sector behind a crash; what is read of two sectors: plain mathematics. What a vault and its disk are, as the law of layer 16 has them; what an opening, an append and a settling make of it: plain mathematics. What a crash and an opening, an append, a settling make of a vault: plain mathematics. What an append, a sync and the writes of a settling make of a vault: plain mathematics. What Format, Append and Settle make of a vault's disk, as functions of what it holds: plain mathematics. -/
import Derived.Test.YtbigpapniloknaaDoorJSlm
import Derived.Test.YtbigpapniloknaaDoorLogF
namespace Go.Proofs.YtbigpapniloknaaDoor
open Go.RowKit
set_option maxRecDepth 100000

/-- What may stand in a sector behind a crash. -/
def Poss (D : DSt) (i : Nat) (s : List UInt8) : Prop := s = D.lasts.getD i [] ∨ (i, s) ∈ D.waits

theorem lastR_at : ∀ (r : List (Nat × List UInt8)) (i j : Nat), lastR r i = some j → r.reverse.getD j (0, []) ∈ r.reverse ∧ (r.reverse.getD j (0, [])).1 = i
  | [], _, _, h => by cases h
  | x :: r, i, j, h => by
    unfold lastR at h
    rw [List.reverse_cons]
    split at h
    · rename_i hx
      injection h with h
      have e : (r.reverse ++ [x]).getD j (0, []) = x := by
        rw [List.getD_eq_getElem?_getD, List.getElem?_append_right (by rw [List.length_reverse]; omega), List.length_reverse, ← h, Nat.sub_self]; rfl
      rw [e]
      exact ⟨List.mem_append_right _ (List.mem_singleton.2 rfl), hx⟩
    · have hl := lastR_lt r i j h
      have e : (r.reverse ++ [x]).getD j (0, []) = r.reverse.getD j (0, []) := by
        rw [List.getD_eq_getElem?_getD, List.getElem?_append_left (by rw [List.length_reverse]; exact hl), List.getD_eq_getElem?_getD]
      rw [e]
      obtain ⟨a, b⟩ := lastR_at r i j h
      exact ⟨List.mem_append_left _ a, b⟩
theorem lastIx_at {ws : List (Nat × List UInt8)} {i j : Nat} (h : lastIx ws i = some j) : ws.getD j (0, []) ∈ ws ∧ (ws.getD j (0, [])).1 = i := by
  have := lastR_at ws.reverse i j h
  rwa [List.reverse_reverse] at this

/-- What is read of a sector. -/
def view (D : DSt) (i : Nat) : List UInt8 := (rdD D (i : Int)).1
theorem view_eq {D : DSt} {i : Nat} (hi : i < D.lasts.length) : view D i = match lastIx D.waits i with | some j => (D.waits.getD j (0, [])).2 | none => D.lasts.getD i [] := by
  unfold view rdD
  rw [if_pos (hasB_nat hi), Int.toNat_natCast]
  cases lastIx D.waits i with
  | none => rfl
  | some j => rfl
theorem poss_view {D : DSt} {i : Nat} (hi : i < D.lasts.length) : Poss D i (view D i) := by
  rw [view_eq hi]
  cases h : lastIx D.waits i with
  | none => exact .inl rfl
  | some j =>
    obtain ⟨a, b⟩ := lastIx_at h
    refine .inr ?_
    show (i, (D.waits.getD j (0, [])).2) ∈ D.waits
    rw [← b]
    exact a
theorem view_dry {D : DSt} (h : D.waits = []) {i : Nat} (hi : i < D.lasts.length) : view D i = D.lasts.getD i [] := by unfold view; rw [read_dry h hi]
theorem poss_dry {D : DSt} (h : D.waits = []) {i : Nat} (hi : i < D.lasts.length) {s : List UInt8} : Poss D i s ↔ s = view D i := by
  rw [view_dry h hi]
  unfold Poss
  rw [h]
  exact ⟨fun x => x.elim id (fun y => by cases y), .inl⟩

theorem settleK_poss (zs : List ((Nat × List UInt8) × Bool)) : ∀ (ls : List (List UInt8)) (i : Nat), i < ls.length → (settleK ls zs).getD i [] = ls.getD i [] ∨ ∃ z ∈ zs, z.1 = (i, (settleK ls zs).getD i []) := by
  induction zs with
  | nil => intro ls i _; exact .inl rfl
  | cons z zs ih =>
    intro ls i hi
    show (settleK (if z.2 then ls.set z.1.1 z.1.2 else ls) zs).getD i [] = _ ∨ _
    have hl : i < (if z.2 then ls.set z.1.1 z.1.2 else ls).length := by split; · rw [List.length_set]; exact hi
                                                                        · exact hi
    rcases ih _ i hl with h | ⟨y, hy, e⟩
    · by_cases hz : z.2 = true
      · rw [if_pos hz] at h
        by_cases hzi : z.1.1 = i
        · refine .inr ⟨z, List.mem_cons_self .., ?_⟩
          have h2 : (settleK ls (z :: zs)).getD i [] = z.1.2 := by
            show (settleK (if z.2 then ls.set z.1.1 z.1.2 else ls) zs).getD i [] = _
            rw [if_pos hz, h, getD_set _ _ _ _ _ (by omega), if_pos hzi]
          rw [h2, ← hzi]
        · refine .inl ?_
          rw [if_pos hz, h]
          by_cases hb : z.1.1 < ls.length
          · rw [getD_set _ _ _ _ _ hb, if_neg hzi]
          · rw [List.set_eq_of_length_le (by omega)]
      · rw [if_neg hz] at h
        refine .inl ?_
        rw [if_neg hz, h]
    · exact .inr ⟨y, List.mem_cons_of_mem _ hy, e⟩
theorem zip_mem {α β : Type} {x : α} {y : β} : ∀ {l : List α} {m : List β}, (x, y) ∈ l.zip m → x ∈ l
  | [], _, h => by simp at h
  | a :: l, [], h => by simp at h
  | a :: l, b :: m, h => by
    rw [List.zip_cons_cons] at h
    rcases List.mem_cons.1 h with h | h
    · injection h with h1 _; rw [h1]; exact List.mem_cons_self ..
    · exact List.mem_cons_of_mem _ (zip_mem h)
theorem poss_crash {D : DSt} (ks : List Bool) {i : Nat} (hi : i < D.lasts.length) : Poss D i ((crashed D ks).lasts.getD i []) := by
  show Poss D i ((settleK D.lasts (D.waits.zip ks)).getD i [])
  rcases settleK_poss (D.waits.zip ks) D.lasts i hi with h | ⟨z, hz, e⟩
  · exact .inl h
  · refine .inr ?_
    rw [← e]
    exact zip_mem (y := z.2) hz

theorem settle_view : ∀ (r : List (Nat × List UInt8)) (ls : List (List UInt8)) (i : Nat), i < ls.length → (∀ x ∈ r, x.1 < ls.length) →
    (settle ls r.reverse).length = ls.length ∧ (settle ls r.reverse).getD i [] = match lastR r i with | some j => (r.reverse.getD j (0, [])).2 | none => ls.getD i []
  | [], ls, i, _, _ => ⟨rfl, rfl⟩
  | x :: r, ls, i, hi, hr => by
    obtain ⟨a, b⟩ := settle_view r ls i hi (fun y hy => hr y (List.mem_cons_of_mem _ hy))
    have e : settle ls (x :: r).reverse = (settle ls r.reverse).set x.1 x.2 := by
      unfold settle; rw [List.reverse_cons, List.foldl_append]; rfl
    refine ⟨by rw [e, List.length_set]; exact a, ?_⟩
    rw [e, getD_set _ _ _ _ _ (by rw [a]; exact hr x (List.mem_cons_self ..))]
    unfold lastR
    by_cases hx : x.1 = i
    · rw [if_pos hx, if_pos hx, List.reverse_cons]
      show x.2 = ((r.reverse ++ [x]).getD r.length (0, [])).2
      rw [List.getD_eq_getElem?_getD, List.getElem?_append_right (by rw [List.length_reverse]; exact Nat.le_refl _), List.length_reverse, Nat.sub_self]
      rfl
    · rw [if_neg hx, if_neg hx, b, List.reverse_cons]
      cases hl : lastR r i with
      | none => rfl
      | some j =>
        have hj := lastR_lt r i j hl
        show (r.reverse.getD j (0, [])).2 = ((r.reverse ++ [x]).getD j (0, [])).2
        rw [List.getD_eq_getElem?_getD, List.getD_eq_getElem?_getD, List.getElem?_append_left (by rw [List.length_reverse]; exact hj)]
theorem synced_view {D : DSt} (hok : DOk D) {i : Nat} (hi : i < D.lasts.length) : (synced D).lasts.getD i [] = view D i := by
  rw [view_eq hi]
  have h := settle_view D.waits.reverse D.lasts i hi (fun x hx => (hok.2.2.2 x (List.mem_reverse.1 hx)).1)
  rw [List.reverse_reverse] at h
  exact h.2
theorem synced_len {D : DSt} (hok : DOk D) : (synced D).lasts.length = D.lasts.length := settle_len _ _

/-- What is read of two sectors. -/
def opens2 (x0 x1 : RecT × Nat) : List (Nat × RecT) := (if x0.2 = 0 then [(0, x0.1)] else []) ++ (if x1.2 = 0 then [(1, x1.1)] else [])
def read2 (x0 x1 : RecT × Nat) : List UInt8 × Nat × Bool := readF (foundF 0 0 (opens2 x0 x1))
def new2 (x0 x1 : RecT × Nat) : Nat := newF (opens2 x0 x1)
theorem openK2 (D : DSt) (fr : Nat) : openK D fr 2 = opens2 (recAt D fr) (recAt D (fr + 1)) := by
  unfold opens2
  have h0 : openK D fr 1 = if (recAt D fr).2 = 0 then [(0, (recAt D fr).1)] else [] := by
    by_cases h : (recAt D fr).2 = 0
    · rw [if_pos h]; exact openK_yes (D := D) (fr := fr) (i := 0) h
    · rw [if_neg h]; exact openK_no (D := D) (fr := fr) (i := 0) h
  by_cases h : (recAt D (fr + 1)).2 = 0
  · rw [show openK D fr 2 = openK D fr (1 + 1) from rfl, openK_yes h, h0, if_pos h]
  · rw [show openK D fr 2 = openK D fr (1 + 1) from rfl, openK_no h, h0, if_neg h, List.append_nil]

theorem readF_nil2 {L : List RecT} (h : (readF L).2.2 = true) : L ≠ [] := fun e => by rw [e, read_nil] at h; cases h
theorem no_yes {t : List UInt8} {g : Nat} (h : (([], 0, false) : List UInt8 × Nat × Bool) = (t, g, true)) : False := by
  have := congrArg (fun x => x.2.2) h
  cases this
theorem yes_gen {a b : List UInt8} {g k : Nat} (h : ((a, k, true) : List UInt8 × Nat × Bool) = (b, g, true)) : k = g := congrArg (fun x => x.2.1) h
/-- What is read of a row whose last record is known. -/
theorem readF_gen {L : List RecT} {t : List UInt8} {g : Nat} (h : readF L = (t, g, true)) : (endR L).1 = 3 ∧ (endR L).2.1 = g := by
  unfold readF at h
  split at h
  · rename_i hc
    exact ⟨hc.1, yes_gen h⟩
  · exact (no_yes h).elim
/-- A text that lies in two sectors. -/
theorem read2_yes {x0 x1 : RecT × Nat} {t : List UInt8} {g : Nat} (h : read2 x0 x1 = (t, g, true)) :
    x0.2 = 0 ∧ x0.1.2.1 = g ∧ ((x0.1.1 = 3 ∧ ∀ y, read2 x0 y = (t, g, true)) ∨ (x0.1.1 = 2 ∧ x1.2 = 0 ∧ x1.1.2.1 = g)) := by
  have hne := readF_nil2 (L := foundF 0 0 (opens2 x0 x1)) (by unfold read2 at h; rw [h])
  by_cases h0 : x0.2 = 0
  · have e : ∀ y, opens2 x0 y = (0, x0.1) :: (if y.2 = 0 then [(1, y.1)] else []) := fun y => by unfold opens2; rw [if_pos h0]; rfl
    have hk : okF 0 0 (0, x0.1) = true := by
      cases hq : okF 0 0 (0, x0.1) with
      | true => rfl
      | false => rw [e, foundF_no hq] at hne; exact absurd rfl hne
    have hf : ∀ y, foundF 0 0 (opens2 x0 y) = x0.1 :: (if x0.1.1 = 3 then [] else foundF 1 x0.1.2.1 (if y.2 = 0 then [(1, y.1)] else [])) := fun y => by
      rw [e, foundF_yes hk, if_pos rfl]
    unfold read2 at h ⊢
    rw [hf] at h
    by_cases h3 : x0.1.1 = 3
    · rw [if_pos h3] at h
      exact ⟨h0, (readF_gen h).2, .inl ⟨h3, fun y => by rw [hf, if_pos h3]; exact h⟩⟩
    · rw [if_neg h3] at h
      have h2 : x0.1.1 = 2 := by
        unfold okF wholeB at hk
        by_cases h2 : x0.1.1 = 2
        · exact h2
        · rw [if_neg h2, if_neg h3] at hk; simp at hk
      have hone : ¬ (readF [x0.1] = (t, g, true)) := fun hx => by
        have := (readF_gen hx).1
        rw [show endR [x0.1] = x0.1 from rfl, h2] at this
        cases this
      by_cases h1 : x1.2 = 0
      · rw [if_pos h1] at h
        cases hq : okF 1 x0.1.2.1 (1, x1.1) with
        | true =>
          have hgen : x1.1.2.1 = x0.1.2.1 := by
            unfold okF at hq
            rw [if_neg (show ¬ ((1, x1.1).1 = 0) by show ¬ (1 = 0); decide)] at hq
            simp only [Bool.and_eq_true, decide_eq_true_eq] at hq
            exact hq.2.2.1
          have hff : foundF 1 x0.1.2.1 [(1, x1.1)] = [x1.1] := by
            rw [foundF_yes hq]
            split
            · rfl
            · rw [foundF_head (fun x hx => by cases hx)]
          rw [hff] at h
          have hg := (readF_gen h).2
          rw [show endR [x0.1, x1.1] = x1.1 from rfl] at hg
          exact ⟨h0, by rw [← hgen]; exact hg, .inr ⟨h2, h1, hg⟩⟩
        | false =>
          rw [foundF_no hq] at h
          exact absurd h hone
      · rw [if_neg h1, foundF_head (fun x hx => by cases hx)] at h
        exact absurd h hone
  · exfalso
    have e : foundF 0 0 (opens2 x0 x1) = [] := by
      unfold opens2
      rw [if_neg h0, List.nil_append]
      exact foundF_head (fun x hx => by
        split at hx
        · rw [List.mem_singleton.1 hx]; show ¬ (1 = 0); decide
        · cases hx)
    exact hne e
end Go.Proofs.YtbigpapniloknaaDoor

namespace Go.Proofs.YtbigpapniloknaaDoor
open Go.RowKit
set_option maxRecDepth 100000

theorem poss_more {D D' : DSt} {ws : List (Nat × List UInt8)} (h1 : D'.lasts = D.lasts) (h2 : D'.waits = D.waits ++ ws) {i : Nat} {s : List UInt8} : Poss D' i s ↔ Poss D i s ∨ (i, s) ∈ ws := by
  unfold Poss
  rw [h1, h2, List.mem_append, or_assoc]
theorem poss_same {D D' : DSt} (h1 : D'.lasts = D.lasts) (h2 : D'.waits = D.waits) {i : Nat} {s : List UInt8} : Poss D' i s ↔ Poss D i s := by unfold Poss; rw [h1, h2]
theorem view_same {D D' : DSt} (h1 : D'.lasts = D.lasts) (h2 : D'.waits = D.waits) (i : Nat) : view D' i = view D i := by unfold view rdD hasB; rw [h1, h2]
theorem lastR_skip {r : List (Nat × List UInt8)} {i : Nat} : ∀ xs : List (Nat × List UInt8), (∀ x ∈ xs, x.1 ≠ i) → lastR (xs ++ r) i = lastR r i
  | [], _ => rfl
  | x :: xs, h => by
    show (if x.1 = i then some (xs ++ r).length else lastR (xs ++ r) i) = _
    rw [if_neg (h x (List.mem_cons_self ..)), lastR_skip xs (fun y hy => h y (List.mem_cons_of_mem _ hy))]
theorem view_far {D D' : DSt} {ws : List (Nat × List UInt8)} (h1 : D'.lasts = D.lasts) (h2 : D'.waits = D.waits ++ ws) {i : Nat} (hi : i < D.lasts.length) (hw : ∀ x ∈ ws, x.1 ≠ i) : view D' i = view D i := by
  rw [view_eq (by rw [h1]; exact hi), view_eq hi]
  have e : lastIx D'.waits i = lastIx D.waits i := by
    unfold lastIx
    rw [h2, List.reverse_append]
    exact lastR_skip _ (fun x hx => hw x (List.mem_reverse.1 hx))
  rw [e, h1]
  cases hl : lastIx D.waits i with
  | none => rfl
  | some j =>
    have hj := lastIx_lt hl
    show (D'.waits.getD j (0, [])).2 = (D.waits.getD j (0, [])).2
    rw [h2, List.getD_eq_getElem?_getD, List.getD_eq_getElem?_getD, List.getElem?_append_left hj]
theorem view_wrote {D D' : DSt} {k : Nat} {s : List UInt8} (h1 : D'.lasts = D.lasts) (h2 : D'.waits = D.waits ++ [(k, s)]) (hk : k < D.lasts.length) : view D' k = s := by
  rw [view_eq (by rw [h1]; exact hk)]
  have e : lastIx D'.waits k = some D.waits.length := by rw [h2, lastIx_snoc, if_pos rfl]
  rw [e]
  show (D'.waits.getD D.waits.length (0, [])).2 = s
  rw [h2, List.getD_eq_getElem?_getD, List.getElem?_append_right (Nat.le_refl _), Nat.sub_self]
  rfl
theorem view_seq {D : DSt} (F : Nat → List UInt8) (m : Nat) : ∀ (k : Nat) (D' : DSt), D'.lasts = D.lasts → D'.waits = D.waits ++ seqW F m k → ∀ q, q < D.lasts.length → view D' q = if m ≤ q ∧ q < m + k then F q else view D q
  | 0, D', h1, h2, q, hq => by
    rw [if_neg (by omega)]
    exact view_far h1 h2 hq (fun x hx => by simp [seqW] at hx)
  | k + 1, D', h1, h2, q, hq => by
    rw [seqW_snoc, ← List.append_assoc] at h2
    have ih := view_seq (D := D) F m k { D with waits := D.waits ++ seqW F m k } rfl rfl q hq
    by_cases hk : q = m + k
    · rw [if_pos (by omega)]
      subst hk
      exact view_wrote (D := { D with waits := D.waits ++ seqW F m k }) h1 h2 hq
    · have e := view_far (D := { D with waits := D.waits ++ seqW F m k }) (ws := [(m + k, F (m + k))]) (i := q) h1 h2 hq (fun x hx => by rw [List.mem_singleton.1 hx]; exact fun e => hk e.symm)
      rw [e, ih]
      by_cases h : m ≤ q ∧ q < m + k
      · rw [if_pos h, if_pos (by omega)]
      · rw [if_neg h, if_neg (by omega)]
theorem seqW_mem {F : Nat → List UInt8} {m k : Nat} {x : Nat × List UInt8} (h : x ∈ seqW F m k) : m ≤ x.1 ∧ x.1 < m + k ∧ x.2 = F x.1 := by
  unfold seqW at h
  obtain ⟨j, hj, e⟩ := List.mem_map.1 h
  rw [List.mem_range'_1] at hj
  rw [← e]
  exact ⟨hj.1, hj.2, rfl⟩

/-- What looks at all sectors tell. -/
def lookS (fr : Int) (x : Bool × Bool × Nat) (i : Nat) (r : RecT × Nat) : Bool × Bool × Nat :=
  if r.2 = 16 then x else if r.2 ≠ 0 then (false, true, x.2.2) else if fr ≤ (i : Int) ∧ r.1.1 = 1 then (false, x.2.1, max x.2.2 r.1.2.1) else (false, x.2.1, x.2.2)
def lookF (D : DSt) (fr : Int) : Nat → Bool × Bool × Nat
  | 0 => (true, false, 0)
  | k + 1 => lookS fr (lookF D fr k) k (recAt D k)
/-- The newest whole slot: which, its generation, its text. -/
def newestS (b : Nat × Nat × List UInt8 × Bool) (which : Nat) (r : List UInt8 × Nat × Bool) : Nat × Nat × List UInt8 × Bool :=
  if r.2.2 = true ∧ (b.2.2.2 = false ∨ b.2.1 < r.2.1) then (which, r.2.1, r.1, true) else b
def newestF (D : DSt) (n : Nat) : Nat × Nat × List UInt8 × Bool :=
  newestS (newestS (0, 0, [], false) 0 (readF (foundL D 0 (n : Int)))) 1 (readF (foundL D (n : Int) (n : Int)))

theorem look_ok {D : DSt} {fr : Int} {g : Nat} : ∀ k, (∀ j, j < k → (recAt D j).2 = 0 ∨ (recAt D j).2 = 16) → (∀ j, j < k → fr ≤ (j : Int) → (recAt D j).2 = 0 → (recAt D j).1.1 = 1 → (recAt D j).1.2.1 ≤ g) →
    (lookF D fr k).2.1 = false ∧ (lookF D fr k).2.2 ≤ g ∧ ((∃ j, j < k ∧ (recAt D j).2 = 0) → (lookF D fr k).1 = false)
  | 0, _, _ => ⟨rfl, Nat.zero_le _, fun ⟨j, h, _⟩ => by omega⟩
  | k + 1, h1, h2 => by
    obtain ⟨a, b, c⟩ := look_ok k (fun j hj => h1 j (by omega)) (fun j hj => h2 j (by omega))
    unfold lookF lookS
    rcases h1 k (by omega) with h | h
    · rw [if_neg (by omega), if_neg (fun hx => hx h)]
      by_cases hk : fr ≤ (k : Int) ∧ (recAt D k).1.1 = 1
      · rw [if_pos hk]
        exact ⟨a, by have := h2 k (by omega) hk.1 h hk.2; show max _ _ ≤ g; omega, fun _ => rfl⟩
      · rw [if_neg hk]
        exact ⟨a, b, fun _ => rfl⟩
    · rw [if_pos h]
      refine ⟨a, b, fun ⟨j, hj, hx⟩ => c ⟨j, ?_, hx⟩⟩
      rcases Nat.lt_or_ge j k with q | q
      · exact q
      · obtain rfl : j = k := by omega
        omega

def KindS (s : List UInt8) : Prop := (openT s).2 = 0 ∧ ((openT s).1.1 = 2 ∨ (openT s).1.1 = 3)
def genS (s : List UInt8) : Nat := (openT s).1.2.1
def NextR (g j : Nat) (s : List UInt8) : Prop := (openT s).2 = 0 ∧ (openT s).1.1 = 1 ∧ (openT s).1.2.1 = g ∧ (openT s).1.2.2.1 = j
def newV (D : DSt) (b : Nat) : Nat := new2 (recAt D (2 * b)) (recAt D (2 * b + 1))
theorem recAt_view (D : DSt) (i : Nat) : recAt D i = openT (view D i) := rfl

theorem new2_le {x0 x1 : RecT × Nat} {B : Nat} (h0 : x0.2 = 0 → (x0.1.1 = 2 ∨ x0.1.1 = 3) → x0.1.2.1 ≤ B) (h1 : x1.2 = 0 → (x1.1.1 = 2 ∨ x1.1.1 = 3) → x1.1.2.1 ≤ B) : new2 x0 x1 ≤ B := by
  have step : ∀ (L : List (Nat × RecT)) (a : Nat), a ≤ B → (∀ x ∈ L, (x.2.1 = 2 ∨ x.2.1 = 3) → x.2.2.1 ≤ B) → L.foldl newStep a ≤ B := by
    intro L
    induction L with
    | nil => intro a ha _; exact ha
    | cons y L ih =>
      intro a ha h
      refine ih _ ?_ (fun x hx => h x (List.mem_cons_of_mem _ hx))
      unfold newStep
      split
      · rename_i hk
        have := h y (List.mem_cons_self ..) hk
        omega
      · exact ha
  refine step _ 0 (Nat.zero_le _) (fun x hx => ?_)
  unfold opens2 at hx
  rcases List.mem_append.1 hx with hx | hx
  · split at hx
    · rename_i h; rw [List.mem_singleton.1 hx]; exact h0 h
    · cases hx
  · split at hx
    · rename_i h; rw [List.mem_singleton.1 hx]; exact h1 h
    · cases hx
theorem new2_ge0 {x0 x1 : RecT × Nat} (h : x0.2 = 0) (hk : x0.1.1 = 2 ∨ x0.1.1 = 3) : x0.1.2.1 ≤ new2 x0 x1 :=
  newF_ge (x := (0, x0.1)) (by unfold opens2; rw [if_pos h]; exact List.mem_append_left _ (List.mem_singleton.2 rfl)) hk
theorem new2_ge1 {x0 x1 : RecT × Nat} (h : x1.2 = 0) (hk : x1.1.1 = 2 ∨ x1.1.1 = 3) : x1.1.2.1 ≤ new2 x0 x1 :=
  newF_ge (x := (1, x1.1)) (by unfold opens2; rw [if_pos h]; exact List.mem_append_right _ (List.mem_singleton.2 rfl)) hk

/-- A vault of two sectors a slot, on a disk of ten, behind i acts: its slot a, of the generation g, has T0; behind it all were tried, of which the first so many are sure; more were tried since. -/
structure VI (D : DSt) (a g : Nat) (stuck : Bool) (T0 : List UInt8) (all : List (List UInt8)) (sure : Nat) (more : List (List UInt8)) (i : Nat) : Prop where
  len : D.lasts.length = 10
  ok : DOk D
  ha : a < 2
  hgi : g ≤ i + 1
  okc : ∀ j, j < 10 → ∀ s, Poss D j s → (openT s).2 = 0 ∨ (openT s).2 = 16
  gens : ∀ j, j < 4 → ∀ s, Poss D j s → KindS s → genS s ≤ i + 1
  cur : ∃ c0 c1, (∀ s, Poss D (2 * a) s → s = c0) ∧ (∀ s, Poss D (2 * a + 1) s → s = c1) ∧ read2 (openT c0) (openT c1) = (T0, g, true)
  oth : ∀ s0 s1, Poss D (2 * (1 - a)) s0 → Poss D (2 * (1 - a) + 1) s1 → ∀ t G, read2 (openT s0) (openT s1) = (t, G, true) → G < g ∨ (g < G ∧ t ∈ more)
  top : ∀ j, j < 2 → ∀ s, Poss D (2 * (1 - a) + j) s → KindS s → genS s ≤ newV D (1 - a)
  log : ∀ j, j < 6 → ∀ s, Poss D (4 + j) s → (openT s).2 = 0 → (openT s).1.1 = 1 → genS s ≤ g
  hsure : sure ≤ all.length
  hall : all.length ≤ 6
  short : ∀ d ∈ all, d.length ≤ 110
  fix : ∀ j, j < sure → ∀ s, Poss D (4 + j) s → s = secL 1 g j (all.getD j [])
  fix2 : ∀ j, j < all.length → ∀ s, Poss D (4 + j) s → NextR g j s → s = secL 1 g j (all.getD j [])
  stop : all.length < 6 → ∀ s, Poss D (4 + all.length) s → ¬ NextR g all.length s
  stops : stuck = false → ∀ j, all.length ≤ j → j < 6 → ∀ s, Poss D (4 + j) s → ¬ NextR g j s
  seen : stuck = false → ∀ j, j < all.length → view D (4 + j) = secL 1 g j (all.getD j [])

theorem VI.mono {D : DSt} {a g : Nat} {st : Bool} {T0 : List UInt8} {all : List (List UInt8)} {sure : Nat} {more : List (List UInt8)} {i k : Nat} (h : VI D a g st T0 all sure more i) (hk : i ≤ k) : VI D a g st T0 all sure more k :=
  { h with hgi := Nat.le_trans h.hgi (by omega), gens := fun j hj s hs hn => Nat.le_trans (h.gens j hj s hs hn) (by omega) }
theorem VI.same {D D' : DSt} {a g : Nat} {st : Bool} {T0 : List UInt8} {all : List (List UInt8)} {sure : Nat} {more : List (List UInt8)} {i : Nat} (h : VI D a g st T0 all sure more i) (h1 : D'.lasts = D.lasts) (h2 : D'.waits = D.waits) : VI D' a g st T0 all sure more i := by
  have hp : ∀ j s, Poss D' j s → Poss D j s := fun j s hs => (poss_same h1 h2).1 hs
  have hr : ∀ j, recAt D' j = recAt D j := fun j => by rw [recAt_view, recAt_view, view_same h1 h2]
  obtain ⟨c0, c1, e0, e1, e2⟩ := h.cur
  exact { len := by rw [h1]; exact h.len
          ok := by unfold DOk; rw [h1, h2]; exact h.ok
          ha := h.ha
          hgi := h.hgi
          okc := fun j hj s hs => h.okc j hj s (hp j s hs)
          gens := fun j hj s hs => h.gens j hj s (hp j s hs)
          cur := ⟨c0, c1, fun s hs => e0 s (hp _ s hs), fun s hs => e1 s (hp _ s hs), e2⟩
          oth := fun s0 s1 p0 p1 => h.oth s0 s1 (hp _ _ p0) (hp _ _ p1)
          top := fun j hj s hs hk => by unfold newV; rw [hr, hr]; exact h.top j hj s (hp _ s hs) hk
          log := fun j hj s hs => h.log j hj s (hp _ s hs)
          hsure := h.hsure
          hall := h.hall
          short := h.short
          fix := fun j hj s hs => h.fix j hj s (hp _ s hs)
          fix2 := fun j hj s hs => h.fix2 j hj s (hp _ s hs)
          stop := fun hl s hs => h.stop hl s (hp _ s hs)
          stops := fun hst j hj hj6 s hs => h.stops hst j hj hj6 s (hp _ s hs)
          seen := fun hst j hj => by rw [view_same h1 h2]; exact h.seen hst j hj }
end Go.Proofs.YtbigpapniloknaaDoor

namespace Go.Proofs.YtbigpapniloknaaDoor
open Go.RowKit
set_option maxRecDepth 100000

theorem poss_len {D : DSt} (hok : DOk D) {i : Nat} (hi : i < D.lasts.length) {s : List UInt8} (h : Poss D i s) : s.length = 128 := by
  rcases h with h | h
  · rw [h, List.getD_eq_getElem?_getD, List.getElem?_eq_getElem hi]
    exact hok.2.2.1 _ (List.getElem_mem hi)
  · exact (hok.2.2.2 _ h).2
theorem dok_dry {D D' : DSt} (hok : DOk D) (hl : D'.lasts.length = D.lasts.length) (hw : D'.waits = []) (hp : ∀ i, i < D.lasts.length → Poss D i (D'.lasts.getD i [])) : DOk D' := by
  refine ⟨by rw [hl]; exact hok.1, by rw [hl]; exact hok.2.1, fun t ht => ?_, fun x hx => by rw [hw] at hx; cases hx⟩
  obtain ⟨i, hi, e⟩ := List.mem_iff_getElem.1 ht
  have h := poss_len hok (by rw [← hl]; exact hi) (hp i (by rw [← hl]; exact hi))
  rw [List.getD_eq_getElem?_getD, List.getElem?_eq_getElem hi] at h
  rw [← e]; exact h
theorem dok_crash {D : DSt} (hok : DOk D) (ks : List Bool) : DOk (crashed D ks) :=
  dok_dry hok (settleK_len _ _) rfl (fun i hi => poss_crash ks hi)
theorem dok_more {D D' : DSt} {ws : List (Nat × List UInt8)} (hok : DOk D) (h1 : D'.lasts = D.lasts) (h2 : D'.waits = D.waits ++ ws) (h : ∀ x ∈ ws, x.1 < D.lasts.length ∧ x.2.length = 128) : DOk D' := by
  unfold DOk
  rw [h1, h2]
  refine ⟨hok.1, hok.2.1, hok.2.2.1, fun x hx => ?_⟩
  rcases List.mem_append.1 hx with hx | hx
  · exact hok.2.2.2 x hx
  · exact h x hx
/-- What all sectors hold behind a sync. -/
structure Dry (D D' : DSt) : Prop where
  len : D'.lasts.length = D.lasts.length
  wts : D'.waits = []
  get : ∀ i, i < D.lasts.length → view D' i = view D i
theorem Dry.of_synced {D D' : DSt} (hok : DOk D) (h1 : D'.lasts = (synced D).lasts) (h2 : D'.waits = []) : Dry D D' :=
  ⟨by rw [h1]; exact synced_len hok, h2, fun i hi => by rw [view_dry h2 (by rw [h1, synced_len hok]; exact hi), h1, synced_view hok hi]⟩
theorem Dry.poss {D D' : DSt} (h : Dry D D') {i : Nat} (hi : i < D.lasts.length) {s : List UInt8} : Poss D' i s ↔ s = view D i := by
  rw [poss_dry h.wts (by rw [h.len]; exact hi), h.get i hi]
theorem Dry.ok {D D' : DSt} (h : Dry D D') (hok : DOk D) : DOk D' :=
  dok_dry hok h.len h.wts (fun i hi => by
    rw [← view_dry h.wts (by rw [h.len]; exact hi), h.get i hi]
    exact poss_view hi)
theorem Dry.recAt {D D' : DSt} (h : Dry D D') {i : Nat} (hi : i < D.lasts.length) : recAt D' i = recAt D i := by rw [recAt_view, recAt_view, h.get i hi]

theorem next_sec {g j : Nat} {d : List UInt8} (hg : g < 18446744073709551616) (hj : j < 4294967296) (hd : d.length ≤ 110) : openT (secL 1 g j d) = ((1, g, j, d), 0) := open_sec ⟨show (1 : Nat) < 256 by decide, hg, hj, hd⟩
theorem getD_short {all : List (List UInt8)} (h : ∀ d ∈ all, d.length ≤ 110) (j : Nat) : (all.getD j []).length ≤ 110 := by
  rw [List.getD_eq_getElem?_getD]
  cases hx : all[j]? with
  | none => exact Nat.zero_le _
  | some t => exact h t (List.mem_of_getElem? hx)

theorem logL_step (D : DSt) (g f i : Nat) : logL D 4 g (f + 1) i = if (recAt D (4 + i)).2 = 0 ∧ (recAt D (4 + i)).1.1 = 1 ∧ (recAt D (4 + i)).1.2.1 = g ∧ (recAt D (4 + i)).1.2.2.1 = i then (recAt D (4 + i)).1.2.2.2 :: logL D 4 g f (i + 1) else [] := rfl
theorem logL_yes {D : DSt} {g f i : Nat} (h : NextR g i (view D (4 + i))) : logL D 4 g (f + 1) i = (openT (view D (4 + i))).1.2.2.2 :: logL D 4 g f (i + 1) := by
  have h' : (recAt D (4 + i)).2 = 0 ∧ (recAt D (4 + i)).1.1 = 1 ∧ (recAt D (4 + i)).1.2.1 = g ∧ (recAt D (4 + i)).1.2.2.1 = i := h
  rw [logL_step, if_pos h']
  rfl
theorem logL_no {D : DSt} {g f i : Nat} (h : ¬ NextR g i (view D (4 + i))) : logL D 4 g (f + 1) i = [] := by
  have h' : ¬ ((recAt D (4 + i)).2 = 0 ∧ (recAt D (4 + i)).1.1 = 1 ∧ (recAt D (4 + i)).1.2.1 = g ∧ (recAt D (4 + i)).1.2.2.1 = i) := h
  rw [logL_step, if_neg h']
/-- What a log's replay finds. -/
theorem log_stop {D : DSt} {g : Nat} {all : List (List UInt8)} (hall : all.length ≤ 6) (h1 : ∀ j, j < all.length → NextR g j (view D (4 + j)) → (openT (view D (4 + j))).1.2.2.2 = all.getD j []) (h2 : all.length < 6 → ¬ NextR g all.length (view D (4 + all.length))) :
    ∀ f i, i + f = 6 → i ≤ all.length → ∃ m, i ≤ m ∧ m ≤ all.length ∧ logL D 4 g f i = (all.drop i).take (m - i) ∧ (∀ j, i ≤ j → j < m → NextR g j (view D (4 + j))) ∧ (m < 6 → ¬ NextR g m (view D (4 + m)))
  | 0, i, h, hi => ⟨i, Nat.le_refl _, hi, by rw [Nat.sub_self, List.take_zero]; rfl, fun j a b => by omega, fun hx => by omega⟩
  | f + 1, i, h, hi => by
    by_cases hn : NextR g i (view D (4 + i))
    · have hlt : i < all.length := by
        rcases Nat.lt_or_ge i all.length with q | q
        · exact q
        · obtain rfl : i = all.length := by omega
          exact absurd hn (h2 (by omega))
      obtain ⟨m, a, b, c, d, e⟩ := log_stop hall h1 h2 f (i + 1) (by omega) (by omega)
      refine ⟨m, by omega, b, ?_, fun j q1 q2 => ?_, e⟩
      · rw [logL_yes hn, c, h1 i hlt hn, show m - i = (m - (i + 1)) + 1 by omega, List.drop_eq_getElem_cons hlt, List.take_succ_cons, List.getD_eq_getElem?_getD, List.getElem?_eq_getElem hlt]
        rfl
      · rcases Nat.lt_or_ge i j with q | q
        · exact d j (by omega) q2
        · obtain rfl : j = i := by omega
          exact hn
    · exact ⟨i, Nat.le_refl _, hi, by rw [logL_no hn, Nat.sub_self, List.take_zero], fun j a b => by omega, fun _ => hn⟩
theorem log_none {D : DSt} {g : Nat} (h : ¬ NextR g 0 (view D 4)) : logL D 4 g 6 0 = [] := by
  exact logL_no (f := 5) (i := 0) h

theorem readS {D : DSt} (hlen : D.lasts.length = 10) {b : Nat} (hb : b < 2) : readF (foundL D ((2 * b : Nat) : Int) ((2 : Nat) : Int)) = read2 (recAt D (2 * b)) (recAt D (2 * b + 1)) := by
  rw [foundL_K (by omega) (by omega), openK2]; rfl
theorem newS {D : DSt} (hlen : D.lasts.length = 10) {b : Nat} (hb : b < 2) : newF (openL2 D ((2 * b : Nat) : Int) ((2 : Nat) : Int)) = newV D b := by
  unfold openL2
  rw [liesB_yes (by omega) (by omega), if_pos rfl, Int.toNat_natCast, Int.toNat_natCast, openK2]; rfl
theorem newest2 {D : DSt} (hlen : D.lasts.length = 10) : newestF D 2 = newestS (newestS (0, 0, [], false) 0 (read2 (recAt D 0) (recAt D 1))) 1 (read2 (recAt D 2) (recAt D 3)) := by
  unfold newestF
  have h0 := readS hlen (b := 0) (by decide)
  have h1 := readS hlen (b := 1) (by decide)
  rw [← h0, ← h1]
  rfl

/-- The newest whole slot is the vault's, if the other one has nothing newer that is whole. -/
theorem newest_own {D : DSt} (hlen : D.lasts.length = 10) {a g : Nat} (ha : a < 2) {T0 : List UInt8} (hc : read2 (recAt D (2 * a)) (recAt D (2 * a + 1)) = (T0, g, true))
    (ho : ∀ t G, read2 (recAt D (2 * (1 - a))) (recAt D (2 * (1 - a) + 1)) = (t, G, true) → G < g) : newestF D 2 = (a, g, T0, true) := by
  rw [newest2 hlen]
  rcases (by omega : a = 0 ∨ a = 1) with rfl | rfl
  · rw [show read2 (recAt D 0) (recAt D 1) = (T0, g, true) from hc]
    have e0 : newestS (0, 0, [], false) 0 (T0, g, true) = (0, g, T0, true) := by unfold newestS; rw [if_pos ⟨rfl, .inl rfl⟩]
    rw [e0]
    unfold newestS
    rw [if_neg (fun hx => by
      obtain ⟨h1, h2⟩ := hx
      have := ho (read2 (recAt D 2) (recAt D 3)).1 (read2 (recAt D 2) (recAt D 3)).2.1 (Prod.ext rfl (Prod.ext rfl h1))
      rcases h2 with h2 | h2
      · cases h2
      · have : g < (read2 (recAt D 2) (recAt D 3)).2.1 := h2
        omega)]
  · rw [show read2 (recAt D 2) (recAt D 3) = (T0, g, true) from hc]
    obtain ⟨b, hb⟩ : ∃ b, b = newestS (0, 0, [], false) 0 (read2 (recAt D 0) (recAt D 1)) := ⟨_, rfl⟩
    rw [← hb]
    have hq : b.2.2.2 = false ∨ b.2.1 < g := ?_
    · unfold newestS
      rw [if_pos ⟨rfl, hq⟩]
    unfold newestS at hb
    by_cases h1 : (read2 (recAt D 0) (recAt D 1)).2.2 = true ∧ (((0, 0, [], false) : Nat × Nat × List UInt8 × Bool).2.2.2 = false ∨ ((0, 0, [], false) : Nat × Nat × List UInt8 × Bool).2.1 < (read2 (recAt D 0) (recAt D 1)).2.1)
    · rw [if_pos h1] at hb
      have := ho (read2 (recAt D 0) (recAt D 1)).1 (read2 (recAt D 0) (recAt D 1)).2.1 (Prod.ext rfl (Prod.ext rfl h1.1))
      rw [hb]
      exact .inr this
    · rw [if_neg h1] at hb
      rw [hb]
      exact .inl rfl
/-- .. and the other one, if that has something newer. -/
theorem newest_oth {D : DSt} (hlen : D.lasts.length = 10) {a g : Nat} (ha : a < 2) {T0 t : List UInt8} {G : Nat} (hc : read2 (recAt D (2 * a)) (recAt D (2 * a + 1)) = (T0, g, true))
    (ho : read2 (recAt D (2 * (1 - a))) (recAt D (2 * (1 - a) + 1)) = (t, G, true)) (hg : g < G) : newestF D 2 = (1 - a, G, t, true) := by
  refine newest_own hlen (by omega) ho (fun t' G' h => ?_)
  rw [show 1 - (1 - a) = a by omega, hc] at h
  injection h with _ h
  injection h with h _
  omega

/-- What an opening behind a crash finds, and the vault that it makes. -/
theorem VI.crash {D : DSt} {a g : Nat} {st : Bool} {T0 : List UInt8} {all : List (List UInt8)} {sure : Nat} {more : List (List UInt8)} {i : Nat} (h : VI D a g st T0 all sure more i) (hg : g < 18446744073709551616) (ks : List Bool) {D' : DSt} (hD : D' = crashed D ks) :
    (lookF D' ((4 : Nat) : Int) 10).1 = false ∧ (lookF D' ((4 : Nat) : Int) 10).2.1 = false ∧ (lookF D' ((4 : Nat) : Int) 10).2.2 ≤ g ∧
    ((newestF D' 2 = (a, g, T0, true) ∧ ∃ m, sure ≤ m ∧ m ≤ all.length ∧ logL D' 4 g 6 0 = all.take m ∧ VI D' a g true T0 (all.take m) m [] i) ∨
     (∃ t G, newestF D' 2 = (1 - a, G, t, true) ∧ g < G ∧ t ∈ more ∧ logL D' 4 G 6 0 = [] ∧ VI D' (1 - a) G true t [] 0 [] i)) := by
  have hl : D'.lasts.length = D.lasts.length := by rw [hD]; exact settleK_len _ _
  have hw : D'.waits = [] := by rw [hD]; rfl
  have hlen : D'.lasts.length = 10 := hl.trans h.len
  have hP : ∀ j, j < 10 → Poss D j (view D' j) := fun j hj => by
    rw [view_dry hw (by omega), hD]
    exact poss_crash ks (by rw [h.len]; exact hj)
  have hQ : ∀ j, j < 10 → ∀ s, Poss D' j s → s = view D' j := fun j hj s hs => (poss_dry hw (by omega)).1 hs
  have hPP : ∀ j, j < 10 → ∀ s, Poss D' j s → Poss D j s := fun j hj s hs => by rw [hQ j hj s hs]; exact hP j hj
  have hok : DOk D' := by rw [hD]; exact dok_crash h.ok ks
  have ha := h.ha
  obtain ⟨c0, c1, e0, e1, e2⟩ := h.cur
  have v0 : view D' (2 * a) = c0 := e0 _ (hP _ (by omega))
  have v1 : view D' (2 * a + 1) = c1 := e1 _ (hP _ (by omega))
  have hcur : read2 (recAt D' (2 * a)) (recAt D' (2 * a + 1)) = (T0, g, true) := by rw [recAt_view, recAt_view, v0, v1]; exact e2
  have hc0 := (read2_yes hcur).1
  obtain ⟨k1, k2, k3⟩ := look_ok (D := D') (fr := ((4 : Nat) : Int)) (g := g) 10 (fun j hj => h.okc j hj _ (hP j hj)) (fun j hj hf q1 q2 => by
    have := h.log (j - 4) (by omega) (view D' j) (by rw [show 4 + (j - 4) = j by omega]; exact hP j hj) q1 q2
    exact this)
  refine ⟨k3 ⟨2 * a, by omega, hc0⟩, k1, k2, ?_⟩
  have top' : ∀ b, b < 2 → ∀ j, j < 2 → ∀ s, Poss D' (2 * b + j) s → KindS s → genS s ≤ newV D' b := fun b hb j hj s hs hk => by
    have e := hQ _ (by omega) s hs
    rcases (by omega : j = 0 ∨ j = 1) with rfl | rfl
    · rw [e] at hk ⊢
      exact new2_ge0 (x0 := recAt D' (2 * b)) hk.1 hk.2
    · rw [e] at hk ⊢
      exact new2_ge1 (x1 := recAt D' (2 * b + 1)) hk.1 hk.2
  by_cases hb : ∃ t G, read2 (recAt D' (2 * (1 - a))) (recAt D' (2 * (1 - a) + 1)) = (t, G, true) ∧ g < G
  · obtain ⟨t, G, hr, hgG⟩ := hb
    refine .inr ⟨t, G, newest_oth hlen ha hcur hr hgG, hgG, ?_, ?_, ?_⟩
    · rcases h.oth _ _ (hP _ (by omega)) (hP _ (by omega)) t G hr with q | q
      · omega
      · exact q.2
    · refine log_none (fun hn => ?_)
      have := h.log 0 (by omega) (view D' 4) (hP 4 (by omega)) hn.1 hn.2.1
      have e : genS (view D' 4) = G := hn.2.2.1
      omega
    · obtain ⟨y0, y1, y2⟩ := read2_yes hr
      have hk0 : KindS (view D' (2 * (1 - a))) := ⟨y0, y2.elim (fun q => .inr q.1) (fun q => .inl q.1)⟩
      have hGi : G ≤ i + 1 := by
        have := h.gens (2 * (1 - a)) (by omega) _ (hP _ (by omega)) hk0
        have e : genS (view D' (2 * (1 - a))) = G := y1
        omega
      exact { len := hlen
              ok := hok
              ha := by omega
              hgi := hGi
              okc := fun j hj s hs => h.okc j hj s (hPP j hj s hs)
              gens := fun j hj s hs => h.gens j hj s (hPP j (by omega) s hs)
              cur := ⟨view D' (2 * (1 - a)), view D' (2 * (1 - a) + 1), fun s hs => hQ _ (by omega) s hs, fun s hs => hQ _ (by omega) s hs, hr⟩
              oth := fun s0 s1 p0 p1 t' G' hx => by
                rw [show 1 - (1 - a) = a by omega] at p0 p1
                rw [e0 _ (hPP _ (by omega) _ p0), e1 _ (hPP _ (by omega) _ p1), e2] at hx
                injection hx with _ hx
                injection hx with hx _
                exact .inl (by omega)
              top := fun j hj s hs hk => top' _ (by omega) j hj s hs hk
              log := fun j hj s hs q1 q2 => by have := h.log j hj s (hPP _ (by omega) s hs) q1 q2; omega
              hsure := Nat.le_refl _
              hall := Nat.zero_le _
              short := fun d hd => by cases hd
              fix := fun j hj => absurd hj (Nat.not_lt_zero _)
              fix2 := fun j hj => absurd hj (Nat.not_lt_zero _)
              stop := fun _ s hs hn => by
                have := h.log 0 (by omega) s (hPP _ (by decide) s hs) hn.1 hn.2.1
                have e : genS s = G := hn.2.2.1
                omega
              stops := fun hst => by cases hst
              seen := fun hst => by cases hst }
  · have ho : ∀ t G, read2 (recAt D' (2 * (1 - a))) (recAt D' (2 * (1 - a) + 1)) = (t, G, true) → G < g := fun t G hr => by
      rcases h.oth _ _ (hP _ (by omega)) (hP _ (by omega)) t G hr with q | q
      · exact q
      · exact absurd ⟨t, G, hr, q.1⟩ hb
    have hrec : ∀ j, j < all.length → NextR g j (view D' (4 + j)) → view D' (4 + j) = secL 1 g j (all.getD j []) := fun j hj hn => h.fix2 j hj _ (hP _ (by have := h.hall; omega)) hn
    obtain ⟨m, m1, m2, m3, m4, m5⟩ := log_stop (D := D') (g := g) (all := all) h.hall (fun j hj hn => by
      rw [hrec j hj hn, next_sec hg (by have := h.hall; omega) (getD_short h.short j)]) (fun hx => h.stop hx _ (hP _ (by omega))) 6 0 rfl (Nat.zero_le _)
    rw [Nat.sub_zero, List.drop_zero] at m3
    have hsm : sure ≤ m := by
      rcases Nat.lt_or_ge m sure with q | q
      · exfalso
        have hsa := h.hsure
        have hal := h.hall
        refine m5 (by omega) ?_
        have e := h.fix m q _ (hP (4 + m) (by omega))
        rw [e]
        unfold NextR
        rw [next_sec hg (by omega) (getD_short h.short m)]
        exact ⟨rfl, rfl, rfl, rfl⟩
      · exact q
    have htl : (all.take m).length = m := by rw [List.length_take]; omega
    have hgd : ∀ j, j < m → (all.take m).getD j [] = all.getD j [] := fun j hj => by rw [List.getD_eq_getElem?_getD, List.getD_eq_getElem?_getD, List.getElem?_take_of_lt hj]
    have hal := h.hall
    refine .inl ⟨newest_own hlen ha hcur ho, m, hsm, m2, m3, ?_⟩
    exact { len := hlen
            ok := hok
            ha := ha
            hgi := h.hgi
            okc := fun j hj s hs => h.okc j hj s (hPP j hj s hs)
            gens := fun j hj s hs => h.gens j hj s (hPP j (by omega) s hs)
            cur := ⟨c0, c1, fun s hs => e0 s (hPP _ (by omega) s hs), fun s hs => e1 s (hPP _ (by omega) s hs), e2⟩
            oth := fun s0 s1 p0 p1 t' G' hx => by
              rw [hQ _ (by omega) _ p0, hQ _ (by omega) _ p1] at hx
              exact .inl (ho t' G' hx)
            top := fun j hj s hs hk => top' _ (by omega) j hj s hs hk
            log := fun j hj s hs => h.log j hj s (hPP _ (by omega) s hs)
            hsure := by rw [htl]; exact Nat.le_refl _
            hall := by omega
            short := fun d hd => h.short d (List.mem_of_mem_take hd)
            fix := fun j hj s hs => by
              rw [hgd j hj, hQ _ (by omega) s hs]
              exact hrec j (by omega) (m4 j (Nat.zero_le _) hj)
            fix2 := fun j hj s hs _ => by
              rw [htl] at hj
              rw [hgd j hj, hQ _ (by omega) s hs]
              exact hrec j (by omega) (m4 j (Nat.zero_le _) hj)
            stop := fun hx s hs => by
              rw [htl] at hx hs ⊢
              rw [hQ _ (by omega) s hs]
              exact m5 hx
            stops := fun hst => by cases hst
            seen := fun hst => by cases hst }
end Go.Proofs.YtbigpapniloknaaDoor

namespace Go.Proofs.YtbigpapniloknaaDoor
open Go.RowKit
set_option maxRecDepth 100000

/-- A record that was written, and waits. -/
theorem VI.wrote {D D' : DSt} {a g : Nat} {T0 : List UInt8} {all : List (List UInt8)} {sure : Nat} {more : List (List UInt8)} {i : Nat} (h : VI D a g false T0 all sure more i) (hg : g < 18446744073709551616) (hl : all.length < 6) {d : List UInt8} (hd : d.length ≤ 110)
    (h1 : D'.lasts = D.lasts) (h2 : D'.waits = D.waits ++ [(4 + all.length, secL 1 g all.length d)]) : VI D' a g false T0 (all ++ [d]) sure more i := by
  obtain ⟨R, hR⟩ : ∃ R, R = secL 1 g all.length d := ⟨_, rfl⟩
  have hRo : openT R = ((1, g, all.length, d), 0) := by rw [hR]; exact next_sec hg (by omega) hd
  have hRl : R.length = 128 := by rw [hR]; exact secL_len _ _ _ _ hd
  rw [← hR] at h2
  have hp : ∀ j s, Poss D' j s → Poss D j s ∨ (j = 4 + all.length ∧ s = R) := fun j s hs => by
    rcases (poss_more h1 h2).1 hs with q | q
    · exact .inl q
    · rw [List.mem_singleton] at q
      injection q with q1 q2
      exact .inr ⟨q1, q2⟩
  have hq : ∀ j, j ≠ 4 + all.length → ∀ s, Poss D' j s → Poss D j s := fun j hj s hs => (hp j s hs).elim id (fun q => absurd q.1 hj)
  have hlen := h.len
  have ha := h.ha
  have hv : ∀ j, j < 10 → j ≠ 4 + all.length → view D' j = view D j := fun j hj hne => view_far h1 h2 (by omega) (fun x hx => by rw [List.mem_singleton.1 hx]; exact fun e => hne e.symm)
  have hvn : view D' (4 + all.length) = R := view_wrote h1 h2 (by omega)
  obtain ⟨c0, c1, e0, e1, e2⟩ := h.cur
  have hnew : ∀ b, b < 2 → newV D' b = newV D b := fun b hb => by unfold newV; rw [recAt_view, recAt_view, recAt_view, recAt_view, hv _ (by omega) (by omega), hv _ (by omega) (by omega)]
  have hal : (all ++ [d]).length = all.length + 1 := by simp
  exact { len := by rw [h1]; exact hlen
          ok := dok_more h.ok h1 h2 (fun x hx => by rw [List.mem_singleton.1 hx]; exact ⟨by show 4 + all.length < _; omega, hRl⟩)
          ha := ha
          hgi := h.hgi
          okc := fun j hj s hs => by
            rcases hp j s hs with q | q
            · exact h.okc j hj s q
            · rw [q.2, hRo]; exact .inl rfl
          gens := fun j hj s hs => h.gens j hj s (hq j (by omega) s hs)
          cur := ⟨c0, c1, fun s hs => e0 s (hq _ (by omega) s hs), fun s hs => e1 s (hq _ (by omega) s hs), e2⟩
          oth := fun s0 s1 p0 p1 => h.oth s0 s1 (hq _ (by omega) _ p0) (hq _ (by omega) _ p1)
          top := fun j hj s hs hk => by rw [hnew _ (by omega)]; exact h.top j hj s (hq _ (by omega) s hs) hk
          log := fun j hj s hs q1 q2 => by
            rcases hp _ s hs with q | q
            · exact h.log j hj s q q1 q2
            · rw [q.2]; show (openT R).1.2.1 ≤ g; rw [hRo]; exact Nat.le_refl _
          hsure := by rw [hal]; have := h.hsure; omega
          hall := by omega
          short := fun x hx => by
            rcases List.mem_append.1 hx with q | q
            · exact h.short x q
            · rw [List.mem_singleton.1 q]; exact hd
          fix := fun j hj s hs => by
            have hsu := h.hsure
            rw [getD_snoc_lt _ _ _ (by omega)]
            exact h.fix j hj s (hq _ (by omega) s hs)
          fix2 := fun j hj s hs hn => by
            rw [hal] at hj
            rcases Nat.lt_or_ge j all.length with q | q
            · rw [getD_snoc_lt _ _ _ q]
              exact h.fix2 j q s (hq _ (by omega) s hs) hn
            · obtain rfl : j = all.length := by omega
              rw [getD_snoc_eq, ← hR]
              rcases hp _ s hs with q | q
              · exact absurd hn (h.stops rfl _ (Nat.le_refl _) hl s q)
              · exact q.2
          stop := fun hx s hs => by
            rw [hal] at hx hs ⊢
            exact h.stops rfl _ (by omega) (by omega) s (hq _ (by omega) s hs)
          stops := fun _ j hj hj6 s hs => by
            rw [hal] at hj
            exact h.stops rfl j (by omega) hj6 s (hq _ (by omega) s hs)
          seen := fun _ j hj => by
            rw [hal] at hj
            rcases Nat.lt_or_ge j all.length with q | q
            · rw [getD_snoc_lt _ _ _ q, hv _ (by omega) (by omega)]
              exact h.seen rfl j q
            · obtain rfl : j = all.length := by omega
              rw [getD_snoc_eq, hvn, hR] }

/-- A sync. -/
theorem VI.sync {D D' : DSt} {a g : Nat} {st : Bool} {T0 : List UInt8} {all : List (List UInt8)} {sure : Nat} {more : List (List UInt8)} {i : Nat} (h : VI D a g st T0 all sure more i) (hdry : Dry D D') {sure' : Nat} (hs1 : sure' ≤ all.length) (hs2 : ∀ j, j < sure' → view D (4 + j) = secL 1 g j (all.getD j [])) : VI D' a g st T0 all sure' more i := by
  have hlen := h.len
  have ha := h.ha
  have hal := h.hall
  have hv : ∀ j, j < 10 → ∀ s, Poss D' j s → s = view D j := fun j hj s hs => (hdry.poss (by omega)).1 hs
  have hq : ∀ j, j < 10 → ∀ s, Poss D' j s → Poss D j s := fun j hj s hs => by rw [hv j hj s hs]; exact poss_view (by omega)
  have hr : ∀ j, j < 10 → recAt D' j = recAt D j := fun j hj => hdry.recAt (by omega)
  obtain ⟨c0, c1, e0, e1, e2⟩ := h.cur
  exact { len := hdry.len.trans hlen
          ok := hdry.ok h.ok
          ha := ha
          hgi := h.hgi
          okc := fun j hj s hs => h.okc j hj s (hq j hj s hs)
          gens := fun j hj s hs => h.gens j hj s (hq j (by omega) s hs)
          cur := ⟨c0, c1, fun s hs => e0 s (hq _ (by omega) s hs), fun s hs => e1 s (hq _ (by omega) s hs), e2⟩
          oth := fun s0 s1 p0 p1 => h.oth s0 s1 (hq _ (by omega) _ p0) (hq _ (by omega) _ p1)
          top := fun j hj s hs hk => by unfold newV; rw [hr _ (by omega), hr _ (by omega)]; exact h.top j hj s (hq _ (by omega) s hs) hk
          log := fun j hj s hs => h.log j hj s (hq _ (by omega) s hs)
          hsure := hs1
          hall := hal
          short := h.short
          fix := fun j hj s hs => by rw [hv _ (by omega) s hs]; exact hs2 j hj
          fix2 := fun j hj s hs => h.fix2 j hj s (hq _ (by omega) s hs)
          stop := fun hx s hs => h.stop hx s (hq _ (by omega) s hs)
          stops := fun hst j hj hj6 s hs => h.stops hst j hj hj6 s (hq _ (by omega) s hs)
          seen := fun hst j hj => by rw [hdry.get _ (by omega)]; exact h.seen hst j hj }
/-- What is sure stands in what is read. -/
theorem VI.sure_view {D : DSt} {a g : Nat} {st : Bool} {T0 : List UInt8} {all : List (List UInt8)} {sure : Nat} {more : List (List UInt8)} {i : Nat} (h : VI D a g st T0 all sure more i) : ∀ j, j < sure → view D (4 + j) = secL 1 g j (all.getD j []) := fun j hj =>
  h.fix j hj _ (poss_view (by have := h.hsure; have := h.hall; have := h.len; omega))

/-- The generation that a settling takes. -/
def genV (D : DSt) : Nat := max (newV D 0) (newV D 1)
theorem VI.gen {D : DSt} {a g : Nat} {st : Bool} {T0 : List UInt8} {all : List (List UInt8)} {sure : Nat} {more : List (List UInt8)} {i : Nat} (h : VI D a g st T0 all sure more i) : g ≤ genV D ∧ genV D ≤ i + 1 ∧ newV D (1 - a) ≤ genV D := by
  have hlen := h.len
  have ha := h.ha
  have hb : ∀ b, b < 2 → newV D b ≤ i + 1 := fun b hb => new2_le (fun q1 q2 => h.gens (2 * b) (by omega) _ (poss_view (by omega)) ⟨q1, q2⟩) (fun q1 q2 => h.gens (2 * b + 1) (by omega) _ (poss_view (by omega)) ⟨q1, q2⟩)
  obtain ⟨c0, c1, e0, e1, e2⟩ := h.cur
  have v0 : view D (2 * a) = c0 := e0 _ (poss_view (by omega))
  obtain ⟨y0, y1, y2⟩ := read2_yes e2
  have hga : g ≤ newV D a := by
    have := new2_ge0 (x0 := recAt D (2 * a)) (x1 := recAt D (2 * a + 1)) (by rw [recAt_view, v0]; exact y0) (by rw [recAt_view, v0]; exact y2.elim (fun q => .inr q.1) (fun q => .inl q.1))
    rw [recAt_view, v0, y1] at this
    unfold newV
    rw [recAt_view D (2 * a), v0]
    exact this
  have h0 := hb 0 (by decide)
  have h1 := hb 1 (by decide)
  unfold genV
  rcases (by omega : a = 0 ∨ a = 1) with rfl | rfl
  · exact ⟨by omega, by omega, by show newV D 1 ≤ _; omega⟩
  · exact ⟨by omega, by omega, by show newV D 0 ≤ _; omega⟩

theorem partN2 {t : List UInt8} (ht : t.length ≤ 216) : partN (sumT t) = 1 ∨ partN (sumT t) = 2 := by unfold partN; rw [sumT_len]; omega
theorem part_kind (g : Nat) (S : List UInt8) (j : Nat) : (partAt g S j).1 = 2 ∨ (partAt g S j).1 = 3 := by
  show (if j + 1 = partN S then 3 else 2) = 2 ∨ (if j + 1 = partN S then 3 else 2) = 3
  split
  · exact .inr rfl
  · exact .inl rfl
/-- The parts of a text, read. -/
theorem read2_parts {g : Nat} {t : List UInt8} (hg : g < 18446744073709551616) (ht : t.length ≤ 216) {x1 : RecT × Nat} (h : partN (sumT t) = 1 ∨ x1 = (partAt g (sumT t) 1, 0)) : read2 (partAt g (sumT t) 0, 0) x1 = (t, g, true) := by
  have hw0 : okF 0 0 (0, partAt g (sumT t) 0) = true := by
    unfold okF
    rw [whole_part (partN_pos t), if_pos rfl, decide_eq_true rfl, decide_eq_true (show (partAt g (sumT t) 0).2.2.1 = 0 from rfl), decide_eq_true rfl]
    rfl
  have hop : opens2 (partAt g (sumT t) 0, 0) x1 = (0, partAt g (sumT t) 0) :: (if x1.2 = 0 then [(1, x1.1)] else []) := by unfold opens2; rw [if_pos rfl]; rfl
  unfold read2
  rw [hop, foundF_yes hw0]
  rcases partN2 ht with hN | hN
  · rw [if_pos (show (partAt g (sumT t) 0).1 = 3 from if_pos (by rw [hN]))]
    have := read_whole g t
    rw [hN] at this
    exact this
  · rcases h with h | h
    · omega
    · rw [h]
      rw [if_neg (show ¬ ((partAt g (sumT t) 0).1 = 3) by show ¬ ((if 0 + 1 = partN (sumT t) then 3 else 2) = 3); rw [if_neg (by omega)]; decide), if_pos rfl]
      have hw1 : okF 1 g (1, partAt g (sumT t) 1) = true := by
        unfold okF
        rw [whole_part (by omega), decide_eq_true rfl, decide_eq_true (show (partAt g (sumT t) 1).2.2.1 = 1 from rfl), if_neg (show ¬ ((1, partAt g (sumT t) 1).1 = 0) by show ¬ (1 = 0); decide), decide_eq_true (show (partAt g (sumT t) 1).2.1 = g from rfl)]
        rfl
      show readF (partAt g (sumT t) 0 :: foundF 1 g [(1, partAt g (sumT t) 1)]) = _
      rw [foundF_yes hw1, if_pos (show (partAt g (sumT t) 1).1 = 3 from if_pos (by rw [hN]))]
      have := read_whole g t
      rw [hN] at this
      exact this

/-- The writes of a settling, m of them. -/
theorem VI.tries {D D' : DSt} {a g : Nat} {st : Bool} {T0 : List UInt8} {all : List (List UInt8)} {sure : Nat} {more : List (List UInt8)} {i : Nat} (h : VI D a g st T0 all sure more i) (hi : i + 2 < 18446744073709551616) {t : List UInt8} (ht : t.length ≤ 216) {m : Nat} (hm : m ≤ partN (sumT t))
    (h1 : D'.lasts = D.lasts) (h2 : D'.waits = D.waits ++ seqW (fun q => secP (genV D + 1) (sumT t) (q - 2 * (1 - a))) (2 * (1 - a)) m) : VI D' a g true T0 all sure (more ++ [t]) (i + 1) := by
  obtain ⟨g1, g2, g3⟩ := h.gen
  obtain ⟨G, hG⟩ : ∃ G, G = genV D + 1 := ⟨_, rfl⟩
  rw [← hG] at h2
  have hlen := h.len
  have ha := h.ha
  have hal := h.hall
  have hN := partN2 ht
  obtain ⟨b, hb⟩ : ∃ b, b = 1 - a := ⟨_, rfl⟩
  have hb2 : b < 2 := by omega
  rw [← hb] at h2
  have hpo : ∀ j, openT (secP G (sumT t) j) = (partAt G (sumT t) j, 0) ∨ ¬ j < 2 := fun j => by
    rcases Nat.lt_or_ge j 2 with q | q
    · exact .inl (open_part (by omega) (by omega))
    · exact .inr (by omega)
  have hp : ∀ j s, Poss D' j s → Poss D j s ∨ (2 * b ≤ j ∧ j < 2 * b + m ∧ s = secP G (sumT t) (j - 2 * b)) := fun j s hs => by
    rcases (poss_more h1 h2).1 hs with q | q
    · exact .inl q
    · obtain ⟨q1, q2, q3⟩ := seqW_mem q
      exact .inr ⟨q1, q2, q3⟩
  have hq : ∀ j, (j < 2 * b ∨ 2 * b + m ≤ j) → ∀ s, Poss D' j s → Poss D j s := fun j hj s hs => (hp j s hs).elim id (fun q => by omega)
  have hview : ∀ j, j < 10 → view D' j = if 2 * b ≤ j ∧ j < 2 * b + m then secP G (sumT t) (j - 2 * b) else view D j := fun j hj => view_seq _ _ m D' h1 h2 j (by omega)
  obtain ⟨c0, c1, e0, e1, e2⟩ := h.cur
  have hslot : ∀ j, j < 2 → ∀ s, Poss D (2 * b + j) s → KindS s → genS s < G := fun j hj s hs hk => by
    have := h.top j hj s (by rw [← hb]; exact hs) hk
    rw [← hb] at this
    rw [← hb] at g3
    omega
  exact { len := by rw [h1]; exact hlen
          ok := dok_more h.ok h1 h2 (fun x hx => by
            obtain ⟨q1, q2, q3⟩ := seqW_mem hx
            exact ⟨by omega, by rw [q3]; exact secP_len _ _ _⟩)
          ha := ha
          hgi := by omega
          okc := fun j hj s hs => by
            rcases hp j s hs with q | q
            · exact h.okc j hj s q
            · rw [q.2.2]
              rcases hpo (j - 2 * b) with w | w
              · rw [w]; exact .inl rfl
              · omega
          gens := fun j hj s hs hk => by
            rcases hp j s hs with q | q
            · have := h.gens j hj s q hk; omega
            · rw [q.2.2]
              rcases hpo (j - 2 * b) with w | w
              · show (openT _).1.2.1 ≤ _
                rw [w]
                show G ≤ _
                omega
              · omega
          cur := ⟨c0, c1, fun s hs => e0 s (hq _ (by omega) s hs), fun s hs => e1 s (hq _ (by omega) s hs), e2⟩
          oth := fun s0 s1 p0 p1 t' G' hx => by
            rw [← hb] at p0 p1
            obtain ⟨y0, y1, y2⟩ := read2_yes hx
            rcases hp _ s0 p0 with q0 | q0
            · -- an old first sector
              have hk0 : KindS s0 := ⟨y0, y2.elim (fun q => .inr q.1) (fun q => .inl q.1)⟩
              have hlt := hslot 0 (by decide) s0 q0 hk0
              rcases y2 with y2 | y2
              · have hx2 := y2.2 (openT (view D (2 * b + 1)))
                rcases h.oth s0 _ (by rw [← hb]; exact q0) (by rw [← hb]; exact poss_view (by omega)) t' G' hx2 with w | w
                · exact .inl w
                · exact .inr ⟨w.1, List.mem_append_left _ w.2⟩
              · rcases hp _ s1 p1 with q1 | q1
                · rcases h.oth s0 s1 (by rw [← hb]; exact q0) (by rw [← hb]; exact q1) t' G' hx with w | w
                  · exact .inl w
                  · exact .inr ⟨w.1, List.mem_append_left _ w.2⟩
                · exfalso
                  have hg1 := y2.2.2
                  rw [q1.2.2, show 2 * b + 1 - 2 * b = 1 by omega] at hg1
                  rcases hpo 1 with w | w
                  · rw [w] at hg1
                    have : G = G' := hg1
                    have : genS s0 = G' := y1
                    omega
                  · omega
            · -- a new first sector
              rw [q0.2.2, show 2 * b - 2 * b = 0 by omega] at hx y0 y1 y2
              have w0 : openT (secP G (sumT t) 0) = (partAt G (sumT t) 0, 0) := open_part (by omega) (by omega)
              rw [w0] at hx y0 y1 y2
              have hGG : G = G' := y1
              rcases hN with hN | hN
              · rw [read2_parts (by omega) ht (.inl hN)] at hx
                injection hx with hx1 hx2
                exact .inr ⟨by omega, List.mem_append_right _ (by rw [← hx1]; exact List.mem_singleton.2 rfl)⟩
              · rcases y2 with y2 | y2
                · exfalso
                  have h3 : (if 0 + 1 = partN (sumT t) then 3 else 2) = 3 := y2.1
                  rw [if_neg (by omega)] at h3
                  cases h3
                · rcases hp _ s1 p1 with q1 | q1
                  · exfalso
                    -- an old second sector of the new generation there is none
                    have hr1 := y2.2.2
                    have hk1 : (openT s1).1.1 = 2 ∨ (openT s1).1.1 = 3 := by
                      by_cases hk : (openT s1).1.1 = 2 ∨ (openT s1).1.1 = 3
                      · exact hk
                      · exfalso
                        have hno : okF 1 G (1, (openT s1).1) = false := by
                          unfold okF wholeB
                          rw [if_neg (fun e => hk (.inl e)), if_neg (fun e => hk (.inr e))]
                          simp
                        have hop : opens2 (partAt G (sumT t) 0, 0) (openT s1) = (0, partAt G (sumT t) 0) :: [(1, (openT s1).1)] := by unfold opens2; rw [if_pos rfl, if_pos y2.2.1]; rfl
                        have hw0 : okF 0 0 (0, partAt G (sumT t) 0) = true := by
                          unfold okF
                          rw [whole_part (partN_pos t), if_pos rfl, decide_eq_true rfl, decide_eq_true (show (partAt G (sumT t) 0).2.2.1 = 0 from rfl), decide_eq_true rfl]
                          rfl
                        unfold read2 at hx
                        rw [hop, foundF_yes hw0, if_neg (show ¬ ((partAt G (sumT t) 0).1 = 3) by show ¬ ((if 0 + 1 = partN (sumT t) then 3 else 2) = 3); rw [if_neg (by omega)]; decide), if_pos rfl] at hx
                        have hx' : readF (partAt G (sumT t) 0 :: foundF 1 G [(1, (openT s1).1)]) = (t', G', true) := hx
                        rw [foundF_no hno] at hx'
                        unfold readF at hx'
                        rw [if_neg (fun hz => by
                          have : (if 0 + 1 = partN (sumT t) then 3 else 2) = 3 := hz.1
                          rw [if_neg (by omega)] at this
                          cases this)] at hx'
                        injection hx' with _ hx'
                        injection hx' with _ hx'
                        cases hx'
                    have := hslot 1 (by decide) s1 q1 ⟨y2.2.1, hk1⟩
                    have e : genS s1 = G' := hr1
                    omega
                  · rw [q1.2.2, show 2 * b + 1 - 2 * b = 1 by omega] at hx
                    have w1 : openT (secP G (sumT t) 1) = (partAt G (sumT t) 1, 0) := open_part (by omega) (by omega)
                    rw [w1, read2_parts (by omega) ht (.inr rfl)] at hx
                    injection hx with hx1 hx2
                    exact .inr ⟨by omega, List.mem_append_right _ (by rw [← hx1]; exact List.mem_singleton.2 rfl)⟩
          top := fun j hj s hs hk => by
            rw [← hb] at hs ⊢
            by_cases hm0 : m = 0
            · subst hm0
              have hv : ∀ j, j < 10 → view D' j = view D j := fun j hj => by rw [hview j hj, if_neg (by omega)]
              unfold newV
              rw [recAt_view, recAt_view, hv _ (by omega), hv _ (by omega)]
              have := h.top j hj s (by rw [← hb]; exact hq _ (by omega) s hs) hk
              rw [← hb] at this
              exact this
            · have hnew : G ≤ newV D' b := by
                have w0 : openT (view D' (2 * b)) = (partAt G (sumT t) 0, 0) := by
                  rw [hview _ (by omega), if_pos (by omega), show 2 * b - 2 * b = 0 by omega]
                  exact open_part (by omega) (by omega)
                have := new2_ge0 (x0 := recAt D' (2 * b)) (x1 := recAt D' (2 * b + 1)) (by rw [recAt_view, w0]) (by rw [recAt_view, w0]; exact part_kind _ _ _)
                rw [recAt_view, w0] at this
                unfold newV
                rw [recAt_view D' (2 * b), w0]
                exact this
              rcases hp _ s hs with q | q
              · have := hslot j hj s q hk
                omega
              · rw [q.2.2, show 2 * b + j - 2 * b = j by omega]
                show (openT _).1.2.1 ≤ _
                rw [open_part (by omega) (by omega)]
                exact hnew
          log := fun j hj s hs => h.log j hj s (hq _ (by omega) s hs)
          hsure := h.hsure
          hall := hal
          short := h.short
          fix := fun j hj s hs => h.fix j hj s (hq _ (by omega) s hs)
          fix2 := fun j hj s hs => h.fix2 j hj s (hq _ (by omega) s hs)
          stop := fun hx s hs => h.stop hx s (hq _ (by omega) s hs)
          stops := fun hst => by cases hst
          seen := fun hst => by cases hst }

/-- A settling that went well. -/
theorem VI.settled {D D' D'' : DSt} {a g : Nat} {st : Bool} {T0 : List UInt8} {all : List (List UInt8)} {sure : Nat} {more : List (List UInt8)} {i : Nat} (h : VI D a g st T0 all sure more i) (hi : i + 2 < 18446744073709551616) {t : List UInt8} (ht : t.length ≤ 216)
    (h1 : D'.lasts = D.lasts) (h2 : D'.waits = D.waits ++ seqW (fun q => secP (genV D + 1) (sumT t) (q - 2 * (1 - a))) (2 * (1 - a)) (partN (sumT t))) (hdry : Dry D' D'') : VI D'' (1 - a) (genV D + 1) false t [] 0 [] (i + 1) := by
  have h' := h.tries hi ht (Nat.le_refl _) h1 h2
  obtain ⟨g1, g2, g3⟩ := h.gen
  obtain ⟨G, hG⟩ : ∃ G, G = genV D + 1 := ⟨_, rfl⟩
  rw [← hG] at h2 ⊢
  have hlen := h'.len
  have ha := h.ha
  have hN := partN2 ht
  have hv : ∀ j, j < 10 → ∀ s, Poss D'' j s → s = view D' j := fun j hj s hs => (hdry.poss (by omega)).1 hs
  have hq : ∀ j, j < 10 → ∀ s, Poss D'' j s → Poss D' j s := fun j hj s hs => by rw [hv j hj s hs]; exact poss_view (by omega)
  have hview : ∀ j, j < 10 → view D' j = if 2 * (1 - a) ≤ j ∧ j < 2 * (1 - a) + partN (sumT t) then secP G (sumT t) (j - 2 * (1 - a)) else view D j := fun j hj => view_seq _ _ _ D' h1 h2 j (by have := h.len; omega)
  have w0 : openT (view D' (2 * (1 - a))) = (partAt G (sumT t) 0, 0) := by
    rw [hview _ (by omega), if_pos (by omega), show 2 * (1 - a) - 2 * (1 - a) = 0 by omega]
    exact open_part (by omega) (by omega)
  have hread : read2 (openT (view D' (2 * (1 - a)))) (openT (view D' (2 * (1 - a) + 1))) = (t, G, true) := by
    rw [w0]
    rcases hN with q | q
    · exact read2_parts (by omega) ht (.inl q)
    · refine read2_parts (by omega) ht (.inr ?_)
      rw [hview _ (by omega), if_pos (by omega), show 2 * (1 - a) + 1 - 2 * (1 - a) = 1 by omega]
      exact open_part (by omega) (by omega)
  obtain ⟨c0, c1, e0, e1, e2⟩ := h'.cur
  have hgG : g < G := by omega
  exact { len := hdry.len.trans hlen
          ok := hdry.ok h'.ok
          ha := by omega
          hgi := by omega
          okc := fun j hj s hs => h'.okc j hj s (hq j hj s hs)
          gens := fun j hj s hs => h'.gens j hj s (hq j (by omega) s hs)
          cur := ⟨_, _, fun s hs => hv _ (by omega) s hs, fun s hs => hv _ (by omega) s hs, hread⟩
          oth := fun s0 s1 p0 p1 t' G' hx => by
            rw [show 1 - (1 - a) = a by omega] at p0 p1
            rw [e0 _ (hq _ (by omega) _ p0), e1 _ (hq _ (by omega) _ p1), e2] at hx
            injection hx with _ hx
            injection hx with hx _
            exact .inl (by omega)
          top := fun j hj s hs hk => by
            have hr : ∀ j, j < 10 → recAt D'' j = recAt D' j := fun j hj => hdry.recAt (by omega)
            unfold newV
            rw [hr _ (by omega), hr _ (by omega)]
            have e := hv _ (by omega) s hs
            rcases (by omega : j = 0 ∨ j = 1) with rfl | rfl
            · rw [e] at hk ⊢
              exact new2_ge0 (x0 := recAt D' (2 * (1 - (1 - a)))) hk.1 hk.2
            · rw [e] at hk ⊢
              exact new2_ge1 (x1 := recAt D' (2 * (1 - (1 - a)) + 1)) hk.1 hk.2
          log := fun j hj s hs q1 q2 => by have := h'.log j hj s (hq _ (by omega) s hs) q1 q2; omega
          hsure := Nat.le_refl _
          hall := Nat.zero_le _
          short := fun d hd => by cases hd
          fix := fun j hj => absurd hj (Nat.not_lt_zero _)
          fix2 := fun j hj => absurd hj (Nat.not_lt_zero _)
          stop := fun _ s hs hn => by
            have := h'.log 0 (by omega) s (hq _ (by decide) s hs) hn.1 hn.2.1
            have e : genS s = G := hn.2.2.1
            omega
          stops := fun _ j hj hj6 s hs hn => by
            have := h'.log j hj6 s (hq _ (by omega) s hs) hn.1 hn.2.1
            have e : genS s = G := hn.2.2.1
            omega
          seen := fun _ j hj => absurd hj (Nat.not_lt_zero _) }

/-- A disk that was just laid. -/
theorem VI.start {D D' : DSt} {t : List UInt8} (ht : t.length ≤ 216) (h0 : D = newD 10) (h1 : D'.lasts = D.lasts) (h2 : D'.waits = D.waits ++ seqW (fun q => secP 1 (sumT t) (q - 0)) 0 (partN (sumT t))) {D'' : DSt} (hdry : Dry D' D'') : VI D'' 0 1 true t [] 0 [] 0 := by
  have hN := partN2 ht
  have hl0 : D.lasts.length = 10 := by rw [h0]; simp [newD]
  have hlen : D'.lasts.length = 10 := by rw [h1]; exact hl0
  have hok0 : DOk D := by
    rw [h0]
    refine ⟨by simp [newD], by simp [newD], fun x hx => ?_, fun x hx => by simp [newD] at hx⟩
    have := List.eq_of_mem_replicate hx
    rw [this]; exact List.length_replicate
  have hok : DOk D' := dok_more hok0 h1 h2 (fun x hx => by
    obtain ⟨q1, q2, q3⟩ := seqW_mem hx
    exact ⟨by omega, by rw [q3]; exact secP_len _ _ _⟩)
  have hview : ∀ j, j < 10 → view D' j = if j < partN (sumT t) then secP 1 (sumT t) j else List.replicate 128 0 := fun j hj => by
    rw [view_seq _ _ _ D' h1 h2 j (by omega)]
    by_cases q : j < partN (sumT t)
    · rw [if_pos ⟨Nat.zero_le _, by omega⟩, if_pos q, Nat.sub_zero]
    · rw [if_neg (by omega), if_neg q, h0, view_dry rfl (by simp [newD]; omega), newD_get hj]
  have hv : ∀ j, j < 10 → ∀ s, Poss D'' j s → s = view D' j := fun j hj s hs => (hdry.poss (by omega)).1 hs
  have hpart : ∀ j, j < partN (sumT t) → openT (secP 1 (sumT t) j) = (partAt 1 (sumT t) j, 0) := fun j hj => open_part (by omega) (by omega)
  have hcase : ∀ j, j < 10 → ∀ s, Poss D'' j s → (j < partN (sumT t) ∧ openT s = (partAt 1 (sumT t) j, 0)) ∨ (partN (sumT t) ≤ j ∧ openT s = ((0, 0, 0, []), 16)) := fun j hj s hs => by
    rw [hv j hj s hs, hview j hj]
    by_cases q : j < partN (sumT t)
    · rw [if_pos q]; exact .inl ⟨q, hpart j q⟩
    · rw [if_neg q]; exact .inr ⟨by omega, open_blank⟩
  have hread : read2 (openT (view D' 0)) (openT (view D' 1)) = (t, 1, true) := by
    rw [hview 0 (by decide), if_pos (by omega), hpart 0 (by omega)]
    rcases hN with q | q
    · exact read2_parts (by omega) ht (.inl q)
    · exact read2_parts (by omega) ht (.inr (by rw [hview 1 (by decide), if_pos (by omega), hpart 1 (by omega)]))
  have hno : ∀ j, 2 ≤ j → j < 10 → ∀ s, Poss D'' j s → (openT s).2 ≠ 0 := fun j h2' hj s hs => by
    rcases hcase j hj s hs with q | q
    · omega
    · rw [q.2]; show ¬ (16 = 0); decide
  exact { len := hdry.len.trans hlen
          ok := hdry.ok hok
          ha := by decide
          hgi := Nat.le_refl _
          okc := fun j hj s hs => by
            rcases hcase j hj s hs with q | q
            · rw [q.2]; exact .inl rfl
            · rw [q.2]; exact .inr rfl
          gens := fun j hj s hs hk => by
            rcases hcase j (by omega) s hs with q | q
            · show (openT s).1.2.1 ≤ _
              rw [q.2]
              exact Nat.le_refl _
            · have := hk.1; rw [q.2] at this; cases this
          cur := ⟨_, _, fun s hs => hv 0 (by decide) s hs, fun s hs => hv 1 (by decide) s hs, hread⟩
          oth := fun s0 s1 p0 p1 t' G' hx => absurd (read2_yes hx).1 (hno 2 (by decide) (by decide) s0 p0)
          top := fun j hj s hs hk => absurd hk.1 (hno _ (by omega) (by omega) s hs)
          log := fun j hj s hs q => absurd q (hno _ (by omega) (by omega) s hs)
          hsure := Nat.le_refl _
          hall := Nat.zero_le _
          short := fun d hd => by cases hd
          fix := fun j hj => absurd hj (Nat.not_lt_zero _)
          fix2 := fun j hj => absurd hj (Nat.not_lt_zero _)
          stop := fun _ s hs hn => absurd hn.1 (hno _ (by decide) (by decide) s hs)
          stops := fun hst => by cases hst
          seen := fun hst => by cases hst }
end Go.Proofs.YtbigpapniloknaaDoor

namespace Go.Proofs.YtbigpapniloknaaDoor
open Go.RowKit
set_option maxRecDepth 100000

/-- What lay does. -/
def layD (D : DSt) (fr n g : Nat) (t : List UInt8) : DSt × Nat := if (slotW D (fr : Int) (n : Int) g t).2 = 0 then syD (slotW D (fr : Int) (n : Int) g t).1 else slotW D (fr : Int) (n : Int) g t
/-- What Format does. -/
def formatD (D : DSt) (n : Nat) (t : List UInt8) : DSt × Nat := if (lookF D ((2 * n : Nat) : Int) D.lasts.length).1 = true then layD D 0 n 1 t else (D, 15)
/-- The greatest generation of both slots' records. -/
def genN (D : DSt) (n sl : Nat) : Nat := max (newF (openL2 D (((1 - sl) * n : Nat) : Int) (n : Int))) (newF (openL2 D ((sl * n : Nat) : Int) (n : Int)))
/-- What Settle does: the disk, the code, whether the vault is stuck behind it. -/
def SettleR (D : DSt) (n sl : Nat) (st : Bool) (t : List UInt8) (D' : DSt) (c : Nat) (st' : Bool) : Prop :=
  (106 < t.length ∧ c = (syD D).2 ∧ c ≠ 0 ∧ D' = (syD D).1 ∧ st' = st) ∨
  (∃ E, (E = D ∨ (106 < t.length ∧ (syD D).2 = 0 ∧ E = (syD D).1)) ∧ D' = (layD E ((1 - sl) * n) n (genN D n sl + 1) t).1 ∧ c = (layD E ((1 - sl) * n) n (genN D n sl + 1) t).2 ∧ st' = !decide (c = 0))

theorem syD_two (D : DSt) : ((syD D).2 = 7 ∧ (syD D).1.lasts = D.lasts ∧ (syD D).1.waits = D.waits) ∨ ((syD D).2 = 0 ∧ (syD D).1.lasts = (synced D).lasts ∧ (syD D).1.waits = []) := by
  unfold syD
  by_cases h : (fires D).2 = true
  · rw [if_pos h]; exact .inl ⟨rfl, fires_lasts D, fires_waits D⟩
  · rw [if_neg h]
    refine .inr ⟨rfl, ?_, rfl⟩
    show settle (fires D).1.lasts (fires D).1.waits = settle D.lasts D.waits
    rw [fires_lasts, fires_waits]
theorem syD_zero {D : DSt} (h : D.armed = 0) : (syD D).2 = 0 ∧ (syD D).1.armed = 0 := by
  unfold syD
  rw [fires_zero h, if_neg (show ¬ ((D, false) : DSt × Bool).2 = true from fun h => by cases h)]
  exact ⟨rfl, h⟩
theorem SmallN.sy {n : Nat} {D : DSt} (h : SmallN (n + 1) D) : SmallN n (syD D).1 := by
  unfold syD
  have h1 := fires_arm h.1
  have h2 := fires_waits D
  have h3 := fires_ops D
  split
  · exact ⟨h1, by rw [h2]; have := h.2.1; omega, by rw [h3]; have := h.2.2; omega⟩
  · refine ⟨h1, ?_, ?_⟩
    · show 0 + n ≤ _; have := h.2.1; omega
    · show (fires D).1.ops + 1 + n ≤ _; rw [h3]; have := h.2.2; omega
theorem SmallN.lay {n : Nat} {D : DSt} (h : SmallN (n + 5001) D) {fr r g : Nat} {t : List UInt8} (ht : t.length ≤ 400000) : SmallN n (layD D fr r g t).1 := by
  unfold layD
  split
  · exact SmallN.sy (slotW_small (n := n + 1) (by rw [show n + 1 + 5000 = n + 5001 by omega]; exact h) ht)
  · exact slotW_small (n := n) (h.mono (by omega)) ht
theorem SmallN.settle {n : Nat} {D : DSt} (h : SmallN (n + 5002) D) {r sl : Nat} {st : Bool} {t : List UInt8} (ht : t.length ≤ 400000) {D' : DSt} {c : Nat} {st' : Bool} (hr : SettleR D r sl st t D' c st') : SmallN n D' := by
  rcases hr with ⟨_, _, _, rfl, _⟩ | ⟨E, hE, rfl, _, _⟩
  · exact SmallN.sy (h.mono (by omega))
  · refine SmallN.lay ?_ ht
    rcases hE with rfl | ⟨_, _, rfl⟩
    · exact h.mono (by omega)
    · exact SmallN.sy (n := n + 5001) h
theorem SmallN.app {n : Nat} {D : DSt} (h : SmallN (n + 2) D) (fr room g nx : Nat) (d : List UInt8) : SmallN n (appL D fr room g nx d).1 := by
  unfold appL
  split
  · exact h.mono (by omega)
  · split
    · exact h.mono (by omega)
    · split
      · exact SmallN.sy (SmallN.wr (n := n + 1) h _ _)
      · exact (SmallN.wr (n := n + 1) h _ _).mono (by omega)
theorem SmallN.crash {n : Nat} {D : DSt} (h : SmallN n D) (ks : List Bool) : SmallN n (crashed D ks) := ⟨h.1, by show 0 + n ≤ _; have := h.2.1; omega, h.2.2⟩

theorem genN_two {D : DSt} (hlen : D.lasts.length = 10) {a : Nat} (ha : a < 2) : genN D 2 a = genV D := by
  have h0 := newS hlen (b := 0) (by decide)
  have h1 := newS hlen (b := 1) (by decide)
  unfold genN genV
  rcases (by omega : a = 0 ∨ a = 1) with rfl | rfl
  · rw [← h0, ← h1]; exact Nat.max_comm _ _
  · rw [← h0, ← h1]
theorem dry_genV {D D' : DSt} (hlen : D.lasts.length = 10) (h : Dry D D') : genV D' = genV D := by
  have hr : ∀ j, j < 10 → recAt D' j = recAt D j := fun j hj => h.recAt (by omega)
  show max (newV D' 0) (newV D' 1) = max (newV D 0) (newV D 1)
  unfold newV
  rw [hr _ (by omega), hr _ (by omega), hr _ (by omega), hr _ (by omega)]
theorem VI.tried {D : DSt} {a g : Nat} {st : Bool} {T0 : List UInt8} {all : List (List UInt8)} {sure : Nat} {more : List (List UInt8)} {i : Nat} (h : VI D a g st T0 all sure more i) (t : List UInt8) : VI D a g st T0 all sure (more ++ [t]) i :=
  { h with oth := fun s0 s1 p0 p1 t' G' hx => (h.oth s0 s1 p0 p1 t' G' hx).imp id (fun q => ⟨q.1, List.mem_append_left _ q.2⟩) }

/-- A settling's own writes. -/
theorem VI.laid {D : DSt} {a g : Nat} {st : Bool} {T0 : List UInt8} {all : List (List UInt8)} {sure : Nat} {more : List (List UInt8)} {i : Nat} (h : VI D a g st T0 all sure more i) (hi : i + 2 < 18446744073709551616) {t : List UInt8} (ht : t.length ≤ 216) :
    ((layD D ((1 - a) * 2) 2 (genV D + 1) t).2 = 0 ∧ VI (layD D ((1 - a) * 2) 2 (genV D + 1) t).1 (1 - a) (genV D + 1) false t [] 0 [] (i + 1)) ∨
    ((layD D ((1 - a) * 2) 2 (genV D + 1) t).2 ≠ 0 ∧ VI (layD D ((1 - a) * 2) 2 (genV D + 1) t).1 a g true T0 all sure (more ++ [t]) (i + 1)) := by
  have hlen := h.len
  have ha := h.ha
  rw [Nat.mul_comm (1 - a) 2]
  obtain ⟨m, m1, m2, m3, m4, _⟩ := slotW_state (D := D) (i := 2 * (1 - a)) (r := 2) (gen := genV D + 1) (t := t) (by decide) (by omega) (by omega)
  obtain ⟨F, hF⟩ : ∃ F, F = (slotW D ((2 * (1 - a) : Nat) : Int) ((2 : Nat) : Int) (genV D + 1) t).1 := ⟨_, rfl⟩
  obtain ⟨c, hc⟩ : ∃ c, c = (slotW D ((2 * (1 - a) : Nat) : Int) ((2 : Nat) : Int) (genV D + 1) t).2 := ⟨_, rfl⟩
  have hL : layD D (2 * (1 - a)) 2 (genV D + 1) t = if c = 0 then syD F else (F, c) := by
    unfold layD
    rw [← hc, ← hF]
    split
    · rfl
    · rw [hF, hc]
  rw [← hF] at m2 m3
  rw [← hc] at m4
  rw [hL]
  have hT := h.tries hi ht m1 m3 m2
  by_cases h0 : c = 0
  · rw [if_pos h0]
    have hm := m4 h0
    subst hm
    rcases syD_two F with ⟨e1, e2, e3⟩ | ⟨e1, e2, e3⟩
    · exact .inr ⟨by rw [e1]; decide, hT.same e2 e3⟩
    · exact .inl ⟨e1, h.settled hi ht m3 m2 (Dry.of_synced hT.ok e2 e3)⟩
  · rw [if_neg h0]
    exact .inr ⟨h0, hT⟩
theorem VI.dry {D D' : DSt} {a g : Nat} {st : Bool} {T0 : List UInt8} {all : List (List UInt8)} {sure : Nat} {more : List (List UInt8)} {i : Nat} (h : VI D a g st T0 all sure more i) (hd : Dry D D') : VI D' a g st T0 all sure more i := h.sync hd h.hsure h.sure_view

/-- A settling. -/
theorem VI.settle {D D' : DSt} {a g c : Nat} {st st' : Bool} {T0 : List UInt8} {all : List (List UInt8)} {sure : Nat} {more : List (List UInt8)} {i : Nat} (h : VI D a g st T0 all sure more i) (hi : i + 2 < 18446744073709551616) {t : List UInt8} (ht : t.length ≤ 216) (hr : SettleR D 2 a st t D' c st') :
    (c = 0 ∧ VI D' (1 - a) (genN D 2 a + 1) false t [] 0 [] (i + 1)) ∨ (c ≠ 0 ∧ VI D' a g st' T0 all sure (more ++ [t]) (i + 1)) := by
  have hlen := h.len
  rw [genN_two hlen h.ha]
  rcases hr with ⟨_, h1, h2, h3, h4⟩ | ⟨E, hE, h1, h2, h3⟩
  · refine .inr ⟨h2, ?_⟩
    rcases syD_two D with ⟨e1, e2, e3⟩ | ⟨e1, _, _⟩
    · rw [h4, h3]
      exact ((h.same e2 e3).tried t).mono (by omega)
    · exact absurd (h1.trans e1) h2
  · rw [genN_two hlen h.ha] at h1 h2
    have hx : VI E a g st T0 all sure more i ∧ genV E = genV D := by
      rcases hE with rfl | ⟨_, q, rfl⟩
      · exact ⟨h, rfl⟩
      · rcases syD_two D with ⟨e1, _, _⟩ | ⟨_, e2, e3⟩
        · rw [e1] at q; cases q
        · have hd := Dry.of_synced h.ok e2 e3
          exact ⟨h.dry hd, dry_genV hlen hd⟩
    have hy := hx.1.laid hi ht
    rw [hx.2, ← h1, ← h2] at hy
    rcases hy with ⟨q1, q2⟩ | ⟨q1, q2⟩
    · exact .inl ⟨q1, q2⟩
    · refine .inr ⟨q1, ?_⟩
      rw [h3, decide_eq_false q1]
      exact q2

/-- An append. -/
theorem vi_append {D : DSt} {a g : Nat} {T0 : List UInt8} {all : List (List UInt8)} {sure : Nat} {more : List (List UInt8)} {i : Nat} (h : VI D a g false T0 all sure more i) (hi : i + 2 < 18446744073709551616) {d : List UInt8} (hd : d.length ≤ 110) :
    ((appL D 4 6 g all.length d).2.1 = all.length ∧ (appL D 4 6 g all.length d).2.2 ≠ 0 ∧ VI (appL D 4 6 g all.length d).1 a g false T0 all sure more i) ∨
    ((appL D 4 6 g all.length d).2.1 = all.length + 1 ∧ (appL D 4 6 g all.length d).2.2 ≠ 0 ∧ VI (appL D 4 6 g all.length d).1 a g false T0 (all ++ [d]) sure more i) ∨
    ((appL D 4 6 g all.length d).2.1 = all.length + 1 ∧ (appL D 4 6 g all.length d).2.2 = 0 ∧ VI (appL D 4 6 g all.length d).1 a g false T0 (all ++ [d]) (all.length + 1) more i) := by
  have hlen := h.len
  have hal := h.hall
  have hg : g < 18446744073709551616 := by have := h.hgi; omega
  have hS : (secL 1 g all.length d).length = 128 := secL_len _ _ _ _ hd
  unfold appL
  by_cases h6 : all.length = 6
  · rw [if_pos h6]
    exact .inl ⟨rfl, (fun h => by cases h), h⟩
  rw [if_neg h6, if_neg (by omega)]
  have hh : hasB D ((4 + all.length : Nat) : Int) = true := hasB_nat (by omega)
  have hwr : wrD D ((4 + all.length : Nat) : Int) (secL 1 g all.length d) = if (fires D).2 = true then ((fires D).1, 7) else (wrote (fires D).1 (4 + all.length) (secL 1 g all.length d), 0) := by
    unfold wrD
    rw [hh, if_neg (by decide), if_neg (by omega), Int.toNat_natCast]
  rw [hwr]
  by_cases hf : (fires D).2 = true
  · rw [if_pos hf]
    refine .inl ?_
    rw [if_neg (show ¬ ((fires D).1, 7).2 = 0 from fun h => by cases h)]
    exact ⟨rfl, (fun h => by cases h), h.same (fires_lasts D) (fires_waits D)⟩
  · rw [if_neg hf]
    refine .inr ?_
    rw [if_pos rfl]
    obtain ⟨E, hE⟩ : ∃ E, E = wrote (fires D).1 (4 + all.length) (secL 1 g all.length d) := ⟨_, rfl⟩
    have e1 : E.lasts = D.lasts := by rw [hE]; exact fires_lasts D
    have e2 : E.waits = D.waits ++ [(4 + all.length, secL 1 g all.length d)] := by
      rw [hE]
      show (fires D).1.waits ++ [(4 + all.length, secL 1 g all.length d)] = _
      rw [fires_waits]
    have hE2 := h.wrote hg (by omega) hd e1 e2
    show (all.length + 1 = all.length + 1 ∧ _) ∨ (all.length + 1 = all.length + 1 ∧ _)
    rw [← hE]
    rcases syD_two E with ⟨q1, q2, q3⟩ | ⟨q1, q2, q3⟩
    · exact .inl ⟨rfl, by rw [show ((syD E).1, all.length + 1, (syD E).2).2.2 = (syD E).2 from rfl, q1]; decide, hE2.same q2 q3⟩
    · refine .inr ⟨rfl, q1, ?_⟩
      have hl : (all ++ [d]).length = all.length + 1 := by simp
      exact hE2.sync (Dry.of_synced hE2.ok q2 q3) (by omega) (fun j hj => hE2.seen rfl j (by omega))

theorem look_new (n : Nat) (fr : Int) : ∀ k, k ≤ n → lookF (newD n) fr k = (true, false, 0)
  | 0, _ => rfl
  | k + 1, hk => by
    have e : recAt (newD n) k = ((0, 0, 0, []), 16) := by rw [recAt_dry rfl (by simp [newD]; omega), newD_get (by omega), open_blank]
    show lookS fr (lookF (newD n) fr k) k (recAt (newD n) k) = _
    rw [e, look_new n fr k (by omega)]
    rfl
theorem format_new {n r : Nat} {t : List UInt8} : formatD (newD n) r t = layD (newD n) 0 r 1 t := by
  unfold formatD
  rw [look_new n _ _ (by simp [newD]), if_pos rfl]
/-- A text laid where nothing fails. -/
theorem lay_zero {D : DSt} {fr r g : Nat} {t : List UInt8} (h0 : D.armed = 0) (hok : DOk D) (h1 : 1 ≤ r) (h2 : fr + r ≤ D.lasts.length) (ht : t.length + 4 ≤ 110 * r) : ∃ F, F.lasts = D.lasts ∧ F.waits = D.waits ++ seqW (fun q => secP g (sumT t) (q - fr)) fr (partN (sumT t)) ∧ Dry F (layD D fr r g t).1 ∧ (layD D fr r g t).2 = 0 ∧ (layD D fr r g t).1.armed = 0 := by
  obtain ⟨m, m1, m2, m3, m4, m5⟩ := slotW_state (D := D) (i := fr) (r := r) (gen := g) (t := t) h1 h2 ht
  obtain ⟨c0, a0⟩ := m5 h0
  have hm := m4 c0
  subst hm
  have hp := parts_room ht
  have hF : DOk (slotW D (fr : Int) (r : Int) g t).1 := dok_more hok m3 m2 (fun x hx => by
    obtain ⟨q1, q2, q3⟩ := seqW_mem hx
    exact ⟨by omega, by rw [q3]; exact secP_len _ _ _⟩)
  have hl : layD D fr r g t = syD (slotW D (fr : Int) (r : Int) g t).1 := by unfold layD; rw [if_pos c0]
  obtain ⟨s0, s1⟩ := syD_zero a0
  refine ⟨_, m3, m2, ?_, by rw [hl]; exact s0, by rw [hl]; exact s1⟩
  rw [hl]
  rcases syD_two (slotW D (fr : Int) (r : Int) g t).1 with ⟨q1, _, _⟩ | ⟨_, q2, q3⟩
  · rw [s0] at q1; cases q1
  · exact Dry.of_synced hF q2 q3
theorem newD_ok {n : Nat} (h1 : 1 ≤ n) (h2 : n ≤ 4096) : DOk (newD n) := by
  refine ⟨by simpa [newD] using h1, by simpa [newD] using h2, fun x hx => ?_, fun x hx => by simp [newD] at hx⟩
  have := List.eq_of_mem_replicate hx
  rw [this]; exact List.length_replicate
theorem VI.begins {t : List UInt8} (ht : t.length ≤ 216) : (formatD (newD 10) 2 t).2 = 0 ∧ (formatD (newD 10) 2 t).1.armed = 0 ∧ (formatD (newD 10) 2 t).1.waits = [] ∧ VI (formatD (newD 10) 2 t).1 0 1 true t [] 0 [] 0 := by
  rw [format_new]
  obtain ⟨F, f1, f2, f3, f4, f5⟩ := lay_zero (D := newD 10) (fr := 0) (r := 2) (g := 1) (t := t) rfl (newD_ok (by decide) (by decide)) (by decide) (by simp [newD]) (by omega)
  exact ⟨f4, f5, f3.wts, VI.start ht rfl f1 f2 f3⟩
theorem crashed_dry {D : DSt} (h : D.waits = []) : crashed D [] = D := by
  unfold crashed
  rw [h]
  cases D
  cases h
  rfl
end Go.Proofs.YtbigpapniloknaaDoor
