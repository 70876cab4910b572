/- What is read of a slot's sectors: plain mathematics. -/
import Derived.Test.YtcnbpajlocoocaaDoorSlotI
import Derived.Test.YtcnbpajlocoocaaDoorSlotF
import Derived.Test.YtcnbpajlocoocaaDoorSlotC
import Derived.Test.YtcnbpajlocoocaaDoorLogD
namespace Go.Proofs.YtcnbpajlocoocaaDoor
open Go.RowKit
set_option maxRecDepth 100000

theorem part_len (g : Nat) (S : List UInt8) (j : Nat) : (partAt g S j).2.2.2.length ≤ 110 := by
  show ((S.drop (110 * j)).take 110).length ≤ 110
  rw [List.length_take]; omega
theorem part_ok {g : Nat} {S : List UInt8} {j : Nat} (hg : g < 18446744073709551616) (hj : j < 4294967296) : RecOk (partAt g S j) := by
  refine ⟨?_, hg, hj, part_len g S j⟩
  show (if j + 1 = partN S then 3 else 2) < 256
  split <;> omega
def secP (g : Nat) (S : List UInt8) (j : Nat) : List UInt8 := secL (partAt g S j).1 (partAt g S j).2.1 (partAt g S j).2.2.1 (partAt g S j).2.2.2
theorem secP_len (g : Nat) (S : List UInt8) (j : Nat) : (secP g S j).length = 128 := secL_len _ _ _ _ (part_len g S j)
theorem open_part {g : Nat} {S : List UInt8} {j : Nat} (hg : g < 18446744073709551616) (hj : j < 4294967296) : openT (secP g S j) = (partAt g S j, 0) := open_sec (part_ok hg hj)

theorem whole_part {g : Nat} {S : List UInt8} {j : Nat} (hj : j < partN S) : wholeB (partAt g S j) = true := by
  have hl : ((S.drop (110 * j)).take 110).length = min 110 (S.length - 110 * j) := by rw [List.length_take, List.length_drop]
  unfold partN at hj
  unfold wholeB partAt
  by_cases h : j + 1 = partN S
  · rw [if_pos h, if_neg (show ¬ (3 = 2) by decide), if_pos rfl]
    have hne : (S.drop (110 * j)).take 110 ≠ [] := fun e => by rw [e] at hl; simp at hl; omega
    cases hx : (S.drop (110 * j)).take 110 with
    | nil => exact absurd hx hne
    | cons a b => rfl
  · rw [if_neg h, if_pos rfl]
    exact decide_eq_true (by rw [hl]; unfold partN at h; omega)

theorem foundF_head {n g : Nat} : ∀ {l : List (Nat × RecT)}, (∀ x ∈ l, x.1 ≠ n) → foundF n g l = []
  | [], _ => by rw [foundF]
  | x :: l, h => foundF_no (by unfold okF; rw [decide_eq_false (h x (List.mem_cons_self ..))]; rfl)

/-- The records that stand from a place on. -/
def openR (D : DSt) (fr n f : Nat) : List (Nat × RecT) := (List.range' n f).filterMap (openF D fr)
theorem openR_place {D : DSt} {fr n f : Nat} {x : Nat × RecT} (h : x ∈ openR D fr n f) : n ≤ x.1 := by
  unfold openR at h
  obtain ⟨j, hj, he⟩ := List.mem_filterMap.1 h
  rw [List.mem_range'_1] at hj
  unfold openF at he
  split at he
  · injection he with he; rw [← he]; exact hj.1
  · cases he
theorem openR_yes {D : DSt} {fr n f : Nat} {x : RecT} (h : recAt D (fr + n) = (x, 0)) : openR D fr n (f + 1) = (n, x) :: openR D fr (n + 1) f := by
  unfold openR
  rw [List.range'_succ, List.filterMap_cons]
  unfold openF
  rw [h, if_pos rfl]
theorem openR_no {D : DSt} {fr n f : Nat} (h : (recAt D (fr + n)).2 ≠ 0) : openR D fr n (f + 1) = openR D fr (n + 1) f := by
  unfold openR
  rw [List.range'_succ, List.filterMap_cons]
  have e : openF D fr n = none := by unfold openF; rw [if_neg h]
  rw [e]
theorem openK_R (D : DSt) (fr r : Nat) : openK D fr r = openR D fr 0 r := by unfold openK openR; rw [List.range_eq_range']

/-- From a later place on. -/
theorem found_run {D : DSt} {fr g : Nat} {S : List UInt8} :
    ∀ (f n : Nat), 1 ≤ n → n < partN S → (∀ j, n ≤ j → j < partN S → j < n + f → recAt D (fr + j) = (partAt g S j, 0) ∨ (recAt D (fr + j)).2 ≠ 0 ∨ (recAt D (fr + j)).1.2.1 ≠ g) →
      ∃ m, n ≤ m ∧ m ≤ partN S ∧ foundF n g (openR D fr n f) = (List.range' n (m - n)).map (partAt g S) ∧ ((∀ j, n ≤ j → j < partN S → recAt D (fr + j) = (partAt g S j, 0)) → partN S ≤ n + f → m = partN S)
  | 0, n, h1, h2, hm => ⟨n, Nat.le_refl _, by omega, by rw [Nat.sub_self]; exact foundF_head (fun x hx => by cases hx), fun _ h => by omega⟩
  | f + 1, n, h1, h2, hm => by
    rcases hm n (Nat.le_refl _) h2 (by omega) with h | h | h
    · rw [openR_yes h]
      have hok : okF n g (n, partAt g S n) = true := by
        unfold okF
        rw [whole_part h2, decide_eq_true rfl, decide_eq_true (show (partAt g S n).2.2.1 = n from rfl), if_neg (show ¬ ((n, partAt g S n).1 = 0) by show ¬ (n = 0); omega), decide_eq_true (show (partAt g S n).2.1 = g from rfl)]
        rfl
      rw [foundF_yes hok]
      by_cases he : n + 1 = partN S
      · refine ⟨n + 1, Nat.le_succ _, by omega, ?_, fun _ _ => he⟩
        rw [if_pos (show (partAt g S n).1 = 3 from if_pos he), show n + 1 - n = 1 by omega]
        rfl
      · rw [if_neg (show ¬ ((partAt g S n).1 = 3) by show ¬ ((if n + 1 = partN S then 3 else 2) = 3); rw [if_neg he]; decide), if_neg (show ¬ ((n, partAt g S n).1 = 0) by show ¬ (n = 0); omega)]
        obtain ⟨m, m1, m2, m3, m4⟩ := found_run f (n + 1) (by omega) (by omega) (fun j a b c => hm j (by omega) b (by omega))
        refine ⟨m, by omega, m2, ?_, fun hall hr => m4 (fun j a b => hall j (by omega) b) (by omega)⟩
        rw [m3, show m - n = (m - (n + 1)) + 1 by omega, List.range'_succ, List.map_cons]
    · rw [openR_no h]
      exact ⟨n, Nat.le_refl _, by omega, by rw [Nat.sub_self]; exact foundF_head (fun x hx => by have := openR_place hx; omega), fun hall _ => absurd (by rw [hall n (Nat.le_refl _) h2]) h⟩
    · by_cases h0 : (recAt D (fr + n)).2 = 0
      · rw [openR_yes (x := (recAt D (fr + n)).1) (Prod.ext rfl h0)]
        refine ⟨n, Nat.le_refl _, by omega, ?_, fun hall _ => absurd (by rw [hall n (Nat.le_refl _) h2]; rfl) h⟩
        rw [Nat.sub_self]
        refine foundF_no ?_
        unfold okF
        rw [if_neg (show ¬ ((n, (recAt D (fr + n)).1).1 = 0) by show ¬ (n = 0); omega), decide_eq_false (show ¬ ((n, (recAt D (fr + n)).1).2.2.1 = g) from h)]
        simp
      · rw [openR_no h0]
        exact ⟨n, Nat.le_refl _, by omega, by rw [Nat.sub_self]; exact foundF_head (fun x hx => by have := openR_place hx; omega), fun hall _ => absurd (by rw [hall n (Nat.le_refl _) h2]) h0⟩

/-- From the first place on. -/
theorem found_all {D : DSt} {fr g r : Nat} {S : List UInt8} (hr : 1 ≤ r) (hS : 0 < partN S) (h0 : recAt D fr = (partAt g S 0, 0))
    (hm : ∀ j, 1 ≤ j → j < partN S → j < r → recAt D (fr + j) = (partAt g S j, 0) ∨ (recAt D (fr + j)).2 ≠ 0 ∨ (recAt D (fr + j)).1.2.1 ≠ g) :
    ∃ m, 1 ≤ m ∧ m ≤ partN S ∧ foundF 0 0 (openK D fr r) = partsK g S m ∧ ((∀ j, j < partN S → recAt D (fr + j) = (partAt g S j, 0)) → partN S ≤ r → m = partN S) := by
  obtain ⟨f, rfl⟩ : ∃ f, r = f + 1 := ⟨r - 1, by omega⟩
  rw [openK_R, openR_yes (x := partAt g S 0) h0]
  have hok : okF 0 0 (0, partAt g S 0) = true := by
    unfold okF
    rw [whole_part hS, if_pos rfl, decide_eq_true rfl, decide_eq_true (show (partAt g S 0).2.2.1 = 0 from rfl), decide_eq_true rfl]
    rfl
  rw [foundF_yes hok, if_pos rfl]
  by_cases he : 0 + 1 = partN S
  · refine ⟨1, Nat.le_refl _, by omega, ?_, fun _ _ => by omega⟩
    rw [if_pos (show (partAt g S 0).1 = 3 from if_pos he)]
    rfl
  · rw [if_neg (show ¬ ((partAt g S 0).1 = 3) by show ¬ ((if 0 + 1 = partN S then 3 else 2) = 3); rw [if_neg he]; decide)]
    obtain ⟨m, m1, m2, m3, m4⟩ := found_run (D := D) (fr := fr) (g := g) (S := S) f 1 (Nat.le_refl _) (by omega) (fun j a b c => hm j a b (by omega))
    refine ⟨m, m1, m2, ?_, fun hall hr => m4 (fun j a b => hall j b) (by omega)⟩
    show partAt g S 0 :: foundF 1 g (openR D fr 1 f) = _
    rw [m3]
    unfold partsK
    rw [List.range_eq_range', show m = (m - 1) + 1 by omega, List.range'_succ, List.map_cons, show (m - 1 + 1) - 1 = m - 1 by omega]
theorem found_none {D : DSt} {fr r : Nat} (h0 : (recAt D fr).2 ≠ 0) : foundF 0 0 (openK D fr r) = [] := by
  rw [openK_R]
  cases r with
  | zero => rfl
  | succ f => rw [openR_no (n := 0) (by rw [Nat.add_zero]; exact h0)]; exact foundF_head (fun x hx => by have := openR_place hx; omega)

theorem data_parts (g : Nat) (S : List UInt8) : ∀ k, dataL (partsK g S k) = S.take (110 * k)
  | 0 => by simp [partsK, dataL]
  | k + 1 => by
    rw [partsK_succ, dataL_snoc, data_parts g S k, show 110 * (k + 1) = 110 * k + 110 by omega, List.take_add]
    rfl
theorem read_part {g m : Nat} {t : List UInt8} (h1 : 1 ≤ m) (h2 : m < partN (sumT t)) : readF (partsK g (sumT t) m) = ([], 0, false) := by
  obtain ⟨k, rfl⟩ : ∃ k, m = k + 1 := ⟨m - 1, by omega⟩
  unfold readF
  rw [if_neg (fun hx => by
    have h := hx.1
    rw [partsK_succ, endR_snoc] at h
    have h' : (if k + 1 = partN (sumT t) then 3 else 2) = 3 := h
    rw [if_neg (by omega)] at h'
    cases h')]
theorem read_whole (g : Nat) (t : List UInt8) : readF (partsK g (sumT t) (partN (sumT t))) = (t, g, true) := by
  have hl := sumT_len t
  obtain ⟨k, hk⟩ : ∃ k, partN (sumT t) = k + 1 := ⟨partN (sumT t) - 1, by unfold partN; omega⟩
  have hd : dataL (partsK g (sumT t) (partN (sumT t))) = sumT t := by rw [data_parts, List.take_of_length_le (by unfold partN; omega)]
  have he : endR (partsK g (sumT t) (partN (sumT t))) = partAt g (sumT t) k := by rw [hk, partsK_succ, endR_snoc]
  have e1 : (sumT t).take ((sumT t).length - 4) = t := by rw [hl, Nat.add_sub_cancel]; unfold sumT; exact List.take_left
  have e2 : (sumT t).drop ((sumT t).length - 4) = leL (crcSum t) := by rw [hl, Nat.add_sub_cancel]; unfold sumT; exact List.drop_left
  unfold readF
  rw [hd, he, e1, e2, if_pos ⟨by show (if k + 1 = partN (sumT t) then 3 else 2) = 3; rw [if_pos hk.symm], by omega, rfl⟩]
  rfl
theorem read_nil : readF [] = ([], 0, false) := by unfold readF; rw [if_neg (fun hx => by cases hx.1)]
theorem partN_pos (t : List UInt8) : 0 < partN (sumT t) := by have := sumT_len t; unfold partN; omega

theorem liesB_yes {n i r : Nat} (h1 : 1 ≤ r) (h2 : i + r ≤ n) : liesB n (i : Int) (r : Int) = true := liesB_iff.2 ⟨i, r, rfl, rfl, by omega, by omega⟩
theorem foundL_K {D : DSt} {i r : Nat} (h1 : 1 ≤ r) (h2 : i + r ≤ D.lasts.length) : foundL D (i : Int) (r : Int) = foundF 0 0 (openK D i r) := by
  unfold foundL openL2
  rw [if_pos (liesB_yes h1 h2), Int.toNat_natCast, Int.toNat_natCast]

/-- Writes of parts. -/
theorem wr_parts {D : DSt} {fr g : Nat} {S : List UInt8} (hfr : fr + partN S ≤ D.lasts.length) : ∀ k, k ≤ partN S →
    ∃ m, m ≤ k ∧ (wrParts D fr (partsK g S k)).1.waits = D.waits ++ seqW (fun i => secP g S (i - fr)) fr m ∧ (wrParts D fr (partsK g S k)).1.lasts = D.lasts ∧ ((wrParts D fr (partsK g S k)).2 = 0 → m = k) ∧
      (D.armed = 0 → (wrParts D fr (partsK g S k)).2 = 0 ∧ (wrParts D fr (partsK g S k)).1.armed = 0)
  | 0, _ => ⟨0, Nat.le_refl _, by show D.waits = _; unfold seqW; simp, rfl, fun _ => rfl, fun h => ⟨rfl, h⟩⟩
  | k + 1, hk => by
    obtain ⟨m, m1, m2, m3, m4, m5⟩ := wr_parts hfr k (by omega)
    rw [partsK_succ, wrParts_append, wrParts_one]
    obtain ⟨D', hD'⟩ : ∃ D', D' = (wrParts D fr (partsK g S k)).1 := ⟨_, rfl⟩
    rw [← hD'] at m2 m3 m5 ⊢
    by_cases hc : (wrParts D fr (partsK g S k)).2 = 0
    · rw [if_pos hc]
      obtain rfl := m4 hc
      have hw : wrD D' ((fr + m : Nat) : Int) (secP g S m) = if (fires D').2 = true then ((fires D').1, 7) else (wrote (fires D').1 (fr + m) (secP g S m), 0) := by
        unfold wrD
        rw [hasB_nat (by rw [m3]; omega), if_neg (by decide), if_neg (fun h => h (secP_len g S m)), Int.toNat_natCast]
      have hw' : wrD D' ((fr + (partAt g S m).2.2.1 : Nat) : Int) (secL (partAt g S m).1 (partAt g S m).2.1 (partAt g S m).2.2.1 (partAt g S m).2.2.2) = _ := hw
      rw [hw']
      by_cases hf : (fires D').2 = true
      · rw [if_pos hf]
        refine ⟨m, Nat.le_succ _, by rw [fires_waits]; exact m2, by rw [fires_lasts]; exact m3, fun h => absurd h (by show ¬ (7 = 0); decide), fun ha => ?_⟩
        rw [fires_zero (m5 ha).2] at hf
        cases hf
      · rw [if_neg hf]
        refine ⟨m + 1, Nat.le_refl _, ?_, ?_, fun _ => rfl, fun ha => ⟨rfl, ?_⟩⟩
        · show (fires D').1.waits ++ [(fr + m, secP g S m)] = _
          rw [fires_waits, m2, seqW_snoc, List.append_assoc, Nat.add_sub_cancel_left]
        · show (fires D').1.lasts = _
          rw [fires_lasts]; exact m3
        · show (fires D').1.armed = 0
          rw [fires_zero (m5 ha).2]; exact (m5 ha).2
    · rw [if_neg hc, ← hD']
      exact ⟨m, by omega, m2, m3, fun h => absurd h hc, fun ha => absurd (m5 ha).1 hc⟩

theorem newF_ge {L : List (Nat × RecT)} {x : Nat × RecT} (hx : x ∈ L) (hk : x.2.1 = 2 ∨ x.2.1 = 3) : x.2.2.1 ≤ newF L := by
  have hmono : ∀ (l : List (Nat × RecT)) (a : Nat), a ≤ l.foldl newStep a := by
    intro l
    induction l with
    | nil => intro a; exact Nat.le_refl _
    | cons y l ih => intro a; refine Nat.le_trans ?_ (ih _); unfold newStep; split <;> omega
  have hge : ∀ (l : List (Nat × RecT)) (a : Nat), x ∈ l → x.2.2.1 ≤ l.foldl newStep a := by
    intro l
    induction l with
    | nil => intro a h; cases h
    | cons y l ih =>
      intro a h
      rcases List.mem_cons.1 h with rfl | h
      · refine Nat.le_trans ?_ (hmono l _)
        unfold newStep
        rw [if_pos hk]
        omega
      · exact ih _ h
  exact hge L 0 hx
end Go.Proofs.YtcnbpajlocoocaaDoor
