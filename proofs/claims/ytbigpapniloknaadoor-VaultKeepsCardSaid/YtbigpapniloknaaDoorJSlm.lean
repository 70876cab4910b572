/- What is read of a slot's sectors: plain mathematics. What lies on a disk behind slot's Write; the document's example of layer 15. -/
import Derived.Test.YtbigpapniloknaaDoorSlotI
import Derived.Test.YtbigpapniloknaaDoorSlotF
import Derived.Test.YtbigpapniloknaaDoorSlotC
import Derived.Test.YtbigpapniloknaaDoorLogD
import Derived.Test.YtbigpapniloknaaDoorJOpd
namespace Go.Proofs.YtbigpapniloknaaDoor
open Go.RowKit
set_option maxRecDepth 100000

theorem part_len (g : Nat) (S : List UInt8) (j : Nat) : (partAt g S j).2.2.2.length ≤ 110 := by
  show ((S.drop (110 * j)).take 110).length ≤ 110
  rw [List.length_take]; omega
theorem part_ok {g : Nat} {S : List UInt8} {j : Nat} (hg : g < 18446744073709551616) (hj : j < 4294967296) : RecOk (partAt g S j) := by
  refine ⟨?_, hg, hj, part_len g S j⟩
  show (if j + 1 = partN S then 3 else 2) < 256
  split <;> omega
def secP (g : Nat) (S : List UInt8) (j : Nat) : List UInt8 := secL (partAt g S j).1 (partAt g S j).2.1 (partAt g S j).2.2.1 (partAt g S j).2.2.2
theorem secP_len (g : Nat) (S : List UInt8) (j : Nat) : (secP g S j).length = 128 := secL_len _ _ _ _ (part_len g S j)
theorem open_part {g : Nat} {S : List UInt8} {j : Nat} (hg : g < 18446744073709551616) (hj : j < 4294967296) : openT (secP g S j) = (partAt g S j, 0) := open_sec (part_ok hg hj)

theorem whole_part {g : Nat} {S : List UInt8} {j : Nat} (hj : j < partN S) : wholeB (partAt g S j) = true := by
  have hl : ((S.drop (110 * j)).take 110).length = min 110 (S.length - 110 * j) := by rw [List.length_take, List.length_drop]
  unfold partN at hj
  unfold wholeB partAt
  by_cases h : j + 1 = partN S
  · rw [if_pos h, if_neg (show ¬ (3 = 2) by decide), if_pos rfl]
    have hne : (S.drop (110 * j)).take 110 ≠ [] := fun e => by rw [e] at hl; simp at hl; omega
    cases hx : (S.drop (110 * j)).take 110 with
    | nil => exact absurd hx hne
    | cons a b => rfl
  · rw [if_neg h, if_pos rfl]
    exact decide_eq_true (by rw [hl]; unfold partN at h; omega)

theorem foundF_head {n g : Nat} : ∀ {l : List (Nat × RecT)}, (∀ x ∈ l, x.1 ≠ n) → foundF n g l = []
  | [], _ => by rw [foundF]
  | x :: l, h => foundF_no (by unfold okF; rw [decide_eq_false (h x (List.mem_cons_self ..))]; rfl)

/-- The records that stand from a place on. -/
def openR (D : DSt) (fr n f : Nat) : List (Nat × RecT) := (List.range' n f).filterMap (openF D fr)
theorem openR_place {D : DSt} {fr n f : Nat} {x : Nat × RecT} (h : x ∈ openR D fr n f) : n ≤ x.1 := by
  unfold openR at h
  obtain ⟨j, hj, he⟩ := List.mem_filterMap.1 h
  rw [List.mem_range'_1] at hj
  unfold openF at he
  split at he
  · injection he with he; rw [← he]; exact hj.1
  · cases he
theorem openR_yes {D : DSt} {fr n f : Nat} {x : RecT} (h : recAt D (fr + n) = (x, 0)) : openR D fr n (f + 1) = (n, x) :: openR D fr (n + 1) f := by
  unfold openR
  rw [List.range'_succ, List.filterMap_cons]
  unfold openF
  rw [h, if_pos rfl]
theorem openR_no {D : DSt} {fr n f : Nat} (h : (recAt D (fr + n)).2 ≠ 0) : openR D fr n (f + 1) = openR D fr (n + 1) f := by
  unfold openR
  rw [List.range'_succ, List.filterMap_cons]
  have e : openF D fr n = none := by unfold openF; rw [if_neg h]
  rw [e]
theorem openK_R (D : DSt) (fr r : Nat) : openK D fr r = openR D fr 0 r := by unfold openK openR; rw [List.range_eq_range']

/-- From a later place on. -/
theorem found_run {D : DSt} {fr g : Nat} {S : List UInt8} :
    ∀ (f n : Nat), 1 ≤ n → n < partN S → (∀ j, n ≤ j → j < partN S → j < n + f → recAt D (fr + j) = (partAt g S j, 0) ∨ (recAt D (fr + j)).2 ≠ 0 ∨ (recAt D (fr + j)).1.2.1 ≠ g) →
      ∃ m, n ≤ m ∧ m ≤ partN S ∧ foundF n g (openR D fr n f) = (List.range' n (m - n)).map (partAt g S) ∧ ((∀ j, n ≤ j → j < partN S → recAt D (fr + j) = (partAt g S j, 0)) → partN S ≤ n + f → m = partN S)
  | 0, n, h1, h2, hm => ⟨n, Nat.le_refl _, by omega, by rw [Nat.sub_self]; exact foundF_head (fun x hx => by cases hx), fun _ h => by omega⟩
  | f + 1, n, h1, h2, hm => by
    rcases hm n (Nat.le_refl _) h2 (by omega) with h | h | h
    · rw [openR_yes h]
      have hok : okF n g (n, partAt g S n) = true := by
        unfold okF
        rw [whole_part h2, decide_eq_true rfl, decide_eq_true (show (partAt g S n).2.2.1 = n from rfl), if_neg (show ¬ ((n, partAt g S n).1 = 0) by show ¬ (n = 0); omega), decide_eq_true (show (partAt g S n).2.1 = g from rfl)]
        rfl
      rw [foundF_yes hok]
      by_cases he : n + 1 = partN S
      · refine ⟨n + 1, Nat.le_succ _, by omega, ?_, fun _ _ => he⟩
        rw [if_pos (show (partAt g S n).1 = 3 from if_pos he), show n + 1 - n = 1 by omega]
        rfl
      · rw [if_neg (show ¬ ((partAt g S n).1 = 3) by show ¬ ((if n + 1 = partN S then 3 else 2) = 3); rw [if_neg he]; decide), if_neg (show ¬ ((n, partAt g S n).1 = 0) by show ¬ (n = 0); omega)]
        obtain ⟨m, m1, m2, m3, m4⟩ := found_run f (n + 1) (by omega) (by omega) (fun j a b c => hm j (by omega) b (by omega))
        refine ⟨m, by omega, m2, ?_, fun hall hr => m4 (fun j a b => hall j (by omega) b) (by omega)⟩
        rw [m3, show m - n = (m - (n + 1)) + 1 by omega, List.range'_succ, List.map_cons]
    · rw [openR_no h]
      exact ⟨n, Nat.le_refl _, by omega, by rw [Nat.sub_self]; exact foundF_head (fun x hx => by have := openR_place hx; omega), fun hall _ => absurd (by rw [hall n (Nat.le_refl _) h2]) h⟩
    · by_cases h0 : (recAt D (fr + n)).2 = 0
      · rw [openR_yes (x := (recAt D (fr + n)).1) (Prod.ext rfl h0)]
        refine ⟨n, Nat.le_refl _, by omega, ?_, fun hall _ => absurd (by rw [hall n (Nat.le_refl _) h2]; rfl) h⟩
        rw [Nat.sub_self]
        refine foundF_no ?_
        unfold okF
        rw [if_neg (show ¬ ((n, (recAt D (fr + n)).1).1 = 0) by show ¬ (n = 0); omega), decide_eq_false (show ¬ ((n, (recAt D (fr + n)).1).2.2.1 = g) from h)]
        simp
      · rw [openR_no h0]
        exact ⟨n, Nat.le_refl _, by omega, by rw [Nat.sub_self]; exact foundF_head (fun x hx => by have := openR_place hx; omega), fun hall _ => absurd (by rw [hall n (Nat.le_refl _) h2]) h0⟩

/-- From the first place on. -/
theorem found_all {D : DSt} {fr g r : Nat} {S : List UInt8} (hr : 1 ≤ r) (hS : 0 < partN S) (h0 : recAt D fr = (partAt g S 0, 0))
    (hm : ∀ j, 1 ≤ j → j < partN S → j < r → recAt D (fr + j) = (partAt g S j, 0) ∨ (recAt D (fr + j)).2 ≠ 0 ∨ (recAt D (fr + j)).1.2.1 ≠ g) :
    ∃ m, 1 ≤ m ∧ m ≤ partN S ∧ foundF 0 0 (openK D fr r) = partsK g S m ∧ ((∀ j, j < partN S → recAt D (fr + j) = (partAt g S j, 0)) → partN S ≤ r → m = partN S) := by
  obtain ⟨f, rfl⟩ : ∃ f, r = f + 1 := ⟨r - 1, by omega⟩
  rw [openK_R, openR_yes (x := partAt g S 0) h0]
  have hok : okF 0 0 (0, partAt g S 0) = true := by
    unfold okF
    rw [whole_part hS, if_pos rfl, decide_eq_true rfl, decide_eq_true (show (partAt g S 0).2.2.1 = 0 from rfl), decide_eq_true rfl]
    rfl
  rw [foundF_yes hok, if_pos rfl]
  by_cases he : 0 + 1 = partN S
  · refine ⟨1, Nat.le_refl _, by omega, ?_, fun _ _ => by omega⟩
    rw [if_pos (show (partAt g S 0).1 = 3 from if_pos he)]
    rfl
  · rw [if_neg (show ¬ ((partAt g S 0).1 = 3) by show ¬ ((if 0 + 1 = partN S then 3 else 2) = 3); rw [if_neg he]; decide)]
    obtain ⟨m, m1, m2, m3, m4⟩ := found_run (D := D) (fr := fr) (g := g) (S := S) f 1 (Nat.le_refl _) (by omega) (fun j a b c => hm j a b (by omega))
    refine ⟨m, m1, m2, ?_, fun hall hr => m4 (fun j a b => hall j b) (by omega)⟩
    show partAt g S 0 :: foundF 1 g (openR D fr 1 f) = _
    rw [m3]
    unfold partsK
    rw [List.range_eq_range', show m = (m - 1) + 1 by omega, List.range'_succ, List.map_cons, show (m - 1 + 1) - 1 = m - 1 by omega]
theorem found_none {D : DSt} {fr r : Nat} (h0 : (recAt D fr).2 ≠ 0) : foundF 0 0 (openK D fr r) = [] := by
  rw [openK_R]
  cases r with
  | zero => rfl
  | succ f => rw [openR_no (n := 0) (by rw [Nat.add_zero]; exact h0)]; exact foundF_head (fun x hx => by have := openR_place hx; omega)

theorem data_parts (g : Nat) (S : List UInt8) : ∀ k, dataL (partsK g S k) = S.take (110 * k)
  | 0 => by simp [partsK, dataL]
  | k + 1 => by
    rw [partsK_succ, dataL_snoc, data_parts g S k, show 110 * (k + 1) = 110 * k + 110 by omega, List.take_add]
    rfl
theorem read_part {g m : Nat} {t : List UInt8} (h1 : 1 ≤ m) (h2 : m < partN (sumT t)) : readF (partsK g (sumT t) m) = ([], 0, false) := by
  obtain ⟨k, rfl⟩ : ∃ k, m = k + 1 := ⟨m - 1, by omega⟩
  unfold readF
  rw [if_neg (fun hx => by
    have h := hx.1
    rw [partsK_succ, endR_snoc] at h
    have h' : (if k + 1 = partN (sumT t) then 3 else 2) = 3 := h
    rw [if_neg (by omega)] at h'
    cases h')]
theorem read_whole (g : Nat) (t : List UInt8) : readF (partsK g (sumT t) (partN (sumT t))) = (t, g, true) := by
  have hl := sumT_len t
  obtain ⟨k, hk⟩ : ∃ k, partN (sumT t) = k + 1 := ⟨partN (sumT t) - 1, by unfold partN; omega⟩
  have hd : dataL (partsK g (sumT t) (partN (sumT t))) = sumT t := by rw [data_parts, List.take_of_length_le (by unfold partN; omega)]
  have he : endR (partsK g (sumT t) (partN (sumT t))) = partAt g (sumT t) k := by rw [hk, partsK_succ, endR_snoc]
  have e1 : (sumT t).take ((sumT t).length - 4) = t := by rw [hl, Nat.add_sub_cancel]; unfold sumT; exact List.take_left
  have e2 : (sumT t).drop ((sumT t).length - 4) = leL (crcSum t) := by rw [hl, Nat.add_sub_cancel]; unfold sumT; exact List.drop_left
  unfold readF
  rw [hd, he, e1, e2, if_pos ⟨by show (if k + 1 = partN (sumT t) then 3 else 2) = 3; rw [if_pos hk.symm], by omega, rfl⟩]
  rfl
theorem read_nil : readF [] = ([], 0, false) := by unfold readF; rw [if_neg (fun hx => by cases hx.1)]
theorem partN_pos (t : List UInt8) : 0 < partN (sumT t) := by have := sumT_len t; unfold partN; omega

theorem liesB_yes {n i r : Nat} (h1 : 1 ≤ r) (h2 : i + r ≤ n) : liesB n (i : Int) (r : Int) = true := liesB_iff.2 ⟨i, r, rfl, rfl, by omega, by omega⟩
theorem foundL_K {D : DSt} {i r : Nat} (h1 : 1 ≤ r) (h2 : i + r ≤ D.lasts.length) : foundL D (i : Int) (r : Int) = foundF 0 0 (openK D i r) := by
  unfold foundL openL2
  rw [if_pos (liesB_yes h1 h2), Int.toNat_natCast, Int.toNat_natCast]

/-- Writes of parts. -/
theorem wr_parts {D : DSt} {fr g : Nat} {S : List UInt8} (hfr : fr + partN S ≤ D.lasts.length) : ∀ k, k ≤ partN S →
    ∃ m, m ≤ k ∧ (wrParts D fr (partsK g S k)).1.waits = D.waits ++ seqW (fun i => secP g S (i - fr)) fr m ∧ (wrParts D fr (partsK g S k)).1.lasts = D.lasts ∧ ((wrParts D fr (partsK g S k)).2 = 0 → m = k) ∧
      (D.armed = 0 → (wrParts D fr (partsK g S k)).2 = 0 ∧ (wrParts D fr (partsK g S k)).1.armed = 0)
  | 0, _ => ⟨0, Nat.le_refl _, by show D.waits = _; unfold seqW; simp, rfl, fun _ => rfl, fun h => ⟨rfl, h⟩⟩
  | k + 1, hk => by
    obtain ⟨m, m1, m2, m3, m4, m5⟩ := wr_parts hfr k (by omega)
    rw [partsK_succ, wrParts_append, wrParts_one]
    obtain ⟨D', hD'⟩ : ∃ D', D' = (wrParts D fr (partsK g S k)).1 := ⟨_, rfl⟩
    rw [← hD'] at m2 m3 m5 ⊢
    by_cases hc : (wrParts D fr (partsK g S k)).2 = 0
    · rw [if_pos hc]
      obtain rfl := m4 hc
      have hw : wrD D' ((fr + m : Nat) : Int) (secP g S m) = if (fires D').2 = true then ((fires D').1, 7) else (wrote (fires D').1 (fr + m) (secP g S m), 0) := by
        unfold wrD
        rw [hasB_nat (by rw [m3]; omega), if_neg (by decide), if_neg (fun h => h (secP_len g S m)), Int.toNat_natCast]
      have hw' : wrD D' ((fr + (partAt g S m).2.2.1 : Nat) : Int) (secL (partAt g S m).1 (partAt g S m).2.1 (partAt g S m).2.2.1 (partAt g S m).2.2.2) = _ := hw
      rw [hw']
      by_cases hf : (fires D').2 = true
      · rw [if_pos hf]
        refine ⟨m, Nat.le_succ _, by rw [fires_waits]; exact m2, by rw [fires_lasts]; exact m3, fun h => absurd h (by show ¬ (7 = 0); decide), fun ha => ?_⟩
        rw [fires_zero (m5 ha).2] at hf
        cases hf
      · rw [if_neg hf]
        refine ⟨m + 1, Nat.le_refl _, ?_, ?_, fun _ => rfl, fun ha => ⟨rfl, ?_⟩⟩
        · show (fires D').1.waits ++ [(fr + m, secP g S m)] = _
          rw [fires_waits, m2, seqW_snoc, List.append_assoc, Nat.add_sub_cancel_left]
        · show (fires D').1.lasts = _
          rw [fires_lasts]; exact m3
        · show (fires D').1.armed = 0
          rw [fires_zero (m5 ha).2]; exact (m5 ha).2
    · rw [if_neg hc, ← hD']
      exact ⟨m, by omega, m2, m3, fun h => absurd h hc, fun ha => absurd (m5 ha).1 hc⟩

theorem newF_ge {L : List (Nat × RecT)} {x : Nat × RecT} (hx : x ∈ L) (hk : x.2.1 = 2 ∨ x.2.1 = 3) : x.2.2.1 ≤ newF L := by
  have hmono : ∀ (l : List (Nat × RecT)) (a : Nat), a ≤ l.foldl newStep a := by
    intro l
    induction l with
    | nil => intro a; exact Nat.le_refl _
    | cons y l ih => intro a; refine Nat.le_trans ?_ (ih _); unfold newStep; split <;> omega
  have hge : ∀ (l : List (Nat × RecT)) (a : Nat), x ∈ l → x.2.2.1 ≤ l.foldl newStep a := by
    intro l
    induction l with
    | nil => intro a h; cases h
    | cons y l ih =>
      intro a h
      rcases List.mem_cons.1 h with rfl | h
      · refine Nat.le_trans ?_ (hmono l _)
        unfold newStep
        rw [if_pos hk]
        omega
      · exact ih _ h
  exact hge L 0 hx
end Go.Proofs.YtbigpapniloknaaDoor

namespace Go.Proofs.YtbigpapniloknaaDoor
open Go.RowKit Go.Maps
set_option maxRecDepth 100000

theorem slotW_fit {D : DSt} {i r gen : Nat} {t : List UInt8} (h1 : 1 ≤ r) (h2 : i + r ≤ D.lasts.length) (ht : t.length + 4 ≤ 110 * r) : slotW D (i : Int) (r : Int) gen t = wrParts D i (partsL gen t) := by
  unfold slotW
  rw [liesB_yes h1 h2, if_neg (by decide), if_neg (by omega), Int.toNat_natCast]
theorem slotW_long {D : DSt} {i r gen : Nat} {t : List UInt8} (h1 : 1 ≤ r) (h2 : i + r ≤ D.lasts.length) (ht : 110 * r < t.length + 4) : slotW D (i : Int) (r : Int) gen t = (D, 11) := by
  unfold slotW
  rw [liesB_yes h1 h2, if_neg (by decide), if_pos (by omega)]
theorem slotW_small {n : Nat} {D : DSt} {i r : Int} {gen : Nat} {t : List UInt8} (h : SmallN (n + 5000) D) (ht : t.length ≤ 400000) : SmallN n (slotW D i r gen t).1 := by
  have hl := sumT_len t
  unfold slotW
  split
  · exact h.mono (by omega)
  · split
    · exact h.mono (by omega)
    · refine SmallN.parts _ (h.mono ?_)
      rw [partsL_len]
      unfold partN
      omega
theorem slotW_state {D : DSt} {i r gen : Nat} {t : List UInt8} (h1 : 1 ≤ r) (h2 : i + r ≤ D.lasts.length) (ht : t.length + 4 ≤ 110 * r) :
    ∃ m, m ≤ partN (sumT t) ∧ (slotW D (i : Int) (r : Int) gen t).1.waits = D.waits ++ seqW (fun q => secP gen (sumT t) (q - i)) i m ∧ (slotW D (i : Int) (r : Int) gen t).1.lasts = D.lasts ∧ ((slotW D (i : Int) (r : Int) gen t).2 = 0 → m = partN (sumT t)) ∧
      (D.armed = 0 → (slotW D (i : Int) (r : Int) gen t).2 = 0 ∧ (slotW D (i : Int) (r : Int) gen t).1.armed = 0) := by
  rw [slotW_fit h1 h2 ht]
  have hl := sumT_len t
  exact wr_parts (by have := partN_le (sumT t) (r := r) (by omega); omega) (partN (sumT t)) (Nat.le_refl _)
theorem parts_room {t : List UInt8} {r : Nat} (ht : t.length + 4 ≤ 110 * r) : partN (sumT t) ≤ r := partN_le _ (by rw [sumT_len]; exact ht)
theorem smallN_new (n : Nat) : SmallN 500000 (newD n) := ⟨⟨by simp [newD], by simp [newD]⟩, by simp [newD], by simp [newD]⟩

/-- The example's disk. -/
def exS : DSt := (slotW (newD 3) 1 1 7 [97, 98]).1
theorem exS_is : (slotW (newD 3) 1 1 7 [97, 98]).2 = 0 ∧ exS.waits = [(1, secP 7 (sumT [97, 98]) 0)] ∧ exS.lasts = (newD 3).lasts ∧ partN (sumT [97, 98]) = 1 := by
  have hp : partN (sumT [97, 98]) = 1 := by unfold partN; rw [sumT_len]; rfl
  obtain ⟨m, m1, m2, m3, m4, m5⟩ := slotW_state (D := newD 3) (i := 1) (r := 1) (gen := 7) (t := [97, 98]) (Nat.le_refl _) (by simp [newD]) (by simp)
  have h5 := m5 rfl
  have hm := m4 h5.1
  rw [hp] at hm
  subst hm
  exact ⟨h5.1, m2, m3, hp⟩
theorem exS_read : rdD exS 1 = (secP 7 (sumT [97, 98]) 0, 0) := by
  obtain ⟨_, h2, h3, _⟩ := exS_is
  have h := rdD_wait (D := exS) (i := 1) (j := 0) (by rw [h3]; decide) (by rw [h2]; rfl)
  rw [h2] at h
  exact h
theorem exS_open : openT (secP 7 (sumT [97, 98]) 0) = ((3, 7, 0, sumT [97, 98]), 0) := by
  rw [open_part (by omega) (by omega)]
  unfold partAt
  rw [if_pos (by rw [exS_is.2.2.2]), Nat.mul_zero, List.drop_zero, List.take_of_length_le (by rw [sumT_len]; decide)]
theorem exS_found : readF (foundL exS 1 2) = ([97, 98], 7, true) := by
  obtain ⟨_, h2, h3, hp⟩ := exS_is
  have h0 : recAt exS 1 = (partAt 7 (sumT [97, 98]) 0, 0) := by
    unfold recAt
    rw [show (((1 : Nat) : Int)) = 1 from rfl, exS_read]
    exact open_part (by omega) (by omega)
  obtain ⟨m, m1, m2, m3, _⟩ := found_all (r := 2) (by omega) (by rw [hp]; omega) h0 (fun j a b c => by omega)
  have hm : m = partN (sumT [97, 98]) := by omega
  have e : foundL exS 1 2 = foundF 0 0 (openK exS 1 2) := foundL_K (i := 1) (r := 2) (by omega) (by rw [h3]; simp [newD])
  rw [e, m3, hm, read_whole]

set_option maxHeartbeats 8000000 in
theorem slot_Awake (w : World) : Calls Tryd.prog 18 #[] w fun e w' => e = .returned (.bool true) ∧ Below w.heap.size w w' := by
  have HN := Lib.hid (disk_New 3 w (by omega) (by omega))
  have HA1 := Lib.hid disk_Awake
  have HA2 := Lib.hid seal_Awake
  go_enter Tryd.func18, Tryd.ntmps18
  go_wp2_with fail
  refine HN.out.mono ?_
  rintro e w1 ⟨p, gl, M, v, rfl, h1, hb1⟩
  have D1 := Lib.hid h1
  have B1 := Lib.hid hb1
  have HW : Hid (Calls Tryd.prog 38 #[.pointer (some ⟨p, 0, none⟩), .int .i64 1, .int .i64 1, .int .u64 7, .string ⟨#[97, 98]⟩] w1 fun e w' => e = .returned (.int .i64 0) ∧ ∃ v', IsDisk w.heap.size w' p gl M v' exS ∧ Below w.heap.size w1 w' ∧ Keeps w1 w') := Lib.hid (by
    have h := slot_Write _ w1 p gl M v (newD 3) 1 1 7 [97, 98] h1 ((smallN_new 3).mono (by omega)) hb1.size (by omega) (by omega) (by simp)
    rw [exS_is.1] at h
    exact h)
  clear h1 hb1 HN
  go_wp2_with fail
  refine HW.out.mono ?_
  rintro e w2 ⟨rfl, v2, h2, hb2, _⟩
  have D2 := Lib.hid h2
  have B2 := Lib.hid (B1.out.trans hb2)
  have HR := Lib.hid (disk_Read _ w2 p gl M v2 exS 1 h2)
  rw [exS_read] at HR
  obtain ⟨s, hs⟩ : ∃ s, s = secP 7 (sumT [97, 98]) 0 := ⟨_, rfl⟩
  have HOP : Hid (∀ W, Calls Tryd.prog 39 #[.string (bs s)] W fun e w' => e = .returned (.tuple #[recV (3, 7, 0, sumT [97, 98]), .int .i64 0]) ∧ Below W.heap.size W w') := Lib.hid (fun W => by
    have h := seal_Open s W (by rw [hs, secP_len]; omega)
    rw [hs, exS_open] at h
    rw [hs]
    exact h)
  rw [← hs] at HR
  unfold recV at HOP
  obtain ⟨T, hT⟩ : ∃ T, T = bs (sumT [97, 98]) := ⟨_, rfl⟩
  have hTs : T.size = 6 := by rw [hT, bs_size, sumT_len]; rfl
  rw [← hT] at HOP
  clear h2 hb2 HW hs hT
  go_wp2_with fail
  refine HR.out.mono ?_
  rintro e w3 ⟨rfl, rfl⟩
  clear HR
  go_wp2_with fail
  refine (HOP.out _).mono ?_
  rintro e w4 ⟨rfl, hb4⟩
  have D4 := Lib.hid (D2.out.keep hb4)
  have B4 := Lib.hid (B2.out.trans (hb4.mono B2.out.size))
  obtain ⟨W4, hW4⟩ : ∃ W4, W4 = w4.alloc (.cells #[.int .u8 3, .int .u64 7, .int .u32 0, .string T] 89) := ⟨_, rfl⟩
  have R4 : Hid (Blk W4 w4.heap.size 89 [.int .u8 3, .int .u64 7, .int .u32 0, .string T]) := Lib.hid (by rw [hW4]; exact Blk.box4 _ _ _ _ _ _)
  have D5 : Hid (IsDisk w.heap.size W4 p gl M v2 exS) := Lib.hid (by rw [hW4]; exact D4.out.keep ((Below.refl _ _).alloc (Nat.le_refl _) _))
  have B5 : Hid (Below w.heap.size w W4) := Lib.hid (by rw [hW4]; exact B4.out.alloc B4.out.size _)
  have HRD : Hid (Calls Tryd.prog 40 #[.pointer (some ⟨p, 0, none⟩), .int .i64 1, .int .i64 2] W4 fun e w' => e = .returned (.tuple #[.string ⟨#[97, 98]⟩, .int .u64 7, .bool true]) ∧ Below W4.heap.size W4 w') := Lib.hid (by
    have h := slot_Read _ W4 p gl M v2 exS 1 2 (by omega) D5.out
    rw [exS_found] at h
    exact h)
  rw [hW4] at HRD
  clear hb4 D2 B2 D4 HOP
  go_wp2_with fail
  refine HRD.out.mono ?_
  rintro e w5 ⟨rfl, hb5⟩
  rw [← hW4] at hb5
  have R5 := Lib.hid (R4.out.keep hb5)
  have B6 := Lib.hid (B5.out.trans (hb5.mono B5.out.size))
  clear hb5 HRD R4 D5 B5 hW4 B4
  go_wp2_with fail
  refine (HA1.out _).mono ?_
  rintro e w6 ⟨rfl, hb6⟩
  have R6 := Lib.hid (R5.out.keep hb6)
  have B7 := Lib.hid (B6.out.trans (hb6.mono B6.out.size))
  clear hb6 R5 B6
  go_wp2_with fail
  refine (HA2.out _).mono ?_
  rintro e w7 ⟨rfl, hb7⟩
  have R7 := Lib.hid (R6.out.keep hb7)
  have B8 := Lib.hid (B7.out.trans (hb7.mono B7.out.size))
  obtain ⟨c0, c1, c2, c3⟩ := R7.out.four
  clear hb7 R6 B7
  go_wp2_with fail
  go_ret
  exact ⟨rfl, B8.out⟩
end Go.Proofs.YtbigpapniloknaaDoor
