/- What a log's records are behind appends, syncs that fail, and a crash: plain mathematics. -/
import Derived.Test.YtbigpapniloknaaDoorLogB
import Derived.Test.YtbigpapniloknaaDoorLogC
namespace Go.Proofs.YtbigpapniloknaaDoor
open Go.RowKit
set_option maxRecDepth 100000

theorem open_blank : openT (List.replicate 128 0) = ((0, 0, 0, []), 16) := by
  unfold openT
  rw [if_neg (by simp), if_pos (rep_zeroL 128)]

theorem recAt_dry {D : DSt} (hw : D.waits = []) {i : Nat} (hi : i < D.lasts.length) : recAt D i = openT (D.lasts.getD i []) := by
  unfold recAt
  rw [rdD_last hi (by rw [hw]; rfl)]

/-- What is replayed of sectors, each the log's own record or blank. -/
theorem log_take {D : DSt} {fr gen room : Nat} {all : List (List UInt8)} (kp : Nat → Bool) (hw : D.waits = []) (hfr : fr + room ≤ D.lasts.length) (hg : gen < 18446744073709551616) (hr : room ≤ 4096) (ha : all.length ≤ room) (hd : ∀ j, (all.getD j []).length ≤ 110)
    (h : ∀ j, j < room → D.lasts.getD (fr + j) [] = if j < all.length ∧ kp j = true then secL 1 gen j (all.getD j []) else List.replicate 128 0) :
    ∀ f i, i + f = room → i ≤ all.length → ∃ k, k ≤ all.length - i ∧ logL D fr gen f i = (all.drop i).take k ∧ ∀ m, i ≤ m → m ≤ all.length → (∀ j, i ≤ j → j < m → kp j = true) → m - i ≤ k
  | 0, i, hi, hia => ⟨0, Nat.zero_le _, by rw [List.take_zero]; rfl, fun m _ h2 _ => by omega⟩
  | f + 1, i, hi, hia => by
    have hrec : recAt D (fr + i) = openT (D.lasts.getD (fr + i) []) := recAt_dry hw (by omega)
    rw [h i (by omega)] at hrec
    unfold logL
    rw [hrec]
    by_cases hc : i < all.length ∧ kp i = true
    · rw [if_pos hc, open_sec (k := 1) (g := gen) (i := i) (d := all.getD i []) ⟨by show 1 < 256; omega, hg, by show i < 4294967296; omega, hd i⟩, if_pos ⟨rfl, rfl, rfl, rfl⟩]
      obtain ⟨k, h1, h2, h3⟩ := log_take kp hw hfr hg hr ha hd h f (i + 1) (by omega) (by omega)
      refine ⟨k + 1, by omega, ?_, fun m m1 m2 m3 => ?_⟩
      · rw [h2, List.drop_eq_getElem_cons hc.1, List.take_succ_cons, List.getD_eq_getElem?_getD, List.getElem?_eq_getElem hc.1]
        rfl
      · by_cases e : m = i
        · omega
        · have := h3 m (by omega) m2 (fun j j1 j2 => m3 j (by omega) j2)
          omega
    · rw [if_neg hc, open_blank, if_neg (fun hx => by cases hx.1)]
      refine ⟨0, Nat.zero_le _, by rw [List.take_zero], fun m m1 m2 m3 => ?_⟩
      by_cases e : m = i
      · omega
      · exact absurd ⟨by omega, m3 i (Nat.le_refl _) (by omega)⟩ hc

/-- The writes of the records from one place on. -/
def seqW (F : Nat → List UInt8) (m k : Nat) : List (Nat × List UInt8) := (List.range' m k).map fun j => (j, F j)
theorem seqW_len (F : Nat → List UInt8) (m k : Nat) : (seqW F m k).length = k := by unfold seqW; rw [List.length_map, List.length_range']
theorem seqW_cons (F : Nat → List UInt8) (m k : Nat) : seqW F m (k + 1) = (m, F m) :: seqW F (m + 1) k := by unfold seqW; rw [List.range'_succ, List.map_cons]
theorem seqW_snoc (F : Nat → List UInt8) (m k : Nat) : seqW F m (k + 1) = seqW F m k ++ [(m + k, F (m + k))] := by
  unfold seqW
  rw [List.range'_concat, List.map_append, Nat.one_mul]
  rfl
theorem seqW_congr {F G : Nat → List UInt8} {m k : Nat} (h : ∀ j, m ≤ j → j < m + k → F j = G j) : seqW F m k = seqW G m k := by
  unfold seqW
  refine List.map_congr_left fun j hj => ?_
  rw [List.mem_range'_1] at hj
  rw [h j hj.1 hj.2]
theorem getD_set {α : Type} (l : List α) (i j : Nat) (x d : α) (hi : i < l.length) : (l.set i x).getD j d = if i = j then x else l.getD j d := by
  rw [List.getD_eq_getElem?_getD, List.getElem?_set, List.getD_eq_getElem?_getD]
  by_cases e : i = j
  · subst e; rw [if_pos rfl, if_pos rfl, if_pos hi]; rfl
  · rw [if_neg e, if_neg e]
theorem settleK_seq (F : Nat → List UInt8) : ∀ (k m : Nat) (ks : List Bool) (ls : List (List UInt8)), m + k ≤ ls.length → ∀ i, (settleK ls ((seqW F m k).zip ks)).getD i [] = if m ≤ i ∧ i < m + k ∧ ks.getD (i - m) false = true then F i else ls.getD i []
  | 0, m, ks, ls, _, i => by
    rw [if_neg (by omega)]
    rfl
  | k + 1, m, [], ls, h, i => by
    rw [List.zip_nil_right, if_neg (fun hx => by have := hx.2.2; simp at this)]
    rfl
  | k + 1, m, b :: ks, ls, h, i => by
    rw [seqW_cons, List.zip_cons_cons]
    show (settleK (if b then ls.set m (F m) else ls) ((seqW F (m + 1) k).zip ks)).getD i [] = _
    have hL : m + 1 + k ≤ (if b = true then ls.set m (F m) else ls).length := by
      split
      · rw [List.length_set]; omega
      · omega
    rw [settleK_seq F k (m + 1) ks _ hL i]
    by_cases e : i = m
    · subst e
      rw [if_neg (by omega), Nat.sub_self, List.getD_cons_zero]
      cases b with
      | true => rw [if_pos rfl, getD_set _ _ _ _ _ (by omega), if_pos rfl, if_pos ⟨Nat.le_refl _, by omega, rfl⟩]
      | false => rw [if_neg (by decide), if_neg (fun hx => by cases hx.2.2)]
    · by_cases e2 : m ≤ i
      · have e3 : i - m = (i - (m + 1)) + 1 := by omega
        rw [e3, List.getD_cons_succ]
        have hs : (if b = true then ls.set m (F m) else ls).getD i [] = ls.getD i [] := by
          split
          · rw [getD_set _ _ _ _ _ (by omega), if_neg (fun x => e x.symm)]
          · rfl
        rw [hs]
        by_cases e4 : i < m + (k + 1) ∧ ks.getD (i - (m + 1)) false = true
        · rw [if_pos ⟨by omega, by omega, e4.2⟩, if_pos ⟨e2, e4⟩]
        · rw [if_neg (fun hx => e4 ⟨by omega, hx.2.2⟩), if_neg (fun hx => e4 hx.2)]
      · have e5 : ¬ (m + 1 ≤ i ∧ i < m + 1 + k ∧ ks.getD (i - (m + 1)) false = true) := fun hx => by omega
        have e6 : ¬ (m ≤ i ∧ i < m + (k + 1) ∧ (b :: ks).getD (i - m) false = true) := fun hx => e2 hx.1
        rw [if_neg e5, if_neg e6]
        split
        · rw [getD_set _ _ _ _ _ (by omega), if_neg (fun x => e x.symm)]
        · rfl
theorem settle_seq (F : Nat → List UInt8) (k m : Nat) (ls : List (List UInt8)) (h : m + k ≤ ls.length) (i : Nat) : (settle ls (seqW F m k)).getD i [] = if m ≤ i ∧ i < m + k then F i else ls.getD i [] := by
  have e : settle ls (seqW F m k) = settleK ls ((seqW F m k).zip (List.replicate k true)) := by
    have : ∀ (ws : List (Nat × List UInt8)) (l : List (List UInt8)), settle l ws = settleK l (ws.zip (List.replicate ws.length true)) := by
      intro ws
      induction ws with
      | nil => intro l; rfl
      | cons x r ih => intro l; exact ih _
    have h2 := this (seqW F m k) ls
    rwa [seqW_len] at h2
  rw [e, settleK_seq F k m _ ls h i]
  by_cases hc : m ≤ i ∧ i < m + k
  · rw [if_pos hc, if_pos ⟨hc.1, hc.2, by rw [List.getD_eq_getElem?_getD, List.getElem?_replicate, if_pos (by omega)]; rfl⟩]
  · rw [if_neg hc, if_neg (fun hx => hc ⟨hx.1, hx.2.1⟩)]

end Go.Proofs.YtbigpapniloknaaDoor
