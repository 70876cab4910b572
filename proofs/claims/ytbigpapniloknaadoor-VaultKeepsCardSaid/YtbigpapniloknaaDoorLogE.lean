/- What a log and its disk are behind appends, as the law has them. -/
import Derived.Test.YtbigpapniloknaaDoorLogD
namespace Go.Proofs.YtbigpapniloknaaDoor
open Go.RowKit
set_option maxRecDepth 100000

def recF (all : List (List UInt8)) (j : Nat) : List UInt8 := secL 1 5 j (all.getD j [])
theorem getD_snoc_lt {α : Type} (l : List α) (x d : α) {j : Nat} (h : j < l.length) : (l ++ [x]).getD j d = l.getD j d := by
  rw [List.getD_eq_getElem?_getD, List.getElem?_append_left h, List.getD_eq_getElem?_getD]
theorem getD_snoc_eq {α : Type} (l : List α) (x d : α) : (l ++ [x]).getD l.length d = x := by
  rw [List.getD_eq_getElem?_getD, List.getElem?_append_right (Nat.le_refl _), Nat.sub_self]; rfl
theorem getD_snoc_ge {α : Type} (l : List α) (x d : α) {j : Nat} (h : l.length < j) : (l ++ [x]).getD j d = d := by
  rw [List.getD_eq_getElem?_getD, List.getElem?_eq_none (by simp; omega)]; rfl

/-- The law's disk, m records of which are synced, behind i appends. -/
def LgSt (D : DSt) (m : Nat) (all : List (List UInt8)) (i : Nat) : Prop :=
  D.lasts.length = 21 ∧ m ≤ all.length ∧ all.length ≤ i ∧ (∀ j, (all.getD j []).length ≤ 110) ∧ (∀ j, j < 21 → D.lasts.getD j [] = if j < m then recF all j else List.replicate 128 0) ∧
    D.waits = seqW (recF all) m (all.length - m) ∧ ArmOk D ∧ D.ops ≤ 2 * i

theorem lg_new (k : Int) (h1 : -9223372036854775808 ≤ k) (h2 : k ≤ 9223372036854775807) : LgSt { newD 21 with armed := k } 0 [] 0 := by
  refine ⟨by simp [newD], Nat.le_refl _, Nat.le_refl _, fun j => by simp, fun j hj => ?_, rfl, ⟨h1, h2⟩, Nat.le_refl _⟩
  rw [if_neg (by omega)]
  show (List.replicate 21 (List.replicate 128 0)).getD j [] = _
  rw [List.getD_eq_getElem?_getD, List.getElem?_replicate, if_pos hj]
  rfl

theorem LgSt.small {D : DSt} {m i : Nat} {all : List (List UInt8)} (h : LgSt D m all i) (hi : i ≤ 20) : Small1 D := by
  obtain ⟨h1, h2, h3, h4, h5, h6, h7, h8⟩ := h
  exact ⟨h7, by rw [h6, seqW_len]; omega, by omega⟩
theorem recF_snoc {all : List (List UInt8)} (d : List UInt8) {j : Nat} (h : j < all.length) : recF (all ++ [d]) j = recF all j := by
  unfold recF; rw [getD_snoc_lt _ _ _ h]
theorem recF_new (all : List (List UInt8)) (d : List UInt8) : recF (all ++ [d]) all.length = secL 1 5 all.length d := by
  unfold recF; rw [getD_snoc_eq]
theorem snoc_short {all : List (List UInt8)} {d : List UInt8} (h : ∀ j, (all.getD j []).length ≤ 110) (hd : d.length ≤ 110) (j : Nat) : ((all ++ [d]).getD j []).length ≤ 110 := by
  rcases Nat.lt_trichotomy j all.length with hj | hj | hj
  · rw [getD_snoc_lt _ _ _ hj]; exact h j
  · rw [hj, getD_snoc_eq]; exact hd
  · rw [getD_snoc_ge _ _ _ hj]; exact Nat.zero_le _

theorem lg_step {D : DSt} {m i : Nat} {all : List (List UInt8)} (h : LgSt D m all i) (hi : i < 20) {d : List UInt8} (hd : d.length ≤ 110) :
    ((appL D 0 21 5 all.length d).2.1 = all.length ∧ (appL D 0 21 5 all.length d).2.2 ≠ 0 ∧ LgSt (appL D 0 21 5 all.length d).1 m all (i + 1)) ∨
    ((appL D 0 21 5 all.length d).2.1 = all.length + 1 ∧ (appL D 0 21 5 all.length d).2.2 ≠ 0 ∧ LgSt (appL D 0 21 5 all.length d).1 m (all ++ [d]) (i + 1)) ∨
    ((appL D 0 21 5 all.length d).2.1 = all.length + 1 ∧ (appL D 0 21 5 all.length d).2.2 = 0 ∧ LgSt (appL D 0 21 5 all.length d).1 (all.length + 1) (all ++ [d]) (i + 1)) := by
  obtain ⟨h1, h2, h3, h4, h5, h6, h7, h8⟩ := h
  have hS : (secL 1 5 all.length d).length = 128 := secL_len _ _ _ _ hd
  unfold appL
  rw [if_neg (by omega), if_neg (by omega), Nat.zero_add]
  have hh : hasB D ((all.length : Nat) : Int) = true := hasB_nat (by omega)
  have hwr : wrD D ((all.length : Nat) : Int) (secL 1 5 all.length d) = if (fires D).2 = true then ((fires D).1, 7) else (wrote (fires D).1 all.length (secL 1 5 all.length d), 0) := by
    unfold wrD
    rw [hh, if_neg (by decide), if_neg (by omega), Int.toNat_natCast]
  rw [hwr]
  have f1 := fires_lasts D
  have f2 := fires_waits D
  have f3 := fires_ops D
  have f4 := fires_arm h7
  by_cases hf : (fires D).2 = true
  · rw [if_pos hf]
    refine .inl ?_
    rw [if_neg (show ¬ ((fires D).1, 7).2 = 0 from fun h => by cases h)]
    exact ⟨rfl, (fun h => by cases h), by rw [f1]; exact h1, h2, by omega, h4, by rw [f1]; exact h5, by rw [f2]; exact h6, f4, by rw [f3]; omega⟩
  · rw [if_neg hf]
    refine .inr ?_
    rw [if_pos rfl]
    obtain ⟨E, hE⟩ : ∃ E, E = wrote (fires D).1 all.length (secL 1 5 all.length d) := ⟨_, rfl⟩
    have e1 : E.lasts = D.lasts := by rw [hE]; exact f1
    have e2 : E.waits = seqW (recF (all ++ [d])) m ((all ++ [d]).length - m) := by
      rw [hE]
      show (fires D).1.waits ++ [(all.length, secL 1 5 all.length d)] = _
      have e : (all ++ [d]).length - m = (all.length - m) + 1 := by simp; omega
      rw [f2, h6, e, seqW_snoc, show m + (all.length - m) = all.length from by omega, recF_new, seqW_congr (fun j _ hj => recF_snoc d (by omega))]
    have e3 : E.ops = D.ops + 1 := by rw [hE]; show (fires D).1.ops + 1 = _; rw [f3]
    have e4 : ArmOk E := by rw [hE]; exact f4
    rw [← hE]
    have g1 := fires_lasts E
    have g2 := fires_waits E
    have g3 := fires_ops E
    have g4 := fires_arm e4
    have hl : (all ++ [d]).length = all.length + 1 := by simp
    have hlow : ∀ j, j < 21 → D.lasts.getD j [] = if j < m then recF (all ++ [d]) j else List.replicate 128 0 := fun j hj => by
      rw [h5 j hj]
      split
      · rw [recF_snoc d (by omega)]
      · rfl
    unfold syD
    by_cases hg : (fires E).2 = true
    · rw [if_pos hg]
      exact .inl ⟨rfl, (fun h => by cases h), by rw [g1, e1]; exact h1, by omega, by omega, snoc_short h4 hd, by rw [g1, e1]; exact hlow, by rw [g2]; exact e2, g4, by rw [g3]; omega⟩
    · rw [if_neg hg]
      refine .inr ⟨rfl, rfl, ?_, by omega, by omega, snoc_short h4 hd, ?_, ?_, g4, ?_⟩
      · show (settle (fires E).1.lasts (fires E).1.waits).length = 21
        rw [settle_len, g1, e1]; exact h1
      · intro j hj
        show (settle (fires E).1.lasts (fires E).1.waits).getD j [] = _
        rw [g1, g2, e1, e2, settle_seq _ _ _ _ (by omega), hlow j hj]
        by_cases q : j < all.length + 1
        · rw [if_pos q]
          by_cases q2 : m ≤ j
          · rw [if_pos ⟨q2, by omega⟩]
          · rw [if_neg (fun hx => q2 hx.1), if_pos (by omega)]
        · rw [if_neg q, if_neg (by omega), if_neg (by omega)]
      · show [] = _
        rw [hl, Nat.sub_self]; rfl
      · show (fires E).1.ops + 1 ≤ _
        rw [g3]; omega

/-- What is replayed behind a crash. -/
theorem lg_crash {D : DSt} {m i : Nat} {all : List (List UInt8)} (h : LgSt D m all i) (hi : i ≤ 20) (ks : List Bool) :
    ∃ k, k ≤ all.length ∧ m ≤ k ∧ logL (crashed D ks) 0 5 21 0 = all.take k := by
  obtain ⟨h1, h2, h3, h4, h5, h6, h7, h8⟩ := h
  have hlen : (crashed D ks).lasts.length = 21 := by show (settleK D.lasts (D.waits.zip ks)).length = 21; rw [settleK_len]; exact h1
  obtain ⟨k, k1, k2, k3⟩ := log_take (D := crashed D ks) (fr := 0) (gen := 5) (room := 21) (all := all) (fun j => decide (j < m) || ks.getD (j - m) false) rfl (by omega) (by omega) (by omega) (by omega) h4 (fun j hj => by
    show (settleK D.lasts (D.waits.zip ks)).getD (0 + j) [] = _
    rw [Nat.zero_add, h6, settleK_seq _ _ _ _ _ (by omega), h5 j hj]
    by_cases q : j < m
    · rw [if_neg (by omega), if_pos q, if_pos ⟨by omega, by simp [q]⟩]; rfl
    · by_cases q2 : j < all.length
      · cases hk : ks.getD (j - m) false with
        | true => rw [if_pos ⟨by omega, by omega, rfl⟩, if_pos ⟨q2, by simp⟩]; rfl
        | false => rw [if_neg (fun hx => by cases hx.2.2), if_neg q, if_neg (fun hx => by have := hx.2; simp [q] at this)]
      · rw [if_neg (by omega), if_neg q, if_neg (fun hx => q2 hx.1)]) 21 0 rfl (Nat.zero_le _)
  refine ⟨k, by omega, ?_, by rw [k2, List.drop_zero]⟩
  have := k3 m (Nat.zero_le _) h2 (fun j _ hj => by simp [hj])
  omega

end Go.Proofs.YtbigpapniloknaaDoor
