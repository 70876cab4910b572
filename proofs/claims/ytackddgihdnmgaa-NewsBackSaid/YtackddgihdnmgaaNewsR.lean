/- What is closed is opened as it was, and what is opened is closed as it was: of lists of bytes. -/
import Derived.Test.YtackddgihdnmgaaNewsQ
namespace Go.Proofs.Ytackddgihdnmgaa
open Go.RowKit
set_option maxRecDepth 100000

theorem drop_take_mid (p q r : List UInt8) (a k : Nat) (ha : p.length = a) (hk : q.length = k) : ((p ++ (q ++ r)).drop a).take k = q := by
  rw [← ha, List.drop_left, ← hk, List.take_left]
theorem rdL_len (a b c : Nat) : (rdL a b c).length = 14 := by
  unfold rdL
  rw [List.length_append, List.length_append, List.length_append, beL_len, beL_len, beL_len]; rfl
theorem ordT_rdL (a b c : Nat) (ha : a < 18446744073709551616) (hb : b < 4294967296) (hc : c < 256) : ordT (rdL a b c) = ((a, b, c), 0) := by
  have e8 : (256 : Nat) ^ 8 = 18446744073709551616 := by decide
  have e4 : (256 : Nat) ^ 4 = 4294967296 := by decide
  have e1 : (256 : Nat) ^ 1 = 256 := by decide
  have h1 : ((rdL a b c).drop 1).take 8 = beL a 8 := by
    have e : rdL a b c = [82] ++ (beL a 8 ++ (beL b 4 ++ beL c 1)) := by unfold rdL; simp
    rw [e]; exact drop_take_mid _ _ _ 1 8 rfl (beL_len _ _)
  have h2 : ((rdL a b c).drop 9).take 4 = beL b 4 := by
    have e : rdL a b c = ([82] ++ beL a 8) ++ (beL b 4 ++ beL c 1) := by unfold rdL; simp
    rw [e]; exact drop_take_mid _ _ _ 9 4 (by rw [List.length_append, beL_len]; rfl) (beL_len _ _)
  have h3 : ((rdL a b c).drop 13).take 1 = beL c 1 := by
    have e : rdL a b c = (([82] ++ beL a 8) ++ beL b 4) ++ (beL c 1 ++ []) := by unfold rdL; simp
    rw [e]; exact drop_take_mid _ _ _ 13 1 (by rw [List.length_append, List.length_append, beL_len, beL_len]; rfl) (beL_len _ _)
  unfold ordT
  have hl := rdL_len a b c
  have hne : rdL a b c ≠ [] := by intro h; rw [h] at hl; simp at hl
  have hh : (rdL a b c).head? = some 82 := by unfold rdL; rfl
  rw [if_neg hne, if_neg (by rw [hh]; simp), if_neg (by omega), if_neg (by omega), h1, h2, h3, beV_beL, beV_beL, beV_beL, e8, e4, e1, Nat.mod_eq_of_lt ha, Nat.mod_eq_of_lt hb, Nat.mod_eq_of_lt hc]
theorem beL_piece (l : List UInt8) (a k : Nat) (h : a + k ≤ l.length) : beL (beV ((l.drop a).take k)) k = (l.drop a).take k := by
  have h2 := beL_beV ((l.drop a).take k)
  rw [List.length_take, List.length_drop, Nat.min_eq_left (by omega)] at h2
  exact h2
/-- What OpenRound makes of bytes has these bytes. -/
theorem ordT_back (l : List UInt8) (x : Nat × Nat × Nat) (h : ordT l = (x, 0)) : rdL x.1 x.2.1 x.2.2 = l ∧ x.1 < 18446744073709551616 ∧ x.2.1 < 4294967296 ∧ x.2.2 < 256 := by
  unfold ordT at h
  split at h
  · cases h
  · split at h
    · cases h
    · rename_i hh
      split at h
      · cases h
      · split at h
        · cases h
        · have hl : l.length = 14 := by omega
          injection h with h _
          subst h
          dsimp only
          have e8 : (256 : Nat) ^ 8 = 18446744073709551616 := by decide
          have e4 : (256 : Nat) ^ 4 = 4294967296 := by decide
          have e1 : (256 : Nat) ^ 1 = 256 := by decide
          refine ⟨?_, ?_, ?_, ?_⟩
          · unfold rdL
            rw [beL_piece l 1 8 (by omega), beL_piece l 9 4 (by omega), beL_piece l 13 1 (by omega)]
            have hh2 : l.take 1 = [82] := by
              cases l with
              | nil => simp at hl
              | cons y l => simp at hh; simp [hh]
            rw [← hh2, List.append_assoc, List.append_assoc]
            have c1 : (l.drop 13).take 1 = l.drop 13 := List.take_of_length_le (by rw [List.length_drop]; omega)
            have c2 : (l.drop 9).take 4 ++ l.drop 13 = l.drop 9 := by
              have := List.take_append_drop 4 (l.drop 9)
              rw [List.drop_drop] at this
              exact this
            have c3 : (l.drop 1).take 8 ++ l.drop 9 = l.drop 1 := by
              have := List.take_append_drop 8 (l.drop 1)
              rw [List.drop_drop] at this
              exact this
            rw [c1, c2, c3, List.take_append_drop]
          · have := beV_lt ((l.drop 1).take 8)
            rw [List.length_take, List.length_drop, Nat.min_eq_left (by omega), e8] at this
            exact this
          · have := beV_lt ((l.drop 9).take 4)
            rw [List.length_take, List.length_drop, Nat.min_eq_left (by omega), e4] at this
            exact this
          · have := beV_lt ((l.drop 13).take 1)
            rw [List.length_take, List.length_drop, Nat.min_eq_left (by omega), e1] at this
            exact this

theorem rwL_append (a b : List RowT) : rwL (a ++ b) = rwL a ++ rwL b := by unfold rwL; rw [List.flatMap_append]
theorem rpL_head (ep : Nat) (rs : List RowT) : ∃ l, rpL ep rs = 72 :: l := ⟨_, rfl⟩
theorem rowsOf_rpL (ep : Nat) (rs : List RowT) (hb : ∀ j, j < rs.length → (rs.getD j (0, 0)).1 < 4294967296 ∧ (rs.getD j (0, 0)).2 < 4294967296) : rowsOf (rpL ep rs) rs.length = rs := by
  have e4 : (256 : Nat) ^ 4 = 4294967296 := by decide
  apply List.ext_getElem (by rw [rowsOf_len])
  intro i h1 h2
  obtain ⟨hx, hy⟩ := hb i h2
  rw [List.getD_eq_getElem?_getD, List.getElem?_eq_getElem h2] at hx hy
  dsimp only [Option.getD_some] at hx hy
  have hsp : rs = rs.take i ++ (rs[i] :: rs.drop (i + 1)) := by rw [← List.drop_eq_getElem_cons h2, List.take_append_drop]
  have hw : rwL rs = rwL (rs.take i) ++ (beL rs[i].1 4 ++ (beL rs[i].2 4 ++ rwL (rs.drop (i + 1)))) := by
    conv => lhs; rw [hsp]
    rw [rwL_append]
    show rwL (rs.take i) ++ ((beL rs[i].1 4 ++ beL rs[i].2 4) ++ rwL (rs.drop (i + 1))) = _
    rw [List.append_assoc (beL rs[i].1 4)]
  obtain ⟨P, hP⟩ : ∃ P, P = (([72] ++ beL ep 4) ++ beL rs.length 2) ++ rwL (rs.take i) := ⟨_, rfl⟩
  have hPl : P.length = 7 + 8 * i := by
    rw [hP, List.length_append, List.length_append, List.length_append, beL_len, beL_len, rwL_len, List.length_take, Nat.min_eq_left (by omega)]; rfl
  have hL : rpL ep rs = P ++ (beL rs[i].1 4 ++ (beL rs[i].2 4 ++ rwL (rs.drop (i + 1)))) := by
    rw [rpL, hw, hP, List.append_assoc]
    simp [List.append_assoc]
  have hL2 : rpL ep rs = (P ++ beL rs[i].1 4) ++ (beL rs[i].2 4 ++ rwL (rs.drop (i + 1))) := by rw [hL, List.append_assoc]
  have hi : i < rs.length := h2
  have hgi : (rowsOf (rpL ep rs) rs.length)[i] = rowAt (rpL ep rs) i := by simp [rowsOf]
  rw [hgi]
  unfold rowAt
  have g1 : ((rpL ep rs).drop (7 + 8 * i)).take 4 = beL rs[i].1 4 := by rw [hL]; exact drop_take_mid _ _ _ _ 4 hPl (beL_len _ _)
  have g2 : ((rpL ep rs).drop (11 + 8 * i)).take 4 = beL rs[i].2 4 := by rw [hL2]; exact drop_take_mid _ _ _ _ 4 (by rw [List.length_append, hPl, beL_len]; omega) (beL_len _ _)
  rw [g1, g2, beV_beL, beV_beL, e4, Nat.mod_eq_of_lt hx, Nat.mod_eq_of_lt hy]
theorem orpT_rpL (ep : Nat) (rs : List RowT) (hep : ep < 4294967296) (hm : MayP rs) (hb : ∀ j, j < rs.length → (rs.getD j (0, 0)).1 < 4294967296 ∧ (rs.getD j (0, 0)).2 < 4294967296) : orpT (rpL ep rs) = ((ep, rs), 0) := by
  have e4 : (256 : Nat) ^ 4 = 4294967296 := by decide
  have e2 : (256 : Nat) ^ 2 = 65536 := by decide
  obtain ⟨l, hl⟩ := rpL_head ep rs
  have h1 : ((rpL ep rs).drop 1).take 4 = beL ep 4 := by
    have e : rpL ep rs = [72] ++ (beL ep 4 ++ (beL rs.length 2 ++ rwL rs)) := by unfold rpL; simp
    rw [e]; exact drop_take_mid _ _ _ 1 4 rfl (beL_len _ _)
  have h5 : ((rpL ep rs).drop 5).take 2 = beL rs.length 2 := by
    have e : rpL ep rs = ([72] ++ beL ep 4) ++ (beL rs.length 2 ++ rwL rs) := by unfold rpL; simp
    rw [e]; exact drop_take_mid _ _ _ 5 2 (by rw [List.length_append, beL_len]; rfl) (beL_len _ _)
  have h := orpT_ok l (rpL ep rs) rs.length hl (rpL_len ep rs) (by rw [h5, beV_beL, e2, Nat.mod_eq_of_lt (by have := hm.2.1; omega)])
  rw [h, rowsOf_rpL ep rs hb, if_pos hm, h1, beV_beL, e4, Nat.mod_eq_of_lt hep]

theorem rwL_rowsOf (L : List UInt8) (m : Nat) (h : 7 + 8 * m ≤ L.length) : rwL (rowsOf L m) = (L.drop 7).take (8 * m) := by
  induction m with
  | zero => rfl
  | succ m ih =>
    rw [rowsOf_succ, rwL_append, ih (by omega)]
    have e : rwL [rowAt L m] = (beL (rowAt L m).1 4 ++ beL (rowAt L m).2 4) ++ [] := rfl
    rw [e, List.append_nil]
    unfold rowAt
    dsimp only
    rw [beL_piece L (7 + 8 * m) 4 (by omega), beL_piece L (11 + 8 * m) 4 (by omega)]
    have c : ((L.drop (7 + 8 * m)).take 4 ++ (L.drop (11 + 8 * m)).take 4) = (L.drop (7 + 8 * m)).take 8 := by
      rw [show (8 : Nat) = 4 + 4 from rfl, List.take_add, List.drop_drop, show 7 + (4 + 4) * m + 4 = 11 + (4 + 4) * m from by omega]
    rw [c, show 8 * (m + 1) = 8 * m + 8 from by omega, List.take_add, List.drop_drop]
/-- What OpenReport makes of bytes may be, and has these bytes. -/
theorem orpT_back (L : List UInt8) (x : Nat × List RowT) (h : orpT L = (x, 0)) : MayP x.2 ∧ rpL x.1 x.2 = L ∧ x.1 < 4294967296 := by
  cases L with
  | nil => rw [orpT_none] at h; cases h
  | cons y l =>
    by_cases hy : y = 72
    · subst hy
      obtain ⟨L, hL⟩ : ∃ L, L = 72 :: l := ⟨_, rfl⟩
      rw [← hL] at h ⊢
      by_cases h7 : L.length < 7
      · rw [orpT_short l L hL h7] at h; cases h
      · obtain ⟨m, hm⟩ : ∃ m, m = beV ((L.drop 5).take 2) := ⟨_, rfl⟩
        by_cases hs : L.length < 7 + 8 * m
        · rw [orpT_cut l L m hL (by omega) hm hs] at h; cases h
        · by_cases hg : 7 + 8 * m < L.length
          · rw [orpT_long l L m hL (by omega) hm hg] at h; cases h
          · have he : L.length = 7 + 8 * m := by omega
            rw [orpT_ok l L m hL he hm] at h
            split at h
            · rename_i hp
              injection h with h _
              subst h
              dsimp only
              refine ⟨hp, ?_, be4_lt L 1 (by omega)⟩
              have e72 : L.take 1 = [72] := by rw [hL]; rfl
              have p1 : beL (beV ((L.drop 1).take 4)) 4 = (L.drop 1).take 4 := beL_piece L 1 4 (by omega)
              have p2 : beL m 2 = (L.drop 5).take 2 := by rw [hm]; exact beL_piece L 5 2 (by omega)
              have p3 : rwL (rowsOf L m) = L.drop 7 := by rw [rwL_rowsOf L m (by omega), List.take_of_length_le (by rw [List.length_drop]; omega)]
              have c2 : (L.drop 5).take 2 ++ L.drop 7 = L.drop 5 := by
                have := List.take_append_drop 2 (L.drop 5)
                rw [List.drop_drop] at this
                exact this
              have c1 : (L.drop 1).take 4 ++ L.drop 5 = L.drop 1 := by
                have := List.take_append_drop 4 (L.drop 1)
                rw [List.drop_drop] at this
                exact this
              rw [rpL, rowsOf_len, p1, p2, p3, ← e72, List.append_assoc, List.append_assoc, c2, c1, List.take_append_drop]
            · cases h
    · rw [orpT_form y l hy] at h; cases h
theorem orpT_empty (L : List UInt8) (h : (orpT L).2 ≠ 0) : (orpT L).1.2 = [] := by
  unfold orpT at h ⊢
  by_cases h0 : (oppT L).2 = 0
  · rw [if_pos h0] at h ⊢
    by_cases hm : MayP (oppT L).1.2
    · exact absurd (by dsimp only; rw [if_pos hm]) h
    · dsimp only
      rw [if_neg hm]
  · rw [if_neg h0]

end Go.Proofs.Ytackddgihdnmgaa
