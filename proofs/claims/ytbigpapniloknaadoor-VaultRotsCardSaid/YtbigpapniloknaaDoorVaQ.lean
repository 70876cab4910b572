/- What Format, Append and Settle make of a vault's disk, as functions of what it holds: plain mathematics. -/
import Derived.Test.YtbigpapniloknaaDoorVaP
namespace Go.Proofs.YtbigpapniloknaaDoor
open Go.RowKit
set_option maxRecDepth 100000

/-- What lay does. -/
def layD (D : DSt) (fr n g : Nat) (t : List UInt8) : DSt × Nat := if (slotW D (fr : Int) (n : Int) g t).2 = 0 then syD (slotW D (fr : Int) (n : Int) g t).1 else slotW D (fr : Int) (n : Int) g t
/-- What Format does. -/
def formatD (D : DSt) (n : Nat) (t : List UInt8) : DSt × Nat := if (lookF D ((2 * n : Nat) : Int) D.lasts.length).1 = true then layD D 0 n 1 t else (D, 15)
/-- The greatest generation of both slots' records. -/
def genN (D : DSt) (n sl : Nat) : Nat := max (newF (openL2 D (((1 - sl) * n : Nat) : Int) (n : Int))) (newF (openL2 D ((sl * n : Nat) : Int) (n : Int)))
/-- What Settle does: the disk, the code, whether the vault is stuck behind it. -/
def SettleR (D : DSt) (n sl : Nat) (st : Bool) (t : List UInt8) (D' : DSt) (c : Nat) (st' : Bool) : Prop :=
  (106 < t.length ∧ c = (syD D).2 ∧ c ≠ 0 ∧ D' = (syD D).1 ∧ st' = st) ∨
  (∃ E, (E = D ∨ (106 < t.length ∧ (syD D).2 = 0 ∧ E = (syD D).1)) ∧ D' = (layD E ((1 - sl) * n) n (genN D n sl + 1) t).1 ∧ c = (layD E ((1 - sl) * n) n (genN D n sl + 1) t).2 ∧ st' = !decide (c = 0))

theorem syD_two (D : DSt) : ((syD D).2 = 7 ∧ (syD D).1.lasts = D.lasts ∧ (syD D).1.waits = D.waits) ∨ ((syD D).2 = 0 ∧ (syD D).1.lasts = (synced D).lasts ∧ (syD D).1.waits = []) := by
  unfold syD
  by_cases h : (fires D).2 = true
  · rw [if_pos h]; exact .inl ⟨rfl, fires_lasts D, fires_waits D⟩
  · rw [if_neg h]
    refine .inr ⟨rfl, ?_, rfl⟩
    show settle (fires D).1.lasts (fires D).1.waits = settle D.lasts D.waits
    rw [fires_lasts, fires_waits]
theorem syD_zero {D : DSt} (h : D.armed = 0) : (syD D).2 = 0 ∧ (syD D).1.armed = 0 := by
  unfold syD
  rw [fires_zero h, if_neg (show ¬ ((D, false) : DSt × Bool).2 = true from fun h => by cases h)]
  exact ⟨rfl, h⟩
theorem SmallN.sy {n : Nat} {D : DSt} (h : SmallN (n + 1) D) : SmallN n (syD D).1 := by
  unfold syD
  have h1 := fires_arm h.1
  have h2 := fires_waits D
  have h3 := fires_ops D
  split
  · exact ⟨h1, by rw [h2]; have := h.2.1; omega, by rw [h3]; have := h.2.2; omega⟩
  · refine ⟨h1, ?_, ?_⟩
    · show 0 + n ≤ _; have := h.2.1; omega
    · show (fires D).1.ops + 1 + n ≤ _; rw [h3]; have := h.2.2; omega
theorem SmallN.lay {n : Nat} {D : DSt} (h : SmallN (n + 5001) D) {fr r g : Nat} {t : List UInt8} (ht : t.length ≤ 400000) : SmallN n (layD D fr r g t).1 := by
  unfold layD
  split
  · exact SmallN.sy (slotW_small (n := n + 1) (by rw [show n + 1 + 5000 = n + 5001 by omega]; exact h) ht)
  · exact slotW_small (n := n) (h.mono (by omega)) ht
theorem SmallN.settle {n : Nat} {D : DSt} (h : SmallN (n + 5002) D) {r sl : Nat} {st : Bool} {t : List UInt8} (ht : t.length ≤ 400000) {D' : DSt} {c : Nat} {st' : Bool} (hr : SettleR D r sl st t D' c st') : SmallN n D' := by
  rcases hr with ⟨_, _, _, rfl, _⟩ | ⟨E, hE, rfl, _, _⟩
  · exact SmallN.sy (h.mono (by omega))
  · refine SmallN.lay ?_ ht
    rcases hE with rfl | ⟨_, _, rfl⟩
    · exact h.mono (by omega)
    · exact SmallN.sy (n := n + 5001) h
theorem SmallN.app {n : Nat} {D : DSt} (h : SmallN (n + 2) D) (fr room g nx : Nat) (d : List UInt8) : SmallN n (appL D fr room g nx d).1 := by
  unfold appL
  split
  · exact h.mono (by omega)
  · split
    · exact h.mono (by omega)
    · split
      · exact SmallN.sy (SmallN.wr (n := n + 1) h _ _)
      · exact (SmallN.wr (n := n + 1) h _ _).mono (by omega)
theorem SmallN.crash {n : Nat} {D : DSt} (h : SmallN n D) (ks : List Bool) : SmallN n (crashed D ks) := ⟨h.1, by show 0 + n ≤ _; have := h.2.1; omega, h.2.2⟩

theorem genN_two {D : DSt} (hlen : D.lasts.length = 10) {a : Nat} (ha : a < 2) : genN D 2 a = genV D := by
  have h0 := newS hlen (b := 0) (by decide)
  have h1 := newS hlen (b := 1) (by decide)
  unfold genN genV
  rcases (by omega : a = 0 ∨ a = 1) with rfl | rfl
  · rw [← h0, ← h1]; exact Nat.max_comm _ _
  · rw [← h0, ← h1]
theorem dry_genV {D D' : DSt} (hlen : D.lasts.length = 10) (h : Dry D D') : genV D' = genV D := by
  have hr : ∀ j, j < 10 → recAt D' j = recAt D j := fun j hj => h.recAt (by omega)
  show max (newV D' 0) (newV D' 1) = max (newV D 0) (newV D 1)
  unfold newV
  rw [hr _ (by omega), hr _ (by omega), hr _ (by omega), hr _ (by omega)]
theorem VI.tried {D : DSt} {a g : Nat} {st : Bool} {T0 : List UInt8} {all : List (List UInt8)} {sure : Nat} {more : List (List UInt8)} {i : Nat} (h : VI D a g st T0 all sure more i) (t : List UInt8) : VI D a g st T0 all sure (more ++ [t]) i :=
  { h with oth := fun s0 s1 p0 p1 t' G' hx => (h.oth s0 s1 p0 p1 t' G' hx).imp id (fun q => ⟨q.1, List.mem_append_left _ q.2⟩) }

/-- A settling's own writes. -/
theorem VI.laid {D : DSt} {a g : Nat} {st : Bool} {T0 : List UInt8} {all : List (List UInt8)} {sure : Nat} {more : List (List UInt8)} {i : Nat} (h : VI D a g st T0 all sure more i) (hi : i + 2 < 18446744073709551616) {t : List UInt8} (ht : t.length ≤ 216) :
    ((layD D ((1 - a) * 2) 2 (genV D + 1) t).2 = 0 ∧ VI (layD D ((1 - a) * 2) 2 (genV D + 1) t).1 (1 - a) (genV D + 1) false t [] 0 [] (i + 1)) ∨
    ((layD D ((1 - a) * 2) 2 (genV D + 1) t).2 ≠ 0 ∧ VI (layD D ((1 - a) * 2) 2 (genV D + 1) t).1 a g true T0 all sure (more ++ [t]) (i + 1)) := by
  have hlen := h.len
  have ha := h.ha
  rw [Nat.mul_comm (1 - a) 2]
  obtain ⟨m, m1, m2, m3, m4, _⟩ := slotW_state (D := D) (i := 2 * (1 - a)) (r := 2) (gen := genV D + 1) (t := t) (by decide) (by omega) (by omega)
  obtain ⟨F, hF⟩ : ∃ F, F = (slotW D ((2 * (1 - a) : Nat) : Int) ((2 : Nat) : Int) (genV D + 1) t).1 := ⟨_, rfl⟩
  obtain ⟨c, hc⟩ : ∃ c, c = (slotW D ((2 * (1 - a) : Nat) : Int) ((2 : Nat) : Int) (genV D + 1) t).2 := ⟨_, rfl⟩
  have hL : layD D (2 * (1 - a)) 2 (genV D + 1) t = if c = 0 then syD F else (F, c) := by
    unfold layD
    rw [← hc, ← hF]
    split
    · rfl
    · rw [hF, hc]
  rw [← hF] at m2 m3
  rw [← hc] at m4
  rw [hL]
  have hT := h.tries hi ht m1 m3 m2
  by_cases h0 : c = 0
  · rw [if_pos h0]
    have hm := m4 h0
    subst hm
    rcases syD_two F with ⟨e1, e2, e3⟩ | ⟨e1, e2, e3⟩
    · exact .inr ⟨by rw [e1]; decide, hT.same e2 e3⟩
    · exact .inl ⟨e1, h.settled hi ht m3 m2 (Dry.of_synced hT.ok e2 e3)⟩
  · rw [if_neg h0]
    exact .inr ⟨h0, hT⟩
theorem VI.dry {D D' : DSt} {a g : Nat} {st : Bool} {T0 : List UInt8} {all : List (List UInt8)} {sure : Nat} {more : List (List UInt8)} {i : Nat} (h : VI D a g st T0 all sure more i) (hd : Dry D D') : VI D' a g st T0 all sure more i := h.sync hd h.hsure h.sure_view

/-- A settling. -/
theorem VI.settle {D D' : DSt} {a g c : Nat} {st st' : Bool} {T0 : List UInt8} {all : List (List UInt8)} {sure : Nat} {more : List (List UInt8)} {i : Nat} (h : VI D a g st T0 all sure more i) (hi : i + 2 < 18446744073709551616) {t : List UInt8} (ht : t.length ≤ 216) (hr : SettleR D 2 a st t D' c st') :
    (c = 0 ∧ VI D' (1 - a) (genN D 2 a + 1) false t [] 0 [] (i + 1)) ∨ (c ≠ 0 ∧ VI D' a g st' T0 all sure (more ++ [t]) (i + 1)) := by
  have hlen := h.len
  rw [genN_two hlen h.ha]
  rcases hr with ⟨_, h1, h2, h3, h4⟩ | ⟨E, hE, h1, h2, h3⟩
  · refine .inr ⟨h2, ?_⟩
    rcases syD_two D with ⟨e1, e2, e3⟩ | ⟨e1, _, _⟩
    · rw [h4, h3]
      exact ((h.same e2 e3).tried t).mono (by omega)
    · exact absurd (h1.trans e1) h2
  · rw [genN_two hlen h.ha] at h1 h2
    have hx : VI E a g st T0 all sure more i ∧ genV E = genV D := by
      rcases hE with rfl | ⟨_, q, rfl⟩
      · exact ⟨h, rfl⟩
      · rcases syD_two D with ⟨e1, _, _⟩ | ⟨_, e2, e3⟩
        · rw [e1] at q; cases q
        · have hd := Dry.of_synced h.ok e2 e3
          exact ⟨h.dry hd, dry_genV hlen hd⟩
    have hy := hx.1.laid hi ht
    rw [hx.2, ← h1, ← h2] at hy
    rcases hy with ⟨q1, q2⟩ | ⟨q1, q2⟩
    · exact .inl ⟨q1, q2⟩
    · refine .inr ⟨q1, ?_⟩
      rw [h3, decide_eq_false q1]
      exact q2

/-- An append. -/
theorem vi_append {D : DSt} {a g : Nat} {T0 : List UInt8} {all : List (List UInt8)} {sure : Nat} {more : List (List UInt8)} {i : Nat} (h : VI D a g false T0 all sure more i) (hi : i + 2 < 18446744073709551616) {d : List UInt8} (hd : d.length ≤ 110) :
    ((appL D 4 6 g all.length d).2.1 = all.length ∧ (appL D 4 6 g all.length d).2.2 ≠ 0 ∧ VI (appL D 4 6 g all.length d).1 a g false T0 all sure more i) ∨
    ((appL D 4 6 g all.length d).2.1 = all.length + 1 ∧ (appL D 4 6 g all.length d).2.2 ≠ 0 ∧ VI (appL D 4 6 g all.length d).1 a g false T0 (all ++ [d]) sure more i) ∨
    ((appL D 4 6 g all.length d).2.1 = all.length + 1 ∧ (appL D 4 6 g all.length d).2.2 = 0 ∧ VI (appL D 4 6 g all.length d).1 a g false T0 (all ++ [d]) (all.length + 1) more i) := by
  have hlen := h.len
  have hal := h.hall
  have hg : g < 18446744073709551616 := by have := h.hgi; omega
  have hS : (secL 1 g all.length d).length = 128 := secL_len _ _ _ _ hd
  unfold appL
  by_cases h6 : all.length = 6
  · rw [if_pos h6]
    exact .inl ⟨rfl, (fun h => by cases h), h⟩
  rw [if_neg h6, if_neg (by omega)]
  have hh : hasB D ((4 + all.length : Nat) : Int) = true := hasB_nat (by omega)
  have hwr : wrD D ((4 + all.length : Nat) : Int) (secL 1 g all.length d) = if (fires D).2 = true then ((fires D).1, 7) else (wrote (fires D).1 (4 + all.length) (secL 1 g all.length d), 0) := by
    unfold wrD
    rw [hh, if_neg (by decide), if_neg (by omega), Int.toNat_natCast]
  rw [hwr]
  by_cases hf : (fires D).2 = true
  · rw [if_pos hf]
    refine .inl ?_
    rw [if_neg (show ¬ ((fires D).1, 7).2 = 0 from fun h => by cases h)]
    exact ⟨rfl, (fun h => by cases h), h.same (fires_lasts D) (fires_waits D)⟩
  · rw [if_neg hf]
    refine .inr ?_
    rw [if_pos rfl]
    obtain ⟨E, hE⟩ : ∃ E, E = wrote (fires D).1 (4 + all.length) (secL 1 g all.length d) := ⟨_, rfl⟩
    have e1 : E.lasts = D.lasts := by rw [hE]; exact fires_lasts D
    have e2 : E.waits = D.waits ++ [(4 + all.length, secL 1 g all.length d)] := by
      rw [hE]
      show (fires D).1.waits ++ [(4 + all.length, secL 1 g all.length d)] = _
      rw [fires_waits]
    have hE2 := h.wrote hg (by omega) hd e1 e2
    show (all.length + 1 = all.length + 1 ∧ _) ∨ (all.length + 1 = all.length + 1 ∧ _)
    rw [← hE]
    rcases syD_two E with ⟨q1, q2, q3⟩ | ⟨q1, q2, q3⟩
    · exact .inl ⟨rfl, by rw [show ((syD E).1, all.length + 1, (syD E).2).2.2 = (syD E).2 from rfl, q1]; decide, hE2.same q2 q3⟩
    · refine .inr ⟨rfl, q1, ?_⟩
      have hl : (all ++ [d]).length = all.length + 1 := by simp
      exact hE2.sync (Dry.of_synced hE2.ok q2 q3) (by omega) (fun j hj => hE2.seen rfl j (by omega))

theorem look_new (n : Nat) (fr : Int) : ∀ k, k ≤ n → lookF (newD n) fr k = (true, false, 0)
  | 0, _ => rfl
  | k + 1, hk => by
    have e : recAt (newD n) k = ((0, 0, 0, []), 16) := by rw [recAt_dry rfl (by simp [newD]; omega), newD_get (by omega), open_blank]
    show lookS fr (lookF (newD n) fr k) k (recAt (newD n) k) = _
    rw [e, look_new n fr k (by omega)]
    rfl
theorem format_new {n r : Nat} {t : List UInt8} : formatD (newD n) r t = layD (newD n) 0 r 1 t := by
  unfold formatD
  rw [look_new n _ _ (by simp [newD]), if_pos rfl]
/-- A text laid where nothing fails. -/
theorem lay_zero {D : DSt} {fr r g : Nat} {t : List UInt8} (h0 : D.armed = 0) (hok : DOk D) (h1 : 1 ≤ r) (h2 : fr + r ≤ D.lasts.length) (ht : t.length + 4 ≤ 110 * r) : ∃ F, F.lasts = D.lasts ∧ F.waits = D.waits ++ seqW (fun q => secP g (sumT t) (q - fr)) fr (partN (sumT t)) ∧ Dry F (layD D fr r g t).1 ∧ (layD D fr r g t).2 = 0 ∧ (layD D fr r g t).1.armed = 0 := by
  obtain ⟨m, m1, m2, m3, m4, m5⟩ := slotW_state (D := D) (i := fr) (r := r) (gen := g) (t := t) h1 h2 ht
  obtain ⟨c0, a0⟩ := m5 h0
  have hm := m4 c0
  subst hm
  have hp := parts_room ht
  have hF : DOk (slotW D (fr : Int) (r : Int) g t).1 := dok_more hok m3 m2 (fun x hx => by
    obtain ⟨q1, q2, q3⟩ := seqW_mem hx
    exact ⟨by omega, by rw [q3]; exact secP_len _ _ _⟩)
  have hl : layD D fr r g t = syD (slotW D (fr : Int) (r : Int) g t).1 := by unfold layD; rw [if_pos c0]
  obtain ⟨s0, s1⟩ := syD_zero a0
  refine ⟨_, m3, m2, ?_, by rw [hl]; exact s0, by rw [hl]; exact s1⟩
  rw [hl]
  rcases syD_two (slotW D (fr : Int) (r : Int) g t).1 with ⟨q1, _, _⟩ | ⟨_, q2, q3⟩
  · rw [s0] at q1; cases q1
  · exact Dry.of_synced hF q2 q3
theorem newD_ok {n : Nat} (h1 : 1 ≤ n) (h2 : n ≤ 4096) : DOk (newD n) := by
  refine ⟨by simpa [newD] using h1, by simpa [newD] using h2, fun x hx => ?_, fun x hx => by simp [newD] at hx⟩
  have := List.eq_of_mem_replicate hx
  rw [this]; exact List.length_replicate
theorem VI.begins {t : List UInt8} (ht : t.length ≤ 216) : (formatD (newD 10) 2 t).2 = 0 ∧ (formatD (newD 10) 2 t).1.armed = 0 ∧ (formatD (newD 10) 2 t).1.waits = [] ∧ VI (formatD (newD 10) 2 t).1 0 1 true t [] 0 [] 0 := by
  rw [format_new]
  obtain ⟨F, f1, f2, f3, f4, f5⟩ := lay_zero (D := newD 10) (fr := 0) (r := 2) (g := 1) (t := t) rfl (newD_ok (by decide) (by decide)) (by decide) (by simp [newD]) (by omega)
  exact ⟨f4, f5, f3.wts, VI.start ht rfl f1 f2 f3⟩
theorem crashed_dry {D : DSt} (h : D.waits = []) : crashed D [] = D := by
  unfold crashed
  rw [h]
  cases D
  cases h
  rfl
end Go.Proofs.YtbigpapniloknaaDoor
