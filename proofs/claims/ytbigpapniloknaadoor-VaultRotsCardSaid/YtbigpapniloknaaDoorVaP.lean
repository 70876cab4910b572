/- What an append, a sync and the writes of a settling make of a vault: plain mathematics. -/
import Derived.Test.YtbigpapniloknaaDoorVaO
namespace Go.Proofs.YtbigpapniloknaaDoor
open Go.RowKit
set_option maxRecDepth 100000

/-- A record that was written, and waits. -/
theorem VI.wrote {D D' : DSt} {a g : Nat} {T0 : List UInt8} {all : List (List UInt8)} {sure : Nat} {more : List (List UInt8)} {i : Nat} (h : VI D a g false T0 all sure more i) (hg : g < 18446744073709551616) (hl : all.length < 6) {d : List UInt8} (hd : d.length ≤ 110)
    (h1 : D'.lasts = D.lasts) (h2 : D'.waits = D.waits ++ [(4 + all.length, secL 1 g all.length d)]) : VI D' a g false T0 (all ++ [d]) sure more i := by
  obtain ⟨R, hR⟩ : ∃ R, R = secL 1 g all.length d := ⟨_, rfl⟩
  have hRo : openT R = ((1, g, all.length, d), 0) := by rw [hR]; exact next_sec hg (by omega) hd
  have hRl : R.length = 128 := by rw [hR]; exact secL_len _ _ _ _ hd
  rw [← hR] at h2
  have hp : ∀ j s, Poss D' j s → Poss D j s ∨ (j = 4 + all.length ∧ s = R) := fun j s hs => by
    rcases (poss_more h1 h2).1 hs with q | q
    · exact .inl q
    · rw [List.mem_singleton] at q
      injection q with q1 q2
      exact .inr ⟨q1, q2⟩
  have hq : ∀ j, j ≠ 4 + all.length → ∀ s, Poss D' j s → Poss D j s := fun j hj s hs => (hp j s hs).elim id (fun q => absurd q.1 hj)
  have hlen := h.len
  have ha := h.ha
  have hv : ∀ j, j < 10 → j ≠ 4 + all.length → view D' j = view D j := fun j hj hne => view_far h1 h2 (by omega) (fun x hx => by rw [List.mem_singleton.1 hx]; exact fun e => hne e.symm)
  have hvn : view D' (4 + all.length) = R := view_wrote h1 h2 (by omega)
  obtain ⟨c0, c1, e0, e1, e2⟩ := h.cur
  have hnew : ∀ b, b < 2 → newV D' b = newV D b := fun b hb => by unfold newV; rw [recAt_view, recAt_view, recAt_view, recAt_view, hv _ (by omega) (by omega), hv _ (by omega) (by omega)]
  have hal : (all ++ [d]).length = all.length + 1 := by simp
  exact { len := by rw [h1]; exact hlen
          ok := dok_more h.ok h1 h2 (fun x hx => by rw [List.mem_singleton.1 hx]; exact ⟨by show 4 + all.length < _; omega, hRl⟩)
          ha := ha
          hgi := h.hgi
          okc := fun j hj s hs => by
            rcases hp j s hs with q | q
            · exact h.okc j hj s q
            · rw [q.2, hRo]; exact .inl rfl
          gens := fun j hj s hs => h.gens j hj s (hq j (by omega) s hs)
          cur := ⟨c0, c1, fun s hs => e0 s (hq _ (by omega) s hs), fun s hs => e1 s (hq _ (by omega) s hs), e2⟩
          oth := fun s0 s1 p0 p1 => h.oth s0 s1 (hq _ (by omega) _ p0) (hq _ (by omega) _ p1)
          top := fun j hj s hs hk => by rw [hnew _ (by omega)]; exact h.top j hj s (hq _ (by omega) s hs) hk
          log := fun j hj s hs q1 q2 => by
            rcases hp _ s hs with q | q
            · exact h.log j hj s q q1 q2
            · rw [q.2]; show (openT R).1.2.1 ≤ g; rw [hRo]; exact Nat.le_refl _
          hsure := by rw [hal]; have := h.hsure; omega
          hall := by omega
          short := fun x hx => by
            rcases List.mem_append.1 hx with q | q
            · exact h.short x q
            · rw [List.mem_singleton.1 q]; exact hd
          fix := fun j hj s hs => by
            have hsu := h.hsure
            rw [getD_snoc_lt _ _ _ (by omega)]
            exact h.fix j hj s (hq _ (by omega) s hs)
          fix2 := fun j hj s hs hn => by
            rw [hal] at hj
            rcases Nat.lt_or_ge j all.length with q | q
            · rw [getD_snoc_lt _ _ _ q]
              exact h.fix2 j q s (hq _ (by omega) s hs) hn
            · obtain rfl : j = all.length := by omega
              rw [getD_snoc_eq, ← hR]
              rcases hp _ s hs with q | q
              · exact absurd hn (h.stops rfl _ (Nat.le_refl _) hl s q)
              · exact q.2
          stop := fun hx s hs => by
            rw [hal] at hx hs ⊢
            exact h.stops rfl _ (by omega) (by omega) s (hq _ (by omega) s hs)
          stops := fun _ j hj hj6 s hs => by
            rw [hal] at hj
            exact h.stops rfl j (by omega) hj6 s (hq _ (by omega) s hs)
          seen := fun _ j hj => by
            rw [hal] at hj
            rcases Nat.lt_or_ge j all.length with q | q
            · rw [getD_snoc_lt _ _ _ q, hv _ (by omega) (by omega)]
              exact h.seen rfl j q
            · obtain rfl : j = all.length := by omega
              rw [getD_snoc_eq, hvn, hR] }

/-- A sync. -/
theorem VI.sync {D D' : DSt} {a g : Nat} {st : Bool} {T0 : List UInt8} {all : List (List UInt8)} {sure : Nat} {more : List (List UInt8)} {i : Nat} (h : VI D a g st T0 all sure more i) (hdry : Dry D D') {sure' : Nat} (hs1 : sure' ≤ all.length) (hs2 : ∀ j, j < sure' → view D (4 + j) = secL 1 g j (all.getD j [])) : VI D' a g st T0 all sure' more i := by
  have hlen := h.len
  have ha := h.ha
  have hal := h.hall
  have hv : ∀ j, j < 10 → ∀ s, Poss D' j s → s = view D j := fun j hj s hs => (hdry.poss (by omega)).1 hs
  have hq : ∀ j, j < 10 → ∀ s, Poss D' j s → Poss D j s := fun j hj s hs => by rw [hv j hj s hs]; exact poss_view (by omega)
  have hr : ∀ j, j < 10 → recAt D' j = recAt D j := fun j hj => hdry.recAt (by omega)
  obtain ⟨c0, c1, e0, e1, e2⟩ := h.cur
  exact { len := hdry.len.trans hlen
          ok := hdry.ok h.ok
          ha := ha
          hgi := h.hgi
          okc := fun j hj s hs => h.okc j hj s (hq j hj s hs)
          gens := fun j hj s hs => h.gens j hj s (hq j (by omega) s hs)
          cur := ⟨c0, c1, fun s hs => e0 s (hq _ (by omega) s hs), fun s hs => e1 s (hq _ (by omega) s hs), e2⟩
          oth := fun s0 s1 p0 p1 => h.oth s0 s1 (hq _ (by omega) _ p0) (hq _ (by omega) _ p1)
          top := fun j hj s hs hk => by unfold newV; rw [hr _ (by omega), hr _ (by omega)]; exact h.top j hj s (hq _ (by omega) s hs) hk
          log := fun j hj s hs => h.log j hj s (hq _ (by omega) s hs)
          hsure := hs1
          hall := hal
          short := h.short
          fix := fun j hj s hs => by rw [hv _ (by omega) s hs]; exact hs2 j hj
          fix2 := fun j hj s hs => h.fix2 j hj s (hq _ (by omega) s hs)
          stop := fun hx s hs => h.stop hx s (hq _ (by omega) s hs)
          stops := fun hst j hj hj6 s hs => h.stops hst j hj hj6 s (hq _ (by omega) s hs)
          seen := fun hst j hj => by rw [hdry.get _ (by omega)]; exact h.seen hst j hj }
/-- What is sure stands in what is read. -/
theorem VI.sure_view {D : DSt} {a g : Nat} {st : Bool} {T0 : List UInt8} {all : List (List UInt8)} {sure : Nat} {more : List (List UInt8)} {i : Nat} (h : VI D a g st T0 all sure more i) : ∀ j, j < sure → view D (4 + j) = secL 1 g j (all.getD j []) := fun j hj =>
  h.fix j hj _ (poss_view (by have := h.hsure; have := h.hall; have := h.len; omega))

/-- The generation that a settling takes. -/
def genV (D : DSt) : Nat := max (newV D 0) (newV D 1)
theorem VI.gen {D : DSt} {a g : Nat} {st : Bool} {T0 : List UInt8} {all : List (List UInt8)} {sure : Nat} {more : List (List UInt8)} {i : Nat} (h : VI D a g st T0 all sure more i) : g ≤ genV D ∧ genV D ≤ i + 1 ∧ newV D (1 - a) ≤ genV D := by
  have hlen := h.len
  have ha := h.ha
  have hb : ∀ b, b < 2 → newV D b ≤ i + 1 := fun b hb => new2_le (fun q1 q2 => h.gens (2 * b) (by omega) _ (poss_view (by omega)) ⟨q1, q2⟩) (fun q1 q2 => h.gens (2 * b + 1) (by omega) _ (poss_view (by omega)) ⟨q1, q2⟩)
  obtain ⟨c0, c1, e0, e1, e2⟩ := h.cur
  have v0 : view D (2 * a) = c0 := e0 _ (poss_view (by omega))
  obtain ⟨y0, y1, y2⟩ := read2_yes e2
  have hga : g ≤ newV D a := by
    have := new2_ge0 (x0 := recAt D (2 * a)) (x1 := recAt D (2 * a + 1)) (by rw [recAt_view, v0]; exact y0) (by rw [recAt_view, v0]; exact y2.elim (fun q => .inr q.1) (fun q => .inl q.1))
    rw [recAt_view, v0, y1] at this
    unfold newV
    rw [recAt_view D (2 * a), v0]
    exact this
  have h0 := hb 0 (by decide)
  have h1 := hb 1 (by decide)
  unfold genV
  rcases (by omega : a = 0 ∨ a = 1) with rfl | rfl
  · exact ⟨by omega, by omega, by show newV D 1 ≤ _; omega⟩
  · exact ⟨by omega, by omega, by show newV D 0 ≤ _; omega⟩

theorem partN2 {t : List UInt8} (ht : t.length ≤ 216) : partN (sumT t) = 1 ∨ partN (sumT t) = 2 := by unfold partN; rw [sumT_len]; omega
theorem part_kind (g : Nat) (S : List UInt8) (j : Nat) : (partAt g S j).1 = 2 ∨ (partAt g S j).1 = 3 := by
  show (if j + 1 = partN S then 3 else 2) = 2 ∨ (if j + 1 = partN S then 3 else 2) = 3
  split
  · exact .inr rfl
  · exact .inl rfl
/-- The parts of a text, read. -/
theorem read2_parts {g : Nat} {t : List UInt8} (hg : g < 18446744073709551616) (ht : t.length ≤ 216) {x1 : RecT × Nat} (h : partN (sumT t) = 1 ∨ x1 = (partAt g (sumT t) 1, 0)) : read2 (partAt g (sumT t) 0, 0) x1 = (t, g, true) := by
  have hw0 : okF 0 0 (0, partAt g (sumT t) 0) = true := by
    unfold okF
    rw [whole_part (partN_pos t), if_pos rfl, decide_eq_true rfl, decide_eq_true (show (partAt g (sumT t) 0).2.2.1 = 0 from rfl), decide_eq_true rfl]
    rfl
  have hop : opens2 (partAt g (sumT t) 0, 0) x1 = (0, partAt g (sumT t) 0) :: (if x1.2 = 0 then [(1, x1.1)] else []) := by unfold opens2; rw [if_pos rfl]; rfl
  unfold read2
  rw [hop, foundF_yes hw0]
  rcases partN2 ht with hN | hN
  · rw [if_pos (show (partAt g (sumT t) 0).1 = 3 from if_pos (by rw [hN]))]
    have := read_whole g t
    rw [hN] at this
    exact this
  · rcases h with h | h
    · omega
    · rw [h]
      rw [if_neg (show ¬ ((partAt g (sumT t) 0).1 = 3) by show ¬ ((if 0 + 1 = partN (sumT t) then 3 else 2) = 3); rw [if_neg (by omega)]; decide), if_pos rfl]
      have hw1 : okF 1 g (1, partAt g (sumT t) 1) = true := by
        unfold okF
        rw [whole_part (by omega), decide_eq_true rfl, decide_eq_true (show (partAt g (sumT t) 1).2.2.1 = 1 from rfl), if_neg (show ¬ ((1, partAt g (sumT t) 1).1 = 0) by show ¬ (1 = 0); decide), decide_eq_true (show (partAt g (sumT t) 1).2.1 = g from rfl)]
        rfl
      show readF (partAt g (sumT t) 0 :: foundF 1 g [(1, partAt g (sumT t) 1)]) = _
      rw [foundF_yes hw1, if_pos (show (partAt g (sumT t) 1).1 = 3 from if_pos (by rw [hN]))]
      have := read_whole g t
      rw [hN] at this
      exact this

/-- The writes of a settling, m of them. -/
theorem VI.tries {D D' : DSt} {a g : Nat} {st : Bool} {T0 : List UInt8} {all : List (List UInt8)} {sure : Nat} {more : List (List UInt8)} {i : Nat} (h : VI D a g st T0 all sure more i) (hi : i + 2 < 18446744073709551616) {t : List UInt8} (ht : t.length ≤ 216) {m : Nat} (hm : m ≤ partN (sumT t))
    (h1 : D'.lasts = D.lasts) (h2 : D'.waits = D.waits ++ seqW (fun q => secP (genV D + 1) (sumT t) (q - 2 * (1 - a))) (2 * (1 - a)) m) : VI D' a g true T0 all sure (more ++ [t]) (i + 1) := by
  obtain ⟨g1, g2, g3⟩ := h.gen
  obtain ⟨G, hG⟩ : ∃ G, G = genV D + 1 := ⟨_, rfl⟩
  rw [← hG] at h2
  have hlen := h.len
  have ha := h.ha
  have hal := h.hall
  have hN := partN2 ht
  obtain ⟨b, hb⟩ : ∃ b, b = 1 - a := ⟨_, rfl⟩
  have hb2 : b < 2 := by omega
  rw [← hb] at h2
  have hpo : ∀ j, openT (secP G (sumT t) j) = (partAt G (sumT t) j, 0) ∨ ¬ j < 2 := fun j => by
    rcases Nat.lt_or_ge j 2 with q | q
    · exact .inl (open_part (by omega) (by omega))
    · exact .inr (by omega)
  have hp : ∀ j s, Poss D' j s → Poss D j s ∨ (2 * b ≤ j ∧ j < 2 * b + m ∧ s = secP G (sumT t) (j - 2 * b)) := fun j s hs => by
    rcases (poss_more h1 h2).1 hs with q | q
    · exact .inl q
    · obtain ⟨q1, q2, q3⟩ := seqW_mem q
      exact .inr ⟨q1, q2, q3⟩
  have hq : ∀ j, (j < 2 * b ∨ 2 * b + m ≤ j) → ∀ s, Poss D' j s → Poss D j s := fun j hj s hs => (hp j s hs).elim id (fun q => by omega)
  have hview : ∀ j, j < 10 → view D' j = if 2 * b ≤ j ∧ j < 2 * b + m then secP G (sumT t) (j - 2 * b) else view D j := fun j hj => view_seq _ _ m D' h1 h2 j (by omega)
  obtain ⟨c0, c1, e0, e1, e2⟩ := h.cur
  have hslot : ∀ j, j < 2 → ∀ s, Poss D (2 * b + j) s → KindS s → genS s < G := fun j hj s hs hk => by
    have := h.top j hj s (by rw [← hb]; exact hs) hk
    rw [← hb] at this
    rw [← hb] at g3
    omega
  exact { len := by rw [h1]; exact hlen
          ok := dok_more h.ok h1 h2 (fun x hx => by
            obtain ⟨q1, q2, q3⟩ := seqW_mem hx
            exact ⟨by omega, by rw [q3]; exact secP_len _ _ _⟩)
          ha := ha
          hgi := by omega
          okc := fun j hj s hs => by
            rcases hp j s hs with q | q
            · exact h.okc j hj s q
            · rw [q.2.2]
              rcases hpo (j - 2 * b) with w | w
              · rw [w]; exact .inl rfl
              · omega
          gens := fun j hj s hs hk => by
            rcases hp j s hs with q | q
            · have := h.gens j hj s q hk; omega
            · rw [q.2.2]
              rcases hpo (j - 2 * b) with w | w
              · show (openT _).1.2.1 ≤ _
                rw [w]
                show G ≤ _
                omega
              · omega
          cur := ⟨c0, c1, fun s hs => e0 s (hq _ (by omega) s hs), fun s hs => e1 s (hq _ (by omega) s hs), e2⟩
          oth := fun s0 s1 p0 p1 t' G' hx => by
            rw [← hb] at p0 p1
            obtain ⟨y0, y1, y2⟩ := read2_yes hx
            rcases hp _ s0 p0 with q0 | q0
            · -- an old first sector
              have hk0 : KindS s0 := ⟨y0, y2.elim (fun q => .inr q.1) (fun q => .inl q.1)⟩
              have hlt := hslot 0 (by decide) s0 q0 hk0
              rcases y2 with y2 | y2
              · have hx2 := y2.2 (openT (view D (2 * b + 1)))
                rcases h.oth s0 _ (by rw [← hb]; exact q0) (by rw [← hb]; exact poss_view (by omega)) t' G' hx2 with w | w
                · exact .inl w
                · exact .inr ⟨w.1, List.mem_append_left _ w.2⟩
              · rcases hp _ s1 p1 with q1 | q1
                · rcases h.oth s0 s1 (by rw [← hb]; exact q0) (by rw [← hb]; exact q1) t' G' hx with w | w
                  · exact .inl w
                  · exact .inr ⟨w.1, List.mem_append_left _ w.2⟩
                · exfalso
                  have hg1 := y2.2.2
                  rw [q1.2.2, show 2 * b + 1 - 2 * b = 1 by omega] at hg1
                  rcases hpo 1 with w | w
                  · rw [w] at hg1
                    have : G = G' := hg1
                    have : genS s0 = G' := y1
                    omega
                  · omega
            · -- a new first sector
              rw [q0.2.2, show 2 * b - 2 * b = 0 by omega] at hx y0 y1 y2
              have w0 : openT (secP G (sumT t) 0) = (partAt G (sumT t) 0, 0) := open_part (by omega) (by omega)
              rw [w0] at hx y0 y1 y2
              have hGG : G = G' := y1
              rcases hN with hN | hN
              · rw [read2_parts (by omega) ht (.inl hN)] at hx
                injection hx with hx1 hx2
                exact .inr ⟨by omega, List.mem_append_right _ (by rw [← hx1]; exact List.mem_singleton.2 rfl)⟩
              · rcases y2 with y2 | y2
                · exfalso
                  have h3 : (if 0 + 1 = partN (sumT t) then 3 else 2) = 3 := y2.1
                  rw [if_neg (by omega)] at h3
                  cases h3
                · rcases hp _ s1 p1 with q1 | q1
                  · exfalso
                    -- an old second sector of the new generation there is none
                    have hr1 := y2.2.2
                    have hk1 : (openT s1).1.1 = 2 ∨ (openT s1).1.1 = 3 := by
                      by_cases hk : (openT s1).1.1 = 2 ∨ (openT s1).1.1 = 3
                      · exact hk
                      · exfalso
                        have hno : okF 1 G (1, (openT s1).1) = false := by
                          unfold okF wholeB
                          rw [if_neg (fun e => hk (.inl e)), if_neg (fun e => hk (.inr e))]
                          simp
                        have hop : opens2 (partAt G (sumT t) 0, 0) (openT s1) = (0, partAt G (sumT t) 0) :: [(1, (openT s1).1)] := by unfold opens2; rw [if_pos rfl, if_pos y2.2.1]; rfl
                        have hw0 : okF 0 0 (0, partAt G (sumT t) 0) = true := by
                          unfold okF
                          rw [whole_part (partN_pos t), if_pos rfl, decide_eq_true rfl, decide_eq_true (show (partAt G (sumT t) 0).2.2.1 = 0 from rfl), decide_eq_true rfl]
                          rfl
                        unfold read2 at hx
                        rw [hop, foundF_yes hw0, if_neg (show ¬ ((partAt G (sumT t) 0).1 = 3) by show ¬ ((if 0 + 1 = partN (sumT t) then 3 else 2) = 3); rw [if_neg (by omega)]; decide), if_pos rfl] at hx
                        have hx' : readF (partAt G (sumT t) 0 :: foundF 1 G [(1, (openT s1).1)]) = (t', G', true) := hx
                        rw [foundF_no hno] at hx'
                        unfold readF at hx'
                        rw [if_neg (fun hz => by
                          have : (if 0 + 1 = partN (sumT t) then 3 else 2) = 3 := hz.1
                          rw [if_neg (by omega)] at this
                          cases this)] at hx'
                        injection hx' with _ hx'
                        injection hx' with _ hx'
                        cases hx'
                    have := hslot 1 (by decide) s1 q1 ⟨y2.2.1, hk1⟩
                    have e : genS s1 = G' := hr1
                    omega
                  · rw [q1.2.2, show 2 * b + 1 - 2 * b = 1 by omega] at hx
                    have w1 : openT (secP G (sumT t) 1) = (partAt G (sumT t) 1, 0) := open_part (by omega) (by omega)
                    rw [w1, read2_parts (by omega) ht (.inr rfl)] at hx
                    injection hx with hx1 hx2
                    exact .inr ⟨by omega, List.mem_append_right _ (by rw [← hx1]; exact List.mem_singleton.2 rfl)⟩
          top := fun j hj s hs hk => by
            rw [← hb] at hs ⊢
            by_cases hm0 : m = 0
            · subst hm0
              have hv : ∀ j, j < 10 → view D' j = view D j := fun j hj => by rw [hview j hj, if_neg (by omega)]
              unfold newV
              rw [recAt_view, recAt_view, hv _ (by omega), hv _ (by omega)]
              have := h.top j hj s (by rw [← hb]; exact hq _ (by omega) s hs) hk
              rw [← hb] at this
              exact this
            · have hnew : G ≤ newV D' b := by
                have w0 : openT (view D' (2 * b)) = (partAt G (sumT t) 0, 0) := by
                  rw [hview _ (by omega), if_pos (by omega), show 2 * b - 2 * b = 0 by omega]
                  exact open_part (by omega) (by omega)
                have := new2_ge0 (x0 := recAt D' (2 * b)) (x1 := recAt D' (2 * b + 1)) (by rw [recAt_view, w0]) (by rw [recAt_view, w0]; exact part_kind _ _ _)
                rw [recAt_view, w0] at this
                unfold newV
                rw [recAt_view D' (2 * b), w0]
                exact this
              rcases hp _ s hs with q | q
              · have := hslot j hj s q hk
                omega
              · rw [q.2.2, show 2 * b + j - 2 * b = j by omega]
                show (openT _).1.2.1 ≤ _
                rw [open_part (by omega) (by omega)]
                exact hnew
          log := fun j hj s hs => h.log j hj s (hq _ (by omega) s hs)
          hsure := h.hsure
          hall := hal
          short := h.short
          fix := fun j hj s hs => h.fix j hj s (hq _ (by omega) s hs)
          fix2 := fun j hj s hs => h.fix2 j hj s (hq _ (by omega) s hs)
          stop := fun hx s hs => h.stop hx s (hq _ (by omega) s hs)
          stops := fun hst => by cases hst
          seen := fun hst => by cases hst }

/-- A settling that went well. -/
theorem VI.settled {D D' D'' : DSt} {a g : Nat} {st : Bool} {T0 : List UInt8} {all : List (List UInt8)} {sure : Nat} {more : List (List UInt8)} {i : Nat} (h : VI D a g st T0 all sure more i) (hi : i + 2 < 18446744073709551616) {t : List UInt8} (ht : t.length ≤ 216)
    (h1 : D'.lasts = D.lasts) (h2 : D'.waits = D.waits ++ seqW (fun q => secP (genV D + 1) (sumT t) (q - 2 * (1 - a))) (2 * (1 - a)) (partN (sumT t))) (hdry : Dry D' D'') : VI D'' (1 - a) (genV D + 1) false t [] 0 [] (i + 1) := by
  have h' := h.tries hi ht (Nat.le_refl _) h1 h2
  obtain ⟨g1, g2, g3⟩ := h.gen
  obtain ⟨G, hG⟩ : ∃ G, G = genV D + 1 := ⟨_, rfl⟩
  rw [← hG] at h2 ⊢
  have hlen := h'.len
  have ha := h.ha
  have hN := partN2 ht
  have hv : ∀ j, j < 10 → ∀ s, Poss D'' j s → s = view D' j := fun j hj s hs => (hdry.poss (by omega)).1 hs
  have hq : ∀ j, j < 10 → ∀ s, Poss D'' j s → Poss D' j s := fun j hj s hs => by rw [hv j hj s hs]; exact poss_view (by omega)
  have hview : ∀ j, j < 10 → view D' j = if 2 * (1 - a) ≤ j ∧ j < 2 * (1 - a) + partN (sumT t) then secP G (sumT t) (j - 2 * (1 - a)) else view D j := fun j hj => view_seq _ _ _ D' h1 h2 j (by have := h.len; omega)
  have w0 : openT (view D' (2 * (1 - a))) = (partAt G (sumT t) 0, 0) := by
    rw [hview _ (by omega), if_pos (by omega), show 2 * (1 - a) - 2 * (1 - a) = 0 by omega]
    exact open_part (by omega) (by omega)
  have hread : read2 (openT (view D' (2 * (1 - a)))) (openT (view D' (2 * (1 - a) + 1))) = (t, G, true) := by
    rw [w0]
    rcases hN with q | q
    · exact read2_parts (by omega) ht (.inl q)
    · refine read2_parts (by omega) ht (.inr ?_)
      rw [hview _ (by omega), if_pos (by omega), show 2 * (1 - a) + 1 - 2 * (1 - a) = 1 by omega]
      exact open_part (by omega) (by omega)
  obtain ⟨c0, c1, e0, e1, e2⟩ := h'.cur
  have hgG : g < G := by omega
  exact { len := hdry.len.trans hlen
          ok := hdry.ok h'.ok
          ha := by omega
          hgi := by omega
          okc := fun j hj s hs => h'.okc j hj s (hq j hj s hs)
          gens := fun j hj s hs => h'.gens j hj s (hq j (by omega) s hs)
          cur := ⟨_, _, fun s hs => hv _ (by omega) s hs, fun s hs => hv _ (by omega) s hs, hread⟩
          oth := fun s0 s1 p0 p1 t' G' hx => by
            rw [show 1 - (1 - a) = a by omega] at p0 p1
            rw [e0 _ (hq _ (by omega) _ p0), e1 _ (hq _ (by omega) _ p1), e2] at hx
            injection hx with _ hx
            injection hx with hx _
            exact .inl (by omega)
          top := fun j hj s hs hk => by
            have hr : ∀ j, j < 10 → recAt D'' j = recAt D' j := fun j hj => hdry.recAt (by omega)
            unfold newV
            rw [hr _ (by omega), hr _ (by omega)]
            have e := hv _ (by omega) s hs
            rcases (by omega : j = 0 ∨ j = 1) with rfl | rfl
            · rw [e] at hk ⊢
              exact new2_ge0 (x0 := recAt D' (2 * (1 - (1 - a)))) hk.1 hk.2
            · rw [e] at hk ⊢
              exact new2_ge1 (x1 := recAt D' (2 * (1 - (1 - a)) + 1)) hk.1 hk.2
          log := fun j hj s hs q1 q2 => by have := h'.log j hj s (hq _ (by omega) s hs) q1 q2; omega
          hsure := Nat.le_refl _
          hall := Nat.zero_le _
          short := fun d hd => by cases hd
          fix := fun j hj => absurd hj (Nat.not_lt_zero _)
          fix2 := fun j hj => absurd hj (Nat.not_lt_zero _)
          stop := fun _ s hs hn => by
            have := h'.log 0 (by omega) s (hq _ (by decide) s hs) hn.1 hn.2.1
            have e : genS s = G := hn.2.2.1
            omega
          stops := fun _ j hj hj6 s hs hn => by
            have := h'.log j hj6 s (hq _ (by omega) s hs) hn.1 hn.2.1
            have e : genS s = G := hn.2.2.1
            omega
          seen := fun _ j hj => absurd hj (Nat.not_lt_zero _) }

/-- A disk that was just laid. -/
theorem VI.start {D D' : DSt} {t : List UInt8} (ht : t.length ≤ 216) (h0 : D = newD 10) (h1 : D'.lasts = D.lasts) (h2 : D'.waits = D.waits ++ seqW (fun q => secP 1 (sumT t) (q - 0)) 0 (partN (sumT t))) {D'' : DSt} (hdry : Dry D' D'') : VI D'' 0 1 true t [] 0 [] 0 := by
  have hN := partN2 ht
  have hl0 : D.lasts.length = 10 := by rw [h0]; simp [newD]
  have hlen : D'.lasts.length = 10 := by rw [h1]; exact hl0
  have hok0 : DOk D := by
    rw [h0]
    refine ⟨by simp [newD], by simp [newD], fun x hx => ?_, fun x hx => by simp [newD] at hx⟩
    have := List.eq_of_mem_replicate hx
    rw [this]; exact List.length_replicate
  have hok : DOk D' := dok_more hok0 h1 h2 (fun x hx => by
    obtain ⟨q1, q2, q3⟩ := seqW_mem hx
    exact ⟨by omega, by rw [q3]; exact secP_len _ _ _⟩)
  have hview : ∀ j, j < 10 → view D' j = if j < partN (sumT t) then secP 1 (sumT t) j else List.replicate 128 0 := fun j hj => by
    rw [view_seq _ _ _ D' h1 h2 j (by omega)]
    by_cases q : j < partN (sumT t)
    · rw [if_pos ⟨Nat.zero_le _, by omega⟩, if_pos q, Nat.sub_zero]
    · rw [if_neg (by omega), if_neg q, h0, view_dry rfl (by simp [newD]; omega), newD_get hj]
  have hv : ∀ j, j < 10 → ∀ s, Poss D'' j s → s = view D' j := fun j hj s hs => (hdry.poss (by omega)).1 hs
  have hpart : ∀ j, j < partN (sumT t) → openT (secP 1 (sumT t) j) = (partAt 1 (sumT t) j, 0) := fun j hj => open_part (by omega) (by omega)
  have hcase : ∀ j, j < 10 → ∀ s, Poss D'' j s → (j < partN (sumT t) ∧ openT s = (partAt 1 (sumT t) j, 0)) ∨ (partN (sumT t) ≤ j ∧ openT s = ((0, 0, 0, []), 16)) := fun j hj s hs => by
    rw [hv j hj s hs, hview j hj]
    by_cases q : j < partN (sumT t)
    · rw [if_pos q]; exact .inl ⟨q, hpart j q⟩
    · rw [if_neg q]; exact .inr ⟨by omega, open_blank⟩
  have hread : read2 (openT (view D' 0)) (openT (view D' 1)) = (t, 1, true) := by
    rw [hview 0 (by decide), if_pos (by omega), hpart 0 (by omega)]
    rcases hN with q | q
    · exact read2_parts (by omega) ht (.inl q)
    · exact read2_parts (by omega) ht (.inr (by rw [hview 1 (by decide), if_pos (by omega), hpart 1 (by omega)]))
  have hno : ∀ j, 2 ≤ j → j < 10 → ∀ s, Poss D'' j s → (openT s).2 ≠ 0 := fun j h2' hj s hs => by
    rcases hcase j hj s hs with q | q
    · omega
    · rw [q.2]; show ¬ (16 = 0); decide
  exact { len := hdry.len.trans hlen
          ok := hdry.ok hok
          ha := by decide
          hgi := Nat.le_refl _
          okc := fun j hj s hs => by
            rcases hcase j hj s hs with q | q
            · rw [q.2]; exact .inl rfl
            · rw [q.2]; exact .inr rfl
          gens := fun j hj s hs hk => by
            rcases hcase j (by omega) s hs with q | q
            · show (openT s).1.2.1 ≤ _
              rw [q.2]
              exact Nat.le_refl _
            · have := hk.1; rw [q.2] at this; cases this
          cur := ⟨_, _, fun s hs => hv 0 (by decide) s hs, fun s hs => hv 1 (by decide) s hs, hread⟩
          oth := fun s0 s1 p0 p1 t' G' hx => absurd (read2_yes hx).1 (hno 2 (by decide) (by decide) s0 p0)
          top := fun j hj s hs hk => absurd hk.1 (hno _ (by omega) (by omega) s hs)
          log := fun j hj s hs q => absurd q (hno _ (by omega) (by omega) s hs)
          hsure := Nat.le_refl _
          hall := Nat.zero_le _
          short := fun d hd => by cases hd
          fix := fun j hj => absurd hj (Nat.not_lt_zero _)
          fix2 := fun j hj => absurd hj (Nat.not_lt_zero _)
          stop := fun _ s hs hn => absurd hn.1 (hno _ (by decide) (by decide) s hs)
          stops := fun hst => by cases hst
          seen := fun hst => by cases hst }
end Go.Proofs.YtbigpapniloknaaDoor
