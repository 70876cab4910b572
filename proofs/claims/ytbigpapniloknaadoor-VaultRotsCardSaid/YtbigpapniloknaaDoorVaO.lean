/- What a crash and an opening, an append, a settling make of a vault: plain mathematics. -/
import Derived.Test.YtbigpapniloknaaDoorVaN
namespace Go.Proofs.YtbigpapniloknaaDoor
open Go.RowKit
set_option maxRecDepth 100000

theorem poss_len {D : DSt} (hok : DOk D) {i : Nat} (hi : i < D.lasts.length) {s : List UInt8} (h : Poss D i s) : s.length = 128 := by
  rcases h with h | h
  · rw [h, List.getD_eq_getElem?_getD, List.getElem?_eq_getElem hi]
    exact hok.2.2.1 _ (List.getElem_mem hi)
  · exact (hok.2.2.2 _ h).2
theorem dok_dry {D D' : DSt} (hok : DOk D) (hl : D'.lasts.length = D.lasts.length) (hw : D'.waits = []) (hp : ∀ i, i < D.lasts.length → Poss D i (D'.lasts.getD i [])) : DOk D' := by
  refine ⟨by rw [hl]; exact hok.1, by rw [hl]; exact hok.2.1, fun t ht => ?_, fun x hx => by rw [hw] at hx; cases hx⟩
  obtain ⟨i, hi, e⟩ := List.mem_iff_getElem.1 ht
  have h := poss_len hok (by rw [← hl]; exact hi) (hp i (by rw [← hl]; exact hi))
  rw [List.getD_eq_getElem?_getD, List.getElem?_eq_getElem hi] at h
  rw [← e]; exact h
theorem dok_crash {D : DSt} (hok : DOk D) (ks : List Bool) : DOk (crashed D ks) :=
  dok_dry hok (settleK_len _ _) rfl (fun i hi => poss_crash ks hi)
theorem dok_more {D D' : DSt} {ws : List (Nat × List UInt8)} (hok : DOk D) (h1 : D'.lasts = D.lasts) (h2 : D'.waits = D.waits ++ ws) (h : ∀ x ∈ ws, x.1 < D.lasts.length ∧ x.2.length = 128) : DOk D' := by
  unfold DOk
  rw [h1, h2]
  refine ⟨hok.1, hok.2.1, hok.2.2.1, fun x hx => ?_⟩
  rcases List.mem_append.1 hx with hx | hx
  · exact hok.2.2.2 x hx
  · exact h x hx
/-- What all sectors hold behind a sync. -/
structure Dry (D D' : DSt) : Prop where
  len : D'.lasts.length = D.lasts.length
  wts : D'.waits = []
  get : ∀ i, i < D.lasts.length → view D' i = view D i
theorem Dry.of_synced {D D' : DSt} (hok : DOk D) (h1 : D'.lasts = (synced D).lasts) (h2 : D'.waits = []) : Dry D D' :=
  ⟨by rw [h1]; exact synced_len hok, h2, fun i hi => by rw [view_dry h2 (by rw [h1, synced_len hok]; exact hi), h1, synced_view hok hi]⟩
theorem Dry.poss {D D' : DSt} (h : Dry D D') {i : Nat} (hi : i < D.lasts.length) {s : List UInt8} : Poss D' i s ↔ s = view D i := by
  rw [poss_dry h.wts (by rw [h.len]; exact hi), h.get i hi]
theorem Dry.ok {D D' : DSt} (h : Dry D D') (hok : DOk D) : DOk D' :=
  dok_dry hok h.len h.wts (fun i hi => by
    rw [← view_dry h.wts (by rw [h.len]; exact hi), h.get i hi]
    exact poss_view hi)
theorem Dry.recAt {D D' : DSt} (h : Dry D D') {i : Nat} (hi : i < D.lasts.length) : recAt D' i = recAt D i := by rw [recAt_view, recAt_view, h.get i hi]

theorem next_sec {g j : Nat} {d : List UInt8} (hg : g < 18446744073709551616) (hj : j < 4294967296) (hd : d.length ≤ 110) : openT (secL 1 g j d) = ((1, g, j, d), 0) := open_sec ⟨show (1 : Nat) < 256 by decide, hg, hj, hd⟩
theorem getD_short {all : List (List UInt8)} (h : ∀ d ∈ all, d.length ≤ 110) (j : Nat) : (all.getD j []).length ≤ 110 := by
  rw [List.getD_eq_getElem?_getD]
  cases hx : all[j]? with
  | none => exact Nat.zero_le _
  | some t => exact h t (List.mem_of_getElem? hx)

theorem logL_step (D : DSt) (g f i : Nat) : logL D 4 g (f + 1) i = if (recAt D (4 + i)).2 = 0 ∧ (recAt D (4 + i)).1.1 = 1 ∧ (recAt D (4 + i)).1.2.1 = g ∧ (recAt D (4 + i)).1.2.2.1 = i then (recAt D (4 + i)).1.2.2.2 :: logL D 4 g f (i + 1) else [] := rfl
theorem logL_yes {D : DSt} {g f i : Nat} (h : NextR g i (view D (4 + i))) : logL D 4 g (f + 1) i = (openT (view D (4 + i))).1.2.2.2 :: logL D 4 g f (i + 1) := by
  have h' : (recAt D (4 + i)).2 = 0 ∧ (recAt D (4 + i)).1.1 = 1 ∧ (recAt D (4 + i)).1.2.1 = g ∧ (recAt D (4 + i)).1.2.2.1 = i := h
  rw [logL_step, if_pos h']
  rfl
theorem logL_no {D : DSt} {g f i : Nat} (h : ¬ NextR g i (view D (4 + i))) : logL D 4 g (f + 1) i = [] := by
  have h' : ¬ ((recAt D (4 + i)).2 = 0 ∧ (recAt D (4 + i)).1.1 = 1 ∧ (recAt D (4 + i)).1.2.1 = g ∧ (recAt D (4 + i)).1.2.2.1 = i) := h
  rw [logL_step, if_neg h']
/-- What a log's replay finds. -/
theorem log_stop {D : DSt} {g : Nat} {all : List (List UInt8)} (hall : all.length ≤ 6) (h1 : ∀ j, j < all.length → NextR g j (view D (4 + j)) → (openT (view D (4 + j))).1.2.2.2 = all.getD j []) (h2 : all.length < 6 → ¬ NextR g all.length (view D (4 + all.length))) :
    ∀ f i, i + f = 6 → i ≤ all.length → ∃ m, i ≤ m ∧ m ≤ all.length ∧ logL D 4 g f i = (all.drop i).take (m - i) ∧ (∀ j, i ≤ j → j < m → NextR g j (view D (4 + j))) ∧ (m < 6 → ¬ NextR g m (view D (4 + m)))
  | 0, i, h, hi => ⟨i, Nat.le_refl _, hi, by rw [Nat.sub_self, List.take_zero]; rfl, fun j a b => by omega, fun hx => by omega⟩
  | f + 1, i, h, hi => by
    by_cases hn : NextR g i (view D (4 + i))
    · have hlt : i < all.length := by
        rcases Nat.lt_or_ge i all.length with q | q
        · exact q
        · obtain rfl : i = all.length := by omega
          exact absurd hn (h2 (by omega))
      obtain ⟨m, a, b, c, d, e⟩ := log_stop hall h1 h2 f (i + 1) (by omega) (by omega)
      refine ⟨m, by omega, b, ?_, fun j q1 q2 => ?_, e⟩
      · rw [logL_yes hn, c, h1 i hlt hn, show m - i = (m - (i + 1)) + 1 by omega, List.drop_eq_getElem_cons hlt, List.take_succ_cons, List.getD_eq_getElem?_getD, List.getElem?_eq_getElem hlt]
        rfl
      · rcases Nat.lt_or_ge i j with q | q
        · exact d j (by omega) q2
        · obtain rfl : j = i := by omega
          exact hn
    · exact ⟨i, Nat.le_refl _, hi, by rw [logL_no hn, Nat.sub_self, List.take_zero], fun j a b => by omega, fun _ => hn⟩
theorem log_none {D : DSt} {g : Nat} (h : ¬ NextR g 0 (view D 4)) : logL D 4 g 6 0 = [] := by
  exact logL_no (f := 5) (i := 0) h

theorem readS {D : DSt} (hlen : D.lasts.length = 10) {b : Nat} (hb : b < 2) : readF (foundL D ((2 * b : Nat) : Int) ((2 : Nat) : Int)) = read2 (recAt D (2 * b)) (recAt D (2 * b + 1)) := by
  rw [foundL_K (by omega) (by omega), openK2]; rfl
theorem newS {D : DSt} (hlen : D.lasts.length = 10) {b : Nat} (hb : b < 2) : newF (openL2 D ((2 * b : Nat) : Int) ((2 : Nat) : Int)) = newV D b := by
  unfold openL2
  rw [liesB_yes (by omega) (by omega), if_pos rfl, Int.toNat_natCast, Int.toNat_natCast, openK2]; rfl
theorem newest2 {D : DSt} (hlen : D.lasts.length = 10) : newestF D 2 = newestS (newestS (0, 0, [], false) 0 (read2 (recAt D 0) (recAt D 1))) 1 (read2 (recAt D 2) (recAt D 3)) := by
  unfold newestF
  have h0 := readS hlen (b := 0) (by decide)
  have h1 := readS hlen (b := 1) (by decide)
  rw [← h0, ← h1]
  rfl

/-- The newest whole slot is the vault's, if the other one has nothing newer that is whole. -/
theorem newest_own {D : DSt} (hlen : D.lasts.length = 10) {a g : Nat} (ha : a < 2) {T0 : List UInt8} (hc : read2 (recAt D (2 * a)) (recAt D (2 * a + 1)) = (T0, g, true))
    (ho : ∀ t G, read2 (recAt D (2 * (1 - a))) (recAt D (2 * (1 - a) + 1)) = (t, G, true) → G < g) : newestF D 2 = (a, g, T0, true) := by
  rw [newest2 hlen]
  rcases (by omega : a = 0 ∨ a = 1) with rfl | rfl
  · rw [show read2 (recAt D 0) (recAt D 1) = (T0, g, true) from hc]
    have e0 : newestS (0, 0, [], false) 0 (T0, g, true) = (0, g, T0, true) := by unfold newestS; rw [if_pos ⟨rfl, .inl rfl⟩]
    rw [e0]
    unfold newestS
    rw [if_neg (fun hx => by
      obtain ⟨h1, h2⟩ := hx
      have := ho (read2 (recAt D 2) (recAt D 3)).1 (read2 (recAt D 2) (recAt D 3)).2.1 (Prod.ext rfl (Prod.ext rfl h1))
      rcases h2 with h2 | h2
      · cases h2
      · have : g < (read2 (recAt D 2) (recAt D 3)).2.1 := h2
        omega)]
  · rw [show read2 (recAt D 2) (recAt D 3) = (T0, g, true) from hc]
    obtain ⟨b, hb⟩ : ∃ b, b = newestS (0, 0, [], false) 0 (read2 (recAt D 0) (recAt D 1)) := ⟨_, rfl⟩
    rw [← hb]
    have hq : b.2.2.2 = false ∨ b.2.1 < g := ?_
    · unfold newestS
      rw [if_pos ⟨rfl, hq⟩]
    unfold newestS at hb
    by_cases h1 : (read2 (recAt D 0) (recAt D 1)).2.2 = true ∧ (((0, 0, [], false) : Nat × Nat × List UInt8 × Bool).2.2.2 = false ∨ ((0, 0, [], false) : Nat × Nat × List UInt8 × Bool).2.1 < (read2 (recAt D 0) (recAt D 1)).2.1)
    · rw [if_pos h1] at hb
      have := ho (read2 (recAt D 0) (recAt D 1)).1 (read2 (recAt D 0) (recAt D 1)).2.1 (Prod.ext rfl (Prod.ext rfl h1.1))
      rw [hb]
      exact .inr this
    · rw [if_neg h1] at hb
      rw [hb]
      exact .inl rfl
/-- .. and the other one, if that has something newer. -/
theorem newest_oth {D : DSt} (hlen : D.lasts.length = 10) {a g : Nat} (ha : a < 2) {T0 t : List UInt8} {G : Nat} (hc : read2 (recAt D (2 * a)) (recAt D (2 * a + 1)) = (T0, g, true))
    (ho : read2 (recAt D (2 * (1 - a))) (recAt D (2 * (1 - a) + 1)) = (t, G, true)) (hg : g < G) : newestF D 2 = (1 - a, G, t, true) := by
  refine newest_own hlen (by omega) ho (fun t' G' h => ?_)
  rw [show 1 - (1 - a) = a by omega, hc] at h
  injection h with _ h
  injection h with h _
  omega

/-- What an opening behind a crash finds, and the vault that it makes. -/
theorem VI.crash {D : DSt} {a g : Nat} {st : Bool} {T0 : List UInt8} {all : List (List UInt8)} {sure : Nat} {more : List (List UInt8)} {i : Nat} (h : VI D a g st T0 all sure more i) (hg : g < 18446744073709551616) (ks : List Bool) {D' : DSt} (hD : D' = crashed D ks) :
    (lookF D' ((4 : Nat) : Int) 10).1 = false ∧ (lookF D' ((4 : Nat) : Int) 10).2.1 = false ∧ (lookF D' ((4 : Nat) : Int) 10).2.2 ≤ g ∧
    ((newestF D' 2 = (a, g, T0, true) ∧ ∃ m, sure ≤ m ∧ m ≤ all.length ∧ logL D' 4 g 6 0 = all.take m ∧ VI D' a g true T0 (all.take m) m [] i) ∨
     (∃ t G, newestF D' 2 = (1 - a, G, t, true) ∧ g < G ∧ t ∈ more ∧ logL D' 4 G 6 0 = [] ∧ VI D' (1 - a) G true t [] 0 [] i)) := by
  have hl : D'.lasts.length = D.lasts.length := by rw [hD]; exact settleK_len _ _
  have hw : D'.waits = [] := by rw [hD]; rfl
  have hlen : D'.lasts.length = 10 := hl.trans h.len
  have hP : ∀ j, j < 10 → Poss D j (view D' j) := fun j hj => by
    rw [view_dry hw (by omega), hD]
    exact poss_crash ks (by rw [h.len]; exact hj)
  have hQ : ∀ j, j < 10 → ∀ s, Poss D' j s → s = view D' j := fun j hj s hs => (poss_dry hw (by omega)).1 hs
  have hPP : ∀ j, j < 10 → ∀ s, Poss D' j s → Poss D j s := fun j hj s hs => by rw [hQ j hj s hs]; exact hP j hj
  have hok : DOk D' := by rw [hD]; exact dok_crash h.ok ks
  have ha := h.ha
  obtain ⟨c0, c1, e0, e1, e2⟩ := h.cur
  have v0 : view D' (2 * a) = c0 := e0 _ (hP _ (by omega))
  have v1 : view D' (2 * a + 1) = c1 := e1 _ (hP _ (by omega))
  have hcur : read2 (recAt D' (2 * a)) (recAt D' (2 * a + 1)) = (T0, g, true) := by rw [recAt_view, recAt_view, v0, v1]; exact e2
  have hc0 := (read2_yes hcur).1
  obtain ⟨k1, k2, k3⟩ := look_ok (D := D') (fr := ((4 : Nat) : Int)) (g := g) 10 (fun j hj => h.okc j hj _ (hP j hj)) (fun j hj hf q1 q2 => by
    have := h.log (j - 4) (by omega) (view D' j) (by rw [show 4 + (j - 4) = j by omega]; exact hP j hj) q1 q2
    exact this)
  refine ⟨k3 ⟨2 * a, by omega, hc0⟩, k1, k2, ?_⟩
  have top' : ∀ b, b < 2 → ∀ j, j < 2 → ∀ s, Poss D' (2 * b + j) s → KindS s → genS s ≤ newV D' b := fun b hb j hj s hs hk => by
    have e := hQ _ (by omega) s hs
    rcases (by omega : j = 0 ∨ j = 1) with rfl | rfl
    · rw [e] at hk ⊢
      exact new2_ge0 (x0 := recAt D' (2 * b)) hk.1 hk.2
    · rw [e] at hk ⊢
      exact new2_ge1 (x1 := recAt D' (2 * b + 1)) hk.1 hk.2
  by_cases hb : ∃ t G, read2 (recAt D' (2 * (1 - a))) (recAt D' (2 * (1 - a) + 1)) = (t, G, true) ∧ g < G
  · obtain ⟨t, G, hr, hgG⟩ := hb
    refine .inr ⟨t, G, newest_oth hlen ha hcur hr hgG, hgG, ?_, ?_, ?_⟩
    · rcases h.oth _ _ (hP _ (by omega)) (hP _ (by omega)) t G hr with q | q
      · omega
      · exact q.2
    · refine log_none (fun hn => ?_)
      have := h.log 0 (by omega) (view D' 4) (hP 4 (by omega)) hn.1 hn.2.1
      have e : genS (view D' 4) = G := hn.2.2.1
      omega
    · obtain ⟨y0, y1, y2⟩ := read2_yes hr
      have hk0 : KindS (view D' (2 * (1 - a))) := ⟨y0, y2.elim (fun q => .inr q.1) (fun q => .inl q.1)⟩
      have hGi : G ≤ i + 1 := by
        have := h.gens (2 * (1 - a)) (by omega) _ (hP _ (by omega)) hk0
        have e : genS (view D' (2 * (1 - a))) = G := y1
        omega
      exact { len := hlen
              ok := hok
              ha := by omega
              hgi := hGi
              okc := fun j hj s hs => h.okc j hj s (hPP j hj s hs)
              gens := fun j hj s hs => h.gens j hj s (hPP j (by omega) s hs)
              cur := ⟨view D' (2 * (1 - a)), view D' (2 * (1 - a) + 1), fun s hs => hQ _ (by omega) s hs, fun s hs => hQ _ (by omega) s hs, hr⟩
              oth := fun s0 s1 p0 p1 t' G' hx => by
                rw [show 1 - (1 - a) = a by omega] at p0 p1
                rw [e0 _ (hPP _ (by omega) _ p0), e1 _ (hPP _ (by omega) _ p1), e2] at hx
                injection hx with _ hx
                injection hx with hx _
                exact .inl (by omega)
              top := fun j hj s hs hk => top' _ (by omega) j hj s hs hk
              log := fun j hj s hs q1 q2 => by have := h.log j hj s (hPP _ (by omega) s hs) q1 q2; omega
              hsure := Nat.le_refl _
              hall := Nat.zero_le _
              short := fun d hd => by cases hd
              fix := fun j hj => absurd hj (Nat.not_lt_zero _)
              fix2 := fun j hj => absurd hj (Nat.not_lt_zero _)
              stop := fun _ s hs hn => by
                have := h.log 0 (by omega) s (hPP _ (by decide) s hs) hn.1 hn.2.1
                have e : genS s = G := hn.2.2.1
                omega
              stops := fun hst => by cases hst
              seen := fun hst => by cases hst }
  · have ho : ∀ t G, read2 (recAt D' (2 * (1 - a))) (recAt D' (2 * (1 - a) + 1)) = (t, G, true) → G < g := fun t G hr => by
      rcases h.oth _ _ (hP _ (by omega)) (hP _ (by omega)) t G hr with q | q
      · exact q
      · exact absurd ⟨t, G, hr, q.1⟩ hb
    have hrec : ∀ j, j < all.length → NextR g j (view D' (4 + j)) → view D' (4 + j) = secL 1 g j (all.getD j []) := fun j hj hn => h.fix2 j hj _ (hP _ (by have := h.hall; omega)) hn
    obtain ⟨m, m1, m2, m3, m4, m5⟩ := log_stop (D := D') (g := g) (all := all) h.hall (fun j hj hn => by
      rw [hrec j hj hn, next_sec hg (by have := h.hall; omega) (getD_short h.short j)]) (fun hx => h.stop hx _ (hP _ (by omega))) 6 0 rfl (Nat.zero_le _)
    rw [Nat.sub_zero, List.drop_zero] at m3
    have hsm : sure ≤ m := by
      rcases Nat.lt_or_ge m sure with q | q
      · exfalso
        have hsa := h.hsure
        have hal := h.hall
        refine m5 (by omega) ?_
        have e := h.fix m q _ (hP (4 + m) (by omega))
        rw [e]
        unfold NextR
        rw [next_sec hg (by omega) (getD_short h.short m)]
        exact ⟨rfl, rfl, rfl, rfl⟩
      · exact q
    have htl : (all.take m).length = m := by rw [List.length_take]; omega
    have hgd : ∀ j, j < m → (all.take m).getD j [] = all.getD j [] := fun j hj => by rw [List.getD_eq_getElem?_getD, List.getD_eq_getElem?_getD, List.getElem?_take_of_lt hj]
    have hal := h.hall
    refine .inl ⟨newest_own hlen ha hcur ho, m, hsm, m2, m3, ?_⟩
    exact { len := hlen
            ok := hok
            ha := ha
            hgi := h.hgi
            okc := fun j hj s hs => h.okc j hj s (hPP j hj s hs)
            gens := fun j hj s hs => h.gens j hj s (hPP j (by omega) s hs)
            cur := ⟨c0, c1, fun s hs => e0 s (hPP _ (by omega) s hs), fun s hs => e1 s (hPP _ (by omega) s hs), e2⟩
            oth := fun s0 s1 p0 p1 t' G' hx => by
              rw [hQ _ (by omega) _ p0, hQ _ (by omega) _ p1] at hx
              exact .inl (ho t' G' hx)
            top := fun j hj s hs hk => top' _ (by omega) j hj s hs hk
            log := fun j hj s hs => h.log j hj s (hPP _ (by omega) s hs)
            hsure := by rw [htl]; exact Nat.le_refl _
            hall := by omega
            short := fun d hd => h.short d (List.mem_of_mem_take hd)
            fix := fun j hj s hs => by
              rw [hgd j hj, hQ _ (by omega) s hs]
              exact hrec j (by omega) (m4 j (Nat.zero_le _) hj)
            fix2 := fun j hj s hs _ => by
              rw [htl] at hj
              rw [hgd j hj, hQ _ (by omega) s hs]
              exact hrec j (by omega) (m4 j (Nat.zero_le _) hj)
            stop := fun hx s hs => by
              rw [htl] at hx hs ⊢
              rw [hQ _ (by omega) s hs]
              exact m5 hx
            stops := fun hst => by cases hst
            seen := fun hst => by cases hst }
end Go.Proofs.YtbigpapniloknaaDoor
