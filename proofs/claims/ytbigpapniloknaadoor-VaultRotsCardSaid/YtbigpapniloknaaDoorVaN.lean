/- What a vault and its disk are, as the law of layer 16 has them; what an opening, an append and a settling make of it: plain mathematics. -/
import Derived.Test.YtbigpapniloknaaDoorVaM
namespace Go.Proofs.YtbigpapniloknaaDoor
open Go.RowKit
set_option maxRecDepth 100000

theorem poss_more {D D' : DSt} {ws : List (Nat × List UInt8)} (h1 : D'.lasts = D.lasts) (h2 : D'.waits = D.waits ++ ws) {i : Nat} {s : List UInt8} : Poss D' i s ↔ Poss D i s ∨ (i, s) ∈ ws := by
  unfold Poss
  rw [h1, h2, List.mem_append, or_assoc]
theorem poss_same {D D' : DSt} (h1 : D'.lasts = D.lasts) (h2 : D'.waits = D.waits) {i : Nat} {s : List UInt8} : Poss D' i s ↔ Poss D i s := by unfold Poss; rw [h1, h2]
theorem view_same {D D' : DSt} (h1 : D'.lasts = D.lasts) (h2 : D'.waits = D.waits) (i : Nat) : view D' i = view D i := by unfold view rdD hasB; rw [h1, h2]
theorem lastR_skip {r : List (Nat × List UInt8)} {i : Nat} : ∀ xs : List (Nat × List UInt8), (∀ x ∈ xs, x.1 ≠ i) → lastR (xs ++ r) i = lastR r i
  | [], _ => rfl
  | x :: xs, h => by
    show (if x.1 = i then some (xs ++ r).length else lastR (xs ++ r) i) = _
    rw [if_neg (h x (List.mem_cons_self ..)), lastR_skip xs (fun y hy => h y (List.mem_cons_of_mem _ hy))]
theorem view_far {D D' : DSt} {ws : List (Nat × List UInt8)} (h1 : D'.lasts = D.lasts) (h2 : D'.waits = D.waits ++ ws) {i : Nat} (hi : i < D.lasts.length) (hw : ∀ x ∈ ws, x.1 ≠ i) : view D' i = view D i := by
  rw [view_eq (by rw [h1]; exact hi), view_eq hi]
  have e : lastIx D'.waits i = lastIx D.waits i := by
    unfold lastIx
    rw [h2, List.reverse_append]
    exact lastR_skip _ (fun x hx => hw x (List.mem_reverse.1 hx))
  rw [e, h1]
  cases hl : lastIx D.waits i with
  | none => rfl
  | some j =>
    have hj := lastIx_lt hl
    show (D'.waits.getD j (0, [])).2 = (D.waits.getD j (0, [])).2
    rw [h2, List.getD_eq_getElem?_getD, List.getD_eq_getElem?_getD, List.getElem?_append_left hj]
theorem view_wrote {D D' : DSt} {k : Nat} {s : List UInt8} (h1 : D'.lasts = D.lasts) (h2 : D'.waits = D.waits ++ [(k, s)]) (hk : k < D.lasts.length) : view D' k = s := by
  rw [view_eq (by rw [h1]; exact hk)]
  have e : lastIx D'.waits k = some D.waits.length := by rw [h2, lastIx_snoc, if_pos rfl]
  rw [e]
  show (D'.waits.getD D.waits.length (0, [])).2 = s
  rw [h2, List.getD_eq_getElem?_getD, List.getElem?_append_right (Nat.le_refl _), Nat.sub_self]
  rfl
theorem view_seq {D : DSt} (F : Nat → List UInt8) (m : Nat) : ∀ (k : Nat) (D' : DSt), D'.lasts = D.lasts → D'.waits = D.waits ++ seqW F m k → ∀ q, q < D.lasts.length → view D' q = if m ≤ q ∧ q < m + k then F q else view D q
  | 0, D', h1, h2, q, hq => by
    rw [if_neg (by omega)]
    exact view_far h1 h2 hq (fun x hx => by simp [seqW] at hx)
  | k + 1, D', h1, h2, q, hq => by
    rw [seqW_snoc, ← List.append_assoc] at h2
    have ih := view_seq (D := D) F m k { D with waits := D.waits ++ seqW F m k } rfl rfl q hq
    by_cases hk : q = m + k
    · rw [if_pos (by omega)]
      subst hk
      exact view_wrote (D := { D with waits := D.waits ++ seqW F m k }) h1 h2 hq
    · have e := view_far (D := { D with waits := D.waits ++ seqW F m k }) (ws := [(m + k, F (m + k))]) (i := q) h1 h2 hq (fun x hx => by rw [List.mem_singleton.1 hx]; exact fun e => hk e.symm)
      rw [e, ih]
      by_cases h : m ≤ q ∧ q < m + k
      · rw [if_pos h, if_pos (by omega)]
      · rw [if_neg h, if_neg (by omega)]
theorem seqW_mem {F : Nat → List UInt8} {m k : Nat} {x : Nat × List UInt8} (h : x ∈ seqW F m k) : m ≤ x.1 ∧ x.1 < m + k ∧ x.2 = F x.1 := by
  unfold seqW at h
  obtain ⟨j, hj, e⟩ := List.mem_map.1 h
  rw [List.mem_range'_1] at hj
  rw [← e]
  exact ⟨hj.1, hj.2, rfl⟩

/-- What looks at all sectors tell. -/
def lookS (fr : Int) (x : Bool × Bool × Nat) (i : Nat) (r : RecT × Nat) : Bool × Bool × Nat :=
  if r.2 = 16 then x else if r.2 ≠ 0 then (false, true, x.2.2) else if fr ≤ (i : Int) ∧ r.1.1 = 1 then (false, x.2.1, max x.2.2 r.1.2.1) else (false, x.2.1, x.2.2)
def lookF (D : DSt) (fr : Int) : Nat → Bool × Bool × Nat
  | 0 => (true, false, 0)
  | k + 1 => lookS fr (lookF D fr k) k (recAt D k)
/-- The newest whole slot: which, its generation, its text. -/
def newestS (b : Nat × Nat × List UInt8 × Bool) (which : Nat) (r : List UInt8 × Nat × Bool) : Nat × Nat × List UInt8 × Bool :=
  if r.2.2 = true ∧ (b.2.2.2 = false ∨ b.2.1 < r.2.1) then (which, r.2.1, r.1, true) else b
def newestF (D : DSt) (n : Nat) : Nat × Nat × List UInt8 × Bool :=
  newestS (newestS (0, 0, [], false) 0 (readF (foundL D 0 (n : Int)))) 1 (readF (foundL D (n : Int) (n : Int)))

theorem look_ok {D : DSt} {fr : Int} {g : Nat} : ∀ k, (∀ j, j < k → (recAt D j).2 = 0 ∨ (recAt D j).2 = 16) → (∀ j, j < k → fr ≤ (j : Int) → (recAt D j).2 = 0 → (recAt D j).1.1 = 1 → (recAt D j).1.2.1 ≤ g) →
    (lookF D fr k).2.1 = false ∧ (lookF D fr k).2.2 ≤ g ∧ ((∃ j, j < k ∧ (recAt D j).2 = 0) → (lookF D fr k).1 = false)
  | 0, _, _ => ⟨rfl, Nat.zero_le _, fun ⟨j, h, _⟩ => by omega⟩
  | k + 1, h1, h2 => by
    obtain ⟨a, b, c⟩ := look_ok k (fun j hj => h1 j (by omega)) (fun j hj => h2 j (by omega))
    unfold lookF lookS
    rcases h1 k (by omega) with h | h
    · rw [if_neg (by omega), if_neg (fun hx => hx h)]
      by_cases hk : fr ≤ (k : Int) ∧ (recAt D k).1.1 = 1
      · rw [if_pos hk]
        exact ⟨a, by have := h2 k (by omega) hk.1 h hk.2; show max _ _ ≤ g; omega, fun _ => rfl⟩
      · rw [if_neg hk]
        exact ⟨a, b, fun _ => rfl⟩
    · rw [if_pos h]
      refine ⟨a, b, fun ⟨j, hj, hx⟩ => c ⟨j, ?_, hx⟩⟩
      rcases Nat.lt_or_ge j k with q | q
      · exact q
      · obtain rfl : j = k := by omega
        omega

def KindS (s : List UInt8) : Prop := (openT s).2 = 0 ∧ ((openT s).1.1 = 2 ∨ (openT s).1.1 = 3)
def genS (s : List UInt8) : Nat := (openT s).1.2.1
def NextR (g j : Nat) (s : List UInt8) : Prop := (openT s).2 = 0 ∧ (openT s).1.1 = 1 ∧ (openT s).1.2.1 = g ∧ (openT s).1.2.2.1 = j
def newV (D : DSt) (b : Nat) : Nat := new2 (recAt D (2 * b)) (recAt D (2 * b + 1))
theorem recAt_view (D : DSt) (i : Nat) : recAt D i = openT (view D i) := rfl

theorem new2_le {x0 x1 : RecT × Nat} {B : Nat} (h0 : x0.2 = 0 → (x0.1.1 = 2 ∨ x0.1.1 = 3) → x0.1.2.1 ≤ B) (h1 : x1.2 = 0 → (x1.1.1 = 2 ∨ x1.1.1 = 3) → x1.1.2.1 ≤ B) : new2 x0 x1 ≤ B := by
  have step : ∀ (L : List (Nat × RecT)) (a : Nat), a ≤ B → (∀ x ∈ L, (x.2.1 = 2 ∨ x.2.1 = 3) → x.2.2.1 ≤ B) → L.foldl newStep a ≤ B := by
    intro L
    induction L with
    | nil => intro a ha _; exact ha
    | cons y L ih =>
      intro a ha h
      refine ih _ ?_ (fun x hx => h x (List.mem_cons_of_mem _ hx))
      unfold newStep
      split
      · rename_i hk
        have := h y (List.mem_cons_self ..) hk
        omega
      · exact ha
  refine step _ 0 (Nat.zero_le _) (fun x hx => ?_)
  unfold opens2 at hx
  rcases List.mem_append.1 hx with hx | hx
  · split at hx
    · rename_i h; rw [List.mem_singleton.1 hx]; exact h0 h
    · cases hx
  · split at hx
    · rename_i h; rw [List.mem_singleton.1 hx]; exact h1 h
    · cases hx
theorem new2_ge0 {x0 x1 : RecT × Nat} (h : x0.2 = 0) (hk : x0.1.1 = 2 ∨ x0.1.1 = 3) : x0.1.2.1 ≤ new2 x0 x1 :=
  newF_ge (x := (0, x0.1)) (by unfold opens2; rw [if_pos h]; exact List.mem_append_left _ (List.mem_singleton.2 rfl)) hk
theorem new2_ge1 {x0 x1 : RecT × Nat} (h : x1.2 = 0) (hk : x1.1.1 = 2 ∨ x1.1.1 = 3) : x1.1.2.1 ≤ new2 x0 x1 :=
  newF_ge (x := (1, x1.1)) (by unfold opens2; rw [if_pos h]; exact List.mem_append_right _ (List.mem_singleton.2 rfl)) hk

/-- A vault of two sectors a slot, on a disk of ten, behind i acts: its slot a, of the generation g, has T0; behind it all were tried, of which the first so many are sure; more were tried since. -/
structure VI (D : DSt) (a g : Nat) (stuck : Bool) (T0 : List UInt8) (all : List (List UInt8)) (sure : Nat) (more : List (List UInt8)) (i : Nat) : Prop where
  len : D.lasts.length = 10
  ok : DOk D
  ha : a < 2
  hgi : g ≤ i + 1
  okc : ∀ j, j < 10 → ∀ s, Poss D j s → (openT s).2 = 0 ∨ (openT s).2 = 16
  gens : ∀ j, j < 4 → ∀ s, Poss D j s → KindS s → genS s ≤ i + 1
  cur : ∃ c0 c1, (∀ s, Poss D (2 * a) s → s = c0) ∧ (∀ s, Poss D (2 * a + 1) s → s = c1) ∧ read2 (openT c0) (openT c1) = (T0, g, true)
  oth : ∀ s0 s1, Poss D (2 * (1 - a)) s0 → Poss D (2 * (1 - a) + 1) s1 → ∀ t G, read2 (openT s0) (openT s1) = (t, G, true) → G < g ∨ (g < G ∧ t ∈ more)
  top : ∀ j, j < 2 → ∀ s, Poss D (2 * (1 - a) + j) s → KindS s → genS s ≤ newV D (1 - a)
  log : ∀ j, j < 6 → ∀ s, Poss D (4 + j) s → (openT s).2 = 0 → (openT s).1.1 = 1 → genS s ≤ g
  hsure : sure ≤ all.length
  hall : all.length ≤ 6
  short : ∀ d ∈ all, d.length ≤ 110
  fix : ∀ j, j < sure → ∀ s, Poss D (4 + j) s → s = secL 1 g j (all.getD j [])
  fix2 : ∀ j, j < all.length → ∀ s, Poss D (4 + j) s → NextR g j s → s = secL 1 g j (all.getD j [])
  stop : all.length < 6 → ∀ s, Poss D (4 + all.length) s → ¬ NextR g all.length s
  stops : stuck = false → ∀ j, all.length ≤ j → j < 6 → ∀ s, Poss D (4 + j) s → ¬ NextR g j s
  seen : stuck = false → ∀ j, j < all.length → view D (4 + j) = secL 1 g j (all.getD j [])

theorem VI.mono {D : DSt} {a g : Nat} {st : Bool} {T0 : List UInt8} {all : List (List UInt8)} {sure : Nat} {more : List (List UInt8)} {i k : Nat} (h : VI D a g st T0 all sure more i) (hk : i ≤ k) : VI D a g st T0 all sure more k :=
  { h with hgi := Nat.le_trans h.hgi (by omega), gens := fun j hj s hs hn => Nat.le_trans (h.gens j hj s hs hn) (by omega) }
theorem VI.same {D D' : DSt} {a g : Nat} {st : Bool} {T0 : List UInt8} {all : List (List UInt8)} {sure : Nat} {more : List (List UInt8)} {i : Nat} (h : VI D a g st T0 all sure more i) (h1 : D'.lasts = D.lasts) (h2 : D'.waits = D.waits) : VI D' a g st T0 all sure more i := by
  have hp : ∀ j s, Poss D' j s → Poss D j s := fun j s hs => (poss_same h1 h2).1 hs
  have hr : ∀ j, recAt D' j = recAt D j := fun j => by rw [recAt_view, recAt_view, view_same h1 h2]
  obtain ⟨c0, c1, e0, e1, e2⟩ := h.cur
  exact { len := by rw [h1]; exact h.len
          ok := by unfold DOk; rw [h1, h2]; exact h.ok
          ha := h.ha
          hgi := h.hgi
          okc := fun j hj s hs => h.okc j hj s (hp j s hs)
          gens := fun j hj s hs => h.gens j hj s (hp j s hs)
          cur := ⟨c0, c1, fun s hs => e0 s (hp _ s hs), fun s hs => e1 s (hp _ s hs), e2⟩
          oth := fun s0 s1 p0 p1 => h.oth s0 s1 (hp _ _ p0) (hp _ _ p1)
          top := fun j hj s hs hk => by unfold newV; rw [hr, hr]; exact h.top j hj s (hp _ s hs) hk
          log := fun j hj s hs => h.log j hj s (hp _ s hs)
          hsure := h.hsure
          hall := h.hall
          short := h.short
          fix := fun j hj s hs => h.fix j hj s (hp _ s hs)
          fix2 := fun j hj s hs => h.fix2 j hj s (hp _ s hs)
          stop := fun hl s hs => h.stop hl s (hp _ s hs)
          stops := fun hst j hj hj6 s hs => h.stops hst j hj hj6 s (hp _ s hs)
          seen := fun hst j hj => by rw [view_same h1 h2]; exact h.seen hst j hj }
end Go.Proofs.YtbigpapniloknaaDoor
