/- A byte of a written sector, turned: what an opening tells: plain mathematics. -/
import Derived.Test.YtbigpapniloknaaDoorVaX
namespace Go.Proofs.YtbigpapniloknaaDoor
open Go.RowKit
set_option maxRecDepth 100000

theorem look_broken {D : DSt} {fr : Int} : ∀ k j, j < k → (recAt D j).2 ≠ 0 → (recAt D j).2 ≠ 16 → (lookF D fr k).1 = false ∧ (lookF D fr k).2.1 = true
  | 0, _, h, _, _ => absurd h (Nat.not_lt_zero _)
  | k + 1, j, h, h0, h16 => by
    show (lookS fr (lookF D fr k) k (recAt D k)).1 = false ∧ (lookS fr (lookF D fr k) k (recAt D k)).2.1 = true
    unfold lookS
    by_cases e : j = k
    · subst e
      rw [if_neg h16, if_pos h0]
      exact ⟨rfl, rfl⟩
    · obtain ⟨a, b⟩ := look_broken (D := D) (fr := fr) k j (by omega) h0 h16
      split
      · exact ⟨a, b⟩
      · split
        · exact ⟨rfl, rfl⟩
        · split
          · exact ⟨rfl, b⟩
          · exact ⟨rfl, b⟩
theorem openC_broken {D : DSt} {n j : Nat} (hj : j < D.lasts.length) (h0 : (recAt D j).2 ≠ 0) (h16 : (recAt D j).2 ≠ 16) : openC D n = 8 := by
  obtain ⟨a, b⟩ := look_broken (D := D) (fr := ((2 * n : Nat) : Int)) D.lasts.length j hj h0 h16
  unfold openC
  rw [a, b, if_neg (by decide), Bool.true_or, if_pos rfl]
theorem xor_ne {a y : Nat} (hy : y ≠ 0) : a ^^^ y ≠ a := fun h => hy (by
  have e : a ^^^ (a ^^^ y) = y := by rw [← Nat.xor_assoc, Nat.xor_self, Nat.zero_xor]
  rw [h, Nat.xor_self] at e
  exact e.symm)
theorem rot_code {D : DSt} (hw : D.waits = []) (hlen : D.lasts.length = 10) (hok : DOk D) {i a y : Nat} (hi : i < 10) (ha : a < 128) (hy : y ≠ 0) (hy2 : y < 256) (h0 : (recAt D i).2 = 0) : (recAt (rotD D (i : Int) (a : Int) y) i).2 = 8 := by
  have hr : rotD D (i : Int) (a : Int) y = { D with lasts := D.lasts.set i (rotT (D.lasts.getD i []) a y) } := by
    unfold rotD
    rw [if_pos ⟨hasB_nat (by omega), by omega, by omega⟩, Int.toNat_natCast, Int.toNat_natCast]
  have hl : (D.lasts.getD i []).length = 128 := by
    rw [List.getD_eq_getElem?_getD, List.getElem?_eq_getElem (by omega)]
    exact hok.2.2.1 _ (List.getElem_mem _)
  rw [recAt_dry hw (by omega)] at h0
  obtain ⟨s, hs⟩ : ∃ s, s = D.lasts.getD i [] := ⟨_, rfl⟩
  rw [← hs] at hl h0 hr
  rw [hr, recAt_dry (D := { D with lasts := D.lasts.set i (rotT s a y) }) hw (by show i < (D.lasts.set i _).length; rw [List.length_set]; omega)]
  show (openT ((D.lasts.set i (rotT s a y)).getD i [])).2 = 8
  rw [getD_set _ _ _ _ _ (by omega), if_pos rfl]
  obtain ⟨⟨q1, q2, q3, q4⟩, q5⟩ := open_only hl h0
  have hc : UInt8.ofNat ((s.getD a 0).toNat ^^^ y) ≠ s[a]'(by omega) := fun e => by
    have h1 := congrArg UInt8.toNat e
    have h2 : s.getD a 0 = s[a]'(by omega) := by rw [List.getD_eq_getElem?_getD, List.getElem?_eq_getElem (by omega)]; rfl
    have hb : (s[a]'(by omega)).toNat < 2 ^ 8 := (s[a]'(by omega)).toNat_lt
    rw [h2, UInt8.toNat_ofNat', Nat.mod_eq_of_lt (Nat.xor_lt_two_pow hb (show y < 2 ^ 8 from hy2))] at h1
    exact xor_ne hy h1
  have h := open_turned (k := (openT s).1.1) (g := (openT s).1.2.1) (i := (openT s).1.2.2.1) (d := (openT s).1.2.2.2) q4 ha (c := UInt8.ofNat ((s.getD a 0).toNat ^^^ y)) (by simpa only [q5] using hc)
  rw [q5] at h
  show (openT (s.set a (UInt8.ofNat ((s.getD a 0).toNat ^^^ y)))).2 = 8
  rw [h]
theorem newest_lt {D : DSt} (hlen : D.lasts.length = 10) (hv : ∀ j, j < 10 → (view D j).length = 128) : (newestF D 2).2.1 < 18446744073709551616 := by
  have hr : ∀ b, b < 2 → ∀ x, x = read2 (recAt D (2 * b)) (recAt D (2 * b + 1)) → x.2.2 = true → x.2.1 < 18446744073709551616 := fun b hb x hx h => by
    obtain ⟨t, g, f⟩ := x
    have h' : f = true := h
    subst h'
    obtain ⟨y0, y1, _⟩ := read2_yes hx.symm
    show g < _
    rw [← y1]
    rw [recAt_view] at y0 ⊢
    exact (open_only (hv _ (by omega)) y0).1.2.1
  rw [newest2 hlen]
  have h0 := hr 0 (by decide) _ rfl
  have h1 := hr 1 (by decide) _ rfl
  have hs : ∀ b w r, (r.2.2 = true → r.2.1 < 18446744073709551616) → b.2.1 < 18446744073709551616 → (newestS b w r).2.1 < 18446744073709551616 := fun b w r q1 q2 => by
    unfold newestS
    split
    · rename_i hx; exact q1 hx.1
    · exact q2
  exact hs _ _ _ h1 (hs _ _ _ h0 (by decide))
theorem openL_16 {L0 : List UInt8} (h : (openL L0).2 = 16) : False := by
  unfold openL at h
  split at h <;> cases h
theorem blank_16 {l : List UInt8} (hl : l.length = 128) (h : (openT l).2 = 16) : l = List.replicate 128 0 := by
  unfold openT at h
  rw [if_neg (fun hx => hx hl)] at h
  by_cases hz : zeroL l = true
  · have := zeroL_iff.1 hz
    exact List.eq_replicate_iff.2 ⟨hl, this⟩
  · rw [if_neg hz] at h
    split at h
    · cases h
    · exfalso
      exact openL_16 h

/-- A settling where nothing fails. -/
theorem settle_zero {D D' : DSt} {a g c : Nat} {st st' : Bool} {T0 : List UInt8} {all : List (List UInt8)} {sure : Nat} {more : List (List UInt8)} {i : Nat} (h : VI D a g st T0 all sure more i) (h0 : D.armed = 0) {t : List UInt8} (ht : t.length ≤ 216) (hr : SettleR D 2 a st t D' c st') : c = 0 ∧ D'.armed = 0 ∧ D'.waits = [] := by
  have hlen := h.len
  have ha := h.ha
  have main : ∀ E, E.armed = 0 → E.lasts.length = 10 → DOk E → ∀ g', (layD E ((1 - a) * 2) 2 g' t).2 = 0 ∧ (layD E ((1 - a) * 2) 2 g' t).1.armed = 0 ∧ (layD E ((1 - a) * 2) 2 g' t).1.waits = [] := fun E e0 el eok g' => by
    obtain ⟨F, f1, f2, f3, f4, f5⟩ := lay_zero (D := E) (fr := (1 - a) * 2) (r := 2) (g := g') (t := t) e0 eok (by decide) (by omega) (by omega)
    exact ⟨f4, f5, f3.wts⟩
  rcases hr with ⟨_, q1, q2, _⟩ | ⟨E, hE, q1, q2, _⟩
  · exact absurd (q1.trans (syD_zero h0).1) q2
  · rcases hE with hE | ⟨_, _, rfl⟩
    · rw [hE] at q1 q2
      obtain ⟨m1, m2, m3⟩ := main _ h0 hlen h.ok (genN D 2 a + 1)
      exact ⟨q2.trans m1, by rw [q1]; exact m2, by rw [q1]; exact m3⟩
    · have hx : DOk (syD D).1 ∧ (syD D).1.lasts.length = 10 := by
        rcases syD_two D with ⟨e1, _, _⟩ | ⟨_, e2, e3⟩
        · rw [(syD_zero h0).1] at e1; cases e1
        · have hd := Dry.of_synced h.ok e2 e3
          exact ⟨hd.ok h.ok, hd.len.trans hlen⟩
      obtain ⟨m1, m2, m3⟩ := main _ (syD_zero h0).2 hx.2 hx.1 (genN D 2 a + 1)
      exact ⟨q2.trans m1, by rw [q1]; exact m2, by rw [q1]; exact m3⟩
/-- An append where nothing fails. -/
theorem append_zero {D : DSt} {a g : Nat} {T0 : List UInt8} {all : List (List UInt8)} {sure : Nat} {more : List (List UInt8)} {i : Nat} (h : VI D a g false T0 all sure more i) (hi : i + 2 < 18446744073709551616) (h0 : D.armed = 0) (hw : D.waits = []) (h6 : all.length < 6) {d : List UInt8} (hd : d.length ≤ 110) :
    (appL D 4 6 g all.length d).2.1 = all.length + 1 ∧ (appL D 4 6 g all.length d).2.2 = 0 ∧ (appL D 4 6 g all.length d).1.armed = 0 ∧ (appL D 4 6 g all.length d).1.waits = [] ∧ VI (appL D 4 6 g all.length d).1 a g false T0 (all ++ [d]) (all.length + 1) more i := by
  have e := app_dry (D := D) (fr := 4) (room := 6) (gen := g) (next := all.length) (d := d) hw h0 h6 (by rw [h.len]; omega) hd
  have hv := vi_append h hi hd
  have e1 : (appL D 4 6 g all.length d).2.1 = all.length + 1 := by rw [e]
  have e2 : (appL D 4 6 g all.length d).2.2 = 0 := by rw [e]
  refine ⟨e1, e2, by rw [e]; exact h0, by rw [e], ?_⟩
  rcases hv with ⟨q1, _⟩ | ⟨_, q2, _⟩ | ⟨_, _, q3⟩
  · omega
  · exact absurd e2 q2
  · exact q3
end Go.Proofs.YtbigpapniloknaaDoor
