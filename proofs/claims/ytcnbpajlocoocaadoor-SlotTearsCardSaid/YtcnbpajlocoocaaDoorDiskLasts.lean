/- The walk of DiskLasts: what was synced outlives a crash. -/
import Derived.Test.YtcnbpajlocoocaaDoorDiskH
import Derived.OpenShut
namespace Go.Proofs.YtcnbpajlocoocaaDoor
set_option maxRecDepth 100000
open Go.RowKit Go.Maps Go.ChangeMaps Go.MapKept

/-- A slice of integers that came in, as the row's frame hands it. -/
def RowOf (k : IntKind) (w : World) (a : Option Addr) (len cap : Nat) (zs : List Int) : Prop :=
  (a = none ∧ len = 0 ∧ cap = 0 ∧ zs = []) ∨
  ∃ x, a = some x ∧ len ≤ cap ∧ cap ≤ maxLen ∧ zs.length = cap ∧ (∀ i, i < zs.length → w.cell? (x.add i) = some (.int k (zs.getD i 0))) ∧ ∀ n ∈ zs, (Lit.int k n).wf = true
theorem RowOf.sl8 {w : World} {a : Option Addr} {len cap : Nat} {zs : List Int} (h : RowOf .u8 w a len cap zs) : ∃ xs, Sl .u8 w a len cap xs ∧ ∀ y ∈ xs, y < 256 := by
  rcases h with ⟨rfl, rfl, rfl, rfl⟩ | ⟨x, rfl, hl, hm, hz, hc, hw⟩
  · exact ⟨[], Sl.nil _ _, fun y hy => by cases hy⟩
  · have hb : ∀ n ∈ zs, 0 ≤ n ∧ n ≤ 255 := fun n hn => bounds_u8 (hw n hn)
    refine ⟨(zs.take len).map Int.toNat, ⟨by rw [List.length_map, List.length_take]; omega, hl, by unfold maxLen at hm; omega, fun hpos => ?_⟩, ?_⟩
    · obtain ⟨b, off, rfl, hc2⟩ := ints_at hc (by omega)
      refine ⟨b, off, rfl, fun j hj => ?_⟩
      have hj2 : j < zs.length := by omega
      rw [hc2 j hj2]
      have h1 := (hb zs[j] (List.getElem_mem hj2)).1
      rw [List.getD_eq_getElem?_getD, List.getElem?_eq_getElem hj2, List.getD_eq_getElem?_getD, List.getElem?_map, List.getElem?_take_of_lt hj, List.getElem?_eq_getElem hj2]
      simp only [Option.map_some, Option.getD_some]
      rw [Int.toNat_of_nonneg h1]
    · intro y hy
      obtain ⟨n, hn, rfl⟩ := List.mem_map.1 hy
      have h1 := hb n (List.mem_of_mem_take hn)
      omega

/-- A disk of eight, on which nothing fails. -/
def Eight (L : Option (List (List UInt8))) (i o : Nat) (D : DSt) : Prop := D.lasts.length = 8 ∧ D.armed = 0 ∧ D.waits.length = i ∧ D.ops = o ∧ ∀ l, L = some l → D.lasts = l
theorem eight_write {L : Option (List (List UInt8))} {i o : Nat} {D : DSt} (h : Eight L i o D) {q : Nat} (hq : q < 8) (s : List UInt8) (hs : s.length = 128) : (wrD D (q : Int) s).2 = 0 ∧ Eight L (i + 1) (o + 1) (wrD D (q : Int) s).1 := by
  obtain ⟨h1, h2, h3, h4, h5⟩ := h
  unfold wrD
  rw [if_neg (by rw [hasB_nat (by omega)]; decide), if_neg (by rw [hs]; decide), fires_zero h2, if_neg (by simp)]
  refine ⟨rfl, h1, h2, ?_, ?_, h5⟩
  · show (D.waits ++ _).length = _; rw [List.length_append, h3]; rfl
  · show D.ops + 1 = _; rw [h4]
theorem eight_small {L : Option (List (List UInt8))} {i o : Nat} {D : DSt} (h : Eight L i o D) (hi : i ≤ 1000000) (ho : o ≤ 1000000000) : Small D := by
  obtain ⟨h1, h2, h3, h4, h5⟩ := h
  exact ⟨⟨by omega, by omega⟩, by omega, by omega⟩
theorem settleK_false (zs : List ((Nat × List UInt8) × Bool)) (h : ∀ z ∈ zs, z.2 = false) : ∀ ls, settleK ls zs = ls := by
  induction zs with
  | nil => intro ls; rfl
  | cons z r ih =>
    intro ls
    show settleK (if z.2 then ls.set z.1.1 z.1.2 else ls) r = ls
    rw [h z (by simp), ih (fun y hy => h y (by simp [hy]))]
    rfl
theorem read_dry {D : DSt} (h : D.waits = []) {i : Nat} (hi : i < D.lasts.length) : rdD D (i : Int) = (D.lasts.getD i [], 0) := rdD_last hi (by rw [h]; rfl)

theorem infoString : (Tryd.prog.info? 9).map (fun i => (i.zero, i.size, i.bytes)) = some (some (.string ⟨#[]⟩), 1, 16) := by kernel_rfl
theorem infoBool : (Tryd.prog.info? 4).map (fun i => (i.zero, i.size, i.bytes)) = some (some (.bool false), 1, 1) := by kernel_rfl
/-- Texts as cells. -/
def strsV (ls : List (List UInt8)) : List Value := ls.map fun l => .string (bs l)
theorem strsV_one (ls : List (List UInt8)) : ∀ u ∈ strsV ls, u.oneCell' = true := by
  intro u hu
  obtain ⟨x, _, rfl⟩ := List.mem_map.1 hu
  rfl

/-- A disk behind an append to a row that is no part of it. -/
theorem IsDisk.grown {base : Nat} {w w' : World} {p gl M : Nat} {v : Value} {D : DSt} {row : Option Nat} (h : IsDisk base w p gl M v D) (hg : w.grownBy w' row) (hr : ∀ g, row = some g → ∃ T cs, Blk w g T cs ∧ T ≠ 75 ∧ T ≠ 81 ∧ T ≠ 83) : IsDisk base w' p gl M v D := by
  obtain ⟨h1, h2, h3, ⟨m, h4, h5⟩, h6⟩ := h
  have ne : ∀ k T' ds, Blk w k T' ds → (T' = 75 ∨ T' = 81 ∨ T' = 83) → some k ≠ row := by
    intro k T' ds hb hT e
    obtain ⟨T, cs, hc, n1, n2, n3⟩ := hr k e.symm
    have := hb.get
    rw [hc.get] at this
    injection this with this
    injection this with _ hh
    rcases hT with hT | hT | hT <;> subst hT
    · exact n1 hh
    · exact n2 hh
    · exact n3 hh
  refine ⟨h1.grown hg (ne p _ _ h1 (.inl rfl)), h2.grown hg (ne gl _ _ h2 (.inr (.inl rfl))), ?_, ⟨m, h4.kept hg (fun e => ?_), h5⟩, h6⟩
  · rcases h3 with h3 | ⟨h3, h7⟩
    · exact .inl h3
    · refine .inr ⟨h3, ?_⟩
      rcases h7.2 with ⟨e1, _⟩ | ⟨g', c', cur, e1, _, hh, _⟩
      · exact h7.kept hg (.inl (by rw [e1]; rfl))
      · have hb : Blk w g' 83 cur.toList := by unfold Blk; rw [Array.toArray_toList]; exact hh
        refine h7.kept hg (.inr ?_)
        rw [e1]
        exact ne g' _ _ hb (.inr (.inr rfl))
  · obtain ⟨T, cs, hc, _⟩ := hr M e.symm
    exact map_ne h4 hc rfl

end Go.Proofs.YtcnbpajlocoocaaDoor
