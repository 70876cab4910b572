/- A disk as memory; contracts of the small functions on it. -/
import Derived.Test.YtcnbpajlocoocaaDoorTexts
import Derived.Maps.OwnSet
import Derived.Deep.MidRow
import Derived.OneCell
namespace Go.Proofs.YtcnbpajlocoocaaDoor
open Go.RowKit Go.Maps

theorem infoSector : (Tryd.prog.info? 81).map (fun i => (i.zero, i.size, i.bytes)) = some (some (.agg (Array.replicate 128 (.int .u8 0))), 128, 128) := by kernel_rfl
theorem infoWrite : (Tryd.prog.info? 83).map (fun i => (i.zero, i.size, i.bytes)) = some (some (.agg (#[.int .i64 0] ++ Array.replicate 128 (.int .u8 0))), 129, 136) := by kernel_rfl
theorem intKeyed : Keyed Tryd.prog 3 := int_keyed Tryd.underlying3

/-- What a disk holds. -/
structure DSt where
  lasts : List (List UInt8)
  waits : List (Nat × List UInt8)
  armed : Int
  ops : Nat

/-- The place of the last write of a sector, if one waits. -/
def lastR : List (Nat × List UInt8) → Nat → Option Nat
  | [], _ => none
  | x :: r, i => if x.1 = i then some r.length else lastR r i
def lastIx (ws : List (Nat × List UInt8)) (i : Nat) : Option Nat := lastR ws.reverse i
theorem lastIx_nil (i : Nat) : lastIx [] i = none := rfl
theorem lastIx_snoc (ws : List (Nat × List UInt8)) (x : Nat × List UInt8) (i : Nat) : lastIx (ws ++ [x]) i = if x.1 = i then some ws.length else lastIx ws i := by
  unfold lastIx
  rw [List.reverse_append]
  simp [lastR]
theorem lastR_lt : ∀ (r : List (Nat × List UInt8)) (i j : Nat), lastR r i = some j → j < r.length
  | [], _, _, h => by cases h
  | x :: r, i, j, h => by
    unfold lastR at h
    split at h
    · injection h with h; subst h; simp
    · have := lastR_lt r i j h; simp; omega
theorem lastIx_lt {ws : List (Nat × List UInt8)} {i j : Nat} (h : lastIx ws i = some j) : j < ws.length := by
  have := lastR_lt _ _ _ h
  rwa [List.length_reverse] at this

/-- Cells of sectors, and of writes. -/
def flatL (ls : List (List UInt8)) : List Value := nums .u8 (nb ls.flatten)
def wrCells (x : Nat × List UInt8) : List Value := .int .i64 (x.1 : Int) :: nums .u8 (nb x.2)
def flatW (ws : List (Nat × List UInt8)) : List Value := (ws.map wrCells).flatten

/-- All sectors and texts are whole, and each write's sector is there. -/
def DOk (D : DSt) : Prop := 1 ≤ D.lasts.length ∧ D.lasts.length ≤ 4096 ∧ (∀ t ∈ D.lasts, t.length = 128) ∧ ∀ x ∈ D.waits, x.1 < D.lasts.length ∧ x.2.length = 128

/-- A map that tells of each sector the place of its last write. -/
def MapOf (m : DataW Unit) (ws : List (Nat × List UInt8)) : Prop := IsMap m ∧ ∀ i : Nat, (lastIx ws i = none → Maps.has m (.int .i64 (i : Int)) = false) ∧ ∀ j, lastIx ws i = some j → Maps.has m (.int .i64 (i : Int)) = true ∧ ∀ z, m.atKey (.int .i64 (i : Int)) z = .lit (.int .i64 (j : Int))
theorem MapOf.empty : MapOf (.map []) [] := ⟨isMap_empty, fun i => ⟨fun _ => rfl, fun j h => by cases h⟩⟩
theorem MapOf.put {m : DataW Unit} {ws : List (Nat × List UInt8)} (h : MapOf m ws) (x : Nat × List UInt8) : MapOf (m.put (.int .i64 (x.1 : Int)) (.lit (.int .i64 (ws.length : Int)))) (ws ++ [x]) := by
  refine ⟨h.1.put _ _, fun i => ?_⟩
  rw [lastIx_snoc]
  by_cases e : x.1 = i
  · subst e
    rw [if_pos rfl]
    refine ⟨fun hx => (by cases hx), fun j hj => ?_⟩
    injection hj with hj
    subst hj
    exact ⟨has_put_same h.1 (by trivial) _, fun z => atKey_put_same h.1 (by trivial) _ _⟩
  · rw [if_neg e]
    have hne : (Lit.int .i64 (i : Int)) ≠ .int .i64 (x.1 : Int) := by
      intro hx
      injection hx with _ hx
      omega
    refine ⟨fun hx => ?_, fun j hj => ?_⟩
    · rw [has_put_other hne]; exact (h.2 i).1 hx
    · obtain ⟨h1, h2⟩ := (h.2 i).2 j hj
      exact ⟨by rw [has_put_other hne]; exact h1, fun z => by rw [atKey_put_other hne]; exact h2 z⟩

/-- The slice of the writes that wait: of no room where none waits, else a row of the disk's own. -/
def OwnW (base : Nat) (w : World) (v : Value) (ws : List (Nat × List UInt8)) : Prop :=
  (ws = [] ∧ ∃ A, v = .slice A 0 0) ∨ (0 < ws.length ∧ w.ownsRow base 83 129 v ws.length (flatW ws))

/-- A disk. -/
def IsDisk (base : Nat) (w : World) (p gl M : Nat) (v : Value) (D : DSt) : Prop :=
  Blk w p 75 [.slice (some ⟨gl, 0, none⟩) D.lasts.length D.lasts.length, v, .map (some M), .int .i64 D.armed, .int .i64 (D.ops : Int)] ∧ Blk w gl 81 (flatL D.lasts) ∧
    OwnW base w v D.waits ∧ (∃ m, w.ownsMap Tryd.prog 3 (plainElem Tryd.prog 3) M D.waits.length m ∧ MapOf m D.waits) ∧ DOk D ∧ base ≤ p ∧ base ≤ gl ∧ base ≤ M

/-- All rows that are no part of a disk stay. -/
structure Keeps (w w' : World) : Prop where
  blk : ∀ k t cs, t ≠ 75 → t ≠ 81 → t ≠ 83 → Blk w k t cs → Blk w' k t cs
  oth : ∀ (k : Nat) (o : Obj), w.heap[k]? = some o → (∀ cs t f, o ≠ .cells cs t f) → (∀ es cl, o ≠ .map es cl) → w'.heap[k]? = some o
instance (w w' : World) : CoeFun (Keeps w w') (fun _ => ∀ k t cs, t ≠ 75 → t ≠ 81 → t ≠ 83 → Blk w k t cs → Blk w' k t cs) := ⟨Keeps.blk⟩
theorem Keeps.refl (w : World) : Keeps w w := ⟨fun _ _ _ _ _ _ h => h, fun _ _ h _ _ => h⟩
theorem Keeps.trans {a b c : World} (h : Keeps a b) (k : Keeps b c) : Keeps a c := ⟨fun g t cs h1 h2 h3 hb => k.blk g t cs h1 h2 h3 (h.blk g t cs h1 h2 h3 hb), fun g o hg h1 h2 => k.oth g o (h.oth g o hg h1 h2) h1 h2⟩
theorem Keeps.of_below {a b : World} (h : Below a.heap.size a b) : Keeps a b := ⟨fun _ _ _ _ _ _ hb => hb.keep h, fun g o hg _ _ => (h.block g (Array.getElem?_eq_some_iff.1 hg).1).trans hg⟩
theorem oth_ne {w : World} {g p t : Nat} {cs : List Value} {o : Obj} (hg : w.heap[g]? = some o) (h1 : ∀ cs t f, o ≠ .cells cs t f) (hp : Blk w p t cs) : g ≠ p := by
  rintro rfl
  have := hp.get
  rw [hg] at this
  injection this with this
  exact h1 _ _ _ this

theorem ownW_keep {w w' : World} {base e size n : Nat} {v : Value} {xs : List Value} (h : w.ownsRow base e size v n xs) (hb : Below w.heap.size w w') : w'.ownsRow base e size v n xs := by
  refine ⟨h.1, ?_⟩
  rcases h.2 with h0 | ⟨g, cap, cur, hv, hg, hh, hr⟩
  · exact .inl h0
  · refine .inr ⟨g, cap, cur, hv, hg, (hb.block g ?_).trans hh, hr⟩
    rcases Nat.lt_or_ge g w.heap.size with hl | hl
    · exact hl
    · rw [Array.getElem?_eq_none hl] at hh; cases hh
theorem ownW_ne {w : World} {base e size n B T : Nat} {v : Value} {xs cs : List Value} (h : w.ownsRow base e size v n xs) (hB : Blk w B T cs) (hne : T ≠ e) : v.ownBlock ≠ some B := by
  rcases h.2 with ⟨rfl, _⟩ | ⟨g, cap, cur, rfl, _, hh, _⟩
  · intro h; cases h
  · intro h
    have : g = B := by simpa [Value.ownBlock] using h
    subst this
    have h2 := hB.get
    rw [hh] at h2
    injection h2 with h2
    injection h2 with _ ht
    exact hne ht.symm
theorem OwnW.keep {base : Nat} {w w' : World} {v : Value} {ws : List (Nat × List UInt8)} (h : OwnW base w v ws) (hb : Below w.heap.size w w') : OwnW base w' v ws := by
  rcases h with h | ⟨h1, h2⟩
  · exact .inl h
  · exact .inr ⟨h1, ownW_keep h2 hb⟩
theorem OwnW.put {base : Nat} {w : World} {v : Value} {ws : List (Nat × List UInt8)} (h : OwnW base w v ws) {p i T : Nat} {cs : List Value} (hp : Blk w p T cs) (hT : T ≠ 83) (u : Value) : OwnW base (w.setCell ⟨p, i, none⟩ u) v ws := by
  rcases h with h | ⟨h1, h2⟩
  · exact .inl h
  · exact .inr ⟨h1, ownsRow_setCell_other h2 (ownW_ne h2 hp hT) u⟩
theorem ownW_form0 {w : World} {base e size n : Nat} {v : Value} {xs : List Value} (h : w.ownsRow base e size v n xs) : ∃ A c, v = .slice A n c := by
  rcases h.2 with ⟨rfl, rfl⟩ | ⟨g, cap, cur, rfl, _⟩
  · exact ⟨_, _, rfl⟩
  · exact ⟨_, _, rfl⟩
theorem OwnW.form {base : Nat} {w : World} {v : Value} {ws : List (Nat × List UInt8)} (h : OwnW base w v ws) : ∃ A c, v = .slice A ws.length c := by
  rcases h with ⟨rfl, A, rfl⟩ | ⟨h1, h2⟩
  · exact ⟨A, 0, rfl⟩
  · exact ownW_form0 h2
theorem map_keep {w w' : World} {M n : Nat} {m : DataW Unit} (h : w.ownsMap Tryd.prog 3 (plainElem Tryd.prog 3) M n m) (hb : Below w.heap.size w w') : w'.ownsMap Tryd.prog 3 (plainElem Tryd.prog 3) M n m := by
  obtain ⟨es, clock, h1, h2⟩ := h
  refine ⟨es, clock, (hb.block M ?_).trans h1, h2⟩
  rcases Nat.lt_or_ge M w.heap.size with hl | hl
  · exact hl
  · rw [Array.getElem?_eq_none hl] at h1; cases h1
theorem map_ne {w : World} {M n g t : Nat} {m : DataW Unit} {cs : List Value} (h : w.ownsMap Tryd.prog 3 (plainElem Tryd.prog 3) M n m) (hb : Blk w g t cs) : M ≠ g := by
  rintro rfl
  obtain ⟨es, clock, h1, _⟩ := h
  have h2 := hb.get
  rw [h1] at h2
  cases h2
theorem IsDisk.keep {base : Nat} {w w' : World} {p gl M : Nat} {v : Value} {D : DSt} (h : IsDisk base w p gl M v D) (hb : Below w.heap.size w w') : IsDisk base w' p gl M v D := by
  obtain ⟨h1, h2, h3, ⟨m, h4, h5⟩, h6⟩ := h
  exact ⟨h1.keep hb, h2.keep hb, h3.keep hb, ⟨m, map_keep h4 hb, h5⟩, h6⟩
theorem Blk.five {w : World} {g t : Nat} {a b c d e : Value} (h : Blk w g t [a, b, c, d, e]) : w.cell? ⟨g, 0, none⟩ = some a ∧ w.cell? ⟨g, 1, none⟩ = some b ∧ w.cell? ⟨g, 2, none⟩ = some c ∧ w.cell? ⟨g, 3, none⟩ = some d ∧ w.cell? ⟨g, 4, none⟩ = some e := ⟨h.cell 0, h.cell 1, h.cell 2, h.cell 3, h.cell 4⟩
/-- A store into the disk's own block. -/
theorem Keeps.put {w : World} {p i : Nat} {cs : List Value} (hp : Blk w p 75 cs) (u : Value) : Keeps w (w.setCell ⟨p, i, none⟩ u) := ⟨fun g t ds h1 _ _ hb =>
  hb.far (p := ⟨p, i, none⟩) (fun e => by
    have e' : g = p := e
    subst e'
    have := hp.get
    rw [hb.get] at this
    injection this with this
    injection this with _ ht
    exact h1 ht) u, fun g o hg n1 _ => (Below.heap_setCell w ⟨p, i, none⟩ u g (oth_ne hg n1 hp)).trans hg⟩
/-- A disk behind a store into its own block. -/
theorem IsDisk.put {base : Nat} {w : World} {p gl M : Nat} {v : Value} {D : DSt} (h : IsDisk base w p gl M v D) (i : Nat) (u v' : Value) (D' : DSt) (hL : D'.lasts = D.lasts) (hW : D'.waits = D.waits) (hv : v' = v)
    (hcs : [.slice (some ⟨gl, 0, none⟩) D.lasts.length D.lasts.length, v, .map (some M), .int .i64 D.armed, .int .i64 (D.ops : Int)].set i u = [.slice (some ⟨gl, 0, none⟩) D.lasts.length D.lasts.length, v, .map (some M), .int .i64 D'.armed, .int .i64 (D'.ops : Int)]) :
    IsDisk base (w.setCell ⟨p, i, none⟩ u) p gl M v' D' := by
  subst hv
  obtain ⟨h1, h2, h3, ⟨m, h4, h5⟩, h6, h7⟩ := h
  refine ⟨?_, ?_, ?_, ⟨m, ?_, ?_⟩, ?_, h7⟩
  · have := h1.set_ i u
    rw [hcs] at this
    rw [hL]; exact this
  · rw [hL]; exact h2.far (p := ⟨p, i, none⟩) (h2.ne_ h1 (by decide)) u
  · rw [hW]; exact h3.put h1 (by decide) u
  · rw [hW]; exact h4.setCell (a := ⟨p, i, none⟩) (map_ne h4 h1) u
  · rw [hW]; exact h5
  · unfold DOk at h6 ⊢; rw [hL, hW]; exact h6

set_option maxHeartbeats 1000000 in
theorem disk_Size (base : Nat) (w : World) (p gl M : Nat) (v : Value) (D : DSt) (h : IsDisk base w p gl M v D) :
    Calls Tryd.prog 49 #[.pointer (some ⟨p, 0, none⟩)] w fun e w' => e = .returned (.int .i64 (D.lasts.length : Int)) ∧ w = w' := by
  obtain ⟨c0, c1, c2, c3, c4⟩ := h.1.five
  clear h
  go_enter Tryd.func49, Tryd.ntmps49
  go_wp2
  go_ret
  exact ⟨rfl, rfl⟩

set_option maxHeartbeats 1000000 in
theorem disk_Ops (base : Nat) (w : World) (p gl M : Nat) (v : Value) (D : DSt) (h : IsDisk base w p gl M v D) :
    Calls Tryd.prog 51 #[.pointer (some ⟨p, 0, none⟩)] w fun e w' => e = .returned (.int .i64 (D.ops : Int)) ∧ w = w' := by
  obtain ⟨c0, c1, c2, c3, c4⟩ := h.1.five
  clear h
  go_enter Tryd.func51, Tryd.ntmps51
  go_wp2
  go_ret
  exact ⟨rfl, rfl⟩

set_option maxHeartbeats 1000000 in
theorem disk_Waiting (base : Nat) (w : World) (p gl M : Nat) (v : Value) (D : DSt) (h : IsDisk base w p gl M v D) :
    Calls Tryd.prog 50 #[.pointer (some ⟨p, 0, none⟩)] w fun e w' => e = .returned (.int .i64 (D.waits.length : Int)) ∧ w = w' := by
  obtain ⟨c0, c1, c2, c3, c4⟩ := h.1.five
  obtain ⟨A, c, rfl⟩ := OwnW.form h.2.2.1
  clear h
  go_enter Tryd.func50, Tryd.ntmps50
  go_wp2
  go_ret
  exact ⟨rfl, rfl⟩

/-- Is there such a sector? -/
def hasB (D : DSt) (i : Int) : Bool := decide (0 ≤ i) && decide (i < (D.lasts.length : Int))

set_option maxHeartbeats 1000000 in
theorem disk_has (base : Nat) (w : World) (p gl M : Nat) (v : Value) (D : DSt) (i : Int) (h : IsDisk base w p gl M v D) :
    Calls Tryd.prog 46 #[.pointer (some ⟨p, 0, none⟩), .int .i64 i] w fun e w' => e = .returned (.bool (hasB D i)) ∧ w = w' := by
  obtain ⟨c0, c1, c2, c3, c4⟩ := h.1.five
  clear h
  unfold hasB
  by_cases h0 : 0 ≤ i
  · have h1 : decide (0 ≤ i) = true := decide_eq_true h0
    rw [h1, Bool.true_and]
    go_enter Tryd.func46, Tryd.ntmps46
    go_wp2
    go_ret
    exact ⟨rfl, rfl⟩
  · have h1 : decide (0 ≤ i) = false := decide_eq_false h0
    rw [h1, Bool.false_and]
    go_enter Tryd.func46, Tryd.ntmps46
    go_wp2
    go_ret
    exact ⟨rfl, rfl⟩

end Go.Proofs.YtcnbpajlocoocaaDoor
