/- A disk as memory; contracts of the small functions on it. Contracts of goesOff, Arm, empty and New. The contract of a disk's Read. -/
import Derived.Test.YtbigpapniloknaaDoorJTxt
import Derived.Maps.OwnSet
import Derived.Deep.MidRow
import Derived.OneCell
import Derived.Deep.WholeRow
namespace Go.Proofs.YtbigpapniloknaaDoor
open Go.RowKit Go.Maps

theorem infoSector : (Tryd.prog.info? 80).map (fun i => (i.zero, i.size, i.bytes)) = some (some (.agg (Array.replicate 128 (.int .u8 0))), 128, 128) := by kernel_rfl
theorem infoWrite : (Tryd.prog.info? 82).map (fun i => (i.zero, i.size, i.bytes)) = some (some (.agg (#[.int .i64 0] ++ Array.replicate 128 (.int .u8 0))), 129, 136) := by kernel_rfl
theorem intKeyed : Keyed Tryd.prog 3 := int_keyed Tryd.underlying3

/-- What a disk holds. -/
structure DSt where
  lasts : List (List UInt8)
  waits : List (Nat × List UInt8)
  armed : Int
  ops : Nat

/-- The place of the last write of a sector, if one waits. -/
def lastR : List (Nat × List UInt8) → Nat → Option Nat
  | [], _ => none
  | x :: r, i => if x.1 = i then some r.length else lastR r i
def lastIx (ws : List (Nat × List UInt8)) (i : Nat) : Option Nat := lastR ws.reverse i
theorem lastIx_nil (i : Nat) : lastIx [] i = none := rfl
theorem lastIx_snoc (ws : List (Nat × List UInt8)) (x : Nat × List UInt8) (i : Nat) : lastIx (ws ++ [x]) i = if x.1 = i then some ws.length else lastIx ws i := by
  unfold lastIx
  rw [List.reverse_append]
  simp [lastR]
theorem lastR_lt : ∀ (r : List (Nat × List UInt8)) (i j : Nat), lastR r i = some j → j < r.length
  | [], _, _, h => by cases h
  | x :: r, i, j, h => by
    unfold lastR at h
    split at h
    · injection h with h; subst h; simp
    · have := lastR_lt r i j h; simp; omega
theorem lastIx_lt {ws : List (Nat × List UInt8)} {i j : Nat} (h : lastIx ws i = some j) : j < ws.length := by
  have := lastR_lt _ _ _ h
  rwa [List.length_reverse] at this

/-- Cells of sectors, and of writes. -/
def flatL (ls : List (List UInt8)) : List Value := nums .u8 (nb ls.flatten)
def wrCells (x : Nat × List UInt8) : List Value := .int .i64 (x.1 : Int) :: nums .u8 (nb x.2)
def flatW (ws : List (Nat × List UInt8)) : List Value := (ws.map wrCells).flatten

/-- All sectors and texts are whole, and each write's sector is there. -/
def DOk (D : DSt) : Prop := 1 ≤ D.lasts.length ∧ D.lasts.length ≤ 4096 ∧ (∀ t ∈ D.lasts, t.length = 128) ∧ ∀ x ∈ D.waits, x.1 < D.lasts.length ∧ x.2.length = 128

/-- A map that tells of each sector the place of its last write. -/
def MapOf (m : DataW Unit) (ws : List (Nat × List UInt8)) : Prop := IsMap m ∧ ∀ i : Nat, (lastIx ws i = none → Maps.has m (.int .i64 (i : Int)) = false) ∧ ∀ j, lastIx ws i = some j → Maps.has m (.int .i64 (i : Int)) = true ∧ ∀ z, m.atKey (.int .i64 (i : Int)) z = .lit (.int .i64 (j : Int))
theorem MapOf.empty : MapOf (.map []) [] := ⟨isMap_empty, fun i => ⟨fun _ => rfl, fun j h => by cases h⟩⟩
theorem MapOf.put {m : DataW Unit} {ws : List (Nat × List UInt8)} (h : MapOf m ws) (x : Nat × List UInt8) : MapOf (m.put (.int .i64 (x.1 : Int)) (.lit (.int .i64 (ws.length : Int)))) (ws ++ [x]) := by
  refine ⟨h.1.put _ _, fun i => ?_⟩
  rw [lastIx_snoc]
  by_cases e : x.1 = i
  · subst e
    rw [if_pos rfl]
    refine ⟨fun hx => (by cases hx), fun j hj => ?_⟩
    injection hj with hj
    subst hj
    exact ⟨has_put_same h.1 (by trivial) _, fun z => atKey_put_same h.1 (by trivial) _ _⟩
  · rw [if_neg e]
    have hne : (Lit.int .i64 (i : Int)) ≠ .int .i64 (x.1 : Int) := by
      intro hx
      injection hx with _ hx
      omega
    refine ⟨fun hx => ?_, fun j hj => ?_⟩
    · rw [has_put_other hne]; exact (h.2 i).1 hx
    · obtain ⟨h1, h2⟩ := (h.2 i).2 j hj
      exact ⟨by rw [has_put_other hne]; exact h1, fun z => by rw [atKey_put_other hne]; exact h2 z⟩

/-- The slice of the writes that wait: of no room where none waits, else a row of the disk's own. -/
def OwnW (base : Nat) (w : World) (v : Value) (ws : List (Nat × List UInt8)) : Prop :=
  (ws = [] ∧ ∃ A, v = .slice A 0 0) ∨ (0 < ws.length ∧ w.ownsRow base 82 129 v ws.length (flatW ws))

/-- A disk. -/
def IsDisk (base : Nat) (w : World) (p gl M : Nat) (v : Value) (D : DSt) : Prop :=
  Blk w p 58 [.slice (some ⟨gl, 0, none⟩) D.lasts.length D.lasts.length, v, .map (some M), .int .i64 D.armed, .int .i64 (D.ops : Int)] ∧ Blk w gl 80 (flatL D.lasts) ∧
    OwnW base w v D.waits ∧ (∃ m, w.ownsMap Tryd.prog 3 (plainElem Tryd.prog 3) M D.waits.length m ∧ MapOf m D.waits) ∧ DOk D ∧ base ≤ p ∧ base ≤ gl ∧ base ≤ M

/-- All rows that are no part of a disk stay. -/
structure Keeps (w w' : World) : Prop where
  blk : ∀ k t cs, t ≠ 58 → t ≠ 80 → t ≠ 82 → Blk w k t cs → Blk w' k t cs
  oth : ∀ (k : Nat) (o : Obj), w.heap[k]? = some o → (∀ cs t f, o ≠ .cells cs t f) → (∀ es cl, o ≠ .map es cl) → w'.heap[k]? = some o
instance (w w' : World) : CoeFun (Keeps w w') (fun _ => ∀ k t cs, t ≠ 58 → t ≠ 80 → t ≠ 82 → Blk w k t cs → Blk w' k t cs) := ⟨Keeps.blk⟩
theorem Keeps.refl (w : World) : Keeps w w := ⟨fun _ _ _ _ _ _ h => h, fun _ _ h _ _ => h⟩
theorem Keeps.trans {a b c : World} (h : Keeps a b) (k : Keeps b c) : Keeps a c := ⟨fun g t cs h1 h2 h3 hb => k.blk g t cs h1 h2 h3 (h.blk g t cs h1 h2 h3 hb), fun g o hg h1 h2 => k.oth g o (h.oth g o hg h1 h2) h1 h2⟩
theorem Keeps.of_below {a b : World} (h : Below a.heap.size a b) : Keeps a b := ⟨fun _ _ _ _ _ _ hb => hb.keep h, fun g o hg _ _ => (h.block g (Array.getElem?_eq_some_iff.1 hg).1).trans hg⟩
theorem oth_ne {w : World} {g p t : Nat} {cs : List Value} {o : Obj} (hg : w.heap[g]? = some o) (h1 : ∀ cs t f, o ≠ .cells cs t f) (hp : Blk w p t cs) : g ≠ p := by
  rintro rfl
  have := hp.get
  rw [hg] at this
  injection this with this
  exact h1 _ _ _ this

theorem ownW_keep {w w' : World} {base e size n : Nat} {v : Value} {xs : List Value} (h : w.ownsRow base e size v n xs) (hb : Below w.heap.size w w') : w'.ownsRow base e size v n xs := by
  refine ⟨h.1, ?_⟩
  rcases h.2 with h0 | ⟨g, cap, cur, hv, hg, hh, hr⟩
  · exact .inl h0
  · refine .inr ⟨g, cap, cur, hv, hg, (hb.block g ?_).trans hh, hr⟩
    rcases Nat.lt_or_ge g w.heap.size with hl | hl
    · exact hl
    · rw [Array.getElem?_eq_none hl] at hh; cases hh
theorem ownW_ne {w : World} {base e size n B T : Nat} {v : Value} {xs cs : List Value} (h : w.ownsRow base e size v n xs) (hB : Blk w B T cs) (hne : T ≠ e) : v.ownBlock ≠ some B := by
  rcases h.2 with ⟨rfl, _⟩ | ⟨g, cap, cur, rfl, _, hh, _⟩
  · intro h; cases h
  · intro h
    have : g = B := by simpa [Value.ownBlock] using h
    subst this
    have h2 := hB.get
    rw [hh] at h2
    injection h2 with h2
    injection h2 with _ ht
    exact hne ht.symm
theorem OwnW.keep {base : Nat} {w w' : World} {v : Value} {ws : List (Nat × List UInt8)} (h : OwnW base w v ws) (hb : Below w.heap.size w w') : OwnW base w' v ws := by
  rcases h with h | ⟨h1, h2⟩
  · exact .inl h
  · exact .inr ⟨h1, ownW_keep h2 hb⟩
theorem OwnW.put {base : Nat} {w : World} {v : Value} {ws : List (Nat × List UInt8)} (h : OwnW base w v ws) {p i T : Nat} {cs : List Value} (hp : Blk w p T cs) (hT : T ≠ 82) (u : Value) : OwnW base (w.setCell ⟨p, i, none⟩ u) v ws := by
  rcases h with h | ⟨h1, h2⟩
  · exact .inl h
  · exact .inr ⟨h1, ownsRow_setCell_other h2 (ownW_ne h2 hp hT) u⟩
theorem ownW_form0 {w : World} {base e size n : Nat} {v : Value} {xs : List Value} (h : w.ownsRow base e size v n xs) : ∃ A c, v = .slice A n c := by
  rcases h.2 with ⟨rfl, rfl⟩ | ⟨g, cap, cur, rfl, _⟩
  · exact ⟨_, _, rfl⟩
  · exact ⟨_, _, rfl⟩
theorem OwnW.form {base : Nat} {w : World} {v : Value} {ws : List (Nat × List UInt8)} (h : OwnW base w v ws) : ∃ A c, v = .slice A ws.length c := by
  rcases h with ⟨rfl, A, rfl⟩ | ⟨h1, h2⟩
  · exact ⟨A, 0, rfl⟩
  · exact ownW_form0 h2
theorem map_keep {w w' : World} {M n : Nat} {m : DataW Unit} (h : w.ownsMap Tryd.prog 3 (plainElem Tryd.prog 3) M n m) (hb : Below w.heap.size w w') : w'.ownsMap Tryd.prog 3 (plainElem Tryd.prog 3) M n m := by
  obtain ⟨es, clock, h1, h2⟩ := h
  refine ⟨es, clock, (hb.block M ?_).trans h1, h2⟩
  rcases Nat.lt_or_ge M w.heap.size with hl | hl
  · exact hl
  · rw [Array.getElem?_eq_none hl] at h1; cases h1
theorem map_ne {w : World} {M n g t : Nat} {m : DataW Unit} {cs : List Value} (h : w.ownsMap Tryd.prog 3 (plainElem Tryd.prog 3) M n m) (hb : Blk w g t cs) : M ≠ g := by
  rintro rfl
  obtain ⟨es, clock, h1, _⟩ := h
  have h2 := hb.get
  rw [h1] at h2
  cases h2
theorem IsDisk.keep {base : Nat} {w w' : World} {p gl M : Nat} {v : Value} {D : DSt} (h : IsDisk base w p gl M v D) (hb : Below w.heap.size w w') : IsDisk base w' p gl M v D := by
  obtain ⟨h1, h2, h3, ⟨m, h4, h5⟩, h6⟩ := h
  exact ⟨h1.keep hb, h2.keep hb, h3.keep hb, ⟨m, map_keep h4 hb, h5⟩, h6⟩
theorem Blk.five {w : World} {g t : Nat} {a b c d e : Value} (h : Blk w g t [a, b, c, d, e]) : w.cell? ⟨g, 0, none⟩ = some a ∧ w.cell? ⟨g, 1, none⟩ = some b ∧ w.cell? ⟨g, 2, none⟩ = some c ∧ w.cell? ⟨g, 3, none⟩ = some d ∧ w.cell? ⟨g, 4, none⟩ = some e := ⟨h.cell 0, h.cell 1, h.cell 2, h.cell 3, h.cell 4⟩
/-- A store into the disk's own block. -/
theorem Keeps.put {w : World} {p i : Nat} {cs : List Value} (hp : Blk w p 58 cs) (u : Value) : Keeps w (w.setCell ⟨p, i, none⟩ u) := ⟨fun g t ds h1 _ _ hb =>
  hb.far (p := ⟨p, i, none⟩) (fun e => by
    have e' : g = p := e
    subst e'
    have := hp.get
    rw [hb.get] at this
    injection this with this
    injection this with _ ht
    exact h1 ht) u, fun g o hg n1 _ => (Below.heap_setCell w ⟨p, i, none⟩ u g (oth_ne hg n1 hp)).trans hg⟩
/-- A disk behind a store into its own block. -/
theorem IsDisk.put {base : Nat} {w : World} {p gl M : Nat} {v : Value} {D : DSt} (h : IsDisk base w p gl M v D) (i : Nat) (u v' : Value) (D' : DSt) (hL : D'.lasts = D.lasts) (hW : D'.waits = D.waits) (hv : v' = v)
    (hcs : [.slice (some ⟨gl, 0, none⟩) D.lasts.length D.lasts.length, v, .map (some M), .int .i64 D.armed, .int .i64 (D.ops : Int)].set i u = [.slice (some ⟨gl, 0, none⟩) D.lasts.length D.lasts.length, v, .map (some M), .int .i64 D'.armed, .int .i64 (D'.ops : Int)]) :
    IsDisk base (w.setCell ⟨p, i, none⟩ u) p gl M v' D' := by
  subst hv
  obtain ⟨h1, h2, h3, ⟨m, h4, h5⟩, h6, h7⟩ := h
  refine ⟨?_, ?_, ?_, ⟨m, ?_, ?_⟩, ?_, h7⟩
  · have := h1.set_ i u
    rw [hcs] at this
    rw [hL]; exact this
  · rw [hL]; exact h2.far (p := ⟨p, i, none⟩) (h2.ne_ h1 (by decide)) u
  · rw [hW]; exact h3.put h1 (by decide) u
  · rw [hW]; exact h4.setCell (a := ⟨p, i, none⟩) (map_ne h4 h1) u
  · rw [hW]; exact h5
  · unfold DOk at h6 ⊢; rw [hL, hW]; exact h6

set_option maxHeartbeats 1000000 in
theorem disk_Size (base : Nat) (w : World) (p gl M : Nat) (v : Value) (D : DSt) (h : IsDisk base w p gl M v D) :
    Calls Tryd.prog 26 #[.pointer (some ⟨p, 0, none⟩)] w fun e w' => e = .returned (.int .i64 (D.lasts.length : Int)) ∧ w = w' := by
  obtain ⟨c0, c1, c2, c3, c4⟩ := h.1.five
  clear h
  go_enter Tryd.func26, Tryd.ntmps26
  go_wp2
  go_ret
  exact ⟨rfl, rfl⟩

set_option maxHeartbeats 1000000 in
theorem disk_Waiting (base : Nat) (w : World) (p gl M : Nat) (v : Value) (D : DSt) (h : IsDisk base w p gl M v D) :
    Calls Tryd.prog 46 #[.pointer (some ⟨p, 0, none⟩)] w fun e w' => e = .returned (.int .i64 (D.waits.length : Int)) ∧ w = w' := by
  obtain ⟨c0, c1, c2, c3, c4⟩ := h.1.five
  obtain ⟨A, c, rfl⟩ := OwnW.form h.2.2.1
  clear h
  go_enter Tryd.func46, Tryd.ntmps46
  go_wp2
  go_ret
  exact ⟨rfl, rfl⟩

/-- Is there such a sector? -/
def hasB (D : DSt) (i : Int) : Bool := decide (0 ≤ i) && decide (i < (D.lasts.length : Int))

set_option maxHeartbeats 1000000 in
theorem disk_has (base : Nat) (w : World) (p gl M : Nat) (v : Value) (D : DSt) (i : Int) (h : IsDisk base w p gl M v D) :
    Calls Tryd.prog 34 #[.pointer (some ⟨p, 0, none⟩), .int .i64 i] w fun e w' => e = .returned (.bool (hasB D i)) ∧ w = w' := by
  obtain ⟨c0, c1, c2, c3, c4⟩ := h.1.five
  clear h
  unfold hasB
  by_cases h0 : 0 ≤ i
  · have h1 : decide (0 ≤ i) = true := decide_eq_true h0
    rw [h1, Bool.true_and]
    go_enter Tryd.func34, Tryd.ntmps34
    go_wp2
    go_ret
    exact ⟨rfl, rfl⟩
  · have h1 : decide (0 ≤ i) = false := decide_eq_false h0
    rw [h1, Bool.false_and]
    go_enter Tryd.func34, Tryd.ntmps34
    go_wp2
    go_ret
    exact ⟨rfl, rfl⟩

end Go.Proofs.YtbigpapniloknaaDoor

namespace Go.Proofs.YtbigpapniloknaaDoor
open Go.RowKit Go.Maps Go.ChangeMaps Go.MapKept

/-- The armed number counts down; is this the one that fails? -/
def fires (D : DSt) : DSt × Bool := if D.armed ≤ 0 then (D, false) else ({ D with armed := D.armed - 1 }, D.armed - 1 == 0)
theorem fires_lasts (D : DSt) : (fires D).1.lasts = D.lasts := by unfold fires; split <;> rfl
theorem fires_waits (D : DSt) : (fires D).1.waits = D.waits := by unfold fires; split <;> rfl
theorem fires_ops (D : DSt) : (fires D).1.ops = D.ops := by unfold fires; split <;> rfl
/-- The armed number is an int's. -/
def ArmOk (D : DSt) : Prop := -9223372036854775808 ≤ D.armed ∧ D.armed ≤ 9223372036854775807
theorem fires_arm {D : DSt} (h : ArmOk D) : ArmOk (fires D).1 := by
  unfold fires ArmOk at *
  split
  · exact h
  · simp only; omega

set_option maxHeartbeats 1000000 in
theorem disk_goesOff (base : Nat) (w : World) (p gl M : Nat) (v : Value) (D : DSt) (h : IsDisk base w p gl M v D) (ha : ArmOk D) :
    Calls Tryd.prog 47 #[.pointer (some ⟨p, 0, none⟩)] w fun e w' => e = .returned (.bool (fires D).2) ∧ IsDisk base w' p gl M v (fires D).1 ∧ Below base w w' ∧ Keeps w w' := by
  obtain ⟨c0, c1, c2, c3, c4⟩ := h.1.five
  have H := Lib.hid h
  obtain ⟨a1, a2⟩ := ha
  clear h
  unfold fires
  obtain ⟨a, ha⟩ : ∃ a, a = D.armed := ⟨_, rfl⟩
  have HA := Lib.hid ha
  rw [← ha] at c3 a1 a2 ⊢
  clear ha
  by_cases h0 : a ≤ 0
  · have hd : decide (a ≤ 0) = true := decide_eq_true h0
    rw [if_pos h0]
    go_enter Tryd.func47, Tryd.ntmps47
    go_wp2
    go_ret
    exact ⟨rfl, H.out, Below.refl _ _, Keeps.refl _⟩
  · have hd : decide (a ≤ 0) = false := decide_eq_false h0
    have hw : IntKind.i64.wrap (a - 1) = a - 1 := IntWalk.i64_in _ (by omega)
    have z3 := H.out.1.frozen 3
    have H2 := Lib.hid (H.out.put 3 (.int .i64 (a - 1)) v { D with armed := a - 1 } rfl rfl rfl rfl)
    have K2 := Lib.hid (Keeps.put (i := 3) H.out.1 (.int .i64 (a - 1)))
    have HP := Lib.hid H.out.2.2.2.2.2.1
    rw [if_neg h0]
    go_enter Tryd.func47, Tryd.ntmps47
    go_wp2
    go_ret
    exact ⟨rfl, H2.out, (Below.refl _ _).setCell (p := ⟨p, 3, none⟩) HP.out _, K2.out⟩

set_option maxHeartbeats 1000000 in
theorem disk_Arm (base : Nat) (w : World) (p gl M : Nat) (v : Value) (D : DSt) (n : Int) (h : IsDisk base w p gl M v D) :
    Calls Tryd.prog 13 #[.pointer (some ⟨p, 0, none⟩), .int .i64 n] w fun e w' => e = .returned (.tuple #[]) ∧ IsDisk base w' p gl M v { D with armed := n } ∧ Below base w w' ∧ Keeps w w' := by
  obtain ⟨c0, c1, c2, c3, c4⟩ := h.1.five
  have z3 := h.1.frozen 3
  have H2 := Lib.hid (h.put 3 (.int .i64 n) v { D with armed := n } rfl rfl rfl rfl)
  have K2 := Lib.hid (Keeps.put (i := 3) h.1 (.int .i64 n))
  have HP := Lib.hid h.2.2.2.2.2.1
  clear h
  go_enter Tryd.func13, Tryd.ntmps13
  go_wp2
  go_end0
  exact ⟨rfl, H2.out, (Below.refl _ _).setCell (p := ⟨p, 3, none⟩) HP.out _, K2.out⟩

theorem run_clear_map {P : Program} {k e t : TypeId} {R : Value → Option (DataW Unit × List MemPlace)} {w : World} {b n : Nat} {m : DataW Unit} (h : w.ownsMap P k R b n m) (ht : P.underlying t = some (.map k e)) (ty : TypeId) :
    ∃ w', (Builtin.clear_ #[t] ty #[.map (some b)]).run P w = .ok (.tuple #[]) w' ∧ w'.ownsMap P k R b 0 (.map []) ∧ w.mapTurned w' b := by
  obtain ⟨es, clock, hb, F, hs, rfl⟩ := h
  refine ⟨_, ?_, ⟨#[], clock, heap_setBlock_same hb _, ⟨by simp, stamped_empty clock, by simp⟩, Nat.le_refl _, rfl⟩, ⟨es, clock, #[], clock, hb, rfl⟩⟩
  simp [Builtin.clear_, run_underlying ht, MapKept.run_getObj_map hb, MapKept.run_setObj_map _ hb, setBlock, Result.andThen]

theorem wpList_clear_own {P : Program} {ops : Array Oper} {rest : List Oper} {o : Oper} {a : Act} {w : World} {Q : Exit → Act → World → Prop} (hg : o.guard = none) (m : Operand) (t : TypeId) (hop : o.op = Op.call { callee := Callee.builtin Builtin.clear, args := #[m], argTypes := #[t] })
    (k e : TypeId) (ht : P.underlying t = some (.map k e)) (R : Value → Option (DataW Unit × List MemPlace)) (b n : Nat) (D : DataW Unit) (hm : a.eval m = .map (some b)) (hown : w.ownsMap P k R b n D)
    (hK : ∀ w', w'.ownsMap P k R b 0 (.map []) → w.mapTurned w' b → wpList P ops Q rest (a.put o.dst (.tuple #[])) w') :
    wpList P ops Q (o :: rest) a w := by
  refine wpList_plain hg fun K' hK' => ?_
  obtain ⟨w', hrun, r1, r2⟩ := run_clear_map hown ht o.type
  unfold Oper.wp
  simp [execOp, hop, resolve, invoke, builtin, hm, hrun, Result.andThen]
  exact hK' _ _ (hK w' r1 r2)

theorem Blk.turned {w w' : World} {M g t : Nat} {cs : List Value} (h : Blk w g t cs) (ht : w.mapTurned w' M) : Blk w' g t cs := by
  refine h.grown ht.grown (fun e => ?_)
  obtain ⟨es, clock, _, _, h1, _⟩ := ht
  injection e with e
  subst e
  have := h.get
  rw [h1] at this
  cases this
theorem Keeps.turned {w w' : World} {M : Nat} (ht : w.mapTurned w' M) : Keeps w w' := ⟨fun _ _ _ _ _ _ hb => hb.turned ht, fun g o hg _ n2 => (ht.grown.block g (Array.getElem?_eq_some_iff.1 hg).1 (fun e => by
  obtain ⟨es, clock, _, _, h1, _⟩ := ht
  injection e with e
  subst e
  rw [hg] at h1
  injection h1 with h1
  exact n2 _ _ h1)).trans hg⟩
theorem Below.turned {w w' : World} {M B : Nat} (ht : w.mapTurned w' M) (hM : B ≤ M) : Below B w w' := by
  have hg := ht.grown
  exact ⟨hg.os, hg.tape, hg.output, hg.size, fun k hk => hg.block k (by
    obtain ⟨_, _, _, _, h1, _⟩ := ht
    rcases Nat.lt_or_ge M w.heap.size with hl | hl
    · omega
    · rw [Array.getElem?_eq_none hl] at h1; cases h1) (fun e => by injection e with e; omega)⟩

set_option maxHeartbeats 2000000 in
theorem disk_empty (base : Nat) (w : World) (p gl M : Nat) (v : Value) (D : DSt) (h : IsDisk base w p gl M v D) :
    Calls Tryd.prog 32 #[.pointer (some ⟨p, 0, none⟩)] w fun e w' => e = .returned (.tuple #[]) ∧ ∃ v', IsDisk base w' p gl M v' { D with waits := [] } ∧ Below base w w' ∧ Keeps w w' := by
  obtain ⟨c0, c1, c2, c3, c4⟩ := h.1.five
  obtain ⟨A, c, hv⟩ := h.2.2.1.form
  subst hv
  obtain ⟨h1, h2, h3, ⟨m, h4, h5⟩, h6, h7, h8, h9⟩ := h
  have H1 := Lib.hid h1
  have H2 := Lib.hid h2
  have H4 := Lib.hid h4
  have H6 := Lib.hid h6
  clear h1 h2 h3 h4 h5 h6
  go_enter Tryd.func32, Tryd.ntmps32
  go_wp2_with (refine wpList_clear_own rfl _ 55 rfl 3 3 Tryd.underlying55 (plainElem Tryd.prog 3) M _ m rfl H4.out ?_)
  intro w1 hm1 ht1
  have T1 := Lib.hid ht1
  have P1 := Lib.hid (H1.out.turned ht1)
  have G1 := Lib.hid (H2.out.turned ht1)
  have M1 := Lib.hid hm1
  obtain ⟨d0, d1, d2, d3, d4⟩ := P1.out.five
  have z1 := P1.out.frozen 1
  clear hm1 ht1
  go_wp2
  go_end0
  refine ⟨rfl, .slice A 0 0, ⟨?_, ?_, .inl ⟨rfl, A, rfl⟩, ⟨.map [], ?_, MapOf.empty⟩, ⟨H6.out.1, H6.out.2.1, H6.out.2.2.1, fun x hx => by cases hx⟩, h7, h8, h9⟩, ?_, ?_⟩
  · exact P1.out.set_ 1 _
  · exact G1.out.far (p := ⟨p, 1, none⟩) (G1.out.ne_ P1.out (by decide)) _
  · exact M1.out.setCell (a := ⟨p, 1, none⟩) (map_ne M1.out P1.out) _
  · exact (Below.turned T1.out h9).setCell (p := ⟨p, 1, none⟩) h7 _
  · exact (Keeps.turned T1.out).trans (Keeps.put (i := 1) P1.out _)

/-- A disk that is new. -/
def newD (n : Nat) : DSt := ⟨List.replicate n (List.replicate 128 0), [], 0, 0⟩
theorem flat_rep (n : Nat) : flatL (List.replicate n (List.replicate 128 0)) = List.replicate (n * 128) (.int .u8 0) := by
  unfold flatL nb
  rw [List.flatten_replicate_replicate, List.map_replicate]
  exact nums_replicate .u8 (n * 128)

theorem made_rep (k : Nat) (z : Value) (m : Nat) (hm : 0 < m) : (madeCells (Array.replicate m z) k).toList = List.replicate k z := by
  refine List.eq_replicate_iff.2 ⟨by rw [Array.length_toList, size_madeCells], fun b hb => ?_⟩
  unfold madeCells at hb
  rw [Array.toList_map, List.mem_map] at hb
  obtain ⟨i, _, rfl⟩ := hb
  have h : i % (Array.replicate m z).size < (Array.replicate m z).size := Nat.mod_lt _ (by simpa using hm)
  rw [getElem!_pos (Array.replicate m z) _ h, Array.getElem_replicate]
theorem Blk.of_ownN {w : World} {g base e size n : Nat} {xs : List Value} (h : w.ownsRow base e size (.slice (some ⟨g, 0, none⟩) n n) n xs) (hs : 0 < size) : Blk w g e xs := by
  obtain ⟨_, h2⟩ := h
  rcases h2 with ⟨h0, _⟩ | ⟨g', cap, cur, hv, _, hh, _, _, hs, ht⟩
  · cases h0
  · injection hv with hv hn hcap
    injection hv with hv
    injection hv with hv
    subst hv hcap
    unfold Blk
    rw [hh, ← ht, List.take_of_length_le (by simp [hs])]

theorem disk_New_bad (n : Int) (w : World) (h : n < 1 ∨ 4096 < n) :
    Calls Tryd.prog 6 #[.int .i64 n] w fun e w' => e = .returned (.tuple #[.pointer none, .int .i64 5]) ∧ w = w' := by
  by_cases h1 : n < 1
  · have hd : decide (n < 1) = true := decide_eq_true h1
    go_enter Tryd.func6, Tryd.ntmps6
    go_wp2
    go_ret2
    exact ⟨rfl, rfl⟩
  · have hd : decide (n < 1) = false := decide_eq_false h1
    have hd2 : decide (4096 < n) = true := decide_eq_true (by omega)
    go_enter Tryd.func6, Tryd.ntmps6
    go_wp2
    go_ret2
    exact ⟨rfl, rfl⟩

set_option maxHeartbeats 2000000 in
theorem disk_New (n : Nat) (w : World) (h1 : 1 ≤ n) (h2 : n ≤ 4096) :
    Calls Tryd.prog 6 #[.int .i64 (n : Int)] w fun e w' => ∃ p gl M v, e = .returned (.tuple #[.pointer (some ⟨p, 0, none⟩), .int .i64 0]) ∧ IsDisk w.heap.size w' p gl M v (newD n) ∧ Below w.heap.size w w' := by
  obtain ⟨i0, hi, hz0, hz1, hz2⟩ := info_parts infoSector
  have hd : decide ((n : Int) < 1) = false := decide_eq_false (by omega)
  have hd2 : decide (4096 < (n : Int)) = false := decide_eq_false (by omega)
  have hmm := @run_makeMap Tryd.prog
  go_enter Tryd.func6, Tryd.ntmps6
  go_wp2_with (at_make; refine wpList_make_full _ rfl _ _ 54 rfl w.heap.size 80 i0 (.agg (Array.replicate 128 (.int .u8 0))) 128 Tryd.underlying54 hi hz0 hz1 .i64 .i64 _ _ n rfl rfl rfl rfl (by rw [hz2]; omega) (by simp only [maxLen]; omega) (Nat.le_refl _) ?_; intro w1 hown hgr; have G0 := Lib.hid hown; clear hown)
  have G1 : Hid (Blk w1 w.heap.size 80 (flatL (newD n).lasts)) := Lib.hid (by
    have h := Blk.of_ownN G0.out (by decide)
    have e : (madeCells (Value.agg (Array.replicate 128 (.int .u8 0))).cells (n * 128)).toList = flatL (newD n).lasts := (made_rep (n * 128) (.int .u8 0) 128 (by decide)).trans (flat_rep n).symm
    rw [e] at h
    exact h)
  have B1 := Lib.hid ((Below.refl w.heap.size w).grown hgr (Nat.le_refl _) (fun k hk => by cases hk))
  have L1 := Lib.hid G1.out.lt
  clear hgr G0
  go_wp2_with fail
  go_ret2
  have B2 := B1.out.alloc B1.out.size (.map #[] 0)
  refine ⟨w1.heap.size + 1, w.heap.size, w1.heap.size, .slice none 0 0, rfl, ⟨?_, ?_, .inl ⟨rfl, none, rfl⟩, ⟨.map [], ?_, MapOf.empty⟩, ⟨?_, ?_, ?_, fun x hx => by cases hx⟩, ?_, Nat.le_refl _, B1.out.size⟩, B2.alloc B2.size _⟩
  · have h : Blk ((w1.alloc (.map #[] 0)).alloc (.cells #[.slice (some ⟨w.heap.size, 0, none⟩) n n, .slice none 0 0, .map (some w1.heap.size), .int .i64 0, .int .i64 0] 58)) (w1.alloc (.map #[] 0)).heap.size 58 [.slice (some ⟨w.heap.size, 0, none⟩) n n, .slice none 0 0, .map (some w1.heap.size), .int .i64 0, .int .i64 0] := heap_alloc_new _ _
    rw [show (w1.alloc (.map #[] 0)).heap.size = w1.heap.size + 1 from by simp] at h
    simpa [newD] using h
  · exact (G1.out.alloc _).alloc _
  · exact (World.ownsMap_made w1 Tryd.prog 3 (plainElem Tryd.prog 3)).alloc _
  · simp [newD]; exact h1
  · simp [newD]; exact h2
  · intro t ht
    have := List.eq_of_mem_replicate ht
    rw [this, List.length_replicate]
  · exact Nat.le_succ_of_le B1.out.size

end Go.Proofs.YtbigpapniloknaaDoor

namespace Go.Proofs.YtbigpapniloknaaDoor
open Go.RowKit Go.Maps Go.ChangeMaps Go.MapKept

/-- What is read: the text, the code. -/
def rdD (D : DSt) (i : Int) : List UInt8 × Nat :=
  if hasB D i = true then (match lastIx D.waits i.toNat with
    | some j => ((D.waits.getD j (0, [])).2, 0)
    | none => (D.lasts.getD i.toNat [], 0)) else ([], 5)
theorem rdD_no {D : DSt} {i : Int} (h : hasB D i = false) : rdD D i = ([], 5) := by unfold rdD; rw [h]; rfl
theorem hasB_nat {D : DSt} {i : Nat} (h : i < D.lasts.length) : hasB D (i : Int) = true := by unfold hasB; simp; exact h
theorem hasB_nat_iff {D : DSt} {i : Int} : hasB D i = true ↔ ∃ k : Nat, i = k ∧ k < D.lasts.length := by
  unfold hasB
  rw [Bool.and_eq_true, decide_eq_true_iff, decide_eq_true_iff]
  exact ⟨fun h => ⟨i.toNat, by omega, by omega⟩, fun ⟨k, h1, h2⟩ => by omega⟩
theorem rdD_wait {D : DSt} {i j : Nat} (h : i < D.lasts.length) (hj : lastIx D.waits i = some j) : rdD D (i : Int) = ((D.waits.getD j (0, [])).2, 0) := by
  unfold rdD; rw [hasB_nat h, if_pos rfl, Int.toNat_natCast, hj]
theorem rdD_last {D : DSt} {i : Nat} (h : i < D.lasts.length) (hj : lastIx D.waits i = none) : rdD D (i : Int) = (D.lasts.getD i [], 0) := by
  unfold rdD; rw [hasB_nat h, if_pos rfl, Int.toNat_natCast, hj]

/-- Rows of one length, flat. -/
theorem flat_get {α : Type} {m : Nat} : ∀ (ls : List (List α)) (_ : ∀ t ∈ ls, t.length = m) (i k : Nat) (_ : k < m) (h : i < ls.length), ls.flatten[i * m + k]? = (ls[i])[k]?
  | [], _, i, k, _, h => by cases h
  | t :: ls, hl, 0, k, hk, h => by
    have ht := hl t (by simp)
    rw [List.flatten_cons, Nat.zero_mul, Nat.zero_add, List.getElem?_append_left (by omega)]
    rfl
  | t :: ls, hl, i + 1, k, hk, h => by
    have ht := hl t (by simp)
    rw [List.flatten_cons, List.getElem?_append_right (by rw [Nat.succ_mul]; omega), ht, show (i + 1) * m + k - m = i * m + k from by rw [Nat.succ_mul]; omega]
    exact flat_get ls (fun t h => hl t (by simp [h])) i k hk (by simpa using h)

/-- A stretch of a row that reads as these bytes. -/
def At (w : World) (g o : Nat) (l : List UInt8) : Prop := ∀ k (h : k < l.length), w.cell? ⟨g, o + k, none⟩ = some (.int .u8 ((l[k]).toNat : Int))
theorem At.conv {w : World} {g o : Nat} {l : List UInt8} (h : At w g o l) (cap : Nat) : (convert 86 9 (.slice (some ⟨g, o, none⟩) l.length cap)).run Tryd.prog w = .ok (.string (bs l)) w := by
  have := run_convert_bytes_arg (P := Tryd.prog) w 86 5 Tryd.underlying86 Tryd.underlying5 g o l.length cap ((nb l).map fun x : Nat => (x : Int)) (by rw [List.length_map, nb_len]) (fun i hi => by
    rw [h i hi, List.getD_eq_getElem?_getD, List.getElem?_map, nb, List.getElem?_map, List.getElem?_eq_getElem hi]
    rfl) 9 Tryd.underlying9
  rw [str_nb] at this
  exact this
theorem nums_nb_get (l : List UInt8) (k : Nat) : (nums .u8 (nb l))[k]? = (l[k]?).map fun b => Value.int .u8 (b.toNat : Int) := by
  simp [nums, nb, Function.comp_def]

theorem at_last {base : Nat} {w : World} {p gl M : Nat} {v : Value} {D : DSt} (h : IsDisk base w p gl M v D) {i : Nat} (hi : i < D.lasts.length) : At w gl (i * 128) (D.lasts.getD i []) ∧ (D.lasts.getD i []).length = 128 := by
  have hok := h.2.2.2.2.1.2.2.1
  have e : D.lasts.getD i [] = D.lasts[i] := by rw [List.getD_eq_getElem?_getD, List.getElem?_eq_getElem hi]; rfl
  have hl : (D.lasts[i]).length = 128 := hok _ (List.getElem_mem hi)
  rw [e]
  refine ⟨fun k hk => ?_, hl⟩
  rw [h.2.1.cell, flatL, nums_nb_get, flat_get D.lasts hok i k (by omega) hi, List.getElem?_eq_getElem hk]
  rfl

theorem wrCells_len {x : Nat × List UInt8} (h : x.2.length = 128) : (wrCells x).length = 129 := by
  unfold wrCells; rw [List.length_cons, nums_length, nb_len, h]
theorem flatW_get {ws : List (Nat × List UInt8)} (h : ∀ x ∈ ws, x.2.length = 128) {j k : Nat} (hj : j < ws.length) (hk : k < 129) : (flatW ws)[j * 129 + k]? = (wrCells ws[j])[k]? := by
  unfold flatW
  rw [flat_get (ws.map wrCells) (fun t ht => by
    obtain ⟨x, hx, rfl⟩ := List.mem_map.1 ht
    exact wrCells_len (h x hx)) j k hk (by simpa using hj), List.getElem_map]

theorem at_wait {base : Nat} {w : World} {p gl M : Nat} {v : Value} {D : DSt} (h : IsDisk base w p gl M v D) {j : Nat} (hj : j < D.waits.length) :
    ∃ g c, v = .slice (some ⟨g, 0, none⟩) D.waits.length c ∧ D.waits.length ≤ c ∧ At w g (j * 129 + 1) (D.waits.getD j (0, [])).2 ∧ (D.waits.getD j (0, [])).2.length = 128 ∧ w.cell? ⟨g, j * 129, none⟩ = some (.int .i64 (((D.waits.getD j (0, [])).1 : Nat) : Int)) := by
  rcases h.2.2.1 with ⟨e, _⟩ | ⟨h1, h2⟩
  · rw [e] at hj; cases hj
  · have h3 := h2
    rcases h2.2 with ⟨_, h0⟩ | ⟨g, c, cur, rfl, _, _, hc, _⟩
    · omega
    · have hok : ∀ x ∈ D.waits, x.2.length = 128 := fun x hx => (h.2.2.2.2.1.2.2.2 x hx).2
      have e : D.waits.getD j (0, []) = D.waits[j] := by rw [List.getD_eq_getElem?_getD, List.getElem?_eq_getElem hj]; rfl
      have hl : (D.waits[j]).2.length = 128 := hok _ (List.getElem_mem hj)
      have hjb : j * 129 + 129 ≤ D.waits.length * 129 := by have := Nat.mul_le_mul_right 129 hj; rw [Nat.succ_mul] at this; exact this
      rw [e]
      refine ⟨g, c, rfl, hc, fun k hk => ?_, hl, ?_⟩
      · rw [h3.cellAt (j * 129 + 1 + k) (by omega), Nat.add_assoc, flatW_get hok hj (by omega), wrCells, Nat.add_comm 1 k, List.getElem?_cons_succ, nums_nb_get, List.getElem?_eq_getElem hk]
        rfl
      · have := flatW_get hok hj (k := 0) (by omega)
        rw [h3.cellAt (j * 129) (by omega)]
        exact this

theorem zeroInt (w : World) : (zeroValue 3).run Tryd.prog w = .ok (.int .i64 0) w := by kernel_rfl
set_option maxRecDepth 100000 in
theorem look_some {base : Nat} {w : World} {p gl M : Nat} {v : Value} {D : DSt} (h : IsDisk base w p gl M v D) {i j : Nat} (hi : i < 9223372036854775807) (hj : lastIx D.waits i = some j) :
    (Instr.lookup 55 (.map (some M)) (.int .i64 (i : Int)) true).run Tryd.prog w = .ok (.tuple #[.int .i64 (j : Int), .bool true]) w := by
  obtain ⟨m, hm, hmo⟩ := h.2.2.2.1
  obtain ⟨h1, h2⟩ := (hmo.2 i).2 j hj
  have hwf : (Lit.int .i64 (i : Int)).wf = true := WalkArith.wf_i64 (by omega)
  obtain ⟨v', ps, hrun, hR⟩ := hm.look_ok intKeyed Tryd.underlying55 (zeroInt w) (plainElem_int (H := Unit) Tryd.underlying3 (by decide)) (keyOf_int_mk Tryd.underlying3 hwf)
  rw [h2] at hR
  obtain ⟨a, rfl, ha, _⟩ := plainElem_int_inv Tryd.underlying3 hR
  injection ha with ha _
  injection ha with ha
  injection ha with _ ha
  rw [hrun, h1, ha]
set_option maxRecDepth 100000 in
theorem look_none {base : Nat} {w : World} {p gl M : Nat} {v : Value} {D : DSt} (h : IsDisk base w p gl M v D) {i : Nat} (hi : i < 9223372036854775807) (hj : lastIx D.waits i = none) :
    ∃ a : Int, (Instr.lookup 55 (.map (some M)) (.int .i64 (i : Int)) true).run Tryd.prog w = .ok (.tuple #[.int .i64 a, .bool false]) w := by
  obtain ⟨m, hm, hmo⟩ := h.2.2.2.1
  have h1 := (hmo.2 i).1 hj
  have hwf : (Lit.int .i64 (i : Int)).wf = true := WalkArith.wf_i64 (by omega)
  obtain ⟨v', ps, hrun, hR⟩ := hm.look_ok intKeyed Tryd.underlying55 (zeroInt w) (plainElem_int (H := Unit) Tryd.underlying3 (by decide)) (keyOf_int_mk Tryd.underlying3 hwf)
  obtain ⟨a, rfl, _, _⟩ := plainElem_int_inv Tryd.underlying3 hR
  exact ⟨a, by rw [hrun, h1]⟩

set_option maxHeartbeats 2000000 in
theorem disk_Read (base : Nat) (w : World) (p gl M : Nat) (v : Value) (D : DSt) (i : Int) (h : IsDisk base w p gl M v D) :
    Calls Tryd.prog 14 #[.pointer (some ⟨p, 0, none⟩), .int .i64 i] w fun e w' => e = .returned (.tuple #[.string (bs (rdD D i).1), .int .i64 (((rdD D i).2 : Nat) : Int)]) ∧ w = w' := by
  obtain ⟨c0, c1, c2, c3, c4⟩ := h.1.five
  have HH := Lib.hid (disk_has base w p gl M v D i h)
  have H := Lib.hid h
  clear h
  by_cases hb : hasB D i = true
  · rw [hb] at HH
    obtain ⟨k, rfl, hk⟩ := hasB_nat_iff.1 hb
    have hn : D.lasts.length ≤ 4096 := H.out.2.2.2.2.1.2.1
    have hk63 : k < 9223372036854775807 := by omega
    cases hx : lastIx D.waits k with
    | some j =>
      have hR := rdD_wait hk hx
      rw [hR]
      have hlk := look_some H.out hk63 hx
      have hj := lastIx_lt hx
      obtain ⟨g, c, rfl, hc, hat, hal, _⟩ := at_wait H.out hj
      have hcv := hat.conv 128
      rw [hal] at hcv
      obtain ⟨t, ht⟩ : ∃ t, t = (D.waits.getD j (0, [])).2 := ⟨_, rfl⟩
      rw [← ht] at hcv ⊢
      clear hR hat hal ht hx hb
      go_enter Tryd.func14, Tryd.ntmps14
      go_wp2_with fail
      refine HH.out.mono ?_
      rintro e w1 ⟨rfl, rfl⟩
      go_wp2_with fail
      go_ret2
      exact ⟨rfl, rfl⟩
    | none =>
      have hR := rdD_last hk hx
      rw [hR]
      obtain ⟨a, hlk⟩ := look_none H.out hk63 hx
      obtain ⟨hat, hal⟩ := at_last H.out hk
      have hcv := hat.conv 128
      rw [hal] at hcv
      obtain ⟨t, ht⟩ : ∃ t, t = D.lasts.getD k [] := ⟨_, rfl⟩
      rw [← ht] at hcv ⊢
      clear hR hat hal ht hx hb
      go_enter Tryd.func14, Tryd.ntmps14
      go_wp2_with fail
      refine HH.out.mono ?_
      rintro e w1 ⟨rfl, rfl⟩
      go_wp2_with fail
      go_ret2
      exact ⟨rfl, rfl⟩
  · have hb' : hasB D i = false := by simpa using hb
    rw [hb'] at HH
    rw [rdD_no hb']
    clear hb hb'
    go_enter Tryd.func14, Tryd.ntmps14
    go_wp2_with fail
    refine HH.out.mono ?_
    rintro e w1 ⟨rfl, rfl⟩
    go_wp2_with fail
    go_ret2
    exact ⟨rfl, rfl⟩

end Go.Proofs.YtbigpapniloknaaDoor
