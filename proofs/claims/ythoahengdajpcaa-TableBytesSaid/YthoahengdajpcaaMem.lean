/- Words for memory: a slice that reads as a list of numbers, a block that is known whole; how both stay when the world goes on. -/
import Derived.Test.YthoahengdajpcaaMath
import Derived.WalkKit
import Derived.WalkLawsBesides
import Derived.Outline
import Derived.Lib.Hide
import Derived.Laws.CopyOwn
import Derived.Laws.OwnMore
import Derived.Deep.AppendLies
import Derived.Deep.Draws
import Derived.Laws.Rows
import Derived.BigQuiet
import Derived.Deep.QuietTactic
import Derived.Deep.RegionWith
import Derived.RegionTactic
import Derived.ChangeAlike
namespace Go.Proofs.Ythoahengdajpcaa
open Go.RowKit

/-- Numbers as values of a kind. -/
def nums (k : IntKind) (xs : List Nat) : List Value := xs.map fun x : Nat => .int k (x : Int)

theorem nums_length (k : IntKind) (xs : List Nat) : (nums k xs).length = xs.length := by simp [nums]
theorem nums_append (k : IntKind) (xs ys : List Nat) : nums k (xs ++ ys) = nums k xs ++ nums k ys := by simp [nums]
theorem nums_get (k : IntKind) (xs : List Nat) (j : Nat) (h : j < xs.length) : (nums k xs)[j]? = some (.int k ((xs.getD j 0 : Nat) : Int)) := by
  simp [nums, List.getD_eq_getElem?_getD, List.getElem?_eq_getElem h]
theorem nums_one (k : IntKind) (xs : List Nat) : ∀ u ∈ nums k xs, u.oneCell' = true := by
  intro u hu
  obtain ⟨x, _, rfl⟩ := List.mem_map.1 hu
  rfl
theorem nums_replicate (k : IntKind) (n : Nat) : nums k (List.replicate n 0) = List.replicate n (.int k 0) := by simp [nums]

/-- A block that is known whole. -/
def Blk (w : World) (g : Nat) (t : TypeId) (cs : List Value) : Prop := w.heap[g]? = some (.cells cs.toArray t (0, 0))

/-- A slice that reads as a list of numbers of kind k. -/
def Sl (k : IntKind) (w : World) (A : Option Addr) (n c : Nat) (xs : List Nat) : Prop :=
  xs.length = n ∧ n ≤ c ∧ (c : Int) ≤ 9223372036854775807 ∧ (0 < n → ∃ b off, A = some ⟨b, off, none⟩ ∧ ∀ j, j < n → w.cell? ⟨b, off + j, none⟩ = some (.int k ((xs.getD j 0 : Nat) : Int)))

section
variable {w w' : World} {g : Nat} {t : TypeId} {cs : List Value}
theorem Blk.get (h : Blk w g t cs) : w.heap[g]? = some (.cells cs.toArray t (0, 0)) := h
theorem Blk.lt (h : Blk w g t cs) : g < w.heap.size := by
  rcases Nat.lt_or_ge g w.heap.size with hlt | hge
  · exact hlt
  · unfold Blk at h; rw [Array.getElem?_eq_none hge] at h; cases h
theorem Blk.cell (h : Blk w g t cs) (i : Nat) : w.cell? ⟨g, i, none⟩ = cs[i]? := by rw [cell_of_row w g i cs.toArray t (0, 0) h]; simp
theorem Blk.frozen (h : Blk w g t cs) (i : Nat) : w.frozen? ⟨g, i, none⟩ = false := by
  unfold Blk at h
  simp [World.frozen?, h]
theorem Blk.new1 (w : World) (t : TypeId) (v : Value) : Blk (w.alloc (.cells #[v] t)) w.heap.size t [v] := heap_alloc_new w _
theorem Blk.cell0 {v : Value} (h : Blk w g t [v]) : w.cell? ⟨g, 0, none⟩ = some v := h.cell 0
theorem Blk.drewN (h : Blk w g t cs) (n : Nat) : Blk (w.drewN n) g t cs := h
theorem Blk.alloc (h : Blk w g t cs) (o : Obj) : Blk (w.alloc o) g t cs := (Below.heap_alloc w o g h.lt).trans h
theorem Blk.set_ (h : Blk w g t cs) (i : Nat) (u : Value) : Blk (w.setCell ⟨g, i, none⟩ u) g t (cs.set i u) := by
  unfold Blk at h ⊢
  simp [World.setCell, Array.getElem?_modify, h]
theorem Blk.stored {v : Value} (h : Blk w g t [v]) (u : Value) : (w.setCell ⟨g, 0, none⟩ u).cell? ⟨g, 0, none⟩ = some u := (h.set_ 0 u).cell 0
theorem Blk.far (h : Blk w g t cs) {p : Addr} (hp : g ≠ p.block) (u : Value) : Blk (w.setCell p u) g t cs := (Below.heap_setCell w p u g hp).trans h
theorem Blk.below {B : Nat} (h : Blk w g t cs) (hb : Below B w w') (hg : g < B) : Blk w' g t cs := (hb.block g hg).trans h
theorem Blk.keep (h : Blk w g t cs) (hb : Below w.heap.size w w') : Blk w' g t cs := h.below hb h.lt
theorem Blk.grown {row : Option Nat} (h : Blk w g t cs) (hb : w.grownBy w' row) (hg : some g ≠ row) : Blk w' g t cs := (hb.block g h.lt hg).trans h
theorem Blk.ne_ {g' : Nat} {t' : TypeId} {cs' : List Value} (h : Blk w g t cs) (h' : Blk w g' t' cs') (hne : t ≠ t') : g ≠ g' := by
  rintro rfl
  unfold Blk at h h'
  rw [h] at h'
  injection h' with h'
  injection h' with _ ht
  exact hne ht
theorem Blk.of_own {base e n c : Nat} {xs : List Value} (h : w.ownsRow base e 1 (.slice (some ⟨g, 0, none⟩) n c) n xs) (hc : n = c) : Blk w g e xs := by
  obtain ⟨_, h2⟩ := h
  rcases h2 with ⟨h0, _⟩ | ⟨g', cap, cur, hv, _, hh, _, _, hs, ht⟩
  · cases h0
  · injection hv with hv hn hcap
    injection hv with hv
    injection hv with hv
    subst hv hcap hc
    rw [Nat.mul_one] at hs ht
    unfold Blk
    rw [hh, ← ht, List.take_of_length_le (by simp [hs])]
end

section
variable {k : IntKind} {w w' : World} {A : Option Addr} {n c : Nat} {xs : List Nat}
theorem Sl.len (h : Sl k w A n c xs) : xs.length = n := h.1
theorem Sl.le (h : Sl k w A n c xs) : n ≤ c := h.2.1
theorem Sl.nil (k : IntKind) (w : World) : Sl k w none 0 0 [] := ⟨rfl, Nat.le_refl _, by decide, fun h => absurd h (by omega)⟩
theorem Sl.empty (k : IntKind) (w : World) (A : Option Addr) (c : Nat) (hc : (c : Int) ≤ 9223372036854775807) : Sl k w A 0 c [] := ⟨rfl, Nat.zero_le _, hc, fun h => absurd h (by omega)⟩
theorem Sl.block (h : Sl k w A n c xs) (hn : 0 < n) : ∃ b off, A = some ⟨b, off, none⟩ ∧ b < w.heap.size ∧ ∀ j, j < n → w.cell? ⟨b, off + j, none⟩ = some (.int k ((xs.getD j 0 : Nat) : Int)) := by
  obtain ⟨b, off, e, hc⟩ := h.2.2.2 hn
  exact ⟨b, off, e, block_lt_of_cell (hc 0 hn), hc⟩
theorem Sl.of_cells (h : Sl k w A n c xs) (hk : ∀ b o v, w.cell? ⟨b, o, none⟩ = some (.int k v) → w'.cell? ⟨b, o, none⟩ = some (.int k v)) : Sl k w' A n c xs :=
  ⟨h.1, h.2.1, h.2.2.1, fun hn => by
    obtain ⟨b, off, e, hc⟩ := h.2.2.2 hn
    exact ⟨b, off, e, fun j hj => hk _ _ _ (hc j hj)⟩⟩
theorem Sl.keep (h : Sl k w A n c xs) (hb : Below w.heap.size w w') : Sl k w' A n c xs :=
  h.of_cells fun b o _ hc => (hb.cell (p := ⟨b, o, none⟩) (block_lt_of_cell hc)).trans hc
theorem Sl.drewN (h : Sl k w A n c xs) (m : Nat) : Sl k (w.drewN m) A n c xs := h
theorem Sl.alloc (h : Sl k w A n c xs) (o : Obj) : Sl k (w.alloc o) A n c xs := h.keep ((Below.refl _ _).alloc (Nat.le_refl _) o)
/-- A store over what is no number of this kind. -/
theorem Sl.setCell (h : Sl k w A n c xs) {p : Addr} {v : Value} (hp : w.cell? p = some v) (hv : ∀ i, v ≠ .int k i) (u : Value) : Sl k (w.setCell p u) A n c xs :=
  h.of_cells fun b o i hc => by
    have hne : (⟨b, o, none⟩ : Addr) ≠ p := by
      rintro rfl
      rw [hp] at hc
      injection hc with hc
      exact hv _ hc
    exact (World.cell?_setCell_other w p ⟨b, o, none⟩ u (fun e => hne e.symm)).trans hc
/-- Behind writes to one row alone, which holds cells of another kind. -/
theorem Sl.grown (h : Sl k w A n c xs) {row : Option Nat} (hg : w.grownBy w' row) (hr : ∀ g, row = some g → ∀ o v, w.cell? ⟨g, o, none⟩ ≠ some (.int k v)) : Sl k w' A n c xs :=
  h.of_cells fun b o v hc => hg.cell hc (fun e => hr b e.symm o v hc)
theorem Sl.take (h : Sl k w A n c xs) (m : Nat) (hm : m ≤ n) : Sl k w A m c (xs.take m) :=
  ⟨by rw [List.length_take, h.1]; omega, Nat.le_trans hm h.2.1, h.2.2.1, fun hn => by
    obtain ⟨b, off, e, hc⟩ := h.2.2.2 (by omega)
    refine ⟨b, off, e, fun j hj => ?_⟩
    rw [hc j (by omega)]
    simp [List.getD_eq_getElem?_getD, hj]⟩
theorem Sl.of_blk {g t : Nat} {p q : List Value} {c : Nat} (h : Blk w g t (p ++ (nums k xs ++ q))) (hn : xs.length = n) (hc : n ≤ c) (hc2 : (c : Int) ≤ 9223372036854775807) : Sl k w (some ⟨g, p.length, none⟩) n c xs := by
  refine ⟨hn, hc, hc2, fun _ => ⟨g, p.length, rfl, fun j hj => ?_⟩⟩
  rw [h.cell, List.getElem?_append_right (by omega), List.getElem?_append_left (by rw [nums_length]; omega), show p.length + j - p.length = j from by omega, nums_get _ _ _ (by omega)]
theorem Sl.of_blk0 {g t : Nat} {c : Nat} (h : Blk w g t (nums k xs)) (hn : xs.length = n) (hc : n ≤ c) (hc2 : (c : Int) ≤ 9223372036854775807) : Sl k w (some ⟨g, 0, none⟩) n c xs := by
  have := Sl.of_blk (k := k) (p := []) (q := []) (xs := xs) (n := n) (c := c) (w := w) (g := g) (t := t) (by simpa using h) hn hc hc2
  simpa using this
end

theorem Blk.of_make {w : World} {g base e m k : Nat} {v : Value} (h : w.ownsRow base e 1 (.slice (some ⟨g, 0, none⟩) m m) m (madeCells #[v] k).toList) (hk : k = m) : Blk w g e (List.replicate m v) := by
  have := Blk.of_own h rfl
  rw [toList_madeCells_one, hk] at this
  exact this

theorem Sl.src {k : IntKind} {w w1 : World} {A : Option Addr} {n c : Nat} {xs : List Nat} (h : Sl k w A n c xs) (hb : Below w.heap.size w w1) (hpos : 0 < (nums k xs).length) :
    ∃ ad, A = some ad ∧ ∀ j v, (nums k xs)[j]? = some v → w1.cell? (ad.add j) = some v := by
  rw [nums_length, h.1] at hpos
  obtain ⟨b, off, rfl, hlt, hc⟩ := h.block hpos
  refine ⟨_, rfl, fun j v hj => ?_⟩
  have hjn : j < n := by
    rcases Nat.lt_or_ge j n with h' | h'
    · exact h'
    · rw [List.getElem?_eq_none (by rw [nums_length, h.1]; exact h')] at hj; cases hj
  rw [nums_get _ _ _ (by rw [h.1]; exact hjn)] at hj
  rw [Addr.add_lit]
  exact (hb.cell (p := ⟨b, off + j, none⟩) hlt).trans ((hc j hjn).trans hj)
theorem Sl.min_len {k : IntKind} {w : World} {A : Option Addr} {n c m : Nat} {xs : List Nat} (h : Sl k w A n c xs) (hm : n ≤ m) : (nums k xs).length = Nat.min n m := by
  rw [nums_length, h.1]; exact (Nat.min_eq_left hm).symm
theorem Sl.fits {k : IntKind} {w : World} {A : Option Addr} {n c m : Nat} {xs : List Nat} (h : Sl k w A n c xs) (hm : n ≤ m) (v : Value) : 0 + (nums k xs).length ≤ (List.replicate m v).length := by
  rw [List.length_replicate, nums_length, h.1]; omega

/-- A slice's length, for a loop's measure. -/
def slLen : Value → Nat
  | .slice _ n _ => n
  | _ => 0

theorem Sl.of_owns {k : IntKind} {w : World} {base e n : Nat} {v : Value} {ys : List Nat} (h : w.ownsRow base e 1 v n (nums k ys)) :
    ∃ A c, v = .slice A n c ∧ Sl k w A n c ys := by
  have hl : ys.length = n := by have := h.1; rw [nums_length, Nat.mul_one] at this; exact this
  have h0 := h
  obtain ⟨_, h2⟩ := h
  rcases h2 with ⟨rfl, rfl⟩ | ⟨g, cap, cur, rfl, _, hh, hn, hcap, hs, ht⟩
  · have : ys = [] := List.eq_nil_of_length_eq_zero hl
    subst this
    exact ⟨_, _, rfl, Sl.nil k w⟩
  · refine ⟨_, _, rfl, hl, hn, by unfold maxLen at hcap; omega, fun _ => ⟨g, 0, rfl, fun j hj => ?_⟩⟩
    rw [Nat.zero_add, h0.cellAt j (by omega), nums_get _ _ _ (by omega)]

/-- 'out = append(out, y)' of one number: out nil or the call's own. -/
theorem wpList_append1 {P : Program} {wr w0 : World} {ops : Array Oper} {rest : List Oper} {o : Oper} {a : Act} {Q : Exit → Act → World → Prop} (hgd : o.guard = none) (s x : Operand) (t : TypeId)
    (ho : o.op = .call { callee := .builtin .append, args := #[s, x], argTypes := #[t, t] })
    (k : IntKind) (base : Nat) (e : TypeId) (i : TypeInfo) (z : Value) (bytes : Nat) (ht : P.underlying t = some (.slice e)) (hi : P.info? e = some i) (hz : i.zero = some z)
    (hsize : i.size = 1) (hby : i.bytes = bytes) (hzs : z.cells.size = 1) (v : Value) (ys : List Nat) (hs : a.eval s = v) (hown : wr.ownsRow base e 1 v ys.length (nums k ys))
    (Y : Int) (y : Nat) (hY : Y = y) (te : TypeId) (hx : a.eval x = .slice (some ⟨wr.heap.size, 0, none⟩) 1 1) (hlen : ys.length ≤ 8796093022208) (hb8 : bytes ≤ 8)
    (hb : Below base w0 wr) (hbase : base ≤ wr.heap.size)
    (h : ∀ v' w', w'.ownsRow base e 1 v' (ys ++ [y]).length (nums k (ys ++ [y])) → Below base w0 w' → (∀ g t cs, t ≠ e → Blk wr g t cs → Blk w' g t cs) → wpList P ops Q rest (a.put o.dst v') w') :
    wpList P ops Q (o :: rest) a (wr.alloc (.cells #[.int k Y] te)) := by
  refine wpList_append_own _ hgd s x t ho base e i z 1 bytes ht hi hz hsize hby hzs (by omega) v ys.length (nums k ys) hs (hown.alloc _) ⟨wr.heap.size, 0, none⟩ 1 1 [.int k (y : Int)] hx rfl ?_ ?_ ?_ ?_ ?_ ?_
  · intro j u hj
    match j, hj with
    | 0, hj =>
      simp at hj
      subst hj
      rw [Addr.add_lit, hY]
      exact (World.cell?_alloc_at (w := wr) #[.int k (y : Int)] te wr.heap.size 0 rfl)
  · intro u hu
    simp at hu
    subst hu
    rfl
  · unfold maxLen; omega
  · have : (ys.length + 1) * bytes ≤ (ys.length + 1) * 8 := Nat.mul_le_mul_left _ hb8
    omega
  · simp; omega
  · intro v' w' hown' hg _
    refine h v' w' ?_ ?_ ?_
    · have e1 : (ys ++ [y]).length = ys.length + 1 := by simp
      have e2 : nums k (ys ++ [y]) = nums k ys ++ [.int k (y : Int)] := by rw [nums_append]; rfl
      rw [e1, e2]; exact hown'
    · exact (hb.alloc hbase _).grown hg (by simp; omega) (fun g hg' => (hown.lt g hg').1)
    · intro g t cs hne hblk
      refine (hblk.alloc _).grown hg (fun e1 => ?_)
      rcases hown.2 with ⟨rfl, _⟩ | ⟨g', cap, cur, rfl, _, hh, _⟩
      · cases e1
      · have e2 : g = g' := by simpa [Value.ownBlock] using e1
        subst e2
        unfold Blk at hblk
        rw [hh] at hblk
        injection hblk with hblk
        injection hblk with _ ht
        exact hne ht.symm

theorem drewN2 (w : World) (a b : Nat) : (w.drewN a).drewN b = w.drewN (a + b) := by rw [World.drewN_drewN]
theorem drewN3 (w : World) (a b c : Nat) : ((w.drewN a).drewN b).drewN c = w.drewN (a + b + c) := by rw [drewN2, drewN2, Nat.add_assoc]
/-- A quiet call in a region that draws, behind draws. -/
theorem qcall {P : Program} {f : FuncId} {args : Array Value} {w : World} {a n : Nat} {v : Value}
    (h : Calls P f args (w.drewN (a + n)) fun e w' => e = .returned v ∧ w.drewN (a + n) = w') :
    Calls P f args (w.drewN (a + n)) fun e w'' => e = .returned v ∧ ∃ m, w'' = w.drewN (a + m) :=
  h.mono fun _ _ ⟨he, hm⟩ => ⟨he, n, hm.symm⟩
theorem qcall0 {P : Program} {f : FuncId} {args : Array Value} {w : World} {n : Nat} {v : Value}
    (h : Calls P f args (w.drewN n) fun e w' => e = .returned v ∧ w.drewN n = w') :
    Calls P f args (w.drewN n) fun e w'' => e = .returned v ∧ ∃ m, w'' = w.drewN m :=
  h.mono fun _ _ ⟨he, hm⟩ => ⟨he, n, hm.symm⟩
theorem Below.drewN {B : Nat} {a w : World} (h : Below B a w) (n : Nat) : Below B a (w.drewN n) := ⟨h.os, h.tape, h.output, h.size, h.block⟩

theorem owns_all {w : World} {base e size n : Nat} {v : Value} {xs : List Value} (h : w.ownsRow base e size v n xs) (q : Nat) : (w.drewN q).ownsRow base e size v n xs := h
theorem bcell {W w1 : World} (hb : Below W.heap.size W w1) : (∀ b o, b < W.heap.size → w1.cell? ⟨b, o, none⟩ = W.cell? ⟨b, o, none⟩) ∧ (∀ b o, b < W.heap.size → w1.frozen? ⟨b, o, none⟩ = W.frozen? ⟨b, o, none⟩) :=
  ⟨fun b o h => hb.cell (p := ⟨b, o, none⟩) h, fun b o h => hb.frozen (p := ⟨b, o, none⟩) h⟩

/-- One more than the greatest number: 2 to the 4096. -/
def Lim : Nat := B64 ^ 64

/-- A slice of digits in base b, without noughts behind, of the number x. -/
def Rep (k : IntKind) (b : Nat) (w : World) (A : Option Addr) (n c x : Nat) : Prop :=
  ∃ xs, Sl k w A n c xs ∧ Dig b xs ∧ trimL xs = xs ∧ val b xs = x

/-- What a call that makes a number answers: the number x, or that it is too great. -/
def Got (w : World) (x : Nat) (A : Option Addr) (n c : Nat) (code : Int) : Prop :=
  (x < Lim ∧ code = 0 ∧ Rep .u64 B64 w A n c x) ∨ (Lim ≤ x ∧ code = 1 ∧ A = none ∧ n = 0 ∧ c = 0)

def RetGot (w : World) (x : Nat) (e : Ending) (w' : World) : Prop :=
  ∃ A n c code, e = .returned (.tuple #[.agg #[.slice A n c], .int .i64 code]) ∧ Got w' x A n c code ∧ Below w.heap.size w w'

section
variable {k : IntKind} {b : Nat} {w w' : World} {A : Option Addr} {n c x : Nat}
theorem Rep.of_cells (h : Rep k b w A n c x) (hk : ∀ b o v, w.cell? ⟨b, o, none⟩ = some (.int k v) → w'.cell? ⟨b, o, none⟩ = some (.int k v)) : Rep k b w' A n c x := by
  obtain ⟨xs, h1, h2⟩ := h; exact ⟨xs, h1.of_cells hk, h2⟩
theorem Rep.keep (h : Rep k b w A n c x) (hb : Below w.heap.size w w') : Rep k b w' A n c x := by
  obtain ⟨xs, h1, h2⟩ := h; exact ⟨xs, h1.keep hb, h2⟩
theorem Rep.drewN (h : Rep k b w A n c x) (m : Nat) : Rep k b (w.drewN m) A n c x := h
theorem Rep.alloc (h : Rep k b w A n c x) (o : Obj) : Rep k b (w.alloc o) A n c x := h.keep ((Below.refl _ _).alloc (Nat.le_refl _) o)
theorem Rep.setCell (h : Rep k b w A n c x) {p : Addr} {v : Value} (hp : w.cell? p = some v) (hv : ∀ i, v ≠ .int k i) (u : Value) : Rep k b (w.setCell p u) A n c x := by
  obtain ⟨xs, h1, h2⟩ := h; exact ⟨xs, h1.setCell hp hv u, h2⟩
theorem Rep.zero (k : IntKind) (b : Nat) (w : World) : Rep k b w none 0 0 0 := ⟨[], Sl.nil k w, Dig.nil b, rfl, rfl⟩
theorem Rep.zero_iff (hb : 0 < b) (h : Rep k b w A n c x) : n = 0 ↔ x = 0 := by
  obtain ⟨xs, h1, h2, h3, h4⟩ := h
  constructor
  · intro hn
    have : xs = [] := List.eq_nil_of_length_eq_zero (by rw [h1.1]; exact hn)
    subst this; exact h4.symm
  · intro hx
    have := trim_val_zero hb h3 (by rw [h4]; exact hx)
    subst this; exact h1.1.symm
theorem Rep.len_le (hb : 1 < b) (h : Rep k b w A n c x) (j : Nat) : n ≤ j ↔ x < b ^ j := by
  obtain ⟨xs, h1, h2, h3, h4⟩ := h
  rw [← h4, ← h1.1]; exact trim_len_le hb h2 h3
theorem Rep.cap (h : Rep k b w A n c x) : (c : Int) ≤ 9223372036854775807 := by
  obtain ⟨xs, h1, _⟩ := h; exact h1.2.2.1
theorem Rep.le (h : Rep k b w A n c x) : n ≤ c := by
  obtain ⟨xs, h1, _⟩ := h; exact h1.2.1
theorem Got.keep {code : Int} (h : Got w x A n c code) (hb : Below w.heap.size w w') : Got w' x A n c code := by
  rcases h with ⟨h1, h2, h3⟩ | h
  · exact .inl ⟨h1, h2, h3.keep hb⟩
  · exact .inr h
theorem Got.setCell {code : Int} (h : Got w x A n c code) {p : Addr} {v : Value} (hp : w.cell? p = some v) (hv : ∀ i, v ≠ .int .u64 i) (u : Value) : Got (w.setCell p u) x A n c code := by
  rcases h with ⟨h1, h2, h3⟩ | h
  · exact .inl ⟨h1, h2, h3.setCell hp hv u⟩
  · exact .inr h
theorem Got.ok {code : Int} (h : Got w x A n c code) (hx : x < Lim) : code = 0 ∧ Rep .u64 B64 w A n c x := by
  rcases h with ⟨_, h2, h3⟩ | ⟨h, _⟩
  · exact ⟨h2, h3⟩
  · omega
end

theorem ret_int {k : IntKind} {a b : Int} (h : a = b) : Ending.returned (.int k a) = .returned (.int k b) := by rw [h]
theorem ret_bool {a b : Bool} (h : a = b) : Ending.returned (.bool a) = .returned (.bool b) := by rw [h]

end Go.Proofs.Ythoahengdajpcaa
