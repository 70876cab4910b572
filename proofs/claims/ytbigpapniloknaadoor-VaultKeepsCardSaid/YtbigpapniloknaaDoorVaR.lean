/- A vault as memory; stores of several cells into a block that is no part of a disk. -/
import Derived.Test.YtbigpapniloknaaDoorJVam
namespace Go.Proofs.YtbigpapniloknaaDoor
open Go.RowKit Go.Maps
set_option maxRecDepth 100000

def vaultV (n sl fr room : Int) (g : Nat) (nx : Int) (st : Bool) : Value := .agg #[.int .i64 n, .int .i64 sl, .int .i64 fr, .int .i64 room, .int .u64 (g : Int), .int .i64 nx, .bool st]
theorem Blk.sevenV {w : World} {g t : Nat} {a b c d e f i : Value} (h : Blk w g t [a, b, c, d, e, f, i]) : w.cell? ⟨g, 0, none⟩ = some a ∧ w.cell? ⟨g, 1, none⟩ = some b ∧ w.cell? ⟨g, 2, none⟩ = some c ∧ w.cell? ⟨g, 3, none⟩ = some d ∧ w.cell? ⟨g, 4, none⟩ = some e ∧ w.cell? ⟨g, 5, none⟩ = some f ∧ w.cell? ⟨g, 6, none⟩ = some i := ⟨h.cell 0, h.cell 1, h.cell 2, h.cell 3, h.cell 4, h.cell 5, h.cell 6⟩
theorem Blk.frozen7 {w : World} {g t : Nat} {cs : List Value} (h : Blk w g t cs) : w.frozen? ⟨g, 0, none⟩ = false ∧ w.frozen? ⟨g, 1, none⟩ = false ∧ w.frozen? ⟨g, 2, none⟩ = false ∧ w.frozen? ⟨g, 3, none⟩ = false ∧ w.frozen? ⟨g, 4, none⟩ = false ∧ w.frozen? ⟨g, 5, none⟩ = false ∧ w.frozen? ⟨g, 6, none⟩ = false := ⟨h.frozen 0, h.frozen 1, h.frozen 2, h.frozen 3, h.frozen 4, h.frozen 5, h.frozen 6⟩
theorem Blk.box7 (w : World) (t : TypeId) (a b c d e f i : Value) : Blk (w.alloc (.cells #[a, b, c, d, e, f, i] t)) w.heap.size t [a, b, c, d, e, f, i] := heap_alloc_new w _

theorem IsDisk.putN {base : Nat} {w : World} {p gl M : Nat} {v : Value} {D : DSt} (h : IsDisk base w p gl M v D) {g T : Nat} {cs : List Value} (hg : Blk w g T cs) (h1 : T ≠ 58) (h2 : T ≠ 80) (h3 : T ≠ 82) (o : Nat) (vs : List Value) :
    IsDisk base (w.setCells g o vs) p gl M v D := h.aside hg h1 h2 h3 (by rw [size_setCells]; exact Nat.le_refl _) (fun k hk => heap_setCells g vs o w k hk)
theorem Keeps.putN {w0 w : World} (h : Keeps w0 w) {g : Nat} (hg : w0.heap.size ≤ g) (o : Nat) (vs : List Value) : Keeps w0 (w.setCells g o vs) := h.aside hg (fun k hk => heap_setCells g vs o w k hk)
theorem Blk.put7 {w : World} {g t : Nat} {a b c d e f i : Value} (h : Blk w g t [a, b, c, d, e, f, i]) (a' b' c' d' e' f' i' : Value) :
    Blk (((((((w.setCell ⟨g, 0, none⟩ a').setCell ⟨g, 1, none⟩ b').setCell ⟨g, 2, none⟩ c').setCell ⟨g, 3, none⟩ d').setCell ⟨g, 4, none⟩ e').setCell ⟨g, 5, none⟩ f').setCell ⟨g, 6, none⟩ i') g t [a', b', c', d', e', f', i'] :=
  ((((((h.set_ 0 a').set_ 1 b').set_ 2 c').set_ 3 d').set_ 4 e').set_ 5 f').set_ 6 i'
theorem Blk.putL {w : World} {g t : Nat} {a b c d e f i : Value} (h : Blk w g t [a, b, c, d, e, f, i]) (c' d' e' f' : Value) :
    Blk ((((w.setCell ⟨g, 2, none⟩ c').setCell ⟨g, 3, none⟩ d').setCell ⟨g, 4, none⟩ e').setCell ⟨g, 5, none⟩ f') g t [a, b, c', d', e', f', i] :=
  (((h.set_ 2 c').set_ 3 d').set_ 4 e').set_ 5 f'
theorem heap_put7 (w : World) (g : Nat) (a b c d e f i : Value) (k : Nat) (h : k ≠ g) : (((((((w.setCell ⟨g, 0, none⟩ a).setCell ⟨g, 1, none⟩ b).setCell ⟨g, 2, none⟩ c).setCell ⟨g, 3, none⟩ d).setCell ⟨g, 4, none⟩ e).setCell ⟨g, 5, none⟩ f).setCell ⟨g, 6, none⟩ i).heap[k]? = w.heap[k]? :=
  heap_setCells g [a, b, c, d, e, f, i] 0 w k h
theorem size_put7 (w : World) (g : Nat) (a b c d e f i : Value) : (((((((w.setCell ⟨g, 0, none⟩ a).setCell ⟨g, 1, none⟩ b).setCell ⟨g, 2, none⟩ c).setCell ⟨g, 3, none⟩ d).setCell ⟨g, 4, none⟩ e).setCell ⟨g, 5, none⟩ f).setCell ⟨g, 6, none⟩ i).heap.size = w.heap.size :=
  size_setCells g [a, b, c, d, e, f, i] 0 w
theorem below_put7 {B g : Nat} {w w' : World} (h : Below B w w') (hg : B ≤ g) (a b c d e f i : Value) : Below B w (((((((w'.setCell ⟨g, 0, none⟩ a).setCell ⟨g, 1, none⟩ b).setCell ⟨g, 2, none⟩ c).setCell ⟨g, 3, none⟩ d).setCell ⟨g, 4, none⟩ e).setCell ⟨g, 5, none⟩ f).setCell ⟨g, 6, none⟩ i) :=
  Below.setCells h hg [a, b, c, d, e, f, i] 0
theorem IsDisk.put7 {base : Nat} {w : World} {p gl M : Nat} {v : Value} {D : DSt} (h : IsDisk base w p gl M v D) {g T : Nat} {cs : List Value} (hg : Blk w g T cs) (h1 : T ≠ 58) (h2 : T ≠ 80) (h3 : T ≠ 82) (a b c d e f i : Value) :
    IsDisk base (((((((w.setCell ⟨g, 0, none⟩ a).setCell ⟨g, 1, none⟩ b).setCell ⟨g, 2, none⟩ c).setCell ⟨g, 3, none⟩ d).setCell ⟨g, 4, none⟩ e).setCell ⟨g, 5, none⟩ f).setCell ⟨g, 6, none⟩ i) p gl M v D :=
  h.aside hg h1 h2 h3 (by rw [size_put7]; exact Nat.le_refl _) (fun k hk => heap_put7 _ _ _ _ _ _ _ _ _ k hk)
theorem Keeps.put7' {w0 w : World} (h : Keeps w0 w) {g : Nat} (hg : w0.heap.size ≤ g) (a b c d e f i : Value) : Keeps w0 (((((((w.setCell ⟨g, 0, none⟩ a).setCell ⟨g, 1, none⟩ b).setCell ⟨g, 2, none⟩ c).setCell ⟨g, 3, none⟩ d).setCell ⟨g, 4, none⟩ e).setCell ⟨g, 5, none⟩ f).setCell ⟨g, 6, none⟩ i) :=
  h.aside hg (fun k hk => heap_put7 _ _ _ _ _ _ _ _ _ k hk)
theorem Blk.far7 {w : World} {g g' t : Nat} {cs : List Value} (h : Blk w g t cs) (hne : g ≠ g') (a b c d e f i : Value) : Blk (((((((w.setCell ⟨g', 0, none⟩ a).setCell ⟨g', 1, none⟩ b).setCell ⟨g', 2, none⟩ c).setCell ⟨g', 3, none⟩ d).setCell ⟨g', 4, none⟩ e).setCell ⟨g', 5, none⟩ f).setCell ⟨g', 6, none⟩ i) g t cs :=
  (heap_put7 w g' a b c d e f i g hne).trans h
theorem Blk.there7 {w : World} {g t : Nat} {a b c d e f i : Value} (h : Blk w g t [a, b, c, d, e, f, i]) : w.there g 0 7 := fun j hj => by
  have e := h.cell j
  refine ⟨?_, h.frozen _⟩
  rw [Nat.zero_add, e]
  match j, hj with
  | 0, _ => rfl
  | 1, _ => rfl
  | 2, _ => rfl
  | 3, _ => rfl
  | 4, _ => rfl
  | 5, _ => rfl
  | 6, _ => rfl
/-- A store of a whole vault, and what it leaves. -/
theorem store_va {w : World} {g : Nat} {a b c d e f i : Value} (h : Blk w g 33 [a, b, c, d, e, f, i]) (n sl fr room : Int) (gn : Int) (nx : Int) (st : Bool) :
    ∃ W', (Instr.storeAt 33 (.pointer (some ⟨g, 0, none⟩)) (.agg #[.int .i64 n, .int .i64 sl, .int .i64 fr, .int .i64 room, .int .u64 gn, .int .i64 nx, .bool st])).run Tryd.prog w = .ok () W' ∧ Blk W' g 33 [.int .i64 n, .int .i64 sl, .int .i64 fr, .int .i64 room, .int .u64 gn, .int .i64 nx, .bool st] ∧ (∀ B w0, Below B w0 w → B ≤ g → Below B w0 W') ∧ (∀ j, j ≠ g → W'.heap[j]? = w.heap[j]?) ∧ W'.heap.size = w.heap.size :=
  ⟨_, run_storeAt_mid (P := Tryd.prog) w g 0 33 #[.int .i64 n, .int .i64 sl, .int .i64 fr, .int .i64 room, .int .u64 gn, .int .i64 nx, .bool st] h.there7 (by kernel_rfl) (by simp [Value.oneCell']),
    h.put7 _ _ _ _ _ _ _, fun B w0 hb hg => below_put7 hb hg _ _ _ _ _ _ _, fun j hne => heap_put7 _ _ _ _ _ _ _ _ _ j hne, size_put7 _ _ _ _ _ _ _ _ _⟩
theorem wp_built_is {P : Program} {o : Oper} {a : Act} {w : World} {K : Act → World → Prop} {Q : Exit → Act → World → Prop} (t : TypeId) (parts : Array (Nat × Operand)) (ho : o.op = .build t parts)
    (vals : List (Nat × Value)) (hv : (parts.map fun (i, x) => (i, a.eval x)).toList = vals) (cells : Array Value) (hb : P.built t vals = some cells) (h : K (a.put o.dst (.agg cells)) w) : o.wp P a w K Q := by
  refine wp_build t parts ho (by rw [hv, hb]; rfl) ?_
  rw [hv, hb]
  exact h
end Go.Proofs.YtbigpapniloknaaDoor
