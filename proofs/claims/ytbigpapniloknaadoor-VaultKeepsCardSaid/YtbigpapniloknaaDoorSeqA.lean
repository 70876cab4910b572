/- A range over a function whose iterator has blocks of its own: contract and law, over whatever program. -/
import Derived.RangeFuncNested
import Derived.RangeFuncBound
import Derived.RangeFuncLeaves
namespace Go.Proofs.YtbigpapniloknaaDoor
open Go.RowKit

/-- All blocks lie as they lay but k of them, from B on; new ones may have come. -/
structure Aside (B k : Nat) (W W' : World) : Prop where
  os : W'.os = W.os
  tape : W'.tape = W.tape
  output : W'.output = W.output
  size : W.heap.size ≤ W'.heap.size
  block : ∀ j, j < W.heap.size → (j < B ∨ B + k ≤ j) → W'.heap[j]? = W.heap[j]?
theorem Aside.refl (B k : Nat) (W : World) : Aside B k W W := ⟨rfl, rfl, rfl, Nat.le_refl _, fun _ _ _ => rfl⟩
theorem Aside.trans {B k : Nat} {X Y Z : World} (h : Aside B k X Y) (q : Aside B k Y Z) : Aside B k X Z :=
  ⟨q.os.trans h.os, q.tape.trans h.tape, q.output.trans h.output, Nat.le_trans h.size q.size, fun j hj hb => (q.block j (Nat.lt_of_lt_of_le hj h.size) hb).trans (h.block j hj hb)⟩
theorem Aside.of_below {B k : Nat} {W W' : World} (h : Below W.heap.size W W') : Aside B k W W' := ⟨h.os, h.tape, h.output, h.size, fun j hj _ => h.block j hj⟩
theorem Aside.mono {B k B' k' : Nat} {W W' : World} (h : Aside B k W W') (h1 : B' ≤ B) (h2 : B + k ≤ B' + k') : Aside B' k' W W' :=
  ⟨h.os, h.tape, h.output, h.size, fun j hj hb => h.block j hj (by omega)⟩
theorem Aside.setCell {B k : Nat} (W : World) {p : Addr} (h1 : B ≤ p.block) (h2 : p.block < B + k) (v : Value) : Aside B k W (W.setCell p v) :=
  ⟨rfl, rfl, rfl, by simp [World.setCell], fun j _ hb => Below.heap_setCell W p v j (by omega)⟩
theorem Aside.putObj {B k : Nat} (W : World) {l : Nat} (h1 : B ≤ l) (h2 : l < B + k) (o : Obj) : Aside B k W (W.putObj l o) :=
  ⟨rfl, rfl, rfl, by simp, fun j _ hb => World.putObj_heap_other (by omega)⟩
theorem Aside.alloc {B k : Nat} (W : World) (o : Obj) : Aside B k W (W.alloc o) := .of_below ((Below.refl _ _).alloc (Nat.le_refl _) o)
theorem Aside.below {B k n : Nat} {W W' : World} (h : Aside B k W W') (hn : n ≤ B) (hs : n ≤ W.heap.size) : Below n W W' := ⟨h.os, h.tape, h.output, h.size, fun j hj => h.block j (by omega) (by omega)⟩
theorem Aside.get {B k j : Nat} {W W' : World} {o : Obj} (h : Aside B k W W') (ho : W.heap[j]? = some o) (hb : j < B ∨ B + k ≤ j) : W'.heap[j]? = some o := (h.block j (Array.getElem?_eq_some_iff.1 ho).1 hb).trans ho

/-- These blocks lie as they lay. -/
def Its (B k : Nat) (W W' : World) : Prop := ∀ j, B ≤ j → j < B + k → W'.heap[j]? = W.heap[j]?
theorem Its.refl (B k : Nat) (W : World) : Its B k W W := fun _ _ _ => rfl
theorem Its.trans {B k : Nat} {X Y Z : World} (h : Its B k X Y) (q : Its B k Y Z) : Its B k X Z := fun j h1 h2 => (q j h1 h2).trans (h j h1 h2)
theorem Its.mono {B k B' k' : Nat} {W W' : World} (h : Its B k W W') (h1 : B ≤ B') (h2 : B' + k' ≤ B + k) : Its B' k' W W' := fun j a b => h j (by omega) (by omega)
theorem Its.of_below {B k n : Nat} {W W' : World} (h : Below n W W') (hn : B + k ≤ n) : Its B k W W' := fun j _ b => h.block j (by omega)
theorem Its.of_aside {B k B' k' : Nat} {W W' : World} (h : Aside B' k' W W') (hs : B + k ≤ W.heap.size) (hb : B + k ≤ B' ∨ B' + k' ≤ B) : Its B k W W' := fun j a b => h.block j (by omega) (by omega)
theorem Its.setCell {B k : Nat} (W : World) {p : Addr} (h : p.block < B ∨ B + k ≤ p.block) (v : Value) : Its B k W (W.setCell p v) := fun j a b => Below.heap_setCell W p v j (by omega)
theorem Its.putObj {B k : Nat} (W : World) {l : Nat} (h : l < B ∨ B + k ≤ l) (o : Obj) : Its B k W (W.putObj l o) := fun j a b => World.putObj_heap_other (by omega)

theorem roundAny {m m' : Nat} {P : Program} {l : Nat} {f : FuncId} {tmps : Array Value} {assign body : Code} {w : World} {R : Ending → World → Prop} (h : RoundIn Fence.wide m P l f tmps assign body w R) : RoundIn Fence.wide m' P l f tmps assign body w R :=
  ⟨h.1, fun c cs _ => h.2 c cs (room_wide _)⟩
theorem roundIn {m m' l0 : Nat} {P : Program} {l : Nat} {f : FuncId} {tmps : Array Value} {assign body : Code} {w : World} {R : Ending → World → Prop} (h : RoundIn Fence.wide m P l f tmps assign body w R) : RoundIn (Fence.wide.inRound l0) m' P l f tmps assign body w R :=
  roundAny (m' := m') h

/-- An iterator's contract: it gives the elements of L, in order, till a round says 'no more'; k blocks are its own. -/
def SeqOwn {α : Type} (P : Program) (g : Nat) (lb : Array Value) (encs : α → Array Value) (k : Nat) (Kp : Nat → World → World → Prop) (L : List α) (w : World) : Prop :=
  ∀ (l : Nat) (J Jx : List α → World → Prop) (W : World), Below w.heap.size w W →
    (∀ s X Y, J s X → Aside W.heap.size k X Y → J s Y) → (∀ s X Y, Jx s X → Aside W.heap.size k X Y → Jx s Y) →
    (∀ pre x Wm W1, J pre Wm → Aside W.heap.size k Wm W1 → pre ++ [x] <+: L → W.heap.size + k ≤ W1.heap.size → YieldAt Fence.wide 0 P l (encs x) W1 fun e W' =>
      ((e = .returned (.bool true) ∧ J (pre ++ [x]) W') ∨ (e = .returned (.bool false) ∧ Jx (pre ++ [x]) W')) ∧ Kp Wm.heap.size W1 W' ∧ Its W.heap.size k W1 W') →
    J [] W →
    Calls P g (#[.func (.yield l) #[] #[]] ++ lb) W fun e W' => (∃ v, e = .returned v) ∧ (J L W' ∨ ∃ pre, pre <+: L ∧ Jx pre W')

/-- How a round's body may be left. -/
def seqPost {α : Type} (B k : Nat) (Kp : World → World → Prop) (I : List α → World → Prop) (Ix : Code → List α → World → Prop) (xs : List α) (W : World) : Exit → Act → World → Prop
  | .normal, _, W' => (Its B (k + 2) W W' ∧ Kp W W') ∧ I xs W'
  | .ret, _, W' => (Its B (k + 2) W W' ∧ Kp W W') ∧ Ix .ret xs W'
  | .exit id, _, W' => (Its B (k + 2) W W' ∧ Kp W W') ∧ Ix (.exit id) xs W'
  | .goto t, _, W' => (Its B (k + 2) W W' ∧ Kp W W') ∧ Ix (.goto t) xs W'
  | .panic _, _, _ => False
  | .outgrown, _, _ => False

theorem wpIn_seq {α : Type} {P : Program} {g : Operand} {ps : Array Tmp} {assign body : Code} {Q : Exit → Act → World → Prop} {a : Act} {w : World}
    {gf : Nat} {lb : Array Value} (hg : a.eval g = .func (.func gf) #[] lb) (eg : ∀ args w, (callFunc gf args).run P w = .ok (.enter gf args) w)
    {encs : α → Array Value} {k : Nat} {Kp : Nat → World → World → Prop} {L : List α} {w0 : World} (hseq : SeqOwn P gf lb encs k Kp L w0)
    (hKt : ∀ {m : Nat} {A B C : World}, Kp m A B → Kp m B C → Kp m A C) (hKb : ∀ (m : Nat) (W : World) (l : Nat) (o : Obj), w.heap.size ≤ l → l < m → Kp m W (W.putObj l o)) (hb0 : Below w0.heap.size w0 w) (hps : ∀ x, (encs x).size = ps.size)
    (I : List α → World → Prop) (Ix : Code → List α → World → Prop) (hI : ∀ s X Y, I s X → Aside w.heap.size (k + 2) X Y → I s Y) (hIx : ∀ c s X Y, Ix c s X → Aside w.heap.size (k + 2) X Y → Ix c s Y) (h0 : I [] w)
    (Ax : Nat → List α → α → Act → World → Prop) (hAx : ∀ m s x a' X Y, w.heap.size + 2 ≤ m → Ax m s x a' X → Aside w.heap.size (k + 2) X Y → Ax m s x a' Y)
    (hassign : ∀ (pre : List α) (x : α) (Wm W : World) (K : Act → World → Prop), I pre Wm → w.heap.size + 2 ≤ Wm.heap.size → Aside w.heap.size (k + 2) Wm W → I pre W → pre ++ [x] <+: L → w.heap.size + 2 + k ≤ W.heap.size → (∀ a' W', Its w.heap.size (k + 2) W W' → W.heap.size ≤ W'.heap.size → Kp Wm.heap.size W W' → Ax Wm.heap.size pre x a' W' → K a' W') →
      assign.wpIn (Fence.wide.inRound (w.heap.size + 1)) 0 P (Exit.then K (fun _ _ _ => False)) { tmps := (ps.zip (encs x)).foldl (fun t (p, v) => t.setIfInBounds p v) a.tmps, defers := [] } W)
    (hbody : ∀ (m : Nat) (pre : List α) (x : α) (a' : Act) (W : World), w.heap.size + 2 ≤ m → Ax m pre x a' W → pre ++ [x] <+: L → w.heap.size + 2 + k ≤ W.heap.size → (∃ r, W.heap[w.heap.size + 1]? = some (.loop r)) → W.heap[w.heap.size]? = some (.deferred (some [])) → body.wpIn (Fence.wide.inRound (w.heap.size + 1)) 0 P (seqPost w.heap.size k (Kp m) I Ix (pre ++ [x]) W) a' W)
    (hdone : ∀ (W : World), I L W → W.heap[w.heap.size]? = some (.deferred (some [])) → Q .normal { a with defers := { target := .collected w.heap.size, args := #[] } :: a.defers } W)
    (hstop : ∀ (c : Code) (pre : List α) (W : World), pre <+: L → Ix c pre W → W.heap[w.heap.size]? = some (.deferred (some [])) → c.wpIn Fence.wide 0 P Q { a with defers := { target := .collected w.heap.size, args := #[] } :: a.defers } W) :
    (Code.rangeFunc g ps assign body).wpIn Fence.wide 0 P Q a w := by
  refine wpIn_rangeFunc ?_
  intro fn hfn
  obtain ⟨rec, hrec⟩ : ∃ rec : LoopState → Option Code → Loop, rec = fun st pe => { state := st, pending := pe, fn, tmps := a.tmps, params := ps, assign, body, defers := w.heap.size } := ⟨_, rfl⟩
  obtain ⟨W1, hW1⟩ : ∃ W1, (w.alloc (.deferred (some []))).alloc (.loop (rec .ready none)) = W1 := ⟨_, rfl⟩
  have hL1 : W1.heap[w.heap.size + 1]? = some (.loop (rec .ready none)) := by
    rw [← hW1]; have := World.alloc_heap_new (w.alloc (.deferred (some []))) (.loop (rec .ready none)); rwa [World.size_alloc] at this
  have hK1 : W1.heap[w.heap.size]? = some (.deferred (some [])) := by
    rw [← hW1]; exact (Below.heap_alloc _ _ _ (by simp)).trans (World.alloc_heap_new w _)
  have hsz1 : W1.heap.size = w.heap.size + 2 := by rw [← hW1]; simp
  have hI1 : I [] W1 := by rw [← hW1]; exact hI _ _ _ (hI _ _ _ h0 (Aside.alloc _ _)) (Aside.alloc _ _)
  have hb1 : Below w0.heap.size w0 W1 := by
    rw [← hW1]; exact hb0.trans ((((Below.refl _ w).alloc (Nat.le_refl _) _).alloc (by simp) _).mono hb0.size)
  refine ⟨w.heap.size + 1, [{ target := .collected w.heap.size, args := #[] }], W1, { target := .fn (.func gf) lb, args := #[.func (.yield (w.heap.size + 1)) #[] #[]] }, W1, gf,
    #[.func (.yield (w.heap.size + 1)) #[] #[]] ++ lb, W1, ?_, ?_, ?_, ?_, (fun h => by cases h), ?_⟩
  · rw [← hW1, hrec]; exact run_enterLoop_outer _ _ _ _ _
  · simp only [resolve, hg]
    simp [go_sem]
  · intro f' _; trivial
  · simp [invoke, go_sem, eg]
  · refine callsIn_wide.2 ?_
    refine (hseq (w.heap.size + 1)
      (fun pre W => I pre W ∧ W.heap[w.heap.size + 1]? = some (.loop (rec .ready none)) ∧ W.heap[w.heap.size]? = some (.deferred (some [])))
      (fun pre W => ∃ c, Ix c pre W ∧ W.heap[w.heap.size + 1]? = some (.loop (rec .done (some c))) ∧ W.heap[w.heap.size]? = some (.deferred (some [])))
      W1 hb1
      (fun s X Y hs ha => by
        rw [hsz1] at ha
        exact ⟨hI s X Y hs.1 (ha.mono (by omega) (by omega)), ha.get hs.2.1 (by omega), ha.get hs.2.2 (by omega)⟩)
      (fun s X Y hs ha => by
        rw [hsz1] at ha
        obtain ⟨c, hc, hl, hk⟩ := hs
        exact ⟨c, hIx c s X Y hc (ha.mono (by omega) (by omega)), ha.get hl (by omega), ha.get hk (by omega)⟩)
      ?_ ⟨hI1, hL1, hK1⟩).mono ?_
    · rintro pre x Wm W ⟨him, hlm, hkm⟩ ham hpre hlen
      rw [hsz1] at hlen ham ⊢
      have ham2 : Aside w.heap.size (k + 2) Wm W := ham.mono (by omega) (by omega)
      have hi := hI _ _ _ him ham2
      have hl := ham.get hlm (by omega)
      have hk := ham.get hkm (by omega)
      have hmm : w.heap.size + 2 ≤ Wm.heap.size := (Array.getElem?_eq_some_iff.1 hlm).1
      have hy := run_yield (P := P) (args := encs x) hl (by rw [hrec]; exact hps x)
      rw [hrec] at hy
      refine ⟨fn, _, assign, body, hy, roundIn_of_wpIn hfn (hassign pre x Wm W _ him hmm ham2 hi hpre hlen ?_)⟩
      clear hy
      intro a' Wa hits hsz hkpa hax
      have hl' : Wa.heap[w.heap.size + 1]? = some (.loop (rec .ready none)) := (hits _ (by omega) (by omega)).trans hl
      have hk' : Wa.heap[w.heap.size]? = some (.deferred (some [])) := (hits _ (by omega) (by omega)).trans hk
      refine ⟨_, run_beginRound hl' (by rw [hrec]), ?_⟩
      have hlt : w.heap.size + 1 < Wa.heap.size := (Array.getElem?_eq_some_iff.1 hl').1
      obtain ⟨Wb, hWb⟩ : ∃ Wb, Wb = Wa.putObj (w.heap.size + 1) (.loop { rec .ready none with state := .busy }) := ⟨_, rfl⟩
      have hab : Aside w.heap.size (k + 2) Wa Wb := by rw [hWb]; exact Aside.putObj _ (by omega) (by omega) _
      have hl2 : Wb.heap[w.heap.size + 1]? = some (.loop { rec .ready none with state := .busy }) := by rw [hWb]; exact World.putObj_heap_same hlt
      have hk2 : Wb.heap[w.heap.size]? = some (.deferred (some [])) := by rw [hWb]; exact (World.putObj_heap_other (by omega)).trans hk'
      have hrest : ∀ j, w.heap.size + 2 ≤ j → Wb.heap[j]? = Wa.heap[j]? := fun j hj => by rw [hWb]; exact World.putObj_heap_other (by omega)
      have hw2 : Kp Wm.heap.size W Wb := hKt hkpa (by rw [hWb]; exact hKb _ _ _ _ (by omega) (by omega))
      rw [← hWb]
      refine wpIn_mono (hbody Wm.heap.size pre x a' Wb hmm (hAx _ _ _ _ _ _ hmm hax hab) hpre (Nat.le_trans hlen (Nat.le_trans hsz hab.size)) ⟨_, hl2⟩ hk2) ?_
      have fin : ∀ (jump : Option Code) (W3 : World), Its w.heap.size (k + 2) Wb W3 →
          ∃ W4, (Instr.endRound (w.heap.size + 1) jump).run P W3 = .ok (.bool jump.isNone) W4 ∧ Aside w.heap.size (k + 2) W3 W4 ∧ (∀ {Z : World}, Kp Wm.heap.size Z W3 → Kp Wm.heap.size Z W4) ∧
          W4.heap[w.heap.size + 1]? = some (.loop (rec (if jump.isNone then .ready else .done) jump)) ∧ W4.heap[w.heap.size]? = some (.deferred (some [])) ∧ Its (w.heap.size + 2) k W W4 := fun jump W3 hk3 => by
        have hl3 : W3.heap[w.heap.size + 1]? = _ := (hk3 _ (by omega) (by omega)).trans hl2
        have hr := run_endRound (P := P) jump hl3
        refine ⟨_, hr, Aside.putObj _ (by omega) (by omega) _, fun hz => hKt hz (hKb _ _ _ _ (by omega) (by omega)), ?_, ?_, ?_⟩
        · rw [World.putObj_heap_same (Array.getElem?_eq_some_iff.1 hl3).1, hrec]
        · exact (World.putObj_heap_other (by omega)).trans ((hk3 _ (by omega) (by omega)).trans hk2)
        · intro j h1 h2
          exact (World.putObj_heap_other (by omega)).trans ((hk3 j (by omega) (by omega)).trans ((hrest j h1).trans (hits j (by omega) (by omega))))
      rintro e a3 W3 hp
      cases e with
      | normal =>
        obtain ⟨⟨hk3, hkp3⟩, hi3⟩ := hp
        obtain ⟨W4, hr, hs4, hq4, hl4, hk4, hit⟩ := fin none W3 hk3
        exact ⟨_, W4, hr, .inl ⟨rfl, hI _ _ _ hi3 hs4, hl4, hk4⟩, hq4 (hKt hw2 hkp3), hit⟩
      | ret =>
        obtain ⟨⟨hk3, hkp3⟩, hi3⟩ := hp
        obtain ⟨W4, hr, hs4, hq4, hl4, hk4, hit⟩ := fin (some .ret) W3 hk3
        exact ⟨_, W4, hr, .inr ⟨rfl, .ret, hIx _ _ _ _ hi3 hs4, hl4, hk4⟩, hq4 (hKt hw2 hkp3), hit⟩
      | exit id =>
        obtain ⟨⟨hk3, hkp3⟩, hi3⟩ := hp
        obtain ⟨W4, hr, hs4, hq4, hl4, hk4, hit⟩ := fin (some (.exit id)) W3 hk3
        exact ⟨_, W4, hr, .inr ⟨rfl, .exit id, hIx _ _ _ _ hi3 hs4, hl4, hk4⟩, hq4 (hKt hw2 hkp3), hit⟩
      | goto t =>
        obtain ⟨⟨hk3, hkp3⟩, hi3⟩ := hp
        obtain ⟨W4, hr, hs4, hq4, hl4, hk4, hit⟩ := fin (some (.goto t)) W3 hk3
        exact ⟨_, W4, hr, .inr ⟨rfl, .goto t, hIx _ _ _ _ hi3 hs4, hl4, hk4⟩, hq4 (hKt hw2 hkp3), hit⟩
      | panic ch => exact hp.elim
      | outgrown => exact hp.elim
    · rintro e W2 ⟨⟨v, rfl⟩, (⟨hi, hl, hk⟩ | ⟨pre, hSp, c, hi, hl, hk⟩)⟩
      · exact ⟨none, _, by have := run_endLoop (P := P) hl (by rw [hrec]; simp); rw [hrec] at this; exact this, hdone _ (hI _ _ _ hi (Aside.putObj _ (by omega) (by omega) _)) ((World.putObj_heap_other (by omega)).trans hk)⟩
      · exact ⟨some c, _, by have := run_endLoop (P := P) hl (by rw [hrec]; simp); rw [hrec] at this; exact this, hstop c pre _ hSp (hIx c _ _ _ hi (Aside.putObj _ (by omega) (by omega) _)) ((World.putObj_heap_other (by omega)).trans hk)⟩

end Go.Proofs.YtbigpapniloknaaDoor
