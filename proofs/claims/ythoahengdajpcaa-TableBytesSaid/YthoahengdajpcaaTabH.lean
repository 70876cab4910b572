/- What tables keep while numbers are handed on; the functions that Encode and Decode hand over. Written by wip/tools/gen_tabh.py. -/
import Derived.Test.YthoahengdajpcaaTabG
import Derived.Lib.AppendStr
import Derived.OwnWalk
import Derived.Deep.RegionHeld3
namespace Go.Proofs.Ythoahengdajpcaa
open Go.RowKit
set_option maxRecDepth 100000

/-- The types of the blocks that each makes. -/
def eachT (t : TypeId) : Bool := t == 28 || t == 24
/-- The blocks of these types lie as they lay. -/
def KeepT (p : TypeId → Bool) (X Y : World) : Prop := X.heap.size ≤ Y.heap.size ∧ ∀ (j : Nat) (c : Array Value) (t : TypeId), X.heap[j]? = some (.cells c t (0, 0)) → p t = true → Y.heap[j]? = some (.cells c t (0, 0))
theorem KeepT.refl (p : TypeId → Bool) (X : World) : KeepT p X X := ⟨Nat.le_refl _, fun _ _ _ h _ => h⟩
theorem KeepT.trans {p : TypeId → Bool} {X Y Z : World} (h : KeepT p X Y) (k : KeepT p Y Z) : KeepT p X Z := ⟨Nat.le_trans h.1 k.1, fun j c t a b => k.2 j c t (h.2 j c t a b) b⟩
theorem KeepT.of_below {p : TypeId → Bool} {X Y : World} (h : Below X.heap.size X Y) : KeepT p X Y := ⟨h.size, fun j c t a _ => by
  rw [h.block j (Array.getElem?_eq_some_iff.1 a).1]; exact a⟩
theorem KeepT.blk {p : TypeId → Bool} {X Y : World} {g t : Nat} {cs : List Value} (h : KeepT p X Y) (hB : Blk X g t cs) (ht : p t = true) : Blk Y g t cs := h.2 g _ t hB.get ht
theorem KeepT.setCell {p : TypeId → Bool} {X : World} {g t : Nat} {cs : List Value} (hB : Blk X g t cs) (ht : p t = false) (i : Nat) (u : Value) : KeepT p X (X.setCell ⟨g, i, none⟩ u) :=
  ⟨by simp [World.setCell], fun j c t' a b => by
    rw [Below.heap_setCell _ _ _ _ (show j ≠ g from ?_)]
    · exact a
    · rintro rfl
      have h2 := hB.get
      rw [a] at h2
      injection h2 with h2
      injection h2 with _ h3
      subst h3
      rw [ht] at b
      cases b⟩
theorem KeepT.new {p : TypeId → Bool} {X Y Z : World} (h : KeepT p X Y) (hs : Y.heap.size ≤ Z.heap.size) (hk : ∀ j, j < X.heap.size → Z.heap[j]? = Y.heap[j]?) : KeepT p X Z :=
  ⟨Nat.le_trans h.1 hs, fun j c t a b => by rw [hk j (Array.getElem?_eq_some_iff.1 a).1]; exact h.2 j c t a b⟩
theorem Blk.three {w : World} {g t : Nat} {a b c : Value} (h : Blk w g t [a, b, c]) : w.cell? ⟨g, 0, none⟩ = some a ∧ w.cell? ⟨g, 1, none⟩ = some b ∧ w.cell? ⟨g, 2, none⟩ = some c := ⟨h.cell 0, h.cell 1, h.cell 2⟩
theorem Blk.put3 {w : World} {g t : Nat} {a b c : Value} (h : Blk w g t [a, b, c]) (a' b' c' : Value) : Blk (((w.setCell ⟨g, 0, none⟩ a').setCell ⟨g, 1, none⟩ b').setCell ⟨g, 2, none⟩ c') g t [a', b', c'] := ((h.set_ 0 a').set_ 1 b').set_ 2 c'
theorem Blk.keep3 {p : TypeId → Bool} {w : World} {g t : Nat} {a b c : Value} (h : Blk w g t [a, b, c]) (ht : p t = false) (a' b' c' : Value) : KeepT p w (((w.setCell ⟨g, 0, none⟩ a').setCell ⟨g, 1, none⟩ b').setCell ⟨g, 2, none⟩ c') :=
  ((KeepT.setCell h ht 0 a').trans (KeepT.setCell (h.set_ 0 a') ht 1 b')).trans (KeepT.setCell ((h.set_ 0 a').set_ 1 b') ht 2 c')
theorem KeepT.grown {p : TypeId → Bool} {X Y : World} {base e n : Nat} {v : Value} {xs : List Value} (h : X.grownBy Y v.ownBlock) (ho : X.ownsRow base e 1 v n xs) (he : p e = false) : KeepT p X Y :=
  ⟨h.size, fun j c t a b => by
    rw [h.block j (Array.getElem?_eq_some_iff.1 a).1 ?_]
    · exact a
    · have hne : t ≠ e := by
        rintro rfl
        rw [he] at b; cases b
      have hB : Blk X j t c.toList := by unfold Blk; rw [a]
      exact fun e2 => own_ne ho hB hne e2.symm⟩
theorem own_keepT {p : TypeId → Bool} {X Y : World} {base e n : Nat} {v : Value} {xs : List Value} (h : X.ownsRow base e 1 v n xs) (hk : KeepT p X Y) (he : p e = true) : Y.ownsRow base e 1 v n xs := by
  refine ⟨h.1, ?_⟩
  rcases h.2 with h0 | ⟨g, cap, cur, hv, hg, hh, hr⟩
  · exact .inl h0
  · exact .inr ⟨g, cap, cur, hv, hg, hk.2 _ _ _ hh he, hr⟩

/-- A function that takes a number on its way: what it answers, what it holds, what it leaves as it is. -/
structure NumFn (g : Nat) (cap : Array Value) (n₀ : Nat) {σ : Type} (step : σ → Nat → Nat → σ × Nat) (Inv : σ → World → Prop) (Can : σ → Nat → Prop) : Prop where
  call : ∀ (s : σ) (v n k : Nat) (W : World), Inv s W → Can s (k + 1) → 1 ≤ n → n ≤ 8 → v < 256 ^ n → v < 18446744073709551616 →
    Calls Try.prog g (#[.int .u64 (v : Int), .int .i64 (n : Int)] ++ cap) W fun e W' => e = .returned (.int .u64 ((step s v n).2 : Int)) ∧ Inv (step s v n).1 W' ∧ Below n₀ W W' ∧ KeepT eachT W W'
  can : ∀ (s : σ) (v n k : Nat), Can s (k + 1) → 1 ≤ n → n ≤ 8 → Can (step s v n).1 k
  small : ∀ (s : σ) (v n : Nat), 1 ≤ n → n ≤ 8 → v < 256 ^ n → (step s v n).2 < 256 ^ n
  keep : ∀ (s : σ) (X Y : World), Inv s X → KeepT (fun t => !eachT t) X Y → Inv s Y

set_option maxHeartbeats 1000000 in
theorem cmp_Or (a b : Int) (g : Nat) (W : World) (h : Blk W g 38 [.int .i64 a, .int .i64 b]) :
    Calls Try.prog 30 #[.slice (some ⟨g, 0, none⟩) 2 2] W fun e W' => e = .returned (.int .i64 (if a = 0 then b else a)) ∧ W = W' := by
  have c0 := h.cell 0
  have c1 := h.cell 1
  dsimp only [List.getElem?_cons_zero, List.getElem?_cons_succ] at c0 c1
  by_cases ha : a = 0
  · subst ha
    by_cases hb : b = 0
    · subst hb
      go_enter Try.func30, Try.ntmps30
      go_wp2
      refine wp_loop_rounds 3 ?_
      rw [rounds_succ]; go_wp2
      rw [rounds_succ]; go_wp2
      rw [rounds_succ]; go_wp2
      go_ret
      exact ⟨rfl, rfl⟩
    · have hb1 : (b != 0) = true := by simp [hb]
      have hb2 : (b == 0) = false := by simp [hb]
      go_enter Try.func30, Try.ntmps30
      go_wp2
      refine wp_loop_rounds 2 ?_
      rw [rounds_succ]; go_wp2
      rw [rounds_succ]; go_wp2
      go_ret
      exact ⟨rfl, rfl⟩
  · have hb1 : (a != 0) = true := by simp [ha]
    have hb2 : (a == 0) = false := by simp [ha]
    rw [if_neg ha]
    go_enter Try.func30, Try.ntmps30
    go_wp2
    refine wp_loop_rounds 1 ?_
    rw [rounds_succ]; go_wp2
    go_ret
    exact ⟨rfl, rfl⟩

/-- The bytes so far, in the box that is handed over with closed's function. -/
def InvC (n₀ B : Nat) (l : List UInt8) (W : World) : Prop := n₀ ≤ B ∧ n₀ ≤ W.heap.size ∧ ∃ u, Blk W B 60 [u] ∧ W.ownsRow n₀ 5 1 u l.length (nums .u8 (nb l))
def stC (l : List UInt8) (v n : Nat) : List UInt8 × Nat := (l ++ beL v n, v)

set_option maxHeartbeats 4000000 in
theorem enc_fn (n₀ B v n : Nat) (l : List UInt8) (W : World) (h : InvC n₀ B l W) (hl : l.length ≤ 1000000) (h1 : 1 ≤ n) (h8 : n ≤ 8) (hf : v < 256 ^ n) (hv : v < 18446744073709551616) :
    Calls Try.prog 24 (#[.int .u64 (v : Int), .int .i64 (n : Int)] ++ #[.pointer (some ⟨B, 0, none⟩)]) W fun e W' => e = .returned (.int .u64 (v : Int)) ∧ InvC n₀ B (l ++ beL v n) W' ∧ Below n₀ W W' ∧ KeepT eachT W W' := by
  obtain ⟨i0, hi, hz0, hz1, hz2⟩ := info_parts infoByte
  obtain ⟨hB, hn, u, hU, hO⟩ := h
  have HP := Lib.hid (fun W => oct_Put_ok v n W h1 h8 hv hf)
  obtain ⟨D, hD⟩ : ∃ D, D = beL v n := ⟨_, rfl⟩
  rw [← hD] at HP
  have HD := Lib.hid hD
  have hDs : (bs D).size = n := by rw [bs_size, hD, beL_len]
  have HU := Lib.hid hU
  have HO := Lib.hid hO
  clear hD hU hO hf
  go_enter Try.func24, Try.ntmps24
  go_wp2_with fail
  refine (HP.out _).mono ?_
  rintro e w1 ⟨rfl, hb1⟩
  have HU1 := Lib.hid (HU.out.keep hb1)
  have HO1 := Lib.hid (own_keep HO.out hb1)
  have hc := HU1.out.cell0
  have B1 := Lib.hid hb1
  have hs1 : n₀ ≤ w1.heap.size := Nat.le_trans hn hb1.size
  clear hb1
  go_wp2_with (at_builtin; refine Lib.wpList_append_own_string _ rfl _ _ 60 9 rfl n₀ 5 i0 Try.underlying60 Try.underlying9 hi hz0 hz1 hz2 _ _ _ rfl HO1.out (bs D) rfl (by simp only [maxLen]; rw [hDs]; omega) (by rw [hDs]; omega) hs1 ?_)
  intro v' w2 hown hgr _
  have HU2 := Lib.hid (HU1.out.grown hgr (fun e => own_ne HO1.out HU1.out (by decide) e.symm))
  have hf0 := HU2.out.frozen 0
  have hc2 := HU2.out.cell0
  have HOW := Lib.hid hown
  have HG := Lib.hid hgr
  obtain ⟨ao, n', cap, rfl⟩ : ∃ ao n' cap, v' = .slice ao n' cap := by
    rcases hown.2 with ⟨hv, _⟩ | ⟨g, cap, cur, hv, _⟩
    · exact ⟨_, _, _, hv⟩
    · exact ⟨_, _, _, hv⟩
  clear hown hgr hc
  go_wp2_with fail
  go_ret
  have hl2 : (l ++ beL v n).length = l.length + (bs D).size := by rw [List.length_append, beL_len, hDs]
  have hcs : nums .u8 (nb l) ++ Lib.strCells (bs D) = nums .u8 (nb (l ++ beL v n)) := by
    rw [nb_append, nums_append, ← HD.out]
    congr 1
    unfold Lib.strCells bs
    simp [nums, nb]
  have hk1 : KeepT eachT W w1 := KeepT.of_below B1.out
  have hk2 : KeepT eachT w1 w2 := KeepT.grown HG.out HO1.out (by decide)
  refine ⟨rfl, ⟨hB, ?_, .slice ao n' cap, HU2.out.set_ 0 _, ?_⟩, ?_, ?_⟩
  · have := HG.out.size
    simp [World.setCell]; omega
  · rw [hl2, ← hcs, hDs]
    exact ownsRow_setCell_other (a := ⟨B, 0, none⟩) HOW.out (own_ne HOW.out HU2.out (show 60 ≠ 5 by decide)) _
  · exact ((B1.out.mono hn).grown HG.out hs1 (fun g hg => (HO1.out.lt g hg).1)).setCell (p := ⟨B, 0, none⟩) hB _
  · exact (hk1.trans hk2).trans (KeepT.setCell HU2.out (by decide) 0 _)

theorem enc_num (n₀ B : Nat) : NumFn 24 #[.pointer (some ⟨B, 0, none⟩)] n₀ stC (InvC n₀ B) (fun l k => l.length + 8 * k ≤ 1000000) where
  call s v n k W h hk h1 h8 hf hv := enc_fn n₀ B v n s W h (by omega) h1 h8 hf hv
  can s v n k h h1 h8 := by
    show (s ++ beL v n).length + 8 * k ≤ 1000000
    rw [List.length_append, beL_len]; omega
  small s v n h1 h8 h := h
  keep s X Y h hk := by
    obtain ⟨hB, hn, u, hU, hO⟩ := h
    exact ⟨hB, Nat.le_trans hn hk.1, u, hk.blk hU (by decide), own_keepT hO hk (by decide)⟩

/-- What is told of bytes: where the next number begins, and what is wrong. -/
def stO (l : List UInt8) (s : Nat × Nat) (_ n : Nat) : (Nat × Nat) × Nat :=
  if s.1 + n ≤ l.length then ((s.1 + n, s.2), beV ((l.drop s.1).take n)) else ((l.length, if s.2 = 0 then 10 else s.2), 0)
/-- The boxes that are handed over with opened's function. -/
def InvO (n₀ b ba bf : Nat) (l : List UInt8) (s : Nat × Nat) (W : World) : Prop :=
  (n₀ ≤ ba ∧ n₀ ≤ bf ∧ b ≠ ba ∧ b ≠ bf ∧ ba ≠ bf) ∧ s.1 ≤ l.length ∧ Blk W b 9 [.string (bs l)] ∧ Blk W ba 3 [.int .i64 (s.1 : Int)] ∧ Blk W bf 38 [.int .i64 (s.2 : Int)]
theorem InvO.put {n₀ b ba bf : Nat} {l : List UInt8} {s : Nat × Nat} {W : World} (h : InvO n₀ b ba bf l s W) (a f : Nat) (ha : a ≤ l.length) :
    InvO n₀ b ba bf l (a, f) ((W.setCell ⟨ba, 0, none⟩ (.int .i64 (a : Int))).setCell ⟨bf, 0, none⟩ (.int .i64 (f : Int))) := by
  obtain ⟨h1, h2, h3, h4, h5⟩ := h
  refine ⟨h1, ha, ?_, ?_, ?_⟩
  · exact (h3.far h1.2.2.1 _).far h1.2.2.2.1 _
  · exact (h4.set_ 0 _).far h1.2.2.2.2 _
  · exact (h5.far h1.2.2.2.2.symm _).set_ 0 _

set_option maxHeartbeats 4000000 in
theorem dec_fn (n₀ b ba bf v n : Nat) (l : List UInt8) (s : Nat × Nat) (W : World) (h : InvO n₀ b ba bf l s W) (hl : l.length ≤ 1000000) (h1 : 1 ≤ n) (h8 : n ≤ 8) (hn0 : n₀ ≤ W.heap.size) :
    Calls Try.prog 28 (#[.int .u64 (v : Int), .int .i64 (n : Int)] ++ #[.pointer (some ⟨ba, 0, none⟩), .pointer (some ⟨b, 0, none⟩), .pointer (some ⟨bf, 0, none⟩)]) W fun e W' => e = .returned (.int .u64 ((stO l s v n).2 : Int)) ∧ InvO n₀ b ba bf l (stO l s v n).1 W' ∧ Below n₀ W W' ∧ KeepT eachT W W' := by
  obtain ⟨a, f⟩ := s
  have hal : a ≤ l.length := h.2.1
  obtain ⟨E, hE⟩ : ∃ E, E = min (a + n) l.length := ⟨_, rfl⟩
  obtain ⟨T, hT⟩ : ∃ T, T = (l.drop a).take (E - a) := ⟨_, rfl⟩
  have hTl : T.length = E - a := by rw [hT, List.length_take, List.length_drop]; omega
  have hEl : E ≤ l.length := by omega
  have haE : a ≤ E := by omega
  obtain ⟨x, R, c, hTake, hx⟩ : ∃ (x : Nat) (R : List UInt8) (c : Nat), (∀ W, Calls Try.prog 29 #[.string (bs T), .int .i64 (n : Int)] W fun e w' => e = .returned (.tuple #[.int .u64 (x : Int), .string (bs R), .int .i64 (c : Int)]) ∧ Below W.heap.size W w') ∧
      stO l (a, f) v n = ((E, if f = 0 then c else f), x) := by
    by_cases hs : a + n ≤ l.length
    · have hTn : T.length = n := by omega
      refine ⟨beV (T.take n), T.drop n, 0, fun W => oct_Take_ok T n W h1 h8 (by omega) (by omega), ?_⟩
      unfold stO
      dsimp only
      rw [if_pos hs, show T.take n = T from List.take_of_length_le (by omega), hT, show E - a = n from by omega]
      have : (if f = 0 then 0 else f) = f := by split <;> omega
      rw [this, show E = a + n from by omega]
    · refine ⟨0, [], 10, fun W => oct_Take_short T n W h1 h8 (by omega), ?_⟩
      unfold stO
      dsimp only
      rw [if_neg hs, show E = l.length from by omega]
  rw [hx]
  have HT := Lib.hid hTake
  have HI := Lib.hid h
  obtain ⟨_, _, g0, g3, g4⟩ := h
  have HOR := Lib.hid (fun g W hb => cmp_Or (f : Int) (c : Int) g W hb)
  have hF : (if (f : Int) = 0 then (c : Int) else (f : Int)) = ((if f = 0 then c else f : Nat) : Int) := by
    by_cases h : f = 0
    · rw [if_pos h, if_pos (by omega)]
    · rw [if_neg h, if_neg (by omega)]
  rw [hF] at HOR
  obtain ⟨F, hF2⟩ : ∃ F, F = (if f = 0 then c else f) := ⟨_, rfl⟩
  rw [← hF2] at HOR ⊢
  have c0 := g0.cell0
  have c3 := g3.cell0
  have hsz := bs_size l
  have hsum : IntKind.i64.wrap ((a : Int) + (n : Int)) = (a : Int) + (n : Int) := IntWalk.i64_in _ (by omega)
  have hmin : min ((a : Int) + (n : Int)) (l.length : Int) = (E : Int) := by rw [hE]; omega
  have HS := Lib.hid (fun W => oct_str_slice l T a E W haE hEl (by rw [bs_extract, ← hT]))
  have hsl := HS.out
  clear hTake hx hF hF2 hT hTl hE
  go_enter Try.func28, Try.ntmps28
  go_wp2_with fail
  refine (HT.out _).mono ?_
  rintro e w1 ⟨rfl, hb1⟩
  have B1 := Lib.hid hb1
  have HI1 : Hid (InvO n₀ b ba bf l (a, f) w1) := Lib.hid (by
    obtain ⟨q1, q2, q3, q4, q5⟩ := HI.out
    exact ⟨q1, q2, q3.keep hb1, q4.keep hb1, q5.keep hb1⟩)
  have k4 := HI1.out.2.2.2.2.cell0
  clear hb1 c0 c3 hsum hmin hsl g0 g3 g4
  go_wp2_with fail
  refine (HOR.out _ _ (heap_alloc_new w1 _)).mono ?_
  rintro e w2 ⟨rfl, rfl⟩
  obtain ⟨W2, hW2⟩ : ∃ W2, W2 = w1.alloc (.cells #[.int .i64 (f : Int), .int .i64 (c : Int)] 38) := ⟨_, rfl⟩
  have BB : Hid (Below w1.heap.size w1 W2) := Lib.hid (by rw [hW2]; exact (Below.refl _ _).alloc (Nat.le_refl _) _)
  have HI2 : Hid (InvO n₀ b ba bf l (a, f) W2) := Lib.hid (by
    obtain ⟨q1, q2, q3, q4, q5⟩ := HI1.out
    exact ⟨q1, q2, q3.keep BB.out, q4.keep BB.out, q5.keep BB.out⟩)
  have m3 := HI2.out.2.2.2.1.cell0
  have m4 := HI2.out.2.2.2.2.cell0
  have f3 := HI2.out.2.2.2.1.frozen 0
  have f4 := (HI2.out.2.2.2.2.far (p := ⟨ba, 0, none⟩) HI2.out.1.2.2.2.2.symm (.int .i64 (E : Int))).frozen 0
  have m4' := (HI2.out.2.2.2.2.far (p := ⟨ba, 0, none⟩) HI2.out.1.2.2.2.2.symm (.int .i64 (E : Int))).cell0
  rw [← hW2]
  clear hW2 k4
  go_wp2_with fail
  go_ret
  have k1 : KeepT eachT W W2 := (KeepT.of_below B1.out).trans (KeepT.of_below BB.out)
  have k2 : KeepT eachT W2 _ := KeepT.setCell HI2.out.2.2.2.1 (show eachT 3 = false by decide) 0 (.int .i64 (E : Int))
  have k3 := KeepT.setCell (p := eachT) (HI2.out.2.2.2.2.far (p := ⟨ba, 0, none⟩) HI2.out.1.2.2.2.2.symm (.int .i64 (E : Int))) (by decide) 0 (.int .i64 (F : Int))
  have hb := HI2.out.1
  exact ⟨rfl, HI2.out.put E F hEl, (((B1.out.mono hn0).trans (BB.out.mono (Nat.le_trans hn0 B1.out.size))).setCell (p := ⟨ba, 0, none⟩) (by show n₀ ≤ ba; exact hb.1) _).setCell (p := ⟨bf, 0, none⟩) (by show n₀ ≤ bf; exact hb.2.1) _, (k1.trans k2).trans k3⟩

theorem dec_num (n₀ b ba bf : Nat) (l : List UInt8) (hl : l.length ≤ 1000000) : NumFn 28 #[.pointer (some ⟨ba, 0, none⟩), .pointer (some ⟨b, 0, none⟩), .pointer (some ⟨bf, 0, none⟩)] n₀ (stO l) (fun s W => InvO n₀ b ba bf l s W ∧ n₀ ≤ W.heap.size) (fun _ _ => True) where
  call s v n k W h hk h1 h8 hf hv := (dec_fn n₀ b ba bf v n l s W h.1 hl h1 h8 h.2).mono (by
    rintro e W' ⟨he, hi, hb, hk⟩
    exact ⟨he, ⟨hi, Nat.le_trans h.2 hk.1⟩, hb, hk⟩)
  can s v n k h h1 h8 := trivial
  small s v n h1 h8 h := by
    unfold stO
    split
    · rename_i hs
      have := beV_lt ((l.drop s.1).take n)
      rw [List.length_take, List.length_drop, Nat.min_eq_left (by omega)] at this
      exact this
    · exact Nat.pow_pos (by omega)
  keep s X Y h hk := by
    obtain ⟨⟨h1, h2, h3, h4, h5⟩, h6⟩ := h
    exact ⟨⟨h1, h2, hk.blk h3 (by decide), hk.blk h4 (by decide), hk.blk h5 (by decide)⟩, Nat.le_trans h6 hk.1⟩

end Go.Proofs.Ythoahengdajpcaa
