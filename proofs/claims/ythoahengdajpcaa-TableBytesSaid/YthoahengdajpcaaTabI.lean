/- each of a row and of a table, for the functions that Encode and Decode hand over. Written by wip/tools/gen_tabi.py. -/
import Derived.Test.YthoahengdajpcaaTabH
namespace Go.Proofs.Ythoahengdajpcaa
open Go.RowKit
set_option maxRecDepth 100000

/-- A row's first counts, one behind the other. -/
def rowE {σ : Type} (step : σ → Nat → Nat → σ × Nat) (s : σ) (r : Nat → Nat) : Nat → σ × (Nat → Nat)
  | 0 => (s, fun _ => 0)
  | k + 1 => ((step (rowE step s r k).1 (r k) 4).1, upd (rowE step s r k).2 k (step (rowE step s r k).1 (r k) 4).2)
/-- A table's first rows, one behind the other. -/
def rowsE {σ : Type} (step : σ → Nat → Nat → σ × Nat) (s : σ) (f : Nat → Nat) (n : Nat) : Nat → σ × (Nat → Nat)
  | 0 => (s, fun _ => 0)
  | i + 1 => ((rowE step (rowsE step s f n i).1 (rowOf f i) n).1, setR (rowsE step s f n i).2 i (rowE step (rowsE step s f n i).1 (rowOf f i) n).2)
section
variable {g n₀ : Nat} {cap : Array Value} {σ : Type} {step : σ → Nat → Nat → σ × Nat} {Inv : σ → World → Prop} {Can : σ → Nat → Prop}
theorem rowE_can (HF : NumFn g cap n₀ step Inv Can) (s : σ) (r : Nat → Nat) (n j : Nat) (hc : Can s (n + j)) : ∀ k, k ≤ n → Can (rowE step s r k).1 (n - k + j) := by
  intro k
  induction k with
  | zero => intro _; exact hc
  | succ k ih =>
    intro hk
    have h := ih (by omega)
    rw [show n - k + j = n - (k + 1) + j + 1 from by omega] at h
    exact HF.can _ (r k) 4 _ h (by decide) (by decide)
theorem rowE_fits (HF : NumFn g cap n₀ step Inv Can) (s : σ) {r : Nat → Nat} (hr : Fits r) : ∀ k, Fits (rowE step s r k).2 := by
  intro k
  induction k with
  | zero => exact Fits.zero
  | succ k ih =>
    have e4 : (256 : Nat) ^ 4 = 4294967296 := by decide
    have h := HF.small (rowE step s r k).1 (r k) 4 (by decide) (by decide) (by rw [e4]; exact hr k)
    rw [e4] at h
    exact ih.upd k _ h
theorem rowsE_can (HF : NumFn g cap n₀ step Inv Can) (s : σ) (f : Nat → Nat) (n m : Nat) (hc : Can s (n * m)) : ∀ i, i ≤ m → Can (rowsE step s f n i).1 (n * (m - i)) := by
  intro i
  induction i with
  | zero => intro _; exact hc
  | succ i ih =>
    intro hi
    have h := ih (by omega)
    rw [show m - i = (m - (i + 1)) + 1 from by omega, Nat.mul_add, Nat.mul_one, Nat.add_comm] at h
    have h2 := rowE_can HF _ (rowOf f i) n _ h n (Nat.le_refl _)
    rw [Nat.sub_self, Nat.zero_add] at h2
    exact h2
end

/-- Three boxes of one type. -/
def Thr (T : TypeId) (w W : World) (a b c : List Value) : Prop := Blk W w.heap.size T a ∧ Blk W (w.heap.size + 1) T b ∧ Blk W (w.heap.size + 1 + 1) T c
theorem Thr.new (T : TypeId) (w : World) (a b c : List Value) : Thr T w (((w.alloc (.cells a.toArray T)).alloc (.cells b.toArray T)).alloc (.cells c.toArray T)) a b c := by
  refine ⟨((show Blk _ _ _ _ from heap_alloc_new w _).alloc _).alloc _, ?_, ?_⟩
  · have h := (show Blk _ _ _ _ from heap_alloc_new (w.alloc (.cells a.toArray T)) (.cells b.toArray T)).alloc (.cells c.toArray T)
    rw [World.size_alloc] at h
    exact h
  · have h := (show Blk _ _ _ _ from heap_alloc_new ((w.alloc (.cells a.toArray T)).alloc (.cells b.toArray T)) (.cells c.toArray T))
    rw [World.size_alloc, World.size_alloc] at h
    exact h
theorem Thr.keepT {T : TypeId} {w W V : World} {a b c : List Value} (h : Thr T w W a b c) (ht : eachT T = true) (hk : KeepT eachT W V) : Thr T w V a b c := ⟨hk.blk h.1 ht, hk.blk h.2.1 ht, hk.blk h.2.2 ht⟩
theorem Thr.put {T : TypeId} {w W : World} {a b c : List Value} (h : Thr T w W a b c) (i : Nat) (v : Value) : Thr T w (W.setCell ⟨w.heap.size + 1 + 1, i, none⟩ v) a b (c.set i v) :=
  ⟨h.1.far (show w.heap.size ≠ w.heap.size + 1 + 1 by omega) v, h.2.1.far (show w.heap.size + 1 ≠ w.heap.size + 1 + 1 by omega) v, h.2.2.set_ i v⟩
theorem Thr.putRow {T : TypeId} {w W : World} {a b : List Value} {g : Nat → Nat} {L i : Nat} (h : Thr T w W a b (tcs g L)) (hi : i < 17) (r : Nat → Nat) : Thr T w (W.setCells (w.heap.size + 1 + 1) (8 * i) (fcs r 8).toArray.toList) a b (tcs (setR g i r) L) :=
  ⟨h.1.farT (by omega) _ _, h.2.1.farT (by omega) _ _, h.2.2.setRow_ hi r⟩
theorem KeepT.setCellsT {p : TypeId → Bool} {X : World} {g t : Nat} {cs : List Value} (hB : Blk X g t cs) (ht : p t = false) (o : Nat) (vs : List Value) : KeepT p X (X.setCells g o vs) :=
  ⟨by rw [tb_size]; exact Nat.le_refl _, fun j c t' a b => by
    rw [tb_heap g vs o X j (show j ≠ g from ?_)]
    · exact a
    · rintro rfl
      have h2 := hB.get
      rw [a] at h2
      injection h2 with h2
      injection h2 with _ h3
      subst h3
      rw [ht] at b
      cases b⟩
/-- What a call leaves as it was. -/
def Fram (n₀ : Nat) (w W : World) : Prop := Below n₀ w W ∧ KeepT eachT w W
theorem Fram.trans {n₀ : Nat} {w W V : World} (h : Fram n₀ w W) (k : Fram n₀ W V) : Fram n₀ w V := ⟨h.1.trans k.1, h.2.trans k.2⟩
theorem Fram.setCell {n₀ : Nat} {w W : World} (h : Fram n₀ w W) {g : Nat} (hg : n₀ ≤ g) (hw : w.heap.size ≤ g) (i : Nat) (v : Value) : Fram n₀ w (W.setCell ⟨g, i, none⟩ v) :=
  ⟨h.1.setCell (p := ⟨g, i, none⟩) hg v, h.2.new (by simp [World.setCell]) (fun j hj => Below.heap_setCell _ _ _ _ (by show j ≠ g; omega))⟩
theorem Fram.setCells {n₀ : Nat} {w W : World} (h : Fram n₀ w W) {g : Nat} (hg : n₀ ≤ g) (hw : w.heap.size ≤ g) (o : Nat) (vs : List Value) : Fram n₀ w (W.setCells g o vs) :=
  ⟨Below.setCellsT h.1 hg _ _, h.2.new (by rw [tb_size]; exact Nat.le_refl _) (fun j hj => tb_heap g vs o W j (by omega))⟩

set_option maxHeartbeats 8000000 in
theorem rowEach_enc (n₀ B : Nat) {σ : Type} (step : σ → Nat → Nat → σ × Nat) (Inv : σ → World → Prop) (Can : σ → Nat → Prop) (HF : NumFn 24 #[.pointer (some ⟨B, 0, none⟩)] n₀ step Inv Can) (s : σ) (r : Nat → Nat) (n j : Nat) (w : World)
    (hs : Inv s w) (hc : Can s (n + j)) (hr : Fits r) (hn : n ≤ 8) (hn0 : n₀ ≤ w.heap.size) :
    Calls Try.prog 35 #[.agg (fcs r 8).toArray, .int .i64 (n : Int), .func (.func 24) #[] #[.pointer (some ⟨B, 0, none⟩)]] w fun e w' =>
      e = .returned (.agg (fcs (rowE step s r n).2 8).toArray) ∧ Inv (rowE step s r n).1 w' ∧ Below n₀ w w' ∧ KeepT eachT w w' := by
  have CN := Lib.hid (rowE_can HF s r n j hc)
  have FT := Lib.hid (rowE_fits HF s hr)
  obtain ⟨HC, HCan, HSm, HKp⟩ := HF
  have HCC := Lib.hid HC
  have SM := Lib.hid HSm
  have KP := Lib.hid HKp
  have HS := Lib.hid hs
  have HR := Lib.hid hr
  clear HC HCan HSm HKp hs hr hc
  obtain ⟨R, hR⟩ : ∃ R, R = fcs r 8 := ⟨_, rfl⟩
  have GR : Hid (∀ k, k < 8 → R[k]? = some (.int .u32 (r k : Int))) := Lib.hid (fun k hk => by rw [hR]; exact fcs_get r 8 k hk)
  rw [← hR]
  clear hR
  obtain ⟨W0, hW0⟩ : ∃ W0, W0 = ((w.alloc (.cells R.toArray 24)).alloc (.cells #[.int .u32 0, .int .u32 0, .int .u32 0, .int .u32 0, .int .u32 0, .int .u32 0, .int .u32 0, .int .u32 0] 24)).alloc (.cells #[.int .u32 0, .int .u32 0, .int .u32 0, .int .u32 0, .int .u32 0, .int .u32 0, .int .u32 0, .int .u32 0] 24) := ⟨_, rfl⟩
  have F0 : Hid (Thr 24 w W0 R (fcs (fun _ => 0) 8) (fcs (rowE step s r 0).2 8)) := Lib.hid (by rw [hW0]; exact Thr.new 24 w R (fcs (fun _ => 0) 8) (fcs (fun _ => 0) 8))
  have B0 : Hid (Below w.heap.size w W0) := Lib.hid (by rw [hW0]; exact (((Below.refl _ _).alloc (Nat.le_refl _) _).alloc (by simp) _).alloc (by simp; omega) _)
  have I0 : Hid (Inv (rowE step s r 0).1 W0) := Lib.hid (KP.out s _ _ HS.out (KeepT.of_below B0.out))
  have K0 : Hid (Fram n₀ w W0) := Lib.hid ⟨B0.out.mono hn0, KeepT.of_below B0.out⟩
  clear HS B0
  go_enter Try.func35, Try.ntmps35
  go_wp2_with fail
  rw [← hW0]
  clear hW0
  go_loopw [10] (fun iv wr => ∃ k : Nat, iv = .int .i64 (k : Int) ∧ k ≤ n ∧ Hid (Thr 24 w wr R (fcs (fun _ => 0) 8) (fcs (rowE step s r k).2 8)) ∧ Hid (Inv (rowE step s r k).1 wr) ∧ Hid (Fram n₀ w wr)) (fun iv _ => n - (intOf iv).toNat)
  case atStart => exact ⟨0, rfl, Nat.zero_le _, F0, I0, K0⟩
  case round =>
    obtain ⟨k, rfl, hk, HT, HI, HK⟩ := hrel
    by_cases hlt : k < n
    · have hdec : decide ((k : Int) < (n : Int)) = true := decide_eq_true (by omega)
      have hki : (k : Int) < 8 := by omega
      have hw1 : IntKind.i64.wrap ((k : Int) + 1) = ((k + 1 : Nat) : Int) := by rw [IntWalk.i64_in _ (by omega)]; omega
      have c0 := (HT.out.1.cell k).trans (GR.out k (by omega))
      have hxb := HR.out k
      obtain ⟨x, hx⟩ : ∃ x, x = r k := ⟨_, rfl⟩
      obtain ⟨st, hst⟩ : ∃ st, st = (rowE step s r k).1 := ⟨_, rfl⟩
      obtain ⟨d, hd⟩ : ∃ d, d = (rowE step s r k).2 := ⟨_, rfl⟩
      have cA : Can st (n - (k + 1) + j + 1) := by
        rw [hst]
        have h := CN.out k hk
        rw [show n - k + j = n - (k + 1) + j + 1 from by omega] at h
        exact h
      rw [← hx] at c0 hxb
      rw [← hst] at HI
      rw [← hd] at HT
      have Q := Lib.hid (fun W (h : Inv st W) => HCC.out st x 4 _ W h cA (by decide) (by decide) (by rw [show (256 : Nat) ^ 4 = 4294967296 from by decide]; exact hxb) (by omega))
      obtain ⟨q, hq⟩ : ∃ q, q = step st x 4 := ⟨_, rfl⟩
      have HN : Hid (rowE step s r (k + 1) = (q.1, upd d k q.2)) := Lib.hid (by
        show ((step (rowE step s r k).1 (r k) 4).1, upd (rowE step s r k).2 k (step (rowE step s r k).1 (r k) 4).2) = _
        rw [← hst, ← hd, ← hx, ← hq])
      have hyb : q.2 < 4294967296 := by rw [hq, show (4294967296 : Nat) = 256 ^ 4 from by decide]; exact SM.out st x 4 (by decide) (by decide) (by rw [show (256 : Nat) ^ 4 = 4294967296 from by decide]; exact hxb)
      rw [← hq] at Q
      obtain ⟨y, hy⟩ : ∃ y, y = q.2 := ⟨_, rfl⟩
      rw [← hy] at Q hyb HN
      have wx : IntKind.u64.wrap (x : Int) = (x : Int) := IntWalk.u64_in _ (by omega)
      have wy : IntKind.u32.wrap (y : Int) = (y : Int) := by simp [IntKind.wrap, IntKind.bits, IntKind.signed]; omega
      have HL := Lib.hid hlt
      clear hx hst hd cA hq hy hxb hyb
      go_wp2_with fail
      refine (Q.out _ HI.out).mono ?_
      rintro e w5 ⟨rfl, i5, b5, k5⟩
      have T5 := Lib.hid (HT.out.keepT (by decide) k5)
      have I5 := Lib.hid i5
      have K5 := Lib.hid (HK.out.trans ⟨b5, k5⟩)
      have m0 := (T5.out.2.2.cell k).trans (fcs_get d 8 k (by omega))
      have n0 := T5.out.2.2.frozen k
      have T6 : Hid (Thr 24 w (w5.setCell ⟨w.heap.size + 1 + 1, k, none⟩ (.int .u32 (y : Int))) R (fcs (fun _ => 0) 8) (fcs (upd d k y) 8)) := Lib.hid (by
        have h := T5.out.put k (.int .u32 (y : Int))
        rw [fcs_set d 8 k y (by have := HL.out; omega)] at h
        exact h)
      have I6 : Hid (Inv q.1 (w5.setCell ⟨w.heap.size + 1 + 1, k, none⟩ (.int .u32 (y : Int)))) := Lib.hid (KP.out _ _ _ I5.out (KeepT.setCell T5.out.2.2 (by decide) k _))
      have K6 : Hid (Fram n₀ w (w5.setCell ⟨w.heap.size + 1 + 1, k, none⟩ (.int .u32 (y : Int)))) := Lib.hid (K5.out.setCell (by omega) (by omega) k _)
      clear i5 b5 k5 c0
      go_wp2_with fail
      go_roundw
      case rel => exact ⟨k + 1, by go_num, by omega, by rw [HN.out]; exact T6, by rw [HN.out]; exact I6, K6⟩
      case measure => simp [intOf]; omega
    · obtain rfl : k = n := by omega
      have hdec : decide ((k : Int) < (k : Int)) = false := decide_eq_false (by omega)
      obtain ⟨d, hd⟩ : ∃ d, d = fcs (rowE step s r k).2 8 := ⟨_, rfl⟩
      have hdl : d.length = 8 := by rw [hd]; exact fcs_len _ _
      have hdo : d.toArray.all (·.oneCell') = true := all_oneCell_toArray (by rw [hd]; exact fcs_one _ _)
      rw [← hd] at HT
      have HD := Lib.hid hd
      clear hd
      have hsd : (Try.prog.info? 24).map (·.size) = some d.length := by rw [hdl]; exact sizeTRow
      have hsd2 : (Try.prog.info? 24).map (·.size) = some d.toArray.size := by rw [List.size_toArray, hdl]; exact sizeTRow
      have RA := Lib.hid HT.out.2.2.whole
      have TH : Hid (wr.there (w.heap.size + 1) 0 d.toArray.size) := Lib.hid (HT.out.2.1.thereT (by rw [fcs_len, show d.toArray.size = 8 by rw [List.size_toArray, hdl]]; omega))
      have FIN : Hid (Blk (wr.setCells (w.heap.size + 1) 0 d.toArray.toList) (w.heap.size + 1) 24 d ∧ Inv (rowE step s r k).1 (wr.setCells (w.heap.size + 1) 0 d.toArray.toList) ∧ Fram n₀ w (wr.setCells (w.heap.size + 1) 0 d.toArray.toList)) := Lib.hid
        ⟨HT.out.2.1.setWhole d (by rw [hdl, fcs_len]), KP.out _ _ _ HI.out (KeepT.setCellsT HT.out.2.1 (by decide) _ _), HK.out.setCells (by omega) (by omega) _ _⟩
      clear hdl
      go_wp2_with (first
        | (refine wpList_load_mid rfl _ _ rfl (w.heap.size + 1 + 1) 0 rfl d _ RA.out Try.underlying24 rfl hsd ?_)
        | (refine wpList_store_mid rfl _ _ _ rfl (w.heap.size + 1) 0 d.toArray rfl rfl TH.out hsd2 hdo ?_))
      refine bodyPost_ret (v := .agg d.toArray) ?_ rfl ⟨by rw [HD.out], FIN.out.2.1, FIN.out.2.2.1, FIN.out.2.2.2⟩
      exact results_cell_row rfl _ _ (w.heap.size + 1) _ d.toArray (0, 0) _ rfl FIN.out.1 Try.underlying24 rfl hsd2

set_option maxHeartbeats 8000000 in
theorem rowEach_dec (n₀ B ba bf : Nat) {σ : Type} (step : σ → Nat → Nat → σ × Nat) (Inv : σ → World → Prop) (Can : σ → Nat → Prop) (HF : NumFn 28 #[.pointer (some ⟨ba, 0, none⟩), .pointer (some ⟨B, 0, none⟩), .pointer (some ⟨bf, 0, none⟩)] n₀ step Inv Can) (s : σ) (r : Nat → Nat) (n j : Nat) (w : World)
    (hs : Inv s w) (hc : Can s (n + j)) (hr : Fits r) (hn : n ≤ 8) (hn0 : n₀ ≤ w.heap.size) :
    Calls Try.prog 35 #[.agg (fcs r 8).toArray, .int .i64 (n : Int), .func (.func 28) #[] #[.pointer (some ⟨ba, 0, none⟩), .pointer (some ⟨B, 0, none⟩), .pointer (some ⟨bf, 0, none⟩)]] w fun e w' =>
      e = .returned (.agg (fcs (rowE step s r n).2 8).toArray) ∧ Inv (rowE step s r n).1 w' ∧ Below n₀ w w' ∧ KeepT eachT w w' := by
  have CN := Lib.hid (rowE_can HF s r n j hc)
  have FT := Lib.hid (rowE_fits HF s hr)
  obtain ⟨HC, HCan, HSm, HKp⟩ := HF
  have HCC := Lib.hid HC
  have SM := Lib.hid HSm
  have KP := Lib.hid HKp
  have HS := Lib.hid hs
  have HR := Lib.hid hr
  clear HC HCan HSm HKp hs hr hc
  obtain ⟨R, hR⟩ : ∃ R, R = fcs r 8 := ⟨_, rfl⟩
  have GR : Hid (∀ k, k < 8 → R[k]? = some (.int .u32 (r k : Int))) := Lib.hid (fun k hk => by rw [hR]; exact fcs_get r 8 k hk)
  rw [← hR]
  clear hR
  obtain ⟨W0, hW0⟩ : ∃ W0, W0 = ((w.alloc (.cells R.toArray 24)).alloc (.cells #[.int .u32 0, .int .u32 0, .int .u32 0, .int .u32 0, .int .u32 0, .int .u32 0, .int .u32 0, .int .u32 0] 24)).alloc (.cells #[.int .u32 0, .int .u32 0, .int .u32 0, .int .u32 0, .int .u32 0, .int .u32 0, .int .u32 0, .int .u32 0] 24) := ⟨_, rfl⟩
  have F0 : Hid (Thr 24 w W0 R (fcs (fun _ => 0) 8) (fcs (rowE step s r 0).2 8)) := Lib.hid (by rw [hW0]; exact Thr.new 24 w R (fcs (fun _ => 0) 8) (fcs (fun _ => 0) 8))
  have B0 : Hid (Below w.heap.size w W0) := Lib.hid (by rw [hW0]; exact (((Below.refl _ _).alloc (Nat.le_refl _) _).alloc (by simp) _).alloc (by simp; omega) _)
  have I0 : Hid (Inv (rowE step s r 0).1 W0) := Lib.hid (KP.out s _ _ HS.out (KeepT.of_below B0.out))
  have K0 : Hid (Fram n₀ w W0) := Lib.hid ⟨B0.out.mono hn0, KeepT.of_below B0.out⟩
  clear HS B0
  go_enter Try.func35, Try.ntmps35
  go_wp2_with fail
  rw [← hW0]
  clear hW0
  go_loopw [10] (fun iv wr => ∃ k : Nat, iv = .int .i64 (k : Int) ∧ k ≤ n ∧ Hid (Thr 24 w wr R (fcs (fun _ => 0) 8) (fcs (rowE step s r k).2 8)) ∧ Hid (Inv (rowE step s r k).1 wr) ∧ Hid (Fram n₀ w wr)) (fun iv _ => n - (intOf iv).toNat)
  case atStart => exact ⟨0, rfl, Nat.zero_le _, F0, I0, K0⟩
  case round =>
    obtain ⟨k, rfl, hk, HT, HI, HK⟩ := hrel
    by_cases hlt : k < n
    · have hdec : decide ((k : Int) < (n : Int)) = true := decide_eq_true (by omega)
      have hki : (k : Int) < 8 := by omega
      have hw1 : IntKind.i64.wrap ((k : Int) + 1) = ((k + 1 : Nat) : Int) := by rw [IntWalk.i64_in _ (by omega)]; omega
      have c0 := (HT.out.1.cell k).trans (GR.out k (by omega))
      have hxb := HR.out k
      obtain ⟨x, hx⟩ : ∃ x, x = r k := ⟨_, rfl⟩
      obtain ⟨st, hst⟩ : ∃ st, st = (rowE step s r k).1 := ⟨_, rfl⟩
      obtain ⟨d, hd⟩ : ∃ d, d = (rowE step s r k).2 := ⟨_, rfl⟩
      have cA : Can st (n - (k + 1) + j + 1) := by
        rw [hst]
        have h := CN.out k hk
        rw [show n - k + j = n - (k + 1) + j + 1 from by omega] at h
        exact h
      rw [← hx] at c0 hxb
      rw [← hst] at HI
      rw [← hd] at HT
      have Q := Lib.hid (fun W (h : Inv st W) => HCC.out st x 4 _ W h cA (by decide) (by decide) (by rw [show (256 : Nat) ^ 4 = 4294967296 from by decide]; exact hxb) (by omega))
      obtain ⟨q, hq⟩ : ∃ q, q = step st x 4 := ⟨_, rfl⟩
      have HN : Hid (rowE step s r (k + 1) = (q.1, upd d k q.2)) := Lib.hid (by
        show ((step (rowE step s r k).1 (r k) 4).1, upd (rowE step s r k).2 k (step (rowE step s r k).1 (r k) 4).2) = _
        rw [← hst, ← hd, ← hx, ← hq])
      have hyb : q.2 < 4294967296 := by rw [hq, show (4294967296 : Nat) = 256 ^ 4 from by decide]; exact SM.out st x 4 (by decide) (by decide) (by rw [show (256 : Nat) ^ 4 = 4294967296 from by decide]; exact hxb)
      rw [← hq] at Q
      obtain ⟨y, hy⟩ : ∃ y, y = q.2 := ⟨_, rfl⟩
      rw [← hy] at Q hyb HN
      have wx : IntKind.u64.wrap (x : Int) = (x : Int) := IntWalk.u64_in _ (by omega)
      have wy : IntKind.u32.wrap (y : Int) = (y : Int) := by simp [IntKind.wrap, IntKind.bits, IntKind.signed]; omega
      have HL := Lib.hid hlt
      clear hx hst hd cA hq hy hxb hyb
      go_wp2_with fail
      refine (Q.out _ HI.out).mono ?_
      rintro e w5 ⟨rfl, i5, b5, k5⟩
      have T5 := Lib.hid (HT.out.keepT (by decide) k5)
      have I5 := Lib.hid i5
      have K5 := Lib.hid (HK.out.trans ⟨b5, k5⟩)
      have m0 := (T5.out.2.2.cell k).trans (fcs_get d 8 k (by omega))
      have n0 := T5.out.2.2.frozen k
      have T6 : Hid (Thr 24 w (w5.setCell ⟨w.heap.size + 1 + 1, k, none⟩ (.int .u32 (y : Int))) R (fcs (fun _ => 0) 8) (fcs (upd d k y) 8)) := Lib.hid (by
        have h := T5.out.put k (.int .u32 (y : Int))
        rw [fcs_set d 8 k y (by have := HL.out; omega)] at h
        exact h)
      have I6 : Hid (Inv q.1 (w5.setCell ⟨w.heap.size + 1 + 1, k, none⟩ (.int .u32 (y : Int)))) := Lib.hid (KP.out _ _ _ I5.out (KeepT.setCell T5.out.2.2 (by decide) k _))
      have K6 : Hid (Fram n₀ w (w5.setCell ⟨w.heap.size + 1 + 1, k, none⟩ (.int .u32 (y : Int)))) := Lib.hid (K5.out.setCell (by omega) (by omega) k _)
      clear i5 b5 k5 c0
      go_wp2_with fail
      go_roundw
      case rel => exact ⟨k + 1, by go_num, by omega, by rw [HN.out]; exact T6, by rw [HN.out]; exact I6, K6⟩
      case measure => simp [intOf]; omega
    · obtain rfl : k = n := by omega
      have hdec : decide ((k : Int) < (k : Int)) = false := decide_eq_false (by omega)
      obtain ⟨d, hd⟩ : ∃ d, d = fcs (rowE step s r k).2 8 := ⟨_, rfl⟩
      have hdl : d.length = 8 := by rw [hd]; exact fcs_len _ _
      have hdo : d.toArray.all (·.oneCell') = true := all_oneCell_toArray (by rw [hd]; exact fcs_one _ _)
      rw [← hd] at HT
      have HD := Lib.hid hd
      clear hd
      have hsd : (Try.prog.info? 24).map (·.size) = some d.length := by rw [hdl]; exact sizeTRow
      have hsd2 : (Try.prog.info? 24).map (·.size) = some d.toArray.size := by rw [List.size_toArray, hdl]; exact sizeTRow
      have RA := Lib.hid HT.out.2.2.whole
      have TH : Hid (wr.there (w.heap.size + 1) 0 d.toArray.size) := Lib.hid (HT.out.2.1.thereT (by rw [fcs_len, show d.toArray.size = 8 by rw [List.size_toArray, hdl]]; omega))
      have FIN : Hid (Blk (wr.setCells (w.heap.size + 1) 0 d.toArray.toList) (w.heap.size + 1) 24 d ∧ Inv (rowE step s r k).1 (wr.setCells (w.heap.size + 1) 0 d.toArray.toList) ∧ Fram n₀ w (wr.setCells (w.heap.size + 1) 0 d.toArray.toList)) := Lib.hid
        ⟨HT.out.2.1.setWhole d (by rw [hdl, fcs_len]), KP.out _ _ _ HI.out (KeepT.setCellsT HT.out.2.1 (by decide) _ _), HK.out.setCells (by omega) (by omega) _ _⟩
      clear hdl
      go_wp2_with (first
        | (refine wpList_load_mid rfl _ _ rfl (w.heap.size + 1 + 1) 0 rfl d _ RA.out Try.underlying24 rfl hsd ?_)
        | (refine wpList_store_mid rfl _ _ _ rfl (w.heap.size + 1) 0 d.toArray rfl rfl TH.out hsd2 hdo ?_))
      refine bodyPost_ret (v := .agg d.toArray) ?_ rfl ⟨by rw [HD.out], FIN.out.2.1, FIN.out.2.2.1, FIN.out.2.2.2⟩
      exact results_cell_row rfl _ _ (w.heap.size + 1) _ d.toArray (0, 0) _ rfl FIN.out.1 Try.underlying24 rfl hsd2

set_option maxHeartbeats 16000000 in
theorem tabEach_enc (n₀ B : Nat) {σ : Type} (step : σ → Nat → Nat → σ × Nat) (Inv : σ → World → Prop) (Can : σ → Nat → Prop) (HF : NumFn 24 #[.pointer (some ⟨B, 0, none⟩)] n₀ step Inv Can) (s : σ) (f : Nat → Nat) (L m n : Nat) (w : World)
    (hs : Inv s w) (hc : Can s (n * (m + 1) + 1)) (hf : Fits f) (hL : L < 18446744073709551616) (hn : n ≤ 8) (hm : m ≤ 16) (hn0 : n₀ ≤ w.heap.size) :
    Calls Try.prog 23 #[.agg (tcs f L).toArray, .int .i64 (m : Int), .int .i64 (n : Int), .func (.func 24) #[] #[.pointer (some ⟨B, 0, none⟩)]] w fun e w' =>
      e = .returned (.agg (tcs (rowsE step (step s L 8).1 f n (m + 1)).2 (step s L 8).2).toArray) ∧ Inv (rowsE step (step s L 8).1 f n (m + 1)).1 w' ∧ Below n₀ w w' ∧ KeepT eachT w w' := by
  have e8 : (256 : Nat) ^ 8 = 18446744073709551616 := by decide
  have H1 := Lib.hid (fun W (h : Inv s W) => HF.call s L 8 _ W h hc (by decide) (by decide) (by rw [e8]; exact hL) hL)
  have hc2 : Can (step s L 8).1 (n * (m + 1)) := HF.can s L 8 _ hc (by decide) (by decide)
  obtain ⟨p, hp⟩ : ∃ p, p = step s L 8 := ⟨_, rfl⟩
  rw [← hp] at H1 hc2 ⊢
  clear hp
  have CN := Lib.hid (rowsE_can HF p.1 f n (m + 1) hc2)
  have RE := Lib.hid (fun (i : Nat) (hi : i < m + 1) (W : World) (h : Inv (rowsE step p.1 f n i).1 W) (h0 : n₀ ≤ W.heap.size) => rowEach_enc n₀ B step Inv Can HF (rowsE step p.1 f n i).1 (rowOf f i) n (n * (m + 1 - (i + 1))) W h (by
    have h := CN.out i (by omega)
    rw [show m + 1 - i = (m + 1 - (i + 1)) + 1 from by omega, Nat.mul_add, Nat.mul_one, Nat.add_comm] at h
    exact h) (hf.row i) hn h0)
  have KP := Lib.hid HF.keep
  have HS := Lib.hid hs
  obtain ⟨L2, hL2⟩ : ∃ x, x = p.2 := ⟨_, rfl⟩
  rw [← hL2] at H1 ⊢
  clear hs hc hc2 HF hL2 hL e8 hf CN
  have hz := zeroTab
  obtain ⟨Z, hZ⟩ : ∃ Z, Z = tcs (fun _ => 0) 0 := ⟨_, rfl⟩
  have HZE := Lib.hid hZ
  rw [← hZ] at hz
  clear hZ
  have GR : Hid ((tcs f L)[136]? = some (.int .u64 (L : Int))) := Lib.hid (tcs_last f L)
  obtain ⟨A, hA⟩ : ∃ A, A = tcs f L := ⟨_, rfl⟩
  have HA := Lib.hid hA
  rw [← hA] at GR ⊢
  clear hA
  obtain ⟨W0, hW0⟩ : ∃ W0, W0 = ((w.alloc (.cells A.toArray 28)).alloc (.cells Z.toArray 28)).alloc (.cells Z.toArray 28) := ⟨_, rfl⟩
  have F0 : Hid (Thr 28 w W0 A Z (tcs (fun _ => 0) 0)) := Lib.hid (by rw [← HZE.out, hW0]; exact Thr.new 28 w A Z Z)
  have B0 : Hid (Below w.heap.size w W0) := Lib.hid (by rw [hW0]; exact (((Below.refl _ _).alloc (Nat.le_refl _) _).alloc (by simp) _).alloc (by simp; omega) _)
  have I0 : Hid (Inv s W0) := Lib.hid (KP.out s _ _ HS.out (KeepT.of_below B0.out))
  have K0 : Hid (Fram n₀ w W0) := Lib.hid ⟨B0.out.mono hn0, KeepT.of_below B0.out⟩
  have c0 : W0.cell? ⟨w.heap.size, 136, none⟩ = some (.int .u64 (L : Int)) := (F0.out.1.cell 136).trans GR.out
  clear HS B0
  go_enter Try.func23, Try.ntmps23
  go_upto_region 2 with fail
  rw [← hW0]
  clear hW0 hz
  go_wp2_with fail
  refine (H1.out _ I0.out).mono ?_
  rintro e w1 ⟨rfl, i1, b1, k1⟩
  have T1 := Lib.hid (F0.out.keepT (by decide) k1)
  have I1 := Lib.hid i1
  have K1 := Lib.hid (K0.out.trans ⟨b1, k1⟩)
  have m0 := (T1.out.2.2.cell 136).trans (tcs_last _ _)
  have n0 := T1.out.2.2.frozen 136
  clear i1 b1 k1 c0 F0 I0 K0 H1
  go_upto_region 3 with fail
  obtain ⟨V1, hV1⟩ : ∃ V, V = w1.setCell ⟨w.heap.size + 1 + 1, 136, none⟩ (.int .u64 (L2 : Int)) := ⟨_, rfl⟩
  have T2 : Hid (Thr 28 w V1 A Z (tcs (rowsE step p.1 f n 0).2 L2)) := Lib.hid (by
    rw [hV1]
    have h := T1.out.put 136 (.int .u64 (L2 : Int))
    rw [tcs_setL] at h
    exact h)
  have I2 : Hid (Inv (rowsE step p.1 f n 0).1 V1) := Lib.hid (by rw [hV1]; exact KP.out _ _ _ I1.out (KeepT.setCell T1.out.2.2 (by decide) 136 _))
  have K2 : Hid (Fram n₀ w V1) := Lib.hid (by rw [hV1]; exact K1.out.setCell (by omega) (by omega) 136 _)
  refine wp_worldT hV1 ?_
  clear hV1 m0 n0 T1 I1 K1
  obtain ⟨r0, hr0⟩ : ∃ r, r = fcs (rowOf f 0) 8 := ⟨_, rfl⟩
  have C0 := Lib.hid (RE.out 0 (by omega) V1 I2.out (Nat.le_trans hn0 K2.out.1.size))
  rw [← hr0] at C0
  have hs0 : (Try.prog.info? 24).map (·.size) = some r0.length := by rw [hr0, fcs_len]; exact sizeTRow
  have RA0 : Hid (V1.rangeAt w.heap.size 0 r0) := Lib.hid (by rw [hr0]; exact (show Blk V1 w.heap.size 28 (tcs f L) by rw [← HA.out]; exact T2.out.1).rowAt (i := 0) (by omega))
  clear hr0
  go_wp2_with (refine wpList_load_mid rfl _ _ rfl w.heap.size 0 rfl r0 _ RA0.out Try.underlying24 rfl hs0 ?_)
  refine C0.out.mono ?_
  rintro e w2 ⟨rfl, i2, b2, k2⟩
  have T3 := Lib.hid (T2.out.keepT (by decide) k2)
  have K3 := Lib.hid (K2.out.trans ⟨b2, k2⟩)
  have I3 : Hid (Inv (rowsE step p.1 f n 1).1 w2) := Lib.hid i2
  obtain ⟨d0, hd0⟩ : ∃ d, d = fcs (rowE step (rowsE step p.1 f n 0).1 (rowOf f 0) n).2 8 := ⟨_, rfl⟩
  have hdl : d0.length = 8 := by rw [hd0]; exact fcs_len _ _
  have hdo : d0.toArray.all (·.oneCell') = true := all_oneCell_toArray (by rw [hd0]; exact fcs_one _ _)
  have hsd : (Try.prog.info? 24).map (·.size) = some d0.toArray.size := by rw [List.size_toArray, hdl]; exact sizeTRow
  have TH0 : Hid (w2.there (w.heap.size + 1 + 1) 0 d0.toArray.size) := Lib.hid (T3.out.2.2.thereT (by rw [tcs_len, show d0.toArray.size = 8 by rw [List.size_toArray, hdl]]; omega))
  have T4 : Hid (Thr 28 w (w2.setCells (w.heap.size + 1 + 1) 0 d0.toArray.toList) A Z (tcs (rowsE step p.1 f n 1).2 L2)) := Lib.hid (by
    rw [hd0]
    exact T3.out.putRow (i := 0) (by omega) _)
  have I4 : Hid (Inv (rowsE step p.1 f n 1).1 (w2.setCells (w.heap.size + 1 + 1) 0 d0.toArray.toList)) := Lib.hid (KP.out _ _ _ I3.out (KeepT.setCellsT T3.out.2.2 (by decide) _ _))
  have K4 : Hid (Fram n₀ w (w2.setCells (w.heap.size + 1 + 1) 0 d0.toArray.toList)) := Lib.hid (K3.out.setCells (by omega) (by omega) _ _)
  rw [← hd0]
  clear i2 b2 k2 hdl hd0 RA0 C0 T2 I2 K2 T3 I3 K3
  go_wp2_with (refine wpList_store_mid rfl _ _ _ rfl (w.heap.size + 1 + 1) 0 d0.toArray rfl rfl TH0.out hsd hdo ?_)
  clear TH0
  go_loopw [23] (fun iv wr => ∃ c : Nat, iv = .int .i64 (c : Int) ∧ c ≤ m ∧ Hid (Thr 28 w wr A Z (tcs (rowsE step p.1 f n (c + 1)).2 L2)) ∧ Hid (Inv (rowsE step p.1 f n (c + 1)).1 wr) ∧ Hid (Fram n₀ w wr)) (fun iv _ => m - (intOf iv).toNat)
  case atStart => exact ⟨0, rfl, Nat.zero_le _, T4, I4, K4⟩
  case round =>
    obtain ⟨c, rfl, hc, HT, HI, HK⟩ := hrel
    by_cases hlt : c < m
    · have hdec : decide ((c : Int) < (m : Int)) = true := decide_eq_true (by omega)
      have hci : (c : Int) < 16 := by omega
      have hw1 : IntKind.i64.wrap ((c : Int) + 1) = ((c + 1 : Nat) : Int) := by rw [IntWalk.i64_in _ (by omega)]; omega
      obtain ⟨r, hr⟩ : ∃ r, r = fcs (rowOf f (c + 1)) 8 := ⟨_, rfl⟩
      have C1 := Lib.hid (RE.out (c + 1) (by omega) wr HI.out (Nat.le_trans hn0 HK.out.1.size))
      rw [← hr] at C1
      have hsr : (Try.prog.info? 24).map (·.size) = some r.length := by rw [hr, fcs_len]; exact sizeTRow
      have RA : Hid (wr.rangeAt w.heap.size (8 + c * 8) r) := Lib.hid (by rw [hr]; exact rowAt_succ (L := L) (t := 28) (by rw [← HA.out]; exact HT.out.1) (by omega))
      have HL := Lib.hid hlt
      clear hr
      go_wp2_with (refine wpList_load_mid rfl _ _ rfl w.heap.size (8 + c * 8) rfl r _ RA.out Try.underlying24 rfl hsr ?_)
      refine C1.out.mono ?_
      rintro e w5 ⟨rfl, i5, b5, k5⟩
      have T5 := Lib.hid (HT.out.keepT (by decide) k5)
      have K5 := Lib.hid (HK.out.trans ⟨b5, k5⟩)
      have I5 : Hid (Inv (rowsE step p.1 f n (c + 1 + 1)).1 w5) := Lib.hid i5
      obtain ⟨d, hd⟩ : ∃ d, d = fcs (rowE step (rowsE step p.1 f n (c + 1)).1 (rowOf f (c + 1)) n).2 8 := ⟨_, rfl⟩
      have hdl : d.length = 8 := by rw [hd]; exact fcs_len _ _
      have hdo : d.toArray.all (·.oneCell') = true := all_oneCell_toArray (by rw [hd]; exact fcs_one _ _)
      have hsd : (Try.prog.info? 24).map (·.size) = some d.toArray.size := by rw [List.size_toArray, hdl]; exact sizeTRow
      have TH : Hid (w5.there (w.heap.size + 1 + 1) (8 + c * 8) d.toArray.size) := Lib.hid (T5.out.2.2.thereT (by rw [tcs_len, show d.toArray.size = 8 by rw [List.size_toArray, hdl]]; omega))
      have T6 : Hid (Thr 28 w (w5.setCells (w.heap.size + 1 + 1) (8 + c * 8) d.toArray.toList) A Z (tcs (rowsE step p.1 f n (c + 1 + 1)).2 L2)) := Lib.hid (by
        rw [hd]
        have h := T5.out.putRow (i := c + 1) (by omega) (rowE step (rowsE step p.1 f n (c + 1)).1 (rowOf f (c + 1)) n).2
        rw [show 8 * (c + 1) = 8 + c * 8 from by omega] at h
        exact h)
      have I6 : Hid (Inv (rowsE step p.1 f n (c + 1 + 1)).1 (w5.setCells (w.heap.size + 1 + 1) (8 + c * 8) d.toArray.toList)) := Lib.hid (KP.out _ _ _ I5.out (KeepT.setCellsT T5.out.2.2 (by decide) _ _))
      have K6 : Hid (Fram n₀ w (w5.setCells (w.heap.size + 1 + 1) (8 + c * 8) d.toArray.toList)) := Lib.hid (K5.out.setCells (by omega) (by omega) _ _)
      rw [← hd]
      clear i5 b5 k5 hdl hd RA C1 T5 I5 K5 HT HI HK
      go_wp2_with (refine wpList_store_mid rfl _ _ _ rfl (w.heap.size + 1 + 1) (8 + c * 8) d.toArray rfl rfl TH.out hsd hdo ?_)
      go_roundw
      case rel => exact ⟨c + 1, by go_num, by omega, T6, I6, K6⟩
      case measure => simp [intOf]; omega
    · obtain rfl : c = m := by omega
      have hdec : decide ((c : Int) < (c : Int)) = false := decide_eq_false (by omega)
      have hal : (tcs (rowsE step p.1 f n (c + 1)).2 L2).length = 137 := tcs_len _ _
      have hao : (tcs (rowsE step p.1 f n (c + 1)).2 L2).toArray.all (·.oneCell') = true := all_oneCell_toArray (tcs_one _ _)
      obtain ⟨a, ha⟩ : ∃ a, a = tcs (rowsE step p.1 f n (c + 1)).2 L2 := ⟨_, rfl⟩
      rw [← ha] at HT hal hao
      have HD := Lib.hid ha
      clear ha
      have hsa : (Try.prog.info? 28).map (·.size) = some a.length := by rw [hal]; exact sizeTab
      have hsa2 : (Try.prog.info? 28).map (·.size) = some a.toArray.size := by rw [List.size_toArray, hal]; exact sizeTab
      have RA := Lib.hid HT.out.2.2.whole
      have hZl : Z.length = 137 := by rw [HZE.out]; exact tcs_len _ _
      have TH : Hid (wr.there (w.heap.size + 1) 0 a.toArray.size) := Lib.hid (HT.out.2.1.thereT (by rw [hZl, show a.toArray.size = 137 by rw [List.size_toArray, hal]]; omega))
      have FIN : Hid (Blk (wr.setCells (w.heap.size + 1) 0 a.toArray.toList) (w.heap.size + 1) 28 a ∧ Inv (rowsE step p.1 f n (c + 1)).1 (wr.setCells (w.heap.size + 1) 0 a.toArray.toList) ∧ Fram n₀ w (wr.setCells (w.heap.size + 1) 0 a.toArray.toList)) := Lib.hid
        ⟨HT.out.2.1.setWhole a (by rw [hal, hZl]), KP.out _ _ _ HI.out (KeepT.setCellsT HT.out.2.1 (by decide) _ _), HK.out.setCells (by omega) (by omega) _ _⟩
      clear hal hZl
      go_wp2_with (first
        | (refine wpList_load_mid rfl _ _ rfl (w.heap.size + 1 + 1) 0 rfl a _ RA.out Try.underlying28 rfl hsa ?_)
        | (refine wpList_store_mid rfl _ _ _ rfl (w.heap.size + 1) 0 a.toArray rfl rfl TH.out hsa2 hao ?_))
      refine bodyPost_ret (v := .agg a.toArray) ?_ rfl ⟨by rw [HD.out], FIN.out.2.1, FIN.out.2.2.1, FIN.out.2.2.2⟩
      exact results_cell_row rfl _ _ (w.heap.size + 1) _ a.toArray (0, 0) _ rfl FIN.out.1 Try.underlying28 rfl hsa2

set_option maxHeartbeats 16000000 in
theorem tabEach_dec (n₀ B ba bf : Nat) {σ : Type} (step : σ → Nat → Nat → σ × Nat) (Inv : σ → World → Prop) (Can : σ → Nat → Prop) (HF : NumFn 28 #[.pointer (some ⟨ba, 0, none⟩), .pointer (some ⟨B, 0, none⟩), .pointer (some ⟨bf, 0, none⟩)] n₀ step Inv Can) (s : σ) (f : Nat → Nat) (L m n : Nat) (w : World)
    (hs : Inv s w) (hc : Can s (n * (m + 1) + 1)) (hf : Fits f) (hL : L < 18446744073709551616) (hn : n ≤ 8) (hm : m ≤ 16) (hn0 : n₀ ≤ w.heap.size) :
    Calls Try.prog 23 #[.agg (tcs f L).toArray, .int .i64 (m : Int), .int .i64 (n : Int), .func (.func 28) #[] #[.pointer (some ⟨ba, 0, none⟩), .pointer (some ⟨B, 0, none⟩), .pointer (some ⟨bf, 0, none⟩)]] w fun e w' =>
      e = .returned (.agg (tcs (rowsE step (step s L 8).1 f n (m + 1)).2 (step s L 8).2).toArray) ∧ Inv (rowsE step (step s L 8).1 f n (m + 1)).1 w' ∧ Below n₀ w w' ∧ KeepT eachT w w' := by
  have e8 : (256 : Nat) ^ 8 = 18446744073709551616 := by decide
  have H1 := Lib.hid (fun W (h : Inv s W) => HF.call s L 8 _ W h hc (by decide) (by decide) (by rw [e8]; exact hL) hL)
  have hc2 : Can (step s L 8).1 (n * (m + 1)) := HF.can s L 8 _ hc (by decide) (by decide)
  obtain ⟨p, hp⟩ : ∃ p, p = step s L 8 := ⟨_, rfl⟩
  rw [← hp] at H1 hc2 ⊢
  clear hp
  have CN := Lib.hid (rowsE_can HF p.1 f n (m + 1) hc2)
  have RE := Lib.hid (fun (i : Nat) (hi : i < m + 1) (W : World) (h : Inv (rowsE step p.1 f n i).1 W) (h0 : n₀ ≤ W.heap.size) => rowEach_dec n₀ B ba bf step Inv Can HF (rowsE step p.1 f n i).1 (rowOf f i) n (n * (m + 1 - (i + 1))) W h (by
    have h := CN.out i (by omega)
    rw [show m + 1 - i = (m + 1 - (i + 1)) + 1 from by omega, Nat.mul_add, Nat.mul_one, Nat.add_comm] at h
    exact h) (hf.row i) hn h0)
  have KP := Lib.hid HF.keep
  have HS := Lib.hid hs
  obtain ⟨L2, hL2⟩ : ∃ x, x = p.2 := ⟨_, rfl⟩
  rw [← hL2] at H1 ⊢
  clear hs hc hc2 HF hL2 hL e8 hf CN
  have hz := zeroTab
  obtain ⟨Z, hZ⟩ : ∃ Z, Z = tcs (fun _ => 0) 0 := ⟨_, rfl⟩
  have HZE := Lib.hid hZ
  rw [← hZ] at hz
  clear hZ
  have GR : Hid ((tcs f L)[136]? = some (.int .u64 (L : Int))) := Lib.hid (tcs_last f L)
  obtain ⟨A, hA⟩ : ∃ A, A = tcs f L := ⟨_, rfl⟩
  have HA := Lib.hid hA
  rw [← hA] at GR ⊢
  clear hA
  obtain ⟨W0, hW0⟩ : ∃ W0, W0 = ((w.alloc (.cells A.toArray 28)).alloc (.cells Z.toArray 28)).alloc (.cells Z.toArray 28) := ⟨_, rfl⟩
  have F0 : Hid (Thr 28 w W0 A Z (tcs (fun _ => 0) 0)) := Lib.hid (by rw [← HZE.out, hW0]; exact Thr.new 28 w A Z Z)
  have B0 : Hid (Below w.heap.size w W0) := Lib.hid (by rw [hW0]; exact (((Below.refl _ _).alloc (Nat.le_refl _) _).alloc (by simp) _).alloc (by simp; omega) _)
  have I0 : Hid (Inv s W0) := Lib.hid (KP.out s _ _ HS.out (KeepT.of_below B0.out))
  have K0 : Hid (Fram n₀ w W0) := Lib.hid ⟨B0.out.mono hn0, KeepT.of_below B0.out⟩
  have c0 : W0.cell? ⟨w.heap.size, 136, none⟩ = some (.int .u64 (L : Int)) := (F0.out.1.cell 136).trans GR.out
  clear HS B0
  go_enter Try.func23, Try.ntmps23
  go_upto_region 2 with fail
  rw [← hW0]
  clear hW0 hz
  go_wp2_with fail
  refine (H1.out _ I0.out).mono ?_
  rintro e w1 ⟨rfl, i1, b1, k1⟩
  have T1 := Lib.hid (F0.out.keepT (by decide) k1)
  have I1 := Lib.hid i1
  have K1 := Lib.hid (K0.out.trans ⟨b1, k1⟩)
  have m0 := (T1.out.2.2.cell 136).trans (tcs_last _ _)
  have n0 := T1.out.2.2.frozen 136
  clear i1 b1 k1 c0 F0 I0 K0 H1
  go_upto_region 3 with fail
  obtain ⟨V1, hV1⟩ : ∃ V, V = w1.setCell ⟨w.heap.size + 1 + 1, 136, none⟩ (.int .u64 (L2 : Int)) := ⟨_, rfl⟩
  have T2 : Hid (Thr 28 w V1 A Z (tcs (rowsE step p.1 f n 0).2 L2)) := Lib.hid (by
    rw [hV1]
    have h := T1.out.put 136 (.int .u64 (L2 : Int))
    rw [tcs_setL] at h
    exact h)
  have I2 : Hid (Inv (rowsE step p.1 f n 0).1 V1) := Lib.hid (by rw [hV1]; exact KP.out _ _ _ I1.out (KeepT.setCell T1.out.2.2 (by decide) 136 _))
  have K2 : Hid (Fram n₀ w V1) := Lib.hid (by rw [hV1]; exact K1.out.setCell (by omega) (by omega) 136 _)
  refine wp_worldT hV1 ?_
  clear hV1 m0 n0 T1 I1 K1
  obtain ⟨r0, hr0⟩ : ∃ r, r = fcs (rowOf f 0) 8 := ⟨_, rfl⟩
  have C0 := Lib.hid (RE.out 0 (by omega) V1 I2.out (Nat.le_trans hn0 K2.out.1.size))
  rw [← hr0] at C0
  have hs0 : (Try.prog.info? 24).map (·.size) = some r0.length := by rw [hr0, fcs_len]; exact sizeTRow
  have RA0 : Hid (V1.rangeAt w.heap.size 0 r0) := Lib.hid (by rw [hr0]; exact (show Blk V1 w.heap.size 28 (tcs f L) by rw [← HA.out]; exact T2.out.1).rowAt (i := 0) (by omega))
  clear hr0
  go_wp2_with (refine wpList_load_mid rfl _ _ rfl w.heap.size 0 rfl r0 _ RA0.out Try.underlying24 rfl hs0 ?_)
  refine C0.out.mono ?_
  rintro e w2 ⟨rfl, i2, b2, k2⟩
  have T3 := Lib.hid (T2.out.keepT (by decide) k2)
  have K3 := Lib.hid (K2.out.trans ⟨b2, k2⟩)
  have I3 : Hid (Inv (rowsE step p.1 f n 1).1 w2) := Lib.hid i2
  obtain ⟨d0, hd0⟩ : ∃ d, d = fcs (rowE step (rowsE step p.1 f n 0).1 (rowOf f 0) n).2 8 := ⟨_, rfl⟩
  have hdl : d0.length = 8 := by rw [hd0]; exact fcs_len _ _
  have hdo : d0.toArray.all (·.oneCell') = true := all_oneCell_toArray (by rw [hd0]; exact fcs_one _ _)
  have hsd : (Try.prog.info? 24).map (·.size) = some d0.toArray.size := by rw [List.size_toArray, hdl]; exact sizeTRow
  have TH0 : Hid (w2.there (w.heap.size + 1 + 1) 0 d0.toArray.size) := Lib.hid (T3.out.2.2.thereT (by rw [tcs_len, show d0.toArray.size = 8 by rw [List.size_toArray, hdl]]; omega))
  have T4 : Hid (Thr 28 w (w2.setCells (w.heap.size + 1 + 1) 0 d0.toArray.toList) A Z (tcs (rowsE step p.1 f n 1).2 L2)) := Lib.hid (by
    rw [hd0]
    exact T3.out.putRow (i := 0) (by omega) _)
  have I4 : Hid (Inv (rowsE step p.1 f n 1).1 (w2.setCells (w.heap.size + 1 + 1) 0 d0.toArray.toList)) := Lib.hid (KP.out _ _ _ I3.out (KeepT.setCellsT T3.out.2.2 (by decide) _ _))
  have K4 : Hid (Fram n₀ w (w2.setCells (w.heap.size + 1 + 1) 0 d0.toArray.toList)) := Lib.hid (K3.out.setCells (by omega) (by omega) _ _)
  rw [← hd0]
  clear i2 b2 k2 hdl hd0 RA0 C0 T2 I2 K2 T3 I3 K3
  go_wp2_with (refine wpList_store_mid rfl _ _ _ rfl (w.heap.size + 1 + 1) 0 d0.toArray rfl rfl TH0.out hsd hdo ?_)
  clear TH0
  go_loopw [23] (fun iv wr => ∃ c : Nat, iv = .int .i64 (c : Int) ∧ c ≤ m ∧ Hid (Thr 28 w wr A Z (tcs (rowsE step p.1 f n (c + 1)).2 L2)) ∧ Hid (Inv (rowsE step p.1 f n (c + 1)).1 wr) ∧ Hid (Fram n₀ w wr)) (fun iv _ => m - (intOf iv).toNat)
  case atStart => exact ⟨0, rfl, Nat.zero_le _, T4, I4, K4⟩
  case round =>
    obtain ⟨c, rfl, hc, HT, HI, HK⟩ := hrel
    by_cases hlt : c < m
    · have hdec : decide ((c : Int) < (m : Int)) = true := decide_eq_true (by omega)
      have hci : (c : Int) < 16 := by omega
      have hw1 : IntKind.i64.wrap ((c : Int) + 1) = ((c + 1 : Nat) : Int) := by rw [IntWalk.i64_in _ (by omega)]; omega
      obtain ⟨r, hr⟩ : ∃ r, r = fcs (rowOf f (c + 1)) 8 := ⟨_, rfl⟩
      have C1 := Lib.hid (RE.out (c + 1) (by omega) wr HI.out (Nat.le_trans hn0 HK.out.1.size))
      rw [← hr] at C1
      have hsr : (Try.prog.info? 24).map (·.size) = some r.length := by rw [hr, fcs_len]; exact sizeTRow
      have RA : Hid (wr.rangeAt w.heap.size (8 + c * 8) r) := Lib.hid (by rw [hr]; exact rowAt_succ (L := L) (t := 28) (by rw [← HA.out]; exact HT.out.1) (by omega))
      have HL := Lib.hid hlt
      clear hr
      go_wp2_with (refine wpList_load_mid rfl _ _ rfl w.heap.size (8 + c * 8) rfl r _ RA.out Try.underlying24 rfl hsr ?_)
      refine C1.out.mono ?_
      rintro e w5 ⟨rfl, i5, b5, k5⟩
      have T5 := Lib.hid (HT.out.keepT (by decide) k5)
      have K5 := Lib.hid (HK.out.trans ⟨b5, k5⟩)
      have I5 : Hid (Inv (rowsE step p.1 f n (c + 1 + 1)).1 w5) := Lib.hid i5
      obtain ⟨d, hd⟩ : ∃ d, d = fcs (rowE step (rowsE step p.1 f n (c + 1)).1 (rowOf f (c + 1)) n).2 8 := ⟨_, rfl⟩
      have hdl : d.length = 8 := by rw [hd]; exact fcs_len _ _
      have hdo : d.toArray.all (·.oneCell') = true := all_oneCell_toArray (by rw [hd]; exact fcs_one _ _)
      have hsd : (Try.prog.info? 24).map (·.size) = some d.toArray.size := by rw [List.size_toArray, hdl]; exact sizeTRow
      have TH : Hid (w5.there (w.heap.size + 1 + 1) (8 + c * 8) d.toArray.size) := Lib.hid (T5.out.2.2.thereT (by rw [tcs_len, show d.toArray.size = 8 by rw [List.size_toArray, hdl]]; omega))
      have T6 : Hid (Thr 28 w (w5.setCells (w.heap.size + 1 + 1) (8 + c * 8) d.toArray.toList) A Z (tcs (rowsE step p.1 f n (c + 1 + 1)).2 L2)) := Lib.hid (by
        rw [hd]
        have h := T5.out.putRow (i := c + 1) (by omega) (rowE step (rowsE step p.1 f n (c + 1)).1 (rowOf f (c + 1)) n).2
        rw [show 8 * (c + 1) = 8 + c * 8 from by omega] at h
        exact h)
      have I6 : Hid (Inv (rowsE step p.1 f n (c + 1 + 1)).1 (w5.setCells (w.heap.size + 1 + 1) (8 + c * 8) d.toArray.toList)) := Lib.hid (KP.out _ _ _ I5.out (KeepT.setCellsT T5.out.2.2 (by decide) _ _))
      have K6 : Hid (Fram n₀ w (w5.setCells (w.heap.size + 1 + 1) (8 + c * 8) d.toArray.toList)) := Lib.hid (K5.out.setCells (by omega) (by omega) _ _)
      rw [← hd]
      clear i5 b5 k5 hdl hd RA C1 T5 I5 K5 HT HI HK
      go_wp2_with (refine wpList_store_mid rfl _ _ _ rfl (w.heap.size + 1 + 1) (8 + c * 8) d.toArray rfl rfl TH.out hsd hdo ?_)
      go_roundw
      case rel => exact ⟨c + 1, by go_num, by omega, T6, I6, K6⟩
      case measure => simp [intOf]; omega
    · obtain rfl : c = m := by omega
      have hdec : decide ((c : Int) < (c : Int)) = false := decide_eq_false (by omega)
      have hal : (tcs (rowsE step p.1 f n (c + 1)).2 L2).length = 137 := tcs_len _ _
      have hao : (tcs (rowsE step p.1 f n (c + 1)).2 L2).toArray.all (·.oneCell') = true := all_oneCell_toArray (tcs_one _ _)
      obtain ⟨a, ha⟩ : ∃ a, a = tcs (rowsE step p.1 f n (c + 1)).2 L2 := ⟨_, rfl⟩
      rw [← ha] at HT hal hao
      have HD := Lib.hid ha
      clear ha
      have hsa : (Try.prog.info? 28).map (·.size) = some a.length := by rw [hal]; exact sizeTab
      have hsa2 : (Try.prog.info? 28).map (·.size) = some a.toArray.size := by rw [List.size_toArray, hal]; exact sizeTab
      have RA := Lib.hid HT.out.2.2.whole
      have hZl : Z.length = 137 := by rw [HZE.out]; exact tcs_len _ _
      have TH : Hid (wr.there (w.heap.size + 1) 0 a.toArray.size) := Lib.hid (HT.out.2.1.thereT (by rw [hZl, show a.toArray.size = 137 by rw [List.size_toArray, hal]]; omega))
      have FIN : Hid (Blk (wr.setCells (w.heap.size + 1) 0 a.toArray.toList) (w.heap.size + 1) 28 a ∧ Inv (rowsE step p.1 f n (c + 1)).1 (wr.setCells (w.heap.size + 1) 0 a.toArray.toList) ∧ Fram n₀ w (wr.setCells (w.heap.size + 1) 0 a.toArray.toList)) := Lib.hid
        ⟨HT.out.2.1.setWhole a (by rw [hal, hZl]), KP.out _ _ _ HI.out (KeepT.setCellsT HT.out.2.1 (by decide) _ _), HK.out.setCells (by omega) (by omega) _ _⟩
      clear hal hZl
      go_wp2_with (first
        | (refine wpList_load_mid rfl _ _ rfl (w.heap.size + 1 + 1) 0 rfl a _ RA.out Try.underlying28 rfl hsa ?_)
        | (refine wpList_store_mid rfl _ _ _ rfl (w.heap.size + 1) 0 a.toArray rfl rfl TH.out hsa2 hao ?_))
      refine bodyPost_ret (v := .agg a.toArray) ?_ rfl ⟨by rw [HD.out], FIN.out.2.1, FIN.out.2.2.1, FIN.out.2.2.2⟩
      exact results_cell_row rfl _ _ (w.heap.size + 1) _ a.toArray (0, 0) _ rfl FIN.out.1 Try.underlying28 rfl hsa2

end Go.Proofs.Ythoahengdajpcaa
