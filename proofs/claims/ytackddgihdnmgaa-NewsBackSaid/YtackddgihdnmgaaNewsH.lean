/- Rows that are made, copied, written: words and laws; what each hands on of a report's rows. -/
import Derived.Test.YtackddgihdnmgaaNewsE
import Derived.Test.YtackddgihdnmgaaNewsG
import Derived.Lib.SlBuf
namespace Go.Proofs.Ytackddgihdnmgaa
open Go.RowKit
set_option maxRecDepth 100000

/-- Rows as cells. -/
def rowsV (rs : List RowT) : List Value := rs.flatMap fun r => [.int .u32 (r.1 : Int), .int .u32 (r.2 : Int)]
theorem rowsV_nil : rowsV [] = [] := rfl
theorem rowsV_cons (r : RowT) (rs : List RowT) : rowsV (r :: rs) = .int .u32 (r.1 : Int) :: .int .u32 (r.2 : Int) :: rowsV rs := rfl
theorem rowsV_append (a b : List RowT) : rowsV (a ++ b) = rowsV a ++ rowsV b := by unfold rowsV; rw [List.flatMap_append]
theorem rowsV_len (rs : List RowT) : (rowsV rs).length = rs.length * 2 := by
  induction rs with
  | nil => rfl
  | cons r rs ih => rw [rowsV_cons, List.length_cons, List.length_cons, List.length_cons, ih]; omega
theorem rowsV_get (rs : List RowT) (j : Nat) (h : j < rs.length) : (rowsV rs)[j * 2]? = some (.int .u32 ((rs.getD j (0, 0)).1 : Int)) ∧ (rowsV rs)[j * 2 + 1]? = some (.int .u32 ((rs.getD j (0, 0)).2 : Int)) := by
  induction rs generalizing j with
  | nil => simp at h
  | cons r rs ih =>
    cases j with
    | zero => exact ⟨rfl, rfl⟩
    | succ j =>
      rw [rowsV_cons, show (j + 1) * 2 = j * 2 + 1 + 1 from by omega]
      simp only [List.getElem?_cons_succ, List.getD_cons_succ]
      exact ih j (by simpa using h)
theorem rowsV_zeros (k : Nat) : rowsV (List.replicate k (0, 0)) = List.replicate (k * 2) (.int .u32 0) := by
  induction k with
  | zero => rfl
  | succ k ih =>
    rw [List.replicate_succ, rowsV_cons, ih, show (k + 1) * 2 = k * 2 + 1 + 1 from by omega, List.replicate_succ, List.replicate_succ]
    rfl
theorem rowsV_one (rs : List RowT) : ∀ u ∈ rowsV rs, u.oneCell' = true := by
  intro u hu
  unfold rowsV at hu
  rw [List.mem_flatMap] at hu
  obtain ⟨r, _, hr⟩ := hu
  simp at hr
  rcases hr with rfl | rfl <;> rfl
theorem rowsV_set0 (d : List RowT) (a b u : Value) (z : List Value) (j : Nat) (hj : d.length = j) : (rowsV d ++ (a :: b :: z)).set (j * 2) u = rowsV d ++ (u :: b :: z) := by
  rw [List.set_append_right _ _ (by rw [rowsV_len, hj]; exact Nat.le_refl _), rowsV_len, hj, Nat.sub_self]
  rfl
theorem rowsV_set1 (d : List RowT) (a b u : Value) (z : List Value) (j : Nat) (hj : d.length = j) : (rowsV d ++ (a :: b :: z)).set (j * 2 + 1) u = rowsV d ++ (a :: u :: z) := by
  rw [List.set_append_right _ _ (by rw [rowsV_len, hj]; omega), rowsV_len, hj, show j * 2 + 1 - j * 2 = 1 from by omega]
  rfl
theorem rowsV_mid (d : List RowT) (a b : Value) (z : List Value) (j : Nat) (hj : d.length = j) : (rowsV d ++ (a :: b :: z))[j * 2]? = some a ∧ (rowsV d ++ (a :: b :: z))[j * 2 + 1]? = some b := by
  rw [List.getElem?_append_right (by rw [rowsV_len, hj]; exact Nat.le_refl _), List.getElem?_append_right (by rw [rowsV_len, hj]; omega), rowsV_len, hj, Nat.sub_self, show j * 2 + 1 - j * 2 = 1 from by omega]
  exact ⟨rfl, rfl⟩
/-- A block of rows as a slice. -/
theorem Rws.of_blk {w : World} {g t : Nat} {rs : List RowT} (h : Blk w g t (rowsV rs)) (hb : ∀ j, j < rs.length → (rs.getD j (0, 0)).1 < 4294967296 ∧ (rs.getD j (0, 0)).2 < 4294967296) : Rws w (some ⟨g, 0, none⟩) rs.length rs := by
  refine ⟨rfl, hb, fun _ => ⟨g, 0, rfl, fun j hj => ?_⟩⟩
  rw [Nat.zero_add, h.cell, h.cell]
  exact rowsV_get rs j hj

theorem made_repN (k : Nat) (z : Value) (m : Nat) (hm : 0 < m) : (madeCells (Array.replicate m z) k).toList = List.replicate k z := by
  refine List.eq_replicate_iff.2 ⟨by rw [Array.length_toList, size_madeCells], fun b hb => ?_⟩
  unfold madeCells at hb
  rw [Array.toList_map, List.mem_map] at hb
  obtain ⟨i, _, rfl⟩ := hb
  have h : i % (Array.replicate m z).size < (Array.replicate m z).size := Nat.mod_lt _ (by simpa using hm)
  rw [getElem!_pos (Array.replicate m z) _ h, Array.getElem_replicate]
theorem blk_of_ownN {w : World} {g base e size n : Nat} {xs : List Value} (h : w.ownsRow base e size (.slice (some ⟨g, 0, none⟩) n n) n xs) (hs : 0 < size) : Blk w g e xs := by
  obtain ⟨_, h2⟩ := h
  rcases h2 with ⟨h0, _⟩ | ⟨g', cap, cur, hv, _, hh, _, _, hs, ht⟩
  · cases h0
  · injection hv with hv hn hcap
    injection hv with hv
    injection hv with hv
    subst hv hcap
    unfold Blk
    rw [hh, ← ht, List.take_of_length_le (by simp [hs])]
theorem infoRow : (Try.prog.info? 65).map (fun i => (i.zero, i.size, i.bytes)) = some (some (.agg #[.int .u32 0, .int .u32 0]), 2, 8) := by kernel_rfl

/-- Rows copied over the first ones of a block of rows. -/
theorem run_copy_rows (w : World) (ty g m n c dc : Nat) (A : Option Addr) (rs : List RowT) (cur : List Value) (T : TypeId) (hg : Blk w g T cur) (hR : Rws w A n rs) (hnm : n ≤ m) (hcur : n * 2 ≤ cur.length) :
    (Builtin.copy_ #[36, 36] ty #[.slice (some ⟨g, 0, none⟩) m dc, .slice A n c]).run Try.prog w = .ok (.int .i64 (n : Int)) (w.setRow g (rowsV rs ++ cur.drop (n * 2)).toArray) := by
  have hi : (Try.prog.info? 65).map (·.size) = some 2 := by kernel_rfl
  obtain ⟨i0, hi0, hs⟩ := Option.map_eq_some_iff.1 hi
  have hmin : Nat.min n m = n := Nat.min_eq_left hnm
  have hlen : (rowsV rs).length = n * 2 := by rw [rowsV_len, hR.1]
  have hst := run_storeCells_at Try.prog g 0 T (rowsV rs) 0 cur.toArray w hg (by rw [hlen]; simpa using hcur) (rowsV_one rs)
  have e1 : (List.take (0 + 0) cur.toArray.toList ++ rowsV rs ++ List.drop (0 + 0 + (rowsV rs).length) cur.toArray.toList).toArray = (rowsV rs ++ cur.drop (n * 2)).toArray := by
    rw [hlen]; simp
  rw [e1] at hst
  rcases Nat.eq_zero_or_pos n with h0 | h0
  · have hz : rs = [] := List.eq_nil_of_length_eq_zero (hR.1.trans h0)
    subst hz
    subst h0
    have hl : ∀ (x : Addr), (loadCells x 0).run Try.prog w = .ok #[] w := fun x => by simpa using run_loadCells_list (P := Try.prog) w x [] (by simp)
    have hst' : (storeCells ⟨g, 0, none⟩ [] 0).run Try.prog w = .ok () (w.setRow g (rowsV [] ++ cur.drop (0 * 2)).toArray) := hst
    rw [Nat.zero_mul, List.drop_zero] at hst' ⊢
    cases A <;> simp [Builtin.copy_, run_underlying Try.underlying36, Builtin.lenOf, Builtin.firstCells, sizeOf, typeInfo, hi0, hl, goInt, hst']
  · obtain ⟨b, o, rfl, hc⟩ := hR.2.2 h0
    have hl := run_loadCells_list (P := Try.prog) w ⟨b, o, none⟩ (rowsV rs) (fun j v hv => by
      have hjl : j < n * 2 := by
        rcases Nat.lt_or_ge j (n * 2) with h | h
        · exact h
        · rw [List.getElem?_eq_none (by rw [hlen]; exact h)] at hv; cases hv
      obtain ⟨q, hq⟩ : ∃ q, q = j / 2 := ⟨_, rfl⟩
      have hqn : q < n := by omega
      obtain ⟨g1, g2⟩ := rowsV_get rs q (by rw [hR.1]; exact hqn)
      obtain ⟨d1, d2⟩ := hc q hqn
      rw [Addr.add_lit]
      rcases Nat.mod_two_eq_zero_or_one j with hm | hm
      · have e : j = q * 2 := by omega
        rw [e] at hv ⊢
        rw [← hv, g1, d1]
      · have e : j = q * 2 + 1 := by omega
        rw [e] at hv ⊢
        rw [← hv, g2, ← Nat.add_assoc, d2])
    rw [hlen] at hl
    simp [Builtin.copy_, run_underlying Try.underlying36, Builtin.lenOf, Builtin.firstCells, sizeOf, typeInfo, hi0, hs, hmin, hl, goInt]
    rw [hst]
    rfl

theorem setRow_blk {X : World} {g t : Nat} {cs : List Value} (hB : Blk X g t cs) (c : List Value) : Blk (X.setRow g c.toArray) g t c := setRow_heap X g _ _ t _ hB
theorem KeepT.setRow {p : TypeId → Bool} {X : World} {g t : Nat} {cs : List Value} (hB : Blk X g t cs) (ht : p t = false) (c : Array Value) : KeepT p X (X.setRow g c) :=
  ⟨by simp [World.setRow], fun j c' t' a b => by
    rw [setRow_other X g j c (show j ≠ g from ?_)]
    · exact a
    · rintro rfl
      have h2 := hB.get
      rw [a] at h2
      injection h2 with h2
      injection h2 with _ h3
      subst h3
      rw [ht] at b
      cases b⟩

/-- What is handed on of rows, and what comes back. -/
def rowStep {σ : Type} (step : σ → Nat → Nat → σ × Nat) (a : σ × List RowT) (r : RowT) : σ × List RowT :=
  ((step (step a.1 r.1 4).1 r.2 4).1, a.2 ++ [((step a.1 r.1 4).2, (step (step a.1 r.1 4).1 r.2 4).2)])
def rowsStep {σ : Type} (step : σ → Nat → Nat → σ × Nat) (s : σ) (rs : List RowT) : σ × List RowT := rs.foldl (rowStep step) (s, [])
theorem rowsStep_take {σ : Type} (step : σ → Nat → Nat → σ × Nat) (s : σ) (rs : List RowT) (j : Nat) (h : j < rs.length) : rowsStep step s (rs.take (j + 1)) = rowStep step (rowsStep step s (rs.take j)) (rs.getD j (0, 0)) := by
  unfold rowsStep
  rw [List.take_succ_eq_append_getElem h, List.foldl_append]
  simp [List.getD_eq_getElem?_getD, h]
theorem rowsStep_len {σ : Type} (step : σ → Nat → Nat → σ × Nat) (s : σ) (rs : List RowT) : ∀ j, j ≤ rs.length → (rowsStep step s (rs.take j)).2.length = j
  | 0, _ => rfl
  | j + 1, h => by
    rw [rowsStep_take step s rs j (by omega)]
    unfold rowStep
    rw [List.length_append, rowsStep_len step s rs j (by omega)]
    rfl

/-- What each of a report holds while it goes through its rows. -/
def EpM (N g m x : Nat) (cs : List Value) (W : World) : Prop := N + 1 + 1 < g ∧ Blk W (N + 1) 38 [.int .u32 0, .slice none 0 0] ∧ Blk W (N + 1 + 1) 38 [.int .u32 (x : Int), .slice (some ⟨g, 0, none⟩) m m] ∧ Blk W g 65 cs
theorem EpM.keepT {N g m x : Nat} {cs : List Value} {W W' : World} (h : EpM N g m x cs W) (hk : KeepT eachT W W') : EpM N g m x cs W' := ⟨h.1, hk.blk h.2.1 (by decide), hk.blk h.2.2.1 (by decide), hk.blk h.2.2.2 (by decide)⟩
theorem EpM.alloc {N g m x : Nat} {cs : List Value} {W : World} (h : EpM N g m x cs W) (o : Obj) : EpM N g m x cs (W.alloc o) := ⟨h.1, h.2.1.alloc _, h.2.2.1.alloc _, h.2.2.2.alloc _⟩
theorem EpM.set_ {N g m x : Nat} {cs : List Value} {W : World} (h : EpM N g m x cs W) (i : Nat) (u : Value) : EpM N g m x (cs.set i u) (W.setCell ⟨g, i, none⟩ u) :=
  ⟨h.1, h.2.1.far (show N + 1 ≠ g by have := h.1; omega) _, h.2.2.1.far (show N + 1 + 1 ≠ g by have := h.1; omega) _, h.2.2.2.set_ i u⟩
theorem run_store1 (w : World) (g i : Nat) (T : TypeId) (cs : List Value) (v u : Value) (K : TypeId) (h : Blk w g T cs) (hv : cs[i]? = some v) (hK : (Try.prog.info? K).map (·.size) = some 1) (h1 : u.oneCell' = true) :
    (Instr.storeAt K (.pointer (some ⟨g, i, none⟩)) u).run Try.prog w = .ok () (w.setCell ⟨g, i, none⟩ u) := by
  have hc : w.cell? ⟨g, i, none⟩ = some v := by rw [h.cell]; exact hv
  have hf := h.frozen i
  have hst := run_storeCells_cells (P := Try.prog) g i [u] 0 w (fun j hj => by
    obtain rfl : j = 0 := by simpa using hj
    simp [hc]) (fun j hj => by
    obtain rfl : j = 0 := by simpa using hj
    simpa using hf) (fun x hx => by simp at hx; subst hx; exact h1)
  have hcs : u.cells = #[u] := by cases u <;> first | rfl | cases h1
  obtain ⟨i0, hi0, hs⟩ := Option.map_eq_some_iff.1 hK
  have e : w.setCells g (i + 0) [u] = w.setCell ⟨g, i, none⟩ u := rfl
  rw [e] at hst
  simp only [Instr.storeAt, Instr.sureAddr, Sem.run_bind, Sem.run_pure, Result.andThen_ok]
  simp [storeVar, sizeOf, typeInfo, hi0, hcs, hs, hst]

end Go.Proofs.Ytackddgihdnmgaa
