/- Steps that come in, and tables that come in. -/
import Derived.Test.YthoahengdajpcaaTabG
import Derived.Deep.Slices
import Derived.Deep.Grids
import Derived.OpenShut
namespace Go.Proofs.Ythoahengdajpcaa
open Go.RowKit Go.Deep Go.ChangeShapes Go.WideShapes
set_option maxRecDepth 100000

/-- Something done to a table. -/
structure StepT where
  c : Int
  k : Int
  r : Nat
  s : Bool
instance : Inhabited StepT := ⟨⟨0, 0, 0, false⟩⟩
def StepT.cells (x : StepT) : List Value := [.int .i64 x.c, .int .i64 x.k, .int .u64 (x.r : Int), .bool x.s]
/-- A slice reads as steps. -/
def Stp (w : World) (A : Option Addr) (n : Nat) (l : Nat → StepT) : Prop :=
  0 < n → ∃ b o, A = some ⟨b, o, none⟩ ∧ ∀ j, j < n → ∀ i v, (l j).cells[i]? = some v → w.cell? ⟨b, o + j * 4 + i, none⟩ = some v
theorem Stp.keep {w w' : World} {A : Option Addr} {n : Nat} {l : Nat → StepT} (h : Stp w A n l) (hb : Below w.heap.size w w') : Stp w' A n l := fun hn => by
  obtain ⟨b, o, e, hc⟩ := h hn
  exact ⟨b, o, e, fun j hj i v hv => (hb.cell (p := ⟨b, o + j * 4 + i, none⟩) (block_lt_of_cell (hc j hj i v hv))).trans (hc j hj i v hv)⟩

theorem steps_of_trod {H : Type} {enc : TypeId × Value → H} {w : World} {base : Nat} {held : Bool} {fuel : Nat} {u : Value} {x : DataW H × List MemPlace}
    (h : DataW.trod enc Try.prog w base (fun _ => true) held fuel 29 [u] = some x) : ∃ A n c l, u = .slice A n c ∧ n ≤ c ∧ c ≤ maxLen ∧ Stp w A n l := by
  rcases open_slice Try.underlying29 h with ⟨hcs, _⟩ | ⟨a, len, cap, m, n, D, Pl, hcs, _, hl, hm, hmm, _, hx⟩
  · injection hcs with e _
    exact ⟨none, 0, 0, default, e, Nat.le_refl _, by simp [maxLen], fun h => absurd h (Nat.lt_irrefl _)⟩
  · injection hcs with e _
    have ce : Try.prog.cellsOf 37 = 4 := by kernel_rfl
    have each : ∀ i, i < len → ∃ q : StepT, ∀ k v, q.cells[k]? = some v → w.cell? (a.add (i * 4 + k)) = some v := by
      intro i hi
      have him : i < m := by rw [hmm]; simp; omega
      obtain ⟨cs', h1, h2⟩ := hx i him
      rw [ce] at h1
      obtain ⟨_, hlen, hcell⟩ := World.cells?_some h1
      obtain ⟨xs, k, hk, hxy, _, hxl, hf⟩ := DataW.trod_struct Try.underlying37 h2
      match xs, hxl, cs', hlen with
      | [y0, y1, y2, y3], _, [v0, v1, v2, v3], _ =>
        have c3 : Try.prog.cellsOf 3 = 1 := by kernel_rfl
        have c6 : Try.prog.cellsOf 26 = 1 := by kernel_rfl
        have c4 : Try.prog.cellsOf 4 = 1 := by kernel_rfl
        have g0 := hf 0 _ rfl
        have g1 := hf 1 _ rfl
        have g2 := hf 2 _ rfl
        have g3 := hf 3 _ rfl
        simp [c3, c4, c6] at g0 g1 g2 g3
        obtain ⟨n0, e0, _, w0⟩ := DataW.trod_int Try.underlying3 g0
        obtain ⟨n1, e1, _, w1⟩ := DataW.trod_int Try.underlying3 g1
        obtain ⟨n2, e2, _, w2⟩ := DataW.trod_int Try.underlying26 g2
        obtain ⟨b3, e3, _⟩ := DataW.trod_bool Try.underlying4 g3
        injection e0 with e0 _
        injection e1 with e1 _
        injection e2 with e2 _
        injection e3 with e3 _
        subst e0 e1 e2 e3
        have b2 := bounds_u64 w2
        refine ⟨⟨n0, n1, n2.toNat, b3⟩, fun k v hv => ?_⟩
        have hk4 : k < 4 := by
          rcases Nat.lt_or_ge k 4 with h | h
          · exact h
          · rw [List.getElem?_eq_none (by show 4 ≤ k; exact h)] at hv; cases hv
        have hc := hcell k hk4
        rw [add_add] at hc
        rw [hc, ← hv]
        unfold StepT.cells
        rw [Int.toNat_of_nonneg b2.1]
    obtain ⟨l, hl2⟩ := choose_lt each
    refine ⟨some a, len, cap, l, e, hl, hm, fun hp => ?_⟩
    obtain ⟨b, o, spot⟩ := a
    have h0 := hl2 0 hp 0 _ rfl
    have hs : spot = none := by simpa [Addr.add] using World.cell?_spot h0
    subst hs
    refine ⟨b, o, rfl, fun j hj i v hv => ?_⟩
    have := hl2 j hj i v hv
    rw [add_plain] at this
    rw [Nat.add_assoc]
    exact this

section
variable {H : Type} {enc : TypeId × Value → H} {w : World} {base : Nat} {held : Bool} {fuel : Nat} {cs : List Value} {x : DataW H × List MemPlace} {spare : Nat → Bool}
theorem row_of_trod (T : TypeId) (hT : Try.prog.underlying T = some (.array 8 22)) (hC : Try.prog.cellsOf T = 8) (h : DataW.trod enc Try.prog w base spare held fuel T cs = some x) : ∃ f : Nat → Nat, Fits f ∧ cs = fcs f 8 := by
  obtain ⟨xs, m, hm, e, hlc, hlen, hf⟩ := DataW.trod_array hT h
  have c1 : Try.prog.cellsOf 22 = 1 := by kernel_rfl
  rw [c1] at hf
  have each : ∀ i, i < 8 → ∃ q : Nat, q < 4294967296 ∧ cs[i]? = some (.int .u32 (q : Int)) := by
    intro i hi
    obtain ⟨y, hy⟩ : ∃ y, xs[i]? = some y := by
      rw [List.getElem?_eq_getElem (by rw [hlen]; exact hi)]; exact ⟨_, rfl⟩
    have h2 := (hf i hi).trans hy
    obtain ⟨n0, e0, _, w0⟩ := DataW.trod_int Try.underlying22 h2
    have b0 := bounds_u32 w0
    refine ⟨n0.toNat, by omega, ?_⟩
    rw [Int.toNat_of_nonneg b0.1]
    have : ((cs.drop (i * 1)).take 1)[0]? = some (.int .u32 n0) := by rw [e0]; rfl
    rw [Nat.mul_one, List.getElem?_take_of_lt (by omega), List.getElem?_drop, Nat.add_zero] at this
    exact this
  obtain ⟨l, hl⟩ := choose_lt each
  refine ⟨fun j => if j < 8 then l j else 0, fun j => ?_, fcs_ext ?_ fun j hj => ?_⟩
  · show (if j < 8 then l j else 0) < _
    split
    · rename_i h; exact (hl j h).1
    · decide
  · rw [hlc, hC]
  · rw [(hl j hj).2, if_pos hj]
theorem rows_of_trod20 (h : DataW.trod enc Try.prog w base spare held fuel 25 cs = some x) : ∃ f : Nat → Nat, Fits f ∧ cs = fcs f 128 := by
  obtain ⟨xs, m, hm, e, hlc, hlen, hf⟩ := DataW.trod_array Try.underlying25 h
  have c1 : Try.prog.cellsOf 24 = 8 := by kernel_rfl
  have c2 : Try.prog.cellsOf 25 = 128 := by kernel_rfl
  rw [c1] at hf
  have each : ∀ i, i < 16 → ∃ q : Nat → Nat, Fits q ∧ ∀ j, j < 8 → cs[i * 8 + j]? = some (.int .u32 (q j : Int)) := by
    intro i hi
    obtain ⟨y, hy⟩ : ∃ y, xs[i]? = some y := by
      rw [List.getElem?_eq_getElem (by rw [hlen]; exact hi)]; exact ⟨_, rfl⟩
    obtain ⟨q, hq, e⟩ := row_of_trod 24 Try.underlying24 c1 ((hf i hi).trans hy)
    refine ⟨q, hq, fun j hj => ?_⟩
    have : ((cs.drop (i * 8)).take 8)[j]? = some (.int .u32 (q j : Int)) := by rw [e]; exact fcs_get q 8 j hj
    rw [List.getElem?_take_of_lt hj, List.getElem?_drop] at this
    exact this
  obtain ⟨l, hl⟩ := choose_lt each
  refine ⟨fun j => if j < 128 then l (j / 8) (j % 8) else 0, fun j => ?_, fcs_ext (by rw [hlc, c2]) fun j hj => ?_⟩
  · show (if j < 128 then l (j / 8) (j % 8) else 0) < _
    split
    · exact (hl (j / 8) (by omega)).1 _
    · decide
  · have := (hl (j / 8) (by omega)).2 (j % 8) (by omega)
    rw [show j / 8 * 8 + j % 8 = j from by omega] at this
    rw [this, if_pos hj]
theorem table_of_trod (h : DataW.trod enc Try.prog w base spare held fuel 28 cs = some x) : ∃ (f : Nat → Nat) (L : Nat), Fits f ∧ L < 18446744073709551616 ∧ cs = tcs f L := by
  obtain ⟨xs, m, hm, e, hlc, hlen, hf⟩ := DataW.trod_struct Try.underlying28 h
  have c0 : Try.prog.cellsOf 24 = 8 := by kernel_rfl
  have c1 : Try.prog.cellsOf 25 = 128 := by kernel_rfl
  have c2 : Try.prog.cellsOf 26 = 1 := by kernel_rfl
  have c3 : Try.prog.cellsOf 28 = 137 := by kernel_rfl
  match xs, hlen with
  | [y0, y1, y2], _ =>
    have g0 := hf 0 _ rfl
    have g1 := hf 1 _ rfl
    have g2 := hf 2 _ rfl
    simp only [c0, c1, c2, List.getElem?_cons_zero, List.getElem?_cons_succ] at g0 g1 g2
    obtain ⟨f0, h0, e0⟩ := row_of_trod 24 Try.underlying24 c0 g0
    obtain ⟨f1, h1, e1⟩ := rows_of_trod20 g1
    obtain ⟨n2, e2, _, w2⟩ := DataW.trod_int Try.underlying26 g2
    have b2 := bounds_u64 w2
    refine ⟨fun j => if j < 8 then f0 j else f1 (j - 8), n2.toNat, fun j => ?_, by omega, tcs_ext (by rw [hlc, c3]) (fun j hj => ?_) ?_⟩
    · show (if j < 8 then f0 j else f1 (j - 8)) < _
      split
      · exact h0 _
      · exact h1 _
    · by_cases h8 : j < 8
      · rw [if_pos h8]
        have : ((cs.drop 0).take 8)[j]? = some (.int .u32 (f0 j : Int)) := (congrArg (fun l : List Value => l[j]?) e0).trans (fcs_get f0 8 j h8)
        rw [List.getElem?_take_of_lt h8, List.getElem?_drop, Nat.zero_add] at this
        exact this
      · rw [if_neg h8]
        have : ((cs.drop 8).take 128)[j - 8]? = some (.int .u32 (f1 (j - 8) : Int)) := (congrArg (fun l : List Value => l[j - 8]?) e1).trans (fcs_get f1 128 _ (by omega))
        rw [List.getElem?_take_of_lt (by omega), List.getElem?_drop, show 8 + (j - 8) = j from by omega] at this
        exact this
    · have : ((cs.drop 136).take 1)[0]? = some (.int .u64 n2) := (congrArg (fun l : List Value => l[0]?) e2).trans rfl
      rw [List.getElem?_take_of_lt (by omega), List.getElem?_drop, Nat.add_zero] at this
      rw [this, Int.toNat_of_nonneg b2.1]
end
end Go.Proofs.Ythoahengdajpcaa
