/- Rows as memory; what is wrong with a report: the contracts of unmet, IndexFunc, ContainsFunc, rising, check. -/
import Derived.Test.YtackddgihdnmgaaNewsA
import Derived.BigQuiet
namespace Go.Proofs.Ytackddgihdnmgaa
open Go.RowKit
set_option maxRecDepth 100000

abbrev RowT := Nat × Nat
/-- A slice that reads as rows. -/
def Rws (w : World) (A : Option Addr) (n : Nat) (rs : List RowT) : Prop := rs.length = n ∧ (∀ j, j < n → (rs.getD j (0, 0)).1 < 4294967296 ∧ (rs.getD j (0, 0)).2 < 4294967296) ∧
  (0 < n → ∃ b o, A = some ⟨b, o, none⟩ ∧ ∀ j, j < n → w.cell? ⟨b, o + j * 2, none⟩ = some (.int .u32 ((rs.getD j (0, 0)).1 : Int)) ∧ w.cell? ⟨b, o + j * 2 + 1, none⟩ = some (.int .u32 ((rs.getD j (0, 0)).2 : Int)))
theorem Rws.keep {w w' : World} {A : Option Addr} {n : Nat} {rs : List RowT} (h : Rws w A n rs) (hb : Below w.heap.size w w') : Rws w' A n rs := by
  refine ⟨h.1, h.2.1, fun hn => ?_⟩
  obtain ⟨b, o, e, hc⟩ := h.2.2 hn
  refine ⟨b, o, e, fun j hj => ?_⟩
  obtain ⟨h1, h2⟩ := hc j hj
  exact ⟨(hb.cell (p := ⟨b, o + j * 2, none⟩) (block_lt_of_cell h1)).trans h1, (hb.cell (p := ⟨b, o + j * 2 + 1, none⟩) (block_lt_of_cell h2)).trans h2⟩
/-- A store into a block that is no row of rows. -/
theorem Rws.far2 {w : World} {A : Option Addr} {n : Nat} {rs : List RowT} {g T : Nat} {a : Value} {s : Option Addr} {k c : Nat} (h : Rws w A n rs) (hB : Blk w g T [a, .slice s k c]) (i : Nat) (u : Value) : Rws (w.setCell ⟨g, i, none⟩ u) A n rs := by
  refine ⟨h.1, h.2.1, fun hn => ?_⟩
  obtain ⟨b, o, e, hc⟩ := h.2.2 hn
  refine ⟨b, o, e, fun j hj => ?_⟩
  obtain ⟨h1, h2⟩ := hc j hj
  have hne : b ≠ g := by
    rintro rfl
    rw [hB.cell] at h1 h2
    rcases Nat.eq_zero_or_pos (o + j * 2) with h0 | h0
    · rw [h0] at h2
      simp at h2
    · rw [List.getElem?_eq_none (by simp; omega)] at h2
      cases h2
  rw [World.cell?_setCell_other _ _ _ _ (by intro e; injection e with e _; exact hne e.symm), World.cell?_setCell_other _ _ _ _ (by intro e; injection e with e _; exact hne e.symm)]
  exact ⟨h1, h2⟩
theorem Rws.nil (w : World) (A : Option Addr) : Rws w A 0 [] := ⟨rfl, fun j hj => absurd hj (Nat.not_lt_zero _), fun h => absurd h (Nat.lt_irrefl _)⟩

/-- Each of the first so many was met. -/
def MetP (rs : List RowT) (k : Nat) : Prop := ∀ i, i < k → 0 < (rs.getD i (0, 0)).2
/-- The first so many rise, and one more. -/
def RisP (rs : List RowT) (k : Nat) : Prop := ∀ i, i < k → (rs.getD i (0, 0)).1 < (rs.getD (i + 1) (0, 0)).1
instance (rs : List RowT) (k : Nat) : Decidable (MetP rs k) := by unfold MetP; infer_instance
instance (rs : List RowT) (k : Nat) : Decidable (RisP rs k) := by unfold RisP; infer_instance
/-- May a report be? -/
def MayP (rs : List RowT) : Prop := 1 ≤ rs.length ∧ rs.length ≤ 256 ∧ MetP rs rs.length ∧ RisP rs (rs.length - 1)
instance (rs : List RowT) : Decidable (MayP rs) := by unfold MayP; infer_instance
theorem MetP.succ {rs : List RowT} {k : Nat} (h : MetP rs k) (h1 : 0 < (rs.getD k (0, 0)).2) : MetP rs (k + 1) := fun i hi => by
  rcases Nat.lt_or_ge i k with h2 | h2
  · exact h i h2
  · obtain rfl : i = k := by omega
    exact h1
theorem RisP.succ {rs : List RowT} {k : Nat} (h : RisP rs k) (h1 : (rs.getD k (0, 0)).1 < (rs.getD (k + 1) (0, 0)).1) : RisP rs (k + 1) := fun i hi => by
  rcases Nat.lt_or_ge i k with h2 | h2
  · exact h i h2
  · obtain rfl : i = k := by omega
    exact h1

theorem news_unmet (a b : Nat) (w : World) :
    Calls Try.prog 38 #[.agg #[.int .u32 (a : Int), .int .u32 (b : Int)]] w fun e w' => e = .returned (.bool (decide (b = 0))) ∧ Below w.heap.size w w' := by
  by_cases h : b = 0
  · subst h
    go_enter Try.func38, Try.ntmps38
    go_wp2
    go_ret
    exact ⟨rfl, (Below.refl _ _).alloc (Nat.le_refl _) _⟩
  · have h1 : ((b : Int) == 0) = false := by rw [beq_eq_false_iff_ne]; omega
    have h2 := Lib.hid (decide_eq_false h)
    clear h
    go_enter Try.func38, Try.ntmps38
    go_wp2
    go_ret
    exact ⟨by rw [h2.out]; rfl, (Below.refl _ _).alloc (Nat.le_refl _) _⟩

set_option maxHeartbeats 4000000 in
theorem news_IndexFunc (A : Option Addr) (n c : Nat) (rs : List RowT) (w : World) (h : Rws w A n rs) (hc : n ≤ c) (hn : (n : Int) ≤ 9223372036854775807) :
    Calls Try.prog 45 #[.slice A n c, .func (.func 38) #[] #[]] w fun e w' => (∃ i : Int, e = .returned (.int .i64 i) ∧ (0 ≤ i ↔ ¬ MetP rs n)) ∧ Below w.heap.size w w' := by
  have HR := Lib.hid h
  have HU := Lib.hid (fun a b W => news_unmet a b W)
  clear h
  go_enter Try.func45, Try.ntmps45
  go_wp2
  go_loopw [8] (fun iv wr => ∃ j : Nat, iv = .int .i64 (j : Int) ∧ j ≤ n ∧ Hid (MetP rs j) ∧ Hid (Below w.heap.size w wr)) (fun iv _ => n - (intOf iv).toNat)
  case atStart => exact ⟨0, rfl, Nat.zero_le _, Lib.hid (fun i hi => absurd hi (Nat.not_lt_zero _)), Lib.hid (Below.refl _ _)⟩
  case round =>
    obtain ⟨j, rfl, hj, HM, HB⟩ := hrel
    by_cases hlt : j < n
    · obtain ⟨b, o, rfl, hcell⟩ := (HR.out.keep HB.out).2.2 (by omega)
      obtain ⟨c1, c2⟩ := hcell j hlt
      obtain ⟨x, hx⟩ : ∃ x, x = (rs.getD j (0, 0)).1 := ⟨_, rfl⟩
      obtain ⟨y, hy⟩ : ∃ y, y = (rs.getD j (0, 0)).2 := ⟨_, rfl⟩
      rw [← hx] at c1
      rw [← hy] at c2
      have HY := Lib.hid hy
      have hdec : decide ((j : Int) < (n : Int)) = true := decide_eq_true (by omega)
      have hw1 : IntKind.i64.wrap ((j : Int) + 1) = ((j + 1 : Nat) : Int) := by rw [IntWalk.i64_in _ (by omega)]; omega
      clear hx hy hcell
      by_cases hz : y = 0
      · have HZ := Lib.hid hz
        have HQ : Hid (∀ W, Calls Try.prog 38 #[.agg #[.int .u32 (x : Int), .int .u32 (y : Int)]] W fun e w' => e = .returned (.bool true) ∧ Below W.heap.size W w') := Lib.hid (fun W => by
          have q := HU.out x y W
          rw [decide_eq_true HZ.out] at q
          exact q)
        clear hz hw1
        go_wp2_with (go_at_call 38; refine (HQ.out _).mono ?_; rintro e w1 ⟨rfl, hb1⟩)
        go_ret
        refine ⟨⟨(j : Int), rfl, ?_⟩, HB.out.trans (hb1.mono HB.out.size)⟩
        refine ⟨fun _ hm => ?_, fun _ => by omega⟩
        have := hm j hlt
        rw [← HY.out, HZ.out] at this
        omega
      · have HZ := Lib.hid hz
        have HQ : Hid (∀ W, Calls Try.prog 38 #[.agg #[.int .u32 (x : Int), .int .u32 (y : Int)]] W fun e w' => e = .returned (.bool false) ∧ Below W.heap.size W w') := Lib.hid (fun W => by
          have q := HU.out x y W
          rw [decide_eq_false HZ.out] at q
          exact q)
        clear hz hw1
        go_wp2_with (go_at_call 38; refine (HQ.out _).mono ?_; rintro e w1 ⟨rfl, hb1⟩)
        go_roundw
        case rel => exact ⟨j + 1, by go_num, by omega, Lib.hid (HM.out.succ (by rw [← HY.out]; have := HZ.out; omega)), Lib.hid (HB.out.trans (hb1.mono HB.out.size))⟩
        case measure => simp [intOf]; omega
    · have hjm : j = n := by omega
      subst hjm
      have hdec : decide ((j : Int) < (j : Int)) = false := decide_eq_false (by omega)
      go_wp2_with fail
      go_ret
      exact ⟨⟨-1, rfl, ⟨fun h => by omega, fun h => absurd HM.out h⟩⟩, HB.out⟩

theorem news_ContainsFunc (A : Option Addr) (n c : Nat) (rs : List RowT) (w : World) (h : Rws w A n rs) (hc : n ≤ c) (hn : (n : Int) ≤ 9223372036854775807) :
    Calls Try.prog 37 #[.slice A n c, .func (.func 38) #[] #[]] w fun e w' => e = .returned (.bool (!decide (MetP rs n))) ∧ Below w.heap.size w w' := by
  have HI := Lib.hid (news_IndexFunc A n c rs w h hc hn)
  clear h
  go_enter Try.func37, Try.ntmps37
  go_wp2_with fail
  refine HI.out.mono ?_
  rintro e w1 ⟨⟨i, rfl, hi⟩, hb1⟩
  have HE : Hid (decide ((0 : Int) ≤ i) = !decide (MetP rs n)) := Lib.hid (by
    by_cases h : MetP rs n
    · rw [decide_eq_true h, decide_eq_false (fun h2 => hi.1 h2 h)]; rfl
    · rw [decide_eq_false h, decide_eq_true (hi.2 h)]; rfl)
  clear hi
  go_wp2_with fail
  go_ret
  exact ⟨by rw [← HE.out]; rfl, hb1⟩

theorem below_quietN {B : Nat} {a w : World} (h : Below B a w) (n : Nat) : Below B a (w.drewN n) := ⟨h.os, h.tape, h.output, h.size, h.block⟩
theorem run_slice_rows (b o n c : Nat) (W : World) (h1 : 1 ≤ n) (h2 : n ≤ c) :
    (Instr.slice 36 (.slice (some ⟨b, o, none⟩) n c) (some (.int .i64 1)) none none).run Try.prog W = .ok (.slice (if c = 1 then some ⟨b, o, none⟩ else some ⟨b, o + 2, none⟩) (n - 1) (c - 1)) W := by
  have hi : (Try.prog.info? 65).map (·.size) = some 2 := by kernel_rfl
  obtain ⟨i0, hi0, hs⟩ := Option.map_eq_some_iff.1 hi
  have h3 : (1 : Int) ≤ (n : Int) := by omega
  by_cases hc : c = 1
  · simp [Instr.slice, Instr.sliceBounds, Instr.sliceBound, asIntOf, run_underlying Try.underlying36, go_sem, h3, hc, hi0, hs]
  · simp [Instr.slice, Instr.sliceBounds, Instr.sliceBound, asIntOf, run_underlying Try.underlying36, go_sem, h3, hc, hi0, hs, Addr.add]

set_option maxHeartbeats 4000000 in
theorem news_rising (A : Option Addr) (n c : Nat) (rs : List RowT) (w : World) (h : Rws w A n rs) (hc : n ≤ c) (hcm : (c : Int) ≤ 9223372036854775807) (hn1 : 1 ≤ n) :
    Calls Try.prog 39 #[.slice A n c] w fun e w' => e = .returned (.bool (decide (RisP rs (n - 1)))) ∧ Below w.heap.size w w' := by
  obtain ⟨b, o, rfl, _⟩ := h.2.2 hn1
  have HR := Lib.hid h
  obtain ⟨m, hm⟩ : ∃ m, m = n - 1 := ⟨_, rfl⟩
  have HS := Lib.hid (fun W => run_slice_rows b o n c W hn1 hc)
  rw [← hm] at HS ⊢
  obtain ⟨c2, hc2⟩ : ∃ c2, c2 = c - 1 := ⟨_, rfl⟩
  rw [← hc2] at HS
  obtain ⟨A2, hA2⟩ : ∃ A2, A2 = (if c = 1 then some (⟨b, o, none⟩ : Addr) else some ⟨b, o + 2, none⟩) := ⟨_, rfl⟩
  rw [← hA2] at HS
  have HA2 : Hid (0 < m → A2 = some ⟨b, o + 2, none⟩) := Lib.hid (fun h => by rw [hA2, if_neg (by omega)])
  have HMN : Hid (n = m + 1) := Lib.hid (by omega)
  have hm2 : m ≤ c2 := by omega
  have hmn : m < n := by omega
  have hcm2 : (c2 : Int) ≤ 9223372036854775807 := by omega
  have hsl := HS.out
  clear h hc2 hm hA2 hc hcm
  go_enter Try.func39, Try.ntmps39
  go_wp2_with fail
  clear hsl
  go_loopw [8] (fun iv wr => ∃ j : Nat, iv = .int .i64 (j : Int) ∧ j ≤ m ∧ Hid (RisP rs j) ∧ Hid (Below w.heap.size w wr)) (fun iv _ => m - (intOf iv).toNat)
  case atStart => exact ⟨0, rfl, Nat.zero_le _, Lib.hid (fun i hi => absurd hi (Nat.not_lt_zero _)), Lib.hid (Below.refl _ _)⟩
  case round =>
    obtain ⟨j, rfl, hj, HM, HB⟩ := hrel
    by_cases hlt : j < m
    · obtain rfl := HA2.out (by omega)
      obtain ⟨b', o', e0, hcell⟩ := (HR.out.keep HB.out).2.2 (by omega)
      injection e0 with e0
      injection e0 with e1 e2 _
      subst e1 e2
      obtain ⟨c1, _⟩ := hcell j (by omega)
      obtain ⟨d1, d2⟩ := hcell (j + 1) (by omega)
      obtain ⟨x, hx⟩ : ∃ x, x = (rs.getD j (0, 0)).1 := ⟨_, rfl⟩
      obtain ⟨y, hy⟩ : ∃ y, y = (rs.getD (j + 1) (0, 0)).1 := ⟨_, rfl⟩
      obtain ⟨z, hz⟩ : ∃ z, z = (rs.getD (j + 1) (0, 0)).2 := ⟨_, rfl⟩
      rw [← hx] at c1
      rw [← hy] at d1
      rw [← hz] at d2
      rw [show o + (j + 1) * 2 = o + 2 + j * 2 from by omega] at d1 d2
      have HX := Lib.hid hx
      have HY := Lib.hid hy
      have hdec : decide ((j : Int) < (m : Int)) = true := decide_eq_true (by omega)
      have hjn : j < n := by omega
      have hw1 : IntKind.i64.wrap ((j : Int) + 1) = ((j + 1 : Nat) : Int) := by rw [IntWalk.i64_in _ (by omega)]; omega
      have BA := (Below.refl wr.heap.size wr).alloc (Nat.le_refl _) (.cells #[.int .u32 (y : Int), .int .u32 (z : Int)] 65)
      have c1' := (BA.cell (p := ⟨b, o + j * 2, none⟩) (block_lt_of_cell c1)).trans c1
      clear hx hy hz hcell BA
      by_cases hle : y ≤ x
      · have hd2 : decide (y ≤ x) = true := decide_eq_true hle
        have HL := Lib.hid hle
        clear hle hw1
        go_wp2_with fail
        go_quiet (fail)
        go_wp2_with fail
        go_ret
        exact ⟨by rw [decide_eq_false (fun hr => Nat.lt_irrefl _ (Nat.lt_of_lt_of_le (by rw [HX.out, HY.out]; exact hr j (by omega)) HL.out))]; rfl, below_quietN (HB.out.alloc HB.out.size _) _⟩
      · have hd2 : decide (y ≤ x) = false := decide_eq_false hle
        have HL := Lib.hid hle
        clear hle
        go_wp2_with fail
        go_quiet (fail)
        go_wp2_with fail
        go_roundw
        case rel => exact ⟨j + 1, by go_num, by omega, Lib.hid (HM.out.succ (by rw [← HX.out, ← HY.out]; have := HL.out; omega)), Lib.hid (below_quietN (HB.out.alloc HB.out.size _) _)⟩
        case measure => simp [intOf]; omega
    · have hjm : j = m := by omega
      subst hjm
      have hdec : decide ((j : Int) < (j : Int)) = false := decide_eq_false (by omega)
      go_wp2_with fail
      go_ret
      exact ⟨by rw [decide_eq_true HM.out]; rfl, HB.out⟩

set_option maxHeartbeats 4000000 in
theorem news_check (ep : Nat) (A : Option Addr) (n c : Nat) (rs : List RowT) (w : World) (h : Rws w A n rs) (hc : n ≤ c) (hcm : (c : Int) ≤ 9223372036854775807) :
    Calls Try.prog 23 #[.agg #[.int .u32 (ep : Int), .slice A n c]] w fun e w' => e = .returned (.int .i64 (if MayP rs then 0 else 4)) ∧ Below w.heap.size w w' := by
  obtain ⟨W0, hW0⟩ : ∃ W0, W0 = w.alloc (.cells #[.int .u32 (ep : Int), .slice A n c] 38) := ⟨_, rfl⟩
  have Z0 : Hid (Blk W0 w.heap.size 38 [.int .u32 (ep : Int), .slice A n c]) := Lib.hid (by rw [hW0]; exact heap_alloc_new w _)
  have B0 : Hid (Below w.heap.size w W0) := Lib.hid (by rw [hW0]; exact (Below.refl _ _).alloc (Nat.le_refl _) _)
  have HR : Hid (Rws W0 A n rs) := Lib.hid (h.keep B0.out)
  have HLN : Hid (rs.length = n) := Lib.hid h.1
  have q1 := Z0.out.cell 1
  dsimp only [List.getElem?_cons_zero, List.getElem?_cons_succ] at q1
  by_cases hn1 : 1 ≤ n ∧ n ≤ 256
  · have d1 : decide ((n : Int) < 1) = false := decide_eq_false (by omega)
    have d2 : decide ((256 : Int) < (n : Int)) = false := decide_eq_false (by omega)
    have HC := Lib.hid (news_ContainsFunc A n c rs W0 HR.out hc (by omega))
    have HQ := Lib.hid (fun W (hb : Below W0.heap.size W0 W) => news_rising A n c rs W (HR.out.keep hb) hc hcm hn1.1)
    have HN := Lib.hid hn1
    clear h hn1
    by_cases hm : MetP rs n
    · rw [decide_eq_true hm] at HC
      have HM := Lib.hid hm
      clear hm
      by_cases hr : RisP rs (n - 1)
      · rw [decide_eq_true hr] at HQ
        have HP : Hid (MayP rs) := Lib.hid (by unfold MayP; rw [HLN.out]; exact ⟨HN.out.1, HN.out.2, HM.out, hr⟩)
        rw [if_pos HP.out]
        clear hr
        go_enter Try.func23, Try.ntmps23
        go_wp2_with fail
        rw [← hW0]
        refine HC.out.mono ?_
        rintro e w1 ⟨rfl, b1⟩
        have q1' := (Z0.out.keep b1).cell 1
        dsimp only [List.getElem?_cons_zero, List.getElem?_cons_succ] at q1'
        go_wp2_with fail
        refine (HQ.out _ b1).mono ?_
        rintro e w2 ⟨rfl, b2⟩
        go_wp2_with fail
        go_ret
        exact ⟨rfl, B0.out.trans ((b1.trans (b2.mono b1.size)).mono B0.out.size)⟩
      · rw [decide_eq_false hr] at HQ
        have HP : Hid (¬ MayP rs) := Lib.hid (fun hp => hr (by unfold MayP at hp; rw [HLN.out] at hp; exact hp.2.2.2))
        rw [if_neg HP.out]
        clear hr
        go_enter Try.func23, Try.ntmps23
        go_wp2_with fail
        rw [← hW0]
        refine HC.out.mono ?_
        rintro e w1 ⟨rfl, b1⟩
        have q1' := (Z0.out.keep b1).cell 1
        dsimp only [List.getElem?_cons_zero, List.getElem?_cons_succ] at q1'
        go_wp2_with fail
        refine (HQ.out _ b1).mono ?_
        rintro e w2 ⟨rfl, b2⟩
        go_wp2_with fail
        go_ret
        exact ⟨rfl, B0.out.trans ((b1.trans (b2.mono b1.size)).mono B0.out.size)⟩
    · rw [decide_eq_false hm] at HC
      have HP : Hid (¬ MayP rs) := Lib.hid (fun hp => hm (by unfold MayP at hp; rw [HLN.out] at hp; exact hp.2.2.1))
      rw [if_neg HP.out]
      clear hm
      go_enter Try.func23, Try.ntmps23
      go_wp2_with fail
      rw [← hW0]
      refine HC.out.mono ?_
      rintro e w1 ⟨rfl, b1⟩
      go_wp2_with fail
      go_ret
      exact ⟨rfl, B0.out.trans (b1.mono B0.out.size)⟩
  · have HP : Hid (¬ MayP rs) := Lib.hid (fun hp => hn1 (by unfold MayP at hp; rw [HLN.out] at hp; exact ⟨hp.1, hp.2.1⟩))
    rw [if_neg HP.out]
    by_cases hn0 : n < 1
    · have d1 : decide ((n : Int) < 1) = true := decide_eq_true (by omega)
      clear hn1 hn0 h
      go_enter Try.func23, Try.ntmps23
      go_wp2_with fail
      rw [← hW0]
      go_ret
      exact ⟨rfl, B0.out⟩
    · have d1 : decide ((n : Int) < 1) = false := decide_eq_false (by omega)
      have d2 : decide ((256 : Int) < (n : Int)) = true := decide_eq_true (by omega)
      clear hn1 hn0 h
      go_enter Try.func23, Try.ntmps23
      go_wp2_with fail
      rw [← hW0]
      go_ret
      exact ⟨rfl, B0.out⟩

end Go.Proofs.Ytackddgihdnmgaa
