/- The document's disk (chaffref12): what its value reads as; contracts of Read and count. -/
import Derived.Test.YtciophpplpmmfaaDiskH
import Derived.OpenShut
namespace Go.Proofs.Ytciophpplpmmfaa
open Go.RowKit

/-- A slice of texts, at the head of a block known whole. -/
def StrS (w : World) (v : Value) (ls : List (List UInt8)) : Prop :=
  ∃ A c, v = .slice A ls.length c ∧ ls.length ≤ c ∧ c ≤ maxLen ∧ (0 < ls.length → ∃ b cs, A = some ⟨b, 0, none⟩ ∧ Blk w b 9 cs ∧ ∀ j, j < ls.length → cs[j]? = some (.string (bs (ls.getD j []))))
/-- A slice of writes. -/
def WriS (w : World) (v : Value) (ws : List (Nat × List UInt8)) : Prop :=
  ∃ A c, v = .slice A ws.length c ∧ ws.length ≤ c ∧ c ≤ maxLen ∧ (0 < ws.length → ∃ b cs, A = some ⟨b, 0, none⟩ ∧ Blk w b 82 cs ∧ ∀ j, j < ws.length → cs[j * 2]? = some (.int .i64 ((ws.getD j (0, [])).1 : Int)) ∧ cs[j * 2 + 1]? = some (.string (bs (ws.getD j (0, [])).2)))
def rdV (A : Option Addr) (n c : Nat) (A' : Option Addr) (n' c' : Nat) (D : DSt) : Value := .agg #[.slice A n c, .slice A' n' c', .int .i64 D.armed, .int .i64 (D.ops : Int)]
/-- The document's disk. -/
def RD (w : World) (v : Value) (D : DSt) : Prop := ∃ A n c A' n' c', v = rdV A n c A' n' c' D ∧ StrS w (.slice A n c) D.lasts ∧ WriS w (.slice A' n' c') D.waits

theorem StrS.of {w w' : World} {v : Value} {ls : List (List UInt8)} (h : StrS w v ls) (hk : ∀ b cs, Blk w b 9 cs → Blk w' b 9 cs) : StrS w' v ls := by
  obtain ⟨A, c, h1, h2, h3, h4⟩ := h
  refine ⟨A, c, h1, h2, h3, fun hp => ?_⟩
  obtain ⟨b, cs, e, hb, hc⟩ := h4 hp
  exact ⟨b, cs, e, hk b cs hb, hc⟩
theorem WriS.of {w w' : World} {v : Value} {ws : List (Nat × List UInt8)} (h : WriS w v ws) (hk : ∀ b cs, Blk w b 82 cs → Blk w' b 82 cs) : WriS w' v ws := by
  obtain ⟨A, c, h1, h2, h3, h4⟩ := h
  refine ⟨A, c, h1, h2, h3, fun hp => ?_⟩
  obtain ⟨b, cs, e, hb, hc⟩ := h4 hp
  exact ⟨b, cs, e, hk b cs hb, hc⟩
theorem StrS.keep {w w' : World} {v : Value} {ls : List (List UInt8)} (h : StrS w v ls) (hb : Below w.heap.size w w') : StrS w' v ls := h.of fun _ _ x => x.keep hb
theorem WriS.keep {w w' : World} {v : Value} {ws : List (Nat × List UInt8)} (h : WriS w v ws) (hb : Below w.heap.size w w') : WriS w' v ws := h.of fun _ _ x => x.keep hb
theorem RD.keep {w w' : World} {v : Value} {D : DSt} (h : RD w v D) (hb : Below w.heap.size w w') : RD w' v D := by
  obtain ⟨A, n, c, A', n', c', e, h1, h2⟩ := h
  exact ⟨A, n, c, A', n', c', e, h1.keep hb, h2.keep hb⟩
theorem RD.keeps {w w' : World} {v : Value} {D : DSt} (h : RD w v D) (hk : Keeps w w') : RD w' v D := by
  obtain ⟨A, n, c, A', n', c', e, h1, h2⟩ := h
  exact ⟨A, n, c, A', n', c', e, h1.of fun b cs x => hk b _ cs (by decide) (by decide) (by decide) x, h2.of fun b cs x => hk b _ cs (by decide) (by decide) (by decide) x⟩

theorem Blk.fourR {w : World} {g t : Nat} {a b c d : Value} (h : Blk w g t [a, b, c, d]) : w.cell? ⟨g, 0, none⟩ = some a ∧ w.cell? ⟨g, 1, none⟩ = some b ∧ w.cell? ⟨g, 2, none⟩ = some c ∧ w.cell? ⟨g, 3, none⟩ = some d := ⟨h.cell 0, h.cell 1, h.cell 2, h.cell 3⟩

set_option maxHeartbeats 2000000 in
set_option maxRecDepth 100000 in
theorem ref_count (w : World) (A : Option Addr) (n c : Nat) (A' : Option Addr) (n' c' : Nat) (D : DSt) (ha : ArmOk D) :
    Calls Try.prog 35 #[rdV A n c A' n' c' D] w fun e w' => e = .returned (.tuple #[rdV A n c A' n' c' (fires D).1, .bool (fires D).2]) ∧ Below w.heap.size w w' := by
  unfold fires rdV
  have B0 := Lib.hid (((Below.refl w.heap.size w).alloc (Nat.le_refl _) (.cells #[.slice A n c, .slice A' n' c', .int .i64 D.armed, .int .i64 (D.ops : Int)] 31)))
  by_cases h : D.armed ≤ 0
  · rw [if_pos h]
    have hd : decide (D.armed ≤ 0) = true := decide_eq_true h
    go_enter Try.func35, Try.ntmps35
    go_wp2
    refine bodyPost_ret (v := .tuple #[.agg #[.slice A n c, .slice A' n' c', .int .i64 D.armed, .int .i64 (D.ops : Int)], .bool false]) (by simp [results, Try.results35, go_sem]) rfl ⟨rfl, ?_⟩
    exact B0.out.alloc B0.out.size _
  · rw [if_neg h]
    have hd : decide (D.armed ≤ 0) = false := decide_eq_false h
    have hw1 : IntKind.i64.wrap (D.armed - 1) = D.armed - 1 := IntWalk.i64_in _ (by have := ha.1; have := ha.2; omega)
    go_enter Try.func35, Try.ntmps35
    go_wp2
    go_region
    all_goals go_wp2
    refine bodyPost_ret (v := .tuple #[.agg #[.slice A n c, .slice A' n' c', .int .i64 (D.armed - 1), .int .i64 (D.ops : Int)], .bool (D.armed - 1 == 0)]) (by simp [results, Try.results35, go_sem]) rfl ⟨rfl, ?_⟩
    first
      | exact (((Below.refl w.heap.size w).alloc (Nat.le_refl _) _).alloc (grow1 _ _) _).drew
      | exact (((Below.refl w.heap.size w).alloc (Nat.le_refl _) _).alloc (grow1 _ _) _)

theorem StrS.cellAt {w : World} {A : Option Addr} {n c : Nat} {ls : List (List UInt8)} (h : StrS w (.slice A n c) ls) : n = ls.length ∧ n ≤ c ∧ c ≤ maxLen ∧ ∀ j, j < n → ∃ b, A = some ⟨b, 0, none⟩ ∧ w.cell? ⟨b, j, none⟩ = some (.string (bs (ls.getD j []))) := by
  obtain ⟨A1, c1, e, h2, h3, h4⟩ := h
  injection e with e1 e2 e3
  subst e1 e2 e3
  refine ⟨rfl, h2, h3, fun j hj => ?_⟩
  obtain ⟨b, cs, e, hb, hc⟩ := h4 (by omega)
  exact ⟨b, e, by rw [hb.cell, hc j hj]⟩
theorem WriS.cellAt {w : World} {A : Option Addr} {n c : Nat} {ws : List (Nat × List UInt8)} (h : WriS w (.slice A n c) ws) : n = ws.length ∧ n ≤ c ∧ c ≤ maxLen ∧ ∀ j, j < n → ∃ b, A = some ⟨b, 0, none⟩ ∧ w.cell? ⟨b, j * 2, none⟩ = some (.int .i64 ((ws.getD j (0, [])).1 : Int)) ∧ w.cell? ⟨b, j * 2 + 1, none⟩ = some (.string (bs (ws.getD j (0, [])).2)) := by
  obtain ⟨A1, c1, e, h2, h3, h4⟩ := h
  injection e with e1 e2 e3
  subst e1 e2 e3
  refine ⟨rfl, h2, h3, fun j hj => ?_⟩
  obtain ⟨b, cs, e, hb, hc⟩ := h4 (by omega)
  exact ⟨b, e, by rw [hb.cell, (hc j hj).1], by rw [hb.cell, (hc j hj).2]⟩

set_option maxHeartbeats 4000000 in
set_option maxRecDepth 100000 in
theorem ref_Read12 (w : World) (A : Option Addr) (n c : Nat) (A' : Option Addr) (n' c' : Nat) (D : DSt) (i : Nat) (hS : StrS w (.slice A n c) D.lasts) (hW : WriS w (.slice A' n' c') D.waits) (hi : i < D.lasts.length) (hn : n ≤ 4096) (hn' : n' ≤ 1000000) :
    Calls Try.prog 30 #[rdV A n c A' n' c' D, .int .i64 (i : Int)] w fun e w' => e = .returned (.tuple #[.string (bs (rdD D (i : Int)).1), .int .i64 (((rdD D (i : Int)).2 : Nat) : Int)]) ∧ Below w.heap.size w w' := by
  unfold rdV
  have B0 := Lib.hid ((Below.refl w.heap.size w).alloc (Nat.le_refl _) (.cells #[.slice A n c, .slice A' n' c', .int .i64 D.armed, .int .i64 (D.ops : Int)] 31))
  have HS := Lib.hid (hS.keep B0.out).cellAt
  have HW := Lib.hid (hW.keep B0.out).cellAt
  have en : n = D.lasts.length := HS.out.1
  have en' : n' = D.waits.length := HW.out.1
  have hin : i < n := by omega
  have HI := Lib.hid hi
  have HEN := Lib.hid en'
  have d1 : decide ((i : Int) < 0) = false := decide_eq_false (by omega)
  have d2 : decide ((n : Int) ≤ (i : Int)) = false := decide_eq_false (by omega)
  have hw1 : IntKind.i64.wrap ((n' : Int) - 1) = (n' : Int) - 1 := IntWalk.i64_in _ (by omega)
  clear hS hW en en' hi
  go_enter Try.func30, Try.ntmps30
  go_wp2_with fail
  try simp only [Act.put, List.setIfInBounds_toArray, List.set_cons_succ, List.set_cons_zero]
  obtain ⟨W0, hW0⟩ : ∃ W0, W0 = w.alloc (.cells #[.slice A n c, .slice A' n' c', .int .i64 D.armed, .int .i64 (D.ops : Int)] 31) := ⟨_, rfl⟩
  have r := Lib.hid (show Blk W0 w.heap.size 31 [.slice A n c, .slice A' n' c', .int .i64 D.armed, .int .i64 (D.ops : Int)] from by rw [hW0]; exact heap_alloc_new w _)
  rw [← hW0] at HS HW B0 ⊢
  clear hW0
  go_loopw [6] (fun iv wr => ∃ (r : Nat) (k : Int), iv = .int .i64 k ∧ k = (r : Int) - 1 ∧ r ≤ n' ∧ Hid (lastIx (D.waits.take r) i = lastIx D.waits i) ∧ W0 = wr) (fun iv _ => (intOf iv + 1).toNat)
  case atStart => exact ⟨n', _, rfl, rfl, Nat.le_refl _, Lib.hid (by rw [HEN.out, List.take_length]), rfl⟩
  case round =>
    obtain ⟨m, k, rfl, hk, hm, HL, rfl⟩ := hrel
    obtain ⟨r0, r1, r2, r3⟩ := r.out.fourR
    cases m with
    | zero =>
      obtain rfl : k = -1 := by omega
      clear hk hw1 hm
      have HR : Hid (rdD D (i : Int) = (D.lasts.getD i [], 0)) := Lib.hid (rdD_last HI.out (by rw [← HL.out]; rfl))
      obtain ⟨b, rfl, hc⟩ := HS.out.2.2.2 i hin
      go_wp2_with fail
      go_ret2
      exact ⟨by rw [HR.out]; rfl, B0.out⟩
    | succ m =>
      obtain rfl : k = (m : Int) := by omega
      clear hk hw1
      obtain ⟨b', rfl, hc1, hc2⟩ := HW.out.2.2.2 m (by omega)
      have hmn : m < n' := by omega
      have d3 : decide ((0 : Int) ≤ (m : Int)) = true := decide_eq_true (by omega)
      obtain ⟨x, hx⟩ : ∃ x, x = D.waits.getD m (0, []) := ⟨_, rfl⟩
      rw [← hx] at hc1 hc2
      have HT : Hid (D.waits.take (m + 1) = D.waits.take m ++ [x]) := Lib.hid (by
        have hl : m < D.waits.length := by rw [← HEN.out]; exact hmn
        rw [hx, List.take_succ_eq_append_getElem hl, List.getD_eq_getElem?_getD, List.getElem?_eq_getElem hl]; rfl)
      have HXX := Lib.hid hx
      clear hx
      have hwm : IntKind.i64.wrap ((m : Int) - 1) = (m : Int) - 1 := IntWalk.i64_in _ (by omega)
      by_cases he : x.1 = i
      · have d4 : ((x.1 : Int) == (i : Int)) = true := by rw [he]; simp
        have HR : Hid (rdD D (i : Int) = (x.2, 0)) := Lib.hid (by
          rw [rdD_wait HI.out (j := m) (by
            rw [← HL.out, HT.out, lastIx_snoc, if_pos he, List.length_take, Nat.min_eq_left (by rw [← HEN.out]; omega)]), HXX.out])
        clear he
        go_wp2_with fail
        go_ret2
        exact ⟨by rw [HR.out]; rfl, B0.out⟩
      · have d4 : ((x.1 : Int) == (i : Int)) = false := by rw [beq_eq_false_iff_ne]; omega
        have HL2 : Hid (lastIx (D.waits.take m) i = lastIx D.waits i) := Lib.hid (by
          rw [← HL.out, HT.out, lastIx_snoc, if_neg he])
        clear he
        go_wp2_with fail
        go_roundw
        case rel => exact ⟨m, _, rfl, rfl, by omega, HL2, trivial⟩
        case measure => simp [intOf]

end Go.Proofs.Ytciophpplpmmfaa
