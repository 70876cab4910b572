/- The document's disk (chaffref12): what its value reads as; contracts of Read and count. The document's disk: contract of Crash. -/
import Derived.Test.YtbekebpkaeefiaaDoorJDsi
import Derived.OpenShut
import Derived.Deep.RegionHeld3
import Derived.Deep.AppendLies
import Derived.Deep.MidRow
namespace Go.Proofs.YtbekebpkaeefiaaDoor
set_option maxRecDepth 100000
open Go.RowKit

/-- A slice of texts, at the head of a block known whole. -/
def StrS (w : World) (v : Value) (ls : List (List UInt8)) : Prop :=
  ∃ A c, v = .slice A ls.length c ∧ ls.length ≤ c ∧ c ≤ maxLen ∧ (0 < ls.length → ∃ b cs, A = some ⟨b, 0, none⟩ ∧ Blk w b 9 cs ∧ ∀ j, j < ls.length → cs[j]? = some (.string (bs (ls.getD j []))))
/-- A slice of writes. -/
def WriS (w : World) (v : Value) (ws : List (Nat × List UInt8)) : Prop :=
  ∃ A c, v = .slice A ws.length c ∧ ws.length ≤ c ∧ c ≤ maxLen ∧ (0 < ws.length → ∃ b cs, A = some ⟨b, 0, none⟩ ∧ Blk w b 105 cs ∧ ∀ j, j < ws.length → cs[j * 2]? = some (.int .i64 ((ws.getD j (0, [])).1 : Int)) ∧ cs[j * 2 + 1]? = some (.string (bs (ws.getD j (0, [])).2)))
def rdV (A : Option Addr) (n c : Nat) (A' : Option Addr) (n' c' : Nat) (D : DSt) : Value := .agg #[.slice A n c, .slice A' n' c', .int .i64 D.armed, .int .i64 (D.ops : Int)]
/-- The document's disk. -/
def RD (w : World) (v : Value) (D : DSt) : Prop := ∃ A n c A' n' c', v = rdV A n c A' n' c' D ∧ StrS w (.slice A n c) D.lasts ∧ WriS w (.slice A' n' c') D.waits

theorem StrS.of {w w' : World} {v : Value} {ls : List (List UInt8)} (h : StrS w v ls) (hk : ∀ b cs, Blk w b 9 cs → Blk w' b 9 cs) : StrS w' v ls := by
  obtain ⟨A, c, h1, h2, h3, h4⟩ := h
  refine ⟨A, c, h1, h2, h3, fun hp => ?_⟩
  obtain ⟨b, cs, e, hb, hc⟩ := h4 hp
  exact ⟨b, cs, e, hk b cs hb, hc⟩
theorem WriS.of {w w' : World} {v : Value} {ws : List (Nat × List UInt8)} (h : WriS w v ws) (hk : ∀ b cs, Blk w b 105 cs → Blk w' b 105 cs) : WriS w' v ws := by
  obtain ⟨A, c, h1, h2, h3, h4⟩ := h
  refine ⟨A, c, h1, h2, h3, fun hp => ?_⟩
  obtain ⟨b, cs, e, hb, hc⟩ := h4 hp
  exact ⟨b, cs, e, hk b cs hb, hc⟩
theorem StrS.keep {w w' : World} {v : Value} {ls : List (List UInt8)} (h : StrS w v ls) (hb : Below w.heap.size w w') : StrS w' v ls := h.of fun _ _ x => x.keep hb
theorem WriS.keep {w w' : World} {v : Value} {ws : List (Nat × List UInt8)} (h : WriS w v ws) (hb : Below w.heap.size w w') : WriS w' v ws := h.of fun _ _ x => x.keep hb
theorem RD.keep {w w' : World} {v : Value} {D : DSt} (h : RD w v D) (hb : Below w.heap.size w w') : RD w' v D := by
  obtain ⟨A, n, c, A', n', c', e, h1, h2⟩ := h
  exact ⟨A, n, c, A', n', c', e, h1.keep hb, h2.keep hb⟩
theorem RD.keeps {w w' : World} {v : Value} {D : DSt} (h : RD w v D) (hk : Keeps w w') : RD w' v D := by
  obtain ⟨A, n, c, A', n', c', e, h1, h2⟩ := h
  exact ⟨A, n, c, A', n', c', e, h1.of fun b cs x => hk b _ cs (by decide) (by decide) (by decide) x, h2.of fun b cs x => hk b _ cs (by decide) (by decide) (by decide) x⟩

theorem Blk.fourR {w : World} {g t : Nat} {a b c d : Value} (h : Blk w g t [a, b, c, d]) : w.cell? ⟨g, 0, none⟩ = some a ∧ w.cell? ⟨g, 1, none⟩ = some b ∧ w.cell? ⟨g, 2, none⟩ = some c ∧ w.cell? ⟨g, 3, none⟩ = some d := ⟨h.cell 0, h.cell 1, h.cell 2, h.cell 3⟩

set_option maxHeartbeats 2000000 in
set_option maxRecDepth 100000 in
theorem ref_count (w : World) (A : Option Addr) (n c : Nat) (A' : Option Addr) (n' c' : Nat) (D : DSt) (ha : ArmOk D) :
    Calls Tryd.prog 44 #[rdV A n c A' n' c' D] w fun e w' => e = .returned (.tuple #[rdV A n c A' n' c' (fires D).1, .bool (fires D).2]) ∧ Below w.heap.size w w' := by
  unfold fires rdV
  have B0 := Lib.hid (((Below.refl w.heap.size w).alloc (Nat.le_refl _) (.cells #[.slice A n c, .slice A' n' c', .int .i64 D.armed, .int .i64 (D.ops : Int)] 31)))
  by_cases h : D.armed ≤ 0
  · rw [if_pos h]
    have hd : decide (D.armed ≤ 0) = true := decide_eq_true h
    go_enter Tryd.func44, Tryd.ntmps44
    go_wp2
    refine bodyPost_ret (v := .tuple #[.agg #[.slice A n c, .slice A' n' c', .int .i64 D.armed, .int .i64 (D.ops : Int)], .bool false]) (by simp [results, Tryd.results44, go_sem]) rfl ⟨rfl, ?_⟩
    exact B0.out.alloc B0.out.size _
  · rw [if_neg h]
    have hd : decide (D.armed ≤ 0) = false := decide_eq_false h
    have hw1 : IntKind.i64.wrap (D.armed - 1) = D.armed - 1 := IntWalk.i64_in _ (by have := ha.1; have := ha.2; omega)
    go_enter Tryd.func44, Tryd.ntmps44
    go_wp2
    go_region
    all_goals go_wp2
    refine bodyPost_ret (v := .tuple #[.agg #[.slice A n c, .slice A' n' c', .int .i64 (D.armed - 1), .int .i64 (D.ops : Int)], .bool (D.armed - 1 == 0)]) (by simp [results, Tryd.results44, go_sem]) rfl ⟨rfl, ?_⟩
    first
      | exact (((Below.refl w.heap.size w).alloc (Nat.le_refl _) _).alloc (grow1 _ _) _).drew
      | exact (((Below.refl w.heap.size w).alloc (Nat.le_refl _) _).alloc (grow1 _ _) _)

theorem StrS.cellAt {w : World} {A : Option Addr} {n c : Nat} {ls : List (List UInt8)} (h : StrS w (.slice A n c) ls) : n = ls.length ∧ n ≤ c ∧ c ≤ maxLen ∧ ∀ j, j < n → ∃ b, A = some ⟨b, 0, none⟩ ∧ w.cell? ⟨b, j, none⟩ = some (.string (bs (ls.getD j []))) := by
  obtain ⟨A1, c1, e, h2, h3, h4⟩ := h
  injection e with e1 e2 e3
  subst e1 e2 e3
  refine ⟨rfl, h2, h3, fun j hj => ?_⟩
  obtain ⟨b, cs, e, hb, hc⟩ := h4 (by omega)
  exact ⟨b, e, by rw [hb.cell, hc j hj]⟩
theorem WriS.cellAt {w : World} {A : Option Addr} {n c : Nat} {ws : List (Nat × List UInt8)} (h : WriS w (.slice A n c) ws) : n = ws.length ∧ n ≤ c ∧ c ≤ maxLen ∧ ∀ j, j < n → ∃ b, A = some ⟨b, 0, none⟩ ∧ w.cell? ⟨b, j * 2, none⟩ = some (.int .i64 ((ws.getD j (0, [])).1 : Int)) ∧ w.cell? ⟨b, j * 2 + 1, none⟩ = some (.string (bs (ws.getD j (0, [])).2)) := by
  obtain ⟨A1, c1, e, h2, h3, h4⟩ := h
  injection e with e1 e2 e3
  subst e1 e2 e3
  refine ⟨rfl, h2, h3, fun j hj => ?_⟩
  obtain ⟨b, cs, e, hb, hc⟩ := h4 (by omega)
  exact ⟨b, e, by rw [hb.cell, (hc j hj).1], by rw [hb.cell, (hc j hj).2]⟩

set_option maxHeartbeats 4000000 in
set_option maxRecDepth 100000 in
theorem ref_Read12 (w : World) (A : Option Addr) (n c : Nat) (A' : Option Addr) (n' c' : Nat) (D : DSt) (i : Nat) (hS : StrS w (.slice A n c) D.lasts) (hW : WriS w (.slice A' n' c') D.waits) (hi : i < D.lasts.length) (hn : n ≤ 4096) (hn' : n' ≤ 1000000) :
    Calls Tryd.prog 51 #[rdV A n c A' n' c' D, .int .i64 (i : Int)] w fun e w' => e = .returned (.tuple #[.string (bs (rdD D (i : Int)).1), .int .i64 (((rdD D (i : Int)).2 : Nat) : Int)]) ∧ Below w.heap.size w w' := by
  unfold rdV
  have B0 := Lib.hid ((Below.refl w.heap.size w).alloc (Nat.le_refl _) (.cells #[.slice A n c, .slice A' n' c', .int .i64 D.armed, .int .i64 (D.ops : Int)] 31))
  have HS := Lib.hid (hS.keep B0.out).cellAt
  have HW := Lib.hid (hW.keep B0.out).cellAt
  have en : n = D.lasts.length := HS.out.1
  have en' : n' = D.waits.length := HW.out.1
  have hin : i < n := by omega
  have HI := Lib.hid hi
  have HEN := Lib.hid en'
  have d1 : decide ((i : Int) < 0) = false := decide_eq_false (by omega)
  have d2 : decide ((n : Int) ≤ (i : Int)) = false := decide_eq_false (by omega)
  have hw1 : IntKind.i64.wrap ((n' : Int) - 1) = (n' : Int) - 1 := IntWalk.i64_in _ (by omega)
  clear hS hW en en' hi
  go_enter Tryd.func51, Tryd.ntmps51
  go_wp2_with fail
  try simp only [Act.put, List.setIfInBounds_toArray, List.set_cons_succ, List.set_cons_zero]
  obtain ⟨W0, hW0⟩ : ∃ W0, W0 = w.alloc (.cells #[.slice A n c, .slice A' n' c', .int .i64 D.armed, .int .i64 (D.ops : Int)] 31) := ⟨_, rfl⟩
  have r := Lib.hid (show Blk W0 w.heap.size 31 [.slice A n c, .slice A' n' c', .int .i64 D.armed, .int .i64 (D.ops : Int)] from by rw [hW0]; exact heap_alloc_new w _)
  rw [← hW0] at HS HW B0 ⊢
  clear hW0
  go_loopw [6] (fun iv wr => ∃ (r : Nat) (k : Int), iv = .int .i64 k ∧ k = (r : Int) - 1 ∧ r ≤ n' ∧ Hid (lastIx (D.waits.take r) i = lastIx D.waits i) ∧ W0 = wr) (fun iv _ => (intOf iv + 1).toNat)
  case atStart => exact ⟨n', _, rfl, rfl, Nat.le_refl _, Lib.hid (by rw [HEN.out, List.take_length]), rfl⟩
  case round =>
    obtain ⟨m, k, rfl, hk, hm, HL, rfl⟩ := hrel
    obtain ⟨r0, r1, r2, r3⟩ := r.out.fourR
    cases m with
    | zero =>
      obtain rfl : k = -1 := by omega
      clear hk hw1 hm
      have HR : Hid (rdD D (i : Int) = (D.lasts.getD i [], 0)) := Lib.hid (rdD_last HI.out (by rw [← HL.out]; rfl))
      obtain ⟨b, rfl, hc⟩ := HS.out.2.2.2 i hin
      go_wp2_with fail
      go_ret2
      exact ⟨by rw [HR.out]; rfl, B0.out⟩
    | succ m =>
      obtain rfl : k = (m : Int) := by omega
      clear hk hw1
      obtain ⟨b', rfl, hc1, hc2⟩ := HW.out.2.2.2 m (by omega)
      have hmn : m < n' := by omega
      have d3 : decide ((0 : Int) ≤ (m : Int)) = true := decide_eq_true (by omega)
      obtain ⟨x, hx⟩ : ∃ x, x = D.waits.getD m (0, []) := ⟨_, rfl⟩
      rw [← hx] at hc1 hc2
      have HT : Hid (D.waits.take (m + 1) = D.waits.take m ++ [x]) := Lib.hid (by
        have hl : m < D.waits.length := by rw [← HEN.out]; exact hmn
        rw [hx, List.take_succ_eq_append_getElem hl, List.getD_eq_getElem?_getD, List.getElem?_eq_getElem hl]; rfl)
      have HXX := Lib.hid hx
      clear hx
      have hwm : IntKind.i64.wrap ((m : Int) - 1) = (m : Int) - 1 := IntWalk.i64_in _ (by omega)
      by_cases he : x.1 = i
      · have d4 : ((x.1 : Int) == (i : Int)) = true := by rw [he]; simp
        have HR : Hid (rdD D (i : Int) = (x.2, 0)) := Lib.hid (by
          rw [rdD_wait HI.out (j := m) (by
            rw [← HL.out, HT.out, lastIx_snoc, if_pos he, List.length_take, Nat.min_eq_left (by rw [← HEN.out]; omega)]), HXX.out])
        clear he
        go_wp2_with fail
        go_ret2
        exact ⟨by rw [HR.out]; rfl, B0.out⟩
      · have d4 : ((x.1 : Int) == (i : Int)) = false := by rw [beq_eq_false_iff_ne]; omega
        have HL2 : Hid (lastIx (D.waits.take m) i = lastIx D.waits i) := Lib.hid (by
          rw [← HL.out, HT.out, lastIx_snoc, if_neg he])
        clear he
        go_wp2_with fail
        go_roundw
        case rel => exact ⟨m, _, rfl, rfl, by omega, HL2, trivial⟩
        case measure => simp [intOf]

end Go.Proofs.YtbekebpkaeefiaaDoor

namespace Go.Proofs.YtbekebpkaeefiaaDoor
set_option maxRecDepth 100000
open Go.RowKit

theorem wpList_store_to {P : Program} {ops : Array Oper} {rest : List Oper} {o : Oper} {a : Act} {w : World} {Q : Exit → Act → World → Prop} (hg : o.guard = none) (ty : TypeId) (x y : Operand) (ho : o.op = .store ty x y)
    (ad : Addr) (hx : a.eval x = .pointer (some ad)) (v : Value) (hy : a.eval y = v) (w' : World) (hrun : (Instr.storeAt ty (.pointer (some ad)) v).run P w = .ok () w') (h : wpList P ops Q rest (a.put o.dst undef) w') : wpList P ops Q (o :: rest) a w :=
  wpList_plain hg fun _ hK => wp_store_is ty x y ho ad hx v hy w' hrun (hK _ _ h)
theorem Blk.putR {w : World} {g t : Nat} {a b c d : Value} (h : Blk w g t [a, b, c, d]) (a' b' c' d' : Value) : Blk ((((w.setCell ⟨g, 0, none⟩ a').setCell ⟨g, 1, none⟩ b').setCell ⟨g, 2, none⟩ c').setCell ⟨g, 3, none⟩ d') g t [a', b', c', d'] :=
  (((h.set_ 0 a').set_ 1 b').set_ 2 c').set_ 3 d'
theorem below_putR {B g : Nat} {w w' : World} (h : Below B w w') (hg : B ≤ g) (a b c d : Value) : Below B w ((((w'.setCell ⟨g, 0, none⟩ a).setCell ⟨g, 1, none⟩ b).setCell ⟨g, 2, none⟩ c).setCell ⟨g, 3, none⟩ d) :=
  (((h.setCell (p := ⟨g, 0, none⟩) hg a).setCell (p := ⟨g, 1, none⟩) hg b).setCell (p := ⟨g, 2, none⟩) hg c).setCell (p := ⟨g, 3, none⟩) hg d
theorem Blk.far4 {w : World} {g g' t : Nat} {cs : List Value} (h : Blk w g t cs) (hne : g ≠ g') (a b c d : Value) : Blk ((((w.setCell ⟨g', 0, none⟩ a).setCell ⟨g', 1, none⟩ b).setCell ⟨g', 2, none⟩ c).setCell ⟨g', 3, none⟩ d) g t cs :=
  (((h.far (p := ⟨g', 0, none⟩) hne a).far (p := ⟨g', 1, none⟩) hne b).far (p := ⟨g', 2, none⟩) hne c).far (p := ⟨g', 3, none⟩) hne d
theorem Blk.thereR {w : World} {g t : Nat} {a b c d : Value} (h : Blk w g t [a, b, c, d]) : w.there g 0 4 := fun j hj => by
  have e := h.cell j
  refine ⟨?_, h.frozen _⟩
  rw [Nat.zero_add, e]
  match j, hj with
  | 0, _ => rfl
  | 1, _ => rfl
  | 2, _ => rfl
  | 3, _ => rfl
theorem own_blk {w : World} {base e n : Nat} {v : Value} {xs : List Value} (h : w.ownsRow base e 1 v n xs) (hn : 0 < n) : ∃ g cap junk, v = .slice (some ⟨g, 0, none⟩) n cap ∧ base ≤ g ∧ n ≤ cap ∧ cap ≤ maxLen ∧ Blk w g e (xs ++ junk) := by
  rcases h.2 with ⟨_, h0⟩ | ⟨g, cap, cur, e1, hb, hh, hc, hm, _, htk⟩
  · omega
  · refine ⟨g, cap, cur.toList.drop (n * 1), e1, hb, hc, hm, ?_⟩
    unfold Blk
    rw [← htk, List.take_append_drop, Array.toArray_toList]
    exact hh
theorem StrS.of_blk {w : World} {g n cap : Nat} {L : List (List UInt8)} {junk : List Value} (h : Blk w g 9 (strsV L ++ junk)) (hn : n = L.length) (hc : n ≤ cap) (hm : cap ≤ maxLen) : StrS w (.slice (some ⟨g, 0, none⟩) n cap) L := by
  subst hn
  refine ⟨_, cap, rfl, hc, hm, fun _ => ⟨g, _, rfl, h, fun j hj => ?_⟩⟩
  unfold strsV
  rw [List.getElem?_append_left (by rw [List.length_map]; exact hj), List.getElem?_map, List.getElem?_eq_getElem hj, List.getD_eq_getElem?_getD, List.getElem?_eq_getElem hj]
  rfl
theorem strsV_set (L : List (List UInt8)) (i : Nat) (t : List UInt8) (junk : List Value) (hi : i < L.length) : (strsV L ++ junk).set i (.string (bs t)) = strsV (L.set i t) ++ junk := by
  rw [List.set_append_left _ _ (by unfold strsV; rw [List.length_map]; exact hi)]
  unfold strsV
  rw [List.map_set]
theorem StrS.news {w : World} {A : Option Addr} {n c : Nat} {ls : List (List UInt8)} (h : StrS w (.slice A n c) ls) (hp : 0 < n) : ∃ b, A = some ⟨b, 0, none⟩ ∧ ∀ j u, (strsV ls)[j]? = some u → w.cell? ((⟨b, 0, none⟩ : Addr).add j) = some u := by
  obtain ⟨hn, _, _, hc⟩ := h.cellAt
  obtain ⟨b, rfl, _⟩ := hc 0 hp
  refine ⟨b, rfl, fun j u hu => ?_⟩
  have hadd : (⟨b, 0, none⟩ : Addr).add j = ⟨b, j, none⟩ := by unfold Addr.add; split <;> simp_all
  rw [hadd]
  unfold strsV at hu
  rw [List.getElem?_map] at hu
  by_cases hj : j < ls.length
  · obtain ⟨b', e, hcj⟩ := hc j (by omega)
    injection e with e
    injection e with e
    subst e
    rw [hcj, List.getD_eq_getElem?_getD]
    rw [List.getElem?_eq_getElem hj] at hu ⊢
    exact hu
  · rw [List.getElem?_eq_none (by omega)] at hu
    cases hu
theorem strsV_len (L : List (List UInt8)) : (strsV L).length = L.length := by unfold strsV; rw [List.length_map]
set_option maxHeartbeats 4000000 in
set_option maxRecDepth 100000 in
theorem ref_Crash12 (w : World) (A : Option Addr) (n c : Nat) (A' : Option Addr) (n' c' : Nat) (D : DSt) (K : Option Addr) (kn kc : Nat) (ks : List Bool) (hS : StrS w (.slice A n c) D.lasts) (hW : WriS w (.slice A' n' c') D.waits) (hK : KSl w K kn ks)
    (hp : 0 < n) (hn : n ≤ 4096) (hn' : n' ≤ 1000000) (hkn : kn ≤ 1000000) (hwl : ∀ x ∈ D.waits, x.1 < D.lasts.length) :
    Calls Tryd.prog 14 #[rdV A n c A' n' c' D, .slice K kn kc] w fun e w' => ∃ B m d, e = .returned (rdV B m d none 0 0 (crashed D ks)) ∧ StrS w' (.slice B m d) (crashed D ks).lasts ∧ Below w.heap.size w w' := by
  unfold rdV
  obtain ⟨i0, hi, hz0, hz1, hz2⟩ := info_parts infoString
  have B0 := Lib.hid (((Below.refl w.heap.size w).alloc (Nat.le_refl _) (.cells #[.slice A n c, .slice A' n' c', .int .i64 D.armed, .int .i64 (D.ops : Int)] 31)).alloc (grow1 _ _) (.cells #[.slice none 0 0, .slice none 0 0, .int .i64 0, .int .i64 0] 31))
  obtain ⟨W0, hW0⟩ : ∃ W0, W0 = ((w.alloc (.cells #[.slice A n c, .slice A' n' c', .int .i64 D.armed, .int .i64 (D.ops : Int)] 31)).alloc (.cells #[.slice none 0 0, .slice none 0 0, .int .i64 0, .int .i64 0] 31)) := ⟨_, rfl⟩
  rw [← hW0] at B0
  obtain ⟨W1, hW1⟩ : ∃ W1, W1 = W0.alloc (.cells #[] 9) := ⟨_, rfl⟩
  have s0 : W0.heap.size = w.heap.size + 2 := by rw [hW0]; simp
  have B1 : Hid (Below w.heap.size w W1) := Lib.hid (by rw [hW1]; exact B0.out.alloc B0.out.size _)
  have R1 : Hid (Blk W1 w.heap.size 31 [.slice A n c, .slice A' n' c', .int .i64 D.armed, .int .i64 (D.ops : Int)]) := Lib.hid (by rw [hW1, hW0]; exact (Blk.alloc (w := w.alloc _) (heap_alloc_new w _) _).alloc _)
  have Z1 : Hid (Blk W1 (w.heap.size + 1) 31 [.slice none 0 0, .slice none 0 0, .int .i64 0, .int .i64 0]) := Lib.hid (by
    rw [hW1, hW0]
    have h := heap_alloc_new (w.alloc (.cells #[.slice A n c, .slice A' n' c', .int .i64 D.armed, .int .i64 (D.ops : Int)] 31)) (.cells #[.slice none 0 0, .slice none 0 0, .int .i64 0, .int .i64 0] 31)
    rw [show (w.alloc (.cells #[.slice A n c, .slice A' n' c', .int .i64 D.armed, .int .i64 (D.ops : Int)] 31)).heap.size = w.heap.size + 1 from by simp] at h
    exact Blk.alloc (w := (w.alloc _).alloc _) h _)
  have OW1 : Hid (W1.ownsRow (w.heap.size + 2) 9 1 (.slice (some ⟨w.heap.size + 2, 0, none⟩) 0 0) 0 []) := Lib.hid (by
    refine ⟨rfl, .inr ⟨w.heap.size + 2, 0, #[], rfl, Nat.le_refl _, ?_, Nat.le_refl _, by simp [maxLen], rfl, rfl⟩⟩
    rw [hW1, ← s0]
    exact heap_alloc_new W0 _)
  have S1 : Hid (w.heap.size + 2 ≤ W1.heap.size) := Lib.hid (by rw [hW1, ← s0]; exact grow1 _ _)
  obtain ⟨b, rfl, hnews⟩ := (hS.keep B1.out).news hp
  have HNEW := Lib.hid hnews
  have HNL : Hid (n = D.lasts.length) := Lib.hid (hS.keep B1.out).cellAt.1
  have HW0 := Lib.hid hW0
  have HW1 := Lib.hid hW1
  have HKS := Lib.hid hK
  have HWW := Lib.hid hW
  clear hS hW hW0 hW1 s0 hnews hK
  go_enter Tryd.func14, Tryd.ntmps14
  have hsl : (strsV D.lasts).length = n := by rw [strsV_len]; exact HNL.out.symm
  have HSL := Lib.hid hsl
  clear hsl
  obtain ⟨r0, r1, r2, r3⟩ := R1.out.fourR
  go_wp2_with (at_builtin; (try rw [← HW0.out, ← HW1.out]); refine wpList_append_own _ rfl _ _ 28 rfl (w.heap.size + 2) 9 i0 (.string ⟨#[]⟩) 1 16 Tryd.underlying28 hi hz0 hz1 hz2 rfl (by decide) _ _ _ rfl OW1.out ⟨b, 0, none⟩ n c (strsV D.lasts) rfl (by rw [HSL.out, Nat.mul_one]) HNEW.out (strsV_one _) (by simp only [maxLen]; omega) (by omega) S1.out ?_)
  intro v2 W2 hown hgr _
  clear r0 r1 r2 r3
  have hown2 : W2.ownsRow (w.heap.size + 2) 9 1 v2 n (strsV D.lasts) := by simpa using hown
  obtain ⟨g, cap, junk, rfl, hg2, hnc, hcm, hblk⟩ := own_blk hown2 hp
  have bl : Below (w.heap.size + 2) W1 W2 := (Below.refl _ _).grown hgr S1.out (fun j hj => (OW1.out.lt j hj).1)
  have R2 := Lib.hid (R1.out.below bl (by omega))
  have Z2 := Lib.hid (Z1.out.below bl (by omega))
  have B2 := Lib.hid (B1.out.trans (bl.mono (by omega)))
  have G2 := Lib.hid hblk
  have HG2 := Lib.hid hg2
  have HNC := Lib.hid hnc
  have HCM := Lib.hid hcm
  obtain ⟨r0, r1, r2, r3⟩ := R2.out.fourR
  have f0 := R2.out.frozen 0
  have R3 := Lib.hid (R2.out.set_ 0 (.slice (some ⟨g, 0, none⟩) n cap))
  have Z3 := Lib.hid (Z2.out.far (p := ⟨w.heap.size, 0, none⟩) (by show w.heap.size + 1 ≠ w.heap.size; omega) (.slice (some ⟨g, 0, none⟩) n cap))
  have G3 := Lib.hid (G2.out.far (p := ⟨w.heap.size, 0, none⟩) (by show g ≠ w.heap.size; omega) (.slice (some ⟨g, 0, none⟩) n cap))
  have B3 := Lib.hid (B2.out.setCell (p := ⟨w.heap.size, 0, none⟩) (Nat.le_refl _) (.slice (some ⟨g, 0, none⟩) n cap))
  clear hown hown2 hgr bl hblk hg2 hnc hcm
  go_wp2_with fail
  clear r0 r1 r2 r3 f0
  have HSK0 : Hid (settleK D.lasts ((D.waits.zip ks).take 0) = D.lasts) := Lib.hid (by rw [List.take_zero]; rfl)
  try simp only [Act.put, List.setIfInBounds_toArray, List.set_cons_succ, List.set_cons_zero]
  go_loopw [5] (fun iv wr => ∃ (k : Nat), iv = .int .i64 k ∧ k ≤ n' ∧ Hid (Blk wr w.heap.size 31 [.slice (some ⟨g, 0, none⟩) n cap, .slice A' n' c', .int .i64 D.armed, .int .i64 (D.ops : Int)]) ∧ Hid (Blk wr (w.heap.size + 1) 31 [.slice none 0 0, .slice none 0 0, .int .i64 0, .int .i64 0]) ∧ Hid (Blk wr g 9 (strsV (settleK D.lasts ((D.waits.zip ks).take k)) ++ junk)) ∧ Hid (Below w.heap.size w wr)) (fun iv _ => n' - (intOf iv).toNat)
  case atStart => exact ⟨0, rfl, Nat.zero_le _, R3, Z3, Lib.hid (by rw [HSK0.out]; exact G3.out), B3⟩
  case round =>
    obtain ⟨k, rfl, hk, HR, HZ, HG, HB⟩ := hrel
    have HWK := Lib.hid (HWW.out.keep HB.out).cellAt
    have HLW : Hid (n' = D.waits.length) := Lib.hid HWK.out.1
    obtain ⟨r0, r1, r2, r3⟩ := HR.out.fourR
    by_cases hlt : k < n'
    · have hd : decide ((k : Int) < (n' : Int)) = true := decide_eq_true (by omega)
      have HLT := Lib.hid hlt
      have hkw : IntKind.i64.wrap ((k : Int) + 1) = (k : Int) + 1 := IntWalk.i64_in _ (by omega)
      by_cases hkk : k < kn
      · have hd2 : decide ((k : Int) < (kn : Int)) = true := decide_eq_true (by omega)
        obtain ⟨kb, ko, rfl, hkc⟩ := HKS.out.2 (by omega)
        have hkc1 : w.cell? ⟨kb, ko + k, none⟩ = some (.bool (ks.getD k false)) := hkc k hkk
        have hkc2 : wr.cell? ⟨kb, ko + k, none⟩ = some (.bool (ks.getD k false)) := (HB.out.cell (p := ⟨kb, ko + k, none⟩) (block_lt_of_cell hkc1)).trans hkc1
        have HKL : Hid (k < ks.length) := Lib.hid (by rw [HKS.out.1]; exact hkk)
        have HST := Lib.hid (settleK_take D.lasts D.waits ks k (by rw [← HLW.out]; exact hlt) HKL.out)
        cases hkv : ks.getD k false with
        | true =>
          rw [hkv] at hkc2
          obtain ⟨b', rfl, hc1, hc2⟩ := HWK.out.2.2.2 k hlt
          obtain ⟨x, hx⟩ : ∃ x, x = D.waits.getD k (0, []) := ⟨_, rfl⟩
          have hxm : x ∈ D.waits := by
            have hl : k < D.waits.length := by rw [← HLW.out]; exact hlt
            rw [hx, List.getD_eq_getElem?_getD, List.getElem?_eq_getElem hl]
            exact List.getElem_mem hl
          have hxn : x.1 < n := by rw [HNL.out]; exact hwl x hxm
          rw [← hx] at hc1 hc2
          have hbw : b' < w.heap.size := by
            obtain ⟨b2, e, hq, _⟩ := HWW.out.cellAt.2.2.2 k hlt
            have e2 : b' = b2 := by injection e with e; injection e
            rw [e2]
            exact block_lt_of_cell hq
          have HBG : Hid (b' ≠ g) := Lib.hid (by have := HG2.out; omega)
          have hgl : x.1 < (strsV (settleK D.lasts ((D.waits.zip ks).take k))).length := by rw [strsV_len, settleK_len, ← HNL.out]; exact hxn
          have HSL2 : Hid (x.1 < (settleK D.lasts ((D.waits.zip ks).take k)).length) := Lib.hid (by rw [settleK_len, ← HNL.out]; exact hxn)
          obtain ⟨u, hu⟩ : ∃ u, wr.cell? ⟨g, x.1, none⟩ = some u := by
            rw [HG.out.cell, List.getElem?_append_left hgl, List.getElem?_eq_getElem hgl]
            exact ⟨_, rfl⟩
          have hf := HG.out.frozen x.1
          have HST2 : Hid (settleK D.lasts ((D.waits.zip ks).take (k + 1)) = (settleK D.lasts ((D.waits.zip ks).take k)).set x.1 x.2) := Lib.hid (by rw [HST.out, hkv, hx]; rfl)
          obtain ⟨i1, hi1⟩ : ∃ i1, i1 = x.1 := ⟨_, rfl⟩
          obtain ⟨x2, hx2⟩ : ∃ x2, x2 = x.2 := ⟨_, rfl⟩
          rw [← hi1] at hc1 hxn hu hf HST2 HSL2
          rw [← hx2] at hc2 HST2
          have HS0 : Hid (wr.drew.cell? ⟨w.heap.size, 0, none⟩ = some (.slice (some ⟨g, 0, none⟩) n cap) ∧ wr.drew.cell? ⟨w.heap.size, 1, none⟩ = some (.slice (some ⟨b', 0, none⟩) n' c') ∧ wr.drew.cell? ⟨b', k * 2, none⟩ = some (.int .i64 (i1 : Int)) ∧ wr.drew.cell? ⟨b', k * 2 + 1, none⟩ = some (.string (bs x2))) := Lib.hid ⟨r0, r1, hc1, hc2⟩
          have W1c := Lib.hid (fun (a : Nat) (o : Nat) (h : a ≠ g) => World.cell?_of_block (w := wr.drew) (w' := wr.drew.setCell ⟨g, i1, none⟩ (.string (bs x2))) (a := ⟨a, o, none⟩) (Below.heap_setCell wr.drew ⟨g, i1, none⟩ (.string (bs x2)) a h))
          have HS1 : Hid ((wr.drew.setCell ⟨g, i1, none⟩ (.string (bs x2))).cell? ⟨w.heap.size, 0, none⟩ = some (.slice (some ⟨g, 0, none⟩) n cap) ∧ (wr.drew.setCell ⟨g, i1, none⟩ (.string (bs x2))).cell? ⟨w.heap.size, 1, none⟩ = some (.slice (some ⟨b', 0, none⟩) n' c') ∧ (wr.drew.setCell ⟨g, i1, none⟩ (.string (bs x2))).cell? ⟨b', k * 2, none⟩ = some (.int .i64 (i1 : Int)) ∧ (wr.drew.setCell ⟨g, i1, none⟩ (.string (bs x2))).cell? ⟨b', k * 2 + 1, none⟩ = some (.string (bs x2))) := Lib.hid (by
            have hwg : w.heap.size ≠ g := by have := HG2.out; omega
            exact ⟨(W1c.out _ _ hwg).trans r0, (W1c.out _ _ hwg).trans r1, (W1c.out _ _ HBG.out).trans hc1, (W1c.out _ _ HBG.out).trans hc2⟩)
          have R5 := Lib.hid (Blk.far (w := wr.drew) HR.out (p := ⟨g, i1, none⟩) (by show w.heap.size ≠ g; have := HG2.out; omega) (.string (bs x2)))
          have Z5 := Lib.hid (Blk.far (w := wr.drew) HZ.out (p := ⟨g, i1, none⟩) (by show w.heap.size + 1 ≠ g; have := HG2.out; omega) (.string (bs x2)))
          have G5 : Hid (Blk (wr.drew.setCell ⟨g, i1, none⟩ (.string (bs x2))) g 9 (strsV (settleK D.lasts ((D.waits.zip ks).take (k + 1))) ++ junk)) := Lib.hid (by
            have h := Blk.set_ (w := wr.drew) HG.out i1 (.string (bs x2))
            rw [strsV_set _ _ _ _ HSL2.out] at h
            rw [HST2.out]
            exact h)
          have B5 := Lib.hid (HB.out.drew.setCell (p := ⟨g, i1, none⟩) (by show w.heap.size ≤ g; have := HG2.out; omega) (.string (bs x2)))
          clear hkv hkc hkc1 hlt hk hx hxm hi1 hx2 hgl hbw
          go_wp2_with fail
          go_region_held3 (fun w' => w'.cell? ⟨w.heap.size, 0, none⟩ = some (.slice (some ⟨g, 0, none⟩) n cap) ∧ w'.cell? ⟨w.heap.size, 1, none⟩ = some (.slice (some ⟨b', 0, none⟩) n' c') ∧ w'.cell? ⟨b', k * 2, none⟩ = some (.int .i64 (i1 : Int)) ∧ w'.cell? ⟨b', k * 2 + 1, none⟩ = some (.string (bs x2)))
            (first | exact HS1.out | exact HS0.out)
            (fail)
          go_wp2_with fail
          go_roundw
          case rel => exact ⟨k + 1, by go_num, by have := HLT.out; omega, R5, Z5, G5, B5⟩
          case measure => have := HLT.out; simp [intOf]; omega
        | false =>
          rw [hkv] at hkc2
          have HST2 : Hid (settleK D.lasts ((D.waits.zip ks).take (k + 1)) = settleK D.lasts ((D.waits.zip ks).take k)) := Lib.hid (by rw [HST.out, hkv]; rfl)
          clear hkv hkc hkc1 hlt hk
          go_wp2_with fail
          go_roundw
          case rel => exact ⟨k + 1, by go_num, by have := HLT.out; omega, HR, HZ, Lib.hid (by rw [HST2.out]; exact HG.out), HB⟩
          case measure => have := HLT.out; simp [intOf]; omega
      · have hd2 : decide ((k : Int) < (kn : Int)) = false := decide_eq_false (by omega)
        have hd3 : decide (k < kn) = false := decide_eq_false hkk
        have hd4 : (k < kn) = False := eq_false hkk
        have HST2 : Hid (settleK D.lasts ((D.waits.zip ks).take (k + 1)) = settleK D.lasts ((D.waits.zip ks).take k)) := Lib.hid (by
          have hz : (D.waits.zip ks).length ≤ k := by rw [List.length_zip, HKS.out.1]; omega
          rw [List.take_of_length_le hz, List.take_of_length_le (by omega)])
        clear hlt hk
        go_wp2_with fail
        go_roundw
        case rel => exact ⟨k + 1, by go_num, by have := HLT.out; omega, HR, HZ, Lib.hid (by rw [HST2.out]; exact HG.out), HB⟩
        case measure => have := HLT.out; simp [intOf]; omega
    · obtain rfl : n' = k := by omega
      have hd : decide ((n' : Int) < (n' : Int)) = false := decide_eq_false (by omega)
      have hd3 : decide (n' < n') = false := decide_eq_false (by omega)
      have HZZ : Hid (settleK D.lasts ((D.waits.zip ks).take n') = settleK D.lasts (D.waits.zip ks)) := Lib.hid (by
        rw [List.take_of_length_le]
        rw [List.length_zip]
        have := HLW.out
        omega)
      have f1 := HR.out.frozen 1
      have R7 := Lib.hid (HR.out.set_ 1 (.slice none 0 0))
      have Z7 := Lib.hid (HZ.out.far (p := ⟨w.heap.size, 1, none⟩) (by show w.heap.size + 1 ≠ w.heap.size; omega) (.slice none 0 0))
      have G7 := Lib.hid (HG.out.far (p := ⟨w.heap.size, 1, none⟩) (by show g ≠ w.heap.size; have := HG2.out; omega) (.slice none 0 0))
      have B7 := Lib.hid (HB.out.setCell (p := ⟨w.heap.size, 1, none⟩) (Nat.le_refl _) (.slice none 0 0))
      obtain ⟨W7, hW7⟩ : ∃ W7, W7 = wr.setCell ⟨w.heap.size, 1, none⟩ (.slice none 0 0) := ⟨_, rfl⟩
      rw [← hW7] at R7 Z7 G7 B7
      obtain ⟨W8, hW8⟩ : ∃ W8, W8 = ((((W7.setCell ⟨w.heap.size + 1, 0, none⟩ (.slice (some ⟨g, 0, none⟩) n cap)).setCell ⟨w.heap.size + 1, 1, none⟩ (.slice none 0 0)).setCell ⟨w.heap.size + 1, 2, none⟩ (.int .i64 D.armed)).setCell ⟨w.heap.size + 1, 3, none⟩ (.int .i64 (D.ops : Int))) := ⟨_, rfl⟩
      have Z8 : Hid (Blk W8 (w.heap.size + 1) 31 [.slice (some ⟨g, 0, none⟩) n cap, .slice none 0 0, .int .i64 D.armed, .int .i64 (D.ops : Int)]) := Lib.hid (by rw [hW8]; exact Z7.out.putR _ _ _ _)
      have B8 : Hid (Below w.heap.size w W8) := Lib.hid (by rw [hW8]; exact below_putR B7.out (Nat.le_succ _) _ _ _ _)
      have G8 : Hid (Blk W8 g 9 (strsV (settleK D.lasts (D.waits.zip ks)) ++ junk)) := Lib.hid (by
        rw [hW8, ← HZZ.out]
        exact G7.out.far4 (by have := HG2.out; omega) _ _ _ _)
      obtain ⟨q0, q1, q2, q3⟩ := R7.out.fourR
      have z0 := Z7.out.frozen 0
      have z1 := Z7.out.frozen 1
      have z2 := Z7.out.frozen 2
      have z3 := Z7.out.frozen 3
      obtain ⟨y0, y1, y2, y3⟩ := Z7.out.fourR
      have HT8 := Lib.hid (run_storeAt_mid (P := Tryd.prog) W7 (w.heap.size + 1) 0 31 #[.slice (some ⟨g, 0, none⟩) n cap, .slice none 0 0, .int .i64 D.armed, .int .i64 (D.ops : Int)] (Z7.out.thereR) (by kernel_rfl) (by simp [Value.oneCell']))
      have HW7 := Lib.hid hW7
      have HW8 := Lib.hid hW8
      clear hW7 hW8 hlt hk
      go_wp2_with (first | (refine wpList_store_to rfl 29 _ _ rfl ⟨w.heap.size, 1, none⟩ rfl (.slice none 0 0) rfl W7 (by rw [HW7.out]; go_simp) ?_) | (refine wpList_store_to rfl 31 _ _ rfl ⟨w.heap.size + 1, 0, none⟩ rfl (.agg #[.slice (some ⟨g, 0, none⟩) n cap, .slice none 0 0, .int .i64 D.armed, .int .i64 (D.ops : Int)]) rfl W8 (HT8.out.trans (by rw [HW8.out]; rfl)) ?_))
      obtain ⟨d0, d1, d2, d3⟩ := Z8.out.fourR
      refine bodyPost_ret (v := .agg #[.slice (some ⟨g, 0, none⟩) n cap, .slice none 0 0, .int .i64 D.armed, .int .i64 (D.ops : Int)]) (by simp [results, Tryd.results14, go_sem, d0, d1, d2, d3]) rfl ⟨_, _, _, rfl, ?_, B8.out⟩
      exact StrS.of_blk G8.out (by rw [HNL.out]; show _ = (settleK _ _).length; rw [settleK_len]) HNC.out HCM.out

end Go.Proofs.YtbekebpkaeefiaaDoor
