/- The document's disk: contract of Put. -/
import Derived.Test.YtbekebpkaeefiaaDoorRdC
namespace Go.Proofs.YtbekebpkaeefiaaDoor
set_option maxRecDepth 100000
open Go.RowKit

theorem infoWrite12 : (Tryd.prog.info? 105).map (fun i => (i.zero, i.size, i.bytes)) = some (some (.agg #[.int .i64 0, .string ⟨#[]⟩]), 2, 24) := by kernel_rfl
def wPair (x : Nat × List UInt8) : List Value := [.int .i64 (x.1 : Int), .string (bs x.2)]
/-- Writes as cells. -/
def wsV (ws : List (Nat × List UInt8)) : List Value := (ws.map wPair).flatten
theorem wsV_len (ws : List (Nat × List UInt8)) : (wsV ws).length = ws.length * 2 := by
  unfold wsV
  induction ws with
  | nil => rfl
  | cons x r ih => rw [List.map_cons, List.flatten_cons, List.length_append, ih, List.length_cons]; show 2 + _ = _; omega
theorem wsV_append (a b : List (Nat × List UInt8)) : wsV (a ++ b) = wsV a ++ wsV b := by unfold wsV; rw [List.map_append, List.flatten_append]
theorem wsV_one (ws : List (Nat × List UInt8)) : ∀ u ∈ wsV ws, u.oneCell' = true := by
  intro u hu
  unfold wsV at hu
  obtain ⟨l, hl, h2⟩ := List.mem_flatten.1 hu
  obtain ⟨x, _, rfl⟩ := List.mem_map.1 hl
  simp only [wPair, List.mem_cons, List.not_mem_nil, or_false] at h2
  rcases h2 with rfl | rfl <;> rfl
theorem wsV_get (ws : List (Nat × List UInt8)) : ∀ (j : Nat) (_ : j < ws.length), (wsV ws)[j * 2]? = some (.int .i64 ((ws.getD j (0, [])).1 : Int)) ∧ (wsV ws)[j * 2 + 1]? = some (.string (bs (ws.getD j (0, [])).2)) := by
  induction ws with
  | nil => intro j h; cases h
  | cons x r ih =>
    intro j h
    have e : wsV (x :: r) = .int .i64 (x.1 : Int) :: .string (bs x.2) :: wsV r := rfl
    rw [e]
    cases j with
    | zero => exact ⟨rfl, rfl⟩
    | succ j =>
      obtain ⟨h1, h2⟩ := ih j (by simpa using h)
      rw [show (j + 1) * 2 = j * 2 + 1 + 1 from by omega]
      exact ⟨h1, h2⟩
theorem own_blk2 {w : World} {base e n : Nat} {v : Value} {xs : List Value} (h : w.ownsRow base e 2 v n xs) (hn : 0 < n) : ∃ g cap junk, v = .slice (some ⟨g, 0, none⟩) n cap ∧ base ≤ g ∧ n ≤ cap ∧ cap ≤ maxLen ∧ Blk w g e (xs ++ junk) := by
  rcases h.2 with ⟨_, h0⟩ | ⟨g, cap, cur, e1, hb, hh, hc, hm, _, htk⟩
  · omega
  · refine ⟨g, cap, cur.toList.drop (n * 2), e1, hb, hc, hm, ?_⟩
    unfold Blk
    rw [← htk, List.take_append_drop, Array.toArray_toList]
    exact hh
theorem WriS.of_blk {w : World} {g n cap : Nat} {L : List (Nat × List UInt8)} {junk : List Value} (h : Blk w g 105 (wsV L ++ junk)) (hn : n = L.length) (hc : n ≤ cap) (hm : cap ≤ maxLen) : WriS w (.slice (some ⟨g, 0, none⟩) n cap) L := by
  subst hn
  refine ⟨_, cap, rfl, hc, hm, fun _ => ⟨g, _, rfl, h, fun j hj => ?_⟩⟩
  obtain ⟨h1, h2⟩ := wsV_get L j hj
  rw [List.getElem?_append_left (by rw [wsV_len]; omega), List.getElem?_append_left (by rw [wsV_len]; omega)]
  exact ⟨h1, h2⟩
theorem WriS.news {w : World} {A : Option Addr} {n c : Nat} {ws : List (Nat × List UInt8)} (h : WriS w (.slice A n c) ws) (hp : 0 < n) : ∃ b, A = some ⟨b, 0, none⟩ ∧ ∀ j u, (wsV ws)[j]? = some u → w.cell? ((⟨b, 0, none⟩ : Addr).add j) = some u := by
  obtain ⟨hn, _, _, hc⟩ := h.cellAt
  obtain ⟨b, rfl, _⟩ := hc 0 hp
  refine ⟨b, rfl, fun j u hu => ?_⟩
  have hadd : (⟨b, 0, none⟩ : Addr).add j = ⟨b, j, none⟩ := by unfold Addr.add; split <;> simp_all
  rw [hadd]
  have hj : j < ws.length * 2 := by
    rcases Nat.lt_or_ge j (ws.length * 2) with h | h
    · exact h
    · rw [List.getElem?_eq_none (by rw [wsV_len]; exact h)] at hu; cases hu
  obtain ⟨b', e, h1, h2⟩ := hc (j / 2) (by omega)
  injection e with e
  injection e with e
  subst e
  obtain ⟨k1, k2⟩ := wsV_get ws (j / 2) (by omega)
  rcases Nat.mod_two_eq_zero_or_one j with hm | hm
  · have ej : j / 2 * 2 = j := by omega
    rw [ej] at h1 k1
    rw [h1, ← k1, hu]
  · have ej : j / 2 * 2 + 1 = j := by omega
    rw [ej] at h2 k2
    rw [h2, ← k2, hu]

set_option maxHeartbeats 4000000 in
set_option maxRecDepth 100000 in
theorem ref_Put12_form (w : World) (A : Option Addr) (n c : Nat) (A' : Option Addr) (n' c' : Nat) (D : DSt) (i : Nat) (s : List UInt8) (hin : i < n) (hn : n ≤ 4096) (hs : s.length ≠ 128) (hs2 : s.length ≤ 1000000) :
    Calls Tryd.prog 20 #[rdV A n c A' n' c' D, .int .i64 (i : Int), .string (bs s)] w fun e w' => e = .returned (.tuple #[rdV A n c A' n' c' D, .int .i64 4]) ∧ Below w.heap.size w w' := by
  unfold rdV
  have hsz := bs_size s
  have d1 : decide ((i : Int) < 0) = false := decide_eq_false (by omega)
  have d2 : decide ((n : Int) ≤ (i : Int)) = false := decide_eq_false (by omega)
  have d3 : decide (n ≤ i) = false := decide_eq_false (by omega)
  have d4 : ((s.length : Int) != 128) = true := by rw [bne_iff_ne]; omega
  have B0 := Lib.hid (((Below.refl w.heap.size w).alloc (Nat.le_refl _) (.cells #[.slice A n c, .slice A' n' c', .int .i64 D.armed, .int .i64 (D.ops : Int)] 31)).alloc (grow1 _ _) (.cells #[.slice A n c, .slice A' n' c', .int .i64 D.armed, .int .i64 (D.ops : Int)] 31))
  go_enter Tryd.func20, Tryd.ntmps20
  go_wp2
  refine bodyPost_ret (v := .tuple #[.agg #[.slice A n c, .slice A' n' c', .int .i64 D.armed, .int .i64 (D.ops : Int)], .int .i64 4]) (by simp [results, Tryd.results20, go_sem]) rfl ⟨rfl, ?_⟩
  exact B0.out

set_option maxHeartbeats 4000000 in
set_option maxRecDepth 100000 in
theorem ref_Put12_range (w : World) (A : Option Addr) (n c : Nat) (A' : Option Addr) (n' c' : Nat) (D : DSt) (i : Int) (s : List UInt8) (hn : n ≤ 4096) (hi : i < 0 ∨ (n : Int) ≤ i) (hs2 : s.length ≤ 1000000) :
    Calls Tryd.prog 20 #[rdV A n c A' n' c' D, .int .i64 i, .string (bs s)] w fun e w' => e = .returned (.tuple #[rdV A n c A' n' c' D, .int .i64 5]) ∧ Below w.heap.size w w' := by
  unfold rdV
  have B0 := Lib.hid (((Below.refl w.heap.size w).alloc (Nat.le_refl _) (.cells #[.slice A n c, .slice A' n' c', .int .i64 D.armed, .int .i64 (D.ops : Int)] 31)).alloc (grow1 _ _) (.cells #[.slice A n c, .slice A' n' c', .int .i64 D.armed, .int .i64 (D.ops : Int)] 31))
  by_cases h0 : i < 0
  · have d1 : decide (i < 0) = true := decide_eq_true h0
    go_enter Tryd.func20, Tryd.ntmps20
    go_wp2
    refine bodyPost_ret (v := .tuple #[.agg #[.slice A n c, .slice A' n' c', .int .i64 D.armed, .int .i64 (D.ops : Int)], .int .i64 5]) (by simp [results, Tryd.results20, go_sem]) rfl ⟨rfl, ?_⟩
    exact B0.out
  · have d1 : decide (i < 0) = false := decide_eq_false h0
    have d2 : decide ((n : Int) ≤ i) = true := decide_eq_true (by omega)
    go_enter Tryd.func20, Tryd.ntmps20
    go_wp2
    refine bodyPost_ret (v := .tuple #[.agg #[.slice A n c, .slice A' n' c', .int .i64 D.armed, .int .i64 (D.ops : Int)], .int .i64 5]) (by simp [results, Tryd.results20, go_sem]) rfl ⟨rfl, ?_⟩
    exact B0.out

set_option maxHeartbeats 4000000 in
set_option maxRecDepth 100000 in
theorem ref_Put12_bad (w : World) (A : Option Addr) (n c : Nat) (A' : Option Addr) (n' c' : Nat) (D : DSt) (i : Nat) (s : List UInt8) (hS : StrS w (.slice A n c) D.lasts) (hW : WriS w (.slice A' n' c') D.waits)
    (ha : ArmOk D) (hin : i < n) (hn : n ≤ 4096) (hn' : n' ≤ 1000000) (hops : D.ops ≤ 1000000000) (hs : s.length = 128) (hbad : (fires D).2 = true) :
    Calls Tryd.prog 20 #[rdV A n c A' n' c' D, .int .i64 (i : Int), .string (bs s)] w fun e w' => e = .returned (.tuple #[rdV A n c A' n' c' (fires D).1, .int .i64 7]) ∧ Below w.heap.size w w' := by
  obtain ⟨i0, hi, hz0, hz1, hz2⟩ := info_parts infoWrite12
  have hC := fun W => ref_count W A n c A' n' c' D ha
  rw [hbad] at hC
  have HF1 := Lib.hid (fires_lasts D)
  have HF2 := Lib.hid (fires_waits D)
  have HF3 := Lib.hid (fires_ops D)
  clear hbad
  generalize hE : (fires D).1 = E at hC HF1 HF2 HF3 ⊢
  rw [← HF1.out] at hS
  rw [← HF2.out] at hW
  rw [← HF3.out] at hops
  have HCN := Lib.hid hC
  have hsz := (bs_size s).trans hs
  unfold rdV
  unfold rdV at HCN
  have d1 : decide ((i : Int) < 0) = false := decide_eq_false (by omega)
  have d2 : decide ((n : Int) ≤ (i : Int)) = false := decide_eq_false (by omega)
  have d3 : decide (n ≤ i) = false := decide_eq_false (by omega)
  obtain ⟨W0, hW0⟩ : ∃ W0, W0 = ((w.alloc (.cells #[.slice A n c, .slice A' n' c', .int .i64 D.armed, .int .i64 (D.ops : Int)] 31)).alloc (.cells #[.slice none 0 0, .slice none 0 0, .int .i64 0, .int .i64 0] 31)) := ⟨_, rfl⟩
  have B0 : Hid (Below w.heap.size w W0) := Lib.hid (by rw [hW0]; exact ((Below.refl w.heap.size w).alloc (Nat.le_refl _) _).alloc (grow1 _ _) _)
  have R0 : Hid (Blk W0 w.heap.size 31 [.slice A n c, .slice A' n' c', .int .i64 D.armed, .int .i64 (D.ops : Int)]) := Lib.hid (by rw [hW0]; exact (Blk.alloc (w := w.alloc _) (heap_alloc_new w _) _))
  have Z0 : Hid (Blk W0 (w.heap.size + 1) 31 [.slice none 0 0, .slice none 0 0, .int .i64 0, .int .i64 0]) := Lib.hid (by
    rw [hW0]
    have h := heap_alloc_new (w.alloc (.cells #[.slice A n c, .slice A' n' c', .int .i64 D.armed, .int .i64 (D.ops : Int)] 31)) (.cells #[.slice none 0 0, .slice none 0 0, .int .i64 0, .int .i64 0] 31)
    rw [show (w.alloc (.cells #[.slice A n c, .slice A' n' c', .int .i64 D.armed, .int .i64 (D.ops : Int)] 31)).heap.size = w.heap.size + 1 from by simp] at h
    exact h)
  have HW0 := Lib.hid hW0
  have HSS := Lib.hid hS
  have HWW := Lib.hid hW
  have HIN := Lib.hid hin
  clear hC hE hS hW hW0 ha hs hin
  go_enter Tryd.func20, Tryd.ntmps20
  go_wp2_with fail
  rw [← HW0.out]
  refine (HCN.out _).mono ?_
  rintro e W2 ⟨rfl, bl⟩
  have B2 := Lib.hid (B0.out.trans (bl.mono B0.out.size))
  obtain ⟨W3, run3, hR3, hB3, hK3⟩ := store_rd (R0.out.keep bl) A n c A' n' c' E.armed (E.ops : Int)
  have RUN3 := Lib.hid run3
  have R3 := Lib.hid hR3
  have B3 := Lib.hid (hB3 _ _ B2.out (Nat.le_refl _))
  have Z3 := Lib.hid (hK3 _ _ _ (Z0.out.keep bl) (by omega))
  clear bl run3 hR3 hB3 hK3
  obtain ⟨q0, q1, q2, q3⟩ := R3.out.fourR
  obtain ⟨W4, run4, hR4, hB4, hK4⟩ := store_rd Z3.out A n c A' n' c' E.armed (E.ops : Int)
  have RUN4 := Lib.hid run4
  have R4 := Lib.hid hR4
  have B4 := Lib.hid (hB4 _ _ B3.out (Nat.le_succ _))
  clear run4 hR4 hB4 hK4
  go_wp2_with (first | (refine wpList_store_to rfl 31 _ _ rfl ⟨w.heap.size, 0, none⟩ rfl (.agg #[.slice A n c, .slice A' n' c', .int .i64 E.armed, .int .i64 (E.ops : Int)]) rfl W3 RUN3.out ?_) | (refine wpList_store_to rfl 31 _ _ rfl ⟨w.heap.size + 1, 0, none⟩ rfl (.agg #[.slice A n c, .slice A' n' c', .int .i64 E.armed, .int .i64 (E.ops : Int)]) rfl W4 RUN4.out ?_))
  obtain ⟨d0, d1, d2, d3⟩ := R4.out.fourR
  refine bodyPost_ret (v := .tuple #[.agg #[.slice A n c, .slice A' n' c', .int .i64 E.armed, .int .i64 (E.ops : Int)], .int .i64 7]) (by simp [results, Tryd.results20, go_sem, d0, d1, d2, d3]) rfl ⟨rfl, B4.out⟩

set_option maxHeartbeats 4000000 in
set_option maxRecDepth 100000 in
theorem ref_Put12_some (w : World) (A : Option Addr) (n c : Nat) (A' : Option Addr) (n' c' : Nat) (D : DSt) (i : Nat) (s : List UInt8) (hS : StrS w (.slice A n c) D.lasts) (hW : WriS w (.slice A' n' c') D.waits)
    (ha : ArmOk D) (hin : i < n) (hn : n ≤ 4096) (hn' : n' ≤ 1000000) (hops : D.ops ≤ 1000000000) (hs : s.length = 128) (hbad : (fires D).2 = false) (hp : 0 < n') :
    Calls Tryd.prog 20 #[rdV A n c A' n' c' D, .int .i64 (i : Int), .string (bs s)] w fun e w' => ∃ B m d B' m' d', e = .returned (.tuple #[rdV B m d B' m' d' (wrote (fires D).1 i s), .int .i64 0]) ∧ StrS w' (.slice B m d) (wrote (fires D).1 i s).lasts ∧ WriS w' (.slice B' m' d') (wrote (fires D).1 i s).waits ∧ Below w.heap.size w w' := by
  obtain ⟨i0, hi, hz0, hz1, hz2⟩ := info_parts infoWrite12
  have hC := fun W => ref_count W A n c A' n' c' D ha
  rw [hbad] at hC
  have HF1 := Lib.hid (fires_lasts D)
  have HF2 := Lib.hid (fires_waits D)
  have HF3 := Lib.hid (fires_ops D)
  clear hbad
  generalize hE : (fires D).1 = E at hC HF1 HF2 HF3 ⊢
  rw [← HF1.out] at hS
  rw [← HF2.out] at hW
  rw [← HF3.out] at hops
  have HCN := Lib.hid hC
  have hsz := (bs_size s).trans hs
  unfold rdV
  unfold rdV at HCN
  have d1 : decide ((i : Int) < 0) = false := decide_eq_false (by omega)
  have d2 : decide ((n : Int) ≤ (i : Int)) = false := decide_eq_false (by omega)
  have d3 : decide (n ≤ i) = false := decide_eq_false (by omega)
  obtain ⟨W0, hW0⟩ : ∃ W0, W0 = ((w.alloc (.cells #[.slice A n c, .slice A' n' c', .int .i64 D.armed, .int .i64 (D.ops : Int)] 31)).alloc (.cells #[.slice none 0 0, .slice none 0 0, .int .i64 0, .int .i64 0] 31)) := ⟨_, rfl⟩
  have B0 : Hid (Below w.heap.size w W0) := Lib.hid (by rw [hW0]; exact ((Below.refl w.heap.size w).alloc (Nat.le_refl _) _).alloc (grow1 _ _) _)
  have R0 : Hid (Blk W0 w.heap.size 31 [.slice A n c, .slice A' n' c', .int .i64 D.armed, .int .i64 (D.ops : Int)]) := Lib.hid (by rw [hW0]; exact (Blk.alloc (w := w.alloc _) (heap_alloc_new w _) _))
  have Z0 : Hid (Blk W0 (w.heap.size + 1) 31 [.slice none 0 0, .slice none 0 0, .int .i64 0, .int .i64 0]) := Lib.hid (by
    rw [hW0]
    have h := heap_alloc_new (w.alloc (.cells #[.slice A n c, .slice A' n' c', .int .i64 D.armed, .int .i64 (D.ops : Int)] 31)) (.cells #[.slice none 0 0, .slice none 0 0, .int .i64 0, .int .i64 0] 31)
    rw [show (w.alloc (.cells #[.slice A n c, .slice A' n' c', .int .i64 D.armed, .int .i64 (D.ops : Int)] 31)).heap.size = w.heap.size + 1 from by simp] at h
    exact h)
  have HW0 := Lib.hid hW0
  have HSS := Lib.hid hS
  have HWW := Lib.hid hW
  have HIN := Lib.hid hin
  clear hC hE hS hW hW0 ha hs hin
  go_enter Tryd.func20, Tryd.ntmps20
  go_wp2_with fail
  rw [← HW0.out]
  refine (HCN.out _).mono ?_
  rintro e W2 ⟨rfl, bl⟩
  have B2 := Lib.hid (B0.out.trans (bl.mono B0.out.size))
  obtain ⟨W3, run3, hR3, hB3, hK3⟩ := store_rd (R0.out.keep bl) A n c A' n' c' E.armed (E.ops : Int)
  have RUN3 := Lib.hid run3
  have R3 := Lib.hid hR3
  have B3 := Lib.hid (hB3 _ _ B2.out (Nat.le_refl _))
  have Z3 := Lib.hid (hK3 _ _ _ (Z0.out.keep bl) (by omega))
  clear bl run3 hR3 hB3 hK3
  obtain ⟨q0, q1, q2, q3⟩ := R3.out.fourR
  obtain ⟨W4, hW4⟩ : ∃ W4, W4 = W3.alloc (.cells #[] 105) := ⟨_, rfl⟩
  have OW4 : Hid (W4.ownsRow (w.heap.size + 2) 105 2 (.slice (some ⟨W3.heap.size, 0, none⟩) 0 0) 0 []) := Lib.hid (by
    refine ⟨rfl, .inr ⟨W3.heap.size, 0, #[], rfl, ?_, ?_, Nat.le_refl _, by simp [maxLen], rfl, rfl⟩⟩
    · have := Z3.out.lt; omega
    · rw [hW4]; exact heap_alloc_new W3 _)
  have S4 : Hid (w.heap.size + 2 ≤ W4.heap.size) := Lib.hid (by rw [hW4]; exact Nat.le_trans (by have := Z3.out.lt; omega) (grow1 W3 _))
  have R4 : Hid (Blk W4 w.heap.size 31 [.slice A n c, .slice A' n' c', .int .i64 E.armed, .int .i64 (E.ops : Int)]) := Lib.hid (by rw [hW4]; exact R3.out.alloc _)
  have Z4 : Hid (Blk W4 (w.heap.size + 1) 31 [.slice none 0 0, .slice none 0 0, .int .i64 0, .int .i64 0]) := Lib.hid (by rw [hW4]; exact Z3.out.alloc _)
  have B4 : Hid (Below w.heap.size w W4) := Lib.hid (by rw [hW4]; exact B3.out.alloc B3.out.size _)
  have HW4 := Lib.hid hW4
  obtain ⟨p0, p1, p2, p3⟩ := R4.out.fourR
  rw [HW4.out] at p0 p1 p2 p3
  have HNW : Hid (n' = E.waits.length) := Lib.hid HWW.out.cellAt.1
  obtain ⟨b, rfl, hnews⟩ := (HWW.out.keep B4.out).news hp
  have HNEW := Lib.hid hnews
  clear hnews hW4
  go_wp2_with (first | (refine wpList_store_to rfl 31 _ _ rfl ⟨w.heap.size, 0, none⟩ rfl (.agg #[.slice A n c, .slice (some ⟨b, 0, none⟩) n' c', .int .i64 E.armed, .int .i64 (E.ops : Int)]) rfl W3 RUN3.out ?_) | (at_builtin; (try rw [← HW4.out]); refine wpList_append_own _ rfl _ _ 29 rfl (w.heap.size + 2) 105 i0 (.agg #[.int .i64 0, .string ⟨#[]⟩]) 2 24 Tryd.underlying29 hi hz0 hz1 hz2 rfl (by decide) _ _ _ rfl OW4.out ⟨b, 0, none⟩ n' c' (wsV E.waits) rfl (by rw [wsV_len, ← HNW.out]) HNEW.out (wsV_one _) (by simp only [maxLen]; omega) (by omega) S4.out ?_))
  intro v5 W5 hown hgr _
  have OW5 : Hid (W5.ownsRow (w.heap.size + 2) 105 2 v5 n' (wsV E.waits)) := Lib.hid (by simpa using hown)
  have bl : Below (w.heap.size + 2) W4 W5 := (Below.refl _ _).grown hgr S4.out (fun j hj => (OW4.out.lt j hj).1)
  have R5 := Lib.hid (R4.out.below bl (by omega))
  have Z5 := Lib.hid (Z4.out.below bl (by omega))
  have B5 := Lib.hid (B4.out.trans (bl.mono (by omega)))
  have S5 := Lib.hid (Nat.le_trans S4.out bl.size)
  clear hown hgr bl p0 p1 p2 p3 q0 q1 q2 q3
  go_wp2_with (at_builtin; refine wpList_append_own _ rfl _ _ 29 rfl (w.heap.size + 2) 105 i0 (.agg #[.int .i64 0, .string ⟨#[]⟩]) 2 24 Tryd.underlying29 hi hz0 hz1 hz2 rfl (by decide) _ _ _ rfl (OW5.out.alloc _) ⟨W5.heap.size, 0, none⟩ 1 1 [.int .i64 (i : Int), .string (bs s)] rfl rfl (World.news_of_block (cs := #[.int .i64 (i : Int), .string (bs s)]) (heap_alloc_new W5 _)) (by intro u hu; simp at hu; rcases hu with rfl | rfl <;> rfl) (by simp only [maxLen]; omega) (by omega) (Nat.le_trans S5.out (grow1 _ _)) ?_)
  intro v6 W6 hown hgr _
  have OW6 : Hid (W6.ownsRow (w.heap.size + 2) 105 2 v6 (n' + 1) (wsV (E.waits ++ [(i, s)]))) := Lib.hid (by rw [wsV_append]; exact hown)
  have bl : Below (w.heap.size + 2) W5 W6 := ((Below.refl _ _).alloc S5.out _).grown hgr (Nat.le_trans S5.out (grow1 _ _)) (fun j hj => (OW5.out.lt j hj).1)
  have R6 := Lib.hid (R5.out.below bl (by omega))
  have Z6 := Lib.hid (Z5.out.below bl (by omega))
  have B6 := Lib.hid (B5.out.trans (bl.mono (by omega)))
  clear hown hgr bl
  obtain ⟨g, cap, junk, rfl, hg2, hnc, hcm, hblk⟩ := own_blk2 OW6.out (Nat.succ_pos _)
  have R7 := Lib.hid (R6.out.set_ 1 (.slice (some ⟨g, 0, none⟩) (n' + 1) cap))
  have Z7 := Lib.hid (Z6.out.far (p := ⟨w.heap.size, 1, none⟩) (by show w.heap.size + 1 ≠ w.heap.size; omega) (.slice (some ⟨g, 0, none⟩) (n' + 1) cap))
  have G7 := Lib.hid (hblk.far (p := ⟨w.heap.size, 1, none⟩) (by show g ≠ w.heap.size; omega) (.slice (some ⟨g, 0, none⟩) (n' + 1) cap))
  have B7 := Lib.hid (B6.out.setCell (p := ⟨w.heap.size, 1, none⟩) (Nat.le_refl _) (.slice (some ⟨g, 0, none⟩) (n' + 1) cap))
  have R8 := Lib.hid (R7.out.set_ 3 (.int .i64 ((E.ops : Int) + 1)))
  have Z8 := Lib.hid (Z7.out.far (p := ⟨w.heap.size, 3, none⟩) (by show w.heap.size + 1 ≠ w.heap.size; omega) (.int .i64 ((E.ops : Int) + 1)))
  have G8 := Lib.hid (G7.out.far (p := ⟨w.heap.size, 3, none⟩) (by show g ≠ w.heap.size; omega) (.int .i64 ((E.ops : Int) + 1)))
  have B8 := Lib.hid (B7.out.setCell (p := ⟨w.heap.size, 3, none⟩) (Nat.le_refl _) (.int .i64 ((E.ops : Int) + 1)))
  obtain ⟨W9, run9, hR9, hB9, hK9⟩ := store_rd Z8.out A n c (some ⟨g, 0, none⟩) (n' + 1) cap E.armed ((E.ops : Int) + 1)
  have RUN9 := Lib.hid run9
  have R9 := Lib.hid hR9
  have B9 := Lib.hid (hB9 _ _ B8.out (Nat.le_succ _))
  have G9 := Lib.hid (hK9 _ _ _ G8.out (by omega))
  have HNC := Lib.hid hnc
  have HCM := Lib.hid hcm
  have how : IntKind.i64.wrap ((E.ops : Int) + 1) = (E.ops : Int) + 1 := IntWalk.i64_in _ (by omega)
  obtain ⟨r0, r1, r2, r3⟩ := R6.out.fourR
  have f1 := R6.out.frozen 1
  obtain ⟨s0, s1, s2, s3⟩ := R7.out.fourR
  have f3 := R7.out.frozen 3
  obtain ⟨t0, t1, t2, t3⟩ := R8.out.fourR
  clear hg2 hnc hcm hblk run9 hR9 hB9 hK9
  go_wp2_with (refine wpList_store_to rfl 31 _ _ rfl ⟨w.heap.size + 1, 0, none⟩ rfl (.agg #[.slice A n c, .slice (some ⟨g, 0, none⟩) (n' + 1) cap, .int .i64 E.armed, .int .i64 ((E.ops : Int) + 1)]) rfl W9 RUN9.out ?_)
  obtain ⟨d0, d1, d2, d3⟩ := R9.out.fourR
  refine bodyPost_ret (v := .tuple #[.agg #[.slice A n c, .slice (some ⟨g, 0, none⟩) (n' + 1) cap, .int .i64 E.armed, .int .i64 ((E.ops : Int) + 1)], .int .i64 0]) (by simp [results, Tryd.results20, go_sem, d0, d1, d2, d3]) rfl ⟨_, _, _, _, _, _, rfl, HSS.out.keep B9.out, ?_, B9.out⟩
  exact WriS.of_blk G9.out (by show _ = (E.waits ++ [(i, s)]).length; rw [List.length_append, ← HNW.out]; rfl) HNC.out HCM.out

set_option maxHeartbeats 4000000 in
set_option maxRecDepth 100000 in
theorem ref_Put12_none (w : World) (A : Option Addr) (n c : Nat) (D : DSt) (i : Nat) (s : List UInt8) (hS : StrS w (.slice A n c) D.lasts) (hW : WriS w (.slice none 0 0) D.waits)
    (ha : ArmOk D) (hin : i < n) (hn : n ≤ 4096) (hops : D.ops ≤ 1000000000) (hs : s.length = 128) (hbad : (fires D).2 = false) :
    Calls Tryd.prog 20 #[rdV A n c none 0 0 D, .int .i64 (i : Int), .string (bs s)] w fun e w' => ∃ B m d B' m' d', e = .returned (.tuple #[rdV B m d B' m' d' (wrote (fires D).1 i s), .int .i64 0]) ∧ StrS w' (.slice B m d) (wrote (fires D).1 i s).lasts ∧ WriS w' (.slice B' m' d') (wrote (fires D).1 i s).waits ∧ Below w.heap.size w w' := by
  obtain ⟨i0, hi, hz0, hz1, hz2⟩ := info_parts infoWrite12
  have hC := fun W => ref_count W A n c none 0 0 D ha
  rw [hbad] at hC
  have HF1 := Lib.hid (fires_lasts D)
  have HF2 := Lib.hid (fires_waits D)
  have HF3 := Lib.hid (fires_ops D)
  clear hbad
  generalize hE : (fires D).1 = E at hC HF1 HF2 HF3 ⊢
  rw [← HF1.out] at hS
  rw [← HF2.out] at hW
  rw [← HF3.out] at hops
  have HCN := Lib.hid hC
  have hsz := (bs_size s).trans hs
  unfold rdV
  unfold rdV at HCN
  have d1 : decide ((i : Int) < 0) = false := decide_eq_false (by omega)
  have d2 : decide ((n : Int) ≤ (i : Int)) = false := decide_eq_false (by omega)
  have d3 : decide (n ≤ i) = false := decide_eq_false (by omega)
  obtain ⟨W0, hW0⟩ : ∃ W0, W0 = ((w.alloc (.cells #[.slice A n c, .slice none 0 0, .int .i64 D.armed, .int .i64 (D.ops : Int)] 31)).alloc (.cells #[.slice none 0 0, .slice none 0 0, .int .i64 0, .int .i64 0] 31)) := ⟨_, rfl⟩
  have B0 : Hid (Below w.heap.size w W0) := Lib.hid (by rw [hW0]; exact ((Below.refl w.heap.size w).alloc (Nat.le_refl _) _).alloc (grow1 _ _) _)
  have R0 : Hid (Blk W0 w.heap.size 31 [.slice A n c, .slice none 0 0, .int .i64 D.armed, .int .i64 (D.ops : Int)]) := Lib.hid (by rw [hW0]; exact (Blk.alloc (w := w.alloc _) (heap_alloc_new w _) _))
  have Z0 : Hid (Blk W0 (w.heap.size + 1) 31 [.slice none 0 0, .slice none 0 0, .int .i64 0, .int .i64 0]) := Lib.hid (by
    rw [hW0]
    have h := heap_alloc_new (w.alloc (.cells #[.slice A n c, .slice none 0 0, .int .i64 D.armed, .int .i64 (D.ops : Int)] 31)) (.cells #[.slice none 0 0, .slice none 0 0, .int .i64 0, .int .i64 0] 31)
    rw [show (w.alloc (.cells #[.slice A n c, .slice none 0 0, .int .i64 D.armed, .int .i64 (D.ops : Int)] 31)).heap.size = w.heap.size + 1 from by simp] at h
    exact h)
  have HW0 := Lib.hid hW0
  have HSS := Lib.hid hS
  have HWW := Lib.hid hW
  have HIN := Lib.hid hin
  clear hC hE hS hW hW0 ha hs hin
  go_enter Tryd.func20, Tryd.ntmps20
  go_wp2_with fail
  rw [← HW0.out]
  refine (HCN.out _).mono ?_
  rintro e W2 ⟨rfl, bl⟩
  have B2 := Lib.hid (B0.out.trans (bl.mono B0.out.size))
  obtain ⟨W3, run3, hR3, hB3, hK3⟩ := store_rd (R0.out.keep bl) A n c none 0 0 E.armed (E.ops : Int)
  have RUN3 := Lib.hid run3
  have R3 := Lib.hid hR3
  have B3 := Lib.hid (hB3 _ _ B2.out (Nat.le_refl _))
  have Z3 := Lib.hid (hK3 _ _ _ (Z0.out.keep bl) (by omega))
  clear bl run3 hR3 hB3 hK3
  obtain ⟨q0, q1, q2, q3⟩ := R3.out.fourR
  obtain ⟨W4, hW4⟩ : ∃ W4, W4 = W3.alloc (.cells #[] 105) := ⟨_, rfl⟩
  have OW4 : Hid (W4.ownsRow (w.heap.size + 2) 105 2 (.slice (some ⟨W3.heap.size, 0, none⟩) 0 0) 0 []) := Lib.hid (by
    refine ⟨rfl, .inr ⟨W3.heap.size, 0, #[], rfl, ?_, ?_, Nat.le_refl _, by simp [maxLen], rfl, rfl⟩⟩
    · have := Z3.out.lt; omega
    · rw [hW4]; exact heap_alloc_new W3 _)
  have S4 : Hid (w.heap.size + 2 ≤ W4.heap.size) := Lib.hid (by rw [hW4]; exact Nat.le_trans (by have := Z3.out.lt; omega) (grow1 W3 _))
  have R4 : Hid (Blk W4 w.heap.size 31 [.slice A n c, .slice none 0 0, .int .i64 E.armed, .int .i64 (E.ops : Int)]) := Lib.hid (by rw [hW4]; exact R3.out.alloc _)
  have Z4 : Hid (Blk W4 (w.heap.size + 1) 31 [.slice none 0 0, .slice none 0 0, .int .i64 0, .int .i64 0]) := Lib.hid (by rw [hW4]; exact Z3.out.alloc _)
  have B4 : Hid (Below w.heap.size w W4) := Lib.hid (by rw [hW4]; exact B3.out.alloc B3.out.size _)
  have HW4 := Lib.hid hW4
  obtain ⟨p0, p1, p2, p3⟩ := R4.out.fourR
  rw [HW4.out] at p0 p1 p2 p3
  have HNW : Hid (0 = E.waits.length) := Lib.hid HWW.out.cellAt.1
  have S4E : Hid (W4.heap.size = W3.heap.size + 1) := Lib.hid (by rw [hW4]; simp)
  clear hW4
  go_wp2_with (first | (refine wpList_store_to rfl 31 _ _ rfl ⟨w.heap.size, 0, none⟩ rfl (.agg #[.slice A n c, .slice none 0 0, .int .i64 E.armed, .int .i64 (E.ops : Int)]) rfl W3 RUN3.out ?_) | (at_builtin; (try rw [← HW4.out]); refine wpList_append_own _ rfl _ _ 29 rfl (w.heap.size + 2) 105 i0 (.agg #[.int .i64 0, .string ⟨#[]⟩]) 2 24 Tryd.underlying29 hi hz0 hz1 hz2 rfl (by decide) _ _ _ rfl (OW4.out.alloc _) ⟨W3.heap.size + 1, 0, none⟩ 1 1 [.int .i64 (i : Int), .string (bs s)] rfl rfl (by rw [← S4E.out]; exact World.news_of_block (cs := #[.int .i64 (i : Int), .string (bs s)]) (heap_alloc_new W4 _)) (by intro u hu; simp at hu; rcases hu with rfl | rfl <;> rfl) (by simp only [maxLen]; omega) (by omega) (Nat.le_trans S4.out (grow1 _ _)) ?_))
  intro v6 W6 hown hgr _
  have OW6 : Hid (W6.ownsRow (w.heap.size + 2) 105 2 v6 1 (wsV (E.waits ++ [(i, s)]))) := Lib.hid (by
    have e : E.waits = [] := List.eq_nil_of_length_eq_zero HNW.out.symm
    rw [e]
    simpa [wsV, wPair] using hown)
  have bl : Below (w.heap.size + 2) W4 W6 := ((Below.refl _ _).alloc S4.out _).grown hgr (Nat.le_trans S4.out (grow1 _ _)) (fun j hj => (OW4.out.lt j hj).1)
  have R6 := Lib.hid (R4.out.below bl (by omega))
  have Z6 := Lib.hid (Z4.out.below bl (by omega))
  have B6 := Lib.hid (B4.out.trans (bl.mono (by omega)))
  clear hown hgr bl
  obtain ⟨g, cap, junk, rfl, hg2, hnc, hcm, hblk⟩ := own_blk2 OW6.out Nat.one_pos
  have R7 := Lib.hid (R6.out.set_ 1 (.slice (some ⟨g, 0, none⟩) 1 cap))
  have Z7 := Lib.hid (Z6.out.far (p := ⟨w.heap.size, 1, none⟩) (by show w.heap.size + 1 ≠ w.heap.size; omega) (.slice (some ⟨g, 0, none⟩) 1 cap))
  have G7 := Lib.hid (hblk.far (p := ⟨w.heap.size, 1, none⟩) (by show g ≠ w.heap.size; omega) (.slice (some ⟨g, 0, none⟩) 1 cap))
  have B7 := Lib.hid (B6.out.setCell (p := ⟨w.heap.size, 1, none⟩) (Nat.le_refl _) (.slice (some ⟨g, 0, none⟩) 1 cap))
  have R8 := Lib.hid (R7.out.set_ 3 (.int .i64 ((E.ops : Int) + 1)))
  have Z8 := Lib.hid (Z7.out.far (p := ⟨w.heap.size, 3, none⟩) (by show w.heap.size + 1 ≠ w.heap.size; omega) (.int .i64 ((E.ops : Int) + 1)))
  have G8 := Lib.hid (G7.out.far (p := ⟨w.heap.size, 3, none⟩) (by show g ≠ w.heap.size; omega) (.int .i64 ((E.ops : Int) + 1)))
  have B8 := Lib.hid (B7.out.setCell (p := ⟨w.heap.size, 3, none⟩) (Nat.le_refl _) (.int .i64 ((E.ops : Int) + 1)))
  obtain ⟨W9, run9, hR9, hB9, hK9⟩ := store_rd Z8.out A n c (some ⟨g, 0, none⟩) 1 cap E.armed ((E.ops : Int) + 1)
  have RUN9 := Lib.hid run9
  have R9 := Lib.hid hR9
  have B9 := Lib.hid (hB9 _ _ B8.out (Nat.le_succ _))
  have G9 := Lib.hid (hK9 _ _ _ G8.out (by omega))
  have HNC := Lib.hid hnc
  have HCM := Lib.hid hcm
  have how : IntKind.i64.wrap ((E.ops : Int) + 1) = (E.ops : Int) + 1 := IntWalk.i64_in _ (by omega)
  obtain ⟨r0, r1, r2, r3⟩ := R6.out.fourR
  have f1 := R6.out.frozen 1
  obtain ⟨s0, s1, s2, s3⟩ := R7.out.fourR
  have f3 := R7.out.frozen 3
  obtain ⟨t0, t1, t2, t3⟩ := R8.out.fourR
  clear hg2 hnc hcm hblk run9 hR9 hB9 hK9
  go_wp2_with (refine wpList_store_to rfl 31 _ _ rfl ⟨w.heap.size + 1, 0, none⟩ rfl (.agg #[.slice A n c, .slice (some ⟨g, 0, none⟩) 1 cap, .int .i64 E.armed, .int .i64 ((E.ops : Int) + 1)]) rfl W9 RUN9.out ?_)
  obtain ⟨d0, d1, d2, d3⟩ := R9.out.fourR
  refine bodyPost_ret (v := .tuple #[.agg #[.slice A n c, .slice (some ⟨g, 0, none⟩) 1 cap, .int .i64 E.armed, .int .i64 ((E.ops : Int) + 1)], .int .i64 0]) (by simp [results, Tryd.results20, go_sem, d0, d1, d2, d3]) rfl ⟨_, _, _, _, _, _, rfl, HSS.out.keep B9.out, ?_, B9.out⟩
  exact WriS.of_blk G9.out (by show _ = (E.waits ++ [(i, s)]).length; rw [List.length_append, ← HNW.out]; rfl) HNC.out HCM.out


end Go.Proofs.YtbekebpkaeefiaaDoor
