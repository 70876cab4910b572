/- The contract of a disk's Read. -/
import Derived.Test.YtcnbpajlocoocaaDoorDiskB
namespace Go.Proofs.YtcnbpajlocoocaaDoor
open Go.RowKit Go.Maps Go.ChangeMaps Go.MapKept

/-- What is read: the text, the code. -/
def rdD (D : DSt) (i : Int) : List UInt8 × Nat :=
  if hasB D i = true then (match lastIx D.waits i.toNat with
    | some j => ((D.waits.getD j (0, [])).2, 0)
    | none => (D.lasts.getD i.toNat [], 0)) else ([], 5)
theorem rdD_no {D : DSt} {i : Int} (h : hasB D i = false) : rdD D i = ([], 5) := by unfold rdD; rw [h]; rfl
theorem hasB_nat {D : DSt} {i : Nat} (h : i < D.lasts.length) : hasB D (i : Int) = true := by unfold hasB; simp; exact h
theorem hasB_nat_iff {D : DSt} {i : Int} : hasB D i = true ↔ ∃ k : Nat, i = k ∧ k < D.lasts.length := by
  unfold hasB
  rw [Bool.and_eq_true, decide_eq_true_iff, decide_eq_true_iff]
  exact ⟨fun h => ⟨i.toNat, by omega, by omega⟩, fun ⟨k, h1, h2⟩ => by omega⟩
theorem rdD_wait {D : DSt} {i j : Nat} (h : i < D.lasts.length) (hj : lastIx D.waits i = some j) : rdD D (i : Int) = ((D.waits.getD j (0, [])).2, 0) := by
  unfold rdD; rw [hasB_nat h, if_pos rfl, Int.toNat_natCast, hj]
theorem rdD_last {D : DSt} {i : Nat} (h : i < D.lasts.length) (hj : lastIx D.waits i = none) : rdD D (i : Int) = (D.lasts.getD i [], 0) := by
  unfold rdD; rw [hasB_nat h, if_pos rfl, Int.toNat_natCast, hj]

/-- Rows of one length, flat. -/
theorem flat_get {α : Type} {m : Nat} : ∀ (ls : List (List α)) (_ : ∀ t ∈ ls, t.length = m) (i k : Nat) (_ : k < m) (h : i < ls.length), ls.flatten[i * m + k]? = (ls[i])[k]?
  | [], _, i, k, _, h => by cases h
  | t :: ls, hl, 0, k, hk, h => by
    have ht := hl t (by simp)
    rw [List.flatten_cons, Nat.zero_mul, Nat.zero_add, List.getElem?_append_left (by omega)]
    rfl
  | t :: ls, hl, i + 1, k, hk, h => by
    have ht := hl t (by simp)
    rw [List.flatten_cons, List.getElem?_append_right (by rw [Nat.succ_mul]; omega), ht, show (i + 1) * m + k - m = i * m + k from by rw [Nat.succ_mul]; omega]
    exact flat_get ls (fun t h => hl t (by simp [h])) i k hk (by simpa using h)

/-- A stretch of a row that reads as these bytes. -/
def At (w : World) (g o : Nat) (l : List UInt8) : Prop := ∀ k (h : k < l.length), w.cell? ⟨g, o + k, none⟩ = some (.int .u8 ((l[k]).toNat : Int))
theorem At.conv {w : World} {g o : Nat} {l : List UInt8} (h : At w g o l) (cap : Nat) : (convert 100 9 (.slice (some ⟨g, o, none⟩) l.length cap)).run Tryd.prog w = .ok (.string (bs l)) w := by
  have := run_convert_bytes_arg (P := Tryd.prog) w 100 5 Tryd.underlying100 Tryd.underlying5 g o l.length cap ((nb l).map fun x : Nat => (x : Int)) (by rw [List.length_map, nb_len]) (fun i hi => by
    rw [h i hi, List.getD_eq_getElem?_getD, List.getElem?_map, nb, List.getElem?_map, List.getElem?_eq_getElem hi]
    rfl) 9 Tryd.underlying9
  rw [str_nb] at this
  exact this
theorem nums_nb_get (l : List UInt8) (k : Nat) : (nums .u8 (nb l))[k]? = (l[k]?).map fun b => Value.int .u8 (b.toNat : Int) := by
  simp [nums, nb, Function.comp_def]

theorem at_last {base : Nat} {w : World} {p gl M : Nat} {v : Value} {D : DSt} (h : IsDisk base w p gl M v D) {i : Nat} (hi : i < D.lasts.length) : At w gl (i * 128) (D.lasts.getD i []) ∧ (D.lasts.getD i []).length = 128 := by
  have hok := h.2.2.2.2.1.2.2.1
  have e : D.lasts.getD i [] = D.lasts[i] := by rw [List.getD_eq_getElem?_getD, List.getElem?_eq_getElem hi]; rfl
  have hl : (D.lasts[i]).length = 128 := hok _ (List.getElem_mem hi)
  rw [e]
  refine ⟨fun k hk => ?_, hl⟩
  rw [h.2.1.cell, flatL, nums_nb_get, flat_get D.lasts hok i k (by omega) hi, List.getElem?_eq_getElem hk]
  rfl

theorem wrCells_len {x : Nat × List UInt8} (h : x.2.length = 128) : (wrCells x).length = 129 := by
  unfold wrCells; rw [List.length_cons, nums_length, nb_len, h]
theorem flatW_get {ws : List (Nat × List UInt8)} (h : ∀ x ∈ ws, x.2.length = 128) {j k : Nat} (hj : j < ws.length) (hk : k < 129) : (flatW ws)[j * 129 + k]? = (wrCells ws[j])[k]? := by
  unfold flatW
  rw [flat_get (ws.map wrCells) (fun t ht => by
    obtain ⟨x, hx, rfl⟩ := List.mem_map.1 ht
    exact wrCells_len (h x hx)) j k hk (by simpa using hj), List.getElem_map]

theorem at_wait {base : Nat} {w : World} {p gl M : Nat} {v : Value} {D : DSt} (h : IsDisk base w p gl M v D) {j : Nat} (hj : j < D.waits.length) :
    ∃ g c, v = .slice (some ⟨g, 0, none⟩) D.waits.length c ∧ D.waits.length ≤ c ∧ At w g (j * 129 + 1) (D.waits.getD j (0, [])).2 ∧ (D.waits.getD j (0, [])).2.length = 128 ∧ w.cell? ⟨g, j * 129, none⟩ = some (.int .i64 (((D.waits.getD j (0, [])).1 : Nat) : Int)) := by
  rcases h.2.2.1 with ⟨e, _⟩ | ⟨h1, h2⟩
  · rw [e] at hj; cases hj
  · have h3 := h2
    rcases h2.2 with ⟨_, h0⟩ | ⟨g, c, cur, rfl, _, _, hc, _⟩
    · omega
    · have hok : ∀ x ∈ D.waits, x.2.length = 128 := fun x hx => (h.2.2.2.2.1.2.2.2 x hx).2
      have e : D.waits.getD j (0, []) = D.waits[j] := by rw [List.getD_eq_getElem?_getD, List.getElem?_eq_getElem hj]; rfl
      have hl : (D.waits[j]).2.length = 128 := hok _ (List.getElem_mem hj)
      have hjb : j * 129 + 129 ≤ D.waits.length * 129 := by have := Nat.mul_le_mul_right 129 hj; rw [Nat.succ_mul] at this; exact this
      rw [e]
      refine ⟨g, c, rfl, hc, fun k hk => ?_, hl, ?_⟩
      · rw [h3.cellAt (j * 129 + 1 + k) (by omega), Nat.add_assoc, flatW_get hok hj (by omega), wrCells, Nat.add_comm 1 k, List.getElem?_cons_succ, nums_nb_get, List.getElem?_eq_getElem hk]
        rfl
      · have := flatW_get hok hj (k := 0) (by omega)
        rw [h3.cellAt (j * 129) (by omega)]
        exact this

theorem zeroInt (w : World) : (zeroValue 3).run Tryd.prog w = .ok (.int .i64 0) w := by kernel_rfl
set_option maxRecDepth 100000 in
theorem look_some {base : Nat} {w : World} {p gl M : Nat} {v : Value} {D : DSt} (h : IsDisk base w p gl M v D) {i j : Nat} (hi : i < 9223372036854775807) (hj : lastIx D.waits i = some j) :
    (Instr.lookup 72 (.map (some M)) (.int .i64 (i : Int)) true).run Tryd.prog w = .ok (.tuple #[.int .i64 (j : Int), .bool true]) w := by
  obtain ⟨m, hm, hmo⟩ := h.2.2.2.1
  obtain ⟨h1, h2⟩ := (hmo.2 i).2 j hj
  have hwf : (Lit.int .i64 (i : Int)).wf = true := WalkArith.wf_i64 (by omega)
  obtain ⟨v', ps, hrun, hR⟩ := hm.look_ok intKeyed Tryd.underlying72 (zeroInt w) (plainElem_int (H := Unit) Tryd.underlying3 (by decide)) (keyOf_int_mk Tryd.underlying3 hwf)
  rw [h2] at hR
  obtain ⟨a, rfl, ha, _⟩ := plainElem_int_inv Tryd.underlying3 hR
  injection ha with ha _
  injection ha with ha
  injection ha with _ ha
  rw [hrun, h1, ha]
set_option maxRecDepth 100000 in
theorem look_none {base : Nat} {w : World} {p gl M : Nat} {v : Value} {D : DSt} (h : IsDisk base w p gl M v D) {i : Nat} (hi : i < 9223372036854775807) (hj : lastIx D.waits i = none) :
    ∃ a : Int, (Instr.lookup 72 (.map (some M)) (.int .i64 (i : Int)) true).run Tryd.prog w = .ok (.tuple #[.int .i64 a, .bool false]) w := by
  obtain ⟨m, hm, hmo⟩ := h.2.2.2.1
  have h1 := (hmo.2 i).1 hj
  have hwf : (Lit.int .i64 (i : Int)).wf = true := WalkArith.wf_i64 (by omega)
  obtain ⟨v', ps, hrun, hR⟩ := hm.look_ok intKeyed Tryd.underlying72 (zeroInt w) (plainElem_int (H := Unit) Tryd.underlying3 (by decide)) (keyOf_int_mk Tryd.underlying3 hwf)
  obtain ⟨a, rfl, _, _⟩ := plainElem_int_inv Tryd.underlying3 hR
  exact ⟨a, by rw [hrun, h1]⟩

set_option maxHeartbeats 2000000 in
theorem disk_Read (base : Nat) (w : World) (p gl M : Nat) (v : Value) (D : DSt) (i : Int) (h : IsDisk base w p gl M v D) :
    Calls Tryd.prog 35 #[.pointer (some ⟨p, 0, none⟩), .int .i64 i] w fun e w' => e = .returned (.tuple #[.string (bs (rdD D i).1), .int .i64 (((rdD D i).2 : Nat) : Int)]) ∧ w = w' := by
  obtain ⟨c0, c1, c2, c3, c4⟩ := h.1.five
  have HH := Lib.hid (disk_has base w p gl M v D i h)
  have H := Lib.hid h
  clear h
  by_cases hb : hasB D i = true
  · rw [hb] at HH
    obtain ⟨k, rfl, hk⟩ := hasB_nat_iff.1 hb
    have hn : D.lasts.length ≤ 4096 := H.out.2.2.2.2.1.2.1
    have hk63 : k < 9223372036854775807 := by omega
    cases hx : lastIx D.waits k with
    | some j =>
      have hR := rdD_wait hk hx
      rw [hR]
      have hlk := look_some H.out hk63 hx
      have hj := lastIx_lt hx
      obtain ⟨g, c, rfl, hc, hat, hal, _⟩ := at_wait H.out hj
      have hcv := hat.conv 128
      rw [hal] at hcv
      obtain ⟨t, ht⟩ : ∃ t, t = (D.waits.getD j (0, [])).2 := ⟨_, rfl⟩
      rw [← ht] at hcv ⊢
      clear hR hat hal ht hx hb
      go_enter Tryd.func35, Tryd.ntmps35
      go_wp2_with fail
      refine HH.out.mono ?_
      rintro e w1 ⟨rfl, rfl⟩
      go_wp2_with fail
      go_ret2
      exact ⟨rfl, rfl⟩
    | none =>
      have hR := rdD_last hk hx
      rw [hR]
      obtain ⟨a, hlk⟩ := look_none H.out hk63 hx
      obtain ⟨hat, hal⟩ := at_last H.out hk
      have hcv := hat.conv 128
      rw [hal] at hcv
      obtain ⟨t, ht⟩ : ∃ t, t = D.lasts.getD k [] := ⟨_, rfl⟩
      rw [← ht] at hcv ⊢
      clear hR hat hal ht hx hb
      go_enter Tryd.func35, Tryd.ntmps35
      go_wp2_with fail
      refine HH.out.mono ?_
      rintro e w1 ⟨rfl, rfl⟩
      go_wp2_with fail
      go_ret2
      exact ⟨rfl, rfl⟩
  · have hb' : hasB D i = false := by simpa using hb
    rw [hb'] at HH
    rw [rdD_no hb']
    clear hb hb'
    go_enter Tryd.func35, Tryd.ntmps35
    go_wp2_with fail
    refine HH.out.mono ?_
    rintro e w1 ⟨rfl, rfl⟩
    go_wp2_with fail
    go_ret2
    exact ⟨rfl, rfl⟩

end Go.Proofs.YtcnbpajlocoocaaDoor
