/- The document's May and Same; the law's Of. -/
import Derived.Test.YtackddgihdnmgaaNewsL
namespace Go.Proofs.Ytackddgihdnmgaa
open Go.RowKit
set_option maxRecDepth 100000

theorem MayP.of {rs : List RowT} {n : Nat} (hl : rs.length = n) : MayP rs ↔ 1 ≤ n ∧ n ≤ 256 ∧ MetP rs n ∧ RisP rs (n - 1) := by unfold MayP; rw [hl]

set_option maxHeartbeats 8000000 in
theorem newsr_May (ep : Nat) (A : Option Addr) (n c : Nat) (rs : List RowT) (w : World) (h : Rws w A n rs) (hc : n ≤ c) (hcm : (c : Int) ≤ 9223372036854775807) :
    Calls Try.prog 26 #[.agg #[.int .u32 (ep : Int), .slice A n c]] w fun e w' => e = .returned (.bool (decide (MayP rs))) ∧ Below w.heap.size w w' := by
  obtain ⟨W0, hW0⟩ : ∃ W0, W0 = w.alloc (.cells #[.int .u32 (ep : Int), .slice A n c] 45) := ⟨_, rfl⟩
  have Z0 : Hid (Blk W0 w.heap.size 45 [.int .u32 (ep : Int), .slice A n c]) := Lib.hid (by rw [hW0]; exact heap_alloc_new w _)
  have B0 : Hid (Below w.heap.size w W0) := Lib.hid (by rw [hW0]; exact (Below.refl _ _).alloc (Nat.le_refl _) _)
  have HR : Hid (Rws W0 A n rs) := Lib.hid (h.keep B0.out)
  have HLN : Hid (rs.length = n) := Lib.hid h.1
  have q1 := Z0.out.cell 1
  dsimp only [List.getElem?_cons_zero, List.getElem?_cons_succ] at q1
  by_cases hn0 : n = 0
  · have HP : Hid (decide (MayP rs) = false) := Lib.hid (decide_eq_false (fun hp => by have := hp.1; rw [HLN.out] at this; omega))
    rw [HP.out]
    have d1 : ((n : Int) == 0) = true := by rw [beq_iff_eq]; omega
    clear h hn0
    go_enter Try.func26, Try.ntmps26
    go_wp2_with fail
    rw [← hW0]
    go_ret
    exact ⟨rfl, B0.out⟩
  · have d1 : ((n : Int) == 0) = false := by rw [beq_eq_false_iff_ne]; omega
    by_cases hn2 : 256 < n
    · have HP : Hid (decide (MayP rs) = false) := Lib.hid (decide_eq_false (fun hp => by have := hp.2.1; rw [HLN.out] at this; omega))
      rw [HP.out]
      have d2 : decide ((256 : Int) < (n : Int)) = true := decide_eq_true (by omega)
      clear h hn0
      go_enter Try.func26, Try.ntmps26
      go_wp2_with fail
      rw [← hW0]
      go_ret
      exact ⟨rfl, B0.out⟩
    · have d2 : decide ((256 : Int) < (n : Int)) = false := decide_eq_false (by omega)
      have HN : Hid (1 ≤ n ∧ n ≤ 256) := Lib.hid (by omega)
      have hnb : n ≤ 256 := by omega
      clear h hn0
      go_enter Try.func26, Try.ntmps26
      go_wp2_with fail
      rw [← hW0]
      clear d1 d2 hn2
      go_loopw [3] (fun iv wr => ∃ j : Nat, iv = .int .i64 (j : Int) ∧ j ≤ n ∧ Hid (MetP rs j ∧ RisP rs (j - 1)) ∧ Hid (Below W0.heap.size W0 wr)) (fun iv _ => n - (intOf iv).toNat)
      case atStart => exact ⟨0, rfl, Nat.zero_le _, Lib.hid ⟨fun i hi => absurd hi (Nat.not_lt_zero _), fun i hi => absurd hi (Nat.not_lt_zero _)⟩, Lib.hid (Below.refl _ _)⟩
      case round =>
        obtain ⟨j, rfl, hj, HM, HB⟩ := hrel
        have q1 := (Z0.out.keep HB.out).cell 1
        dsimp only [List.getElem?_cons_zero, List.getElem?_cons_succ] at q1
        by_cases hlt : j < n
        · obtain ⟨b, o, rfl, hcell⟩ := (HR.out.keep HB.out).2.2 (by omega)
          obtain ⟨c0, c1⟩ := hcell j hlt
          obtain ⟨x, hx⟩ : ∃ x, x = (rs.getD j (0, 0)).1 := ⟨_, rfl⟩
          obtain ⟨y, hy⟩ : ∃ y, y = (rs.getD j (0, 0)).2 := ⟨_, rfl⟩
          rw [← hx] at c0
          rw [← hy] at c1
          have HX := Lib.hid hx
          have HY := Lib.hid hy
          have hdec : decide ((j : Int) < (n : Int)) = true := decide_eq_true (by omega)
          have hdec' : decide (j < n) = true := decide_eq_true (by omega)
          have hw1 : IntKind.i64.wrap ((j : Int) + 1) = ((j + 1 : Nat) : Int) := by rw [IntWalk.i64_in _ (by omega)]; omega
          have hjn : (j : Int) < (n : Int) := by omega
          clear hx hy
          by_cases hz : y = 0
          · have HZ := Lib.hid hz
            have hz1 : ((y : Int) == 0) = true := by rw [beq_iff_eq]; omega
            have HP : Hid (decide (MayP rs) = false) := Lib.hid (decide_eq_false (fun hp => by
              have := ((MayP.of HLN.out).1 hp).2.2.1 j hlt
              rw [← HY.out, HZ.out] at this
              omega))
            clear hz hw1 hcell
            go_wp2_with fail
            go_quiet (fail)
            go_wp2_with fail
            go_ret
            exact ⟨by rw [HP.out]; rfl, below_quietN (B0.out.trans (HB.out.mono B0.out.size)) _⟩
          · have HZ := Lib.hid hz
            have hz1 : ((y : Int) == 0) = false := by rw [beq_eq_false_iff_ne]; omega
            clear hz
            cases j with
            | zero =>
              clear hcell
              go_wp2_with fail
              go_quiet (fail)
              go_wp2_with fail
              go_roundw
              case rel => exact ⟨1, by go_num, by omega, Lib.hid ⟨HM.out.1.succ (by rw [← HY.out]; have := HZ.out; omega), fun i hi => absurd hi (Nat.not_lt_zero _)⟩, Lib.hid (below_quietN HB.out _)⟩
              case measure => simp [intOf]; omega
            | succ k =>
              obtain ⟨e0, _⟩ := hcell k (by omega)
              obtain ⟨u, hu⟩ : ∃ u, u = (rs.getD k (0, 0)).1 := ⟨_, rfl⟩
              rw [← hu] at e0
              have HU := Lib.hid hu
              have hw2 : IntKind.i64.wrap (((k + 1 : Nat) : Int) - 1) = (k : Int) := by rw [IntWalk.i64_in _ (by omega)]; omega
              have hpos : decide ((0 : Int) < ((k + 1 : Nat) : Int)) = true := decide_eq_true (by omega)
              have hpos' : decide (0 < k + 1) = true := decide_eq_true (by omega)
              have hkn : (k : Int) < (n : Int) := by omega
              clear hu hcell
              obtain ⟨j, hjk⟩ : ∃ j, j = k + 1 := ⟨_, rfl⟩
              rw [← hjk] at HM c0 c1 hdec hdec' hw1 hjn hw2 hpos hpos' hj hlt HX HY ⊢
              have HJ := Lib.hid hjk
              have hks : k < n := by omega
              clear hjk
              by_cases hle : x ≤ u
              · have hd2 : decide (x ≤ u) = true := decide_eq_true hle
                have HL := Lib.hid hle
                have HP : Hid (decide (MayP rs) = false) := Lib.hid (decide_eq_false (fun hp => by
                  have := ((MayP.of HLN.out).1 hp).2.2.2 k (by have := HJ.out; omega)
                  rw [← HU.out, ← HJ.out, ← HX.out] at this
                  have := HL.out
                  omega))
                clear hle hw1
                go_wp2_with fail
                go_quiet (fail)
                go_wp2_with fail
                go_ret
                exact ⟨by rw [HP.out]; rfl, below_quietN (B0.out.trans (HB.out.mono B0.out.size)) _⟩
              · have hd2 : decide (x ≤ u) = false := decide_eq_false hle
                have HL := Lib.hid hle
                clear hle
                go_wp2_with fail
                go_quiet (fail)
                go_wp2_with fail
                go_roundw
                case rel => exact ⟨j + 1, by go_num, by omega, Lib.hid ⟨HM.out.1.succ (by rw [← HY.out]; have := HZ.out; omega), by
                  have e : j + 1 - 1 = k + 1 := by have := HJ.out; omega
                  have e2 : j - 1 = k := by have := HJ.out; omega
                  have h2 := HM.out.2
                  rw [e2] at h2
                  rw [e]
                  refine h2.succ ?_
                  rw [← HU.out, ← HJ.out, ← HX.out]
                  have := HL.out
                  omega⟩, Lib.hid (below_quietN HB.out _)⟩
                case measure => simp [intOf]; omega
        · have hjm : j = n := by omega
          subst hjm
          have hdec : decide ((j : Int) < (j : Int)) = false := decide_eq_false (by omega)
          have HP : Hid (decide (MayP rs) = true) := Lib.hid (decide_eq_true ((MayP.of HLN.out).2 ⟨HN.out.1, HN.out.2, HM.out.1, HM.out.2⟩))
          go_wp2_with fail
          go_ret
          exact ⟨by rw [HP.out]; rfl, B0.out.trans (HB.out.mono B0.out.size)⟩

theorem own_neN {w : World} {base e n B T size : Nat} {v : Value} {xs cs : List Value} (h : w.ownsRow base e size v n xs) (hB : Blk w B T cs) (hne : T ≠ e) : v.ownBlock ≠ some B := by
  rcases h.2 with ⟨rfl, _⟩ | ⟨g, cap, cur, rfl, _, hh, _⟩
  · intro h; cases h
  · intro h
    have : g = B := by simpa [Value.ownBlock] using h
    subst this
    have h2 := hB.get
    rw [hh] at h2
    injection h2 with h2
    injection h2 with _ ht
    exact hne ht.symm
theorem own_keepN {w w' : World} {base e n size : Nat} {v : Value} {xs : List Value} (h : w.ownsRow base e size v n xs) (hb : Below w.heap.size w w') : w'.ownsRow base e size v n xs := by
  refine ⟨h.1, ?_⟩
  rcases h.2 with h0 | ⟨g, cap, cur, hv, hg, hh, hr⟩
  · exact .inl h0
  · exact .inr ⟨g, cap, cur, hv, hg, (hb.block g (Array.getElem?_eq_some_iff.1 hh).1).trans hh, hr⟩
theorem own_setN {w : World} {base e n size g T : Nat} {v : Value} {xs cs : List Value} (h : w.ownsRow base e size v n xs) (hB : Blk w g T cs) (hne : T ≠ e) (i : Nat) (u : Value) : (w.setCell ⟨g, i, none⟩ u).ownsRow base e size v n xs := ownsRow_setCell_other (a := ⟨g, i, none⟩) h (own_neN h hB hne) u
theorem wp_append_isN {P : Program} {o : Oper} {a : Act} {w : World} {K : Act → World → Prop} {Q : Exit → Act → World → Prop} (s x : Operand) (t : TypeId)
    (ho : o.op = .call { callee := .builtin .append, args := #[s, x], argTypes := #[t, t] }) (v u : Value) (hs : a.eval s = v) (hx : a.eval x = u) {v' : Value} {w' : World}
    (hr : (Builtin.append_ #[t, t] o.type #[v, u]).run P w = .ok v' w') (h : K (a.put o.dst v') w') : o.wp P a w K Q := by
  unfold Oper.wp execOp
  simp only [ho, resolve, invoke, builtin, Sem.run_bind, Sem.run_pure, Result.andThen_ok, List.map_toArray, List.map_cons, List.map_nil, hs, hx, hr]
  exact h
theorem wpList_append_isN {P : Program} {w : World} {ops : Array Oper} {rest : List Oper} {o : Oper} {a : Act} {Q : Exit → Act → World → Prop} (hgd : o.guard = none) (s x : Operand) (t : TypeId)
    (ho : o.op = .call { callee := .builtin .append, args := #[s, x], argTypes := #[t, t] }) (v u : Value) (hs : a.eval s = v) (hx : a.eval x = u) {v' : Value} {w' : World}
    (hr : (Builtin.append_ #[t, t] o.type #[v, u]).run P w = .ok v' w') (h : wpList P ops Q rest (a.put o.dst v') w') : wpList P ops Q (o :: rest) a w :=
  wpList_plain hgd fun _ hK => wp_append_isN s x t ho v u hs hx hr (hK _ _ h)
theorem infoRowR : (Try.prog.info? 64).map (fun i => (i.zero, i.size, i.bytes)) = some (some (.agg #[.int .u32 0, .int .u32 0]), 2, 8) := by kernel_rfl
/-- A row appended to rows of one's own. -/
theorem run_append_row (w : World) (base B x y : Nat) (v : Value) (rs : List RowT) (hown : w.ownsRow base 64 2 v rs.length (rowsV rs)) (hB : Blk w B 64 [.int .u32 (x : Int), .int .u32 (y : Int)]) (hn : rs.length ≤ 1000000) (hbs : base ≤ w.heap.size) :
    ∃ g cap w', (∀ ty, (Builtin.append_ #[43, 43] ty #[v, .slice (some ⟨B, 0, none⟩) 1 1]).run Try.prog w = .ok (.slice (some ⟨g, 0, none⟩) (rs.length + 1) cap) w') ∧
      w'.ownsRow base 64 2 (.slice (some ⟨g, 0, none⟩) (rs.length + 1) cap) (rs ++ [(x, y)]).length (rowsV (rs ++ [(x, y)])) ∧ Below base w w' ∧ (∀ k t cs, t ≠ 64 → Blk w k t cs → Blk w' k t cs) := by
  obtain ⟨i0, hi, hz0, hz1, hz2⟩ := info_parts infoRowR
  obtain ⟨v', w', hr, h3, h4, _⟩ := run_append_own (P := Try.prog) w base 43 0 64 i0 _ 2 8 Try.underlying43 hi hz0 hz1 hz2 rfl (by decide) v rs.length (rowsV rs) hown ⟨B, 0, none⟩ 1 1 [.int .u32 (x : Int), .int .u32 (y : Int)] rfl
    (World.news_of_block (cs := #[.int .u32 (x : Int), .int .u32 (y : Int)]) hB.get) (rowsV_one [(x, y)]) (by simp only [maxLen]; omega) (by omega) hbs
  obtain ⟨g, cap, rfl, _, _⟩ := h3.form (by omega)
  refine ⟨g, cap, w', fun _ => hr, ?_, (Below.refl _ _).grown h4 hbs (fun k hk => (hown.lt k hk).1), fun k t cs ht hb => hb.grown h4 (fun e => own_neN hown hb ht e.symm)⟩
  rw [List.length_append, rowsV_append]
  exact h3
/-- Rows of one's own, as a slice. -/
theorem Rws.of_own {w : World} {base e : Nat} {v : Value} {rs : List RowT} (h : w.ownsRow base e 2 v rs.length (rowsV rs)) (hb : ∀ j, j < rs.length → (rs.getD j (0, 0)).1 < 4294967296 ∧ (rs.getD j (0, 0)).2 < 4294967296) :
    ∃ A c, v = .slice A rs.length c ∧ rs.length ≤ c ∧ (c : Int) ≤ 9223372036854775807 ∧ Rws w A rs.length rs := by
  rcases h.2 with ⟨rfl, h0⟩ | ⟨g, cap, cur, rfl, _, hh, hnc, hcm, hs, ht⟩
  · have hz : rs = [] := List.eq_nil_of_length_eq_zero h0
    subst hz
    exact ⟨none, 0, rfl, Nat.le_refl _, by decide, Rws.nil _ _⟩
  · refine ⟨some ⟨g, 0, none⟩, cap, rfl, hnc, by simp only [maxLen] at hcm; omega, rfl, hb, fun _ => ⟨g, 0, rfl, fun j hj => ?_⟩⟩
    obtain ⟨g1, g2⟩ := rowsV_get rs j hj
    have key : ∀ i u, (rowsV rs)[i]? = some u → w.cell? ⟨g, i, none⟩ = some u := fun i u hu => by
      rw [cell_of_row w g i cur e (0, 0) hh, ← hu, ← ht]
      have hil : i < (rowsV rs).length := (List.getElem?_eq_some_iff.1 hu).1
      rw [rowsV_len] at hil
      rw [List.getElem?_take_of_lt hil, Array.getElem?_toList]
    rw [Nat.zero_add]
    exact ⟨key _ _ g1, key _ _ g2⟩

set_option maxHeartbeats 8000000 in
theorem law_Of (ep : Nat) (A : Option Addr) (n c : Nat) (rs : List RowT) (w : World) (h : Rws w A n rs) (hc : n ≤ c) (hn : n ≤ 100000) :
    Calls Try.prog 13 #[.agg #[.int .u32 (ep : Int), .slice A n c]] w fun e w' => (∃ A' c', e = .returned (.agg #[.int .u32 (ep : Int), .slice A' n c']) ∧ Rws w' A' n rs ∧ n ≤ c' ∧ (c' : Int) ≤ 9223372036854775807) ∧ Below w.heap.size w w' := by
  obtain ⟨W0, hW0⟩ : ∃ W0, W0 = ((w.alloc (.cells #[.int .u32 (ep : Int), .slice A n c] 38)).alloc (.cells #[.int .u32 0, .slice none 0 0] 45)).alloc (.cells #[.int .u32 (ep : Int), .slice none 0 0] 45) := ⟨_, rfl⟩
  have F0 : Hid (Blk W0 w.heap.size 38 [.int .u32 (ep : Int), .slice A n c] ∧ Blk W0 (w.heap.size + 1) 45 [.int .u32 0, .slice none 0 0] ∧ Blk W0 (w.heap.size + 1 + 1) 45 [.int .u32 (ep : Int), .slice none 0 0]) := Lib.hid (by
    rw [hW0]
    refine ⟨((show Blk _ _ _ _ from heap_alloc_new w _).alloc _).alloc _, ?_, ?_⟩
    · have h := (show Blk _ _ _ _ from heap_alloc_new (w.alloc (.cells #[.int .u32 (ep : Int), .slice A n c] 38)) (.cells #[.int .u32 0, .slice none 0 0] 45 (0, 0))).alloc (.cells #[.int .u32 (ep : Int), .slice none 0 0] 45)
      rw [World.size_alloc] at h
      exact h
    · have h := (show Blk _ _ _ _ from heap_alloc_new ((w.alloc (.cells #[.int .u32 (ep : Int), .slice A n c] 38)).alloc (.cells #[.int .u32 0, .slice none 0 0] 45)) (.cells #[.int .u32 (ep : Int), .slice none 0 0] 45 (0, 0)))
      rw [World.size_alloc, World.size_alloc] at h
      exact h)
  have B0 : Hid (Below w.heap.size w W0) := Lib.hid (by rw [hW0]; exact (((Below.refl _ _).alloc (Nat.le_refl _) _).alloc (by simp) _).alloc (by simp; omega) _)
  have HR : Hid (∀ W, Below w.heap.size w W → Rws W A n rs) := Lib.hid (fun W hb => h.keep hb)
  have HLN : Hid (rs.length = n) := Lib.hid h.1
  have q1 := F0.out.1.cell 1
  dsimp only [List.getElem?_cons_zero, List.getElem?_cons_succ] at q1
  clear h
  go_enter Try.func13, Try.ntmps13
  go_wp2_with fail
  rw [← hW0]
  clear hW0
  go_loopw [12] (fun iv wr => ∃ (j : Nat) (v : Value), iv = .int .i64 (j : Int) ∧ j ≤ n ∧ Hid (wr.ownsRow w.heap.size 64 2 v (rs.take j).length (rowsV (rs.take j))) ∧ Hid (Blk wr (w.heap.size + 1) 45 [.int .u32 0, .slice none 0 0] ∧ Blk wr (w.heap.size + 1 + 1) 45 [.int .u32 (ep : Int), v]) ∧ Hid (Below w.heap.size w wr)) (fun iv _ => n - (intOf iv).toNat)
  case atStart => exact ⟨0, .slice none 0 0, rfl, Nat.zero_le _, Lib.hid (by rw [List.take_zero]; exact World.ownsRow_nil _ _ _ _), Lib.hid F0.out.2, B0⟩
  case round =>
    obtain ⟨j, v, rfl, hj, HO, HZ, HB⟩ := hrel
    by_cases hlt : j < n
    · have HRw := Lib.hid (HR.out wr HB.out)
      obtain ⟨b, o, rfl, hcell⟩ := HRw.out.2.2 (by omega)
      obtain ⟨c0, c1⟩ := hcell j hlt
      obtain ⟨x, hx⟩ : ∃ x, x = (rs.getD j (0, 0)).1 := ⟨_, rfl⟩
      obtain ⟨y, hy⟩ : ∃ y, y = (rs.getD j (0, 0)).2 := ⟨_, rfl⟩
      rw [← hx] at c0
      rw [← hy] at c1
      have HNX : Hid (rs.take (j + 1) = rs.take j ++ [(x, y)]) := Lib.hid (by
        have hjl : j < rs.length := by rw [HLN.out]; exact hlt
        rw [List.take_succ_eq_append_getElem hjl, hx, hy, List.getD_eq_getElem?_getD, List.getElem?_eq_getElem hjl]
        rfl)
      have HTL : Hid ((rs.take j).length = j) := Lib.hid (by rw [List.length_take, HLN.out]; omega)
      obtain ⟨W1, hW1⟩ : ∃ W1, W1 = wr.alloc (.cells #[.int .u32 (x : Int), .int .u32 (y : Int)] 65) := ⟨_, rfl⟩
      obtain ⟨W2, hW2⟩ : ∃ W2, W2 = W1.alloc (.cells #[.int .u32 (x : Int), .int .u32 (y : Int)] 64) := ⟨_, rfl⟩
      have bl1 : Below wr.heap.size wr W1 := by rw [hW1]; exact (Below.refl _ _).alloc (Nat.le_refl _) _
      have bl2 : Below W1.heap.size W1 W2 := by rw [hW2]; exact (Below.refl _ _).alloc (Nat.le_refl _) _
      have bl : Below wr.heap.size wr W2 := bl1.trans (bl2.mono bl1.size)
      have hs1 : W1.heap.size = wr.heap.size + 1 := by rw [hW1]; simp
      have hB2 : Blk W2 (wr.heap.size + 1) 64 [.int .u32 (x : Int), .int .u32 (y : Int)] := by rw [hW2, ← hs1]; exact heap_alloc_new W1 _
      obtain ⟨g, cap, w3, hap, hown, hb3, hk3⟩ := run_append_row W2 w.heap.size (wr.heap.size + 1) x y v (rs.take j) (own_keepN HO.out bl) hB2 (by rw [HTL.out]; omega) (Nat.le_trans HB.out.size bl.size)
      rw [HTL.out] at hap hown
      have Z3 : Hid (Blk w3 (w.heap.size + 1) 45 [.int .u32 0, .slice none 0 0] ∧ Blk w3 (w.heap.size + 1 + 1) 45 [.int .u32 (ep : Int), v]) := Lib.hid ⟨hk3 _ _ _ (by decide) (HZ.out.1.keep bl), hk3 _ _ _ (by decide) (HZ.out.2.keep bl)⟩
      have O3 := Lib.hid hown
      have B3 : Hid (Below w.heap.size w w3) := Lib.hid ((HB.out.trans (bl.mono HB.out.size)).trans hb3)
      have d1 := (HZ.out.2.keep bl1).cell 1
      have m1 := Z3.out.2.cell 1
      have f1 := Z3.out.2.frozen 1
      dsimp only [List.getElem?_cons_zero, List.getElem?_cons_succ] at d1 m1
      rw [hW2, hW1] at hap
      rw [hW1] at d1
      have hdec : decide ((j : Int) < (n : Int)) = true := decide_eq_true (by omega)
      have hw1 : IntKind.i64.wrap ((j : Int) + 1) = ((j + 1 : Nat) : Int) := by rw [IntWalk.i64_in _ (by omega)]; omega
      have HAP := Lib.hid hap
      clear hx hy hcell hW1 hW2 bl1 bl2 bl hs1 hB2 hown hb3 hk3 HO HZ HB q1 hap
      go_wp2_with (at_builtin; refine wpList_append_isN rfl _ _ _ rfl _ _ rfl rfl (HAP.out _) ?_)
      go_roundw
      case rel => exact ⟨j + 1, .slice (some ⟨g, 0, none⟩) (j + 1) cap, by go_num, by omega, Lib.hid (by rw [HNX.out]; exact own_setN O3.out Z3.out.2 (by decide) _ _), Lib.hid ⟨Z3.out.1.far (show w.heap.size + 1 ≠ w.heap.size + 1 + 1 by omega) _, Z3.out.2.set_ 1 _⟩, Lib.hid (B3.out.setCell (p := ⟨w.heap.size + 1 + 1, 1, none⟩) (by show w.heap.size ≤ w.heap.size + 1 + 1; omega) _)⟩
      case measure => simp [intOf]; omega
    · have hjm : j = n := by omega
      subst hjm
      have hdec : decide ((j : Int) < (j : Int)) = false := decide_eq_false (by omega)
      rw [List.take_of_length_le (by rw [HLN.out]; exact Nat.le_refl _)] at HO
      obtain ⟨A', c', hv, hc1, hc2, hR2⟩ := Rws.of_own HO.out (by rw [HLN.out]; exact (HR.out wr HB.out).2.1)
      have HRR := Lib.hid hR2
      rw [HLN.out] at HRR hv hc1
      subst hv
      have g0 := HZ.out.2.cell 0
      have g1 := HZ.out.2.cell 1
      have h0 := HZ.out.1.cell 0
      have h1 := HZ.out.1.cell 1
      have p0 := HZ.out.1.frozen 0
      have p1 := HZ.out.1.frozen 1
      dsimp only [List.getElem?_cons_zero, List.getElem?_cons_succ] at g0 g1 h0 h1
      clear hR2 HO q1
      go_wp2_with fail
      clear g0 g1 h0 h1 p0 p1
      have GP := (HZ.out.1.set_ 0 (.int .u32 (ep : Int))).set_ 1 (.slice A' j c')
      have d0 := GP.cell 0
      have d1 := GP.cell 1
      dsimp only [List.getElem?_cons_zero, List.getElem?_cons_succ, List.set_cons_zero, List.set_cons_succ] at d0 d1
      refine bodyPost_ret (v := .agg #[.int .u32 (ep : Int), .slice A' j c']) (by simp [results, Try.results13, go_sem, d0, d1]) rfl ⟨⟨A', c', rfl, ?_, hc1, hc2⟩, ?_⟩
      · exact (HRR.out.far2 HZ.out.1 0 _).far2 (HZ.out.1.set_ 0 (.int .u32 (ep : Int))) 1 _
      · exact (HB.out.setCell (p := ⟨w.heap.size + 1, 0, none⟩) (by show w.heap.size ≤ w.heap.size + 1; omega) _).setCell (p := ⟨w.heap.size + 1, 1, none⟩) (by show w.heap.size ≤ w.heap.size + 1; omega) _

end Go.Proofs.Ytackddgihdnmgaa
