/- The document's disk: contract of Sync. -/
import Derived.Test.YtbekebpkaeefiaaDoorJRda
namespace Go.Proofs.YtbekebpkaeefiaaDoor
set_option maxRecDepth 100000
open Go.RowKit

/-- A store of a whole disk's value. -/
theorem store_rd {w : World} {g : Nat} {a b c d : Value} (h : Blk w g 31 [a, b, c, d]) (A : Option Addr) (n k : Nat) (A' : Option Addr) (n' k' : Nat) (x y : Int) :
    ∃ W', (Instr.storeAt 31 (.pointer (some ⟨g, 0, none⟩)) (.agg #[.slice A n k, .slice A' n' k', .int .i64 x, .int .i64 y])).run Tryd.prog w = .ok () W' ∧ Blk W' g 31 [.slice A n k, .slice A' n' k', .int .i64 x, .int .i64 y] ∧ (∀ B w0, Below B w0 w → B ≤ g → Below B w0 W') ∧ (∀ j t cs, Blk w j t cs → j ≠ g → Blk W' j t cs) :=
  ⟨((((w.setCell ⟨g, 0, none⟩ (.slice A n k)).setCell ⟨g, 1, none⟩ (.slice A' n' k')).setCell ⟨g, 2, none⟩ (.int .i64 x)).setCell ⟨g, 3, none⟩ (.int .i64 y)),
    run_storeAt_mid (P := Tryd.prog) w g 0 31 #[.slice A n k, .slice A' n' k', .int .i64 x, .int .i64 y] h.thereR (by kernel_rfl) (by simp [Value.oneCell']),
    h.putR _ _ _ _, fun B w0 hb hg => below_putR hb hg _ _ _ _, fun j t cs hj hne => hj.far4 hne _ _ _ _⟩
theorem WriS.empty (w : World) : WriS w (.slice none 0 0) [] := ⟨_, _, rfl, Nat.le_refl _, by simp [maxLen], fun h => absurd h (Nat.lt_irrefl _)⟩
theorem settleK_true (ws : List (Nat × List UInt8)) : ∀ ls, settleK ls (ws.zip (List.replicate ws.length true)) = settle ls ws := by
  induction ws with
  | nil => intro ls; rfl
  | cons x r ih =>
    intro ls
    show settleK (ls.set x.1 x.2) (r.zip (List.replicate r.length true)) = settle (ls.set x.1 x.2) r
    exact ih _
theorem bools_set (k m : Nat) : (List.replicate k (Value.bool true) ++ List.replicate (m + 1) (Value.bool false)).set k (.bool true) = List.replicate (k + 1) (Value.bool true) ++ List.replicate m (Value.bool false) := by
  rw [List.set_append_right _ _ (by rw [List.length_replicate]; exact Nat.le_refl _), List.length_replicate, Nat.sub_self, List.replicate_succ, List.set_cons_zero, List.replicate_succ' (n := k), List.append_assoc]
  rfl

set_option maxHeartbeats 4000000 in
set_option maxRecDepth 100000 in
theorem ref_Sync12 (w : World) (A : Option Addr) (n c : Nat) (A' : Option Addr) (n' c' : Nat) (D : DSt) (hS : StrS w (.slice A n c) D.lasts) (hW : WriS w (.slice A' n' c') D.waits)
    (ha : ArmOk D) (hp : 0 < n) (hn : n ≤ 4096) (hn' : n' ≤ 1000000) (hops : D.ops ≤ 1000000000) (hwl : ∀ x ∈ D.waits, x.1 < D.lasts.length) (hNW : n' = 0 → A' = none ∧ c' = 0) :
    Calls Tryd.prog 12 #[rdV A n c A' n' c' D] w fun e w' => ∃ B m d B' m' d', e = .returned (.tuple #[rdV B m d B' m' d' (syD D).1, .int .i64 (((syD D).2 : Nat) : Int)]) ∧ StrS w' (.slice B m d) (syD D).1.lasts ∧ WriS w' (.slice B' m' d') (syD D).1.waits ∧ (m' = 0 → B' = none ∧ d' = 0) ∧ Below w.heap.size w w' := by
  obtain ⟨ib, hib, hbz0, hbz1, hbz2⟩ := info_parts infoBool
  have hC := fun W => ref_count W A n c A' n' c' D ha
  have HSY : Hid (((fires D).2 = true ∧ syD D = ((fires D).1, 7)) ∨ ((fires D).2 = false ∧ syD D = (synced (fires D).1, 0))) := Lib.hid (by
    unfold syD
    cases (fires D).2
    · exact .inr ⟨rfl, if_neg (by simp)⟩
    · exact .inl ⟨rfl, if_pos rfl⟩)
  have HF1 := Lib.hid (fires_lasts D)
  have HF2 := Lib.hid (fires_waits D)
  have HF3 := Lib.hid (fires_ops D)
  generalize hs : syD D = sy at HSY ⊢
  generalize hE : (fires D).1 = E at hC HSY HF1 HF2 HF3
  generalize hbad : (fires D).2 = bad at hC HSY
  rw [← HF1.out] at hS hwl
  rw [← HF2.out] at hW hwl
  rw [← HF3.out] at hops
  have HCN := Lib.hid hC
  unfold rdV
  unfold rdV at HCN
  obtain ⟨W0, hW0⟩ : ∃ W0, W0 = ((w.alloc (.cells #[.slice A n c, .slice A' n' c', .int .i64 D.armed, .int .i64 (D.ops : Int)] 31)).alloc (.cells #[.slice none 0 0, .slice none 0 0, .int .i64 0, .int .i64 0] 31)) := ⟨_, rfl⟩
  have B0 : Hid (Below w.heap.size w W0) := Lib.hid (by rw [hW0]; exact ((Below.refl w.heap.size w).alloc (Nat.le_refl _) _).alloc (grow1 _ _) _)
  have R0 : Hid (Blk W0 w.heap.size 31 [.slice A n c, .slice A' n' c', .int .i64 D.armed, .int .i64 (D.ops : Int)]) := Lib.hid (by rw [hW0]; exact (Blk.alloc (w := w.alloc _) (heap_alloc_new w _) _))
  have Z0 : Hid (Blk W0 (w.heap.size + 1) 31 [.slice none 0 0, .slice none 0 0, .int .i64 0, .int .i64 0]) := Lib.hid (by
    rw [hW0]
    have h := heap_alloc_new (w.alloc (.cells #[.slice A n c, .slice A' n' c', .int .i64 D.armed, .int .i64 (D.ops : Int)] 31)) (.cells #[.slice none 0 0, .slice none 0 0, .int .i64 0, .int .i64 0] 31)
    rw [show (w.alloc (.cells #[.slice A n c, .slice A' n' c', .int .i64 D.armed, .int .i64 (D.ops : Int)] 31)).heap.size = w.heap.size + 1 from by simp] at h
    exact h)
  have HW0 := Lib.hid hW0
  have HSS := Lib.hid hS
  have HWW := Lib.hid hW
  have HWL := Lib.hid hwl
  have HNN := Lib.hid hNW
  clear hC hs hE hbad hS hW hwl hW0 ha hNW
  go_enter Tryd.func12, Tryd.ntmps12
  go_wp2_with fail
  rw [← HW0.out]
  refine (HCN.out _).mono ?_
  rintro e W2 ⟨rfl, bl⟩
  have B2 := Lib.hid (B0.out.trans (bl.mono B0.out.size))
  obtain ⟨W3, run3, hR3, hB3, hK3⟩ := store_rd (R0.out.keep bl) A n c A' n' c' E.armed (E.ops : Int)
  have RUN3 := Lib.hid run3
  have R3 := Lib.hid hR3
  have B3 := Lib.hid (hB3 _ _ B2.out (Nat.le_refl _))
  have Z3 := Lib.hid (hK3 _ _ _ (Z0.out.keep bl) (by omega))
  clear bl run3 hR3 hB3 hK3
  obtain ⟨q0, q1, q2, q3⟩ := R3.out.fourR
  rcases HSY.out with ⟨hb, hsy⟩ | ⟨hb, hsy⟩
  · subst hb hsy
    obtain ⟨W4, run4, hR4, hB4, hK4⟩ := store_rd Z3.out A n c A' n' c' E.armed (E.ops : Int)
    have RUN4 := Lib.hid run4
    have R4 := Lib.hid hR4
    have B4 := Lib.hid (hB4 _ _ B3.out (Nat.le_succ _))
    clear run4 hR4 hB4 hK4
    go_wp2_with (first | (refine wpList_store_to rfl 31 _ _ rfl ⟨w.heap.size, 0, none⟩ rfl (.agg #[.slice A n c, .slice A' n' c', .int .i64 E.armed, .int .i64 (E.ops : Int)]) rfl W3 RUN3.out ?_) | (refine wpList_store_to rfl 31 _ _ rfl ⟨w.heap.size + 1, 0, none⟩ rfl (.agg #[.slice A n c, .slice A' n' c', .int .i64 E.armed, .int .i64 (E.ops : Int)]) rfl W4 RUN4.out ?_))
    obtain ⟨d0, d1, d2, d3⟩ := R4.out.fourR
    refine bodyPost_ret (v := .tuple #[.agg #[.slice A n c, .slice A' n' c', .int .i64 E.armed, .int .i64 (E.ops : Int)], .int .i64 7]) (by simp [results, Tryd.results12, go_sem, d0, d1, d2, d3]) rfl ⟨_, _, _, _, _, _, rfl, HSS.out.keep B4.out, HWW.out.keep B4.out, HNN.out, B4.out⟩
  · subst hb hsy
    have HNW : Hid (n' = E.waits.length) := Lib.hid HWW.out.cellAt.1
    go_wp2_with (first | (refine wpList_store_to rfl 31 _ _ rfl ⟨w.heap.size, 0, none⟩ rfl (.agg #[.slice A n c, .slice A' n' c', .int .i64 E.armed, .int .i64 (E.ops : Int)]) rfl W3 RUN3.out ?_) | (at_make; refine wpList_make_full _ rfl _ _ 34 rfl W3.heap.size 4 ib (.bool false) 1 Tryd.underlying34 hib hbz0 hbz1 .i64 .i64 _ _ n' rfl rfl rfl rfl (by rw [hbz2]; omega) (by simp only [maxLen]; omega) (Nat.le_refl _) ?_; intro w4 hown hgr; have G0 := Lib.hid hown; have GR := Lib.hid hgr; clear hown hgr))
    have l1 : w.heap.size < W3.heap.size := R3.out.lt
    have l2 : w.heap.size + 1 < W3.heap.size := Z3.out.lt
    have L1 := Lib.hid l1
    have L2 := Lib.hid l2
    have G1 : Hid (Blk w4 W3.heap.size 4 (List.replicate 0 (.bool true) ++ List.replicate (n' - 0) (.bool false))) := Lib.hid (Blk.of_make G0.out (by omega))
    have bl4 : Below W3.heap.size W3 w4 := (Below.refl W3.heap.size W3).grown GR.out (Nat.le_refl _) (fun k hk => by cases hk)
    have R4 := Lib.hid (R3.out.keep bl4)
    have Z4 := Lib.hid (Z3.out.keep bl4)
    have B4 := Lib.hid (B3.out.trans (bl4.mono B3.out.size))
    clear bl4 l1 l2 G0 GR q0 q1 q2 q3
    try simp only [Act.put, List.setIfInBounds_toArray, List.set_cons_succ, List.set_cons_zero]
    go_loopw [6] (fun iv wr => ∃ (k : Nat), iv = .int .i64 k ∧ k ≤ n' ∧ Hid (Blk wr w.heap.size 31 [.slice A n c, .slice A' n' c', .int .i64 E.armed, .int .i64 (E.ops : Int)]) ∧ Hid (Blk wr (w.heap.size + 1) 31 [.slice none 0 0, .slice none 0 0, .int .i64 0, .int .i64 0]) ∧ Hid (Blk wr W3.heap.size 4 (List.replicate k (.bool true) ++ List.replicate (n' - k) (.bool false))) ∧ Hid (Below w.heap.size w wr)) (fun iv _ => n' - (intOf iv).toNat)
    case atStart => exact ⟨0, rfl, Nat.zero_le _, R4, Z4, G1, B4⟩
    case round =>
      obtain ⟨k, rfl, hk, HR, HZ, HG, HB⟩ := hrel
      by_cases hlt : k < n'
      · have hd : decide ((k : Int) < (n' : Int)) = true := decide_eq_true (by omega)
        have HLT := Lib.hid hlt
        have hkw : IntKind.i64.wrap ((k : Int) + 1) = (k : Int) + 1 := IntWalk.i64_in _ (by omega)
        obtain ⟨m, hm⟩ : ∃ m, n' - k = m + 1 := ⟨n' - k - 1, by omega⟩
        have hc : wr.cell? ⟨W3.heap.size, k, none⟩ = some (.bool false) := by
          rw [HG.out.cell, List.getElem?_append_right (by rw [List.length_replicate]; exact Nat.le_refl _), List.length_replicate, Nat.sub_self, hm, List.replicate_succ]
          rfl
        have hf := HG.out.frozen k
        have R5 := Lib.hid (HR.out.far (p := ⟨W3.heap.size, k, none⟩) (by show w.heap.size ≠ W3.heap.size; have := L1.out; omega) (.bool true))
        have Z5 := Lib.hid (HZ.out.far (p := ⟨W3.heap.size, k, none⟩) (by show w.heap.size + 1 ≠ W3.heap.size; have := L2.out; omega) (.bool true))
        have G5 : Hid (Blk (wr.setCell ⟨W3.heap.size, k, none⟩ (.bool true)) W3.heap.size 4 (List.replicate (k + 1) (.bool true) ++ List.replicate (n' - (k + 1)) (.bool false))) := Lib.hid (by
          have h := HG.out.set_ k (.bool true)
          rw [hm, bools_set] at h
          rw [show n' - (k + 1) = m from by omega]
          exact h)
        have B5 := Lib.hid (HB.out.setCell (p := ⟨W3.heap.size, k, none⟩) (by show w.heap.size ≤ W3.heap.size; have := L1.out; omega) (.bool true))
        clear hm hk
        go_wp2_with fail
        go_roundw
        case rel => exact ⟨k + 1, by go_num, by have := HLT.out; omega, R5, Z5, G5, B5⟩
        case measure => have := HLT.out; simp [intOf]; omega
      · obtain rfl : n' = k := by omega
        have hd : decide ((n' : Int) < (n' : Int)) = false := decide_eq_false (by omega)
        have hd3 : decide (n' < n') = false := decide_eq_false (by omega)
        have HCR : Hid (Calls Tryd.prog 14 #[.agg #[.slice A n c, .slice A' n' c', .int .i64 E.armed, .int .i64 (E.ops : Int)], .slice (some ⟨W3.heap.size, 0, none⟩) n' n'] wr fun e w' => ∃ B m d, e = .returned (.agg #[.slice B m d, .slice none 0 0, .int .i64 E.armed, .int .i64 (E.ops : Int)]) ∧ StrS w' (.slice B m d) (settle E.lasts E.waits) ∧ Below wr.heap.size wr w') := Lib.hid (by
          have h := ref_Crash12 wr A n c A' n' c' E (some ⟨W3.heap.size, 0, none⟩) n' n' (List.replicate n' true) (HSS.out.keep HB.out) (HWW.out.keep HB.out) ⟨List.length_replicate, fun _ => ⟨W3.heap.size, 0, rfl, fun j hj => by
            rw [Nat.zero_add, HG.out.cell, Nat.sub_self, List.replicate_zero, List.append_nil, List.getElem?_replicate, if_pos hj, List.getD_eq_getElem?_getD, List.getElem?_replicate, if_pos hj]
            rfl⟩⟩ hp hn hn' (by omega) HWL.out
          have e : settle E.lasts E.waits = settleK E.lasts (E.waits.zip (List.replicate n' true)) := by rw [HNW.out]; exact (settleK_true _ _).symm
          rw [e]
          exact h)
        obtain ⟨r0, r1, r2, r3⟩ := HR.out.fourR
        clear hlt hk
        go_wp2_with fail
        clear r0 r1 r2 r3
        refine HCR.out.mono ?_
        rintro e W5 ⟨B, m, d, rfl, hs5, bl⟩
        have S5 := Lib.hid hs5
        have B5 := Lib.hid (HB.out.trans (bl.mono HB.out.size))
        have BL5 := Lib.hid bl
        obtain ⟨W6, run6, hR6, hB6, hK6⟩ := store_rd (HR.out.keep bl) B m d none 0 0 E.armed (E.ops : Int)
        have RUN6 := Lib.hid run6
        have R6 := Lib.hid hR6
        have B6 := Lib.hid (hB6 _ _ B5.out (Nat.le_refl _))
        have Z6 := Lib.hid (hK6 _ _ _ (HZ.out.keep bl) (by omega))
        have S6 : Hid (StrS W6 (.slice B m d) (settle E.lasts E.waits)) := Lib.hid (S5.out.of fun b cs hb => hK6 _ _ _ hb (by
          intro e
          subst e
          exact absurd ((HR.out.keep bl).get.symm.trans hb.get) (by intro h; injection h with h; injection h with _ h _; exact absurd h (by decide))))
        have R7 := Lib.hid (R6.out.set_ 3 (.int .i64 ((E.ops : Int) + 1)))
        have Z7 := Lib.hid (Z6.out.far (p := ⟨w.heap.size, 3, none⟩) (by show w.heap.size + 1 ≠ w.heap.size; omega) (.int .i64 ((E.ops : Int) + 1)))
        have B7 := Lib.hid (B6.out.setCell (p := ⟨w.heap.size, 3, none⟩) (Nat.le_refl _) (.int .i64 ((E.ops : Int) + 1)))
        have S7 : Hid (StrS (W6.setCell ⟨w.heap.size, 3, none⟩ (.int .i64 ((E.ops : Int) + 1))) (.slice B m d) (settle E.lasts E.waits)) := Lib.hid (S6.out.of fun b cs hb => hb.far (p := ⟨w.heap.size, 3, none⟩) (hb.ne_ R6.out (by decide)) _)
        obtain ⟨W8, run8, hR8, hB8, hK8⟩ := store_rd Z7.out B m d none 0 0 E.armed ((E.ops : Int) + 1)
        have RUN8 := Lib.hid run8
        have R8 := Lib.hid hR8
        have B8 := Lib.hid (hB8 _ _ B7.out (Nat.le_succ _))
        have S8 : Hid (StrS W8 (.slice B m d) (settle E.lasts E.waits)) := Lib.hid (S7.out.of fun b cs hb => hK8 _ _ _ hb (hb.ne_ Z7.out (by decide)))
        obtain ⟨r0, r1, r2, r3⟩ := R6.out.fourR
        have f3 := R6.out.frozen 3
        obtain ⟨p0, p1, p2, p3⟩ := R7.out.fourR
        have how : IntKind.i64.wrap ((E.ops : Int) + 1) = (E.ops : Int) + 1 := IntWalk.i64_in _ (by omega)
        clear hs5 bl run6 hR6 hB6 hK6 run8 hR8 hB8 hK8
        go_wp2_with (first | (refine wpList_store_to rfl 31 _ _ rfl ⟨w.heap.size, 0, none⟩ rfl (.agg #[.slice B m d, .slice none 0 0, .int .i64 E.armed, .int .i64 (E.ops : Int)]) rfl W6 RUN6.out ?_) | (refine wpList_store_to rfl 31 _ _ rfl ⟨w.heap.size + 1, 0, none⟩ rfl (.agg #[.slice B m d, .slice none 0 0, .int .i64 E.armed, .int .i64 ((E.ops : Int) + 1)]) rfl W8 RUN8.out ?_))
        obtain ⟨d0, d1, d2, d3⟩ := R8.out.fourR
        refine bodyPost_ret (v := .tuple #[.agg #[.slice B m d, .slice none 0 0, .int .i64 E.armed, .int .i64 ((E.ops : Int) + 1)], .int .i64 0]) (by simp [results, Tryd.results12, go_sem, d0, d1, d2, d3]) rfl ⟨_, _, _, _, _, _, rfl, S8.out, WriS.empty _, fun _ => ⟨rfl, rfl⟩, B8.out⟩

end Go.Proofs.YtbekebpkaeefiaaDoor
