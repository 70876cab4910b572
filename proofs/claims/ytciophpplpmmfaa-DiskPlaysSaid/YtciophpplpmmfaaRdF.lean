/- The document's disk: contract of New. Written by wip/tools/gen_rdnew.py. -/
import Derived.Test.YtciophpplpmmfaaRdE
namespace Go.Proofs.Ytciophpplpmmfaa
open Go.RowKit

abbrev n5o0 : Oper := { dst := some 10, op := Op.fieldAddr 31 (Operand.tmp 3) 0, type := 0, pos := "ref.go:25", after := #[], guard := none }
abbrev n5o1 : Oper := { dst := some 11, op := Op.load 28 (Operand.tmp 10), type := 28, pos := "ref.go:25", after := #[{ on := 0, ground := Ground.data }], guard := none }
abbrev n5o2 : Oper := { dst := some 12, op := Op.call { callee := Callee.value (Operand.func 23), args := #[], argTypes := #[] }, type := 9, pos := "ref.go:25", after := #[], guard := none }
abbrev n5o3 : Oper := { dst := some 13, op := Op.buildSlice 28 1 #[(0, Operand.tmp 12)], type := 28, pos := "ref.go:25", after := #[{ on := 2, ground := Ground.data }], guard := none }
abbrev n5o4 : Oper := { dst := some 14, op := Op.call { callee := Callee.builtin Builtin.append, args := #[Operand.tmp 11, Operand.tmp 13], argTypes := #[28, 28] }, type := 28, pos := "ref.go:25", after := #[{ on := 1, ground := Ground.data }, { on := 3, ground := Ground.data }, { on := 2, ground := Ground.chain }], guard := none }
abbrev n5o5 : Oper := { dst := some 15, op := Op.fieldAddr 31 (Operand.tmp 3) 0, type := 0, pos := "ref.go:25", after := #[{ on := 0, ground := Ground.phase }, { on := 1, ground := Ground.phase }, { on := 2, ground := Ground.phase }, { on := 3, ground := Ground.phase }, { on := 4, ground := Ground.phase }], guard := none }
abbrev n5o6 : Oper := { dst := none, op := Op.store 28 (Operand.tmp 15) (Operand.tmp 14), type := 0, pos := "ref.go:25", after := #[{ on := 5, ground := Ground.data }, { on := 4, ground := Ground.data }, { on := 4, ground := Ground.chain }, { on := 0, ground := Ground.phase }, { on := 1, ground := Ground.phase }, { on := 2, ground := Ground.phase }, { on := 3, ground := Ground.phase }, { on := 4, ground := Ground.phase }], guard := none }

set_option maxHeartbeats 4000000 in
set_option maxRecDepth 100000 in
theorem ref_New12 (n : Nat) (w : World) (hn1 : 1 ≤ n) (hn : n ≤ 4096) :
    Calls Try.prog 9 #[.int .i64 (n : Int)] w fun e w' => ∃ B m d, e = .returned (rdV B m d none 0 0 (newD n)) ∧ StrS w' (.slice B m d) (newD n).lasts ∧ Below w.heap.size w w' := by
  unfold rdV
  obtain ⟨i0, hi, hz0, hz1, hz2⟩ := info_parts infoString
  have HBL := Lib.hid ref_Blank
  have HLD : Hid (∀ (X : World) (sv b c : Value) (d : Value), Blk X (w.heap.size + 1) 31 [sv, b, c, d] → (Instr.loadAt 28 (.pointer (some ⟨w.heap.size + 1, 0, none⟩))).run Try.prog X = .ok sv X) := Lib.hid (fun X sv b c d h => by
    have hc := h.fourR.1
    clear h
    go_simp)
  have HST : Hid (∀ (X : World) (g m cap : Nat) (a b c d : Value), Blk X (w.heap.size + 1) 31 [a, b, c, d] → (Instr.storeAt 28 (.pointer (some ⟨w.heap.size + 1, 0, none⟩)) (.slice (some ⟨g, 0, none⟩) m cap)).run Try.prog X = .ok () (X.setCell ⟨w.heap.size + 1, 0, none⟩ (.slice (some ⟨g, 0, none⟩) m cap))) := Lib.hid (fun X g m cap a b c d h => by
    have hc := h.fourR.1
    have hf := h.frozen 0
    clear h
    go_simp)
  have HOW : Hid (∀ (X : World) (k : Nat) {v : Value}, X.ownsRow (w.heap.size + 2) 9 1 v (k + 1) (strsV (List.replicate k (secOf 0)) ++ [.string (bs (secOf 0))]) → X.ownsRow (w.heap.size + 2) 9 1 v (k + 1) (strsV (List.replicate (k + 1) (secOf 0)))) := Lib.hid (fun X k v h => by
    rw [List.replicate_succ']
    unfold strsV at h ⊢
    rw [List.map_append]
    exact h)
  obtain ⟨W0, hW0⟩ : ∃ W0, W0 = ((w.alloc (.cells #[.slice none 0 0, .slice none 0 0, .int .i64 0, .int .i64 0] 31)).alloc (.cells #[.slice none 0 0, .slice none 0 0, .int .i64 0, .int .i64 0] 31)) := ⟨_, rfl⟩
  have B0 : Hid (Below w.heap.size w W0) := Lib.hid (by rw [hW0]; exact ((Below.refl w.heap.size w).alloc (Nat.le_refl _) _).alloc (grow1 _ _) _)
  have Z0 : Hid (Blk W0 w.heap.size 31 [.slice none 0 0, .slice none 0 0, .int .i64 0, .int .i64 0]) := Lib.hid (by rw [hW0]; exact (Blk.alloc (w := w.alloc _) (heap_alloc_new w _) _))
  have R0 : Hid (Blk W0 (w.heap.size + 1) 31 [.slice none 0 0, .slice none 0 0, .int .i64 0, .int .i64 0]) := Lib.hid (by
    rw [hW0]
    have h := heap_alloc_new (w.alloc (.cells #[.slice none 0 0, .slice none 0 0, .int .i64 0, .int .i64 0] 31)) (.cells #[.slice none 0 0, .slice none 0 0, .int .i64 0, .int .i64 0] 31)
    rw [show (w.alloc (.cells #[.slice none 0 0, .slice none 0 0, .int .i64 0, .int .i64 0] 31)).heap.size = w.heap.size + 1 from by simp] at h
    exact h)
  have S0 : Hid (w.heap.size + 2 ≤ W0.heap.size) := Lib.hid (by rw [hW0]; simp)
  have HW0 := Lib.hid hW0
  clear hW0
  go_enter Try.func9, Try.ntmps9
  go_wp2_with fail
  rw [← HW0.out]
  try simp only [Act.put, List.setIfInBounds_toArray, List.set_cons_succ, List.set_cons_zero]
  go_loopw [4] (fun iv wr => ∃ (k : Nat) (sv : Value), iv = .int .i64 k ∧ k ≤ n ∧ Hid (Blk wr (w.heap.size + 1) 31 [sv, .slice none 0 0, .int .i64 0, .int .i64 0]) ∧ Hid (Blk wr w.heap.size 31 [.slice none 0 0, .slice none 0 0, .int .i64 0, .int .i64 0]) ∧ Hid (wr.ownsRow (w.heap.size + 2) 9 1 sv k (strsV (List.replicate k (secOf 0)))) ∧ Hid (Below w.heap.size w wr) ∧ Hid (w.heap.size + 2 ≤ wr.heap.size)) (fun iv _ => n - (intOf iv).toNat)
  case atStart => exact ⟨0, _, rfl, Nat.zero_le _, R0, Z0, Lib.hid (World.ownsRow_nil _ _ _ _), B0, S0⟩
  case round =>
    obtain ⟨k, sv, rfl, hk, HR, HZ, HO, HB, HSZ⟩ := hrel
    by_cases hlt : k < n
    · have hd : decide ((k : Int) < (n : Int)) = true := decide_eq_true (by omega)
      have hd3 : decide (k < n) = true := decide_eq_true hlt
      have HLT := Lib.hid hlt
      have hkw : IntKind.i64.wrap ((k : Int) + 1) = (k : Int) + 1 := IntWalk.i64_in _ (by omega)
      have hk4 : k ≤ 4096 := by omega
      have L0 := Lib.hid (HLD.out wr.drew _ _ _ _ HR.out)
      clear hlt hk
      go_wp2_with fail
      refine wp_region_any (by kernel_rfl) ?_
      (try change wpAny _ _ _ _ _ _ _ (World.drew _))
      refine wpAny_take (i := 0) (oi := n5o0) (v := ?_) rfl (by kernel_rfl) (by kernel_rfl) (by kernel_rfl) (fun _ _ _ h => h) (Or.inl ⟨by rfl, ?_⟩) ?_
      rotate_left
      · (intro w; dsimp only [n5o0]; go_simp; try (with_reducible rfl))
      (try simp only [Act.put, List.setIfInBounds_toArray, List.set_cons_zero, List.set_cons_succ])
      refine wpAny_ready (rs := [1, 2]) (by kernel_rfl) (by simp) ?_
      refine AllReady.cons (o := n5o1) rfl (fun K hK => ?_) (AllReady.cons (o := n5o2) rfl (fun K hK => ?_) AllReady.nil)
      · rw [if_pos (by rfl)]
        refine wp_load_is _ _ rfl ⟨w.heap.size + 1, 0, none⟩ rfl sv L0.out ?_
        refine hK _ _ ?_
        clear hK K
        (try simp only [Act.put, List.setIfInBounds_toArray, List.set_cons_zero, List.set_cons_succ])
        refine wpAny_ready (rs := [2]) (by kernel_rfl) (by simp) ?_
        refine AllReady.cons (o := n5o2) rfl (fun K hK => ?_) AllReady.nil
        have HK := Lib.hid hK
        clear hK
        dsimp only [n5o2]
        go_simp
        refine (HBL.out _).mono ?_
        rintro e W1 ⟨rfl, bl1⟩
        have bl := (Below.refl wr.heap.size wr).drew.trans bl1
        have R1 := Lib.hid (HR.out.keep bl)
        have Z1 := Lib.hid (HZ.out.keep bl)
        have O1 := Lib.hid (ownW_keep HO.out bl)
        have B1 := Lib.hid (HB.out.trans (bl.mono HB.out.size))
        have S1 := Lib.hid (Nat.le_trans HSZ.out bl.size)
        have L1 := Lib.hid (HLD.out W1 _ _ _ _ R1.out)
        have L2 := Lib.hid (HLD.out (W1.alloc (.cells #[.string (bs (secOf 0))] 9)) _ _ _ _ (R1.out.alloc _))
        clear bl bl1
        (try go_wp2_with fail)
        refine HK.out _ _ ?_
        clear HK K
        (try simp only [Act.put, List.setIfInBounds_toArray, List.set_cons_zero, List.set_cons_succ])
        refine wpAny_ready (rs := [3]) (by kernel_rfl) (by simp) ?_
        refine AllReady.cons (o := n5o3) rfl (fun K hK => ?_) AllReady.nil
        rw [if_pos (by rfl)]
        refine wp_build_is _ _ _ rfl #[(0, .string (bs (secOf 0)))] (by simp [Act.eval]) (.slice (some ⟨W1.heap.size, 0, none⟩) 1 1) (W1.alloc (.cells #[.string (bs (secOf 0))] 9)) (by go_simp; try rfl) ?_
        refine hK _ _ ?_
        clear hK K
        (try simp only [Act.put, List.setIfInBounds_toArray, List.set_cons_zero, List.set_cons_succ])
        refine wpAny_ready (rs := [4]) (by kernel_rfl) (by simp) ?_
        refine AllReady.cons (o := n5o4) rfl (fun K hK => ?_) AllReady.nil
        rw [if_pos (by rfl)]
        refine wp_append_own _ _ _ 28 rfl (w.heap.size + 2) 9 i0 (.string ⟨#[]⟩) 1 16 Try.underlying28 hi hz0 hz1 hz2 rfl (by decide) _ _ _ rfl (O1.out.alloc _) ⟨W1.heap.size, 0, none⟩ 1 1 [.string (bs (secOf 0))] rfl rfl (World.news_of_block (cs := #[.string (bs (secOf 0))]) (heap_alloc_new W1 _)) (by intro u hu; simp at hu; subst hu; rfl) (by simp only [maxLen]; omega) (by omega) (Nat.le_trans S1.out (grow1 _ _)) ?_
        intro v2 W2 hown hgr _
        have bl : Below (w.heap.size + 2) W1 W2 := ((Below.refl _ _).alloc S1.out _).grown hgr (Nat.le_trans S1.out (grow1 _ _)) (fun j hj => (O1.out.lt j hj).1)
        have R2 := Lib.hid (R1.out.below bl (by omega))
        have Z2 := Lib.hid (Z1.out.below bl (by omega))
        have B2 := Lib.hid (B1.out.trans (bl.mono (by omega)))
        have S2 := Lib.hid (Nat.le_trans S1.out bl.size)
        have O2 := Lib.hid (HOW.out _ _ hown)
        clear hown hgr bl
        obtain ⟨g, cap, junk, rfl, hgb, _, _, hbk⟩ := own_blk O2.out (Nat.succ_pos _)
        have R3 := Lib.hid (R2.out.set_ 0 (.slice (some ⟨g, 0, none⟩) (k + 1) cap))
        have Z3 := Lib.hid (Z2.out.far (p := ⟨w.heap.size + 1, 0, none⟩) (by show w.heap.size ≠ w.heap.size + 1; omega) (.slice (some ⟨g, 0, none⟩) (k + 1) cap))
        have B3 := Lib.hid (B2.out.setCell (p := ⟨w.heap.size + 1, 0, none⟩) (Nat.le_succ _) (.slice (some ⟨g, 0, none⟩) (k + 1) cap))
        have O3 : Hid ((W2.setCell ⟨w.heap.size + 1, 0, none⟩ (.slice (some ⟨g, 0, none⟩) (k + 1) cap)).ownsRow (w.heap.size + 2) 9 1 (.slice (some ⟨g, 0, none⟩) (k + 1) cap) (k + 1) (strsV (List.replicate (k + 1) (secOf 0)))) := Lib.hid (ownsRow_setCell_other O2.out (own_ne O2.out R2.out (by decide)) (.slice (some ⟨g, 0, none⟩) (k + 1) cap))
        have S3 : Hid (w.heap.size + 2 ≤ (W2.setCell ⟨w.heap.size + 1, 0, none⟩ (.slice (some ⟨g, 0, none⟩) (k + 1) cap)).heap.size) := Lib.hid (by simp [World.setCell]; exact S2.out)
        have ST := Lib.hid (HST.out W2 g (k + 1) cap _ _ _ _ R2.out)
        clear hgb hbk
        refine hK _ _ ?_
        clear hK K
        (try simp only [Act.put, List.setIfInBounds_toArray, List.set_cons_zero, List.set_cons_succ])
        refine wpAny_take (i := 5) (oi := n5o5) (v := ?_) rfl (by kernel_rfl) (by kernel_rfl) (by kernel_rfl) (fun _ _ _ h => h) (Or.inl ⟨by rfl, ?_⟩) ?_
        rotate_left
        · (intro w; dsimp only [n5o5]; go_simp; try (with_reducible rfl))
        (try simp only [Act.put, List.setIfInBounds_toArray, List.set_cons_zero, List.set_cons_succ])
        refine wpAny_ready (rs := [6]) (by kernel_rfl) (by simp) ?_
        refine AllReady.cons (o := n5o6) rfl (fun K hK => ?_) AllReady.nil
        rw [if_pos (by rfl)]
        refine wp_store_is _ _ _ rfl ⟨w.heap.size + 1, 0, none⟩ rfl _ rfl _ ST.out ?_
        refine hK _ _ ?_
        clear hK K
        (try simp only [Act.put, List.setIfInBounds_toArray, List.set_cons_zero, List.set_cons_succ])
        refine wpAny_done (by kernel_rfl) ?_ _
        go_wp2_with fail
        try simp only [Act.put, List.setIfInBounds_toArray, List.set_cons_succ, List.set_cons_zero]
        go_roundw
        case rel => first | exact ⟨k + 1, .slice (some ⟨g, 0, none⟩) (k + 1) cap, by go_num, by have := HLT.out; omega, R3, Z3, O3, B3, S3⟩ | exact ⟨_, _, _, _, _, _, _, _, _, _, ⟨k + 1, .slice (some ⟨g, 0, none⟩) (k + 1) cap, by go_num, by have := HLT.out; omega, R3, Z3, O3, B3, S3⟩, rfl⟩
        case measure => have := HLT.out; simp [intOf]; omega
      · have HK := Lib.hid hK
        clear hK
        dsimp only [n5o2]
        go_simp
        refine (HBL.out _).mono ?_
        rintro e W1 ⟨rfl, bl1⟩
        have bl := (Below.refl wr.heap.size wr).drew.trans bl1
        have R1 := Lib.hid (HR.out.keep bl)
        have Z1 := Lib.hid (HZ.out.keep bl)
        have O1 := Lib.hid (ownW_keep HO.out bl)
        have B1 := Lib.hid (HB.out.trans (bl.mono HB.out.size))
        have S1 := Lib.hid (Nat.le_trans HSZ.out bl.size)
        have L1 := Lib.hid (HLD.out W1 _ _ _ _ R1.out)
        have L2 := Lib.hid (HLD.out (W1.alloc (.cells #[.string (bs (secOf 0))] 9)) _ _ _ _ (R1.out.alloc _))
        clear bl bl1
        (try go_wp2_with fail)
        refine HK.out _ _ ?_
        clear HK K
        (try simp only [Act.put, List.setIfInBounds_toArray, List.set_cons_zero, List.set_cons_succ])
        refine wpAny_ready (rs := [1, 3]) (by kernel_rfl) (by simp) ?_
        refine AllReady.cons (o := n5o1) rfl (fun K hK => ?_) (AllReady.cons (o := n5o3) rfl (fun K hK => ?_) AllReady.nil)
        · rw [if_pos (by rfl)]
          refine wp_load_is _ _ rfl ⟨w.heap.size + 1, 0, none⟩ rfl sv L1.out ?_
          refine hK _ _ ?_
          clear hK K
          (try simp only [Act.put, List.setIfInBounds_toArray, List.set_cons_zero, List.set_cons_succ])
          refine wpAny_ready (rs := [3]) (by kernel_rfl) (by simp) ?_
          refine AllReady.cons (o := n5o3) rfl (fun K hK => ?_) AllReady.nil
          rw [if_pos (by rfl)]
          refine wp_build_is _ _ _ rfl #[(0, .string (bs (secOf 0)))] (by simp [Act.eval]) (.slice (some ⟨W1.heap.size, 0, none⟩) 1 1) (W1.alloc (.cells #[.string (bs (secOf 0))] 9)) (by go_simp; try rfl) ?_
          refine hK _ _ ?_
          clear hK K
          (try simp only [Act.put, List.setIfInBounds_toArray, List.set_cons_zero, List.set_cons_succ])
          refine wpAny_ready (rs := [4]) (by kernel_rfl) (by simp) ?_
          refine AllReady.cons (o := n5o4) rfl (fun K hK => ?_) AllReady.nil
          rw [if_pos (by rfl)]
          refine wp_append_own _ _ _ 28 rfl (w.heap.size + 2) 9 i0 (.string ⟨#[]⟩) 1 16 Try.underlying28 hi hz0 hz1 hz2 rfl (by decide) _ _ _ rfl (O1.out.alloc _) ⟨W1.heap.size, 0, none⟩ 1 1 [.string (bs (secOf 0))] rfl rfl (World.news_of_block (cs := #[.string (bs (secOf 0))]) (heap_alloc_new W1 _)) (by intro u hu; simp at hu; subst hu; rfl) (by simp only [maxLen]; omega) (by omega) (Nat.le_trans S1.out (grow1 _ _)) ?_
          intro v2 W2 hown hgr _
          have bl : Below (w.heap.size + 2) W1 W2 := ((Below.refl _ _).alloc S1.out _).grown hgr (Nat.le_trans S1.out (grow1 _ _)) (fun j hj => (O1.out.lt j hj).1)
          have R2 := Lib.hid (R1.out.below bl (by omega))
          have Z2 := Lib.hid (Z1.out.below bl (by omega))
          have B2 := Lib.hid (B1.out.trans (bl.mono (by omega)))
          have S2 := Lib.hid (Nat.le_trans S1.out bl.size)
          have O2 := Lib.hid (HOW.out _ _ hown)
          clear hown hgr bl
          obtain ⟨g, cap, junk, rfl, hgb, _, _, hbk⟩ := own_blk O2.out (Nat.succ_pos _)
          have R3 := Lib.hid (R2.out.set_ 0 (.slice (some ⟨g, 0, none⟩) (k + 1) cap))
          have Z3 := Lib.hid (Z2.out.far (p := ⟨w.heap.size + 1, 0, none⟩) (by show w.heap.size ≠ w.heap.size + 1; omega) (.slice (some ⟨g, 0, none⟩) (k + 1) cap))
          have B3 := Lib.hid (B2.out.setCell (p := ⟨w.heap.size + 1, 0, none⟩) (Nat.le_succ _) (.slice (some ⟨g, 0, none⟩) (k + 1) cap))
          have O3 : Hid ((W2.setCell ⟨w.heap.size + 1, 0, none⟩ (.slice (some ⟨g, 0, none⟩) (k + 1) cap)).ownsRow (w.heap.size + 2) 9 1 (.slice (some ⟨g, 0, none⟩) (k + 1) cap) (k + 1) (strsV (List.replicate (k + 1) (secOf 0)))) := Lib.hid (ownsRow_setCell_other O2.out (own_ne O2.out R2.out (by decide)) (.slice (some ⟨g, 0, none⟩) (k + 1) cap))
          have S3 : Hid (w.heap.size + 2 ≤ (W2.setCell ⟨w.heap.size + 1, 0, none⟩ (.slice (some ⟨g, 0, none⟩) (k + 1) cap)).heap.size) := Lib.hid (by simp [World.setCell]; exact S2.out)
          have ST := Lib.hid (HST.out W2 g (k + 1) cap _ _ _ _ R2.out)
          clear hgb hbk
          refine hK _ _ ?_
          clear hK K
          (try simp only [Act.put, List.setIfInBounds_toArray, List.set_cons_zero, List.set_cons_succ])
          refine wpAny_take (i := 5) (oi := n5o5) (v := ?_) rfl (by kernel_rfl) (by kernel_rfl) (by kernel_rfl) (fun _ _ _ h => h) (Or.inl ⟨by rfl, ?_⟩) ?_
          rotate_left
          · (intro w; dsimp only [n5o5]; go_simp; try (with_reducible rfl))
          (try simp only [Act.put, List.setIfInBounds_toArray, List.set_cons_zero, List.set_cons_succ])
          refine wpAny_ready (rs := [6]) (by kernel_rfl) (by simp) ?_
          refine AllReady.cons (o := n5o6) rfl (fun K hK => ?_) AllReady.nil
          rw [if_pos (by rfl)]
          refine wp_store_is _ _ _ rfl ⟨w.heap.size + 1, 0, none⟩ rfl _ rfl _ ST.out ?_
          refine hK _ _ ?_
          clear hK K
          (try simp only [Act.put, List.setIfInBounds_toArray, List.set_cons_zero, List.set_cons_succ])
          refine wpAny_done (by kernel_rfl) ?_ _
          go_wp2_with fail
          try simp only [Act.put, List.setIfInBounds_toArray, List.set_cons_succ, List.set_cons_zero]
          go_roundw
          case rel => first | exact ⟨k + 1, .slice (some ⟨g, 0, none⟩) (k + 1) cap, by go_num, by have := HLT.out; omega, R3, Z3, O3, B3, S3⟩ | exact ⟨_, _, _, _, _, _, _, _, _, _, ⟨k + 1, .slice (some ⟨g, 0, none⟩) (k + 1) cap, by go_num, by have := HLT.out; omega, R3, Z3, O3, B3, S3⟩, rfl⟩
          case measure => have := HLT.out; simp [intOf]; omega
        · rw [if_pos (by rfl)]
          refine wp_build_is _ _ _ rfl #[(0, .string (bs (secOf 0)))] (by simp [Act.eval]) (.slice (some ⟨W1.heap.size, 0, none⟩) 1 1) (W1.alloc (.cells #[.string (bs (secOf 0))] 9)) (by go_simp; try rfl) ?_
          refine hK _ _ ?_
          clear hK K
          (try simp only [Act.put, List.setIfInBounds_toArray, List.set_cons_zero, List.set_cons_succ])
          refine wpAny_ready (rs := [1]) (by kernel_rfl) (by simp) ?_
          refine AllReady.cons (o := n5o1) rfl (fun K hK => ?_) AllReady.nil
          rw [if_pos (by rfl)]
          refine wp_load_is _ _ rfl ⟨w.heap.size + 1, 0, none⟩ rfl sv L2.out ?_
          refine hK _ _ ?_
          clear hK K
          (try simp only [Act.put, List.setIfInBounds_toArray, List.set_cons_zero, List.set_cons_succ])
          refine wpAny_ready (rs := [4]) (by kernel_rfl) (by simp) ?_
          refine AllReady.cons (o := n5o4) rfl (fun K hK => ?_) AllReady.nil
          rw [if_pos (by rfl)]
          refine wp_append_own _ _ _ 28 rfl (w.heap.size + 2) 9 i0 (.string ⟨#[]⟩) 1 16 Try.underlying28 hi hz0 hz1 hz2 rfl (by decide) _ _ _ rfl (O1.out.alloc _) ⟨W1.heap.size, 0, none⟩ 1 1 [.string (bs (secOf 0))] rfl rfl (World.news_of_block (cs := #[.string (bs (secOf 0))]) (heap_alloc_new W1 _)) (by intro u hu; simp at hu; subst hu; rfl) (by simp only [maxLen]; omega) (by omega) (Nat.le_trans S1.out (grow1 _ _)) ?_
          intro v2 W2 hown hgr _
          have bl : Below (w.heap.size + 2) W1 W2 := ((Below.refl _ _).alloc S1.out _).grown hgr (Nat.le_trans S1.out (grow1 _ _)) (fun j hj => (O1.out.lt j hj).1)
          have R2 := Lib.hid (R1.out.below bl (by omega))
          have Z2 := Lib.hid (Z1.out.below bl (by omega))
          have B2 := Lib.hid (B1.out.trans (bl.mono (by omega)))
          have S2 := Lib.hid (Nat.le_trans S1.out bl.size)
          have O2 := Lib.hid (HOW.out _ _ hown)
          clear hown hgr bl
          obtain ⟨g, cap, junk, rfl, hgb, _, _, hbk⟩ := own_blk O2.out (Nat.succ_pos _)
          have R3 := Lib.hid (R2.out.set_ 0 (.slice (some ⟨g, 0, none⟩) (k + 1) cap))
          have Z3 := Lib.hid (Z2.out.far (p := ⟨w.heap.size + 1, 0, none⟩) (by show w.heap.size ≠ w.heap.size + 1; omega) (.slice (some ⟨g, 0, none⟩) (k + 1) cap))
          have B3 := Lib.hid (B2.out.setCell (p := ⟨w.heap.size + 1, 0, none⟩) (Nat.le_succ _) (.slice (some ⟨g, 0, none⟩) (k + 1) cap))
          have O3 : Hid ((W2.setCell ⟨w.heap.size + 1, 0, none⟩ (.slice (some ⟨g, 0, none⟩) (k + 1) cap)).ownsRow (w.heap.size + 2) 9 1 (.slice (some ⟨g, 0, none⟩) (k + 1) cap) (k + 1) (strsV (List.replicate (k + 1) (secOf 0)))) := Lib.hid (ownsRow_setCell_other O2.out (own_ne O2.out R2.out (by decide)) (.slice (some ⟨g, 0, none⟩) (k + 1) cap))
          have S3 : Hid (w.heap.size + 2 ≤ (W2.setCell ⟨w.heap.size + 1, 0, none⟩ (.slice (some ⟨g, 0, none⟩) (k + 1) cap)).heap.size) := Lib.hid (by simp [World.setCell]; exact S2.out)
          have ST := Lib.hid (HST.out W2 g (k + 1) cap _ _ _ _ R2.out)
          clear hgb hbk
          refine hK _ _ ?_
          clear hK K
          (try simp only [Act.put, List.setIfInBounds_toArray, List.set_cons_zero, List.set_cons_succ])
          refine wpAny_take (i := 5) (oi := n5o5) (v := ?_) rfl (by kernel_rfl) (by kernel_rfl) (by kernel_rfl) (fun _ _ _ h => h) (Or.inl ⟨by rfl, ?_⟩) ?_
          rotate_left
          · (intro w; dsimp only [n5o5]; go_simp; try (with_reducible rfl))
          (try simp only [Act.put, List.setIfInBounds_toArray, List.set_cons_zero, List.set_cons_succ])
          refine wpAny_ready (rs := [6]) (by kernel_rfl) (by simp) ?_
          refine AllReady.cons (o := n5o6) rfl (fun K hK => ?_) AllReady.nil
          rw [if_pos (by rfl)]
          refine wp_store_is _ _ _ rfl ⟨w.heap.size + 1, 0, none⟩ rfl _ rfl _ ST.out ?_
          refine hK _ _ ?_
          clear hK K
          (try simp only [Act.put, List.setIfInBounds_toArray, List.set_cons_zero, List.set_cons_succ])
          refine wpAny_done (by kernel_rfl) ?_ _
          go_wp2_with fail
          try simp only [Act.put, List.setIfInBounds_toArray, List.set_cons_succ, List.set_cons_zero]
          go_roundw
          case rel => first | exact ⟨k + 1, .slice (some ⟨g, 0, none⟩) (k + 1) cap, by go_num, by have := HLT.out; omega, R3, Z3, O3, B3, S3⟩ | exact ⟨_, _, _, _, _, _, _, _, _, _, ⟨k + 1, .slice (some ⟨g, 0, none⟩) (k + 1) cap, by go_num, by have := HLT.out; omega, R3, Z3, O3, B3, S3⟩, rfl⟩
          case measure => have := HLT.out; simp [intOf]; omega
    · obtain rfl : n = k := by omega
      have hd : decide ((n : Int) < (n : Int)) = false := decide_eq_false (by omega)
      have hd3 : decide (n < n) = false := decide_eq_false (by omega)
      obtain ⟨g, cap, junk, rfl, hgb, hnc, hcm, hbk⟩ := own_blk HO.out (by omega)
      obtain ⟨W7, run7, hR7, hB7, hK7⟩ := store_rd HZ.out (some ⟨g, 0, none⟩) n cap none 0 0 0 0
      have RUN7 := Lib.hid run7
      have R7 := Lib.hid hR7
      have B7 := Lib.hid (hB7 _ _ HB.out (Nat.le_refl _))
      have G7 := Lib.hid (hK7 _ _ _ hbk (by omega))
      have HNC := Lib.hid hnc
      have HCM := Lib.hid hcm
      obtain ⟨r0, r1, r2, r3⟩ := HR.out.fourR
      clear hlt hk hgb hnc hcm hbk run7 hR7 hB7 hK7
      go_wp2_with (refine wpList_store_to rfl 31 _ _ rfl ⟨w.heap.size, 0, none⟩ rfl (.agg #[.slice (some ⟨g, 0, none⟩) n cap, .slice none 0 0, .int .i64 0, .int .i64 0]) rfl W7 RUN7.out ?_)
      obtain ⟨e0, e1, e2, e3⟩ := R7.out.fourR
      refine bodyPost_ret (v := .agg #[.slice (some ⟨g, 0, none⟩) n cap, .slice none 0 0, .int .i64 0, .int .i64 0]) (by simp [results, Try.results9, go_sem, e0, e1, e2, e3]) rfl ⟨_, _, _, rfl, ?_, B7.out⟩
      exact StrS.of_blk (L := List.replicate n (secOf 0)) G7.out (by rw [List.length_replicate]) HNC.out HCM.out

end Go.Proofs.Ytciophpplpmmfaa
