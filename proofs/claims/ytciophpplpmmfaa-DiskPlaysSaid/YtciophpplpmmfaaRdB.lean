/- The document's disk: contract of Crash. -/
import Derived.Test.YtciophpplpmmfaaRdA
import Derived.Test.YtciophpplpmmfaaDiskLasts
import Derived.Deep.RegionHeld3
import Derived.Deep.AppendLies
import Derived.Deep.MidRow
namespace Go.Proofs.Ytciophpplpmmfaa
open Go.RowKit

theorem wpList_store_to {P : Program} {ops : Array Oper} {rest : List Oper} {o : Oper} {a : Act} {w : World} {Q : Exit → Act → World → Prop} (hg : o.guard = none) (ty : TypeId) (x y : Operand) (ho : o.op = .store ty x y)
    (ad : Addr) (hx : a.eval x = .pointer (some ad)) (v : Value) (hy : a.eval y = v) (w' : World) (hrun : (Instr.storeAt ty (.pointer (some ad)) v).run P w = .ok () w') (h : wpList P ops Q rest (a.put o.dst undef) w') : wpList P ops Q (o :: rest) a w :=
  wpList_plain hg fun _ hK => wp_store_is ty x y ho ad hx v hy w' hrun (hK _ _ h)
theorem Blk.putR {w : World} {g t : Nat} {a b c d : Value} (h : Blk w g t [a, b, c, d]) (a' b' c' d' : Value) : Blk ((((w.setCell ⟨g, 0, none⟩ a').setCell ⟨g, 1, none⟩ b').setCell ⟨g, 2, none⟩ c').setCell ⟨g, 3, none⟩ d') g t [a', b', c', d'] :=
  (((h.set_ 0 a').set_ 1 b').set_ 2 c').set_ 3 d'
theorem below_putR {B g : Nat} {w w' : World} (h : Below B w w') (hg : B ≤ g) (a b c d : Value) : Below B w ((((w'.setCell ⟨g, 0, none⟩ a).setCell ⟨g, 1, none⟩ b).setCell ⟨g, 2, none⟩ c).setCell ⟨g, 3, none⟩ d) :=
  (((h.setCell (p := ⟨g, 0, none⟩) hg a).setCell (p := ⟨g, 1, none⟩) hg b).setCell (p := ⟨g, 2, none⟩) hg c).setCell (p := ⟨g, 3, none⟩) hg d
theorem Blk.far4 {w : World} {g g' t : Nat} {cs : List Value} (h : Blk w g t cs) (hne : g ≠ g') (a b c d : Value) : Blk ((((w.setCell ⟨g', 0, none⟩ a).setCell ⟨g', 1, none⟩ b).setCell ⟨g', 2, none⟩ c).setCell ⟨g', 3, none⟩ d) g t cs :=
  (((h.far (p := ⟨g', 0, none⟩) hne a).far (p := ⟨g', 1, none⟩) hne b).far (p := ⟨g', 2, none⟩) hne c).far (p := ⟨g', 3, none⟩) hne d
theorem Blk.thereR {w : World} {g t : Nat} {a b c d : Value} (h : Blk w g t [a, b, c, d]) : w.there g 0 4 := fun j hj => by
  have e := h.cell j
  refine ⟨?_, h.frozen _⟩
  rw [Nat.zero_add, e]
  match j, hj with
  | 0, _ => rfl
  | 1, _ => rfl
  | 2, _ => rfl
  | 3, _ => rfl
theorem own_blk {w : World} {base e n : Nat} {v : Value} {xs : List Value} (h : w.ownsRow base e 1 v n xs) (hn : 0 < n) : ∃ g cap junk, v = .slice (some ⟨g, 0, none⟩) n cap ∧ base ≤ g ∧ n ≤ cap ∧ cap ≤ maxLen ∧ Blk w g e (xs ++ junk) := by
  rcases h.2 with ⟨_, h0⟩ | ⟨g, cap, cur, e1, hb, hh, hc, hm, _, htk⟩
  · omega
  · refine ⟨g, cap, cur.toList.drop (n * 1), e1, hb, hc, hm, ?_⟩
    unfold Blk
    rw [← htk, List.take_append_drop, Array.toArray_toList]
    exact hh
theorem StrS.of_blk {w : World} {g n cap : Nat} {L : List (List UInt8)} {junk : List Value} (h : Blk w g 9 (strsV L ++ junk)) (hn : n = L.length) (hc : n ≤ cap) (hm : cap ≤ maxLen) : StrS w (.slice (some ⟨g, 0, none⟩) n cap) L := by
  subst hn
  refine ⟨_, cap, rfl, hc, hm, fun _ => ⟨g, _, rfl, h, fun j hj => ?_⟩⟩
  unfold strsV
  rw [List.getElem?_append_left (by rw [List.length_map]; exact hj), List.getElem?_map, List.getElem?_eq_getElem hj, List.getD_eq_getElem?_getD, List.getElem?_eq_getElem hj]
  rfl
theorem strsV_set (L : List (List UInt8)) (i : Nat) (t : List UInt8) (junk : List Value) (hi : i < L.length) : (strsV L ++ junk).set i (.string (bs t)) = strsV (L.set i t) ++ junk := by
  rw [List.set_append_left _ _ (by unfold strsV; rw [List.length_map]; exact hi)]
  unfold strsV
  rw [List.map_set]
theorem StrS.news {w : World} {A : Option Addr} {n c : Nat} {ls : List (List UInt8)} (h : StrS w (.slice A n c) ls) (hp : 0 < n) : ∃ b, A = some ⟨b, 0, none⟩ ∧ ∀ j u, (strsV ls)[j]? = some u → w.cell? ((⟨b, 0, none⟩ : Addr).add j) = some u := by
  obtain ⟨hn, _, _, hc⟩ := h.cellAt
  obtain ⟨b, rfl, _⟩ := hc 0 hp
  refine ⟨b, rfl, fun j u hu => ?_⟩
  have hadd : (⟨b, 0, none⟩ : Addr).add j = ⟨b, j, none⟩ := by unfold Addr.add; split <;> simp_all
  rw [hadd]
  unfold strsV at hu
  rw [List.getElem?_map] at hu
  by_cases hj : j < ls.length
  · obtain ⟨b', e, hcj⟩ := hc j (by omega)
    injection e with e
    injection e with e
    subst e
    rw [hcj, List.getD_eq_getElem?_getD]
    rw [List.getElem?_eq_getElem hj] at hu ⊢
    exact hu
  · rw [List.getElem?_eq_none (by omega)] at hu
    cases hu
theorem strsV_len (L : List (List UInt8)) : (strsV L).length = L.length := by unfold strsV; rw [List.length_map]
set_option maxHeartbeats 4000000 in
set_option maxRecDepth 100000 in
theorem ref_Crash12 (w : World) (A : Option Addr) (n c : Nat) (A' : Option Addr) (n' c' : Nat) (D : DSt) (K : Option Addr) (kn kc : Nat) (ks : List Bool) (hS : StrS w (.slice A n c) D.lasts) (hW : WriS w (.slice A' n' c') D.waits) (hK : KSl w K kn ks)
    (hp : 0 < n) (hn : n ≤ 4096) (hn' : n' ≤ 1000000) (hkn : kn ≤ 1000000) (hwl : ∀ x ∈ D.waits, x.1 < D.lasts.length) :
    Calls Try.prog 27 #[rdV A n c A' n' c' D, .slice K kn kc] w fun e w' => ∃ B m d, e = .returned (rdV B m d none 0 0 (crashed D ks)) ∧ StrS w' (.slice B m d) (crashed D ks).lasts ∧ Below w.heap.size w w' := by
  unfold rdV
  obtain ⟨i0, hi, hz0, hz1, hz2⟩ := info_parts infoString
  have B0 := Lib.hid (((Below.refl w.heap.size w).alloc (Nat.le_refl _) (.cells #[.slice A n c, .slice A' n' c', .int .i64 D.armed, .int .i64 (D.ops : Int)] 31)).alloc (grow1 _ _) (.cells #[.slice none 0 0, .slice none 0 0, .int .i64 0, .int .i64 0] 31))
  obtain ⟨W0, hW0⟩ : ∃ W0, W0 = ((w.alloc (.cells #[.slice A n c, .slice A' n' c', .int .i64 D.armed, .int .i64 (D.ops : Int)] 31)).alloc (.cells #[.slice none 0 0, .slice none 0 0, .int .i64 0, .int .i64 0] 31)) := ⟨_, rfl⟩
  rw [← hW0] at B0
  obtain ⟨W1, hW1⟩ : ∃ W1, W1 = W0.alloc (.cells #[] 9) := ⟨_, rfl⟩
  have s0 : W0.heap.size = w.heap.size + 2 := by rw [hW0]; simp
  have B1 : Hid (Below w.heap.size w W1) := Lib.hid (by rw [hW1]; exact B0.out.alloc B0.out.size _)
  have R1 : Hid (Blk W1 w.heap.size 31 [.slice A n c, .slice A' n' c', .int .i64 D.armed, .int .i64 (D.ops : Int)]) := Lib.hid (by rw [hW1, hW0]; exact (Blk.alloc (w := w.alloc _) (heap_alloc_new w _) _).alloc _)
  have Z1 : Hid (Blk W1 (w.heap.size + 1) 31 [.slice none 0 0, .slice none 0 0, .int .i64 0, .int .i64 0]) := Lib.hid (by
    rw [hW1, hW0]
    have h := heap_alloc_new (w.alloc (.cells #[.slice A n c, .slice A' n' c', .int .i64 D.armed, .int .i64 (D.ops : Int)] 31)) (.cells #[.slice none 0 0, .slice none 0 0, .int .i64 0, .int .i64 0] 31)
    rw [show (w.alloc (.cells #[.slice A n c, .slice A' n' c', .int .i64 D.armed, .int .i64 (D.ops : Int)] 31)).heap.size = w.heap.size + 1 from by simp] at h
    exact Blk.alloc (w := (w.alloc _).alloc _) h _)
  have OW1 : Hid (W1.ownsRow (w.heap.size + 2) 9 1 (.slice (some ⟨w.heap.size + 2, 0, none⟩) 0 0) 0 []) := Lib.hid (by
    refine ⟨rfl, .inr ⟨w.heap.size + 2, 0, #[], rfl, Nat.le_refl _, ?_, Nat.le_refl _, by simp [maxLen], rfl, rfl⟩⟩
    rw [hW1, ← s0]
    exact heap_alloc_new W0 _)
  have S1 : Hid (w.heap.size + 2 ≤ W1.heap.size) := Lib.hid (by rw [hW1, ← s0]; exact grow1 _ _)
  obtain ⟨b, rfl, hnews⟩ := (hS.keep B1.out).news hp
  have HNEW := Lib.hid hnews
  have HNL : Hid (n = D.lasts.length) := Lib.hid (hS.keep B1.out).cellAt.1
  have HW0 := Lib.hid hW0
  have HW1 := Lib.hid hW1
  have HKS := Lib.hid hK
  have HWW := Lib.hid hW
  clear hS hW hW0 hW1 s0 hnews hK
  go_enter Try.func27, Try.ntmps27
  have hsl : (strsV D.lasts).length = n := by rw [strsV_len]; exact HNL.out.symm
  have HSL := Lib.hid hsl
  clear hsl
  obtain ⟨r0, r1, r2, r3⟩ := R1.out.fourR
  go_wp2_with (at_builtin; (try rw [← HW0.out, ← HW1.out]); refine wpList_append_own _ rfl _ _ 28 rfl (w.heap.size + 2) 9 i0 (.string ⟨#[]⟩) 1 16 Try.underlying28 hi hz0 hz1 hz2 rfl (by decide) _ _ _ rfl OW1.out ⟨b, 0, none⟩ n c (strsV D.lasts) rfl (by rw [HSL.out, Nat.mul_one]) HNEW.out (strsV_one _) (by simp only [maxLen]; omega) (by omega) S1.out ?_)
  intro v2 W2 hown hgr _
  clear r0 r1 r2 r3
  have hown2 : W2.ownsRow (w.heap.size + 2) 9 1 v2 n (strsV D.lasts) := by simpa using hown
  obtain ⟨g, cap, junk, rfl, hg2, hnc, hcm, hblk⟩ := own_blk hown2 hp
  have bl : Below (w.heap.size + 2) W1 W2 := (Below.refl _ _).grown hgr S1.out (fun j hj => (OW1.out.lt j hj).1)
  have R2 := Lib.hid (R1.out.below bl (by omega))
  have Z2 := Lib.hid (Z1.out.below bl (by omega))
  have B2 := Lib.hid (B1.out.trans (bl.mono (by omega)))
  have G2 := Lib.hid hblk
  have HG2 := Lib.hid hg2
  have HNC := Lib.hid hnc
  have HCM := Lib.hid hcm
  obtain ⟨r0, r1, r2, r3⟩ := R2.out.fourR
  have f0 := R2.out.frozen 0
  have R3 := Lib.hid (R2.out.set_ 0 (.slice (some ⟨g, 0, none⟩) n cap))
  have Z3 := Lib.hid (Z2.out.far (p := ⟨w.heap.size, 0, none⟩) (by show w.heap.size + 1 ≠ w.heap.size; omega) (.slice (some ⟨g, 0, none⟩) n cap))
  have G3 := Lib.hid (G2.out.far (p := ⟨w.heap.size, 0, none⟩) (by show g ≠ w.heap.size; omega) (.slice (some ⟨g, 0, none⟩) n cap))
  have B3 := Lib.hid (B2.out.setCell (p := ⟨w.heap.size, 0, none⟩) (Nat.le_refl _) (.slice (some ⟨g, 0, none⟩) n cap))
  clear hown hown2 hgr bl hblk hg2 hnc hcm
  go_wp2_with fail
  clear r0 r1 r2 r3 f0
  have HSK0 : Hid (settleK D.lasts ((D.waits.zip ks).take 0) = D.lasts) := Lib.hid (by rw [List.take_zero]; rfl)
  try simp only [Act.put, List.setIfInBounds_toArray, List.set_cons_succ, List.set_cons_zero]
  go_loopw [5] (fun iv wr => ∃ (k : Nat), iv = .int .i64 k ∧ k ≤ n' ∧ Hid (Blk wr w.heap.size 31 [.slice (some ⟨g, 0, none⟩) n cap, .slice A' n' c', .int .i64 D.armed, .int .i64 (D.ops : Int)]) ∧ Hid (Blk wr (w.heap.size + 1) 31 [.slice none 0 0, .slice none 0 0, .int .i64 0, .int .i64 0]) ∧ Hid (Blk wr g 9 (strsV (settleK D.lasts ((D.waits.zip ks).take k)) ++ junk)) ∧ Hid (Below w.heap.size w wr)) (fun iv _ => n' - (intOf iv).toNat)
  case atStart => exact ⟨0, rfl, Nat.zero_le _, R3, Z3, Lib.hid (by rw [HSK0.out]; exact G3.out), B3⟩
  case round =>
    obtain ⟨k, rfl, hk, HR, HZ, HG, HB⟩ := hrel
    have HWK := Lib.hid (HWW.out.keep HB.out).cellAt
    have HLW : Hid (n' = D.waits.length) := Lib.hid HWK.out.1
    obtain ⟨r0, r1, r2, r3⟩ := HR.out.fourR
    by_cases hlt : k < n'
    · have hd : decide ((k : Int) < (n' : Int)) = true := decide_eq_true (by omega)
      have HLT := Lib.hid hlt
      have hkw : IntKind.i64.wrap ((k : Int) + 1) = (k : Int) + 1 := IntWalk.i64_in _ (by omega)
      by_cases hkk : k < kn
      · have hd2 : decide ((k : Int) < (kn : Int)) = true := decide_eq_true (by omega)
        obtain ⟨kb, ko, rfl, hkc⟩ := HKS.out.2 (by omega)
        have hkc1 : w.cell? ⟨kb, ko + k, none⟩ = some (.bool (ks.getD k false)) := hkc k hkk
        have hkc2 : wr.cell? ⟨kb, ko + k, none⟩ = some (.bool (ks.getD k false)) := (HB.out.cell (p := ⟨kb, ko + k, none⟩) (block_lt_of_cell hkc1)).trans hkc1
        have HKL : Hid (k < ks.length) := Lib.hid (by rw [HKS.out.1]; exact hkk)
        have HST := Lib.hid (settleK_take D.lasts D.waits ks k (by rw [← HLW.out]; exact hlt) HKL.out)
        cases hkv : ks.getD k false with
        | true =>
          rw [hkv] at hkc2
          obtain ⟨b', rfl, hc1, hc2⟩ := HWK.out.2.2.2 k hlt
          obtain ⟨x, hx⟩ : ∃ x, x = D.waits.getD k (0, []) := ⟨_, rfl⟩
          have hxm : x ∈ D.waits := by
            have hl : k < D.waits.length := by rw [← HLW.out]; exact hlt
            rw [hx, List.getD_eq_getElem?_getD, List.getElem?_eq_getElem hl]
            exact List.getElem_mem hl
          have hxn : x.1 < n := by rw [HNL.out]; exact hwl x hxm
          rw [← hx] at hc1 hc2
          have hbw : b' < w.heap.size := by
            obtain ⟨b2, e, hq, _⟩ := HWW.out.cellAt.2.2.2 k hlt
            have e2 : b' = b2 := by injection e with e; injection e
            rw [e2]
            exact block_lt_of_cell hq
          have HBG : Hid (b' ≠ g) := Lib.hid (by have := HG2.out; omega)
          have hgl : x.1 < (strsV (settleK D.lasts ((D.waits.zip ks).take k))).length := by rw [strsV_len, settleK_len, ← HNL.out]; exact hxn
          have HSL2 : Hid (x.1 < (settleK D.lasts ((D.waits.zip ks).take k)).length) := Lib.hid (by rw [settleK_len, ← HNL.out]; exact hxn)
          obtain ⟨u, hu⟩ : ∃ u, wr.cell? ⟨g, x.1, none⟩ = some u := by
            rw [HG.out.cell, List.getElem?_append_left hgl, List.getElem?_eq_getElem hgl]
            exact ⟨_, rfl⟩
          have hf := HG.out.frozen x.1
          have HST2 : Hid (settleK D.lasts ((D.waits.zip ks).take (k + 1)) = (settleK D.lasts ((D.waits.zip ks).take k)).set x.1 x.2) := Lib.hid (by rw [HST.out, hkv, hx]; rfl)
          obtain ⟨i1, hi1⟩ : ∃ i1, i1 = x.1 := ⟨_, rfl⟩
          obtain ⟨x2, hx2⟩ : ∃ x2, x2 = x.2 := ⟨_, rfl⟩
          rw [← hi1] at hc1 hxn hu hf HST2 HSL2
          rw [← hx2] at hc2 HST2
          have HS0 : Hid (wr.drew.cell? ⟨w.heap.size, 0, none⟩ = some (.slice (some ⟨g, 0, none⟩) n cap) ∧ wr.drew.cell? ⟨w.heap.size, 1, none⟩ = some (.slice (some ⟨b', 0, none⟩) n' c') ∧ wr.drew.cell? ⟨b', k * 2, none⟩ = some (.int .i64 (i1 : Int)) ∧ wr.drew.cell? ⟨b', k * 2 + 1, none⟩ = some (.string (bs x2))) := Lib.hid ⟨r0, r1, hc1, hc2⟩
          have W1c := Lib.hid (fun (a : Nat) (o : Nat) (h : a ≠ g) => World.cell?_of_block (w := wr.drew) (w' := wr.drew.setCell ⟨g, i1, none⟩ (.string (bs x2))) (a := ⟨a, o, none⟩) (Below.heap_setCell wr.drew ⟨g, i1, none⟩ (.string (bs x2)) a h))
          have HS1 : Hid ((wr.drew.setCell ⟨g, i1, none⟩ (.string (bs x2))).cell? ⟨w.heap.size, 0, none⟩ = some (.slice (some ⟨g, 0, none⟩) n cap) ∧ (wr.drew.setCell ⟨g, i1, none⟩ (.string (bs x2))).cell? ⟨w.heap.size, 1, none⟩ = some (.slice (some ⟨b', 0, none⟩) n' c') ∧ (wr.drew.setCell ⟨g, i1, none⟩ (.string (bs x2))).cell? ⟨b', k * 2, none⟩ = some (.int .i64 (i1 : Int)) ∧ (wr.drew.setCell ⟨g, i1, none⟩ (.string (bs x2))).cell? ⟨b', k * 2 + 1, none⟩ = some (.string (bs x2))) := Lib.hid (by
            have hwg : w.heap.size ≠ g := by have := HG2.out; omega
            exact ⟨(W1c.out _ _ hwg).trans r0, (W1c.out _ _ hwg).trans r1, (W1c.out _ _ HBG.out).trans hc1, (W1c.out _ _ HBG.out).trans hc2⟩)
          have R5 := Lib.hid (Blk.far (w := wr.drew) HR.out (p := ⟨g, i1, none⟩) (by show w.heap.size ≠ g; have := HG2.out; omega) (.string (bs x2)))
          have Z5 := Lib.hid (Blk.far (w := wr.drew) HZ.out (p := ⟨g, i1, none⟩) (by show w.heap.size + 1 ≠ g; have := HG2.out; omega) (.string (bs x2)))
          have G5 : Hid (Blk (wr.drew.setCell ⟨g, i1, none⟩ (.string (bs x2))) g 9 (strsV (settleK D.lasts ((D.waits.zip ks).take (k + 1))) ++ junk)) := Lib.hid (by
            have h := Blk.set_ (w := wr.drew) HG.out i1 (.string (bs x2))
            rw [strsV_set _ _ _ _ HSL2.out] at h
            rw [HST2.out]
            exact h)
          have B5 := Lib.hid (HB.out.drew.setCell (p := ⟨g, i1, none⟩) (by show w.heap.size ≤ g; have := HG2.out; omega) (.string (bs x2)))
          clear hkv hkc hkc1 hlt hk hx hxm hi1 hx2 hgl hbw
          go_wp2_with fail
          go_region_held3 (fun w' => w'.cell? ⟨w.heap.size, 0, none⟩ = some (.slice (some ⟨g, 0, none⟩) n cap) ∧ w'.cell? ⟨w.heap.size, 1, none⟩ = some (.slice (some ⟨b', 0, none⟩) n' c') ∧ w'.cell? ⟨b', k * 2, none⟩ = some (.int .i64 (i1 : Int)) ∧ w'.cell? ⟨b', k * 2 + 1, none⟩ = some (.string (bs x2)))
            (first | exact HS1.out | exact HS0.out)
            (fail)
          go_wp2_with fail
          go_roundw
          case rel => exact ⟨k + 1, by go_num, by have := HLT.out; omega, R5, Z5, G5, B5⟩
          case measure => have := HLT.out; simp [intOf]; omega
        | false =>
          rw [hkv] at hkc2
          have HST2 : Hid (settleK D.lasts ((D.waits.zip ks).take (k + 1)) = settleK D.lasts ((D.waits.zip ks).take k)) := Lib.hid (by rw [HST.out, hkv]; rfl)
          clear hkv hkc hkc1 hlt hk
          go_wp2_with fail
          go_roundw
          case rel => exact ⟨k + 1, by go_num, by have := HLT.out; omega, HR, HZ, Lib.hid (by rw [HST2.out]; exact HG.out), HB⟩
          case measure => have := HLT.out; simp [intOf]; omega
      · have hd2 : decide ((k : Int) < (kn : Int)) = false := decide_eq_false (by omega)
        have hd3 : decide (k < kn) = false := decide_eq_false hkk
        have hd4 : (k < kn) = False := eq_false hkk
        have HST2 : Hid (settleK D.lasts ((D.waits.zip ks).take (k + 1)) = settleK D.lasts ((D.waits.zip ks).take k)) := Lib.hid (by
          have hz : (D.waits.zip ks).length ≤ k := by rw [List.length_zip, HKS.out.1]; omega
          rw [List.take_of_length_le hz, List.take_of_length_le (by omega)])
        clear hlt hk
        go_wp2_with fail
        go_roundw
        case rel => exact ⟨k + 1, by go_num, by have := HLT.out; omega, HR, HZ, Lib.hid (by rw [HST2.out]; exact HG.out), HB⟩
        case measure => have := HLT.out; simp [intOf]; omega
    · obtain rfl : n' = k := by omega
      have hd : decide ((n' : Int) < (n' : Int)) = false := decide_eq_false (by omega)
      have hd3 : decide (n' < n') = false := decide_eq_false (by omega)
      have HZZ : Hid (settleK D.lasts ((D.waits.zip ks).take n') = settleK D.lasts (D.waits.zip ks)) := Lib.hid (by
        rw [List.take_of_length_le]
        rw [List.length_zip]
        have := HLW.out
        omega)
      have f1 := HR.out.frozen 1
      have R7 := Lib.hid (HR.out.set_ 1 (.slice none 0 0))
      have Z7 := Lib.hid (HZ.out.far (p := ⟨w.heap.size, 1, none⟩) (by show w.heap.size + 1 ≠ w.heap.size; omega) (.slice none 0 0))
      have G7 := Lib.hid (HG.out.far (p := ⟨w.heap.size, 1, none⟩) (by show g ≠ w.heap.size; have := HG2.out; omega) (.slice none 0 0))
      have B7 := Lib.hid (HB.out.setCell (p := ⟨w.heap.size, 1, none⟩) (Nat.le_refl _) (.slice none 0 0))
      obtain ⟨W7, hW7⟩ : ∃ W7, W7 = wr.setCell ⟨w.heap.size, 1, none⟩ (.slice none 0 0) := ⟨_, rfl⟩
      rw [← hW7] at R7 Z7 G7 B7
      obtain ⟨W8, hW8⟩ : ∃ W8, W8 = ((((W7.setCell ⟨w.heap.size + 1, 0, none⟩ (.slice (some ⟨g, 0, none⟩) n cap)).setCell ⟨w.heap.size + 1, 1, none⟩ (.slice none 0 0)).setCell ⟨w.heap.size + 1, 2, none⟩ (.int .i64 D.armed)).setCell ⟨w.heap.size + 1, 3, none⟩ (.int .i64 (D.ops : Int))) := ⟨_, rfl⟩
      have Z8 : Hid (Blk W8 (w.heap.size + 1) 31 [.slice (some ⟨g, 0, none⟩) n cap, .slice none 0 0, .int .i64 D.armed, .int .i64 (D.ops : Int)]) := Lib.hid (by rw [hW8]; exact Z7.out.putR _ _ _ _)
      have B8 : Hid (Below w.heap.size w W8) := Lib.hid (by rw [hW8]; exact below_putR B7.out (Nat.le_succ _) _ _ _ _)
      have G8 : Hid (Blk W8 g 9 (strsV (settleK D.lasts (D.waits.zip ks)) ++ junk)) := Lib.hid (by
        rw [hW8, ← HZZ.out]
        exact G7.out.far4 (by have := HG2.out; omega) _ _ _ _)
      obtain ⟨q0, q1, q2, q3⟩ := R7.out.fourR
      have z0 := Z7.out.frozen 0
      have z1 := Z7.out.frozen 1
      have z2 := Z7.out.frozen 2
      have z3 := Z7.out.frozen 3
      obtain ⟨y0, y1, y2, y3⟩ := Z7.out.fourR
      have HT8 := Lib.hid (run_storeAt_mid (P := Try.prog) W7 (w.heap.size + 1) 0 31 #[.slice (some ⟨g, 0, none⟩) n cap, .slice none 0 0, .int .i64 D.armed, .int .i64 (D.ops : Int)] (Z7.out.thereR) (by kernel_rfl) (by simp [Value.oneCell']))
      have HW7 := Lib.hid hW7
      have HW8 := Lib.hid hW8
      clear hW7 hW8 hlt hk
      go_wp2_with (first | (refine wpList_store_to rfl 29 _ _ rfl ⟨w.heap.size, 1, none⟩ rfl (.slice none 0 0) rfl W7 (by rw [HW7.out]; go_simp) ?_) | (refine wpList_store_to rfl 31 _ _ rfl ⟨w.heap.size + 1, 0, none⟩ rfl (.agg #[.slice (some ⟨g, 0, none⟩) n cap, .slice none 0 0, .int .i64 D.armed, .int .i64 (D.ops : Int)]) rfl W8 (HT8.out.trans (by rw [HW8.out]; rfl)) ?_))
      obtain ⟨d0, d1, d2, d3⟩ := Z8.out.fourR
      refine bodyPost_ret (v := .agg #[.slice (some ⟨g, 0, none⟩) n cap, .slice none 0 0, .int .i64 D.armed, .int .i64 (D.ops : Int)]) (by simp [results, Try.results27, go_sem, d0, d1, d2, d3]) rfl ⟨_, _, _, rfl, ?_, B8.out⟩
      exact StrS.of_blk G8.out (by rw [HNL.out]; show _ = (settleK _ _).length; rw [settleK_len]) HNC.out HCM.out

end Go.Proofs.Ytciophpplpmmfaa
