/- The contract of opened's iterator. -/
import Derived.Test.YtcnbpajlocoocaaDoorSlotA
namespace Go.Proofs.YtcnbpajlocoocaaDoor
open Go.RowKit Go.Maps
set_option maxRecDepth 100000
attribute [local go_sem] Oper.semAt_some

theorem nz_beq {c : Nat} (h : c ≠ 0) : ((c : Int) == 0) = false := by rw [beq_eq_false_iff_ne]; omega
abbrev RecT := Nat × Nat × Nat × List UInt8
/-- What stands in a slot's sectors, with its place, of the first so many. -/
def openF (D : DSt) (fr j : Nat) : Option (Nat × RecT) := if (recAt D (fr + j)).2 = 0 then some (j, (recAt D (fr + j)).1) else none
def openK (D : DSt) (fr i : Nat) : List (Nat × RecT) := (List.range i).filterMap (openF D fr)
theorem openK_zero (D : DSt) (fr : Nat) : openK D fr 0 = [] := rfl
theorem openK_yes {D : DSt} {fr i : Nat} (h : (recAt D (fr + i)).2 = 0) : openK D fr (i + 1) = openK D fr i ++ [(i, (recAt D (fr + i)).1)] := by
  unfold openK
  rw [List.range_succ, List.filterMap_append]
  congr 1
  simp [openF, h]
theorem openK_no {D : DSt} {fr i : Nat} (h : (recAt D (fr + i)).2 ≠ 0) : openK D fr (i + 1) = openK D fr i := by
  unfold openK
  rw [List.range_succ, List.filterMap_append]
  simp [openF, h]
theorem openK_pre (D : DSt) (fr : Nat) {i j : Nat} (h : i ≤ j) : openK D fr i <+: openK D fr j := by
  induction j with
  | zero => obtain rfl : i = 0 := by omega
            exact List.prefix_refl _
  | succ j ih =>
    by_cases e : i = j + 1
    · subst e; exact List.prefix_refl _
    · refine (ih (by omega)).trans ?_
      by_cases hc : (recAt D (fr + j)).2 = 0
      · rw [openK_yes hc]; exact List.prefix_append _ _
      · rw [openK_no hc]; exact List.prefix_refl _
/-- What opened's iterator gives. -/
def openL2 (D : DSt) (i r : Int) : List (Nat × RecT) := if liesB D.lasts.length i r = true then openK D i.toNat r.toNat else []
def encO (x : Nat × RecT) : Array Value := #[.int .i64 (x.1 : Int), recV x.2]

/-- What a round keeps: the blocks that lay at first, and the captured ones. -/
def KpO (n₀ b : Nat) (W W' : World) : Prop := Below n₀ W W' ∧ Its b 3 W W'
theorem KpO.trans {n₀ b : Nat} {X Y Z : World} (h : KpO n₀ b X Y) (k : KpO n₀ b Y Z) : KpO n₀ b X Z := ⟨h.1.trans k.1, h.2.trans k.2⟩
theorem KpO.putObj {n₀ b : Nat} (W : World) {l : Nat} (o : Obj) (h1 : n₀ ≤ l) (h2 : b + 3 ≤ l) : KpO n₀ b W (W.putObj l o) :=
  ⟨⟨rfl, rfl, rfl, by simp, fun k hk => World.putObj_heap_other (by omega)⟩, Its.putObj W (.inr h2) o⟩

/-- A round's word, at one element. -/
def YldO (P : Program) (l : Nat) (J Jx : List (Nat × RecT) → World → Prop) (B n₀ b : Nat) (pre : List (Nat × RecT)) (x : Nat × RecT) (W1 : World) : Prop :=
  YieldAt Fence.wide 0 P l (encO x) W1 fun e W' => ((e = .returned (.bool true) ∧ J (pre ++ [x]) W') ∨ (e = .returned (.bool false) ∧ Jx (pre ++ [x]) W')) ∧ KpO n₀ b W1 W' ∧ Its B 0 W1 W'

set_option maxHeartbeats 8000000 in
theorem opened_seq (base n₀ : Nat) (w : World) (p gl M : Nat) (v : Value) (D : DSt) (i r : Int) (b : Nat) (hi : i ≤ 9223372036854775807) (hn₀ : n₀ ≤ w.heap.size) (hD : ∀ W, Below n₀ w W → IsDisk base W p gl M v D) (hC : Caps w b p i r) :
    SeqOwn Tryd.prog 74 #[.pointer (some ⟨b, 0, none⟩), .pointer (some ⟨b + 1, 0, none⟩), .pointer (some ⟨b + 2, 0, none⟩)] encO 0 (fun _ => KpO n₀ b) (openL2 D i r) w := fun l J Jx W hW hJ _ hY h0 => by
  have HD : Hid (∀ W', Below n₀ W W' → IsDisk base W' p gl M v D) := Lib.hid (fun W' hb => hD W' ((hW.mono hn₀).trans hb))
  have hCW : Caps W b p i r := hC.its (Its.of_below hW hC.lt)
  have hn1 : n₀ ≤ W.heap.size := Nat.le_trans hn₀ hW.size
  have HN1 := Lib.hid hn1
  obtain ⟨c0, c1, c2⟩ := hCW.cells
  have HC := Lib.hid hCW
  have HLI := Lib.hid (fun W' (hb : Below n₀ W W') => slot_lies base W' p gl M v D i r hi (HD.out W' hb))
  have HN4 : Hid (D.lasts.length ≤ 4096) := Lib.hid (HD.out W (Below.refl _ _)).2.2.2.2.1.2.1
  refine (callsIn_wide (n := 0)).1 ?_
  refine callsIn_of_wp Tryd.func74 rfl trivial ?_ rfl
  simp only [Tryd.ntmps74, List.size_toArray, List.length_cons, List.length_nil, Nat.reduceAdd, Nat.reduceSub, Array.replicate_succ, Array.replicate_zero, List.push_toArray, List.append_toArray, List.nil_append, List.cons_append]
  by_cases hl : liesB D.lasts.length i r = true
  · obtain ⟨fr, room, rfl, rfl, hr1, hr2⟩ := liesB_iff.1 hl
    have HLN : Hid (fr + room ≤ 4096) := Lib.hid (by have := HN4.out; omega)
    have hL : openL2 D (fr : Int) (room : Int) = openK D fr room := by unfold openL2; rw [if_pos hl]; rfl
    rw [hl] at HLI
    rw [hL] at hY ⊢
    gi_wp2_with fail
    refine ⟨trivial, rfl, (callsIn_wide.2 (HLI.out _ (Below.refl _ _))).mono ?_⟩
    rintro e w1 ⟨rfl, rfl⟩
    gi_wp2_with fail
    gi_loopw [16] (fun iv wr => ∃ j : Nat, iv = .int .i64 j ∧ j ≤ room ∧ Hid (J (openK D fr j) wr) ∧ Hid (KpO n₀ b W wr)) (fun iv _ => room - (intOf iv).toNat)
    case atStart => exact ⟨0, rfl, Nat.zero_le _, Lib.hid h0, Lib.hid ⟨Below.refl _ _, Its.refl _ _ _⟩⟩
    case round =>
      obtain ⟨j, rfl, hj, HJ, HK⟩ := hrel
      have hCr := HC.out.its HK.out.2
      by_cases hlt : j < room
      · obtain ⟨c0, c1, c2⟩ := hCr.cells
        obtain ⟨q, hq⟩ : ∃ q, q = fr + j := ⟨_, rfl⟩
        have HDr := Lib.hid (HD.out wr HK.out.1)
        have HRD := Lib.hid (disk_Read base wr p gl M v D (q : Int) HDr.out)
        have HOP := Lib.hid (fun W' => seal_Open (rdD D (q : Int)).1 W' (Nat.le_trans (rdD_len HDr.out (q : Int)) (by decide)))
        have HYY : Hid (∀ W1, J (openK D fr j) W1 → W.heap.size ≤ W1.heap.size → (recAt D (fr + j)).2 = 0 → YldO Tryd.prog l J Jx W.heap.size n₀ b (openK D fr j) (j, (recAt D (fr + j)).1) W1) := Lib.hid (fun W1 q1 q2 q3 => hY (openK D fr j) (j, (recAt D (fr + j)).1) W1 W1 q1 (Aside.refl _ _ _) (by rw [← openK_yes q3]; exact openK_pre D fr hlt) q2)
        have hrc : recAt D (fr + j) = openT (rdD D (q : Int)).1 := by unfold recAt; rw [hq]
        have HY1 : Hid ((recAt D (fr + j)).2 = 0 → openK D fr (j + 1) = openK D fr j ++ [(j, (recAt D (fr + j)).1)]) := Lib.hid openK_yes
        have HY2 : Hid ((recAt D (fr + j)).2 ≠ 0 → openK D fr (j + 1) = openK D fr j) := Lib.hid openK_no
        rw [hrc] at HYY HY1 HY2
        obtain ⟨rc, hrce⟩ : ∃ rc, rc = (openT (rdD D (q : Int)).1).1 := ⟨_, rfl⟩
        obtain ⟨c, hc⟩ : ∃ c, c = (openT (rdD D (q : Int)).1).2 := ⟨_, rfl⟩
        rw [← hrce, ← hc] at HOP HYY HY1
        rw [← hc] at HY2
        obtain ⟨S, hS⟩ : ∃ S, S = bs (rdD D (q : Int)).1 := ⟨_, rfl⟩
        rw [← hS] at HRD HOP
        obtain ⟨e7, he7⟩ : ∃ e7, e7 = (rdD D (q : Int)).2 := ⟨_, rfl⟩
        rw [← he7] at HRD
        obtain ⟨k1, k2, k3, k4⟩ := rc
        unfold recV at HOP
        have HWJ : Hid (-9223372036854775808 ≤ (j : Int) + 1 ∧ (j : Int) + 1 ≤ 9223372036854775807) := Lib.hid (by have := HLN.out; omega)
        have HWQ : Hid (wrap64 ((fr : Int) + (j : Int)) = (q : Int)) := Lib.hid (by rw [IntWalk.wrap64_in _ (by have := HLN.out; omega)]; omega)
        have HWJ2 : Hid (wrap64 ((j : Int) + 1) = (j : Int) + 1) := Lib.hid (IntWalk.wrap64_in _ HWJ.out)
        have hqi2 : wrap64 ((fr : Int) + (j : Int)) = (q : Int) := HWQ.out
        clear hq hrce hc hS he7 hrc HDr
        gi_wp2_with fail
        refine ⟨trivial, rfl, (callsIn_wide.2 HRD.out).mono ?_⟩
        rintro e w2 ⟨rfl, rfl⟩
        clear hqi2
        gi_wp2_with fail
        refine ⟨trivial, rfl, (callsIn_wide.2 (HOP.out _)).mono ?_⟩
        rintro e w3 ⟨rfl, hb3⟩
        obtain ⟨W4, hW4⟩ : ∃ W4, W4 = w3.alloc (.cells #[.int .u8 (k1 : Int), .int .u64 (k2 : Int), .int .u32 (k3 : Int), .string (bs k4)] 59) := ⟨_, rfl⟩
        have BB : Hid (Below wr.heap.size wr W4) := Lib.hid (by rw [hW4]; exact hb3.alloc hb3.size _)
        have K4 : Hid (KpO n₀ b W W4) := Lib.hid (HK.out.trans ⟨BB.out.mono (Nat.le_trans HN1.out HK.out.1.size), Its.of_below BB.out hCr.lt⟩)
        have J4 : Hid (J (openK D fr j) W4) := Lib.hid (hJ _ _ _ HJ.out (Aside.of_below BB.out))
        have S4 : Hid (W.heap.size ≤ W4.heap.size) := Lib.hid (Nat.le_trans HK.out.1.size BB.out.size)
        by_cases hc0 : c = 0
        · subst hc0
          have hcb : (((0 : Nat) : Int) == 0) = true := rfl
          have hYY := HYY.out W4 J4.out S4.out rfl
          unfold YldO at hYY
          obtain ⟨fn, tmps, assign, body, hy, hR⟩ := hYY
          have HR := Lib.hid hR
          unfold encO recV at hy
          dsimp only at hy
          have HE := Lib.hid (HY1.out rfl)
          subst hW4
          clear hR hb3
          gi_wp2_with fail
          refine ⟨rfl, HR.out.mono ?_⟩
          rintro e W5 ⟨⟨rfl, hJ5⟩ | ⟨rfl, hJ5⟩, hk5, _⟩
          · have K5 := Lib.hid (K4.out.trans hk5)
            have J5 := Lib.hid hJ5
            rw [← HE.out] at J5
            clear hJ5 hk5 hy
            gi_wp2_with fail
            rw [HWJ2.out]
            go_roundw
            case rel => exact ⟨j + 1, by go_num, by omega, J5, K5⟩
            case measure => simp [intOf]; omega
          · have J5 := Lib.hid hJ5
            rw [← HE.out] at J5
            clear hJ5 hk5 hy
            gi_wp2_with fail
            refine bodyPost_ret (results_none rfl _ _ _) rfl ?_
            exact ⟨⟨_, rfl⟩, .inr ⟨openK D fr (j + 1), openK_pre D fr hlt, J5.out⟩⟩
        · have hcb : ((c : Int) == 0) = false := nz_beq hc0
          have HE := HY2.out hc0
          subst hW4
          clear hb3
          gi_wp2_with fail
          refine ⟨fun _ h => (by cases h), ?_⟩
          gi_wp2_with fail
          rw [HWJ2.out]
          go_roundw
          case rel => exact ⟨j + 1, by go_num, by omega, Lib.hid (by rw [HE]; exact J4.out), K4⟩
          case measure => simp [intOf]; omega
      · obtain rfl : j = room := by omega
        gi_wp2_with fail
        go_end0
        exact ⟨⟨_, rfl⟩, .inl HJ.out⟩
  · have hl' : liesB D.lasts.length i r = false := by simpa using hl
    have hL : openL2 D i r = [] := by unfold openL2; rw [if_neg hl]
    rw [hl'] at HLI
    rw [hL]
    gi_wp2_with fail
    refine ⟨trivial, rfl, (callsIn_wide.2 (HLI.out _ (Below.refl _ _))).mono ?_⟩
    rintro e w1 ⟨rfl, rfl⟩
    gi_wp2_with fail
    refine bodyPost_ret (results_none rfl _ _ _) rfl ?_
    exact ⟨⟨_, rfl⟩, .inl h0⟩
end Go.Proofs.YtcnbpajlocoocaaDoor
