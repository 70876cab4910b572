/- Contracts of slot's lies, of the makers of its iterators, of opened's iterator. The contract of opened's iterator. Contracts of slot's foot and parts. -/
import Derived.Test.YtbigpapniloknaaDoorLogA
import Derived.Test.YtbigpapniloknaaDoorLogC
import Derived.Test.YtbigpapniloknaaDoorSeqA
import Derived.RangeFuncCalls
import Derived.Shelf.Abstract
import Derived.Shelf.RegionOpen
import Derived.WalkKit
import Derived.OwnWalkIn
import Derived.TacticsInMore
import Derived.LoopNIn
import Derived.LoopIn
namespace Go.Proofs.YtbigpapniloknaaDoor
open Go.RowKit Go.Maps
set_option maxRecDepth 100000
attribute [local go_sem] Oper.semAt_some

set_option maxHeartbeats 4000000 in
theorem slot_lies (base : Nat) (w : World) (p gl M : Nat) (v : Value) (D : DSt) (i r : Int) (hi : i ≤ 9223372036854775807) (h : IsDisk base w p gl M v D) :
    Calls Tryd.prog 50 #[.pointer (some ⟨p, 0, none⟩), .int .i64 i, .int .i64 r] w fun e w' => e = .returned (.bool (liesB D.lasts.length i r)) ∧ w = w' := by
  have HN : Hid (D.lasts.length ≤ 4096) := Lib.hid h.2.2.2.2.1.2.1
  have HS := Lib.hid (disk_Size base w p gl M v D h)
  obtain ⟨n, hn⟩ : ∃ n, n = D.lasts.length := ⟨_, rfl⟩
  have hn4 : n ≤ 4096 := by rw [hn]; exact HN.out
  rw [← hn] at HS ⊢
  clear h hn HN
  unfold liesB
  by_cases h0 : 0 ≤ i
  · have d0 : decide (0 ≤ i) = true := decide_eq_true h0
    have hw : IntKind.i64.wrap ((n : Int) - i) = (n : Int) - i := IntWalk.i64_in _ (by omega)
    rw [d0, Bool.true_and]
    by_cases h1 : 1 ≤ r
    · have d1 : decide (1 ≤ r) = true := decide_eq_true h1
      rw [d1, Bool.true_and]
      go_enter Tryd.func50, Tryd.ntmps50
      go_wp2_with fail
      refine HS.out.mono ?_
      rintro e w1 ⟨rfl, rfl⟩
      go_wp2_with fail
      go_ret
      exact ⟨rfl, rfl⟩
    · have d1 : decide (1 ≤ r) = false := decide_eq_false h1
      rw [d1, Bool.false_and]
      go_enter Tryd.func50, Tryd.ntmps50
      go_wp2_with fail
      go_ret
      exact ⟨rfl, rfl⟩
  · have d0 : decide (0 ≤ i) = false := decide_eq_false h0
    rw [d0, Bool.false_and]
    go_enter Tryd.func50, Tryd.ntmps50
    go_wp2_with fail
    go_ret
    exact ⟨rfl, rfl⟩

/-- Three boxes that a closure has captured. -/
def Caps (w : World) (b p : Nat) (i r : Int) : Prop := Blk w b 24 [.pointer (some ⟨p, 0, none⟩)] ∧ Blk w (b + 1) 3 [.int .i64 i] ∧ Blk w (b + 2) 3 [.int .i64 r]
theorem Caps.its {w w' : World} {b p : Nat} {i r : Int} (h : Caps w b p i r) (hk : Its b 3 w w') : Caps w' b p i r :=
  ⟨(hk b (Nat.le_refl _) (by omega)).trans h.1, (hk (b + 1) (by omega) (by omega)).trans h.2.1, (hk (b + 2) (by omega) (by omega)).trans h.2.2⟩
theorem Caps.lt {w : World} {b p : Nat} {i r : Int} (h : Caps w b p i r) : b + 3 ≤ w.heap.size := h.2.2.lt
theorem Caps.cells {w : World} {b p : Nat} {i r : Int} (h : Caps w b p i r) : w.cell? ⟨b, 0, none⟩ = some (.pointer (some ⟨p, 0, none⟩)) ∧ w.cell? ⟨b + 1, 0, none⟩ = some (.int .i64 i) ∧ w.cell? ⟨b + 2, 0, none⟩ = some (.int .i64 r) := ⟨h.1.cell0, h.2.1.cell0, h.2.2.cell0⟩

set_option maxHeartbeats 1000000 in
theorem slot_opened (w : World) (p : Nat) (i r : Int) :
    Calls Tryd.prog 45 #[.pointer (some ⟨p, 0, none⟩), .int .i64 i, .int .i64 r] w fun e w' => e = .returned (.func (.func 62) #[] #[.pointer (some ⟨w.heap.size, 0, none⟩), .pointer (some ⟨w.heap.size + 1, 0, none⟩), .pointer (some ⟨w.heap.size + 2, 0, none⟩)]) ∧
      w' = ((w.alloc (.cells #[.pointer (some ⟨p, 0, none⟩)] 24)).alloc (.cells #[.int .i64 i] 3)).alloc (.cells #[.int .i64 r] 3) := by
  go_enter Tryd.func45, Tryd.ntmps45
  go_wp2
  go_ret
  exact ⟨rfl, rfl⟩
set_option maxHeartbeats 1000000 in
theorem slot_found (w : World) (p : Nat) (i r : Int) :
    Calls Tryd.prog 56 #[.pointer (some ⟨p, 0, none⟩), .int .i64 i, .int .i64 r] w fun e w' => e = .returned (.func (.func 66) #[] #[.pointer (some ⟨w.heap.size, 0, none⟩), .pointer (some ⟨w.heap.size + 1, 0, none⟩), .pointer (some ⟨w.heap.size + 2, 0, none⟩)]) ∧
      w' = ((w.alloc (.cells #[.pointer (some ⟨p, 0, none⟩)] 24)).alloc (.cells #[.int .i64 i] 3)).alloc (.cells #[.int .i64 r] 3) := by
  go_enter Tryd.func56, Tryd.ntmps56
  go_wp2
  go_ret
  exact ⟨rfl, rfl⟩
theorem caps_new (w : World) (p : Nat) (i r : Int) : Caps (((w.alloc (.cells #[.pointer (some ⟨p, 0, none⟩)] 24)).alloc (.cells #[.int .i64 i] 3)).alloc (.cells #[.int .i64 r] 3)) w.heap.size p i r := by
  refine ⟨?_, ?_, ?_⟩
  · exact ((Blk.new1 _ _ _).alloc _).alloc _
  · have h := (Blk.new1 (w.alloc (.cells #[.pointer (some ⟨p, 0, none⟩)] 24)) 3 (.int .i64 i)).alloc (.cells #[.int .i64 r] 3)
    rw [World.size_alloc] at h
    exact h
  · have h := Blk.new1 ((w.alloc (.cells #[.pointer (some ⟨p, 0, none⟩)] 24)).alloc (.cells #[.int .i64 i] 3)) 3 (.int .i64 r)
    rw [World.size_alloc, World.size_alloc] at h
    exact h

end Go.Proofs.YtbigpapniloknaaDoor

namespace Go.Proofs.YtbigpapniloknaaDoor
open Go.RowKit Go.Maps
set_option maxRecDepth 100000
attribute [local go_sem] Oper.semAt_some

theorem nz_beq {c : Nat} (h : c ≠ 0) : ((c : Int) == 0) = false := by rw [beq_eq_false_iff_ne]; omega
abbrev RecT := Nat × Nat × Nat × List UInt8
/-- What stands in a slot's sectors, with its place, of the first so many. -/
def openF (D : DSt) (fr j : Nat) : Option (Nat × RecT) := if (recAt D (fr + j)).2 = 0 then some (j, (recAt D (fr + j)).1) else none
def openK (D : DSt) (fr i : Nat) : List (Nat × RecT) := (List.range i).filterMap (openF D fr)
theorem openK_zero (D : DSt) (fr : Nat) : openK D fr 0 = [] := rfl
theorem openK_yes {D : DSt} {fr i : Nat} (h : (recAt D (fr + i)).2 = 0) : openK D fr (i + 1) = openK D fr i ++ [(i, (recAt D (fr + i)).1)] := by
  unfold openK
  rw [List.range_succ, List.filterMap_append]
  congr 1
  simp [openF, h]
theorem openK_no {D : DSt} {fr i : Nat} (h : (recAt D (fr + i)).2 ≠ 0) : openK D fr (i + 1) = openK D fr i := by
  unfold openK
  rw [List.range_succ, List.filterMap_append]
  simp [openF, h]
theorem openK_pre (D : DSt) (fr : Nat) {i j : Nat} (h : i ≤ j) : openK D fr i <+: openK D fr j := by
  induction j with
  | zero => obtain rfl : i = 0 := by omega
            exact List.prefix_refl _
  | succ j ih =>
    by_cases e : i = j + 1
    · subst e; exact List.prefix_refl _
    · refine (ih (by omega)).trans ?_
      by_cases hc : (recAt D (fr + j)).2 = 0
      · rw [openK_yes hc]; exact List.prefix_append _ _
      · rw [openK_no hc]; exact List.prefix_refl _
/-- What opened's iterator gives. -/
def openL2 (D : DSt) (i r : Int) : List (Nat × RecT) := if liesB D.lasts.length i r = true then openK D i.toNat r.toNat else []
def encO (x : Nat × RecT) : Array Value := #[.int .i64 (x.1 : Int), recV x.2]

/-- What a round keeps: the blocks that lay at first, and the captured ones. -/
def KpO (n₀ b : Nat) (W W' : World) : Prop := Below n₀ W W' ∧ Its b 3 W W'
theorem KpO.trans {n₀ b : Nat} {X Y Z : World} (h : KpO n₀ b X Y) (k : KpO n₀ b Y Z) : KpO n₀ b X Z := ⟨h.1.trans k.1, h.2.trans k.2⟩
theorem KpO.putObj {n₀ b : Nat} (W : World) {l : Nat} (o : Obj) (h1 : n₀ ≤ l) (h2 : b + 3 ≤ l) : KpO n₀ b W (W.putObj l o) :=
  ⟨⟨rfl, rfl, rfl, by simp, fun k hk => World.putObj_heap_other (by omega)⟩, Its.putObj W (.inr h2) o⟩

/-- A round's word, at one element. -/
def YldO (P : Program) (l : Nat) (J Jx : List (Nat × RecT) → World → Prop) (B n₀ b : Nat) (pre : List (Nat × RecT)) (x : Nat × RecT) (W1 : World) : Prop :=
  YieldAt Fence.wide 0 P l (encO x) W1 fun e W' => ((e = .returned (.bool true) ∧ J (pre ++ [x]) W') ∨ (e = .returned (.bool false) ∧ Jx (pre ++ [x]) W')) ∧ KpO n₀ b W1 W' ∧ Its B 0 W1 W'

set_option maxHeartbeats 8000000 in
theorem opened_seq (base n₀ : Nat) (w : World) (p gl M : Nat) (v : Value) (D : DSt) (i r : Int) (b : Nat) (hi : i ≤ 9223372036854775807) (hn₀ : n₀ ≤ w.heap.size) (hD : ∀ W, Below n₀ w W → IsDisk base W p gl M v D) (hC : Caps w b p i r) :
    SeqOwn Tryd.prog 62 #[.pointer (some ⟨b, 0, none⟩), .pointer (some ⟨b + 1, 0, none⟩), .pointer (some ⟨b + 2, 0, none⟩)] encO 0 (fun _ => KpO n₀ b) (openL2 D i r) w := fun l J Jx W hW hJ _ hY h0 => by
  have HD : Hid (∀ W', Below n₀ W W' → IsDisk base W' p gl M v D) := Lib.hid (fun W' hb => hD W' ((hW.mono hn₀).trans hb))
  have hCW : Caps W b p i r := hC.its (Its.of_below hW hC.lt)
  have hn1 : n₀ ≤ W.heap.size := Nat.le_trans hn₀ hW.size
  have HN1 := Lib.hid hn1
  obtain ⟨c0, c1, c2⟩ := hCW.cells
  have HC := Lib.hid hCW
  have HLI := Lib.hid (fun W' (hb : Below n₀ W W') => slot_lies base W' p gl M v D i r hi (HD.out W' hb))
  have HN4 : Hid (D.lasts.length ≤ 4096) := Lib.hid (HD.out W (Below.refl _ _)).2.2.2.2.1.2.1
  refine (callsIn_wide (n := 0)).1 ?_
  refine callsIn_of_wp Tryd.func62 rfl trivial ?_ rfl
  simp only [Tryd.ntmps62, List.size_toArray, List.length_cons, List.length_nil, Nat.reduceAdd, Nat.reduceSub, Array.replicate_succ, Array.replicate_zero, List.push_toArray, List.append_toArray, List.nil_append, List.cons_append]
  by_cases hl : liesB D.lasts.length i r = true
  · obtain ⟨fr, room, rfl, rfl, hr1, hr2⟩ := liesB_iff.1 hl
    have HLN : Hid (fr + room ≤ 4096) := Lib.hid (by have := HN4.out; omega)
    have hL : openL2 D (fr : Int) (room : Int) = openK D fr room := by unfold openL2; rw [if_pos hl]; rfl
    rw [hl] at HLI
    rw [hL] at hY ⊢
    gi_wp2_with fail
    refine ⟨trivial, rfl, (callsIn_wide.2 (HLI.out _ (Below.refl _ _))).mono ?_⟩
    rintro e w1 ⟨rfl, rfl⟩
    gi_wp2_with fail
    gi_loopw [16] (fun iv wr => ∃ j : Nat, iv = .int .i64 j ∧ j ≤ room ∧ Hid (J (openK D fr j) wr) ∧ Hid (KpO n₀ b W wr)) (fun iv _ => room - (intOf iv).toNat)
    case atStart => exact ⟨0, rfl, Nat.zero_le _, Lib.hid h0, Lib.hid ⟨Below.refl _ _, Its.refl _ _ _⟩⟩
    case round =>
      obtain ⟨j, rfl, hj, HJ, HK⟩ := hrel
      have hCr := HC.out.its HK.out.2
      by_cases hlt : j < room
      · obtain ⟨c0, c1, c2⟩ := hCr.cells
        obtain ⟨q, hq⟩ : ∃ q, q = fr + j := ⟨_, rfl⟩
        have HDr := Lib.hid (HD.out wr HK.out.1)
        have HRD := Lib.hid (disk_Read base wr p gl M v D (q : Int) HDr.out)
        have HOP := Lib.hid (fun W' => seal_Open (rdD D (q : Int)).1 W' (Nat.le_trans (rdD_len HDr.out (q : Int)) (by decide)))
        have HYY : Hid (∀ W1, J (openK D fr j) W1 → W.heap.size ≤ W1.heap.size → (recAt D (fr + j)).2 = 0 → YldO Tryd.prog l J Jx W.heap.size n₀ b (openK D fr j) (j, (recAt D (fr + j)).1) W1) := Lib.hid (fun W1 q1 q2 q3 => hY (openK D fr j) (j, (recAt D (fr + j)).1) W1 W1 q1 (Aside.refl _ _ _) (by rw [← openK_yes q3]; exact openK_pre D fr hlt) q2)
        have hrc : recAt D (fr + j) = openT (rdD D (q : Int)).1 := by unfold recAt; rw [hq]
        have HY1 : Hid ((recAt D (fr + j)).2 = 0 → openK D fr (j + 1) = openK D fr j ++ [(j, (recAt D (fr + j)).1)]) := Lib.hid openK_yes
        have HY2 : Hid ((recAt D (fr + j)).2 ≠ 0 → openK D fr (j + 1) = openK D fr j) := Lib.hid openK_no
        rw [hrc] at HYY HY1 HY2
        obtain ⟨rc, hrce⟩ : ∃ rc, rc = (openT (rdD D (q : Int)).1).1 := ⟨_, rfl⟩
        obtain ⟨c, hc⟩ : ∃ c, c = (openT (rdD D (q : Int)).1).2 := ⟨_, rfl⟩
        rw [← hrce, ← hc] at HOP HYY HY1
        rw [← hc] at HY2
        obtain ⟨S, hS⟩ : ∃ S, S = bs (rdD D (q : Int)).1 := ⟨_, rfl⟩
        rw [← hS] at HRD HOP
        obtain ⟨e7, he7⟩ : ∃ e7, e7 = (rdD D (q : Int)).2 := ⟨_, rfl⟩
        rw [← he7] at HRD
        obtain ⟨k1, k2, k3, k4⟩ := rc
        unfold recV at HOP
        have HWJ : Hid (-9223372036854775808 ≤ (j : Int) + 1 ∧ (j : Int) + 1 ≤ 9223372036854775807) := Lib.hid (by have := HLN.out; omega)
        have HWQ : Hid (wrap64 ((fr : Int) + (j : Int)) = (q : Int)) := Lib.hid (by rw [IntWalk.wrap64_in _ (by have := HLN.out; omega)]; omega)
        have HWJ2 : Hid (wrap64 ((j : Int) + 1) = (j : Int) + 1) := Lib.hid (IntWalk.wrap64_in _ HWJ.out)
        have hqi2 : wrap64 ((fr : Int) + (j : Int)) = (q : Int) := HWQ.out
        clear hq hrce hc hS he7 hrc HDr
        gi_wp2_with fail
        refine ⟨trivial, rfl, (callsIn_wide.2 HRD.out).mono ?_⟩
        rintro e w2 ⟨rfl, rfl⟩
        clear hqi2
        gi_wp2_with fail
        refine ⟨trivial, rfl, (callsIn_wide.2 (HOP.out _)).mono ?_⟩
        rintro e w3 ⟨rfl, hb3⟩
        obtain ⟨W4, hW4⟩ : ∃ W4, W4 = w3.alloc (.cells #[.int .u8 (k1 : Int), .int .u64 (k2 : Int), .int .u32 (k3 : Int), .string (bs k4)] 89) := ⟨_, rfl⟩
        have BB : Hid (Below wr.heap.size wr W4) := Lib.hid (by rw [hW4]; exact hb3.alloc hb3.size _)
        have K4 : Hid (KpO n₀ b W W4) := Lib.hid (HK.out.trans ⟨BB.out.mono (Nat.le_trans HN1.out HK.out.1.size), Its.of_below BB.out hCr.lt⟩)
        have J4 : Hid (J (openK D fr j) W4) := Lib.hid (hJ _ _ _ HJ.out (Aside.of_below BB.out))
        have S4 : Hid (W.heap.size ≤ W4.heap.size) := Lib.hid (Nat.le_trans HK.out.1.size BB.out.size)
        by_cases hc0 : c = 0
        · subst hc0
          have hcb : (((0 : Nat) : Int) == 0) = true := rfl
          have hYY := HYY.out W4 J4.out S4.out rfl
          unfold YldO at hYY
          obtain ⟨fn, tmps, assign, body, hy, hR⟩ := hYY
          have HR := Lib.hid hR
          unfold encO recV at hy
          dsimp only at hy
          have HE := Lib.hid (HY1.out rfl)
          subst hW4
          clear hR hb3
          gi_wp2_with fail
          refine ⟨rfl, HR.out.mono ?_⟩
          rintro e W5 ⟨⟨rfl, hJ5⟩ | ⟨rfl, hJ5⟩, hk5, _⟩
          · have K5 := Lib.hid (K4.out.trans hk5)
            have J5 := Lib.hid hJ5
            rw [← HE.out] at J5
            clear hJ5 hk5 hy
            gi_wp2_with fail
            rw [HWJ2.out]
            go_roundw
            case rel => exact ⟨j + 1, by go_num, by omega, J5, K5⟩
            case measure => simp [intOf]; omega
          · have J5 := Lib.hid hJ5
            rw [← HE.out] at J5
            clear hJ5 hk5 hy
            gi_wp2_with fail
            refine bodyPost_ret (results_none rfl _ _ _) rfl ?_
            exact ⟨⟨_, rfl⟩, .inr ⟨openK D fr (j + 1), openK_pre D fr hlt, J5.out⟩⟩
        · have hcb : ((c : Int) == 0) = false := nz_beq hc0
          have HE := HY2.out hc0
          subst hW4
          clear hb3
          gi_wp2_with fail
          refine ⟨fun _ h => (by cases h), ?_⟩
          gi_wp2_with fail
          rw [HWJ2.out]
          go_roundw
          case rel => exact ⟨j + 1, by go_num, by omega, Lib.hid (by rw [HE]; exact J4.out), K4⟩
          case measure => simp [intOf]; omega
      · obtain rfl : j = room := by omega
        gi_wp2_with fail
        go_end0
        exact ⟨⟨_, rfl⟩, .inl HJ.out⟩
  · have hl' : liesB D.lasts.length i r = false := by simpa using hl
    have hL : openL2 D i r = [] := by unfold openL2; rw [if_neg hl]
    rw [hl'] at HLI
    rw [hL]
    gi_wp2_with fail
    refine ⟨trivial, rfl, (callsIn_wide.2 (HLI.out _ (Below.refl _ _))).mono ?_⟩
    rintro e w1 ⟨rfl, rfl⟩
    gi_wp2_with fail
    refine bodyPost_ret (results_none rfl _ _ _) rfl ?_
    exact ⟨⟨_, rfl⟩, .inl h0⟩
end Go.Proofs.YtbigpapniloknaaDoor

namespace Go.Proofs.YtbigpapniloknaaDoor
open Go.RowKit Go.Maps
set_option maxRecDepth 100000

theorem leL_get (x j : Nat) (hj : j < 4) : (leL x)[j]'(by rw [leL_len]; exact hj) = UInt8.ofNat (x / 2 ^ (8 * j) % 256) := by
  match j, hj with
  | 0, _ => simp [leL]
  | 1, _ => rfl
  | 2, _ => rfl
  | 3, _ => rfl

set_option maxHeartbeats 4000000 in
theorem slot_foot (s : ByteArray) (w : World) (hs : (s.size : Int) ≤ 9223372036854775806) :
    Calls Tryd.prog 60 #[.string s] w fun e w' => e = .returned (.string (bs (leL (crcSum s.data.toList)))) ∧ Below w.heap.size w w' := by
  obtain ⟨i0, hi, hz0, hz1, hz2⟩ := info_parts infoByte
  have HS := Lib.hid (seal_Sum s w (by omega))
  obtain ⟨x, hx⟩ : ∃ x, x = crcSum s.data.toList := ⟨_, rfl⟩
  rw [← hx] at HS ⊢
  have HXB : Hid (x < 4294967296) := Lib.hid (by rw [hx]; exact crcSum_lt _)
  clear hx
  go_enter Tryd.func60, Tryd.ntmps60
  go_wp2_with fail
  refine HS.out.mono ?_
  rintro e w1 ⟨rfl, rfl⟩
  clear HS
  go_wp2_with (at_make; refine wpList_make_full _ rfl _ _ 86 rfl w.heap.size 5 i0 (.int .u8 0) 1 Tryd.underlying86 hi hz0 hz1 .i64 .i64 _ _ 4 rfl rfl rfl rfl (by rw [hz2]; omega) (by simp only [maxLen]; omega) (Nat.le_refl _) ?_; intro w2 hown hgr; have G0 := Lib.hid hown; have GR := Lib.hid hgr; clear hown hgr)
  have G1 : Hid (Blk w2 w.heap.size 5 (nums .u8 (nb ((leL x).take 0 ++ List.replicate (4 - 0) 0)))) := Lib.hid (by
    have h := Blk.of_make G0.out (by omega)
    have e : nums .u8 (nb ((leL x).take 0 ++ List.replicate (4 - 0) 0)) = List.replicate 4 (.int .u8 0) := by
      rw [List.take_zero, List.nil_append]
      unfold nb
      rw [List.map_replicate]
      exact nums_replicate .u8 4
    rw [e]
    exact h)
  have B1 := Lib.hid ((Below.refl w.heap.size w).grown GR.out (Nat.le_refl _) (fun k hk => by cases hk))
  clear G0 GR
  go_wp2_with fail
  go_loopw [11] (fun iv wr => ∃ k : Nat, iv = .int .i64 k ∧ k ≤ 4 ∧ Hid (Blk wr w.heap.size 5 (nums .u8 (nb ((leL x).take k ++ List.replicate (4 - k) 0)))) ∧ Hid (Below w.heap.size w wr)) (fun iv _ => 4 - (intOf iv).toNat)
  case atStart => exact ⟨0, rfl, Nat.zero_le _, G1, B1⟩
  case round =>
    obtain ⟨k, rfl, hk, HG, HB⟩ := hrel
    by_cases hlt : k < 4
    · obtain ⟨r, hr⟩ : ∃ r, 4 - k = r + 1 := ⟨4 - k - 1, by omega⟩
      have hl : ((leL x).take k).length = k := by rw [List.length_take, leL_len]; omega
      have hc : wr.cell? ⟨w.heap.size, k, none⟩ = some (.int .u8 0) := by
        rw [HG.out.cell, nums_nb_get, List.getElem?_append_right (by rw [hl]; exact Nat.le_refl _), hl, Nat.sub_self, hr, List.replicate_succ]
        rfl
      have hf := HG.out.frozen k
      obtain ⟨c, hcc⟩ : ∃ c, c = 8 * k := ⟨_, rfl⟩
      have hw3 : IntKind.i64.wrap (8 * (k : Int)) = (c : Int) := by rw [IntWalk.i64_in _ (by omega)]; omega
      obtain ⟨q, hq⟩ : ∃ q, q = x / 2 ^ (min c 32) := ⟨_, rfl⟩
      have hqi : (x : Int) / 2 ^ (min c 32) = (q : Int) := by rw [hq]; push_cast; rfl
      obtain ⟨y, hy⟩ : ∃ y, y = q % 256 := ⟨_, rfl⟩
      have hyi : IntKind.u8.wrap (q : Int) = (y : Int) := by rw [wrap_u8n, hy]
      have HG2 : Hid (Blk (wr.setCell ⟨w.heap.size, k, none⟩ (.int .u8 (y : Int))) w.heap.size 5 (nums .u8 (nb ((leL x).take (k + 1) ++ List.replicate (4 - (k + 1)) 0)))) := Lib.hid (by
        have h := HG.out.set_ k (.int .u8 (y : Int))
        have e := nums_nb_set ((leL x).take k ++ List.replicate (4 - k) 0) k (UInt8.ofNat y)
        rw [UInt8.toNat_ofNat', Nat.mod_eq_of_lt (by omega)] at e
        rw [e, List.set_append_right _ _ (by rw [hl]; exact Nat.le_refl _), hl, Nat.sub_self, hr, List.replicate_succ, List.set_cons_zero] at h
        rw [show 4 - (k + 1) = r from by omega, List.take_succ_eq_append_getElem (by rw [leL_len]; exact hlt), leL_get x k hlt, List.append_assoc]
        have e3 : x / 2 ^ (8 * k) % 256 = y := by rw [hy, hq, hcc, Nat.min_eq_left (by omega)]
        rw [e3]
        exact h)
      clear hr hl hq hy hcc
      go_wp2_with fail
      go_roundw
      case rel => exact ⟨k + 1, by go_num, by omega, HG2, Lib.hid (HB.out.setCell (p := ⟨w.heap.size, k, none⟩) (Nat.le_refl _) _)⟩
      case measure => simp [intOf]; omega
    · obtain rfl : k = 4 := by omega
      have hat : At wr w.heap.size 0 (leL x) := by
        intro j hj
        rw [leL_len] at hj
        have h1 : (leL x).take 4 = leL x := List.take_of_length_le (by rw [leL_len]; exact Nat.le_refl _)
        rw [Nat.zero_add, HG.out.cell, nums_nb_get, h1]
        simp only [Nat.sub_self, List.replicate_zero, List.append_nil]
        rw [List.getElem?_eq_getElem (by rw [leL_len]; exact hj)]
        rfl
      have hcv := hat.conv 4
      rw [leL_len] at hcv
      clear hat
      go_wp2_with fail
      go_ret
      exact ⟨rfl, HB.out⟩

end Go.Proofs.YtbigpapniloknaaDoor
