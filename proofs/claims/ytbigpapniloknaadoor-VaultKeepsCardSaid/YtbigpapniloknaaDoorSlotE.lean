/- The contract of parts' iterator. -/
import Derived.Test.YtbigpapniloknaaDoorJSlb
import Derived.Deep.RegionHeld3
namespace Go.Proofs.YtbigpapniloknaaDoor
open Go.RowKit Go.Maps
set_option maxRecDepth 100000
attribute [local go_sem] Oper.semAt_some

/-- A text and its sum. -/
def sumT (t : List UInt8) : List UInt8 := t ++ leL (crcSum t)
theorem sumT_len (t : List UInt8) : (sumT t).length = t.length + 4 := by unfold sumT; rw [List.length_append, leL_len]
/-- How many parts, and each of them. -/
def partN (S : List UInt8) : Nat := (S.length + 109) / 110
def partAt (gen : Nat) (S : List UInt8) (j : Nat) : RecT := (if j + 1 = partN S then 3 else 2, gen, j, (S.drop (110 * j)).take 110)
def partsK (gen : Nat) (S : List UInt8) (k : Nat) : List RecT := (List.range k).map (partAt gen S)
def partsL (gen : Nat) (t : List UInt8) : List RecT := partsK gen (sumT t) (partN (sumT t))
theorem partsK_succ (gen : Nat) (S : List UInt8) (k : Nat) : partsK gen S (k + 1) = partsK gen S k ++ [partAt gen S k] := by unfold partsK; rw [List.range_succ, List.map_append]; rfl
theorem partsK_pre (gen : Nat) (S : List UInt8) {i j : Nat} (h : i ≤ j) : partsK gen S i <+: partsK gen S j := by
  induction j with
  | zero => obtain rfl : i = 0 := by omega
            exact List.prefix_refl _
  | succ j ih =>
    by_cases e : i = j + 1
    · subst e; exact List.prefix_refl _
    · rw [partsK_succ]; exact (ih (by omega)).trans (List.prefix_append _ _)
def encP (r : RecT) : Array Value := #[recV r]

/-- Two boxes that parts has captured. -/
def CapP (w : World) (b gen : Nat) (t : List UInt8) : Prop := Blk w b 29 [.int .u64 (gen : Int)] ∧ Blk w (b + 1) 9 [.string (bs t)]
theorem CapP.its {w w' : World} {b gen : Nat} {t : List UInt8} (h : CapP w b gen t) (hk : Its b 2 w w') : CapP w' b gen t := ⟨(hk b (Nat.le_refl _) (by omega)).trans h.1, (hk (b + 1) (by omega) (by omega)).trans h.2⟩
theorem CapP.lt {w : World} {b gen : Nat} {t : List UInt8} (h : CapP w b gen t) : b + 2 ≤ w.heap.size := h.2.lt

set_option maxHeartbeats 1000000 in
theorem slot_parts (w : World) (gen : Nat) (t : List UInt8) :
    Calls Tryd.prog 51 #[.int .u64 (gen : Int), .string (bs t)] w fun e w' => e = .returned (.func (.func 63) #[] #[.pointer (some ⟨w.heap.size + 1, 0, none⟩), .pointer (some ⟨w.heap.size, 0, none⟩)]) ∧
      w' = (w.alloc (.cells #[.int .u64 (gen : Int)] 29)).alloc (.cells #[.string (bs t)] 9) := by
  go_enter Tryd.func51, Tryd.ntmps51
  go_wp2
  go_ret
  exact ⟨rfl, rfl⟩
theorem capP_new (w : World) (gen : Nat) (t : List UInt8) : CapP ((w.alloc (.cells #[.int .u64 (gen : Int)] 29)).alloc (.cells #[.string (bs t)] 9)) w.heap.size gen t := by
  refine ⟨(Blk.new1 _ _ _).alloc _, ?_⟩
  have h := Blk.new1 (w.alloc (.cells #[.int .u64 (gen : Int)] 29)) 9 (.string (bs t))
  rw [World.size_alloc] at h
  exact h

theorem run_str_to (l T : List UInt8) (n : Nat) (W : World) (hn : n ≤ l.length) (hT : l.take n = T) :
    (Instr.slice 9 (.string (bs l)) none (some (.int .i64 (n : Int))) none).run Tryd.prog W = .ok (.string (bs T)) W := by
  have h2 : (0 : Int) ≤ (n : Int) := by omega
  have h4 : n ≤ (bs l).size := by rw [bs_size]; omega
  have hx : (bs l).extract 0 n = bs T := by rw [bs_extract, List.drop_zero, Nat.sub_zero, hT]
  simp [Instr.slice, Instr.sliceBounds, Instr.sliceBound, asIntOf, run_underlying Tryd.underlying9, go_sem, h2, h4, hx]
theorem run_str_from (l T : List UInt8) (n : Nat) (W : World) (hn : n ≤ l.length) (hT : l.drop n = T) :
    (Instr.slice 9 (.string (bs l)) (some (.int .i64 (n : Int))) none none).run Tryd.prog W = .ok (.string (bs T)) W := by
  have h2 : (0 : Int) ≤ (n : Int) := by omega
  have h4 : n ≤ (bs l).size := by rw [bs_size]; omega
  have hx : (bs l).extract n (bs l).size = bs T := by rw [bs_extract, bs_size, List.take_of_length_le (by rw [List.length_drop]; exact Nat.le_refl _), hT]
  simp [Instr.slice, Instr.sliceBounds, Instr.sliceBound, asIntOf, run_underlying Tryd.underlying9, go_sem, h2, h4, hx]
theorem bs_ne {l : List UInt8} (h : l ≠ []) : ((bs l).toList == []) = false ∧ (bs l).toList.isEmpty = false ∧ ((bs l).toList != []) = true := by
  have e : (bs l).toList = l := by unfold bs; rw [ByteArray.toList_mk]
  rw [e]
  cases l with
  | nil => exact absurd rfl h
  | cons x l => exact ⟨rfl, rfl, rfl⟩

/-- What a round keeps: the captured boxes. -/
def KpP (b : Nat) (W W' : World) : Prop := Its b 2 W W' ∧ W.heap.size ≤ W'.heap.size
theorem KpP.trans {b : Nat} {X Y Z : World} (h : KpP b X Y) (k : KpP b Y Z) : KpP b X Z := ⟨h.1.trans k.1, Nat.le_trans h.2 k.2⟩
theorem KpP.putObj {b : Nat} (W : World) {l : Nat} (o : Obj) (h : b + 2 ≤ l) : KpP b W (W.putObj l o) := ⟨Its.putObj W (.inr h) o, by simp⟩
theorem bs_em : (bs ([] : List UInt8)).toList.isEmpty = true := by unfold bs; rw [ByteArray.toList_mk]; rfl

set_option maxHeartbeats 8000000 in
theorem parts_seq (w : World) (b gen : Nat) (t : List UInt8) (hC : CapP w b gen t) (ht : t.length ≤ 400000) :
    SeqOwn Tryd.prog 63 #[.pointer (some ⟨b + 1, 0, none⟩), .pointer (some ⟨b, 0, none⟩)] encP 0 (fun _ => KpP b) (partsL gen t) w := fun l J Jx W hW hJ _ hY h0 => by
  have hCW : CapP W b gen t := hC.its (Its.of_below hW hC.lt)
  have HC := Lib.hid hCW
  obtain ⟨S, hS⟩ : ∃ S, S = sumT t := ⟨_, rfl⟩
  have HL : Hid (partsL gen t = partsK gen S (partN S)) := Lib.hid (by rw [hS]; rfl)
  have HSL : Hid (S.length = t.length + 4) := Lib.hid (by rw [hS]; exact sumT_len t)
  have hcat : bs t ++ bs (leL (crcSum t)) = bs S := by rw [bs_append, hS]; rfl
  obtain ⟨ft, hft⟩ : ∃ ft, ft = bs (leL (crcSum t)) := ⟨_, rfl⟩
  have HF : Hid (∀ W', Calls Tryd.prog 60 #[.string (bs t)] W' fun e w' => e = .returned (.string ft) ∧ Below W'.heap.size W' w') := Lib.hid (fun W' => by
    have h := slot_foot (bs t) W' (by rw [bs_size]; omega)
    rw [bs_list, ← hft] at h
    exact h)
  rw [← hft] at hcat
  have hsz2 : ft.size = 4 := by rw [hft, bs_size]; rfl
  obtain ⟨n, hn⟩ : ∃ n, n = t.length := ⟨_, rfl⟩
  have hsz1 : (bs t).size = n := by rw [bs_size, hn]
  have hnb : n ≤ 400000 := by omega
  have HADD : Hid (∀ W' : World, (Op.stringOp .add (bs t) ft).run Tryd.prog W' = .ok (.string (bs S)) W') := Lib.hid (fun W' => by rw [← hcat]; exact run_string_add_sum W' _ _ (by rw [hsz1, hsz2]; omega))
  have hadd := HADD.out
  rw [HL.out] at hY ⊢
  clear hft hS hC hn hcat hsz1 hsz2 hnb
  refine (callsIn_wide (n := 0)).1 ?_
  refine callsIn_of_wp Tryd.func63 rfl trivial ?_ rfl
  simp only [Tryd.ntmps63, List.size_toArray, List.length_cons, List.length_nil, Nat.reduceAdd, Nat.reduceSub, Array.replicate_succ, Array.replicate_zero, List.push_toArray, List.append_toArray, List.nil_append, List.cons_append]
  have hc := hCW.2.cell0
  refine wpIn_wide.2 ?_
  go_wp2_with fail
  go_region_held3 (fun w' => w'.cell? ⟨b + 1, 0, none⟩ = some (.string (bs t)))
    (first | exact hCW.2.cell0 | exact (hCW.its (Its.of_below ((Below.refl _ _).drew.trans hb3) hCW.lt)).2.cell0)
    ((go_at_call 60; refine (HF.out _).mono ?_; rintro e w3 ⟨rfl, hb3⟩))
  have bel3 : Below W.heap.size W w3 := (Below.refl _ _).drew.trans hb3
  have J3 : Hid (J (partsK gen S 0) w3) := Lib.hid (hJ _ _ _ h0 (Aside.of_below bel3))
  have K3 : Hid (Below b W w3 ∧ Its b 2 W w3 ∧ W.heap.size ≤ w3.heap.size) := Lib.hid ⟨bel3.mono (by have := hCW.lt; omega), Its.of_below bel3 hCW.lt, bel3.size⟩
  have HPN : Hid (∀ j, j < partN S ↔ 110 * j < S.length) := Lib.hid (fun j => by unfold partN; omega)
  have HLB : Hid (S.length ≤ 400004) := Lib.hid (by rw [HSL.out]; omega)
  clear hadd hc bel3 hb3
  go_wp2_with fail
  refine (wpIn_wide (n := 0)).1 ?_
  gi_loopw [4, 5] (fun sv iv wr => ∃ j : Nat, sv = .string (bs (S.drop (110 * j))) ∧ iv = .int .u32 j ∧ j ≤ partN S ∧ Hid (J (partsK gen S j) wr) ∧ Hid (Its b 2 W wr ∧ W.heap.size ≤ wr.heap.size)) (fun _ iv _ => partN S - (intOf iv).toNat)
  case atStart => exact ⟨0, rfl, rfl, Nat.zero_le _, J3, Lib.hid K3.out.2⟩
  case round =>
    obtain ⟨j, rfl, rfl, hj, HJ, HK⟩ := hrel
    have hCr := HC.out.its HK.out.1
    by_cases hlt : j < partN S
    · have hjl := (HPN.out j).1 hlt
      obtain ⟨R, hR⟩ : ∃ R, R = S.drop (110 * j) := ⟨_, rfl⟩
      have hRl : R.length = S.length - 110 * j := by rw [hR, List.length_drop]
      obtain ⟨n, hn⟩ : ∃ n, n = min R.length 110 := ⟨_, rfl⟩
      obtain ⟨A, hA⟩ : ∃ A, A = R.take n := ⟨_, rfl⟩
      obtain ⟨R2, hR2⟩ : ∃ R2, R2 = R.drop n := ⟨_, rfl⟩
      have HR2 : Hid (R2 = S.drop (110 * (j + 1))) := Lib.hid (by
        rw [hR2, hR, List.drop_drop]
        by_cases h : R.length ≤ 110
        · rw [List.drop_of_length_le (by omega), List.drop_of_length_le (by omega)]
        · rw [show 110 * j + n = 110 * (j + 1) from by omega])
      have HAT : Hid (partAt gen S j = (if j + 1 = partN S then 3 else 2, gen, j, A)) := Lib.hid (by
        unfold partAt
        rw [← hR, hA]
        by_cases h : R.length ≤ 110
        · rw [hn, Nat.min_eq_left h, List.take_of_length_le h, List.take_of_length_le (Nat.le_refl _)]
        · rw [hn, Nat.min_eq_right (by omega)])
      have HEM : Hid (j + 1 = partN S ↔ R2 = []) := Lib.hid (by
        have h1 := HPN.out (j + 1)
        rw [← List.length_eq_zero_iff, HR2.out, List.length_drop]
        omega)
      have HTO : Hid (∀ W' : World, (Instr.slice 9 (.string (bs R)) none (some (.int .i64 (n : Int))) none).run Tryd.prog W' = .ok (.string (bs A)) W') := Lib.hid (fun W' => run_str_to R A n W' (by omega) hA.symm)
      have HFR : Hid (∀ W' : World, (Instr.slice 9 (.string (bs R)) (some (.int .i64 (n : Int))) none none).run Tryd.prog W' = .ok (.string (bs R2)) W') := Lib.hid (fun W' => run_str_from R R2 n W' (by omega) hR2.symm)
      obtain ⟨ne1, ne2, ne3⟩ := bs_ne (l := R) (by intro h; rw [h] at hRl; simp at hRl; omega)
      have hrs := bs_size R
      obtain ⟨rl, hrl⟩ : ∃ rl, rl = R.length := ⟨_, rfl⟩
      have hmin : min (rl : Int) 110 = (n : Int) := by rw [hrl, hn]; omega
      rw [← hrl] at hrs
      have hsl1 := HTO.out
      have hsl2 := HFR.out
      have hg := hCr.1.cell0
      rw [← hR]
      clear hR hRl hn hA hR2 hrl
      have HGA : Hid (∀ o, ((wr.drew).alloc o).cell? ⟨b, 0, none⟩ = some (.int .u64 (gen : Int)) ∧ (wr.alloc o).cell? ⟨b, 0, none⟩ = some (.int .u64 (gen : Int))) := Lib.hid (fun o => ⟨(hCr.1.alloc o).cell0, (hCr.1.alloc o).cell0⟩)
      have hgd : wr.drew.cell? ⟨b, 0, none⟩ = some (.int .u64 (gen : Int)) := hg
      gi_wp2_with fail
      refine wpIn_wide.2 ?_
      go_region_held3 (fun w' => w'.cell? ⟨b, 0, none⟩ = some (.int .u64 (gen : Int)))
        (first | exact hg | exact hgd | exact (HGA.out _).1 | exact (HGA.out _).2)
        (fail)
      obtain ⟨W5, hW5⟩ : ∃ W5, W5 = (wr.alloc (.cells #[.int .u8 2, .int .u64 (gen : Int), .int .u32 (j : Int), .string (bs A)] 89)).drew := ⟨_, rfl⟩
      have bel5 : Below wr.heap.size wr W5 := by rw [hW5]; exact ((Below.refl _ _).alloc (Nat.le_refl _) _).drew
      have R5 : Hid (Blk W5 wr.heap.size 89 [.int .u8 2, .int .u64 (gen : Int), .int .u32 (j : Int), .string (bs A)]) := Lib.hid (by rw [hW5]; exact Blk.box4 wr _ _ _ _ _)
      have B5 := Lib.hid bel5
      have J5 : Hid (J (partsK gen S j) W5) := Lib.hid (hJ _ _ _ HJ.out (Aside.of_below bel5))
      have K5 : Hid (Its b 2 W W5 ∧ W.heap.size ≤ W5.heap.size) := Lib.hid ⟨HK.out.1.trans (Its.of_below bel5 hCr.lt), Nat.le_trans HK.out.2 bel5.size⟩
      have hbr : b + 2 ≤ wr.heap.size := hCr.lt
      have hWr : W.heap.size ≤ wr.heap.size := HK.out.2
      have HPRE : Hid (partsK gen S j ++ [partAt gen S j] <+: partsK gen S (partN S)) := Lib.hid (by rw [← partsK_succ]; exact partsK_pre gen S hlt)
      have HSUC : Hid (partsK gen S (j + 1) = partsK gen S j ++ [partAt gen S j]) := Lib.hid (partsK_succ gen S j)
      have hJB : (j : Int) + 1 < 4294967296 := by have := HLB.out; have := hlt; unfold partN at this; omega
      have HJM : Hid (((j : Int) + 1) % 4294967296 = (j : Int) + 1) := Lib.hid (by omega)
      have HLT := Lib.hid hlt
      clear hJB
      rw [← hW5]
      clear hW5 bel5 hg hgd HGA hsl1 ne1 ne2 ne3 hmin hrs HTO
      obtain ⟨b0, b1, b2, b3⟩ := R5.out.four
      have fz0 := R5.out.frozen 0
      have HYA : Hid (∀ (kk : Nat) (ki : Int) W6, ki = (kk : Int) → J (partsK gen S j) W6 → W.heap.size ≤ W6.heap.size → partAt gen S j = (kk, gen, j, A) → YieldAt Fence.wide 0 Tryd.prog l #[.agg #[.int .u8 ki, .int .u64 (gen : Int), .int .u32 (j : Int), .string (bs A)]] W6 fun e W' =>
          ((e = .returned (.bool true) ∧ J (partsK gen S (j + 1)) W') ∨ (e = .returned (.bool false) ∧ Jx (partsK gen S (j + 1)) W')) ∧ KpP b W6 W') := Lib.hid (fun kk ki W6 q0 q1 q2 q3 => by
        have h := hY (partsK gen S j) (partAt gen S j) W6 W6 q1 (Aside.refl _ _ _) HPRE.out q2
        rw [← HSUC.out, q3] at h
        subst q0
        exact h.mono (fun e W' hx => ⟨hx.1, hx.2.1⟩))
      by_cases hlast : j + 1 = partN S
      · have hR2n : R2 = [] := HEM.out.1 hlast
        have HAT3 : Hid (partAt gen S j = (3, gen, j, A)) := Lib.hid (by rw [HAT.out, if_pos hlast])
        subst hR2n
        have hem1 : (bs ([] : List UInt8)).toList.isEmpty = true := bs_em
        clear hlast
        obtain ⟨W6, hW6⟩ : ∃ W6, W6 = W5.setCell ⟨wr.heap.size, 0, none⟩ (.int .u8 3) := ⟨_, rfl⟩
        have R6 : Hid (Blk W6 wr.heap.size 89 [.int .u8 3, .int .u64 (gen : Int), .int .u32 (j : Int), .string (bs A)]) := Lib.hid (by rw [hW6]; exact R5.out.set_ 0 _)
        have J6 : Hid (J (partsK gen S j) W6) := Lib.hid (hJ _ _ _ HJ.out (Aside.of_below (by rw [hW6]; exact B5.out.setCell (p := ⟨wr.heap.size, 0, none⟩) (Nat.le_refl _) _)))
        have K6 : Hid (Its b 2 W W6 ∧ W.heap.size ≤ W6.heap.size) := Lib.hid (by rw [hW6]; exact ⟨K5.out.1.trans (Its.setCell W5 (p := ⟨wr.heap.size, 0, none⟩) (.inr hbr) _), by simp [World.setCell]; exact K5.out.2⟩)
        obtain ⟨d0, d1, d2, d3⟩ := R6.out.four
        obtain ⟨fn, tmps, assign, body, hy, hR⟩ := HYA.out 3 3 W6 rfl J6.out K6.out.2 HAT3.out
        rw [hW6] at hy d0 d1 d2 d3 hR K6
        have HR := Lib.hid hR
        clear hR hjl hlt hW6 fz0
        have fz0 := R5.out.frozen 0
        gi_wp2_with fail
        refine ⟨rfl, HR.out.mono ?_⟩
        rintro e W7 ⟨⟨rfl, hJ7⟩ | ⟨rfl, hJ7⟩, hk7⟩
        · have J7 := Lib.hid hJ7
          have K7 : Hid (Its b 2 W W7 ∧ W.heap.size ≤ W7.heap.size) := Lib.hid ⟨K6.out.1.trans hk7.1, Nat.le_trans K6.out.2 hk7.2⟩
          have hjm := HJM.out
          clear hJ7 hk7 hy
          gi_wp2_with fail
          clear hjm
          go_roundw
          case rel => exact ⟨j + 1, by rw [← HR2.out], by go_num, HLT.out, J7, K7⟩
          case measure => have := HLT.out; simp [intOf]; omega
        · have J7 := Lib.hid hJ7
          clear hJ7 hk7 hy
          gi_wp2_with fail
          refine bodyPost_ret (results_none rfl _ _ _) rfl ?_
          exact ⟨⟨_, rfl⟩, .inr ⟨partsK gen S (j + 1), partsK_pre gen S HLT.out, J7.out⟩⟩
      · have hR2n : R2 ≠ [] := fun h => hlast (HEM.out.2 h)
        have HAT2 : Hid (partAt gen S j = (2, gen, j, A)) := Lib.hid (by rw [HAT.out, if_neg hlast])
        obtain ⟨en1, en2, en3⟩ := bs_ne hR2n
        have K6 := K5
        obtain ⟨fn, tmps, assign, body, hy, hR⟩ := HYA.out 2 2 W5 rfl J5.out K5.out.2 HAT2.out
        have HR := Lib.hid hR
        clear hR hjl hlt hlast fz0 en1 en3 hR2n
        gi_wp2_with fail
        refine ⟨rfl, HR.out.mono ?_⟩
        rintro e W7 ⟨⟨rfl, hJ7⟩ | ⟨rfl, hJ7⟩, hk7⟩
        · have J7 := Lib.hid hJ7
          have K7 : Hid (Its b 2 W W7 ∧ W.heap.size ≤ W7.heap.size) := Lib.hid ⟨K6.out.1.trans hk7.1, Nat.le_trans K6.out.2 hk7.2⟩
          have hjm := HJM.out
          clear hJ7 hk7 hy
          gi_wp2_with fail
          clear hjm
          go_roundw
          case rel => exact ⟨j + 1, by rw [← HR2.out], by go_num, HLT.out, J7, K7⟩
          case measure => have := HLT.out; simp [intOf]; omega
        · have J7 := Lib.hid hJ7
          clear hJ7 hk7 hy
          gi_wp2_with fail
          refine bodyPost_ret (results_none rfl _ _ _) rfl ?_
          exact ⟨⟨_, rfl⟩, .inr ⟨partsK gen S (j + 1), partsK_pre gen S HLT.out, J7.out⟩⟩
    · obtain rfl : j = partN S := by omega
      have hRn : S.drop (110 * partN S) = [] := List.drop_of_length_le (by have := (HPN.out (partN S)); omega)
      rw [hRn]
      have hem1 : (bs ([] : List UInt8)).toList.isEmpty = true := bs_em
      gi_wp2_with fail
      go_end0
      exact ⟨⟨_, rfl⟩, .inl HJ.out⟩
end Go.Proofs.YtbigpapniloknaaDoor
