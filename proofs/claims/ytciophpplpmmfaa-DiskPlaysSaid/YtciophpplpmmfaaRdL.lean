/- The walk of DiskPlays (under way: its loop). -/
import Derived.Test.YtciophpplpmmfaaRdK
namespace Go.Proofs.Ytciophpplpmmfaa
open Go.RowKit

/-- An act that came in. -/
structure ActT where
  k : Nat
  I : Int
  At : Int
  y : Nat
  sh : Bool
  K : Option Addr
  kn : Nat
  kc : Nat
  ks : List Bool
def ActT.cells (a : ActT) : List Value := [.int .u8 (a.k : Int), .int .i64 a.I, .int .i64 a.At, .int .u8 (a.y : Int), .bool a.sh, .slice a.K a.kn a.kc]
def ActT.ok (w : World) (a : ActT) : Prop := a.k < 256 ∧ (-9223372036854775808 ≤ a.At ∧ a.At ≤ 9223372036854775807) ∧ a.y < 256 ∧ KSl w a.K a.kn a.ks
/-- A slice of acts. -/
def Acts (w : World) (A : Option Addr) (n : Nat) (l : Nat → ActT) : Prop := 0 < n → ∃ b off, A = some ⟨b, off, none⟩ ∧ ∀ j, j < n → (l j).ok w ∧ ∀ i u, (l j).cells[i]? = some u → w.cell? ⟨b, off + j * 6 + i, none⟩ = some u
theorem KSl.keep {w w' : World} {A : Option Addr} {n : Nat} {ks : List Bool} (h : KSl w A n ks) (hb : Below w.heap.size w w') : KSl w' A n ks := by
  refine ⟨h.1, fun hp => ?_⟩
  obtain ⟨b, off, e, hc⟩ := h.2 hp
  exact ⟨b, off, e, fun j hj => (hb.cell (p := ⟨b, off + j, none⟩) (block_lt_of_cell (hc j hj))).trans (hc j hj)⟩

set_option maxHeartbeats 8000000 in
set_option maxRecDepth 100000 in
theorem plays_main (n : Nat) (La : Option Addr) (ln lc : Nat) (l : Nat → ActT) (w : World) (hn1 : 1 ≤ n) (hn : n ≤ 40) (hln : ln ≤ 60) (hL : Acts w La ln l) (hlc : ln ≤ lc) :
    Calls Try.prog 3 #[.int .i64 (n : Int), .slice La ln lc] w fun e w' => e = .returned (.bool true) ∧ Below w.heap.size w w' := by
  have HA := Lib.hid disk_Awake
  have HN := Lib.hid (disk_New n w hn1 (by omega))
  have HLL := Lib.hid hL
  have d1 : decide ((40 : Int) < (n : Int)) = false := decide_eq_false (by omega)
  have d1' : decide (40 < n) = false := decide_eq_false (by omega)
  have d2 : decide ((60 : Int) < (ln : Int)) = false := decide_eq_false (by omega)
  have d2' : decide (60 < ln) = false := decide_eq_false (by omega)
  have d3 : decide ((n : Int) < 1) = false := decide_eq_false (by omega)
  have d4 : decide ((4096 : Int) < (n : Int)) = false := decide_eq_false (by omega)
  have d4' : decide (4096 < n) = false := decide_eq_false (by omega)
  clear hL
  go_enter Try.func3, Try.ntmps3
  go_wp2_with fail
  refine HN.out.mono ?_
  rintro e w1 ⟨p, gl, M, v, rfl, hD1, hb1⟩
  have D1 := Lib.hid hD1
  have B1 := Lib.hid hb1
  have RN := Lib.hid (ref_New12 n w1 hn1 (by omega))
  unfold rdV at RN
  clear hD1 hb1 HN
  go_wp2_with fail
  refine RN.out.mono ?_
  rintro e w2 ⟨B, m, d, rfl, hs2, bl⟩
  have D2 := Lib.hid (D1.out.keep bl)
  have B2 := Lib.hid (B1.out.trans (bl.mono B1.out.size))
  have Q2 : Hid (RDk w2 B m d none 0 0 (newD n)) := Lib.hid ⟨hs2, WriS.empty _, fun _ => ⟨rfl, rfl⟩⟩
  clear hs2 bl RN
  go_wp2_with fail
  obtain ⟨W3, hW3⟩ : ∃ W3, W3 = w2.alloc (.cells #[.slice B m d, .slice none 0 0, .int .i64 (newD n).armed, .int .i64 ((newD n).ops : Int)] 31) := ⟨_, rfl⟩
  have bl3 : Below w2.heap.size w2 W3 := by rw [hW3]; exact (Below.refl _ _).alloc (Nat.le_refl _) _
  have X3 : Hid (Blk W3 w2.heap.size 31 [.slice B m d, .slice none 0 0, .int .i64 (newD n).armed, .int .i64 ((newD n).ops : Int)]) := Lib.hid (by rw [hW3]; exact heap_alloc_new w2 _)
  have D3 := Lib.hid (D2.out.keep bl3)
  have Q3 := Lib.hid (Q2.out.keep bl3)
  have B3 := Lib.hid (B2.out.trans (bl3.mono B2.out.size))
  have C2 : Hid (w.heap.size ≤ w2.heap.size) := Lib.hid B2.out.size
  rw [← hW3]
  clear hW3 bl3
  try simp only [Act.put, List.setIfInBounds_toArray, List.set_cons_succ, List.set_cons_zero]
  go_loopw [58] (fun iv wr => ∃ (k : Nat) (D : DSt) (v : Value) (A : Option Addr) (q c : Nat) (A' : Option Addr) (q' c' : Nat), iv = .int .i64 k ∧ k ≤ ln ∧ Hid (IsDisk w.heap.size wr p gl M v D) ∧ Hid (RDk wr A q c A' q' c' D) ∧ Hid (Blk wr w2.heap.size 31 [.slice A q c, .slice A' q' c', .int .i64 D.armed, .int .i64 (D.ops : Int)]) ∧ Hid (ArmOk D ∧ D.waits.length ≤ k ∧ D.ops ≤ k ∧ D.lasts.length = n) ∧ Hid (Below w.heap.size w wr)) (fun iv _ => ln - (intOf iv).toNat)
  case atStart => exact ⟨0, newD n, v, B, m, d, none, 0, 0, rfl, Nat.zero_le _, D3, Q3, X3, Lib.hid ⟨⟨by show (-9223372036854775808 : Int) ≤ 0; decide, by show (0 : Int) ≤ 9223372036854775807; decide⟩, Nat.le_refl _, Nat.le_refl _, List.length_replicate⟩, B3⟩
  case round =>
    obtain ⟨k, D, v, A, q, c, A', q', c', rfl, hk, HD, HQ, HX, HS, HB⟩ := hrel
    by_cases hlt : k < ln
    · have hd : decide ((k : Int) < (ln : Int)) = true := decide_eq_true (by omega)
      have hd3 : decide (k < ln) = true := decide_eq_true hlt
      have HLT := Lib.hid hlt
      have hkw : IntKind.i64.wrap ((k : Int) + 1) = (k : Int) + 1 := IntWalk.i64_in _ (by omega)
      obtain ⟨lb, lo, rfl, hla⟩ := HLL.out (by omega)
      obtain ⟨hok, hcl⟩ := hla k hlt
      obtain ⟨a, ha⟩ : ∃ a, a = l k := ⟨_, rfl⟩
      rw [← ha] at hok hcl
      have HOK := Lib.hid hok
      have hcw : ∀ i u, a.cells[i]? = some u → wr.cell? ⟨lb, lo + k * 6 + i, none⟩ = some u := fun i u hu => (HB.out.cell (p := ⟨lb, lo + k * 6 + i, none⟩) (block_lt_of_cell (hcl i u hu))).trans (hcl i u hu)
      have c0 := hcw 0 _ rfl
      have c1 := hcw 1 _ rfl
      have c2 := hcw 2 _ rfl
      have c3 := hcw 3 _ rfl
      have c4 := hcw 4 _ rfl
      have c5 := hcw 5 _ rfl
      rw [Nat.add_zero] at c0
      clear hcw hcl hok ha hla hlt hk
      by_cases h100 : 100 < a.kn
      · have hkd : decide ((100 : Int) < (a.kn : Int)) = true := decide_eq_true (by omega)
        have hkd2 : decide (100 < a.kn) = true := decide_eq_true h100
        have B4 := Lib.hid (HB.out.alloc HB.out.size (.cells a.cells.toArray 35))
        go_wp2_with fail
        refine (HA.out _).mono ?_
        rintro e w5 ⟨rfl, hb5⟩
        go_wp2_with fail
        go_ret
        exact ⟨rfl, B4.out.trans (hb5.mono B4.out.size)⟩
      · have hkd : decide ((100 : Int) < (a.kn : Int)) = false := decide_eq_false (by omega)
        have hkd2 : decide (100 < a.kn) = false := decide_eq_false h100
        obtain ⟨W4, hW4⟩ : ∃ W4, W4 = wr.alloc (.cells #[.int .u8 (a.k : Int), .int .i64 a.I, .int .i64 a.At, .int .u8 (a.y : Int), .bool a.sh, .slice a.K a.kn a.kc] 35) := ⟨_, rfl⟩
        have bl4 : Below wr.heap.size wr W4 := by rw [hW4]; exact (Below.refl _ _).alloc (Nat.le_refl _) _
        have D4 := Lib.hid (HD.out.keep bl4)
        have Q4 := Lib.hid (HQ.out.keep bl4)
        have X4 := Lib.hid (HX.out.keep bl4)
        have B4 := Lib.hid (HB.out.trans (bl4.mono HB.out.size))
        obtain ⟨x0, x1, x2, x3⟩ := X4.out.fourR
        rw [hW4] at x0 x1 x2 x3
        have SM : Small D := ⟨HS.out.1, by have := HS.out.2.1; have := HLT.out; omega, by have := HS.out.2.2.1; have := HLT.out; omega⟩
        have HDO := Lib.hid (law_Do w.heap.size W4 p gl M v A q c A' q' c' D a.k a.I a.At a.y a.sh a.K a.kn a.kc a.ks D4.out Q4.out SM D4.out.2.2.2.2.1 B4.out.size HOK.out.2.2.1 (fun w' hb _ => HOK.out.2.2.2.keep (B4.out.trans hb)) (by omega) HOK.out.1)
        have HSM := Lib.hid (act_small D a.k a.I a.At a.y a.sh a.ks HS.out.1 HOK.out.2.1)
        generalize actD D a.k a.I a.At a.y a.sh a.ks = E at HDO HSM
        unfold rdV at HDO
        have HS2 : Hid (ArmOk E ∧ E.waits.length ≤ k + 1 ∧ E.ops ≤ k + 1 ∧ E.lasts.length = n) := Lib.hid ⟨HSM.out.1, by have := HSM.out.2.1; have := HS.out.2.1; omega, by have := HSM.out.2.2.1; have := HS.out.2.2.1; omega, HSM.out.2.2.2.trans HS.out.2.2.2⟩
        have HW4 := Lib.hid hW4
        clear hW4 bl4 SM h100
        go_wp2_with fail
        clear x0 x1 x2 x3 c0 c1 c2 c3 c4 c5
        rw [← HW4.out]
        refine HDO.out.mono ?_
        rintro e W5 ⟨B5, m5, d5, B6, m6, d6, v5, rfl, h5, q5, hb5, hk5⟩
        have D5 := Lib.hid h5
        have Q5 := Lib.hid q5
        have X5 := Lib.hid (hk5 _ _ _ (by decide) (by decide) (by decide) X4.out)
        have B5' := Lib.hid (B4.out.trans hb5)
        obtain ⟨W6, hW6⟩ : ∃ W6, W6 = W5.alloc (.cells #[.slice B5 m5 d5, .slice B6 m6 d6, .int .i64 E.armed, .int .i64 (E.ops : Int)] 31) := ⟨_, rfl⟩
        have bl6 : Below W5.heap.size W5 W6 := by rw [hW6]; exact (Below.refl _ _).alloc (Nat.le_refl _) _
        have N6 : Blk W6 W5.heap.size 31 [.slice B5 m5 d5, .slice B6 m6 d6, .int .i64 E.armed, .int .i64 (E.ops : Int)] := by rw [hW6]; exact heap_alloc_new W5 _
        have D6 := Lib.hid (D5.out.keep bl6)
        have Q6 := Lib.hid (Q5.out.keep bl6)
        have X6 := Lib.hid (X5.out.keep bl6)
        have B7' := Lib.hid (B5'.out.trans (bl6.mono B5'.out.size))
        obtain ⟨W7, run7, hR7, hB7, he7, hs7⟩ := store_rd2 X6.out B5 m5 d5 B6 m6 d6 E.armed (E.ops : Int)
        have RUN7 := Lib.hid run7
        have X7 := Lib.hid hR7
        have D7 := Lib.hid (D6.out.aside X6.out (by decide) (by decide) (by decide) hs7 he7)
        have Q7 := Lib.hid (Q6.out.aside X6.out (by decide) (by decide) he7)
        have B7 := Lib.hid (hB7 _ _ B7'.out C2.out)
        have HSA := Lib.hid (law_Same w.heap.size W7 p gl M v5 B5 m5 d5 B6 m6 d6 E D7.out Q7.out.1 Q7.out.2.1 (by rw [Q7.out.len.1, HS2.out.2.2.2]; omega) (by rw [Q7.out.len.2]; have := HS2.out.2.1; have := HLT.out; omega))
        unfold rdV at HSA
        obtain ⟨n0, n1, n2, n3⟩ := N6.fourR
        obtain ⟨y0, y1, y2, y3⟩ := X7.out.fourR
        have HW6 := Lib.hid hW6
        rw [hW6] at n0 n1 n2 n3
        clear h5 q5 hb5 hk5 hW6 bl6 N6 run7 hR7 hB7 he7 hs7
        go_wp2_with ((try rw [← HW6.out]); refine wpList_store_to rfl 31 _ _ rfl ⟨w2.heap.size, 0, none⟩ rfl (.agg #[.slice B5 m5 d5, .slice B6 m6 d6, .int .i64 E.armed, .int .i64 (E.ops : Int)]) rfl W7 RUN7.out ?_)
        clear n0 n1 n2 n3 y0 y1 y2 y3
        refine HSA.out.mono ?_
        rintro e W8 ⟨rfl, bl8⟩
        have D8 := Lib.hid (D7.out.keep bl8)
        have Q8 := Lib.hid (Q7.out.keep bl8)
        have X8 := Lib.hid (X7.out.keep bl8)
        have B8 := Lib.hid (B7.out.trans (bl8.mono B7.out.size))
        clear bl8
        go_wp2_with fail
        go_roundw
        case rel => exact ⟨k + 1, E, v5, B5, m5, d5, B6, m6, d6, by go_num, by have := HLT.out; omega, D8, Q8, X8, HS2, B8⟩
        case measure => have := HLT.out; simp [intOf]; omega
    · obtain rfl : ln = k := by omega
      have hd : decide ((ln : Int) < (ln : Int)) = false := decide_eq_false (by omega)
      have hd3 : decide (ln < ln) = false := decide_eq_false (by omega)
      have HR1 := Lib.hid (disk_Read _ _ p gl M v D (-1) HD.out)
      have HR2 := Lib.hid (disk_Read _ _ p gl M v D (n : Int) HD.out)
      rw [rdD_no (by unfold hasB; simp)] at HR1
      rw [rdD_no (by unfold hasB; rw [HS.out.2.2.2]; simp)] at HR2
      go_wp2_with fail
      refine HR1.out.mono ?_
      rintro e w4 ⟨rfl, rfl⟩
      go_wp2_with fail
      refine HR2.out.mono ?_
      rintro e w4 ⟨rfl, rfl⟩
      go_wp2_with fail
      refine (HA.out _).mono ?_
      rintro e w5 ⟨rfl, hb5⟩
      go_wp2_with fail
      go_ret
      exact ⟨rfl, HB.out.trans (hb5.mono HB.out.size)⟩

end Go.Proofs.Ytciophpplpmmfaa
