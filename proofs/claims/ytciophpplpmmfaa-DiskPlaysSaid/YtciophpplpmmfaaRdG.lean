/- Do a disk and the document's read the same? -/
import Derived.Test.YtciophpplpmmfaaRdF
namespace Go.Proofs.Ytciophpplpmmfaa
open Go.RowKit

set_option maxHeartbeats 8000000 in
set_option maxRecDepth 100000 in
theorem law_Same (base : Nat) (w : World) (p gl M : Nat) (v : Value) (A : Option Addr) (n c : Nat) (A' : Option Addr) (n' c' : Nat) (D : DSt) (h : IsDisk base w p gl M v D) (hS : StrS w (.slice A n c) D.lasts) (hW : WriS w (.slice A' n' c') D.waits) (hn : n ≤ 4096) (hn' : n' ≤ 1000000) :
    Calls Try.prog 11 #[.pointer (some ⟨p, 0, none⟩), rdV A n c A' n' c' D] w fun e w' => e = .returned (.bool true) ∧ Below w.heap.size w w' := by
  unfold rdV
  have HNL : Hid (n = D.lasts.length) := Lib.hid hS.cellAt.1
  have HNW : Hid (n' = D.waits.length) := Lib.hid hW.cellAt.1
  obtain ⟨W0, hW0⟩ : ∃ W0, W0 = w.alloc (.cells #[.slice A n c, .slice A' n' c', .int .i64 D.armed, .int .i64 (D.ops : Int)] 31) := ⟨_, rfl⟩
  have B0 : Hid (Below w.heap.size w W0) := Lib.hid (by rw [hW0]; exact (Below.refl w.heap.size w).alloc (Nat.le_refl _) _)
  have R0 : Hid (Blk W0 w.heap.size 31 [.slice A n c, .slice A' n' c', .int .i64 D.armed, .int .i64 (D.ops : Int)]) := Lib.hid (by rw [hW0]; exact heap_alloc_new w _)
  have D0 : Hid (IsDisk base W0.drew p gl M v D) := Lib.hid (IsDisk.keep (w := W0) (h.keep B0.out) (Below.refl _ _).drew)
  have HZ1 := Lib.hid (disk_Size _ _ p gl M v D D0.out)
  have HZ2 := Lib.hid (disk_Waiting _ _ p gl M v D D0.out)
  have HZ3 := Lib.hid (disk_Ops _ _ p gl M v D D0.out)
  rw [← HNL.out] at HZ1
  rw [← HNW.out] at HZ2
  have HS := Lib.hid hS
  have HW := Lib.hid hW
  have HD := Lib.hid h
  have HW0 := Lib.hid hW0
  have HC0 : Hid (W0.drew.cell? ⟨w.heap.size, 0, none⟩ = some (.slice A n c) ∧ W0.drew.cell? ⟨w.heap.size, 1, none⟩ = some (.slice A' n' c') ∧ W0.drew.cell? ⟨w.heap.size, 3, none⟩ = some (.int .i64 (D.ops : Int))) := Lib.hid ⟨R0.out.fourR.1, R0.out.fourR.2.1, R0.out.fourR.2.2.2⟩
  clear hS hW hW0 h
  go_enter Try.func11, Try.ntmps11
  go_wp2_with fail
  rw [← HW0.out]
  go_region_held3 (fun w' => w'.cell? ⟨w.heap.size, 0, none⟩ = some (.slice A n c) ∧ w'.cell? ⟨w.heap.size, 1, none⟩ = some (.slice A' n' c') ∧ w'.cell? ⟨w.heap.size, 3, none⟩ = some (.int .i64 (D.ops : Int)))
    (exact HC0.out)
    ((first | (go_at_call 24; refine HZ1.out.mono ?_; rintro e w2 ⟨rfl, rfl⟩) | (go_at_call 16; refine HZ2.out.mono ?_; rintro e w2 ⟨rfl, rfl⟩) | (go_at_call 19; refine HZ3.out.mono ?_; rintro e w2 ⟨rfl, rfl⟩)))
  have R1 : Hid (Blk W0.drew w.heap.size 31 [.slice A n c, .slice A' n' c', .int .i64 D.armed, .int .i64 (D.ops : Int)]) := Lib.hid R0.out
  have B1 : Hid (Below w.heap.size w W0.drew) := Lib.hid B0.out.drew
  obtain ⟨r0, r1, r2, r3⟩ := R1.out.fourR
  go_wp2_with fail
  clear r0 r1 r2 r3
  try simp only [Act.put, List.setIfInBounds_toArray, List.set_cons_succ, List.set_cons_zero]
  go_loopw [34] (fun iv wr => ∃ (k : Nat), iv = .int .i64 k ∧ k ≤ n ∧ Hid (Blk wr w.heap.size 31 [.slice A n c, .slice A' n' c', .int .i64 D.armed, .int .i64 (D.ops : Int)]) ∧ Hid (Below w.heap.size w wr)) (fun iv _ => n - (intOf iv).toNat)
  case atStart => exact ⟨0, rfl, Nat.zero_le _, R1, B1⟩
  case round =>
    obtain ⟨k, rfl, hk, HR, HB⟩ := hrel
    by_cases hlt : k < n
    · have hd : decide ((k : Int) < (n : Int)) = true := decide_eq_true (by omega)
      have hd3 : decide (k < n) = true := decide_eq_true hlt
      have HLT := Lib.hid hlt
      have hkw : IntKind.i64.wrap ((k : Int) + 1) = (k : Int) + 1 := IntWalk.i64_in _ (by omega)
      have hkl : k < D.lasts.length := by rw [← HNL.out]; exact hlt
      have HD1 := Lib.hid (HD.out.keep HB.out)
      have HRD := Lib.hid (disk_Read _ _ p gl M v D (k : Int) HD1.out)
      have HRR : Hid (∀ W, Below wr.heap.size wr W → Calls Try.prog 30 #[.agg #[.slice A n c, .slice A' n' c', .int .i64 D.armed, .int .i64 (D.ops : Int)], .int .i64 (k : Int)] W fun e w' => e = .returned (.tuple #[.string (bs (rdD D (k : Int)).1), .int .i64 (((rdD D (k : Int)).2 : Nat) : Int)]) ∧ Below W.heap.size W w') := Lib.hid (fun W hb => ref_Read12 W A n c A' n' c' D k ((HS.out.keep HB.out).keep hb) ((HW.out.keep HB.out).keep hb) hkl hn hn')
      have H0 : Hid ((rdD D (k : Int)).2 = 0) := Lib.hid (by
        unfold rdD
        rw [hasB_nat hkl, if_pos rfl]
        split <;> rfl)
      rw [H0.out] at HRD HRR
      obtain ⟨t, ht⟩ : ∃ t, t = (rdD D (k : Int)).1 := ⟨_, rfl⟩
      rw [← ht] at HRD HRR
      have hss : (bs t != bs t) = false := by show (!(bs t == bs t)) = false; rw [bs_beq]; simp
      have hst : ((bs t).toList != (bs t).toList) = false := by simp
      obtain ⟨r0, r1, r2, r3⟩ := HR.out.fourR
      clear ht hlt hk hkl
      go_wp2_with fail
      refine HRD.out.mono ?_
      rintro e w2 ⟨rfl, rfl⟩
      go_wp2_with fail
      clear r0 r1 r2 r3
      refine (HRR.out _ (Below.refl _ _)).mono ?_
      rintro e w3 ⟨rfl, bl⟩
      have R3 := Lib.hid (HR.out.keep bl)
      have B3 := Lib.hid (HB.out.trans (bl.mono HB.out.size))
      clear bl
      go_wp2_with fail
      go_roundw
      case rel => exact ⟨k + 1, by go_num, by have := HLT.out; omega, R3, B3⟩
      case measure => have := HLT.out; simp [intOf]; omega
    · obtain rfl : n = k := by omega
      have hd : decide ((n : Int) < (n : Int)) = false := decide_eq_false (by omega)
      have hd3 : decide (n < n) = false := decide_eq_false (by omega)
      go_wp2_with fail
      go_ret
      exact ⟨rfl, HB.out⟩

end Go.Proofs.Ytciophpplpmmfaa
