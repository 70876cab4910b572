/- The statement TapeReads walked. -/
import Derived.Test.YtcfjgllkpfkhfaaTapeL
import Derived.OpenShut
namespace Go.Proofs.Ytcfjgllkpfkhfaa
open Go.RowKit

/-- A slice of integers that came in, as the row's frame hands it. -/
def RowI (w : World) (a : Option Addr) (len cap : Nat) (zs : List Int) : Prop :=
  (a = none ∧ len = 0 ∧ cap = 0 ∧ zs = []) ∨
  ∃ x, a = some x ∧ len ≤ cap ∧ cap ≤ maxLen ∧ zs.length = cap ∧ (∀ i, i < zs.length → w.cell? (x.add i) = some (.int .i64 (zs.getD i 0))) ∧ ∀ n ∈ zs, (Lit.int .i64 n).wf = true

theorem RowI.at {w : World} {a : Option Addr} {len cap : Nat} {zs : List Int} (h : RowI w a len cap zs) {j : Nat} (hj : j < len) :
    ∃ b off n, a = some ⟨b, off, none⟩ ∧ b < w.heap.size ∧ w.cell? ⟨b, off + j, none⟩ = some (.int .i64 n) ∧ -9223372036854775808 ≤ n ∧ n ≤ 9223372036854775807 := by
  rcases h with ⟨_, h0, _⟩ | ⟨x, rfl, hl, hm, hz, hc, hw⟩
  · omega
  · obtain ⟨b, off, rfl, hc2⟩ := ints_at hc (by omega)
    have hj2 : j < zs.length := by omega
    have h1 := hc2 j hj2
    rw [List.getD_eq_getElem?_getD, List.getElem?_eq_getElem hj2] at h1
    have h1 : w.cell? ⟨b, off + j, none⟩ = some (.int .i64 zs[j]) := h1
    have h2 := bounds_i64 (hw zs[j] (List.getElem_mem hj2))
    refine ⟨b, off, zs[j], rfl, block_lt_of_cell h1, h1, h2.1, h2.2⟩

theorem TBox.drew {T : TypeId} {w : World} {g : Nat} {s : ByteArray} {a : Nat} (h : TBox T w g s a) : TBox T w.drew g s a := h

set_option maxHeartbeats 4000000 in
set_option maxRecDepth 100000 in
theorem tapeReads_walk (s0 : ByteArray) (a1 : Option Addr) (len1 cap1 : Nat) (z1 : List Int) (w : World) (hs0 : s0.size ≤ maxLen) (h1 : RowI w a1 len1 cap1 z1) :
    Calls Try.prog 3 #[.string s0, .slice a1 len1 cap1] w fun e w' => e = .returned (.bool true) ∧ Below w.heap.size w w' := by
  unfold maxLen at hs0
  have H1 := Lib.hid h1
  have hlm : (len1 : Int) ≤ 9223372036854775807 := by
    rcases h1 with ⟨_, h0, _⟩ | ⟨x, _, hl, hm, _⟩
    · omega
    · unfold maxLen at hm; omega
  clear h1
  by_cases hbig : 200 < s0.size
  · go_enter Try.func3, Try.ntmps3
    go_wp2_with fail
    refine (law7_Awake _).mono ?_
    rintro e w1 ⟨rfl, hb1⟩
    have B1 := Lib.hid hb1
    clear hb1
    go_wp2_with fail
    go_ret
    exact ⟨rfl, B1.out⟩
  · have hs200 : (s0.size : Int) ≤ 200 := by omega
    by_cases hlong : 60 < len1
    · have hd : decide (200 < s0.size) = false := decide_eq_false hbig
      go_enter Try.func3, Try.ntmps3
      go_wp2_with fail
      refine (law7_Awake _).mono ?_
      rintro e w1 ⟨rfl, hb1⟩
      have B1 := Lib.hid hb1
      clear hb1
      go_wp2_with fail
      go_ret
      exact ⟨rfl, B1.out⟩
    · have hs : (s0.size : Int) ≤ 1000000 := by omega
      have hl60 : (len1 : Int) ≤ 60 := by omega
      have hd : decide (200 < (s0.size : Int)) = false := decide_eq_false (by omega)
      have hd2 : decide (60 < (len1 : Int)) = false := decide_eq_false (by omega)
      clear hbig hlong hs0 hlm
      go_enter Try.func3, Try.ntmps3
      go_wp2_with fail
      refine (tape_New s0 _).mono ?_
      rintro e w1 ⟨rfl, hb1⟩
      have X0 := Lib.hid ((TBox.new 25 w1 s0 0).alloc (.cells #[.string s0, .int .i64 0] 28))
      have Y0 := TBox.new 28 (w1.alloc (.cells #[.string s0, .int .i64 0] 25)) s0 0
      rw [show (w1.alloc (.cells #[.string s0, .int .i64 0] 25)).heap.size = w1.heap.size + 1 from by simp] at Y0
      have Y0 := Lib.hid Y0
      have B0 := Lib.hid ((hb1.alloc hb1.size (.cells #[.string s0, .int .i64 0] 25)).alloc (Nat.le_trans hb1.size (hz1 _ _)) (.cells #[.string s0, .int .i64 0] 28))
      have HW1 : Hid (w.heap.size ≤ w1.heap.size) := Lib.hid hb1.size
      clear hb1
      go_wp2_with fail
      go_loopw [36] (fun iv wr => ∃ (k x : Nat), iv = .int .i64 (k : Int) ∧ k ≤ len1 ∧ Hid (x ≤ 8 * s0.size) ∧ Hid (TBox 25 wr w1.heap.size s0 x) ∧ Hid (TBox 28 wr (w1.heap.size + 1) s0 x) ∧ Hid (Below w.heap.size w wr)) (fun iv _ => len1 - (intOf iv).toNat)
      case atStart => exact ⟨0, 0, rfl, Nat.zero_le _, Lib.hid (Nat.zero_le _), X0, Y0, B0⟩
      case round =>
        clear X0 Y0 B0
        obtain ⟨k, x, rfl, hk, HX, X1, Y1, B1⟩ := hrel
        by_cases hlt : k < len1
        · obtain ⟨b, off, n, rfl, hblt, hcell, hn0, hn1⟩ := H1.out.at hlt
          have hcell := (B1.out.cell (p := ⟨b, off + k, none⟩) hblt).trans hcell
          obtain ⟨c0, c1⟩ := X1.out.cells
          obtain ⟨d0, d1⟩ := Y1.out.cells
          by_cases hk2 : k % 3 = 2
          · have hk3 : (k : Int) % 3 = 2 := by omega
            go_wp2_with fail
            refine (tape_Bytes s0 x n _ hs HX.out hn0 hn1).mono ?_
            rintro e w2 ⟨v, z, c, hr2, rfl, hb2⟩
            have R2 := Lib.hid hr2
            have X2 := Lib.hid ((X1.out.keep hb2).alloc (.cells #[.string s0, .int .i64 (z : Int)] 25))
            have Y2 := Lib.hid ((Y1.out.keep hb2).alloc (.cells #[.string s0, .int .i64 (z : Int)] 25))
            have U2 := Lib.hid (TBox.new 25 w2 s0 z)
            have B2 := Lib.hid ((keepB B1.out hb2).alloc (keepB B1.out hb2).size (.cells #[.string s0, .int .i64 (z : Int)] 25))
            have L2 : Hid (w.heap.size ≤ w2.heap.size) := Lib.hid (keepB B1.out hb2).size
            have hg2 : w1.heap.size + 1 < w2.heap.size := (Y1.out.keep hb2).lt
            obtain ⟨y0, y1⟩ := Y2.out.cells
            clear hr2 hb2 X1 Y1 B1 c0 c1 d0 d1
            go_wp2_with fail
            refine (rtape_Bytes s0 x n _ hs HX.out hn0 hn1).mono ?_
            rintro e w3 ⟨v', z', c', hr3, rfl, hb3⟩
            have hsame := R2.out.symm.trans hr3
            injection hsame with e1 e2
            injection e2 with e2 e3
            subst e1 e2 e3
            have hzle : z ≤ 8 * s0.size := by have := byT_le s0.data.toList x n (by rw [dlen]; exact HX.out); rw [R2.out, dlen] at this; exact this
            have HZ := Lib.hid hzle
            have X3 := Lib.hid ((X2.out.keep hb3).alloc (.cells #[.string s0, .int .i64 (z : Int)] 28))
            have Y3 := Lib.hid ((Y2.out.keep hb3).alloc (.cells #[.string s0, .int .i64 (z : Int)] 28))
            have U3 := Lib.hid ((U2.out.keep hb3).alloc (.cells #[.string s0, .int .i64 (z : Int)] 28))
            have V3 := Lib.hid (TBox.new 28 w3 s0 z)
            have B3 := Lib.hid ((keepB B2.out hb3).alloc (keepB B2.out hb3).size (.cells #[.string s0, .int .i64 (z : Int)] 28))
            have hg3 : w2.heap.size < w3.heap.size := (U2.out.keep hb3).lt
            obtain ⟨u0, u1⟩ := (U2.out.keep hb3).cells
            clear hr3 hb3 X2 Y2 U2 B2 hzle y0 y1
            go_wp2_with fail
            refine (law_Same s0 z _ hs HZ.out).mono ?_
            rintro e w4 ⟨rfl, hb4⟩
            have X4 := Lib.hid (X3.out.keep hb4)
            have Y4 := Lib.hid (Y3.out.keep hb4)
            have U4 := Lib.hid (U3.out.keep hb4)
            have V4 := Lib.hid (V3.out.keep hb4)
            have B4 := Lib.hid (keepB B3.out hb4)
            have L4 : Hid (w.heap.size ≤ w4.heap.size) := Lib.hid B4.out.size
            clear hb4 X3 Y3 U3 V3 B3 u0 u1
            obtain ⟨a0, a1⟩ := X4.out.cells
            obtain ⟨f0, f1⟩ := X4.out.fz
            obtain ⟨b0, b1⟩ := Y4.out.cells
            obtain ⟨g0, g1⟩ := Y4.out.fz
            obtain ⟨i0, i1⟩ := U4.out.cells
            obtain ⟨j0, j1⟩ := V4.out.cells
            go_wp2_with fail
            go_region
            all_goals go_wp2_with fail
            all_goals
              go_roundw
              case rel => first | exact ⟨k + 1, z, by go_num, by omega, HZ, Lib.hid (TBox.drew (TBox.far (TBox.far (TBox.store X4.out z) (by simp) _) (by simp) _)), Lib.hid (TBox.drew (TBox.store (TBox.far (TBox.far Y4.out (by simp) _) (by simp) _) z)), Lib.hid (Below.drew (Below.put2 (Below.put2 B4.out HW1.out _ _) (Nat.le_trans HW1.out (Nat.le_succ _)) _ _))⟩
              case measure => simp [intOf]; omega

          · obtain ⟨r, hr⟩ : ∃ r, r = k % 3 := ⟨_, rfl⟩
            have hk3 : (k : Int) % 3 = (r : Int) := by omega
            have hk4 : ((r : Int) == 2) = false := beq_eq_false_iff_ne.2 (by omega)
            clear hr hk2
            go_wp2_with fail
            refine (tape_Read s0 x n _ hs HX.out hn0 hn1).mono ?_
            rintro e w2 ⟨v, z, c, hr2, rfl, hb2⟩
            have R2 := Lib.hid hr2
            have X2 := Lib.hid ((X1.out.keep hb2).alloc (.cells #[.string s0, .int .i64 (z : Int)] 25))
            have Y2 := Lib.hid ((Y1.out.keep hb2).alloc (.cells #[.string s0, .int .i64 (z : Int)] 25))
            have U2 := Lib.hid (TBox.new 25 w2 s0 z)
            have B2 := Lib.hid ((keepB B1.out hb2).alloc (keepB B1.out hb2).size (.cells #[.string s0, .int .i64 (z : Int)] 25))
            have L2 : Hid (w.heap.size ≤ w2.heap.size) := Lib.hid (keepB B1.out hb2).size
            have hg2 : w1.heap.size + 1 < w2.heap.size := (Y1.out.keep hb2).lt
            obtain ⟨y0, y1⟩ := Y2.out.cells
            clear hr2 hb2 X1 Y1 B1 c0 c1 d0 d1
            go_wp2_with fail
            refine (rtape_Read s0 x n _ hs HX.out hn0 hn1).mono ?_
            rintro e w3 ⟨v', z', c', hr3, rfl, hb3⟩
            have hsame := R2.out.symm.trans hr3
            injection hsame with e1 e2
            injection e2 with e2 e3
            subst e1 e2 e3
            have hzle : z ≤ 8 * s0.size := by have := rdT_le s0.data.toList x n (by rw [dlen]; exact HX.out); rw [R2.out, dlen] at this; exact this
            have HZ := Lib.hid hzle
            have X3 := Lib.hid ((X2.out.keep hb3).alloc (.cells #[.string s0, .int .i64 (z : Int)] 28))
            have Y3 := Lib.hid ((Y2.out.keep hb3).alloc (.cells #[.string s0, .int .i64 (z : Int)] 28))
            have U3 := Lib.hid ((U2.out.keep hb3).alloc (.cells #[.string s0, .int .i64 (z : Int)] 28))
            have V3 := Lib.hid (TBox.new 28 w3 s0 z)
            have B3 := Lib.hid ((keepB B2.out hb3).alloc (keepB B2.out hb3).size (.cells #[.string s0, .int .i64 (z : Int)] 28))
            have hg3 : w2.heap.size < w3.heap.size := (U2.out.keep hb3).lt
            obtain ⟨u0, u1⟩ := (U2.out.keep hb3).cells
            clear hr3 hb3 X2 Y2 U2 B2 hzle y0 y1
            go_wp2_with fail
            refine (law_Same s0 z _ hs HZ.out).mono ?_
            rintro e w4 ⟨rfl, hb4⟩
            have X4 := Lib.hid (X3.out.keep hb4)
            have Y4 := Lib.hid (Y3.out.keep hb4)
            have U4 := Lib.hid (U3.out.keep hb4)
            have V4 := Lib.hid (V3.out.keep hb4)
            have B4 := Lib.hid (keepB B3.out hb4)
            have L4 : Hid (w.heap.size ≤ w4.heap.size) := Lib.hid B4.out.size
            clear hb4 X3 Y3 U3 V3 B3 u0 u1
            obtain ⟨a0, a1⟩ := X4.out.cells
            obtain ⟨f0, f1⟩ := X4.out.fz
            obtain ⟨b0, b1⟩ := Y4.out.cells
            obtain ⟨g0, g1⟩ := Y4.out.fz
            obtain ⟨i0, i1⟩ := U4.out.cells
            obtain ⟨j0, j1⟩ := V4.out.cells
            go_wp2_with fail
            go_region
            all_goals go_wp2_with fail
            all_goals
              go_roundw
              case rel => first | exact ⟨k + 1, z, by go_num, by omega, HZ, Lib.hid (TBox.drew (TBox.far (TBox.far (TBox.store X4.out z) (by simp) _) (by simp) _)), Lib.hid (TBox.drew (TBox.store (TBox.far (TBox.far Y4.out (by simp) _) (by simp) _) z)), Lib.hid (Below.drew (Below.put2 (Below.put2 B4.out HW1.out _ _) (Nat.le_trans HW1.out (Nat.le_succ _)) _ _))⟩
              case measure => simp [intOf]; omega

        · go_wp2_with fail
          refine (law7_Awake _).mono ?_
          rintro e w5 ⟨rfl, hb5⟩
          have B5 := Lib.hid (keepB B1.out hb5)
          clear hb5
          go_wp2_with fail
          go_ret
          exact ⟨rfl, B5.out⟩
end Go.Proofs.Ytcfjgllkpfkhfaa
