/- The contract of seal's Open. -/
import Derived.Test.YtcnbpajlocoocaaDoorOpenA
namespace Go.Proofs.YtcnbpajlocoocaaDoor
open Go.RowKit

/-- A record that has nothing. -/
def recZ : Value := .agg #[.int .u8 0, .int .u64 0, .int .u32 0, .string ⟨#[]⟩]

theorem Blk.put4 {w : World} {g t : Nat} {a b c d : Value} (h : Blk w g t [a, b, c, d]) (a' b' c' d' : Value) : Blk ((((w.setCell ⟨g, 0, none⟩ a').setCell ⟨g, 1, none⟩ b').setCell ⟨g, 2, none⟩ c').setCell ⟨g, 3, none⟩ d') g t [a', b', c', d'] :=
  (((h.set_ 0 a').set_ 1 b').set_ 2 c').set_ 3 d'
theorem below_put4 {B g : Nat} {w w' : World} (h : Below B w w') (hg : B ≤ g) (a b c d : Value) : Below B w ((((w'.setCell ⟨g, 0, none⟩ a).setCell ⟨g, 1, none⟩ b).setCell ⟨g, 2, none⟩ c).setCell ⟨g, 3, none⟩ d) :=
  (((h.setCell (p := ⟨g, 0, none⟩) hg a).setCell (p := ⟨g, 1, none⟩) hg b).setCell (p := ⟨g, 2, none⟩) hg c).setCell (p := ⟨g, 3, none⟩) hg d

theorem foot_bs (l : List UInt8) (W : World) (hl : l.length ≤ 1000) : Calls Tryd.prog 48 #[.string (bs l)] W fun e w' => e = .returned (.string (bs (leL (crcSum l)))) ∧ Below W.heap.size W w' := by
  have h := seal_foot (bs l) W (by rw [bs_size]; omega)
  rw [bs_list] at h
  exact h

set_option maxHeartbeats 2000000 in
set_option maxRecDepth 100000 in
theorem seal_Open_form (l : List UInt8) (w : World) (hl : l.length ≠ 128) (hl2 : l.length ≤ 9223372036854775807) :
    Calls Tryd.prog 36 #[.string (bs l)] w fun e w' => e = .returned (.tuple #[recZ, .int .i64 4]) ∧ Below w.heap.size w w' := by
  have hsz := bs_size l
  have hne : (((l.length : Int)) != 128) = true := by rw [bne_iff_ne]; omega
  go_enter Tryd.func36, Tryd.ntmps36
  go_wp2
  refine bodyPost_ret (v := .tuple #[recZ, .int .i64 4]) (by simp [results, Tryd.results36, go_sem, recZ]) rfl ⟨rfl, ?_⟩
  exact ((Below.refl _ _).alloc (Nat.le_refl _) _)

set_option maxHeartbeats 2000000 in
set_option maxRecDepth 100000 in
theorem seal_Open_none (l : List UInt8) (w : World) (hl : l.length = 128) (hz : zeroL l = true) :
    Calls Tryd.prog 36 #[.string (bs l)] w fun e w' => e = .returned (.tuple #[recZ, .int .i64 16]) ∧ Below w.heap.size w w' := by
  have hsz := (bs_size l).trans hl
  have HB := Lib.hid (fun W => seal_blank l W (by omega))
  have B0 := Lib.hid ((Below.refl w.heap.size w).alloc (Nat.le_refl _) (.cells #[.int .u8 0, .int .u64 0, .int .u32 0, .string ⟨#[]⟩] 59))
  have R0 := Lib.hid (show Blk (w.alloc (.cells #[.int .u8 0, .int .u64 0, .int .u32 0, .string ⟨#[]⟩] 59)) w.heap.size 59 [.int .u8 0, .int .u64 0, .int .u32 0, .string ⟨#[]⟩] from heap_alloc_new w _)
  go_enter Tryd.func36, Tryd.ntmps36
  go_wp2_with fail
  refine (HB.out _).mono ?_
  rintro e w1 ⟨rfl, hb1⟩
  have R1 := Lib.hid (R0.out.keep hb1)
  have B1 := Lib.hid (B0.out.trans (hb1.mono B0.out.size))
  obtain ⟨c0, c1, c2, c3⟩ := R1.out.four
  have f0 := R1.out.frozen 0
  have f1 := R1.out.frozen 1
  have f2 := R1.out.frozen 2
  have f3 := R1.out.frozen 3
  clear hb1
  go_wp2_with fail
  obtain ⟨d0, d1, d2, d3⟩ := (R1.out.put4 (.int .u8 0) (.int .u64 0) (.int .u32 0) (.string ⟨#[]⟩)).four
  refine bodyPost_ret (v := .tuple #[recZ, .int .i64 16]) (by simp [results, Tryd.results36, go_sem, recZ, d0, d1, d2, d3]) rfl ⟨rfl, ?_⟩
  exact below_put4 B1.out (Nat.le_refl _) _ _ _ _

set_option maxHeartbeats 2000000 in
set_option maxRecDepth 100000 in
theorem seal_Open_rot (l : List UInt8) (w : World) (hl : l.length = 128) (hz : zeroL l = false) (hs : l.drop 124 ≠ leL (crcSum (l.take 124))) :
    Calls Tryd.prog 36 #[.string (bs l)] w fun e w' => e = .returned (.tuple #[recZ, .int .i64 8]) ∧ Below w.heap.size w w' := by
  have hsz := (bs_size l).trans hl
  have HB := Lib.hid (fun W => seal_blank l W (by omega))
  obtain ⟨T, hT⟩ : ∃ T, T = bs (l.drop 124) := ⟨_, rfl⟩
  obtain ⟨H, hH⟩ : ∃ H, H = bs (l.take 124) := ⟨_, rfl⟩
  obtain ⟨F, hF⟩ : ∃ F, F = bs (leL (crcSum (l.take 124))) := ⟨_, rfl⟩
  have hx1 : (bs l).extract 124 128 = T := by rw [bs_extract, hT, List.take_of_length_le (by rw [List.length_drop]; omega)]
  have hx2 : (bs l).extract 0 124 = H := by rw [bs_extract, hH]; rfl
  have hcmp : (T.toList == F.toList) = false := by
    rw [hT, hF, bs, bs, ByteArray.toList_mk, ByteArray.toList_mk, beq_eq_false_iff_ne]
    exact hs
  have hcmp2 : (T.toList != F.toList) = true := by rw [bne, hcmp]; rfl
  have HF := Lib.hid (fun W => by rw [hH, hF]; exact foot_bs (l.take 124) W (by rw [List.length_take]; omega) : ∀ W, Calls Tryd.prog 48 #[.string H] W fun e w' => e = .returned (.string F) ∧ Below W.heap.size W w')
  have B0 := Lib.hid ((Below.refl w.heap.size w).alloc (Nat.le_refl _) (.cells #[.int .u8 0, .int .u64 0, .int .u32 0, .string ⟨#[]⟩] 59))
  have R0 := Lib.hid (show Blk (w.alloc (.cells #[.int .u8 0, .int .u64 0, .int .u32 0, .string ⟨#[]⟩] 59)) w.heap.size 59 [.int .u8 0, .int .u64 0, .int .u32 0, .string ⟨#[]⟩] from heap_alloc_new w _)
  clear hT hH hF hs
  go_enter Tryd.func36, Tryd.ntmps36
  go_wp2_with fail
  refine (HB.out _).mono ?_
  rintro e w1 ⟨rfl, hb1⟩
  have R1 := Lib.hid (R0.out.keep hb1)
  have B1 := Lib.hid (B0.out.trans (hb1.mono B0.out.size))
  clear hb1
  go_wp2_with fail
  go_region_held3 (fun _ => True) (trivial)
    ((go_at_call 48; refine (HF.out _).mono ?_; rintro e w2 ⟨rfl, hb2⟩))
  have R2 := Lib.hid (R1.out.keep ((Below.refl w1.heap.size w1).drew.trans hb2))
  have B2 := Lib.hid (B1.out.trans (((Below.refl w1.heap.size w1).drew.trans hb2).mono B1.out.size))
  obtain ⟨c0, c1, c2, c3⟩ := R2.out.four
  have f0 := R2.out.frozen 0
  have f1 := R2.out.frozen 1
  have f2 := R2.out.frozen 2
  have f3 := R2.out.frozen 3
  clear hb2
  go_wp2_with fail
  obtain ⟨d0, d1, d2, d3⟩ := (R2.out.put4 (.int .u8 0) (.int .u64 0) (.int .u32 0) (.string ⟨#[]⟩)).four
  refine bodyPost_ret (v := .tuple #[recZ, .int .i64 8]) (by simp [results, Tryd.results36, go_sem, recZ, d0, d1, d2, d3]) rfl ⟨rfl, ?_⟩
  exact below_put4 B2.out (Nat.le_refl _) _ _ _ _

end Go.Proofs.YtcnbpajlocoocaaDoor
