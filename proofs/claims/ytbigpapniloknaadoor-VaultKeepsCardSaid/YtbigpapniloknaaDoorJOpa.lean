/- Contracts of seal's blank, of the library's Clone, of seal's closure that takes numbers. The contract of seal's Open. -/
import Derived.Test.YtbigpapniloknaaDoorSealB
import Derived.Test.YtbigpapniloknaaDoorJTxt
import Derived.Test.YtbigpapniloknaaDoorShelf
namespace Go.Proofs.YtbigpapniloknaaDoor
open Go.RowKit

theorem lib_Clone (s : ByteArray) (w : World) (hs : s.size ≤ 281474976710656) :
    Calls Tryd.prog 55 #[.string s] w fun e w' => e = .returned (.string s) ∧ Below w.heap.size w w' := by
  have H := Lib.hid (fun W => Tryd.stringslite_Clone s W hs)
  go_enter Tryd.func55, Tryd.ntmps55
  go_wp2_with (go_at_call 65; refine (H.out _).mono ?_; rintro e w1 ⟨rfl, hb1⟩)
  go_ret
  exact ⟨rfl, hb1⟩

theorem seal_blank (l : List UInt8) (w : World) (hl : l.length ≤ 9223372036854775807) :
    Calls Tryd.prog 52 #[.string (bs l)] w fun e w' => e = .returned (.bool (zeroL l)) ∧ Below w.heap.size w w' := by
  obtain ⟨ts, hts⟩ : ∃ ts : ByteArray, ts = ⟨(Lib.trimB l 0).toArray⟩ := ⟨_, rfl⟩
  have hz : ts.toList.isEmpty = zeroL l := by
    rw [hts, ByteArray.toList_mk, ← trim_zero]
    cases Lib.trimB l 0 <;> rfl
  have H : Hid (∀ W, Calls Tryd.prog 64 #[.string (bs l), .string ⟨#[0]⟩] W fun e w' => e = .returned (.string ts) ∧ Below W.heap.size W w') := Lib.hid (fun W => by
    have h := Tryd.strings_Trim_one (bs l) 0 (by decide) W (by rw [bs_size]; exact hl)
    rw [bs_list, ← hts] at h
    refine h.mono ?_
    rintro e w' ⟨rfl, rfl | rfl⟩
    · exact ⟨rfl, Below.refl _ _⟩
    · exact ⟨rfl, (Below.refl _ _).drew⟩)
  clear hts
  go_enter Tryd.func52, Tryd.ntmps52
  go_wp2_with (go_at_call 64; refine (H.out _).mono ?_; rintro e w1 ⟨rfl, hb1⟩)
  go_ret
  exact ⟨by first | rfl | exact ret_bool hz, hb1⟩

set_option maxHeartbeats 2000000 in
theorem seal_take (R m : Nat) (l : List UInt8) (w : World) (hB : Blk w R 9 [.string (bs l)]) (hm : m ≤ l.length) (hm8 : m ≤ 8) (hl : l.length ≤ 1000) :
    Calls Tryd.prog 54 #[.int .i64 (m : Int), .pointer (some ⟨R, 0, none⟩)] w fun e w' => e = .returned (.int .u64 ((beV (l.take m) : Nat) : Int)) ∧ w' = w.setCell ⟨R, 0, none⟩ (.string (bs (l.drop m))) := by
  have hcell := hB.cell0
  have hfr := hB.frozen 0
  have hsz := bs_size l
  clear hB
  have HE : Hid ((bs l).extract m l.length = bs (l.drop m)) := Lib.hid (by rw [bs_extract, List.take_of_length_le (by rw [List.length_drop]; exact Nat.le_refl _)])
  go_enter Tryd.func54, Tryd.ntmps54
  go_wp2
  go_loopw [4, 7] (fun nv iv wr => ∃ (j x : Nat), iv = .int .i64 j ∧ j ≤ m ∧ nv = .int .u64 x ∧ Hid (x = beV (l.take j)) ∧ w = wr) (fun _ iv _ => m - (intOf iv).toNat)
  case atStart => exact ⟨0, 0, rfl, Nat.zero_le _, rfl, Lib.hid rfl, rfl⟩
  case round =>
    obtain ⟨j, x, rfl, hj, rfl, HX, rfl⟩ := hrel
    by_cases hlt : j < m
    · have hjl : j < l.length := by omega
      have hjs : j < (bs l).size := by rw [bs_size]; exact hjl
      obtain ⟨b, hb⟩ : ∃ b, b = ((bs l)[j]'hjs).toNat := ⟨_, rfl⟩
      have hbi : (((bs l)[j]'hjs).toNat : Int) = (b : Int) := by rw [hb]
      have hb8 : b < 256 := by rw [hb]; exact (bs l)[j].toNat_lt
      have hwb : IntKind.u64.wrap (b : Int) = (b : Int) := IntWalk.u64_in _ (by omega)
      have hxb : x * 256 < 18446744073709551616 := by
        have h1 := beV_take_lt l j (by omega)
        rw [← HX.out] at h1
        have h2 : (256 : Nat) ^ j ≤ 256 ^ 7 := Nat.pow_le_pow_right (by omega) (by omega)
        have h3 : (256 : Nat) ^ 7 = 72057594037927936 := by decide
        omega
      obtain ⟨y, hy⟩ : ∃ y, y = x * 256 := ⟨_, rfl⟩
      have hyi : IntKind.u64.wrap ((x : Int) * 256) = (y : Int) := by rw [IntWalk.u64_in _ (by omega)]; omega
      obtain ⟨z, hz⟩ : ∃ z, z = y + b := ⟨_, rfl⟩
      have hor : bits BinOp.or IntKind.u64 (y : Int) (b : Int) = (z : Int) := by
        have h := Nat.two_pow_add_eq_or_of_lt (i := 8) (b := b) hb8 x
        rw [bits_or_u64_nat y b (by omega) (by omega), hz, hy, Nat.mul_comm x 256]
        have e : (2 : Nat) ^ 8 = 256 := by decide
        rw [e] at h
        rw [h]
      have HZ : Hid (z = beV (l.take (j + 1))) := Lib.hid (by rw [beV_take l j hjl, ← HX.out, hz, hy, hb]; rfl)
      clear hb hy hz hxb hjl
      go_wp2
      go_roundw
      case rel => exact ⟨j + 1, z, by go_num, by omega, rfl, HZ, trivial⟩
      case measure => simp [intOf]; omega
    · have hjm : j = m := by omega
      subst hjm
      rw [HX.out]
      go_wp2
      go_ret
      exact ⟨rfl, by rw [HE.out]⟩

end Go.Proofs.YtbigpapniloknaaDoor

namespace Go.Proofs.YtbigpapniloknaaDoor
open Go.RowKit

/-- A record that has nothing. -/
def recZ : Value := .agg #[.int .u8 0, .int .u64 0, .int .u32 0, .string ⟨#[]⟩]

theorem Blk.put4 {w : World} {g t : Nat} {a b c d : Value} (h : Blk w g t [a, b, c, d]) (a' b' c' d' : Value) : Blk ((((w.setCell ⟨g, 0, none⟩ a').setCell ⟨g, 1, none⟩ b').setCell ⟨g, 2, none⟩ c').setCell ⟨g, 3, none⟩ d') g t [a', b', c', d'] :=
  (((h.set_ 0 a').set_ 1 b').set_ 2 c').set_ 3 d'
theorem below_put4 {B g : Nat} {w w' : World} (h : Below B w w') (hg : B ≤ g) (a b c d : Value) : Below B w ((((w'.setCell ⟨g, 0, none⟩ a).setCell ⟨g, 1, none⟩ b).setCell ⟨g, 2, none⟩ c).setCell ⟨g, 3, none⟩ d) :=
  (((h.setCell (p := ⟨g, 0, none⟩) hg a).setCell (p := ⟨g, 1, none⟩) hg b).setCell (p := ⟨g, 2, none⟩) hg c).setCell (p := ⟨g, 3, none⟩) hg d

theorem foot_bs (l : List UInt8) (W : World) (hl : l.length ≤ 1000) : Calls Tryd.prog 53 #[.string (bs l)] W fun e w' => e = .returned (.string (bs (leL (crcSum l)))) ∧ Below W.heap.size W w' := by
  have h := seal_foot (bs l) W (by rw [bs_size]; omega)
  rw [bs_list] at h
  exact h

set_option maxHeartbeats 2000000 in
set_option maxRecDepth 100000 in
theorem seal_Open_form (l : List UInt8) (w : World) (hl : l.length ≠ 128) (hl2 : l.length ≤ 9223372036854775807) :
    Calls Tryd.prog 39 #[.string (bs l)] w fun e w' => e = .returned (.tuple #[recZ, .int .i64 4]) ∧ Below w.heap.size w w' := by
  have hsz := bs_size l
  have hne : (((l.length : Int)) != 128) = true := by rw [bne_iff_ne]; omega
  go_enter Tryd.func39, Tryd.ntmps39
  go_wp2
  refine bodyPost_ret (v := .tuple #[recZ, .int .i64 4]) (by simp [results, Tryd.results39, go_sem, recZ]) rfl ⟨rfl, ?_⟩
  exact ((Below.refl _ _).alloc (Nat.le_refl _) _)

set_option maxHeartbeats 2000000 in
set_option maxRecDepth 100000 in
theorem seal_Open_none (l : List UInt8) (w : World) (hl : l.length = 128) (hz : zeroL l = true) :
    Calls Tryd.prog 39 #[.string (bs l)] w fun e w' => e = .returned (.tuple #[recZ, .int .i64 16]) ∧ Below w.heap.size w w' := by
  have hsz := (bs_size l).trans hl
  have HB := Lib.hid (fun W => seal_blank l W (by omega))
  have B0 := Lib.hid ((Below.refl w.heap.size w).alloc (Nat.le_refl _) (.cells #[.int .u8 0, .int .u64 0, .int .u32 0, .string ⟨#[]⟩] 89))
  have R0 := Lib.hid (show Blk (w.alloc (.cells #[.int .u8 0, .int .u64 0, .int .u32 0, .string ⟨#[]⟩] 89)) w.heap.size 89 [.int .u8 0, .int .u64 0, .int .u32 0, .string ⟨#[]⟩] from heap_alloc_new w _)
  go_enter Tryd.func39, Tryd.ntmps39
  go_wp2_with fail
  refine (HB.out _).mono ?_
  rintro e w1 ⟨rfl, hb1⟩
  have R1 := Lib.hid (R0.out.keep hb1)
  have B1 := Lib.hid (B0.out.trans (hb1.mono B0.out.size))
  obtain ⟨c0, c1, c2, c3⟩ := R1.out.four
  have f0 := R1.out.frozen 0
  have f1 := R1.out.frozen 1
  have f2 := R1.out.frozen 2
  have f3 := R1.out.frozen 3
  clear hb1
  go_wp2_with fail
  obtain ⟨d0, d1, d2, d3⟩ := (R1.out.put4 (.int .u8 0) (.int .u64 0) (.int .u32 0) (.string ⟨#[]⟩)).four
  refine bodyPost_ret (v := .tuple #[recZ, .int .i64 16]) (by simp [results, Tryd.results39, go_sem, recZ, d0, d1, d2, d3]) rfl ⟨rfl, ?_⟩
  exact below_put4 B1.out (Nat.le_refl _) _ _ _ _

set_option maxHeartbeats 2000000 in
set_option maxRecDepth 100000 in
theorem seal_Open_rot (l : List UInt8) (w : World) (hl : l.length = 128) (hz : zeroL l = false) (hs : l.drop 124 ≠ leL (crcSum (l.take 124))) :
    Calls Tryd.prog 39 #[.string (bs l)] w fun e w' => e = .returned (.tuple #[recZ, .int .i64 8]) ∧ Below w.heap.size w w' := by
  have hsz := (bs_size l).trans hl
  have HB := Lib.hid (fun W => seal_blank l W (by omega))
  obtain ⟨T, hT⟩ : ∃ T, T = bs (l.drop 124) := ⟨_, rfl⟩
  obtain ⟨H, hH⟩ : ∃ H, H = bs (l.take 124) := ⟨_, rfl⟩
  obtain ⟨F, hF⟩ : ∃ F, F = bs (leL (crcSum (l.take 124))) := ⟨_, rfl⟩
  have hx1 : (bs l).extract 124 128 = T := by rw [bs_extract, hT, List.take_of_length_le (by rw [List.length_drop]; omega)]
  have hx2 : (bs l).extract 0 124 = H := by rw [bs_extract, hH]; rfl
  have hcmp : (T.toList == F.toList) = false := by
    rw [hT, hF, bs, bs, ByteArray.toList_mk, ByteArray.toList_mk, beq_eq_false_iff_ne]
    exact hs
  have hcmp2 : (T.toList != F.toList) = true := by rw [bne, hcmp]; rfl
  have HF := Lib.hid (fun W => by rw [hH, hF]; exact foot_bs (l.take 124) W (by rw [List.length_take]; omega) : ∀ W, Calls Tryd.prog 53 #[.string H] W fun e w' => e = .returned (.string F) ∧ Below W.heap.size W w')
  have B0 := Lib.hid ((Below.refl w.heap.size w).alloc (Nat.le_refl _) (.cells #[.int .u8 0, .int .u64 0, .int .u32 0, .string ⟨#[]⟩] 89))
  have R0 := Lib.hid (show Blk (w.alloc (.cells #[.int .u8 0, .int .u64 0, .int .u32 0, .string ⟨#[]⟩] 89)) w.heap.size 89 [.int .u8 0, .int .u64 0, .int .u32 0, .string ⟨#[]⟩] from heap_alloc_new w _)
  clear hT hH hF hs
  go_enter Tryd.func39, Tryd.ntmps39
  go_wp2_with fail
  refine (HB.out _).mono ?_
  rintro e w1 ⟨rfl, hb1⟩
  have R1 := Lib.hid (R0.out.keep hb1)
  have B1 := Lib.hid (B0.out.trans (hb1.mono B0.out.size))
  clear hb1
  go_wp2_with fail
  go_region_held3 (fun _ => True) (trivial)
    ((go_at_call 53; refine (HF.out _).mono ?_; rintro e w2 ⟨rfl, hb2⟩))
  have R2 := Lib.hid (R1.out.keep ((Below.refl w1.heap.size w1).drew.trans hb2))
  have B2 := Lib.hid (B1.out.trans (((Below.refl w1.heap.size w1).drew.trans hb2).mono B1.out.size))
  obtain ⟨c0, c1, c2, c3⟩ := R2.out.four
  have f0 := R2.out.frozen 0
  have f1 := R2.out.frozen 1
  have f2 := R2.out.frozen 2
  have f3 := R2.out.frozen 3
  clear hb2
  go_wp2_with fail
  obtain ⟨d0, d1, d2, d3⟩ := (R2.out.put4 (.int .u8 0) (.int .u64 0) (.int .u32 0) (.string ⟨#[]⟩)).four
  refine bodyPost_ret (v := .tuple #[recZ, .int .i64 8]) (by simp [results, Tryd.results39, go_sem, recZ, d0, d1, d2, d3]) rfl ⟨rfl, ?_⟩
  exact below_put4 B2.out (Nat.le_refl _) _ _ _ _

end Go.Proofs.YtbigpapniloknaaDoor
