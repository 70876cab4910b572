/- Contracts of seal's blank, of the library's Clone, of seal's closure that takes numbers. -/
import Derived.Test.YtcnbpajlocoocaaDoorSealB
import Derived.Test.YtcnbpajlocoocaaDoorTexts
import Derived.Test.YtcnbpajlocoocaaDoorShelf
namespace Go.Proofs.YtcnbpajlocoocaaDoor
open Go.RowKit

theorem lib_Clone (s : ByteArray) (w : World) (hs : s.size ≤ 281474976710656) :
    Calls Tryd.prog 65 #[.string s] w fun e w' => e = .returned (.string s) ∧ Below w.heap.size w w' := by
  have H := Lib.hid (fun W => Tryd.stringslite_Clone s W hs)
  go_enter Tryd.func65, Tryd.ntmps65
  go_wp2_with (go_at_call 76; refine (H.out _).mono ?_; rintro e w1 ⟨rfl, hb1⟩)
  go_ret
  exact ⟨rfl, hb1⟩

theorem seal_blank (l : List UInt8) (w : World) (hl : l.length ≤ 9223372036854775807) :
    Calls Tryd.prog 63 #[.string (bs l)] w fun e w' => e = .returned (.bool (zeroL l)) ∧ Below w.heap.size w w' := by
  obtain ⟨ts, hts⟩ : ∃ ts : ByteArray, ts = ⟨(Lib.trimB l 0).toArray⟩ := ⟨_, rfl⟩
  have hz : ts.toList.isEmpty = zeroL l := by
    rw [hts, ByteArray.toList_mk, ← trim_zero]
    cases Lib.trimB l 0 <;> rfl
  have H : Hid (∀ W, Calls Tryd.prog 75 #[.string (bs l), .string ⟨#[0]⟩] W fun e w' => e = .returned (.string ts) ∧ Below W.heap.size W w') := Lib.hid (fun W => by
    have h := Tryd.strings_Trim_one (bs l) 0 (by decide) W (by rw [bs_size]; exact hl)
    rw [bs_list, ← hts] at h
    refine h.mono ?_
    rintro e w' ⟨rfl, rfl | rfl⟩
    · exact ⟨rfl, Below.refl _ _⟩
    · exact ⟨rfl, (Below.refl _ _).drew⟩)
  clear hts
  go_enter Tryd.func63, Tryd.ntmps63
  go_wp2_with (go_at_call 75; refine (H.out _).mono ?_; rintro e w1 ⟨rfl, hb1⟩)
  go_ret
  exact ⟨by first | rfl | exact ret_bool hz, hb1⟩

set_option maxHeartbeats 2000000 in
theorem seal_take (R m : Nat) (l : List UInt8) (w : World) (hB : Blk w R 9 [.string (bs l)]) (hm : m ≤ l.length) (hm8 : m ≤ 8) (hl : l.length ≤ 1000) :
    Calls Tryd.prog 64 #[.int .i64 (m : Int), .pointer (some ⟨R, 0, none⟩)] w fun e w' => e = .returned (.int .u64 ((beV (l.take m) : Nat) : Int)) ∧ w' = w.setCell ⟨R, 0, none⟩ (.string (bs (l.drop m))) := by
  have hcell := hB.cell0
  have hfr := hB.frozen 0
  have hsz := bs_size l
  clear hB
  have HE : Hid ((bs l).extract m l.length = bs (l.drop m)) := Lib.hid (by rw [bs_extract, List.take_of_length_le (by rw [List.length_drop]; exact Nat.le_refl _)])
  go_enter Tryd.func64, Tryd.ntmps64
  go_wp2
  go_loopw [4, 7] (fun nv iv wr => ∃ (j x : Nat), iv = .int .i64 j ∧ j ≤ m ∧ nv = .int .u64 x ∧ Hid (x = beV (l.take j)) ∧ w = wr) (fun _ iv _ => m - (intOf iv).toNat)
  case atStart => exact ⟨0, 0, rfl, Nat.zero_le _, rfl, Lib.hid rfl, rfl⟩
  case round =>
    obtain ⟨j, x, rfl, hj, rfl, HX, rfl⟩ := hrel
    by_cases hlt : j < m
    · have hjl : j < l.length := by omega
      have hjs : j < (bs l).size := by rw [bs_size]; exact hjl
      obtain ⟨b, hb⟩ : ∃ b, b = ((bs l)[j]'hjs).toNat := ⟨_, rfl⟩
      have hbi : (((bs l)[j]'hjs).toNat : Int) = (b : Int) := by rw [hb]
      have hb8 : b < 256 := by rw [hb]; exact (bs l)[j].toNat_lt
      have hwb : IntKind.u64.wrap (b : Int) = (b : Int) := IntWalk.u64_in _ (by omega)
      have hxb : x * 256 < 18446744073709551616 := by
        have h1 := beV_take_lt l j (by omega)
        rw [← HX.out] at h1
        have h2 : (256 : Nat) ^ j ≤ 256 ^ 7 := Nat.pow_le_pow_right (by omega) (by omega)
        have h3 : (256 : Nat) ^ 7 = 72057594037927936 := by decide
        omega
      obtain ⟨y, hy⟩ : ∃ y, y = x * 256 := ⟨_, rfl⟩
      have hyi : IntKind.u64.wrap ((x : Int) * 256) = (y : Int) := by rw [IntWalk.u64_in _ (by omega)]; omega
      obtain ⟨z, hz⟩ : ∃ z, z = y + b := ⟨_, rfl⟩
      have hor : bits BinOp.or IntKind.u64 (y : Int) (b : Int) = (z : Int) := by
        have h := Nat.two_pow_add_eq_or_of_lt (i := 8) (b := b) hb8 x
        rw [bits_or_u64_nat y b (by omega) (by omega), hz, hy, Nat.mul_comm x 256]
        have e : (2 : Nat) ^ 8 = 256 := by decide
        rw [e] at h
        rw [h]
      have HZ : Hid (z = beV (l.take (j + 1))) := Lib.hid (by rw [beV_take l j hjl, ← HX.out, hz, hy, hb]; rfl)
      clear hb hy hz hxb hjl
      go_wp2
      go_roundw
      case rel => exact ⟨j + 1, z, by go_num, by omega, rfl, HZ, trivial⟩
      case measure => simp [intOf]; omega
    · have hjm : j = m := by omega
      subst hjm
      rw [HX.out]
      go_wp2
      go_ret
      exact ⟨rfl, by rw [HE.out]⟩

end Go.Proofs.YtcnbpajlocoocaaDoor
