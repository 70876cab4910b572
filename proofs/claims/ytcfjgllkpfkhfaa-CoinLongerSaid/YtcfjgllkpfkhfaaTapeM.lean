/- Readings that are told ahead: of bits and bytes that are there, and that aren't. -/
import Derived.Test.YtcfjgllkpfkhfaaTapeL
import Derived.Laws.Concat
namespace Go.Proofs.Ytcfjgllkpfkhfaa
open Go.RowKit

theorem tape_Read_ok (s : ByteArray) (a n v z : Nat) (W : World) (hs : (s.size : Int) ≤ 1000000) (hn : n ≤ 64) (ha : a + n ≤ 8 * s.size) (hv : Hid (v = numL s.data.toList a n)) (hz : Hid (z = a + n)) :
    Calls Try.prog 15 #[.agg #[.string s, .int .i64 (a : Int)], .int .i64 (n : Int)] W fun e w' =>
      e = .returned (.tuple #[.int .u64 (v : Int), .agg #[.string s, .int .i64 (z : Int)], .int .i64 0]) ∧ Below W.heap.size W w' := by
  refine (tape_Read s a n W hs (by omega) (by omega) (by omega)).mono ?_
  rintro e w' ⟨v', z', c', hr, he, hb⟩
  have h4 := hr.symm.trans (rdT_ok (l := s.data.toList) (a := a) (n := n) hn (by rw [dlen]; exact ha))
  injection h4 with e1 e2
  injection e2 with e2 e3
  subst e1 e2 e3
  rw [he, hv.out, hz.out]
  exact ⟨rfl, hb⟩
theorem tape_Read_short (s : ByteArray) (a n : Nat) (W : World) (hs : (s.size : Int) ≤ 1000000) (hn : n ≤ 64) (ha : a ≤ 8 * s.size) (h : 8 * s.size < a + n) :
    Calls Try.prog 15 #[.agg #[.string s, .int .i64 (a : Int)], .int .i64 (n : Int)] W fun e w' =>
      e = .returned (.tuple #[.int .u64 0, .agg #[.string s, .int .i64 (a : Int)], .int .i64 6]) ∧ Below W.heap.size W w' := by
  refine (tape_Read s a n W hs (by omega) (by omega) (by omega)).mono ?_
  rintro e w' ⟨v', z', c', hr, he, hb⟩
  have h4 := hr.symm.trans (rdT_short (l := s.data.toList) (a := a) (b := 8 * s.size - a) (n := (n : Int)) (by omega) (by omega) (by rw [dlen]; omega) (by omega))
  injection h4 with e1 e2
  injection e2 with e2 e3
  subst e1 e2 e3
  exact ⟨he, hb⟩
theorem rtape_Read_ok (s : ByteArray) (a n v z : Nat) (W : World) (hs : (s.size : Int) ≤ 1000000) (hn : n ≤ 64) (ha : a + n ≤ 8 * s.size) (hv : Hid (v = numL s.data.toList a n)) (hz : Hid (z = a + n)) :
    Calls Try.prog 16 #[.agg #[.string s, .int .i64 (a : Int)], .int .i64 (n : Int)] W fun e w' =>
      e = .returned (.tuple #[.int .u64 (v : Int), .agg #[.string s, .int .i64 (z : Int)], .int .i64 0]) ∧ Below W.heap.size W w' := by
  refine (rtape_Read s a n W hs (by omega) (by omega) (by omega)).mono ?_
  rintro e w' ⟨v', z', c', hr, he, hb⟩
  have h4 := hr.symm.trans (rdT_ok (l := s.data.toList) (a := a) (n := n) hn (by rw [dlen]; exact ha))
  injection h4 with e1 e2
  injection e2 with e2 e3
  subst e1 e2 e3
  rw [he, hv.out, hz.out]
  exact ⟨rfl, hb⟩
theorem rtape_Read_short (s : ByteArray) (a n : Nat) (W : World) (hs : (s.size : Int) ≤ 1000000) (hn : n ≤ 64) (ha : a ≤ 8 * s.size) (h : 8 * s.size < a + n) :
    Calls Try.prog 16 #[.agg #[.string s, .int .i64 (a : Int)], .int .i64 (n : Int)] W fun e w' =>
      e = .returned (.tuple #[.int .u64 0, .agg #[.string s, .int .i64 (a : Int)], .int .i64 6]) ∧ Below W.heap.size W w' := by
  refine (rtape_Read s a n W hs (by omega) (by omega) (by omega)).mono ?_
  rintro e w' ⟨v', z', c', hr, he, hb⟩
  have h4 := hr.symm.trans (rdT_short (l := s.data.toList) (a := a) (b := 8 * s.size - a) (n := (n : Int)) (by omega) (by omega) (by rw [dlen]; omega) (by omega))
  injection h4 with e1 e2
  injection e2 with e2 e3
  subst e1 e2 e3
  exact ⟨he, hb⟩
theorem tape_Bytes_ok (s c : ByteArray) (a n z : Nat) (W : World) (hs : (s.size : Int) ≤ 1000000) (ha : a + 8 * n ≤ 8 * s.size) (hc : Hid (c.data.toList = bytL s.data.toList a n)) (hz : Hid (z = a + 8 * n)) :
    Calls Try.prog 12 #[.agg #[.string s, .int .i64 (a : Int)], .int .i64 (n : Int)] W fun e w' =>
      e = .returned (.tuple #[.string c, .agg #[.string s, .int .i64 (z : Int)], .int .i64 0]) ∧ Below W.heap.size W w' := by
  refine (tape_Bytes s a n W hs (by omega) (by omega) (by omega)).mono ?_
  rintro e w' ⟨l', z', c', hr, he, hb⟩
  have h4 := hr.symm.trans (byT_ok (l := s.data.toList) (a := a) (n := n) (by rw [dlen]; exact ha))
  injection h4 with e1 e2
  injection e2 with e2 e3
  subst e1 e2 e3
  rw [he, hz.out, ← hc.out]
  exact ⟨by cases c; rfl, hb⟩

theorem below_al {w w' : World} (h : Below w.heap.size w w') (o : Obj) : Below w.heap.size w (w'.alloc o) := h.alloc h.size o
theorem app_data (s t : ByteArray) : (s ++ t).data.toList = s.data.toList ++ t.data.toList := by
  cases s with
  | mk a =>
    cases t with
    | mk b =>
      have := ByteArray.mk_append_mk a.toList b.toList
      simp only [Array.toArray_toList] at this
      rw [this]
theorem bytes_ext {s t : ByteArray} (h : s.data.toList = t.data.toList) : s = t := by
  cases s with
  | mk a =>
    cases t with
    | mk b => exact congrArg _ (Array.toList_inj.1 h)
end Go.Proofs.Ytcfjgllkpfkhfaa
