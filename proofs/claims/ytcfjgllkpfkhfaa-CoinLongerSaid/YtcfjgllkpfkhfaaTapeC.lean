/- Contracts of tape's Read. -/
import Derived.Test.YtcfjgllkpfkhfaaTapeB
namespace Go.Proofs.Ytcfjgllkpfkhfaa
open Go.RowKit

/-- What a reading of n bits answers. -/
def RdRet (s : ByteArray) (a : Nat) (n : Int) (w : World) (e : Ending) (w' : World) : Prop :=
  ∃ v z c : Nat, rdT s.data.toList a n = (v, z, c) ∧ e = .returned (.tuple #[.int .u64 (v : Int), .agg #[.string s, .int .i64 (z : Int)], .int .i64 (c : Int)]) ∧ Below w.heap.size w w'

theorem hz2 {w w2 : World} {a b : Addr} {u v : Value} (h : Below w.heap.size w w2) : w.heap.size ≤ ((w2.setCell a u).setCell b v).heap.size := by have := h.size; simp [World.setCell]; exact this
theorem dlen (s : ByteArray) : s.data.toList.length = s.size := Array.length_toList
theorem rdT_range {l : List UInt8} {a : Nat} {n : Int} (h : n < 0 ∨ 64 < n) : rdT l a n = (0, a, 5) := by unfold rdT; rw [if_pos h]
theorem rdT_short {l : List UInt8} {a b : Nat} {n : Int} (h0 : 0 ≤ n) (h1 : n ≤ 64) (hb : 8 * l.length = a + b) (h : (b : Int) < n) : rdT l a n = (0, a, 6) := by
  unfold rdT; rw [if_neg (by omega), if_pos (by omega)]
theorem rdT_ok {l : List UInt8} {a n : Nat} (h1 : n ≤ 64) (hb : a + n ≤ 8 * l.length) : rdT l a (n : Int) = (numL l a n, a + n, 0) := by
  unfold rdT; rw [if_neg (by omega), if_neg (by omega), Int.toNat_natCast]

set_option maxHeartbeats 4000000 in
set_option maxRecDepth 100000 in
theorem tape_Read (s : ByteArray) (a : Nat) (n : Int) (w : World) (hs : (s.size : Int) ≤ 1000000) (ha : a ≤ 8 * s.size) (hn0 : -9223372036854775808 ≤ n) (hn1 : n ≤ 9223372036854775807) :
    Calls Try.prog 15 #[.agg #[.string s, .int .i64 (a : Int)], .int .i64 n] w (RdRet s a n w) := by
  by_cases hlo : n < 0
  · have HR := Lib.hid (rdT_range (l := s.data.toList) (a := a) (.inl hlo))
    go_enter Try.func15, Try.ntmps15
    go_wp2_with fail
    go_region
    all_goals go_wp2_with fail
    all_goals refine bodyPost_ret (v := .tuple #[.int .u64 0, .agg #[.string s, .int .i64 (a : Int)], .int .i64 5]) (by simp [results, Try.results15, go_sem]) rfl ⟨0, a, 5, HR.out, rfl, ?_⟩
    all_goals exact (((Below.refl _ _).alloc (Nat.le_refl _) _).alloc (hz1 _ _) _).drew
  · by_cases hhi : 64 < n
    · have HR := Lib.hid (rdT_range (l := s.data.toList) (a := a) (.inr hhi))
      have hd : decide (n < 0) = false := decide_eq_false hlo
      go_enter Try.func15, Try.ntmps15
      go_wp2_with fail
      go_region
      all_goals go_wp2_with fail
      all_goals refine bodyPost_ret (v := .tuple #[.int .u64 0, .agg #[.string s, .int .i64 (a : Int)], .int .i64 5]) (by simp [results, Try.results15, go_sem]) rfl ⟨0, a, 5, HR.out, rfl, ?_⟩
      all_goals exact (((Below.refl _ _).alloc (Nat.le_refl _) _).alloc (hz1 _ _) _).drew
    · obtain ⟨b, hb⟩ : ∃ b, 8 * s.size = a + b := ⟨8 * s.size - a, by omega⟩
      obtain ⟨m, rfl⟩ : ∃ m : Nat, n = (m : Int) := ⟨n.toNat, by omega⟩
      have HL := Lib.hid (fun W => tape_Left s a b W hs hb)
      have X0 := Lib.hid ((TBox.new 25 w s a).alloc (.cells #[.string ⟨#[]⟩, .int .i64 0] 25))
      have Y0 := TBox.new 25 (w.alloc (.cells #[.string s, .int .i64 (a : Int)] 25)) ⟨#[]⟩ 0
      rw [show (w.alloc (.cells #[.string s, .int .i64 (a : Int)] 25)).heap.size = w.heap.size + 1 from by simp] at Y0
      have Y0 := Lib.hid Y0
      have B0 := Lib.hid (((Below.refl w.heap.size w).alloc (Nat.le_refl _) (.cells #[.string s, .int .i64 (a : Int)] 25)).alloc (hz1 _ _) (.cells #[.string ⟨#[]⟩, .int .i64 0] 25))
      have hlo' : (m : Int) ≤ 64 := by omega
      have HB := Lib.hid hb
      by_cases hbm : b < m
      · have HR := Lib.hid (rdT_short (l := s.data.toList) (a := a) (b := b) (n := (m : Int)) (by omega) (by omega) (by rw [dlen]; exact hb) (by omega))
        have hd : decide ((b : Int) < (m : Int)) = true := decide_eq_true (by omega)
        clear hb hlo hhi
        go_enter Try.func15, Try.ntmps15
        go_wp2_with fail
        refine (HL.out _).mono ?_
        rintro e w1 ⟨rfl, hb1⟩
        have X1 := Lib.hid (X0.out.keep hb1)
        have Y1 := Lib.hid (Y0.out.keep hb1)
        have B1 := Lib.hid (keepB B0.out hb1)
        obtain ⟨c0, c1⟩ := X1.out.cells
        obtain ⟨d0, d1⟩ := Y1.out.cells
        obtain ⟨f0, f1⟩ := Y1.out.fz
        clear hb1 X0 Y0 B0
        go_wp2_with fail
        go_region
        all_goals go_wp2_with fail
        all_goals refine bodyPost_ret (v := .tuple #[.int .u64 0, .agg #[.string s, .int .i64 (a : Int)], .int .i64 6]) (by simp [results, Try.results15, go_sem, d0, d1]) rfl ⟨0, a, 6, HR.out, rfl, ?_⟩
        all_goals exact Below.drew (Below.put2 B1.out (Nat.le_succ _) _ _)
      · obtain ⟨v, hv⟩ : ∃ v, v = numL s.data.toList a m := ⟨_, rfl⟩
        obtain ⟨z, hz⟩ : ∃ z, z = a + m := ⟨_, rfl⟩
        have HR : Hid (rdT s.data.toList a (m : Int) = (v, z, 0)) := Lib.hid (by rw [hv, hz]; exact rdT_ok (by omega) (by rw [dlen]; omega))
        have HT := Lib.hid (fun W => tape_bits s a m v z W hs (by omega) (by omega) (Lib.hid hv) (Lib.hid hz))
        have hbm' : (m : Int) ≤ (b : Int) := by omega
        clear hb hlo hhi hv hz hbm
        go_enter Try.func15, Try.ntmps15
        go_wp2_with fail
        refine (HL.out _).mono ?_
        rintro e w1 ⟨rfl, hb1⟩
        have X1 := Lib.hid (X0.out.keep hb1)
        have Y1 := Lib.hid (Y0.out.keep hb1)
        have B1 := Lib.hid (keepB B0.out hb1)
        obtain ⟨c0, c1⟩ := X1.out.cells
        clear hb1 X0 Y0 B0
        go_wp2_with fail
        refine (HT.out _).mono ?_
        rintro e w2 ⟨rfl, hb2⟩
        have Y2 := Lib.hid (Y1.out.keep hb2)
        have B2 := Lib.hid (keepB B1.out hb2)
        obtain ⟨d0, d1⟩ := Y2.out.cells
        obtain ⟨f0, f1⟩ := Y2.out.fz
        have hsz := Y2.out.lt
        clear hb2 X1 Y1 B1 c0 c1
        go_wp2_with fail
        go_region
        all_goals go_wp2_with fail
        all_goals refine bodyPost_ret (v := .tuple #[.int .u64 (v : Int), .agg #[.string s, .int .i64 (z : Int)], .int .i64 0]) (by simp [results, Try.results15, go_sem, d0, d1, hsz]) rfl ⟨v, z, 0, HR.out, rfl, ?_⟩
        all_goals exact Below.drew ((Below.put2 B2.out (Nat.le_succ _) _ _).alloc (hz2 B2.out) _)
end Go.Proofs.Ytcfjgllkpfkhfaa
