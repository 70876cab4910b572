/- The walk of SealCloses: any record's sector is the document's, and is opened as it was. -/
import Derived.Test.YtciophpplpmmfaaDoorRefCloseB
namespace Go.Proofs.YtciophpplpmmfaaDoor
open Go.RowKit

set_option maxHeartbeats 4000000 in
set_option maxRecDepth 100000 in
theorem closes_idle (k g i : Nat) (d : List UInt8) (w : World) (hd : 300 < d.length) (hd2 : d.length ≤ 9223372036854775807) :
    Calls Tryd.prog 4 #[.agg #[.int .u8 (k : Int), .int .u64 (g : Int), .int .u32 (i : Int), .string (bs d)]] w fun e w' => e = .returned (.bool true) ∧ Below w.heap.size w w' := by
  have HA := Lib.hid seal_Awake
  have hsz := bs_size d
  have B0 := Lib.hid ((Below.refl w.heap.size w).alloc (Nat.le_refl _) (.cells #[.int .u8 (k : Int), .int .u64 (g : Int), .int .u32 (i : Int), .string (bs d)] 29))
  have hdd : decide ((300 : Int) < (d.length : Int)) = true := decide_eq_true (by omega)
  go_enter Tryd.func4, Tryd.ntmps4
  go_wp2_with fail
  refine (HA.out _).mono ?_
  rintro e w1 ⟨rfl, hb1⟩
  go_wp2_with fail
  go_ret
  exact ⟨rfl, B0.out.trans (hb1.mono B0.out.size)⟩

set_option maxHeartbeats 4000000 in
set_option maxRecDepth 100000 in
theorem closes_long (k g i : Nat) (d : List UInt8) (w : World) (hd : d.length ≤ 300) (hd2 : 110 < d.length) :
    Calls Tryd.prog 4 #[.agg #[.int .u8 (k : Int), .int .u64 (g : Int), .int .u32 (i : Int), .string (bs d)]] w fun e w' => e = .returned (.bool true) ∧ Below w.heap.size w w' := by
  have HA := Lib.hid seal_Awake
  have hsz := bs_size d
  have HC := Lib.hid (fun W => seal_Close_long k g i (bs d) W (by omega) (by omega))
  have HR := Lib.hid (fun W => ref_Close_long k g i d W hd2 (by omega))
  have B0 := Lib.hid ((Below.refl w.heap.size w).alloc (Nat.le_refl _) (.cells #[.int .u8 (k : Int), .int .u64 (g : Int), .int .u32 (i : Int), .string (bs d)] 29))
  have R0 := Lib.hid (show Blk (w.alloc (.cells #[.int .u8 (k : Int), .int .u64 (g : Int), .int .u32 (i : Int), .string (bs d)] 29)) w.heap.size 29 [.int .u8 (k : Int), .int .u64 (g : Int), .int .u32 (i : Int), .string (bs d)] from heap_alloc_new w _)
  have hdd : decide ((300 : Int) < (d.length : Int)) = false := decide_eq_false (by omega)
  go_enter Tryd.func4, Tryd.ntmps4
  go_wp2_with fail
  refine (HC.out _).mono ?_
  rintro e w1 ⟨rfl, hb1⟩
  have B1 := Lib.hid (B0.out.trans (hb1.mono B0.out.size))
  have R1 := Lib.hid (R0.out.keep hb1)
  obtain ⟨r0, r1, r2, r3⟩ := R1.out.four
  clear hb1
  go_wp2_with fail
  clear r0 r1 r2 r3
  refine (HR.out _).mono ?_
  rintro e w2 ⟨rfl, hb2⟩
  have B2 := Lib.hid (B1.out.trans (hb2.mono B1.out.size))
  clear hb2
  go_wp2_with fail
  refine (HA.out _).mono ?_
  rintro e w3 ⟨rfl, hb3⟩
  have B3 := Lib.hid (B2.out.trans (hb3.mono B2.out.size))
  clear hb3
  go_wp2_with fail
  go_ret
  exact ⟨rfl, B3.out⟩

set_option maxHeartbeats 4000000 in
set_option maxRecDepth 100000 in
theorem closes_ok (k g i : Nat) (d : List UInt8) (w : World) (hk : k < 256) (hg : g < 18446744073709551616) (hi : i < 4294967296) (hd : d.length ≤ 110) :
    Calls Tryd.prog 4 #[.agg #[.int .u8 (k : Int), .int .u64 (g : Int), .int .u32 (i : Int), .string (bs d)]] w fun e w' => e = .returned (.bool true) ∧ Below w.heap.size w w' := by
  have HA := Lib.hid seal_Awake
  have hsz := bs_size d
  obtain ⟨S, hS⟩ : ∃ S, S = secL k g i d := ⟨_, rfl⟩
  have HC : Hid (∀ W, Calls Tryd.prog 10 #[.agg #[.int .u8 (k : Int), .int .u64 (g : Int), .int .u32 (i : Int), .string (bs d)]] W fun e w' => e = .returned (.tuple #[.string (bs S), .int .i64 0]) ∧ Below W.heap.size W w') := Lib.hid (fun W => by
    have h := seal_Close_ok k g i (bs d) W hk hg hi (by omega)
    rw [bs_list, ← hS] at h
    exact h)
  have HR : Hid (∀ W, Calls Tryd.prog 11 #[.agg #[.int .u8 (k : Int), .int .u64 (g : Int), .int .u32 (i : Int), .string (bs d)]] W fun e w' => e = .returned (.tuple #[.string (bs S), .int .i64 0]) ∧ Below W.heap.size W w') := Lib.hid (fun W => by
    have h := ref_Close_ok k g i d W hk hg hi hd
    rw [← hS] at h
    exact h)
  have HO : Hid (∀ W, Calls Tryd.prog 8 #[.string (bs S)] W fun e w' => e = .returned (.tuple #[.agg #[.int .u8 (k : Int), .int .u64 (g : Int), .int .u32 (i : Int), .string (bs d)], .int .i64 0]) ∧ Below W.heap.size W w') := Lib.hid (fun W => by
    have h := seal_Open S W (by rw [hS, secL_len _ _ _ _ hd]; omega)
    rw [hS, open_sec ⟨hk, hg, hi, hd⟩] at h
    rw [hS]
    exact h)
  have B0 := Lib.hid ((Below.refl w.heap.size w).alloc (Nat.le_refl _) (.cells #[.int .u8 (k : Int), .int .u64 (g : Int), .int .u32 (i : Int), .string (bs d)] 29))
  have R0 := Lib.hid (show Blk (w.alloc (.cells #[.int .u8 (k : Int), .int .u64 (g : Int), .int .u32 (i : Int), .string (bs d)] 29)) w.heap.size 29 [.int .u8 (k : Int), .int .u64 (g : Int), .int .u32 (i : Int), .string (bs d)] from heap_alloc_new w _)
  have hdd : decide ((300 : Int) < (d.length : Int)) = false := decide_eq_false (by omega)
  have hss : ((bs S).toList != (bs S).toList) = false := by simp
  have hds : ((bs d).toList == (bs d).toList) = true := by simp
  clear hS hk hg hi hd
  go_enter Tryd.func4, Tryd.ntmps4
  go_wp2_with fail
  refine (HC.out _).mono ?_
  rintro e w1 ⟨rfl, hb1⟩
  have B1 := Lib.hid (B0.out.trans (hb1.mono B0.out.size))
  have R1 := Lib.hid (R0.out.keep hb1)
  obtain ⟨r0, r1, r2, r3⟩ := R1.out.four
  clear hb1
  go_wp2_with fail
  clear r0 r1 r2 r3
  refine (HR.out _).mono ?_
  rintro e w2 ⟨rfl, hb2⟩
  have B2 := Lib.hid (B1.out.trans (hb2.mono B1.out.size))
  have R2 := Lib.hid (R1.out.keep hb2)
  clear hb2
  go_wp2_with fail
  refine (HO.out _).mono ?_
  rintro e w3 ⟨rfl, hb3⟩
  have B3 := Lib.hid (B2.out.trans (hb3.mono B2.out.size))
  have R3 := Lib.hid ((R2.out.keep hb3).alloc (.cells #[.int .u8 (k : Int), .int .u64 (g : Int), .int .u32 (i : Int), .string (bs d)] 29))
  have B4 := Lib.hid (B3.out.alloc B3.out.size (.cells #[.int .u8 (k : Int), .int .u64 (g : Int), .int .u32 (i : Int), .string (bs d)] 29))
  have Q3 : Hid (Blk (w3.alloc (.cells #[.int .u8 (k : Int), .int .u64 (g : Int), .int .u32 (i : Int), .string (bs d)] 29)) w3.heap.size 29 [.int .u8 (k : Int), .int .u64 (g : Int), .int .u32 (i : Int), .string (bs d)]) := Lib.hid (heap_alloc_new w3 _)
  clear hb3
  go_wp2_with fail
  refine (HA.out _).mono ?_
  rintro e w4 ⟨rfl, hb4⟩
  have B5 := Lib.hid (B4.out.trans (hb4.mono B4.out.size))
  obtain ⟨r0, r1, r2, r3⟩ := (R3.out.keep hb4).four
  obtain ⟨q0, q1, q2, q3⟩ := (Q3.out.keep hb4).four
  clear hb4
  go_wp2_with fail
  go_ret
  exact ⟨rfl, B5.out⟩

theorem sealCloses_walk (k : Nat) (hk : k < 256) (g : Nat) (hg : g < 18446744073709551616) (i : Nat) (hi : i < 4294967296) (d : ByteArray) (hd : d.size ≤ maxLen) (w : World) :
    Calls Tryd.prog 4 #[.agg #[.int .u8 (k : Int), .int .u64 (g : Int), .int .u32 (i : Int), .string d]] w fun e w' => e = .returned (.bool true) ∧ Below w.heap.size w w' := by
  obtain ⟨l, hl⟩ : ∃ l, l = d.data.toList := ⟨_, rfl⟩
  have hs2 : d = bs l := by rw [hl, bs_of]
  have hll : l.length = d.size := by rw [hl, Array.length_toList]; rfl
  simp only [maxLen] at hd
  rw [hs2]
  by_cases h : 300 < l.length
  · exact closes_idle k g i l w h (by omega)
  · by_cases h2 : 110 < l.length
    · exact closes_long k g i l w (by omega) h2
    · exact closes_ok k g i l w hk hg hi (by omega)

end Go.Proofs.YtciophpplpmmfaaDoor
