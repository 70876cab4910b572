/- Contracts of octet's wide, wrong, End, Put, Take; of the library's Clone. -/
import Derived.Test.YthoahengdajpcaaJTxt
import Derived.Test.YthoahengdajpcaaShelf
import Derived.OwnWalk
import Derived.OneCell
namespace Go.Proofs.Ythoahengdajpcaa
open Go.RowKit

theorem oct_u8 (n : Nat) : IntKind.u8.wrap (n : Int) = ((n % 256 : Nat) : Int) := by simp [IntKind.wrap, IntKind.bits, IntKind.signed]
theorem oct_shr {n c : Nat} (h : n < 18446744073709551616) : n / 2 ^ (min c 64) = n / 2 ^ c := by
  rcases Nat.le_total c 64 with hc | hc
  · rw [Nat.min_eq_left hc]
  · rw [Nat.min_eq_right hc, Nat.div_eq_of_lt h, Nat.div_eq_of_lt (Nat.lt_of_lt_of_le h (Nat.pow_le_pow_right (n := 2) (i := 64) (by omega) hc))]
theorem oct_256 (n : Nat) : (2 : Nat) ^ (8 * n) = 256 ^ n := by rw [Nat.pow_mul]
/-- Does a number fit n bytes? -/
theorem oct_fits (v n : Nat) : v / 256 ^ n = 0 ↔ v < 256 ^ n := Nat.div_eq_zero_iff_lt (Nat.pow_pos (by omega))

theorem oct_Clone (s : ByteArray) (w : World) (hs : s.size ≤ 281474976710656) :
    Calls Try.prog 37 #[.string s] w fun e w' => e = .returned (.string s) ∧ Below w.heap.size w w' := by
  have H := Lib.hid (fun W => Try.stringslite_Clone s W hs)
  go_enter Try.func37, Try.ntmps37
  go_wp2_with (go_at_call 39; refine (H.out _).mono ?_; rintro e w1 ⟨rfl, hb1⟩)
  go_ret
  exact ⟨rfl, hb1⟩

theorem oct_wide_yes (n : Int) (w : World) (h : 1 ≤ n) (h8 : n ≤ 8) :
    Calls Try.prog 36 #[.int .i64 n] w fun e w' => e = .returned (.bool true) ∧ w = w' := by
  have h1 : decide ((1 : Int) ≤ n) = true := decide_eq_true h
  have h2 : decide (n ≤ (8 : Int)) = true := decide_eq_true h8
  go_enter Try.func36, Try.ntmps36
  go_wp2
  go_ret
  exact ⟨rfl, rfl⟩
theorem oct_wide_low (n : Int) (w : World) (h : n < 1) :
    Calls Try.prog 36 #[.int .i64 n] w fun e w' => e = .returned (.bool false) ∧ w = w' := by
  have h1 : decide ((1 : Int) ≤ n) = false := decide_eq_false (by omega)
  go_enter Try.func36, Try.ntmps36
  go_wp2
  go_ret
  exact ⟨rfl, rfl⟩
theorem oct_wide_high (n : Int) (w : World) (h : 8 < n) :
    Calls Try.prog 36 #[.int .i64 n] w fun e w' => e = .returned (.bool false) ∧ w = w' := by
  have h1 : decide ((1 : Int) ≤ n) = true := decide_eq_true (by omega)
  have h2 : decide (n ≤ (8 : Int)) = false := decide_eq_false (by omega)
  go_enter Try.func36, Try.ntmps36
  go_wp2
  go_ret
  exact ⟨rfl, rfl⟩
theorem oct_wide_no (n : Int) (w : World) (h : n < 1 ∨ 8 < n) :
    Calls Try.prog 36 #[.int .i64 n] w fun e w' => e = .returned (.bool false) ∧ w = w' := by
  rcases h with h | h
  · exact oct_wide_low n w h
  · exact oct_wide_high n w h

theorem oct_wrong_low (k m : Int) (w : World) (h : m < 0) :
    Calls Try.prog 38 #[.int .i64 k, .int .i64 m] w fun e w' => e = .returned (.int .i64 5) ∧ w = w' := by
  have h1 : decide (m < (0 : Int)) = true := decide_eq_true h
  go_enter Try.func38, Try.ntmps38
  go_wp2
  go_ret
  exact ⟨rfl, rfl⟩
theorem oct_wrong_high (k m : Int) (w : World) (h : 65535 < m) :
    Calls Try.prog 38 #[.int .i64 k, .int .i64 m] w fun e w' => e = .returned (.int .i64 5) ∧ w = w' := by
  have h1 : decide (m < (0 : Int)) = false := decide_eq_false (by omega)
  have h2 : decide ((65535 : Int) < m) = true := decide_eq_true h
  go_enter Try.func38, Try.ntmps38
  go_wp2
  go_ret
  exact ⟨rfl, rfl⟩
theorem oct_wrong_range (k m : Int) (w : World) (h : m < 0 ∨ 65535 < m) :
    Calls Try.prog 38 #[.int .i64 k, .int .i64 m] w fun e w' => e = .returned (.int .i64 5) ∧ w = w' := by
  rcases h with h | h
  · exact oct_wrong_low k m w h
  · exact oct_wrong_high k m w h
theorem oct_wrong_long (k m : Int) (w : World) (h : 0 ≤ m) (h2 : m ≤ 65535) (h3 : m < k) :
    Calls Try.prog 38 #[.int .i64 k, .int .i64 m] w fun e w' => e = .returned (.int .i64 11) ∧ w = w' := by
  have h1 : decide (m < (0 : Int)) = false := decide_eq_false (by omega)
  have h2 : decide ((65535 : Int) < m) = false := decide_eq_false (by omega)
  have h4 : decide (m < k) = true := decide_eq_true h3
  go_enter Try.func38, Try.ntmps38
  go_wp2
  go_ret
  exact ⟨rfl, rfl⟩
theorem oct_wrong_ok (k m : Int) (w : World) (h : 0 ≤ m) (h2 : m ≤ 65535) (h3 : k ≤ m) :
    Calls Try.prog 38 #[.int .i64 k, .int .i64 m] w fun e w' => e = .returned (.int .i64 0) ∧ w = w' := by
  have h1 : decide (m < (0 : Int)) = false := decide_eq_false (by omega)
  have h2 : decide ((65535 : Int) < m) = false := decide_eq_false (by omega)
  have h4 : decide (m < k) = false := decide_eq_false (by omega)
  go_enter Try.func38, Try.ntmps38
  go_wp2
  go_ret
  exact ⟨rfl, rfl⟩

theorem oct_End_none (w : World) :
    Calls Try.prog 31 #[.string (bs [])] w fun e w' => e = .returned (.int .i64 0) ∧ w = w' := by
  have h1 : (bs []).toList.isEmpty = true := by rw [bs, ByteArray.toList_mk]; rfl
  have h2 : (!(bs []).toList.isEmpty) = false := by rw [h1]; rfl
  go_enter Try.func31, Try.ntmps31
  go_wp2
  go_ret
  exact ⟨rfl, rfl⟩
theorem oct_End_some (l : List UInt8) (w : World) (h : l ≠ []) :
    Calls Try.prog 31 #[.string (bs l)] w fun e w' => e = .returned (.int .i64 11) ∧ w = w' := by
  have h1 : (bs l).toList.isEmpty = false := by rw [bs, ByteArray.toList_mk]; cases l with | nil => exact absurd rfl h | cons a t => rfl
  have h2 : (!(bs l).toList.isEmpty) = true := by rw [h1]; rfl
  go_enter Try.func31, Try.ntmps31
  go_wp2
  go_ret
  exact ⟨rfl, rfl⟩

theorem oct_Put_no (v n : Int) (w : World) (h : n < 1 ∨ 8 < n) :
    Calls Try.prog 25 #[.int .u64 v, .int .i64 n] w fun e w' => e = .returned (.tuple #[.string (bs []), .int .i64 5]) ∧ Below w.heap.size w w' := by
  have H := Lib.hid (fun W => oct_wide_no n W h)
  clear h
  go_enter Try.func25, Try.ntmps25
  go_wp2_with (go_at_call 36; refine (H.out _).mono ?_; rintro e w1 ⟨rfl, rfl⟩)
  go_ret2
  exact ⟨rfl, Below.refl _ _⟩

set_option maxHeartbeats 2000000 in
theorem oct_Put_more (v n : Nat) (w : World) (hn1 : 1 ≤ n) (hn : n ≤ 8) (hv : v < 18446744073709551616) (h : 256 ^ n ≤ v) :
    Calls Try.prog 25 #[.int .u64 (v : Int), .int .i64 (n : Int)] w fun e w' => e = .returned (.tuple #[.string (bs []), .int .i64 5]) ∧ Below w.heap.size w w' := by
  have H := Lib.hid (fun W => oct_wide_yes (n : Int) W (by omega) (by omega))
  obtain ⟨c, hc⟩ : ∃ c, c = 8 * n := ⟨_, rfl⟩
  have hcw : IntKind.i64.wrap (8 * (n : Int)) = (c : Int) := by rw [IntWalk.i64_in _ (by omega)]; omega
  obtain ⟨q, hq⟩ : ∃ q, q = v / 2 ^ (min c 64) := ⟨_, rfl⟩
  have hqi : (v : Int) / 2 ^ (min c 64) = (q : Int) := by rw [hq]; push_cast; rfl
  have hq0 : ((q : Int) != 0) = true := by
    rw [bne_iff_ne]
    intro e
    have e2 : q = 0 := by omega
    rw [hq, oct_shr hv, hc, oct_256, oct_fits] at e2
    omega
  clear hq hc h
  go_enter Try.func25, Try.ntmps25
  go_wp2_with (go_at_call 36; refine (H.out _).mono ?_; rintro e w1 ⟨rfl, rfl⟩)
  go_ret2
  exact ⟨rfl, Below.refl _ _⟩

theorem oct_set {v n j : Nat} (h : j < n) : ((beL v n).take j ++ List.replicate (n - j) (0 : UInt8)).set j (UInt8.ofNat (v / 256 ^ (n - 1 - j) % 256)) = (beL v n).take (j + 1) ++ List.replicate (n - (j + 1)) 0 := by
  have hl : ((beL v n).take j).length = j := by rw [List.length_take, beL_len]; omega
  rw [beL_take v n j h, List.set_append_right _ _ (by omega), hl, Nat.sub_self, show n - j = n - (j + 1) + 1 from by omega, List.replicate_succ, List.set_cons_zero, List.append_assoc]
  rfl
theorem oct_nums_set (l : List UInt8) (k : Nat) (v : UInt8) : (nums .u8 (nb l)).set k (.int .u8 ((v.toNat : Nat) : Int)) = nums .u8 (nb (l.set k v)) := by
  unfold nums nb
  rw [List.map_set, List.map_set]
theorem oct_nums_rep (n : Nat) : nums .u8 (nb (List.replicate n (0 : UInt8))) = List.replicate n (.int .u8 0) := by
  unfold nb
  rw [List.map_replicate]
  exact nums_replicate .u8 n

/-- A row of bytes known whole, as a text. -/
theorem oct_conv {w : World} {g n : Nat} {l : List UInt8} (h : Blk w g 5 (nums .u8 (nb l))) (hn : l.length = n) :
    (convert 60 9 (.slice (some ⟨g, 0, none⟩) n n)).run Try.prog w = .ok (.string (bs l)) w := by
  subst hn
  have := run_convert_bytes_arg (P := Try.prog) w 60 5 Try.underlying60 Try.underlying5 g 0 l.length l.length ((nb l).map fun x : Nat => (x : Int)) (by rw [List.length_map, nb_len]) (fun i hi => by
      rw [Nat.zero_add, h.cell, nums_get _ _ _ (by rw [nb_len]; exact hi), List.getD_eq_getElem?_getD, List.getD_eq_getElem?_getD, List.getElem?_map, List.getElem?_eq_getElem (by rw [nb_len]; exact hi)]
      rfl) 9 Try.underlying9
  rw [str_nb] at this
  exact this

set_option maxHeartbeats 4000000 in
set_option maxRecDepth 100000 in
theorem oct_Put_ok (v n : Nat) (w : World) (hn1 : 1 ≤ n) (hn : n ≤ 8) (hv : v < 18446744073709551616) (h : v < 256 ^ n) :
    Calls Try.prog 25 #[.int .u64 (v : Int), .int .i64 (n : Int)] w fun e w' => e = .returned (.tuple #[.string (bs (beL v n)), .int .i64 0]) ∧ Below w.heap.size w w' := by
  obtain ⟨i0, hi, hz0, hz1, hz2⟩ := info_parts infoByte
  have H := Lib.hid (fun W => oct_wide_yes (n : Int) W (by omega) (by omega))
  have HV := Lib.hid hv
  obtain ⟨c0, hc0⟩ : ∃ c, c = 8 * n := ⟨_, rfl⟩
  have hcw0 : IntKind.i64.wrap (8 * (n : Int)) = (c0 : Int) := by rw [IntWalk.i64_in _ (by omega)]; omega
  have hqi0 : (v : Int) / 2 ^ (min c0 64) = 0 := by
    have e : v / 2 ^ (min c0 64) = 0 := by rw [oct_shr hv, hc0, oct_256, oct_fits]; exact h
    have e2 : (v : Int) / 2 ^ (min c0 64) = ((v / 2 ^ (min c0 64) : Nat) : Int) := by push_cast; rfl
    rw [e2, e]; rfl
  clear hc0 h hv
  go_enter Try.func25, Try.ntmps25
  go_wp2_with (first
    | (go_at_call 36; refine (H.out _).mono ?_; rintro e w1 ⟨rfl, rfl⟩)
    | (at_make; refine wpList_make_full _ rfl _ _ 60 rfl w.heap.size 5 i0 (.int .u8 0) 1 Try.underlying60 hi hz0 hz1 .i64 .i64 _ _ n rfl rfl rfl rfl (by rw [hz2]; omega) (by simp only [maxLen]; omega) (Nat.le_refl _) ?_; intro w1 hown hgr; have G0 := Lib.hid hown; have GR := Lib.hid hgr; clear hown hgr))
  have G1 : Hid (Blk w1 w.heap.size 5 (nums .u8 (nb ((beL v n).take 0 ++ List.replicate (n - 0) (0 : UInt8))))) := Lib.hid (by
    rw [List.take_zero, List.nil_append, Nat.sub_zero, oct_nums_rep]
    exact Blk.of_make G0.out (by omega))
  have B1 := Lib.hid ((Below.refl w.heap.size w).grown GR.out (Nat.le_refl _) (fun k hk => by cases hk))
  clear G0 GR hcw0 hqi0
  go_wp2_with fail
  try simp only [Act.put, List.setIfInBounds_toArray, List.set_cons_succ, List.set_cons_zero]
  go_loopw [21] (fun iv wr => ∃ (j : Nat), iv = .int .i64 (j : Int) ∧ j ≤ n ∧ Hid (Blk wr w.heap.size 5 (nums .u8 (nb ((beL v n).take j ++ List.replicate (n - j) (0 : UInt8))))) ∧ Hid (Below w.heap.size w wr)) (fun iv _ => n - (intOf iv).toNat)
  case atStart => exact ⟨0, rfl, Nat.zero_le _, G1, B1⟩
  case round =>
    obtain ⟨j, rfl, hj, HG, HB⟩ := hrel
    by_cases hlt : j < n
    · obtain ⟨d, hd⟩ : ∃ d, d = n - 1 - j := ⟨_, rfl⟩
      have hw1 : IntKind.i64.wrap ((n : Int) - 1) = ((n - 1 : Nat) : Int) := by rw [IntWalk.i64_in _ (by omega)]; omega
      have hw2 : IntKind.i64.wrap (((n - 1 : Nat) : Int) - (j : Int)) = (d : Int) := by rw [IntWalk.i64_in _ (by omega)]; omega
      obtain ⟨c, hc⟩ : ∃ c, c = 8 * d := ⟨_, rfl⟩
      have hw3 : IntKind.i64.wrap (8 * (d : Int)) = (c : Int) := by rw [IntWalk.i64_in _ (by omega)]; omega
      obtain ⟨q, hq⟩ : ∃ q, q = v / 2 ^ (min c 64) := ⟨_, rfl⟩
      have hqi : (v : Int) / 2 ^ (min c 64) = (q : Int) := by rw [hq]; push_cast; rfl
      obtain ⟨y, hy⟩ : ∃ y, y = q % 256 := ⟨_, rfl⟩
      have hyi : IntKind.u8.wrap (q : Int) = (y : Int) := by rw [oct_u8, hy]
      have hcell : wr.cell? ⟨w.heap.size, j, none⟩ = some (.int .u8 0) := by
        rw [HG.out.cell]
        unfold nums nb
        rw [List.getElem?_map, List.getElem?_map, List.getElem?_append_right (by rw [List.length_take, beL_len]; omega), List.length_take, beL_len, Nat.min_eq_left (by omega), Nat.sub_self, List.getElem?_replicate, if_pos (by omega)]
        rfl
      have hf := HG.out.frozen j
      have HG2 : Hid (Blk (wr.setCell ⟨w.heap.size, j, none⟩ (.int .u8 (y : Int))) w.heap.size 5 (nums .u8 (nb ((beL v n).take (j + 1) ++ List.replicate (n - (j + 1)) (0 : UInt8))))) := Lib.hid (by
        have h := HG.out.set_ j (.int .u8 (y : Int))
        have e := oct_nums_set ((beL v n).take j ++ List.replicate (n - j) (0 : UInt8)) j (UInt8.ofNat (v / 256 ^ (n - 1 - j) % 256))
        rw [oct_set hlt, UInt8.toNat_ofNat', Nat.mod_eq_of_lt (by omega), ← oct_256, ← hd, ← hc, ← oct_shr HV.out, ← hq, ← hy] at e
        rw [e] at h
        exact h)
      have B2 := Lib.hid (HB.out.setCell (p := ⟨w.heap.size, j, none⟩) (Nat.le_refl _) (.int .u8 (y : Int)))
      have hdec : decide ((j : Int) < (n : Int)) = true := decide_eq_true (by omega)
      clear hy hq hd hc
      go_wp2_with fail
      go_roundw
      case rel => exact ⟨j + 1, by go_num, by omega, HG2, B2⟩
      case measure => simp [intOf]; omega
    · have hjm : j = n := by omega
      subst hjm
      have hdec : decide ((j : Int) < (j : Int)) = false := decide_eq_false (by omega)
      have hcv := oct_conv (l := beL v j) (n := j) (w := wr) (g := w.heap.size) (by have := HG.out; rw [beL_full, Nat.sub_self, List.replicate_zero, List.append_nil] at this; exact this) (beL_len _ _)
      go_wp2_with fail
      go_ret2
      exact ⟨rfl, HB.out⟩

end Go.Proofs.Ythoahengdajpcaa
