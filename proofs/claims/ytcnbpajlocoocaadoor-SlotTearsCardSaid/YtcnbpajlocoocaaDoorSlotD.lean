/- Contracts of slot's foot and parts. -/
import Derived.Test.YtcnbpajlocoocaaDoorSlotB
namespace Go.Proofs.YtcnbpajlocoocaaDoor
open Go.RowKit Go.Maps
set_option maxRecDepth 100000

theorem leL_get (x j : Nat) (hj : j < 4) : (leL x)[j]'(by rw [leL_len]; exact hj) = UInt8.ofNat (x / 2 ^ (8 * j) % 256) := by
  match j, hj with
  | 0, _ => simp [leL]
  | 1, _ => rfl
  | 2, _ => rfl
  | 3, _ => rfl

set_option maxHeartbeats 4000000 in
theorem slot_foot (s : ByteArray) (w : World) (hs : (s.size : Int) ≤ 9223372036854775806) :
    Calls Tryd.prog 57 #[.string s] w fun e w' => e = .returned (.string (bs (leL (crcSum s.data.toList)))) ∧ Below w.heap.size w w' := by
  obtain ⟨i0, hi, hz0, hz1, hz2⟩ := info_parts infoByte
  have HS := Lib.hid (seal_Sum s w (by omega))
  obtain ⟨x, hx⟩ : ∃ x, x = crcSum s.data.toList := ⟨_, rfl⟩
  rw [← hx] at HS ⊢
  have HXB : Hid (x < 4294967296) := Lib.hid (by rw [hx]; exact crcSum_lt _)
  clear hx
  go_enter Tryd.func57, Tryd.ntmps57
  go_wp2_with fail
  refine HS.out.mono ?_
  rintro e w1 ⟨rfl, rfl⟩
  clear HS
  go_wp2_with (at_make; refine wpList_make_full _ rfl _ _ 100 rfl w.heap.size 5 i0 (.int .u8 0) 1 Tryd.underlying100 hi hz0 hz1 .i64 .i64 _ _ 4 rfl rfl rfl rfl (by rw [hz2]; omega) (by simp only [maxLen]; omega) (Nat.le_refl _) ?_; intro w2 hown hgr; have G0 := Lib.hid hown; have GR := Lib.hid hgr; clear hown hgr)
  have G1 : Hid (Blk w2 w.heap.size 5 (nums .u8 (nb ((leL x).take 0 ++ List.replicate (4 - 0) 0)))) := Lib.hid (by
    have h := Blk.of_make G0.out (by omega)
    have e : nums .u8 (nb ((leL x).take 0 ++ List.replicate (4 - 0) 0)) = List.replicate 4 (.int .u8 0) := by
      rw [List.take_zero, List.nil_append]
      unfold nb
      rw [List.map_replicate]
      exact nums_replicate .u8 4
    rw [e]
    exact h)
  have B1 := Lib.hid ((Below.refl w.heap.size w).grown GR.out (Nat.le_refl _) (fun k hk => by cases hk))
  clear G0 GR
  go_wp2_with fail
  go_loopw [11] (fun iv wr => ∃ k : Nat, iv = .int .i64 k ∧ k ≤ 4 ∧ Hid (Blk wr w.heap.size 5 (nums .u8 (nb ((leL x).take k ++ List.replicate (4 - k) 0)))) ∧ Hid (Below w.heap.size w wr)) (fun iv _ => 4 - (intOf iv).toNat)
  case atStart => exact ⟨0, rfl, Nat.zero_le _, G1, B1⟩
  case round =>
    obtain ⟨k, rfl, hk, HG, HB⟩ := hrel
    by_cases hlt : k < 4
    · obtain ⟨r, hr⟩ : ∃ r, 4 - k = r + 1 := ⟨4 - k - 1, by omega⟩
      have hl : ((leL x).take k).length = k := by rw [List.length_take, leL_len]; omega
      have hc : wr.cell? ⟨w.heap.size, k, none⟩ = some (.int .u8 0) := by
        rw [HG.out.cell, nums_nb_get, List.getElem?_append_right (by rw [hl]; exact Nat.le_refl _), hl, Nat.sub_self, hr, List.replicate_succ]
        rfl
      have hf := HG.out.frozen k
      obtain ⟨c, hcc⟩ : ∃ c, c = 8 * k := ⟨_, rfl⟩
      have hw3 : IntKind.i64.wrap (8 * (k : Int)) = (c : Int) := by rw [IntWalk.i64_in _ (by omega)]; omega
      obtain ⟨q, hq⟩ : ∃ q, q = x / 2 ^ (min c 32) := ⟨_, rfl⟩
      have hqi : (x : Int) / 2 ^ (min c 32) = (q : Int) := by rw [hq]; push_cast; rfl
      obtain ⟨y, hy⟩ : ∃ y, y = q % 256 := ⟨_, rfl⟩
      have hyi : IntKind.u8.wrap (q : Int) = (y : Int) := by rw [wrap_u8n, hy]
      have HG2 : Hid (Blk (wr.setCell ⟨w.heap.size, k, none⟩ (.int .u8 (y : Int))) w.heap.size 5 (nums .u8 (nb ((leL x).take (k + 1) ++ List.replicate (4 - (k + 1)) 0)))) := Lib.hid (by
        have h := HG.out.set_ k (.int .u8 (y : Int))
        have e := nums_nb_set ((leL x).take k ++ List.replicate (4 - k) 0) k (UInt8.ofNat y)
        rw [UInt8.toNat_ofNat', Nat.mod_eq_of_lt (by omega)] at e
        rw [e, List.set_append_right _ _ (by rw [hl]; exact Nat.le_refl _), hl, Nat.sub_self, hr, List.replicate_succ, List.set_cons_zero] at h
        rw [show 4 - (k + 1) = r from by omega, List.take_succ_eq_append_getElem (by rw [leL_len]; exact hlt), leL_get x k hlt, List.append_assoc]
        have e3 : x / 2 ^ (8 * k) % 256 = y := by rw [hy, hq, hcc, Nat.min_eq_left (by omega)]
        rw [e3]
        exact h)
      clear hr hl hq hy hcc
      go_wp2_with fail
      go_roundw
      case rel => exact ⟨k + 1, by go_num, by omega, HG2, Lib.hid (HB.out.setCell (p := ⟨w.heap.size, k, none⟩) (Nat.le_refl _) _)⟩
      case measure => simp [intOf]; omega
    · obtain rfl : k = 4 := by omega
      have hat : At wr w.heap.size 0 (leL x) := by
        intro j hj
        rw [leL_len] at hj
        have h1 : (leL x).take 4 = leL x := List.take_of_length_le (by rw [leL_len]; exact Nat.le_refl _)
        rw [Nat.zero_add, HG.out.cell, nums_nb_get, h1]
        simp only [Nat.sub_self, List.replicate_zero, List.append_nil]
        rw [List.getElem?_eq_getElem (by rw [leL_len]; exact hj)]
        rfl
      have hcv := hat.conv 4
      rw [leL_len] at hcv
      clear hat
      go_wp2_with fail
      go_ret
      exact ⟨rfl, HB.out⟩

end Go.Proofs.YtcnbpajlocoocaaDoor
