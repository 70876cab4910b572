/- The contract of the document's digits. -/
import Derived.Test.YtciophpplpmmfaaDoorRefOpenA
import Derived.OwnWalk
namespace Go.Proofs.YtciophpplpmmfaaDoor
open Go.RowKit

theorem pow_div (v a : Nat) : v / 256 ^ a / 256 = v / 256 ^ (a + 1) := by rw [Nat.div_div_eq_div_mul, ← Nat.pow_succ]

theorem digits_step {v n r : Nat} (h : r < n) : (List.replicate (r + 1) (0 : UInt8) ++ (beL v n).drop (r + 1)).set r (UInt8.ofNat (v / 256 ^ (n - 1 - r) % 256)) = List.replicate r 0 ++ (beL v n).drop r := by
  have h2 := beL_get v n r h
  have hl : r < (beL v n).length := by rw [beL_len]; exact h
  rw [List.getElem?_eq_getElem hl] at h2
  have h3 := Option.some.inj h2
  rw [List.replicate_succ', List.append_assoc, List.set_append_right _ _ (by rw [List.length_replicate]; exact Nat.le_refl _), List.length_replicate, Nat.sub_self]
  rw [List.drop_eq_getElem_cons hl, h3]
  rfl

theorem nbz_set (l : List UInt8) (k : Nat) (v : UInt8) : (nums .u8 (nb l)).set k (.int .u8 ((v.toNat : Nat) : Int)) = nums .u8 (nb (l.set k v)) := by
  unfold nums nb
  rw [List.map_set, List.map_set]

set_option maxHeartbeats 2000000 in
set_option maxRecDepth 100000 in
theorem ref_digits (v n : Nat) (w : World) (hv : v < 18446744073709551616) (hn1 : 1 ≤ n) (hn : n ≤ 8) :
    Calls Tryd.prog 20 #[.int .u64 (v : Int), .int .i64 (n : Int)] w fun e w' => e = .returned (.slice (some ⟨w.heap.size, 0, none⟩) n n) ∧ Blk w' w.heap.size 5 (nums .u8 (nb (beL v n))) ∧ Below w.heap.size w w' := by
  obtain ⟨i0, hi, hz0, hz1, hz2⟩ := info_parts infoByte
  have hn1w : IntKind.i64.wrap ((n : Int) - 1) = (n : Int) - 1 := IntWalk.i64_in _ (by omega)
  go_enter Tryd.func20, Tryd.ntmps20
  go_wp2_with (at_make; refine wpList_make_full _ rfl _ _ 26 rfl w.heap.size 5 i0 (.int .u8 0) 1 Tryd.underlying26 hi hz0 hz1 .i64 .i64 _ _ n rfl rfl rfl rfl (by rw [hz2]; omega) (by simp only [maxLen]; omega) (Nat.le_refl _) ?_; intro w1 hown hgr; have G0 := Lib.hid hown; have GR := Lib.hid hgr; clear hown hgr)
  have G1 : Hid (Blk w1 w.heap.size 5 (nums .u8 (nb (List.replicate n (0 : UInt8) ++ (beL v n).drop n)))) := Lib.hid (by
    have h := Blk.of_make G0.out (by omega)
    have e : nums .u8 (nb (List.replicate n (0 : UInt8) ++ (beL v n).drop n)) = List.replicate n (.int .u8 0) := by
      rw [List.drop_of_length_le (by rw [beL_len]; exact Nat.le_refl _), List.append_nil]
      unfold nb
      rw [List.map_replicate]
      exact nums_replicate .u8 n
    rw [e]
    exact h)
  have B1 := Lib.hid ((Below.refl w.heap.size w).grown GR.out (Nat.le_refl _) (fun k hk => by cases hk))
  clear G0 GR
  go_wp2_with fail
  try simp only [Act.put, List.setIfInBounds_toArray, List.set_cons_succ, List.set_cons_zero]
  go_loopw [0, 6] (fun xv iv wr => ∃ (r x : Nat) (i : Int), iv = .int .i64 i ∧ i = (r : Int) - 1 ∧ r ≤ n ∧ xv = .int .u64 (x : Int) ∧ Hid (x = v / 256 ^ (n - r)) ∧ Hid (Blk wr w.heap.size 5 (nums .u8 (nb (List.replicate r (0 : UInt8) ++ (beL v n).drop r)))) ∧ Hid (Below w.heap.size w wr)) (fun _ iv _ => (intOf iv + 1).toNat)
  case atStart => exact ⟨n, v, _, rfl, rfl, Nat.le_refl _, rfl, Lib.hid (by rw [Nat.sub_self, Nat.pow_zero, Nat.div_one]), G1, B1⟩
  case round =>
    obtain ⟨r, x, i, rfl, hi2, hr, rfl, HX, HG, HB⟩ := hrel
    cases r with
    | zero =>
      obtain rfl : i = -1 := by omega
      clear hn1w hi2
      have HE : Hid (Blk wr w.heap.size 5 (nums .u8 (nb (beL v n)))) := Lib.hid (by have := HG.out; simpa using this)
      go_wp2_with fail
      go_ret
      exact ⟨rfl, HE.out, HB.out⟩
    | succ r =>
      obtain rfl : i = (r : Int) := by omega
      have hrn : r < n := by omega
      have hxb : x < 18446744073709551616 := by rw [HX.out]; exact Nat.lt_of_le_of_lt (Nat.div_le_self _ _) hv
      obtain ⟨y, hy⟩ : ∃ y, y = x % 256 := ⟨_, rfl⟩
      obtain ⟨z, hz⟩ : ∃ z, z = x / 256 := ⟨_, rfl⟩
      have e1 : (x : Int) % 256 = (y : Int) := by omega
      have e1t : (x : Int).tmod 256 = (y : Int) := by rw [Int.tmod_eq_emod_of_nonneg (by omega)]; exact e1
      have e2 : (x : Int) / 256 = (z : Int) := by omega
      have e2t : (x : Int).tdiv 256 = (z : Int) := by rw [Int.tdiv_eq_ediv_of_nonneg (by omega)]; exact e2
      have w1' : IntKind.u64.wrap (y : Int) = (y : Int) := IntWalk.u64_in _ (by omega)
      have w2' : IntKind.u64.wrap (z : Int) = (z : Int) := IntWalk.u64_in _ (by omega)
      have w3' : IntKind.u8.wrap (y : Int) = (y : Int) := by
        have e : IntKind.u8.wrap (y : Int) = (y : Int) % 256 := by simp [IntKind.wrap, IntKind.bits, IntKind.signed]
        rw [e]; omega
      have hiw : IntKind.i64.wrap ((r : Int) - 1) = (r : Int) - 1 := IntWalk.i64_in _ (by omega)
      have hc : wr.cell? ⟨w.heap.size, r, none⟩ = some (.int .u8 0) := by
        rw [HG.out.cell]
        unfold nums nb
        rw [List.getElem?_map, List.getElem?_map, List.getElem?_append_left (by rw [List.length_replicate]; omega), List.getElem?_replicate, if_pos (by omega)]
        rfl
      have hf := HG.out.frozen r
      have HZ : Hid (z = v / 256 ^ (n - r)) := Lib.hid (by
        rw [hz, HX.out, pow_div, show n - (r + 1) + 1 = n - r from by omega])
      have HG2 : Hid (Blk (wr.setCell ⟨w.heap.size, r, none⟩ (.int .u8 (y : Int))) w.heap.size 5 (nums .u8 (nb (List.replicate r (0 : UInt8) ++ (beL v n).drop r)))) := Lib.hid (by
        have h := HG.out.set_ r (.int .u8 (y : Int))
        have e := nbz_set (List.replicate (r + 1) (0 : UInt8) ++ (beL v n).drop (r + 1)) r (UInt8.ofNat (v / 256 ^ (n - 1 - r) % 256))
        rw [digits_step hrn, UInt8.toNat_ofNat', Nat.mod_eq_of_lt (by omega), show n - 1 - r = n - (r + 1) from by omega, ← HX.out, ← hy] at e
        rw [e] at h
        exact h)
      have B2 := Lib.hid (HB.out.setCell (p := ⟨w.heap.size, r, none⟩) (Nat.le_refl _) (.int .u8 (y : Int)))
      have hd : decide ((0 : Int) ≤ (r : Int)) = true := decide_eq_true (by omega)
      clear hy hz hn1w hi2
      go_wp2_with fail
      go_roundw
      case rel => exact ⟨r, z, _, by go_num, by omega, by omega, rfl, HZ, HG2, B2⟩
      case measure => simp [intOf]

end Go.Proofs.YtciophpplpmmfaaDoor
