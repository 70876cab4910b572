/- Contracts of the document's value, blank and Open of a sector. The contract of the document's digits. -/
import Derived.Test.YtbekebpkaeefiaaDoorJOpd
import Derived.OwnWalk
namespace Go.Proofs.YtbekebpkaeefiaaDoor
open Go.RowKit

set_option maxHeartbeats 2000000 in
theorem ref_value (l : List UInt8) (w : World) (hl : l.length ≤ 8) :
    Calls Tryd.prog 83 #[.string (bs l)] w fun e w' => e = .returned (.int .u64 ((beV l : Nat) : Int)) ∧ w = w' := by
  have hsz := bs_size l
  go_enter Tryd.func83, Tryd.ntmps83
  go_wp2
  go_loopw [3, 4] (fun nv iv wr => ∃ (j x : Nat), iv = .int .i64 j ∧ j ≤ l.length ∧ nv = .int .u64 x ∧ Hid (x = beV (l.take j)) ∧ w = wr) (fun _ iv _ => l.length - (intOf iv).toNat)
  case atStart => exact ⟨0, 0, rfl, Nat.zero_le _, rfl, Lib.hid rfl, rfl⟩
  case round =>
    obtain ⟨j, x, rfl, hj, rfl, HX, rfl⟩ := hrel
    by_cases hlt : j < l.length
    · have hjs : j < (bs l).size := by rw [bs_size]; exact hlt
      obtain ⟨b, hb⟩ : ∃ b, b = ((bs l)[j]'hjs).toNat := ⟨_, rfl⟩
      have hbi : (((bs l)[j]'hjs).toNat : Int) = (b : Int) := by rw [hb]
      have hb8 : b < 256 := by rw [hb]; exact (bs l)[j].toNat_lt
      have hwb : IntKind.u64.wrap (b : Int) = (b : Int) := IntWalk.u64_in _ (by omega)
      have hxb : x * 256 + 256 ≤ 18446744073709551616 := by
        have h1 := beV_take_lt l j (by omega)
        rw [← HX.out] at h1
        have h2 : (256 : Nat) ^ j ≤ 256 ^ 7 := Nat.pow_le_pow_right (by omega) (by omega)
        have h3 : (256 : Nat) ^ 7 = 72057594037927936 := by decide
        omega
      obtain ⟨y, hy⟩ : ∃ y, y = x * 256 := ⟨_, rfl⟩
      have hyi : IntKind.u64.wrap ((x : Int) * 256) = (y : Int) := by rw [IntWalk.u64_in _ (by omega)]; omega
      obtain ⟨z, hz⟩ : ∃ z, z = y + b := ⟨_, rfl⟩
      have hzi : IntKind.u64.wrap ((y : Int) + (b : Int)) = (z : Int) := by rw [IntWalk.u64_in _ (by omega)]; omega
      have HZ : Hid (z = beV (l.take (j + 1))) := Lib.hid (by rw [beV_take l j hlt, ← HX.out, hz, hy, hb]; rfl)
      have hd : decide ((j : Int) < (l.length : Int)) = true := decide_eq_true (by omega)
      clear hb hy hz hxb
      go_wp2
      go_roundw
      case rel => exact ⟨j + 1, z, by go_num, by omega, rfl, HZ, trivial⟩
      case measure => simp [intOf]; omega
    · have hjm : j = l.length := by omega
      subst hjm
      rw [HX.out, List.take_length]
      go_wp2
      go_ret
      exact ⟨rfl, rfl⟩

set_option maxHeartbeats 2000000 in
theorem ref_blank (l : List UInt8) (w : World) (hl : l.length ≤ 1000) :
    Calls Tryd.prog 82 #[.string (bs l)] w fun e w' => e = .returned (.bool (zeroL l)) ∧ w = w' := by
  have hsz := bs_size l
  go_enter Tryd.func82, Tryd.ntmps82
  go_wp2
  go_loopw [3] (fun iv wr => ∃ (j : Nat), iv = .int .i64 j ∧ j ≤ l.length ∧ Hid (zeroL (l.take j) = true) ∧ w = wr) (fun iv _ => l.length - (intOf iv).toNat)
  case atStart => exact ⟨0, rfl, Nat.zero_le _, Lib.hid rfl, rfl⟩
  case round =>
    obtain ⟨j, rfl, hj, HX, rfl⟩ := hrel
    by_cases hlt : j < l.length
    · have hjs : j < (bs l).size := by rw [bs_size]; exact hlt
      have hd : decide ((j : Int) < (l.length : Int)) = true := decide_eq_true (by omega)
      have HT : Hid (l.take (j + 1) = l.take j ++ [l[j]]) := Lib.hid (List.take_succ_eq_append_getElem hlt)
      by_cases h0 : l[j] = 0
      · have hb : ((((bs l)[j]'hjs).toNat : Int) != 0) = false := by
          have : (bs l)[j]'hjs = 0 := h0
          rw [this]; rfl
        have HZ : Hid (zeroL (l.take (j + 1)) = true) := Lib.hid (by rw [HT.out, zeroL_append, HX.out, h0]; rfl)
        clear h0
        go_wp2
        go_roundw
        case rel => exact ⟨j + 1, by go_num, by omega, HZ, trivial⟩
        case measure => simp [intOf]; omega
      · have hb : ((((bs l)[j]'hjs).toNat : Int) != 0) = true := by
          rw [bne_iff_ne]
          intro e
          apply h0
          have e2 : ((bs l)[j]'hjs).toNat = 0 := by omega
          have e3 : (l[j]).toNat = (0 : UInt8).toNat := e2
          exact UInt8.toNat_inj.1 e3
        have HZ : Hid (zeroL l = false) := Lib.hid (by
          cases hz : zeroL l
          · rfl
          · exact absurd (zeroL_iff.1 hz _ (List.getElem_mem hlt)) h0)
        clear h0
        go_wp2
        go_ret
        exact ⟨ret_bool HZ.out.symm, rfl⟩
    · have hjm : j = l.length := by omega
      subst hjm
      have HZ : Hid (zeroL l = true) := Lib.hid (by have := HX.out; rwa [List.take_length] at this)
      go_wp2
      go_ret
      exact ⟨ret_bool HZ.out.symm, rfl⟩

theorem beV_four (a b c d : UInt8) : beV [a, b, c, d] = ((a.toNat * 256 + b.toNat) * 256 + c.toNat) * 256 + d.toNat := by simp [beV]
theorem leL_beV {x : Nat} (hx : x < 4294967296) (a b c d : UInt8) : ([d, c, b, a] = leL x) ↔ beV [a, b, c, d] = x := by
  rw [beV_four]
  have ha := a.toNat_lt
  have hb := b.toNat_lt
  have hc := c.toNat_lt
  have hd := d.toNat_lt
  constructor
  · intro h
    have h2 : nb [d, c, b, a] = nb (leL x) := by rw [h]
    simp only [nb, leL, List.map_cons, List.map_nil, UInt8.toNat_ofNat', List.cons.injEq] at h2
    omega
  · intro h
    have h2 : nb [d, c, b, a] = nb (leL x) := by
      simp only [nb, leL, List.map_cons, List.map_nil, UInt8.toNat_ofNat']
      have e0 : d.toNat = x % 256 % 2 ^ 8 := by omega
      have e1 : c.toNat = x / 256 % 256 % 2 ^ 8 := by omega
      have e2 : b.toNat = x / 65536 % 256 % 2 ^ 8 := by omega
      have e3 : a.toNat = x / 16777216 % 256 % 2 ^ 8 := by omega
      rw [← e0, ← e1, ← e2, ← e3]
    have back : ∀ l : List UInt8, (nb l).map UInt8.ofNat = l := fun l => by
      unfold nb
      rw [List.map_map]
      conv => rhs; rw [← List.map_id l]
      exact List.map_congr_left fun x _ => UInt8.ofNat_toNat
    have inj : ∀ l m : List UInt8, nb l = nb m → l = m := fun l m h => by rw [← back l, ← back m, h]
    exact inj _ _ h2

/-- Four bytes of a text, turned round. -/
theorem drop_four {l : List UInt8} (hl : l.length = 128) : l.drop 124 = [l[124], l[125], l[126], l[127]] := by
  rw [List.drop_eq_getElem_cons (by omega), List.drop_eq_getElem_cons (by omega), List.drop_eq_getElem_cons (by omega), List.drop_eq_getElem_cons (by omega), List.drop_of_length_le (by omega)]
theorem take_one {l : List UInt8} (hl : 1 ≤ l.length) (h : 0 < l.length) : l.take 1 = [l[0]] := by
  rw [List.take_succ_eq_append_getElem h, List.take_zero]; rfl
theorem beV_take_one {l : List UInt8} (h : 0 < l.length) : beV (l.take 1) = (l[0]).toNat := by rw [take_one h h]; simp [beV]

/-- 'string([]byte{a, b, c, d})'. -/
theorem conv_lit4 (a b c d : UInt8) (W : World) : (convert 107 9 (.slice (some ⟨W.heap.size, 0, none⟩) 4 4)).run Tryd.prog ((W.alloc (.cells #[.int .u8 (a.toNat : Int), .int .u8 (b.toNat : Int), .int .u8 (c.toNat : Int), .int .u8 (d.toNat : Int)] 5)).drew) = .ok (.string (bs [a, b, c, d])) ((W.alloc (.cells #[.int .u8 (a.toNat : Int), .int .u8 (b.toNat : Int), .int .u8 (c.toNat : Int), .int .u8 (d.toNat : Int)] 5)).drew) := by
  have h : Blk (W.alloc (.cells #[.int .u8 (a.toNat : Int), .int .u8 (b.toNat : Int), .int .u8 (c.toNat : Int), .int .u8 (d.toNat : Int)] 5)).drew W.heap.size 5 [.int .u8 (a.toNat : Int), .int .u8 (b.toNat : Int), .int .u8 (c.toNat : Int), .int .u8 (d.toNat : Int)] := heap_alloc_new W _
  have := run_convert_bytes_arg (P := Tryd.prog) (W.alloc (.cells #[.int .u8 (a.toNat : Int), .int .u8 (b.toNat : Int), .int .u8 (c.toNat : Int), .int .u8 (d.toNat : Int)] 5)).drew 107 5 Tryd.underlying107 Tryd.underlying5 W.heap.size 0 4 4 ((nb [a, b, c, d]).map fun x : Nat => (x : Int)) rfl (fun i hi => by
    rw [Nat.zero_add, h.cell]
    match i, hi with
    | 0, _ => rfl
    | 1, _ => rfl
    | 2, _ => rfl
    | 3, _ => rfl) 9 Tryd.underlying9
  rw [str_nb] at this
  exact this

set_option maxHeartbeats 2000000 in
set_option maxRecDepth 100000 in
theorem ref_Open_form (l : List UInt8) (w : World) (hl : l.length ≠ 128) (hl2 : l.length ≤ 9223372036854775807) :
    Calls Tryd.prog 57 #[.string (bs l)] w fun e w' => e = .returned (.tuple #[recZ, .int .i64 4]) ∧ Below w.heap.size w w' := by
  have hsz := bs_size l
  have hne : (((l.length : Int)) != 128) = true := by rw [bne_iff_ne]; omega
  go_enter Tryd.func57, Tryd.ntmps57
  go_wp2
  refine bodyPost_ret (v := .tuple #[recZ, .int .i64 4]) (by simp [results, Tryd.results57, go_sem, recZ]) rfl ⟨rfl, ?_⟩
  exact ((Below.refl _ _).alloc (Nat.le_refl _) _)

set_option maxHeartbeats 2000000 in
set_option maxRecDepth 100000 in
theorem ref_Open_none (l : List UInt8) (w : World) (hl : l.length = 128) (hz : zeroL l = true) :
    Calls Tryd.prog 57 #[.string (bs l)] w fun e w' => e = .returned (.tuple #[recZ, .int .i64 16]) ∧ Below w.heap.size w w' := by
  have hsz := (bs_size l).trans hl
  have HB := Lib.hid (fun W => ref_blank l W (by omega))
  rw [hz] at HB
  go_enter Tryd.func57, Tryd.ntmps57
  go_wp2_with fail
  refine (HB.out _).mono ?_
  rintro e w1 ⟨rfl, rfl⟩
  go_wp2_with fail
  refine bodyPost_ret (v := .tuple #[recZ, .int .i64 16]) (by simp [results, Tryd.results57, go_sem, recZ]) rfl ⟨rfl, ?_⟩
  exact ((Below.refl _ _).alloc (Nat.le_refl _) _)

end Go.Proofs.YtbekebpkaeefiaaDoor

namespace Go.Proofs.YtbekebpkaeefiaaDoor
open Go.RowKit

theorem pow_div (v a : Nat) : v / 256 ^ a / 256 = v / 256 ^ (a + 1) := by rw [Nat.div_div_eq_div_mul, ← Nat.pow_succ]

theorem digits_step {v n r : Nat} (h : r < n) : (List.replicate (r + 1) (0 : UInt8) ++ (beL v n).drop (r + 1)).set r (UInt8.ofNat (v / 256 ^ (n - 1 - r) % 256)) = List.replicate r 0 ++ (beL v n).drop r := by
  have h2 := beL_get v n r h
  have hl : r < (beL v n).length := by rw [beL_len]; exact h
  rw [List.getElem?_eq_getElem hl] at h2
  have h3 := Option.some.inj h2
  rw [List.replicate_succ', List.append_assoc, List.set_append_right _ _ (by rw [List.length_replicate]; exact Nat.le_refl _), List.length_replicate, Nat.sub_self]
  rw [List.drop_eq_getElem_cons hl, h3]
  rfl

theorem nbz_set (l : List UInt8) (k : Nat) (v : UInt8) : (nums .u8 (nb l)).set k (.int .u8 ((v.toNat : Nat) : Int)) = nums .u8 (nb (l.set k v)) := by
  unfold nums nb
  rw [List.map_set, List.map_set]

set_option maxHeartbeats 2000000 in
set_option maxRecDepth 100000 in
theorem ref_digits (v n : Nat) (w : World) (hv : v < 18446744073709551616) (hn1 : 1 ≤ n) (hn : n ≤ 8) :
    Calls Tryd.prog 77 #[.int .u64 (v : Int), .int .i64 (n : Int)] w fun e w' => e = .returned (.slice (some ⟨w.heap.size, 0, none⟩) n n) ∧ Blk w' w.heap.size 5 (nums .u8 (nb (beL v n))) ∧ Below w.heap.size w w' := by
  obtain ⟨i0, hi, hz0, hz1, hz2⟩ := info_parts infoByte
  have hn1w : IntKind.i64.wrap ((n : Int) - 1) = (n : Int) - 1 := IntWalk.i64_in _ (by omega)
  go_enter Tryd.func77, Tryd.ntmps77
  go_wp2_with (at_make; refine wpList_make_full _ rfl _ _ 107 rfl w.heap.size 5 i0 (.int .u8 0) 1 Tryd.underlying107 hi hz0 hz1 .i64 .i64 _ _ n rfl rfl rfl rfl (by rw [hz2]; omega) (by simp only [maxLen]; omega) (Nat.le_refl _) ?_; intro w1 hown hgr; have G0 := Lib.hid hown; have GR := Lib.hid hgr; clear hown hgr)
  have G1 : Hid (Blk w1 w.heap.size 5 (nums .u8 (nb (List.replicate n (0 : UInt8) ++ (beL v n).drop n)))) := Lib.hid (by
    have h := Blk.of_make G0.out (by omega)
    have e : nums .u8 (nb (List.replicate n (0 : UInt8) ++ (beL v n).drop n)) = List.replicate n (.int .u8 0) := by
      rw [List.drop_of_length_le (by rw [beL_len]; exact Nat.le_refl _), List.append_nil]
      unfold nb
      rw [List.map_replicate]
      exact nums_replicate .u8 n
    rw [e]
    exact h)
  have B1 := Lib.hid ((Below.refl w.heap.size w).grown GR.out (Nat.le_refl _) (fun k hk => by cases hk))
  clear G0 GR
  go_wp2_with fail
  try simp only [Act.put, List.setIfInBounds_toArray, List.set_cons_succ, List.set_cons_zero]
  go_loopw [0, 6] (fun xv iv wr => ∃ (r x : Nat) (i : Int), iv = .int .i64 i ∧ i = (r : Int) - 1 ∧ r ≤ n ∧ xv = .int .u64 (x : Int) ∧ Hid (x = v / 256 ^ (n - r)) ∧ Hid (Blk wr w.heap.size 5 (nums .u8 (nb (List.replicate r (0 : UInt8) ++ (beL v n).drop r)))) ∧ Hid (Below w.heap.size w wr)) (fun _ iv _ => (intOf iv + 1).toNat)
  case atStart => exact ⟨n, v, _, rfl, rfl, Nat.le_refl _, rfl, Lib.hid (by rw [Nat.sub_self, Nat.pow_zero, Nat.div_one]), G1, B1⟩
  case round =>
    obtain ⟨r, x, i, rfl, hi2, hr, rfl, HX, HG, HB⟩ := hrel
    cases r with
    | zero =>
      obtain rfl : i = -1 := by omega
      clear hn1w hi2
      have HE : Hid (Blk wr w.heap.size 5 (nums .u8 (nb (beL v n)))) := Lib.hid (by have := HG.out; simpa using this)
      go_wp2_with fail
      go_ret
      exact ⟨rfl, HE.out, HB.out⟩
    | succ r =>
      obtain rfl : i = (r : Int) := by omega
      have hrn : r < n := by omega
      have hxb : x < 18446744073709551616 := by rw [HX.out]; exact Nat.lt_of_le_of_lt (Nat.div_le_self _ _) hv
      obtain ⟨y, hy⟩ : ∃ y, y = x % 256 := ⟨_, rfl⟩
      obtain ⟨z, hz⟩ : ∃ z, z = x / 256 := ⟨_, rfl⟩
      have e1 : (x : Int) % 256 = (y : Int) := by omega
      have e1t : (x : Int).tmod 256 = (y : Int) := by rw [Int.tmod_eq_emod_of_nonneg (by omega)]; exact e1
      have e2 : (x : Int) / 256 = (z : Int) := by omega
      have e2t : (x : Int).tdiv 256 = (z : Int) := by rw [Int.tdiv_eq_ediv_of_nonneg (by omega)]; exact e2
      have w1' : IntKind.u64.wrap (y : Int) = (y : Int) := IntWalk.u64_in _ (by omega)
      have w2' : IntKind.u64.wrap (z : Int) = (z : Int) := IntWalk.u64_in _ (by omega)
      have w3' : IntKind.u8.wrap (y : Int) = (y : Int) := by
        have e : IntKind.u8.wrap (y : Int) = (y : Int) % 256 := by simp [IntKind.wrap, IntKind.bits, IntKind.signed]
        rw [e]; omega
      have hiw : IntKind.i64.wrap ((r : Int) - 1) = (r : Int) - 1 := IntWalk.i64_in _ (by omega)
      have hc : wr.cell? ⟨w.heap.size, r, none⟩ = some (.int .u8 0) := by
        rw [HG.out.cell]
        unfold nums nb
        rw [List.getElem?_map, List.getElem?_map, List.getElem?_append_left (by rw [List.length_replicate]; omega), List.getElem?_replicate, if_pos (by omega)]
        rfl
      have hf := HG.out.frozen r
      have HZ : Hid (z = v / 256 ^ (n - r)) := Lib.hid (by
        rw [hz, HX.out, pow_div, show n - (r + 1) + 1 = n - r from by omega])
      have HG2 : Hid (Blk (wr.setCell ⟨w.heap.size, r, none⟩ (.int .u8 (y : Int))) w.heap.size 5 (nums .u8 (nb (List.replicate r (0 : UInt8) ++ (beL v n).drop r)))) := Lib.hid (by
        have h := HG.out.set_ r (.int .u8 (y : Int))
        have e := nbz_set (List.replicate (r + 1) (0 : UInt8) ++ (beL v n).drop (r + 1)) r (UInt8.ofNat (v / 256 ^ (n - 1 - r) % 256))
        rw [digits_step hrn, UInt8.toNat_ofNat', Nat.mod_eq_of_lt (by omega), show n - 1 - r = n - (r + 1) from by omega, ← HX.out, ← hy] at e
        rw [e] at h
        exact h)
      have B2 := Lib.hid (HB.out.setCell (p := ⟨w.heap.size, r, none⟩) (Nat.le_refl _) (.int .u8 (y : Int)))
      have hd : decide ((0 : Int) ≤ (r : Int)) = true := decide_eq_true (by omega)
      clear hy hz hn1w hi2
      go_wp2_with fail
      go_roundw
      case rel => exact ⟨r, z, _, by go_num, by omega, by omega, rfl, HZ, HG2, B2⟩
      case measure => simp [intOf]

end Go.Proofs.YtbekebpkaeefiaaDoor
