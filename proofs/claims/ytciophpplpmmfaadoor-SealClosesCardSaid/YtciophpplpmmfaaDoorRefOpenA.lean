/- Contracts of the document's value, blank and Open of a sector. -/
import Derived.Test.YtciophpplpmmfaaDoorOpenD
namespace Go.Proofs.YtciophpplpmmfaaDoor
open Go.RowKit

set_option maxHeartbeats 2000000 in
theorem ref_value (l : List UInt8) (w : World) (hl : l.length ≤ 8) :
    Calls Tryd.prog 18 #[.string (bs l)] w fun e w' => e = .returned (.int .u64 ((beV l : Nat) : Int)) ∧ w = w' := by
  have hsz := bs_size l
  go_enter Tryd.func18, Tryd.ntmps18
  go_wp2
  go_loopw [3, 4] (fun nv iv wr => ∃ (j x : Nat), iv = .int .i64 j ∧ j ≤ l.length ∧ nv = .int .u64 x ∧ Hid (x = beV (l.take j)) ∧ w = wr) (fun _ iv _ => l.length - (intOf iv).toNat)
  case atStart => exact ⟨0, 0, rfl, Nat.zero_le _, rfl, Lib.hid rfl, rfl⟩
  case round =>
    obtain ⟨j, x, rfl, hj, rfl, HX, rfl⟩ := hrel
    by_cases hlt : j < l.length
    · have hjs : j < (bs l).size := by rw [bs_size]; exact hlt
      obtain ⟨b, hb⟩ : ∃ b, b = ((bs l)[j]'hjs).toNat := ⟨_, rfl⟩
      have hbi : (((bs l)[j]'hjs).toNat : Int) = (b : Int) := by rw [hb]
      have hb8 : b < 256 := by rw [hb]; exact (bs l)[j].toNat_lt
      have hwb : IntKind.u64.wrap (b : Int) = (b : Int) := IntWalk.u64_in _ (by omega)
      have hxb : x * 256 + 256 ≤ 18446744073709551616 := by
        have h1 := beV_take_lt l j (by omega)
        rw [← HX.out] at h1
        have h2 : (256 : Nat) ^ j ≤ 256 ^ 7 := Nat.pow_le_pow_right (by omega) (by omega)
        have h3 : (256 : Nat) ^ 7 = 72057594037927936 := by decide
        omega
      obtain ⟨y, hy⟩ : ∃ y, y = x * 256 := ⟨_, rfl⟩
      have hyi : IntKind.u64.wrap ((x : Int) * 256) = (y : Int) := by rw [IntWalk.u64_in _ (by omega)]; omega
      obtain ⟨z, hz⟩ : ∃ z, z = y + b := ⟨_, rfl⟩
      have hzi : IntKind.u64.wrap ((y : Int) + (b : Int)) = (z : Int) := by rw [IntWalk.u64_in _ (by omega)]; omega
      have HZ : Hid (z = beV (l.take (j + 1))) := Lib.hid (by rw [beV_take l j hlt, ← HX.out, hz, hy, hb]; rfl)
      have hd : decide ((j : Int) < (l.length : Int)) = true := decide_eq_true (by omega)
      clear hb hy hz hxb
      go_wp2
      go_roundw
      case rel => exact ⟨j + 1, z, by go_num, by omega, rfl, HZ, trivial⟩
      case measure => simp [intOf]; omega
    · have hjm : j = l.length := by omega
      subst hjm
      rw [HX.out, List.take_length]
      go_wp2
      go_ret
      exact ⟨rfl, rfl⟩

set_option maxHeartbeats 2000000 in
theorem ref_blank (l : List UInt8) (w : World) (hl : l.length ≤ 1000) :
    Calls Tryd.prog 17 #[.string (bs l)] w fun e w' => e = .returned (.bool (zeroL l)) ∧ w = w' := by
  have hsz := bs_size l
  go_enter Tryd.func17, Tryd.ntmps17
  go_wp2
  go_loopw [3] (fun iv wr => ∃ (j : Nat), iv = .int .i64 j ∧ j ≤ l.length ∧ Hid (zeroL (l.take j) = true) ∧ w = wr) (fun iv _ => l.length - (intOf iv).toNat)
  case atStart => exact ⟨0, rfl, Nat.zero_le _, Lib.hid rfl, rfl⟩
  case round =>
    obtain ⟨j, rfl, hj, HX, rfl⟩ := hrel
    by_cases hlt : j < l.length
    · have hjs : j < (bs l).size := by rw [bs_size]; exact hlt
      have hd : decide ((j : Int) < (l.length : Int)) = true := decide_eq_true (by omega)
      have HT : Hid (l.take (j + 1) = l.take j ++ [l[j]]) := Lib.hid (List.take_succ_eq_append_getElem hlt)
      by_cases h0 : l[j] = 0
      · have hb : ((((bs l)[j]'hjs).toNat : Int) != 0) = false := by
          have : (bs l)[j]'hjs = 0 := h0
          rw [this]; rfl
        have HZ : Hid (zeroL (l.take (j + 1)) = true) := Lib.hid (by rw [HT.out, zeroL_append, HX.out, h0]; rfl)
        clear h0
        go_wp2
        go_roundw
        case rel => exact ⟨j + 1, by go_num, by omega, HZ, trivial⟩
        case measure => simp [intOf]; omega
      · have hb : ((((bs l)[j]'hjs).toNat : Int) != 0) = true := by
          rw [bne_iff_ne]
          intro e
          apply h0
          have e2 : ((bs l)[j]'hjs).toNat = 0 := by omega
          have e3 : (l[j]).toNat = (0 : UInt8).toNat := e2
          exact UInt8.toNat_inj.1 e3
        have HZ : Hid (zeroL l = false) := Lib.hid (by
          cases hz : zeroL l
          · rfl
          · exact absurd (zeroL_iff.1 hz _ (List.getElem_mem hlt)) h0)
        clear h0
        go_wp2
        go_ret
        exact ⟨ret_bool HZ.out.symm, rfl⟩
    · have hjm : j = l.length := by omega
      subst hjm
      have HZ : Hid (zeroL l = true) := Lib.hid (by have := HX.out; rwa [List.take_length] at this)
      go_wp2
      go_ret
      exact ⟨ret_bool HZ.out.symm, rfl⟩

theorem beV_four (a b c d : UInt8) : beV [a, b, c, d] = ((a.toNat * 256 + b.toNat) * 256 + c.toNat) * 256 + d.toNat := by simp [beV]
theorem leL_beV {x : Nat} (hx : x < 4294967296) (a b c d : UInt8) : ([d, c, b, a] = leL x) ↔ beV [a, b, c, d] = x := by
  rw [beV_four]
  have ha := a.toNat_lt
  have hb := b.toNat_lt
  have hc := c.toNat_lt
  have hd := d.toNat_lt
  constructor
  · intro h
    have h2 : nb [d, c, b, a] = nb (leL x) := by rw [h]
    simp only [nb, leL, List.map_cons, List.map_nil, UInt8.toNat_ofNat', List.cons.injEq] at h2
    omega
  · intro h
    have h2 : nb [d, c, b, a] = nb (leL x) := by
      simp only [nb, leL, List.map_cons, List.map_nil, UInt8.toNat_ofNat']
      have e0 : d.toNat = x % 256 % 2 ^ 8 := by omega
      have e1 : c.toNat = x / 256 % 256 % 2 ^ 8 := by omega
      have e2 : b.toNat = x / 65536 % 256 % 2 ^ 8 := by omega
      have e3 : a.toNat = x / 16777216 % 256 % 2 ^ 8 := by omega
      rw [← e0, ← e1, ← e2, ← e3]
    have back : ∀ l : List UInt8, (nb l).map UInt8.ofNat = l := fun l => by
      unfold nb
      rw [List.map_map]
      conv => rhs; rw [← List.map_id l]
      exact List.map_congr_left fun x _ => UInt8.ofNat_toNat
    have inj : ∀ l m : List UInt8, nb l = nb m → l = m := fun l m h => by rw [← back l, ← back m, h]
    exact inj _ _ h2

/-- Four bytes of a text, turned round. -/
theorem drop_four {l : List UInt8} (hl : l.length = 128) : l.drop 124 = [l[124], l[125], l[126], l[127]] := by
  rw [List.drop_eq_getElem_cons (by omega), List.drop_eq_getElem_cons (by omega), List.drop_eq_getElem_cons (by omega), List.drop_eq_getElem_cons (by omega), List.drop_of_length_le (by omega)]
theorem take_one {l : List UInt8} (hl : 1 ≤ l.length) (h : 0 < l.length) : l.take 1 = [l[0]] := by
  rw [List.take_succ_eq_append_getElem h, List.take_zero]; rfl
theorem beV_take_one {l : List UInt8} (h : 0 < l.length) : beV (l.take 1) = (l[0]).toNat := by rw [take_one h h]; simp [beV]

/-- 'string([]byte{a, b, c, d})'. -/
theorem conv_lit4 (a b c d : UInt8) (W : World) : (convert 26 9 (.slice (some ⟨W.heap.size, 0, none⟩) 4 4)).run Tryd.prog ((W.alloc (.cells #[.int .u8 (a.toNat : Int), .int .u8 (b.toNat : Int), .int .u8 (c.toNat : Int), .int .u8 (d.toNat : Int)] 5)).drew) = .ok (.string (bs [a, b, c, d])) ((W.alloc (.cells #[.int .u8 (a.toNat : Int), .int .u8 (b.toNat : Int), .int .u8 (c.toNat : Int), .int .u8 (d.toNat : Int)] 5)).drew) := by
  have h : Blk (W.alloc (.cells #[.int .u8 (a.toNat : Int), .int .u8 (b.toNat : Int), .int .u8 (c.toNat : Int), .int .u8 (d.toNat : Int)] 5)).drew W.heap.size 5 [.int .u8 (a.toNat : Int), .int .u8 (b.toNat : Int), .int .u8 (c.toNat : Int), .int .u8 (d.toNat : Int)] := heap_alloc_new W _
  have := run_convert_bytes_arg (P := Tryd.prog) (W.alloc (.cells #[.int .u8 (a.toNat : Int), .int .u8 (b.toNat : Int), .int .u8 (c.toNat : Int), .int .u8 (d.toNat : Int)] 5)).drew 26 5 Tryd.underlying26 Tryd.underlying5 W.heap.size 0 4 4 ((nb [a, b, c, d]).map fun x : Nat => (x : Int)) rfl (fun i hi => by
    rw [Nat.zero_add, h.cell]
    match i, hi with
    | 0, _ => rfl
    | 1, _ => rfl
    | 2, _ => rfl
    | 3, _ => rfl) 9 Tryd.underlying9
  rw [str_nb] at this
  exact this

set_option maxHeartbeats 2000000 in
set_option maxRecDepth 100000 in
theorem ref_Open_form (l : List UInt8) (w : World) (hl : l.length ≠ 128) (hl2 : l.length ≤ 9223372036854775807) :
    Calls Tryd.prog 9 #[.string (bs l)] w fun e w' => e = .returned (.tuple #[recZ, .int .i64 4]) ∧ Below w.heap.size w w' := by
  have hsz := bs_size l
  have hne : (((l.length : Int)) != 128) = true := by rw [bne_iff_ne]; omega
  go_enter Tryd.func9, Tryd.ntmps9
  go_wp2
  refine bodyPost_ret (v := .tuple #[recZ, .int .i64 4]) (by simp [results, Tryd.results9, go_sem, recZ]) rfl ⟨rfl, ?_⟩
  exact ((Below.refl _ _).alloc (Nat.le_refl _) _)

set_option maxHeartbeats 2000000 in
set_option maxRecDepth 100000 in
theorem ref_Open_none (l : List UInt8) (w : World) (hl : l.length = 128) (hz : zeroL l = true) :
    Calls Tryd.prog 9 #[.string (bs l)] w fun e w' => e = .returned (.tuple #[recZ, .int .i64 16]) ∧ Below w.heap.size w w' := by
  have hsz := (bs_size l).trans hl
  have HB := Lib.hid (fun W => ref_blank l W (by omega))
  rw [hz] at HB
  go_enter Tryd.func9, Tryd.ntmps9
  go_wp2_with fail
  refine (HB.out _).mono ?_
  rintro e w1 ⟨rfl, rfl⟩
  go_wp2_with fail
  refine bodyPost_ret (v := .tuple #[recZ, .int .i64 16]) (by simp [results, Tryd.results9, go_sem, recZ]) rfl ⟨rfl, ?_⟩
  exact ((Below.refl _ _).alloc (Nat.le_refl _) _)

end Go.Proofs.YtciophpplpmmfaaDoor
