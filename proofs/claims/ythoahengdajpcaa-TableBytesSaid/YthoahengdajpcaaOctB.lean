/- Contracts of octet's Take, and of the document's Put and Take. -/
import Derived.Test.YthoahengdajpcaaOctA
namespace Go.Proofs.Ythoahengdajpcaa
open Go.RowKit

theorem oct_Take_no (l : List UInt8) (n : Int) (w : World) (h : n < 1 ∨ 8 < n) :
    Calls Try.prog 29 #[.string (bs l), .int .i64 n] w fun e w' => e = .returned (.tuple #[.int .u64 0, .string (bs []), .int .i64 5]) ∧ Below w.heap.size w w' := by
  have H := Lib.hid (fun W => oct_wide_no n W h)
  clear h
  go_enter Try.func29, Try.ntmps29
  go_wp2_with (go_at_call 36; refine (H.out _).mono ?_; rintro e w1 ⟨rfl, rfl⟩)
  refine bodyPost_ret (v := .tuple #[.int .u64 0, .string (bs []), .int .i64 5]) (by simp [results, Try.results29, go_sem, bs_nil]) rfl ⟨rfl, ?_⟩
  exact Below.refl _ _

theorem oct_Take_short (l : List UInt8) (n : Nat) (w : World) (h1 : 1 ≤ n) (h8 : n ≤ 8) (h : l.length < n) :
    Calls Try.prog 29 #[.string (bs l), .int .i64 (n : Int)] w fun e w' => e = .returned (.tuple #[.int .u64 0, .string (bs []), .int .i64 10]) ∧ Below w.heap.size w w' := by
  have H := Lib.hid (fun W => oct_wide_yes (n : Int) W (by omega) (by omega))
  have hsz := bs_size l
  have hd : decide ((l.length : Int) < (n : Int)) = true := decide_eq_true (by omega)
  go_enter Try.func29, Try.ntmps29
  go_wp2_with (go_at_call 36; refine (H.out _).mono ?_; rintro e w1 ⟨rfl, rfl⟩)
  refine bodyPost_ret (v := .tuple #[.int .u64 0, .string (bs []), .int .i64 10]) (by simp [results, Try.results29, go_sem, bs_nil]) rfl ⟨rfl, ?_⟩
  exact Below.refl _ _

set_option maxHeartbeats 4000000 in
theorem oct_Take_ok (l : List UInt8) (n : Nat) (w : World) (h1 : 1 ≤ n) (h8 : n ≤ 8) (h : n ≤ l.length) (hl : l.length ≤ 281474976710656) :
    Calls Try.prog 29 #[.string (bs l), .int .i64 (n : Int)] w fun e w' => e = .returned (.tuple #[.int .u64 ((beV (l.take n) : Nat) : Int), .string (bs (l.drop n)), .int .i64 0]) ∧ Below w.heap.size w w' := by
  have H := Lib.hid (fun W => oct_wide_yes (n : Int) W (by omega) (by omega))
  have HC := Lib.hid (fun W => oct_Clone (bs (l.drop n)) W (by rw [bs_size, List.length_drop]; omega))
  have hsz := bs_size l
  have HE : Hid ((bs l).extract n l.length = bs (l.drop n)) := Lib.hid (by rw [bs_extract, List.take_of_length_le (by rw [List.length_drop]; exact Nat.le_refl _)])
  have hd : decide ((l.length : Int) < (n : Int)) = false := decide_eq_false (by omega)
  go_enter Try.func29, Try.ntmps29
  go_wp2_with (go_at_call 36; refine (H.out _).mono ?_; rintro e w1 ⟨rfl, rfl⟩)
  clear hd
  go_loopw [7, 19] (fun nv iv wr => ∃ (j x : Nat), iv = .int .i64 j ∧ j ≤ n ∧ nv = .int .u64 x ∧ Hid (x = beV (l.take j)) ∧ w = wr) (fun _ iv _ => n - (intOf iv).toNat)
  case atStart => exact ⟨0, 0, rfl, Nat.zero_le _, rfl, Lib.hid rfl, rfl⟩
  case round =>
    obtain ⟨j, x, rfl, hj, rfl, HX, rfl⟩ := hrel
    by_cases hlt : j < n
    · have hjl : j < l.length := by omega
      have hjs : j < (bs l).size := by rw [bs_size]; exact hjl
      obtain ⟨b, hb⟩ : ∃ b, b = ((bs l)[j]'hjs).toNat := ⟨_, rfl⟩
      have hbi : (((bs l)[j]'hjs).toNat : Int) = (b : Int) := by rw [hb]
      have hb8 : b < 256 := by rw [hb]; exact (bs l)[j].toNat_lt
      have hwb : IntKind.u64.wrap (b : Int) = (b : Int) := IntWalk.u64_in _ (by omega)
      have hxb : x * 256 < 18446744073709551616 := by
        have h1 := beV_take_lt l j (by omega)
        rw [← HX.out] at h1
        have h2 : (256 : Nat) ^ j ≤ 256 ^ 7 := Nat.pow_le_pow_right (by omega) (by omega)
        have h3 : (256 : Nat) ^ 7 = 72057594037927936 := by decide
        omega
      obtain ⟨y, hy⟩ : ∃ y, y = x * 256 := ⟨_, rfl⟩
      have hyi : IntKind.u64.wrap ((x : Int) * 256) = (y : Int) := by rw [IntWalk.u64_in _ (by omega)]; omega
      obtain ⟨z, hz⟩ : ∃ z, z = y + b := ⟨_, rfl⟩
      have hor : bits BinOp.or IntKind.u64 (y : Int) (b : Int) = (z : Int) := by
        have h := Nat.two_pow_add_eq_or_of_lt (i := 8) (b := b) hb8 x
        rw [bits_or_u64_nat y b (by omega) (by omega), hz, hy, Nat.mul_comm x 256]
        have e : (2 : Nat) ^ 8 = 256 := by decide
        rw [e] at h
        rw [h]
      have HZ : Hid (z = beV (l.take (j + 1))) := Lib.hid (by rw [beV_take l j hjl, ← HX.out, hz, hy, hb]; rfl)
      have hdec : decide ((j : Int) < (n : Int)) = true := decide_eq_true (by omega)
      clear hb hy hz hxb hjl
      go_wp2_with fail
      go_roundw
      case rel => exact ⟨j + 1, z, by go_num, by omega, rfl, HZ, trivial⟩
      case measure => simp [intOf]; omega
    · have hjm : j = n := by omega
      subst hjm
      have hdec : decide ((j : Int) < (j : Int)) = false := decide_eq_false (by omega)
      rw [HX.out]
      obtain ⟨V, hV⟩ : ∃ V, V = beV (l.take j) := ⟨_, rfl⟩
      rw [← hV]
      have HVV := Lib.hid hV
      clear hV HX
      have he := HE.out
      go_wp2_with (go_at_call 37; refine (HC.out _).mono ?_; rintro e w1 ⟨rfl, hb1⟩)
      refine bodyPost_ret (v := .tuple #[.int .u64 (V : Int), .string (bs (l.drop j)), .int .i64 0]) (by simp [results, Try.results29, go_sem]) rfl ⟨by rw [HVV.out], ?_⟩
      exact hb1

theorem octr_Put_no (v n : Int) (w : World) (h : n < 1 ∨ 8 < n) :
    Calls Try.prog 26 #[.int .u64 v, .int .i64 n] w fun e w' => e = .returned (.tuple #[.string (bs []), .int .i64 5]) ∧ Below w.heap.size w w' := by
  rcases h with h | h
  · have h1 : decide (n < (1 : Int)) = true := decide_eq_true h
    go_enter Try.func26, Try.ntmps26
    go_wp2
    go_ret2
    exact ⟨rfl, Below.refl _ _⟩
  · have h1 : decide (n < (1 : Int)) = false := decide_eq_false (by omega)
    have h2 : decide ((8 : Int) < n) = true := decide_eq_true h
    go_enter Try.func26, Try.ntmps26
    go_wp2
    go_ret2
    exact ⟨rfl, Below.refl _ _⟩

theorem oct_pow_div (v a : Nat) : v / 256 ^ a / 256 = v / 256 ^ (a + 1) := by rw [Nat.div_div_eq_div_mul, ← Nat.pow_succ]
theorem oct_down {v n r : Nat} (h : r < n) : (List.replicate (r + 1) (0 : UInt8) ++ (beL v n).drop (r + 1)).set r (UInt8.ofNat (v / 256 ^ (n - 1 - r) % 256)) = List.replicate r 0 ++ (beL v n).drop r := by
  have h2 := beL_get v n r h
  have hl : r < (beL v n).length := by rw [beL_len]; exact h
  rw [List.getElem?_eq_getElem hl] at h2
  have h3 := Option.some.inj h2
  rw [List.replicate_succ', List.append_assoc, List.set_append_right _ _ (by rw [List.length_replicate]; exact Nat.le_refl _), List.length_replicate, Nat.sub_self]
  rw [List.drop_eq_getElem_cons hl, h3]
  rfl

/-- What the document's Put answers for n bytes from 1 to 8. -/
def putB (v n : Nat) : List UInt8 := if v < 256 ^ n then beL v n else []
def putE (v n : Nat) : Int := if v < 256 ^ n then 0 else 5

set_option maxHeartbeats 4000000 in
set_option maxRecDepth 100000 in
theorem octr_Put (v n : Nat) (w : World) (hn1 : 1 ≤ n) (hn : n ≤ 8) (hv : v < 18446744073709551616) :
    Calls Try.prog 26 #[.int .u64 (v : Int), .int .i64 (n : Int)] w fun e w' => e = .returned (.tuple #[.string (bs (putB v n)), .int .i64 (putE v n)]) ∧ Below w.heap.size w w' := by
  obtain ⟨i0, hi, hz0, hz1, hz2⟩ := info_parts infoByte
  have hn1w : IntKind.i64.wrap ((n : Int) - 1) = (n : Int) - 1 := IntWalk.i64_in _ (by omega)
  have h1 : decide ((n : Int) < (1 : Int)) = false := decide_eq_false (by omega)
  have h2 : decide ((8 : Int) < (n : Int)) = false := decide_eq_false (by omega)
  go_enter Try.func26, Try.ntmps26
  go_wp2_with (at_make; refine wpList_make_full _ rfl _ _ 60 rfl w.heap.size 5 i0 (.int .u8 0) 1 Try.underlying60 hi hz0 hz1 .i64 .i64 _ _ n rfl rfl rfl rfl (by rw [hz2]; omega) (by simp only [maxLen]; omega) (Nat.le_refl _) ?_; intro w1 hown hgr; have G0 := Lib.hid hown; have GR := Lib.hid hgr; clear hown hgr)
  have G1 : Hid (Blk w1 w.heap.size 5 (nums .u8 (nb (List.replicate n (0 : UInt8) ++ (beL v n).drop n)))) := Lib.hid (by
    rw [List.drop_of_length_le (by rw [beL_len]; exact Nat.le_refl _), List.append_nil, oct_nums_rep]
    exact Blk.of_make G0.out (by omega))
  have B1 := Lib.hid ((Below.refl w.heap.size w).grown GR.out (Nat.le_refl _) (fun k hk => by cases hk))
  clear G0 GR h1 h2
  go_wp2_with fail
  try simp only [Act.put, List.setIfInBounds_toArray, List.set_cons_succ, List.set_cons_zero]
  go_loopw [0, 7] (fun xv iv wr => ∃ (r x : Nat) (i : Int), iv = .int .i64 i ∧ i = (r : Int) - 1 ∧ r ≤ n ∧ xv = .int .u64 (x : Int) ∧ Hid (x = v / 256 ^ (n - r)) ∧ Hid (Blk wr w.heap.size 5 (nums .u8 (nb (List.replicate r (0 : UInt8) ++ (beL v n).drop r)))) ∧ Hid (Below w.heap.size w wr)) (fun _ iv _ => (intOf iv + 1).toNat)
  case atStart => exact ⟨n, v, _, rfl, rfl, Nat.le_refl _, rfl, Lib.hid (by rw [Nat.sub_self, Nat.pow_zero, Nat.div_one]), G1, B1⟩
  case round =>
    obtain ⟨r, x, i, rfl, hi2, hr, rfl, HX, HG, HB⟩ := hrel
    cases r with
    | zero =>
      obtain rfl : i = -1 := by omega
      clear hn1w hi2
      have HE : Hid (Blk wr w.heap.size 5 (nums .u8 (nb (beL v n)))) := Lib.hid (by have := HG.out; simpa using this)
      have hcv := oct_conv HE.out (beL_len v n)
      have HX0 : Hid (x = 0 ↔ v < 256 ^ n) := Lib.hid (by rw [HX.out, Nat.sub_zero, oct_fits])
      by_cases hx : x = 0
      · subst hx
        have HP : Hid (putB v n = beL v n ∧ putE v n = 0) := Lib.hid (by
          have h := HX0.out.1 rfl
          unfold putB putE
          rw [if_pos h, if_pos h]; exact ⟨rfl, rfl⟩)
        go_wp2_with fail
        go_ret2
        exact ⟨by rw [HP.out.1, HP.out.2]; rfl, HB.out⟩
      · have HP : Hid (putB v n = [] ∧ putE v n = 5) := Lib.hid (by
          have h : ¬ v < 256 ^ n := fun h => hx (HX0.out.2 h)
          unfold putB putE
          rw [if_neg h, if_neg h]; exact ⟨rfl, rfl⟩)
        have hd : decide (0 < x) = true := decide_eq_true (by omega)
        clear hx hcv
        go_wp2_with fail
        go_ret2
        exact ⟨by rw [HP.out.1, HP.out.2]; rfl, HB.out⟩
    | succ r =>
      obtain rfl : i = (r : Int) := by omega
      have hrn : r < n := by omega
      have hxb : x < 18446744073709551616 := by rw [HX.out]; exact Nat.lt_of_le_of_lt (Nat.div_le_self _ _) hv
      obtain ⟨y, hy⟩ : ∃ y, y = x % 256 := ⟨_, rfl⟩
      obtain ⟨z, hz⟩ : ∃ z, z = x / 256 := ⟨_, rfl⟩
      have e1 : (x : Int) % 256 = (y : Int) := by omega
      have e1t : (x : Int).tmod 256 = (y : Int) := by rw [Int.tmod_eq_emod_of_nonneg (by omega)]; exact e1
      have e2 : (x : Int) / 256 = (z : Int) := by omega
      have e2t : (x : Int).tdiv 256 = (z : Int) := by rw [Int.tdiv_eq_ediv_of_nonneg (by omega)]; exact e2
      have w1' : IntKind.u64.wrap (y : Int) = (y : Int) := IntWalk.u64_in _ (by omega)
      have w2' : IntKind.u64.wrap (z : Int) = (z : Int) := IntWalk.u64_in _ (by omega)
      have w3' : IntKind.u8.wrap (y : Int) = (y : Int) := by rw [oct_u8]; omega
      have hiw : IntKind.i64.wrap ((r : Int) - 1) = (r : Int) - 1 := IntWalk.i64_in _ (by omega)
      have hc : wr.cell? ⟨w.heap.size, r, none⟩ = some (.int .u8 0) := by
        rw [HG.out.cell]
        unfold nums nb
        rw [List.getElem?_map, List.getElem?_map, List.getElem?_append_left (by rw [List.length_replicate]; omega), List.getElem?_replicate, if_pos (by omega)]
        rfl
      have hf := HG.out.frozen r
      have HZ : Hid (z = v / 256 ^ (n - r)) := Lib.hid (by
        rw [hz, HX.out, oct_pow_div, show n - (r + 1) + 1 = n - r from by omega])
      have HG2 : Hid (Blk (wr.setCell ⟨w.heap.size, r, none⟩ (.int .u8 (y : Int))) w.heap.size 5 (nums .u8 (nb (List.replicate r (0 : UInt8) ++ (beL v n).drop r)))) := Lib.hid (by
        have h := HG.out.set_ r (.int .u8 (y : Int))
        have e := oct_nums_set (List.replicate (r + 1) (0 : UInt8) ++ (beL v n).drop (r + 1)) r (UInt8.ofNat (v / 256 ^ (n - 1 - r) % 256))
        rw [oct_down hrn, UInt8.toNat_ofNat', Nat.mod_eq_of_lt (by omega), show n - 1 - r = n - (r + 1) from by omega, ← HX.out, ← hy] at e
        rw [e] at h
        exact h)
      have B2 := Lib.hid (HB.out.setCell (p := ⟨w.heap.size, r, none⟩) (Nat.le_refl _) (.int .u8 (y : Int)))
      have hd : decide ((0 : Int) ≤ (r : Int)) = true := decide_eq_true (by omega)
      clear hy hz hn1w hi2
      go_wp2_with fail
      go_roundw
      case rel => exact ⟨r, z, _, by go_num, by omega, by omega, rfl, HZ, HG2, B2⟩
      case measure => simp [intOf]

theorem octr_Take_no (l : List UInt8) (n : Int) (w : World) (h : n < 1 ∨ 8 < n) :
    Calls Try.prog 32 #[.string (bs l), .int .i64 n] w fun e w' => e = .returned (.tuple #[.int .u64 0, .string (bs []), .int .i64 5]) ∧ Below w.heap.size w w' := by
  rcases h with h | h
  · have h1 : decide (n < (1 : Int)) = true := decide_eq_true h
    go_enter Try.func32, Try.ntmps32
    go_wp2
    refine bodyPost_ret (v := .tuple #[.int .u64 0, .string (bs []), .int .i64 5]) (by simp [results, Try.results32, go_sem, bs_nil]) rfl ⟨rfl, ?_⟩
    exact Below.refl _ _
  · have h1 : decide (n < (1 : Int)) = false := decide_eq_false (by omega)
    have h2 : decide ((8 : Int) < n) = true := decide_eq_true h
    go_enter Try.func32, Try.ntmps32
    go_wp2
    refine bodyPost_ret (v := .tuple #[.int .u64 0, .string (bs []), .int .i64 5]) (by simp [results, Try.results32, go_sem, bs_nil]) rfl ⟨rfl, ?_⟩
    exact Below.refl _ _

theorem octr_Take_short (l : List UInt8) (n : Nat) (w : World) (h1 : 1 ≤ n) (h8 : n ≤ 8) (h : l.length < n) :
    Calls Try.prog 32 #[.string (bs l), .int .i64 (n : Int)] w fun e w' => e = .returned (.tuple #[.int .u64 0, .string (bs []), .int .i64 10]) ∧ Below w.heap.size w w' := by
  have hsz := bs_size l
  have hd : decide ((l.length : Int) < (n : Int)) = true := decide_eq_true (by omega)
  have g1 : decide ((n : Int) < (1 : Int)) = false := decide_eq_false (by omega)
  have g2 : decide ((8 : Int) < (n : Int)) = false := decide_eq_false (by omega)
  go_enter Try.func32, Try.ntmps32
  go_wp2
  refine bodyPost_ret (v := .tuple #[.int .u64 0, .string (bs []), .int .i64 10]) (by simp [results, Try.results32, go_sem, bs_nil]) rfl ⟨rfl, ?_⟩
  exact Below.refl _ _

set_option maxHeartbeats 4000000 in
theorem octr_Take_ok (l : List UInt8) (n : Nat) (w : World) (h1 : 1 ≤ n) (h8 : n ≤ 8) (h : n ≤ l.length) (hl : l.length ≤ 281474976710656) :
    Calls Try.prog 32 #[.string (bs l), .int .i64 (n : Int)] w fun e w' => e = .returned (.tuple #[.int .u64 ((beV (l.take n) : Nat) : Int), .string (bs (l.drop n)), .int .i64 0]) ∧ Below w.heap.size w w' := by
  have hsz := bs_size l
  have HE : Hid ((bs l).extract n l.length = bs (l.drop n)) := Lib.hid (by rw [bs_extract, List.take_of_length_le (by rw [List.length_drop]; exact Nat.le_refl _)])
  have hd : decide ((l.length : Int) < (n : Int)) = false := decide_eq_false (by omega)
  have g1 : decide ((n : Int) < (1 : Int)) = false := decide_eq_false (by omega)
  have g2 : decide ((8 : Int) < (n : Int)) = false := decide_eq_false (by omega)
  go_enter Try.func32, Try.ntmps32
  go_wp2
  clear hd
  go_loopw [7, 8] (fun nv iv wr => ∃ (j x : Nat), iv = .int .i64 j ∧ j ≤ n ∧ nv = .int .u64 x ∧ Hid (x = beV (l.take j)) ∧ w = wr) (fun _ iv _ => n - (intOf iv).toNat)
  case atStart => exact ⟨0, 0, rfl, Nat.zero_le _, rfl, Lib.hid rfl, rfl⟩
  case round =>
    obtain ⟨j, x, rfl, hj, rfl, HX, rfl⟩ := hrel
    by_cases hlt : j < n
    · have hjl : j < l.length := by omega
      have hjs : j < (bs l).size := by rw [bs_size]; exact hjl
      obtain ⟨b, hb⟩ : ∃ b, b = ((bs l)[j]'hjs).toNat := ⟨_, rfl⟩
      have hbi : (((bs l)[j]'hjs).toNat : Int) = (b : Int) := by rw [hb]
      have hb8 : b < 256 := by rw [hb]; exact (bs l)[j].toNat_lt
      have hwb : IntKind.u64.wrap (b : Int) = (b : Int) := IntWalk.u64_in _ (by omega)
      have hxb : x * 256 + 256 ≤ 18446744073709551616 := by
        have h1 := beV_take_lt l j (by omega)
        rw [← HX.out] at h1
        have h2 : (256 : Nat) ^ j ≤ 256 ^ 7 := Nat.pow_le_pow_right (by omega) (by omega)
        have h3 : (256 : Nat) ^ 7 = 72057594037927936 := by decide
        omega
      obtain ⟨y, hy⟩ : ∃ y, y = x * 256 := ⟨_, rfl⟩
      have hyi : IntKind.u64.wrap ((x : Int) * 256) = (y : Int) := by rw [IntWalk.u64_in _ (by omega)]; omega
      obtain ⟨z, hz⟩ : ∃ z, z = y + b := ⟨_, rfl⟩
      have hzi : IntKind.u64.wrap ((y : Int) + (b : Int)) = (z : Int) := by rw [IntWalk.u64_in _ (by omega)]; omega
      have HZ : Hid (z = beV (l.take (j + 1))) := Lib.hid (by rw [beV_take l j hjl, ← HX.out, hz, hy, hb]; rfl)
      have hdec : decide ((j : Int) < (n : Int)) = true := decide_eq_true (by omega)
      clear hb hy hz hxb hjl
      go_wp2_with fail
      go_roundw
      case rel => exact ⟨j + 1, z, by go_num, by omega, rfl, HZ, trivial⟩
      case measure => simp [intOf]; omega
    · have hjm : j = n := by omega
      subst hjm
      have hdec : decide ((j : Int) < (j : Int)) = false := decide_eq_false (by omega)
      rw [HX.out]
      obtain ⟨V, hV⟩ : ∃ V, V = beV (l.take j) := ⟨_, rfl⟩
      rw [← hV]
      have HVV := Lib.hid hV
      clear hV HX
      have he := HE.out
      go_wp2_with fail
      go_region
      all_goals go_wp2
      all_goals refine bodyPost_ret (v := .tuple #[.int .u64 (V : Int), .string (bs (l.drop j)), .int .i64 0]) (by simp [results, Try.results32, go_sem]) rfl ⟨by rw [HVV.out], ?_⟩
      all_goals exact (Below.refl _ _).drew

end Go.Proofs.Ythoahengdajpcaa
