/- Contracts of the document's twice, Bit, Shl, Shr. -/
import Derived.Test.YtmjinhieeflkgaaRefB
import Derived.Test.YtmjinhieeflkgaaRefD
import Derived.Test.YtmjinhieeflkgaaQuoMath
import Derived.Laws.AppendOwnNone
namespace Go.Proofs.Ytmjinhieeflkgaa
open Go.RowKit

theorem twice_step {zs xs : List Nat} {k u cy bit : Nat} (hl : zs.length = k) (h : val 65536 zs + 65536 ^ k * cy = 2 * val 65536 (xs.take k) + bit) (hx : val 65536 (xs.take (k + 1)) = val 65536 (xs.take k) + 65536 ^ k * u) :
    val 65536 (zs ++ [(2 * u + cy) % 65536]) + 65536 ^ (k + 1) * ((2 * u + cy) / 65536) = 2 * val 65536 (xs.take (k + 1)) + bit := by
  have e : 65536 ^ k * (2 * u) = 2 * (65536 ^ k * u) := Nat.mul_left_comm _ _ _
  rw [val_snoc, hl, Nat.pow_succ, Nat.mul_assoc, Nat.add_assoc, ← Nat.mul_add, Nat.mod_add_div, hx, Nat.mul_add, Nat.mul_add]
  omega

theorem trim_ge {b k : Nat} (hb : 1 < b) {xs : List Nat} (hx : Dig b xs) (tx : trimL xs = xs) (hl : xs.length = k + 1) : b ^ k ≤ val b xs := by
  have := trim_len_le (k := k) hb hx tx
  omega

/-- A number times 2, and a bit: no noughts behind, if there were none. -/
theorem twice_trim {xs zs : List Nat} {bit : Nat} (hdx : Dig 65536 xs) (hdz : Dig 65536 zs) (hl : zs.length = xs.length) (hv : val 65536 zs = 2 * val 65536 xs + bit) (tx : trimL xs = xs) : trimL zs = zs := by
  rcases Nat.eq_zero_or_pos xs.length with h0 | h0
  · have : zs = [] := List.eq_nil_of_length_eq_zero (by omega)
    subst this; rfl
  · have h1 := trim_ge (k := xs.length - 1) (by omega) hdx tx (by omega)
    exact trimmed_of_val (k := xs.length - 1) hdz (by omega) (by omega)
theorem twice_trim_more {zs : List Nat} {cy k : Nat} (hdz : Dig 65536 zs) (hl : zs.length = k) (hc : 0 < cy) (hc2 : cy ≤ 1) : trimL (zs ++ [cy]) = zs ++ [cy] :=
  trimmed_of_val (b := 65536) (k := k) (hdz.app (Dig.cons (by omega) (Dig.nil _))) (by rw [List.length_append, hl]; rfl) (by
    rw [val_snoc, hl]
    have := Nat.mul_le_mul_left (65536 ^ k) hc
    omega)

set_option maxHeartbeats 2000000 in
theorem ref_twice (A : Option Addr) (n c bit : Nat) (xs : List Nat) (w : World) (h : Sl .i64 w A n c xs) (hd : Dig 65536 xs) (hbit : bit ≤ 1) (hn : n ≤ 1000000000) :
    Calls Try.prog 26 #[.slice A n c, .int .i64 bit] w fun e w' => ∃ A' n' c' zs, e = .returned (.slice A' n' c') ∧ Sl .i64 w' A' n' c' zs ∧ Dig 65536 zs ∧ n' ≤ n + 1 ∧
      val 65536 zs = 2 * val 65536 xs + bit ∧ (trimL xs = xs → trimL zs = zs) ∧ Below w.heap.size w w' := by
  obtain ⟨i0, hi, hz0, hz1, hz2⟩ := info_parts Try.info3
  have H1 := Lib.hid h
  have HL := Lib.hid h.1
  clear h
  go_enter Try.func26, Try.ntmps26
  go_wp2_with (at_make; refine wpList_make_own _ rfl _ _ 26 rfl w.heap.size 3 i0 (.int .i64 0) 1 Try.underlying26 hi hz0 hz1 .i64 .i64 _ (n + 1) rfl rfl ?c1 ?c2 ?c3 (Nat.le_refl _) ?_)
  case c1 => push_cast; rfl
  case c2 => rw [hz2]; omega
  case c3 => simp only [maxLen]; omega
  intro w1 hown0 hgr0
  have hb0 : Below w.heap.size w w1 := (Below.refl _ _).grown hgr0 (Nat.le_refl _) (fun k hk => by cases hk)
  clear hgr0
  go_wp2
  go_loopw [5, 6, 7] (fun v cv iv wr => ∃ (k cy : Nat) (zs : List Nat), iv = .int .i64 k ∧ cv = .int .i64 cy ∧ cy ≤ 1 ∧ k ≤ n ∧ wr.ownsRow w.heap.size 3 1 v zs.length (nums .i64 zs) ∧ Dig 65536 zs ∧ Hid (zs.length = k) ∧
      Hid (val 65536 zs + 65536 ^ k * cy = 2 * val 65536 (xs.take k) + bit) ∧ Below w.heap.size w wr) (fun _ _ iv _ => n - (intOf iv).toNat)
  case atStart => exact ⟨0, bit, [], rfl, rfl, hbit, by omega, hown0, Dig.nil _, Lib.hid rfl, Lib.hid (by simp [val]), hb0⟩
  case round =>
    clear hown0 hb0
    obtain ⟨k, cy, zs, rfl, rfl, hcy, hk, hown, hdz, hlz, hv, hb⟩ := hrel
    have hsz := hb.size
    have hlb : zs.length ≤ 8796093022208 := by rw [hlz.out]; omega
    by_cases hlt : k < n
    · have hkx : k < xs.length := by rw [HL.out]; omega
      obtain ⟨b, off, rfl, hbl, hc⟩ := H1.out.block (by omega)
      have hc0 := hc k hlt
      have hx0 := hd.getD (by omega) k
      have hst := twice_step hlz.out hv.out (val_take_succ 65536 xs k hkx)
      obtain ⟨u, hu⟩ : ∃ u, u = xs.getD k 0 := ⟨_, rfl⟩
      rw [← hu] at hc0 hx0 hst
      have hcell := (hb.cell (p := ⟨b, off + k, none⟩) hbl).trans hc0
      have HST := Lib.hid hst
      have HLZ : Hid ((zs ++ [(2 * u + cy) % 65536]).length = k + 1) := Lib.hid (by rw [List.length_append, hlz.out]; rfl)
      clear hu hst hc hc0 hkx hv hlz
      go_wp2_with (at_builtin; refine wpList_append1 rfl (.tmp 27) (.tmp 30) 26 rfl .i64 w.heap.size 3 i0 (.int .i64 0) 8 Try.underlying26 hi hz0 hz1 hz2 rfl _ zs rfl hown _ ((2 * u + cy) % 65536) ?_ _ rfl hlb (by omega) hb hsz ?_)
      · omega
      · intro v1 w3 hown3 hb3 _
        clear hown hb hcell
        go_wp2
        go_roundw
        case rel => exact ⟨k + 1, (2 * u + cy) / 65536, _, by go_num, by go_num, by omega, by omega, by rw [List.length_append]; exact hown3, hdz.app (Dig.cons (Nat.mod_lt _ (by omega)) (Dig.nil _)), HLZ, HST, hb3⟩
        case measure => simp [intOf]; omega
    · have hkn : k = n := by omega
      have HV : Hid (val 65536 zs + 65536 ^ n * cy = 2 * val 65536 xs + bit) := Lib.hid (by
        have := hv.out
        rw [hkn, List.take_of_length_le (by rw [HL.out]; omega)] at this
        exact this)
      have HLZ : Hid (zs.length = n) := Lib.hid (by rw [hlz.out, hkn])
      clear hv hlz hkn
      by_cases hc0 : 0 < cy
      · go_wp2_with (at_builtin; refine wpList_append1 rfl (.tmp 36) (.tmp 38) 26 rfl .i64 w.heap.size 3 i0 (.int .i64 0) 8 Try.underlying26 hi hz0 hz1 hz2 rfl _ zs rfl hown _ cy rfl _ rfl hlb (by omega) hb hsz ?_)
        intro v1 w3 hown3 hb3 _
        clear hown hb
        obtain ⟨A', c', rfl, hsl⟩ := Sl.of_owns hown3
        have HSL := Lib.hid hsl
        have HB3 := Lib.hid hb3
        clear hsl hown3 hb3
        go_wp2
        go_ret
        refine ⟨_, _, _, zs ++ [cy], rfl, HSL.out, hdz.app (Dig.cons (by omega) (Dig.nil _)), by have := HLZ.out; first | omega | (simp; omega), ?_, fun _ => twice_trim_more hdz HLZ.out hc0 hcy, HB3.out⟩
        rw [val_snoc, HLZ.out]; exact HV.out
      · have hcz : cy = 0 := by omega
        subst hcz
        obtain ⟨A', c', rfl, hsl⟩ := Sl.of_owns hown
        have HSL := Lib.hid hsl
        have HB3 := Lib.hid hb
        clear hsl hown hb
        go_wp2
        go_ret
        have hv2 : val 65536 zs = 2 * val 65536 xs + bit := by have := HV.out; rw [Nat.mul_zero, Nat.add_zero] at this; exact this
        exact ⟨_, _, _, zs, rfl, HSL.out, hdz, by rw [HLZ.out]; omega, hv2, twice_trim hd hdz (by rw [HLZ.out, HL.out]) hv2, HB3.out⟩

theorem digit_at {b : Nat} (hb : 1 < b) {xs : List Nat} (hd : Dig b xs) (q : Nat) : val b xs / b ^ q % b = xs.getD q 0 := by
  have hp : 0 < b ^ q := Nat.pow_pos (by omega)
  by_cases hq : q < xs.length
  · have h1 := val_lt (hd.take q)
    rw [List.length_take, Nat.min_eq_left (by omega)] at h1
    rw [val_split b xs q hq, Nat.add_mul_div_left _ _ hp, Nat.div_eq_of_lt h1, Nat.zero_add, Nat.add_mul_mod_self_left, Nat.mod_eq_of_lt (hd.getD (by omega) q)]
  · have h1 := val_lt hd
    have h2 : b ^ xs.length ≤ b ^ q := Nat.pow_le_pow_right (by omega) (by omega)
    rw [Nat.div_eq_of_lt (by omega), Nat.zero_mod, List.getD_eq_getElem?_getD, List.getElem?_eq_none (by omega)]; rfl

theorem bit_of_digit {Y r : Nat} (hr : r < 16) : Y % 65536 / 2 ^ r % 2 = Y / 2 ^ r % 2 := by
  have h1 : (65536 : Nat) = 2 ^ r * (2 * 2 ^ (15 - r)) := by
    rw [← Nat.pow_succ', ← Nat.pow_add, show r + (15 - r).succ = 16 from by omega]
  have h2 := Nat.mod_add_div Y 65536
  have h3 : Y / 2 ^ r = Y % 65536 / 2 ^ r + 2 * (2 ^ (15 - r) * (Y / 65536)) := by
    conv => lhs; rw [← h2, h1, Nat.mul_assoc, Nat.mul_assoc, Nat.add_mul_div_left _ _ (Nat.two_pow_pos r), ← h1]
  rw [h3, Nat.add_mul_mod_self_left]

theorem bit_at {xs : List Nat} (hd : Dig 65536 xs) (j : Nat) : xs.getD (j / 16) 0 / 2 ^ (j % 16) % 2 = val 65536 xs / 2 ^ j % 2 := by
  rw [← digit_at (by omega) hd, bit_of_digit (Nat.mod_lt _ (by omega)), Nat.div_div_eq_div_mul, show (65536 : Nat) = 2 ^ 16 from rfl, ← Nat.pow_mul, ← Nat.pow_add, Nat.div_add_mod]

theorem own_zeros {w : World} {base e q : Nat} {v : Value} (h : w.ownsRow base e 1 v q (madeCells (Value.int .i64 0).cells (q * 1)).toList) : w.ownsRow base e 1 v q (nums .i64 (List.replicate q 0)) := by
  rw [show (Value.int .i64 0).cells = #[.int .i64 0] from rfl, toList_madeCells_one, Nat.mul_one] at h
  rw [nums_replicate]; exact h
theorem own_shl {w : World} {base e q n : Nat} {v : Value} {D xs : List Nat} (hD : D = List.replicate q 0 ++ xs) (h : w.ownsRow base e 1 v (q + n) (nums .i64 (List.replicate q 0) ++ nums .i64 xs)) : ∃ A c, v = .slice A (q + n) c ∧ Sl .i64 w A (q + n) c D := by
  rw [← nums_append, ← hD] at h
  exact Sl.of_owns h

set_option maxHeartbeats 2000000 in
theorem ref_Shl (A : Option Addr) (n c x s : Nat) (w : World) (h : Rep .i64 65536 w A n c x) (hnil : A = none → c = 0) (hn : n ≤ 1000000) (hs : s ≤ 1000000) :
    Calls Try.prog 13 #[.slice A n c, .int .i64 s] w fun e w' => ∃ A' n' c', e = .returned (.slice A' n' c') ∧ Rep .i64 65536 w' A' n' c' (x * 2 ^ s) ∧ Below w.heap.size w w' := by
  obtain ⟨i0, hi, hz0, hz1, hz2⟩ := info_parts Try.info3
  obtain ⟨xs, h1, h2, h3, h4⟩ := h
  obtain ⟨q, hq⟩ : ∃ q, q = s / 16 := ⟨_, rfl⟩
  obtain ⟨r, hr⟩ : ∃ r, r = s % 16 := ⟨_, rfl⟩
  have hr16 : r < 16 := by omega
  have hqb : q ≤ 1000000 := by omega
  have HSR : Hid (s = 16 * q + r) := Lib.hid (by omega)
  have hqx : (s : Int) / 16 = (q : Int) := by omega
  have hrx : (s : Int) % 16 = (r : Int) := by omega
  have H1 := Lib.hid h1
  have H4 := Lib.hid h4
  have HL := Lib.hid h1.1
  have HNIL := Lib.hid hnil
  clear h1 h3 h4 hq hr hnil
  have hlen : (nums .i64 xs).length = n * 1 := by rw [nums_length, HL.out, Nat.mul_one]
  have hmax : q + n ≤ maxLen := by simp only [maxLen]; omega
  have hbig : (q + n) * 8 ≤ 140737488355328 := by omega
  have HLEN := Lib.hid hlen
  have HMAX := Lib.hid hmax
  have hmq : q ≤ maxLen := by simp only [maxLen]; omega
  have hby : i0.bytes * q ≤ 281474976710656 := by rw [hz2]; omega
  clear hlen hmax
  have key : ∃ ops, ops = 0 := ⟨0, rfl⟩
  clear key
  obtain ⟨D, hD⟩ : ∃ D, D = List.replicate q 0 ++ xs := ⟨_, rfl⟩
  have HDL : Hid (D.length = q + n) := Lib.hid (by rw [hD, List.length_append, List.length_replicate, HL.out])
  have hDD : Dig 65536 D := by rw [hD]; exact (Dig.replicate (by omega) _).app h2
  have HVD : Hid (val 65536 D = 65536 ^ q * x) := Lib.hid (by rw [hD, val_append, val_replicate, List.length_replicate, Nat.zero_add, H4.out])
  have HD := Lib.hid hD
  clear hD
  by_cases hA : ∃ ad, A = some ad
  · obtain ⟨ad, rfl⟩ := hA
    have HC : Hid (∀ W : World, Below w.heap.size w W → ∀ j v, (nums .i64 xs)[j]? = some v → W.cell? (ad.add j) = some v) := Lib.hid (fun W hW j v hj => by
      rcases Nat.eq_zero_or_pos n with h0 | h0
      · have : xs = [] := List.eq_nil_of_length_eq_zero (by rw [HL.out, h0])
        rw [this] at hj
        simp [nums] at hj
      · obtain ⟨ad2, he, hc⟩ := H1.out.src hW (by rw [nums_length, HL.out]; exact h0)
        injection he with he
        subst he
        exact hc j v hj)
    go_enter Try.func13, Try.ntmps13
    go_wp2_with (first
      | (at_make
         refine wpList_make_full _ rfl _ _ 26 rfl w.heap.size 3 i0 (.int .i64 0) 1 Try.underlying26 hi hz0 hz1 .i64 .i64 _ _ q rfl rfl rfl rfl hby hmq (Nat.le_refl _) ?_
         intro w1 hown hgr
         have HOWN := Lib.hid (own_zeros hown)
         have HB1 := Lib.hid ((Below.refl w.heap.size w).grown hgr (Nat.le_refl _) (fun k hk => by cases hk))
         clear hown hgr)
      | (at_builtin
         refine wpList_append_own _ rfl (.tmp 10) (.tmp 11) 26 rfl w.heap.size 3 i0 (.int .i64 0) 1 8 Try.underlying26 hi hz0 hz1 hz2 rfl (Nat.succ_pos 0) _ q (nums .i64 (List.replicate q 0)) rfl HOWN.out ad n c (nums .i64 xs) rfl HLEN.out (HC.out _ HB1.out) (nums_one _ _) HMAX.out hbig HB1.out.size ?_
         intro v2 w2 hown2 hgr2 _
         have HSL := Lib.hid (own_shl HD.out hown2)
         have HB2 := Lib.hid (HB1.out.grown hgr2 HB1.out.size (fun g hg => (HOWN.out.lt g hg).1))
         clear hown2 hgr2))
    obtain ⟨A2, c2, rfl, hsl2⟩ := HSL.out
    have HS2 := Lib.hid hsl2
    clear hsl2 HSL
    go_wp2
    go_loopw [5, 6] (fun ov kv wr => ∃ (k n3 c3 : Nat) (A3 : Option Addr) (zs : List Nat), kv = .int .i64 k ∧ ov = .slice A3 n3 c3 ∧ k ≤ r ∧ n3 ≤ q + n + k ∧ Hid (Sl .i64 wr A3 n3 c3 zs) ∧ Dig 65536 zs ∧ Hid (val 65536 zs = 2 ^ k * (65536 ^ q * x)) ∧ Hid (Below w.heap.size w wr)) (fun _ kv _ => r - (intOf kv).toNat)
    case atStart => exact ⟨0, q + n, c2, A2, D, rfl, rfl, Nat.zero_le _, Nat.le_refl _, HS2, hDD, Lib.hid (by rw [HVD.out, Nat.pow_zero, Nat.one_mul]), HB2⟩
    case round =>
      clear HS2 HB2 HB1
      obtain ⟨k, n3, c3, A3, zs, rfl, rfl, hk, hn3, hS, hdz, hv, hB⟩ := hrel
      by_cases hlt : k < r
      · go_wp2_with fail
        refine (ref_twice A3 n3 c3 0 zs _ hS.out hdz (by omega) (by omega)).mono ?_
        rintro e w3 ⟨A4, n4, c4, us, rfl, hs4, hd4, hn4, hv4, _, hb4⟩
        have HS4 := Lib.hid hs4
        have HV4 : Hid (val 65536 us = 2 ^ (k + 1) * (65536 ^ q * x)) := Lib.hid (by rw [hv4, hv.out, Nat.add_zero, Nat.pow_succ, Nat.mul_comm (2 ^ k) 2, Nat.mul_assoc])
        have HB4 := Lib.hid (hB.out.trans (hb4.mono hB.out.size))
        clear hs4 hv4 hb4 hS hv hB
        go_wp2
        go_roundw
        case rel => exact ⟨k + 1, n4, c4, A4, us, by go_num, rfl, by omega, by omega, HS4, hd4, HV4, HB4⟩
        case measure => simp [intOf]; omega
      · have hkr : k = r := by omega
        have HVR : Hid (val 65536 zs = x * 2 ^ s) := Lib.hid (by rw [hv.out, hkr, HSR.out, Nat.pow_add, Nat.pow_mul, show (2 : Nat) ^ 16 = 65536 from rfl, Nat.mul_comm (65536 ^ q) x, Nat.mul_left_comm, Nat.mul_comm (2 ^ r)])
        clear hkr hv
        go_wp2_with fail
        refine (ref_trim A3 n3 c3 zs _ hS.out).mono ?_
        rintro e w4 ⟨rfl, rfl⟩
        go_wp2
        go_ret
        refine ⟨_, _, _, rfl, ⟨trimL zs, ?_, trimL_dig hdz, trimL_idem zs, by rw [val_trim, HVR.out]⟩, hB.out⟩
        have := hS.out.take (trimL zs).length (by have := trimL_len zs; rw [hS.out.1] at this; exact this)
        rw [← trimL_take] at this
        exact this
  · have hAn : A = none := by
      cases A with
      | none => rfl
      | some a => exact absurd ⟨a, rfl⟩ hA
    have hn0 : n = 0 := by
      rcases Nat.eq_zero_or_pos n with h | h
      · exact h
      · obtain ⟨b, o, e, _⟩ := H1.out.2.2.2 h
        rw [hAn] at e
        cases e
    have hc0 := HNIL.out hAn
    subst hAn hn0 hc0
    clear hA
    go_enter Try.func13, Try.ntmps13
    go_wp2_with (first
      | (at_make
         refine wpList_make_full _ rfl _ _ 26 rfl w.heap.size 3 i0 (.int .i64 0) 1 Try.underlying26 hi hz0 hz1 .i64 .i64 _ _ q rfl rfl rfl rfl hby hmq (Nat.le_refl _) ?_
         intro w1 hown hgr
         have HOWN := Lib.hid (own_zeros hown)
         have HB1 := Lib.hid ((Below.refl w.heap.size w).grown hgr (Nat.le_refl _) (fun k hk => by cases hk))
         clear hown hgr)
      | (at_builtin
         refine wpList_append_own_none rfl (.tmp 10) (.tmp 11) 26 rfl w.heap.size 3 i0 Try.underlying26 hi _ q (nums .i64 (List.replicate q 0)) rfl HOWN.out rfl ?_))
    have HS2 : Hid (Sl .i64 w1 (some ⟨w.heap.size, 0, none⟩) q q D) := Lib.hid (by
      have hx : xs = [] := List.eq_nil_of_length_eq_zero HL.out
      have hD2 := HD.out
      rw [hx, List.append_nil] at hD2
      obtain ⟨A, c, hv, hsl⟩ := Sl.of_owns HOWN.out
      injection hv with e1 e2 e3
      rw [hD2, e1]
      have : q = c := by simpa using e3
      rw [← this] at hsl
      exact hsl)
    have HB2 := HB1
    go_wp2
    go_loopw [5, 6] (fun ov kv wr => ∃ (k n3 c3 : Nat) (A3 : Option Addr) (zs : List Nat), kv = .int .i64 k ∧ ov = .slice A3 n3 c3 ∧ k ≤ r ∧ n3 ≤ q + 0 + k ∧ Hid (Sl .i64 wr A3 n3 c3 zs) ∧ Dig 65536 zs ∧ Hid (val 65536 zs = 2 ^ k * (65536 ^ q * x)) ∧ Hid (Below w.heap.size w wr)) (fun _ kv _ => r - (intOf kv).toNat)
    case atStart => exact ⟨0, q, q, _, D, rfl, rfl, Nat.zero_le _, Nat.le_refl _, HS2, hDD, Lib.hid (by rw [HVD.out, Nat.pow_zero, Nat.one_mul]), HB2⟩
    case round =>
      clear HS2 HB2 HB1
      obtain ⟨k, n3, c3, A3, zs, rfl, rfl, hk, hn3, hS, hdz, hv, hB⟩ := hrel
      by_cases hlt : k < r
      · go_wp2_with fail
        refine (ref_twice A3 n3 c3 0 zs _ hS.out hdz (by omega) (by omega)).mono ?_
        rintro e w3 ⟨A4, n4, c4, us, rfl, hs4, hd4, hn4, hv4, _, hb4⟩
        have HS4 := Lib.hid hs4
        have HV4 : Hid (val 65536 us = 2 ^ (k + 1) * (65536 ^ q * x)) := Lib.hid (by rw [hv4, hv.out, Nat.add_zero, Nat.pow_succ, Nat.mul_comm (2 ^ k) 2, Nat.mul_assoc])
        have HB4 := Lib.hid (hB.out.trans (hb4.mono hB.out.size))
        clear hs4 hv4 hb4 hS hv hB
        go_wp2
        go_roundw
        case rel => exact ⟨k + 1, n4, c4, A4, us, by go_num, rfl, by omega, by omega, HS4, hd4, HV4, HB4⟩
        case measure => simp [intOf]; omega
      · have hkr : k = r := by omega
        have HVR : Hid (val 65536 zs = x * 2 ^ s) := Lib.hid (by rw [hv.out, hkr, HSR.out, Nat.pow_add, Nat.pow_mul, show (2 : Nat) ^ 16 = 65536 from rfl, Nat.mul_comm (65536 ^ q) x, Nat.mul_left_comm, Nat.mul_comm (2 ^ r)])
        clear hkr hv
        go_wp2_with fail
        refine (ref_trim A3 n3 c3 zs _ hS.out).mono ?_
        rintro e w4 ⟨rfl, rfl⟩
        go_wp2
        go_ret
        refine ⟨_, _, _, rfl, ⟨trimL zs, ?_, trimL_dig hdz, trimL_idem zs, by rw [val_trim, HVR.out]⟩, hB.out⟩
        have := hS.out.take (trimL zs).length (by have := trimL_len zs; rw [hS.out.1] at this; exact this)
        rw [← trimL_take] at this
        exact this

end Go.Proofs.Ytmjinhieeflkgaa
