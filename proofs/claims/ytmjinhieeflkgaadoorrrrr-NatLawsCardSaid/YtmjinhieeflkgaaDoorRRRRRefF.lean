/- Contracts of the document's twice, Bit, Shl, Shr. -/
import Derived.Test.YtmjinhieeflkgaaDoorRRRRRefB
import Derived.Test.YtmjinhieeflkgaaDoorRRRRRefD
import Derived.Test.YtmjinhieeflkgaaDoorRRRRQuoMath
import Derived.Laws.AppendOwnNone
namespace Go.Proofs.YtmjinhieeflkgaaDoorRRRR
open Go.RowKit

theorem twice_step {zs xs : List Nat} {k u cy bit : Nat} (hl : zs.length = k) (h : val 65536 zs + 65536 ^ k * cy = 2 * val 65536 (xs.take k) + bit) (hx : val 65536 (xs.take (k + 1)) = val 65536 (xs.take k) + 65536 ^ k * u) :
    val 65536 (zs ++ [(2 * u + cy) % 65536]) + 65536 ^ (k + 1) * ((2 * u + cy) / 65536) = 2 * val 65536 (xs.take (k + 1)) + bit := by
  have e : 65536 ^ k * (2 * u) = 2 * (65536 ^ k * u) := Nat.mul_left_comm _ _ _
  rw [val_snoc, hl, Nat.pow_succ, Nat.mul_assoc, Nat.add_assoc, ← Nat.mul_add, Nat.mod_add_div, hx, Nat.mul_add, Nat.mul_add]
  omega

theorem trim_ge {b k : Nat} (hb : 1 < b) {xs : List Nat} (hx : Dig b xs) (tx : trimL xs = xs) (hl : xs.length = k + 1) : b ^ k ≤ val b xs := by
  have := trim_len_le (k := k) hb hx tx
  omega

/-- A number times 2, and a bit: no noughts behind, if there were none. -/
theorem twice_trim {xs zs : List Nat} {bit : Nat} (hdx : Dig 65536 xs) (hdz : Dig 65536 zs) (hl : zs.length = xs.length) (hv : val 65536 zs = 2 * val 65536 xs + bit) (tx : trimL xs = xs) : trimL zs = zs := by
  rcases Nat.eq_zero_or_pos xs.length with h0 | h0
  · have : zs = [] := List.eq_nil_of_length_eq_zero (by omega)
    subst this; rfl
  · have h1 := trim_ge (k := xs.length - 1) (by omega) hdx tx (by omega)
    exact trimmed_of_val (k := xs.length - 1) hdz (by omega) (by omega)
theorem twice_trim_more {zs : List Nat} {cy k : Nat} (hdz : Dig 65536 zs) (hl : zs.length = k) (hc : 0 < cy) (hc2 : cy ≤ 1) : trimL (zs ++ [cy]) = zs ++ [cy] :=
  trimmed_of_val (b := 65536) (k := k) (hdz.app (Dig.cons (by omega) (Dig.nil _))) (by rw [List.length_append, hl]; rfl) (by
    rw [val_snoc, hl]
    have := Nat.mul_le_mul_left (65536 ^ k) hc
    omega)

set_option maxHeartbeats 2000000 in
theorem ref_twice (A : Option Addr) (n c bit : Nat) (xs : List Nat) (w : World) (h : Sl .i64 w A n c xs) (hd : Dig 65536 xs) (hbit : bit ≤ 1) (hn : n ≤ 1000000000) :
    Calls Tryd.prog 32 #[.slice A n c, .int .i64 bit] w fun e w' => ∃ A' n' c' zs, e = .returned (.slice A' n' c') ∧ Sl .i64 w' A' n' c' zs ∧ Dig 65536 zs ∧ n' ≤ n + 1 ∧
      val 65536 zs = 2 * val 65536 xs + bit ∧ (trimL xs = xs → trimL zs = zs) ∧ Below w.heap.size w w' := by
  obtain ⟨i0, hi, hz0, hz1, hz2⟩ := info_parts Tryd.info3
  have H1 := Lib.hid h
  have HL := Lib.hid h.1
  clear h
  go_enter Tryd.func32, Tryd.ntmps32
  go_wp2_with (at_make; refine wpList_make_own _ rfl _ _ 25 rfl w.heap.size 3 i0 (.int .i64 0) 1 Tryd.underlying25 hi hz0 hz1 .i64 .i64 _ (n + 1) rfl rfl ?c1 ?c2 ?c3 (Nat.le_refl _) ?_)
  case c1 => push_cast; rfl
  case c2 => rw [hz2]; omega
  case c3 => simp only [maxLen]; omega
  intro w1 hown0 hgr0
  have hb0 : Below w.heap.size w w1 := (Below.refl _ _).grown hgr0 (Nat.le_refl _) (fun k hk => by cases hk)
  clear hgr0
  go_wp2
  go_loopw [5, 6, 7] (fun v cv iv wr => ∃ (k cy : Nat) (zs : List Nat), iv = .int .i64 k ∧ cv = .int .i64 cy ∧ cy ≤ 1 ∧ k ≤ n ∧ wr.ownsRow w.heap.size 3 1 v zs.length (nums .i64 zs) ∧ Dig 65536 zs ∧ Hid (zs.length = k) ∧
      Hid (val 65536 zs + 65536 ^ k * cy = 2 * val 65536 (xs.take k) + bit) ∧ Below w.heap.size w wr) (fun _ _ iv _ => n - (intOf iv).toNat)
  case atStart => exact ⟨0, bit, [], rfl, rfl, hbit, by omega, hown0, Dig.nil _, Lib.hid rfl, Lib.hid (by simp [val]), hb0⟩
  case round =>
    clear hown0 hb0
    obtain ⟨k, cy, zs, rfl, rfl, hcy, hk, hown, hdz, hlz, hv, hb⟩ := hrel
    have hsz := hb.size
    have hlb : zs.length ≤ 8796093022208 := by rw [hlz.out]; omega
    by_cases hlt : k < n
    · have hkx : k < xs.length := by rw [HL.out]; omega
      obtain ⟨b, off, rfl, hbl, hc⟩ := H1.out.block (by omega)
      have hc0 := hc k hlt
      have hx0 := hd.getD (by omega) k
      have hst := twice_step hlz.out hv.out (val_take_succ 65536 xs k hkx)
      obtain ⟨u, hu⟩ : ∃ u, u = xs.getD k 0 := ⟨_, rfl⟩
      rw [← hu] at hc0 hx0 hst
      have hcell := (hb.cell (p := ⟨b, off + k, none⟩) hbl).trans hc0
      have HST := Lib.hid hst
      have HLZ : Hid ((zs ++ [(2 * u + cy) % 65536]).length = k + 1) := Lib.hid (by rw [List.length_append, hlz.out]; rfl)
      clear hu hst hc hc0 hkx hv hlz
      go_wp2_with (at_builtin; refine wpList_append1 rfl (.tmp 27) (.tmp 30) 25 rfl .i64 w.heap.size 3 i0 (.int .i64 0) 8 Tryd.underlying25 hi hz0 hz1 hz2 rfl _ zs rfl hown _ ((2 * u + cy) % 65536) ?_ _ rfl hlb (by omega) hb hsz ?_)
      · omega
      · intro v1 w3 hown3 hb3 _
        clear hown hb hcell
        go_wp2
        go_roundw
        case rel => exact ⟨k + 1, (2 * u + cy) / 65536, _, by go_num, by go_num, by omega, by omega, by rw [List.length_append]; exact hown3, hdz.app (Dig.cons (Nat.mod_lt _ (by omega)) (Dig.nil _)), HLZ, HST, hb3⟩
        case measure => simp [intOf]; omega
    · have hkn : k = n := by omega
      have HV : Hid (val 65536 zs + 65536 ^ n * cy = 2 * val 65536 xs + bit) := Lib.hid (by
        have := hv.out
        rw [hkn, List.take_of_length_le (by rw [HL.out]; omega)] at this
        exact this)
      have HLZ : Hid (zs.length = n) := Lib.hid (by rw [hlz.out, hkn])
      clear hv hlz hkn
      by_cases hc0 : 0 < cy
      · go_wp2_with (at_builtin; refine wpList_append1 rfl (.tmp 36) (.tmp 38) 25 rfl .i64 w.heap.size 3 i0 (.int .i64 0) 8 Tryd.underlying25 hi hz0 hz1 hz2 rfl _ zs rfl hown _ cy rfl _ rfl hlb (by omega) hb hsz ?_)
        intro v1 w3 hown3 hb3 _
        clear hown hb
        obtain ⟨A', c', rfl, hsl⟩ := Sl.of_owns hown3
        have HSL := Lib.hid hsl
        have HB3 := Lib.hid hb3
        clear hsl hown3 hb3
        go_wp2
        go_ret
        refine ⟨_, _, _, zs ++ [cy], rfl, HSL.out, hdz.app (Dig.cons (by omega) (Dig.nil _)), by have := HLZ.out; first | omega | (simp; omega), ?_, fun _ => twice_trim_more hdz HLZ.out hc0 hcy, HB3.out⟩
        rw [val_snoc, HLZ.out]; exact HV.out
      · have hcz : cy = 0 := by omega
        subst hcz
        obtain ⟨A', c', rfl, hsl⟩ := Sl.of_owns hown
        have HSL := Lib.hid hsl
        have HB3 := Lib.hid hb
        clear hsl hown hb
        go_wp2
        go_ret
        have hv2 : val 65536 zs = 2 * val 65536 xs + bit := by have := HV.out; rw [Nat.mul_zero, Nat.add_zero] at this; exact this
        exact ⟨_, _, _, zs, rfl, HSL.out, hdz, by rw [HLZ.out]; omega, hv2, twice_trim hd hdz (by rw [HLZ.out, HL.out]) hv2, HB3.out⟩

theorem digit_at {b : Nat} (hb : 1 < b) {xs : List Nat} (hd : Dig b xs) (q : Nat) : val b xs / b ^ q % b = xs.getD q 0 := by
  have hp : 0 < b ^ q := Nat.pow_pos (by omega)
  by_cases hq : q < xs.length
  · have h1 := val_lt (hd.take q)
    rw [List.length_take, Nat.min_eq_left (by omega)] at h1
    rw [val_split b xs q hq, Nat.add_mul_div_left _ _ hp, Nat.div_eq_of_lt h1, Nat.zero_add, Nat.add_mul_mod_self_left, Nat.mod_eq_of_lt (hd.getD (by omega) q)]
  · have h1 := val_lt hd
    have h2 : b ^ xs.length ≤ b ^ q := Nat.pow_le_pow_right (by omega) (by omega)
    rw [Nat.div_eq_of_lt (by omega), Nat.zero_mod, List.getD_eq_getElem?_getD, List.getElem?_eq_none (by omega)]; rfl

theorem bit_of_digit {Y r : Nat} (hr : r < 16) : Y % 65536 / 2 ^ r % 2 = Y / 2 ^ r % 2 := by
  have h1 : (65536 : Nat) = 2 ^ r * (2 * 2 ^ (15 - r)) := by
    rw [← Nat.pow_succ', ← Nat.pow_add, show r + (15 - r).succ = 16 from by omega]
  have h2 := Nat.mod_add_div Y 65536
  have h3 : Y / 2 ^ r = Y % 65536 / 2 ^ r + 2 * (2 ^ (15 - r) * (Y / 65536)) := by
    conv => lhs; rw [← h2, h1, Nat.mul_assoc, Nat.mul_assoc, Nat.add_mul_div_left _ _ (Nat.two_pow_pos r), ← h1]
  rw [h3, Nat.add_mul_mod_self_left]

theorem bit_at {xs : List Nat} (hd : Dig 65536 xs) (j : Nat) : xs.getD (j / 16) 0 / 2 ^ (j % 16) % 2 = val 65536 xs / 2 ^ j % 2 := by
  rw [← digit_at (by omega) hd, bit_of_digit (Nat.mod_lt _ (by omega)), Nat.div_div_eq_div_mul, show (65536 : Nat) = 2 ^ 16 from rfl, ← Nat.pow_mul, ← Nat.pow_add, Nat.div_add_mod]

set_option maxHeartbeats 1000000 in
theorem ref_Bit (A : Option Addr) (n c j : Nat) (xs : List Nat) (w : World) (h : Sl .i64 w A n c xs) (hd : Dig 65536 xs) (hj : j ≤ 1000000000000) :
    Calls Tryd.prog 33 #[.slice A n c, .int .i64 j] w fun e w' => e = .returned (.int .i64 (val 65536 xs / 2 ^ j % 2 : Nat)) ∧ w = w' := by
  rw [← bit_at hd]
  obtain ⟨q, hq⟩ : ∃ q, q = j / 16 := ⟨_, rfl⟩
  obtain ⟨r, hr⟩ : ∃ r, r = j % 16 := ⟨_, rfl⟩
  rw [← hq, ← hr]
  have HAT := Lib.hid (ref_at A n c q xs w h)
  have hdb := hd.getD (by omega) q
  obtain ⟨d, hde⟩ : ∃ d, d = xs.getD q 0 := ⟨_, rfl⟩
  rw [← hde] at HAT hdb ⊢
  have hr16 : r < 16 := by omega
  have hqx : (j : Int) / 16 = (q : Int) := by omega
  have hrx : (j : Int) % 16 = (r : Int) := by omega
  clear hq hr hde h
  go_enter Tryd.func33, Tryd.ntmps33
  go_wp2_with fail
  refine HAT.out.mono ?_
  rintro e w1 ⟨rfl, rfl⟩
  go_wp2
  go_loop [5, 6] (fun dv kv => ∃ (k u : Nat), kv = .int .i64 k ∧ dv = .int .i64 u ∧ k ≤ r ∧ Hid (u = d / 2 ^ k) ∧ u < 65536) (fun _ kv => r - (intOf kv).toNat)
  case atStart => exact ⟨0, d, rfl, rfl, Nat.zero_le _, Lib.hid (by simp), hdb⟩
  case round =>
    obtain ⟨k, u, rfl, rfl, hk, hu, hub⟩ := hrel
    by_cases hlt : k < r
    · go_wp2
      go_round
      case rel => exact ⟨k + 1, u / 2, by go_num, by go_num, by omega, Lib.hid (by rw [hu.out, Nat.div_div_eq_div_mul, Nat.pow_succ]), by omega⟩
      case measure => simp [intOf]; omega
    · have hkr : k = r := by omega
      have HU : Hid (u = d / 2 ^ r) := Lib.hid (by rw [← hkr]; exact hu.out)
      clear hkr
      go_wp2
      go_ret
      exact ⟨ret_int (by rw [HU.out]; push_cast; rfl), rfl⟩

end Go.Proofs.YtmjinhieeflkgaaDoorRRRR
