/- Contracts of nat's timesPlus and decimal; decimal texts as numbers. -/
import Derived.Test.YtliligfhckampaaMul
import Derived.Test.YtliligfhckampaaStr
namespace Go.Proofs.Ytliligfhckampaa
open Go.RowKit

theorem times_word {x u cy : Nat} (hx : x < B64) (hu : u < B64) (hc : cy < B64) :
    (x * u % B64 + cy) % B64 = (x * u + cy) % B64 ∧ x * u / B64 + (x * u % B64 + cy) / B64 = (x * u + cy) / B64 ∧ (x * u + cy) / B64 < B64 := by
  have h1 := Nat.div_add_mod (x * u) B64
  have h2 := Nat.div_add_mod (x * u % B64 + cy) B64
  have hS : (x * u % B64 + cy) % B64 < B64 := Nat.mod_lt _ B64_pos
  have e : x * u + cy = (x * u % B64 + cy) % B64 + B64 * (x * u / B64 + (x * u % B64 + cy) / B64) := by
    rw [Nat.mul_add]
    omega
  have hb : (x * u + cy) / B64 < B64 := by
    rw [Nat.div_lt_iff_lt_mul B64_pos]
    have : x * u ≤ (B64 - 1) * (B64 - 1) := Nat.mul_le_mul (by omega) (by omega)
    rw [B64_eq] at *
    omega
  refine ⟨?_, ?_, hb⟩
  · rw [e, Nat.add_mul_mod_self_left, Nat.mod_eq_of_lt hS]
  · rw [e, Nat.add_mul_div_left _ _ B64_pos, Nat.div_eq_of_lt hS, Nat.zero_add]

theorem times_step {zs xs : List Nat} {j x u cy a : Nat} (hl : zs.length = j) (h : val B64 zs + B64 ^ j * cy = val B64 (xs.take j) * u + a) (hx : val B64 (xs.take (j + 1)) = val B64 (xs.take j) + B64 ^ j * x) :
    val B64 (zs ++ [(x * u + cy) % B64]) + B64 ^ (j + 1) * ((x * u + cy) / B64) = val B64 (xs.take (j + 1)) * u + a := by
  rw [val_snoc, hl, Nat.pow_succ, Nat.mul_assoc, Nat.add_assoc, ← Nat.mul_add, Nat.mod_add_div, hx, Nat.add_mul, Nat.mul_add, Nat.mul_assoc]
  omega

set_option maxHeartbeats 2000000 in
theorem nat_timesPlus (g n c u a : Nat) (A : Option Addr) (xs : List Nat) (rest : List Value) (w : World) (hblk : 0 < n → A = some ⟨g, 0, none⟩ ∧ Blk w g 40 (nums .u64 xs ++ rest)) (hl : xs.length = n) (hdx : Dig B64 xs) (hn : n ≤ 1099511627776) (hu : u < B64) (ha : a < B64) :
    Calls Try.prog 44 #[.slice A n c, .int .u64 u, .int .u64 a] w fun e w' => ∃ (zs : List Nat) (cy : Nat), e = .returned (.int .u64 cy) ∧ (0 < n → Blk w' g 40 (nums .u64 zs ++ rest)) ∧
      zs.length = n ∧ Dig B64 zs ∧ cy < B64 ∧ val B64 zs + B64 ^ n * cy = val B64 xs * u + a ∧ w.grownBy w' (some g) := by
  have HB := Lib.hid hblk
  have HL := Lib.hid hl
  have HU := Lib.hid hu
  have HA := Lib.hid ha
  clear hblk hl hu ha
  go_enter Try.func44, Try.ntmps44
  go_wp2
  go_loopw [7, 15] (fun cv jv wr => ∃ (j cy : Nat) (zs : List Nat), jv = .int .i64 j ∧ cv = .int .u64 cy ∧ j ≤ n ∧ Hid (cy < B64) ∧ Hid (0 < n → Blk wr g 40 (nums .u64 (zs ++ xs.drop j) ++ rest)) ∧ Hid (zs.length = j) ∧ Dig B64 zs ∧
      Hid (val B64 zs + B64 ^ j * cy = val B64 (xs.take j) * u + a) ∧ w.grownBy wr (some g)) (fun _ jv _ => n - (intOf jv).toNat)
  case atStart => exact ⟨0, a, [], rfl, rfl, Nat.zero_le _, HA, Lib.hid (fun h => (HB.out h).2), Lib.hid rfl, Dig.nil _, Lib.hid (by simp [val]), World.grownBy.refl _ _⟩
  case round =>
    obtain ⟨j, cy, zs, rfl, rfl, hj, hcy, hb, hlz, hdz, hv, hg⟩ := hrel
    by_cases hlt : j < n
    · have hA := (HB.out (by omega)).1
      subst hA
      have hkx : j < xs.length := by rw [HL.out]; omega
      obtain ⟨x, hx⟩ : ∃ x, x = xs[j] := ⟨_, rfl⟩
      have hxb : x < B64 := by rw [hx]; exact hdx _ (List.getElem_mem hkx)
      have hb2 : Blk wr g 40 (nums .u64 (zs ++ x :: xs.drop (j + 1)) ++ rest) := by rw [← mid_nums hkx hx]; exact hb.out (by omega)
      have hcell := hb2.mid
      rw [hlz.out] at hcell
      have hfr := hb2.frozen j
      have hws := times_word hxb HU.out hcy.out
      have hst := times_step (u := u) (x := x) hlz.out hv.out (by rw [val_take_succ _ _ _ hkx, hx, List.getD_eq_getElem?_getD, List.getElem?_eq_getElem hkx]; rfl)
      obtain ⟨S, hS⟩ : ∃ S, S = (x * u + cy) % B64 := ⟨_, rfl⟩
      obtain ⟨C, hC⟩ : ∃ C, C = (x * u + cy) / B64 := ⟨_, rfl⟩
      rw [← hS, ← hC] at hst hws
      obtain ⟨hi, hhi⟩ : ∃ hi, hi = x * u / B64 := ⟨_, rfl⟩
      obtain ⟨lo, hlo⟩ : ∃ lo, lo = x * u % B64 := ⟨_, rfl⟩
      have hlob : lo < B64 := by rw [hlo]; exact Nat.mod_lt _ B64_pos
      have hmul := Lib.hid (fun W => call_Mul64 x u hxb HU.out W)
      rw [← hhi, ← hlo] at hmul hws
      have hadd1 := fun W => run_Add64 lo cy 0 hlob hcy.out (by omega) W
      obtain ⟨c1, hc1⟩ : ∃ c1, c1 = (lo + cy) / B64 := ⟨_, rfl⟩
      rw [Nat.add_zero, hws.1, ← hc1, show ((0 : Nat) : Int) = 0 from rfl] at hadd1
      rw [← hc1] at hws
      have hsumb : (hi : Int) + (c1 : Int) ≤ 18446744073709551615 := by
        have := hws.2.2
        rw [← hws.2.1, B64_eq] at this
        omega
      have HSUM := Lib.hid hws.2.1
      have HCB := Lib.hid hws.2.2
      have HST := Lib.hid hst
      have HB2 := Lib.hid hb2
      have HLZ0 := hlz
      have HSB : Hid (S < B64) := Lib.hid (by rw [hS]; exact Nat.mod_lt _ B64_pos)
      have HLZ : Hid ((zs ++ [S]).length = j + 1) := Lib.hid (by rw [List.length_append, hlz.out]; rfl)
      clear hst hb2 hx hxb hkx hb hv hlz hS hC hhi hlo hlob hc1 hws hcy
      go_wp2_with fail
      refine (hmul.out _).mono ?_
      rintro e w1 ⟨rfl, rfl⟩
      go_wp2
      go_roundw
      case rel =>
        refine ⟨j + 1, hi + c1, zs ++ [S], by go_num, by go_num, by omega, Lib.hid (by rw [HSUM.out]; exact HCB.out), Lib.hid (fun _ => ?_), HLZ, hdz.app (Dig.cons HSB.out (Dig.nil _)), Lib.hid (by rw [HSUM.out]; exact HST.out), grown_set hg _ _⟩
        have := HB2.out.set_ j (.int .u64 (S : Int))
        have e2 := set_mid (k := .u64) (a := zs) (b := xs.drop (j + 1)) (rest := rest) (x := x) (y := S) (v := S) rfl
        rw [HLZ0.out] at e2
        rw [e2] at this
        rw [List.append_assoc]
        exact this
      case measure => simp [intOf]; omega
    · have hjn : j = n := by omega
      subst hjn
      have HBN : Hid (0 < j → Blk wr g 40 (nums .u64 zs ++ rest)) := Lib.hid (fun h => by have := hb.out h; rw [List.drop_of_length_le (by rw [HL.out]; omega), List.append_nil] at this; exact this)
      have HVN : Hid (val B64 zs + B64 ^ j * cy = val B64 xs * u + a) := Lib.hid (by
        have := hv.out
        rw [List.take_of_length_le (by rw [HL.out]; omega)] at this
        exact this)
      have HLN := hlz
      have HCY := hcy
      clear hb hv hlz hcy
      go_wp2
      go_ret
      exact ⟨zs, cy, rfl, HBN.out, HLN.out, hdz, HCY.out, HVN.out, hg⟩

/-- The number of decimal digits as bytes, the highest first. -/
def natOf (l : List UInt8) : Nat := l.foldl (fun a b => a * 10 + (b.toNat - 48)) 0
def allDig (l : List UInt8) : Prop := ∀ b ∈ l, 48 ≤ b.toNat ∧ b.toNat ≤ 57
/-- A number's decimal digits, without noughts ahead. -/
def DecOk (l : List UInt8) : Prop := l ≠ [] ∧ ¬ (l.getD 0 0 = 48 ∧ 1 < l.length) ∧ allDig l

theorem natOf_snoc (l : List UInt8) (b : UInt8) : natOf (l ++ [b]) = natOf l * 10 + (b.toNat - 48) := by simp [natOf]
theorem natOf_le (l m : List UInt8) : natOf l ≤ natOf (l ++ m) := by
  induction m generalizing l with
  | nil => simp
  | cons b m ih =>
    have h1 := ih (l ++ [b])
    rw [List.append_assoc] at h1
    have h2 := natOf_snoc l b
    have h3 : l ++ ([b] ++ m) = l ++ b :: m := rfl
    rw [h3] at h1
    omega

theorem data_len (s : ByteArray) : s.data.toList.length = s.size := Array.length_toList

theorem lget (s : ByteArray) (k : Nat) (h : k < s.size) : s.data.toList[k]? = some s[k] := by
  rw [List.getElem?_eq_getElem (by rw [data_len]; exact h)]
  rfl

set_option maxHeartbeats 2000000 in
theorem nat_decimal (s : ByteArray) (D : Bool) (w : World) (hs : (s.size : Int) ≤ 1500) (hD : D = true ↔ DecOk s.data.toList) :
    Calls Try.prog 43 #[.string s] w fun e w' => e = .returned (.bool D) ∧ w = w' := by
  have hlen : s.data.toList.length = s.size := data_len s
  by_cases h0 : s.size = 0
  · have hnil : s.data.toList = [] := List.eq_nil_of_length_eq_zero (by omega)
    have hDf : D = false := by
      rw [Bool.eq_false_iff]
      intro e
      exact (hD.1 e).1 hnil
    subst hDf
    have hne : s.toList.isEmpty = true := by rw [ByteArray.toList_eq, hnil]; rfl
    clear hD hlen hnil
    go_enter Try.func43, Try.ntmps43
    go_wp2
    go_ret
    exact ⟨rfl, rfl⟩
  · have hp : 0 < s.size := by omega
    have hne : s.toList.isEmpty = false := by
      rw [List.isEmpty_eq_false_iff, ByteArray.toList_eq]
      intro e
      rw [e] at hlen
      simp at hlen
      omega
    have h00 : s.data.toList.getD 0 0 = s[0] := by rw [List.getD_eq_getElem?_getD, lget s 0 hp]; rfl
    by_cases hz : s[0] = 48 ∧ 1 < s.size
    · have hDf : D = false := by
        rw [Bool.eq_false_iff]
        intro e
        exact (hD.1 e).2.1 ⟨by rw [h00]; exact hz.1, by rw [hlen]; exact hz.2⟩
      subst hDf
      have hz1 : (((s[0]'hp).toNat : Int) == 48) = true := by rw [hz.1]; rfl
      have hz2 : 1 < s.size := hz.2
      clear hD hlen h00 hz
      go_enter Try.func43, Try.ntmps43
      go_wp2
      go_ret
      exact ⟨rfl, rfl⟩
    · have HZ : Hid (¬ (s.data.toList.getD 0 0 = 48 ∧ 1 < s.data.toList.length)) := Lib.hid (by rw [h00, hlen]; exact hz)
      have HD := Lib.hid hD
      have HL := Lib.hid hlen
      have hz1 : (s[0]'hp).toNat = 48 → ¬ 1 < s.size := fun e h => hz ⟨UInt8.toNat_inj.1 (by rw [e]; rfl), h⟩
      have main : ∀ (T : Prop), T → T := fun _ h => h
      by_cases hz2 : (s[0]'hp).toNat = 48
      all_goals
        first
          | (have hz3 : (((s[0]'hp).toNat : Int) == 48) = true := by rw [hz2]; rfl
             have hz4 := hz1 hz2)
          | (have hz3 : (((s[0]'hp).toNat : Int) == 48) = false := beq_eq_false_iff_ne.2 (by omega))
        clear hD hlen h00 hz hz1 hz2 main
        go_enter Try.func43, Try.ntmps43
        go_wp2
        go_loop [18] (fun i => ∃ k : Nat, i = .int .i64 k ∧ k ≤ s.size ∧ Hid (allDig (s.data.toList.take k))) (fun i => s.size - (intOf i).toNat)
        case atStart => exact ⟨0, rfl, Nat.zero_le _, Lib.hid (fun b hb => by simp at hb)⟩
        case round =>
          obtain ⟨k, rfl, hk, hall⟩ := hrel
          by_cases hlt : k < s.size
          · obtain ⟨c, hc⟩ : ∃ c, c = (s[k]'hlt).toNat := ⟨_, rfl⟩
            have hcb : c < 256 := by rw [hc]; exact (s[k]'hlt).toNat_lt
            have hci : (((s[k]'hlt).toNat : Nat) : Int) = (c : Int) := by rw [hc]
            have htk : s.data.toList.take (k + 1) = s.data.toList.take k ++ [s[k]'hlt] := by
              have hk2 : k < s.data.toList.length := by rw [HL.out]; exact hlt
              rw [← List.take_append_getElem hk2]
              congr 2
            have HT := Lib.hid htk
            have HC := Lib.hid hc
            clear htk hc
            by_cases hdig : 48 ≤ c ∧ c ≤ 57
            · have HN : Hid (allDig (s.data.toList.take (k + 1))) := Lib.hid (by
                rw [HT.out]
                intro b hb
                rcases List.mem_append.1 hb with hb | hb
                · exact hall.out b hb
                · simp at hb; subst hb; rw [← HC.out]; exact hdig)
              have h10 : c = 48 ∨ c = 49 ∨ c = 50 ∨ c = 51 ∨ c = 52 ∨ c = 53 ∨ c = 54 ∨ c = 55 ∨ c = 56 ∨ c = 57 := by omega
              clear hall
              rcases h10 with rfl | rfl | rfl | rfl | rfl | rfl | rfl | rfl | rfl | rfl
              all_goals
                go_wp2
                go_round
                case rel => exact ⟨k + 1, by go_num, by omega, HN⟩
                case measure => simp [intOf]; omega
            · have hDf : D = false := by
                rw [Bool.eq_false_iff]
                intro e
                have h1 := (HD.out.1 e).2.2 (s[k]'hlt) (by
                  have := lget s k hlt
                  exact List.mem_of_getElem? this)
                rw [← HC.out] at h1
                exact hdig h1
              subst hDf
              have e0 : ((c : Int) == 48) = false := beq_eq_false_iff_ne.2 (by omega)
              have e1 : ((c : Int) == 49) = false := beq_eq_false_iff_ne.2 (by omega)
              have e2 : ((c : Int) == 50) = false := beq_eq_false_iff_ne.2 (by omega)
              have e3 : ((c : Int) == 51) = false := beq_eq_false_iff_ne.2 (by omega)
              have e4 : ((c : Int) == 52) = false := beq_eq_false_iff_ne.2 (by omega)
              have e5 : ((c : Int) == 53) = false := beq_eq_false_iff_ne.2 (by omega)
              have e6 : ((c : Int) == 54) = false := beq_eq_false_iff_ne.2 (by omega)
              have e7 : ((c : Int) == 55) = false := beq_eq_false_iff_ne.2 (by omega)
              have e8 : ((c : Int) == 56) = false := beq_eq_false_iff_ne.2 (by omega)
              have e9 : ((c : Int) == 57) = false := beq_eq_false_iff_ne.2 (by omega)
              clear hall hdig
              go_wp2
              go_ret
              exact ⟨rfl, rfl⟩
          · have hDt : D = true := by
              refine HD.out.2 ⟨?_, HZ.out, ?_⟩
              · intro e
                have := HL.out
                rw [e] at this
                simp at this
                omega
              · have := hall.out
                rw [List.take_of_length_le (by rw [HL.out]; omega)] at this
                exact this
            subst hDt
            clear hall
            go_wp2
            go_ret
            exact ⟨rfl, rfl⟩

end Go.Proofs.Ytliligfhckampaa
