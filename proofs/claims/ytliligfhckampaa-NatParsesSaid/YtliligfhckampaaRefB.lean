/- Contracts of the document's Words and String. -/
import Derived.Test.YtliligfhckampaaRefA
import Derived.Test.YtliligfhckampaaNatA
import Derived.Test.YtliligfhckampaaOver
import Derived.Laws.BytesArg
namespace Go.Proofs.Ytliligfhckampaa
open Go.RowKit

theorem trimmed_of_val {b k : Nat} {ws : List Nat} (hd : Dig b ws) (hl : ws.length = k + 1) (hv : b ^ k ≤ val b ws) : trimL ws = ws := by
  have hsp : ws.take k ++ [ws[k]'(by omega)] = ws := by
    have := List.take_append_getElem (l := ws) (i := k) (by omega)
    rw [this, List.take_of_length_le (by omega)]
  by_cases h0 : ws[k]'(by omega) = 0
  · exfalso
    have h1 := val_lt (hd.take k)
    rw [List.length_take, Nat.min_eq_left (by omega)] at h1
    have h2 := val_snoc b (ws.take k) (ws[k]'(by omega))
    rw [hsp, h0, Nat.mul_zero, Nat.add_zero] at h2
    omega
  · have := trimL_snoc_pos (ws.take k) _ h0
    rw [hsp] at this
    exact this

/-- r digits from place s on. -/
def cv (b : Nat) (xs : List Nat) : Nat → Nat → Nat
  | _, 0 => 0
  | s, r + 1 => xs.getD s 0 + b * cv b xs (s + 1) r

theorem cv_lt {b : Nat} {xs : List Nat} (hb : 0 < b) (hd : Dig b xs) (s r : Nat) : cv b xs s r < b ^ r := by
  induction r generalizing s with
  | zero => simp [cv]
  | succ r ih =>
    have h1 := hd.getD hb s
    have h2 := ih (s + 1)
    have h3 : b * (cv b xs (s + 1) r + 1) ≤ b * b ^ r := Nat.mul_le_mul_left b h2
    simp only [cv, Nat.pow_succ]
    rw [Nat.mul_comm (b ^ r) b]
    rw [Nat.mul_add] at h3
    omega

theorem val_take_any (b : Nat) (xs : List Nat) (k : Nat) : val b (xs.take (k + 1)) = val b (xs.take k) + b ^ k * xs.getD k 0 := by
  by_cases h : k < xs.length
  · exact val_take_succ b xs k h
  · rw [List.take_of_length_le (by omega), List.take_of_length_le (by omega), List.getD_eq_getElem?_getD, List.getElem?_eq_none (by omega)]
    simp

theorem cv_take (b : Nat) (xs : List Nat) (s r : Nat) : val b (xs.take s) + b ^ s * cv b xs s r = val b (xs.take (s + r)) := by
  induction r generalizing s with
  | zero => simp [cv]
  | succ r ih =>
    have h := ih (s + 1)
    rw [val_take_any, Nat.pow_succ] at h
    rw [cv, Nat.mul_add, ← Nat.mul_assoc, ← Nat.add_assoc, h]
    congr 2
    omega

set_option maxHeartbeats 2000000 in
theorem ref_Words (A : Option Addr) (n c x : Nat) (w : World) (h : Rep .i64 65536 w A n c x) (hn : n ≤ 1099511627776) :
    Calls Try.prog 13 #[.slice A n c] w fun e w' => ∃ A' n' c', e = .returned (.slice A' n' c') ∧ Rep .u64 B64 w' A' n' c' x ∧ Below w.heap.size w w' := by
  obtain ⟨i0, hi, hz0, hz1, hz2⟩ := info_parts Try.info40
  obtain ⟨xs, h1, h2, h3, h4⟩ := h
  have hlen := h1.1
  have H := Lib.hid h1
  have H4 := Lib.hid h4
  have H3 := Lib.hid h3
  have HLEN := Lib.hid hlen
  clear h1 h4 h3 hlen
  go_enter Try.func13, Try.ntmps13
  go_wp2
  go_loopw [3, 4] (fun v i wr => ∃ (k : Nat) (ws : List Nat), 4 * k ≤ n + 3 ∧ i = .int .i64 ((4 : Int) * (k : Int)) ∧ wr.ownsRow w.heap.size 40 1 v ws.length (nums .u64 ws) ∧ Dig B64 ws ∧ Hid (ws.length = k) ∧ Hid (val B64 ws = val 65536 (xs.take (4 * k))) ∧ Below w.heap.size w wr)
    (fun _ i _ => n + 3 - (intOf i).toNat)
  case atStart => exact ⟨0, [], by omega, rfl, World.ownsRow_nil _ _ _ _, Dig.nil _, rfl, rfl, Below.refl _ _⟩
  case round =>
    obtain ⟨k, ws, hk, rfl, hown, hdw, hlw, hvw, hb⟩ := hrel
    by_cases hlt : (4 : Int) * (k : Int) < (n : Int)
    · go_wp2
      go_loopw [5, 6] (fun yv i wr' => ∃ m y : Nat, m ≤ 4 ∧ i = .int .i64 ((m : Int) - 1) ∧ yv = .int .u64 y ∧ Hid (y = cv 65536 xs (4 * k + m) (4 - m)) ∧ wr' = wr) (fun _ i _ => (intOf i + 1).toNat)
      case atStart => exact ⟨4, 0, by omega, rfl, rfl, Lib.hid rfl, rfl⟩
      case round =>
        obtain ⟨m, y, hm, rfl, rfl, hy, rfl⟩ := hrel
        by_cases hm0 : 0 < m
        · obtain ⟨p, rfl⟩ : ∃ p, m = p + 1 := ⟨m - 1, by omega⟩
          have hyb : (y : Int) ≤ 281474976710655 := by
            have h1 := cv_lt (b := 65536) (by omega) h2 (4 * k + (p + 1)) (4 - (p + 1))
            rw [← hy.out] at h1
            have h2 : 65536 ^ (4 - (p + 1)) ≤ 65536 ^ 3 := Nat.pow_le_pow_right (by omega) (by omega)
            have h3 : (65536 : Nat) ^ 3 = 281474976710656 := by decide
            omega
          have hpi : (((p + 1 : Nat) : Int) - 1) = (p : Int) := by omega
          rw [hpi]
          have HY : Hid (y * 65536 + xs.getD (4 * k + p) 0 = cv 65536 xs (4 * k + p) (4 - p)) := Lib.hid (by
            rw [show 4 - p = (4 - (p + 1)) + 1 from by omega, cv, show 4 * k + p + 1 = 4 * k + (p + 1) from by omega, ← hy.out]; omega)
          clear hy hpi
          by_cases hin : 4 * k + p < n
          · obtain ⟨b, off, rfl, hbl, hc⟩ := H.out.block (by omega)
            have hc0 := hc (4 * k + p) hin
            have hd0 := h2.getD (by omega) (4 * k + p)
            obtain ⟨d, hd⟩ : ∃ d, d = xs.getD (4 * k + p) 0 := ⟨_, rfl⟩
            rw [← hd] at hc0 hd0 HY
            have hcell := (hb.cell (p := ⟨b, off + (4 * k + p), none⟩) hbl).trans hc0
            clear hc hc0 hd
            go_wp2
            go_roundw
            case rel => exact ⟨p, y * 65536 + d, by omega, by go_num, by go_num, HY, trivial⟩
            case measure => simp [intOf]
          · have hd0 : xs.getD (4 * k + p) 0 = 0 := by rw [List.getD_eq_getElem?_getD, List.getElem?_eq_none (by rw [HLEN.out]; omega)]; rfl
            rw [hd0, Nat.add_zero] at HY
            clear hd0
            go_wp2
            go_roundw
            case rel => exact ⟨p, y * 65536, by omega, by go_num, by go_num, HY, trivial⟩
            case measure => simp [intOf]
        · have hm00 : m = 0 := by omega
          subst hm00
          have HW : Hid (val B64 (ws ++ [y]) = val 65536 (xs.take (4 * (k + 1)))) := Lib.hid (by
            rw [val_snoc, hlw.out, hvw.out, B64_16, hy.out]; exact cv_take 65536 xs (4 * k) 4)
          have HYB : Hid (y < B64) := Lib.hid (by have := cv_lt (b := 65536) (by omega) h2 (4 * k + 0) (4 - 0); rw [← hy.out] at this; rw [B64_pow]; exact Nat.lt_of_lt_of_le this (by decide))
          have HLW : Hid ((ws ++ [y]).length = k + 1) := Lib.hid (by rw [List.length_append, hlw.out]; rfl)
          have hlb : ws.length ≤ 8796093022208 := by rw [hlw.out]; omega
          have hsz := hb.size
          clear hy hvw hlw
          go_wp2_with (at_builtin; refine wpList_append1 rfl (.tmp 34) (.tmp 36) 22 rfl .u64 w.heap.size 40 i0 (.int .u64 0) 8 Try.underlying22 hi hz0 hz1 hz2 rfl _ ws rfl hown _ y ?_ _ rfl hlb (by omega) hb hsz ?_)
          · rfl
          · intro v1 w1 hown3 hb3 _
            clear hown hb
            go_wp2
            go_roundw
            case rel => exact ⟨k + 1, ws ++ [y], by omega, by go_num, by rw [List.length_append]; exact hown3, hdw.app (Dig.cons HYB.out (Dig.nil _)), HLW, HW, hb3⟩
            case measure => simp [intOf]; omega
    · obtain ⟨A', c', rfl, hsl⟩ := Sl.of_owns hown
      have HS := Lib.hid hsl
      have HV : Hid (val B64 ws = x) := Lib.hid (by rw [hvw.out, List.take_of_length_le (by rw [HLEN.out]; omega)]; exact H4.out)
      have HT : Hid (trimL ws = ws) := Lib.hid (by
        by_cases hk0 : k = 0
        · have := hlw.out
          rw [hk0] at this
          rw [List.eq_nil_of_length_eq_zero this]; rfl
        · obtain ⟨j, rfl⟩ : ∃ j, k = j + 1 := ⟨k - 1, by omega⟩
          refine trimmed_of_val hdw hlw.out ?_
          rw [HV.out, B64_16, ← H4.out]
          apply Nat.le_of_not_lt
          intro hlt2
          have := (trim_len_le (k := 4 * j) (b := 65536) (by omega) h2 H3.out).2 hlt2
          rw [HLEN.out] at this
          omega)
      clear hsl hvw hown hlw
      go_wp2
      go_ret
      exact ⟨_, _, _, rfl, ⟨ws, HS.out, hdw, HT.out, HV.out⟩, hb⟩

end Go.Proofs.Ytliligfhckampaa
