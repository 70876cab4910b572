/- The contract of the document's Parse. -/
import Derived.Test.YtliligfhckampaaParseB
import Derived.Test.YtliligfhckampaaRefE
import Derived.Test.YtliligfhckampaaLawA
import Derived.Deep.RegionHeld3
namespace Go.Proofs.Ytliligfhckampaa
open Go.RowKit

theorem next_lt (k : Nat) {y e : Nat} (h : y < B64 ^ k) (he : e < 10) : y * 10 + e < 65536 ^ (4 * (k + 1)) := by
  rw [← B64_16, Nat.pow_succ]
  have h2 : (y + 1) * 10 ≤ B64 ^ k * 10 := Nat.mul_le_mul_right 10 h
  have h3 : B64 ^ k * 10 ≤ B64 ^ k * B64 := Nat.mul_le_mul_left _ (by decide)
  generalize B64 ^ k * B64 = b at *
  generalize B64 ^ k * 10 = a at *
  omega

theorem keepB {w w1 w2 : World} (h : Below w.heap.size w w1) (k : Below w1.heap.size w1 w2) : Below w.heap.size w w2 := h.trans (k.mono h.size)

def RefParsePost (s : ByteArray) (w : World) (e : Ending) (w' : World) : Prop :=
  ∃ A n c code, e = .returned (.tuple #[.slice A n c, .int .i64 code]) ∧ Below w.heap.size w w' ∧
    ((¬ DecOk s.data.toList ∧ code = 4) ∨ (DecOk s.data.toList ∧ Lim ≤ natOf s.data.toList ∧ code = 1) ∨ (DecOk s.data.toList ∧ natOf s.data.toList < Lim ∧ code = 0 ∧ Rep .i64 65536 w' A n c (natOf s.data.toList)))

theorem rep_one (w : World) (d : Nat) (hd : 0 < d) (hd2 : d < 65536) : Rep .i64 65536 (w.alloc (.cells #[.int .i64 d] 3)) (some ⟨w.heap.size, 0, none⟩) 1 1 d :=
  ⟨[d], Sl.of_blk0 (t := 3) (Blk.new1 w _ _) rfl (by omega) (by omega), Dig.cons hd2 (Dig.nil _), by simp [trimL]; omega, by simp [val]⟩

set_option maxHeartbeats 4000000 in
theorem ref_Parse (s : ByteArray) (w : World) (hs : (s.size : Int) ≤ 1500) : Calls Try.prog 19 #[.string s] w (RefParsePost s w) := by
  have hlen := data_len s
  by_cases h0 : s.size = 0
  · have hnil : s.data.toList = [] := List.eq_nil_of_length_eq_zero (by omega)
    have HD : Hid (¬ DecOk s.data.toList) := Lib.hid (fun h => h.1 hnil)
    have hz : ((s.size : Int) == 0) = true := by rw [h0]; rfl
    clear hlen hnil h0
    go_enter Try.func19, Try.ntmps19
    go_wp2
    go_ret2
    exact ⟨_, _, _, _, rfl, Below.refl _ _, .inl ⟨HD.out, rfl⟩⟩
  · have hp : 0 < s.size := by omega
    have hz : ((s.size : Int) == 0) = false := beq_eq_false_iff_ne.2 (by omega)
    have h00 : s.data.toList.getD 0 0 = s[0] := by rw [List.getD_eq_getElem?_getD, lget s 0 hp]; rfl
    by_cases hb0 : s[0] = 48 ∧ 1 < s.size
    · have HD : Hid (¬ DecOk s.data.toList) := Lib.hid (fun h => h.2.1 ⟨by rw [h00]; exact hb0.1, by rw [hlen]; exact hb0.2⟩)
      have hz1 : (((s[0]'hp).toNat : Int) == 48) = true := by rw [hb0.1]; rfl
      have hz2 : 1 < s.size := hb0.2
      clear hlen h00 hb0 h0
      go_enter Try.func19, Try.ntmps19
      go_wp2
      go_ret2
      exact ⟨_, _, _, _, rfl, Below.refl _ _, .inl ⟨HD.out, rfl⟩⟩
    · have HZ : Hid (¬ (s.data.toList.getD 0 0 = 48 ∧ 1 < s.data.toList.length)) := Lib.hid (by rw [h00, hlen]; exact hb0)
      have HL := Lib.hid hlen
      have hcase : (¬ 1 < s.size) ∨ (1 < s.size ∧ (((s[0]'hp).toNat : Int) == 48) = false) := by
        by_cases h1 : 1 < s.size
        · right
          refine ⟨h1, beq_eq_false_iff_ne.2 (fun e => hb0 ⟨UInt8.toNat_inj.1 ?_, h1⟩)⟩
          have : (s[0]'hp).toNat = 48 := by omega
          rw [this]; rfl
        · exact .inl h1
      clear hlen h00 hb0
      go_enter Try.func19, Try.ntmps19
      rcases hcase with h1 | ⟨h1, h2⟩
      all_goals
        go_wp2
        go_loop [4] (fun i => ∃ k : Nat, i = .int .i64 k ∧ k ≤ s.size ∧ Hid (allDig (s.data.toList.take k))) (fun i => s.size - (intOf i).toNat)
        case atStart => exact ⟨0, rfl, Nat.zero_le _, Lib.hid (fun b hb => by simp at hb)⟩
        case round =>
          obtain ⟨k, rfl, hk, hall⟩ := hrel
          by_cases hlt : k < s.size
          · obtain ⟨c, hc⟩ : ∃ c, c = (s[k]'hlt).toNat := ⟨_, rfl⟩
            have hci : (((s[k]'hlt).toNat : Nat) : Int) = (c : Int) := by rw [hc]
            have HT := Lib.hid (take_snocS s k hlt)
            have HC := Lib.hid hc
            clear hc
            by_cases hlo : (c : Int) < 48
            · have HD : Hid (¬ DecOk s.data.toList) := Lib.hid (fun h => by
                have := h.2.2 (s[k]'hlt) (List.mem_of_getElem? (lget s k hlt))
                rw [← HC.out] at this
                omega)
              clear hall
              go_wp2
              go_ret2
              exact ⟨_, _, _, _, rfl, Below.refl _ _, .inl ⟨HD.out, rfl⟩⟩
            · by_cases hhi : (57 : Int) < (c : Int)
              · have HD : Hid (¬ DecOk s.data.toList) := Lib.hid (fun h => by
                  have := h.2.2 (s[k]'hlt) (List.mem_of_getElem? (lget s k hlt))
                  rw [← HC.out] at this
                  omega)
                clear hall
                go_wp2
                go_ret2
                exact ⟨_, _, _, _, rfl, Below.refl _ _, .inl ⟨HD.out, rfl⟩⟩
              · have HN : Hid (allDig (s.data.toList.take (k + 1))) := Lib.hid (by
                  rw [HT.out]
                  intro b hb
                  rcases List.mem_append.1 hb with hb | hb
                  · exact hall.out b hb
                  · simp at hb; subst hb; rw [← HC.out]; omega)
                clear hall
                go_wp2
                go_round
                case rel => exact ⟨k + 1, by go_num, by omega, HN⟩
                case measure => simp [intOf]; omega
          · have HD : Hid (DecOk s.data.toList) := Lib.hid ⟨fun e => by have := HL.out; rw [e] at this; simp at this; omega, HZ.out, by
              have := hall.out
              rw [List.take_of_length_le (by rw [HL.out]; omega)] at this
              exact this⟩
            clear hall
            go_wp2
            go_loopw [5, 6] (fun v iv wr => ∃ (k : Nat) (A : Option Addr) (n c : Nat), iv = .int .i64 k ∧ v = .slice A n c ∧ k ≤ s.size ∧ Hid (Rep .i64 65536 wr A n c (natOf (s.data.toList.take k))) ∧ Hid (natOf (s.data.toList.take k) < Lim) ∧ Below w.heap.size w wr) (fun _ iv _ => s.size - (intOf iv).toNat)
            case atStart => exact ⟨0, none, 0, 0, rfl, rfl, Nat.zero_le _, Lib.hid (Rep.zero _ _ _), Lib.hid (Nat.pow_pos B64_pos), Below.refl _ _⟩
            case round =>
              obtain ⟨j, A, n, c, rfl, rfl, hj, hrep, hlim, hb⟩ := hrel
              by_cases hlt2 : j < s.size
              · obtain ⟨d, hd⟩ : ∃ d, d = (s[j]'hlt2).toNat := ⟨_, rfl⟩
                have hdi : (((s[j]'hlt2).toNat : Nat) : Int) = (d : Int) := by rw [hd]
                have hdd := HD.out.2.2 (s[j]'hlt2) (List.mem_of_getElem? (lget s j hlt2))
                rw [← hd] at hdd
                have hnat : natOf (s.data.toList.take (j + 1)) = natOf (s.data.toList.take j) * 10 + (d - 48) := by rw [take_snocS s j hlt2, natOf_snoc, ← hd]
                have HNAT := Lib.hid hnat
                have hn : n ≤ 256 := (hrep.out.len_le (by omega) 256).2 (by have := hlim.out; unfold Lim at this; rw [B64_16] at this; exact this)
                have w0' : IntKind.u64.wrap (d : Int) = (d : Int) := IntWalk.u64_in _ (by omega)
                have w1 : IntKind.u64.wrap ((d : Int) - 48) = (d : Int) - 48 := IntWalk.u64_in _ (by omega)
                clear hd hnat
                have h1 := hlim.out
                unfold Lim at h1
                have hxb := next_lt 64 (e := d - 48) h1 (by omega)
                rw [← HNAT.out] at hxb
                clear h1
                have HXB := Lib.hid hxb
                have HOF : Hid (∀ W : World, Calls Try.prog 42 #[.int .u64 ((d : Int) - 48)] W fun e w' => ∃ A' n' c', e = .returned (.slice A' n' c') ∧ Rep .i64 65536 w' A' n' c' (d - 48) ∧ Below W.heap.size W w') := Lib.hid (fun W => by
                  have := ref_Of (d - 48) W (by rw [B64_eq]; omega)
                  rw [show ((d - 48 : Nat) : Int) = (d : Int) - 48 from by omega] at this
                  exact this)
                have HBW := Lib.hid hb
                clear hxb hb
                go_wp2
                go_region_held3 (fun _ => True) (trivial)
                  (first
                    | (go_at_call 25
                       refine (ref_Mul A n c (natOf (s.data.toList.take j)) _ 1 1 10 _ (hrep.out.keep (((Below.refl _ _).alloc (Nat.le_refl _) _).drew)) ((rep_one wr 10 (by omega) (by omega)).keep (Below.refl _ _).drew) (by omega) (by omega)).mono ?_
                       rintro e v1 ⟨A1, n1, c1, rfl, hr1, hb1⟩
                       have HK1 : Hid (Below wr.heap.size wr v1) := Lib.hid (keepB (((Below.refl _ _).alloc (Nat.le_refl _) _).drew) hb1)
                       have hn1 : n1 ≤ 4 * (64 + 1) := (hr1.len_le (by omega) (4 * (64 + 1))).2 (Nat.lt_of_le_of_lt (by rw [HNAT.out]; omega) HXB.out)
                       have HR1 := Lib.hid hr1
                       clear hr1 hb1)
                    | (go_at_call 42
                       refine (HOF.out _).mono ?_
                       rintro e v2 ⟨A2, n2, c2, rfl, hr2, hb2⟩
                       have HK2 := Lib.hid (keepB HK1.out hb2)
                       have hn2 : n2 ≤ 1 := (hr2.len_le (by omega) 1).2 (by omega)
                       have HR2 := Lib.hid hr2
                       have HR1b := Lib.hid (HR1.out.keep hb2)
                       clear hr2 hb2)
                    | (go_at_call 24
                       refine (ref_Add A1 n1 c1 _ A2 n2 c2 _ _ HR1b.out HR2.out (by omega) (by omega)).mono ?_
                       rintro e v3 ⟨A3, n3, c3, rfl, hr3, hb3⟩
                       have HK3 := Lib.hid (keepB HK2.out hb3)
                       have HR3 := Lib.hid hr3
                       clear hr3 hb3))
                all_goals
                  have hr3 : Rep .i64 65536 v3 A3 n3 c3 (natOf (s.data.toList.take (j + 1))) := by rw [HNAT.out]; exact HR3.out
                  have hn3 : n3 ≤ 4 * (64 + 1) := (hr3.len_le (by omega) (4 * (64 + 1))).2 HXB.out
                  have HR4 := Lib.hid hr3
                  have HB3 := Lib.hid (keepB HBW.out HK3.out)
                  clear hr3 w1 w0'
                  go_wp2_with fail
                  refine (ref_Bits A3 n3 c3 _ _ HR4.out (by omega)).mono ?_
                  rintro e w5 ⟨rfl, rfl⟩
                  by_cases hbl : bl (natOf (s.data.toList.take (j + 1))) ≤ 4096
                  · have HLIM2 := Lib.hid (Lim_bl.2 hbl)
                    go_wp2
                    go_roundw
                    case rel => exact ⟨j + 1, A3, n3, c3, by go_num, rfl, by omega, HR4, HLIM2, HB3.out⟩
                    case measure => simp [intOf]; omega
                  · have HBIG : Hid (Lim ≤ natOf s.data.toList) := Lib.hid (Nat.le_trans (Nat.le_of_not_lt (fun h => hbl (Lim_bl.1 h))) (natOf_take_le _ _))
                    go_wp2
                    go_ret2
                    exact ⟨_, _, _, _, rfl, HB3.out, .inr (.inl ⟨HD.out, HBIG.out, rfl⟩)⟩
              · have hje : s.data.toList.take j = s.data.toList := List.take_of_length_le (by rw [HL.out]; omega)
                rw [hje] at hrep hlim
                clear hje
                go_wp2
                go_ret2
                exact ⟨_, _, _, _, rfl, hb, .inr (.inr ⟨HD.out, hlim.out, rfl, hrep.out⟩)⟩

end Go.Proofs.Ytliligfhckampaa
