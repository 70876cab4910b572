/- Contracts of the document's answer for numbers: trim, From, Of, Cmp, Bits. -/
import Derived.Test.YtmjinhieeflkgaaMem
namespace Go.Proofs.Ytmjinhieeflkgaa
open Go.RowKit

theorem Try.info3 : (Try.prog.info? 3).map (fun i => (i.zero, i.size, i.bytes)) = some (some (.int .i64 0), 1, 8) := by kernel_rfl

theorem ref_trim (A : Option Addr) (n c : Nat) (xs : List Nat) (w : World) (h : Sl .i64 w A n c xs) :
    Calls Try.prog 20 #[.slice A n c] w fun e w' => e = .returned (.slice A (trimL xs).length c) ∧ w = w' := by
  obtain ⟨h1, h2, h3, h4⟩ := h
  go_enter Try.func20, Try.ntmps20
  go_wp2
  go_loop [0] (fun s => ∃ k : Nat, k ≤ n ∧ s = .slice A k c ∧ trimL xs = trimL (xs.take k)) (fun s => slLen s)
  case atStart => exact ⟨n, Nat.le_refl _, rfl, by rw [List.take_of_length_le (by omega)]⟩
  case round =>
    obtain ⟨k, hk, rfl, ht⟩ := hrel
    have HT := Lib.hid ht
    clear ht
    by_cases hlt : 0 < k
    · obtain ⟨b, off, rfl, hc⟩ := h4 (by omega)
      have hcell := hc (k - 1) (by omega)
      have hsp : xs.take k = xs.take (k - 1) ++ [xs.getD (k - 1) 0] := by
        have := List.take_append_getElem (l := xs) (i := k - 1) (by omega)
        rw [show k - 1 + 1 = k from by omega] at this
        rw [← this, List.getD_eq_getElem?_getD, List.getElem?_eq_getElem (by omega)]; rfl
      have HS := Lib.hid hsp
      clear hsp
      go_wp2
      · have h0 : (((xs[k - 1]?.getD 0 : Nat) : Int) == 0) = true := by assumption
        go_round
        case rel =>
          refine ⟨k - 1, by omega, rfl, ?_⟩
          rw [HT.out, HS.out, List.getD_eq_getElem?_getD, show xs[k - 1]?.getD 0 = 0 from by simpa using h0, trimL_snoc_zero]
        case measure => simp [slLen]; omega
      · have h0 : (((xs[k - 1]?.getD 0 : Nat) : Int) == 0) = false := by assumption
        go_ret
        refine ⟨?_, rfl⟩
        rw [HT.out, HS.out, List.getD_eq_getElem?_getD, trimL_snoc_pos _ _ (by simpa using h0)]
        simp only [List.length_append, List.length_take, List.length_cons, List.length_nil]
        rw [show min (k - 1) xs.length + (0 + 1) = k from by omega]
        rfl
    · have hk0 : k = 0 := by omega
      subst hk0
      go_wp2
      go_ret
      refine ⟨?_, rfl⟩
      rw [HT.out]; rfl

set_option maxHeartbeats 1000000 in
/-- The digits of any words: their number. -/
theorem owns_nil {w : World} {base e n m c : Nat} {A : Option Addr} {cs : List Value} (h : w.ownsRow base e 1 (.slice A m c) n cs) : A = none → c = 0 := by
  rintro rfl
  obtain ⟨_, h2⟩ := h
  rcases h2 with ⟨hv, _⟩ | ⟨g, cap, cur, hv, _⟩
  · injection hv
  · cases hv
theorem ref_FromN (A : Option Addr) (n c : Nat) (xs : List Nat) (w : World) (h : Sl .u64 w A n c xs) (hd : Dig B64 xs) (hn : n ≤ 1099511627776) :
    Calls Try.prog 6 #[.slice A n c] w fun e w' => ∃ A' n' c', e = .returned (.slice A' n' c') ∧ Rep .i64 65536 w' A' n' c' (val B64 xs) ∧ (A' = none → c' = 0) ∧ Below w.heap.size w w' := by
  obtain ⟨i0, hi, hz0, hz1, hz2⟩ := info_parts Try.info3
  have hlen := h.1
  have H := Lib.hid h
  have HD := Lib.hid hd
  clear h hd
  go_enter Try.func6, Try.ntmps6
  go_wp2
  go_loopw [3, 4] (fun v i wr => ∃ (k : Nat) (ys : List Nat), k ≤ n ∧ i = .int .i64 k ∧ wr.ownsRow w.heap.size 3 1 v ys.length (nums .i64 ys) ∧ Dig 65536 ys ∧ Hid (ys.length = 4 * k) ∧ Hid (val 65536 ys = val B64 (xs.take k)) ∧ Below w.heap.size w wr)
    (fun _ i _ => n - (intOf i).toNat)
  case atStart => exact ⟨0, [], Nat.zero_le _, rfl, World.ownsRow_nil _ _ _ _, Dig.nil _, rfl, rfl, Below.refl _ _⟩
  case round =>
    obtain ⟨k, ys, hk, rfl, hown, hdy, hly, hvy, hb⟩ := hrel
    by_cases hlt : k < n
    · obtain ⟨b, off, rfl, hbl, hc⟩ := H.out.block (by omega)
      have hcell := (hb.cell (p := ⟨b, off + k, none⟩) hbl).trans (hc k hlt)
      have hxb := HD.out.getD B64_pos k
      have hVs := val_take_succ B64 xs k (by omega)
      obtain ⟨x, hx⟩ : ∃ x, x = xs.getD k 0 := ⟨_, rfl⟩
      rw [← hx] at hcell hxb hVs
      have hV : val 65536 ys + 65536 ^ (4 * k) * x = val B64 (xs.take (k + 1)) := by rw [hvy.out, hVs, B64_16]
      have HV := Lib.hid hV
      have HX : Hid (x < 65536 ^ 4) := Lib.hid (by rw [B64_eq] at hxb; simpa using hxb)
      clear hx hV hVs hvy hxb hc
      go_wp2
      go_loopw [3, 5, 6] (fun v xv i wr => ∃ (m : Nat) (zs : List Nat) (y : Nat), m ≤ 4 ∧ i = .int .i64 m ∧ xv = .int .u64 y ∧ wr.ownsRow w.heap.size 3 1 v zs.length (nums .i64 zs) ∧ Dig 65536 zs ∧ Hid (zs.length = 4 * k + m) ∧
          Hid (val 65536 zs + 65536 ^ (4 * k + m) * y = val B64 (xs.take (k + 1))) ∧ Hid (y < 65536 ^ (4 - m)) ∧ Below w.heap.size w wr)
        (fun _ _ i _ => 4 - (intOf i).toNat)
      case atStart => exact ⟨0, ys, x, by omega, rfl, rfl, hown, hdy, hly, HV, HX, hb⟩
      case round =>
        obtain ⟨m, zs, y, hm, rfl, rfl, hown2, hdz, hlz, hvz, hy, hb2⟩ := hrel
        have hsz := hb2.size
        have hlb : zs.length ≤ 8796093022208 := by have := hlz.out; omega
        by_cases hm4 : m < 4
        · go_wp2_with (at_builtin; refine wpList_append1 rfl (.tmp 21) (.tmp 25) 26 rfl .i64 w.heap.size 3 i0 (.int .i64 0) 8 Try.underlying26 hi hz0 hz1 hz2 rfl _ zs rfl hown2 _ (y % 65536) ?_ _ rfl hlb (by omega) hb2 hsz ?_)
          · omega
          · intro v1 w1 hown3 hb3 _
            have HS := Lib.hid (digit_step hlz.out hvz.out)
            have HY : Hid (y / 65536 < 65536 ^ (4 - (m + 1))) := Lib.hid (div_pow_lt (by omega) (by rw [show 4 - (m + 1) + 1 = 4 - m from by omega]; exact hy.out))
            have HLZ : Hid ((zs ++ [y % 65536]).length = 4 * k + (m + 1)) := Lib.hid (by have := hlz.out; simp; omega)
            have HQ := Lib.hid (pow16_lt hy.out)
            clear hvz hy hlz
            go_wp2
            have hyy : IntKind.u64.wrap ((y : Int) / 65536) = ((y / 65536 : Nat) : Int) := by have := HQ.out; rw [IntWalk.u64_in _ (by omega)]; omega
            go_roundw
            case rel => exact ⟨m + 1, zs ++ [y % 65536], y / 65536, by omega, by go_num, by rw [hyy], by rw [List.length_append]; exact hown3, hdz.app (Dig.cons (Nat.mod_lt _ (by omega)) (Dig.nil _)), HLZ, HS, HY, hb3⟩
            case measure => simp [intOf]; omega
        · have hm5 : m = 4 := by omega
          subst hm5
          have hy0 : y = 0 := by have := hy.out; simp at this; exact this
          have hvz2 := hvz.out
          rw [hy0, Nat.mul_zero, Nat.add_zero] at hvz2
          have HZ := Lib.hid hvz2
          clear hvz2 hvz hy hy0
          go_wp2
          go_roundw
          case rel => exact ⟨k + 1, zs, by omega, by go_num, hown2, hdz, Lib.hid (by have := hlz.out; omega), HZ, hb2⟩
          case measure => simp [intOf]; omega
    · have hkn : k = n := by omega
      subst hkn
      obtain ⟨A', c', rfl, hsl⟩ := Sl.of_owns hown
      have hnil := owns_nil hown
      have HL := Lib.hid hsl
      have HVY := Lib.hid hvy
      clear hsl hvy hown hly
      go_wp2_with (go_at_call 20; refine (ref_trim _ _ _ ys _ HL.out).mono ?_; rintro e w' ⟨rfl, rfl⟩)
      go_ret
      refine ⟨_, _, _, rfl, ⟨trimL ys, ?_, trimL_dig hdy, trimL_idem ys, ?_⟩, hnil, hb⟩
      · rw [trimL_take]
        have := HL.out.take (trimL ys).length (trimL_len ys)
        rw [← trimL_take] at this ⊢
        exact this
      · rw [val_trim, HVY.out, List.take_of_length_le (by omega)]

theorem ref_From (A : Option Addr) (n c : Nat) (xs : List Nat) (w : World) (h : Sl .u64 w A n c xs) (hd : Dig B64 xs) (hn : n ≤ 1099511627776) :
    Calls Try.prog 6 #[.slice A n c] w fun e w' => ∃ A' n' c', e = .returned (.slice A' n' c') ∧ Rep .i64 65536 w' A' n' c' (val B64 xs) ∧ Below w.heap.size w w' :=
  (ref_FromN A n c xs w h hd hn).mono fun _ _ ⟨A', n', c', h1, h2, _, h4⟩ => ⟨A', n', c', h1, h2, h4⟩

set_option maxHeartbeats 1000000 in
theorem ref_Cmp (A : Option Addr) (n c x : Nat) (A' : Option Addr) (n' c' y : Nat) (w : World) (h : Rep .i64 65536 w A n c x) (h' : Rep .i64 65536 w A' n' c' y) :
    Calls Try.prog 27 #[.slice A n c, .slice A' n' c'] w fun e w' => e = .returned (.int .i64 (cmpN x y)) ∧ ∃ q, w' = w.drewN q := by
  obtain ⟨xs, h1, h2, h3, h4⟩ := h
  obtain ⟨ys, k1, k2, k3, k4⟩ := h'
  by_cases hne : n = n'
  · subst hne
    have hlx := h1.1
    have hly := k1.1
    have hnb : (n : Int) ≤ 9223372036854775807 := by have := h1.2.1; have := h1.2.2.1; omega
    have H1 := Lib.hid h1
    have K1 := Lib.hid k1
    have H4 := Lib.hid h4
    have K4 := Lib.hid k4
    have H3 := Lib.hid h3
    have K3 := Lib.hid k3
    have HLX := Lib.hid hlx
    have HLY := Lib.hid hly
    clear h1 k1 h4 k4 h3 k3 hlx hly
    go_enter Try.func27, Try.ntmps27
    go_wp2
    go_loopw [5] (fun i wr => ∃ k q : Nat, k ≤ n ∧ i = .int .i64 ((k : Int) - 1) ∧ Hid (xs.drop k = ys.drop k) ∧ wr = w.drewN q) (fun i _ => (intOf i + 1).toNat)
    case atStart => exact ⟨n, 0, Nat.le_refl _, rfl, Lib.hid (by rw [List.drop_of_length_le (by rw [HLX.out]; omega), List.drop_of_length_le (by rw [HLY.out]; omega)]), rfl⟩
    case round =>
      obtain ⟨k, q, hk, rfl, hd, rfl⟩ := hrel
      by_cases hk0 : 0 < k
      · obtain ⟨b, off, rfl, hbl, hc⟩ := H1.out.block (by omega)
        obtain ⟨b2, off2, rfl, hbl2, hc2⟩ := K1.out.block (by omega)
        obtain ⟨j, rfl⟩ : ∃ j, k = j + 1 := ⟨k - 1, by omega⟩
        have hcell := hc j (by omega)
        have hcell2 := hc2 j (by omega)
        obtain ⟨u, hu⟩ : ∃ u, u = xs.getD j 0 := ⟨_, rfl⟩
        obtain ⟨v, hv⟩ : ∃ v, v = ys.getD j 0 := ⟨_, rfl⟩
        rw [← hu] at hcell
        rw [← hv] at hcell2
        have HU := Lib.hid hu
        have HV := Lib.hid hv
        clear hu hv hc hc2
        have hjx : j < xs.length := by rw [HLX.out]; omega
        have hjy : j < ys.length := by rw [HLY.out]; omega
        have HJ : Hid (xs.drop (j + 1) = ys.drop (j + 1)) := hd
        clear hd
        rcases Nat.lt_trichotomy u v with hlt | heq | hgt
        · have HE : Hid (cmpN x y = -1) := Lib.hid (cmpN_lt (by rw [← H4.out, ← K4.out]; exact cmp_lt h2 hjx hjy HJ.out (by rw [← HU.out, ← HV.out]; exact hlt)))
          go_wp2
          go_quiet (fail)
          go_wp2
          go_ret
          exact ⟨ret_int HE.out.symm, _, drewN2 _ _ _⟩
        · subst heq
          have HS : Hid (xs.drop j = ys.drop j) := Lib.hid (drop_eq_step hjx hjy HJ.out (by rw [← HU.out, ← HV.out]))
          go_wp2
          go_quiet (fail)
          go_wp2
          go_quiet (fail)
          go_wp2
          go_roundw
          case rel => exact ⟨j, _, by omega, by go_num, HS, rfl⟩
          case measure => simp [intOf]
        · have HE : Hid (cmpN x y = 1) := Lib.hid (cmpN_gt (by rw [← H4.out, ← K4.out]; exact cmp_lt k2 hjy hjx HJ.out.symm (by rw [← HU.out, ← HV.out]; exact hgt)))
          have hnl : ¬ u < v := by omega
          go_wp2
          go_quiet (fail)
          go_wp2
          go_quiet (fail)
          go_wp2
          go_ret
          exact ⟨ret_int HE.out.symm, _, drewN3 _ _ _ _⟩
      · have hk00 : k = 0 := by omega
        subst hk00
        have HE : Hid (cmpN x y = 0) := Lib.hid (cmpN_zero.2 (by rw [← H4.out, ← K4.out, show xs = ys from hd.out]))
        clear hd
        go_wp2
        go_ret
        exact ⟨ret_int HE.out.symm, _, rfl⟩
  · have hn1 : ((n : Int) == (n' : Int)) = false := beq_eq_false_iff_ne.2 (by omega)
    have hb1 := h1.2.1
    have hb2 := k1.2.1
    have hx1 := h1.1
    have hy1 := k1.1
    by_cases hlt : n < n'
    · have HE : Hid (cmpN x y = -1) := Lib.hid (cmpN_lt (by rw [← h4, ← k4]; exact cmp_len (by omega) h2 k2 k3 (by omega)))
      clear h4 k4 h1 k1 h3 k3 hx1 hy1
      go_enter Try.func27, Try.ntmps27
      go_wp2
      go_ret
      exact ⟨ret_int HE.out.symm, 0, rfl⟩
    · have HE : Hid (cmpN x y = 1) := Lib.hid (cmpN_gt (by rw [← h4, ← k4]; exact cmp_len (by omega) k2 h2 h3 (by omega)))
      clear h4 k4 h1 k1 h3 k3 hx1 hy1
      go_enter Try.func27, Try.ntmps27
      go_wp2
      go_ret
      exact ⟨ret_int HE.out.symm, 0, rfl⟩

theorem ref_Bits (A : Option Addr) (n c x : Nat) (w : World) (h : Rep .i64 65536 w A n c x) (hn : n ≤ 1099511627776) :
    Calls Try.prog 8 #[.slice A n c] w fun e w' => e = .returned (.int .i64 (bl x : Nat)) ∧ w = w' := by
  by_cases h0 : n = 0
  · subst h0
    have hx : x = 0 := (Rep.zero_iff (by omega) h).1 rfl
    subst hx
    clear h
    go_enter Try.func8, Try.ntmps8
    go_wp2
    go_ret
    exact ⟨rfl, rfl⟩
  · obtain ⟨m, rfl⟩ : ∃ m, n = m + 1 := ⟨n - 1, by omega⟩
    obtain ⟨xs, h1, h2, h3, h4⟩ := h
    obtain ⟨b, off, rfl, hbl, hc⟩ := h1.block (by omega)
    have hcell := hc m (by omega)
    have hbits := bl_digits (s := 16) rfl h2 h1.1 h3
    have hd := h2.getD (by omega) m
    rw [h4] at hbits
    generalize xs.getD m 0 = d at *
    have HB := Lib.hid hbits.1
    have hX : bl x ≤ 17592186044432 := by have := bl_le.2 (show d < 2 ^ 16 from hd); omega
    have hz : (((m + 1 : Nat) : Int) == 0) = false := beq_eq_false_iff_ne.2 (by omega)
    clear hbits h1 h2 h3 h4 hc
    go_enter Try.func8, Try.ntmps8
    go_wp2
    go_loop [3, 4] (fun cnt dv => ∃ j e : Nat, cnt = .int .i64 j ∧ dv = .int .i64 e ∧ e < 65536 ∧ j ≤ 17592186044432 ∧ Hid (j + bl e = bl x)) (fun _ dv => (intOf dv).toNat)
    case atStart => exact ⟨16 * m, d, by go_num, rfl, hd, by omega, Lib.hid HB.out.symm⟩
    case round =>
      obtain ⟨j, e, rfl, rfl, he, hj, hs⟩ := hrel
      by_cases hpos : 0 < e
      · have hh := bl_half hpos
        have HS : Hid (j + 1 + bl (e / 2) = bl x) := Lib.hid (by have := hs.out; omega)
        clear hh
        go_wp2
        go_round
        case rel => exact ⟨j + 1, e / 2, by go_num, by go_num, by omega, by have := HS.out; omega, HS⟩
        case measure => simp [intOf]; omega
      · have he0 : e = 0 := by omega
        subst he0
        have HS : Hid (j = bl x) := Lib.hid (by have := hs.out; rw [bl_zero] at this; exact this)
        clear hs
        go_wp2
        go_ret
        exact ⟨ret_int (by rw [← HS.out]), rfl⟩

end Go.Proofs.Ytmjinhieeflkgaa
