/- The contract of nat's String: a number in decimal digits. -/
import Derived.Test.YtmjinhieeflkgaaRev
import Derived.Laws.BytesArg
namespace Go.Proofs.Ytmjinhieeflkgaa
open Go.RowKit

theorem Try.info5 : (Try.prog.info? 5).map (fun i => (i.zero, i.size, i.bytes)) = some (some (.int .u8 0), 1, 1) := by kernel_rfl

def dig48 (ds : List Nat) : List Nat := ds.map fun d => 48 + d
theorem dig48_len (ds : List Nat) : (dig48 ds).length = ds.length := by simp [dig48]
theorem dig48_snoc (ds : List Nat) (d : Nat) : dig48 (ds ++ [d]) = dig48 ds ++ [48 + d] := by simp [dig48]
theorem dig48_take (ds : List Nat) (j : Nat) : (dig48 ds).take j = dig48 (ds.take j) := by simp [dig48, List.map_take]
theorem dig48_rev (ds : List Nat) : (dig48 ds).reverse = dig48 ds.reverse := by simp [dig48]

theorem str_dec (ds : List Nat) : strOfNums ((dig48 ds.reverse).map fun x : Nat => (x : Int)) = decB ds := by
  have h : (strOfNums ((dig48 ds.reverse).map fun x : Nat => (x : Int))).data.toList = (decB ds).data.toList := by
    rw [strOfNums_data]
    simp only [dig48, decB, List.map_map, List.toList_toArray]
    refine List.map_congr_left fun a _ => ?_
    show UInt8.ofNat (((48 + a : Nat) : Int)).toNat = UInt8.ofNat (48 + a)
    rw [Int.toNat_natCast]
  have h2 := Array.toList_inj.1 h
  cases hs : strOfNums ((dig48 ds.reverse).map fun x : Nat => (x : Int)) with
  | mk a =>
    cases hd : decB ds with
    | mk b =>
      rw [hs, hd] at h2
      exact congrArg _ h2

theorem owns_len {w : World} {base e n : Nat} {v : Value} {cs : List Value} (h : w.ownsRow base e 1 v n cs) : slLen v = n := by
  rcases h.2 with ⟨rfl, rfl⟩ | ⟨g, cap, cur, rfl, _⟩ <;> rfl

/-- A row of the call's own, as a block that is known whole. -/
theorem Blk.of_owns {w : World} {base e n : Nat} {v : Value} {cs : List Value} (h : w.ownsRow base e 1 v n cs) (hn : 0 < n) :
    ∃ g cap rest, v = .slice (some ⟨g, 0, none⟩) n cap ∧ base ≤ g ∧ n ≤ cap ∧ (cap : Int) ≤ 9223372036854775807 ∧ Blk w g e (cs ++ rest) := by
  rcases h.2 with ⟨_, h0⟩ | ⟨g, cap, cur, rfl, hg, hh, hn, hcap, hs, ht⟩
  · omega
  · rw [Nat.mul_one] at ht
    refine ⟨g, cap, cur.toList.drop n, rfl, hg, hn, by unfold maxLen at hcap; omega, ?_⟩
    unfold Blk
    rw [hh, ← ht, List.take_append_drop]

set_option maxHeartbeats 4000000 in
set_option maxRecDepth 100000 in
theorem nat_String (A : Option Addr) (n c x : Nat) (w : World) (h : Rep .u64 B64 w A n c x) (hx : x < Lim) :
    Calls Try.prog 17 #[.agg #[.slice A n c]] w fun e w' => ∃ s, e = .returned (.string s) ∧ IsDec x s ∧ Below w.heap.size w w' := by
  have hn64 : n ≤ 64 := (h.len_le (by decide) 64).2 hx
  have hx4 : x < 2 ^ (64 * 64) := by unfold Lim at hx; rw [B64_pow, ← Nat.pow_mul] at hx; exact hx
  by_cases h0 : n = 0
  · subst h0
    have hx : x = 0 := (Rep.zero_iff B64_pos h).1 rfl
    subst hx
    clear h hx4
    go_enter Try.func17, Try.ntmps17
    go_wp2_with (go_at_call 11; refine (nat_Zero _ _ _ _).mono ?_; rintro e w1 ⟨rfl, hb⟩)
    go_ret
    exact ⟨_, rfl, .inl ⟨rfl, rfl⟩, (((Below.refl _ _).alloc (Nat.le_refl _) _).trans (hb.mono (by simp)))⟩
  · have hxp : 0 < x := Nat.pos_of_ne_zero fun e => h0 ((Rep.zero_iff B64_pos h).2 e)
    obtain ⟨xs, h1, h2, h3, h4⟩ := h
    have hlen := h1.1
    have H := Lib.hid h1
    have H4 := Lib.hid h4
    have H3 := Lib.hid h3
    have HX4 := Lib.hid hx4
    have HLEN := Lib.hid hlen
    have hdz : decide (n = 0) = false := by simpa using h0
    obtain ⟨i0, hi, hz0, hz1, hz2⟩ := info_parts Try.info5
    clear h1 h4 h3 hx4 hx hlen
    go_enter Try.func17, Try.ntmps17
    go_wp2_with fail
    refine (nat_Zero _ _ _ _).mono ?_
    rintro e w1 ⟨rfl, hb⟩
    have hbx := (Blk.new1 w 29 (.slice A n c)).keep hb
    have hx0 := hbx.cell0
    have hb1 := Lib.hid hb
    have hsz := hb.size
    simp at hsz
    clear hbx hb
    go_wp2_with fail
    refine (nat_clone A _ c xs _ ((H.out.alloc _).keep hb1.out) (by omega)).mono ?_
    rintro e w2 ⟨g, rfl, hg, hblk, hb2⟩
    have HBLK := Lib.hid hblk
    have HB2 : Hid (Below w.heap.size w w2) := Lib.hid ((((Below.refl _ _).alloc (Nat.le_refl _) _).trans (hb1.out.mono (by simp))).trans (hb2.mono (by omega)))
    have hgw : w.heap.size ≤ g := by omega
    clear hblk hb2 hg
    go_wp2
    go_loopw [3, 4] (fun tv wv wr => ∃ (ys ds : List Nat) (m : Nat) (rest : List Value), wv = .slice (some ⟨g, 0, none⟩) m n ∧ Hid (ys.length = m) ∧ m ≤ n ∧ Hid (Blk wr g 40 (nums .u64 ys ++ rest)) ∧ Hid (trimL ys = ys) ∧ Dig B64 ys ∧
        wr.ownsRow w.heap.size 5 1 tv (dig48 ds).length (nums .u8 (dig48 ds)) ∧ Dig 10 ds ∧ Hid (val 10 ds + 10 ^ ds.length * val B64 ys = x) ∧ Below w.heap.size w wr) (fun tv _ _ => 4200 - slLen tv)
    case atStart => exact ⟨xs, [], n, [], rfl, HLEN, Nat.le_refl _, Lib.hid (by rw [List.append_nil]; exact HBLK.out), H3, h2, World.ownsRow_nil _ _ _ _, Dig.nil _, Lib.hid (by simp [val]; exact H4.out), HB2.out⟩
    case round =>
      clear HLEN H3 H4 h2 HB2 HBLK hx0
      obtain ⟨ys, ds, m, rest, rfl, hly, hmn, hblk, hty, hdy, hown, hdd, hval, hb⟩ := hrel
      by_cases hm : 0 < m
      · have hvp : 0 < val B64 ys := Nat.pos_of_ne_zero fun e => by
          have e1 := trim_val_zero B64_pos hty.out e
          have e2 := hly.out
          rw [e1] at e2
          simp at e2
          omega
        have hL := dec_len hval.out hvp HX4.out
        have HSL0 : Hid (slLen _ = ds.length) := Lib.hid ((owns_len hown).trans (dig48_len ds))
        have HOV : Hid (∀ W : World, Blk W g 40 (nums .u64 ys ++ rest) → Calls Try.prog 31 #[.slice (some ⟨g, 0, none⟩) m n, .int .u64 10000000000000000000] W fun e w' => ∃ (zs : List Nat) (r : Nat), e = .returned (.int .u64 r) ∧ Blk w' g 40 (nums .u64 zs ++ rest) ∧
            zs.length = m ∧ Dig B64 zs ∧ r < 10000000000000000000 ∧ val B64 ys = 10000000000000000000 * val B64 zs + r ∧ W.grownBy w' (some g)) :=
          Lib.hid (fun W hW => by
            have := nat_overWord g m n 10000000000000000000 ys rest W hW hly.out hdy (by omega) (by omega) (by decide)
            exact this)
        have HBL := hblk
        have HV := hval
        clear hblk hval hvp hly hty hdy
        go_wp2_with fail
        refine (HOV.out _ HBL.out).mono ?_
        rintro e w3 ⟨zs, r, rfl, hblk3, hlz, hdz3, hr, hvz, hg3⟩
        have hown3 := hown.kept hg3 (.inr (fun e => by
          rcases hown.2 with ⟨rfl, _⟩ | ⟨g', cap, cur, rfl, _, hh, _⟩
          · cases e
          · have e2 : g' = g := by simpa [Value.ownBlock] using e
            subst e2
            have hb4 := HBL.out
            unfold Blk at hb4
            rw [hh] at hb4
            injection hb4 with hb4
            injection hb4 with _ ht
            exact absurd ht (by decide)))
        have hb3 := hb.grown hg3 hb.size (fun k hk => by cases hk; exact hgw)
        have hsz3 := hb3.size
        have HV2 := Lib.hid (dec_round HV.out hvz (by decide))
        have HBL3 := Lib.hid hblk3
        have HLZ := Lib.hid hlz
        have HR : Hid (r < 10 ^ (19 - 0)) := Lib.hid (by simpa using hr)
        obtain ⟨V, hV⟩ : ∃ V, V = val 10 ds + 10 ^ ds.length * r := ⟨_, rfl⟩
        rw [← hV] at HV2
        have HVV := Lib.hid hV
        clear hblk3 hlz hr hvz hg3 HV HBL HOV hown hb hV
        go_wp2
        go_loopw [3, 5, 18] (fun tv rv iv wr => ∃ (k y : Nat) (es : List Nat), iv = .int .i64 k ∧ rv = .int .u64 y ∧ k ≤ 19 ∧ wr.ownsRow w.heap.size 5 1 tv (dig48 es).length (nums .u8 (dig48 es)) ∧ Dig 10 es ∧ Hid (es.length = ds.length + k) ∧
            Hid (val 10 es + 10 ^ (ds.length + k) * y = V) ∧ Hid (y < 10 ^ (19 - k)) ∧ Hid (Blk wr g 40 (nums .u64 zs ++ rest)) ∧ Below w.heap.size w wr) (fun _ _ iv _ => 19 - (intOf iv).toNat)
        case atStart => exact ⟨0, r, ds, rfl, rfl, by omega, hown3, hdd, Lib.hid rfl, Lib.hid (by rw [Nat.add_zero]; exact HVV.out.symm), HR, HBL3, hb3⟩
        case round =>
          clear HVV HR HBL3 hown3 hb3
          obtain ⟨k, y, es, rfl, rfl, hk, hown4, hde, hle, hve, hy, hblk4, hb4⟩ := hrel
          have hsz4 := hb4.size
          have hlb : (dig48 es).length ≤ 8796093022208 := by rw [dig48_len, hle.out]; omega
          by_cases hk19 : k < 19
          · have HQ : Hid (y < 18446744073709551616) := Lib.hid (by
              have h1 := hy.out
              have h2 : 10 ^ (19 - k) ≤ 10 ^ 19 := Nat.pow_le_pow_right (by omega) (Nat.sub_le 19 k)
              have h3 : (10 : Nat) ^ 19 < 18446744073709551616 := by decide
              generalize 10 ^ (19 - k) = a at *
              generalize (10 : Nat) ^ 19 = b at *
              omega)
            go_wp2_with (at_builtin; refine wpList_append1 rfl (.tmp 20) (.tmp 25) 53 rfl .u8 w.heap.size 5 i0 (.int .u8 0) 1 Try.underlying53 hi hz0 hz1 hz2 rfl _ (dig48 es) rfl hown4 _ (48 + y % 10) ?_ _ rfl hlb (by omega) hb4 hsz4 ?_)
            · omega
            · intro v5 w5 hown5 hb5 hkeep5
              have HS := Lib.hid (digit_step hle.out hve.out)
              have HY : Hid (y / 10 < 10 ^ (19 - (k + 1))) := Lib.hid (div_pow_lt (by omega) (by rw [show 19 - (k + 1) + 1 = 19 - k from by omega]; exact hy.out))
              have HLE : Hid ((es ++ [y % 10]).length = ds.length + (k + 1)) := Lib.hid (by have := hle.out; simp; omega)
              have HB5 := Lib.hid (hkeep5 g 40 _ (by decide) hblk4.out)
              have HO : Hid (w5.ownsRow w.heap.size 5 1 v5 (dig48 (es ++ [y % 10])).length (nums .u8 (dig48 (es ++ [y % 10])))) := Lib.hid (by rw [dig48_snoc]; rw [List.length_append]; exact hown5)
              clear hve hy hle hkeep5 hblk4 hown5 hown4 hlb
              go_wp2
              have hyy : IntKind.u64.wrap ((y : Int) / 10) = ((y / 10 : Nat) : Int) := by have := HQ.out; rw [IntWalk.u64_in _ (by omega)]; omega
              go_roundw
              case rel => exact ⟨k + 1, y / 10, es ++ [y % 10], by go_num, by rw [hyy], by omega, HO.out, hde.app (Dig.cons (Nat.mod_lt _ (by omega)) (Dig.nil _)), HLE, HS, HY, HB5, hb5⟩
              case measure => simp [intOf]; omega
          · have hk5 : k = 19 := by omega
            subst hk5
            have hy0 : y = 0 := by have := hy.out; simp at this; exact this
            have HE : Hid (val 10 es = V) := Lib.hid (by have := hve.out; rw [hy0, Nat.mul_zero, Nat.add_zero] at this; exact this)
            have HLE := hle
            have hsl : Sl .u64 _ (some ⟨g, 0, none⟩) m n zs := Sl.of_blk (p := []) (q := rest) hblk4.out HLZ.out hmn (by omega)
            have HSL := Lib.hid hsl
            have HLT := trimL_len zs
            rw [HLZ.out] at HLT
            clear hve hy hy0 hle hsl
            go_wp2_with (go_at_call 21; refine (nat_trim _ _ _ zs _ HSL.out).mono ?_; rintro e w' ⟨rfl, rfl⟩)
            go_roundw
            case rel =>
              refine ⟨trimL zs, es, (trimL zs).length, nums .u64 (zs.drop (trimL zs).length) ++ rest, rfl, Lib.hid rfl, by omega, Lib.hid ?_, Lib.hid (trimL_idem zs), trimL_dig hdz3, hown4, hde, Lib.hid ?_, hb4⟩
              · rw [← List.append_assoc, ← nums_append]
                have e1 : trimL zs ++ zs.drop (trimL zs).length = zs := by
                  conv => lhs; lhs; rw [trimL_take]
                  exact List.take_append_drop _ _
                rw [e1]; exact hblk4.out
              · rw [HE.out, HLE.out, val_trim]; exact HV2.out
            case measure =>
              have m1 := HSL0.out
              have m2 : slLen _ = es.length := (owns_len hown4).trans (dig48_len es)
              have m3 := HLE.out
              first
                | omega
                | (simp; omega)
      · have hm0 : m = 0 := by omega
        subst hm0
        have HE : Hid (val 10 ds = x) := Lib.hid (by
          have h1 := hly.out
          have h2 : ys = [] := List.eq_nil_of_length_eq_zero h1
          have h3 := hval.out
          rw [h2] at h3
          simpa [val] using h3)
        have hdl : 0 < (dig48 ds).length := by
          rw [dig48_len]
          apply Nat.pos_of_ne_zero
          intro e
          have e2 : ds = [] := List.eq_nil_of_length_eq_zero e
          have e3 := HE.out
          rw [e2] at e3
          simp [val] at e3
          omega
        obtain ⟨gt, cap, rt, rfl, hgt, hcap, hcapb, hblkt⟩ := Blk.of_owns hown hdl
        rw [dig48_len] at hcap
        have HT := Lib.hid hblkt
        obtain ⟨L, hL⟩ : ∃ L, L = ds.length := ⟨_, rfl⟩
        have HLL := Lib.hid hL
        have hsv : (Value.slice (some ⟨gt, 0, none⟩) (dig48 ds).length cap) = .slice (some ⟨gt, 0, none⟩) L cap := by rw [dig48_len, hL]
        rw [hsv]
        have hLb : (L : Int) ≤ 9223372036854775807 := by omega
        have hLc : L ≤ cap := by omega
        have hLp : 0 < L := by rw [dig48_len] at hdl; omega
        clear hly hblk hty hval hown hblkt hdl hsv hcap hL
        go_wp2
        go_loop [3] (fun tv => ∃ j : Nat, tv = .slice (some ⟨gt, 0, none⟩) j cap ∧ 0 < j ∧ j ≤ L ∧ Hid (trimL (ds.take j) = trimL ds)) (fun tv => slLen tv)
        case atStart => exact ⟨L, rfl, hLp, Nat.le_refl _, Lib.hid (by rw [HLL.out, List.take_length])⟩
        case round =>
          obtain ⟨j, rfl, hj, hjL, htr⟩ := hrel
          have hdj : j - 1 < ds.length := by rw [← HLL.out]; omega
          have hc := HT.out.cell (j - 1)
          rw [List.getElem?_append_left (by rw [nums_length, dig48_len]; exact hdj), nums_get _ _ _ (by rw [dig48_len]; exact hdj)] at hc
          obtain ⟨e, he⟩ : ∃ e, e = ds.getD (j - 1) 0 := ⟨_, rfl⟩
          have he48 : (dig48 ds).getD (j - 1) 0 = 48 + e := by
            rw [he, List.getD_eq_getElem?_getD, List.getD_eq_getElem?_getD, dig48, List.getElem?_map, List.getElem?_eq_getElem hdj]; rfl
          rw [he48] at hc
          have hcell : World.cell? _ ⟨gt, j - 1, none⟩ = some (.int .u8 (48 + (e : Int))) := hc.trans (by simp)
          have hsp : ds.take j = ds.take (j - 1) ++ [e] := by
            have := List.take_append_getElem (l := ds) (i := j - 1) hdj
            rw [show j - 1 + 1 = j from by omega] at this
            rw [← this, he, List.getD_eq_getElem?_getD, List.getElem?_eq_getElem hdj]; rfl
          have HSP := Lib.hid hsp
          clear hc he he48 hsp hdj
          by_cases he0 : e = 0
          · subst he0
            have HTR : Hid (trimL (ds.take (j - 1)) = trimL ds) := Lib.hid (by rw [← htr.out, HSP.out, trimL_snoc_zero])
            have hj1 : 0 < j - 1 := by
              apply Nat.pos_of_ne_zero
              intro ej
              have h1 := HTR.out
              rw [ej, List.take_zero] at h1
              have h2 := val_trim 10 ds
              rw [← h1, HE.out] at h2
              simp [trimL, val] at h2
              omega
            have hcell0 : World.cell? _ ⟨gt, j - 1, none⟩ = some (.int .u8 48) := hcell
            clear hcell htr
            go_wp2
            go_round
            case rel => exact ⟨j - 1, by first | rfl | (congr 1; omega), hj1, by omega, HTR⟩
            case measure => simp [slLen]; omega
          · have hne : ((48 : Int) + (e : Int) == 48) = false := beq_eq_false_iff_ne.2 (by omega)
            have HD : Hid (trimL ds = ds.take j) := Lib.hid (by rw [← htr.out, HSP.out, trimL_snoc_pos _ _ he0])
            have hlen : (dig48 (ds.take j)).length = j := by rw [dig48_len, List.length_take, ← HLL.out]; omega
            have e3 : nums .u8 (dig48 ds) ++ rt = nums .u8 (dig48 (ds.take j)) ++ (nums .u8 (dig48 (ds.drop j)) ++ rt) := by
              rw [← List.append_assoc, ← nums_append]
              rw [show dig48 (ds.take j) ++ dig48 (ds.drop j) = dig48 ds from by rw [dig48, dig48, dig48, ← List.map_append, List.take_append_drop]]
            have hb2 := HT.out
            rw [e3] at hb2
            clear e3
            have HB2 := Lib.hid hb2
            have HLE := Lib.hid hlen
            clear hlen hb2 htr HSP
            go_wp2_with fail
            refine (slices_Reverse gt j cap _ _ _ HB2.out HLE.out (by omega)).mono ?_
            rintro e2 w5 ⟨rfl, hblk5, hg5⟩
            have hcv := run_convert_bytes_arg (P := Try.prog) w5 53 5 Try.underlying53 Try.underlying5 gt 0 j cap ((dig48 (ds.take j).reverse).map fun x : Nat => (x : Int)) (by rw [List.length_map, dig48_len, List.length_reverse, ← dig48_len, HLE.out]) (fun i hi => by
              have hc := hblk5.cell i
              rw [dig48_rev] at hc
              have hl : i < (dig48 (ds.take j).reverse).length := by rw [dig48_len, List.length_reverse, ← dig48_len, HLE.out]; exact hi
              rw [List.getElem?_append_left (by rw [nums_length]; exact hl), nums_get _ _ _ hl] at hc
              rw [Nat.zero_add, hc, List.getD_eq_getElem?_getD, List.getD_eq_getElem?_getD, List.getElem?_map, List.getElem?_eq_getElem hl]
              rfl) 9 Try.underlying9
            rw [str_dec] at hcv
            have HDD := hdd
            clear hblk5 hdd
            go_wp2
            go_ret
            refine ⟨_, rfl, .inr ⟨hxp, trimL ds, trimL_dig HDD, trimL_idem _, by rw [val_trim]; exact HE.out, by rw [HD.out]⟩, hb.grown hg5 hb.size (fun k hk => by cases hk; exact hgt)⟩

end Go.Proofs.Ytmjinhieeflkgaa
