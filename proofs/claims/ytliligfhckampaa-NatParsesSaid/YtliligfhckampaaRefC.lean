/- The contract of the document's String. -/
import Derived.Test.YtliligfhckampaaRefB
import Derived.Test.YtliligfhckampaaStr
namespace Go.Proofs.Ytliligfhckampaa
open Go.RowKit

def strLen : Value → Nat
  | .string s => s.size
  | _ => 0

theorem decB_size (ds : List Nat) : (decB ds).size = ds.length := by simp [decB, ByteArray.size]

theorem decB_snoc (ds : List Nat) (d : Nat) : strOfNums [((48 + d : Nat) : Int)] ++ decB ds = decB (ds ++ [d]) := by
  have h : (strOfNums [((48 + d : Nat) : Int)] ++ decB ds).data.toList = (decB (ds ++ [d])).data.toList := by
    have h1 : (strOfNums [((48 + d : Nat) : Int)] ++ decB ds).data = (strOfNums [((48 + d : Nat) : Int)]).data ++ (decB ds).data := ByteArray.data_append
    rw [h1, Array.toList_append, strOfNums_data]
    simp only [decB, List.reverse_append, List.reverse_cons, List.reverse_nil, List.nil_append, List.map_append, List.map_cons, List.map_nil, List.toList_toArray, Int.toNat_natCast]
  have h2 := Array.toList_inj.1 h
  cases hs : strOfNums [((48 + d : Nat) : Int)] ++ decB ds with
  | mk a =>
    cases hd : decB (ds ++ [d]) with
    | mk b =>
      rw [hs, hd] at h2
      exact congrArg _ h2

/-- One digit of a long division by a small number. -/
theorem over_stepG {b d left x : Nat} {zs ys : List Nat} (hd : 0 < d) (hv : val b zs = d * val b ys + left) (hx : x < b) (hl : left < d) :
    val b (x :: zs) = d * val b ((left * b + x) / d :: ys) + (left * b + x) % d ∧ (left * b + x) / d < b ∧ (left * b + x) % d < d := by
  refine ⟨?_, ?_, Nat.mod_lt _ hd⟩
  · have h := Nat.div_add_mod (left * b + x) d
    generalize (left * b + x) / d = q at *
    generalize (left * b + x) % d = r at *
    simp only [val]
    rw [hv, Nat.mul_add b, Nat.mul_add d, ← Nat.mul_assoc b d, Nat.mul_comm b d, Nat.mul_assoc d b, Nat.mul_comm b left]
    omega
  · rw [Nat.div_lt_iff_lt_mul hd, Nat.mul_comm b d]
    have : (left + 1) * b ≤ d * b := Nat.mul_le_mul_right _ hl
    rw [Nat.add_mul, Nat.one_mul] at this
    omega

theorem dec_ge {L v V x : Nat} (h : V + 10 ^ L * v = x) (hv : 0 < v) : 10 ^ L ≤ x := by
  have h3 : 10 ^ L * 1 ≤ 10 ^ L * v := Nat.mul_le_mul_left _ hv
  omega

theorem dec_one {L V r xv yv x : Nat} (hx : V + 10 ^ L * xv = x) (hxv : xv = 10 * yv + r) : V + 10 ^ L * r + 10 ^ (L + 1) * yv = x := by
  rw [← hx, hxv, Nat.pow_succ, Nat.mul_add, Nat.mul_assoc]
  omega

set_option maxHeartbeats 4000000 in
theorem ref_String (A : Option Addr) (n c x : Nat) (w : World) (h : Rep .i64 65536 w A n c x) (hn : n ≤ 1099511627776) (hx : x < Lim) :
    Calls Try.prog 18 #[.slice A n c] w fun e w' => ∃ s, e = .returned (.string s) ∧ IsDec x s ∧ Below w.heap.size w w' := by
  have hx4 : x < 2 ^ (64 * 64) := by unfold Lim at hx; rw [B64_pow, ← Nat.pow_mul] at hx; exact hx
  obtain ⟨i0, hi, hz0, hz1, hz2⟩ := info_parts Try.info3
  obtain ⟨xs, h1, h2, h3, h4⟩ := h
  have H := Lib.hid h1
  have H4 := Lib.hid h4
  have H3 := Lib.hid h3
  have HX4 := Lib.hid hx4
  clear h1 h4 h3 hx4 hx
  go_enter Try.func18, Try.ntmps18
  go_wp2
  go_loopw [0, 3] (fun av sv wr => ∃ (A' : Option Addr) (m k : Nat) (ys ds : List Nat), av = .slice A' m k ∧ m ≤ n ∧ Hid (Sl .i64 wr A' m k ys) ∧ Hid (trimL ys = ys) ∧ Dig 65536 ys ∧ sv = .string (decB ds) ∧ Dig 10 ds ∧
      Hid (val 10 ds + 10 ^ ds.length * val 65536 ys = x) ∧ Hid (∀ j, ds.length = j + 1 → 10 ^ j ≤ x) ∧ Below w.heap.size w wr) (fun _ sv _ => 4200 - strLen sv)
  case atStart => exact ⟨A, n, c, xs, [], rfl, Nat.le_refl _, H, H3, h2, rfl, Dig.nil _, Lib.hid (by simp [val]; exact H4.out), Lib.hid (fun j hj => by simp at hj), Below.refl _ _⟩
  case round =>
    clear H3 H4 h2
    obtain ⟨A', m, k, ys, ds, rfl, hmn, hsl, hty, hdy, rfl, hdd, hval, htop, hb⟩ := hrel
    rename World => wo
    by_cases hm : 0 < m
    · have hlen := hsl.out.1
      have hvp : 0 < val 65536 ys := Nat.pos_of_ne_zero fun e => by
        have e1 := trim_val_zero (by omega) hty.out e
        rw [e1] at hlen
        simp at hlen
        omega
      have hL := dec_len hval.out hvp HX4.out
      have HGE := Lib.hid (dec_ge hval.out hvp)
      obtain ⟨b, off, rfl, hbl, hc⟩ := hsl.out.block hm
      have HC := Lib.hid hc
      have HLEN := Lib.hid hlen
      have hmb : (m : Int) ≤ 1099511627776 := by omega
      have hszb := hb.size
      clear hlen hvp hc htop hty
      go_wp2_with (first
        | (at_make
           refine wpList_make_full _ rfl _ _ 26 rfl wo.heap.size 3 i0 (.int .i64 0) 1 Try.underlying26 hi hz0 hz1 .i64 .i64 _ _ m rfl rfl rfl rfl (by rw [hz2]; omega) (by simp only [maxLen]; omega) (Nat.le_refl _) ?_
           intro w1 hown hgr
           have hblk := Lib.hid (Blk.of_make hown (by omega))
           have hb1 : Below wo.heap.size wo w1 := (Below.refl _ _).grown hgr (Nat.le_refl _) (fun k hk => by cases hk)
           clear hown hgr))
      have hsl0 := hsl
      have HHB := Lib.hid hb
      clear hsl hb
      go_loopw [4, 6] (fun rv iv wx => ∃ (j r : Nat) (zs : List Nat), iv = .int .i64 ((j : Int) - 1) ∧ rv = .int .i64 r ∧ j ≤ m ∧ Hid (Blk wx wo.heap.size 3 (nums .i64 (List.replicate j 0 ++ zs))) ∧ Hid (zs.length = m - j) ∧ Dig 65536 zs ∧ r < 10 ∧
          Hid (val 65536 (ys.drop j) = 10 * val 65536 zs + r) ∧ Below wo.heap.size wo wx) (fun _ iv _ => (intOf iv + 1).toNat)
      case atStart => exact ⟨m, 0, [], rfl, rfl, Nat.le_refl _, Lib.hid (by rw [List.append_nil, nums_replicate]; exact hblk.out), Lib.hid (by simp), Dig.nil _, by omega, Lib.hid (by rw [List.drop_of_length_le (by rw [HLEN.out]; omega)]; rfl), hb1⟩
      case round =>
        clear hblk hb1
        obtain ⟨j, r, zs, rfl, rfl, hj, hbk, hlz, hdz, hr, hvz, hbw⟩ := hrel
        by_cases hj0 : 0 < j
        · obtain ⟨p, rfl⟩ : ∃ p, j = p + 1 := ⟨j - 1, by omega⟩
          have hpi : (((p + 1 : Nat) : Int) - 1) = (p : Int) := by omega
          rw [hpi]
          have hpl : p < ys.length := by rw [HLEN.out]; omega
          have hc0 := HC.out p (by omega)
          have hd0 := hdy.getD (by omega) p
          obtain ⟨d, hd⟩ : ∃ d, d = ys.getD p 0 := ⟨_, rfl⟩
          rw [← hd] at hc0 hd0
          have hcell := (hbw.cell (p := ⟨b, off + p, none⟩) hbl).trans hc0
          have hdr : ys.drop p = d :: ys.drop (p + 1) := by
            rw [hd, List.getD_eq_getElem?_getD, List.getElem?_eq_getElem hpl]; exact List.drop_eq_getElem_cons hpl
          have hb2 : Blk wr wo.heap.size 3 (nums .i64 (List.replicate p 0 ++ 0 :: zs) ++ []) := by
            rw [List.append_nil]
            have := hbk.out
            rw [List.replicate_succ', List.append_assoc] at this
            exact this
          have hcz := hb2.cell p
          rw [List.append_nil, nums_get _ _ _ (by simp), List.getD_eq_getElem?_getD, List.getElem?_append_right (by simp), List.length_replicate, Nat.sub_self] at hcz
          have hfz := hb2.frozen p
          have hst := over_stepG (b := 65536) (d := 10) (by omega) hvz.out hd0 hr
          obtain ⟨Q, hQ⟩ : ∃ Q, Q = (r * 65536 + d) / 10 := ⟨_, rfl⟩
          obtain ⟨R, hR⟩ : ∃ R, R = (r * 65536 + d) % 10 := ⟨_, rfl⟩
          rw [← hQ, ← hR] at hst
          have eQ : ((r : Int) * 65536 + (d : Int)) / 10 = (Q : Int) := by omega
          have eR : ((r : Int) * 65536 + (d : Int)) % 10 = (R : Int) := by omega
          have HST := Lib.hid hst
          have HDR := Lib.hid hdr
          have HB2 := Lib.hid hb2
          clear hc0 hd hdr hb2 hst hQ hR hvz hbk hpi hpl
          go_wp2
          go_roundw
          case rel =>
            refine ⟨p, R, Q :: zs, by go_num, by go_num, by omega, Lib.hid ?_, Lib.hid (by have := hlz.out; simp; omega), Dig.cons HST.out.2.1 hdz, HST.out.2.2, Lib.hid ?_, hbw.setCell (Nat.le_refl _) _⟩
            · have := HB2.out.set_ p (.int .i64 (Q : Int))
              have e2 := set_mid (k := .i64) (a := List.replicate p 0) (b := zs) (rest := []) (x := 0) (y := Q) (v := Q) rfl
              rw [List.length_replicate] at e2
              rw [e2, List.append_nil] at this
              exact this
            · rw [HDR.out]; exact HST.out.1
          case measure => simp [intOf]
        · have hj00 : j = 0 := by omega
          subst hj00
          have HVZ : Hid (val 65536 ys = 10 * val 65536 zs + r) := hvz
          have hbz : Hid (Blk wr wo.heap.size 3 (nums .i64 zs)) := hbk
          have HSZ := Lib.hid (Sl.of_blk0 (n := m) (c := m) hbz.out (by rw [hlz.out]; omega) (Nat.le_refl _) (by omega))
          have HLT := trimL_len zs
          rw [hlz.out] at HLT
          have HN := Lib.hid (dec_one hval.out HVZ.out)
          clear hvz hbk hlz hbz hval
          go_wp2_with (go_at_call 35; refine (ref_trim _ _ _ zs _ HSZ.out).mono ?_; rintro e w' ⟨rfl, rfl⟩)
          have hcv := run_convert_bytes_arg (P := Try.prog) (w := wr.alloc (.cells #[.int .u8 (48 + (r : Int))] 5)) 60 5 Try.underlying60 Try.underlying5 wr.heap.size 0 1 1 [48 + (r : Int)] rfl (fun i hi => by
            have : i = 0 := by omega
            subst this
            exact World.cell?_alloc_at (w := wr) #[.int .u8 (48 + (r : Int))] 5 wr.heap.size 0 rfl) 9 Try.underlying9
          have hadd : ¬ 9223372036854775807 < (strOfNums [48 + (r : Int)]).size + (decB ds).size := by rw [strOfNums_size, decB_size]; simp; omega
          have hsn : strOfNums [48 + (r : Int)] ++ decB ds = decB (ds ++ [r]) := by
            rw [← decB_snoc]; rfl
          have HSN := Lib.hid hsn
          clear hsn
          go_wp2
          simp only [hcv]
          clear hcv
          go_simp
          go_wp2
          go_roundw
          case rel =>
            have HO := hbw
            refine ⟨_, _, _, trimL zs, ds ++ [r], rfl, by omega, Lib.hid ?_, Lib.hid (trimL_idem zs), trimL_dig hdz, by rw [HSN.out], hdd.app (Dig.cons hr (Dig.nil _)), Lib.hid ?_, Lib.hid ?_, ?_⟩
            · have h1 := HSZ.out.take (trimL zs).length (Nat.le_trans (trimL_len zs) (Nat.le_of_eq HSZ.out.1))
              rw [← trimL_take] at h1
              exact h1.alloc _
            · rw [List.length_append, val_snoc, val_trim]; exact HN.out
            · intro j hj
              have : j = ds.length := by simp at hj; omega
              rw [this]; exact HGE.out
            · exact (HHB.out.trans (hbw.mono hszb)).alloc (Nat.le_trans hszb hbw.size) _
          case measure =>
            simp [strLen, decB_size, HSN.out]
            omega
    · have hm0 : m = 0 := by omega
      subst hm0
      have HE : Hid (val 10 ds = x) := Lib.hid (by
        have h1 := hsl.out.1
        have h2 : ys = [] := List.eq_nil_of_length_eq_zero h1
        have h3 := hval.out
        rw [h2] at h3
        simpa [val] using h3)
      by_cases hd0 : ds = []
      · subst hd0
        have hx0 : x = 0 := HE.out.symm
        have hs0 : decB [] = ⟨#[]⟩ := rfl
        clear hsl hty hval htop
        go_wp2
        go_ret
        exact ⟨_, rfl, .inl ⟨hx0, rfl⟩, hb⟩
      · obtain ⟨j, hj⟩ : ∃ j, ds.length = j + 1 := ⟨ds.length - 1, by have := List.length_pos_iff.2 hd0; omega⟩
        have hge := htop.out j hj
        have HT := Lib.hid (trimmed_of_val hdd hj (by rw [HE.out]; exact hge))
        have hxp : 0 < x := Nat.lt_of_lt_of_le (Nat.pow_pos (by omega)) hge
        obtain ⟨s, hs⟩ : ∃ s, s = decB ds := ⟨_, rfl⟩
        have hne : s.toList.isEmpty = false := by
          rw [List.isEmpty_eq_false_iff]
          intro e
          have h1 : s.size = j + 1 := by rw [hs, decB_size, hj]
          rw [ByteArray.toList_eq] at e
          have h2 : s.size = s.data.toList.length := Array.length_toList.symm
          rw [e] at h2
          rw [h1] at h2
          cases h2
        rw [← hs]
        have HS := Lib.hid hs
        clear hsl hty hval htop hj hge hs
        go_wp2
        go_ret
        exact ⟨_, rfl, .inr ⟨hxp, ds, hdd, HT.out, HE.out, HS.out⟩, hb⟩

end Go.Proofs.Ytliligfhckampaa
