/- The contract of nat's divide: long division by words. -/
import Derived.Test.YtmjinhieeflkgaaDoorRRRRQuoMathB
import Derived.Test.YtmjinhieeflkgaaDoorRRRRDivB
import Derived.Test.YtmjinhieeflkgaaDoorRRRRShift
namespace Go.Proofs.YtmjinhieeflkgaaDoorRRRR
open Go.RowKit

theorem bits_LZg (y : Nat) (w : World) (h2 : y < B64) :
    Calls Tryd.prog 42 #[.int .u64 y] w fun e w' => e = .returned (.int .i64 (64 - bl y : Nat)) ∧ w = w' := by
  have h4 : bl y ≤ 64 := bl_le.2 (by rw [← B64_pow]; exact h2)
  have hb : Lib.bitLen y = bl y := bitLen_bl y (by rw [← B64_pow]; exact h2)
  rw [B64_eq] at h2
  refine (Tryd.bits_LeadingZeros64 (y : Int) w (by omega) (by omega)).mono ?_
  rintro e w' ⟨rfl, rfl⟩
  exact ⟨ret_int (by rw [Int.toNat_natCast, hb]; omega), rfl⟩

theorem Blk.sl {k : IntKind} {w : World} {g t n : Nat} {xs : List Nat} (h : Blk w g t (nums k xs)) (hl : xs.length = n) (hn : n ≤ 1099511627776) : Sl k w (some ⟨g, 0, none⟩) n n xs :=
  Sl.of_blk0 h hl (Nat.le_refl _) (by omega)

set_option maxHeartbeats 4000000 in
set_option maxRecDepth 100000 in
theorem nat_divide (A : Option Addr) (n c x : Nat) (B : Option Addr) (m cb y : Nat) (w : World) (h : Rep .u64 B64 w A n c x) (h' : Rep .u64 B64 w B m cb y) (hm0 : 0 < m) (hmn : m ≤ n) (hn : n ≤ 100000000) :
    Calls Tryd.prog 24 #[.slice A n c, .slice B m cb] w fun e w' => ∃ (A1 : Option Addr) (n1 c1 : Nat) (A2 : Option Addr) (n2 c2 : Nat) (Q R : List Nat), e = .returned (.tuple #[.slice A1 n1 c1, .slice A2 n2 c2]) ∧
      Sl .u64 w' A1 n1 c1 Q ∧ Dig B64 Q ∧ val B64 Q = x / y ∧ Sl .u64 w' A2 n2 c2 R ∧ Dig B64 R ∧ val B64 R = x % y ∧ Below w.heap.size w w' := by
  obtain ⟨i0, hi, hz0, hz1, hz2⟩ := info_parts Tryd.info43
  obtain ⟨xs, h1, h2, h3, h4⟩ := h
  obtain ⟨ys, k1, k2, k3, k4⟩ := h'
  obtain ⟨k, hk⟩ : ∃ k, m = k + 1 := ⟨m - 1, by omega⟩
  obtain ⟨hnt, hs, hD1, hD2⟩ := norm_top k2 (by rw [k1.1]; exact hk) k3
  obtain ⟨b, off, rfl, hbl, hcy⟩ := k1.block hm0
  have hcell := hcy k (by omega)
  have htb := k2.getD B64_pos k
  obtain ⟨top, htop⟩ : ∃ top, top = ys.getD k 0 := ⟨_, rfl⟩
  rw [← htop] at hcell htb hnt hs hD1 hD2
  obtain ⟨s, hse⟩ : ∃ s, s = 64 - bl top := ⟨_, rfl⟩
  rw [← hse] at hs hD1 hD2
  have HLZ := Lib.hid (fun W => bits_LZg top W htb)
  rw [← hse] at HLZ
  obtain ⟨D, hD⟩ : ∃ D, D = val B64 ys * 2 ^ s := ⟨_, rfl⟩
  obtain ⟨X, hX⟩ : ∃ X, X = val B64 xs * 2 ^ s := ⟨_, rfl⟩
  rw [← hD] at hD1 hD2
  have HX : Hid (X < B64 ^ (n + 1)) := Lib.hid (by rw [hX]; exact raised_fits (by have := val_lt h2; rw [h1.1] at this; exact this) hs)
  have HXL : Hid (X < B64 ^ (n - m + 1) * D) := Lib.hid (by
    have e1 : X < B64 ^ n * 2 ^ s := by rw [hX]; exact Nat.mul_lt_mul_of_pos_right (by have := val_lt h2; rw [h1.1] at this; exact this) (Nat.two_pow_pos s)
    have e2 : 2 ^ s ≤ 9223372036854775808 := by rw [show 9223372036854775808 = 2 ^ 63 from rfl]; exact Nat.pow_le_pow_right (by omega) (by omega)
    have e3 : B64 ^ n * 2 ^ s ≤ B64 ^ (n - m + 1) * (B64 ^ k * 9223372036854775808) := by
      rw [← Nat.mul_assoc, ← Nat.pow_add, show n - m + 1 + k = n from by omega]
      exact Nat.mul_le_mul_left _ e2
    have e4 := Nat.mul_le_mul_left (B64 ^ (n - m + 1)) hD2
    omega)
  have H1 := Lib.hid h1
  have K1 := Lib.hid k1
  have HXE := Lib.hid hX
  have HDE := Lib.hid hD
  have H4 := Lib.hid h4
  have K4 := Lib.hid k4
  have HK := Lib.hid hk
  have HD1 := Lib.hid hD1
  have HD2 := Lib.hid hD2
  have hix : (m : Int) - 1 = (k : Int) := by omega
  clear h1 k1 h3 k3 h4 k4 hk hnt hD1 hD2 htop hse hD hX hcy
  go_enter Tryd.func24, Tryd.ntmps24
  go_wp2_with fail
  refine (HLZ.out _).mono ?_
  rintro e w0 ⟨rfl, rfl⟩
  go_wp2_with fail
  refine (nat_clone (some ⟨b, off, none⟩) m cb ys _ K1.out (by omega)).mono ?_
  rintro e w1 ⟨gd, rfl, hgd, hbd, hb1⟩
  have HBD := Lib.hid hbd
  have HB1 := Lib.hid hb1
  clear hbd hb1
  go_wp2_with fail
  refine (nat_raise gd 0 m m s [] ys [] w1 (by rw [List.append_nil]; exact HBD.out) rfl K1.out.1 k2 (by omega) hs).mono ?_
  rintro e w2 ⟨ds, o, rfl, hbd2, hld, hdd, hvd, hg2⟩
  rw [← HDE.out] at hvd
  have hvd2 : o = 0 ∧ val B64 ds = D := no_out hvd (by rw [HK.out]; exact HD1.out)
  have HVD : Hid (val B64 ds = D) := Lib.hid hvd2.2
  have HBD2 : Hid (Blk w2 gd 43 (nums .u64 ds)) := Lib.hid (by have := hbd2; rw [List.nil_append, List.append_nil] at this; exact this)
  have HLD := Lib.hid hld
  have HB2 : Hid (Below w.heap.size w w2) := Lib.hid (HB1.out.grown hg2 HB1.out.size (fun k hk => by cases hk; exact hgd))
  have HH1 := Lib.hid (H1.out.keep HB2.out)
  clear hbd2 hld hvd hvd2 hg2
  go_wp2_with fail
  refine (nat_widened A n c (n + 1) xs _ HH1.out (by omega) (by omega)).mono ?_
  rintro e w3 ⟨gl, rfl, hgl, hbl3, hb3⟩
  have HBL3 := Lib.hid hbl3
  have HBD3 := Lib.hid (HBD2.out.keep hb3)
  have hdl : gd < gl := Nat.lt_of_lt_of_le HBD2.out.lt hgl
  have HB3 : Hid (Below w.heap.size w w3) := Lib.hid (HB2.out.trans (hb3.mono HB2.out.size))
  have hgl0 : w.heap.size ≤ gl := Nat.le_trans HB2.out.size hgl
  clear hbl3 hb3
  have hpl : n + 1 - n = 1 := by omega
  have HPL := Lib.hid hpl
  clear hpl
  go_wp2_with fail
  refine (nat_raise gl 0 (n + 1) (n + 1) s [] (xs ++ List.replicate (n + 1 - n) 0) [] w3 (by rw [List.append_nil]; exact HBL3.out) rfl (by rw [List.length_append, List.length_replicate, H1.out.1]; omega) (h2.app (Dig.replicate B64_pos _)) (by omega) hs).mono ?_
  rintro e w4 ⟨L0, o2, rfl, hbl4, hll, hdl4, hvl, hg4⟩
  have hex : val B64 (xs ++ List.replicate (n + 1 - n) 0) * 2 ^ s = X := by rw [HXE.out, val_append, val_replicate, Nat.mul_zero, Nat.add_zero]
  rw [hex] at hvl
  have hvl2 : o2 = 0 ∧ val B64 L0 = X := no_out hvl HX.out
  have HVL : Hid (val B64 L0 = X) := Lib.hid hvl2.2
  have HBL4 : Hid (Blk w4 gl 43 (nums .u64 L0)) := Lib.hid (by have := hbl4; rw [List.nil_append, List.append_nil] at this; exact this)
  have HBD4 := Lib.hid (HBD3.out.grown hg4 (by intro e; injection e with e; omega))
  have HLL := Lib.hid hll
  have HB4 : Hid (Below w.heap.size w w4) := Lib.hid (HB3.out.grown hg4 HB3.out.size (fun k hk => by cases hk; exact hgl0))
  have hsz4 : gl < w4.heap.size := HBL4.out.lt
  clear hbl4 hll hvl hvl2 hg4 hex
  obtain ⟨lq, hlq⟩ : ∃ lq, lq = n - m + 1 := ⟨_, rfl⟩
  have HLQ := Lib.hid hlq
  have hlqx : (n : Int) - (m : Int) + 1 = (lq : Int) := by omega
  have hlqb : lq ≤ 100000000 := by omega
  clear hlq
  go_wp2_with (at_make; refine wpList_make_full _ rfl _ _ 22 rfl w4.heap.size 43 i0 (.int .u64 0) 1 Tryd.underlying22 hi hz0 hz1 .i64 .i64 _ _ lq rfl rfl rfl rfl (by rw [hz2]; omega) (by simp only [maxLen]; omega) (Nat.le_refl _) ?_; intro w5 hown hgr; have hbq5 := Lib.hid (Blk.of_make hown (by omega)); have hb5 := Lib.hid ((Below.refl w4.heap.size w4).grown hgr (Nat.le_refl _) (fun k hk => by cases hk)); clear hown hgr)
  have HBL5 := Lib.hid (HBL4.out.keep hb5.out)
  have HBD5 := Lib.hid (HBD4.out.keep hb5.out)
  have HBQ5 : Hid (Blk w5 w4.heap.size 43 (nums .u64 (List.replicate lq 0 ++ []))) := Lib.hid (by rw [List.append_nil, nums_replicate]; exact hbq5.out)
  have HB5 : Hid (Below w.heap.size w w5) := Lib.hid (HB4.out.trans (hb5.out.mono HB4.out.size))
  have hgq0 : w.heap.size ≤ w4.heap.size := HB4.out.size
  have HLM : Hid (lq + m = n + 1) := Lib.hid (by have := HLQ.out; omega)
  have HDM : Hid (D ≤ B64 ^ m) := Lib.hid (by rw [HK.out]; exact Nat.le_of_lt HD1.out)
  have HDP : Hid (0 < D) := Lib.hid (by
    have := Nat.mul_pos (Nat.pow_pos (n := k) B64_pos) (show 0 < 9223372036854775808 by omega)
    exact Nat.lt_of_lt_of_le this HD2.out)
  have HTOP : Hid (9223372036854775808 ≤ ds.getD (m - 1) 0) := Lib.hid (by
    rw [show m - 1 = k from by have := HK.out; omega]
    exact top_word (by rw [HLD.out, HK.out]) hdd (by rw [HVD.out]; exact HD2.out))
  clear hbq5 hb5
  go_loopw [39] (fun jv wr => ∃ (j k2 : Nat) (L Qs : List Nat), jv = .int .i64 j ∧ j + k2 = lq ∧ Hid (Blk wr gl 43 (nums .u64 L)) ∧ Hid (L.length = n + 1) ∧ Dig B64 L ∧ Hid (Blk wr w4.heap.size 43 (nums .u64 (List.replicate k2 0 ++ Qs))) ∧ Hid (Qs.length = j) ∧ Dig B64 Qs ∧
      Hid (Blk wr gd 43 (nums .u64 ds)) ∧ Hid (val B64 L + D * (B64 ^ k2 * val B64 Qs) = X) ∧ Hid (val B64 (L.drop k2) < D) ∧ Hid (Below w.heap.size w wr)) (fun jv _ => lq - (intOf jv).toNat)
  case atStart =>
    refine ⟨0, lq, L0, [], rfl, by omega, HBL5, Lib.hid (by rw [HLL.out]), hdl4, HBQ5, Lib.hid rfl, Dig.nil _, HBD5, Lib.hid (by rw [HVL.out]; simp [val]), Lib.hid ?_, HB5⟩
    have e1 : val B64 L0 = val B64 (L0.take lq) + B64 ^ lq * val B64 (L0.drop lq) := by
      conv => lhs; rw [← List.take_append_drop lq L0]
      rw [val_append, List.length_take, Nat.min_eq_left (by have := HLL.out; have := HLM.out; omega)]
    have e2 := HXL.out
    rw [← HLQ.out, ← HVL.out, e1] at e2
    exact Nat.lt_of_mul_lt_mul_left (a := B64 ^ lq) (by omega)
  case round =>
    clear HBL5 HBD5 HBQ5 HB5
    obtain ⟨j, k2, L, Qs, rfl, hjk, hbl, hlL, hdL, hbq, hlQ, hdQs, hbd, hvL, hdr, hB⟩ := hrel
    by_cases hlt : j < lq
    · obtain ⟨k1, rfl⟩ : ∃ k1, k2 = k1 + 1 := ⟨k2 - 1, by omega⟩
      obtain ⟨P, Q, t, Z, hLs, hP, hQ, hdP, hdQ, ht, hdZ, hvZ, hltD, hvLs⟩ := div_split (m := m) hdL (by have := HLM.out; rw [hlL.out]; omega) hdr.out HDM.out
      have hV0 := hvL.out
      rw [hvLs] at hV0
      have HV0 := Lib.hid hV0
      have HBL : Hid (Blk wr gl 43 (nums .u64 (P ++ (Q ++ t :: Z)))) := Lib.hid (by rw [← hLs]; exact hbl.out)
      have HLEN : Hid (P.length + (m + 1 + Z.length) = n + 1) := Lib.hid (by have := hlL.out; rw [hLs, List.length_append, List.length_append, List.length_cons, hQ] at this; omega)
      have HP := Lib.hid hP
      have HQ := Lib.hid hQ
      have HVZ := Lib.hid hvZ
      have HLT : Hid (val B64 (Q ++ [t]) < B64 * val B64 ds) := Lib.hid (by rw [HVD.out]; exact hltD)
      have hkm : k1 + m + 1 ≤ n + 1 := by have := HLM.out; omega
      have hat : (lq : Int) - 1 - (j : Int) = (k1 : Int) := by omega
      have hs1 : (k1 : Int) ≤ (k1 : Int) + (m : Int) + 1 := by omega
      have hs1' : (k1 : Int) + (m : Int) + 1 ≤ (n : Int) + 1 := by omega
      have hs0 : (0 : Int) ≤ (k1 : Int) + (m : Int) + 1 := by omega
      have hs2 : ¬ n + 1 = k1 := by omega
      have hs3 : ((k1 : Int) + (m : Int) + 1).toNat = k1 + m + 1 := by omega
      have hs4 : k1 + m + 1 - k1 = m + 1 := by omega
      clear hLs hP hQ hvZ hltD hvLs hV0 hlL hvL hdr hbl
      go_wp2_with fail
      refine (nat_quotientWord gl k1 m _ m t (some ⟨gd, 0, none⟩) P Q Z ds wr HBL.out HP.out HQ.out hdQ ht (hbd.out.sl HLD.out (by omega)) hdd hm0 (by omega) (by omega) ?_ HTOP.out HLT.out (fun _ b' o' e => by
        injection e with e
        injection e with e
        omega)).mono ?_
      · omega
      · rintro e w6 ⟨mq, M, rfl, hb6, hlM, hdM, hmqb, hmq, hvM, hg6⟩
        have hbqm : Blk w6 w4.heap.size 43 (nums .u64 (List.replicate k1 0 ++ 0 :: Qs) ++ []) := by
          have := hbq.out.grown hg6 (by intro e; injection e with e; omega)
          rw [List.append_nil]
          rw [List.replicate_succ', List.append_assoc, List.singleton_append] at this
          exact this
        have hcq := hbqm.mid
        rw [List.length_replicate] at hcq
        have hfq := hbqm.frozen k1
        have HBQ := Lib.hid hbqm
        have HBD := Lib.hid (hbd.out.grown hg6 (by intro e; injection e with e; omega))
        have HB6 := Lib.hid hb6
        have HLM6 := Lib.hid hlM
        have HMQB := Lib.hid hmqb
        have HAF := Lib.hid (div_after (D := D) (k := k1) (q := mq) HP.out HVZ.out (by rw [hvM, HVD.out]) (by rw [hmq, HVD.out]) HDP.out HV0.out)
        have HBW : Hid (Below w.heap.size w w6) := Lib.hid (hB.out.grown hg6 hB.out.size (fun k hk => by cases hk; exact hgl0))
        have HLQS : Hid ((mq :: Qs).length = j + 1) := Lib.hid (by rw [List.length_cons, hlQ.out])
        clear hbqm hb6 hlM hmqb hmq hvM hg6 hbq hbd hB hlQ
        go_wp2
        go_roundw
        case rel =>
          refine ⟨j + 1, k1, P ++ (M ++ Z), mq :: Qs, by go_num, by omega, Lib.hid (HB6.out.far (by simp; omega) _), Lib.hid (by rw [List.length_append, List.length_append, HLM6.out]; have := HLEN.out; omega), hdP.app (hdM.app hdZ), Lib.hid ?_, HLQS, Dig.cons HMQB.out hdQs, Lib.hid (HBD.out.far (by simp; omega) _), Lib.hid HAF.out.1, Lib.hid HAF.out.2, Lib.hid (HBW.out.setCell hgq0 _)⟩
          have := HBQ.out.set_ k1 (.int .u64 (mq : Int))
          have e2 := set_mid (k := .u64) (a := List.replicate k1 0) (b := Qs) (rest := []) (x := 0) (y := mq) (v := (mq : Int)) rfl
          rw [List.length_replicate] at e2
          rw [e2, List.append_nil] at this
          exact this
        case measure => simp [intOf]; omega
    · have hj : j = lq := by omega
      have hk0 : k2 = 0 := by omega
      subst hk0
      have HRES : Hid (val B64 Qs = x / y ∧ val B64 L / 2 ^ s = x % y) := Lib.hid (by
        have e1 := hvL.out
        have e2 := hdr.out
        rw [Nat.pow_zero, Nat.one_mul, HXE.out, HDE.out, H4.out, K4.out] at e1
        rw [List.drop_zero, HDE.out, K4.out] at e2
        refine div_scaled ?_ e1 e2
        rcases Nat.eq_zero_or_pos y with h | h
        · rw [h, Nat.zero_mul] at e2; omega
        · exact h)
      have hbq2 : Blk wr w4.heap.size 43 (nums .u64 Qs) := hbq.out
      have HBQ := Lib.hid hbq2
      have HLQS : Hid (Qs.length = lq) := Lib.hid (by rw [hlQ.out, hj])
      clear hbq2 hbq hvL hdr hlQ hj
      go_wp2_with fail
      refine (nat_lower gl 0 (n + 1) (n + 1) s [] L [] wr (by rw [List.append_nil]; exact hbl.out) rfl hlL.out hdL (by omega) hs).mono ?_
      rintro e w7 ⟨zs, rfl, hb7, hl7, hd7, hv7, hg7⟩
      have HB7 : Hid (Sl .u64 w7 (some ⟨gl, 0, none⟩) (n + 1) (n + 1) zs) := Lib.hid (by
        rw [List.nil_append, List.append_nil] at hb7
        exact hb7.sl hl7 (by omega))
      have HQ7 : Hid (Sl .u64 w7 (some ⟨w4.heap.size, 0, none⟩) lq lq Qs) := Lib.hid ((HBQ.out.grown hg7 (by intro e; injection e with e; omega)).sl HLQS.out (by omega))
      have HV7 : Hid (val B64 zs = x % y) := Lib.hid (by rw [hv7, HRES.out.2])
      have HBW : Hid (Below w.heap.size w w7) := Lib.hid (hB.out.grown hg7 hB.out.size (fun k hk => by cases hk; exact hgl0))
      clear hb7 hl7 hv7 hg7 hbl hlL hB HBQ
      go_wp2
      go_ret2
      exact ⟨_, _, _, _, _, _, Qs, zs, rfl, HQ7.out, hdQs, HRES.out.1, HB7.out, hd7, HV7.out, HBW.out⟩

end Go.Proofs.YtmjinhieeflkgaaDoorRRRR
