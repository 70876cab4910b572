/- The contract of the document's Div and Gcd. -/
import Derived.Test.YtmjinhieeflkgaaDoorRRRRRefF
namespace Go.Proofs.YtmjinhieeflkgaaDoorRRRR
open Go.RowKit

theorem val_set {b : Nat} {xs : List Nat} {q v : Nat} (h : q < xs.length) : val b (xs.set q v) + b ^ q * xs.getD q 0 = val b xs + b ^ q * v := by
  induction xs generalizing q with
  | nil => simp at h
  | cons x xs ih =>
    cases q with
    | zero => simp [val]; omega
    | succ q =>
      have := ih (q := q) (by simpa using h)
      simp only [List.set_cons_succ, val, List.getD_cons_succ, Nat.pow_succ, Nat.mul_comm (b ^ q) b, Nat.mul_assoc]
      rw [Nat.add_assoc, ← Nat.mul_add, this, Nat.mul_add, ← Nat.add_assoc]
theorem Dig.set {b : Nat} {xs : List Nat} (h : Dig b xs) {q v : Nat} (hv : v < b) : Dig b (xs.set q v) := by
  intro y hy
  rcases List.mem_or_eq_of_mem_set hy with h1 | h1
  · exact h _ h1
  · omega
theorem nums_setQ (k : IntKind) (xs : List Nat) (q v : Nat) : nums k (xs.set q v) = (nums k xs).set q (.int k (v : Int)) := by simp [nums, List.map_set]

theorem digit_room {Qs : List Nat} {QV i q r : Nat} (hd : Dig 65536 Qs) (hv : val 65536 Qs = QV * 2 ^ (i + 1)) (hi : i = 16 * q + r) (hr : r < 16) : Qs.getD q 0 + 2 ^ r < 65536 := by
  rw [← digit_at (by omega) hd, hv]
  have e1 : QV * 2 ^ (i + 1) / 65536 ^ q = 2 ^ (r + 1) * QV := by
    rw [show i + 1 = 16 * q + (r + 1) from by omega, Nat.pow_add, Nat.pow_mul, show (2 : Nat) ^ 16 = 65536 from rfl, Nat.mul_left_comm, Nat.mul_div_cancel_left _ (Nat.pow_pos (by omega)), Nat.mul_comm]
  have e2 : (65536 : Nat) = 2 ^ (r + 1) * 2 ^ (15 - r) := by rw [← Nat.pow_add, show r + 1 + (15 - r) = 16 from by omega]
  rw [e1]
  have h1 : 2 ^ (r + 1) * QV % 65536 = 2 ^ (r + 1) * (QV % 2 ^ (15 - r)) := by
    conv => lhs; rw [e2]
    rw [Nat.mul_mod_mul_left]
  have h2 : QV % 2 ^ (15 - r) + 1 ≤ 2 ^ (15 - r) := Nat.mod_lt _ (Nat.two_pow_pos _)
  have h3 := Nat.mul_le_mul_left (2 ^ (r + 1)) h2
  rw [← e2, Nat.mul_add, Nat.mul_one, ← h1] at h3
  have h4 : 2 ^ (r + 1) = 2 ^ r * 2 := Nat.pow_succ 2 r
  have h5 := Nat.two_pow_pos r
  omega

theorem half_step {x i : Nat} : x / 2 ^ i = 2 * (x / 2 ^ (i + 1)) + x / 2 ^ i % 2 := by
  rw [Nat.pow_succ, ← Nat.div_div_eq_div_mul]; omega

theorem pow_split {i q r : Nat} (hi : i = 16 * q + r) : 65536 ^ q * 2 ^ r = 2 ^ i := by
  rw [hi, Nat.pow_add, Nat.pow_mul]

theorem bl_shift (x : Nat) : x / 2 ^ bl x = 0 := Nat.div_eq_of_lt (bl_le.1 (Nat.le_refl _))

theorem bit_index {x i n : Nat} (hx : x < 65536 ^ n) (hi : i < bl x) : i / 16 < n := by
  have h1 : bl x ≤ 16 * n := bl_le.2 (by rw [Nat.pow_mul]; exact hx)
  omega

set_option maxHeartbeats 4000000 in
set_option maxRecDepth 100000 in
theorem ref_Div (A : Option Addr) (n c x : Nat) (B : Option Addr) (m cb y : Nat) (w : World) (h : Rep .i64 65536 w A n c x) (h' : Rep .i64 65536 w B m cb y) (hy : 0 < y) (hn : n ≤ 1000000) (hm : m ≤ 1000000) :
    Calls Tryd.prog 12 #[.slice A n c, .slice B m cb] w fun e w' => ∃ (A1 : Option Addr) (n1 c1 : Nat) (A2 : Option Addr) (n2 c2 : Nat), e = .returned (.tuple #[.slice A1 n1 c1, .slice A2 n2 c2]) ∧
      Rep .i64 65536 w' A1 n1 c1 (x / y) ∧ Rep .i64 65536 w' A2 n2 c2 (x % y) ∧ Below w.heap.size w w' := by
  obtain ⟨i0, hi, hz0, hz1, hz2⟩ := info_parts Tryd.info3
  have HR := Lib.hid h
  have HRB := Lib.hid h'
  have HXN : Hid (x < 65536 ^ n) := Lib.hid ((h.len_le (by decide) n).1 (Nat.le_refl _))
  have HYM : Hid (y < 65536 ^ m) := Lib.hid ((h'.len_le (by decide) m).1 (Nat.le_refl _))
  obtain ⟨xs, h1, h2, h3, h4⟩ := h
  have H1 := Lib.hid h1
  have H4 := Lib.hid h4
  have HY := Lib.hid hy
  have HBL : Hid (bl x ≤ 16 * n) := Lib.hid (bl_le.2 (by rw [Nat.pow_mul]; exact HXN.out))
  have hblb : bl x ≤ 16000000 := by have := HBL.out; omega
  clear h1 h3 h4 h' hy
  go_enter Tryd.func12, Tryd.ntmps12
  go_wp2_with (at_make; refine wpList_make_full _ rfl _ _ 25 rfl w.heap.size 3 i0 (.int .i64 0) 1 Tryd.underlying25 hi hz0 hz1 .i64 .i64 _ _ n rfl rfl rfl rfl (by rw [hz2]; omega) (by simp only [maxLen]; omega) (Nat.le_refl _) ?_; intro w1 hown hgr; have hbq := Lib.hid (Blk.of_make hown (by omega)); have hb1 := Lib.hid ((Below.refl w.heap.size w).grown hgr (Nat.le_refl _) (fun k hk => by cases hk)); clear hown hgr)
  have HR1 := Lib.hid (HR.out.keep hb1.out)
  go_wp2_with fail
  refine (ref_Bits A n c x _ HR1.out (by omega)).mono ?_
  rintro e w2 ⟨rfl, rfl⟩
  obtain ⟨nb, hnb⟩ : ∃ nb, nb = bl x := ⟨_, rfl⟩
  rw [← hnb] at hblb ⊢
  have HNB := Lib.hid hnb
  clear hnb
  go_wp2
  go_loopw [7, 8] (fun rv iv wr => ∃ (j R QV nr cr : Nat) (Ar : Option Addr) (Qs : List Nat), iv = .int .i64 ((j : Int) - 1) ∧ rv = .slice Ar nr cr ∧ j ≤ nb ∧ Hid (Rep .i64 65536 wr Ar nr cr R) ∧ Hid (R < y) ∧ Hid (x / 2 ^ j = QV * y + R) ∧ Hid (val 65536 Qs = QV * 2 ^ j) ∧
      Hid (Blk wr w.heap.size 3 (nums .i64 Qs)) ∧ Hid (Qs.length = n) ∧ Dig 65536 Qs ∧ Hid (Below w.heap.size w wr)) (fun _ iv _ => (intOf iv + 1).toNat)
  case atStart =>
    exact ⟨nb, 0, 0, 0, 0, none, List.replicate n 0, rfl, rfl, Nat.le_refl _, Lib.hid (Rep.zero _ _ _), HY, Lib.hid (by rw [HNB.out, bl_shift, Nat.zero_mul]), Lib.hid (by rw [val_replicate, Nat.zero_mul]),
      Lib.hid (by rw [nums_replicate]; exact hbq.out), Lib.hid (by simp), Dig.replicate (by omega) _, hb1⟩
  case round =>
    clear hbq hb1 HR1
    obtain ⟨j, R, QV, nr, cr, Ar, Qs, rfl, rfl, hj, hrep, hRy, hxq, hvq, hbq, hlq, hdq, hB⟩ := hrel
    by_cases hlt : 0 < j
    · obtain ⟨i, hji⟩ : ∃ i, j = i + 1 := ⟨j - 1, by omega⟩
      have hix : (j : Int) - 1 = (i : Int) := by omega
      have hnrm : nr ≤ m := (hrep.out.len_le (by decide) m).2 (Nat.lt_trans hRy.out HYM.out)
      have hxi := half_step (x := x) (i := i)
      obtain ⟨bit, hbit⟩ : ∃ bit, bit = x / 2 ^ i % 2 := ⟨_, rfl⟩
      have hb2 : bit ≤ 1 := by omega
      rw [← hbit, ← hji, hxq.out] at hxi
      have HXI := Lib.hid hxi
      have HBIT : Hid (∀ W, Sl .i64 W A n c xs → Calls Tryd.prog 33 #[.slice A n c, .int .i64 i] W fun e w' => e = .returned (.int .i64 (bit : Nat)) ∧ W = w') := Lib.hid (fun W hW => by
        have := ref_Bit A n c i xs W hW h2 (by omega)
        rw [H4.out, ← hbit] at this
        exact this)
      have HVQ : Hid (val 65536 Qs = QV * 2 ^ (i + 1)) := Lib.hid (by rw [← hji]; exact hvq.out)
      have HS1 := Lib.hid (H1.out.keep hB.out)
      have hi16 : i / 16 < n := bit_index HXN.out (by rw [← HNB.out]; omega)
      have hib : i ≤ 16000000 := by omega
      have HJI := Lib.hid hji
      clear hxi hbit hji hxq hvq
      go_wp2_with fail
      refine (HBIT.out _ HS1.out).mono ?_
      rintro e w3 ⟨rfl, rfl⟩
      obtain ⟨rs, r1, r2, r3, r4⟩ := hrep.out
      have RS := Lib.hid r1
      have HR3 := Lib.hid r3
      have HR4 := Lib.hid r4
      clear r1 r3 r4
      go_wp2_with fail
      refine (ref_twice Ar nr cr bit rs _ RS.out r2 hb2 (by omega)).mono ?_
      rintro e w4 ⟨A2, n2, c2, zs, rfl, hsz, hdz, hn2, hvz, htz, hb4⟩
      have HREP : Hid (Rep .i64 65536 w4 A2 n2 c2 (2 * R + bit)) := Lib.hid ⟨zs, hsz, hdz, htz HR3.out, by rw [hvz, HR4.out]⟩
      have HRB4 := Lib.hid (HRB.out.keep (hB.out.trans (hb4.mono hB.out.size)))
      have HBQ4 := Lib.hid (hbq.out.keep hb4)
      have HB4 := Lib.hid (hB.out.trans (hb4.mono hB.out.size))
      clear hsz hvz htz hb4 hbq hB
      go_wp2_with fail
      refine (ref_Cmp A2 n2 c2 (2 * R + bit) B m cb y _ HREP.out HRB4.out).mono ?_
      rintro e w5 ⟨rfl, q5, rfl⟩
      have HREP5 : Hid (Rep .i64 65536 (w4.drewN q5) A2 n2 c2 (2 * R + bit)) := Lib.hid (HREP.out.drewN q5)
      have HRB5 : Hid (Rep .i64 65536 (w4.drewN q5) B m cb y) := Lib.hid (HRB4.out.drewN q5)
      have HBQ5 : Hid (Blk (w4.drewN q5) w.heap.size 3 (nums .i64 Qs)) := Lib.hid (HBQ4.out.drewN q5)
      have HB5 : Hid (Below w.heap.size w (w4.drewN q5)) := Lib.hid (Below.drewN HB4.out q5)
      generalize World.drewN w4 q5 = w5 at HREP5 HRB5 HBQ5 HB5 ⊢
      clear HREP HRB4 HBQ4 HB4
      by_cases hge : y ≤ 2 * R + bit
      · have hc0 : (0 : Int) ≤ cmpN (2 * R + bit) y := by
          unfold cmpN; rw [if_neg (by omega)]; split <;> decide
        obtain ⟨cz, hcz⟩ : ∃ cz, cz = cmpN (2 * R + bit) y := ⟨_, rfl⟩
        rw [← hcz] at hc0 ⊢
        clear hcz
        have HGE := Lib.hid hge
        clear hge
        go_wp2_with fail
        refine (ref_SubF A2 n2 c2 (2 * R + bit) B m cb y _ HREP5.out HRB5.out (by omega) HGE.out).mono ?_
        rintro e w6 ⟨A3, n3, c3, rfl, hrep6, hfr6, hb6⟩
        have hqlt : w.heap.size < w5.heap.size := HBQ5.out.lt
        have HREP6 := Lib.hid hrep6
        have HBQ6 := Lib.hid (HBQ5.out.keep hb6)
        have HB6 := Lib.hid (HB5.out.trans (hb6.mono HB5.out.size))
        clear hrep6 hb6
        obtain ⟨r, hr⟩ : ∃ r, r = i % 16 := ⟨_, rfl⟩
        obtain ⟨q, hq⟩ : ∃ q, q = i / 16 := ⟨_, rfl⟩
        have hr16 : r < 16 := by omega
        have hqn : q < n := by omega
        have HIQ : Hid (i = 16 * q + r) := Lib.hid (by omega)
        have hqx : (i : Int) / 16 = (q : Int) := by omega
        have hrx : (i : Int) % 16 = (r : Int) := by omega
        clear hr hq
        go_wp2
        go_loop [9, 10] (fun vv kv => ∃ (k u : Nat), kv = .int .i64 k ∧ vv = .int .i64 u ∧ k ≤ r ∧ Hid (u = 2 ^ k) ∧ u ≤ 32768) (fun _ kv => r - (intOf kv).toNat)
        case atStart => exact ⟨0, 1, rfl, rfl, Nat.zero_le _, Lib.hid rfl, by omega⟩
        case round =>
          obtain ⟨k, u, rfl, rfl, hk, hu, hub⟩ := hrel
          by_cases hkr : k < r
          · have HU2 : Hid (2 * u = 2 ^ (k + 1)) := Lib.hid (by rw [hu.out, Nat.pow_succ]; omega)
            have hu2 : 2 * u ≤ 32768 := by
              rw [HU2.out, show 32768 = 2 ^ 15 from rfl]; exact Nat.pow_le_pow_right (by omega) (by omega)
            go_wp2
            go_round
            case rel => exact ⟨k + 1, 2 * u, by go_num, by go_num, by omega, HU2, hu2⟩
            case measure => simp [intOf]; omega
          · have hkr2 : k = r := by omega
            have HU : Hid (u = 2 ^ r) := Lib.hid (by rw [← hkr2]; exact hu.out)
            have hroom := digit_room hdq HVQ.out HIQ.out hr16
            have hset := val_set (b := 65536) (xs := Qs) (q := q) (v := Qs.getD q 0 + u) (by rw [hlq.out]; exact hqn)
            have hgetq : (nums .i64 Qs)[q]? = some (.int .i64 ((Qs.getD q 0 : Nat) : Int)) := nums_get _ _ _ (by rw [hlq.out]; exact hqn)
            have hcq := HBQ6.out.cell q
            rw [hgetq] at hcq
            obtain ⟨d, hd⟩ : ∃ d, d = Qs.getD q 0 := ⟨_, rfl⟩
            rw [← hd] at hcq hset hroom
            rw [← HU.out] at hroom
            have hfq := HBQ6.out.frozen q
            have HROOM := Lib.hid hroom
            have hdb : (d : Int) + (u : Int) ≤ 65535 := by omega
            have HVS : Hid (val 65536 (Qs.set q (d + u)) = (2 * QV + 1) * 2 ^ i) := Lib.hid (by
              have e1 : 65536 ^ q * u = 2 ^ i := by rw [HU.out, pow_split HIQ.out]
              have e2 : QV * 2 ^ (i + 1) = 2 * (QV * 2 ^ i) := by rw [Nat.pow_succ, Nat.mul_comm (2 ^ i) 2, Nat.mul_left_comm]
              rw [Nat.mul_add, e1, HVQ.out, e2] at hset
              rw [Nat.add_mul, Nat.one_mul, Nat.mul_assoc]
              omega)
            have HXF : Hid (x / 2 ^ i = (2 * QV + 1) * y + (2 * R + bit - y)) := Lib.hid (by
              rw [HXI.out, Nat.add_mul, Nat.one_mul, Nat.mul_assoc]
              have := HGE.out
              omega)
            have HRY : Hid (2 * R + bit - y < y) := Lib.hid (by have := hRy.out; omega)
            have HLS : Hid ((Qs.set q (d + u)).length = n) := Lib.hid (by rw [List.length_set, hlq.out])
            clear hroom hset hgetq hd hkr2 hlq
            go_wp2
            go_roundw
            case rel =>
              refine ⟨i, 2 * R + bit - y, 2 * QV + 1, n3, c3, A3, Qs.set q (d + u), rfl, rfl, by have := HJI.out; omega, Lib.hid (HREP6.out.setFar hfr6 hqlt _), HRY, HXF, HVS, Lib.hid ?_, HLS, hdq.set HROOM.out, Lib.hid (HB6.out.setCell (Nat.le_refl _) _)⟩
              rw [nums_setQ]
              exact HBQ6.out.set_ q _
            case measure => simp [intOf]; have := HJI.out; omega
      · have hlt2 : 2 * R + bit < y := by omega
        rw [cmpN_lt hlt2]
        have HXF : Hid (x / 2 ^ i = (2 * QV) * y + (2 * R + bit)) := Lib.hid (by rw [HXI.out, Nat.mul_assoc]; omega)
        have HVS : Hid (val 65536 Qs = (2 * QV) * 2 ^ i) := Lib.hid (by rw [HVQ.out, Nat.pow_succ, Nat.mul_comm (2 ^ i) 2, Nat.mul_left_comm, Nat.mul_assoc])
        have HRY := Lib.hid hlt2
        clear hlt2 hge
        go_wp2
        go_roundw
        case rel => exact ⟨i, 2 * R + bit, 2 * QV, n2, c2, A2, Qs, rfl, rfl, by have := HJI.out; omega, HREP5, HRY, HXF, HVS, HBQ5, hlq, hdq, HB5⟩
        case measure => simp [intOf]; have := HJI.out; omega
    · have hj0 : j = 0 := by omega
      subst hj0
      have hS := hbq.out
      have HSL : Hid (Sl .i64 wr (some ⟨w.heap.size, 0, none⟩) n n Qs) := Lib.hid (Sl.of_blk0 hS hlq.out (Nat.le_refl _) (by omega))
      have HRES : Hid (val 65536 Qs = x / y ∧ R = x % y) := Lib.hid (by
        have e1 := hxq.out
        have e2 := hvq.out
        rw [Nat.pow_zero, Nat.div_one] at e1
        rw [Nat.pow_zero, Nat.mul_one] at e2
        rw [e1, Nat.add_comm, Nat.add_mul_div_right _ _ HY.out, Nat.div_eq_of_lt hRy.out, Nat.zero_add, Nat.add_mul_mod_self_right, Nat.mod_eq_of_lt hRy.out]
        exact ⟨e2, rfl⟩)
      clear hS hbq hxq hvq hRy hlt
      go_wp2_with fail
      refine (ref_trim _ _ _ Qs _ HSL.out).mono ?_
      rintro e w' ⟨rfl, rfl⟩
      go_wp2
      go_ret2
      refine ⟨_, _, _, _, _, _, rfl, ⟨trimL Qs, ?_, trimL_dig hdq, trimL_idem Qs, by rw [val_trim, HRES.out.1]⟩, by rw [← HRES.out.2]; exact hrep.out, hB.out⟩
      have := HSL.out.take (trimL Qs).length (by have := trimL_len Qs; rw [hlq.out] at this; exact this)
      rw [← trimL_take] at this
      exact this

set_option maxHeartbeats 1000000 in
theorem ref_Gcd (A : Option Addr) (n c x : Nat) (B : Option Addr) (m cb y : Nat) (w : World) (h : Rep .i64 65536 w A n c x) (h' : Rep .i64 65536 w B m cb y) (hn : n ≤ 1000000) (hm : m ≤ 1000000) :
    Calls Tryd.prog 13 #[.slice A n c, .slice B m cb] w fun e w' => ∃ A' n' c', e = .returned (.slice A' n' c') ∧ Rep .i64 65536 w' A' n' c' (Nat.gcd x y) ∧ Below w.heap.size w w' := by
  have HX := Lib.hid h
  have HY := Lib.hid h'
  clear h h'
  go_enter Tryd.func13, Tryd.ntmps13
  go_wp2
  go_loopg [0, 1] y (fun k av bv wr => ∃ (A1 : Option Addr) (n1 c1 X : Nat) (A2 : Option Addr) (n2 c2 : Nat), av = .slice A1 n1 c1 ∧ bv = .slice A2 n2 c2 ∧ n1 ≤ 1000000 ∧ n2 ≤ 1000000 ∧ Hid (Rep .i64 65536 wr A1 n1 c1 X) ∧ Hid (Rep .i64 65536 wr A2 n2 c2 k) ∧
      Hid (Nat.gcd X k = Nat.gcd x y) ∧ Hid (Below w.heap.size w wr))
  case atStart => exact ⟨A, n, c, x, B, m, cb, rfl, rfl, hn, hm, HX, HY, Lib.hid rfl, Lib.hid (Below.refl _ _)⟩
  case round =>
    obtain ⟨A1, n1, c1, X, A2, n2, c2, rfl, rfl, hn1, hn2, hX, hY, hg, hB⟩ := hrel
    by_cases h0 : 0 < n2
    · have hy0 : 0 < gk := by
        rcases Nat.eq_zero_or_pos gk with e | e
        · have := (hY.out.zero_iff (by decide)).2 e; omega
        · exact e
      have HGK := Lib.hid hy0
      clear hy0
      go_wp2_with fail
      refine (ref_Div A1 n1 c1 X A2 n2 c2 gk _ hX.out hY.out HGK.out hn1 hn2).mono ?_
      rintro e w1 ⟨A3, n3, c3, A4, n4, c4, rfl, _, hr4, hb1⟩
      have HR4 := Lib.hid hr4
      have HY1 := Lib.hid (hY.out.keep hb1)
      have HB1 := Lib.hid (hB.out.trans (hb1.mono hB.out.size))
      have hn4 : n4 ≤ n2 := (hr4.len_le (by decide) n2).2 (Nat.lt_trans (Nat.mod_lt _ HGK.out) ((hY.out.len_le (by decide) n2).1 (Nat.le_refl _)))
      have HGE : Hid (Nat.gcd gk (X % gk) = Nat.gcd x y) := Lib.hid (by rw [← hg.out, Nat.gcd_comm X gk, Nat.gcd_rec gk X, Nat.gcd_comm])
      clear hr4 hb1 hX hY hB hg
      go_wp2
      go_roundg (X % gk)
      case measure => exact Nat.mod_lt _ HGK.out
      case rel => exact ⟨A2, n2, c2, gk, A4, n4, c4, rfl, rfl, hn2, by omega, HY1, HR4, HGE, HB1⟩
    · have hz : n2 = 0 := by omega
      have hk0 : gk = 0 := (hY.out.zero_iff (by decide)).1 hz
      have HG : Hid (X = Nat.gcd x y) := Lib.hid (by have := hg.out; rw [hk0, Nat.gcd_zero_right] at this; exact this)
      clear hz hk0
      go_wp2
      go_ret
      exact ⟨_, _, _, rfl, by rw [← HG.out]; exact hX.out, hB.out⟩

end Go.Proofs.YtmjinhieeflkgaaDoorRRRR
