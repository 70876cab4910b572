/- The contract of the document's Mul. -/
import Derived.Test.YtliligfhckampaaRefD
import Derived.Test.YtliligfhckampaaCarry
namespace Go.Proofs.Ytliligfhckampaa
open Go.RowKit

/-- One digit of a product with one digit. -/
theorem mul_step {b u q v cy j : Nat} {Q Q1 ys : List Nat} (hl : Q1.length = j) (h : val b Q1 + b ^ j * cy = val b (Q.take j) + u * val b (ys.take j)) (hq : val b (Q.take (j + 1)) = val b (Q.take j) + b ^ j * q)
    (hv : val b (ys.take (j + 1)) = val b (ys.take j) + b ^ j * v) : val b (Q1 ++ [(q + u * v + cy) % b]) + b ^ (j + 1) * ((q + u * v + cy) / b) = val b (Q.take (j + 1)) + u * val b (ys.take (j + 1)) := by
  rw [val_snoc, hl, Nat.pow_succ, Nat.mul_assoc, Nat.add_assoc, ← Nat.mul_add, Nat.mod_add_div, hq, hv, Nat.mul_add, Nat.mul_add, Nat.mul_add, ← Nat.mul_assoc u, Nat.mul_comm u (b ^ j), Nat.mul_assoc]
  omega

/-- A row of a product is done. -/
theorem mul_row {b u cy k m X Y x1 : Nat} {P Q Q1 : List Nat} (hP : P.length = k) (hQ1 : Q1.length = m) (h : val b Q1 + b ^ m * cy = val b Q + u * Y) (hR : val b (P ++ Q) = X * Y) (hx : x1 = X + b ^ k * u) :
    val b (P ++ (Q1 ++ [cy])) = x1 * Y := by
  rw [val_append, hP] at hR
  rw [val_append, val_snoc, hP, hQ1, h, hx, Nat.add_mul, ← hR, Nat.mul_add, Nat.mul_assoc, Nat.add_assoc]

set_option maxHeartbeats 4000000 in
theorem ref_Mul (A : Option Addr) (n c x : Nat) (B : Option Addr) (m cb y : Nat) (w : World) (h : Rep .i64 65536 w A n c x) (h' : Rep .i64 65536 w B m cb y) (hn : n ≤ 1000000000) (hm : m ≤ 1000000000) :
    Calls Try.prog 25 #[.slice A n c, .slice B m cb] w fun e w' => ∃ A' n' c', e = .returned (.slice A' n' c') ∧ Rep .i64 65536 w' A' n' c' (x * y) ∧ Below w.heap.size w w' := by
  obtain ⟨i0, hi, hz0, hz1, hz2⟩ := info_parts Try.info3
  obtain ⟨xs, h1, h2, h3, h4⟩ := h
  obtain ⟨ys, k1, k2, k3, k4⟩ := h'
  have H1 := Lib.hid h1
  have K1 := Lib.hid k1
  have H4 := Lib.hid h4
  have K4 := Lib.hid k4
  have HLX := Lib.hid h1.1
  have HLY := Lib.hid k1.1
  clear h1 k1 h3 k3 h4 k4
  go_enter Try.func25, Try.ntmps25
  go_wp2_with (first
    | (at_make
       refine wpList_make_full _ rfl _ _ 26 rfl w.heap.size 3 i0 (.int .i64 0) 1 Try.underlying26 hi hz0 hz1 .i64 .i64 _ _ (n + m) rfl rfl (by omega) (by omega) (by rw [hz2]; omega) (by simp only [maxLen]; omega) (Nat.le_refl _) ?_
       intro w1 hown hgr
       have hblk := Lib.hid (Blk.of_make hown (by omega))
       have hb1 : Below w.heap.size w w1 := (Below.refl _ _).grown hgr (Nat.le_refl _) (fun k hk => by cases hk)
       clear hown hgr))
  go_loopw [6] (fun iv wr => ∃ (k : Nat) (R : List Nat), iv = .int .i64 k ∧ k ≤ n ∧ Hid (Blk wr w.heap.size 3 (nums .i64 (R ++ List.replicate (n - k) 0))) ∧ Hid (R.length = k + m) ∧ Dig 65536 R ∧ Hid (val 65536 R = val 65536 (xs.take k) * y) ∧ Below w.heap.size w wr)
    (fun iv _ => n - (intOf iv).toNat)
  case atStart => exact ⟨0, List.replicate m 0, rfl, Nat.zero_le _, Lib.hid (by rw [List.replicate_append_replicate, nums_replicate]; have := hblk.out; rw [show m + (n - 0) = n + m from by omega]; exact this), Lib.hid (by simp), Dig.replicate (by omega) m, Lib.hid (by rw [val_replicate]; simp [val]), hb1⟩
  case round =>
    clear hblk hb1
    obtain ⟨k, R, rfl, hk, hblk, hlR, hdR, hvR, hb⟩ := hrel
    by_cases hlt : k < n
    · obtain ⟨b, off, rfl, hbl, hc⟩ := H1.out.block (by omega)
      have hkx : k < xs.length := by rw [HLX.out]; omega
      have hc0 := hc k hlt
      have hx0 := h2.getD (by omega) k
      have hvx := val_take_succ 65536 xs k hkx
      obtain ⟨u, hu⟩ : ∃ u, u = xs.getD k 0 := ⟨_, rfl⟩
      rw [← hu] at hc0 hx0 hvx
      obtain ⟨P, hP⟩ : ∃ P, P = R.take k := ⟨_, rfl⟩
      obtain ⟨Q, hQ⟩ : ∃ Q, Q = R.drop k := ⟨_, rfl⟩
      have hPQ : P ++ Q = R := by rw [hP, hQ]; exact List.take_append_drop k R
      have hPl : P.length = k := by rw [hP, List.length_take, hlR.out]; omega
      have hQl : Q.length = m := by rw [hQ, List.length_drop, hlR.out]; omega
      have hdP : Dig 65536 P := by rw [hP]; exact hdR.take _
      have hdQ : Dig 65536 Q := by rw [hQ]; exact hdR.drop _
      have HPL := Lib.hid hPl
      have HQL := Lib.hid hQl
      have HVX := Lib.hid hvx
      have HVR : Hid (val 65536 (P ++ Q) = val 65536 (xs.take k) * y) := Lib.hid (by rw [hPQ]; exact hvR.out)
      have HBL : Hid (Blk wr w.heap.size 3 (nums .i64 (P ++ ([] ++ (Q.drop 0 ++ List.replicate (n - k) 0))))) := Lib.hid (by rw [List.nil_append, List.drop_zero, ← List.append_assoc, hPQ]; exact hblk.out)
      clear hu hP hQ hPQ hPl hQl hvx hblk hlR hvR hdR hc
      go_wp2
      go_loopw [7, 8] (fun cv jv wr => ∃ (j cy : Nat) (Q1 : List Nat), jv = .int .i64 j ∧ cv = .int .i64 cy ∧ j ≤ m ∧ cy ≤ 65535 ∧ Hid (Blk wr w.heap.size 3 (nums .i64 (P ++ (Q1 ++ (Q.drop j ++ List.replicate (n - k) 0))))) ∧ Hid (Q1.length = j) ∧ Dig 65536 Q1 ∧
          Hid (val 65536 Q1 + 65536 ^ j * cy = val 65536 (Q.take j) + u * val 65536 (ys.take j)) ∧ Below w.heap.size w wr) (fun _ jv _ => m - (intOf jv).toNat)
      case atStart => exact ⟨0, 0, [], rfl, rfl, Nat.zero_le _, by omega, HBL, Lib.hid rfl, Dig.nil _, Lib.hid (by simp [val]), hb⟩
      case round =>
        clear HBL hb
        obtain ⟨j, cy, Q1, rfl, rfl, hj, hcy, hblk, hlq, hdq, hv, hb⟩ := hrel
        by_cases hjm : j < m
        · obtain ⟨b2, off2, rfl, hbl2, hc2⟩ := K1.out.block (by omega)
          have hjy : j < ys.length := by rw [HLY.out]; omega
          have hjq : j < Q.length := by rw [HQL.out]; omega
          have hc20 := hc2 j hjm
          have hy0 := k2.getD (by omega) j
          have hvy := val_take_succ 65536 ys j hjy
          have hvq := val_take_succ 65536 Q j hjq
          obtain ⟨v, hv2⟩ : ∃ v, v = ys.getD j 0 := ⟨_, rfl⟩
          obtain ⟨q, hq2⟩ : ∃ q, q = Q.getD j 0 := ⟨_, rfl⟩
          have hqb : q < 65536 := by rw [hq2]; exact hdQ.getD (by omega) j
          have hqe : q = Q[j] := by rw [hq2, List.getD_eq_getElem?_getD, List.getElem?_eq_getElem hjq]; rfl
          rw [← hv2] at hc20 hy0 hvy
          rw [← hq2] at hvq
          have hcA := (hb.cell (p := ⟨b, off + k, none⟩) hbl).trans hc0
          have hcB := (hb.cell (p := ⟨b2, off2 + j, none⟩) hbl2).trans hc20
          have hb2 : Blk wr w.heap.size 3 (nums .i64 ((P ++ Q1) ++ q :: (Q.drop (j + 1) ++ List.replicate (n - k) 0)) ++ []) := by
            have := hblk.out
            rw [List.drop_eq_getElem_cons hjq, ← hqe] at this
            rw [List.append_nil, List.append_assoc]
            exact this
          have hcO := hb2.mid
          have hPQl : (P ++ Q1).length = k + j := by rw [List.length_append, HPL.out, hlq.out]
          rw [hPQl] at hcO
          have hfO := hb2.frozen (k + j)
          obtain ⟨p, hp⟩ : ∃ p, p = u * v := ⟨_, rfl⟩
          have em : (u : Int) * (v : Int) = (p : Int) := by rw [hp]; simp
          have hpb : p ≤ 4294836225 := by rw [hp]; exact Nat.mul_le_mul (show u ≤ 65535 by omega) (show v ≤ 65535 by omega)
          have hst := mul_step (u := u) (cy := cy) hlq.out hv.out hvq hvy
          rw [← hp] at hst
          have HST := Lib.hid hst
          have HB2 := Lib.hid hb2
          have HPQL := Lib.hid hPQl
          have HLQ : Hid ((Q1 ++ [(q + p + cy) % 65536]).length = j + 1) := Lib.hid (by rw [List.length_append, hlq.out]; rfl)
          clear hst hb2 hPQl hp hqe hq2 hv2 hvq hvy hc20 hc2 hjy hjq hv hlq hblk hc0
          have w1 : IntKind.i64.wrap ((k : Int) + (j : Int)) = (k : Int) + (j : Int) := IntWalk.i64_in _ (by omega)
          have w2 : IntKind.i64.wrap (p : Int) = (p : Int) := IntWalk.i64_in _ (by omega)
          have w3 : IntKind.i64.wrap ((q : Int) + (p : Int)) = (q : Int) + (p : Int) := IntWalk.i64_in _ (by omega)
          have w4 : IntKind.i64.wrap ((q : Int) + (p : Int) + (cy : Int)) = (q : Int) + (p : Int) + (cy : Int) := IntWalk.i64_in _ (by omega)
          have w5 : 0 ≤ (k : Int) + (j : Int) := by omega
          have w6 : ((k : Int) + (j : Int)).toNat = k + j := by omega
          go_wp2
          go_quiet (fail)
          clear w1 w2 w3 w4 w5 w6
          go_wp2
          go_roundw
          case rel =>
            refine ⟨j + 1, (q + p + cy) / 65536, Q1 ++ [(q + p + cy) % 65536], by go_num, by go_num, by omega, by omega, Lib.hid ?_, HLQ, hdq.app (Dig.cons (Nat.mod_lt _ (by omega)) (Dig.nil _)), HST, ?_⟩
            · have := (HB2.out.drewN nq).set_ (k + j) (.int .i64 (((q + p + cy) % 65536 : Nat) : Int))
              have e2 := set_mid (k := .i64) (a := P ++ Q1) (b := Q.drop (j + 1) ++ List.replicate (n - k) 0) (rest := []) (x := q) (y := (q + p + cy) % 65536) (v := (((q + p + cy) % 65536 : Nat) : Int)) rfl
              rw [HPQL.out] at e2
              rw [e2, List.append_nil] at this
              have e3 : P ++ (Q1 ++ [(q + p + cy) % 65536] ++ (Q.drop (j + 1) ++ List.replicate (n - k) 0)) = P ++ Q1 ++ (q + p + cy) % 65536 :: (Q.drop (j + 1) ++ List.replicate (n - k) 0) := by simp
              rw [e3]
              exact this
            · exact (Below.drewN hb nq).setCell (Nat.le_refl _) _
          case measure => simp [intOf]; omega
        · have hjm2 : j = m := by omega
          subst hjm2
          have hrow := mul_row (b := 65536) (cy := cy) HPL.out hlq.out (by
            have := hv.out
            rw [List.take_of_length_le (l := Q) (by rw [HQL.out]; omega), List.take_of_length_le (l := ys) (by rw [HLY.out]; omega), K4.out] at this
            exact this) HVR.out HVX.out
          have hz : List.replicate (n - k) 0 = 0 :: List.replicate (n - (k + 1)) 0 := by
            rw [show n - k = (n - (k + 1)) + 1 from by omega]; rfl
          have hb2 : Blk wr w.heap.size 3 (nums .i64 ((P ++ Q1) ++ 0 :: List.replicate (n - (k + 1)) 0) ++ []) := by
            have := hblk.out
            rw [List.drop_of_length_le (by rw [HQL.out]; omega), List.nil_append, hz] at this
            rw [List.append_nil, List.append_assoc]
            exact this
          have hcO := hb2.mid
          have hPQl : (P ++ Q1).length = k + j := by rw [List.length_append, HPL.out, hlq.out]
          rw [hPQl] at hcO
          have hfO := hb2.frozen (k + j)
          have HRO := Lib.hid hrow
          have HB2 := Lib.hid hb2
          have HPQL := Lib.hid hPQl
          have HLQ := hlq
          clear hrow hz hb2 hPQl hv hlq hblk hc0
          go_wp2
          go_roundw
          case rel =>
            refine ⟨k + 1, P ++ (Q1 ++ [cy]), by go_num, by omega, Lib.hid ?_, Lib.hid (by rw [List.length_append, List.length_append, HPL.out, HLQ.out]; simp; omega), hdP.app (hdq.app (Dig.cons (by omega) (Dig.nil _))), HRO, hb.setCell (Nat.le_refl _) _⟩
            have := HB2.out.set_ (k + j) (.int .i64 (cy : Int))
            have e2 := set_mid (k := .i64) (a := P ++ Q1) (b := List.replicate (n - (k + 1)) 0) (rest := []) (x := 0) (y := cy) (v := (cy : Int)) rfl
            rw [HPQL.out] at e2
            rw [e2, List.append_nil] at this
            have e3 : P ++ (Q1 ++ [cy]) ++ List.replicate (n - (k + 1)) 0 = P ++ Q1 ++ cy :: List.replicate (n - (k + 1)) 0 := by simp
            rw [e3]
            exact this
          case measure => simp [intOf]; omega
    · have hkn : k = n := by omega
      subst hkn
      have HV : Hid (val 65536 R = x * y) := Lib.hid (by rw [hvR.out, List.take_of_length_le (by rw [HLX.out]; omega), H4.out])
      have hbR : Blk wr w.heap.size 3 (nums .i64 R) := by have := hblk.out; rw [Nat.sub_self, List.replicate_zero, List.append_nil] at this; exact this
      have HSL := Lib.hid (Sl.of_blk0 (n := k + m) (c := k + m) hbR hlR.out (Nat.le_refl _) (by omega))
      have HLR := hlR
      clear hvR hblk hlR hbR
      go_wp2_with (go_at_call 35; refine (ref_trim _ _ _ R _ HSL.out).mono ?_; rintro e w' ⟨rfl, rfl⟩)
      go_ret
      refine ⟨_, _, _, rfl, ⟨trimL R, ?_, trimL_dig hdR, trimL_idem R, ?_⟩, hb⟩
      · have := HSL.out.take (trimL R).length (by have := trimL_len R; rw [HLR.out] at this; exact this)
        rw [← trimL_take] at this
        exact this
      · rw [val_trim, HV.out]

end Go.Proofs.Ytliligfhckampaa
