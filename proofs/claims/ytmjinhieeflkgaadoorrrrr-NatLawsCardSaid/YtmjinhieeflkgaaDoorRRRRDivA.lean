/- The contract of nat's subTimes. -/
import Derived.Test.YtmjinhieeflkgaaDoorRRRRQuoMath
import Derived.Test.YtmjinhieeflkgaaDoorRRRRMul
namespace Go.Proofs.YtmjinhieeflkgaaDoorRRRR
open Go.RowKit

set_option maxHeartbeats 4000000 in
theorem nat_subTimes (g k m c cb u : Nat) (A B : Option Addr) (P Q ys Z : List Nat) (w : World) (hblk : Blk w g 43 (nums .u64 (P ++ (Q ++ Z)))) (hP : P.length = k) (hQ : Q.length = m) (hdQ : Dig B64 Q) (hu : u < B64)
    (hA : 0 < m → A = some ⟨g, k, none⟩) (hs : Sl .u64 w B m cb ys) (hdy : Dig B64 ys) (hm : m ≤ 1000000000) (hne : 0 < m → ∀ b o, B = some ⟨b, o, none⟩ → b ≠ g) :
    Calls Tryd.prog 58 #[.slice A m c, .slice B m cb, .int .u64 u] w fun e w' => ∃ (Q1 : List Nat) (cy : Nat), e = .returned (.int .u64 cy) ∧ Blk w' g 43 (nums .u64 (P ++ (Q1 ++ Z))) ∧
      Q1.length = m ∧ Dig B64 Q1 ∧ cy < B64 ∧ val B64 Q1 + u * val B64 ys = val B64 Q + B64 ^ m * cy ∧ w.grownBy w' (some g) := by
  have HB := Lib.hid hblk
  have HPL := Lib.hid hP
  have HQL := Lib.hid hQ
  have HS := Lib.hid hs
  have HNE := Lib.hid hne
  have HLY := Lib.hid hs.1
  have HU := Lib.hid hu
  have HAA := Lib.hid hA
  clear hblk hP hQ hs hne hu hA
  go_enter Tryd.func58, Tryd.ntmps58
  go_wp2
  go_loopw [7, 14] (fun cv jv wr => ∃ (j cy : Nat) (Q1 : List Nat), jv = .int .i64 j ∧ cv = .int .u64 cy ∧ j ≤ m ∧ Hid (cy < B64) ∧ Hid (Blk wr g 43 (nums .u64 (P ++ (Q1 ++ (Q.drop j ++ Z))))) ∧ Hid (Q1.length = j) ∧ Dig B64 Q1 ∧
      Hid (val B64 Q1 + u * val B64 (ys.take j) = val B64 (Q.take j) + B64 ^ j * cy) ∧ w.grownBy wr (some g)) (fun _ jv _ => m - (intOf jv).toNat)
  case atStart => exact ⟨0, 0, [], rfl, rfl, Nat.zero_le _, Lib.hid B64_pos, HB, Lib.hid rfl, Dig.nil _, Lib.hid (by simp [val]), World.grownBy.refl _ _⟩
  case round =>
    clear HB
    obtain ⟨j, cy, Q1, rfl, rfl, hj, hcy, hblk, hlq, hdq, hv, hg⟩ := hrel
    by_cases hjm : j < m
    · have hA := HAA.out (by omega)
      subst hA
      obtain ⟨b2, off2, rfl, hbl2, hc2⟩ := HS.out.block (by omega)
      have hbg := HNE.out (by omega) b2 off2 rfl
      have hjy : j < ys.length := by rw [HLY.out]; omega
      have hjq : j < Q.length := by rw [HQL.out]; omega
      have hc20 := hc2 j hjm
      have hy0 := hdy.getD B64_pos j
      have hvy := val_take_succ B64 ys j hjy
      have hvq := val_take_succ B64 Q j hjq
      obtain ⟨v, hv2⟩ : ∃ v, v = ys.getD j 0 := ⟨_, rfl⟩
      obtain ⟨q, hq2⟩ : ∃ q, q = Q.getD j 0 := ⟨_, rfl⟩
      have hqb : q < B64 := by rw [hq2]; exact hdQ.getD B64_pos j
      have hqe : q = Q[j] := by rw [hq2, List.getD_eq_getElem?_getD, List.getElem?_eq_getElem hjq]; rfl
      rw [← hv2] at hc20 hy0 hvy
      rw [← hq2] at hvq
      have hcB : wr.cell? ⟨b2, off2 + j, none⟩ = some (.int .u64 (v : Int)) := hg.cell hc20 (by intro e; injection e with e; exact hbg e)
      have hb2 : Blk wr g 43 (nums .u64 ((P ++ Q1) ++ q :: (Q.drop (j + 1) ++ Z)) ++ []) := by
        have := hblk.out
        rw [List.drop_eq_getElem_cons hjq, ← hqe] at this
        rw [List.append_nil, List.append_assoc]
        exact this
      have hcO := hb2.mid
      have hPQl : (P ++ Q1).length = k + j := by rw [List.length_append, HPL.out, hlq.out]
      rw [hPQl] at hcO
      have hfO := hb2.frozen (k + j)
      have hws := words_sub hqb HU.out hy0 hcy.out
      obtain ⟨hi, hhi⟩ : ∃ hi, hi = v * u / B64 := ⟨_, rfl⟩
      obtain ⟨lo, hlo⟩ : ∃ lo, lo = v * u % B64 := ⟨_, rfl⟩
      have hlob : lo < B64 := by rw [hlo]; exact Nat.mod_lt _ B64_pos
      have hmul := Lib.hid (fun W => call_Mul64 v u hy0 HU.out W)
      rw [← hhi, ← hlo] at hmul hws
      have hadd1 := fun W => run_Add64 lo cy 0 hlob hcy.out (by omega) W
      obtain ⟨l2, hl2⟩ : ∃ l2, l2 = (lo + cy) % B64 := ⟨_, rfl⟩
      obtain ⟨c1, hc1⟩ : ∃ c1, c1 = (lo + cy) / B64 := ⟨_, rfl⟩
      rw [← hl2, ← hc1] at hws
      rw [Nat.add_zero, ← hl2, ← hc1, show ((0 : Nat) : Int) = 0 from rfl] at hadd1
      have hadd2 := fun W => run_Sub64 q l2 0 (by omega) W
      obtain ⟨S, hS⟩ : ∃ S, S = (q + B64 - l2 - 0) % B64 := ⟨_, rfl⟩
      obtain ⟨c2, hcc2⟩ : ∃ c2 : Nat, c2 = (if q < l2 + 0 then 1 else 0) := ⟨_, rfl⟩
      rw [← hS, ← hcc2] at hws
      simp only [← hS, ← hcc2] at hadd2
      rw [show ((0 : Nat) : Int) = 0 from rfl] at hadd2
      obtain ⟨C, hC⟩ : ∃ C, C = hi + c1 + c2 := ⟨_, rfl⟩
      rw [← hC] at hws
      have hst := subTimes_step hlq.out hv.out hws.1 hvq hvy
      have hsum : hi + c1 + c2 = C := hC.symm
      have hsumb : (hi : Int) + (c1 : Int) + (c2 : Int) ≤ 18446744073709551615 := by
        have := hws.2.2.1
        rw [← hsum, B64_eq] at this
        omega
      have hsumc : (hi : Int) + (c1 : Int) ≤ 18446744073709551615 := by omega
      have HSUM := Lib.hid hsum
      have HCB := Lib.hid hws.2.2.1
      have HSB := Lib.hid hws.2.2.2
      have HST := Lib.hid hst
      have HB2 := Lib.hid hb2
      have HPQL := Lib.hid hPQl
      have HLQ : Hid ((Q1 ++ [S]).length = j + 1) := Lib.hid (by rw [List.length_append, hlq.out]; rfl)
      clear hst hb2 hPQl hqe hq2 hv2 hvq hvy hc20 hc2 hjy hjq hv hlq hblk hS hC hhi hlo hl2 hc1 hcc2 hsum hws hqb hy0 hlob hbg hcy
      go_wp2_with fail
      refine (hmul.out _).mono ?_
      rintro e w1 ⟨rfl, rfl⟩
      go_wp2
      go_roundw
      case rel =>
        refine ⟨j + 1, hi + c1 + c2, Q1 ++ [S], by go_num, by go_num, by omega, Lib.hid (by rw [HSUM.out]; exact HCB.out), Lib.hid ?_, HLQ, hdq.app (Dig.cons HSB.out (Dig.nil _)), Lib.hid (by rw [HSUM.out]; exact HST.out), ?_⟩
        · have := HB2.out.set_ (k + j) (.int .u64 (S : Int))
          have e2 := set_mid (k := .u64) (a := P ++ Q1) (b := Q.drop (j + 1) ++ Z) (rest := []) (x := q) (y := S) (v := (S : Int)) rfl
          rw [HPQL.out] at e2
          rw [e2, List.append_nil] at this
          have e3 : P ++ (Q1 ++ [S] ++ (Q.drop (j + 1) ++ Z)) = P ++ Q1 ++ S :: (Q.drop (j + 1) ++ Z) := by simp
          rw [e3]
          exact this
        · exact grown_set hg _ _
      case measure => simp [intOf]; omega
    · have hjm2 : j = m := by omega
      subst hjm2
      have HBN : Hid (Blk wr g 43 (nums .u64 (P ++ (Q1 ++ Z)))) := Lib.hid (by have := hblk.out; rw [List.drop_of_length_le (by rw [HQL.out]; omega), List.nil_append] at this; exact this)
      have HVN : Hid (val B64 Q1 + u * val B64 ys = val B64 Q + B64 ^ j * cy) := Lib.hid (by
        have := hv.out
        rw [List.take_of_length_le (l := Q) (by rw [HQL.out]; omega), List.take_of_length_le (l := ys) (by rw [HLY.out]; omega)] at this
        exact this)
      have HLN := hlq
      clear hblk hv hlq
      go_wp2
      go_ret
      exact ⟨Q1, cy, rfl, HBN.out, HLN.out, hdq, hcy.out, HVN.out, hg⟩


end Go.Proofs.YtmjinhieeflkgaaDoorRRRR
