/- Contracts of nat's guess and quotientWord. -/
import Derived.Test.YtmjinhieeflkgaaDoorRRRRDivA
import Derived.Test.YtmjinhieeflkgaaDoorRRRROver
namespace Go.Proofs.YtmjinhieeflkgaaDoorRRRR
open Go.RowKit

/-- The guess of a quotient's word. -/
def gs (hi lo top : Nat) : Nat := if top ≤ hi then 18446744073709551615 else (hi * B64 + lo) / top
theorem gs_lt {hi lo top : Nat} (hlo : lo < B64) : gs hi lo top < B64 := by
  unfold gs
  split
  · decide
  · rename_i h
    refine (Nat.div_lt_iff_lt_mul (by omega)).2 ?_
    have h2 : (hi + 1) * B64 ≤ top * B64 := Nat.mul_le_mul_right _ (by omega)
    rw [Nat.add_mul, Nat.one_mul, Nat.mul_comm top] at h2
    omega
theorem gs_ge {hi lo top q : Nat} (hq : q < B64) (h : q ≤ (hi * B64 + lo) / top) : q ≤ gs hi lo top := by
  unfold gs
  split
  · rw [B64_eq] at hq; omega
  · exact h

theorem nat_guess (hi lo top : Nat) (w : World) (h1 : 9223372036854775808 ≤ top) (h2 : top < B64) (hlo : lo < B64) :
    Calls Tryd.prog 56 #[.int .u64 hi, .int .u64 lo, .int .u64 top] w fun e w' => e = .returned (.int .u64 (gs hi lo top : Nat)) ∧ ∃ q, w' = w.drewN q := by
  by_cases hh : top ≤ hi
  · have HG : Hid (gs hi lo top = 18446744073709551615) := Lib.hid (by unfold gs; rw [if_pos hh])
    go_enter Tryd.func56, Tryd.ntmps56
    go_wp2
    go_ret
    exact ⟨ret_int (by rw [HG.out]; rfl), 0, rfl⟩
  · have HG : Hid (gs hi lo top = (hi * B64 + lo) / top) := Lib.hid (by unfold gs; rw [if_neg hh])
    go_enter Tryd.func56, Tryd.ntmps56
    go_wp2_with fail
    refine (div64_any hi lo top _ (by omega) h1 h2 hlo).mono ?_
    rintro e w1 ⟨rfl, q, rfl⟩
    go_wp2
    go_ret
    exact ⟨ret_int (by rw [HG.out]; push_cast; rfl), q, rfl⟩

theorem qcallD0 {P : Program} {f : FuncId} {args : Array Value} {w : World} {n : Nat} {v : Value}
    (h : Calls P f args (w.drewN n) fun e w' => e = .returned v ∧ ∃ q, w' = (w.drewN n).drewN q) :
    Calls P f args (w.drewN n) fun e w'' => e = .returned v ∧ ∃ m, w'' = w.drewN m :=
  h.mono fun _ _ ⟨he, q, hq⟩ => ⟨he, n + q, by rw [hq, World.drewN_drewN]⟩

theorem sub64_ex (x y : Nat) (hx : x < B64) (hy : y < B64) : ∃ S c : Nat, c ≤ 1 ∧ S < B64 ∧ S + y = x + B64 * c ∧
    ∀ W : World, (callFunc 57 #[.int .u64 x, .int .u64 y, .int .u64 0]).run Tryd.prog W = .ok (.value (.tuple #[.int .u64 (S : Int), .int .u64 (c : Int)])) W := by
  have h := sub_word hx hy (Nat.zero_le 1)
  refine ⟨(x + B64 - y - 0) % B64, if x < y + 0 then 1 else 0, sub_borrow _ _ _, Nat.mod_lt _ B64_pos, by simpa using h, fun W => ?_⟩
  have := run_Sub64 x y 0 (by omega) W
  rw [show ((0 : Nat) : Int) = 0 from rfl] at this
  exact this

/-- Behind the first word less the guess times the divisor. -/
theorem quot_first {Q Q1 : List Nat} {n t S c cy m D : Nat} (hQ : Q.length = n) (hQ1 : Q1.length = n) (h : val B64 Q1 + m * D = val B64 Q + B64 ^ n * cy) (hS : S + cy = t + B64 * c) :
    val B64 (Q1 ++ [S]) + m * D = val B64 (Q ++ [t]) + B64 ^ (n + 1) * c := by
  rw [val_snoc, val_snoc, hQ, hQ1, Nat.pow_succ, Nat.mul_assoc]
  have h2 : B64 ^ n * (S + cy) = B64 ^ n * (t + B64 * c) := by rw [hS]
  rw [Nat.mul_add, Nat.mul_add] at h2
  omega

theorem quot_guess {Q ds : List Nat} {n k t : Nat} (hn : n = k + 1) (hQ : Q.length = n) (hd : ds.length = n) (hdQ : Dig B64 Q) (hlt : val B64 (Q ++ [t]) < B64 * val B64 ds)
    (htop : 9223372036854775808 ≤ ds.getD k 0) : val B64 (Q ++ [t]) / val B64 ds ≤ gs t (Q.getD k 0) (ds.getD k 0) := by
  have hds : val B64 ds = ds.getD k 0 * B64 ^ k + val B64 (ds.take k) := by
    have := val_take_succ B64 ds k (by omega)
    rw [List.take_of_length_le (by omega)] at this
    rw [this, Nat.mul_comm (B64 ^ k)]; omega
  have hQs : val B64 (Q ++ [t]) = (t * B64 + Q.getD k 0) * B64 ^ k + val B64 (Q.take k) := by
    have := val_take_succ B64 Q k (by omega)
    rw [List.take_of_length_le (by omega)] at this
    rw [val_snoc, hQ, this, hn, Nat.pow_succ, Nat.add_mul, Nat.mul_comm (B64 ^ k) (Q.getD k 0)]
    have e : B64 ^ k * B64 * t = t * B64 * B64 ^ k := by rw [Nat.mul_comm, Nat.mul_comm (B64 ^ k), Nat.mul_assoc]
    omega
  have hwl : val B64 (Q.take k) < B64 ^ k := by
    have := val_lt (hdQ.take k)
    rw [List.length_take, Nat.min_eq_left (by omega)] at this
    exact this
  have hDp : 0 < val B64 ds := by
    rw [hds]
    have := Nat.mul_pos (show 0 < ds.getD k 0 by omega) (Nat.pow_pos (n := k) B64_pos)
    omega
  refine gs_ge ((Nat.div_lt_iff_lt_mul hDp).2 hlt) ?_
  exact guess_ge hQs hwl hds (by omega)

theorem Sl.grown_off {k : IntKind} {w w' : World} {b off n c g : Nat} {xs : List Nat} (h : Sl k w (some ⟨b, off, none⟩) n c xs) (hg : w.grownBy w' (some g)) (hne : b ≠ g) : Sl k w' (some ⟨b, off, none⟩) n c xs :=
  ⟨h.1, h.2.1, h.2.2.1, fun hn => by
    obtain ⟨b', off', e, hc⟩ := h.2.2.2 hn
    injection e with e
    injection e with e1 e2
    subst e1 e2
    exact ⟨b, off, rfl, fun j hj => hg.cell (hc j hj) (by intro e; injection e with e; exact hne e)⟩⟩

theorem grown_trans {w w1 w2 : World} {r : Option Nat} (h : w.grownBy w1 r) (k : w1.grownBy w2 r) : w.grownBy w2 r :=
  ⟨k.os.trans h.os, k.tape.trans h.tape, k.output.trans h.output, Nat.le_trans h.size k.size, fun j hj hne => (k.block j (Nat.lt_of_lt_of_le hj h.size) hne).trans (h.block j hj hne)⟩

set_option maxHeartbeats 4000000 in
set_option maxRecDepth 100000 in
theorem nat_quotientWord (g f n c cd t : Nat) (B : Option Addr) (P Q Z ds : List Nat) (w : World) (hblk : Blk w g 43 (nums .u64 (P ++ (Q ++ t :: Z)))) (hP : P.length = f) (hQ : Q.length = n) (hdQ : Dig B64 Q) (ht : t < B64)
    (hs : Sl .u64 w B n cd ds) (hdd : Dig B64 ds) (hn0 : 0 < n) (hn : n ≤ 1000000000) (_hf : f ≤ 1000000000) (hc : n < c) (htop : 9223372036854775808 ≤ ds.getD (n - 1) 0) (hlt : val B64 (Q ++ [t]) < B64 * val B64 ds) (hne : 0 < n → ∀ b o, B = some ⟨b, o, none⟩ → b ≠ g) :
    Calls Tryd.prog 44 #[.slice (some ⟨g, f, none⟩) (n + 1 : Nat) c, .slice B n cd] w fun e w' => ∃ (m : Nat) (M : List Nat), e = .returned (.int .u64 m) ∧ Blk w' g 43 (nums .u64 (P ++ (M ++ Z))) ∧
      M.length = n + 1 ∧ Dig B64 M ∧ m < B64 ∧ m = val B64 (Q ++ [t]) / val B64 ds ∧ val B64 M = val B64 (Q ++ [t]) % val B64 ds ∧ w.grownBy w' (some g) := by
  obtain ⟨k, hk⟩ : ∃ k, n = k + 1 := ⟨n - 1, by omega⟩
  have hk1 : n - 1 = k := by omega
  rw [hk1] at htop
  obtain ⟨b, off, rfl, hbl, hcd⟩ := hs.block hn0
  have hbg := hne hn0 b off rfl
  have hcD := hcd k (by omega)
  have hlo := hdQ.getD B64_pos k
  have htb := hdd.getD B64_pos k
  have hbT : Blk w g 43 (nums .u64 ((P ++ Q) ++ t :: Z) ++ []) := by rw [List.append_nil, List.append_assoc]; exact hblk
  have hPQ : (P ++ Q).length = f + n := by rw [List.length_append, hP, hQ]
  have hcT := hbT.mid
  rw [hPQ] at hcT
  have hfT := hbT.frozen (f + n)
  have hkQ : k < Q.length := by omega
  have hcL : w.cell? ⟨g, f + k, none⟩ = some (.int .u64 ((Q.getD k 0 : Nat) : Int)) := by
    have hb := hblk
    rw [← List.take_append_drop k Q, List.drop_eq_getElem_cons hkQ] at hb
    have hb2 : Blk w g 43 (nums .u64 ((P ++ Q.take k) ++ Q[k] :: (Q.drop (k + 1) ++ t :: Z)) ++ []) := by
      rw [List.append_nil]
      simp only [List.append_assoc, List.cons_append] at hb ⊢
      exact hb
    have := hb2.mid
    rw [List.length_append, hP, List.length_take, Nat.min_eq_left (by omega)] at this
    rw [this, List.getD_eq_getElem?_getD, List.getElem?_eq_getElem hkQ]; rfl
  have HGE := Lib.hid (quot_guess (k := k) hk hQ hs.1 hdQ hlt htop)
  have HDP : Hid (0 < val B64 ds) := Lib.hid (by
    rcases Nat.eq_zero_or_pos (val B64 ds) with h | h
    · rw [h] at hlt; omega
    · exact h)
  obtain ⟨lo, hloe⟩ : ∃ lo, lo = Q.getD k 0 := ⟨_, rfl⟩
  obtain ⟨top, htope⟩ : ∃ top, top = ds.getD k 0 := ⟨_, rfl⟩
  rw [← hloe] at hcL hlo HGE
  rw [← htope] at hcD htb HGE htop
  have HGL : Hid (gs t lo top < B64) := Lib.hid (gs_lt hlo)
  have HGU := Lib.hid (fun W => nat_guess t lo top W htop htb hlo)
  obtain ⟨m0, hm0⟩ : ∃ m0, m0 = gs t lo top := ⟨_, rfl⟩
  rw [← hm0] at HGE HGL HGU
  have HB := Lib.hid hblk
  have HP := Lib.hid hP
  have HQ := Lib.hid hQ
  have HS := Lib.hid hs
  have HPQ := Lib.hid hPQ
  have hix : (n : Int) - 1 = (k : Int) := by omega
  have hix2 : IntKind.i64.wrap ((n : Int) - 1) = (n : Int) - 1 := IntWalk.i64_in _ (by omega)
  clear hblk hP hQ hs hne hcd hk hk1 hloe htope hm0 hbT hPQ hkQ hlt
  obtain ⟨W0, hW0⟩ : ∃ W0, W0 = val B64 (Q ++ [t]) := ⟨_, rfl⟩
  obtain ⟨D, hD⟩ : ∃ D, D = val B64 ds := ⟨_, rfl⟩
  have HW0 := Lib.hid hW0
  have HD := Lib.hid hD
  rw [← hW0, ← hD]
  rw [← hW0, ← hD] at HGE
  rw [← hD] at HDP
  clear hW0 hD
  go_enter Tryd.func44, Tryd.ntmps44
  go_wp2
  go_quiet ((go_at_call 56; exact qcallD0 (HGU.out _)))
  have hb2 : Blk (w.drewN nq) g 43 (nums .u64 (P ++ (Q ++ t :: Z))) := HB.out
  have hs2 : Sl .u64 (w.drewN nq) (some ⟨b, off, none⟩) n cd ds := HS.out
  have hg2 : w.grownBy (w.drewN nq) (some g) := grown_drewN (World.grownBy.refl _ _) nq
  have hcT2 : (w.drewN nq).cell? ⟨g, f + n, none⟩ = some (.int .u64 (t : Int)) := hcT
  have hfT2 : (w.drewN nq).frozen? ⟨g, f + n, none⟩ = false := hfT
  generalize World.drewN w nq = w2 at hb2 hs2 hg2 hcT2 hfT2 ⊢
  have HB2 := Lib.hid hb2
  have HS2 := Lib.hid hs2
  have HG2 := Lib.hid hg2
  clear hb2 hs2 hg2 hcT hfT hcL hcD HB
  have HSUB : Hid (∀ (W : World) (cc : Nat), w2.grownBy W none → Calls Tryd.prog 58 #[.slice (some ⟨g, f, none⟩) n cc, .slice (some ⟨b, off, none⟩) n cd, .int .u64 m0] W fun e w' => ∃ (Q1 : List Nat) (cy : Nat), e = .returned (.int .u64 cy) ∧ Blk w' g 43 (nums .u64 (P ++ (Q1 ++ t :: Z))) ∧
      Q1.length = n ∧ Dig B64 Q1 ∧ cy < B64 ∧ val B64 Q1 + m0 * val B64 ds = val B64 Q + B64 ^ n * cy ∧ W.grownBy w' (some g)) := Lib.hid (fun W cc hW =>
    nat_subTimes g f n cc cd m0 (some ⟨g, f, none⟩) (some ⟨b, off, none⟩) P Q ds (t :: Z) W (HB2.out.grown hW (by simp)) HP.out HQ.out hdQ HGL.out (fun _ => rfl) (HS2.out.grown hW (fun g e => by cases e)) hdd hn (fun _ b' o' e => by
      injection e with e
      injection e with e
      omega))
  go_upto_region 4 with (fail)
  go_cut [7] (fun s wx => ∃ (c0 : Nat) (M : List Nat), s = .int .u64 c0 ∧ c0 ≤ 1 ∧ Hid (Blk wx g 43 (nums .u64 (P ++ (M ++ Z)))) ∧ Hid (M.length = n + 1) ∧ Dig B64 M ∧ Hid (val B64 M + m0 * D = W0 + B64 ^ (n + 1) * c0) ∧ Hid (w.grownBy wx (some g)))
  case first =>
    go_region_with (first
      | (go_at_call 58
         refine (HSUB.out _ _ (grown_drewN (World.grownBy.refl w2 none) 1)).mono ?_
         rintro e w5 ⟨Q1, cy, rfl, hb5, hl5, hd5, hc5, hv5, hg5⟩
         have hb6 : Blk w5 g 43 (nums .u64 ((P ++ Q1) ++ t :: Z) ++ []) := by
           rw [List.append_nil, List.append_assoc]
           exact hb5
         have hPQl : (P ++ Q1).length = f + n := by rw [List.length_append, HP.out, hl5]
         have hcO := hb6.mid
         rw [hPQl] at hcO
         have hfO := hb6.frozen (f + n)
         obtain ⟨S, c0, hc0, hSb, hSe, hrun⟩ := sub64_ex t cy ht hc5
         have HB6 := Lib.hid hb6
         have HPQL := Lib.hid hPQl
         have HL5 := Lib.hid hl5
         have HV5 := Lib.hid hv5
         have HG5 := Lib.hid hg5
         have HSE := Lib.hid hSe
         have HSBB := Lib.hid hSb
         clear hb6 hPQl hb5 hl5 hc5 hv5 hg5 hSe hSb))
    all_goals
      go_wp2_with fail
      go_meet
      refine ⟨c0, Q1 ++ [S], rfl, hc0, Lib.hid ?_, Lib.hid (by rw [List.length_append, HL5.out]; rfl), hd5.app (Dig.cons HSBB.out (Dig.nil _)), Lib.hid (by rw [HW0.out, HD.out]; exact quot_first HQ.out HL5.out HV5.out HSE.out), Lib.hid (grown_set (grown_trans (grown_drewN HG2.out 1) HG5.out) _ _)⟩
      have := HB6.out.set_ (f + n) (.int .u64 (S : Int))
      have e2 := set_mid (k := .u64) (a := P ++ Q1) (b := Z) (rest := []) (x := t) (y := S) (v := (S : Int)) rfl
      rw [HPQL.out] at e2
      rw [e2, List.append_nil] at this
      rw [show P ++ (Q1 ++ [S] ++ Z) = P ++ Q1 ++ S :: Z from by simp only [List.append_assoc, List.cons_append, List.nil_append]]
      exact this
  case rest =>
    obtain ⟨c0, M0, rfl, hc0, hbM, hlM, hdM, hvM, hgM⟩ := hcut
    go_wp2
    go_loopw [6, 7] (fun mv cv wr => ∃ (m c1 : Nat) (M : List Nat), mv = .int .u64 m ∧ cv = .int .u64 c1 ∧ c1 ≤ 1 ∧ Hid (m < B64) ∧ Hid (W0 / D ≤ m) ∧ Hid (Blk wr g 43 (nums .u64 (P ++ (M ++ Z)))) ∧ Hid (M.length = n + 1) ∧ Dig B64 M ∧ Hid (val B64 M + m * D = W0 + B64 ^ (n + 1) * c1) ∧ Hid (w.grownBy wr (some g))) (fun mv _ _ => (intOf mv).toNat)
    case atStart => exact ⟨m0, c0, M0, rfl, rfl, hc0, HGL, HGE, hbM, hlM, hdM, hvM, hgM⟩
    case round =>
      clear hbM hlM hdM hvM hgM hc0
      obtain ⟨m, c1, M, rfl, rfl, hc1, hmb, hmq, hb, hl, hd, hv, hg⟩ := hrel
      by_cases hz : c1 = 0
      · have t1 : ((c1 : Int) != 0) = false := by rw [hz]; rfl
        obtain ⟨e1, e2⟩ := quot_done (W' := val B64 M) (by have := hv.out; rw [hz, Nat.mul_zero, Nat.add_zero] at this; exact this) hmq.out HDP.out
        have E1 := Lib.hid e1
        have E2 := Lib.hid e2
        clear hz e1 e2
        go_wp2
        go_ret
        exact ⟨m, M, rfl, hb.out, hl.out, hd, hmb.out, E1.out, E2.out, hg.out⟩
      · have t1 : ((c1 : Int) != 0) = true := by rw [bne_iff_ne]; omega
        have hone : c1 = 1 := by omega
        obtain ⟨hmp, hq1, hv1⟩ := quot_again (T := B64 ^ (n + 1)) (D := D) (by have := hv.out; rw [hone, Nat.mul_one] at this; exact this) (by have := val_lt hd; rw [hl.out] at this; exact this) HDP.out
        obtain ⟨m1, hm1⟩ : ∃ m1, m = m1 + 1 := ⟨m - 1, by omega⟩
        have hm2 : m - 1 = m1 := by omega
        rw [hm2] at hq1 hv1
        have hmx : IntKind.u64.wrap ((m : Int) - 1) = (m1 : Int) := by
          have := hmb.out
          rw [B64_eq] at this
          rw [IntWalk.u64_in _ ⟨by omega, by omega⟩]; omega
        have HM1B : Hid (m1 < B64) := Lib.hid (by have := hmb.out; omega)
        have HMQ := Lib.hid hq1
        have HV1 := Lib.hid hv1
        have HONE := Lib.hid hone
        have HLT : Hid (m1 < m) := Lib.hid (by omega)
        have hbA : Blk wr g 43 (nums .u64 (P ++ M) ++ nums .u64 Z) := by
          have := hb.out
          rw [← List.append_assoc, nums_append] at this
          exact this
        have HBA := Lib.hid hbA
        have HS3 := Lib.hid (HS.out.grown_off hg.out hbg)
        clear hz hone hq1 hv1 hm1 hm2 hmp hbA hb hv hmq
        go_wp2_with fail
        refine (nat_addAt g f (n + 1) c n cd _ P M ds (nums .u64 Z) _ HBA.out HP.out hl.out hd (by omega) HS3.out hdd (by omega) (fun _ b' o' e => by
          injection e with e
          injection e with e
          omega)).mono ?_
        rintro e w6 ⟨zs, cy, rfl, hb6, hl6, hd6, hcy, hv6, hg6⟩
        obtain ⟨c2, hc2⟩ : ∃ c2, c2 = 1 - cy := ⟨_, rfl⟩
        have hsub : IntKind.u64.wrap ((c1 : Int) - (cy : Int)) = (c2 : Int) := by
          rw [HONE.out, IntWalk.u64_in _ ⟨by omega, by omega⟩]; omega
        have hc2b : c2 ≤ 1 := by omega
        have HB6 : Hid (Blk w6 g 43 (nums .u64 (P ++ (zs ++ Z)))) := Lib.hid (by
          rw [← List.append_assoc, nums_append]
          exact hb6)
        have HV6 : Hid (val B64 zs + m1 * D = W0 + B64 ^ (n + 1) * c2) := Lib.hid (by
          have h1 := HV1.out
          rw [← HD.out] at hv6
          rcases (show cy = 0 ∨ cy = 1 by omega) with h | h
          · rw [hc2, h, Nat.sub_zero, Nat.mul_one]
            rw [h, Nat.mul_zero] at hv6
            omega
          · rw [hc2, h, Nat.sub_self, Nat.mul_zero]
            rw [h, Nat.mul_one] at hv6
            omega)
        have HL6 := Lib.hid hl6
        have HG6 := Lib.hid (grown_trans hg.out hg6)
        clear hb6 hv6 hl6 hg6 hc2 hcy
        go_wp2
        go_roundw
        case rel => exact ⟨m1, c2, zs, rfl, rfl, hc2b, HM1B, HMQ, HB6, HL6, hd6, HV6, HG6⟩
        case measure => simp [intOf]; exact HLT.out

end Go.Proofs.YtmjinhieeflkgaaDoorRRRR
