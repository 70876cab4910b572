/- Contracts of nat's addTimes and Mul. -/
import Derived.Test.YtmjinhieeflkgaaDoorRRRRRefE
import Derived.Test.YtmjinhieeflkgaaDoorRRRRCarryB
import Derived.StillTailTactics
namespace Go.Proofs.YtmjinhieeflkgaaDoorRRRR
open Go.RowKit

/-- The three carries of a step of addTimes. -/
theorem words_step {q u v cy : Nat} (hq : q < B64) (hu : u < B64) (hv : v < B64) (hc : cy < B64) :
    (q + ((v * u % B64 + cy) % B64)) % B64 = (q + u * v + cy) % B64 ∧
    v * u / B64 + (v * u % B64 + cy) / B64 + (q + ((v * u % B64 + cy) % B64)) / B64 = (q + u * v + cy) / B64 ∧ (q + u * v + cy) / B64 < B64 := by
  have h1 := Nat.div_add_mod (v * u) B64
  have h2 := Nat.div_add_mod (v * u % B64 + cy) B64
  have h3 := Nat.div_add_mod (q + ((v * u % B64 + cy) % B64)) B64
  have hS : (q + ((v * u % B64 + cy) % B64)) % B64 < B64 := Nat.mod_lt _ B64_pos
  have e : q + u * v + cy = (q + ((v * u % B64 + cy) % B64)) % B64 + B64 * (v * u / B64 + (v * u % B64 + cy) / B64 + (q + ((v * u % B64 + cy) % B64)) / B64) := by
    rw [Nat.mul_add, Nat.mul_add, Nat.mul_comm u v]
    omega
  have hb : (q + u * v + cy) / B64 < B64 := by
    rw [Nat.div_lt_iff_lt_mul B64_pos]
    have : u * v ≤ (B64 - 1) * (B64 - 1) := Nat.mul_le_mul (by omega) (by omega)
    rw [B64_eq] at *
    omega
  refine ⟨?_, ?_, hb⟩
  · rw [e, Nat.add_mul_mod_self_left, Nat.mod_eq_of_lt hS]
  · rw [e, Nat.add_mul_div_left _ _ B64_pos, Nat.div_eq_of_lt hS, Nat.zero_add]

theorem call_Mul64 (x y : Nat) (hx : x < B64) (hy : y < B64) (w : World) :
    Calls Tryd.prog 52 #[.int .u64 x, .int .u64 y] w fun e w' => e = .returned (.tuple #[.int .u64 ((x * y / B64 : Nat) : Int), .int .u64 ((x * y % B64 : Nat) : Int)]) ∧ w = w' := by
  rw [B64_eq] at hx hy ⊢
  exact (Tryd.bits_Mul64 x y hx hy w).mono fun e w' ⟨h1, h2⟩ => ⟨h1, h2.symm⟩

set_option maxHeartbeats 4000000 in
theorem nat_addTimes (g k m c cb u : Nat) (A B : Option Addr) (P Q ys Z : List Nat) (w : World) (hblk : Blk w g 43 (nums .u64 (P ++ (Q ++ Z)))) (hP : P.length = k) (hQ : Q.length = m) (hdQ : Dig B64 Q) (hu : u < B64)
    (hA : 0 < m → A = some ⟨g, k, none⟩) (hs : Sl .u64 w B m cb ys) (hdy : Dig B64 ys) (hm : m ≤ 1000000000) (hne : 0 < m → ∀ b o, B = some ⟨b, o, none⟩ → b ≠ g) :
    Calls Tryd.prog 37 #[.slice A m c, .slice B m cb, .int .u64 u] w fun e w' => ∃ (Q1 : List Nat) (cy : Nat), e = .returned (.int .u64 cy) ∧ Blk w' g 43 (nums .u64 (P ++ (Q1 ++ Z))) ∧
      Q1.length = m ∧ Dig B64 Q1 ∧ cy < B64 ∧ val B64 Q1 + B64 ^ m * cy = val B64 Q + u * val B64 ys ∧ w.grownBy w' (some g) := by
  have HB := Lib.hid hblk
  have HPL := Lib.hid hP
  have HQL := Lib.hid hQ
  have HS := Lib.hid hs
  have HNE := Lib.hid hne
  have HLY := Lib.hid hs.1
  have HU := Lib.hid hu
  have HAA := Lib.hid hA
  clear hblk hP hQ hs hne hu hA
  go_enter Tryd.func37, Tryd.ntmps37
  go_wp2
  go_loopw [7, 14] (fun cv jv wr => ∃ (j cy : Nat) (Q1 : List Nat), jv = .int .i64 j ∧ cv = .int .u64 cy ∧ j ≤ m ∧ Hid (cy < B64) ∧ Hid (Blk wr g 43 (nums .u64 (P ++ (Q1 ++ (Q.drop j ++ Z))))) ∧ Hid (Q1.length = j) ∧ Dig B64 Q1 ∧
      Hid (val B64 Q1 + B64 ^ j * cy = val B64 (Q.take j) + u * val B64 (ys.take j)) ∧ w.grownBy wr (some g)) (fun _ jv _ => m - (intOf jv).toNat)
  case atStart => exact ⟨0, 0, [], rfl, rfl, Nat.zero_le _, Lib.hid B64_pos, HB, Lib.hid rfl, Dig.nil _, Lib.hid (by simp [val]), World.grownBy.refl _ _⟩
  case round =>
    clear HB
    obtain ⟨j, cy, Q1, rfl, rfl, hj, hcy, hblk, hlq, hdq, hv, hg⟩ := hrel
    by_cases hjm : j < m
    · have hA := HAA.out (by omega)
      subst hA
      obtain ⟨b2, off2, rfl, hbl2, hc2⟩ := HS.out.block (by omega)
      have hbg := HNE.out (by omega) b2 off2 rfl
      have hjy : j < ys.length := by rw [HLY.out]; omega
      have hjq : j < Q.length := by rw [HQL.out]; omega
      have hc20 := hc2 j hjm
      have hy0 := hdy.getD B64_pos j
      have hvy := val_take_succ B64 ys j hjy
      have hvq := val_take_succ B64 Q j hjq
      obtain ⟨v, hv2⟩ : ∃ v, v = ys.getD j 0 := ⟨_, rfl⟩
      obtain ⟨q, hq2⟩ : ∃ q, q = Q.getD j 0 := ⟨_, rfl⟩
      have hqb : q < B64 := by rw [hq2]; exact hdQ.getD B64_pos j
      have hqe : q = Q[j] := by rw [hq2, List.getD_eq_getElem?_getD, List.getElem?_eq_getElem hjq]; rfl
      rw [← hv2] at hc20 hy0 hvy
      rw [← hq2] at hvq
      have hcB : wr.cell? ⟨b2, off2 + j, none⟩ = some (.int .u64 (v : Int)) := hg.cell hc20 (by intro e; injection e with e; exact hbg e)
      have hb2 : Blk wr g 43 (nums .u64 ((P ++ Q1) ++ q :: (Q.drop (j + 1) ++ Z)) ++ []) := by
        have := hblk.out
        rw [List.drop_eq_getElem_cons hjq, ← hqe] at this
        rw [List.append_nil, List.append_assoc]
        exact this
      have hcO := hb2.mid
      have hPQl : (P ++ Q1).length = k + j := by rw [List.length_append, HPL.out, hlq.out]
      rw [hPQl] at hcO
      have hfO := hb2.frozen (k + j)
      have hws := words_step hqb HU.out hy0 hcy.out
      have hst := mul_step (u := u) (cy := cy) hlq.out hv.out hvq hvy
      obtain ⟨S, hS⟩ : ∃ S, S = (q + u * v + cy) % B64 := ⟨_, rfl⟩
      obtain ⟨C, hC⟩ : ∃ C, C = (q + u * v + cy) / B64 := ⟨_, rfl⟩
      rw [← hS, ← hC] at hst hws
      obtain ⟨hi, hhi⟩ : ∃ hi, hi = v * u / B64 := ⟨_, rfl⟩
      obtain ⟨lo, hlo⟩ : ∃ lo, lo = v * u % B64 := ⟨_, rfl⟩
      have hlob : lo < B64 := by rw [hlo]; exact Nat.mod_lt _ B64_pos
      have hmul := Lib.hid (fun W => call_Mul64 v u hy0 HU.out W)
      rw [← hhi, ← hlo] at hmul hws
      have hadd1 := fun W => run_Add64 lo cy 0 hlob hcy.out (by omega) W
      obtain ⟨l2, hl2⟩ : ∃ l2, l2 = (lo + cy) % B64 := ⟨_, rfl⟩
      obtain ⟨c1, hc1⟩ : ∃ c1, c1 = (lo + cy) / B64 := ⟨_, rfl⟩
      have hl2b : l2 < B64 := by rw [hl2]; exact Nat.mod_lt _ B64_pos
      rw [← hl2, ← hc1] at hws
      rw [Nat.add_zero, ← hl2, ← hc1, show ((0 : Nat) : Int) = 0 from rfl] at hadd1
      have hadd2 := fun W => run_Add64 q l2 0 hqb hl2b (by omega) W
      obtain ⟨c2, hcc2⟩ : ∃ c2, c2 = (q + l2) / B64 := ⟨_, rfl⟩
      rw [Nat.add_zero, hws.1, ← hcc2, show ((0 : Nat) : Int) = 0 from rfl] at hadd2
      have hsum : hi + c1 + c2 = C := by rw [hcc2]; exact hws.2.1
      have hsumb : (hi : Int) + (c1 : Int) + (c2 : Int) ≤ 18446744073709551615 := by
        have := hws.2.2
        rw [← hsum, B64_eq] at this
        omega
      have HSUM := Lib.hid hsum
      have HCB := Lib.hid hws.2.2
      have HST := Lib.hid hst
      have HB2 := Lib.hid hb2
      have HPQL := Lib.hid hPQl
      have HSB : Hid (S < B64) := Lib.hid (by rw [hS]; exact Nat.mod_lt _ B64_pos)
      have HLQ : Hid ((Q1 ++ [S]).length = j + 1) := Lib.hid (by rw [List.length_append, hlq.out]; rfl)
      clear hst hb2 hPQl hqe hq2 hv2 hvq hvy hc20 hc2 hjy hjq hv hlq hblk hS hC hhi hlo hl2 hc1 hcc2 hsum hws hqb hy0 hlob hl2b hbg hcy
      go_wp2_with fail
      refine (hmul.out _).mono ?_
      rintro e w1 ⟨rfl, rfl⟩
      go_wp2
      go_roundw
      case rel =>
        refine ⟨j + 1, hi + c1 + c2, Q1 ++ [S], by go_num, by go_num, by omega, Lib.hid (by rw [HSUM.out]; exact HCB.out), Lib.hid ?_, HLQ, hdq.app (Dig.cons HSB.out (Dig.nil _)), Lib.hid (by rw [HSUM.out]; exact HST.out), ?_⟩
        · have := HB2.out.set_ (k + j) (.int .u64 (S : Int))
          have e2 := set_mid (k := .u64) (a := P ++ Q1) (b := Q.drop (j + 1) ++ Z) (rest := []) (x := q) (y := S) (v := (S : Int)) rfl
          rw [HPQL.out] at e2
          rw [e2, List.append_nil] at this
          have e3 : P ++ (Q1 ++ [S] ++ (Q.drop (j + 1) ++ Z)) = P ++ Q1 ++ S :: (Q.drop (j + 1) ++ Z) := by simp
          rw [e3]
          exact this
        · exact grown_set hg _ _
      case measure => simp [intOf]; omega
    · have hjm2 : j = m := by omega
      subst hjm2
      have HBN : Hid (Blk wr g 43 (nums .u64 (P ++ (Q1 ++ Z)))) := Lib.hid (by have := hblk.out; rw [List.drop_of_length_le (by rw [HQL.out]; omega), List.nil_append] at this; exact this)
      have HVN : Hid (val B64 Q1 + B64 ^ j * cy = val B64 Q + u * val B64 ys) := Lib.hid (by
        have := hv.out
        rw [List.take_of_length_le (l := Q) (by rw [HQL.out]; omega), List.take_of_length_le (l := ys) (by rw [HLY.out]; omega)] at this
        exact this)
      have HLN := hlq
      clear hblk hv hlq
      go_wp2
      go_ret
      exact ⟨Q1, cy, rfl, HBN.out, HLN.out, hdq, hcy.out, HVN.out, hg⟩

set_option maxHeartbeats 4000000 in
set_option maxRecDepth 100000 in
theorem nat_Mul (A : Option Addr) (n c x : Nat) (B : Option Addr) (m cb y : Nat) (w : World) (h : Rep .u64 B64 w A n c x) (h' : Rep .u64 B64 w B m cb y) (hn : n ≤ 1000000000) (hm : m ≤ 1000000000) :
    Calls Tryd.prog 15 #[.agg #[.slice A n c], .agg #[.slice B m cb]] w (RetGot w (x * y)) := by
  obtain ⟨i0, hi, hz0, hz1, hz2⟩ := info_parts Tryd.info43
  obtain ⟨xs, h1, h2, h3, h4⟩ := h
  obtain ⟨ys, k1, k2, k3, k4⟩ := h'
  have H1 := Lib.hid h1
  have K1 := Lib.hid k1
  have H4 := Lib.hid h4
  have K4 := Lib.hid k4
  have HLX := Lib.hid h1.1
  have HLY := Lib.hid k1.1
  clear h1 k1 h3 k3 h4 k4
  go_enter Tryd.func15, Tryd.ntmps15
  go_wp2_with (first
    | (at_make
       refine wpList_make_full _ rfl _ _ 22 rfl w.heap.size 43 i0 (.int .u64 0) 1 Tryd.underlying22 hi hz0 hz1 .i64 .i64 _ _ (n + m) rfl rfl (by omega) (by omega) (by rw [hz2]; omega) (by simp only [maxLen]; omega) (by simp; omega) ?_
       intro w1 hown hgr
       have hblk := Lib.hid (Blk.of_make hown (by omega))
       have hbA := (((Blk.new1 w 28 (.slice A n c)).alloc (.cells #[.slice B m cb] 28)).alloc (.cells #[.slice none 0 0] 28)).grown hgr (by simp)
       have hbB := ((Blk.new1 (w.alloc (.cells #[.slice A n c] 28)) 28 (.slice B m cb)).alloc (.cells #[.slice none 0 0] 28)).grown hgr (by simp)
       have hbR := (Blk.new1 ((w.alloc (.cells #[.slice A n c] 28)).alloc (.cells #[.slice B m cb] 28)) 28 (.slice none 0 0)).grown hgr (by simp)
       have HB1 : Hid (Below w.heap.size w w1) := Lib.hid (((((Below.refl _ _).alloc (Nat.le_refl _) _).alloc (by simp) _).alloc (by simp; omega) _).grown hgr (by simp; omega) (fun k hk => by cases hk))
       simp at hbA hbB hbR
       have HBA := Lib.hid hbA
       have HBB := Lib.hid hbB
       have HBR := Lib.hid hbR
       have hxA := hbA.cell0
       have hxB := hbB.cell0
       have hgsz := hgr.size
       simp at hgsz
       clear hown hgr hbA hbB hbR))
  obtain ⟨g, hgd⟩ : ∃ g, g = w.heap.size + 1 + 1 + 1 := ⟨_, rfl⟩
  have HGD := Lib.hid hgd
  have hgle : w.heap.size ≤ g := by omega
  have hblk2 : Hid (Blk w1 g 43 (List.replicate (n + m) (.int .u64 0))) := Lib.hid (by have := hblk.out; rw [hgd]; simpa using this)
  rw [← hgd]
  clear hgd hblk
  go_loopw [20] (fun iv wr => ∃ (k : Nat) (R : List Nat), iv = .int .i64 k ∧ k ≤ n ∧ Hid (Blk wr g 43 (nums .u64 (R ++ List.replicate (n - k) 0))) ∧ Hid (R.length = k + m) ∧ Dig B64 R ∧ Hid (val B64 R = val B64 (xs.take k) * y) ∧ w1.grownBy wr (some g))
    (fun iv _ => n - (intOf iv).toNat)
  case atStart => exact ⟨0, List.replicate m 0, rfl, Nat.zero_le _, Lib.hid (by rw [List.replicate_append_replicate, nums_replicate, show m + (n - 0) = n + m from by omega]; exact hblk2.out), Lib.hid (by simp), Dig.replicate B64_pos m, Lib.hid (by rw [val_replicate]; simp [val]), World.grownBy.refl _ _⟩
  case round =>
    clear hblk2
    obtain ⟨k, R, rfl, hk, hblk, hlR, hdR, hvR, hg⟩ := hrel
    have hneg : ∀ j, j < g → (some j : Option Nat) ≠ some g := fun j hj e => by injection e with e; omega
    have hbA := HBA.out.grown hg (hneg _ (by have := HGD.out; omega))
    have hbB := HBB.out.grown hg (hneg _ (by have := HGD.out; omega))
    have hbR := HBR.out.grown hg (hneg _ (by have := HGD.out; omega))
    have hyA := hbA.cell0
    have hyB := hbB.cell0
    have HBRr := Lib.hid hbR
    have HBw : Hid (Below w.heap.size w wr) := Lib.hid (HB1.out.grown hg HB1.out.size (fun k hk => by cases hk; exact hgle))
    clear hneg hbA hbB hbR
    by_cases hlt : k < n
    · obtain ⟨b, off, rfl, hbl, hc⟩ := H1.out.block (by omega)
      have hkx : k < xs.length := by rw [HLX.out]; omega
      have hc0 := hc k hlt
      have hx0 := h2.getD B64_pos k
      have hvx := val_take_succ B64 xs k hkx
      obtain ⟨u, hu⟩ : ∃ u, u = xs.getD k 0 := ⟨_, rfl⟩
      rw [← hu] at hc0 hx0 hvx
      have hcA := (HBw.out.cell (p := ⟨b, off + k, none⟩) hbl).trans hc0
      obtain ⟨P, hP⟩ : ∃ P, P = R.take k := ⟨_, rfl⟩
      obtain ⟨Q, hQ⟩ : ∃ Q, Q = R.drop k := ⟨_, rfl⟩
      have hPQ : P ++ Q = R := by rw [hP, hQ]; exact List.take_append_drop k R
      have hPl : P.length = k := by rw [hP, List.length_take, hlR.out]; omega
      have hQl : Q.length = m := by rw [hQ, List.length_drop, hlR.out]; omega
      have hdP : Dig B64 P := by rw [hP]; exact hdR.take _
      have hdQ : Dig B64 Q := by rw [hQ]; exact hdR.drop _
      have HVR : Hid (val B64 (P ++ Q) = val B64 (xs.take k) * y) := Lib.hid (by rw [hPQ]; exact hvR.out)
      have HBL : Hid (Blk wr g 43 (nums .u64 (P ++ (Q ++ List.replicate (n - k) 0)))) := Lib.hid (by rw [← List.append_assoc, hPQ]; exact hblk.out)
      have HAD : Hid (∀ (W : World) (D : Option Addr) (cc : Nat), wr.grownBy W none → (0 < m → D = some ⟨g, k, none⟩) → Calls Tryd.prog 37 #[.slice D m cc, .slice B m cb, .int .u64 u] W fun e w' => ∃ (Q1 : List Nat) (cy : Nat), e = .returned (.int .u64 cy) ∧ Blk w' g 43 (nums .u64 (P ++ (Q1 ++ List.replicate (n - k) 0))) ∧
          Q1.length = m ∧ Dig B64 Q1 ∧ cy < B64 ∧ val B64 Q1 + B64 ^ m * cy = val B64 Q + u * val B64 ys ∧ W.grownBy w' (some g)) := Lib.hid (fun W D cc hW hD =>
        nat_addTimes g k m cc cb u D B P Q ys (List.replicate (n - k) 0) W (HBL.out.grown hW (by simp)) hPl hQl hdQ hx0 hD ((K1.out.keep HBw.out).grown hW (fun g e => by cases e)) k2 hm (fun hm0 b o e => by
          obtain ⟨b', o', e', hlt, _⟩ := K1.out.block hm0
          rw [e'] at e
          injection e with e
          injection e with e
          have := HGD.out
          omega))
      have HPL := Lib.hid hPl
      have HQL := Lib.hid hQl
      have HVX := Lib.hid hvx
      clear hu hP hQ hPQ hPl hQl hvx hblk hlR hvR hdR hc hc0 hdQ
      have hz : List.replicate (n - k) 0 = 0 :: List.replicate (n - (k + 1)) 0 := by
        rw [show n - k = (n - (k + 1)) + 1 from by omega]; rfl
      have HZ := Lib.hid hz
      clear hz
      have hkm1 : (k : Int) + (m : Int) ≤ (n : Int) + (m : Int) := by omega
      have hkm2 : (0 : Int) ≤ (k : Int) + (m : Int) := by omega
      have hs1 : (k : Int) ≤ (k : Int) + (m : Int) := by omega
      have hs2 : ¬ n + m = k := by omega
      have hs3 : ((k : Int) + (m : Int)).toNat = k + m := by omega
      have hs4 : k + m - k = m := by omega
      go_wp2
      go_region_with (first
        | (go_at_call 37
           refine (HAD.out _ _ _ (grown_drewN (World.grownBy.refl wr none) 1) (fun _ => rfl)).mono ?_
           rintro e w5 ⟨Q1, cy, rfl, hb5, hl5, hd5, hc5, hv5, hg5⟩
           have hb6 : Blk w5 g 43 (nums .u64 ((P ++ Q1) ++ 0 :: List.replicate (n - (k + 1)) 0) ++ []) := by
             have := hb5
             rw [HZ.out] at this
             rw [List.append_nil, List.append_assoc]
             exact this
           have hPQl : (P ++ Q1).length = k + m := by rw [List.length_append, HPL.out, hl5]
           have hcO := hb6.mid
           rw [hPQl] at hcO
           have hfO := hb6.frozen (k + m)
           have HPQL := Lib.hid hPQl
           have HB6 := Lib.hid hb6
           have HL5 := Lib.hid hl5
           have HC5 := Lib.hid hc5
           have HV5 := Lib.hid hv5
           have HG5 := Lib.hid hg5
           clear hb6 hPQl hb5 hl5 hc5 hv5 hg5))
      all_goals go_wp2
      all_goals
        go_roundw
        case rel =>
          have hrow := mul_row (b := B64) (cy := cy) HPL.out HL5.out (by have := HV5.out; rw [K4.out] at this; exact this) HVR.out HVX.out
          refine ⟨k + 1, P ++ (Q1 ++ [cy]), by go_num, by omega, Lib.hid ?_, Lib.hid (by rw [List.length_append, List.length_append, HPL.out, HL5.out]; simp; omega), hdP.app (hd5.app (Dig.cons HC5.out (Dig.nil _))), Lib.hid hrow, ?_⟩
          · have := HB6.out.set_ (k + m) (.int .u64 (cy : Int))
            have e2 := set_mid (k := .u64) (a := P ++ Q1) (b := List.replicate (n - (k + 1)) 0) (rest := []) (x := 0) (y := cy) (v := (cy : Int)) rfl
            rw [HPQL.out] at e2
            rw [e2, List.append_nil] at this
            have e3 : P ++ (Q1 ++ [cy]) ++ List.replicate (n - (k + 1)) 0 = P ++ Q1 ++ cy :: List.replicate (n - (k + 1)) 0 := by simp
            rw [e3]
            exact this
          · have h5 := HG5.out
            exact grown_set ⟨h5.os.trans hg.os, h5.tape.trans hg.tape, h5.output.trans hg.output, Nat.le_trans hg.size h5.size, fun j hj hne => (h5.block j (Nat.lt_of_lt_of_le hj hg.size) hne).trans (hg.block j hj hne)⟩ _ _
        case measure => simp [intOf]; omega
    · have hkn : k = n := by omega
      subst hkn
      have HV : Hid (val B64 R = x * y) := Lib.hid (by rw [hvR.out, List.take_of_length_le (by rw [HLX.out]; omega), H4.out])
      have hbR : Blk wr g 43 (nums .u64 R) := by have := hblk.out; rw [Nat.sub_self, List.replicate_zero, List.append_nil] at this; exact this
      have HSL := Lib.hid (Sl.of_blk0 (n := k + m) (c := k + m) hbR hlR.out (Nat.le_refl _) (by omega))
      clear hvR hblk hlR hbR hyA hyB hxA hxB
      go_wp2_with fail
      refine (nat_made _ (k + m) (k + m) R _ HSL.out hdR).mono ?_
      rintro e w3 ⟨A3, n3, c3, code, rfl, hgot, hb3⟩
      have hbx := HBRr.out.keep hb3
      have hx0 := hbx.cell0
      have hx1 := hbx.frozen 0
      have hst := hbx.stored (.slice A3 n3 c3)
      have HG := Lib.hid hgot
      have HB3 : Hid (Below w.heap.size w w3) := Lib.hid (HBw.out.trans (hb3.mono HBw.out.size))
      clear hbx hgot hb3
      go_wp2
      exact bodyPost_ret (v := .tuple #[.agg #[.slice A3 n3 c3], .int .i64 code]) (by simp [results, Tryd.results15, go_sem, hst]) rfl
        ⟨_, _, _, _, rfl, by have := HG.out; rw [HV.out] at this; exact this.setCell hx0 (fun i h => by cases h) _, HB3.out.setCell (Nat.le_trans (Nat.le_add_right _ 1) (Nat.le_add_right _ 1)) _⟩

end Go.Proofs.YtmjinhieeflkgaaDoorRRRR
