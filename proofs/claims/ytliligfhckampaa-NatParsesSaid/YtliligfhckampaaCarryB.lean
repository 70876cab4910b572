/- The contract of nat's sub; contracts of Add and Sub. -/
import Derived.Test.YtliligfhckampaaCarry
import Derived.Test.YtliligfhckampaaNatD
namespace Go.Proofs.Ytliligfhckampaa
open Go.RowKit

theorem sub_word {u v cy : Nat} (hu : u < B64) (hv : v < B64) (hc : cy ≤ 1) : (u + B64 - v - cy) % B64 + v + cy = u + B64 * (if u < v + cy then 1 else 0) := by
  rw [B64_eq] at *
  split <;> omega
theorem sub_borrow (u v cy : Nat) : (if u < v + cy then 1 else 0) ≤ 1 := by split <;> omega

/-- One word of a difference. -/
theorem sub_step {zs xs ys : List Nat} {k u v cy : Nat} (hl : zs.length = k) (h : val B64 zs + val B64 (ys.take k) = val B64 (xs.take k) + B64 ^ k * cy) (hu : u < B64) (hv : v < B64) (hc : cy ≤ 1)
    (hx : val B64 (xs.take (k + 1)) = val B64 (xs.take k) + B64 ^ k * u) (hy : val B64 (ys.take (k + 1)) = val B64 (ys.take k) + B64 ^ k * v) :
    val B64 (zs ++ [(u + B64 - v - cy) % B64]) + val B64 (ys.take (k + 1)) = val B64 (xs.take (k + 1)) + B64 ^ (k + 1) * (if u < v + cy then 1 else 0) := by
  have hw := sub_word hu hv hc
  generalize (u + B64 - v - cy) % B64 = D at *
  generalize (if u < v + cy then 1 else 0) = W at *
  have h2 : B64 ^ k * (D + v + cy) = B64 ^ k * (u + B64 * W) := by rw [hw]
  rw [val_snoc, hl, hx, hy, Nat.pow_succ, Nat.mul_assoc]
  simp only [Nat.mul_add] at h2
  omega

set_option maxHeartbeats 2000000 in
set_option maxRecDepth 100000 in
theorem nat_sub (g n c m cb : Nat) (B : Option Addr) (xs ys : List Nat) (rest : List Value) (w : World) (hblk : Blk w g 40 (nums .u64 xs ++ rest)) (hl : xs.length = n) (hdx : Dig B64 xs) (hn : n ≤ 1099511627776)
    (hs : Sl .u64 w B m cb ys) (hdy : Dig B64 ys) (hmn : m ≤ n) (hne : 0 < m → ∀ b o, B = some ⟨b, o, none⟩ → b ≠ g) :
    Calls Try.prog 51 #[.slice (some ⟨g, 0, none⟩) n c, .slice B m cb] w fun e w' => ∃ (zs : List Nat) (cy : Nat), e = .returned (.int .u64 cy) ∧ Blk w' g 40 (nums .u64 zs ++ rest) ∧
      zs.length = n ∧ Dig B64 zs ∧ cy ≤ 1 ∧ val B64 zs + val B64 ys = val B64 xs + B64 ^ n * cy ∧ w.grownBy w' (some g) := by
  have HB := Lib.hid hblk
  have HL := Lib.hid hl
  have HS := Lib.hid hs
  have HNE := Lib.hid hne
  have HLY := Lib.hid hs.1
  clear hblk hl hs hne
  go_enter Try.func51, Try.ntmps51
  go_wp2
  go_loopw [5, 11] (fun cv iv wr => ∃ (k cy : Nat) (zs : List Nat), k ≤ m ∧ iv = .int .i64 k ∧ cv = .int .u64 cy ∧ cy ≤ 1 ∧ Hid (Blk wr g 40 (nums .u64 (zs ++ xs.drop k) ++ rest)) ∧ Hid (zs.length = k) ∧ Dig B64 zs ∧
      Hid (val B64 zs + val B64 (ys.take k) = val B64 (xs.take k) + B64 ^ k * cy) ∧ w.grownBy wr (some g)) (fun _ iv _ => m - (intOf iv).toNat)
  case atStart => exact ⟨0, 0, [], Nat.zero_le _, rfl, rfl, by omega, HB, Lib.hid rfl, Dig.nil _, Lib.hid rfl, World.grownBy.refl _ _⟩
  case round =>
    obtain ⟨k, cy, zs, hk, rfl, rfl, hcy, hb, hlz, hdz, hv, hg⟩ := hrel
    by_cases hlt : k < m
    · have hkx : k < xs.length := by rw [HL.out]; omega
      have hky : k < ys.length := by rw [HLY.out]; omega
      obtain ⟨b, off, rfl, hbl, hc⟩ := HS.out.block (by omega)
      have hbg := HNE.out (by omega) b off rfl
      obtain ⟨u, hu⟩ : ∃ u, u = xs[k] := ⟨_, rfl⟩
      obtain ⟨v, hv2⟩ : ∃ v, v = ys.getD k 0 := ⟨_, rfl⟩
      have hub : u < B64 := by rw [hu]; exact hdx _ (List.getElem_mem hkx)
      have hvb : v < B64 := by rw [hv2]; exact hdy.getD B64_pos k
      have hb2 : Blk wr g 40 (nums .u64 (zs ++ u :: xs.drop (k + 1)) ++ rest) := by rw [← mid_nums hkx hu]; exact hb.out
      have hcell := hb2.mid
      rw [hlz.out] at hcell
      have hfr := hb2.frozen k
      have hc2 := hc k hlt
      rw [← hv2] at hc2
      have hcell2 : wr.cell? ⟨b, off + k, none⟩ = some (.int .u64 (v : Int)) := hg.cell hc2 (by intro e; injection e with e; exact hbg e)
      have hadd := run_Sub64 u v cy hcy
      have hst := sub_step hlz.out hv.out hub (by first | exact hvb | exact B64_pos) hcy (u := u) (v := v) (by rw [val_take_succ _ _ _ hkx, hu, List.getD_eq_getElem?_getD, List.getElem?_eq_getElem hkx]; rfl) (by rw [val_take_succ _ _ _ hky, hv2])
      have hC := sub_borrow u v cy
      have hSb : (u + B64 - v - cy) % B64 < B64 := Nat.mod_lt _ B64_pos
      obtain ⟨S, hS⟩ : ∃ S, S = (u + B64 - v - cy) % B64 := ⟨_, rfl⟩
      obtain ⟨C, hCC⟩ : ∃ C : Nat, C = (if u < v + cy then 1 else 0) := ⟨_, rfl⟩
      rw [← hS, ← hCC] at hadd hst
      rw [← hS] at hSb
      rw [← hCC] at hC
      have HST := Lib.hid hst
      have HB2 := Lib.hid hb2
      have HSB := Lib.hid hSb
      have HLZ : Hid ((zs ++ [S]).length = k + 1) := Lib.hid (by rw [List.length_append, hlz.out]; rfl)
      have HLZ0 := hlz
      clear hb hv hu hv2 hub hvb hb2 hc hc2 hst hS hCC hSb hlz hbg hkx hky
      go_wp2
      go_region
      all_goals go_wp2
      all_goals go_roundw
      case rel =>
        refine ⟨k + 1, C, zs ++ [S], by omega, by go_num, rfl, hC, Lib.hid ?_, HLZ, hdz.app (Dig.cons HSB.out (Dig.nil _)), HST, grown_drewN (grown_set hg _ _) 1⟩
        have := HB2.out.set_ k (.int .u64 (S : Int))
        have e2 := set_mid (k := .u64) (a := zs) (b := xs.drop (k + 1)) (rest := rest) (x := u) (y := S) (v := S) rfl
        rw [HLZ0.out] at e2
        rw [e2] at this
        rw [List.append_assoc]
        exact this
      case measure => simp [intOf]; omega
    · have hkm : k = m := by omega
      subst hkm
      have HY0 : Hid (ys.take k = ys) := Lib.hid (List.take_of_length_le (by rw [HLY.out]; omega))
      go_wp2
      go_loopw [5, 36] (fun cv iv wr => ∃ (j cy : Nat) (zs : List Nat), k + j ≤ n ∧ iv = .int .i64 j ∧ cv = .int .u64 cy ∧ cy ≤ 1 ∧ Hid (Blk wr g 40 (nums .u64 (zs ++ xs.drop (k + j)) ++ rest)) ∧ Hid (zs.length = k + j) ∧ Dig B64 zs ∧
          Hid (val B64 zs + val B64 (ys.take (k + j)) = val B64 (xs.take (k + j)) + B64 ^ (k + j) * cy) ∧ w.grownBy wr (some g)) (fun _ iv _ => n - k - (intOf iv).toNat)
      case atStart => exact ⟨0, cy, zs, by omega, rfl, rfl, hcy, hb, hlz, hdz, hv, hg⟩
      case round =>
        clear hb hlz hdz hv hg hcy
        obtain ⟨j, cy, zs, hj, rfl, rfl, hcy, hb, hlz, hdz, hv, hg⟩ := hrel
        by_cases hlt2 : (j : Int) < (n : Int) - (k : Int)
        · have hkx : k + j < xs.length := by rw [HL.out]; omega
          obtain ⟨u, hu⟩ : ∃ u, u = xs[k + j] := ⟨_, rfl⟩
          have hub : u < B64 := by rw [hu]; exact hdx _ (List.getElem_mem hkx)
          have hb2 : Blk wr g 40 (nums .u64 (zs ++ u :: xs.drop (k + j + 1)) ++ rest) := by rw [← mid_nums hkx hu]; exact hb.out
          have hcell := hb2.mid
          rw [hlz.out] at hcell
          have hfr := hb2.frozen (k + j)
          have hadd := run_Sub64 u 0 cy hcy
          have hy1 : val B64 (ys.take (k + j + 1)) = val B64 (ys.take (k + j)) + B64 ^ (k + j) * 0 := by
            rw [List.take_of_length_le (by rw [HLY.out]; omega), List.take_of_length_le (by rw [HLY.out]; omega)]; simp
          have hst := sub_step hlz.out hv.out hub (by first | exact hvb | exact B64_pos) hcy (u := u) (v := 0) (by rw [val_take_succ _ _ _ hkx, hu, List.getD_eq_getElem?_getD, List.getElem?_eq_getElem hkx]; rfl) hy1
          have hC := sub_borrow u 0 cy
          have hSb : (u + B64 - 0 - cy) % B64 < B64 := Nat.mod_lt _ B64_pos
          obtain ⟨S, hS⟩ : ∃ S, S = (u + B64 - 0 - cy) % B64 := ⟨_, rfl⟩
          obtain ⟨C, hCC⟩ : ∃ C : Nat, C = (if u < 0 + cy then 1 else 0) := ⟨_, rfl⟩
          rw [← hS, ← hCC] at hadd hst
          rw [← hS] at hSb
          rw [← hCC] at hC
          rw [show ((0 : Nat) : Int) = 0 from rfl] at hadd
          have HST := Lib.hid hst
          have HB2 := Lib.hid hb2
          have HSB := Lib.hid hSb
          have HLZ : Hid ((zs ++ [S]).length = k + (j + 1)) := Lib.hid (by rw [List.length_append, hlz.out]; rfl)
          have HLZ0 := hlz
          clear hb hv hu hub hb2 hst hS hCC hSb hlz hkx hy1
          go_wp2
          go_roundw
          case rel =>
            refine ⟨j + 1, C, zs ++ [S], by omega, by go_num, rfl, hC, Lib.hid ?_, HLZ, hdz.app (Dig.cons HSB.out (Dig.nil _)), HST, grown_set hg _ _⟩
            have := HB2.out.set_ (k + j) (.int .u64 (S : Int))
            have e2 := set_mid (k := .u64) (a := zs) (b := xs.drop (k + j + 1)) (rest := rest) (x := u) (y := S) (v := S) rfl
            rw [HLZ0.out] at e2
            rw [e2] at this
            rw [List.append_assoc]
            exact this
          case measure => simp [intOf]; omega
        · have hjn : k + j = n := by omega
          have HBN : Hid (Blk wr g 40 (nums .u64 zs ++ rest)) := Lib.hid (by have := hb.out; rw [List.drop_of_length_le (by rw [HL.out]; omega), List.append_nil] at this; exact this)
          have HVN : Hid (val B64 zs + val B64 ys = val B64 xs + B64 ^ n * cy) := Lib.hid (by
            have := hv.out
            rw [List.take_of_length_le (l := xs) (by rw [HL.out]; omega), List.take_of_length_le (l := ys) (by rw [HLY.out]; omega), hjn] at this
            exact this)
          have HLN : Hid (zs.length = n) := Lib.hid (by rw [hlz.out, hjn])
          clear hb hv hlz hjn
          go_wp2
          go_ret
          exact ⟨zs, cy, rfl, HBN.out, HLN.out, hdz, hcy, HVN.out, hg⟩

theorem two_pow_le {M : Nat} {x y : Nat} (hx : x < B64 ^ M) (hy : y < B64 ^ M) : x + y < B64 ^ (M + 1) := by
  rw [Nat.pow_succ]
  have : B64 ^ M * 2 ≤ B64 ^ M * B64 := Nat.mul_le_mul_left _ (by decide)
  omega

theorem no_carry {P z cy s : Nat} (h : z + P * cy = s) (hs : s < P) : cy = 0 ∧ z = s := by
  have : cy = 0 := by
    apply Nat.eq_zero_of_not_pos
    intro hp
    have : P * 1 ≤ P * cy := Nat.mul_le_mul_left _ hp
    omega
  subst this
  exact ⟨rfl, by omega⟩

set_option maxHeartbeats 2000000 in
theorem nat_Add (A : Option Addr) (n c x : Nat) (B : Option Addr) (m cb y : Nat) (w : World) (h : Rep .u64 B64 w A n c x) (h' : Rep .u64 B64 w B m cb y) (hn : n ≤ 1000000000) (hm : m ≤ 1000000000) :
    Calls Try.prog 22 #[.agg #[.slice A n c], .agg #[.slice B m cb]] w (RetGot w (x + y)) := by
  have hxl := (h.len_le (by decide) (max n m)).1 (Nat.le_max_left _ _)
  have hyl := (h'.len_le (by decide) (max n m)).1 (Nat.le_max_right _ _)
  have hsum := two_pow_le hxl hyl
  obtain ⟨xs, h1, h2, h3, h4⟩ := h
  obtain ⟨ys, k1, k2, k3, k4⟩ := h'
  obtain ⟨M, hM⟩ : ∃ M, M = max n m := ⟨_, rfl⟩
  have hMi : max (n : Int) (m : Int) = (M : Int) := by rw [hM]; omega
  have hMn : n ≤ M := by omega
  have hMm : m ≤ M := by omega
  have hMb : M ≤ 1000000000 := by omega
  rw [← hM] at hsum
  have H1 := Lib.hid h1
  have K1 := Lib.hid k1
  have HLX := Lib.hid h1.1
  have HS : Hid (val B64 xs + val B64 ys < B64 ^ (M + 1)) := Lib.hid (by rw [h4, k4]; exact hsum)
  have H4 := Lib.hid h4
  have K4 := Lib.hid k4
  clear h1 k1 h3 k3 h4 k4 hM hsum hxl hyl
  go_enter Try.func22, Try.ntmps22
  go_wp2_with fail
  try rw [show ((M : Int) + 1) = ((M + 1 : Nat) : Int) from by omega]
  refine (nat_widened A n c (M + 1) xs _ (((H1.out.alloc _).alloc _).alloc _) (by omega) (by omega)).mono ?_
  rintro e w1 ⟨g, rfl, hg, hblk, hb1⟩
  have hbB := (((Blk.new1 (w.alloc (.cells #[.slice A n c] 29)) 29 (.slice B m cb)).alloc (.cells #[.slice none 0 0] 29))).keep hb1
  have hbR := (Blk.new1 ((w.alloc (.cells #[.slice A n c] 29)).alloc (.cells #[.slice B m cb] 29)) 29 (.slice none 0 0)).keep hb1
  have hsz1 := hb1.size
  simp at hbB hbR hg hsz1
  have hxB := hbB.cell0
  have HR1 := Lib.hid hbR
  have HK1 : Hid (Sl .u64 w1 B m cb ys) := Lib.hid ((((K1.out.alloc _).alloc _).alloc _).keep hb1)
  have HKK : Hid (0 < m → ∀ b o, B = some ⟨b, o, none⟩ → b ≠ g) := Lib.hid (fun hm0 b o e => by
    obtain ⟨b', o', e', hlt, _⟩ := K1.out.block hm0
    rw [e'] at e
    injection e with e
    injection e with e
    omega)
  have HB1 : Hid (Below w.heap.size w w1) := Lib.hid ((((Below.refl _ _).alloc (Nat.le_refl _) _).alloc (by simp) _).alloc (by simp; omega) _ |>.trans (hb1.mono (by simp; omega)))
  have HBL := Lib.hid hblk
  clear hbB hbR hblk hb1
  go_wp2_with fail
  refine (nat_add g (M + 1) (M + 1) m cb B (xs ++ List.replicate (M + 1 - n) 0) ys [] _ (by rw [List.append_nil]; exact HBL.out) (by rw [List.length_append, List.length_replicate, HLX.out]; omega) (h2.app (Dig.replicate B64_pos _)) (by omega) HK1.out k2 (by omega) HKK.out).mono ?_
  rintro e w2 ⟨zs, cy, rfl, hblk2, hlz, hdz, hcy, hval, hg2⟩
  rw [val_append, val_replicate, Nat.mul_zero, Nat.add_zero] at hval
  have hnc := no_carry hval HS.out
  have HZ : Hid (val B64 zs = x + y) := Lib.hid (by rw [hnc.2, H4.out, K4.out]; omega)
  rw [List.append_nil] at hblk2
  have HSL := Lib.hid (Sl.of_blk0 (n := M + 1) (c := M + 1) hblk2 hlz (Nat.le_refl _) (by omega))
  have HB2 : Hid (Below w.heap.size w w2) := Lib.hid (HB1.out.grown hg2 HB1.out.size (fun k hk => by cases hk; omega))
  have hR2 := HR1.out.grown hg2 (by intro e; injection e with e; omega)
  have HR2 := Lib.hid hR2
  have hsz2 := hg2.size
  clear hblk2 hval hnc hg2 hR2 hxB
  go_wp2_with fail
  refine (nat_made _ (M + 1) (M + 1) zs _ HSL.out hdz).mono ?_
  rintro e w3 ⟨A3, n3, c3, code, rfl, hgot, hb3⟩
  have hbx := HR2.out.keep hb3
  have hx0 := hbx.cell0
  have hx1 := hbx.frozen 0
  have hst := hbx.stored (.slice A3 n3 c3)
  have HG := Lib.hid hgot
  have HB3 : Hid (Below w.heap.size w w3) := Lib.hid (HB2.out.trans (hb3.mono HB2.out.size))
  clear hbx hgot hb3
  go_wp2
  exact bodyPost_ret (v := .tuple #[.agg #[.slice A3 n3 c3], .int .i64 code]) (by simp [results, Try.results22, go_sem, hst]) rfl
    ⟨_, _, _, _, rfl, by have := HG.out; rw [HZ.out] at this; exact this.setCell hx0 (fun i h => by cases h) _, HB3.out.setCell (Nat.le_trans (Nat.le_add_right _ 1) (Nat.le_add_right _ 1)) _⟩

set_option maxHeartbeats 2000000 in
theorem nat_Sub (A : Option Addr) (n c x : Nat) (B : Option Addr) (m cb y : Nat) (w : World) (h : Rep .u64 B64 w A n c x) (h' : Rep .u64 B64 w B m cb y) (hn : n ≤ 1000000000) (hx : x < Lim) :
    Calls Try.prog 28 #[.agg #[.slice A n c], .agg #[.slice B m cb]] w fun e w' => ∃ A3 n3 c3, ∃ code : Int, e = .returned (.tuple #[.agg #[.slice A3 n3 c3], .int .i64 code]) ∧ Below w.heap.size w w' ∧
      ((x < y ∧ code = 2 ∧ n3 = 0) ∨ (y ≤ x ∧ code = 0 ∧ Rep .u64 B64 w' A3 n3 c3 (x - y))) := by
  have HRA := Lib.hid h
  have HRB := Lib.hid h'
  have hmn : y ≤ x → m ≤ n := fun hle => (h'.len_le (by decide) n).2 (Nat.lt_of_le_of_lt hle ((h.len_le (by decide) n).1 (Nat.le_refl n)))
  have HMN := Lib.hid hmn
  have HXL := Lib.hid hx
  clear h h' hmn hx
  go_enter Try.func28, Try.ntmps28
  go_wp2_with fail
  refine (nat_Cmp A n c x B m cb y _ (((HRA.out.alloc _).alloc _).alloc _) (((HRB.out.alloc _).alloc _).alloc _)).mono ?_
  rintro e w1 ⟨rfl, hb1⟩
  have hbA := (((Blk.new1 w 29 (.slice A n c)).alloc (.cells #[.slice B m cb] 29)).alloc (.cells #[.slice none 0 0] 29)).keep hb1
  have hbB := (((Blk.new1 (w.alloc (.cells #[.slice A n c] 29)) 29 (.slice B m cb)).alloc (.cells #[.slice none 0 0] 29))).keep hb1
  have hbR := (Blk.new1 ((w.alloc (.cells #[.slice A n c] 29)).alloc (.cells #[.slice B m cb] 29)) 29 (.slice none 0 0)).keep hb1
  have hsz1 := hb1.size
  simp at hbA hbB hbR hsz1
  have hxA := hbA.cell0
  have hxB := hbB.cell0
  have hx0 := hbR.cell0
  have hx1 := hbR.frozen 0
  have HBB := Lib.hid hbB
  have HR1 := Lib.hid hbR
  have HRA1 := Lib.hid ((((HRA.out.alloc _).alloc _).alloc _).keep hb1)
  have HRB1 := Lib.hid ((((HRB.out.alloc _).alloc _).alloc _).keep hb1)
  have HB1 : Hid (Below w.heap.size w w1) := Lib.hid ((((Below.refl _ _).alloc (Nat.le_refl _) _).alloc (by simp) _).alloc (by simp; omega) _ |>.trans (hb1.mono (by simp; omega)))
  by_cases hlt : x < y
  · rw [cmpN_lt hlt]
    have hst := HR1.out.stored (.slice none 0 0)
    clear hbA hbB hbR hb1
    go_wp2
    exact bodyPost_ret (v := .tuple #[.agg #[.slice none 0 0], .int .i64 2]) (by simp [results, Try.results28, go_sem, hst]) rfl
      ⟨_, _, _, _, rfl, HB1.out.setCell (Nat.le_trans (Nat.le_add_right _ 1) (Nat.le_add_right _ 1)) _, .inl ⟨hlt, rfl, rfl⟩⟩
  · have hc0 : decide (cmpN x y < 0) = false := by
      unfold cmpN; rw [if_neg hlt]; split <;> decide
    obtain ⟨cz, hcz⟩ : ∃ cz, cz = cmpN x y := ⟨_, rfl⟩
    rw [← hcz] at hc0 ⊢
    have hc1 : ¬ cz < 0 := of_decide_eq_false hc0
    obtain ⟨xs, h1, h2, h3, h4⟩ := HRA1.out
    obtain ⟨ys, k1, k2, k3, k4⟩ := HRB1.out
    have H1 := Lib.hid h1
    have K1 := Lib.hid k1
    have H4 := Lib.hid h4
    have K4 := Lib.hid k4
    have hm := HMN.out (by omega)
    clear hbA hbB hbR hb1 h1 k1 h3 k3 h4 k4 hcz hx0 hx1 hxB
    go_wp2_with fail
    refine (nat_clone A n c xs _ H1.out (by omega)).mono ?_
    rintro e w2 ⟨g, rfl, hg, hblk, hb2⟩
    have hxB := (HBB.out.keep hb2).cell0
    have HR2 := Lib.hid (HR1.out.keep hb2)
    have HK2 := Lib.hid (K1.out.keep hb2)
    have HKK : Hid (0 < m → ∀ b o, B = some ⟨b, o, none⟩ → b ≠ g) := Lib.hid (fun hm0 b o e => by
      obtain ⟨b', o', e', hlt, _⟩ := K1.out.block hm0
      rw [e'] at e
      injection e with e
      injection e with e
      omega)
    have HB2 : Hid (Below w.heap.size w w2) := Lib.hid (HB1.out.trans (hb2.mono HB1.out.size))
    have HBL := Lib.hid hblk
    clear hblk hb2 hxA
    go_wp2_with fail
    refine (nat_sub g n n m cb B xs ys [] _ (by rw [List.append_nil]; exact HBL.out) H1.out.1 h2 (by omega) HK2.out k2 hm HKK.out).mono ?_
    rintro e w3 ⟨zs, cy, rfl, hblk3, hlz, hdz, hcy, hval, hg3⟩
    have hzv : val B64 zs = x - y := by
      have hb := val_lt hdz
      rw [hlz] at hb
      have e1 := H4.out
      have e2 := K4.out
      rw [e1, e2] at hval
      rcases Nat.eq_zero_or_pos cy with rfl | hp
      · omega
      · have : B64 ^ n * 1 ≤ B64 ^ n * cy := Nat.mul_le_mul_left _ hp
        omega
    have HZ := Lib.hid hzv
    rw [List.append_nil] at hblk3
    have HSL := Lib.hid (Sl.of_blk0 (n := n) (c := n) hblk3 hlz (Nat.le_refl _) (by omega))
    have HB3 : Hid (Below w.heap.size w w3) := Lib.hid (HB2.out.grown hg3 HB2.out.size (fun k hk => by cases hk; omega))
    have HR3 := Lib.hid (HR2.out.grown hg3 (by intro e; injection e with e; omega))
    clear hblk3 hval hg3 hzv hxB
    go_wp2_with fail
    refine (nat_made _ n n zs _ HSL.out hdz).mono ?_
    rintro e w4 ⟨A3, n3, c3, code, rfl, hgot, hb4⟩
    have hbx := HR3.out.keep hb4
    have hx0 := hbx.cell0
    have hx1 := hbx.frozen 0
    have hst := hbx.stored (.slice A3 n3 c3)
    rw [HZ.out] at hgot
    obtain ⟨rfl, hrr⟩ := hgot.ok (Nat.lt_of_le_of_lt (Nat.sub_le _ _) HXL.out)
    have HG := Lib.hid hrr
    have HB4 : Hid (Below w.heap.size w w4) := Lib.hid (HB3.out.trans (hb4.mono HB3.out.size))
    clear hbx hgot hb4 hrr
    go_wp2
    exact bodyPost_ret (v := .tuple #[.agg #[.slice A3 n3 c3], .int .i64 0]) (by simp [results, Try.results28, go_sem, hst]) rfl
      ⟨_, _, _, _, rfl, HB4.out.setCell (Nat.le_trans (Nat.le_add_right _ 1) (Nat.le_add_right _ 1)) _, .inr ⟨by omega, rfl, HG.out.setCell hx0 (fun i h => by cases h) _⟩⟩

end Go.Proofs.Ytliligfhckampaa
