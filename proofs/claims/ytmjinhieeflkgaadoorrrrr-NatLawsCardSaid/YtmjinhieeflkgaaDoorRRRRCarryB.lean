/- The contract of nat's sub; contracts of Add and Sub. -/
import Derived.Test.YtmjinhieeflkgaaDoorRRRRCarry
import Derived.Test.YtmjinhieeflkgaaDoorRRRRNatD
namespace Go.Proofs.YtmjinhieeflkgaaDoorRRRR
open Go.RowKit

theorem sub_word {u v cy : Nat} (hu : u < B64) (hv : v < B64) (hc : cy ≤ 1) : (u + B64 - v - cy) % B64 + v + cy = u + B64 * (if u < v + cy then 1 else 0) := by
  rw [B64_eq] at *
  split <;> omega
theorem sub_borrow (u v cy : Nat) : (if u < v + cy then 1 else 0) ≤ 1 := by split <;> omega

/-- One word of a difference. -/
theorem sub_step {zs xs ys : List Nat} {k u v cy : Nat} (hl : zs.length = k) (h : val B64 zs + val B64 (ys.take k) = val B64 (xs.take k) + B64 ^ k * cy) (hu : u < B64) (hv : v < B64) (hc : cy ≤ 1)
    (hx : val B64 (xs.take (k + 1)) = val B64 (xs.take k) + B64 ^ k * u) (hy : val B64 (ys.take (k + 1)) = val B64 (ys.take k) + B64 ^ k * v) :
    val B64 (zs ++ [(u + B64 - v - cy) % B64]) + val B64 (ys.take (k + 1)) = val B64 (xs.take (k + 1)) + B64 ^ (k + 1) * (if u < v + cy then 1 else 0) := by
  have hw := sub_word hu hv hc
  generalize (u + B64 - v - cy) % B64 = D at *
  generalize (if u < v + cy then 1 else 0) = W at *
  have h2 : B64 ^ k * (D + v + cy) = B64 ^ k * (u + B64 * W) := by rw [hw]
  rw [val_snoc, hl, hx, hy, Nat.pow_succ, Nat.mul_assoc]
  simp only [Nat.mul_add] at h2
  omega

set_option maxHeartbeats 2000000 in
set_option maxRecDepth 100000 in
theorem nat_subAt (g f n c m cb : Nat) (B : Option Addr) (ps xs ys : List Nat) (rest : List Value) (w : World) (hblk : Blk w g 43 (nums .u64 (ps ++ xs) ++ rest)) (hp : ps.length = f) (hl : xs.length = n) (hdx : Dig B64 xs) (hn : n ≤ 1099511627776)
    (hs : Sl .u64 w B m cb ys) (hdy : Dig B64 ys) (hmn : m ≤ n) (hne : 0 < m → ∀ b o, B = some ⟨b, o, none⟩ → b ≠ g) :
    Calls Tryd.prog 48 #[.slice (some ⟨g, f, none⟩) n c, .slice B m cb] w fun e w' => ∃ (zs : List Nat) (cy : Nat), e = .returned (.int .u64 cy) ∧ Blk w' g 43 (nums .u64 (ps ++ zs) ++ rest) ∧
      zs.length = n ∧ Dig B64 zs ∧ cy ≤ 1 ∧ val B64 zs + val B64 ys = val B64 xs + B64 ^ n * cy ∧ w.grownBy w' (some g) := by
  have HB := Lib.hid hblk
  have HL := Lib.hid hl
  have HP := Lib.hid hp
  have HS := Lib.hid hs
  have HNE := Lib.hid hne
  have HLY := Lib.hid hs.1
  clear hblk hl hs hne hp
  go_enter Tryd.func48, Tryd.ntmps48
  go_wp2
  go_loopw [5, 11] (fun cv iv wr => ∃ (k cy : Nat) (zs : List Nat), k ≤ m ∧ iv = .int .i64 k ∧ cv = .int .u64 cy ∧ cy ≤ 1 ∧ Hid (Blk wr g 43 (nums .u64 ((ps ++ zs) ++ xs.drop k) ++ rest)) ∧ Hid (zs.length = k) ∧ Dig B64 zs ∧
      Hid (val B64 zs + val B64 (ys.take k) = val B64 (xs.take k) + B64 ^ k * cy) ∧ w.grownBy wr (some g)) (fun _ iv _ => m - (intOf iv).toNat)
  case atStart => exact ⟨0, 0, [], Nat.zero_le _, rfl, rfl, by omega, Lib.hid (by rw [List.append_nil]; exact HB.out), Lib.hid rfl, Dig.nil _, Lib.hid rfl, World.grownBy.refl _ _⟩
  case round =>
    obtain ⟨k, cy, zs, hk, rfl, rfl, hcy, hb, hlz, hdz, hv, hg⟩ := hrel
    by_cases hlt : k < m
    · have hkx : k < xs.length := by rw [HL.out]; omega
      have hky : k < ys.length := by rw [HLY.out]; omega
      obtain ⟨b, off, rfl, hbl, hc⟩ := HS.out.block (by omega)
      have hbg := HNE.out (by omega) b off rfl
      obtain ⟨u, hu⟩ : ∃ u, u = xs[k] := ⟨_, rfl⟩
      obtain ⟨v, hv2⟩ : ∃ v, v = ys.getD k 0 := ⟨_, rfl⟩
      have hub : u < B64 := by rw [hu]; exact hdx _ (List.getElem_mem hkx)
      have hvb : v < B64 := by rw [hv2]; exact hdy.getD B64_pos k
      have hb2 : Blk wr g 43 (nums .u64 ((ps ++ zs) ++ u :: xs.drop (k + 1)) ++ rest) := by rw [← mid_nums hkx hu]; exact hb.out
      have hcell := hb2.mid
      have HPZ : Hid ((ps ++ zs).length = f + k) := Lib.hid (by rw [List.length_append, HP.out, hlz.out])
      rw [HPZ.out] at hcell
      have hfr := hb2.frozen (f + k)
      have hc2 := hc k hlt
      rw [← hv2] at hc2
      have hcell2 : wr.cell? ⟨b, off + k, none⟩ = some (.int .u64 (v : Int)) := hg.cell hc2 (by intro e; injection e with e; exact hbg e)
      have hadd := run_Sub64 u v cy hcy
      have hst := sub_step hlz.out hv.out hub (by first | exact hvb | exact B64_pos) hcy (u := u) (v := v) (by rw [val_take_succ _ _ _ hkx, hu, List.getD_eq_getElem?_getD, List.getElem?_eq_getElem hkx]; rfl) (by rw [val_take_succ _ _ _ hky, hv2])
      have hC := sub_borrow u v cy
      have hSb : (u + B64 - v - cy) % B64 < B64 := Nat.mod_lt _ B64_pos
      obtain ⟨S, hS⟩ : ∃ S, S = (u + B64 - v - cy) % B64 := ⟨_, rfl⟩
      obtain ⟨C, hCC⟩ : ∃ C : Nat, C = (if u < v + cy then 1 else 0) := ⟨_, rfl⟩
      rw [← hS, ← hCC] at hadd hst
      rw [← hS] at hSb
      rw [← hCC] at hC
      have HST := Lib.hid hst
      have HB2 := Lib.hid hb2
      have HSB := Lib.hid hSb
      have HLZ : Hid ((zs ++ [S]).length = k + 1) := Lib.hid (by rw [List.length_append, hlz.out]; rfl)
      clear hb hv hu hv2 hub hvb hb2 hc hc2 hst hS hCC hSb hlz hbg hkx hky
      go_wp2
      go_region
      all_goals go_wp2
      all_goals go_roundw
      case rel =>
        refine ⟨k + 1, C, zs ++ [S], by omega, by go_num, rfl, hC, Lib.hid ?_, HLZ, hdz.app (Dig.cons HSB.out (Dig.nil _)), HST, grown_drewN (grown_set hg _ _) 1⟩
        have := HB2.out.set_ (f + k) (.int .u64 (S : Int))
        have e2 := set_mid (k := .u64) (a := ps ++ zs) (b := xs.drop (k + 1)) (rest := rest) (x := u) (y := S) (v := S) rfl
        rw [HPZ.out] at e2
        rw [e2] at this
        rw [show ps ++ (zs ++ [S]) = (ps ++ zs) ++ [S] from by simp only [List.append_assoc], List.append_assoc (ps ++ zs)]
        exact this
      case measure => simp [intOf]; omega
    · have hkm : k = m := by omega
      subst hkm
      have HY0 : Hid (ys.take k = ys) := Lib.hid (List.take_of_length_le (by rw [HLY.out]; omega))
      go_wp2
      go_loopw [5, 36] (fun cv iv wr => ∃ (j cy : Nat) (zs : List Nat), k + j ≤ n ∧ iv = .int .i64 j ∧ cv = .int .u64 cy ∧ cy ≤ 1 ∧ Hid (Blk wr g 43 (nums .u64 ((ps ++ zs) ++ xs.drop (k + j)) ++ rest)) ∧ Hid (zs.length = k + j) ∧ Dig B64 zs ∧
          Hid (val B64 zs + val B64 (ys.take (k + j)) = val B64 (xs.take (k + j)) + B64 ^ (k + j) * cy) ∧ w.grownBy wr (some g)) (fun _ iv _ => n - k - (intOf iv).toNat)
      case atStart => exact ⟨0, cy, zs, by omega, rfl, rfl, hcy, hb, hlz, hdz, hv, hg⟩
      case round =>
        clear hb hlz hdz hv hg hcy
        obtain ⟨j, cy, zs, hj, rfl, rfl, hcy, hb, hlz, hdz, hv, hg⟩ := hrel
        by_cases hlt2 : (j : Int) < (n : Int) - (k : Int)
        · have hkx : k + j < xs.length := by rw [HL.out]; omega
          obtain ⟨u, hu⟩ : ∃ u, u = xs[k + j] := ⟨_, rfl⟩
          have hub : u < B64 := by rw [hu]; exact hdx _ (List.getElem_mem hkx)
          have hb2 : Blk wr g 43 (nums .u64 ((ps ++ zs) ++ u :: xs.drop (k + j + 1)) ++ rest) := by rw [← mid_nums hkx hu]; exact hb.out
          have hcell := hb2.mid
          have HPZ : Hid ((ps ++ zs).length = f + (k + j)) := Lib.hid (by rw [List.length_append, HP.out, hlz.out])
          rw [HPZ.out] at hcell
          have hfr := hb2.frozen (f + (k + j))
          have hadd := run_Sub64 u 0 cy hcy
          have hy1 : val B64 (ys.take (k + j + 1)) = val B64 (ys.take (k + j)) + B64 ^ (k + j) * 0 := by
            rw [List.take_of_length_le (by rw [HLY.out]; omega), List.take_of_length_le (by rw [HLY.out]; omega)]; simp
          have hst := sub_step hlz.out hv.out hub (by first | exact hvb | exact B64_pos) hcy (u := u) (v := 0) (by rw [val_take_succ _ _ _ hkx, hu, List.getD_eq_getElem?_getD, List.getElem?_eq_getElem hkx]; rfl) hy1
          have hC := sub_borrow u 0 cy
          have hSb : (u + B64 - 0 - cy) % B64 < B64 := Nat.mod_lt _ B64_pos
          obtain ⟨S, hS⟩ : ∃ S, S = (u + B64 - 0 - cy) % B64 := ⟨_, rfl⟩
          obtain ⟨C, hCC⟩ : ∃ C : Nat, C = (if u < 0 + cy then 1 else 0) := ⟨_, rfl⟩
          rw [← hS, ← hCC] at hadd hst
          rw [← hS] at hSb
          rw [← hCC] at hC
          rw [show ((0 : Nat) : Int) = 0 from rfl] at hadd
          have HST := Lib.hid hst
          have HB2 := Lib.hid hb2
          have HSB := Lib.hid hSb
          have HLZ : Hid ((zs ++ [S]).length = k + (j + 1)) := Lib.hid (by rw [List.length_append, hlz.out]; rfl)
          clear hb hv hu hub hb2 hst hS hCC hSb hlz hkx hy1
          go_wp2
          go_roundw
          case rel =>
            refine ⟨j + 1, C, zs ++ [S], by omega, by go_num, rfl, hC, Lib.hid ?_, HLZ, hdz.app (Dig.cons HSB.out (Dig.nil _)), HST, grown_set hg _ _⟩
            have := HB2.out.set_ (f + (k + j)) (.int .u64 (S : Int))
            have e2 := set_mid (k := .u64) (a := ps ++ zs) (b := xs.drop (k + j + 1)) (rest := rest) (x := u) (y := S) (v := S) rfl
            rw [HPZ.out] at e2
            rw [e2] at this
            rw [show ps ++ (zs ++ [S]) = (ps ++ zs) ++ [S] from by simp only [List.append_assoc], List.append_assoc (ps ++ zs)]
            exact this
          case measure => simp [intOf]; omega
        · have hjn : k + j = n := by omega
          have HBN : Hid (Blk wr g 43 (nums .u64 (ps ++ zs) ++ rest)) := Lib.hid (by have := hb.out; rw [List.drop_of_length_le (by rw [HL.out]; omega), List.append_nil] at this; exact this)
          have HVN : Hid (val B64 zs + val B64 ys = val B64 xs + B64 ^ n * cy) := Lib.hid (by
            have := hv.out
            rw [List.take_of_length_le (l := xs) (by rw [HL.out]; omega), List.take_of_length_le (l := ys) (by rw [HLY.out]; omega), hjn] at this
            exact this)
          have HLN : Hid (zs.length = n) := Lib.hid (by rw [hlz.out, hjn])
          clear hb hv hlz hjn
          go_wp2
          go_ret
          exact ⟨zs, cy, rfl, HBN.out, HLN.out, hdz, hcy, HVN.out, hg⟩


theorem nat_sub (g n c m cb : Nat) (B : Option Addr) (xs ys : List Nat) (rest : List Value) (w : World) (hblk : Blk w g 43 (nums .u64 xs ++ rest)) (hl : xs.length = n) (hdx : Dig B64 xs) (hn : n ≤ 1099511627776)
    (hs : Sl .u64 w B m cb ys) (hdy : Dig B64 ys) (hmn : m ≤ n) (hne : 0 < m → ∀ b o, B = some ⟨b, o, none⟩ → b ≠ g) :
    Calls Tryd.prog 48 #[.slice (some ⟨g, 0, none⟩) n c, .slice B m cb] w fun e w' => ∃ (zs : List Nat) (cy : Nat), e = .returned (.int .u64 cy) ∧ Blk w' g 43 (nums .u64 zs ++ rest) ∧
      zs.length = n ∧ Dig B64 zs ∧ cy ≤ 1 ∧ val B64 zs + val B64 ys = val B64 xs + B64 ^ n * cy ∧ w.grownBy w' (some g) :=
  (nat_subAt g 0 n c m cb B [] xs ys rest w hblk rfl hl hdx hn hs hdy hmn hne)
theorem two_pow_le {M : Nat} {x y : Nat} (hx : x < B64 ^ M) (hy : y < B64 ^ M) : x + y < B64 ^ (M + 1) := by
  rw [Nat.pow_succ]
  have : B64 ^ M * 2 ≤ B64 ^ M * B64 := Nat.mul_le_mul_left _ (by decide)
  omega

theorem no_carry {P z cy s : Nat} (h : z + P * cy = s) (hs : s < P) : cy = 0 ∧ z = s := by
  have : cy = 0 := by
    apply Nat.eq_zero_of_not_pos
    intro hp
    have : P * 1 ≤ P * cy := Nat.mul_le_mul_left _ hp
    omega
  subst this
  exact ⟨rfl, by omega⟩

set_option maxHeartbeats 2000000 in
theorem nat_Add (A : Option Addr) (n c x : Nat) (B : Option Addr) (m cb y : Nat) (w : World) (h : Rep .u64 B64 w A n c x) (h' : Rep .u64 B64 w B m cb y) (hn : n ≤ 1000000000) (hm : m ≤ 1000000000) :
    Calls Tryd.prog 14 #[.agg #[.slice A n c], .agg #[.slice B m cb]] w (RetGot w (x + y)) := by
  have hxl := (h.len_le (by decide) (max n m)).1 (Nat.le_max_left _ _)
  have hyl := (h'.len_le (by decide) (max n m)).1 (Nat.le_max_right _ _)
  have hsum := two_pow_le hxl hyl
  obtain ⟨xs, h1, h2, h3, h4⟩ := h
  obtain ⟨ys, k1, k2, k3, k4⟩ := h'
  obtain ⟨M, hM⟩ : ∃ M, M = max n m := ⟨_, rfl⟩
  have hMi : max (n : Int) (m : Int) = (M : Int) := by rw [hM]; omega
  have hMn : n ≤ M := by omega
  have hMm : m ≤ M := by omega
  have hMb : M ≤ 1000000000 := by omega
  rw [← hM] at hsum
  have H1 := Lib.hid h1
  have K1 := Lib.hid k1
  have HLX := Lib.hid h1.1
  have HS : Hid (val B64 xs + val B64 ys < B64 ^ (M + 1)) := Lib.hid (by rw [h4, k4]; exact hsum)
  have H4 := Lib.hid h4
  have K4 := Lib.hid k4
  clear h1 k1 h3 k3 h4 k4 hM hsum hxl hyl
  go_enter Tryd.func14, Tryd.ntmps14
  go_wp2_with fail
  try rw [show ((M : Int) + 1) = ((M + 1 : Nat) : Int) from by omega]
  refine (nat_widened A n c (M + 1) xs _ (((H1.out.alloc _).alloc _).alloc _) (by omega) (by omega)).mono ?_
  rintro e w1 ⟨g, rfl, hg, hblk, hb1⟩
  have hbB := (((Blk.new1 (w.alloc (.cells #[.slice A n c] 28)) 28 (.slice B m cb)).alloc (.cells #[.slice none 0 0] 28))).keep hb1
  have hbR := (Blk.new1 ((w.alloc (.cells #[.slice A n c] 28)).alloc (.cells #[.slice B m cb] 28)) 28 (.slice none 0 0)).keep hb1
  have hsz1 := hb1.size
  simp at hbB hbR hg hsz1
  have hxB := hbB.cell0
  have HR1 := Lib.hid hbR
  have HK1 : Hid (Sl .u64 w1 B m cb ys) := Lib.hid ((((K1.out.alloc _).alloc _).alloc _).keep hb1)
  have HKK : Hid (0 < m → ∀ b o, B = some ⟨b, o, none⟩ → b ≠ g) := Lib.hid (fun hm0 b o e => by
    obtain ⟨b', o', e', hlt, _⟩ := K1.out.block hm0
    rw [e'] at e
    injection e with e
    injection e with e
    omega)
  have HB1 : Hid (Below w.heap.size w w1) := Lib.hid ((((Below.refl _ _).alloc (Nat.le_refl _) _).alloc (by simp) _).alloc (by simp; omega) _ |>.trans (hb1.mono (by simp; omega)))
  have HBL := Lib.hid hblk
  clear hbB hbR hblk hb1
  go_wp2_with fail
  refine (nat_add g (M + 1) (M + 1) m cb B (xs ++ List.replicate (M + 1 - n) 0) ys [] _ (by rw [List.append_nil]; exact HBL.out) (by rw [List.length_append, List.length_replicate, HLX.out]; omega) (h2.app (Dig.replicate B64_pos _)) (by omega) HK1.out k2 (by omega) HKK.out).mono ?_
  rintro e w2 ⟨zs, cy, rfl, hblk2, hlz, hdz, hcy, hval, hg2⟩
  rw [val_append, val_replicate, Nat.mul_zero, Nat.add_zero] at hval
  have hnc := no_carry hval HS.out
  have HZ : Hid (val B64 zs = x + y) := Lib.hid (by rw [hnc.2, H4.out, K4.out]; omega)
  rw [List.append_nil] at hblk2
  have HSL := Lib.hid (Sl.of_blk0 (n := M + 1) (c := M + 1) hblk2 hlz (Nat.le_refl _) (by omega))
  have HB2 : Hid (Below w.heap.size w w2) := Lib.hid (HB1.out.grown hg2 HB1.out.size (fun k hk => by cases hk; omega))
  have hR2 := HR1.out.grown hg2 (by intro e; injection e with e; omega)
  have HR2 := Lib.hid hR2
  have hsz2 := hg2.size
  clear hblk2 hval hnc hg2 hR2 hxB
  go_wp2_with fail
  refine (nat_made _ (M + 1) (M + 1) zs _ HSL.out hdz).mono ?_
  rintro e w3 ⟨A3, n3, c3, code, rfl, hgot, hb3⟩
  have hbx := HR2.out.keep hb3
  have hx0 := hbx.cell0
  have hx1 := hbx.frozen 0
  have hst := hbx.stored (.slice A3 n3 c3)
  have HG := Lib.hid hgot
  have HB3 : Hid (Below w.heap.size w w3) := Lib.hid (HB2.out.trans (hb3.mono HB2.out.size))
  clear hbx hgot hb3
  go_wp2
  exact bodyPost_ret (v := .tuple #[.agg #[.slice A3 n3 c3], .int .i64 code]) (by simp [results, Tryd.results14, go_sem, hst]) rfl
    ⟨_, _, _, _, rfl, by have := HG.out; rw [HZ.out] at this; exact this.setCell hx0 (fun i h => by cases h) _, HB3.out.setCell (Nat.le_trans (Nat.le_add_right _ 1) (Nat.le_add_right _ 1)) _⟩

end Go.Proofs.YtmjinhieeflkgaaDoorRRRR
