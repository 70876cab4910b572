/- math/bits.Add64 and Sub64 as the model has them; contracts of nat's add and sub. -/
import Derived.Test.YtmjinhieeflkgaaDoorRRRROver
import Derived.Shelf.Spec.BitsCarry
import Derived.BigRegion
namespace Go.Proofs.YtmjinhieeflkgaaDoorRRRR
open Go.RowKit

theorem run_Add64 (x y c : Nat) (hx : x < B64) (hy : y < B64) (hc : c ≤ 1) (w : World) :
    (callFunc 51 #[.int .u64 x, .int .u64 y, .int .u64 c]).run Tryd.prog w = .ok (.value (.tuple #[.int .u64 (((x + y + c) % B64 : Nat) : Int), .int .u64 (((x + y + c) / B64 : Nat) : Int)])) w := by
  rw [B64_eq] at hx hy ⊢
  rw [run_callFunc_extern Tryd.func51 (by kernel_rfl) (by kernel_rfl) (by kernel_rfl) (e := add64Entry) (by kernel_rfl), run_add64 x y c (by omega) (by omega) (by omega) (by omega)]
  simp only [Result.andThen]
  congr 5 <;> omega

theorem run_Sub64 (x y b : Nat) (hb : b ≤ 1) (w : World) :
    (callFunc 57 #[.int .u64 x, .int .u64 y, .int .u64 b]).run Tryd.prog w = .ok (.value (.tuple #[.int .u64 (((x + B64 - y - b) % B64 : Nat) : Int), .int .u64 ((if x < y + b then 1 else 0 : Nat) : Int)])) w := by
  rw [run_callFunc_extern Tryd.func57 (by kernel_rfl) (by kernel_rfl) (by kernel_rfl) (e := sub64Entry) (by kernel_rfl), run_sub64 x y b hb]
  rfl

/-- One word of a sum. -/
theorem add_step {zs xs ys : List Nat} {k u v cy : Nat} (hl : zs.length = k) (h : val B64 zs + B64 ^ k * cy = val B64 (xs.take k) + val B64 (ys.take k)) (hx : val B64 (xs.take (k + 1)) = val B64 (xs.take k) + B64 ^ k * u)
    (hy : val B64 (ys.take (k + 1)) = val B64 (ys.take k) + B64 ^ k * v) : val B64 (zs ++ [(u + v + cy) % B64]) + B64 ^ (k + 1) * ((u + v + cy) / B64) = val B64 (xs.take (k + 1)) + val B64 (ys.take (k + 1)) := by
  rw [val_snoc, hl, Nat.pow_succ, Nat.mul_assoc, Nat.add_assoc, ← Nat.mul_add, Nat.mod_add_div, hx, hy, Nat.mul_add, Nat.mul_add]
  omega

theorem add_carry {u v cy : Nat} (hu : u < B64) (hv : v < B64) (hc : cy ≤ 1) : (u + v + cy) / B64 ≤ 1 := by
  rw [B64_eq] at *
  omega

theorem mid_nums {zs xs : List Nat} {rest : List Value} {k u : Nat} (hk : k < xs.length) (hu : u = xs[k]) : nums .u64 (zs ++ xs.drop k) ++ rest = nums .u64 (zs ++ u :: xs.drop (k + 1)) ++ rest := by
  rw [hu, List.drop_eq_getElem_cons hk]

theorem Blk.mid {w : World} {g t : Nat} {k : IntKind} {a b : List Nat} {u : Nat} {rest : List Value} (h : Blk w g t (nums k (a ++ u :: b) ++ rest)) : w.cell? ⟨g, a.length, none⟩ = some (.int k (u : Int)) := by
  have hc := h.cell a.length
  rw [List.getElem?_append_left (by rw [nums_length, List.length_append]; simp), nums_get _ _ _ (by simp), List.getD_eq_getElem?_getD, List.getElem?_append_right (by omega), Nat.sub_self] at hc
  simpa using hc

set_option maxHeartbeats 2000000 in
set_option maxRecDepth 100000 in
theorem nat_addAt (g f n c m cb : Nat) (B : Option Addr) (ps xs ys : List Nat) (rest : List Value) (w : World) (hblk : Blk w g 43 (nums .u64 (ps ++ xs) ++ rest)) (hp : ps.length = f) (hl : xs.length = n) (hdx : Dig B64 xs) (hn : n ≤ 1099511627776)
    (hs : Sl .u64 w B m cb ys) (hdy : Dig B64 ys) (hmn : m ≤ n) (hne : 0 < m → ∀ b o, B = some ⟨b, o, none⟩ → b ≠ g) :
    Calls Tryd.prog 36 #[.slice (some ⟨g, f, none⟩) n c, .slice B m cb] w fun e w' => ∃ (zs : List Nat) (cy : Nat), e = .returned (.int .u64 cy) ∧ Blk w' g 43 (nums .u64 (ps ++ zs) ++ rest) ∧
      zs.length = n ∧ Dig B64 zs ∧ cy ≤ 1 ∧ val B64 zs + B64 ^ n * cy = val B64 xs + val B64 ys ∧ w.grownBy w' (some g) := by
  have HB := Lib.hid hblk
  have HL := Lib.hid hl
  have HP := Lib.hid hp
  have HS := Lib.hid hs
  have HNE := Lib.hid hne
  have HLY := Lib.hid hs.1
  clear hblk hl hs hne hp
  go_enter Tryd.func36, Tryd.ntmps36
  go_wp2
  go_loopw [5, 11] (fun cv iv wr => ∃ (k cy : Nat) (zs : List Nat), k ≤ m ∧ iv = .int .i64 k ∧ cv = .int .u64 cy ∧ cy ≤ 1 ∧ Hid (Blk wr g 43 (nums .u64 ((ps ++ zs) ++ xs.drop k) ++ rest)) ∧ Hid (zs.length = k) ∧ Dig B64 zs ∧
      Hid (val B64 zs + B64 ^ k * cy = val B64 (xs.take k) + val B64 (ys.take k)) ∧ w.grownBy wr (some g)) (fun _ iv _ => m - (intOf iv).toNat)
  case atStart => exact ⟨0, 0, [], Nat.zero_le _, rfl, rfl, by omega, Lib.hid (by rw [List.append_nil]; exact HB.out), Lib.hid rfl, Dig.nil _, Lib.hid rfl, World.grownBy.refl _ _⟩
  case round =>
    obtain ⟨k, cy, zs, hk, rfl, rfl, hcy, hb, hlz, hdz, hv, hg⟩ := hrel
    by_cases hlt : k < m
    · have hkx : k < xs.length := by rw [HL.out]; omega
      have hky : k < ys.length := by rw [HLY.out]; omega
      obtain ⟨b, off, rfl, hbl, hc⟩ := HS.out.block (by omega)
      have hbg := HNE.out (by omega) b off rfl
      obtain ⟨u, hu⟩ : ∃ u, u = xs[k] := ⟨_, rfl⟩
      obtain ⟨v, hv2⟩ : ∃ v, v = ys.getD k 0 := ⟨_, rfl⟩
      have hub : u < B64 := by rw [hu]; exact hdx _ (List.getElem_mem hkx)
      have hvb : v < B64 := by rw [hv2]; exact hdy.getD B64_pos k
      have hb2 : Blk wr g 43 (nums .u64 ((ps ++ zs) ++ u :: xs.drop (k + 1)) ++ rest) := by rw [← mid_nums hkx hu]; exact hb.out
      have hcell := hb2.mid
      have HPZ : Hid ((ps ++ zs).length = f + k) := Lib.hid (by rw [List.length_append, HP.out, hlz.out])
      rw [HPZ.out] at hcell
      have hfr := hb2.frozen (f + k)
      have hc2 := hc k hlt
      rw [← hv2] at hc2
      have hcell2 : wr.cell? ⟨b, off + k, none⟩ = some (.int .u64 (v : Int)) := hg.cell hc2 (by intro e; injection e with e; exact hbg e)
      have hadd := run_Add64 u v cy hub hvb hcy
      have hst := add_step hlz.out hv.out (u := u) (v := v) (by rw [val_take_succ _ _ _ hkx, hu, List.getD_eq_getElem?_getD, List.getElem?_eq_getElem hkx]; rfl) (by rw [val_take_succ _ _ _ hky, hv2])
      have hC := add_carry hub hvb hcy
      have hSb : (u + v + cy) % B64 < B64 := Nat.mod_lt _ B64_pos
      obtain ⟨S, hS⟩ : ∃ S, S = (u + v + cy) % B64 := ⟨_, rfl⟩
      obtain ⟨C, hCC⟩ : ∃ C, C = (u + v + cy) / B64 := ⟨_, rfl⟩
      rw [← hS, ← hCC] at hadd hst
      rw [← hS] at hSb
      rw [← hCC] at hC
      have HST := Lib.hid hst
      have HB2 := Lib.hid hb2
      have HSB := Lib.hid hSb
      have HLZ : Hid ((zs ++ [S]).length = k + 1) := Lib.hid (by rw [List.length_append, hlz.out]; rfl)
      clear hb hv hu hv2 hub hvb hb2 hc hc2 hst hS hCC hSb hlz hbg hkx hky
      go_wp2
      go_region
      all_goals go_wp2
      all_goals go_roundw
      case rel =>
        refine ⟨k + 1, C, zs ++ [S], by omega, by go_num, rfl, hC, Lib.hid ?_, HLZ, hdz.app (Dig.cons HSB.out (Dig.nil _)), HST, grown_drewN (grown_set hg _ _) 1⟩
        have := HB2.out.set_ (f + k) (.int .u64 (S : Int))
        have e2 := set_mid (k := .u64) (a := ps ++ zs) (b := xs.drop (k + 1)) (rest := rest) (x := u) (y := S) (v := S) rfl
        rw [HPZ.out] at e2
        rw [e2] at this
        rw [show ps ++ (zs ++ [S]) = (ps ++ zs) ++ [S] from by simp only [List.append_assoc], List.append_assoc (ps ++ zs)]
        exact this
      case measure => simp [intOf]; omega
    · have hkm : k = m := by omega
      subst hkm
      have HY0 : Hid (ys.take k = ys) := Lib.hid (List.take_of_length_le (by rw [HLY.out]; omega))
      go_wp2
      go_loopw [5, 36] (fun cv iv wr => ∃ (j cy : Nat) (zs : List Nat), k + j ≤ n ∧ iv = .int .i64 j ∧ cv = .int .u64 cy ∧ cy ≤ 1 ∧ Hid (Blk wr g 43 (nums .u64 ((ps ++ zs) ++ xs.drop (k + j)) ++ rest)) ∧ Hid (zs.length = k + j) ∧ Dig B64 zs ∧
          Hid (val B64 zs + B64 ^ (k + j) * cy = val B64 (xs.take (k + j)) + val B64 (ys.take (k + j))) ∧ w.grownBy wr (some g)) (fun _ iv _ => n - k - (intOf iv).toNat)
      case atStart => exact ⟨0, cy, zs, by omega, rfl, rfl, hcy, hb, hlz, hdz, hv, hg⟩
      case round =>
        clear hb hlz hdz hv hg hcy
        obtain ⟨j, cy, zs, hj, rfl, rfl, hcy, hb, hlz, hdz, hv, hg⟩ := hrel
        by_cases hlt2 : (j : Int) < (n : Int) - (k : Int)
        · have hkx : k + j < xs.length := by rw [HL.out]; omega
          obtain ⟨u, hu⟩ : ∃ u, u = xs[k + j] := ⟨_, rfl⟩
          have hub : u < B64 := by rw [hu]; exact hdx _ (List.getElem_mem hkx)
          have hb2 : Blk wr g 43 (nums .u64 ((ps ++ zs) ++ u :: xs.drop (k + j + 1)) ++ rest) := by rw [← mid_nums hkx hu]; exact hb.out
          have hcell := hb2.mid
          have HPZ : Hid ((ps ++ zs).length = f + (k + j)) := Lib.hid (by rw [List.length_append, HP.out, hlz.out])
          rw [HPZ.out] at hcell
          have hfr := hb2.frozen (f + (k + j))
          have hadd := run_Add64 u 0 cy hub B64_pos hcy
          have hy1 : val B64 (ys.take (k + j + 1)) = val B64 (ys.take (k + j)) + B64 ^ (k + j) * 0 := by
            rw [List.take_of_length_le (by rw [HLY.out]; omega), List.take_of_length_le (by rw [HLY.out]; omega)]; simp
          have hst := add_step hlz.out hv.out (u := u) (v := 0) (by rw [val_take_succ _ _ _ hkx, hu, List.getD_eq_getElem?_getD, List.getElem?_eq_getElem hkx]; rfl) hy1
          have hC := add_carry hub B64_pos hcy
          have hSb : (u + 0 + cy) % B64 < B64 := Nat.mod_lt _ B64_pos
          obtain ⟨S, hS⟩ : ∃ S, S = (u + 0 + cy) % B64 := ⟨_, rfl⟩
          obtain ⟨C, hCC⟩ : ∃ C, C = (u + 0 + cy) / B64 := ⟨_, rfl⟩
          rw [← hS, ← hCC] at hadd hst
          rw [← hS] at hSb
          rw [← hCC] at hC
          rw [show ((0 : Nat) : Int) = 0 from rfl] at hadd
          have HST := Lib.hid hst
          have HB2 := Lib.hid hb2
          have HSB := Lib.hid hSb
          have HLZ : Hid ((zs ++ [S]).length = k + (j + 1)) := Lib.hid (by rw [List.length_append, hlz.out]; rfl)
          clear hb hv hu hub hb2 hst hS hCC hSb hlz hkx hy1
          go_wp2
          go_roundw
          case rel =>
            refine ⟨j + 1, C, zs ++ [S], by omega, by go_num, rfl, hC, Lib.hid ?_, HLZ, hdz.app (Dig.cons HSB.out (Dig.nil _)), HST, grown_set hg _ _⟩
            have := HB2.out.set_ (f + (k + j)) (.int .u64 (S : Int))
            have e2 := set_mid (k := .u64) (a := ps ++ zs) (b := xs.drop (k + j + 1)) (rest := rest) (x := u) (y := S) (v := S) rfl
            rw [HPZ.out] at e2
            rw [e2] at this
            rw [show ps ++ (zs ++ [S]) = (ps ++ zs) ++ [S] from by simp only [List.append_assoc], List.append_assoc (ps ++ zs)]
            exact this
          case measure => simp [intOf]; omega
        · have hjn : k + j = n := by omega
          have HBN : Hid (Blk wr g 43 (nums .u64 (ps ++ zs) ++ rest)) := Lib.hid (by have := hb.out; rw [List.drop_of_length_le (by rw [HL.out]; omega), List.append_nil] at this; exact this)
          have HVN : Hid (val B64 zs + B64 ^ n * cy = val B64 xs + val B64 ys) := Lib.hid (by
            have := hv.out
            rw [List.take_of_length_le (l := xs) (by rw [HL.out]; omega), List.take_of_length_le (l := ys) (by rw [HLY.out]; omega), hjn] at this
            exact this)
          have HLN : Hid (zs.length = n) := Lib.hid (by rw [hlz.out, hjn])
          clear hb hv hlz hjn
          go_wp2
          go_ret
          exact ⟨zs, cy, rfl, HBN.out, HLN.out, hdz, hcy, HVN.out, hg⟩


theorem nat_add (g n c m cb : Nat) (B : Option Addr) (xs ys : List Nat) (rest : List Value) (w : World) (hblk : Blk w g 43 (nums .u64 xs ++ rest)) (hl : xs.length = n) (hdx : Dig B64 xs) (hn : n ≤ 1099511627776)
    (hs : Sl .u64 w B m cb ys) (hdy : Dig B64 ys) (hmn : m ≤ n) (hne : 0 < m → ∀ b o, B = some ⟨b, o, none⟩ → b ≠ g) :
    Calls Tryd.prog 36 #[.slice (some ⟨g, 0, none⟩) n c, .slice B m cb] w fun e w' => ∃ (zs : List Nat) (cy : Nat), e = .returned (.int .u64 cy) ∧ Blk w' g 43 (nums .u64 zs ++ rest) ∧
      zs.length = n ∧ Dig B64 zs ∧ cy ≤ 1 ∧ val B64 zs + B64 ^ n * cy = val B64 xs + val B64 ys ∧ w.grownBy w' (some g) :=
  (nat_addAt g 0 n c m cb B [] xs ys rest w hblk rfl hl hdx hn hs hdy hmn hne)
end Go.Proofs.YtmjinhieeflkgaaDoorRRRR
