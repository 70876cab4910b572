/- Contracts of nat's raise and lower. -/
import Derived.Test.YtmjinhieeflkgaaShiftMath
import Derived.Test.YtmjinhieeflkgaaCarryB
namespace Go.Proofs.Ytmjinhieeflkgaa
open Go.RowKit

theorem wrap_nat (a : Nat) : IntKind.u64.wrap (a : Int) = ((a % B64 : Nat) : Int) := by
  rw [B64_eq]
  simp [IntKind.wrap, IntKind.bits, IntKind.signed]

theorem or_nat {a b : Nat} (ha : a < B64) (hb : b < B64) : bits BinOp.or IntKind.u64 (a : Int) (b : Int) = ((a ||| b : Nat) : Int) := by
  rw [B64_eq] at ha hb
  exact bits_or_u64_nat a b ha hb

set_option maxHeartbeats 2000000 in
set_option maxRecDepth 100000 in
theorem nat_raise (g f n c s : Nat) (ps xs : List Nat) (rest : List Value) (w : World) (hblk : Blk w g 40 (nums .u64 (ps ++ xs) ++ rest)) (hp : ps.length = f) (hl : xs.length = n) (hdx : Dig B64 xs) (hn : n ≤ 1099511627776) (hs : s < 64) :
    Calls Try.prog 24 #[.slice (some ⟨g, f, none⟩) n c, .int .i64 s] w fun e w' => ∃ (zs : List Nat) (o : Nat), e = .returned (.int .u64 o) ∧ Blk w' g 40 (nums .u64 (ps ++ zs) ++ rest) ∧
      zs.length = n ∧ Dig B64 zs ∧ val B64 zs + B64 ^ n * o = val B64 xs * 2 ^ s ∧ w.grownBy w' (some g) := by
  have HB := Lib.hid hblk
  have HL := Lib.hid hl
  have HP := Lib.hid hp
  clear hblk hl hp
  go_enter Try.func24, Try.ntmps24
  go_wp2
  go_loopw [5, 9] (fun cv jv wr => ∃ (j o : Nat) (zs : List Nat), jv = .int .i64 j ∧ cv = .int .u64 o ∧ j ≤ n ∧ Hid (o < 2 ^ s) ∧ Hid (Blk wr g 40 (nums .u64 ((ps ++ zs) ++ xs.drop j) ++ rest)) ∧ Hid (zs.length = j) ∧ Dig B64 zs ∧
      Hid (val B64 zs + B64 ^ j * o = val B64 (xs.take j) * 2 ^ s) ∧ w.grownBy wr (some g)) (fun _ jv _ => n - (intOf jv).toNat)
  case atStart => exact ⟨0, 0, [], rfl, rfl, Nat.zero_le _, Lib.hid (Nat.two_pow_pos s), Lib.hid (by rw [List.append_nil]; exact HB.out), Lib.hid rfl, Dig.nil _, Lib.hid (by simp [val]), World.grownBy.refl _ _⟩
  case round =>
    obtain ⟨j, o, zs, rfl, rfl, hj, ho, hb, hlz, hdz, hv, hg⟩ := hrel
    by_cases hlt : j < n
    · have hkx : j < xs.length := by rw [HL.out]; omega
      obtain ⟨x, hx⟩ : ∃ x, x = xs[j] := ⟨_, rfl⟩
      have hxb : x < B64 := by rw [hx]; exact hdx _ (List.getElem_mem hkx)
      have hb2 : Blk wr g 40 (nums .u64 ((ps ++ zs) ++ x :: xs.drop (j + 1)) ++ rest) := by rw [← mid_nums hkx hx]; exact hb.out
      have hcell := hb2.mid
      have HPZ : Hid ((ps ++ zs).length = f + j) := Lib.hid (by rw [List.length_append, HP.out, hlz.out])
      rw [HPZ.out] at hcell
      have hfr := hb2.frozen (f + j)
      have hst := shl_step (n := s) (u := x) hlz.out (by omega) ho.out hv.out (by rw [val_take_succ _ _ _ hkx, hx, List.getD_eq_getElem?_getD, List.getElem?_eq_getElem hkx]; rfl)
      have HST := Lib.hid hst
      have HB2 := Lib.hid hb2
      have HLZ0 := hlz
      have HXB := Lib.hid hxb
      have HOB : Hid (x / 2 ^ (64 - s) < 2 ^ s) := Lib.hid (shl_out_lt (by omega) hxb)
      have hob : o < B64 := Nat.lt_of_lt_of_le ho.out (by rw [B64_pow]; exact Nat.pow_le_pow_right (by omega) (by omega))
      have HOR : Hid (bits BinOp.or IntKind.u64 (IntKind.u64.wrap ((x : Int) * 2 ^ s)) (o : Int) = ((x * 2 ^ s % B64 ||| o : Nat) : Int)) := Lib.hid (by
        rw [show (x : Int) * 2 ^ s = ((x * 2 ^ s : Nat) : Int) from by push_cast; rfl, wrap_nat]
        exact or_nat (Nat.mod_lt _ B64_pos) hob)
      have HSB : Hid ((x * 2 ^ s % B64 ||| o) < B64) := Lib.hid (by rw [shl_or (by omega) ho.out]; exact Nat.mod_lt _ B64_pos)
      have HLZ : Hid ((zs ++ [x * 2 ^ s % B64 ||| o]).length = j + 1) := Lib.hid (by rw [List.length_append, hlz.out]; rfl)
      clear hst hb2 hx hxb hkx hb hv hlz hob
      have hs1 : IntKind.i64.wrap (64 - (s : Int)) = 64 - (s : Int) := IntWalk.i64_in _ (by omega)
      go_wp2
      go_region
      all_goals go_wp2
      all_goals go_roundw
      case rel => 
        refine ⟨j + 1, x / 2 ^ (64 - s), zs ++ [x * 2 ^ s % B64 ||| o], by go_num, by congr 1, by omega, HOB, Lib.hid ?_, HLZ, hdz.app (Dig.cons HSB.out (Dig.nil _)), HST, grown_drewN (grown_set hg _ _) 1⟩
        rw [HOR.out]
        have := HB2.out.set_ (f + j) (.int .u64 ((x * 2 ^ s % B64 ||| o : Nat) : Int))
        have e2 := set_mid (k := .u64) (a := ps ++ zs) (b := xs.drop (j + 1)) (rest := rest) (x := x) (y := x * 2 ^ s % B64 ||| o) (v := ((x * 2 ^ s % B64 ||| o : Nat) : Int)) rfl
        rw [HPZ.out] at e2
        rw [e2] at this
        rw [show ps ++ (zs ++ [x * 2 ^ s % B64 ||| o]) ++ xs.drop (j + 1) = (ps ++ zs) ++ (x * 2 ^ s % B64 ||| o) :: xs.drop (j + 1) from by simp only [List.append_assoc, List.cons_append, List.nil_append]]
        exact this
      case measure => simp [intOf]; omega
    · have hjn : j = n := by omega
      subst hjn
      have HBN : Hid (Blk wr g 40 (nums .u64 (ps ++ zs) ++ rest)) := Lib.hid (by have := hb.out; rw [List.drop_of_length_le (by rw [HL.out]; omega), List.append_nil] at this; exact this)
      have HVN : Hid (val B64 zs + B64 ^ j * o = val B64 xs * 2 ^ s) := Lib.hid (by
        have := hv.out
        rw [List.take_of_length_le (by rw [HL.out]; omega)] at this
        exact this)
      have HLN := hlz
      clear hb hv hlz ho
      go_wp2
      go_ret
      exact ⟨zs, o, rfl, HBN.out, HLN.out, hdz, HVN.out, hg⟩
theorem take_snoc_drop {xs : List Nat} {k u : Nat} (hk : k < xs.length) (hu : u = xs[k]) : xs.take (k + 1) = xs.take k ++ [u] := by
  rw [hu, List.take_succ_eq_append_getElem hk]

set_option maxHeartbeats 2000000 in
set_option maxRecDepth 100000 in
theorem nat_lower (g f n c s : Nat) (ps xs : List Nat) (rest : List Value) (w : World) (hblk : Blk w g 40 (nums .u64 (ps ++ xs) ++ rest)) (hp : ps.length = f) (hl : xs.length = n) (hdx : Dig B64 xs) (hn : n ≤ 1099511627776) (hs : s < 64) :
    Calls Try.prog 25 #[.slice (some ⟨g, f, none⟩) n c, .int .i64 s] w fun e w' => ∃ (zs : List Nat), e = .returned (.tuple #[]) ∧ Blk w' g 40 (nums .u64 (ps ++ zs) ++ rest) ∧
      zs.length = n ∧ Dig B64 zs ∧ val B64 zs = val B64 xs / 2 ^ s ∧ w.grownBy w' (some g) := by
  have HB := Lib.hid hblk
  have HL := Lib.hid hl
  have HP := Lib.hid hp
  clear hblk hl hp
  go_enter Try.func25, Try.ntmps25
  go_wp2
  go_loopw [4, 9] (fun cv jv wr => ∃ (j k r : Nat) (zs : List Nat), jv = .int .i64 j ∧ cv = .int .u64 ((r * 2 ^ (64 - s) : Nat) : Int) ∧ k + j = n ∧ Hid (r = val B64 (xs.drop k) % 2 ^ s) ∧ Hid (Blk wr g 40 (nums .u64 ((ps ++ xs.take k) ++ zs) ++ rest)) ∧ Hid (zs.length = j) ∧ Dig B64 zs ∧
      Hid (val B64 zs = val B64 (xs.drop k) / 2 ^ s) ∧ w.grownBy wr (some g)) (fun _ jv _ => n - (intOf jv).toNat)
  case atStart =>
    refine ⟨0, n, 0, [], rfl, by simp, by omega, Lib.hid ?_, Lib.hid ?_, Lib.hid rfl, Dig.nil _, Lib.hid ?_, World.grownBy.refl _ _⟩
    · rw [List.drop_of_length_le (by rw [HL.out]; omega)]; simp [val]
    · rw [List.take_of_length_le (l := xs) (by rw [HL.out]; omega), List.append_nil]; exact HB.out
    · rw [List.drop_of_length_le (by rw [HL.out]; omega)]; simp [val]
  case round =>
    obtain ⟨j, k1, r, zs, rfl, rfl, hj, hr, hb, hlz, hdz, hv, hg⟩ := hrel
    by_cases hlt : j < n
    · obtain ⟨k, rfl⟩ : ∃ k, k1 = k + 1 := ⟨k1 - 1, by omega⟩
      have hkx : k < xs.length := by rw [HL.out]; omega
      obtain ⟨x, hx⟩ : ∃ x, x = xs[k] := ⟨_, rfl⟩
      have hxb : x < B64 := by rw [hx]; exact hdx _ (List.getElem_mem hkx)
      have hb2 : Blk wr g 40 (nums .u64 ((ps ++ xs.take k) ++ x :: zs) ++ rest) := by
        have := hb.out
        rw [take_snoc_drop hkx hx, ← List.append_assoc ps, List.append_assoc (ps ++ xs.take k)] at this
        exact this
      have HTK : Hid ((ps ++ xs.take k).length = f + k) := Lib.hid (by rw [List.length_append, HP.out, List.length_take]; omega)
      have hcell := hb2.mid
      rw [HTK.out] at hcell
      have hfr := hb2.frozen (f + k)
      have hdk : val B64 (xs.drop k) = x + B64 * val B64 (xs.drop (k + 1)) := by rw [List.drop_eq_getElem_cons hkx, ← hx]; rfl
      have hrb : r < 2 ^ s := by rw [hr.out]; exact Nat.mod_lt _ (Nat.two_pow_pos s)
      have hst := shr_step (n := s) (u := x) (X := val B64 (xs.drop (k + 1))) (by omega) hxb hv.out
      rw [← hr.out, ← hdk] at hst
      have hin := shr_in (n := s) (u := x) (X := val B64 (xs.drop (k + 1))) (by omega)
      rw [← hdk] at hin
      have hwb := shr_word (n := s) (by omega) hxb hrb
      have hob : r * 2 ^ (64 - s) < B64 := Nat.lt_of_le_of_lt (Nat.le_add_left _ _) hwb
      have hqb : x / 2 ^ s < B64 := Nat.lt_of_le_of_lt (Nat.div_le_self _ _) hxb
      have HOR : Hid (bits BinOp.or IntKind.u64 ((x : Int) / 2 ^ s) ((r * 2 ^ (64 - s) : Nat) : Int) = ((x / 2 ^ s ||| r * 2 ^ (64 - s) : Nat) : Int)) := Lib.hid (by
        rw [show (x : Int) / 2 ^ s = ((x / 2 ^ s : Nat) : Int) from by push_cast; rfl]
        exact or_nat hqb hob)
      have HIN : Hid (IntKind.u64.wrap ((x : Int) * 2 ^ (64 - s)) = ((val B64 (xs.drop k) % 2 ^ s * 2 ^ (64 - s) : Nat) : Int)) := Lib.hid (by
        rw [show (x : Int) * 2 ^ (64 - s) = ((x * 2 ^ (64 - s) : Nat) : Int) from by push_cast; rfl, wrap_nat, hin])
      have HSB : Hid ((x / 2 ^ s ||| r * 2 ^ (64 - s)) < B64) := Lib.hid (by rw [shr_or (by omega) hxb]; exact hwb)
      have HST := Lib.hid hst
      have HB2 := Lib.hid hb2
      have HLZ : Hid (((x / 2 ^ s ||| r * 2 ^ (64 - s)) :: zs).length = j + 1) := Lib.hid (by rw [List.length_cons, hlz.out])
      obtain ⟨i, hi⟩ : ∃ i, i = r * 2 ^ (64 - s) := ⟨_, rfl⟩
      rw [← hi] at HOR HSB HST HLZ ⊢
      clear hst hb2 hx hxb hkx hb hv hlz hob hqb hwb hin hrb hdk hr hi
      have hs1 : IntKind.i64.wrap (64 - (s : Int)) = 64 - (s : Int) := IntWalk.i64_in _ (by omega)
      have hix : ((n : Int) - 1) - (j : Int) = (k : Int) := by omega
      go_wp2
      go_region
      all_goals go_wp2
      all_goals go_roundw
      case rel =>
        refine ⟨j + 1, k, val B64 (xs.drop k) % 2 ^ s, (x / 2 ^ s ||| i) :: zs, by go_num, by rw [HIN.out], by omega, Lib.hid rfl, Lib.hid ?_, HLZ, Dig.cons HSB.out hdz, HST, grown_drewN (grown_set hg _ _) 1⟩
        rw [HOR.out]
        have := HB2.out.set_ (f + k) (.int .u64 ((x / 2 ^ s ||| i : Nat) : Int))
        have e2 := set_mid (k := .u64) (a := ps ++ xs.take k) (b := zs) (rest := rest) (x := x) (y := x / 2 ^ s ||| i) (v := ((x / 2 ^ s ||| i : Nat) : Int)) rfl
        rw [HTK.out] at e2
        rw [e2] at this
        exact this
      case measure => simp [intOf]; omega
    · have hjn : j = n := by omega
      have hk0 : k1 = 0 := by omega
      subst hjn
      subst hk0
      have HBN : Hid (Blk wr g 40 (nums .u64 (ps ++ zs) ++ rest)) := Lib.hid (by have := hb.out; rw [List.take_zero, List.append_nil] at this; exact this)
      have HVN : Hid (val B64 zs = val B64 xs / 2 ^ s) := Lib.hid hv.out
      have HLN := hlz
      clear hb hv hlz hr
      go_wp2
      go_end0
      exact ⟨zs, rfl, HBN.out, HLN.out, hdz, HVN.out, hg⟩

end Go.Proofs.Ytmjinhieeflkgaa
