/- Contracts of nat's halve, odd. -/
import Derived.Test.YtmjinhieeflkgaaDoorRRRRGcdA
namespace Go.Proofs.YtmjinhieeflkgaaDoorRRRR
open Go.RowKit

theorem Blk.slAt {k : IntKind} {w : World} {g t f n c : Nat} {ps xs : List Nat} {rest : List Value} (h : Blk w g t (nums k (ps ++ xs) ++ rest)) (hp : ps.length = f) (hl : xs.length = n) (hc : n ≤ c) (hc2 : (c : Int) ≤ 9223372036854775807) : Sl k w (some ⟨g, f, none⟩) n c xs := by
  have h2 : Blk w g t (nums k ps ++ (nums k xs ++ rest)) := by rw [nums_append, List.append_assoc] at h; exact h
  have := Sl.of_blk h2 hl hc hc2
  rw [nums_length, hp] at this
  exact this

theorem drop_val (xs : List Nat) (q : Nat) (hd : Dig B64 xs) (hq : q ≤ xs.length) : val B64 (xs.drop q) = val B64 xs / B64 ^ q := by
  have h1 : val B64 xs = val B64 (xs.take q) + B64 ^ q * val B64 (xs.drop q) := by
    conv => lhs; rw [← List.take_append_drop q xs]
    rw [val_append, List.length_take, Nat.min_eq_left hq]
  have h2 := val_lt (hd.take q)
  rw [List.length_take, Nat.min_eq_left hq] at h2
  rw [h1, Nat.add_mul_div_left _ _ (Nat.pow_pos B64_pos), Nat.div_eq_of_lt h2, Nat.zero_add]

/-- What halve leaves: the odd part of a number, in the same block. -/
def Halved (w : World) (g n V : Nat) (e : Ending) (w' : World) : Prop :=
  ∃ (f' n' c' t M : Nat) (ps' zs : List Nat) (rest' : List Value), e = .returned (.slice (some ⟨g, f', none⟩) n' c') ∧ Blk w' g 43 (nums .u64 (ps' ++ zs) ++ rest') ∧ ps'.length = f' ∧ zs.length = n' ∧ Dig B64 zs ∧ trimL zs = zs ∧
    n' ≤ n ∧ n' ≤ c' ∧ (c' : Int) ≤ 9223372036854775807 ∧ V = 2 ^ t * (2 * M + 1) ∧ val B64 zs = 2 * M + 1 ∧ w.grownBy w' (some g)

set_option maxHeartbeats 2000000 in
theorem nat_halve (g f n c : Nat) (ps xs : List Nat) (rest : List Value) (w : World) (hblk : Blk w g 43 (nums .u64 (ps ++ xs) ++ rest)) (hp : ps.length = f) (hl : xs.length = n) (hdx : Dig B64 xs) (hn : n ≤ 1000000000) (hc : n ≤ c) (hc2 : (c : Int) ≤ 9223372036854775807)
    (h0 : 0 < val B64 xs) (ht : Tz w) (_hne : 0 ≠ g) :
    Calls Tryd.prog 49 #[.slice (some ⟨g, f, none⟩) n c] w (Halved w g n (val B64 xs)) := by
  have HEV := Lib.hid (nat_evens _ n c xs w (hblk.slAt hp hl hc hc2) hdx hn h0 ht)
  have HB := Lib.hid hblk
  have HP := Lib.hid hp
  have HL := Lib.hid hl
  clear hblk hp hl h0 ht
  go_enter Tryd.func49, Tryd.ntmps49
  go_wp2_with fail
  refine HEV.out.mono ?_
  rintro e w1 ⟨t, M, rfl, hv, htn, rfl⟩
  have HV := Lib.hid hv
  obtain ⟨q, hq⟩ : ∃ q, q = t / 64 := ⟨_, rfl⟩
  obtain ⟨r, hr⟩ : ∃ r, r = t % 64 := ⟨_, rfl⟩
  have hr64 : r < 64 := by omega
  have hqn : q < n := by omega
  have HTQ : Hid (t = 64 * q + r) := Lib.hid (by omega)
  have hqx : (t : Int) / 64 = (q : Int) := by omega
  have hrx : (t : Int) % 64 = (r : Int) := by omega
  have hcq : ¬ c = q := by omega
  have htb : t ≤ 64000000000 := by omega
  clear hq hr hv
  have HB2 : Hid (Blk w g 43 (nums .u64 ((ps ++ xs.take q) ++ xs.drop q) ++ rest)) := Lib.hid (by rw [List.append_assoc, List.take_append_drop]; exact HB.out)
  have HP2 : Hid ((ps ++ xs.take q).length = f + q) := Lib.hid (by rw [List.length_append, HP.out, List.length_take, HL.out]; omega)
  have HL2 : Hid ((xs.drop q).length = n - q) := Lib.hid (by rw [List.length_drop, HL.out])
  go_wp2_with fail
  refine (nat_lower g (f + q) (n - q) _ r (ps ++ xs.take q) (xs.drop q) rest w HB2.out HP2.out HL2.out (hdx.drop q) (by omega) hr64).mono ?_
  rintro e w2 ⟨zs, rfl, hb2, hl2, hd2, hv2, hg2⟩
  have hval : val B64 zs = 2 * M + 1 := by
    rw [hv2, drop_val xs q hdx (by rw [HL.out]; omega), HV.out, HTQ.out, Nat.pow_add, Nat.pow_mul, ← B64_pow, Nat.mul_assoc, Nat.mul_div_cancel_left _ (Nat.pow_pos B64_pos), Nat.mul_div_cancel_left _ (Nat.two_pow_pos r)]
  have HVAL := Lib.hid hval
  have HSL := Lib.hid (hb2.slAt (c := c - q) HP2.out hl2 (by omega) (by omega))
  have HL3 := Lib.hid hl2
  have HB3 := Lib.hid hb2
  have HG := Lib.hid hg2
  clear hb2 hl2 hv2 hval hg2
  go_wp2_with fail
  refine (nat_trim _ _ _ zs _ HSL.out).mono ?_
  rintro e w3 ⟨rfl, rfl⟩
  go_wp2
  go_ret
  have hlz := trimL_len zs
  rw [HL3.out] at hlz
  refine ⟨f + q, (trimL zs).length, c - q, t, M, ps ++ xs.take q, trimL zs, nums .u64 (zs.drop (trimL zs).length) ++ rest, rfl, ?_, HP2.out, rfl, trimL_dig hd2, trimL_idem zs, by omega, by omega, by omega, HV.out, by rw [val_trim, HVAL.out], HG.out⟩
  have e1 : zs = trimL zs ++ zs.drop (trimL zs).length := by
    conv => lhs; rw [← List.take_append_drop (trimL zs).length zs, ← trimL_take]
  have e2 : nums .u64 (ps ++ xs.take q ++ zs) = nums .u64 (ps ++ xs.take q ++ trimL zs) ++ nums .u64 (zs.drop (trimL zs).length) := by
    rw [← nums_append, List.append_assoc (ps ++ xs.take q), ← e1]
  rw [← List.append_assoc, ← e2]
  exact HB3.out

/-- What odd makes: a number's odd part in new memory. -/
def Odd1 (w : World) (n V : Nat) (e : Ending) (w' : World) : Prop :=
  ∃ (g f' n' c' t M : Nat) (ps' zs : List Nat) (rest' : List Value), e = .returned (.slice (some ⟨g, f', none⟩) n' c') ∧ w.heap.size ≤ g ∧ Blk w' g 43 (nums .u64 (ps' ++ zs) ++ rest') ∧ ps'.length = f' ∧ zs.length = n' ∧ Dig B64 zs ∧ trimL zs = zs ∧
    n' ≤ n ∧ n' ≤ c' ∧ (c' : Int) ≤ 9223372036854775807 ∧ V = 2 ^ t * (2 * M + 1) ∧ val B64 zs = 2 * M + 1 ∧ Below w.heap.size w w'

theorem nat_odd (A : Option Addr) (n c : Nat) (xs : List Nat) (w : World) (h : Sl .u64 w A n c xs) (hdx : Dig B64 xs) (hn : n ≤ 1000000000) (h0 : 0 < val B64 xs) (ht : Tz w) :
    Calls Tryd.prog 29 #[.slice A n c] w (Odd1 w n (val B64 xs)) := by
  have H := Lib.hid h
  have H0 := Lib.hid h0
  have HT := Lib.hid ht
  clear h h0 ht
  go_enter Tryd.func29, Tryd.ntmps29
  go_wp2_with fail
  refine (nat_clone A n c xs _ H.out (by omega)).mono ?_
  rintro e w1 ⟨g, rfl, hg, hblk, hb1⟩
  have hgt := HT.out.lt
  have HT1 := Lib.hid (HT.out.keep hb1)
  have HB := Lib.hid hblk
  have HB1 := Lib.hid hb1
  clear hblk hb1
  go_wp2_with fail
  refine (nat_halve g 0 n n [] xs [] _ (by rw [List.append_nil]; exact HB.out) rfl H.out.1 hdx hn (Nat.le_refl _) (by omega) H0.out HT1.out (by omega)).mono ?_
  rintro e w2 ⟨f', n', c', t, M, ps', zs, rest', rfl, hb2, hp2, hl2, hd2, ht2, hn2, hc2, hc3, hv, hv2, hg2⟩
  have HALL : Hid (Odd1 w n (val B64 xs) (.returned (.slice (some ⟨g, f', none⟩) n' c')) w2) := Lib.hid
    ⟨g, f', n', c', t, M, ps', zs, rest', rfl, hg, hb2, hp2, hl2, hd2, ht2, hn2, hc2, hc3, hv, hv2, HB1.out.grown hg2 HB1.out.size (fun k hk => by cases hk; exact hg)⟩
  clear hb2 hp2 hl2 hd2 ht2 hn2 hc2 hc3 hv hv2 hg2
  go_wp2
  go_ret
  exact HALL.out

end Go.Proofs.YtmjinhieeflkgaaDoorRRRR
