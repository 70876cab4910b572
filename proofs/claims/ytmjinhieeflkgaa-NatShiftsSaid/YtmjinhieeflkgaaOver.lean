/- Contracts of math/bits.Div64 for any numerator, and of nat's overWord. -/
import Derived.Test.YtmjinhieeflkgaaDiv64
namespace Go.Proofs.Ytmjinhieeflkgaa
open Go.RowKit

theorem quo64 {x y : Nat} (hx : x < 18446744073709551616) (hy : 0 < y) : IntKind.u64.wrap ((x : Int).tdiv (y : Int)) = ((x / y : Nat) : Int) := by
  rw [IntWalk.u64_quo _ _ ⟨by omega, by omega, by omega⟩]; rfl

theorem rem64 {x y : Nat} : (x : Int).tmod (y : Int) = ((x % y : Nat) : Int) := by
  rw [Int.tmod_eq_emod_of_nonneg (by omega)]; rfl

set_option maxRecDepth 100000 in
theorem div64_zero (lo y : Nat) (w : World) (h1 : 9223372036854775808 ≤ y) (h3 : lo < B64) :
    Calls Try.prog 36 #[.int .u64 0, .int .u64 lo, .int .u64 y] w fun e w' =>
      e = .returned (.tuple #[.int .u64 (lo / y : Nat), .int .u64 (lo % y : Nat)]) ∧ ∃ q, w' = w.drewN q := by
  have hyy0 : ((y : Int) == 0) = false := beq_eq_false_iff_ne.2 (by omega)
  have hyl : ¬ (y : Int) ≤ 0 := by omega
  have f1 := quo64 (x := lo) (y := y) (by rw [B64_eq] at h3; exact h3) (by omega)
  have f2 := rem64 (x := lo) (y := y)
  have hyp : (1 : Int) ≤ (y : Int) := by omega
  have f3 : IntKind.u64.wrap ((lo : Int) / (y : Int)) = ((lo / y : Nat) : Int) := by
    rw [B64_eq] at h3
    have := Nat.div_le_self lo y
    have e : (lo : Int) / (y : Int) = ((lo / y : Nat) : Int) := rfl
    rw [e]
    generalize lo / y = z at *
    rw [IntWalk.u64_in _ ⟨by omega, by omega⟩]
  clear h1 h3
  go_enter Try.func36, Try.ntmps36
  go_wp2
  go_quiet (fail)
  go_wp2
  go_ret2
  exact ⟨by simp, _, rfl⟩

theorem div64_any (hi lo y : Nat) (w : World) (h : hi < y) (h1 : 9223372036854775808 ≤ y) (h2 : y < B64) (h3 : lo < B64) :
    Calls Try.prog 36 #[.int .u64 hi, .int .u64 lo, .int .u64 y] w fun e w' =>
      e = .returned (.tuple #[.int .u64 ((hi * B64 + lo) / y : Nat), .int .u64 ((hi * B64 + lo) % y : Nat)]) ∧ ∃ q, w' = w.drewN q := by
  by_cases h0 : hi = 0
  · subst h0
    refine (div64_zero lo y w h1 h3).mono ?_
    rintro e w' ⟨rfl, q, rfl⟩
    exact ⟨by rw [Nat.zero_mul, Nat.zero_add], q, rfl⟩
  · refine (bits_Div64 hi lo y (y / 4294967296) (y % 4294967296) (lo / 4294967296) (lo % 4294967296) w (by omega) h h1 h2 h3 (by omega) (by omega) (by omega) (by rw [B64_eq] at h3; omega) (by omega)).mono ?_
    rintro e w' ⟨rfl, rfl⟩
    exact ⟨rfl, 0, rfl⟩

theorem grown_set {w w1 : World} {g : Nat} (h : w.grownBy w1 (some g)) (j : Nat) (u : Value) : w.grownBy (w1.setCell ⟨g, j, none⟩ u) (some g) :=
  ⟨h.os, h.tape, h.output, by simp [World.setCell]; exact h.size, fun k hk hne => (Below.heap_setCell w1 ⟨g, j, none⟩ u k (fun e => hne (by rw [show k = g from e]))).trans (h.block k hk hne)⟩
theorem grown_drewN {w w1 : World} {r : Option Nat} (h : w.grownBy w1 r) (q : Nat) : w.grownBy (w1.drewN q) r := ⟨h.os, h.tape, h.output, h.size, h.block⟩
theorem grown_alloc {w w1 : World} {r : Option Nat} (h : w.grownBy w1 r) (o : Obj) : w.grownBy (w1.alloc o) r :=
  ⟨h.os, h.tape, h.output, by simp; exact Nat.le_trans h.size (by omega), fun k hk hne => (Below.heap_alloc w1 o k (Nat.lt_of_lt_of_le hk h.size)).trans (h.block k hk hne)⟩

/-- The list behind one store. -/
theorem set_mid {k : IntKind} {a b : List Nat} {rest : List Value} {x y : Nat} {v : Int} (hv : v = (y : Int)) :
    (nums k (a ++ x :: b) ++ rest).set a.length (.int k v) = nums k (a ++ y :: b) ++ rest := by
  subst hv
  simp [nums]

/-- One word of a long division by one word. -/
theorem over_step {d left x : Nat} {zs ys : List Nat} (hd : 0 < d) (hv : val B64 zs = d * val B64 ys + left) (hx : x < B64) (hl : left < d) :
    val B64 (x :: zs) = d * val B64 ((left * B64 + x) / d :: ys) + (left * B64 + x) % d ∧ (left * B64 + x) / d < B64 ∧ (left * B64 + x) % d < d := by
  refine ⟨?_, ?_, Nat.mod_lt _ hd⟩
  · have h := Nat.div_add_mod (left * B64 + x) d
    generalize (left * B64 + x) / d = q at *
    generalize (left * B64 + x) % d = r at *
    simp only [val]
    rw [hv, Nat.mul_add B64, Nat.mul_add d, ← Nat.mul_assoc B64 d, Nat.mul_comm B64 d, Nat.mul_assoc d B64, Nat.mul_comm B64 left]
    omega
  · rw [Nat.div_lt_iff_lt_mul hd, Nat.mul_comm B64 d]
    have : (left + 1) * B64 ≤ d * B64 := Nat.mul_le_mul_right _ hl
    rw [Nat.add_mul, Nat.one_mul] at this
    omega

set_option maxHeartbeats 1000000 in
theorem nat_overWord (g n c d : Nat) (xs : List Nat) (rest : List Value) (w : World) (hblk : Blk w g 40 (nums .u64 xs ++ rest)) (hl : xs.length = n) (hdg : Dig B64 xs) (hn : n ≤ 1099511627776)
    (hd1 : 9223372036854775808 ≤ d) (hd2 : d < B64) :
    Calls Try.prog 31 #[.slice (some ⟨g, 0, none⟩) n c, .int .u64 d] w fun e w' => ∃ (ys : List Nat) (r : Nat), e = .returned (.int .u64 r) ∧ Blk w' g 40 (nums .u64 ys ++ rest) ∧
      ys.length = n ∧ Dig B64 ys ∧ r < d ∧ val B64 xs = d * val B64 ys + r ∧ w.grownBy w' (some g) := by
  have HD : Hid (9223372036854775808 ≤ d ∧ d < B64) := Lib.hid ⟨hd1, hd2⟩
  have hdp : 0 < d := by omega
  have HB := Lib.hid hblk
  have HL := Lib.hid hl
  clear hblk hl hd1 hd2
  go_enter Try.func31, Try.ntmps31
  go_wp2
  go_loopw [5, 10] (fun lv iv wr => ∃ (k left : Nat) (ys : List Nat), k ≤ n ∧ iv = .int .i64 k ∧ lv = .int .u64 left ∧ Hid (Blk wr g 40 (nums .u64 (xs.take (n - k) ++ ys) ++ rest)) ∧ Hid (ys.length = k) ∧ Dig B64 ys ∧ left < d ∧
      Hid (val B64 (xs.drop (n - k)) = d * val B64 ys + left) ∧ w.grownBy wr (some g)) (fun _ iv _ => n - (intOf iv).toNat)
  case atStart => exact ⟨0, 0, [], Nat.zero_le _, rfl, rfl, Lib.hid (by rw [List.take_of_length_le (by rw [HL.out]; omega), List.append_nil]; exact HB.out), Lib.hid rfl, Dig.nil _, hdp, Lib.hid (by rw [List.drop_of_length_le (by rw [HL.out]; omega)]; rfl), World.grownBy.refl _ _⟩
  case round =>
    obtain ⟨k, left, ys, hk, rfl, rfl, hb, hly, hdy, hleft, hv, hg⟩ := hrel
    by_cases hlt : k < n
    · obtain ⟨j, hj⟩ : ∃ j, j = n - 1 - k := ⟨_, rfl⟩
      have hjx : j < xs.length := by rw [HL.out]; omega
      have e1 : n - k = j + 1 := by omega
      rw [e1] at hb hv
      obtain ⟨x, hx⟩ : ∃ x, x = xs[j] := ⟨_, rfl⟩
      have hxb : x < B64 := by rw [hx]; exact hdg _ (List.getElem_mem hjx)
      have ht : xs.take (j + 1) = xs.take j ++ [x] := by rw [hx]; exact (List.take_append_getElem hjx).symm
      have hdr : xs.drop j = x :: xs.drop (j + 1) := by rw [hx]; exact List.drop_eq_getElem_cons hjx
      have hlj : (xs.take j).length = j := by rw [List.length_take]; omega
      have hb2 : Blk wr g 40 (nums .u64 (xs.take j ++ x :: ys) ++ rest) := by have := hb.out; rw [ht, List.append_assoc] at this; exact this
      have hc0 := hb2.cell j
      rw [List.getElem?_append_left (by rw [nums_length, List.length_append, hlj]; simp), nums_get _ _ _ (by rw [List.length_append, hlj]; simp), List.getD_eq_getElem?_getD, List.getElem?_append_right (by omega), hlj, Nat.sub_self] at hc0
      have hcell : wr.cell? ⟨g, n - 1 - k, none⟩ = some (.int .u64 (x : Int)) := by rw [← hj]; simpa using hc0
      have hfr := hb2.frozen (n - 1 - k)
      have HJ := Lib.hid hj
      have hst := over_step hdp hv.out hxb hleft
      have HST := Lib.hid hst
      have HDR := Lib.hid hdr
      have HLJ := Lib.hid hlj
      have HB2 := Lib.hid hb2
      have HXB := Lib.hid hxb
      have HLEFT := Lib.hid hleft
      clear hb hv hx hxb ht hdr hlj hb2 hc0 hst e1 hleft hj
      obtain ⟨Q, hQ⟩ : ∃ Q, Q = (left * B64 + x) / d := ⟨_, rfl⟩
      obtain ⟨R, hR⟩ : ∃ R, R = (left * B64 + x) % d := ⟨_, rfl⟩
      rw [← hQ, ← hR] at HST
      have HC : Hid (∀ W : World, Calls Try.prog 36 #[.int .u64 left, .int .u64 x, .int .u64 d] W fun e w' => e = .returned (.tuple #[.int .u64 (Q : Int), .int .u64 (R : Int)]) ∧ ∃ q, w' = W.drewN q) :=
        Lib.hid (fun W => by rw [hQ, hR]; exact div64_any left x d W HLEFT.out HD.out.1 HD.out.2 HXB.out)
      clear hQ hR
      go_wp2_with (go_at_call 36; refine (HC.out _).mono ?_; rintro e w' ⟨rfl, q, rfl⟩)
      go_roundw
      case rel =>
        refine ⟨k + 1, R, Q :: ys, by omega, by go_num, rfl, Lib.hid ?_, Lib.hid (by have := hly.out; simp; omega), Dig.cons HST.out.2.1 hdy, HST.out.2.2, Lib.hid ?_, ?_⟩
        · rw [show n - (k + 1) = j from by have := HJ.out; omega]
          have := (HB2.out.drewN q).set_ j (.int .u64 (Q : Int))
          have e2 := set_mid (k := .u64) (a := xs.take j) (b := ys) (rest := rest) (x := x) (y := Q) (v := Q) rfl
          rw [HLJ.out] at e2
          rw [e2] at this
          rw [← HJ.out]
          exact this
        · rw [show n - (k + 1) = j from by have := HJ.out; omega, HDR.out]
          exact HST.out.1
        · exact grown_set (grown_drewN hg q) _ _
      case measure => simp [intOf]; omega
    · have hkn : k = n := by omega
      subst hkn
      go_wp2
      go_ret
      refine ⟨ys, left, rfl, ?_, hly.out, hdy, hleft, ?_, hg⟩
      · have := hb.out; rw [Nat.sub_self] at this; simpa using this
      · have := hv.out; rw [Nat.sub_self] at this; simpa using this

end Go.Proofs.Ytmjinhieeflkgaa
