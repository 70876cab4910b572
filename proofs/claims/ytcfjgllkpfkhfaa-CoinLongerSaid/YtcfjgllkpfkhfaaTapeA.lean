/- Contracts of tape's New, At, Left, take. -/
import Derived.Test.YtcfjgllkpfkhfaaBitMath
import Derived.Test.YtcfjgllkpfkhfaaMem
import Derived.Laws.Bits64b
import Derived.IntWalk
namespace Go.Proofs.Ytcfjgllkpfkhfaa
open Go.RowKit

theorem tape_New (s : ByteArray) (w : World) :
    Calls Try.prog 11 #[.string s] w fun e w' => e = .returned (.agg #[.string s, .int .i64 0]) ∧ Below w.heap.size w w' := by
  go_enter Try.func11, Try.ntmps11
  go_wp2
  exact bodyPost_ret (v := .agg #[.string s, .int .i64 0]) (by simp [results, Try.results11, go_sem]) rfl ⟨rfl, ((Below.refl _ _).alloc (Nat.le_refl _) _)⟩

theorem tape_At (s : ByteArray) (a : Nat) (w : World) :
    Calls Try.prog 17 #[.agg #[.string s, .int .i64 (a : Int)]] w fun e w' => e = .returned (.int .i64 (a : Int)) ∧ Below w.heap.size w w' := by
  go_enter Try.func17, Try.ntmps17
  go_wp2
  go_ret
  exact ⟨rfl, ((Below.refl _ _).alloc (Nat.le_refl _) _)⟩

theorem tape_Left (s : ByteArray) (a b : Nat) (w : World) (hs : (s.size : Int) ≤ 1000000) (hb : 8 * s.size = a + b) :
    Calls Try.prog 18 #[.agg #[.string s, .int .i64 (a : Int)]] w fun e w' => e = .returned (.int .i64 (b : Int)) ∧ Below w.heap.size w w' := by
  have h0 : IntKind.i64.wrap ((s.size : Int) * 8) = (s.size : Int) * 8 := IntWalk.i64_in _ (by omega)
  have h1 : IntKind.i64.wrap ((s.size : Int) * 8 - (a : Int)) = (b : Int) := by rw [IntWalk.i64_in _ (by omega)]; omega
  clear hb
  go_enter Try.func18, Try.ntmps18
  go_wp2
  go_ret
  exact ⟨rfl, ((Below.refl _ _).alloc (Nat.le_refl _) _)⟩

theorem hz1 (w : World) (o : Obj) : w.heap.size ≤ (w.alloc o).heap.size := by simp

theorem byte_at {s : ByteArray} {j : Nat} (h : j < s.size) : s.data.toList.getD j 0 = s[j] := by
  have hl : j < s.data.toList.length := by rw [Array.length_toList]; exact h
  rw [List.getD_eq_getElem?_getD, List.getElem?_eq_getElem hl]
  rfl

set_option maxHeartbeats 2000000 in
set_option maxRecDepth 100000 in
theorem tape_take (s : ByteArray) (a v n m k v' a' n' : Nat) (w : World) (hs : (s.size : Int) ≤ 1000000) (hk : k = min n m) (hn : n ≤ 64) (hm : m ≤ 64) (h8 : a % 8 + k ≤ 8) (ha : a + k ≤ 8 * s.size) (hv : v < 2 ^ (64 - k))
    (hv' : v' = v * 2 ^ k + numL s.data.toList a k) (ha' : a' = a + k) (hn' : n' = n - k) :
    Calls Try.prog 34 #[.agg #[.string s, .int .i64 (a : Int)], .int .u64 (v : Int), .int .i64 (n : Int), .int .i64 (m : Int)] w fun e w' =>
      e = .returned (.tuple #[.int .u64 (v' : Int), .agg #[.string s, .int .i64 (a' : Int)], .int .i64 (n' : Int)]) ∧ Below w.heap.size w w' := by
  by_cases h0 : k = 0
  · subst h0
    have e1 : v' = v := by rw [hv', numL_zero]; omega
    have e2 : a' = a := ha'
    have e3 : n' = n := hn'
    clear hv' ha' hn' hv
    subst e1 e2 e3
    rcases Nat.lt_or_ge m n' with h | h
    · have hm0 : m = 0 := by omega
      subst hm0
      clear hk
      go_enter Try.func34, Try.ntmps34
      go_wp2
      go_region
      all_goals go_wp2
      all_goals refine bodyPost_ret (v := .tuple #[.int .u64 (v' : Int), .agg #[.string s, .int .i64 (a' : Int)], .int .i64 (n' : Int)]) (by simp [results, Try.results34, go_sem]) rfl ⟨rfl, ?_⟩
      all_goals exact (((Below.refl _ _).alloc (Nat.le_refl _) _).alloc (by simp) _).drew
    · have hn0 : n' = 0 := by omega
      subst hn0
      clear hk
      go_enter Try.func34, Try.ntmps34
      go_wp2
      go_region
      all_goals go_wp2
      all_goals refine bodyPost_ret (v := .tuple #[.int .u64 (v' : Int), .agg #[.string s, .int .i64 (a' : Int)], .int .i64 0]) (by simp [results, Try.results34, go_sem]) rfl ⟨rfl, ?_⟩
      all_goals exact (((Below.refl _ _).alloc (Nat.le_refl _) _).alloc (by simp) _).drew
  · obtain ⟨j, hjj⟩ : ∃ j, j = a / 8 := ⟨_, rfl⟩
    obtain ⟨r, hrr⟩ : ∃ r, r = a % 8 := ⟨_, rfl⟩
    have ht := numL_take s.data.toList a k h8
    rw [← hjj, ← hrr] at ht
    have hq : (a : Int) / 8 = (j : Int) := by omega
    have hr : (a : Int) % 8 = (r : Int) := by omega
    have hjs : j < s.size := by omega
    rw [byte_at hjs] at ht
    have hn1 : IntKind.i64.wrap ((n : Int) - (k : Int)) = (n' : Int) := by rw [IntWalk.i64_in _ (by omega)]; omega
    have hr8 : r + k ≤ 8 := by omega
    have haw : (a : Int) + (k : Int) = (a' : Int) := by omega
    obtain ⟨R, hR⟩ : ∃ R : Nat, R = s[j].toNat * 2 ^ r % 256 := ⟨_, rfl⟩
    obtain ⟨t, htt⟩ : ∃ t : Nat, t = 8 - k := ⟨_, rfl⟩
    rw [← hR, ← htt] at ht
    obtain ⟨x, hx⟩ : ∃ x : Nat, x = numL s.data.toList a k := ⟨_, rfl⟩
    obtain ⟨y, hy⟩ : ∃ y : Nat, y = v * 2 ^ k := ⟨_, rfl⟩
    have hyb : y + x < 18446744073709551616 := by
      have h1 := numL_lt s.data.toList a k
      rw [← hx] at h1
      have h2 : (v + 1) * 2 ^ k ≤ 2 ^ (64 - k) * 2 ^ k := Nat.mul_le_mul_right _ hv
      rw [← Nat.pow_add, show 64 - k + k = 64 from by omega, Nat.add_mul, ← hy, Nat.one_mul] at h2
      have h3 : (2 : Nat) ^ 64 = 18446744073709551616 := by decide
      rw [h3] at h2
      omega
    have hor : bits BinOp.or IntKind.u64 (y : Int) (x : Int) = (v' : Int) := by
      rw [bits_or_u64_nat y x (by omega) (by omega), hv', ← hx, ← hy]
      have h1 := numL_lt s.data.toList a k
      rw [← hx] at h1
      rw [hy, Nat.mul_comm v, ← Nat.two_pow_add_eq_or_of_lt h1]
    have hsl : IntKind.u64.wrap ((v : Int) * 2 ^ k) = (y : Int) := by
      rw [show (v : Int) * 2 ^ k = (y : Int) from by rw [hy]; push_cast; rfl, IntWalk.u64_in _ (by omega)]
    have hsr : (R : Int) / 2 ^ t = (x : Int) := by rw [hx, ← ht]; push_cast; rfl
    have hRi : ((s[j].toNat : Int)) * 2 ^ r % 256 = (R : Int) := by rw [hR]; push_cast; rfl
    have hR2 : R < 256 := by rw [hR]; exact Nat.mod_lt _ (by omega)
    have hti : IntKind.i64.wrap (8 - (k : Int)) = (t : Int) := by rw [IntWalk.i64_in _ (by omega)]; omega
    have hxw : IntKind.u64.wrap (x : Int) = (x : Int) := IntWalk.u64_in _ (by omega)
    have ht8 : t < 8 := by omega
    have hkp : 0 < k := by omega
    have hnz : n = k → n' = 0 := by omega
    clear hv' hv hjj hrr ht ha' hx hy hR hyb htt h0 hn'
    rcases Nat.lt_or_ge m n with h | h
    · have hm0 : m = k := by omega
      clear hk hnz
      subst hm0
      go_enter Try.func34, Try.ntmps34
      go_wp2
      go_quiet (fail)
      go_wp2
      go_region
      all_goals go_wp2
      all_goals refine bodyPost_ret (v := .tuple #[.int .u64 (v' : Int), .agg #[.string s, .int .i64 (a' : Int)], .int .i64 (n' : Int)]) (by simp [results, Try.results34, go_sem]) rfl ⟨rfl, ?_⟩
      all_goals exact Below.drew (Below.setCell (Below.setCell (Below.setCell (Below.drewN (((Below.refl _ _).alloc (Nat.le_refl _) _).alloc (hz1 _ _) _) _) (Nat.le_refl _) _) (Nat.le_succ _) _) (Nat.le_succ _) _)
    · have hm0 : n = k := by omega
      have hn0 := hnz hm0
      clear hk hnz
      subst hm0 hn0
      go_enter Try.func34, Try.ntmps34
      go_wp2
      go_quiet (fail)
      go_wp2
      go_region
      all_goals go_wp2
      all_goals refine bodyPost_ret (v := .tuple #[.int .u64 (v' : Int), .agg #[.string s, .int .i64 (a' : Int)], .int .i64 0]) (by simp [results, Try.results34, go_sem]) rfl ⟨rfl, ?_⟩
      all_goals exact Below.drew (Below.setCell (Below.setCell (Below.setCell (Below.drewN (((Below.refl _ _).alloc (Nat.le_refl _) _).alloc (hz1 _ _) _) _) (Nat.le_refl _) _) (Nat.le_succ _) _) (Nat.le_succ _) _)

end Go.Proofs.Ytcfjgllkpfkhfaa
