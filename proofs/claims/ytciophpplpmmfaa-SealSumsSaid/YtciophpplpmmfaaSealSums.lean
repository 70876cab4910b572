/- The document's example of layer 13; the walk of SealSums. -/
import Derived.Test.YtciophpplpmmfaaSealB
import Derived.ProofKit
namespace Go.Proofs.Ytciophpplpmmfaa
open Go.RowKit

theorem close_one (w : World) : Calls Try.prog 34 #[.agg #[.int .u8 1, .int .u64 0, .int .u32 0, .string ⟨#[]⟩]] w fun e w' => e = .returned (.tuple #[.string ⟨(secL 1 0 0 []).toArray⟩, .int .i64 0]) ∧ Below w.heap.size w w' :=
  seal_Close_ok 1 0 0 ⟨#[]⟩ w (by omega) (by omega) (by omega) (by decide)
theorem sum_nine (w : World) : Calls Try.prog 21 #[.string ⟨#[49, 50, 51, 52, 53, 54, 55, 56, 57]⟩] w fun e w' => e = .returned (.int .u32 3421780262) ∧ w = w' := by
  have h := seal_Sum ⟨#[49, 50, 51, 52, 53, 54, 55, 56, 57]⟩ w (by decide)
  have e : crcSum [49, 50, 51, 52, 53, 54, 55, 56, 57] = 3421780262 := by decide +kernel
  rw [show (⟨#[49, 50, 51, 52, 53, 54, 55, 56, 57]⟩ : ByteArray).data.toList = [49, 50, 51, 52, 53, 54, 55, 56, 57] from rfl, e] at h
  exact h

set_option maxHeartbeats 2000000 in
theorem seal_Awake (w : World) : Calls Try.prog 20 #[] w fun e w' => e = .returned (.bool true) ∧ Below w.heap.size w w' := by
  obtain ⟨s, hs⟩ : ∃ s : ByteArray, s = ⟨(secL 1 0 0 []).toArray⟩ := ⟨_, rfl⟩
  have hsz : s.size = 128 := by rw [hs]; exact secL_len 1 0 0 [] (by decide)
  have HC := Lib.hid (fun W => by rw [hs]; exact close_one W : ∀ W, Calls Try.prog 34 #[.agg #[.int .u8 1, .int .u64 0, .int .u32 0, .string ⟨#[]⟩]] W fun e w' => e = .returned (.tuple #[.string s, .int .i64 0]) ∧ Below W.heap.size W w')
  have HN := Lib.hid sum_nine
  clear hs
  go_enter Try.func20, Try.ntmps20
  go_wp2_with (go_at_call 34; refine (HC.out _).mono ?_; rintro e w1 ⟨rfl, hb1⟩)
  go_wp2_with (go_at_call 21; refine (HN.out _).mono ?_; rintro e w2 ⟨rfl, rfl⟩)
  go_ret
  exact ⟨rfl, hb1⟩

set_option maxHeartbeats 2000000 in
theorem sealSums_walk (s : ByteArray) (hs : s.size ≤ maxLen) (w : World) :
    Calls Try.prog 6 #[.string s] w fun e w' => e = .returned (.bool true) ∧ Below w.heap.size w w' := by
  have HA := Lib.hid seal_Awake
  by_cases hl : 2000 < s.size
  · have hd : decide ((2000 : Int) < (s.size : Int)) = true := decide_eq_true (by omega)
    go_enter Try.func6, Try.ntmps6
    go_wp2_with (go_at_call 20; refine (HA.out _).mono ?_; rintro e w1 ⟨rfl, hb1⟩)
    go_ret
    exact ⟨rfl, hb1⟩
  · have hd : decide ((2000 : Int) < (s.size : Int)) = false := decide_eq_false (by omega)
    obtain ⟨x, hx⟩ : ∃ x, x = crcSum s.data.toList := ⟨_, rfl⟩
    have hxb : x < 4294967296 := by rw [hx]; exact crcSum_lt _
    have hxw : IntKind.u64.wrap (x : Int) = (x : Int) := IntWalk.u64_in _ (by omega)
    have H1 := Lib.hid (fun W => by have h := seal_Sum s W (by omega); rw [← hx] at h; exact h : ∀ W, Calls Try.prog 21 #[.string s] W fun e w' => e = .returned (.int .u32 (x : Int)) ∧ W = w')
    have H2 := Lib.hid (fun W => by have h := ref_Sum s W (by omega); rw [← hx] at h; exact h : ∀ W, Calls Try.prog 22 #[.string s] W fun e w' => e = .returned (.int .u64 (x : Int)) ∧ W = w')
    clear hx hl
    go_enter Try.func6, Try.ntmps6
    go_wp2_with (go_at_call 20; refine (HA.out _).mono ?_; rintro e w1 ⟨rfl, hb1⟩)
    go_wp2_with (go_at_call 21; refine (H1.out _).mono ?_; rintro e w2 ⟨rfl, rfl⟩)
    go_wp2_with (go_at_call 22; refine (H2.out _).mono ?_; rintro e w2 ⟨rfl, rfl⟩)
    go_ret
    exact ⟨rfl, hb1⟩

end Go.Proofs.Ytciophpplpmmfaa
