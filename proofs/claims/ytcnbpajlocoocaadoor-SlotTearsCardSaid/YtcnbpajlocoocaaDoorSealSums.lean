/- The document's example of layer 13; the walk of SealSums. -/
import Derived.Test.YtcnbpajlocoocaaDoorSealB
import Derived.ProofKit
namespace Go.Proofs.YtcnbpajlocoocaaDoor
open Go.RowKit

theorem close_one (w : World) : Calls Tryd.prog 23 #[.agg #[.int .u8 1, .int .u64 0, .int .u32 0, .string ⟨#[]⟩]] w fun e w' => e = .returned (.tuple #[.string ⟨(secL 1 0 0 []).toArray⟩, .int .i64 0]) ∧ Below w.heap.size w w' :=
  seal_Close_ok 1 0 0 ⟨#[]⟩ w (by omega) (by omega) (by omega) (by decide)
theorem sum_nine (w : World) : Calls Tryd.prog 62 #[.string ⟨#[49, 50, 51, 52, 53, 54, 55, 56, 57]⟩] w fun e w' => e = .returned (.int .u32 3421780262) ∧ w = w' := by
  have h := seal_Sum ⟨#[49, 50, 51, 52, 53, 54, 55, 56, 57]⟩ w (by decide)
  have e : crcSum [49, 50, 51, 52, 53, 54, 55, 56, 57] = 3421780262 := by decide +kernel
  rw [show (⟨#[49, 50, 51, 52, 53, 54, 55, 56, 57]⟩ : ByteArray).data.toList = [49, 50, 51, 52, 53, 54, 55, 56, 57] from rfl, e] at h
  exact h

set_option maxHeartbeats 2000000 in
theorem seal_Awake (w : World) : Calls Tryd.prog 32 #[] w fun e w' => e = .returned (.bool true) ∧ Below w.heap.size w w' := by
  obtain ⟨s, hs⟩ : ∃ s : ByteArray, s = ⟨(secL 1 0 0 []).toArray⟩ := ⟨_, rfl⟩
  have hsz : s.size = 128 := by rw [hs]; exact secL_len 1 0 0 [] (by decide)
  have HC := Lib.hid (fun W => by rw [hs]; exact close_one W : ∀ W, Calls Tryd.prog 23 #[.agg #[.int .u8 1, .int .u64 0, .int .u32 0, .string ⟨#[]⟩]] W fun e w' => e = .returned (.tuple #[.string s, .int .i64 0]) ∧ Below W.heap.size W w')
  have HN := Lib.hid sum_nine
  clear hs
  go_enter Tryd.func32, Tryd.ntmps32
  go_wp2_with (go_at_call 23; refine (HC.out _).mono ?_; rintro e w1 ⟨rfl, hb1⟩)
  go_wp2_with (go_at_call 62; refine (HN.out _).mono ?_; rintro e w2 ⟨rfl, rfl⟩)
  go_ret
  exact ⟨rfl, hb1⟩

end Go.Proofs.YtcnbpajlocoocaaDoor
