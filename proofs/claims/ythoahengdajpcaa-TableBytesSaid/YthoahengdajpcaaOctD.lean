/- Contracts of the document's PutText and TakeText; the document's examples of layer 17. -/
import Derived.Test.YthoahengdajpcaaOctC
import Derived.OpenShut
namespace Go.Proofs.Ythoahengdajpcaa
open Go.RowKit

theorem oct_beL2 (k : Nat) : beL k 2 = [UInt8.ofNat (k / 256 % 256), UInt8.ofNat (k % 256)] := by
  simp [beL, List.range, List.range.loop]
theorem oct_beV2 {l : List UInt8} (h : 2 ≤ l.length) : beV (l.take 2) = (l[0]'(by omega)).toNat * 256 + (l[1]'(by omega)).toNat := by
  rw [beV_take l 1 (by omega), beV_take l 0 (by omega), List.take_zero, beV_nil]
  omega

theorem oct_conv2 (p q k : Nat) (hp : p = k / 256) (hq : q = k % 256) (hk : k ≤ 65535) (W : World) (te : TypeId) (hte : te = 5) :
    (convert 60 9 (.slice (some ⟨W.heap.size, 0, none⟩) 2 2)).run Try.prog (W.alloc (.cells #[.int .u8 (p : Int), .int .u8 (q : Int)] te)) = .ok (.string (bs (beL k 2))) (W.alloc (.cells #[.int .u8 (p : Int), .int .u8 (q : Int)] te)) := by
  subst hte
  refine oct_conv (l := beL k 2) (n := 2) ?_ (beL_len k 2)
  have e : nums .u8 (nb (beL k 2)) = [.int .u8 (p : Int), .int .u8 (q : Int)] := by
    rw [oct_beL2]
    unfold nums nb
    simp only [List.map_cons, List.map_nil, UInt8.toNat_ofNat']
    have e1 : k / 256 % 256 % 2 ^ 8 = p := by omega
    have e2 : k % 256 % 2 ^ 8 = q := by omega
    rw [e1, e2]
  rw [e]
  exact heap_alloc_new W _

theorem oct_str_slice (l T : List UInt8) (i j : Nat) (W : World) (hij : i ≤ j) (hj : j ≤ l.length) (hT : (bs l).extract i j = bs T) :
    (Instr.slice 9 (.string (bs l)) (some (.int .i64 (i : Int))) (some (.int .i64 (j : Int))) none).run Try.prog W = .ok (.string (bs T)) W := by
  have h0 : (0 : Int) ≤ (i : Int) := by omega
  have h2 : (0 : Int) ≤ (j : Int) := by omega
  have h4 : j ≤ (bs l).size := by rw [bs_size]; omega
  simp [Instr.slice, Instr.sliceBounds, Instr.sliceBound, asIntOf, run_underlying Try.underlying9, go_sem, h0, h2, h4, hij, hT]

theorem oct_Awake (w : World) :
    Calls Try.prog 21 #[] w fun e w' => e = .returned (.bool true) ∧ Below w.heap.size w w' := by
  have e1 : beL 258 2 = [1, 2] := by decide
  have e2 : beL ([97] : List UInt8).length 2 ++ [97] = [0, 1, 97] := by decide
  have H1 : Hid (∀ W, Calls Try.prog 25 #[.int .u64 258, .int .i64 2] W fun e w' => e = .returned (.tuple #[.string ⟨#[1, 2]⟩, .int .i64 0]) ∧ Below W.heap.size W w') := Lib.hid (fun W => by
    have h := oct_Put_ok 258 2 W (by decide) (by decide) (by decide) (by decide)
    rw [e1] at h
    exact h)
  have H2 : Hid (∀ W, Calls Try.prog 34 #[.string ⟨#[97]⟩, .int .i64 9] W fun e w' => e = .returned (.tuple #[.string ⟨#[0, 1, 97]⟩, .int .i64 0]) ∧ Below W.heap.size W w') := Lib.hid (fun W => by
    have h := oct_PutText_ok [97] 9 W (by decide) (by decide)
    rw [e2] at h
    exact h)
  clear e1 e2
  go_enter Try.func21, Try.ntmps21
  go_wp2_with (first
    | (go_at_call 25; refine (H1.out _).mono ?_; rintro e w1 ⟨rfl, hb1⟩)
    | (go_at_call 34; refine (H2.out _).mono ?_; rintro e w2 ⟨rfl, hb2⟩))
  go_ret
  exact ⟨rfl, hb1.trans (hb2.mono hb1.size)⟩

end Go.Proofs.Ythoahengdajpcaa
