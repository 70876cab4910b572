/- Contracts of the tapes' statements' helpers: Same, Awake. -/
import Derived.Test.YtcfjgllkpfkhfaaTapeS
import Derived.Deep.RegionHeld3
namespace Go.Proofs.Ytcfjgllkpfkhfaa
open Go.RowKit

set_option maxHeartbeats 2000000 in
set_option maxRecDepth 100000 in
theorem law_Same (s : ByteArray) (a : Nat) (w : World) (hs : (s.size : Int) ≤ 1000000) (ha : a ≤ 8 * s.size) :
    Calls Try.prog 14 #[.agg #[.string s, .int .i64 (a : Int)], .agg #[.string s, .int .i64 (a : Int)]] w fun e w' => e = .returned (.bool true) ∧ Below w.heap.size w w' := by
  obtain ⟨b, hb⟩ : ∃ b, 8 * s.size = a + b := ⟨8 * s.size - a, by omega⟩
  have HL := Lib.hid (fun W => tape_Left s a b W hs hb)
  have HR := Lib.hid (fun W => rtape_Left s a b W hs hb)
  have HA := Lib.hid (fun W => tape_At s a W)
  clear hb
  have X0 := Lib.hid ((TBox.new 25 w s a).alloc (.cells #[.string s, .int .i64 (a : Int)] 28))
  have Y0 := TBox.new 28 (w.alloc (.cells #[.string s, .int .i64 (a : Int)] 25)) s a
  rw [show (w.alloc (.cells #[.string s, .int .i64 (a : Int)] 25)).heap.size = w.heap.size + 1 from by simp] at Y0
  have Y0 := Lib.hid Y0
  have B0 := Lib.hid (((Below.refl w.heap.size w).alloc (Nat.le_refl _) (.cells #[.string s, .int .i64 (a : Int)] 25)).alloc (hz1 _ _) (.cells #[.string s, .int .i64 (a : Int)] 28))
  go_enter Try.func14, Try.ntmps14
  go_wp2_with fail
  generalize (w.alloc (.cells #[.string s, .int .i64 (a : Int)] 25)).alloc (.cells #[.string s, .int .i64 (a : Int)] 28) = W at *
  have HC : Hid (∀ w', Below W.heap.size W w' → (w'.cell? ⟨w.heap.size, 0, none⟩ = some (.string s) ∧ w'.cell? ⟨w.heap.size, 1, none⟩ = some (.int .i64 (a : Int))) ∧ w'.cell? ⟨w.heap.size + 1, 0, none⟩ = some (.string s) ∧ w'.cell? ⟨w.heap.size + 1, 1, none⟩ = some (.int .i64 (a : Int))) :=
    Lib.hid (fun w' hb => ⟨(X0.out.keep hb).cells, (Y0.out.keep hb).cells⟩)
  have HK0 : Hid (Below W.heap.size W W.drew) := Lib.hid ((Below.refl _ _).drew)
  obtain ⟨⟨k1, k2⟩, k3, k4⟩ := HC.out _ (Below.refl _ _)
  go_region_held3 (fun w' => (w'.cell? ⟨w.heap.size, 0, none⟩ = some (.string s) ∧ w'.cell? ⟨w.heap.size, 1, none⟩ = some (.int .i64 (a : Int))) ∧ w'.cell? ⟨w.heap.size + 1, 0, none⟩ = some (.string s) ∧ w'.cell? ⟨w.heap.size + 1, 1, none⟩ = some (.int .i64 (a : Int)))
    (first | exact HC.out _ HK3.out | exact HC.out _ HK2.out | exact HC.out _ HK1.out | exact HC.out _ HK0.out | exact HC.out _ (Below.refl _ _) | (simp [*]; done))
    (first
      | (go_at_call 17
         refine (HA.out _).mono ?_
         rintro e v1 ⟨rfl, hb1⟩
         have HK1 := Lib.hid (keepB HK0.out hb1)
         clear hb1)
      | (go_at_call 18
         refine (HL.out _).mono ?_
         rintro e v2 ⟨rfl, hb2⟩
         have HK2 := Lib.hid (keepB HK1.out hb2)
         clear hb2)
      | (go_at_call 29
         refine (HR.out _).mono ?_
         rintro e v3 ⟨rfl, hb3⟩
         have HK3 := Lib.hid (keepB HK2.out hb3)
         clear hb3))
  go_wp2_with fail
  go_ret
  exact ⟨rfl, keepB B0.out HK3.out⟩

def sA5 : ByteArray := ⟨#[165]⟩
theorem awake1 (W : World) : Calls Try.prog 15 #[.agg #[.string ⟨#[165]⟩, .int .i64 0], .int .i64 4] W fun e w' =>
    e = .returned (.tuple #[.int .u64 10, .agg #[.string ⟨#[165]⟩, .int .i64 4], .int .i64 0]) ∧ Below W.heap.size W w' := by
  refine (tape_Read ⟨#[165]⟩ 0 4 W (by decide) (by decide) (by decide) (by decide)).mono ?_
  rintro e w' ⟨v, z, c, hr, he, hb⟩
  have h4 := hr.symm.trans (show rdT [165] 0 4 = (10, 4, 0) from by decide)
  injection h4 with e1 e2
  injection e2 with e2 e3
  subst e1 e2 e3
  exact ⟨he, hb⟩
theorem awake2 (W : World) : Calls Try.prog 15 #[.agg #[.string ⟨#[165]⟩, .int .i64 4], .int .i64 4] W fun e w' =>
    e = .returned (.tuple #[.int .u64 5, .agg #[.string ⟨#[165]⟩, .int .i64 8], .int .i64 0]) ∧ Below W.heap.size W w' := by
  refine (tape_Read ⟨#[165]⟩ 4 4 W (by decide) (by decide) (by decide) (by decide)).mono ?_
  rintro e w' ⟨v, z, c, hr, he, hb⟩
  have h4 := hr.symm.trans (show rdT [165] 4 4 = (5, 8, 0) from by decide)
  injection h4 with e1 e2
  injection e2 with e2 e3
  subst e1 e2 e3
  exact ⟨he, hb⟩

set_option maxHeartbeats 2000000 in
set_option maxRecDepth 100000 in
theorem law7_Awake (w : World) : Calls Try.prog 10 #[] w fun e w' => e = .returned (.bool true) ∧ Below w.heap.size w w' := by
  have HL := Lib.hid (fun W => tape_Left ⟨#[165]⟩ 8 0 W (by decide) (by decide))
  have HA := Lib.hid (fun W => tape_At ⟨#[165]⟩ 8 W)
  go_enter Try.func10, Try.ntmps10
  go_wp2_with fail
  refine (tape_New ⟨#[165]⟩ _).mono ?_
  rintro e w1 ⟨rfl, hb1⟩
  have B1 := Lib.hid hb1
  clear hb1
  go_wp2_with fail
  refine (awake1 _).mono ?_
  rintro e w2 ⟨rfl, hb2⟩
  have B2 := Lib.hid (keepB B1.out hb2)
  clear hb2 B1
  go_wp2_with fail
  refine (awake2 _).mono ?_
  rintro e w3 ⟨rfl, hb3⟩
  have B3 := Lib.hid (keepB (B2.out.alloc B2.out.size _) hb3)
  clear hb3 B2
  go_wp2_with fail
  refine (HL.out _).mono ?_
  rintro e w4 ⟨rfl, hb4⟩
  have X4 := Lib.hid (TBox.keep (TBox.new 25 w3 ⟨#[165]⟩ 8) hb4)
  have B4 := Lib.hid (keepB (B3.out.alloc B3.out.size _) hb4)
  obtain ⟨c0, c1⟩ := X4.out.cells
  clear hb4 B3
  go_wp2_with fail
  refine (HA.out _).mono ?_
  rintro e w5 ⟨rfl, hb5⟩
  have B5 := Lib.hid (keepB B4.out hb5)
  clear hb5 B4
  go_wp2_with fail
  go_ret
  exact ⟨rfl, B5.out⟩
end Go.Proofs.Ytcfjgllkpfkhfaa
