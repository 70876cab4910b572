/- Contracts of vault's fits, slots, lay, rotten. -/
import Derived.Test.YtbigpapniloknaaDoorJVam
namespace Go.Proofs.YtbigpapniloknaaDoor
open Go.RowKit Go.Maps
set_option maxRecDepth 100000
attribute [local go_sem] Oper.semAt_some

set_option maxHeartbeats 2000000 in
theorem vault_fits (base : Nat) (w : World) (p gl M : Nat) (v : Value) (D : DSt) (n : Nat) (h : IsDisk base w p gl M v D) (h1 : 1 ≤ n) (h2 : 2 * n + 1 ≤ D.lasts.length) :
    Calls Tryd.prog 19 #[.pointer (some ⟨p, 0, none⟩), .int .i64 (n : Int)] w fun e w' => e = .returned (.bool true) ∧ w = w' := by
  have HS := Lib.hid (disk_Size base w p gl M v D h)
  have hl : D.lasts.length ≤ 4096 := h.2.2.2.2.1.2.1
  obtain ⟨L, hL⟩ : ∃ L, L = D.lasts.length := ⟨_, rfl⟩
  rw [← hL] at HS hl h2
  clear hL h
  obtain ⟨q, hq⟩ : ∃ q, q = (L - 1) / 2 := ⟨_, rfl⟩
  have d1 : decide ((1 : Int) ≤ (n : Int)) = true := decide_eq_true (by omega)
  have d1' : decide (1 ≤ n) = true := decide_eq_true h1
  have e1 : IntKind.i64.wrap ((L : Int) - 1) = (L : Int) - 1 := IntWalk.i64_in _ (by omega)
  have e2 : ((L : Int) - 1).tdiv 2 = (q : Int) := by rw [Int.tdiv_eq_ediv_of_nonneg (by omega)]; omega
  have e2' : ((L : Int) - 1) / 2 = (q : Int) := by omega
  have e3 : IntKind.i64.wrap (q : Int) = (q : Int) := IntWalk.i64_in _ (by omega)
  have d2 : decide ((n : Int) ≤ (q : Int)) = true := decide_eq_true (by omega)
  have d2' : decide (n ≤ q) = true := decide_eq_true (by omega)
  clear hq h1 h2 hl
  go_enter Tryd.func19, Tryd.ntmps19
  go_wp2_with fail
  refine HS.out.mono ?_
  rintro e w1 ⟨rfl, rfl⟩
  go_wp2_with fail
  go_ret
  exact ⟨rfl, rfl⟩

theorem vault_at (n k : Nat) (b : Nat) (w : World) (hb : Blk w b 3 [.int .i64 (n : Int)]) (hn : n ≤ 4096) (hk : k ≤ 2) :
    Calls Tryd.prog 41 #[.int .i64 (k : Int), .pointer (some ⟨b, 0, none⟩)] w fun e w' => e = .returned (.int .i64 ((k * n : Nat) : Int)) ∧ w = w' := by
  have h0 := hb.cell0
  obtain ⟨q, hq⟩ : ∃ q, q = k * n := ⟨_, rfl⟩
  have hql : q ≤ 2 * 4096 := by rw [hq]; exact Nat.mul_le_mul hk hn
  have e1 : (k : Int) * (n : Int) = (q : Int) := by rw [hq]; exact (Int.natCast_mul k n).symm
  have e2 : IntKind.i64.wrap (q : Int) = (q : Int) := IntWalk.i64_in _ (by omega)
  rw [← hq]
  clear hq
  go_enter Tryd.func41, Tryd.ntmps41
  go_wp2_with fail
  go_ret
  exact ⟨rfl, rfl⟩

theorem vault_slots (n : Nat) (w : World) :
    Calls Tryd.prog 20 #[.int .i64 (n : Int)] w fun e w' => e = .returned (.func (.func 41) #[] #[.pointer (some ⟨w.heap.size, 0, none⟩)]) ∧ Blk w' w.heap.size 3 [.int .i64 (n : Int)] ∧ Below w.heap.size w w' := by
  go_enter Tryd.func20, Tryd.ntmps20
  go_wp2_with fail
  go_ret
  exact ⟨rfl, heap_alloc_new w _, (Below.refl _ _).alloc (Nat.le_refl _) _⟩

set_option maxHeartbeats 2000000 in
theorem vault_lay (base : Nat) (w : World) (p gl M : Nat) (v : Value) (D : DSt) (fr n g : Nat) (t : List UInt8) (h : IsDisk base w p gl M v D) (hs : SmallN 10001 D) (hbs : base ≤ w.heap.size) (hf : fr ≤ 100000) (hg : g < 18446744073709551616) (ht : t.length ≤ 400000) :
    Calls Tryd.prog 22 #[.pointer (some ⟨p, 0, none⟩), .int .i64 (fr : Int), .int .i64 (n : Int), .int .u64 (g : Int), .string (bs t)] w fun e w' => e = .returned (.int .i64 (((layD D fr n g t).2 : Nat) : Int)) ∧ ∃ v', IsDisk base w' p gl M v' (layD D fr n g t).1 ∧ Below base w w' ∧ Keeps w w' := by
  have HW := Lib.hid (slot_Write base w p gl M v D (fr : Int) (n : Int) g t h (hs.mono (by omega)) hbs (by omega) hg ht)
  obtain ⟨E, hE⟩ : ∃ E, E = (slotW D (fr : Int) (n : Int) g t).1 := ⟨_, rfl⟩
  obtain ⟨c, hc⟩ : ∃ c, c = (slotW D (fr : Int) (n : Int) g t).2 := ⟨_, rfl⟩
  have HSM : Hid (SmallN 5001 E) := Lib.hid (by rw [hE]; exact slotW_small (hs.mono (by omega)) (by omega))
  have HL : Hid (layD D fr n g t = if c = 0 then syD E else (E, c)) := Lib.hid (by
    unfold layD
    rw [← hc, ← hE]
    split
    · rfl
    · rw [hE, hc])
  rw [HL.out]
  rw [← hE, ← hc] at HW
  have HBS := Lib.hid hbs
  clear h hs hbs hE hc HL
  by_cases h0 : c = 0
  · subst h0
    rw [if_pos rfl]
    go_enter Tryd.func22, Tryd.ntmps22
    go_wp2_with fail
    refine HW.out.mono ?_
    rintro e w1 ⟨rfl, v1, h1, hb1, hk1⟩
    have HS := Lib.hid (disk_Sync base w1 p gl M v1 E h1 HSM.out.small (Nat.le_trans HBS.out hb1.size))
    have B1 := Lib.hid hb1
    have K1 := Lib.hid hk1
    clear h1 hb1 hk1
    go_wp2_with fail
    refine HS.out.mono ?_
    rintro e w2 ⟨rfl, v2, h2, hb2, hk2⟩
    have B2 := Lib.hid (B1.out.trans hb2)
    have K2 := Lib.hid (K1.out.trans hk2)
    have D2 := Lib.hid h2
    clear h2 hb2 hk2
    go_wp2_with fail
    go_ret
    exact ⟨rfl, v2, D2.out, B2.out, K2.out⟩
  · have e1 : ((c : Int) != 0) = true := by rw [bne_iff_ne]; omega
    rw [if_neg h0]
    go_enter Tryd.func22, Tryd.ntmps22
    go_wp2_with fail
    refine HW.out.mono ?_
    rintro e w1 ⟨rfl, v1, h1, hb1, hk1⟩
    have B1 := Lib.hid hb1
    have K1 := Lib.hid hk1
    have D1 := Lib.hid h1
    clear h1 hb1 hk1
    go_wp2_with fail
    go_ret
    exact ⟨rfl, v1, D1.out, B1.out, K1.out⟩

set_option maxHeartbeats 2000000 in
theorem vault_rotten (bl br : Bool) (lg sl gen : Nat) (t : List UInt8) (wh : Bool) (w : World) :
    Calls Tryd.prog 24 #[.agg #[.bool bl, .bool br, .int .u64 (lg : Int)], .agg #[.int .i64 (sl : Int), .int .u64 (gen : Int), .string (bs t), .bool wh]] w fun e w' => e = .returned (.bool (br || (!wh || decide (gen < lg)))) ∧ Below w.heap.size w w' := by
  have B0 := Lib.hid (((Below.refl w.heap.size w).alloc (Nat.le_refl _) (.cells #[.bool bl, .bool br, .int .u64 (lg : Int)] 63)).alloc (grow1 _ _) (.cells #[.int .i64 (sl : Int), .int .u64 (gen : Int), .string (bs t), .bool wh] 67))
  cases br with
  | true =>
    go_enter Tryd.func24, Tryd.ntmps24
    go_wp2_with fail
    go_ret
    exact ⟨rfl, B0.out⟩
  | false =>
    cases wh with
    | false =>
      go_enter Tryd.func24, Tryd.ntmps24
      go_wp2_with fail
      go_ret
      exact ⟨rfl, B0.out⟩
    | true =>
      by_cases hg : gen < lg
      · have d1 : decide ((gen : Int) < (lg : Int)) = true := decide_eq_true (by omega)
        have d1' : decide (gen < lg) = true := decide_eq_true hg
        rw [d1']
        clear hg
        go_enter Tryd.func24, Tryd.ntmps24
        go_wp2_with fail
        go_ret
        exact ⟨rfl, B0.out⟩
      · have d1 : decide ((gen : Int) < (lg : Int)) = false := decide_eq_false (by omega)
        have d1' : decide (gen < lg) = false := decide_eq_false hg
        rw [d1']
        clear hg
        go_enter Tryd.func24, Tryd.ntmps24
        go_wp2_with fail
        go_ret
        exact ⟨rfl, B0.out⟩
end Go.Proofs.YtbigpapniloknaaDoor
