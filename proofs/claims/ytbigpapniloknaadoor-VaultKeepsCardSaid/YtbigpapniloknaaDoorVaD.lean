/- Contracts of vault's Format and Open. -/
import Derived.Test.YtbigpapniloknaaDoorVaC
namespace Go.Proofs.YtbigpapniloknaaDoor
open Go.RowKit Go.Maps
set_option maxRecDepth 100000

set_option maxHeartbeats 8000000 in
theorem vault_Format (base : Nat) (w : World) (p gl M : Nat) (v : Value) (D : DSt) (n : Nat) (t : List UInt8) (h : IsDisk base w p gl M v D) (hs : SmallN 10001 D) (hbs : base ≤ w.heap.size) (h1 : 1 ≤ n) (h2 : 2 * n + 1 ≤ D.lasts.length) (ht : t.length ≤ 400000) :
    Calls Tryd.prog 7 #[.pointer (some ⟨p, 0, none⟩), .int .i64 (n : Int), .string (bs t)] w fun e w' => e = .returned (.int .i64 (((formatD D n t).2 : Nat) : Int)) ∧ ∃ v', IsDisk base w' p gl M v' (formatD D n t).1 ∧ Below base w w' ∧ Keeps w w' := by
  have hl : D.lasts.length ≤ 4096 := h.2.2.2.2.1.2.1
  have H0 := Lib.hid h
  have HF := Lib.hid (vault_fits base w p gl M v D n h h1 h2)
  have HSL := Lib.hid (vault_slots n w)
  have HLK := Lib.hid (fun W (hW : IsDisk base W p gl M v D) => vault_look base W p gl M v D (2 * n) hW (by omega))
  have HLY := Lib.hid (fun W (hW : IsDisk base W p gl M v D) (hb : base ≤ W.heap.size) => vault_lay base W p gl M v D 0 n 1 t hW hs hb (by omega) (by omega) ht)
  have HN : Hid (n ≤ 4096) := Lib.hid (by omega)
  have HBS := Lib.hid hbs
  have HK0 : Hid (2 * n ≤ 8192) := Lib.hid (by omega)
  have HFD : Hid (formatD D n t = if (lookF D ((2 * n : Nat) : Int) D.lasts.length).1 = true then layD D 0 n 1 t else (D, 15)) := Lib.hid rfl
  obtain ⟨⟨bl, br, lg⟩, hx⟩ : ∃ x, x = lookF D ((2 * n : Nat) : Int) D.lasts.length := ⟨_, rfl⟩
  rw [← hx] at HLK HFD
  unfold sightV at HLK
  dsimp only at HLK HFD
  rw [HFD.out]
  clear h hs hbs h1 h2 hl hx HFD
  have hfd : ∀ W : World, (Instr.field 63 (.agg #[.bool bl, .bool br, .int .u64 (lg : Int)]) 0).run Tryd.prog W = .ok (.bool bl) W := fun _ => by kernel_rfl
  go_enter Tryd.func7, Tryd.ntmps7
  go_wp2_with fail
  refine HF.out.mono ?_
  rintro e w1 ⟨rfl, rfl⟩
  go_wp2_with fail
  refine HSL.out.mono ?_
  rintro e w1 ⟨rfl, hs1, hb1⟩
  have S1 := Lib.hid hs1
  have D1 := Lib.hid (H0.out.keep hb1)
  have B1 := Lib.hid hb1
  clear hs1 hb1 HF HSL H0
  go_wp2_with fail
  refine (vault_at n 2 w.heap.size w1 S1.out HN.out (by omega)).mono ?_
  rintro e w2 ⟨rfl, rfl⟩
  go_wp2_with fail
  refine (HLK.out _ D1.out).mono ?_
  rintro e w2 ⟨rfl, hb2⟩
  have S2 := Lib.hid (S1.out.keep hb2)
  have D2 := Lib.hid (D1.out.keep hb2)
  have B2 := Lib.hid (B1.out.trans (hb2.mono B1.out.size))
  clear hb2 HLK S1 D1 B1
  cases bl with
  | false =>
    go_wp2_with fail
    go_ret
    exact ⟨rfl, ⟨v, D2.out⟩, B2.out.mono HBS.out, Keeps.of_below B2.out⟩
  | true =>
    go_wp2_with fail
    refine (vault_at n 0 w.heap.size w2 S2.out HN.out (by omega)).mono ?_
    rintro e w3 ⟨rfl, rfl⟩
    rw [Nat.zero_mul]
    go_wp2_with fail
    refine (HLY.out _ D2.out (Nat.le_trans HBS.out B2.out.size)).mono ?_
    rintro e w4 ⟨rfl, v4, h4, hb4, hk4⟩
    have D4 := Lib.hid h4
    have B4 := Lib.hid ((B2.out.mono HBS.out).trans hb4)
    have K4 := Lib.hid ((Keeps.of_below B2.out).trans hk4)
    clear h4 hb4 hk4
    go_wp2_with fail
    go_ret
    exact ⟨rfl, ⟨v4, D4.out⟩, B4.out, K4.out⟩
end Go.Proofs.YtbigpapniloknaaDoor
