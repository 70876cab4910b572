/- The document's example of layer 16. -/
import Derived.Test.YtbigpapniloknaaDoorVaX
import Derived.Test.YtbigpapniloknaaDoorVaG
import Derived.Test.YtbigpapniloknaaDoorVaD
import Derived.Test.YtbigpapniloknaaDoorVaE
import Derived.Test.YtbigpapniloknaaDoorVaI
import Derived.Test.YtbigpapniloknaaDoorJSlm
namespace Go.Proofs.YtbigpapniloknaaDoor
open Go.RowKit Go.Maps
set_option maxRecDepth 100000

set_option maxHeartbeats 16000000 in
theorem vault_Awake (w : World) : Calls Tryd.prog 5 #[] w fun e w' => e = .returned (.bool true) ∧ Below w.heap.size w w' := by
  have HN := Lib.hid (disk_New 4 w (by omega) (by omega))
  have HA1 := Lib.hid log_Awake
  have HA2 := Lib.hid slot_Awake
  go_enter Tryd.func5, Tryd.ntmps5
  go_wp2_with fail
  refine HN.out.mono ?_
  rintro e w1 ⟨p, gl, M, v, rfl, h1, hb1⟩
  have B1 := Lib.hid hb1
  have HF : Hid (Calls Tryd.prog 7 #[.pointer (some ⟨p, 0, none⟩), .int .i64 1, .string ⟨#[97]⟩] w1 fun e w' => e = .returned (.int .i64 0) ∧ ∃ v', IsDisk w.heap.size w' p gl M v' exA ∧ Below w.heap.size w1 w' ∧ Keeps w1 w') := Lib.hid (by
    have h := vault_Format _ w1 p gl M v (newD 4) 1 [97] h1 ((smallN_new 4).mono (by omega)) hb1.size (by decide) (by simp [newD]) (by decide)
    rw [exA_ex.2] at h
    exact h)
  clear h1 hb1 HN
  go_wp2_with fail
  refine HF.out.mono ?_
  rintro e w2 ⟨rfl, v2, h2, b2, _⟩
  have B2 := Lib.hid (B1.out.trans b2)
  have D2 := Lib.hid h2
  have HO : Hid (∀ W, IsDisk w.heap.size W p gl M v2 exA → Calls Tryd.prog 8 #[.pointer (some ⟨p, 0, none⟩), .int .i64 1] W fun e w' => ∃ u, e = .returned (.tuple #[.agg #[.int .i64 1, .int .i64 0, .int .i64 2, .int .i64 2, .int .u64 1, .int .i64 0, .bool true], .string ⟨#[97]⟩, u, .int .i64 0]) ∧ Below W.heap.size W w') := Lib.hid (fun W hW => by
    have h := vault_Open_yes _ W p gl M v2 exA 1 hW (by decide) (by rw [exA_ex.1.len]; decide) exA_open (by rw [exA_new]; decide)
    rw [exA_new, exA_ex.1.len] at h
    dsimp only at h
    rw [show logL exA (2 * 1) 1 (4 - 2 * 1) 0 = [] from exA_log] at h
    refine h.mono ?_
    rintro e w' ⟨u, q1, _, q3⟩
    exact ⟨u, q1, q3⟩)
  clear h2 b2 HF B1
  go_wp2_with fail
  refine (HO.out _ D2.out).mono ?_
  rintro e w3 ⟨u3, rfl, b3⟩
  have D3 := Lib.hid (D2.out.keep b3)
  have B3 := Lib.hid (B2.out.trans (b3.mono B2.out.size))
  clear b3 HO D2 B2
  obtain ⟨W3, hW3⟩ : ∃ W3, W3 = w3.alloc (.cells #[.int .i64 1, .int .i64 0, .int .i64 2, .int .i64 2, .int .u64 1, .int .i64 0, .bool true] 33) := ⟨_, rfl⟩
  have bel3 : Below w3.heap.size w3 W3 := by rw [hW3]; exact (Below.refl _ _).alloc (Nat.le_refl _) _
  have V3 : Hid (Blk W3 w3.heap.size 33 [.int .i64 1, .int .i64 0, .int .i64 2, .int .i64 2, .int .u64 1, .int .i64 0, .bool true]) := Lib.hid (by rw [hW3]; exact Blk.box7 _ _ _ _ _ _ _ _ _)
  have D4 := Lib.hid (D3.out.keep bel3)
  have B4 := Lib.hid (B3.out.trans (bel3.mono B3.out.size))
  have S4 := Lib.hid B3.out.size
  clear bel3 D3 B3
  have HAS : Hid (∀ W, Calls Tryd.prog 9 #[.agg #[.int .i64 1, .int .i64 0, .int .i64 2, .int .i64 2, .int .u64 1, .int .i64 0, .bool true], .pointer (some ⟨p, 0, none⟩), .string ⟨#[98]⟩] W fun e w' => e = .returned (.tuple #[.agg #[.int .i64 1, .int .i64 0, .int .i64 2, .int .i64 2, .int .u64 1, .int .i64 0, .bool true], .int .i64 15]) ∧ Below W.heap.size W w') := Lib.hid (fun W => vault_Append_stuck 1 0 2 2 1 0 _ _ W)
  go_upto_region 5 with fail
  rw [← hW3]
  clear hW3
  obtain ⟨a0, a1, a2, a3, a4, a5, a6⟩ := V3.out.sevenV
  go_wp2_with fail
  refine (HAS.out _).mono ?_
  rintro e w5 ⟨rfl, b5⟩
  have V5 := Lib.hid (V3.out.keep b5)
  have D5 := Lib.hid (D4.out.keep b5)
  have B5 := Lib.hid (B4.out.trans (b5.mono B4.out.size))
  clear b5 HAS V3 D4 B4 a0 a1 a2 a3 a4 a5 a6
  obtain ⟨W5, hW5⟩ : ∃ W5, W5 = w5.alloc (.cells #[.int .i64 1, .int .i64 0, .int .i64 2, .int .i64 2, .int .u64 1, .int .i64 0, .bool true] 33) := ⟨_, rfl⟩
  have bel5 : Below w5.heap.size w5 W5 := by rw [hW5]; exact (Below.refl _ _).alloc (Nat.le_refl _) _
  have V6 := Lib.hid (V5.out.keep bel5)
  have D6 := Lib.hid (D5.out.keep bel5)
  have B6 := Lib.hid (B5.out.trans (bel5.mono B5.out.size))
  clear bel5 V5 D5 B5
  have HST : Hid (Calls Tryd.prog 10 #[.agg #[.int .i64 1, .int .i64 0, .int .i64 2, .int .i64 2, .int .u64 1, .int .i64 0, .bool true], .pointer (some ⟨p, 0, none⟩), .string ⟨#[97]⟩] W5 fun e w' => e = .returned (.tuple #[.agg #[.int .i64 1, .int .i64 1, .int .i64 2, .int .i64 2, .int .u64 2, .int .i64 0, .bool false], .int .i64 0]) ∧ ∃ v', IsDisk w.heap.size w' p gl M v' exB ∧ Below w.heap.size W5 w' ∧ Keeps W5 w') := Lib.hid (by
    have hA := exA_ex.1
    have h := vault_Settle _ W5 p gl M v2 exA 1 0 1 2 2 0 true [97] D6.out (by unfold exA; rw [format_new]; exact SmallN.lay ((smallN_new 4).mono (by decide)) (by decide)) B6.out.size (by decide) (by decide) (by decide) (by decide) (by decide) (by decide) (by rw [exA_gen]; decide)
    rw [exA_gen] at h
    refine h.mono ?_
    rintro e w' ⟨D', c, st', rfl, hr, hd, hb, hk⟩
    rcases hr with ⟨q, _⟩ | ⟨E, hE, q1, q2, q3⟩
    · exact absurd q (by decide)
    · rcases hE with rfl | ⟨q, _⟩
      · rw [exA_gen] at q1 q2
        have e1 : D' = exB := q1
        have e2 : c = 0 := q2.trans exB_ex.2
        subst e1 e2
        obtain ⟨v', hd⟩ := hd
        exact ⟨rfl, v', hd, hb, hk⟩
      · exact absurd q (by decide))
  go_upto_region 6 with fail
  rw [← hW5]
  clear hW5
  obtain ⟨a0, a1, a2, a3, a4, a5, a6⟩ := V6.out.sevenV
  go_wp2_with fail
  refine HST.out.mono ?_
  rintro e w7 ⟨rfl, v7, h7, b7, k7⟩
  have V7 := Lib.hid (k7 _ _ _ (by decide) (by decide) (by decide) V6.out)
  have D7 := Lib.hid h7
  have B7 := Lib.hid (B6.out.trans b7)
  clear h7 b7 k7 HST V6 D6 B6 a0 a1 a2 a3 a4 a5 a6
  obtain ⟨a0, a1, a2, a3, a4, a5, a6⟩ := V7.out.sevenV
  obtain ⟨f0, f1, f2, f3, f4, f5, f6⟩ := V7.out.frozen7
  obtain ⟨W7, hW7⟩ : ∃ W7, W7 = (((((((w7.setCell ⟨w3.heap.size, 0, none⟩ (.int .i64 1)).setCell ⟨w3.heap.size, 1, none⟩ (.int .i64 1)).setCell ⟨w3.heap.size, 2, none⟩ (.int .i64 2)).setCell ⟨w3.heap.size, 3, none⟩ (.int .i64 2)).setCell ⟨w3.heap.size, 4, none⟩ (.int .u64 2)).setCell ⟨w3.heap.size, 5, none⟩ (.int .i64 0)).setCell ⟨w3.heap.size, 6, none⟩ (.bool false)) := ⟨_, rfl⟩
  have V8 : Hid (Blk W7 w3.heap.size 33 [.int .i64 1, .int .i64 1, .int .i64 2, .int .i64 2, .int .u64 2, .int .i64 0, .bool false]) := Lib.hid (by rw [hW7]; exact V7.out.put7 _ _ _ _ _ _ _)
  have D8 : Hid (IsDisk w.heap.size W7 p gl M v7 exB) := Lib.hid (by rw [hW7]; exact D7.out.put7 V7.out (by decide) (by decide) (by decide) _ _ _ _ _ _ _)
  have B8 : Hid (Below w.heap.size w W7) := Lib.hid (by rw [hW7]; exact below_put7 B7.out S4.out _ _ _ _ _ _ _)
  have HAP : Hid (Calls Tryd.prog 9 #[.agg #[.int .i64 1, .int .i64 1, .int .i64 2, .int .i64 2, .int .u64 2, .int .i64 0, .bool false], .pointer (some ⟨p, 0, none⟩), .string ⟨#[98]⟩] W7 fun e w' => e = .returned (.tuple #[.agg #[.int .i64 1, .int .i64 1, .int .i64 2, .int .i64 2, .int .u64 2, .int .i64 1, .bool false], .int .i64 0]) ∧ ∃ v', IsDisk w.heap.size w' p gl M v' exC ∧ Below w.heap.size W7 w' ∧ Keeps W7 w') := Lib.hid (by
    have hs : SmallN 1 exB := by unfold exB; refine SmallN.lay ?_ (by decide); unfold exA; rw [format_new]; exact SmallN.lay ((smallN_new 4).mono (by decide)) (by decide)
    have h := vault_Append _ W7 p gl M v7 exB 1 1 2 2 2 0 [98] D8.out ⟨hs.1, by have := hs.2.1; omega, by have := hs.2.2; omega⟩ B8.out.size (by decide) (by rw [exB_ex.1.len]; decide) (by decide) (by decide) (by decide)
    rw [exC_app] at h
    exact h)
  go_upto_region 7 with fail
  rw [← hW7]
  clear hW7 V7 D7 B7 a0 a1 a2 a3 a4 a5 a6 f0 f1 f2 f3 f4 f5 f6
  obtain ⟨a0, a1, a2, a3, a4, a5, a6⟩ := V8.out.sevenV
  go_wp2_with fail
  refine HAP.out.mono ?_
  rintro e w9 ⟨rfl, v9, h9, b9, k9⟩
  have D9 := Lib.hid h9
  have B9 := Lib.hid (B8.out.trans b9)
  clear h9 b9 k9 HAP V8 D8 B8 a0 a1 a2 a3 a4 a5 a6
  obtain ⟨W9, hW9⟩ : ∃ W9, W9 = w9.alloc (.cells #[.int .i64 1, .int .i64 1, .int .i64 2, .int .i64 2, .int .u64 2, .int .i64 1, .bool false] 33) := ⟨_, rfl⟩
  have bel9 : Below w9.heap.size w9 W9 := by rw [hW9]; exact (Below.refl _ _).alloc (Nat.le_refl _) _
  have D10 := Lib.hid (D9.out.keep bel9)
  have B10 := Lib.hid (B9.out.trans (bel9.mono B9.out.size))
  clear bel9 D9 B9
  have HCR : Hid (Calls Tryd.prog 11 #[.pointer (some ⟨p, 0, none⟩), .slice none 0 0] W9 fun e w' => e = .returned (.tuple #[]) ∧ ∃ v', IsDisk w.heap.size w' p gl M v' exC ∧ Below w.heap.size W9 w' ∧ Keeps W9 w') := Lib.hid (by
    have h := disk_Crash _ W9 p gl M v9 exC none 0 0 [] D10.out (fun w' _ _ => ⟨rfl, fun hn => absurd hn (Nat.lt_irrefl _)⟩) (by decide) (by show (0 : Nat) ≤ _; decide) B10.out.size
    rw [crashed_dry rfl] at h
    exact h)
  go_upto_region 8 with fail
  rw [← hW9]
  clear hW9
  go_wp2_with fail
  refine HCR.out.mono ?_
  rintro e w11 ⟨rfl, v11, h11, b11, _⟩
  have D11 := Lib.hid h11
  have B11 := Lib.hid (B10.out.trans b11)
  clear h11 b11 HCR D10 B10
  have HO : Hid (Calls Tryd.prog 8 #[.pointer (some ⟨p, 0, none⟩), .int .i64 1] w11 fun e w' => ∃ u, e = .returned (.tuple #[.agg #[.int .i64 1, .int .i64 1, .int .i64 2, .int .i64 2, .int .u64 2, .int .i64 1, .bool true], .string ⟨#[97]⟩, u, .int .i64 0]) ∧ w'.ownsRow w11.heap.size 9 1 u 1 (strsV [[98]]) ∧ Below w11.heap.size w11 w') := Lib.hid (by
    have h := vault_Open_yes _ w11 p gl M v11 exC 1 D11.out (by decide) (by rw [exC_ex.len]; decide) exC_open (by rw [exC_new]; decide)
    rw [exC_new, exC_ex.len] at h
    dsimp only at h
    rw [show logL exC (2 * 1) 2 (4 - 2 * 1) 0 = [[98]] from exC_log] at h
    exact h)
  go_wp2_with fail
  refine HO.out.mono ?_
  rintro e w12 ⟨u12, rfl, o12, b12⟩
  have B12 := Lib.hid (B11.out.trans (b12.mono B11.out.size))
  obtain ⟨g, cap, rfl, hcap, _, hgl, hcs⟩ := own_strs o12 (by omega)
  have s0 : w12.cell? ⟨g, 0, none⟩ = some (.string ⟨#[98]⟩) := hcs 0 (by omega)
  have GL := Lib.hid (show g < w12.heap.size from hgl)
  have SS := Lib.hid s0
  clear o12 b12 HO D11 B11 hcs s0 hgl
  obtain ⟨W12, hW12⟩ : ∃ W12, W12 = w12.alloc (.cells #[.int .i64 1, .int .i64 1, .int .i64 2, .int .i64 2, .int .u64 2, .int .i64 1, .bool true] 33) := ⟨_, rfl⟩
  have B13 : Hid (Below w.heap.size w W12) := Lib.hid (by rw [hW12]; exact B12.out.alloc B12.out.size _)
  have C13 : Hid (W12.cell? ⟨g, 0, none⟩ = some (.string ⟨#[98]⟩) ∧ g < W12.heap.size) := Lib.hid (by
    rw [hW12]
    exact ⟨(World.cell?_alloc_past _ g 0 GL.out).trans SS.out, by have := GL.out; simp; omega⟩)
  go_upto_region 10 with fail
  rw [← hW12]
  clear hW12 B12 SS GL
  go_wp2_with fail
  refine (HA1.out _).mono ?_
  rintro e w14 ⟨rfl, b14⟩
  have B14 := Lib.hid (B13.out.trans (b14.mono B13.out.size))
  have C14 : Hid (w14.cell? ⟨g, 0, none⟩ = some (.string ⟨#[98]⟩) ∧ g < w14.heap.size) := Lib.hid ⟨(b14.cell (p := ⟨g, 0, none⟩) C13.out.2).trans C13.out.1, Nat.lt_of_lt_of_le C13.out.2 b14.size⟩
  clear b14 B13 C13
  go_wp2_with fail
  refine (HA2.out _).mono ?_
  rintro e w15 ⟨rfl, b15⟩
  have B15 := Lib.hid (B14.out.trans (b15.mono B14.out.size))
  have s0 : w15.cell? ⟨g, 0, none⟩ = some (.string ⟨#[98]⟩) := (b15.cell (p := ⟨g, 0, none⟩) C14.out.2).trans C14.out.1
  clear b15 B14 C14
  go_wp2_with fail
  go_ret
  exact ⟨rfl, B15.out⟩
end Go.Proofs.YtbigpapniloknaaDoor
