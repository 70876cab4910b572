/- The contracts of closed of a report, and of CloseReport. Written by wip/tools/gen_news.py. -/
import Derived.Test.YtackddgihdnmgaaNewsI
namespace Go.Proofs.Ytackddgihdnmgaa
open Go.RowKit
set_option maxRecDepth 100000

/-- A report's rows as bytes; its bytes. -/
def rwL (rs : List RowT) : List UInt8 := rs.flatMap fun r => beL r.1 4 ++ beL r.2 4
def rpL (ep : Nat) (rs : List RowT) : List UInt8 := (([72] ++ beL ep 4) ++ beL rs.length 2) ++ rwL rs
theorem stC_rows (rs : List RowT) : ∀ (s : List UInt8) (o : List RowT), rs.foldl (rowStep stC) (s, o) = (s ++ rwL rs, o ++ rs) := by
  induction rs with
  | nil => intro s o; simp [rwL]
  | cons r rs ih =>
    intro s o
    rw [List.foldl_cons]
    unfold rowStep stC
    dsimp only
    rw [show (List.foldl (fun (a : List UInt8 × List RowT) (r : RowT) => ((a.1 ++ beL r.1 4 ++ beL r.2 4, a.2 ++ [(r.1, r.2)]) : List UInt8 × List RowT)) (s ++ beL r.1 4 ++ beL r.2 4, o ++ [(r.1, r.2)]) rs) = List.foldl (rowStep stC) (s ++ beL r.1 4 ++ beL r.2 4, o ++ [(r.1, r.2)]) rs from rfl, ih]
    simp [rwL, List.flatMap_cons, List.append_assoc]
theorem rwL_len (rs : List RowT) : (rwL rs).length = 8 * rs.length := by
  induction rs with
  | nil => rfl
  | cons r rs ih =>
    have e : rwL (r :: rs) = (beL r.1 4 ++ beL r.2 4) ++ rwL rs := rfl
    rw [e, List.length_append, List.length_append, beL_len, beL_len, ih, List.length_cons]; omega
theorem rpL_len (ep : Nat) (rs : List RowT) : (rpL ep rs).length = 7 + 8 * rs.length := by
  unfold rpL
  rw [List.length_append, List.length_append, List.length_append, beL_len, beL_len, rwL_len]; rfl

set_option maxHeartbeats 4000000 in
theorem news_closedP (ep : Nat) (A : Option Addr) (n c : Nat) (rs : List RowT) (w : World) (hep : ep < 4294967296) (hR : Rws w A n rs) (hn : n ≤ 256) (hnc : n ≤ c) :
    Calls Try.prog 24 #[.int .u8 72, .func (.func 25) #[.agg #[.int .u32 (ep : Int), .slice A n c]] #[]] w fun e w' => e = .returned (.string (bs (rpL ep rs))) ∧ Below w.heap.size w w' := by
  obtain ⟨W1, hW1⟩ : ∃ W1, W1 = (w.alloc (.cells #[.int .u8 72] 5)).alloc (.cells #[.slice (some ⟨w.heap.size, 0, none⟩) 1 1] 77) := ⟨_, rfl⟩
  have hI : InvC w.heap.size (w.heap.size + 1) [72] W1 := by
    refine ⟨by omega, by rw [hW1]; simp; omega, .slice (some ⟨w.heap.size, 0, none⟩) 1 1, ?_, ?_⟩
    · have h := Blk.new1 (w.alloc (.cells #[.int .u8 72] 5)) 77 (.slice (some ⟨w.heap.size, 0, none⟩) 1 1)
      rw [World.size_alloc] at h
      rw [hW1]
      exact h
    · have h := Blk.alloc (show Blk _ _ _ [.int .u8 72] from heap_alloc_new w (.cells #[.int .u8 72] 5)) (.cells #[.slice (some ⟨w.heap.size, 0, none⟩) 1 1] 77)
      rw [← hW1] at h
      exact ⟨rfl, .inr ⟨w.heap.size, 1, #[.int .u8 72], rfl, Nat.le_refl _, h.get, Nat.le_refl _, by decide, rfl, rfl⟩⟩
  have hsz : w.heap.size ≤ W1.heap.size := by rw [hW1]; simp; omega
  have B0 : Hid (Below w.heap.size w W1) := Lib.hid (by rw [hW1]; exact ((Below.refl _ _).alloc (Nat.le_refl _) _).alloc (by simp) _)
  have HE := Lib.hid (eachP_closed w.heap.size (w.heap.size + 1) stC _ _ (closedP_num w.heap.size (w.heap.size + 1)) [72] ep A n c rs W1 (stC [72] ep 4) (stC (stC [72] ep 4).1 n 2) rs (rowsStep stC (stC (stC [72] ep 4).1 n 2).1 rs) hI
    (by show [72].length + 8 * (2 * n + 2) ≤ 1000000; simp; omega) hep (fun W hb => hR.keep (B0.out.trans hb)) (by omega) hnc rfl rfl (Nat.le_refl _) hsz (by show rs = rs ++ List.replicate (n - n) (0, 0); rw [Nat.sub_self]; simp) rfl)
  have HL : Hid ((rowsStep stC (stC (stC [72] ep 4).1 n 2).1 rs).1 = rpL ep rs) := Lib.hid (by
    unfold rowsStep
    rw [stC_rows, rpL, hR.1]
    rfl)
  rw [HL.out] at HE
  clear hI hsz hep hR
  go_enter Try.func24, Try.ntmps24
  go_wp2_with fail
  rw [← hW1]
  clear hW1
  refine HE.out.mono ?_
  rintro e w2 ⟨g, rfl, _, _, ⟨q1, q2, u, hU, hO⟩, b2, k2⟩
  have hc := hU.cell0
  have hO2 : w2.ownsRow w.heap.size 5 1 u (nb (rpL ep rs)).length (nums .u8 (nb (rpL ep rs))) := by rw [nb_len]; exact hO
  have hcv := conv_own hO2
  have B2 := Lib.hid (B0.out.trans b2)
  clear hU hO hO2 b2 k2 HE B0
  go_wp2_with fail
  go_ret
  exact ⟨rfl, B2.out⟩

/-- What CloseReport answers. -/
def clB (ep : Nat) (rs : List RowT) : List UInt8 := if MayP rs then rpL ep rs else []
def clE (rs : List RowT) : Nat := if MayP rs then 0 else 4

set_option maxHeartbeats 4000000 in
theorem news_CloseReport (ep : Nat) (A : Option Addr) (n c : Nat) (rs : List RowT) (w : World) (hep : ep < 4294967296) (hR : Rws w A n rs) (hnc : n ≤ c) (hcm : (c : Int) ≤ 9223372036854775807) :
    Calls Try.prog 11 #[.agg #[.int .u32 (ep : Int), .slice A n c]] w fun e w' => e = .returned (.tuple #[.string (bs (clB ep rs)), .int .i64 (clE rs : Int)]) ∧ Below w.heap.size w w' := by
  obtain ⟨W0, hW0⟩ : ∃ W0, W0 = w.alloc (.cells #[.int .u32 (ep : Int), .slice A n c] 38) := ⟨_, rfl⟩
  have Z0 : Hid (Blk W0 w.heap.size 38 [.int .u32 (ep : Int), .slice A n c]) := Lib.hid (by rw [hW0]; exact heap_alloc_new w _)
  have B0 : Hid (Below w.heap.size w W0) := Lib.hid (by rw [hW0]; exact (Below.refl _ _).alloc (Nat.le_refl _) _)
  have HRR : Hid (Rws W0 A n rs) := Lib.hid (hR.keep B0.out)
  have HCK := Lib.hid (news_check ep A n c rs W0 HRR.out hnc hcm)
  by_cases hm : MayP rs
  · have HCL := Lib.hid (fun W (hb : Below W0.heap.size W0 W) => news_closedP ep A n c rs W hep (HRR.out.keep hb) (by have := hm.2.1; rw [hR.1] at this; exact this) hnc)
    have HE : Hid (clB ep rs = rpL ep rs ∧ clE rs = 0) := Lib.hid (by unfold clB clE; rw [if_pos hm, if_pos hm]; exact ⟨rfl, rfl⟩)
    rw [if_pos hm] at HCK
    rw [HE.out.1, HE.out.2]
    clear hm hR hep
    go_enter Try.func11, Try.ntmps11
    go_wp2_with fail
    rw [← hW0]
    refine HCK.out.mono ?_
    rintro e w1 ⟨rfl, b1⟩
    have z0 := (Z0.out.keep b1).cell 0
    have z1 := (Z0.out.keep b1).cell 1
    dsimp only [List.getElem?_cons_zero, List.getElem?_cons_succ] at z0 z1
    go_wp2_with fail
    refine (HCL.out _ b1).mono ?_
    rintro e w2 ⟨rfl, b2⟩
    have B2 := Lib.hid (B0.out.trans ((b1.trans (b2.mono b1.size)).mono B0.out.size))
    clear b2 b1
    go_wp2_with fail
    go_ret2
    exact ⟨rfl, B2.out⟩
  · have HE : Hid (clB ep rs = [] ∧ clE rs = 4) := Lib.hid (by unfold clB clE; rw [if_neg hm, if_neg hm]; exact ⟨rfl, rfl⟩)
    rw [if_neg hm] at HCK
    rw [HE.out.1, HE.out.2]
    clear hm hR hep
    go_enter Try.func11, Try.ntmps11
    go_wp2_with fail
    rw [← hW0]
    refine HCK.out.mono ?_
    rintro e w1 ⟨rfl, b1⟩
    have B2 := Lib.hid (B0.out.trans (b1.mono B0.out.size))
    clear b1
    go_wp2_with fail
    go_ret2
    exact ⟨rfl, B2.out⟩

end Go.Proofs.Ytackddgihdnmgaa
