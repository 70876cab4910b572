/- Contracts of the law's Do. Written by wip/tools/gen_do.py. -/
import Derived.Test.YtciophpplpmmfaaRdI
namespace Go.Proofs.Ytciophpplpmmfaa
open Go.RowKit

set_option maxHeartbeats 4000000 in
set_option maxRecDepth 100000 in
theorem law_Do_other (base : Nat) (w : World) (p gl M : Nat) (v : Value) (A : Option Addr) (n c : Nat) (A' : Option Addr) (n' c' : Nat) (D : DSt) (I At : Int) (y : Nat) (sh : Bool) (K : Option Addr) (kn kc : Nat) (ks : List Bool) (h : IsDisk base w p gl M v D) (hr : RDk w A n c A' n' c' D) (hs : Small D) (hok : DOk D) (hbs : base ≤ w.heap.size) (hy : y < 256) (hK : ∀ w', Below base w w' → Keeps w w' → KSl w' K kn ks) (hkn : kn ≤ 1000) (k : Nat) (hk5 : 4 < k) (hk : k < 256) :
    Calls Try.prog 10 #[.pointer (some ⟨p, 0, none⟩), rdV A n c A' n' c' D, .agg #[.int .u8 (k : Int), .int .i64 I, .int .i64 At, .int .u8 (y : Int), .bool sh, .slice K kn kc]] w fun e w' => ∃ B m d B' m' d' v', e = .returned (.tuple #[rdV B m d B' m' d' D, .bool true]) ∧ IsDisk base w' p gl M v' D ∧ RDk w' B m d B' m' d' D ∧ Below base w w' ∧ Keeps w w' := by
  unfold rdV
  obtain ⟨W0, hW0⟩ : ∃ W0, W0 = ((w.alloc (.cells #[.slice A n c, .slice A' n' c', .int .i64 D.armed, .int .i64 (D.ops : Int)] 31)).alloc (.cells #[.int .u8 (k : Int), .int .i64 I, .int .i64 At, .int .u8 (y : Int), .bool sh, .slice K kn kc] 35)).alloc (.cells #[.slice none 0 0, .slice none 0 0, .int .i64 0, .int .i64 0] 31) := ⟨_, rfl⟩
  have hs1 : (w.alloc (.cells #[.slice A n c, .slice A' n' c', .int .i64 D.armed, .int .i64 (D.ops : Int)] 31)).heap.size = w.heap.size + 1 := by simp
  have hs2 : ((w.alloc (.cells #[.slice A n c, .slice A' n' c', .int .i64 D.armed, .int .i64 (D.ops : Int)] 31)).alloc (.cells #[.int .u8 (k : Int), .int .i64 I, .int .i64 At, .int .u8 (y : Int), .bool sh, .slice K kn kc] 35)).heap.size = w.heap.size + 2 := by simp
  have b0 : Below w.heap.size w W0 := by rw [hW0]; exact (((Below.refl w.heap.size w).alloc (Nat.le_refl _) _).alloc (by rw [hs1]; omega) _).alloc (by rw [hs2]; omega) _
  have R0 : Hid (Blk W0 w.heap.size 31 [.slice A n c, .slice A' n' c', .int .i64 D.armed, .int .i64 (D.ops : Int)]) := Lib.hid (by rw [hW0]; exact (Blk.alloc (w := w.alloc _) (heap_alloc_new w _) _).alloc _)
  have A0 : Hid (Blk W0 (w.heap.size + 1) 35 [.int .u8 (k : Int), .int .i64 I, .int .i64 At, .int .u8 (y : Int), .bool sh, .slice K kn kc]) := Lib.hid (by
    rw [hW0]
    have h1 := heap_alloc_new (w.alloc (.cells #[.slice A n c, .slice A' n' c', .int .i64 D.armed, .int .i64 (D.ops : Int)] 31)) (.cells #[.int .u8 (k : Int), .int .i64 I, .int .i64 At, .int .u8 (y : Int), .bool sh, .slice K kn kc] 35)
    rw [hs1] at h1
    exact Blk.alloc (w := (w.alloc _).alloc _) h1 _)
  have Z0 : Hid (Blk W0 (w.heap.size + 2) 31 [.slice none 0 0, .slice none 0 0, .int .i64 0, .int .i64 0]) := Lib.hid (by
    rw [hW0]
    have h1 := heap_alloc_new ((w.alloc (.cells #[.slice A n c, .slice A' n' c', .int .i64 D.armed, .int .i64 (D.ops : Int)] 31)).alloc (.cells #[.int .u8 (k : Int), .int .i64 I, .int .i64 At, .int .u8 (y : Int), .bool sh, .slice K kn kc] 35)) (.cells #[.slice none 0 0, .slice none 0 0, .int .i64 0, .int .i64 0] 31)
    rw [hs2] at h1
    exact h1)
  have D0 := Lib.hid (h.keep b0)
  have Q0 := Lib.hid (hr.keep b0)
  have B0 := Lib.hid (b0.mono hbs)
  have K0 := Lib.hid (Keeps.of_below b0)
  have C0 : Hid (base ≤ W0.heap.size) := Lib.hid (Nat.le_trans hbs b0.size)
  have HW0 := Lib.hid hW0
  have HBS := Lib.hid hbs
  have HKK := Lib.hid hK
  clear h hr hs1 hs2 b0 hW0 hbs hK
  have e0 : ((k : Int) == 0) = false := by rw [beq_eq_false_iff_ne]; omega
  have e1 : ((k : Int) == 1) = false := by rw [beq_eq_false_iff_ne]; omega
  have e2 : ((k : Int) == 2) = false := by rw [beq_eq_false_iff_ne]; omega
  have e3 : ((k : Int) == 3) = false := by rw [beq_eq_false_iff_ne]; omega
  have e4 : ((k : Int) == 4) = false := by rw [beq_eq_false_iff_ne]; omega
  obtain ⟨W4, run4, hR4, hB4, he4, hs4⟩ := store_rd2 Z0.out A n c A' n' c' D.armed (D.ops : Int)
  have RUN4 := Lib.hid run4
  have R4 := Lib.hid hR4
  have B4 := Lib.hid (hB4 _ _ B0.out (by have := HBS.out; omega))
  have D4 := Lib.hid (D0.out.aside Z0.out (by decide) (by decide) (by decide) hs4 he4)
  have Q4 := Lib.hid (Q0.out.aside Z0.out (by decide) (by decide) he4)
  have K4 := Lib.hid (K0.out.aside (g := w.heap.size + 2) (by omega) he4)
  clear run4 hR4 hB4 he4 hs4
  go_enter Try.func10, Try.ntmps10
  go_wp2_with ((try rw [← HW0.out]); refine wpList_store_to rfl 31 _ _ rfl ⟨w.heap.size + 2, 0, none⟩ rfl (.agg #[.slice A n c, .slice A' n' c', .int .i64 D.armed, .int .i64 (D.ops : Int)]) rfl W4 RUN4.out ?_)
  obtain ⟨d0, d1, d2, d3⟩ := R4.out.fourR
  refine bodyPost_ret (v := .tuple #[.agg #[.slice A n c, .slice A' n' c', .int .i64 D.armed, .int .i64 (D.ops : Int)], .bool true]) (by simp [results, Try.results10, go_sem, d0, d1, d2, d3]) rfl ⟨_, _, _, _, _, _, _, rfl, D4.out, Q4.out, B4.out, K4.out⟩

set_option maxHeartbeats 4000000 in
set_option maxRecDepth 100000 in
theorem law_Do_crash (base : Nat) (w : World) (p gl M : Nat) (v : Value) (A : Option Addr) (n c : Nat) (A' : Option Addr) (n' c' : Nat) (D : DSt) (I At : Int) (y : Nat) (sh : Bool) (K : Option Addr) (kn kc : Nat) (ks : List Bool) (h : IsDisk base w p gl M v D) (hr : RDk w A n c A' n' c' D) (hs : Small D) (hok : DOk D) (hbs : base ≤ w.heap.size) (hy : y < 256) (hK : ∀ w', Below base w w' → Keeps w w' → KSl w' K kn ks) (hkn : kn ≤ 1000) :
    Calls Try.prog 10 #[.pointer (some ⟨p, 0, none⟩), rdV A n c A' n' c' D, .agg #[.int .u8 2, .int .i64 I, .int .i64 At, .int .u8 (y : Int), .bool sh, .slice K kn kc]] w fun e w' => ∃ B m d B' m' d' v', e = .returned (.tuple #[rdV B m d B' m' d' (crashed D ks), .bool true]) ∧ IsDisk base w' p gl M v' (crashed D ks) ∧ RDk w' B m d B' m' d' (crashed D ks) ∧ Below base w w' ∧ Keeps w w' := by
  unfold rdV
  obtain ⟨W0, hW0⟩ : ∃ W0, W0 = ((w.alloc (.cells #[.slice A n c, .slice A' n' c', .int .i64 D.armed, .int .i64 (D.ops : Int)] 31)).alloc (.cells #[.int .u8 2, .int .i64 I, .int .i64 At, .int .u8 (y : Int), .bool sh, .slice K kn kc] 35)).alloc (.cells #[.slice none 0 0, .slice none 0 0, .int .i64 0, .int .i64 0] 31) := ⟨_, rfl⟩
  have hs1 : (w.alloc (.cells #[.slice A n c, .slice A' n' c', .int .i64 D.armed, .int .i64 (D.ops : Int)] 31)).heap.size = w.heap.size + 1 := by simp
  have hs2 : ((w.alloc (.cells #[.slice A n c, .slice A' n' c', .int .i64 D.armed, .int .i64 (D.ops : Int)] 31)).alloc (.cells #[.int .u8 2, .int .i64 I, .int .i64 At, .int .u8 (y : Int), .bool sh, .slice K kn kc] 35)).heap.size = w.heap.size + 2 := by simp
  have b0 : Below w.heap.size w W0 := by rw [hW0]; exact (((Below.refl w.heap.size w).alloc (Nat.le_refl _) _).alloc (by rw [hs1]; omega) _).alloc (by rw [hs2]; omega) _
  have R0 : Hid (Blk W0 w.heap.size 31 [.slice A n c, .slice A' n' c', .int .i64 D.armed, .int .i64 (D.ops : Int)]) := Lib.hid (by rw [hW0]; exact (Blk.alloc (w := w.alloc _) (heap_alloc_new w _) _).alloc _)
  have A0 : Hid (Blk W0 (w.heap.size + 1) 35 [.int .u8 2, .int .i64 I, .int .i64 At, .int .u8 (y : Int), .bool sh, .slice K kn kc]) := Lib.hid (by
    rw [hW0]
    have h1 := heap_alloc_new (w.alloc (.cells #[.slice A n c, .slice A' n' c', .int .i64 D.armed, .int .i64 (D.ops : Int)] 31)) (.cells #[.int .u8 2, .int .i64 I, .int .i64 At, .int .u8 (y : Int), .bool sh, .slice K kn kc] 35)
    rw [hs1] at h1
    exact Blk.alloc (w := (w.alloc _).alloc _) h1 _)
  have Z0 : Hid (Blk W0 (w.heap.size + 2) 31 [.slice none 0 0, .slice none 0 0, .int .i64 0, .int .i64 0]) := Lib.hid (by
    rw [hW0]
    have h1 := heap_alloc_new ((w.alloc (.cells #[.slice A n c, .slice A' n' c', .int .i64 D.armed, .int .i64 (D.ops : Int)] 31)).alloc (.cells #[.int .u8 2, .int .i64 I, .int .i64 At, .int .u8 (y : Int), .bool sh, .slice K kn kc] 35)) (.cells #[.slice none 0 0, .slice none 0 0, .int .i64 0, .int .i64 0] 31)
    rw [hs2] at h1
    exact h1)
  have D0 := Lib.hid (h.keep b0)
  have Q0 := Lib.hid (hr.keep b0)
  have B0 := Lib.hid (b0.mono hbs)
  have K0 := Lib.hid (Keeps.of_below b0)
  have C0 : Hid (base ≤ W0.heap.size) := Lib.hid (Nat.le_trans hbs b0.size)
  have HW0 := Lib.hid hW0
  have HBS := Lib.hid hbs
  have HKK := Lib.hid hK
  clear h hr hs1 hs2 b0 hW0 hbs hK
  go_enter Try.func10, Try.ntmps10
  go_wp2_with fail
  rw [← HW0.out]
  refine (disk_Crash base W0 p gl M v D K kn kc ks D0.out (fun w1 hb hk => HKK.out _ (B0.out.trans hb) (K0.out.trans hk)) (by omega) hs.2.1 C0.out).mono ?_
  rintro e W1 ⟨rfl, v1, h1, hb1, hk1⟩
  have R1 := Lib.hid (hk1 _ _ _ (by decide) (by decide) (by decide) R0.out)
  have A1 := Lib.hid (hk1 _ _ _ (by decide) (by decide) (by decide) A0.out)
  have Z1 := Lib.hid (hk1 _ _ _ (by decide) (by decide) (by decide) Z0.out)
  have Q1 := Lib.hid (Q0.out.keeps hk1)
  have B1 := Lib.hid (B0.out.trans hb1)
  have K1 := Lib.hid (K0.out.trans hk1)
  have C1 : Hid (base ≤ W1.heap.size) := Lib.hid (Nat.le_trans C0.out hb1.size)
  have KS1 := Lib.hid (HKK.out _ B1.out K1.out)
  obtain ⟨r0, r1, r2, r3⟩ := R1.out.fourR
  obtain ⟨a0, a1, a2, a3, a4, a5⟩ := A1.out.sixR
  have D1 := Lib.hid h1
  clear h1 hb1 hk1
  go_wp2_with fail
  clear r0 r1 r2 r3 a0 a1 a2 a3 a4 a5
  have HRC := Lib.hid (ref_Crash12k W1 A n c A' n' c' D K kn kc ks Q1.out hs hok KS1.out (by omega))
  generalize hE : crashed D ks = E at HRC D1
  have HE := Lib.hid hE
  clear hE
  
  refine HRC.out.mono ?_
  rintro e W2 ⟨B, m, d, B', m', d', rfl, q2, bl⟩
  have D2 := Lib.hid (D1.out.keep bl)
  have R2 := Lib.hid (R1.out.keep bl)
  have Z2 := Lib.hid (Z1.out.keep bl)
  have B2 := Lib.hid (B1.out.trans (bl.mono C1.out))
  have K2 := Lib.hid (K1.out.trans (Keeps.of_below bl))
  obtain ⟨W3, run3, hR3, hB3, he3, hs3⟩ := store_rd2 R2.out B m d B' m' d' E.armed (E.ops : Int)
  have RUN3 := Lib.hid run3
  have R3 := Lib.hid hR3
  have B3 := Lib.hid (hB3 _ _ B2.out HBS.out)
  have D3 := Lib.hid (D2.out.aside R2.out (by decide) (by decide) (by decide) hs3 he3)
  have Q3 := Lib.hid (q2.aside R2.out (by decide) (by decide) he3)
  have K3 := Lib.hid (K2.out.aside (g := w.heap.size) (Nat.le_refl _) he3)
  have Z3 : Hid (Blk W3 (w.heap.size + 2) 31 [.slice none 0 0, .slice none 0 0, .int .i64 0, .int .i64 0]) := Lib.hid ((he3 _ (by omega)).trans Z2.out)
  obtain ⟨W4, run4, hR4, hB4, he4, hs4⟩ := store_rd2 Z3.out B m d B' m' d' E.armed (E.ops : Int)
  have RUN4 := Lib.hid run4
  have R4 := Lib.hid hR4
  have B4 := Lib.hid (hB4 _ _ B3.out (by have := HBS.out; omega))
  have D4 := Lib.hid (D3.out.aside Z3.out (by decide) (by decide) (by decide) hs4 he4)
  have Q4 := Lib.hid (Q3.out.aside Z3.out (by decide) (by decide) he4)
  have K4 := Lib.hid (K3.out.aside (g := w.heap.size + 2) (by omega) he4)
  obtain ⟨r0, r1, r2, r3⟩ := R3.out.fourR
  clear q2 bl run3 hR3 hB3 he3 hs3 run4 hR4 hB4 he4 hs4
  unfold rdV
  go_wp2_with (first | (refine wpList_store_to rfl 31 _ _ rfl ⟨w.heap.size, 0, none⟩ rfl (.agg #[.slice B m d, .slice B' m' d', .int .i64 E.armed, .int .i64 (E.ops : Int)]) rfl W3 RUN3.out ?_) | (refine wpList_store_to rfl 31 _ _ rfl ⟨w.heap.size + 2, 0, none⟩ rfl (.agg #[.slice B m d, .slice B' m' d', .int .i64 E.armed, .int .i64 (E.ops : Int)]) rfl W4 RUN4.out ?_))
  have hE2 := HE.out
  subst hE2
  obtain ⟨d0, d1, d2, d3⟩ := R4.out.fourR
  refine bodyPost_ret (v := .tuple #[.agg #[.slice B m d, .slice B' m' d', .int .i64 (crashed D ks).armed, .int .i64 ((crashed D ks).ops : Int)], .bool true]) (by simp [results, Try.results10, go_sem, d0, d1, d2, d3]) rfl ⟨_, _, _, _, _, _, _, rfl, D4.out, Q4.out, B4.out, K4.out⟩

set_option maxHeartbeats 4000000 in
set_option maxRecDepth 100000 in
theorem law_Do_rot (base : Nat) (w : World) (p gl M : Nat) (v : Value) (A : Option Addr) (n c : Nat) (A' : Option Addr) (n' c' : Nat) (D : DSt) (I At : Int) (y : Nat) (sh : Bool) (K : Option Addr) (kn kc : Nat) (ks : List Bool) (h : IsDisk base w p gl M v D) (hr : RDk w A n c A' n' c' D) (hs : Small D) (hok : DOk D) (hbs : base ≤ w.heap.size) (hy : y < 256) (hK : ∀ w', Below base w w' → Keeps w w' → KSl w' K kn ks) (hkn : kn ≤ 1000) :
    Calls Try.prog 10 #[.pointer (some ⟨p, 0, none⟩), rdV A n c A' n' c' D, .agg #[.int .u8 4, .int .i64 I, .int .i64 At, .int .u8 (y : Int), .bool sh, .slice K kn kc]] w fun e w' => ∃ B m d B' m' d' v', e = .returned (.tuple #[rdV B m d B' m' d' (rotD D I At y), .bool true]) ∧ IsDisk base w' p gl M v' (rotD D I At y) ∧ RDk w' B m d B' m' d' (rotD D I At y) ∧ Below base w w' ∧ Keeps w w' := by
  unfold rdV
  obtain ⟨W0, hW0⟩ : ∃ W0, W0 = ((w.alloc (.cells #[.slice A n c, .slice A' n' c', .int .i64 D.armed, .int .i64 (D.ops : Int)] 31)).alloc (.cells #[.int .u8 4, .int .i64 I, .int .i64 At, .int .u8 (y : Int), .bool sh, .slice K kn kc] 35)).alloc (.cells #[.slice none 0 0, .slice none 0 0, .int .i64 0, .int .i64 0] 31) := ⟨_, rfl⟩
  have hs1 : (w.alloc (.cells #[.slice A n c, .slice A' n' c', .int .i64 D.armed, .int .i64 (D.ops : Int)] 31)).heap.size = w.heap.size + 1 := by simp
  have hs2 : ((w.alloc (.cells #[.slice A n c, .slice A' n' c', .int .i64 D.armed, .int .i64 (D.ops : Int)] 31)).alloc (.cells #[.int .u8 4, .int .i64 I, .int .i64 At, .int .u8 (y : Int), .bool sh, .slice K kn kc] 35)).heap.size = w.heap.size + 2 := by simp
  have b0 : Below w.heap.size w W0 := by rw [hW0]; exact (((Below.refl w.heap.size w).alloc (Nat.le_refl _) _).alloc (by rw [hs1]; omega) _).alloc (by rw [hs2]; omega) _
  have R0 : Hid (Blk W0 w.heap.size 31 [.slice A n c, .slice A' n' c', .int .i64 D.armed, .int .i64 (D.ops : Int)]) := Lib.hid (by rw [hW0]; exact (Blk.alloc (w := w.alloc _) (heap_alloc_new w _) _).alloc _)
  have A0 : Hid (Blk W0 (w.heap.size + 1) 35 [.int .u8 4, .int .i64 I, .int .i64 At, .int .u8 (y : Int), .bool sh, .slice K kn kc]) := Lib.hid (by
    rw [hW0]
    have h1 := heap_alloc_new (w.alloc (.cells #[.slice A n c, .slice A' n' c', .int .i64 D.armed, .int .i64 (D.ops : Int)] 31)) (.cells #[.int .u8 4, .int .i64 I, .int .i64 At, .int .u8 (y : Int), .bool sh, .slice K kn kc] 35)
    rw [hs1] at h1
    exact Blk.alloc (w := (w.alloc _).alloc _) h1 _)
  have Z0 : Hid (Blk W0 (w.heap.size + 2) 31 [.slice none 0 0, .slice none 0 0, .int .i64 0, .int .i64 0]) := Lib.hid (by
    rw [hW0]
    have h1 := heap_alloc_new ((w.alloc (.cells #[.slice A n c, .slice A' n' c', .int .i64 D.armed, .int .i64 (D.ops : Int)] 31)).alloc (.cells #[.int .u8 4, .int .i64 I, .int .i64 At, .int .u8 (y : Int), .bool sh, .slice K kn kc] 35)) (.cells #[.slice none 0 0, .slice none 0 0, .int .i64 0, .int .i64 0] 31)
    rw [hs2] at h1
    exact h1)
  have D0 := Lib.hid (h.keep b0)
  have Q0 := Lib.hid (hr.keep b0)
  have B0 := Lib.hid (b0.mono hbs)
  have K0 := Lib.hid (Keeps.of_below b0)
  have C0 : Hid (base ≤ W0.heap.size) := Lib.hid (Nat.le_trans hbs b0.size)
  have HW0 := Lib.hid hW0
  have HBS := Lib.hid hbs
  have HKK := Lib.hid hK
  clear h hr hs1 hs2 b0 hW0 hbs hK
  go_enter Try.func10, Try.ntmps10
  go_wp2_with fail
  rw [← HW0.out]
  refine (disk_Rot base W0 p gl M v D I At y hy D0.out).mono ?_
  rintro e W1 ⟨rfl, h1, hb1, hk1⟩
  have R1 := Lib.hid (hk1 _ _ _ (by decide) (by decide) (by decide) R0.out)
  have A1 := Lib.hid (hk1 _ _ _ (by decide) (by decide) (by decide) A0.out)
  have Z1 := Lib.hid (hk1 _ _ _ (by decide) (by decide) (by decide) Z0.out)
  have Q1 := Lib.hid (Q0.out.keeps hk1)
  have B1 := Lib.hid (B0.out.trans hb1)
  have K1 := Lib.hid (K0.out.trans hk1)
  have C1 : Hid (base ≤ W1.heap.size) := Lib.hid (Nat.le_trans C0.out hb1.size)
  have KS1 := Lib.hid (HKK.out _ B1.out K1.out)
  obtain ⟨r0, r1, r2, r3⟩ := R1.out.fourR
  obtain ⟨a0, a1, a2, a3, a4, a5⟩ := A1.out.sixR
  have D1 := Lib.hid h1
  clear h1 hb1 hk1
  go_wp2_with fail
  clear r0 r1 r2 r3 a0 a1 a2 a3 a4 a5
  have HRC := Lib.hid (ref_Rot12k W1 A n c A' n' c' D I At y Q1.out hok hy)
  generalize hE : rotD D I At y = E at HRC D1
  have HE := Lib.hid hE
  clear hE
  
  refine HRC.out.mono ?_
  rintro e W2 ⟨B, m, d, B', m', d', rfl, q2, bl⟩
  have D2 := Lib.hid (D1.out.keep bl)
  have R2 := Lib.hid (R1.out.keep bl)
  have Z2 := Lib.hid (Z1.out.keep bl)
  have B2 := Lib.hid (B1.out.trans (bl.mono C1.out))
  have K2 := Lib.hid (K1.out.trans (Keeps.of_below bl))
  obtain ⟨W3, run3, hR3, hB3, he3, hs3⟩ := store_rd2 R2.out B m d B' m' d' E.armed (E.ops : Int)
  have RUN3 := Lib.hid run3
  have R3 := Lib.hid hR3
  have B3 := Lib.hid (hB3 _ _ B2.out HBS.out)
  have D3 := Lib.hid (D2.out.aside R2.out (by decide) (by decide) (by decide) hs3 he3)
  have Q3 := Lib.hid (q2.aside R2.out (by decide) (by decide) he3)
  have K3 := Lib.hid (K2.out.aside (g := w.heap.size) (Nat.le_refl _) he3)
  have Z3 : Hid (Blk W3 (w.heap.size + 2) 31 [.slice none 0 0, .slice none 0 0, .int .i64 0, .int .i64 0]) := Lib.hid ((he3 _ (by omega)).trans Z2.out)
  obtain ⟨W4, run4, hR4, hB4, he4, hs4⟩ := store_rd2 Z3.out B m d B' m' d' E.armed (E.ops : Int)
  have RUN4 := Lib.hid run4
  have R4 := Lib.hid hR4
  have B4 := Lib.hid (hB4 _ _ B3.out (by have := HBS.out; omega))
  have D4 := Lib.hid (D3.out.aside Z3.out (by decide) (by decide) (by decide) hs4 he4)
  have Q4 := Lib.hid (Q3.out.aside Z3.out (by decide) (by decide) he4)
  have K4 := Lib.hid (K3.out.aside (g := w.heap.size + 2) (by omega) he4)
  obtain ⟨r0, r1, r2, r3⟩ := R3.out.fourR
  clear q2 bl run3 hR3 hB3 he3 hs3 run4 hR4 hB4 he4 hs4
  unfold rdV
  go_wp2_with (first | (refine wpList_store_to rfl 31 _ _ rfl ⟨w.heap.size, 0, none⟩ rfl (.agg #[.slice B m d, .slice B' m' d', .int .i64 E.armed, .int .i64 (E.ops : Int)]) rfl W3 RUN3.out ?_) | (refine wpList_store_to rfl 31 _ _ rfl ⟨w.heap.size + 2, 0, none⟩ rfl (.agg #[.slice B m d, .slice B' m' d', .int .i64 E.armed, .int .i64 (E.ops : Int)]) rfl W4 RUN4.out ?_))
  have hE2 := HE.out
  subst hE2
  obtain ⟨d0, d1, d2, d3⟩ := R4.out.fourR
  refine bodyPost_ret (v := .tuple #[.agg #[.slice B m d, .slice B' m' d', .int .i64 (rotD D I At y).armed, .int .i64 ((rotD D I At y).ops : Int)], .bool true]) (by simp [results, Try.results10, go_sem, d0, d1, d2, d3]) rfl ⟨_, _, _, _, _, _, _, rfl, D4.out, Q4.out, B4.out, K4.out⟩

set_option maxHeartbeats 4000000 in
set_option maxRecDepth 100000 in
theorem law_Do_sync (base : Nat) (w : World) (p gl M : Nat) (v : Value) (A : Option Addr) (n c : Nat) (A' : Option Addr) (n' c' : Nat) (D : DSt) (I At : Int) (y : Nat) (sh : Bool) (K : Option Addr) (kn kc : Nat) (ks : List Bool) (h : IsDisk base w p gl M v D) (hr : RDk w A n c A' n' c' D) (hs : Small D) (hok : DOk D) (hbs : base ≤ w.heap.size) (hy : y < 256) (hK : ∀ w', Below base w w' → Keeps w w' → KSl w' K kn ks) (hkn : kn ≤ 1000) :
    Calls Try.prog 10 #[.pointer (some ⟨p, 0, none⟩), rdV A n c A' n' c' D, .agg #[.int .u8 1, .int .i64 I, .int .i64 At, .int .u8 (y : Int), .bool sh, .slice K kn kc]] w fun e w' => ∃ B m d B' m' d' v', e = .returned (.tuple #[rdV B m d B' m' d' (syD D).1, .bool true]) ∧ IsDisk base w' p gl M v' (syD D).1 ∧ RDk w' B m d B' m' d' (syD D).1 ∧ Below base w w' ∧ Keeps w w' := by
  unfold rdV
  obtain ⟨W0, hW0⟩ : ∃ W0, W0 = ((w.alloc (.cells #[.slice A n c, .slice A' n' c', .int .i64 D.armed, .int .i64 (D.ops : Int)] 31)).alloc (.cells #[.int .u8 1, .int .i64 I, .int .i64 At, .int .u8 (y : Int), .bool sh, .slice K kn kc] 35)).alloc (.cells #[.slice none 0 0, .slice none 0 0, .int .i64 0, .int .i64 0] 31) := ⟨_, rfl⟩
  have hs1 : (w.alloc (.cells #[.slice A n c, .slice A' n' c', .int .i64 D.armed, .int .i64 (D.ops : Int)] 31)).heap.size = w.heap.size + 1 := by simp
  have hs2 : ((w.alloc (.cells #[.slice A n c, .slice A' n' c', .int .i64 D.armed, .int .i64 (D.ops : Int)] 31)).alloc (.cells #[.int .u8 1, .int .i64 I, .int .i64 At, .int .u8 (y : Int), .bool sh, .slice K kn kc] 35)).heap.size = w.heap.size + 2 := by simp
  have b0 : Below w.heap.size w W0 := by rw [hW0]; exact (((Below.refl w.heap.size w).alloc (Nat.le_refl _) _).alloc (by rw [hs1]; omega) _).alloc (by rw [hs2]; omega) _
  have R0 : Hid (Blk W0 w.heap.size 31 [.slice A n c, .slice A' n' c', .int .i64 D.armed, .int .i64 (D.ops : Int)]) := Lib.hid (by rw [hW0]; exact (Blk.alloc (w := w.alloc _) (heap_alloc_new w _) _).alloc _)
  have A0 : Hid (Blk W0 (w.heap.size + 1) 35 [.int .u8 1, .int .i64 I, .int .i64 At, .int .u8 (y : Int), .bool sh, .slice K kn kc]) := Lib.hid (by
    rw [hW0]
    have h1 := heap_alloc_new (w.alloc (.cells #[.slice A n c, .slice A' n' c', .int .i64 D.armed, .int .i64 (D.ops : Int)] 31)) (.cells #[.int .u8 1, .int .i64 I, .int .i64 At, .int .u8 (y : Int), .bool sh, .slice K kn kc] 35)
    rw [hs1] at h1
    exact Blk.alloc (w := (w.alloc _).alloc _) h1 _)
  have Z0 : Hid (Blk W0 (w.heap.size + 2) 31 [.slice none 0 0, .slice none 0 0, .int .i64 0, .int .i64 0]) := Lib.hid (by
    rw [hW0]
    have h1 := heap_alloc_new ((w.alloc (.cells #[.slice A n c, .slice A' n' c', .int .i64 D.armed, .int .i64 (D.ops : Int)] 31)).alloc (.cells #[.int .u8 1, .int .i64 I, .int .i64 At, .int .u8 (y : Int), .bool sh, .slice K kn kc] 35)) (.cells #[.slice none 0 0, .slice none 0 0, .int .i64 0, .int .i64 0] 31)
    rw [hs2] at h1
    exact h1)
  have D0 := Lib.hid (h.keep b0)
  have Q0 := Lib.hid (hr.keep b0)
  have B0 := Lib.hid (b0.mono hbs)
  have K0 := Lib.hid (Keeps.of_below b0)
  have C0 : Hid (base ≤ W0.heap.size) := Lib.hid (Nat.le_trans hbs b0.size)
  have HW0 := Lib.hid hW0
  have HBS := Lib.hid hbs
  have HKK := Lib.hid hK
  clear h hr hs1 hs2 b0 hW0 hbs hK
  go_enter Try.func10, Try.ntmps10
  go_wp2_with fail
  rw [← HW0.out]
  refine (disk_Sync base W0 p gl M v D D0.out hs C0.out).mono ?_
  rintro e W1 ⟨rfl, v1, h1, hb1, hk1⟩
  have R1 := Lib.hid (hk1 _ _ _ (by decide) (by decide) (by decide) R0.out)
  have A1 := Lib.hid (hk1 _ _ _ (by decide) (by decide) (by decide) A0.out)
  have Z1 := Lib.hid (hk1 _ _ _ (by decide) (by decide) (by decide) Z0.out)
  have Q1 := Lib.hid (Q0.out.keeps hk1)
  have B1 := Lib.hid (B0.out.trans hb1)
  have K1 := Lib.hid (K0.out.trans hk1)
  have C1 : Hid (base ≤ W1.heap.size) := Lib.hid (Nat.le_trans C0.out hb1.size)
  have KS1 := Lib.hid (HKK.out _ B1.out K1.out)
  obtain ⟨r0, r1, r2, r3⟩ := R1.out.fourR
  obtain ⟨a0, a1, a2, a3, a4, a5⟩ := A1.out.sixR
  have D1 := Lib.hid h1
  clear h1 hb1 hk1
  go_wp2_with fail
  clear r0 r1 r2 r3 a0 a1 a2 a3 a4 a5
  have HRC := Lib.hid (ref_Sync12k W1 A n c A' n' c' D Q1.out hs hok)
  generalize hE : (syD D).1 = E at HRC D1
  have HE := Lib.hid hE
  clear hE
  generalize hcode : (syD D).2 = code at HRC
  have hcc : ((code : Int) == (code : Int)) = true := by simp
  refine HRC.out.mono ?_
  rintro e W2 ⟨B, m, d, B', m', d', rfl, q2, bl⟩
  have D2 := Lib.hid (D1.out.keep bl)
  have R2 := Lib.hid (R1.out.keep bl)
  have Z2 := Lib.hid (Z1.out.keep bl)
  have B2 := Lib.hid (B1.out.trans (bl.mono C1.out))
  have K2 := Lib.hid (K1.out.trans (Keeps.of_below bl))
  obtain ⟨W3, run3, hR3, hB3, he3, hs3⟩ := store_rd2 R2.out B m d B' m' d' E.armed (E.ops : Int)
  have RUN3 := Lib.hid run3
  have R3 := Lib.hid hR3
  have B3 := Lib.hid (hB3 _ _ B2.out HBS.out)
  have D3 := Lib.hid (D2.out.aside R2.out (by decide) (by decide) (by decide) hs3 he3)
  have Q3 := Lib.hid (q2.aside R2.out (by decide) (by decide) he3)
  have K3 := Lib.hid (K2.out.aside (g := w.heap.size) (Nat.le_refl _) he3)
  have Z3 : Hid (Blk W3 (w.heap.size + 2) 31 [.slice none 0 0, .slice none 0 0, .int .i64 0, .int .i64 0]) := Lib.hid ((he3 _ (by omega)).trans Z2.out)
  obtain ⟨W4, run4, hR4, hB4, he4, hs4⟩ := store_rd2 Z3.out B m d B' m' d' E.armed (E.ops : Int)
  have RUN4 := Lib.hid run4
  have R4 := Lib.hid hR4
  have B4 := Lib.hid (hB4 _ _ B3.out (by have := HBS.out; omega))
  have D4 := Lib.hid (D3.out.aside Z3.out (by decide) (by decide) (by decide) hs4 he4)
  have Q4 := Lib.hid (Q3.out.aside Z3.out (by decide) (by decide) he4)
  have K4 := Lib.hid (K3.out.aside (g := w.heap.size + 2) (by omega) he4)
  obtain ⟨r0, r1, r2, r3⟩ := R3.out.fourR
  clear q2 bl run3 hR3 hB3 he3 hs3 run4 hR4 hB4 he4 hs4
  unfold rdV
  go_wp2_with (first | (refine wpList_store_to rfl 31 _ _ rfl ⟨w.heap.size, 0, none⟩ rfl (.agg #[.slice B m d, .slice B' m' d', .int .i64 E.armed, .int .i64 (E.ops : Int)]) rfl W3 RUN3.out ?_) | (refine wpList_store_to rfl 31 _ _ rfl ⟨w.heap.size + 2, 0, none⟩ rfl (.agg #[.slice B m d, .slice B' m' d', .int .i64 E.armed, .int .i64 (E.ops : Int)]) rfl W4 RUN4.out ?_))
  have hE2 := HE.out
  subst hE2
  obtain ⟨d0, d1, d2, d3⟩ := R4.out.fourR
  refine bodyPost_ret (v := .tuple #[.agg #[.slice B m d, .slice B' m' d', .int .i64 ((syD D).1).armed, .int .i64 (((syD D).1).ops : Int)], .bool true]) (by simp [results, Try.results10, go_sem, d0, d1, d2, d3]) rfl ⟨_, _, _, _, _, _, _, rfl, D4.out, Q4.out, B4.out, K4.out⟩

set_option maxHeartbeats 4000000 in
set_option maxRecDepth 100000 in
theorem law_Do_arm (base : Nat) (w : World) (p gl M : Nat) (v : Value) (A : Option Addr) (n c : Nat) (A' : Option Addr) (n' c' : Nat) (D : DSt) (I At : Int) (y : Nat) (sh : Bool) (K : Option Addr) (kn kc : Nat) (ks : List Bool) (h : IsDisk base w p gl M v D) (hr : RDk w A n c A' n' c' D) (hs : Small D) (hok : DOk D) (hbs : base ≤ w.heap.size) (hy : y < 256) (hK : ∀ w', Below base w w' → Keeps w w' → KSl w' K kn ks) (hkn : kn ≤ 1000) :
    Calls Try.prog 10 #[.pointer (some ⟨p, 0, none⟩), rdV A n c A' n' c' D, .agg #[.int .u8 3, .int .i64 I, .int .i64 At, .int .u8 (y : Int), .bool sh, .slice K kn kc]] w fun e w' => ∃ B m d B' m' d' v', e = .returned (.tuple #[rdV B m d B' m' d' { D with armed := At }, .bool true]) ∧ IsDisk base w' p gl M v' { D with armed := At } ∧ RDk w' B m d B' m' d' { D with armed := At } ∧ Below base w w' ∧ Keeps w w' := by
  unfold rdV
  obtain ⟨W0, hW0⟩ : ∃ W0, W0 = ((w.alloc (.cells #[.slice A n c, .slice A' n' c', .int .i64 D.armed, .int .i64 (D.ops : Int)] 31)).alloc (.cells #[.int .u8 3, .int .i64 I, .int .i64 At, .int .u8 (y : Int), .bool sh, .slice K kn kc] 35)).alloc (.cells #[.slice none 0 0, .slice none 0 0, .int .i64 0, .int .i64 0] 31) := ⟨_, rfl⟩
  have hs1 : (w.alloc (.cells #[.slice A n c, .slice A' n' c', .int .i64 D.armed, .int .i64 (D.ops : Int)] 31)).heap.size = w.heap.size + 1 := by simp
  have hs2 : ((w.alloc (.cells #[.slice A n c, .slice A' n' c', .int .i64 D.armed, .int .i64 (D.ops : Int)] 31)).alloc (.cells #[.int .u8 3, .int .i64 I, .int .i64 At, .int .u8 (y : Int), .bool sh, .slice K kn kc] 35)).heap.size = w.heap.size + 2 := by simp
  have b0 : Below w.heap.size w W0 := by rw [hW0]; exact (((Below.refl w.heap.size w).alloc (Nat.le_refl _) _).alloc (by rw [hs1]; omega) _).alloc (by rw [hs2]; omega) _
  have R0 : Hid (Blk W0 w.heap.size 31 [.slice A n c, .slice A' n' c', .int .i64 D.armed, .int .i64 (D.ops : Int)]) := Lib.hid (by rw [hW0]; exact (Blk.alloc (w := w.alloc _) (heap_alloc_new w _) _).alloc _)
  have A0 : Hid (Blk W0 (w.heap.size + 1) 35 [.int .u8 3, .int .i64 I, .int .i64 At, .int .u8 (y : Int), .bool sh, .slice K kn kc]) := Lib.hid (by
    rw [hW0]
    have h1 := heap_alloc_new (w.alloc (.cells #[.slice A n c, .slice A' n' c', .int .i64 D.armed, .int .i64 (D.ops : Int)] 31)) (.cells #[.int .u8 3, .int .i64 I, .int .i64 At, .int .u8 (y : Int), .bool sh, .slice K kn kc] 35)
    rw [hs1] at h1
    exact Blk.alloc (w := (w.alloc _).alloc _) h1 _)
  have Z0 : Hid (Blk W0 (w.heap.size + 2) 31 [.slice none 0 0, .slice none 0 0, .int .i64 0, .int .i64 0]) := Lib.hid (by
    rw [hW0]
    have h1 := heap_alloc_new ((w.alloc (.cells #[.slice A n c, .slice A' n' c', .int .i64 D.armed, .int .i64 (D.ops : Int)] 31)).alloc (.cells #[.int .u8 3, .int .i64 I, .int .i64 At, .int .u8 (y : Int), .bool sh, .slice K kn kc] 35)) (.cells #[.slice none 0 0, .slice none 0 0, .int .i64 0, .int .i64 0] 31)
    rw [hs2] at h1
    exact h1)
  have D0 := Lib.hid (h.keep b0)
  have Q0 := Lib.hid (hr.keep b0)
  have B0 := Lib.hid (b0.mono hbs)
  have K0 := Lib.hid (Keeps.of_below b0)
  have C0 : Hid (base ≤ W0.heap.size) := Lib.hid (Nat.le_trans hbs b0.size)
  have HW0 := Lib.hid hW0
  have HBS := Lib.hid hbs
  have HKK := Lib.hid hK
  clear h hr hs1 hs2 b0 hW0 hbs hK
  go_enter Try.func10, Try.ntmps10
  go_wp2_with fail
  rw [← HW0.out]
  refine (disk_Arm base W0 p gl M v D At D0.out).mono ?_
  rintro e W1 ⟨rfl, h1, hb1, hk1⟩
  have R1 := Lib.hid (hk1 _ _ _ (by decide) (by decide) (by decide) R0.out)
  have A1 := Lib.hid (hk1 _ _ _ (by decide) (by decide) (by decide) A0.out)
  have Z1 := Lib.hid (hk1 _ _ _ (by decide) (by decide) (by decide) Z0.out)
  have Q1 := Lib.hid (Q0.out.keeps hk1)
  have B1 := Lib.hid (B0.out.trans hb1)
  have K1 := Lib.hid (K0.out.trans hk1)
  have D1 := Lib.hid h1
  have R2 := Lib.hid (R1.out.set_ 2 (.int .i64 At))
  have Z2 := Lib.hid (Z1.out.far (p := ⟨w.heap.size, 2, none⟩) (by show w.heap.size + 2 ≠ w.heap.size; omega) (.int .i64 At))
  have he2 : ∀ k, k ≠ w.heap.size → (W1.setCell ⟨w.heap.size, 2, none⟩ (.int .i64 At)).heap[k]? = W1.heap[k]? := fun k hk => Below.heap_setCell W1 ⟨w.heap.size, 2, none⟩ (.int .i64 At) k hk
  have B2 := Lib.hid (B1.out.setCell (p := ⟨w.heap.size, 2, none⟩) HBS.out (.int .i64 At))
  have D2 := Lib.hid (D1.out.aside R1.out (by decide) (by decide) (by decide) (by simp [World.setCell]) he2)
  have Q2 := Lib.hid (Q1.out.aside R1.out (by decide) (by decide) he2)
  have K2 := Lib.hid (K1.out.aside (g := w.heap.size) (Nat.le_refl _) he2)
  obtain ⟨W4, run4, hR4, hB4, he4, hs4⟩ := store_rd2 Z2.out A n c A' n' c' At (D.ops : Int)
  have RUN4 := Lib.hid run4
  have R4 := Lib.hid hR4
  have B4 := Lib.hid (hB4 _ _ B2.out (by have := HBS.out; omega))
  have D4 := Lib.hid (D2.out.aside Z2.out (by decide) (by decide) (by decide) hs4 he4)
  have Q4 := Lib.hid (Q2.out.aside Z2.out (by decide) (by decide) he4)
  have K4 := Lib.hid (K2.out.aside (g := w.heap.size + 2) (by omega) he4)
  obtain ⟨r0, r1, r2, r3⟩ := R1.out.fourR
  have f2 := R1.out.frozen 2
  obtain ⟨t0, t1, t2, t3⟩ := R2.out.fourR
  obtain ⟨a0, a1, a2, a3, a4, a5⟩ := A1.out.sixR
  clear h1 hb1 hk1 he2 run4 hR4 hB4 he4 hs4
  go_wp2_with (refine wpList_store_to rfl 31 _ _ rfl ⟨w.heap.size + 2, 0, none⟩ rfl (.agg #[.slice A n c, .slice A' n' c', .int .i64 At, .int .i64 (D.ops : Int)]) rfl W4 RUN4.out ?_)
  obtain ⟨d0, d1, d2, d3⟩ := R4.out.fourR
  refine bodyPost_ret (v := .tuple #[.agg #[.slice A n c, .slice A' n' c', .int .i64 At, .int .i64 (D.ops : Int)], .bool true]) (by simp [results, Try.results10, go_sem, d0, d1, d2, d3]) rfl ⟨_, _, _, _, _, _, _, rfl, D4.out, ⟨Q4.out.1, Q4.out.2.1, Q4.out.2.2⟩, B4.out, K4.out⟩

set_option maxHeartbeats 4000000 in
set_option maxRecDepth 100000 in
theorem law_Do_write (base : Nat) (w : World) (p gl M : Nat) (v : Value) (A : Option Addr) (n c : Nat) (A' : Option Addr) (n' c' : Nat) (D : DSt) (I At : Int) (y : Nat) (K : Option Addr) (kn kc : Nat) (ks : List Bool) (h : IsDisk base w p gl M v D) (hr : RDk w A n c A' n' c' D) (hs : Small D) (hok : DOk D) (hbs : base ≤ w.heap.size) (hy : y < 256) (hK : ∀ w', Below base w w' → Keeps w w' → KSl w' K kn ks) (hkn : kn ≤ 1000) :
    Calls Try.prog 10 #[.pointer (some ⟨p, 0, none⟩), rdV A n c A' n' c' D, .agg #[.int .u8 0, .int .i64 I, .int .i64 At, .int .u8 (y : Int), .bool false, .slice K kn kc]] w fun e w' => ∃ B m d B' m' d' v', e = .returned (.tuple #[rdV B m d B' m' d' (wrD D I (secOf y)).1, .bool true]) ∧ IsDisk base w' p gl M v' (wrD D I (secOf y)).1 ∧ RDk w' B m d B' m' d' (wrD D I (secOf y)).1 ∧ Below base w w' ∧ Keeps w w' := by
  unfold rdV
  obtain ⟨W0, hW0⟩ : ∃ W0, W0 = ((w.alloc (.cells #[.slice A n c, .slice A' n' c', .int .i64 D.armed, .int .i64 (D.ops : Int)] 31)).alloc (.cells #[.int .u8 0, .int .i64 I, .int .i64 At, .int .u8 (y : Int), .bool false, .slice K kn kc] 35)).alloc (.cells #[.slice none 0 0, .slice none 0 0, .int .i64 0, .int .i64 0] 31) := ⟨_, rfl⟩
  have hs1 : (w.alloc (.cells #[.slice A n c, .slice A' n' c', .int .i64 D.armed, .int .i64 (D.ops : Int)] 31)).heap.size = w.heap.size + 1 := by simp
  have hs2 : ((w.alloc (.cells #[.slice A n c, .slice A' n' c', .int .i64 D.armed, .int .i64 (D.ops : Int)] 31)).alloc (.cells #[.int .u8 0, .int .i64 I, .int .i64 At, .int .u8 (y : Int), .bool false, .slice K kn kc] 35)).heap.size = w.heap.size + 2 := by simp
  have b0 : Below w.heap.size w W0 := by rw [hW0]; exact (((Below.refl w.heap.size w).alloc (Nat.le_refl _) _).alloc (by rw [hs1]; omega) _).alloc (by rw [hs2]; omega) _
  have R0 : Hid (Blk W0 w.heap.size 31 [.slice A n c, .slice A' n' c', .int .i64 D.armed, .int .i64 (D.ops : Int)]) := Lib.hid (by rw [hW0]; exact (Blk.alloc (w := w.alloc _) (heap_alloc_new w _) _).alloc _)
  have A0 : Hid (Blk W0 (w.heap.size + 1) 35 [.int .u8 0, .int .i64 I, .int .i64 At, .int .u8 (y : Int), .bool false, .slice K kn kc]) := Lib.hid (by
    rw [hW0]
    have h1 := heap_alloc_new (w.alloc (.cells #[.slice A n c, .slice A' n' c', .int .i64 D.armed, .int .i64 (D.ops : Int)] 31)) (.cells #[.int .u8 0, .int .i64 I, .int .i64 At, .int .u8 (y : Int), .bool false, .slice K kn kc] 35)
    rw [hs1] at h1
    exact Blk.alloc (w := (w.alloc _).alloc _) h1 _)
  have Z0 : Hid (Blk W0 (w.heap.size + 2) 31 [.slice none 0 0, .slice none 0 0, .int .i64 0, .int .i64 0]) := Lib.hid (by
    rw [hW0]
    have h1 := heap_alloc_new ((w.alloc (.cells #[.slice A n c, .slice A' n' c', .int .i64 D.armed, .int .i64 (D.ops : Int)] 31)).alloc (.cells #[.int .u8 0, .int .i64 I, .int .i64 At, .int .u8 (y : Int), .bool false, .slice K kn kc] 35)) (.cells #[.slice none 0 0, .slice none 0 0, .int .i64 0, .int .i64 0] 31)
    rw [hs2] at h1
    exact h1)
  have D0 := Lib.hid (h.keep b0)
  have Q0 := Lib.hid (hr.keep b0)
  have B0 := Lib.hid (b0.mono hbs)
  have K0 := Lib.hid (Keeps.of_below b0)
  have C0 : Hid (base ≤ W0.heap.size) := Lib.hid (Nat.le_trans hbs b0.size)
  have HW0 := Lib.hid hW0
  have HBS := Lib.hid hbs
  have HKK := Lib.hid hK
  clear h hr hs1 hs2 b0 hW0 hbs hK
  obtain ⟨T, hT⟩ : ∃ T, T = (secOf y) := ⟨_, rfl⟩
  have HT := Lib.hid hT
  have hsz := (bs_size (secOf y)).trans (secOf_len y)
  have HTX : Hid (bs (secOf y) = bs T) := Lib.hid (by rw [hT])
  have htl : T.length ≤ 1000000 := by rw [hT]; simp [secOf]
  clear hT
  go_enter Try.func10, Try.ntmps10
  go_wp2_with fail
  rw [← HW0.out]
  refine (law_Fill y W0 hy).mono ?_
  rintro e Wf ⟨rfl, bf⟩
  have R0f := Lib.hid (R0.out.keep bf)
  have A0f := Lib.hid (A0.out.keep bf)
  have Z0f := Lib.hid (Z0.out.keep bf)
  have Q0f := Lib.hid (Q0.out.keep bf)
  have D0f := Lib.hid (D0.out.keep bf)
  have B0f := Lib.hid (B0.out.trans (bf.mono C0.out))
  have K0f := Lib.hid (K0.out.trans (Keeps.of_below bf))
  have C0f : Hid (base ≤ Wf.heap.size) := Lib.hid (Nat.le_trans C0.out bf.size)
  obtain ⟨a0, a1, a2, a3, a4, a5⟩ := A0f.out.sixR
  clear bf
  go_wp2_with fail
  clear a0 a1 a2 a3 a4 a5
  try rw [HTX.out]
  refine (disk_Write base Wf p gl M v D I T D0f.out hs C0f.out htl).mono ?_
  rintro e W1 ⟨rfl, v1, h1, hb1, hk1⟩
  have R1 := Lib.hid (hk1 _ _ _ (by decide) (by decide) (by decide) R0f.out)
  have A1 := Lib.hid (hk1 _ _ _ (by decide) (by decide) (by decide) A0f.out)
  have Z1 := Lib.hid (hk1 _ _ _ (by decide) (by decide) (by decide) Z0f.out)
  have Q1 := Lib.hid (Q0f.out.keeps hk1)
  have B1 := Lib.hid (B0f.out.trans hb1)
  have K1 := Lib.hid (K0f.out.trans hk1)
  have C1 : Hid (base ≤ W1.heap.size) := Lib.hid (Nat.le_trans C0f.out hb1.size)
  obtain ⟨r0, r1, r2, r3⟩ := R1.out.fourR
  obtain ⟨a0, a1, a2, a3, a4, a5⟩ := A1.out.sixR
  have D1 := Lib.hid h1
  clear h1 hb1 hk1
  go_wp2_with fail
  clear r0 r1 r2 r3 a0 a1 a2 a3 a4 a5
  have HRC := Lib.hid (ref_Put12 W1 A n c A' n' c' D I T Q1.out hs (by rw [Q1.out.len.1]; exact hok.2.1) htl)
  generalize hE : (wrD D I T).1 = E at HRC D1
  have HE := Lib.hid hE
  clear hE
  generalize hcode : (wrD D I T).2 = code at HRC
  have hcc : ((code : Int) == (code : Int)) = true := by simp
  refine HRC.out.mono ?_
  rintro e W2 ⟨B, m, d, B', m', d', rfl, q2, bl⟩
  have D2 := Lib.hid (D1.out.keep bl)
  have R2 := Lib.hid (R1.out.keep bl)
  have Z2 := Lib.hid (Z1.out.keep bl)
  have B2 := Lib.hid (B1.out.trans (bl.mono C1.out))
  have K2 := Lib.hid (K1.out.trans (Keeps.of_below bl))
  obtain ⟨W3, run3, hR3, hB3, he3, hs3⟩ := store_rd2 R2.out B m d B' m' d' E.armed (E.ops : Int)
  have RUN3 := Lib.hid run3
  have R3 := Lib.hid hR3
  have B3 := Lib.hid (hB3 _ _ B2.out HBS.out)
  have D3 := Lib.hid (D2.out.aside R2.out (by decide) (by decide) (by decide) hs3 he3)
  have Q3 := Lib.hid (q2.aside R2.out (by decide) (by decide) he3)
  have K3 := Lib.hid (K2.out.aside (g := w.heap.size) (Nat.le_refl _) he3)
  have Z3 : Hid (Blk W3 (w.heap.size + 2) 31 [.slice none 0 0, .slice none 0 0, .int .i64 0, .int .i64 0]) := Lib.hid ((he3 _ (by omega)).trans Z2.out)
  obtain ⟨W4, run4, hR4, hB4, he4, hs4⟩ := store_rd2 Z3.out B m d B' m' d' E.armed (E.ops : Int)
  have RUN4 := Lib.hid run4
  have R4 := Lib.hid hR4
  have B4 := Lib.hid (hB4 _ _ B3.out (by have := HBS.out; omega))
  have D4 := Lib.hid (D3.out.aside Z3.out (by decide) (by decide) (by decide) hs4 he4)
  have Q4 := Lib.hid (Q3.out.aside Z3.out (by decide) (by decide) he4)
  have K4 := Lib.hid (K3.out.aside (g := w.heap.size + 2) (by omega) he4)
  obtain ⟨r0, r1, r2, r3⟩ := R3.out.fourR
  clear q2 bl run3 hR3 hB3 he3 hs3 run4 hR4 hB4 he4 hs4
  unfold rdV
  go_wp2_with (first | (refine wpList_store_to rfl 31 _ _ rfl ⟨w.heap.size, 0, none⟩ rfl (.agg #[.slice B m d, .slice B' m' d', .int .i64 E.armed, .int .i64 (E.ops : Int)]) rfl W3 RUN3.out ?_) | (refine wpList_store_to rfl 31 _ _ rfl ⟨w.heap.size + 2, 0, none⟩ rfl (.agg #[.slice B m d, .slice B' m' d', .int .i64 E.armed, .int .i64 (E.ops : Int)]) rfl W4 RUN4.out ?_))
  have hE2 := HE.out
  rw [HT.out] at hE2
  subst hE2
  obtain ⟨d0, d1, d2, d3⟩ := R4.out.fourR
  refine bodyPost_ret (v := .tuple #[.agg #[.slice B m d, .slice B' m' d', .int .i64 ((wrD D I (secOf y)).1).armed, .int .i64 (((wrD D I (secOf y)).1).ops : Int)], .bool true]) (by simp [results, Try.results10, go_sem, d0, d1, d2, d3]) rfl ⟨_, _, _, _, _, _, _, rfl, D4.out, Q4.out, B4.out, K4.out⟩

set_option maxHeartbeats 4000000 in
set_option maxRecDepth 100000 in
theorem law_Do_short (base : Nat) (w : World) (p gl M : Nat) (v : Value) (A : Option Addr) (n c : Nat) (A' : Option Addr) (n' c' : Nat) (D : DSt) (I At : Int) (y : Nat) (K : Option Addr) (kn kc : Nat) (ks : List Bool) (h : IsDisk base w p gl M v D) (hr : RDk w A n c A' n' c' D) (hs : Small D) (hok : DOk D) (hbs : base ≤ w.heap.size) (hy : y < 256) (hK : ∀ w', Below base w w' → Keeps w w' → KSl w' K kn ks) (hkn : kn ≤ 1000) :
    Calls Try.prog 10 #[.pointer (some ⟨p, 0, none⟩), rdV A n c A' n' c' D, .agg #[.int .u8 0, .int .i64 I, .int .i64 At, .int .u8 (y : Int), .bool true, .slice K kn kc]] w fun e w' => ∃ B m d B' m' d' v', e = .returned (.tuple #[rdV B m d B' m' d' (wrD D I ((secOf y).drop 1)).1, .bool true]) ∧ IsDisk base w' p gl M v' (wrD D I ((secOf y).drop 1)).1 ∧ RDk w' B m d B' m' d' (wrD D I ((secOf y).drop 1)).1 ∧ Below base w w' ∧ Keeps w w' := by
  unfold rdV
  obtain ⟨W0, hW0⟩ : ∃ W0, W0 = ((w.alloc (.cells #[.slice A n c, .slice A' n' c', .int .i64 D.armed, .int .i64 (D.ops : Int)] 31)).alloc (.cells #[.int .u8 0, .int .i64 I, .int .i64 At, .int .u8 (y : Int), .bool true, .slice K kn kc] 35)).alloc (.cells #[.slice none 0 0, .slice none 0 0, .int .i64 0, .int .i64 0] 31) := ⟨_, rfl⟩
  have hs1 : (w.alloc (.cells #[.slice A n c, .slice A' n' c', .int .i64 D.armed, .int .i64 (D.ops : Int)] 31)).heap.size = w.heap.size + 1 := by simp
  have hs2 : ((w.alloc (.cells #[.slice A n c, .slice A' n' c', .int .i64 D.armed, .int .i64 (D.ops : Int)] 31)).alloc (.cells #[.int .u8 0, .int .i64 I, .int .i64 At, .int .u8 (y : Int), .bool true, .slice K kn kc] 35)).heap.size = w.heap.size + 2 := by simp
  have b0 : Below w.heap.size w W0 := by rw [hW0]; exact (((Below.refl w.heap.size w).alloc (Nat.le_refl _) _).alloc (by rw [hs1]; omega) _).alloc (by rw [hs2]; omega) _
  have R0 : Hid (Blk W0 w.heap.size 31 [.slice A n c, .slice A' n' c', .int .i64 D.armed, .int .i64 (D.ops : Int)]) := Lib.hid (by rw [hW0]; exact (Blk.alloc (w := w.alloc _) (heap_alloc_new w _) _).alloc _)
  have A0 : Hid (Blk W0 (w.heap.size + 1) 35 [.int .u8 0, .int .i64 I, .int .i64 At, .int .u8 (y : Int), .bool true, .slice K kn kc]) := Lib.hid (by
    rw [hW0]
    have h1 := heap_alloc_new (w.alloc (.cells #[.slice A n c, .slice A' n' c', .int .i64 D.armed, .int .i64 (D.ops : Int)] 31)) (.cells #[.int .u8 0, .int .i64 I, .int .i64 At, .int .u8 (y : Int), .bool true, .slice K kn kc] 35)
    rw [hs1] at h1
    exact Blk.alloc (w := (w.alloc _).alloc _) h1 _)
  have Z0 : Hid (Blk W0 (w.heap.size + 2) 31 [.slice none 0 0, .slice none 0 0, .int .i64 0, .int .i64 0]) := Lib.hid (by
    rw [hW0]
    have h1 := heap_alloc_new ((w.alloc (.cells #[.slice A n c, .slice A' n' c', .int .i64 D.armed, .int .i64 (D.ops : Int)] 31)).alloc (.cells #[.int .u8 0, .int .i64 I, .int .i64 At, .int .u8 (y : Int), .bool true, .slice K kn kc] 35)) (.cells #[.slice none 0 0, .slice none 0 0, .int .i64 0, .int .i64 0] 31)
    rw [hs2] at h1
    exact h1)
  have D0 := Lib.hid (h.keep b0)
  have Q0 := Lib.hid (hr.keep b0)
  have B0 := Lib.hid (b0.mono hbs)
  have K0 := Lib.hid (Keeps.of_below b0)
  have C0 : Hid (base ≤ W0.heap.size) := Lib.hid (Nat.le_trans hbs b0.size)
  have HW0 := Lib.hid hW0
  have HBS := Lib.hid hbs
  have HKK := Lib.hid hK
  clear h hr hs1 hs2 b0 hW0 hbs hK
  obtain ⟨T, hT⟩ : ∃ T, T = ((secOf y).drop 1) := ⟨_, rfl⟩
  have HT := Lib.hid hT
  have hsz := (bs_size (secOf y)).trans (secOf_len y)
  have hx : (bs (secOf y)).extract 1 128 = bs T := by rw [bs_extract, hT, List.take_of_length_le (by rw [List.length_drop, secOf_len]; omega)]
  have HTX : Hid (T = T) := Lib.hid rfl
  have htl : T.length ≤ 1000000 := by rw [hT]; simp [secOf]
  clear hT
  go_enter Try.func10, Try.ntmps10
  go_wp2_with fail
  rw [← HW0.out]
  refine (law_Fill y W0 hy).mono ?_
  rintro e Wf ⟨rfl, bf⟩
  have R0f := Lib.hid (R0.out.keep bf)
  have A0f := Lib.hid (A0.out.keep bf)
  have Z0f := Lib.hid (Z0.out.keep bf)
  have Q0f := Lib.hid (Q0.out.keep bf)
  have D0f := Lib.hid (D0.out.keep bf)
  have B0f := Lib.hid (B0.out.trans (bf.mono C0.out))
  have K0f := Lib.hid (K0.out.trans (Keeps.of_below bf))
  have C0f : Hid (base ≤ Wf.heap.size) := Lib.hid (Nat.le_trans C0.out bf.size)
  obtain ⟨a0, a1, a2, a3, a4, a5⟩ := A0f.out.sixR
  clear bf
  go_wp2_with fail
  clear a0 a1 a2 a3 a4 a5
  try rw [HTX.out]
  refine (disk_Write base Wf p gl M v D I T D0f.out hs C0f.out htl).mono ?_
  rintro e W1 ⟨rfl, v1, h1, hb1, hk1⟩
  have R1 := Lib.hid (hk1 _ _ _ (by decide) (by decide) (by decide) R0f.out)
  have A1 := Lib.hid (hk1 _ _ _ (by decide) (by decide) (by decide) A0f.out)
  have Z1 := Lib.hid (hk1 _ _ _ (by decide) (by decide) (by decide) Z0f.out)
  have Q1 := Lib.hid (Q0f.out.keeps hk1)
  have B1 := Lib.hid (B0f.out.trans hb1)
  have K1 := Lib.hid (K0f.out.trans hk1)
  have C1 : Hid (base ≤ W1.heap.size) := Lib.hid (Nat.le_trans C0f.out hb1.size)
  obtain ⟨r0, r1, r2, r3⟩ := R1.out.fourR
  obtain ⟨a0, a1, a2, a3, a4, a5⟩ := A1.out.sixR
  have D1 := Lib.hid h1
  clear h1 hb1 hk1
  go_wp2_with fail
  clear r0 r1 r2 r3 a0 a1 a2 a3 a4 a5
  have HRC := Lib.hid (ref_Put12 W1 A n c A' n' c' D I T Q1.out hs (by rw [Q1.out.len.1]; exact hok.2.1) htl)
  generalize hE : (wrD D I T).1 = E at HRC D1
  have HE := Lib.hid hE
  clear hE
  generalize hcode : (wrD D I T).2 = code at HRC
  have hcc : ((code : Int) == (code : Int)) = true := by simp
  refine HRC.out.mono ?_
  rintro e W2 ⟨B, m, d, B', m', d', rfl, q2, bl⟩
  have D2 := Lib.hid (D1.out.keep bl)
  have R2 := Lib.hid (R1.out.keep bl)
  have Z2 := Lib.hid (Z1.out.keep bl)
  have B2 := Lib.hid (B1.out.trans (bl.mono C1.out))
  have K2 := Lib.hid (K1.out.trans (Keeps.of_below bl))
  obtain ⟨W3, run3, hR3, hB3, he3, hs3⟩ := store_rd2 R2.out B m d B' m' d' E.armed (E.ops : Int)
  have RUN3 := Lib.hid run3
  have R3 := Lib.hid hR3
  have B3 := Lib.hid (hB3 _ _ B2.out HBS.out)
  have D3 := Lib.hid (D2.out.aside R2.out (by decide) (by decide) (by decide) hs3 he3)
  have Q3 := Lib.hid (q2.aside R2.out (by decide) (by decide) he3)
  have K3 := Lib.hid (K2.out.aside (g := w.heap.size) (Nat.le_refl _) he3)
  have Z3 : Hid (Blk W3 (w.heap.size + 2) 31 [.slice none 0 0, .slice none 0 0, .int .i64 0, .int .i64 0]) := Lib.hid ((he3 _ (by omega)).trans Z2.out)
  obtain ⟨W4, run4, hR4, hB4, he4, hs4⟩ := store_rd2 Z3.out B m d B' m' d' E.armed (E.ops : Int)
  have RUN4 := Lib.hid run4
  have R4 := Lib.hid hR4
  have B4 := Lib.hid (hB4 _ _ B3.out (by have := HBS.out; omega))
  have D4 := Lib.hid (D3.out.aside Z3.out (by decide) (by decide) (by decide) hs4 he4)
  have Q4 := Lib.hid (Q3.out.aside Z3.out (by decide) (by decide) he4)
  have K4 := Lib.hid (K3.out.aside (g := w.heap.size + 2) (by omega) he4)
  obtain ⟨r0, r1, r2, r3⟩ := R3.out.fourR
  clear q2 bl run3 hR3 hB3 he3 hs3 run4 hR4 hB4 he4 hs4
  unfold rdV
  go_wp2_with (first | (refine wpList_store_to rfl 31 _ _ rfl ⟨w.heap.size, 0, none⟩ rfl (.agg #[.slice B m d, .slice B' m' d', .int .i64 E.armed, .int .i64 (E.ops : Int)]) rfl W3 RUN3.out ?_) | (refine wpList_store_to rfl 31 _ _ rfl ⟨w.heap.size + 2, 0, none⟩ rfl (.agg #[.slice B m d, .slice B' m' d', .int .i64 E.armed, .int .i64 (E.ops : Int)]) rfl W4 RUN4.out ?_))
  have hE2 := HE.out
  rw [HT.out] at hE2
  subst hE2
  obtain ⟨d0, d1, d2, d3⟩ := R4.out.fourR
  refine bodyPost_ret (v := .tuple #[.agg #[.slice B m d, .slice B' m' d', .int .i64 ((wrD D I ((secOf y).drop 1)).1).armed, .int .i64 (((wrD D I ((secOf y).drop 1)).1).ops : Int)], .bool true]) (by simp [results, Try.results10, go_sem, d0, d1, d2, d3]) rfl ⟨_, _, _, _, _, _, _, rfl, D4.out, Q4.out, B4.out, K4.out⟩

end Go.Proofs.Ytciophpplpmmfaa
