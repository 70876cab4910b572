/- The contract of nat's Div. -/
import Derived.Test.YtmjinhieeflkgaaDoorRRRRDivC
namespace Go.Proofs.YtmjinhieeflkgaaDoorRRRR
open Go.RowKit

/-- Four boxes of numbers behind one another: where a call of two numbers with two results begins. -/
theorem four_boxes (w : World) (t : TypeId) (a b q r : Value) :
    Blk ((((w.alloc (.cells #[a] t)).alloc (.cells #[b] t)).alloc (.cells #[q] t)).alloc (.cells #[r] t)) w.heap.size t [a] ∧
    Blk ((((w.alloc (.cells #[a] t)).alloc (.cells #[b] t)).alloc (.cells #[q] t)).alloc (.cells #[r] t)) (w.heap.size + 1) t [b] ∧
    Blk ((((w.alloc (.cells #[a] t)).alloc (.cells #[b] t)).alloc (.cells #[q] t)).alloc (.cells #[r] t)) (w.heap.size + 1 + 1) t [q] ∧
    Blk ((((w.alloc (.cells #[a] t)).alloc (.cells #[b] t)).alloc (.cells #[q] t)).alloc (.cells #[r] t)) (w.heap.size + 1 + 1 + 1) t [r] ∧
    Below w.heap.size w ((((w.alloc (.cells #[a] t)).alloc (.cells #[b] t)).alloc (.cells #[q] t)).alloc (.cells #[r] t)) := by
  refine ⟨(((Blk.new1 w t a).alloc _).alloc _).alloc _, ?_, ?_, ?_, ?_⟩
  · have := ((Blk.new1 (w.alloc (.cells #[a] t)) t b).alloc (.cells #[q] t)).alloc (.cells #[r] t)
    simpa using this
  · have := (Blk.new1 ((w.alloc (.cells #[a] t)).alloc (.cells #[b] t)) t q).alloc (.cells #[r] t)
    simpa using this
  · have := Blk.new1 (((w.alloc (.cells #[a] t)).alloc (.cells #[b] t)).alloc (.cells #[q] t)) t r
    simpa using this
  · exact ((((Below.refl _ _).alloc (Nat.le_refl _) _).alloc (by simp) _).alloc (by simp; omega) _).alloc (by simp; omega) _

def DivPost (w : World) (x y : Nat) (e : Ending) (w' : World) : Prop :=
  ∃ (A1 : Option Addr) (n1 c1 : Nat) (A2 : Option Addr) (n2 c2 : Nat) (code : Int), e = .returned (.tuple #[.agg #[.slice A1 n1 c1], .agg #[.slice A2 n2 c2], .int .i64 code]) ∧ Below w.heap.size w w' ∧
    ((y = 0 ∧ code = 3 ∧ Rep .u64 B64 w' A1 n1 c1 0 ∧ Rep .u64 B64 w' A2 n2 c2 0) ∨ (0 < y ∧ code = 0 ∧ Rep .u64 B64 w' A1 n1 c1 (x / y) ∧ Rep .u64 B64 w' A2 n2 c2 (x % y)))

set_option maxHeartbeats 2000000 in
theorem nat_Div_zero (A : Option Addr) (n c x : Nat) (B : Option Addr) (cb : Nat) (w : World) :
    Calls Tryd.prog 8 #[.agg #[.slice A n c], .agg #[.slice B 0 cb]] w (DivPost w x 0) := by
  go_enter Tryd.func8, Tryd.ntmps8
  obtain ⟨b1, b2, b3, b4, hB⟩ := four_boxes w 28 (.slice A n c) (.slice B 0 cb) (.slice none 0 0) (.slice none 0 0)
  have H1 := Lib.hid b1
  have H3 := Lib.hid b3
  have H4 := Lib.hid b4
  have HB := Lib.hid hB
  clear b1 b2 b3 b4 hB
  go_wp2_with fail
  refine (nat_Zero B 0 cb _).mono ?_
  rintro e w1 ⟨rfl, hb1⟩
  have K3 := Lib.hid (H3.out.keep hb1)
  have K4 := Lib.hid (H4.out.keep hb1)
  have HB1 := Lib.hid (HB.out.trans (hb1.mono HB.out.size))
  have hx3 := K3.out.cell0
  have hx4 := K4.out.cell0
  have hf3 := K3.out.frozen 0
  have hf4 := K4.out.frozen 0
  have hd : decide ((0 : Nat) = 0) = true := rfl
  have hs4 := ((K4.out.far (p := ⟨w.heap.size + 1 + 1, 0, none⟩) (by simp) (.slice none 0 0)).set_ 0 (.slice none 0 0)).cell 0
  have hs3 := ((K3.out.set_ 0 (.slice none 0 0)).far (p := ⟨w.heap.size + 1 + 1 + 1, 0, none⟩) (by simp) (.slice none 0 0)).cell 0
  clear hb1
  go_wp2
  exact bodyPost_ret (v := .tuple #[.agg #[.slice none 0 0], .agg #[.slice none 0 0], .int .i64 3]) (by simp [results, Tryd.results8, go_sem, hs3, hs4]) rfl
    ⟨_, _, _, _, _, _, _, rfl, (HB1.out.setCell (by simp; omega) _).setCell (by simp; omega) _, .inl ⟨rfl, rfl, Rep.zero _ _ _, Rep.zero _ _ _⟩⟩

set_option maxHeartbeats 4000000 in
theorem nat_Div_lt (A : Option Addr) (n c x : Nat) (B : Option Addr) (m cb y : Nat) (w : World) (h : Rep .u64 B64 w A n c x) (h' : Rep .u64 B64 w B m cb y) (hm : 0 < m) (hlt : x < y) :
    Calls Tryd.prog 8 #[.agg #[.slice A n c], .agg #[.slice B m cb]] w (DivPost w x y) := by
  go_enter Tryd.func8, Tryd.ntmps8
  obtain ⟨b1, b2, b3, b4, hB⟩ := four_boxes w 28 (.slice A n c) (.slice B m cb) (.slice none 0 0) (.slice none 0 0)
  have H1 := Lib.hid b1
  have H2 := Lib.hid b2
  have H3 := Lib.hid b3
  have H4 := Lib.hid b4
  have HB := Lib.hid hB
  have HRA := Lib.hid (h.keep hB)
  have HRB := Lib.hid (h'.keep hB)
  have HLT := Lib.hid hlt
  clear b1 b2 b3 b4 hB h h' hlt
  have hd : decide (m = 0) = false := decide_eq_false (by omega)
  go_wp2_with fail
  refine (nat_Zero B m cb _).mono ?_
  rintro e w1 ⟨rfl, hb1⟩
  have hx1 := (H1.out.keep hb1).cell0
  have hx2 := (H2.out.keep hb1).cell0
  have K1 := Lib.hid (H1.out.keep hb1)
  have K3 := Lib.hid (H3.out.keep hb1)
  have K4 := Lib.hid (H4.out.keep hb1)
  have HB1 := Lib.hid (HB.out.trans (hb1.mono HB.out.size))
  have HRA1 := Lib.hid (HRA.out.keep hb1)
  have HRB1 := Lib.hid (HRB.out.keep hb1)
  clear hb1
  go_wp2_with fail
  refine (nat_Cmp A n c x B m cb y _ HRA1.out HRB1.out).mono ?_
  rintro e w2 ⟨rfl, hb2⟩
  rw [cmpN_lt HLT.out]
  have hy1 := (K1.out.keep hb2).cell0
  have L3 := Lib.hid (K3.out.keep hb2)
  have L4 := Lib.hid (K4.out.keep hb2)
  have hx3 := L3.out.cell0
  have hx4 := L4.out.cell0
  have hf3 := L3.out.frozen 0
  have hf4 := L4.out.frozen 0
  have HB2 := Lib.hid (HB1.out.trans (hb2.mono HB1.out.size))
  have HRA2 := Lib.hid (HRA1.out.keep hb2)
  have hs4 := ((L4.out.far (p := ⟨w.heap.size + 1 + 1, 0, none⟩) (by simp) (.slice none 0 0)).set_ 0 (.slice A n c)).cell 0
  have hs3 := ((L3.out.set_ 0 (.slice none 0 0)).far (p := ⟨w.heap.size + 1 + 1 + 1, 0, none⟩) (by simp) (.slice A n c)).cell 0
  clear hb2 hx1 hx2
  go_wp2
  go_region
  all_goals go_wp2
  have hq : x / y = 0 := Nat.div_eq_of_lt HLT.out
  have hr : x % y = x := Nat.mod_eq_of_lt HLT.out
  exact bodyPost_ret (v := .tuple #[.agg #[.slice none 0 0], .agg #[.slice A n c], .int .i64 0]) (by simp [results, Tryd.results8, go_sem, hs3, hs4]) rfl
    ⟨_, _, _, _, _, _, _, rfl, Below.drewN ((HB2.out.setCell (by simp; omega) _).setCell (by simp; omega) _) 1, .inr ⟨by have := HLT.out; omega, rfl, by rw [hq]; exact Rep.zero _ _ _,
      by rw [hr]; exact (HRA2.out.setCell hx3 (fun i e => by cases e) _).setCell (L4.out.far (p := ⟨w.heap.size + 1 + 1, 0, none⟩) (by simp) (.slice none 0 0)).cell0 (fun i e => by cases e) _⟩⟩

set_option maxHeartbeats 4000000 in
theorem nat_Div_ge (A : Option Addr) (n c x : Nat) (B : Option Addr) (m cb y : Nat) (w : World) (h : Rep .u64 B64 w A n c x) (h' : Rep .u64 B64 w B m cb y) (hm : 0 < m) (hge : y ≤ x) (hn : n ≤ 100000000) (hx : x < Lim) :
    Calls Tryd.prog 8 #[.agg #[.slice A n c], .agg #[.slice B m cb]] w (DivPost w x y) := by
  have hmn : m ≤ n := (h'.len_le (by decide) n).2 (Nat.lt_of_le_of_lt hge ((h.len_le (by decide) n).1 (Nat.le_refl n)))
  have hy0 : 0 < y := by
    rcases Nat.eq_zero_or_pos y with h0 | h0
    · have := (h'.zero_iff B64_pos).2 h0; omega
    · exact h0
  have HY0 := Lib.hid hy0
  have HQL : Hid (x / y < Lim ∧ x % y < Lim) := Lib.hid ⟨Nat.lt_of_le_of_lt (Nat.div_le_self _ _) hx, Nat.lt_of_le_of_lt (Nat.mod_le _ _) hx⟩
  go_enter Tryd.func8, Tryd.ntmps8
  obtain ⟨b1, b2, b3, b4, hB⟩ := four_boxes w 28 (.slice A n c) (.slice B m cb) (.slice none 0 0) (.slice none 0 0)
  have H1 := Lib.hid b1
  have H2 := Lib.hid b2
  have H3 := Lib.hid b3
  have H4 := Lib.hid b4
  have HB := Lib.hid hB
  have HRA := Lib.hid (h.keep hB)
  have HRB := Lib.hid (h'.keep hB)
  have hc0 : decide (cmpN x y < 0) = false := by
    unfold cmpN; rw [if_neg (by omega)]; split <;> decide
  clear b1 b2 b3 b4 hB h h' hge hy0 hx
  have hd : decide (m = 0) = false := decide_eq_false (by omega)
  go_wp2_with fail
  refine (nat_Zero B m cb _).mono ?_
  rintro e w1 ⟨rfl, hb1⟩
  have hx1 := (H1.out.keep hb1).cell0
  have hx2 := (H2.out.keep hb1).cell0
  have K1 := Lib.hid (H1.out.keep hb1)
  have K2 := Lib.hid (H2.out.keep hb1)
  have K3 := Lib.hid (H3.out.keep hb1)
  have K4 := Lib.hid (H4.out.keep hb1)
  have HB1 := Lib.hid (HB.out.trans (hb1.mono HB.out.size))
  have HRA1 := Lib.hid (HRA.out.keep hb1)
  have HRB1 := Lib.hid (HRB.out.keep hb1)
  clear hb1
  go_wp2_with fail
  refine (nat_Cmp A n c x B m cb y _ HRA1.out HRB1.out).mono ?_
  rintro e w2 ⟨rfl, hb2⟩
  obtain ⟨cz, hcz⟩ : ∃ cz, cz = cmpN x y := ⟨_, rfl⟩
  rw [← hcz] at hc0 ⊢
  have hc1 : ¬ cz < 0 := of_decide_eq_false hc0
  have hy1 := (K1.out.keep hb2).cell0
  have hy2 := (K2.out.keep hb2).cell0
  have L3 := Lib.hid (K3.out.keep hb2)
  have L4 := Lib.hid (K4.out.keep hb2)
  have HB2 := Lib.hid (HB1.out.trans (hb2.mono HB1.out.size))
  have HRA2 := Lib.hid (HRA1.out.keep hb2)
  have HRB2 := Lib.hid (HRB1.out.keep hb2)
  clear hb2 hx1 hx2 hcz
  go_wp2_with fail
  refine (nat_divide A n c x B m cb y _ HRA2.out HRB2.out hm hmn hn).mono ?_
  rintro e w3 ⟨A1, n1, c1, A2, n2, c2, Q, R, rfl, hsq, hdq, hvq, hsr, hdr, hvr, hb3⟩
  have M3 := Lib.hid (L3.out.keep hb3)
  have M4 := Lib.hid (L4.out.keep hb3)
  have HB3 := Lib.hid (HB2.out.trans (hb3.mono HB2.out.size))
  have HSQ := Lib.hid hsq
  have HSR := Lib.hid hsr
  have HVQ := Lib.hid hvq
  have HVR := Lib.hid hvr
  clear hsq hsr hvq hvr hb3 hy1 hy2
  go_wp2_with fail
  refine (nat_made A2 n2 c2 R _ HSR.out hdr).mono ?_
  rintro e w4 ⟨A3, n3, c3, code, rfl, hgot, hb4⟩
  rw [HVR.out] at hgot
  obtain ⟨rfl, hrr⟩ := hgot.ok HQL.out.2
  have N3 := Lib.hid (M3.out.keep hb4)
  have N4 := Lib.hid (M4.out.keep hb4)
  have HB4 := Lib.hid (HB3.out.trans (hb4.mono HB3.out.size))
  have HRR := Lib.hid hrr
  have hx4 := N4.out.cell0
  have hf4 := N4.out.frozen 0
  have HSQ4 := Lib.hid (HSQ.out.keep hb4)
  clear hgot hb4 hrr
  have P3 := Lib.hid (N3.out.far (p := ⟨w.heap.size + 1 + 1 + 1, 0, none⟩) (by simp) (.slice A3 n3 c3))
  have P4 := Lib.hid (N4.out.set_ 0 (.slice A3 n3 c3))
  have HSQ5 := Lib.hid (HSQ4.out.setCell hx4 (fun i e => by cases e) (.slice A3 n3 c3))
  have HRR5 := Lib.hid (HRR.out.setCell hx4 (fun i e => by cases e) (.slice A3 n3 c3))
  have HB5 : Hid (Below w.heap.size w (w4.setCell ⟨w.heap.size + 1 + 1 + 1, 0, none⟩ (.slice A3 n3 c3))) := Lib.hid (HB4.out.setCell (by simp; omega) _)
  go_wp2_with fail
  refine (nat_made A1 n1 c1 Q _ HSQ5.out hdq).mono ?_
  rintro e w6 ⟨A4, n4, c4, code, rfl, hgot, hb6⟩
  rw [HVQ.out] at hgot
  obtain ⟨rfl, hrq⟩ := hgot.ok HQL.out.1
  have R3 := Lib.hid (P3.out.keep hb6)
  have R4 := Lib.hid (P4.out.keep hb6)
  have HB6 := Lib.hid (HB5.out.trans (hb6.mono HB5.out.size))
  have HRR6 := Lib.hid (HRR5.out.keep hb6)
  have HRQ := Lib.hid hrq
  have hz3 := R3.out.cell0
  have hz4 := R4.out.cell0
  have hg3 := R3.out.frozen 0
  have hg4 := R4.out.frozen 0
  have S3 := Lib.hid (R3.out.set_ 0 (.slice A4 n4 c4))
  have S4 := Lib.hid (R4.out.far (p := ⟨w.heap.size + 1 + 1, 0, none⟩) (by simp) (.slice A4 n4 c4))
  have hu3 := S3.out.cell0
  have hu4 := S4.out.cell0
  have hs4 := ((S4.out.far (p := ⟨w.heap.size + 1 + 1, 0, none⟩) (by simp) (.slice A4 n4 c4)).set_ 0 (.slice A3 n3 c3)).cell 0
  have hs3 := ((S3.out.set_ 0 (.slice A4 n4 c4)).far (p := ⟨w.heap.size + 1 + 1 + 1, 0, none⟩) (by simp) (.slice A3 n3 c3)).cell 0
  clear hgot hb6 hrq hx4 hf4
  go_wp2
  go_region
  all_goals go_wp2
  have hT4 := (S4.out.far (p := ⟨w.heap.size + 1 + 1, 0, none⟩) (by simp) (.slice A4 n4 c4)).cell0
  exact bodyPost_ret (v := .tuple #[.agg #[.slice A4 n4 c4], .agg #[.slice A3 n3 c3], .int .i64 0]) (by simp [results, Tryd.results8, go_sem, hs3, hs4]) rfl
    ⟨_, _, _, _, _, _, _, rfl, Below.drewN (((HB6.out.setCell (by simp; omega) _).setCell (by simp; omega) _).setCell (by simp; omega) _) 1, .inr ⟨HY0.out, rfl,
      (((HRQ.out.setCell hz3 (fun i e => by cases e) _).setCell hu3 (fun i e => by cases e) _).setCell hT4 (fun i e => by cases e) _),
      (((HRR6.out.setCell hz3 (fun i e => by cases e) _).setCell hu3 (fun i e => by cases e) _).setCell hT4 (fun i e => by cases e) _)⟩⟩

theorem nat_Div (A : Option Addr) (n c x : Nat) (B : Option Addr) (m cb y : Nat) (w : World) (h : Rep .u64 B64 w A n c x) (h' : Rep .u64 B64 w B m cb y) (hn : n ≤ 100000000) (hx : x < Lim) :
    Calls Tryd.prog 8 #[.agg #[.slice A n c], .agg #[.slice B m cb]] w (DivPost w x y) := by
  rcases Nat.eq_zero_or_pos m with h0 | h0
  · have hy := (h'.zero_iff B64_pos).1 h0
    subst hy
    subst h0
    exact nat_Div_zero A n c x B cb w
  · rcases Nat.lt_or_ge x y with hlt | hge
    · exact nat_Div_lt A n c x B m cb y w h h' h0 hlt
    · exact nat_Div_ge A n c x B m cb y w h h' h0 hge hn hx

end Go.Proofs.YtmjinhieeflkgaaDoorRRRR
