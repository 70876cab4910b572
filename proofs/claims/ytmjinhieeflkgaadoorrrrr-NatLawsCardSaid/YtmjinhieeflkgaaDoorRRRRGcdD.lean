/- The contract of nat's Gcd. -/
import Derived.Test.YtmjinhieeflkgaaDoorRRRRGcdC
import Derived.Test.YtmjinhieeflkgaaDoorRRRRShl
import Derived.Test.YtmjinhieeflkgaaDoorRRRRDivD
import Derived.Deep.RegionHeld3
namespace Go.Proofs.YtmjinhieeflkgaaDoorRRRR
open Go.RowKit

/-- How often 2 divides a number that isn't 0. -/
def tw (x : Nat) : Nat := Lib.ctzFrom (bl x) x
theorem tw_spec {x : Nat} (h : 0 < x) : ∃ m, x = 2 ^ tw x * (2 * m + 1) := by
  obtain ⟨m, hm, _⟩ := Lib.ctzFrom_spec (bl x) x h (bl_le.1 (Nat.le_refl _))
  exact ⟨m, hm⟩
theorem tw_eq {x t m : Nat} (h : 0 < x) (e : x = 2 ^ t * (2 * m + 1)) : tw x = t := by
  obtain ⟨k, hk⟩ := tw_spec h
  rw [e] at hk
  have := twos_unique hk
  rw [← e] at this
  exact this.1.symm

theorem nat_evensT (A : Option Addr) (n c x : Nat) (w : World) (h : Rep .u64 B64 w A n c x) (hn : n ≤ 1000000000) (h0 : 0 < x) (ht : Tz w) :
    Calls Tryd.prog 27 #[.slice A n c] w fun e w' => e = .returned (.int .i64 (tw x : Nat)) ∧ w = w' := by
  obtain ⟨xs, h1, h2, h3, h4⟩ := h
  refine (nat_evens A n c xs w h1 h2 hn (by rw [h4]; exact h0) ht).mono ?_
  rintro e w' ⟨t, M, rfl, hv, _, rfl⟩
  rw [h4] at hv
  exact ⟨ret_int (by rw [tw_eq h0 hv]), rfl⟩

/-- A number without its twos. -/
def od (x : Nat) : Nat := x / 2 ^ tw x
theorem od_eq {x t m : Nat} (h : 0 < x) (e : x = 2 ^ t * (2 * m + 1)) : od x = 2 * m + 1 := by
  unfold od
  rw [tw_eq h e]
  conv => lhs; rw [e]
  exact Nat.mul_div_cancel_left _ (Nat.two_pow_pos t)
theorem od_odd {x : Nat} (h : 0 < x) : ∃ m, od x = 2 * m + 1 := by
  obtain ⟨m, hm⟩ := tw_spec h
  exact ⟨m, od_eq h hm⟩
theorem gcd_od {x y : Nat} (hx : 0 < x) (hy : 0 < y) : Nat.gcd (od x) (od y) * 2 ^ min (tw x) (tw y) = Nat.gcd x y := by
  obtain ⟨m, hm⟩ := tw_spec hx
  obtain ⟨k, hk⟩ := tw_spec hy
  rw [od_eq hx hm, od_eq hy hk]
  conv => rhs; rw [hm, hk]
  exact gcd_twos.symm

theorem Opd.keep {w w' : World} {g f n c x : Nat} (h : Opd w g f n c x) (hb : Below w.heap.size w w') : Opd w' g f n c x := by
  obtain ⟨ps, xs, rest, h1, h2⟩ := h
  exact ⟨ps, xs, rest, h1.keep hb, h2⟩

theorem nat_oddR (A : Option Addr) (n c x : Nat) (w : World) (h : Rep .u64 B64 w A n c x) (hn : n ≤ 1000000000) (h0 : 0 < x) (ht : Tz w) :
    Calls Tryd.prog 29 #[.slice A n c] w fun e w' => ∃ g f' n' c' : Nat, e = .returned (.slice (some ⟨g, f', none⟩) n' c') ∧ w.heap.size ≤ g ∧ g < w'.heap.size ∧ Opd w' g f' n' c' (od x) ∧ Below w.heap.size w w' := by
  obtain ⟨xs, h1, h2, h3, h4⟩ := h
  refine (nat_odd A n c xs w h1 h2 hn (by rw [h4]; exact h0) ht).mono ?_
  rintro e w' ⟨g, f', n', c', t, M, ps', zs, rest', rfl, hg, hb2, hp2, hl2, hd2, ht2, hn2, hc2, hc3, hv, hv2, hbel⟩
  rw [h4] at hv
  exact ⟨g, f', n', c', rfl, hg, hb2.lt, ⟨ps', zs, rest', hb2, hp2, hl2, hd2, ht2, hc2, hc3, by omega, by rw [hv2, od_eq h0 hv]⟩, hbel⟩

theorem Blk.new1d (w : World) (t : TypeId) (v : Value) : Blk (w.alloc (.cells #[v] t)).drew w.heap.size t [v] := heap_alloc_new w _
theorem Got.eq {w : World} {x y : Nat} {A : Option Addr} {n c : Nat} {code : Int} (h : Got w x A n c code) (e : x = y) : Got w y A n c code := e ▸ h
theorem size_alloc (w : World) (o : Obj) : w.heap.size ≤ (w.alloc o).heap.size := by simp
theorem odd_arm (w3 : World) (A : Option Addr) (n c x : Nat) (w : World) (hK : Below w3.heap.size w3 w) (h : Rep .u64 B64 w3 A n c x) (hn : n ≤ 1000000000) (h0 : 0 < x) (ht : Tz w3) :
    Calls Tryd.prog 29 #[.slice A n c] w fun e w' => ∃ g f' n' c' : Nat, e = .returned (.slice (some ⟨g, f', none⟩) n' c') ∧ w.heap.size ≤ g ∧ g < w'.heap.size ∧ Opd w' g f' n' c' (od x) ∧ Below w3.heap.size w3 w' ∧ Below w.heap.size w w' :=
  (nat_oddR A n c x w (h.keep hK) hn h0 (ht.keep hK)).mono fun _ _ ⟨g, f', n', c', h1, h2, h3, h4, h5⟩ => ⟨g, f', n', c', h1, h2, h3, h4, hK.trans (h5.mono hK.size), h5⟩

theorem oddGcd_arm (w3 w : World) (g1 f1 n1 c1 x g2 f2 n2 c2 y : Nat) (hK : Below w3.heap.size w3 w) (h1 : Opd w g1 f1 n1 c1 (od x)) (h2 : Opd w g2 f2 n2 c2 (od y)) (hx : ∃ m, od x = 2 * m + 1) (hy : ∃ m, od y = 2 * m + 1) (hne : g1 ≠ g2)
    (hB1 : w3.heap.size ≤ g1) (hB2 : w3.heap.size ≤ g2) (ht : Tz w3) :
    Calls Tryd.prog 28 #[.slice (some ⟨g1, f1, none⟩) n1 c1, .slice (some ⟨g2, f2, none⟩) n2 c2] w fun e w' => ∃ (A' : Option Addr) (n' c' : Nat) (zs : List Nat), e = .returned (.slice A' n' c') ∧
      Sl .u64 w' A' n' c' zs ∧ Dig B64 zs ∧ val B64 zs = Nat.gcd (od x) (od y) ∧ Below w3.heap.size w3 w' ∧ Others w w' g1 g2 :=
  nat_oddGcd g1 f1 n1 c1 (od x) g2 f2 n2 c2 (od y) w3.heap.size w3 w h1 h2 hx hy hne hB1 hB2 hK hK.size ht ht.lt
theorem Others.blk {w w' : World} {a b g t : Nat} {cs : List Value} (h : Others w w' a b) (hb : Blk w g t cs) (ha : g ≠ a) (hb2 : g ≠ b) : Blk w' g t cs := (h.2 g hb.lt ha hb2).trans hb

/-- Three boxes of numbers behind one another. -/
theorem three_boxes (w : World) (t : TypeId) (a b q : Value) :
    Blk (((w.alloc (.cells #[a] t)).alloc (.cells #[b] t)).alloc (.cells #[q] t)) w.heap.size t [a] ∧
    Blk (((w.alloc (.cells #[a] t)).alloc (.cells #[b] t)).alloc (.cells #[q] t)) (w.heap.size + 1) t [b] ∧
    Blk (((w.alloc (.cells #[a] t)).alloc (.cells #[b] t)).alloc (.cells #[q] t)) (w.heap.size + 1 + 1) t [q] ∧
    Below w.heap.size w (((w.alloc (.cells #[a] t)).alloc (.cells #[b] t)).alloc (.cells #[q] t)) := by
  refine ⟨((Blk.new1 w t a).alloc _).alloc _, ?_, ?_, ?_⟩
  · have := (Blk.new1 (w.alloc (.cells #[a] t)) t b).alloc (.cells #[q] t)
    simpa using this
  · have := Blk.new1 ((w.alloc (.cells #[a] t)).alloc (.cells #[b] t)) t q
    simpa using this
  · exact (((Below.refl _ _).alloc (Nat.le_refl _) _).alloc (by simp) _).alloc (by simp; omega) _

def GcdPost (w : World) (g : Nat) (e : Ending) (w' : World) : Prop :=
  ∃ (A' : Option Addr) (n' c' : Nat), e = .returned (.agg #[.slice A' n' c']) ∧ Rep .u64 B64 w' A' n' c' g ∧ Below w.heap.size w w'

theorem nat_Gcd_a (A : Option Addr) (c : Nat) (B : Option Addr) (m cb y : Nat) (w : World) (h' : Rep .u64 B64 w B m cb y) :
    Calls Tryd.prog 11 #[.agg #[.slice A 0 c], .agg #[.slice B m cb]] w (GcdPost w y) := by
  go_enter Tryd.func11, Tryd.ntmps11
  obtain ⟨b1, b2, b3, hB⟩ := three_boxes w 28 (.slice A 0 c) (.slice B m cb) (.slice none 0 0)
  have H2 := Lib.hid b2
  have H3 := Lib.hid b3
  have HB := Lib.hid hB
  have HR := Lib.hid (h'.keep hB)
  have hd : decide ((0 : Nat) = 0) = true := rfl
  clear b1 b2 b3 hB h'
  go_wp2_with fail
  refine (nat_Zero A 0 c _).mono ?_
  rintro e w1 ⟨rfl, hb1⟩
  have hx2 := (H2.out.keep hb1).cell0
  have K3 := H3.out.keep hb1
  have hx3 := K3.cell0
  have hf3 := K3.frozen 0
  have hst := K3.stored (.slice B m cb)
  have HB1 := Lib.hid (HB.out.trans (hb1.mono HB.out.size))
  have HR1 := Lib.hid (HR.out.keep hb1)
  clear hb1 K3
  go_wp2
  exact bodyPost_ret (v := .agg #[.slice B m cb]) (by simp [results, Tryd.results11, go_sem, hst]) rfl
    ⟨_, _, _, rfl, HR1.out.setCell hx3 (fun i e => by cases e) _, HB1.out.setCell (by simp; omega) _⟩

theorem nat_Gcd_b (A : Option Addr) (n c x : Nat) (B : Option Addr) (cb : Nat) (w : World) (h : Rep .u64 B64 w A n c x) (hn0 : 0 < n) :
    Calls Tryd.prog 11 #[.agg #[.slice A n c], .agg #[.slice B 0 cb]] w (GcdPost w x) := by
  go_enter Tryd.func11, Tryd.ntmps11
  obtain ⟨b1, b2, b3, hB⟩ := three_boxes w 28 (.slice A n c) (.slice B 0 cb) (.slice none 0 0)
  have H1 := Lib.hid b1
  have H2 := Lib.hid b2
  have H3 := Lib.hid b3
  have HB := Lib.hid hB
  have HR := Lib.hid (h.keep hB)
  have hd : decide ((0 : Nat) = 0) = true := rfl
  have hd2 : decide (n = 0) = false := decide_eq_false (by omega)
  clear b1 b2 b3 hB h
  go_wp2_with fail
  refine (nat_Zero A n c _).mono ?_
  rintro e w1 ⟨rfl, hb1⟩
  have hx2 := (H2.out.keep hb1).cell0
  have K1 := Lib.hid (H1.out.keep hb1)
  have K3 := Lib.hid (H3.out.keep hb1)
  have HB1 := Lib.hid (HB.out.trans (hb1.mono HB.out.size))
  have HR1 := Lib.hid (HR.out.keep hb1)
  clear hb1
  go_wp2_with fail
  refine (nat_Zero B 0 cb _).mono ?_
  rintro e w2 ⟨rfl, hb2⟩
  have hx1 := (K1.out.keep hb2).cell0
  have L3 := K3.out.keep hb2
  have hx3 := L3.cell0
  have hf3 := L3.frozen 0
  have hst := L3.stored (.slice A n c)
  have HB2 := Lib.hid (HB1.out.trans (hb2.mono HB1.out.size))
  have HR2 := Lib.hid (HR1.out.keep hb2)
  clear hb2 L3 hx2
  go_wp2
  exact bodyPost_ret (v := .agg #[.slice A n c]) (by simp [results, Tryd.results11, go_sem, hst]) rfl
    ⟨_, _, _, rfl, HR2.out.setCell hx3 (fun i e => by cases e) _, HB2.out.setCell (by simp; omega) _⟩

set_option maxHeartbeats 4000000 in
set_option maxRecDepth 100000 in
theorem nat_Gcd_main (A : Option Addr) (n c x : Nat) (B : Option Addr) (m cb y : Nat) (w : World) (h : Rep .u64 B64 w A n c x) (h' : Rep .u64 B64 w B m cb y) (hn0 : 0 < n) (hm0 : 0 < m) (hn : n ≤ 100000000) (hm : m ≤ 100000000) (hx : x < Lim) (ht : Tz w) :
    Calls Tryd.prog 11 #[.agg #[.slice A n c], .agg #[.slice B m cb]] w (GcdPost w (Nat.gcd x y)) := by
  have hx0 : 0 < x := Nat.pos_of_ne_zero (fun e => by have := (h.zero_iff B64_pos).2 e; omega)
  have hy0 : 0 < y := Nat.pos_of_ne_zero (fun e => by have := (h'.zero_iff B64_pos).2 e; omega)
  have HX0 := Lib.hid hx0
  have HY0 := Lib.hid hy0
  have HGL : Hid (Nat.gcd x y < Lim) := Lib.hid (Nat.lt_of_le_of_lt (Nat.gcd_le_left y hx0) hx)
  go_enter Tryd.func11, Tryd.ntmps11
  obtain ⟨b1, b2, b3, hB⟩ := three_boxes w 28 (.slice A n c) (.slice B m cb) (.slice none 0 0)
  have H1 := Lib.hid b1
  have H2 := Lib.hid b2
  have H3 := Lib.hid b3
  have HB := Lib.hid hB
  have HRA := Lib.hid (h.keep hB)
  have HRB := Lib.hid (h'.keep hB)
  have HT := Lib.hid ht
  have hd1 : decide (n = 0) = false := decide_eq_false (by omega)
  have hd2 : decide (m = 0) = false := decide_eq_false (by omega)
  clear b1 b2 b3 hB h h' hx hx0 hy0 ht
  go_wp2_with fail
  refine (nat_Zero A n c _).mono ?_
  rintro e w1 ⟨rfl, hb1⟩
  have hx2 := (H2.out.keep hb1).cell0
  have K1 := Lib.hid (H1.out.keep hb1)
  have K2 := Lib.hid (H2.out.keep hb1)
  have K3 := Lib.hid (H3.out.keep hb1)
  have HB1 := Lib.hid (HB.out.trans (hb1.mono HB.out.size))
  have HRA1 := Lib.hid (HRA.out.keep hb1)
  have HRB1 := Lib.hid (HRB.out.keep hb1)
  clear hb1
  go_wp2_with fail
  refine (nat_Zero B m cb _).mono ?_
  rintro e w2 ⟨rfl, hb2⟩
  have L1 := Lib.hid (K1.out.keep hb2)
  have L2 := Lib.hid (K2.out.keep hb2)
  have L3 := Lib.hid (K3.out.keep hb2)
  have hy1 := L1.out.cell0
  have hy2 := L2.out.cell0
  have HB2 := Lib.hid (HB1.out.trans (hb2.mono HB1.out.size))
  have HRA2 := Lib.hid (HRA1.out.keep hb2)
  have HRB2 := Lib.hid (HRB1.out.keep hb2)
  have HT2 : Hid (Tz w2) := Lib.hid (HT.out.keep HB2.out)
  clear hb2 hx2
  have HEA : Hid (∀ k, Calls Tryd.prog 27 #[.slice A n c] (w2.drewN k) fun e w' => e = .returned (.int .i64 (tw x : Nat)) ∧ w2.drewN k = w') := Lib.hid (fun k => nat_evensT A n c x _ (HRA2.out.drewN k) (by omega) HX0.out (HT2.out.drewN k))
  have HEB : Hid (∀ k, Calls Tryd.prog 27 #[.slice B m cb] (w2.drewN k) fun e w' => e = .returned (.int .i64 (tw y : Nat)) ∧ w2.drewN k = w') := Lib.hid (fun k => nat_evensT B m cb y _ (HRB2.out.drewN k) (by omega) HY0.out (HT2.out.drewN k))
  go_wp2
  go_quiet ((first | (go_at_call_of 27 (Value.slice A n c); exact qcall0 (HEA.out _)) | (go_at_call_of 27 (Value.slice B m cb); exact qcall0 (HEB.out _))))
  have M1 : Hid (Blk (w2.drewN nq) w.heap.size 28 [.slice A n c]) := L1
  have M2 : Hid (Blk (w2.drewN nq) (w.heap.size + 1) 28 [.slice B m cb]) := L2
  have M3 : Hid (Blk (w2.drewN nq) (w.heap.size + 1 + 1) 28 [.slice none 0 0]) := L3
  have HB3 : Hid (Below w.heap.size w (w2.drewN nq)) := Lib.hid (Below.drewN HB2.out nq)
  have HRA3 : Hid (Rep .u64 B64 (w2.drewN nq) A n c x) := HRA2
  have HRB3 : Hid (Rep .u64 B64 (w2.drewN nq) B m cb y) := HRB2
  have HT3 : Hid (Tz (w2.drewN nq)) := HT2
  generalize World.drewN w2 nq = w3 at M1 M2 M3 HB3 HRA3 HRB3 HT3 ⊢
  clear hy1 hy2 HEA HEB L1 L2 L3 HRA2 HRB2 HT2
  have hy1 := M1.out.cell0
  have hy2 := M2.out.cell0
  go_wp2
  obtain ⟨tm, htm⟩ : ∃ tm, tm = min (tw x) (tw y) := ⟨_, rfl⟩
  have hmin : min ((tw x : Nat) : Int) ((tw y : Nat) : Int) = (tm : Int) := by omega
  rw [hmin]
  have HTM := Lib.hid htm
  clear htm hmin
  have HT := HT3
  have htl : 0 < w3.heap.size := HT3.out.lt
  have hw3 : w.heap.size + 1 + 1 < w3.heap.size := M3.out.lt
  have HODX := Lib.hid (od_odd HX0.out)
  have HODY := Lib.hid (od_odd HY0.out)
  have HGO : Hid (Nat.gcd (od x) (od y) * 2 ^ tm = Nat.gcd x y) := Lib.hid (by rw [HTM.out]; exact gcd_od HX0.out HY0.out)
  have HGOL : Hid (Nat.gcd (od x) (od y) < Lim) := Lib.hid (Nat.lt_of_le_of_lt (by rw [← HGO.out]; exact Nat.le_mul_of_pos_right _ (Nat.two_pow_pos tm)) HGL.out)
  have HC : Hid (∀ w', Below w3.heap.size w3 w' → w'.cell? ⟨w.heap.size, 0, none⟩ = some (.slice A n c) ∧ w'.cell? ⟨w.heap.size + 1, 0, none⟩ = some (.slice B m cb)) :=
    Lib.hid (fun w' hb => ⟨(M1.out.keep hb).cell0, (M2.out.keep hb).cell0⟩)
  have HK0 : Hid (Below w3.heap.size w3 w3.drew) := Lib.hid ((Below.refl _ _).drew)
  go_cut [6, 7] (fun s6 s7 wx => ∃ (gb : Nat) (A3 : Option Addr) (n3 c3 : Nat), s6 = .pointer (some ⟨gb, 0, none⟩) ∧ s7 = .int .i64 0 ∧ w3.heap.size ≤ gb ∧ Hid (Blk wx gb 28 [.slice A3 n3 c3]) ∧ Hid (Rep .u64 B64 wx A3 n3 c3 (Nat.gcd (od x) (od y))) ∧ Hid (Below w3.heap.size w3 wx))
  case first =>
    have HK0b : Hid (Below w3.heap.size w3 (w3.alloc (.cells #[.slice none 0 0] 28)).drew) := Lib.hid (((Below.refl _ _).alloc (Nat.le_refl _) _).drew)
    go_region_held3 (fun w' => w'.cell? ⟨w.heap.size, 0, none⟩ = some (.slice A n c) ∧ w'.cell? ⟨w.heap.size + 1, 0, none⟩ = some (.slice B m cb))
      (first | exact HC.out _ (HK4.out.setCell HK3.out.size _) | exact HC.out _ (HK4.out.setCell HK2.out.size _) | exact HC.out _ (HK4.out.setCell HK1.out.size _) | exact HC.out _ (HK4.out.setCell (Nat.le_refl _) _) | exact HC.out _ (HK4.out.alloc HK4.out.size _) | exact HC.out _ HK4.out | exact HC.out _ (HK3.out.alloc HK3.out.size _) | exact HC.out _ HK3.out | exact HC.out _ (HK2.out.alloc HK2.out.size _) | exact HC.out _ HK2.out | exact HC.out _ (HK1.out.alloc HK1.out.size _) | exact HC.out _ HK1.out | exact HC.out _ HK0b.out | exact HC.out _ HK0.out | exact HC.out _ ((Below.refl _ _).alloc (Nat.le_refl _) _) | exact HC.out _ (Below.refl _ _) | (simp [*]; done))
      (first
        | (go_at_call_of 29 (Value.slice A n c)
           refine (odd_arm w3 A n c x _ ?_ HRA3.out (by omega) HX0.out HT3.out).mono ?_
           (first | exact HK0.out | exact HK0b.out)
           rintro e v1 ⟨g1, f1, n1, c1, rfl, hg1, hg1l, ho1, hk1, hb1⟩
           have HK1 := Lib.hid hk1
           have HO1 := Lib.hid ho1
           try have hn1 := Nat.ne_of_lt (Nat.lt_of_lt_of_le (Blk.new1d w3 28 (.slice none 0 0)).lt hg1)
           try have HG1 := Lib.hid ((Blk.new1d w3 28 (.slice none 0 0)).keep hb1)
           clear ho1 hb1 hk1)
        | (go_at_call_of 29 (Value.slice B m cb)
           refine (odd_arm w3 B m cb y _ ?_ HRB3.out (by omega) HY0.out HT3.out).mono ?_
           (first | exact HK1.out | exact HK1.out.alloc HK1.out.size _)
           rintro e v2 ⟨g2, f2, n2, c2, rfl, hg2, hg2l, ho2, hk2, hb2⟩
           have HK2 := Lib.hid hk2
           have HO2 := Lib.hid ho2
           have HLT12 := Lib.hid hg2
           first | have HO12 := Lib.hid (HO1.out.keep hb2) | have HO12 := Lib.hid ((HO1.out.keep ((Below.refl _ _).alloc (Nat.le_refl _) _)).keep hb2)
           try (have hn2 := Nat.ne_of_lt (Nat.lt_of_lt_of_le HG1.out.lt hg2); have HG2 := Lib.hid (HG1.out.keep hb2))
           try (have hn1 := Nat.ne_of_gt hg1l; have hn2 := Nat.ne_of_lt (Nat.lt_of_lt_of_le (Blk.new1 v1 28 (.slice none 0 0)).lt hg2); have HG2 := Lib.hid ((Blk.new1 v1 28 (.slice none 0 0)).keep hb2))
           clear ho2 hb2 hk2)
        | (go_at_call 28
           refine (oddGcd_arm w3 _ g1 f1 n1 c1 x g2 f2 n2 c2 y ?_ ?_ ?_ HODX.out HODY.out ?_ ?_ ?_ HT3.out).mono ?_
           (first | exact HK2.out | exact HK2.out.alloc HK2.out.size _)
           (first | exact HO12.out | exact HO12.out.keep ((Below.refl _ _).alloc (Nat.le_refl _) _))
           (first | exact HO2.out | exact HO2.out.keep ((Below.refl _ _).alloc (Nat.le_refl _) _))
           (first | exact Nat.ne_of_lt (Nat.lt_of_lt_of_le hg1l hg2) | exact Nat.ne_of_lt (Nat.lt_of_lt_of_le hg1l (Nat.le_trans (size_alloc _ _) hg2)))
           (first | exact Nat.le_trans HK0.out.size hg1 | exact Nat.le_trans HK0b.out.size hg1)
           (first | exact Nat.le_trans HK1.out.size hg2 | exact Nat.le_trans HK1.out.size (Nat.le_trans (size_alloc _ _) hg2))
           rintro e v3 ⟨A5, n5, c5, zs, rfl, hsl, hdz, hvz, hk3, hb3⟩
           have HK3 := Lib.hid hk3
           have HSL := Lib.hid hsl
           have HVZ := Lib.hid hvz
           first | have HG3 := Lib.hid (hb3.blk HG2.out hn1 hn2) | have HG3 := Lib.hid (hb3.blk (Blk.new1 v2 28 (.slice none 0 0)) (Nat.ne_of_gt (Nat.lt_trans (Nat.lt_of_lt_of_le hg1l hg2) hg2l)) (Nat.ne_of_gt hg2l)) | skip
           clear hsl hvz hk3 hb3)
        | (go_at_call 22
           refine (nat_made A5 n5 c5 zs _ ?_ hdz).mono ?_
           (first | exact HSL.out | exact HSL.out.alloc _)
           rintro e v4 ⟨A6, n6, c6, code, rfl, hgot, hb4⟩
           obtain ⟨rfl, hr4⟩ := (hgot.eq HVZ.out).ok HGOL.out
           have HR4 := Lib.hid hr4
           first | have HK4 := Lib.hid (HK3.out.trans (hb4.mono HK3.out.size)) | have HK4 := Lib.hid ((HK3.out.alloc HK3.out.size _).trans (hb4.mono (HK3.out.alloc HK3.out.size _).size))
           try have HG4 := Lib.hid (HG3.out.keep hb4)
           try have HG4 := Lib.hid ((Blk.new1 v3 28 (.slice none 0 0)).keep hb4)
           try have hcg4 := HG4.out.cell0
           try have hfg4 := HG4.out.frozen 0
           clear hgot hb4 hr4))
    all_goals
      go_wp2_with fail
      go_meet
      first | exact ⟨v4.heap.size, A6, n6, c6, rfl, rfl, HK4.out.size, Lib.hid (Blk.new1 v4 _ _), Lib.hid (HR4.out.alloc _), Lib.hid (HK4.out.alloc HK4.out.size _)⟩ | exact ⟨_, A6, n6, c6, rfl, rfl, HK3.out.size, Lib.hid (HG4.out.set_ 0 _), Lib.hid (HR4.out.setCell hcg4 (fun i e => by cases e) _), Lib.hid (HK4.out.setCell HK3.out.size _)⟩ | exact ⟨_, A6, n6, c6, rfl, rfl, HK2.out.size, Lib.hid (HG4.out.set_ 0 _), Lib.hid (HR4.out.setCell hcg4 (fun i e => by cases e) _), Lib.hid (HK4.out.setCell HK2.out.size _)⟩ | exact ⟨_, A6, n6, c6, rfl, rfl, HK1.out.size, Lib.hid (HG4.out.set_ 0 _), Lib.hid (HR4.out.setCell hcg4 (fun i e => by cases e) _), Lib.hid (HK4.out.setCell HK1.out.size _)⟩ | exact ⟨_, A6, n6, c6, rfl, rfl, (Nat.le_refl _), Lib.hid (HG4.out.set_ 0 _), Lib.hid (HR4.out.setCell hcg4 (fun i e => by cases e) _), Lib.hid (HK4.out.setCell (Nat.le_refl _) _)⟩
  case rest =>
    obtain ⟨gb, A3, n3, c3, rfl, rfl, hgb, hbg, hr3, hbw⟩ := hcut
    have hxg := hbg.out.cell0
    have hn3 : n3 ≤ 64 := (hr3.out.len_le (by decide) 64).2 HGOL.out
    have hgb2 : w.heap.size + 1 + 1 < gb := by omega
    have hgs := hbg.out.lt
    go_wp2_with fail
    refine (nat_Shl A3 n3 c3 (Nat.gcd (od x) (od y)) tm _ hr3.out (by omega) HGOL.out).mono ?_
    rintro e w5 ⟨A7, n7, c7, code, rfl, hgot, hb5⟩
    rw [HGO.out] at hgot
    obtain ⟨rfl, hr7⟩ := hgot.ok HGL.out
    have HR7 := Lib.hid hr7
    have P3 := Lib.hid ((M3.out.keep hbw.out).keep hb5)
    have PG := Lib.hid (hbg.out.keep hb5)
    have HB5 : Hid (Below w.heap.size w w5) := Lib.hid ((HB3.out.trans (hbw.out.mono (by omega))).trans (hb5.mono (Nat.le_trans (by omega) hbw.out.size)))
    have hxg5 := PG.out.cell0
    have hfg5 := PG.out.frozen 0
    have PG2 := Lib.hid (PG.out.set_ 0 (.slice A7 n7 c7))
    have P32 := Lib.hid (P3.out.far (p := ⟨gb, 0, none⟩) (by simp; omega) (.slice A7 n7 c7))
    have hxg6 := PG2.out.cell0
    have hx3 := P32.out.cell0
    have hf3 := P32.out.frozen 0
    have hst := P32.out.stored (.slice A7 n7 c7)
    clear hgot hr7 hb5 hxg
    go_wp2
    exact bodyPost_ret (v := .agg #[.slice A7 n7 c7]) (by simp [results, Tryd.results11, go_sem, hst]) rfl
      ⟨_, _, _, rfl, (HR7.out.setCell hxg5 (fun i e => by cases e) _).setCell hx3 (fun i e => by cases e) _, (HB5.out.setCell (by simp; omega) _).setCell (by simp; omega) _⟩

theorem nat_Gcd (A : Option Addr) (n c x : Nat) (B : Option Addr) (m cb y : Nat) (w : World) (h : Rep .u64 B64 w A n c x) (h' : Rep .u64 B64 w B m cb y) (hn : n ≤ 100000000) (hm : m ≤ 100000000) (hx : x < Lim) (ht : Tz w) :
    Calls Tryd.prog 11 #[.agg #[.slice A n c], .agg #[.slice B m cb]] w (GcdPost w (Nat.gcd x y)) := by
  rcases Nat.eq_zero_or_pos n with h0 | h0
  · have hx0 := (h.zero_iff B64_pos).1 h0
    subst hx0
    subst h0
    rw [Nat.gcd_zero_left]
    exact nat_Gcd_a A c B m cb y w h'
  · rcases Nat.eq_zero_or_pos m with k0 | k0
    · have hy0 := (h'.zero_iff B64_pos).1 k0
      subst hy0
      subst k0
      rw [Nat.gcd_zero_right]
      exact nat_Gcd_b A n c x B cb w h h0
    · exact nat_Gcd_main A n c x B m cb y w h h' h0 k0 hn hm hx ht

end Go.Proofs.YtmjinhieeflkgaaDoorRRRR
