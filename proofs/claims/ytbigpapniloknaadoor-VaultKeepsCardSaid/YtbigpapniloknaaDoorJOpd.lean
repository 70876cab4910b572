/- What Open answers, as one function of the bytes; what is closed is opened; a turned sector; only what is closed is opened. The document's example of layer 13; the walk of SealSums. The walk of SealTells: a sector of which one byte was turned; only what is closed is opened. -/
import Derived.Test.YtbigpapniloknaaDoorOpenC
import Derived.Test.YtbigpapniloknaaDoorSealB
import Derived.ProofKit
import Derived.Lib.ConvBytes
namespace Go.Proofs.YtbigpapniloknaaDoor
open Go.RowKit

/-- The record that stands in the 124 bytes, or the error. -/
def openL (L0 : List UInt8) : (Nat × Nat × Nat × List UInt8) × Nat :=
  if 110 < beV ((((L0.drop 1).drop 8).drop 4).take 1) ∨ zeroL (((((L0.drop 1).drop 8).drop 4).drop 1).drop (beV ((((L0.drop 1).drop 8).drop 4).take 1))) = false then ((0, 0, 0, []), 4)
  else ((beV (L0.take 1), beV ((L0.drop 1).take 8), beV (((L0.drop 1).drop 8).take 4), ((((L0.drop 1).drop 8).drop 4).drop 1).take (beV ((((L0.drop 1).drop 8).drop 4).take 1))), 0)
/-- What Open answers. -/
def openT (l : List UInt8) : (Nat × Nat × Nat × List UInt8) × Nat :=
  if l.length ≠ 128 then ((0, 0, 0, []), 4) else if zeroL l = true then ((0, 0, 0, []), 16) else if l.drop 124 ≠ leL (crcSum (l.take 124)) then ((0, 0, 0, []), 8) else openL (l.take 124)
def recV (r : Nat × Nat × Nat × List UInt8) : Value := .agg #[.int .u8 (r.1 : Int), .int .u64 (r.2.1 : Int), .int .u32 (r.2.2.1 : Int), .string (bs r.2.2.2)]
theorem recV_zero : recV (0, 0, 0, []) = recZ := rfl

theorem seal_Open (l : List UInt8) (w : World) (hl2 : l.length ≤ 9223372036854775807) :
    Calls Tryd.prog 39 #[.string (bs l)] w fun e w' => e = .returned (.tuple #[recV (openT l).1, .int .i64 (((openT l).2 : Nat) : Int)]) ∧ Below w.heap.size w w' := by
  unfold openT
  by_cases hl : l.length = 128
  · rw [if_neg (fun h => h hl)]
    by_cases hz : zeroL l = true
    · rw [if_pos hz]
      exact seal_Open_none l w hl hz
    · rw [if_neg hz]
      have hz' : zeroL l = false := by simpa using hz
      by_cases hs : l.drop 124 = leL (crcSum (l.take 124))
      · rw [if_neg (fun h => h hs)]
        unfold openL
        by_cases hb : 110 < beV (((((l.take 124).drop 1).drop 8).drop 4).take 1)
        · rw [if_pos (.inl hb)]
          exact seal_Open_great l _ _ _ _ _ _ w hl hz' hs rfl rfl rfl rfl rfl rfl hb
        · by_cases hb2 : zeroL ((((((l.take 124).drop 1).drop 8).drop 4).drop 1).drop (beV (((((l.take 124).drop 1).drop 8).drop 4).take 1))) = false
          · rw [if_pos (.inr hb2)]
            exact seal_Open_bad l _ _ _ _ _ _ w hl hz' hs rfl rfl rfl rfl rfl rfl (by omega) hb2
          · rw [if_neg (fun h => h.elim hb hb2)]
            exact seal_Open_ok l _ _ _ _ _ _ w hl hz' hs rfl rfl rfl rfl rfl rfl (by omega) (by simpa using hb2)
      · rw [if_pos hs]
        exact seal_Open_rot l w hl hz' hs
  · rw [if_pos hl]
    exact seal_Open_form l w hl hl2

/-- Bounds that a record keeps. -/
def RecOk (r : Nat × Nat × Nat × List UInt8) : Prop := r.1 < 256 ∧ r.2.1 < 18446744073709551616 ∧ r.2.2.1 < 4294967296 ∧ r.2.2.2.length ≤ 110

theorem leL_inj {x y : Nat} (hx : x < 4294967296) (hy : y < 4294967296) (h : leL x = leL y) : x = y := by
  have h2 : nb (leL x) = nb (leL y) := by rw [h]
  simp only [nb, leL, List.map_cons, List.map_nil, UInt8.toNat_ofNat', List.cons.injEq] at h2
  omega
theorem leL_zero {x : Nat} (hx : x < 4294967296) (h : zeroL (leL x) = true) : x = 0 := by
  rw [zeroL_iff] at h
  have h0 := congrArg UInt8.toNat (h (UInt8.ofNat (x % 256)) (by simp [leL]))
  have h1 := congrArg UInt8.toNat (h (UInt8.ofNat (x / 256 % 256)) (by simp [leL]))
  have h2 := congrArg UInt8.toNat (h (UInt8.ofNat (x / 65536 % 256)) (by simp [leL]))
  have h3 := congrArg UInt8.toNat (h (UInt8.ofNat (x / 16777216 % 256)) (by simp [leL]))
  simp only [UInt8.toNat_ofNat', UInt8.toNat_zero] at h0 h1 h2 h3
  omega
theorem zeroL_append (l m : List UInt8) : zeroL (l ++ m) = (zeroL l && zeroL m) := by simp [zeroL, List.all_append]
theorem crc_zeros_ne : crcSum (List.replicate 124 0) ≠ 0 := fun h => by
  have := crcSum_zeros_bytes.1
  rw [h] at this
  exact this rfl

theorem secL_not_zero (k g i : Nat) (d : List UInt8) (hd : d.length ≤ 110) : zeroL (secL k g i d) = false := by
  by_cases h : zeroL (secL k g i d) = true
  · exfalso
    rw [secL, zeroL_append, Bool.and_eq_true] at h
    have h1 := zeroL_rep h.1
    rw [bodyL_len _ _ _ _ hd] at h1
    have h2 := leL_zero (crcSum_lt _) h.2
    rw [h1] at h2
    exact crc_zeros_ne h2
  · simpa using h

theorem drop_app {a b : List UInt8} {n : Nat} (h : a.length = n) : (a ++ b).drop n = b := by rw [← h]; exact List.drop_left
theorem take_app {a b : List UInt8} {n : Nat} (h : a.length = n) : (a ++ b).take n = a := by rw [← h]; exact List.take_left

theorem openL_body {k g i : Nat} {d : List UInt8} (h : RecOk (k, g, i, d)) : openL (bodyL k g i d) = ((k, g, i, d), 0) := by
  obtain ⟨hk, hg, hi, hd⟩ := h
  simp only at hk hg hi hd
  have e0 : bodyL k g i d = beL k 1 ++ (beL g 8 ++ (beL i 4 ++ (beL d.length 1 ++ (d ++ beL 0 (110 - d.length))))) := by simp only [bodyL, List.append_assoc]
  have p1 : (bodyL k g i d).drop 1 = beL g 8 ++ (beL i 4 ++ (beL d.length 1 ++ (d ++ beL 0 (110 - d.length)))) := by rw [e0]; exact drop_app (beL_len _ _)
  have p2 : ((bodyL k g i d).drop 1).drop 8 = beL i 4 ++ (beL d.length 1 ++ (d ++ beL 0 (110 - d.length))) := by rw [p1]; exact drop_app (beL_len _ _)
  have p3 : (((bodyL k g i d).drop 1).drop 8).drop 4 = beL d.length 1 ++ (d ++ beL 0 (110 - d.length)) := by rw [p2]; exact drop_app (beL_len _ _)
  have p4 : ((((bodyL k g i d).drop 1).drop 8).drop 4).drop 1 = d ++ beL 0 (110 - d.length) := by rw [p3]; exact drop_app (beL_len _ _)
  have q0 : beV ((bodyL k g i d).take 1) = k := by rw [e0, take_app (beL_len _ _), beV_beL, Nat.mod_eq_of_lt (by rw [Nat.pow_one]; exact hk)]
  have q1 : beV (((bodyL k g i d).drop 1).take 8) = g := by rw [p1, take_app (beL_len _ _), beV_beL]; exact Nat.mod_eq_of_lt hg
  have q2 : beV ((((bodyL k g i d).drop 1).drop 8).take 4) = i := by rw [p2, take_app (beL_len _ _), beV_beL]; exact Nat.mod_eq_of_lt hi
  have q3 : beV (((((bodyL k g i d).drop 1).drop 8).drop 4).take 1) = d.length := by rw [p3, take_app (beL_len _ _), beV_beL, Nat.mod_eq_of_lt (by rw [Nat.pow_one]; omega)]
  unfold openL
  rw [q0, q1, q2, q3, p4, drop_app rfl, take_app rfl, beL_zero, rep_zeroL, if_neg (by simp; omega)]

/-- What is closed is opened as it was. -/
theorem open_sec {k g i : Nat} {d : List UInt8} (h : RecOk (k, g, i, d)) : openT (secL k g i d) = ((k, g, i, d), 0) := by
  have hd : d.length ≤ 110 := h.2.2.2
  have hb := bodyL_len k g i d hd
  unfold openT
  rw [if_neg (fun hx => hx (secL_len _ _ _ _ hd)), if_neg (by rw [secL_not_zero _ _ _ _ hd]; decide)]
  have e1 : (secL k g i d).take 124 = bodyL k g i d := take_app hb
  have e2 : (secL k g i d).drop 124 = leL (crcSum (bodyL k g i d)) := drop_app hb
  rw [e1, e2, if_neg (fun hx => hx rfl), openL_body h]

theorem openL_only {L0 L1 L2 L3 L4 : List UInt8} {n : Nat} (e0 : L0.length = 124) (h1 : L0.drop 1 = L1) (h2 : L1.drop 8 = L2) (h3 : L2.drop 4 = L3) (h4 : L3.drop 1 = L4) (hn : beV (L3.take 1) = n) (h : (openL L0).2 = 0) :
    RecOk (openL L0).1 ∧ bodyL (openL L0).1.1 (openL L0).1.2.1 (openL L0).1.2.2.1 (openL L0).1.2.2.2 = L0 := by
  have e1 : L1.length = 123 := by rw [← h1, List.length_drop]; omega
  have e2 : L2.length = 115 := by rw [← h2, List.length_drop]; omega
  have e3 : L3.length = 111 := by rw [← h3, List.length_drop]; omega
  have e4 : L4.length = 110 := by rw [← h4, List.length_drop]; omega
  unfold openL at h ⊢
  rw [h1, h2, h3, h4, hn] at h ⊢
  by_cases hb : 110 < n ∨ zeroL (L4.drop n) = false
  · rw [if_pos hb] at h; cases h
  · rw [if_neg hb]
    have hb1 : n ≤ 110 := by
      rcases Nat.lt_or_ge 110 n with hx | hx
      · exact absurd (.inl hx) hb
      · exact hx
    have hb2 : zeroL (L4.drop n) = true := by
      cases hx : zeroL (L4.drop n)
      · exact absurd (.inr hx) hb
      · rfl
    have eL : (L4.take n).length = n := by rw [List.length_take]; omega
    refine ⟨⟨beV_one_lt _ (by omega), beV_eight_lt _ (by omega), beV_four_lt _ (by omega), by rw [eL]; exact hb1⟩, ?_⟩
    have r0 : beL (beV (L0.take 1)) 1 = L0.take 1 := by have := beL_beV (L0.take 1); rwa [List.length_take, Nat.min_eq_left (by omega)] at this
    have r1 : beL (beV (L1.take 8)) 8 = L1.take 8 := by have := beL_beV (L1.take 8); rwa [List.length_take, Nat.min_eq_left (by omega)] at this
    have r2 : beL (beV (L2.take 4)) 4 = L2.take 4 := by have := beL_beV (L2.take 4); rwa [List.length_take, Nat.min_eq_left (by omega)] at this
    have r3 : beL n 1 = L3.take 1 := by rw [← hn]; have := beL_beV (L3.take 1); rwa [List.length_take, Nat.min_eq_left (by omega)] at this
    have r4 : L4.take n ++ beL 0 (110 - n) = L4 := by
      have h5 := zeroL_rep hb2
      rw [List.length_drop, e4] at h5
      rw [beL_zero, ← h5, List.take_append_drop]
    show bodyL (beV (L0.take 1)) (beV (L1.take 8)) (beV (L2.take 4)) (L4.take n) = L0
    unfold bodyL
    rw [eL, r0, r1, r2, r3]
    simp only [List.append_assoc]
    rw [r4, ← h4, List.take_append_drop, ← h3, List.take_append_drop, ← h2, List.take_append_drop, ← h1, List.take_append_drop]

/-- Only what is closed is opened. -/
theorem open_only {l : List UInt8} (hl : l.length = 128) (h : (openT l).2 = 0) : RecOk (openT l).1 ∧ secL (openT l).1.1 (openT l).1.2.1 (openT l).1.2.2.1 (openT l).1.2.2.2 = l := by
  unfold openT at *
  rw [if_neg (fun hx => hx hl)] at *
  by_cases hz : zeroL l = true
  · rw [if_pos hz] at h; cases h
  · rw [if_neg hz] at *
    by_cases hs : l.drop 124 = leL (crcSum (l.take 124))
    · rw [if_neg (fun hx => hx hs)] at *
      have e0 : (l.take 124).length = 124 := by rw [List.length_take]; omega
      obtain ⟨p1, p2⟩ := openL_only e0 rfl rfl rfl rfl rfl h
      refine ⟨p1, ?_⟩
      rw [secL, p2, ← hs, List.take_append_drop]
    · rw [if_pos hs] at h; cases h

theorem split_at {l : List UInt8} {j : Nat} (h : j < l.length) (c : UInt8) : l = l.take j ++ l[j] :: l.drop (j + 1) ∧ l.set j c = l.take j ++ c :: l.drop (j + 1) := by
  constructor
  · rw [← List.drop_eq_getElem_cons h, List.take_append_drop]
  · rw [List.set_eq_take_append_cons_drop, if_pos h]

/-- A sector of which one byte was turned is wrong by its sum. -/
theorem open_turned {k g i : Nat} {d : List UInt8} (hd : d.length ≤ 110) {j : Nat} (hj : j < 128) {c : UInt8} (hc : c ≠ (secL k g i d)[j]'(by rw [secL_len _ _ _ _ hd]; exact hj)) :
    openT ((secL k g i d).set j c) = ((0, 0, 0, []), 8) := by
  have hb := bodyL_len k g i d hd
  obtain ⟨E, hE⟩ : ∃ E, E = bodyL k g i d := ⟨_, rfl⟩
  have hS : secL k g i d = E ++ leL (crcSum E) := by rw [hE]; rfl
  rw [← hE] at hb
  have hlen : ((secL k g i d).set j c).length = 128 := by rw [List.length_set]; exact secL_len _ _ _ _ hd
  have hx : crcSum E < 4294967296 := crcSum_lt E
  unfold openT
  rw [if_neg (fun h => h hlen)]
  by_cases hj2 : j < 124
  · have hjE : j < E.length := by omega
    have hset : (secL k g i d).set j c = E.set j c ++ leL (crcSum E) := by rw [hS, List.set_append_left _ _ hjE]
    have hcE : c ≠ E[j] := by
      intro e; apply hc; rw [e]
      simp only [hS]
      rw [List.getElem_append_left hjE]
    obtain ⟨s1, s2⟩ := split_at hjE c
    have hlE : (E.set j c).length = 124 := by rw [List.length_set]; exact hb
    rw [hset]
    have hz : zeroL (E.set j c ++ leL (crcSum E)) = false := by
      by_cases h : zeroL (E.set j c ++ leL (crcSum E)) = true
      · exfalso
        rw [zeroL_append, Bool.and_eq_true] at h
        have h0 := leL_zero hx h.2
        rw [s2, zeroL_append, Bool.and_eq_true] at h
        have a1 := zeroL_rep h.1.1
        have a2 : zeroL (E.drop (j + 1)) = true := by
          have := h.1.2
          rw [zeroL, List.all_cons, Bool.and_eq_true] at this
          exact this.2
        have a3 := zeroL_rep a2
        rw [List.length_take, Nat.min_eq_left (by omega)] at a1
        rw [List.length_drop, hb] at a3
        rw [s1, a1, a3] at h0
        exact crcSum_lone (by omega) h0
      · simpa using h
    rw [if_neg (by rw [hz]; decide), drop_app hlE, take_app hlE, if_pos]
    intro h
    have h2 := leL_inj hx (crcSum_lt _) h
    rw [s2] at h2
    conv at h2 => lhs; rw [s1]
    exact hcE (crcSum_turned _ _ _ _ h2).symm
  · have hjE : E.length ≤ j := by omega
    have hset : (secL k g i d).set j c = E ++ (leL (crcSum E)).set (j - 124) c := by rw [hS, List.set_append_right _ _ hjE, hb]
    have hj4 : j - 124 < (leL (crcSum E)).length := by rw [leL_len]; omega
    have hcE : c ≠ (leL (crcSum E))[j - 124] := by
      intro e; apply hc; rw [e]
      simp only [hS]
      rw [List.getElem_append_right hjE]
      simp only [hb]
    rw [hset]
    have hz : zeroL (E ++ (leL (crcSum E)).set (j - 124) c) = false := by
      by_cases h : zeroL (E ++ (leL (crcSum E)).set (j - 124) c) = true
      · exfalso
        rw [zeroL_append, Bool.and_eq_true] at h
        have a1 := zeroL_rep h.1
        rw [hb] at a1
        obtain ⟨b1, b2⟩ := crcSum_zeros_bytes
        rw [← a1] at b1 b2
        have h2 := h.2
        have hm : j - 124 = 0 ∨ j - 124 = 1 ∨ j - 124 = 2 ∨ j - 124 = 3 := by omega
        generalize crcSum E = x at *
        rcases hm with hm | hm | hm | hm <;> rw [hm] at h2 <;> simp only [leL, List.set_cons_zero, List.set_cons_succ, zeroL, List.all_cons, List.all_nil, Bool.and_eq_true, beq_iff_eq, Bool.and_true] at h2
        · have t2 := congrArg UInt8.toNat h2.2.2.1
          have t3 := congrArg UInt8.toNat h2.2.2.2
          simp only [UInt8.toNat_ofNat', UInt8.toNat_zero] at t2 t3
          omega
        · have t2 := congrArg UInt8.toNat h2.2.2.1
          have t3 := congrArg UInt8.toNat h2.2.2.2
          simp only [UInt8.toNat_ofNat', UInt8.toNat_zero] at t2 t3
          omega
        · have t2 := congrArg UInt8.toNat h2.1
          have t3 := congrArg UInt8.toNat h2.2.1
          simp only [UInt8.toNat_ofNat', UInt8.toNat_zero] at t2 t3
          omega
        · have t2 := congrArg UInt8.toNat h2.1
          have t3 := congrArg UInt8.toNat h2.2.1
          simp only [UInt8.toNat_ofNat', UInt8.toNat_zero] at t2 t3
          omega
      · simpa using h
    rw [if_neg (by rw [hz]; decide), drop_app hb, take_app hb, if_pos]
    intro h
    have h2 : ((leL (crcSum E)).set (j - 124) c)[j - 124]? = (leL (crcSum E))[j - 124]? := by rw [h]
    rw [List.getElem?_set_self hj4, List.getElem?_eq_getElem hj4] at h2
    exact hcE (Option.some.inj h2)

end Go.Proofs.YtbigpapniloknaaDoor

namespace Go.Proofs.YtbigpapniloknaaDoor
open Go.RowKit

theorem close_one (w : World) : Calls Tryd.prog 43 #[.agg #[.int .u8 1, .int .u64 0, .int .u32 0, .string ⟨#[]⟩]] w fun e w' => e = .returned (.tuple #[.string ⟨(secL 1 0 0 []).toArray⟩, .int .i64 0]) ∧ Below w.heap.size w w' :=
  seal_Close_ok 1 0 0 ⟨#[]⟩ w (by omega) (by omega) (by omega) (by decide)
theorem sum_nine (w : World) : Calls Tryd.prog 49 #[.string ⟨#[49, 50, 51, 52, 53, 54, 55, 56, 57]⟩] w fun e w' => e = .returned (.int .u32 3421780262) ∧ w = w' := by
  have h := seal_Sum ⟨#[49, 50, 51, 52, 53, 54, 55, 56, 57]⟩ w (by decide)
  have e : crcSum [49, 50, 51, 52, 53, 54, 55, 56, 57] = 3421780262 := by decide +kernel
  rw [show (⟨#[49, 50, 51, 52, 53, 54, 55, 56, 57]⟩ : ByteArray).data.toList = [49, 50, 51, 52, 53, 54, 55, 56, 57] from rfl, e] at h
  exact h

set_option maxHeartbeats 2000000 in
theorem seal_Awake (w : World) : Calls Tryd.prog 36 #[] w fun e w' => e = .returned (.bool true) ∧ Below w.heap.size w w' := by
  obtain ⟨s, hs⟩ : ∃ s : ByteArray, s = ⟨(secL 1 0 0 []).toArray⟩ := ⟨_, rfl⟩
  have hsz : s.size = 128 := by rw [hs]; exact secL_len 1 0 0 [] (by decide)
  have HC := Lib.hid (fun W => by rw [hs]; exact close_one W : ∀ W, Calls Tryd.prog 43 #[.agg #[.int .u8 1, .int .u64 0, .int .u32 0, .string ⟨#[]⟩]] W fun e w' => e = .returned (.tuple #[.string s, .int .i64 0]) ∧ Below W.heap.size W w')
  have HN := Lib.hid sum_nine
  clear hs
  go_enter Tryd.func36, Tryd.ntmps36
  go_wp2_with (go_at_call 43; refine (HC.out _).mono ?_; rintro e w1 ⟨rfl, hb1⟩)
  go_wp2_with (go_at_call 49; refine (HN.out _).mono ?_; rintro e w2 ⟨rfl, rfl⟩)
  go_ret
  exact ⟨rfl, hb1⟩

end Go.Proofs.YtbigpapniloknaaDoor

namespace Go.Proofs.YtbigpapniloknaaDoor
open Go.RowKit

theorem wrap_u8i (n : Int) : IntKind.u8.wrap n = n % 256 := by simp [IntKind.wrap, IntKind.bits, IntKind.signed]
theorem bits_xor_u8n (a b : Nat) (ha : a < 256) (hb : b < 256) : bits .xor .u8 (a : Int) (b : Int) = ((a ^^^ b : Nat) : Int) := by
  have hx : a ^^^ b < 2 ^ 8 := Nat.xor_lt_two_pow (by omega) (by omega)
  have h1 : (BitVec.ofInt 8 (a : Int)).toNat = a := by
    rw [BitVec.ofInt_natCast, BitVec.toNat_ofNat]; exact Nat.mod_eq_of_lt (by omega)
  have h2 : (BitVec.ofInt 8 (b : Int)).toNat = b := by
    rw [BitVec.ofInt_natCast, BitVec.toNat_ofNat]; exact Nat.mod_eq_of_lt (by omega)
  show IntKind.u8.wrap ((BitVec.ofInt 8 (a : Int) ^^^ BitVec.ofInt 8 (b : Int)).toNat : Int) = _
  rw [BitVec.toNat_xor, h1, h2, wrap_u8i]
  omega

/-- A row whose first cells are these bytes, and may be written. -/
def Bts (w : World) (g : Nat) (l : List UInt8) : Prop := ∀ j (h : j < l.length), w.cell? ⟨g, j, none⟩ = some (.int .u8 ((l[j]).toNat : Int)) ∧ w.frozen? ⟨g, j, none⟩ = false

theorem conv_bytes (l : List UInt8) (W : World) (hl : l.length ≤ 1000) : ∃ cap wb, (convert 9 86 (.string (bs l))).run Tryd.prog W = .ok (.slice (some ⟨W.heap.size, 0, none⟩) l.length cap) wb ∧ Bts wb W.heap.size l ∧ Below W.heap.size W wb ∧ W.heap.size < wb.heap.size ∧ l.length ≤ cap := by
  refine ⟨grownCap W (bs l).size 0 5, Lib.bytesWorld W 5 (bs l), ?_, ?_, ?_, ?_, ?_⟩
  · have h := Lib.run_convert_string_bytes (P := Tryd.prog) W 9 86 5 (bs l) Tryd.underlying9 Tryd.underlying86 Tryd.underlying5
    rw [bs_size] at h ⊢
    exact h
  · intro j hj
    have hs : j < (bs l).size := by rw [bs_size]; exact hj
    refine ⟨?_, ?_⟩
    · rw [Lib.bytesWorld_cell W 5 (bs l) j hs, bs_list, List.getD_eq_getElem?_getD, List.getElem?_eq_getElem hj]
      rfl
    · unfold World.frozen?
      rw [Lib.bytesWorld_at_new]
      have hc : (bs l).size ≤ (Lib.bytesCells W 5 (bs l)).size := by
        unfold Lib.bytesCells
        rw [Array.size_append, Array.size_map]
        exact Nat.le_add_right _ _
      simp
      intro h
      omega
  · exact ⟨by simp [Lib.bytesWorld, World.freeze]; rfl, by simp [Lib.bytesWorld, World.freeze], by simp [Lib.bytesWorld, World.freeze]; rfl, by rw [Lib.bytesWorld_size]; omega, fun k hk => Lib.bytesWorld_at_old _ _ _ _ hk⟩
  · rw [Lib.bytesWorld_size]; omega
  · rw [← bs_size]; exact grownCap_ge _ _ _ _

theorem Bts.set_ {w : World} {g : Nat} {l : List UInt8} (h : Bts w g l) (j : Nat) (c : UInt8) (hj : j < l.length) : Bts (w.setCell ⟨g, j, none⟩ (.int .u8 ((c.toNat : Nat) : Int))) g (l.set j c) := by
  intro i hi
  rw [List.length_set] at hi
  obtain ⟨h1, h2⟩ := h i hi
  refine ⟨?_, by rw [World.frozen?_setCell]; exact h2⟩
  by_cases e : i = j
  · subst e
    rw [List.getElem_set_self]
    exact World.cell?_setCell_same w ⟨g, i, none⟩ _ h1
  · rw [List.getElem_set_ne (fun x => e x.symm)]
    exact (World.cell?_setCell_other w ⟨g, j, none⟩ ⟨g, i, none⟩ _ (fun x => e (by injection x with _ x _; exact x.symm))).trans h1
theorem Bts.conv {w : World} {g : Nat} {l : List UInt8} (h : Bts w g l) (cap : Nat) : (convert 86 9 (.slice (some ⟨g, 0, none⟩) l.length cap)).run Tryd.prog w = .ok (.string (bs l)) w := by
  have := run_convert_bytes_arg (P := Tryd.prog) w 86 5 Tryd.underlying86 Tryd.underlying5 g 0 l.length cap ((nb l).map fun x : Nat => (x : Int)) (by rw [List.length_map, nb_len]) (fun i hi => by
    rw [Nat.zero_add, (h i hi).1, List.getD_eq_getElem?_getD, List.getElem?_map, nb, List.getElem?_map, List.getElem?_eq_getElem hi]
    rfl) 9 Tryd.underlying9
  rw [str_nb] at this
  exact this

theorem openT_ok (l : List UInt8) : RecOk (openT l).1 := by
  by_cases hl : l.length = 128
  · by_cases h : (openT l).2 = 0
    · exact (open_only hl h).1
    · unfold openT at h ⊢
      rw [if_neg (fun hx => hx hl)] at h ⊢
      by_cases hz : zeroL l = true
      · rw [if_pos hz]; exact ⟨by decide, by decide, by decide, by decide⟩
      · rw [if_neg hz] at h ⊢
        by_cases hs : l.drop 124 = leL (crcSum (l.take 124))
        · rw [if_neg (fun hx => hx hs)] at h ⊢
          unfold openL at h ⊢
          split at h
          · rename_i hc; rw [if_pos hc]; exact ⟨by decide, by decide, by decide, by decide⟩
          · exact absurd rfl h
        · rw [if_pos hs]; exact ⟨by decide, by decide, by decide, by decide⟩
  · unfold openT
    rw [if_pos hl]
    exact ⟨by decide, by decide, by decide, by decide⟩

theorem close_bs (r : Nat × Nat × Nat × List UInt8) (h : RecOk r) (w : World) : Calls Tryd.prog 43 #[recV r] w fun e w' => e = .returned (.tuple #[.string (bs (secL r.1 r.2.1 r.2.2.1 r.2.2.2)), .int .i64 0]) ∧ Below w.heap.size w w' := by
  have h2 := seal_Close_ok r.1 r.2.1 r.2.2.1 (bs r.2.2.2) w h.1 h.2.1 h.2.2.1 (by rw [bs_size]; exact h.2.2.2)
  rw [bs_list] at h2
  exact h2

end Go.Proofs.YtbigpapniloknaaDoor
