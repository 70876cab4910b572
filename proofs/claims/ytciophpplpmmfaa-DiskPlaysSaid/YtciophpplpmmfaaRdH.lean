/- The document's disk: its contracts, as one step each. -/
import Derived.Test.YtciophpplpmmfaaRdG
namespace Go.Proofs.Ytciophpplpmmfaa
open Go.RowKit

/-- The document's disk of these slices. -/
def RDk (w : World) (A : Option Addr) (n c : Nat) (A' : Option Addr) (n' c' : Nat) (D : DSt) : Prop := StrS w (.slice A n c) D.lasts ∧ WriS w (.slice A' n' c') D.waits ∧ (n' = 0 → A' = none ∧ c' = 0)
theorem RDk.keep {w w' : World} {A : Option Addr} {n c : Nat} {A' : Option Addr} {n' c' : Nat} {D : DSt} (h : RDk w A n c A' n' c' D) (hb : Below w.heap.size w w') : RDk w' A n c A' n' c' D := ⟨h.1.keep hb, h.2.1.keep hb, h.2.2⟩
theorem RDk.keeps {w w' : World} {A : Option Addr} {n c : Nat} {A' : Option Addr} {n' c' : Nat} {D : DSt} (h : RDk w A n c A' n' c' D) (hk : Keeps w w') : RDk w' A n c A' n' c' D :=
  ⟨h.1.of fun b cs x => hk b _ cs (by decide) (by decide) (by decide) x, h.2.1.of fun b cs x => hk b _ cs (by decide) (by decide) (by decide) x, h.2.2⟩
theorem RDk.len {w : World} {A : Option Addr} {n c : Nat} {A' : Option Addr} {n' c' : Nat} {D : DSt} (h : RDk w A n c A' n' c' D) : n = D.lasts.length ∧ n' = D.waits.length := ⟨h.1.cellAt.1, h.2.1.cellAt.1⟩

theorem ref_Put12 (w : World) (A : Option Addr) (n c : Nat) (A' : Option Addr) (n' c' : Nat) (D : DSt) (i : Int) (s : List UInt8) (h : RDk w A n c A' n' c' D) (hs : Small D) (hn : n ≤ 4096) (hsl : s.length ≤ 1000000) :
    Calls Try.prog 25 #[rdV A n c A' n' c' D, .int .i64 i, .string (bs s)] w fun e w' => ∃ B m d B' m' d', e = .returned (.tuple #[rdV B m d B' m' d' (wrD D i s).1, .int .i64 (((wrD D i s).2 : Nat) : Int)]) ∧ RDk w' B m d B' m' d' (wrD D i s).1 ∧ Below w.heap.size w w' := by
  obtain ⟨l1, l2⟩ := h.len
  have hn' : n' ≤ 1000000 := by rw [l2]; exact hs.2.1
  by_cases hb : hasB D i = true
  · obtain ⟨k, rfl, hk⟩ := hasB_nat_iff.1 hb
    have hkn : k < n := by rw [l1]; exact hk
    by_cases h128 : s.length = 128
    · cases hf : (fires D).2
      · have e : wrD D (k : Int) s = (wrote (fires D).1 k s, 0) := by unfold wrD; rw [if_neg (by rw [hb]; decide), if_neg (by rw [h128]; decide), if_neg (by rw [hf]; decide), Int.toNat_natCast]
        rw [e]
        have fin : ∀ {B' : Option Addr} {m' d' : Nat} {w' : World}, WriS w' (.slice B' m' d') (wrote (fires D).1 k s).waits → (m' = 0 → B' = none ∧ d' = 0) := fun hw h0 => by
          have := hw.cellAt.1
          rw [h0] at this
          exact absurd this (by show 0 ≠ ((fires D).1.waits ++ [(k, s)]).length; rw [List.length_append]; exact (Nat.succ_ne_zero _).symm)
        by_cases h0 : n' = 0
        · obtain ⟨rfl, rfl⟩ := h.2.2 h0
          subst h0
          exact (ref_Put12_none w A n c D k s h.1 h.2.1 hs.1 hkn hn hs.2.2 h128 hf).mono fun e w' ⟨B, m, d, B', m', d', p1, p2, p3, p4⟩ => ⟨B, m, d, B', m', d', p1, ⟨p2, p3, fin p3⟩, p4⟩
        · exact (ref_Put12_some w A n c A' n' c' D k s h.1 h.2.1 hs.1 hkn hn hn' hs.2.2 h128 hf (Nat.pos_of_ne_zero h0)).mono fun e w' ⟨B, m, d, B', m', d', p1, p2, p3, p4⟩ => ⟨B, m, d, B', m', d', p1, ⟨p2, p3, fin p3⟩, p4⟩
      · have e : wrD D (k : Int) s = ((fires D).1, 7) := by unfold wrD; rw [if_neg (by rw [hb]; decide), if_neg (by rw [h128]; decide), if_pos hf]
        rw [e]
        exact (ref_Put12_bad w A n c A' n' c' D k s h.1 h.2.1 hs.1 hkn hn hn' hs.2.2 h128 hf).mono fun e w' ⟨p1, p4⟩ => ⟨A, n, c, A', n', c', p1, by
          have h2 := h.keep p4
          refine ⟨?_, ?_, h.2.2⟩
          · show StrS w' _ (fires D).1.lasts; rw [fires_lasts]; exact h2.1
          · show WriS w' _ (fires D).1.waits; rw [fires_waits]; exact h2.2.1, p4⟩
    · have e : wrD D (k : Int) s = (D, 4) := by unfold wrD; rw [if_neg (by rw [hb]; decide), if_pos h128]
      rw [e]
      exact (ref_Put12_form w A n c A' n' c' D k s hkn hn h128 hsl).mono fun e w' ⟨p1, p4⟩ => ⟨A, n, c, A', n', c', p1, h.keep p4, p4⟩
  · have hb2 : hasB D i = false := by simpa using hb
    have e : wrD D i s = (D, 5) := by unfold wrD; rw [if_pos hb2]
    rw [e]
    exact (ref_Put12_range w A n c A' n' c' D i s hn (by
      unfold hasB at hb
      rw [Bool.and_eq_true, decide_eq_true_iff, decide_eq_true_iff, ← l1] at hb
      omega) hsl).mono fun e w' ⟨p1, p4⟩ => ⟨A, n, c, A', n', c', p1, h.keep p4, p4⟩

theorem ref_Sync12k (w : World) (A : Option Addr) (n c : Nat) (A' : Option Addr) (n' c' : Nat) (D : DSt) (h : RDk w A n c A' n' c' D) (hs : Small D) (hok : DOk D) :
    Calls Try.prog 26 #[rdV A n c A' n' c' D] w fun e w' => ∃ B m d B' m' d', e = .returned (.tuple #[rdV B m d B' m' d' (syD D).1, .int .i64 (((syD D).2 : Nat) : Int)]) ∧ RDk w' B m d B' m' d' (syD D).1 ∧ Below w.heap.size w w' := by
  obtain ⟨l1, l2⟩ := h.len
  exact (ref_Sync12 w A n c A' n' c' D h.1 h.2.1 hs.1 (by rw [l1]; exact hok.1) (by rw [l1]; exact hok.2.1) (by rw [l2]; exact hs.2.1) hs.2.2 (fun x hx => (hok.2.2.2 x hx).1) h.2.2).mono fun e w' ⟨B, m, d, B', m', d', p1, p2, p3, p5, p4⟩ => ⟨B, m, d, B', m', d', p1, ⟨p2, p3, p5⟩, p4⟩

theorem ref_Crash12k (w : World) (A : Option Addr) (n c : Nat) (A' : Option Addr) (n' c' : Nat) (D : DSt) (K : Option Addr) (kn kc : Nat) (ks : List Bool) (h : RDk w A n c A' n' c' D) (hs : Small D) (hok : DOk D) (hK : KSl w K kn ks) (hkn : kn ≤ 1000000) :
    Calls Try.prog 27 #[rdV A n c A' n' c' D, .slice K kn kc] w fun e w' => ∃ B m d B' m' d', e = .returned (rdV B m d B' m' d' (crashed D ks)) ∧ RDk w' B m d B' m' d' (crashed D ks) ∧ Below w.heap.size w w' := by
  obtain ⟨l1, l2⟩ := h.len
  exact (ref_Crash12 w A n c A' n' c' D K kn kc ks h.1 h.2.1 hK (by rw [l1]; exact hok.1) (by rw [l1]; exact hok.2.1) (by rw [l2]; exact hs.2.1) hkn (fun x hx => (hok.2.2.2 x hx).1)).mono fun e w' ⟨B, m, d, p1, p2, p4⟩ => ⟨B, m, d, none, 0, 0, p1, ⟨p2, WriS.empty _, fun _ => ⟨rfl, rfl⟩⟩, p4⟩

theorem ref_Rot12k (w : World) (A : Option Addr) (n c : Nat) (A' : Option Addr) (n' c' : Nat) (D : DSt) (i at_ : Int) (y : Nat) (h : RDk w A n c A' n' c' D) (hok : DOk D) (hy : y < 256) :
    Calls Try.prog 29 #[rdV A n c A' n' c' D, .int .i64 i, .int .i64 at_, .int .u8 (y : Int)] w fun e w' => ∃ B m d B' m' d', e = .returned (rdV B m d B' m' d' (rotD D i at_ y)) ∧ RDk w' B m d B' m' d' (rotD D i at_ y) ∧ Below w.heap.size w w' := by
  obtain ⟨l1, l2⟩ := h.len
  have hn : n ≤ 4096 := by rw [l1]; exact hok.2.1
  by_cases hc : hasB D i = true ∧ 0 ≤ at_ ∧ at_ < 128
  · obtain ⟨hb, h0, h1⟩ := hc
    have e : rotD D i at_ y = { D with lasts := D.lasts.set i.toNat (rotT (D.lasts.getD i.toNat []) at_.toNat y) } := by unfold rotD; rw [if_pos ⟨hb, h0, h1⟩]
    rw [e]
    obtain ⟨k, rfl, hk⟩ := hasB_nat_iff.1 hb
    obtain ⟨j, rfl⟩ : ∃ j : Nat, at_ = j := ⟨at_.toNat, by omega⟩
    rw [Int.toNat_natCast, Int.toNat_natCast]
    exact (ref_Rot12_ok w A n c A' n' c' D k j y h.1 h.2.1 (by rw [l1]; exact hk) hn (by omega) hy hok.2.2.1).mono fun e w' ⟨B, m, d, p1, p2, p3, p4⟩ => ⟨B, m, d, A', n', c', p1, ⟨p2, p3, h.2.2⟩, p4⟩
  · have e : rotD D i at_ y = D := by unfold rotD; rw [if_neg hc]
    rw [e]
    exact (ref_Rot12_no w A n c A' n' c' D i at_ y hn (by
      by_cases h1 : 0 ≤ at_ ∧ at_ < 128
      · have hb : ¬ hasB D i = true := fun hb => hc ⟨hb, h1⟩
        unfold hasB at hb
        rw [Bool.and_eq_true, decide_eq_true_iff, decide_eq_true_iff, ← l1] at hb
        omega
      · omega)).mono fun e w' ⟨p1, p4⟩ => ⟨A, n, c, A', n', c', p1, h.keep p4, p4⟩

end Go.Proofs.Ytciophpplpmmfaa
