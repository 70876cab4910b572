/- The statement NatParses walked. -/
import Derived.Test.YtliligfhckampaaParseC
import Derived.Test.YtliligfhckampaaReads
namespace Go.Proofs.Ytliligfhckampaa
open Go.RowKit

theorem foldl_val (m : List UInt8) (a : Nat) : m.foldl (fun a b => a * 10 + (b.toNat - 48)) a = val 10 (m.reverse.map fun b => b.toNat - 48) + 10 ^ m.length * a := by
  induction m generalizing a with
  | nil => simp [val]
  | cons b m ih =>
    rw [List.foldl_cons, ih, List.reverse_cons, List.map_append, val_append, List.length_map, List.length_reverse, List.length_cons, Nat.pow_succ]
    simp only [List.map_cons, List.map_nil, val, Nat.mul_zero, Nat.add_zero]
    rw [Nat.mul_add, Nat.mul_comm a 10, ← Nat.mul_assoc]
    omega

theorem natOf_val (l : List UInt8) : natOf l = val 10 (l.reverse.map fun b => b.toNat - 48) := by
  have := foldl_val l 0
  rw [Nat.mul_zero, Nat.add_zero] at this
  exact this

theorem mk_eq {s : ByteArray} {l : List UInt8} (h : s.data.toList = l) : s = ⟨l.toArray⟩ := by
  cases s with
  | mk a =>
    congr 1
    exact (Array.toList_inj.1 (by simpa using h))

/-- Digits without noughts ahead are the number's decimal text. -/
theorem decOk_isDec (s : ByteArray) (h : DecOk s.data.toList) : IsDec (natOf s.data.toList) s := by
  obtain ⟨h1, h2, h3⟩ := h
  obtain ⟨l, hl⟩ : ∃ l, s.data.toList = l := ⟨_, rfl⟩
  rw [hl] at h1 h2 h3 ⊢
  have hs := mk_eq hl
  match l, h1, h2, h3 with
  | [], h1, _, _ => exact absurd rfl h1
  | b :: t, _, h2, h3 =>
    by_cases hb : b = 48
    · have ht : t = [] := by
        apply List.eq_nil_of_length_eq_zero
        apply Nat.eq_zero_of_not_pos
        intro hp
        exact h2 ⟨by simpa using hb, by simp; omega⟩
      subst ht hb
      exact .inl ⟨by decide, hs⟩
    · right
      have hfb : b.toNat - 48 ≠ 0 := by
        have h4 := h3 b (List.mem_cons_self)
        intro e
        apply hb
        apply UInt8.toNat_inj.1
        have : b.toNat = 48 := by omega
        rw [this]; rfl
      have hds : (b :: t).reverse.map (fun b => b.toNat - 48) = t.reverse.map (fun b => b.toNat - 48) ++ [b.toNat - 48] := by simp
      have hdig : Dig 10 ((b :: t).reverse.map fun b => b.toNat - 48) := by
        intro d hd
        obtain ⟨c, hc, rfl⟩ := List.mem_map.1 hd
        have := h3 c (List.mem_reverse.1 hc)
        omega
      refine ⟨?_, _, hdig, ?_, (natOf_val _).symm, ?_⟩
      · rw [natOf_val, hds, val_snoc]
        have : 0 < 10 ^ (t.reverse.map fun b => b.toNat - 48).length * (b.toNat - 48) := Nat.mul_pos (Nat.pow_pos (by omega)) (by omega)
        omega
      · rw [hds]; exact trimL_snoc_pos _ _ hfb
      · rw [hs, decB]
        congr 2
        rw [← List.map_reverse, List.reverse_reverse, List.map_map]
        have : ∀ c ∈ b :: t, c = ((fun d => UInt8.ofNat (48 + d)) ∘ fun b : UInt8 => b.toNat - 48) c := by
          intro c hc
          have h4 := h3 c hc
          show c = UInt8.ofNat (48 + (c.toNat - 48))
          rw [show 48 + (c.toNat - 48) = c.toNat from by omega, UInt8.ofNat_toNat]
        conv => lhs; rw [← List.map_id (b :: t)]
        exact List.map_congr_left this

set_option maxHeartbeats 4000000 in
theorem natParses_walk (s0 : ByteArray) (hs0 : s0.size ≤ maxLen) (w : World) :
    Calls Try.prog 4 #[.string s0] w fun e w' => e = .returned (.bool true) ∧ Below w.heap.size w w' := by
  unfold maxLen at hs0
  by_cases h15 : (s0.size : Int) ≤ 1500
  · have HP1 : Hid (∀ W : World, Calls Try.prog 19 #[.string s0] W (RefParsePost s0 W)) := Lib.hid (fun W => ref_Parse s0 W h15)
    have HP2 : Hid (∀ W : World, Calls Try.prog 20 #[.string s0] W (ParsePost s0 W)) := Lib.hid (fun W => nat_Parse s0 W h15)
    go_enter Try.func4, Try.ntmps4
    go_wp2_with fail
    refine (HP1.out _).mono ?_
    rintro e w1 ⟨M, nm, cm, codeM, rfl, hb1, hc1⟩
    have B1 := Lib.hid hb1
    have C1 := Lib.hid hc1
    clear hb1 hc1
    go_wp2_with fail
    refine (HP2.out _).mono ?_
    rintro e w2 ⟨A, n, c, code, rfl, hb2, hc2⟩
    have B2 := Lib.hid (keepB B1.out hb2)
    have B12 := Lib.hid hb2
    have X5 := Lib.hid (Blk.new1 w2 29 (.slice A n c))
    have B2a : Hid (Below w2.heap.size w2 (w2.alloc (.cells #[.slice A n c] 29))) := Lib.hid ((Below.refl _ _).alloc (Nat.le_refl _) _)
    have C2 := Lib.hid hc2
    clear hb2 hc2
    have hbad : ∀ (D : Int), D = codeM → code = D → D ≠ 0 → n = 0 → True := fun _ _ _ _ _ => trivial
    clear hbad
    rcases C1.out with ⟨hD, rfl⟩ | ⟨hD, hL, rfl⟩ | ⟨hD, hL, rfl, hr⟩
    · rcases C2.out with ⟨_, rfl, rfl⟩ | ⟨hD2, _⟩
      · clear hD
        go_wp2_with fail
        refine (nat_Zero _ _ _ _).mono ?_
        rintro e w3 ⟨rfl, hb3⟩
        have B3 := Lib.hid (keepB (keepB B2.out B2a.out) hb3)
        clear hb3
        go_wp2_with fail
        refine (law_Awake _).mono ?_
        rintro e w4 ⟨rfl, hb4⟩
        have B4 := Lib.hid (keepB B3.out hb4)
        clear hb4
        go_wp2
        go_ret
        exact ⟨rfl, B4.out⟩
      · exact absurd hD2 hD
    · rcases C2.out with ⟨hD2, _⟩ | ⟨_, ⟨hL2, _⟩ | ⟨_, rfl, rfl, rfl, rfl⟩⟩
      · exact absurd hD hD2
      · omega
      · clear hD hL
        go_wp2_with fail
        refine (nat_Zero _ _ _ _).mono ?_
        rintro e w3 ⟨rfl, hb3⟩
        have B3 := Lib.hid (keepB (keepB B2.out B2a.out) hb3)
        clear hb3
        go_wp2_with fail
        refine (law_Awake _).mono ?_
        rintro e w4 ⟨rfl, hb4⟩
        have B4 := Lib.hid (keepB B3.out hb4)
        clear hb4
        go_wp2
        go_ret
        exact ⟨rfl, B4.out⟩
    · rcases C2.out with ⟨hD2, _⟩ | ⟨_, ⟨_, rfl, hra⟩ | ⟨hL2, _⟩⟩
      · exact absurd hD hD2
      · have HDEC := Lib.hid (decOk_isDec s0 hD)
        obtain ⟨x, hx⟩ : ∃ x, x = natOf s0.data.toList := ⟨_, rfl⟩
        rw [← hx] at hr hra hL HDEC
        have hn64 : n ≤ 64 := (hra.len_le (by decide) 64).2 hL
        have RA := Lib.hid (hra.keep B2a.out)
        have RM := Lib.hid ((hr.keep B12.out).keep B2a.out)
        have XL := Lib.hid hL
        clear hD hL hr hra hx C1 C2 HP1 HP2
        go_wp2_with fail
        refine (law_Awake _).mono ?_
        rintro e w4 ⟨rfl, hb4⟩
        have B4 := Lib.hid (keepB (keepB B2.out B2a.out) hb4)
        have hx4 := (X5.out.keep hb4).cell0
        have X4 := Lib.hid (X5.out.keep hb4)
        have RA4 := Lib.hid (RA.out.keep hb4)
        have RM4 := Lib.hid (RM.out.keep hb4)
        clear hb4
        go_wp2_with fail
        refine (law_Is A n c x M nm cm x _ RA4.out (by omega) RM4.out).mono ?_
        rintro e w5 ⟨rfl, hb5⟩
        rw [show decide (x = x) = true from by simp]
        have B5 := Lib.hid (keepB B4.out hb5)
        have hx5 := (X4.out.keep hb5).cell0
        have RA5 := Lib.hid (RA4.out.keep hb5)
        clear hb5 hx4
        go_wp2_with fail
        refine (nat_String A n c x _ RA5.out XL.out).mono ?_
        rintro e w6 ⟨t, rfl, ht, hb6⟩
        have hts := IsDec.unique ht HDEC.out
        subst hts
        have B6 := Lib.hid (keepB B5.out hb6)
        clear hb6 ht
        go_wp2
        go_ret
        exact ⟨rfl, B6.out⟩
      · omega
  · have h15b : ¬ (s0.size : Int) ≤ 1500 := h15
    go_enter Try.func4, Try.ntmps4
    go_wp2_with fail
    refine (law_Awake _).mono ?_
    rintro e w10 ⟨rfl, hb10⟩
    have HB10 := Lib.hid hb10
    clear hb10
    go_wp2
    go_ret
    exact ⟨rfl, HB10.out⟩

end Go.Proofs.Ytliligfhckampaa
