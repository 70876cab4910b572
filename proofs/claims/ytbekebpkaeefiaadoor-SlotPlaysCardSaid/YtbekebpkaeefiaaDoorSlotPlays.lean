/- The walk of SlotPlays, and what came in of acts. -/
import Derived.Test.YtbekebpkaeefiaaDoorSpB
import Derived.Deep.Slices
import Derived.Deep.Grids
namespace Go.Proofs.YtbekebpkaeefiaaDoor
open Go.RowKit Go.Deep Go.ChangeShapes Go.WideShapes

instance : Inhabited ActS := ⟨⟨0, 0, 0, 0, [], 0, 0, none, 0, 0, []⟩⟩

theorem ksl_of_trodS {H : Type} {enc : TypeId × Value → H} {w : World} {base : Nat} {held : Bool} {fuel : Nat} {u : Value} {x : DataW H × List MemPlace}
    (h : DataW.trod enc Tryd.prog w base (fun _ => true) held fuel 34 [u] = some x) : ∃ K kn kc ks, u = .slice K kn kc ∧ KSl w K kn ks ∧ kn ≤ kc ∧ kc ≤ maxLen := by
  rcases open_bools Tryd.underlying34 Tryd.underlying4 (by kernel_rfl) h with ⟨hcs, _⟩ | ⟨a, len, cap, B, hcs, _, hl, hm, _, hx⟩
  · injection hcs with e _
    exact ⟨none, 0, 0, [], e, ⟨rfl, fun h => absurd h (Nat.lt_irrefl _)⟩, Nat.le_refl _, by simp [maxLen]⟩
  · injection hcs with e _
    refine ⟨some a, len, cap, (List.range len).map B, e, ⟨by simp, fun hp => ?_⟩, hl, hm⟩
    obtain ⟨b, o, spot⟩ := a
    have h0 := hx 0 (by omega)
    have hs : spot = none := by simpa [Addr.add] using World.cell?_spot h0
    subst hs
    refine ⟨b, o, rfl, fun j hj => ?_⟩
    have := hx j (by omega)
    rw [add_plain] at this
    rw [this, List.getD_eq_getElem?_getD, List.getElem?_map, List.getElem?_range hj]
    rfl

set_option maxRecDepth 100000 in
theorem actsS_of_trod {H : Type} {enc : TypeId × Value → H} {w : World} {base : Nat} {held : Bool} {fuel : Nat} {u : Value} {x : DataW H × List MemPlace}
    (h : DataW.trod enc Tryd.prog w base (fun _ => true) held fuel 22 [u] = some x) : ∃ A n c l, u = .slice A n c ∧ n ≤ c ∧ c ≤ maxLen ∧ ActsS w A n l := by
  rcases open_slice Tryd.underlying22 h with ⟨hcs, _⟩ | ⟨a, len, cap, m, n, D, Pl, hcs, _, hl, hm, hmm, _, hx⟩
  · injection hcs with e _
    exact ⟨none, 0, 0, default, e, Nat.le_refl _, by simp [maxLen], fun h => absurd h (Nat.lt_irrefl _)⟩
  · injection hcs with e _
    have ce : Tryd.prog.cellsOf 36 = 8 := by kernel_rfl
    have each : ∀ i, i < len → ∃ q : ActS, q.ok w ∧ ∀ k v, q.cells[k]? = some v → w.cell? (a.add (i * 8 + k)) = some v := by
      intro i hi
      have him : i < m := by rw [hmm]; simp; omega
      obtain ⟨cs', h1, h2⟩ := hx i him
      rw [ce] at h1
      obtain ⟨_, hlen, hcell⟩ := World.cells?_some h1
      obtain ⟨xs, k, hk, hxy, _, hxl, hf⟩ := DataW.trod_struct Tryd.underlying36 h2
      match xs, hxl, cs', hlen with
      | [y0, y1, y2, y3, y4, y5, y6, y7], _, [v0, v1, v2, v3, v4, v5, v6, v7], _ =>
        have c8 : Tryd.prog.cellsOf 5 = 1 := by kernel_rfl
        have ci : Tryd.prog.cellsOf 3 = 1 := by kernel_rfl
        have cu : Tryd.prog.cellsOf 33 = 1 := by kernel_rfl
        have cs : Tryd.prog.cellsOf 9 = 1 := by kernel_rfl
        have cb : Tryd.prog.cellsOf 34 = 1 := by kernel_rfl
        have g0 := hf 0 _ rfl
        have g1 := hf 1 _ rfl
        have g2 := hf 2 _ rfl
        have g3 := hf 3 _ rfl
        have g4 := hf 4 _ rfl
        have g5 := hf 5 _ rfl
        have g6 := hf 6 _ rfl
        have g7 := hf 7 _ rfl
        simp [c8, ci, cu, cs, cb] at g0 g1 g2 g3 g4 g5 g6 g7
        obtain ⟨n0, e0, _, w0⟩ := DataW.trod_int Tryd.underlying5 g0
        obtain ⟨n1, e1, _, w1⟩ := DataW.trod_int Tryd.underlying3 g1
        obtain ⟨n2, e2, _, w2⟩ := DataW.trod_int Tryd.underlying3 g2
        obtain ⟨n3, e3, _, w3⟩ := DataW.trod_int Tryd.underlying33 g3
        obtain ⟨s4, e4, _, w4⟩ := DataW.trod_string Tryd.underlying9 g4
        obtain ⟨n5, e5, _, w5⟩ := DataW.trod_int Tryd.underlying3 g5
        obtain ⟨n6, e6, _, w6⟩ := DataW.trod_int Tryd.underlying5 g6
        obtain ⟨K, kn, kc, ks, e7, k1, k2, k3⟩ := ksl_of_trodS g7
        injection e0 with e0 _
        injection e1 with e1 _
        injection e2 with e2 _
        injection e3 with e3 _
        injection e4 with e4 _
        injection e5 with e5 _
        injection e6 with e6 _
        subst e0 e1 e2 e3 e4 e5 e6 e7
        have b0 := bounds_u8 w0
        have b3 := bounds_u64 w3
        have b6 := bounds_u8 w6
        have b1 : i64B n1 := by have := bounds_i64 w1; unfold i64B; omega
        have b2 : i64B n2 := by have := bounds_i64 w2; unfold i64B; omega
        have b5 : i64B n5 := by have := bounds_i64 w5; unfold i64B; omega
        simp only [maxLen] at k3 w4
        have hsl : s4.data.toList.length = s4.size := by rw [Array.length_toList]; rfl
        refine ⟨⟨n0.toNat, n1, n2, n3.toNat, s4.data.toList, n5, n6.toNat, K, kn, kc, ks⟩, ⟨by show n0.toNat < 256; omega, b1, b2, by show n3.toNat < 18446744073709551616; omega, by show ((s4.data.toList.length : Nat) : Int) ≤ _; omega, b5, by show n6.toNat < 256; omega, k1, by show (kn : Int) ≤ _; omega⟩, fun k v hv => ?_⟩
        have hk8 : k < 8 := by
          rcases Nat.lt_or_ge k 8 with h | h
          · exact h
          · rw [List.getElem?_eq_none (by show 8 ≤ k; exact h)] at hv; cases hv
        have hc := hcell k hk8
        rw [add_add] at hc
        rw [hc, ← hv]
        unfold ActS.cells
        rw [Int.toNat_of_nonneg b0.1, Int.toNat_of_nonneg b3.1, Int.toNat_of_nonneg b6.1, bs_of]
    obtain ⟨l, hl2⟩ := choose_lt each
    refine ⟨some a, len, cap, l, e, hl, hm, fun hp => ?_⟩
    obtain ⟨b, o, spot⟩ := a
    have h0 := (hl2 0 hp).2 0 _ rfl
    have hs : spot = none := by simpa [Addr.add] using World.cell?_spot h0
    subst hs
    refine ⟨b, o, rfl, fun j hj => ⟨(hl2 j hj).1, fun i v hv => ?_⟩⟩
    have := (hl2 j hj).2 i v hv
    rw [add_plain] at this
    rw [Nat.add_assoc]
    exact this

set_option maxHeartbeats 2000000 in
set_option maxRecDepth 100000 in
theorem slotPlays_idle (n : Int) (La : Option Addr) (ln lc : Nat) (w : World) (h : n < 1 ∨ 12 < n ∨ 30 < ln) (hb : (ln : Int) ≤ 9223372036854775807) :
    Calls Tryd.prog 3 #[.int .i64 n, .slice La ln lc] w fun e w' => e = .returned (.bool true) ∧ Below w.heap.size w w' := by
  have HA := Lib.hid slot_Awake
  by_cases h1 : n < 1
  · have d1 : decide (n < 1) = true := decide_eq_true h1
    go_enter Tryd.func3, Tryd.ntmps3
    go_wp2_with fail
    refine (HA.out _).mono ?_
    rintro e w1 ⟨rfl, hb1⟩
    go_wp2_with fail
    go_ret
    exact ⟨rfl, hb1⟩
  · have d1 : decide (n < 1) = false := decide_eq_false h1
    by_cases h2 : 12 < n
    · have d2 : decide (12 < n) = true := decide_eq_true h2
      go_enter Tryd.func3, Tryd.ntmps3
      go_wp2_with fail
      refine (HA.out _).mono ?_
      rintro e w1 ⟨rfl, hb1⟩
      go_wp2_with fail
      go_ret
      exact ⟨rfl, hb1⟩
    · have d2 : decide (12 < n) = false := decide_eq_false h2
      have d3 : decide ((30 : Int) < (ln : Int)) = true := decide_eq_true (by omega)
      have d3' : decide (30 < ln) = true := decide_eq_true (by omega)
      go_enter Tryd.func3, Tryd.ntmps3
      go_wp2_with fail
      refine (HA.out _).mono ?_
      rintro e w1 ⟨rfl, hb1⟩
      go_wp2_with fail
      go_ret
      exact ⟨rfl, hb1⟩

theorem slotPlays_walk (n : Int) (La : Option Addr) (ln lc : Nat) (l : Nat → ActS) (w : World) (hL : ActsS w La ln l) (h1 : ln ≤ lc) (h2 : lc ≤ maxLen) :
    Calls Tryd.prog 3 #[.int .i64 n, .slice La ln lc] w fun e w' => e = .returned (.bool true) ∧ Below w.heap.size w w' := by
  simp only [maxLen] at h2
  by_cases hi : n < 1 ∨ 12 < n ∨ 30 < ln
  · exact slotPlays_idle n La ln lc w hi (by omega)
  · obtain ⟨k, rfl⟩ : ∃ k : Nat, n = k := ⟨n.toNat, by omega⟩
    exact slotPlays_main k La ln lc l w (by omega) (by omega) (by omega) hL

end Go.Proofs.YtbekebpkaeefiaaDoor
