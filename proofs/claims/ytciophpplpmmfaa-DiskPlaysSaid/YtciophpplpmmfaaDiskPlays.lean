/- The walk of DiskPlays, and what came in of acts. -/
import Derived.Test.YtciophpplpmmfaaRdL
import Derived.Deep.Slices
import Derived.Deep.Grids
namespace Go.Proofs.Ytciophpplpmmfaa
open Go.RowKit Go.Deep Go.ChangeShapes Go.WideShapes

instance : Inhabited ActT := ⟨⟨0, 0, 0, 0, false, none, 0, 0, []⟩⟩

theorem plain_addr {w : World} {a : Addr} {v : Value} (h : w.cell? a = some v) : a.spot = none := World.cell?_spot h

theorem ksl_of_trod {H : Type} {enc : TypeId × Value → H} {w : World} {base : Nat} {held : Bool} {fuel : Nat} {u : Value} {x : DataW H × List MemPlace}
    (h : DataW.trod enc Try.prog w base (fun _ => true) held fuel 33 [u] = some x) : ∃ K kn kc ks, u = .slice K kn kc ∧ KSl w K kn ks ∧ kn ≤ kc ∧ kc ≤ maxLen := by
  rcases open_bools Try.underlying33 Try.underlying4 (by kernel_rfl) h with ⟨hcs, _⟩ | ⟨a, len, cap, B, hcs, _, hl, hm, _, hx⟩
  · injection hcs with e _
    exact ⟨none, 0, 0, [], e, ⟨rfl, fun h => absurd h (Nat.lt_irrefl _)⟩, Nat.le_refl _, by simp [maxLen]⟩
  · injection hcs with e _
    refine ⟨some a, len, cap, (List.range len).map B, e, ⟨by simp, fun hp => ?_⟩, hl, hm⟩
    obtain ⟨b, o, spot⟩ := a
    have h0 := hx 0 (by omega)
    have hs : spot = none := by simpa [Addr.add] using World.cell?_spot h0
    subst hs
    refine ⟨b, o, rfl, fun j hj => ?_⟩
    have := hx j (by omega)
    rw [add_plain] at this
    rw [this, List.getD_eq_getElem?_getD, List.getElem?_map, List.getElem?_range hj]
    rfl

theorem acts_of_trod {H : Type} {enc : TypeId × Value → H} {w : World} {base : Nat} {held : Bool} {fuel : Nat} {u : Value} {x : DataW H × List MemPlace}
    (h : DataW.trod enc Try.prog w base (fun _ => true) held fuel 22 [u] = some x) : ∃ A n c l, u = .slice A n c ∧ n ≤ c ∧ c ≤ maxLen ∧ Acts w A n l := by
  rcases open_slice Try.underlying22 h with ⟨hcs, _⟩ | ⟨a, len, cap, m, n, D, Pl, hcs, _, hl, hm, hmm, _, hx⟩
  · injection hcs with e _
    exact ⟨none, 0, 0, default, e, Nat.le_refl _, by simp [maxLen], fun h => absurd h (Nat.lt_irrefl _)⟩
  · injection hcs with e _
    have ce : Try.prog.cellsOf 35 = 6 := by kernel_rfl
    have each : ∀ i, i < len → ∃ q : ActT, q.ok w ∧ ∀ k v, q.cells[k]? = some v → w.cell? (a.add (i * 6 + k)) = some v := by
      intro i hi
      have him : i < m := by rw [hmm]; simp; omega
      obtain ⟨cs', h1, h2⟩ := hx i him
      rw [ce] at h1
      obtain ⟨_, hlen, hcell⟩ := World.cells?_some h1
      obtain ⟨xs, k, hk, hxy, _, hxl, hf⟩ := DataW.trod_struct Try.underlying35 h2
      match xs, hxl, cs', hlen with
      | [y0, y1, y2, y3, y4, y5], _, [v0, v1, v2, v3, v4, v5], _ =>
        have c5 : Try.prog.cellsOf 5 = 1 := by kernel_rfl
        have c3 : Try.prog.cellsOf 3 = 1 := by kernel_rfl
        have c4 : Try.prog.cellsOf 4 = 1 := by kernel_rfl
        have c33 : Try.prog.cellsOf 33 = 1 := by kernel_rfl
        have g0 := hf 0 _ rfl
        have g1 := hf 1 _ rfl
        have g2 := hf 2 _ rfl
        have g3 := hf 3 _ rfl
        have g4 := hf 4 _ rfl
        have g5 := hf 5 _ rfl
        simp [c5, c3, c4, c33] at g0 g1 g2 g3 g4 g5
        obtain ⟨n0, e0, _, w0⟩ := DataW.trod_int Try.underlying5 g0
        obtain ⟨n1, e1, _, w1⟩ := DataW.trod_int Try.underlying3 g1
        obtain ⟨n2, e2, _, w2⟩ := DataW.trod_int Try.underlying3 g2
        obtain ⟨n3, e3, _, w3⟩ := DataW.trod_int Try.underlying5 g3
        obtain ⟨b4, e4, _⟩ := DataW.trod_bool Try.underlying4 g4
        obtain ⟨K, kn, kc, ks, e5, k1, k2, k3⟩ := ksl_of_trod g5
        injection e0 with e0 _
        injection e1 with e1 _
        injection e2 with e2 _
        injection e3 with e3 _
        injection e4 with e4 _
        subst e0 e1 e2 e3 e4 e5
        have b0 := bounds_u8 w0
        have b3 := bounds_u8 w3
        have b2 : -9223372036854775808 ≤ n2 ∧ n2 ≤ 9223372036854775807 := by
          have := bounds_i64 w2
          omega
        refine ⟨⟨n0.toNat, n1, n2, n3.toNat, b4, K, kn, kc, ks⟩, ⟨by show n0.toNat < 256; omega, b2, by show n3.toNat < 256; omega, k1⟩, fun k v hv => ?_⟩
        have hk6 : k < 6 := by
          rcases Nat.lt_or_ge k 6 with h | h
          · exact h
          · rw [List.getElem?_eq_none (by show 6 ≤ k; exact h)] at hv; cases hv
        have hc := hcell k hk6
        rw [add_add] at hc
        rw [hc, ← hv]
        unfold ActT.cells
        rw [Int.toNat_of_nonneg b0.1, Int.toNat_of_nonneg b3.1]
    obtain ⟨l, hl2⟩ := choose_lt each
    refine ⟨some a, len, cap, l, e, hl, hm, fun hp => ?_⟩
    obtain ⟨b, o, spot⟩ := a
    have h0 := (hl2 0 hp).2 0 _ rfl
    have hs : spot = none := by simpa [Addr.add] using World.cell?_spot h0
    subst hs
    refine ⟨b, o, rfl, fun j hj => ⟨(hl2 j hj).1, fun i v hv => ?_⟩⟩
    have := (hl2 j hj).2 i v hv
    rw [add_plain] at this
    rw [Nat.add_assoc]
    exact this

set_option maxHeartbeats 2000000 in
set_option maxRecDepth 100000 in
theorem plays_idle (n : Int) (La : Option Addr) (ln lc : Nat) (w : World) (h : (40 < n ∧ n ≤ 4096) ∨ 60 < ln) (hb : (ln : Int) ≤ 9223372036854775807) :
    Calls Try.prog 3 #[.int .i64 n, .slice La ln lc] w fun e w' => e = .returned (.bool true) ∧ Below w.heap.size w w' := by
  have HA := Lib.hid disk_Awake
  by_cases h1 : 40 < n ∧ n ≤ 4096
  · have d1 : decide (40 < n) = true := decide_eq_true h1.1
    have d2 : decide (n ≤ 4096) = true := decide_eq_true h1.2
    go_enter Try.func3, Try.ntmps3
    go_wp2_with fail
    refine (HA.out _).mono ?_
    rintro e w1 ⟨rfl, hb1⟩
    go_wp2_with fail
    go_ret
    exact ⟨rfl, hb1⟩
  · have h2 : 60 < ln := by
      rcases h with h | h
      · exact absurd h h1
      · exact h
    have d3 : decide ((60 : Int) < (ln : Int)) = true := decide_eq_true (by omega)
    have d3' : decide (60 < ln) = true := decide_eq_true h2
    by_cases h3 : 40 < n
    · have d1 : decide (40 < n) = true := decide_eq_true h3
      have d2 : decide (n ≤ 4096) = false := decide_eq_false (by omega)
      go_enter Try.func3, Try.ntmps3
      go_wp2_with fail
      refine (HA.out _).mono ?_
      rintro e w1 ⟨rfl, hb1⟩
      go_wp2_with fail
      go_ret
      exact ⟨rfl, hb1⟩
    · have d1 : decide (40 < n) = false := decide_eq_false h3
      go_enter Try.func3, Try.ntmps3
      go_wp2_with fail
      refine (HA.out _).mono ?_
      rintro e w1 ⟨rfl, hb1⟩
      go_wp2_with fail
      go_ret
      exact ⟨rfl, hb1⟩

set_option maxHeartbeats 2000000 in
set_option maxRecDepth 100000 in
theorem plays_bad (n : Int) (La : Option Addr) (ln lc : Nat) (w : World) (h : n < 1 ∨ 4096 < n) (hln : ln ≤ 60) :
    Calls Try.prog 3 #[.int .i64 n, .slice La ln lc] w fun e w' => e = .returned (.bool true) ∧ Below w.heap.size w w' := by
  have HA := Lib.hid disk_Awake
  have HN := Lib.hid (disk_New_bad n w h)
  have d3 : decide ((60 : Int) < (ln : Int)) = false := decide_eq_false (by omega)
  have d3' : decide (60 < ln) = false := decide_eq_false (by omega)
  by_cases h1 : n < 1
  · have d1 : decide (40 < n) = false := decide_eq_false (by omega)
    have d4 : decide (n < 1) = true := decide_eq_true h1
    go_enter Try.func3, Try.ntmps3
    go_wp2_with fail
    refine HN.out.mono ?_
    rintro e w1 ⟨rfl, rfl⟩
    go_wp2_with fail
    refine (HA.out _).mono ?_
    rintro e w1 ⟨rfl, hb1⟩
    go_wp2_with fail
    go_ret
    exact ⟨rfl, hb1⟩
  · have d1 : decide (40 < n) = true := decide_eq_true (by omega)
    have d2 : decide (n ≤ 4096) = false := decide_eq_false (by omega)
    have d4 : decide (n < 1) = false := decide_eq_false h1
    have d5 : decide (4096 < n) = true := decide_eq_true (by omega)
    go_enter Try.func3, Try.ntmps3
    go_wp2_with fail
    refine HN.out.mono ?_
    rintro e w1 ⟨rfl, rfl⟩
    go_wp2_with fail
    refine (HA.out _).mono ?_
    rintro e w1 ⟨rfl, hb1⟩
    go_wp2_with fail
    go_ret
    exact ⟨rfl, hb1⟩

theorem diskPlays_walk (n : Int) (La : Option Addr) (ln lc : Nat) (l : Nat → ActT) (w : World) (hL : Acts w La ln l) (h1 : ln ≤ lc) (h2 : lc ≤ maxLen) :
    Calls Try.prog 3 #[.int .i64 n, .slice La ln lc] w fun e w' => e = .returned (.bool true) ∧ Below w.heap.size w w' := by
  simp only [maxLen] at h2
  by_cases hi : (40 < n ∧ n ≤ 4096) ∨ 60 < ln
  · exact plays_idle n La ln lc w hi (by omega)
  · by_cases hb : n < 1 ∨ 4096 < n
    · exact plays_bad n La ln lc w hb (by omega)
    · obtain ⟨k, rfl⟩ : ∃ k : Nat, n = k := ⟨n.toNat, by omega⟩
      exact plays_main k La ln lc l w (by omega) (by omega) (by omega) hL h1

end Go.Proofs.Ytciophpplpmmfaa
