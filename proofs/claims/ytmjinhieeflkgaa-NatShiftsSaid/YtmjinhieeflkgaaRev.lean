/- The contract of slices.Reverse at bytes, over a block that is known whole. -/
import Derived.Test.YtmjinhieeflkgaaOver
namespace Go.Proofs.Ytmjinhieeflkgaa
open Go.RowKit

def RevAt (es cur : List Nat) (n k : Nat) : Prop := cur.length = n ∧ ∀ t, t < n → cur.getD t 0 = if t < k ∨ n ≤ t + k then es.getD (n - 1 - t) 0 else es.getD t 0

theorem RevAt.start {es : List Nat} {n : Nat} (h : es.length = n) : RevAt es es n 0 := ⟨h, fun t ht => by rw [if_neg (by omega)]⟩
theorem RevAt.step {es cur : List Nat} {n k : Nat} (h : RevAt es cur n k) (hk : k + k + 1 < n) :
    RevAt es ((cur.set k (cur.getD (n - 1 - k) 0)).set (n - 1 - k) (cur.getD k 0)) n (k + 1) := by
  obtain ⟨h1, h2⟩ := h
  refine ⟨by simp [h1], fun t ht => ?_⟩
  have hA := h2 (n - 1 - k) (by omega)
  rw [if_neg (by omega)] at hA
  have hB := h2 k (by omega)
  rw [if_neg (by omega)] at hB
  by_cases e1 : t = n - 1 - k
  · subst e1
    rw [List.getD_eq_getElem?_getD, List.getElem?_set_self (by simp [h1]; omega), Option.getD_some, if_pos (by omega), hB]
    congr 1
    omega
  · rw [List.getD_eq_getElem?_getD, List.getElem?_set_ne (by omega)]
    by_cases e2 : t = k
    · subst e2
      rw [List.getElem?_set_self (by omega), Option.getD_some, if_pos (by omega), hA]
    · rw [List.getElem?_set_ne (by omega), ← List.getD_eq_getElem?_getD, h2 t ht]
      by_cases c : t < k ∨ n ≤ t + k
      · rw [if_pos c, if_pos (by omega)]
      · rw [if_neg c, if_neg (by omega)]
theorem RevAt.done {es cur : List Nat} {n k : Nat} (h : RevAt es cur n k) (he : es.length = n) (hk : n ≤ k + k + 1) : cur = es.reverse := by
  obtain ⟨h1, h2⟩ := h
  apply List.ext_getElem (by simp [h1, he])
  intro t ha hb
  have := h2 t (by omega)
  rw [List.getD_eq_getElem?_getD, List.getElem?_eq_getElem ha, Option.getD_some] at this
  rw [this, List.getElem_reverse]
  split
  · rw [List.getD_eq_getElem?_getD, List.getElem?_eq_getElem (by omega), Option.getD_some]
    congr 1
    omega
  · rename_i hc
    rw [List.getD_eq_getElem?_getD, List.getElem?_eq_getElem (by omega), Option.getD_some]
    congr 1
    omega

theorem nums_set {k : IntKind} {cur : List Nat} {rest : List Value} {j y : Nat} (hj : j < cur.length) : (nums k cur ++ rest).set j (.int k (y : Int)) = nums k (cur.set j y) ++ rest := by
  rw [List.set_append_left _ _ (by rw [nums_length]; exact hj)]
  simp [nums, List.map_set]

set_option maxHeartbeats 1000000 in
set_option maxRecDepth 100000 in
theorem slices_Reverse (g n c : Nat) (es : List Nat) (rest : List Value) (w : World) (hblk : Blk w g 5 (nums .u8 es ++ rest)) (hl : es.length = n) (hn : (n : Int) ≤ 9223372036854775807) :
    Calls Try.prog 32 #[.slice (some ⟨g, 0, none⟩) n c] w fun e w' => e = .returned (.tuple #[]) ∧ Blk w' g 5 (nums .u8 es.reverse ++ rest) ∧ w.grownBy w' (some g) := by
  have HB := Lib.hid hblk
  have HL := Lib.hid hl
  clear hblk hl
  go_enter Try.func32, Try.ntmps32
  go_wp2
  go_loopw [2, 3] (fun iv jv wr => ∃ (k : Nat) (cur : List Nat), iv = .int .i64 k ∧ jv = .int .i64 ((n : Int) - 1 - k) ∧ k + k ≤ n ∧ Hid (RevAt es cur n k) ∧ Hid (Blk wr g 5 (nums .u8 cur ++ rest)) ∧ w.grownBy wr (some g)) (fun iv _ _ => n - (intOf iv).toNat)
  case atStart => exact ⟨0, es, rfl, by simp, by omega, Lib.hid (RevAt.start HL.out), HB, World.grownBy.refl _ _⟩
  case round =>
    obtain ⟨k, cur, rfl, rfl, hk, hr, hb, hg⟩ := hrel
    by_cases hlt : (k : Int) < (n : Int) - 1 - (k : Int)
    · have hlen := hr.out.1
      have hc1 := hb.out.cell k
      rw [List.getElem?_append_left (by rw [nums_length]; omega), nums_get _ _ _ (by omega)] at hc1
      have hc2 := hb.out.cell (n - 1 - k)
      rw [List.getElem?_append_left (by rw [nums_length]; omega), nums_get _ _ _ (by omega)] at hc2
      have hf1 := hb.out.frozen k
      have hf2 := hb.out.frozen (n - 1 - k)
      have HS := Lib.hid (hr.out.step (by omega))
      obtain ⟨u, hu⟩ : ∃ u, u = cur.getD k 0 := ⟨_, rfl⟩
      obtain ⟨v, hv⟩ : ∃ v, v = cur.getD (n - 1 - k) 0 := ⟨_, rfl⟩
      rw [← hu] at hc1 HS
      rw [← hv] at hc2 HS
      have hc3 : ∀ z : Value, (wr.setCell ⟨g, k, none⟩ z).cell? ⟨g, n - 1 - k, none⟩ = some (.int .u8 (v : Int)) := fun z => (World.cell?_setCell_other wr _ _ z (by intro e; injection e with _ e2; omega)).trans hc2
      have hb3 : Hid (Blk ((wr.setCell ⟨g, k, none⟩ (.int .u8 (v : Int))).setCell ⟨g, n - 1 - k, none⟩ (.int .u8 (u : Int))) g 5 (nums .u8 ((cur.set k v).set (n - 1 - k) u) ++ rest)) := Lib.hid (by
        have := (hb.out.set_ k (.int .u8 (v : Int))).set_ (n - 1 - k) (.int .u8 (u : Int))
        rw [nums_set (by omega), nums_set (by simp; omega)] at this
        exact this)
      clear hu hv hr hb hlen
      go_wp2
      go_region
      all_goals go_wp2
      all_goals go_roundw
      case rel => exact ⟨k + 1, _, by go_num, by go_num, by omega, HS, hb3, grown_drewN (grown_set (grown_set hg _ _) _ _) 1⟩
      case measure => simp [intOf]; omega
    · have hd := hr.out.done HL.out (by omega)
      subst hd
      clear hr
      go_wp2
      go_end0
      exact ⟨rfl, hb.out, hg⟩

end Go.Proofs.Ytmjinhieeflkgaa
