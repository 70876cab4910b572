/- Contracts of the document's at, Add, Sub. -/
import Derived.Test.YtmjinhieeflkgaaRefA
namespace Go.Proofs.Ytmjinhieeflkgaa
open Go.RowKit

theorem ref_at (A : Option Addr) (n c j : Nat) (xs : List Nat) (w : World) (h : Sl .i64 w A n c xs) :
    Calls Try.prog 29 #[.slice A n c, .int .i64 j] w fun e w' => e = .returned (.int .i64 (xs.getD j 0 : Nat)) ∧ w = w' := by
  by_cases hj : j < n
  · obtain ⟨b, off, rfl, hc⟩ := h.2.2.2 (by omega)
    have hcell := hc j hj
    obtain ⟨u, hu⟩ : ∃ u, u = xs.getD j 0 := ⟨_, rfl⟩
    rw [← hu] at hcell ⊢
    clear hc h hu
    go_enter Try.func29, Try.ntmps29
    go_wp2
    go_ret
    exact ⟨rfl, rfl⟩
  · have h0 : xs.getD j 0 = 0 := by rw [List.getD_eq_getElem?_getD, List.getElem?_eq_none (by rw [h.1]; omega)]; rfl
    rw [h0]
    clear h h0
    go_enter Try.func29, Try.ntmps29
    go_wp2
    go_ret
    exact ⟨rfl, rfl⟩

/-- One digit of a sum, any base. -/
theorem add_stepG {b : Nat} {zs xs ys : List Nat} {k cy : Nat} (hl : zs.length = k) (h : val b zs + b ^ k * cy = val b (xs.take k) + val b (ys.take k)) :
    val b (zs ++ [(xs.getD k 0 + ys.getD k 0 + cy) % b]) + b ^ (k + 1) * ((xs.getD k 0 + ys.getD k 0 + cy) / b) = val b (xs.take (k + 1)) + val b (ys.take (k + 1)) := by
  have hx : val b (xs.take (k + 1)) = val b (xs.take k) + b ^ k * xs.getD k 0 := by
    by_cases h : k < xs.length
    · exact val_take_succ b xs k h
    · rw [List.take_of_length_le (by omega), List.take_of_length_le (by omega), List.getD_eq_getElem?_getD, List.getElem?_eq_none (by omega)]; simp
  have hy : val b (ys.take (k + 1)) = val b (ys.take k) + b ^ k * ys.getD k 0 := by
    by_cases h : k < ys.length
    · exact val_take_succ b ys k h
    · rw [List.take_of_length_le (by omega), List.take_of_length_le (by omega), List.getD_eq_getElem?_getD, List.getElem?_eq_none (by omega)]; simp
  rw [val_snoc, hl, Nat.pow_succ, Nat.mul_assoc, Nat.add_assoc, ← Nat.mul_add, Nat.mod_add_div, hx, hy, Nat.mul_add, Nat.mul_add]
  omega

/-- One digit of a difference, any base. -/
theorem sub_stepG {b u v bw d W : Nat} {zs xs ys : List Nat} {k : Nat} (hl : zs.length = k) (h : val b zs + val b (ys.take k) = val b (xs.take k) + b ^ k * bw) (hw : d + v + bw = u + b * W)
    (hx : val b (xs.take (k + 1)) = val b (xs.take k) + b ^ k * u) (hy : val b (ys.take (k + 1)) = val b (ys.take k) + b ^ k * v) :
    val b (zs ++ [d]) + val b (ys.take (k + 1)) = val b (xs.take (k + 1)) + b ^ (k + 1) * W := by
  have h2 : b ^ k * (d + v + bw) = b ^ k * (u + b * W) := by rw [hw]
  rw [val_snoc, hl, hx, hy, Nat.pow_succ, Nat.mul_assoc]
  simp only [Nat.mul_add] at h2
  omega

/-- A slice that holds something lies in a block from B on. -/
def Fresh (B : Nat) (A : Option Addr) (n : Nat) : Prop := 0 < n → ∃ b o, A = some ⟨b, o, none⟩ ∧ B ≤ b
theorem Sl.of_ownsF {k : IntKind} {w : World} {base e n : Nat} {v : Value} {ys : List Nat} (h : w.ownsRow base e 1 v n (nums k ys)) :
    ∃ A c, v = .slice A n c ∧ Sl k w A n c ys ∧ Fresh base A n := by
  obtain ⟨A, c, hv, hs⟩ := Sl.of_owns h
  refine ⟨A, c, hv, hs, fun hn => ?_⟩
  obtain ⟨_, h2⟩ := h
  rcases h2 with ⟨rfl, h0⟩ | ⟨g, cap, cur, rfl, hb, _⟩
  · omega
  · injection hv with hv _ _
    exact ⟨g, 0, hv.symm, hb⟩
theorem Rep.setFar {k : IntKind} {b : Nat} {w : World} {A : Option Addr} {n c x B : Nat} (h : Rep k b w A n c x) (hf : Fresh B A n) {p : Addr} (hp : p.block < B) (u : Value) : Rep k b (w.setCell p u) A n c x := by
  obtain ⟨xs, h1, h2⟩ := h
  refine ⟨xs, ⟨h1.1, h1.2.1, h1.2.2.1, fun hn => ?_⟩, h2⟩
  obtain ⟨b', o, e, hc⟩ := h1.2.2.2 hn
  obtain ⟨b2, o2, e2, hb⟩ := hf hn
  rw [e] at e2
  injection e2 with e2
  injection e2 with e2 _
  exact ⟨b', o, e, fun j hj => (World.cell?_setCell_other w p ⟨b', o + j, none⟩ u (by rintro rfl; simp at hp; omega)).trans (hc j hj)⟩

end Go.Proofs.Ytmjinhieeflkgaa
