/- Contracts of the document's at, Add, Sub. -/
import Derived.Test.YtmjinhieeflkgaaDoorRRRRRefA
namespace Go.Proofs.YtmjinhieeflkgaaDoorRRRR
open Go.RowKit

theorem ref_at (A : Option Addr) (n c j : Nat) (xs : List Nat) (w : World) (h : Sl .i64 w A n c xs) :
    Calls Tryd.prog 50 #[.slice A n c, .int .i64 j] w fun e w' => e = .returned (.int .i64 (xs.getD j 0 : Nat)) ∧ w = w' := by
  by_cases hj : j < n
  · obtain ⟨b, off, rfl, hc⟩ := h.2.2.2 (by omega)
    have hcell := hc j hj
    obtain ⟨u, hu⟩ : ∃ u, u = xs.getD j 0 := ⟨_, rfl⟩
    rw [← hu] at hcell ⊢
    clear hc h hu
    go_enter Tryd.func50, Tryd.ntmps50
    go_wp2
    go_ret
    exact ⟨rfl, rfl⟩
  · have h0 : xs.getD j 0 = 0 := by rw [List.getD_eq_getElem?_getD, List.getElem?_eq_none (by rw [h.1]; omega)]; rfl
    rw [h0]
    clear h h0
    go_enter Tryd.func50, Tryd.ntmps50
    go_wp2
    go_ret
    exact ⟨rfl, rfl⟩

/-- One digit of a sum, any base. -/
theorem add_stepG {b : Nat} {zs xs ys : List Nat} {k cy : Nat} (hl : zs.length = k) (h : val b zs + b ^ k * cy = val b (xs.take k) + val b (ys.take k)) :
    val b (zs ++ [(xs.getD k 0 + ys.getD k 0 + cy) % b]) + b ^ (k + 1) * ((xs.getD k 0 + ys.getD k 0 + cy) / b) = val b (xs.take (k + 1)) + val b (ys.take (k + 1)) := by
  have hx : val b (xs.take (k + 1)) = val b (xs.take k) + b ^ k * xs.getD k 0 := by
    by_cases h : k < xs.length
    · exact val_take_succ b xs k h
    · rw [List.take_of_length_le (by omega), List.take_of_length_le (by omega), List.getD_eq_getElem?_getD, List.getElem?_eq_none (by omega)]; simp
  have hy : val b (ys.take (k + 1)) = val b (ys.take k) + b ^ k * ys.getD k 0 := by
    by_cases h : k < ys.length
    · exact val_take_succ b ys k h
    · rw [List.take_of_length_le (by omega), List.take_of_length_le (by omega), List.getD_eq_getElem?_getD, List.getElem?_eq_none (by omega)]; simp
  rw [val_snoc, hl, Nat.pow_succ, Nat.mul_assoc, Nat.add_assoc, ← Nat.mul_add, Nat.mod_add_div, hx, hy, Nat.mul_add, Nat.mul_add]
  omega

/-- One digit of a difference, any base. -/
theorem sub_stepG {b u v bw d W : Nat} {zs xs ys : List Nat} {k : Nat} (hl : zs.length = k) (h : val b zs + val b (ys.take k) = val b (xs.take k) + b ^ k * bw) (hw : d + v + bw = u + b * W)
    (hx : val b (xs.take (k + 1)) = val b (xs.take k) + b ^ k * u) (hy : val b (ys.take (k + 1)) = val b (ys.take k) + b ^ k * v) :
    val b (zs ++ [d]) + val b (ys.take (k + 1)) = val b (xs.take (k + 1)) + b ^ (k + 1) * W := by
  have h2 : b ^ k * (d + v + bw) = b ^ k * (u + b * W) := by rw [hw]
  rw [val_snoc, hl, hx, hy, Nat.pow_succ, Nat.mul_assoc]
  simp only [Nat.mul_add] at h2
  omega

/-- A slice that holds something lies in a block from B on. -/
def Fresh (B : Nat) (A : Option Addr) (n : Nat) : Prop := 0 < n → ∃ b o, A = some ⟨b, o, none⟩ ∧ B ≤ b
theorem Sl.of_ownsF {k : IntKind} {w : World} {base e n : Nat} {v : Value} {ys : List Nat} (h : w.ownsRow base e 1 v n (nums k ys)) :
    ∃ A c, v = .slice A n c ∧ Sl k w A n c ys ∧ Fresh base A n := by
  obtain ⟨A, c, hv, hs⟩ := Sl.of_owns h
  refine ⟨A, c, hv, hs, fun hn => ?_⟩
  obtain ⟨_, h2⟩ := h
  rcases h2 with ⟨rfl, h0⟩ | ⟨g, cap, cur, rfl, hb, _⟩
  · omega
  · injection hv with hv _ _
    exact ⟨g, 0, hv.symm, hb⟩
theorem Rep.setFar {k : IntKind} {b : Nat} {w : World} {A : Option Addr} {n c x B : Nat} (h : Rep k b w A n c x) (hf : Fresh B A n) {p : Addr} (hp : p.block < B) (u : Value) : Rep k b (w.setCell p u) A n c x := by
  obtain ⟨xs, h1, h2⟩ := h
  refine ⟨xs, ⟨h1.1, h1.2.1, h1.2.2.1, fun hn => ?_⟩, h2⟩
  obtain ⟨b', o, e, hc⟩ := h1.2.2.2 hn
  obtain ⟨b2, o2, e2, hb⟩ := hf hn
  rw [e] at e2
  injection e2 with e2
  injection e2 with e2 _
  exact ⟨b', o, e, fun j hj => (World.cell?_setCell_other w p ⟨b', o + j, none⟩ u (by rintro rfl; simp at hp; omega)).trans (hc j hj)⟩

set_option maxHeartbeats 2000000 in
theorem ref_SubF (A : Option Addr) (n c x : Nat) (B : Option Addr) (m cb y : Nat) (w : World) (h : Rep .i64 65536 w A n c x) (h' : Rep .i64 65536 w B m cb y) (hn : n ≤ 1000000000) (hyx : y ≤ x) :
    Calls Tryd.prog 34 #[.slice A n c, .slice B m cb] w fun e w' => ∃ A' n' c', e = .returned (.slice A' n' c') ∧ Rep .i64 65536 w' A' n' c' (x - y) ∧ Fresh w.heap.size A' n' ∧ Below w.heap.size w w' := by
  obtain ⟨i0, hi, hz0, hz1, hz2⟩ := info_parts Tryd.info3
  have hmn : m ≤ n := (h'.len_le (by omega) n).2 (Nat.lt_of_le_of_lt hyx ((h.len_le (by omega) n).1 (Nat.le_refl n)))
  obtain ⟨xs, h1, h2, h3, h4⟩ := h
  obtain ⟨ys, k1, k2, k3, k4⟩ := h'
  have H1 := Lib.hid h1
  have K1 := Lib.hid k1
  have H4 := Lib.hid h4
  have K4 := Lib.hid k4
  have HLX := Lib.hid h1.1
  have HLY := Lib.hid k1.1
  clear h1 k1 h3 k3 h4 k4
  go_enter Tryd.func34, Tryd.ntmps34
  go_wp2
  go_loopw [5, 6, 7] (fun v cv iv wr => ∃ (k cy : Nat) (zs : List Nat), iv = .int .i64 k ∧ cv = .int .i64 cy ∧ cy ≤ 1 ∧ k ≤ n ∧ wr.ownsRow w.heap.size 3 1 v zs.length (nums .i64 zs) ∧ Dig 65536 zs ∧ Hid (zs.length = k) ∧
      Hid (val 65536 zs + val 65536 (ys.take k) = val 65536 (xs.take k) + 65536 ^ k * cy) ∧ Below w.heap.size w wr) (fun _ _ iv _ => n - (intOf iv).toNat)
  case atStart => exact ⟨0, 0, [], rfl, rfl, by omega, by omega, World.ownsRow_nil _ _ _ _, Dig.nil _, Lib.hid rfl, Lib.hid rfl, Below.refl _ _⟩
  case round =>
    obtain ⟨k, cy, zs, rfl, rfl, hcy, hkn, hown, hdz, hlz, hv, hb⟩ := hrel
    by_cases hlt : k < n
    · have hkx : k < xs.length := by rw [HLX.out]; omega
      obtain ⟨b, off, rfl, hbl, hc⟩ := H1.out.block (by omega)
      have hcell := (hb.cell (p := ⟨b, off + k, none⟩) hbl).trans (hc k hlt)
      have hx0 := h2.getD (by omega) k
      have hy0 := k2.getD (by omega) k
      have hS2 := Lib.hid (K1.out.keep hb)
      have HAT2 := Lib.hid (fun W (hW : Sl .i64 W B m cb ys) => ref_at B m cb k ys W hW)
      have hvx := val_take_succ 65536 xs k hkx
      have hvy : val 65536 (ys.take (k + 1)) = val 65536 (ys.take k) + 65536 ^ k * ys.getD k 0 := by
        by_cases h : k < ys.length
        · exact val_take_succ _ ys k h
        · rw [List.take_of_length_le (by omega), List.take_of_length_le (by omega), List.getD_eq_getElem?_getD, List.getElem?_eq_none (by omega)]; simp
      obtain ⟨u, hu⟩ : ∃ u, u = xs.getD k 0 := ⟨_, rfl⟩
      obtain ⟨v, hv2⟩ : ∃ v, v = ys.getD k 0 := ⟨_, rfl⟩
      rw [← hu] at hx0 hcell hvx
      rw [← hv2] at hy0 HAT2 hvy
      have hlb : zs.length ≤ 8796093022208 := by rw [hlz.out]; omega
      have hsz := hb.size
      have HVX := Lib.hid hvx
      have HVY := Lib.hid hvy
      clear hu hv2 hvx hvy hc
      go_wp2
      go_quiet ((go_at_call 50; exact qcall0 (HAT2.out _ (hS2.out.drewN _))))
      have hown2 := owns_all hown nq
      have hb2 := Below.drewN hb nq
      generalize World.drewN wr nq = w2 at hown2 hb2 ⊢
      have hsz2 := hb2.size
      clear hown hb hsz hcell
      by_cases hneg : (u : Int) - (v : Int) - (cy : Int) < 0
      · have HST := Lib.hid (sub_stepG (W := 1) (d := u + 65536 - v - cy) hlz.out hv.out (by omega) HVX.out HVY.out)
        have HLZ : Hid ((zs ++ [u + 65536 - v - cy]).length = k + 1) := Lib.hid (by rw [List.length_append, hlz.out]; rfl)
        clear hv hlz
        go_wp2_with (at_builtin; refine wpList_append1 rfl (.tmp 29) (.tmp 31) 25 rfl .i64 w.heap.size 3 i0 (.int .i64 0) 8 Tryd.underlying25 hi hz0 hz1 hz2 rfl _ zs rfl hown2 _ (u + 65536 - v - cy) ?_ _ rfl hlb (by omega) hb2 hsz2 ?_)
        · omega
        · intro v1 w3 hown3 hb3 _
          clear hown2 hb2
          go_wp2
          go_roundw
          case rel => exact ⟨k + 1, 1, _, by go_num, rfl, by omega, by omega, by rw [List.length_append]; exact hown3, hdz.app (Dig.cons (by omega) (Dig.nil _)), HLZ, HST, hb3⟩
          case measure => simp [intOf]; omega
      · have HST := Lib.hid (sub_stepG (W := 0) (d := u - v - cy) hlz.out hv.out (by omega) HVX.out HVY.out)
        have HLZ : Hid ((zs ++ [u - v - cy]).length = k + 1) := Lib.hid (by rw [List.length_append, hlz.out]; rfl)
        clear hv hlz
        go_wp2_with (at_builtin; refine wpList_append1 rfl (.tmp 29) (.tmp 31) 25 rfl .i64 w.heap.size 3 i0 (.int .i64 0) 8 Tryd.underlying25 hi hz0 hz1 hz2 rfl _ zs rfl hown2 _ (u - v - cy) ?_ _ rfl hlb (by omega) hb2 hsz2 ?_)
        · omega
        · intro v1 w3 hown3 hb3 _
          clear hown2 hb2
          go_wp2
          go_roundw
          case rel => exact ⟨k + 1, 0, _, by go_num, rfl, by omega, by omega, by rw [List.length_append]; exact hown3, hdz.app (Dig.cons (by omega) (Dig.nil _)), HLZ, HST, hb3⟩
          case measure => simp [intOf]; omega
    · have hkn2 : k = n := by omega
      obtain ⟨A', c', rfl, hsl, hfr⟩ := Sl.of_ownsF hown
      have HSL := Lib.hid hsl
      have HV : Hid (val 65536 zs = x - y) := Lib.hid (by
        have := hv.out
        rw [List.take_of_length_le (l := xs) (by rw [HLX.out]; omega), List.take_of_length_le (l := ys) (by rw [HLY.out]; omega), H4.out, K4.out] at this
        have hb2 := val_lt hdz
        rw [hlz.out] at hb2
        rcases Nat.eq_zero_or_pos cy with rfl | hp
        · omega
        · have : 65536 ^ k * 1 ≤ 65536 ^ k * cy := Nat.mul_le_mul_left _ hp
          omega)
      clear hsl hv hown hlz
      go_wp2_with (go_at_call 20; refine (ref_trim _ _ _ zs _ HSL.out).mono ?_; rintro e w' ⟨rfl, rfl⟩)
      go_ret
      refine ⟨_, _, _, rfl, ⟨trimL zs, ?_, trimL_dig hdz, trimL_idem zs, ?_⟩, fun h0 => hfr (Nat.lt_of_lt_of_le h0 (trimL_len zs)), hb⟩
      · have := HSL.out.take (trimL zs).length (trimL_len zs)
        rw [← trimL_take] at this
        exact this
      · rw [val_trim, HV.out]

theorem ref_Sub (A : Option Addr) (n c x : Nat) (B : Option Addr) (m cb y : Nat) (w : World) (h : Rep .i64 65536 w A n c x) (h' : Rep .i64 65536 w B m cb y) (hn : n ≤ 1000000000) (hyx : y ≤ x) :
    Calls Tryd.prog 34 #[.slice A n c, .slice B m cb] w fun e w' => ∃ A' n' c', e = .returned (.slice A' n' c') ∧ Rep .i64 65536 w' A' n' c' (x - y) ∧ Below w.heap.size w w' :=
  (ref_SubF A n c x B m cb y w h h' hn hyx).mono fun _ _ ⟨A', n', c', h1, h2, _, h4⟩ => ⟨A', n', c', h1, h2, h4⟩

end Go.Proofs.YtmjinhieeflkgaaDoorRRRR
