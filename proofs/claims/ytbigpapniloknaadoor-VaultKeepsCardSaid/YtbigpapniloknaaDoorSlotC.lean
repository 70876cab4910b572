/- The contract of slot's Newest. -/
import Derived.Test.YtbigpapniloknaaDoorJSlb
namespace Go.Proofs.YtbigpapniloknaaDoor
open Go.RowKit Go.Maps
set_option maxRecDepth 100000
attribute [local go_sem] Oper.semAt_some

def newStep (g : Nat) (x : Nat × RecT) : Nat := if x.2.1 = 2 ∨ x.2.1 = 3 then max g x.2.2.1 else g
def newF (L : List (Nat × RecT)) : Nat := L.foldl newStep 0
theorem newF_snoc (L : List (Nat × RecT)) (x : Nat × RecT) : newF (L ++ [x]) = newStep (newF L) x := by unfold newF; rw [List.foldl_append]; rfl

theorem nmax (a b : Nat) : ((max a b : Nat) : Int) = max (a : Int) (b : Int) := by omega

set_option maxHeartbeats 8000000 in
theorem slot_Newest (base : Nat) (w : World) (p gl M : Nat) (v : Value) (D : DSt) (i r : Int) (hi : i ≤ 9223372036854775807) (h : IsDisk base w p gl M v D) :
    Calls Tryd.prog 28 #[.pointer (some ⟨p, 0, none⟩), .int .i64 i, .int .i64 r] w fun e w' => e = .returned (.int .u64 ((newF (openL2 D i r) : Nat) : Int)) ∧ Below w.heap.size w w' := by
  have HD : Hid (∀ W', Below w.heap.size w W' → IsDisk base W' p gl M v D) := Lib.hid (fun W' hb => h.keep hb)
  have HOP := Lib.hid (fun W => slot_opened W p i r)
  clear h
  refine (callsIn_wide (n := 0)).1 ?_
  refine callsIn_of_wp_marks Tryd.func28 rfl trivial ?_ rfl
  simp only [Tryd.ntmps28, List.size_toArray, List.length_cons, List.length_nil, Nat.reduceAdd, Nat.reduceSub, Array.replicate_succ, Array.replicate_zero, List.push_toArray, List.append_toArray, List.nil_append, List.cons_append]
  gi_wp2_with fail
  refine ⟨trivial, rfl, (callsIn_wide.2 (HOP.out _)).mono ?_⟩
  rintro e w1 ⟨rfl, rfl⟩
  gi_wp2_with fail
  obtain ⟨W0, hW0⟩ : ∃ W0, W0 = ((((w.alloc (.cells #[.int .u64 0] 29)).alloc (.cells #[.pointer (some ⟨p, 0, none⟩)] 24)).alloc (.cells #[.int .i64 i] 3)).alloc (.cells #[.int .i64 r] 3)) := ⟨_, rfl⟩
  have hsz : W0.heap.size = w.heap.size + 4 := by rw [hW0]; simp
  have G0 : Blk W0 w.heap.size 29 [.int .u64 0] := by rw [hW0]; exact (((Blk.new1 _ _ _).alloc _).alloc _).alloc _
  have C0 : Caps W0 (w.heap.size + 1) p i r := by
    have h := caps_new (w.alloc (.cells #[.int .u64 0] 29)) p i r
    rw [World.size_alloc] at h
    rw [hW0]; exact h
  have B0 : Below w.heap.size w W0 := by rw [hW0]; exact ((((Below.refl _ _).alloc (Nat.le_refl _) _).alloc (by simp) _).alloc (by simp; omega) _).alloc (by simp; omega) _
  rw [← hW0]
  clear hW0
  refine wpIn_seq (gf := 62) (lb := #[.pointer (some ⟨w.heap.size + 1, 0, none⟩), .pointer (some ⟨w.heap.size + 1 + 1, 0, none⟩), .pointer (some ⟨w.heap.size + 1 + 2, 0, none⟩)]) rfl (enters_of Tryd.func62 (by kernel_rfl) rfl)
    (opened_seq base w.heap.size W0 p gl M v D i r (w.heap.size + 1) hi (by omega) (fun W hb => HD.out W (B0.trans hb)) C0) KpO.trans (fun m W l o hl _ => KpO.putObj W o (by omega) (by omega)) (Below.refl _ _) (fun _ => rfl)
    (fun pre W => Blk W w.heap.size 29 [.int .u64 ((newF pre : Nat) : Int)] ∧ Below w.heap.size w W)
    (fun _ _ _ => False)
    (fun s X Y hs ha => ⟨ha.get hs.1 (by omega), hs.2.trans (ha.below (by omega) hs.2.size)⟩)
    (fun _ _ _ _ hs _ => hs)
    ⟨G0, B0⟩
    (fun _ pre x a' W => (Blk W w.heap.size 29 [.int .u64 ((newF pre : Nat) : Int)] ∧ Below w.heap.size w W) ∧ ∃ Bx, w.heap.size + 6 ≤ Bx ∧ Blk W Bx 89 [.int .u8 (x.2.1 : Int), .int .u64 (x.2.2.1 : Int), .int .u32 (x.2.2.2.1 : Int), .string (bs x.2.2.2.2)] ∧ a' = { tmps := #[.pointer (some ⟨p, 0, none⟩), .int .i64 i, .int .i64 r, undef, undef, undef, .int .u64 0, .pointer (some ⟨w.heap.size, 0, none⟩), undef, .pointer (some ⟨Bx, 0, none⟩), .pointer (some ⟨p, 0, none⟩), .int .i64 i, .int .i64 r, .func (.func 62) #[] #[.pointer (some ⟨w.heap.size + 1, 0, none⟩), .pointer (some ⟨w.heap.size + 1 + 1, 0, none⟩), .pointer (some ⟨w.heap.size + 1 + 2, 0, none⟩)], .int .i64 (x.1 : Int), recV x.2, undef, undef, undef, undef, undef, undef, undef, undef, undef, undef, undef, undef, undef], defers := [] })
    (fun _ s x a' X Y _ hs ha => by
      obtain ⟨⟨h1, h2⟩, Bx, h3, h4, h5⟩ := hs
      exact ⟨⟨ha.get h1 (by omega), h2.trans (ha.below (by omega) h2.size)⟩, Bx, h3, ha.get h4 (by omega), h5⟩)
    ?assign ?body ?done ?stop
  case assign =>
    rintro pre ⟨j, k1, k2, k3, k4⟩ Wm W K _ _ _ ⟨h1, h2⟩ hpre hlen hK
    unfold encO recV
    gi_wp2_with fail
    have bel : Below W.heap.size W (W.alloc (.cells #[.int .u8 (k1 : Int), .int .u64 (k2 : Int), .int .u32 (k3 : Int), .string (bs k4)] 89)) := (Below.refl _ _).alloc (Nat.le_refl _) _
    exact hK _ _ (Its.of_below bel (by omega)) bel.size ⟨bel.mono h2.size, Its.of_below bel (by omega)⟩ ⟨⟨h1.alloc _, h2.alloc h2.size _⟩, W.heap.size, by omega, Blk.box4 _ _ _ _ _ _, rfl⟩
  case body =>
    rintro m pre ⟨j, k1, k2, k3, k4⟩ a' W _ ⟨⟨h1, h2⟩, Bx, h3, h4, rfl⟩ hpre hlen _ _
    obtain ⟨c0, c1, c2, c3⟩ := h4.four
    have g0 := h1.cell0
    have gf := h1.frozen 0
    obtain ⟨g, hg⟩ : ∃ g, g = newF pre := ⟨_, rfl⟩
    have HG := Lib.hid hg
    rw [← hg] at g0
    clear hg
    by_cases hk2 : k1 = 2
    · have e1 : ((k1 : Int) == 2) = true := by rw [beq_iff_eq]; omega
      gi_wp2_with fail
      refine ⟨⟨Its.setCell W (p := ⟨w.heap.size, 0, none⟩) (.inl (by show w.heap.size < _; omega)) _, (Below.refl _ _).setCell (p := ⟨w.heap.size, 0, none⟩) (Nat.le_refl _) _, Its.setCell W (p := ⟨w.heap.size, 0, none⟩) (.inl (Nat.lt_succ_self _)) _⟩, ?_, h2.setCell (p := ⟨w.heap.size, 0, none⟩) (Nat.le_refl _) _⟩
      rw [newF_snoc, ← HG.out]
      unfold newStep
      rw [if_pos (.inl rfl), nmax]
      exact h1.set_ 0 _
    · have e1 : ((k1 : Int) == 2) = false := by rw [beq_eq_false_iff_ne]; omega
      by_cases hk3 : k1 = 3
      · have e2 : ((k1 : Int) == 3) = true := by rw [beq_iff_eq]; omega
        gi_wp2_with fail
        refine ⟨⟨Its.setCell W (p := ⟨w.heap.size, 0, none⟩) (.inl (by show w.heap.size < _; omega)) _, (Below.refl _ _).setCell (p := ⟨w.heap.size, 0, none⟩) (Nat.le_refl _) _, Its.setCell W (p := ⟨w.heap.size, 0, none⟩) (.inl (Nat.lt_succ_self _)) _⟩, ?_, h2.setCell (p := ⟨w.heap.size, 0, none⟩) (Nat.le_refl _) _⟩
        rw [newF_snoc, ← HG.out]
        unfold newStep
        rw [if_pos (.inr rfl), nmax]
        exact h1.set_ 0 _
      · have e2 : ((k1 : Int) == 3) = false := by rw [beq_eq_false_iff_ne]; omega
        gi_wp2_with fail
        refine ⟨⟨Its.refl _ _ _, Below.refl _ _, Its.refl _ _ _⟩, ?_, h2⟩
        rw [newF_snoc, ← HG.out]
        unfold newStep
        rw [if_neg (fun h => h.elim hk2 hk3), HG.out]
        exact h1
  case done =>
    rintro W ⟨h1, h2⟩ hK
    have g0 := h1.cell0
    gi_wp2_with fail
    refine ⟨by simp, .inl ⟨_, _, rfl, run_takeDeferred hK, ?_⟩⟩
    exact ⟨_, results_tmp rfl _ _ _, rfl, h2.trans ((Aside.putObj (B := W0.heap.size) (k := 1) W (Nat.le_refl _) (by omega) _).below (by omega) h2.size)⟩
  case stop =>
    rintro c pre W _ h _
    exact h.elim
end Go.Proofs.YtbigpapniloknaaDoor
