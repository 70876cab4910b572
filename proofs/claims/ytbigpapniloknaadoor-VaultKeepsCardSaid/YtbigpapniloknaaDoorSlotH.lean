/- The contract of found's iterator. -/
import Derived.Test.YtbigpapniloknaaDoorSlotG
namespace Go.Proofs.YtbigpapniloknaaDoor
open Go.RowKit Go.Maps
set_option maxRecDepth 100000
attribute [local go_sem] Oper.semAt_some

theorem foundF_yes {nx g : Nat} {x : Nat × RecT} {l : List (Nat × RecT)} (h : okF nx g x = true) : foundF nx g (x :: l) = x.2 :: (if x.2.1 = 3 then [] else foundF (nx + 1) (if x.1 = 0 then x.2.2.1 else g) l) := by rw [foundF, if_pos h]
theorem foundF_no {nx g : Nat} {x : Nat × RecT} {l : List (Nat × RecT)} (h : okF nx g x = false) : foundF nx g (x :: l) = [] := by rw [foundF, if_neg (by rw [h]; decide)]
theorem openL2_len (D : DSt) (i r : Int) (h : D.lasts.length ≤ 4096) : (openL2 D i r).length ≤ 4096 := by
  unfold openL2
  split
  · rename_i hl
    obtain ⟨a, b, rfl, rfl, h1, h2⟩ := liesB_iff.1 hl
    unfold openK
    have := List.length_filterMap_le (openF D (a : Int).toNat) (List.range (b : Int).toNat)
    rw [List.length_range] at this
    simp at this ⊢
    omega
  · exact Nat.zero_le _
theorem openK_place {D : DSt} {fr k : Nat} {x : Nat × RecT} (h : x ∈ openK D fr k) : x.1 < k := by
  unfold openK at h
  obtain ⟨j, hj, he⟩ := List.mem_filterMap.1 h
  rw [List.mem_range] at hj
  unfold openF at he
  split at he
  · injection he with he; rw [← he]; exact hj
  · cases he
theorem openL2_place {D : DSt} {i r : Int} (hD : D.lasts.length ≤ 4096) {x : Nat × RecT} (h : x ∈ openL2 D i r) : x.1 < 4096 := by
  unfold openL2 at h
  split at h
  · rename_i hl
    obtain ⟨a, b, rfl, rfl, h1, h2⟩ := liesB_iff.1 hl
    have := openK_place h
    simp at this
    omega
  · cases h

/-- What holds between two rounds of found's inner loop. -/
def FdI (J : List RecT → World → Prop) (n₀ l : Nat) (W : World) (pre : List (Nat × RecT)) (out : List RecT) (g : Nat) (X : World) : Prop :=
  (∀ rest, foundF 0 0 (pre ++ rest) = out ++ foundF pre.length g rest) ∧ Blk X W.heap.size 118 [.func (.yield l) #[] #[]] ∧ Blk X (W.heap.size + 1) 29 [.int .u64 (g : Int)] ∧ Blk X (W.heap.size + 1 + 1) 3 [.int .i64 (pre.length : Int)] ∧ Below n₀ W X ∧ J out X
theorem FdI.aside {J : List RecT → World → Prop} {n₀ l : Nat} {W : World} {pre : List (Nat × RecT)} {out : List RecT} {g : Nat} {X Y : World} (h : FdI J n₀ l W pre out g X) (hJ : ∀ s X Y, J s X → Aside W.heap.size 8 X Y → J s Y) (hn : n₀ ≤ W.heap.size) (ha : Aside (W.heap.size + 6) 2 X Y) : FdI J n₀ l W pre out g Y :=
  ⟨h.1, ha.get h.2.1 (by omega), ha.get h.2.2.1 (by omega), ha.get h.2.2.2.1 (by omega), h.2.2.2.2.1.trans (ha.below (by omega) (Nat.le_trans hn h.2.2.2.2.1.size)), hJ _ _ _ h.2.2.2.2.2 (ha.mono (by omega) (by omega))⟩
/-- How a round of found's inner loop may have been left. -/
def FdX (J Jx : List RecT → World → Prop) (c : Code) (pre : List (Nat × RecT)) (X : World) : Prop :=
  c = .ret ∧ ((∃ out, (∀ rest, foundF 0 0 (pre ++ rest) = out) ∧ J out X) ∨ ∃ out, (∀ rest, out <+: foundF 0 0 (pre ++ rest)) ∧ Jx out X)

set_option maxHeartbeats 16000000 in
theorem found_seq (base n₀ : Nat) (w : World) (p gl M : Nat) (v : Value) (D : DSt) (i r : Int) (b : Nat) (hi : i ≤ 9223372036854775807) (hn₀ : n₀ ≤ w.heap.size) (hD : ∀ W, Below n₀ w W → IsDisk base W p gl M v D) (hC : Caps w b p i r) :
    SeqOwn Tryd.prog 66 #[.pointer (some ⟨b, 0, none⟩), .pointer (some ⟨b + 1, 0, none⟩), .pointer (some ⟨b + 2, 0, none⟩)] encP 8 (KpF n₀ b) (foundL D i r) w := fun l J Jx W hW hJ hJx hY h0 => by
  have HD : Hid (∀ W', Below n₀ W W' → IsDisk base W' p gl M v D) := Lib.hid (fun W' hb => hD W' ((hW.mono hn₀).trans hb))
  have hCW : Caps W b p i r := hC.its (Its.of_below hW hC.lt)
  have hn1 : n₀ ≤ W.heap.size := Nat.le_trans hn₀ hW.size
  have hDl : D.lasts.length ≤ 4096 := (HD.out W (Below.refl _ _)).2.2.2.2.1.2.1
  obtain ⟨c0, c1, c2⟩ := hCW.cells
  have hb3 := hCW.lt
  have hb0' : b < W.heap.size := by omega
  have hb1' : b + 1 < W.heap.size := by omega
  have hb2' : b + 2 < W.heap.size := by omega
  have hb0a : b < W.heap.size + 1 := by omega
  have hb0c : b < W.heap.size + 1 + 1 := by omega
  have hb1a : b + 1 < W.heap.size + 1 := by omega
  have hb1c : b + 1 < W.heap.size + 1 + 1 := by omega
  have hb2a : b + 2 < W.heap.size + 1 := by omega
  have hb2c : b + 2 < W.heap.size + 1 + 1 := by omega
  have HOP := Lib.hid (fun W' => slot_opened W' p i r)
  refine (callsIn_wide (n := 0)).1 ?_
  refine callsIn_of_wp_marks Tryd.func66 rfl trivial ?_ rfl
  simp only [Tryd.ntmps66, List.size_toArray, List.length_cons, List.length_nil, Nat.reduceAdd, Nat.reduceSub, Array.replicate_succ, Array.replicate_zero, List.push_toArray, List.append_toArray, List.nil_append, List.cons_append]
  gi_wp2_with fail
  refine ⟨trivial, rfl, (callsIn_wide.2 (HOP.out _)).mono ?_⟩
  rintro e w1 ⟨rfl, rfl⟩
  gi_wp2_with fail
  obtain ⟨Wz, hWz⟩ : ∃ Wz, Wz = (((W.alloc (.cells #[.func (.yield l) #[] #[]] 118)).alloc (.cells #[.int .u64 0] 29)).alloc (.cells #[.int .i64 0] 3)) := ⟨_, rfl⟩
  have zsz : Wz.heap.size = W.heap.size + 1 + 1 + 1 := by rw [hWz]; simp
  have bz : Below W.heap.size W Wz := by rw [hWz]; exact (((Below.refl _ _).alloc (Nat.le_refl _) _).alloc (by simp) _).alloc (by simp; omega) _
  have Z0 : Blk Wz W.heap.size 118 [.func (.yield l) #[] #[]] := by rw [hWz]; exact ((Blk.new1 _ _ _).alloc _).alloc _
  have Z1 : Blk Wz (W.heap.size + 1) 29 [.int .u64 0] := by
    have h := (Blk.new1 (W.alloc (.cells #[.func (.yield l) #[] #[]] 118)) 29 (.int .u64 0)).alloc (.cells #[.int .i64 0] 3)
    rw [World.size_alloc] at h
    rw [hWz]; exact h
  have Z2 : Blk Wz (W.heap.size + 1 + 1) 3 [.int .i64 0] := by
    have h := Blk.new1 ((W.alloc (.cells #[.func (.yield l) #[] #[]] 118)).alloc (.cells #[.int .u64 0] 29)) 3 (.int .i64 0)
    rw [World.size_alloc, World.size_alloc] at h
    rw [hWz]; exact h
  rw [← hWz]
  clear hWz
  obtain ⟨W1, hW1⟩ : ∃ W1, W1 = (((Wz.alloc (.cells #[.pointer (some ⟨p, 0, none⟩)] 24)).alloc (.cells #[.int .i64 i] 3)).alloc (.cells #[.int .i64 r] 3)) := ⟨_, rfl⟩
  have CP : Caps W1 (W.heap.size + 1 + 1 + 1) p i r := by have h := caps_new Wz p i r; rw [zsz] at h; rw [hW1]; exact h
  have belz : Below Wz.heap.size Wz W1 := by rw [hW1]; exact (((Below.refl _ _).alloc (Nat.le_refl _) _).alloc (by simp) _).alloc (by simp; omega) _
  have hsz1 : W1.heap.size = W.heap.size + 6 := by rw [hW1]; simp; omega
  rw [← hW1]
  clear hW1
  have B1 : Below W.heap.size W W1 := bz.trans (belz.mono (by omega))
  have Y0 := Z0.keep belz
  have Y1 := Z1.keep belz
  have Y2 := Z2.keep belz
  generalize hA : (Act.mk _ _ : Act) = A0
  clear zsz bz Z0 Z1 Z2 belz c0 c1 c2 hb0' hb1' hb2' hb0a hb0c hb1a hb1c hb2a hb2c
  refine wpIn_seq (gf := 62) (lb := #[.pointer (some ⟨W.heap.size + 1 + 1 + 1, 0, none⟩), .pointer (some ⟨W.heap.size + 1 + 1 + 1 + 1, 0, none⟩), .pointer (some ⟨W.heap.size + 1 + 1 + 1 + 2, 0, none⟩)]) (by rw [← hA]; rfl) (enters_of Tryd.func62 (by kernel_rfl) rfl)
    (opened_seq base n₀ W1 p gl M v D i r (W.heap.size + 1 + 1 + 1) hi (by omega) (fun W' hb => HD.out W' ((B1.mono hn1).trans hb)) CP) KpO.trans (fun m W l o hl _ => KpO.putObj W o (by omega) (by omega)) (Below.refl _ _) (fun _ => rfl)
    (fun pre X => ∃ out g, FdI J n₀ l W pre out g X) (FdX J Jx)
    (fun s X Y ⟨out, g, hs⟩ ha => ⟨out, g, hs.aside hJ hn1 (by rw [hsz1] at ha; exact ha)⟩)
    (fun c s X Y ⟨hc, hs⟩ ha => ⟨hc, by
      rw [hsz1] at ha
      rcases hs with ⟨out, q1, q2⟩ | ⟨out, q1, q2⟩
      · exact .inl ⟨out, q1, hJ _ _ _ q2 (ha.mono (by omega) (by omega))⟩
      · exact .inr ⟨out, q1, hJx _ _ _ q2 (ha.mono (by omega) (by omega))⟩⟩)
    ⟨[], 0, fun rest => rfl, Y0, Y1, Y2, B1.mono hn1, hJ _ _ _ h0 (Aside.of_below B1)⟩
    (fun m pre x a' X => ∃ out g Wm, FdI J n₀ l W pre out g X ∧ Wm.heap.size = m ∧ J out Wm ∧ Aside W.heap.size 8 Wm X ∧ ∃ Bx, m ≤ Bx ∧ W.heap.size + 8 ≤ Bx ∧ Blk X Bx 89 [.int .u8 (x.2.1 : Int), .int .u64 (x.2.2.1 : Int), .int .u32 (x.2.2.2.1 : Int), .string (bs x.2.2.2.2)] ∧ a' = { tmps := ((((A0.tmps.setIfInBounds 13 (.int .i64 (x.1 : Int))).setIfInBounds 14 (recV x.2)).setIfInBounds 7 (.int .i64 (x.1 : Int))).setIfInBounds 8 (.pointer (some ⟨Bx, 0, none⟩))), defers := [] })
    (fun m s x a' X Y hm ⟨out, g, Wm, q1, q2, q3, q4, Bx, q5, q6, q7, q8⟩ ha => by
      rw [hsz1] at ha
      exact ⟨out, g, Wm, q1.aside hJ hn1 ha, q2, q3, q4.trans (ha.mono (by omega) (by omega)), Bx, q5, q6, ha.get q7 (by omega), q8⟩)
    ?assign ?body ?done ?stop
  case assign =>
    rintro pre ⟨j, k1, k2, k3, k4⟩ Wm X K ⟨out, g, hm⟩ hmm ham _ hpre hlen hK
    rw [hsz1] at ham hlen hmm
    subst hA
    unfold encO recV
    gi_wp2_with fail
    have bel : Below X.heap.size X (X.alloc (.cells #[.int .u8 (k1 : Int), .int .u64 (k2 : Int), .int .u32 (k3 : Int), .string (bs k4)] 89)) := (Below.refl _ _).alloc (Nat.le_refl _) _
    have hX := hm.aside hJ hn1 ham
    refine hK _ _ (Its.of_below bel (by omega)) bel.size ⟨bel.mono (Nat.le_trans hn1 (by omega)), Its.of_below bel (by omega)⟩ ⟨out, g, Wm, ?_, rfl, hm.2.2.2.2.2, (ham.mono (by omega) (by omega)).trans (Aside.of_below bel), X.heap.size, ham.size, by omega, Blk.box4 _ _ _ _ _ _, rfl⟩
    exact hX.aside hJ hn1 (Aside.of_below bel)
  case body =>
    rintro m pre ⟨j, k, g1, ix, dt⟩ a' X hmm ⟨out, g, Wm, ⟨hfold, y0, y1, y2, hbel, hJX⟩, rfl, hJm, ham, Bx, hB1, hB2, hR, rfl⟩ hpre hlen ⟨rl, hrl⟩ hdef
    rw [hsz1] at hrl hdef hlen hmm
    subst hA
    have hnb : pre.length < 4096 := by have := hpre.length_le; have := openL2_len D i r hDl; rw [List.length_append] at *; simp at *; omega
    have hjb : j < 4096 := openL2_place hDl (hpre.subset (by simp : (j, k, g1, ix, dt) ∈ pre ++ [(j, k, g1, ix, dt)]))
    have HSX : Hid (W.heap.size + 6 + 2 ≤ X.heap.size) := Lib.hid (by omega)
    obtain ⟨n, hn⟩ : ∃ n, n = pre.length := ⟨_, rfl⟩
    rw [← hn] at y2 hfold hnb
    have HN := Lib.hid hn
    clear hn
    by_cases hj0 : j = 0
    · subst hj0
      have e0 : (((0 : Nat) : Int) == 0) = true := rfl
      have as2 : Aside W.heap.size 8 X (X.setCell ⟨W.heap.size + 1, 0, none⟩ (.int .u64 (g1 : Int))) := Aside.setCell X (p := ⟨W.heap.size + 1, 0, none⟩) (Nat.le_succ _) (by show W.heap.size + 1 < _; omega) _
      have Z0 := y0.far (p := ⟨W.heap.size + 1, 0, none⟩) (by show W.heap.size ≠ W.heap.size + 1; omega) (.int .u64 (g1 : Int))
      have Z1 : Blk (X.setCell ⟨W.heap.size + 1, 0, none⟩ (.int .u64 (g1 : Int))) (W.heap.size + 1) 29 [.int .u64 (g1 : Int)] := y1.set_ 0 _
      have Z2 := y2.far (p := ⟨W.heap.size + 1, 0, none⟩) (by show W.heap.size + 1 + 1 ≠ W.heap.size + 1; omega) (.int .u64 (g1 : Int))
      have ZR := hR.far (p := ⟨W.heap.size + 1, 0, none⟩) (by show Bx ≠ W.heap.size + 1; omega) (.int .u64 (g1 : Int))
      have I2 : Its (W.heap.size + 6) 2 X (X.setCell ⟨W.heap.size + 1, 0, none⟩ (.int .u64 (g1 : Int))) := Its.setCell X (p := ⟨W.heap.size + 1, 0, none⟩) (.inl (by show W.heap.size + 1 < _; omega)) _
      have K2 : KpO n₀ (W.heap.size + 1 + 1 + 1) X (X.setCell ⟨W.heap.size + 1, 0, none⟩ (.int .u64 (g1 : Int))) := ⟨(Below.refl _ _).setCell (p := ⟨W.heap.size + 1, 0, none⟩) (Nat.le_trans hn1 (Nat.le_succ _)) _, Its.setCell X (p := ⟨W.heap.size + 1, 0, none⟩) (.inl (by show W.heap.size + 1 < _; omega)) _⟩
      have gf := y1.frozen 0
      have J2 := hJ _ _ _ hJX as2
      have HOK : Hid (okF n g (0, k, g1, ix, dt) = (decide (0 = n) && (decide (ix = 0) && (decide (g1 = g1) && wholeB (k, g1, ix, dt))))) := Lib.hid (by unfold okF; simp)
      have HSTEP : Hid (∀ rest, foundF 0 0 ((pre ++ [(0, k, g1, ix, dt)]) ++ rest) = out ++ foundF n g ((0, k, g1, ix, dt) :: rest)) := Lib.hid (fun rest => by rw [List.append_assoc]; exact hfold _)
      have HNO : Hid (okF n g (0, k, g1, ix, dt) = false → ∀ rest, foundF 0 0 ((pre ++ [(0, k, g1, ix, dt)]) ++ rest) = out) := Lib.hid (fun hno rest => by rw [HSTEP.out, foundF_no hno, List.append_nil])
      have HYES : Hid (okF n g (0, k, g1, ix, dt) = true → ∀ rest, foundF 0 0 ((pre ++ [(0, k, g1, ix, dt)]) ++ rest) = (out ++ [(k, g1, ix, dt)]) ++ (if k = 3 then [] else foundF (n + 1) g1 rest)) := Lib.hid (fun hy rest => by rw [HSTEP.out, foundF_yes hy, List.append_assoc]; rfl)
      obtain ⟨z0, z1, z2⟩ := (⟨Z0.cell0, Z1.cell0, Z2.cell0⟩ : _ ∧ _ ∧ _)
      obtain ⟨r0, r1, r2, r3⟩ := ZR.four
      obtain ⟨q0, q1, q2, q3⟩ := hR.four
      obtain ⟨x0, x1, x2⟩ := (⟨y0.cell0, y1.cell0, y2.cell0⟩ : _ ∧ _ ∧ _)
      have hne1 : W.heap.size ≠ W.heap.size + 1 := by omega
      have hne3 : Bx ≠ W.heap.size + 1 := by omega
      have hjm : ((0 : Nat) : Int) % 4294967296 = 0 := rfl
      have hgg : ((g1 : Int) != (g1 : Int)) = false := by simp
      have HCS : Hid ((n ≠ 0 ∧ okF n g (0, k, g1, ix, dt) = false) ∨ (n = 0 ∧ ((ix : Int) != 0) = true ∧ okF n g (0, k, g1, ix, dt) = false) ∨ (n = 0 ∧ ((ix : Int) != 0) = false ∧ okF n g (0, k, g1, ix, dt) = wholeB (k, g1, ix, dt))) := Lib.hid (by
        rw [HOK.out]
        simp only [bne_iff_ne, bne_eq_false_iff_eq]
        by_cases a1 : n = 0
        · by_cases a2 : ix = 0
          · exact .inr (.inr ⟨a1, by omega, by simp [a1, a2]⟩)
          · exact .inr (.inl ⟨a1, by omega, by simp [a2]⟩)
        · exact .inl ⟨a1, by rw [decide_eq_false (fun h : 0 = n => a1 h.symm)]; rfl⟩)
      have HWH := Lib.hid (slot_whole (k, g1, ix, dt) (X.setCell ⟨W.heap.size + 1, 0, none⟩ (.int .u64 (g1 : Int))))
      unfold recV at HWH
      have HZ0 := Lib.hid Z0
      have HZ1 := Lib.hid Z1
      have HZ2 := Lib.hid Z2
      have HZR := Lib.hid ZR
      have HI2 := Lib.hid I2
      have HK2 := Lib.hid K2
      have HJ2 := Lib.hid J2
      have HSX2 := Lib.hid (Nat.le_trans HSX.out as2.size)
      have HAS := Lib.hid (ham.trans as2)
      rcases HCS.out with ⟨t1, t5⟩ | ⟨rfl, t2, t5⟩ | ⟨rfl, t2, t5⟩
      · have NO := HNO.out t5
        have t1' : (((0 : Nat) : Int) != (n : Int)) = true := by rw [bne_iff_ne]; omega
        clear HCS HOK t5
        gi_wp2_with fail
        refine ⟨trivial, ?_⟩
        gi_wp2_with fail
        rw [hsz1]
        exact ⟨⟨HI2.out, HK2.out⟩, rfl, .inl ⟨out, NO, HJ2.out⟩⟩
      · have NO := HNO.out t5
        clear HCS HOK t5
        gi_wp2_with fail
        refine ⟨trivial, ?_⟩
        gi_wp2_with fail
        rw [hsz1]
        exact ⟨⟨HI2.out, HK2.out⟩, rfl, .inl ⟨out, NO, HJ2.out⟩⟩
      · have HT5 := Lib.hid t5
        clear HCS HOK t5
        gi_wp2_with fail
        refine ⟨trivial, rfl, (CallsIn.inRound _ (callsIn_wide.2 HWH.out)).mono ?_⟩
        rintro e X3 ⟨rfl, hb3⟩
        have HB3 := Lib.hid hb3
        have I3 := Lib.hid (HI2.out.trans (Its.of_below hb3 HSX2.out))
        have K3 := Lib.hid (HK2.out.trans ⟨hb3.mono (Nat.le_trans hn1 (Nat.le_trans (Nat.le_add_right _ 8) HSX2.out)), Its.of_below hb3 (Nat.le_trans (Nat.add_le_add_left (by decide : 6 ≤ 8) _) HSX2.out)⟩)
        have J3 := Lib.hid (hJ _ _ _ HJ2.out (Aside.of_below hb3))
        have AS3 := Lib.hid (HAS.out.trans (Aside.of_below hb3))
        have D0 := Lib.hid (HZ0.out.keep hb3)
        have D1 := Lib.hid (HZ1.out.keep hb3)
        have D2 := Lib.hid (HZ2.out.keep hb3)
        have DR := Lib.hid (HZR.out.keep hb3)
        clear hb3 HWH z0 z1 z2 r0 r1 r2 r3 Z0 Z1 Z2 ZR I2 K2 J2 as2 HI2 HK2 HJ2 HAS HZ0 HZ1 HZ2 HZR t2
        clear hgg
        clear q0 q1 q2 q3 x0 x1 x2 hne1 hne3
        cases hwb : wholeB (k, g1, ix, dt) with
        | false =>
          have NO := HNO.out (HT5.out.trans hwb)
          clear HT5
          gi_wp2_with fail
          rw [hsz1]
          exact ⟨⟨I3.out, K3.out⟩, rfl, .inl ⟨out, NO, J3.out⟩⟩
        | true =>
          have YES := Lib.hid (HYES.out (HT5.out.trans hwb))
          clear HT5 HNO HYES HSTEP
          have hy3 := hY out (k, g1, ix, dt) Wm X3 hJm AS3.out (by
            obtain ⟨rest, hrest⟩ := hpre
            show _ <+: foundF 0 0 (openL2 D i r)
            rw [← hrest, YES.out]
            exact List.prefix_append _ _) (by have := DR.out.lt; omega)
          obtain ⟨fn, tmps, assign, body, hy, hRd⟩ := hy3
          have HRD := Lib.hid (roundIn (l0 := W1.heap.size + 1) (m' := 0) hRd)
          unfold encP recV at hy
          dsimp only at hy
          rw [hsz1] at HRD
          clear hRd
          obtain ⟨r0, r1, r2, r3⟩ := DR.out.four
          have z0 := D0.out.cell0
          gi_wp2_with fail
          clear z0 r0 r1 r2 r3 hy
          refine ⟨rfl, HRD.out.mono ?_⟩
          clear HRD fn tmps assign body
          rintro e X4 ⟨hyn, hk4, hi4⟩
          have I4 := Lib.hid (I3.out.trans (hi4.mono (Nat.le_add_right _ 6) (Nat.le_refl _)))
          have K4 := Lib.hid (K3.out.trans ⟨hk4.1.1, hi4.mono (by omega) (by omega)⟩)
          have E0 := Lib.hid ((hi4 W.heap.size (Nat.le_refl _) (by omega)).trans D0.out)
          have E1 := Lib.hid ((hi4 (W.heap.size + 1) (by omega) (by omega)).trans D1.out)
          have E2 : Hid (Blk X4 (W.heap.size + 1 + 1) _ _) := Lib.hid ((hi4 (W.heap.size + 1 + 1) (by omega) (by omega)).trans D2.out)
          have ER : Hid (Blk X4 Bx _ _) := Lib.hid ((hk4.2 Bx hB1 DR.out.lt).trans DR.out)
          have HB4 := Lib.hid hk4.1.1
          have HS3 := Lib.hid HB3.out.size
          clear hk4 hi4 D0 D1 D2 DR HB3
          rcases hyn with ⟨rfl, hJ4⟩ | ⟨rfl, hJ4⟩
          · obtain ⟨r0, r1, r2, r3⟩ := ER.out.four
            have z2 := E2.out.cell0
            have gf4 := E2.out.frozen 0
            have J4 := Lib.hid hJ4
            clear hJ4
            by_cases hk : k = 3
            · have e3 : ((k : Int) == 3) = true := by rw [beq_iff_eq]; omega
              have YES3 : Hid (∀ rest, foundF 0 0 (pre ++ [(0, k, g1, ix, dt)] ++ rest) = out ++ [(k, g1, ix, dt)]) := Lib.hid (fun rest => by rw [YES.out, if_pos hk, List.append_nil])
              clear YES hk
              gi_wp2_with fail
              try rw [hsz1]
              exact ⟨⟨I4.out, K4.out⟩, rfl, .inl ⟨_, YES3.out, J4.out⟩⟩
            · have e3 : ((k : Int) == 3) = false := by rw [beq_eq_false_iff_ne]; omega
              have YES3 : Hid (∀ rest, foundF 0 0 (pre ++ [(0, k, g1, ix, dt)] ++ rest) = (out ++ [(k, g1, ix, dt)]) ++ foundF (0 + 1) g1 rest) := Lib.hid (fun rest => by rw [YES.out, if_neg hk])
              clear YES hk
              gi_wp2_with fail
              try rw [hsz1]
              have hln : (pre ++ [((0, k, g1, ix, dt) : Nat × RecT)]).length = 0 + 1 := by rw [List.length_append, ← HN.out]; rfl
              have hln2 : (((pre ++ [((0, k, g1, ix, dt) : Nat × RecT)]).length : Nat) : Int) = 0 + 1 := by rw [hln]; rfl
              refine ⟨⟨I4.out.trans (Its.setCell X4 (p := ⟨W.heap.size + 1 + 1, 0, none⟩) (.inl (by show W.heap.size + 1 + 1 < W.heap.size + 6; omega)) _), K4.out.trans ⟨(Below.refl _ _).setCell (p := ⟨W.heap.size + 1 + 1, 0, none⟩) (by show n₀ ≤ W.heap.size + 1 + 1; omega) _, Its.setCell X4 (p := ⟨W.heap.size + 1 + 1, 0, none⟩) (.inl (by show W.heap.size + 1 + 1 < W.heap.size + 1 + 1 + 1; omega)) _⟩⟩, out ++ [(k, g1, ix, dt)], g1, ?_⟩
              refine ⟨by rw [hln]; exact YES3.out, Blk.far (p := ⟨W.heap.size + 1 + 1, 0, none⟩) E0.out (by show W.heap.size ≠ W.heap.size + 1 + 1; omega) _, Blk.far (p := ⟨W.heap.size + 1 + 1, 0, none⟩) E1.out (by show W.heap.size + 1 ≠ W.heap.size + 1 + 1; omega) _, ?_, ?_, ?_⟩
              · rw [hln2]; exact E2.out.set_ 0 _
              · exact (hbel.trans ((K3.out.1).trans HB4.out)).setCell (p := ⟨W.heap.size + 1 + 1, 0, none⟩) (by show n₀ ≤ W.heap.size + 1 + 1; omega) _
              · exact hJ _ _ _ J4.out (Aside.setCell X4 (p := ⟨W.heap.size + 1 + 1, 0, none⟩) (by show W.heap.size ≤ W.heap.size + 1 + 1; omega) (by show W.heap.size + 1 + 1 < _; omega) _)
          · have J4 := Lib.hid hJ4
            clear hJ4
            gi_wp2_with fail
            try rw [hsz1]
            refine ⟨⟨I4.out, K4.out⟩, rfl, .inr ⟨_, fun rest => ?_, J4.out⟩⟩
            rw [YES.out]
            exact List.prefix_append _ _
    · have e0 : ((j : Int) == 0) = false := by rw [beq_eq_false_iff_ne]; omega
      have as2 : Aside W.heap.size 8 X X := Aside.refl _ _ _
      have Z0 := y0
      have Z1 := y1
      have Z2 := y2
      have ZR := hR
      have I2 : Its (W.heap.size + 6) 2 X X := Its.refl _ _ _
      have K2 : KpO n₀ (W.heap.size + 1 + 1 + 1) X X := ⟨Below.refl _ _, Its.refl _ _ _⟩
      have J2 := hJ _ _ _ hJX as2
      have HOK : Hid (okF n g (j, k, g1, ix, dt) = (decide (j = n) && (decide (ix = j) && (decide (g1 = g) && wholeB (k, g1, ix, dt))))) := Lib.hid (by unfold okF; simp [hj0])
      have HSTEP : Hid (∀ rest, foundF 0 0 ((pre ++ [(j, k, g1, ix, dt)]) ++ rest) = out ++ foundF n g ((j, k, g1, ix, dt) :: rest)) := Lib.hid (fun rest => by rw [List.append_assoc]; exact hfold _)
      have HNO : Hid (okF n g (j, k, g1, ix, dt) = false → ∀ rest, foundF 0 0 ((pre ++ [(j, k, g1, ix, dt)]) ++ rest) = out) := Lib.hid (fun hno rest => by rw [HSTEP.out, foundF_no hno, List.append_nil])
      have HYES : Hid (okF n g (j, k, g1, ix, dt) = true → ∀ rest, foundF 0 0 ((pre ++ [(j, k, g1, ix, dt)]) ++ rest) = (out ++ [(k, g1, ix, dt)]) ++ (if k = 3 then [] else foundF (n + 1) g rest)) := Lib.hid (fun hy rest => by rw [HSTEP.out, foundF_yes hy, List.append_assoc]; simp [hj0])
      obtain ⟨z0, z1, z2⟩ := (⟨Z0.cell0, Z1.cell0, Z2.cell0⟩ : _ ∧ _ ∧ _)
      obtain ⟨r0, r1, r2, r3⟩ := ZR.four
      have hjm : (j : Int) % 4294967296 = (j : Int) := by omega
      have HCS : Hid ((((j : Int) != (n : Int)) = true ∧ okF n g (j, k, g1, ix, dt) = false) ∨ (((j : Int) != (n : Int)) = false ∧ ((ix : Int) != (j : Int)) = true ∧ okF n g (j, k, g1, ix, dt) = false) ∨ (((j : Int) != (n : Int)) = false ∧ ((ix : Int) != (j : Int)) = false ∧ ((g1 : Int) != (g : Int)) = true ∧ okF n g (j, k, g1, ix, dt) = false) ∨ (((j : Int) != (n : Int)) = false ∧ ((ix : Int) != (j : Int)) = false ∧ ((g1 : Int) != (g : Int)) = false ∧ okF n g (j, k, g1, ix, dt) = wholeB (k, g1, ix, dt))) := Lib.hid (by
        rw [HOK.out]
        simp only [bne_iff_ne, bne_eq_false_iff_eq]
        by_cases a1 : j = n
        · by_cases a2 : ix = j
          · by_cases a3 : g1 = g
            · exact .inr (.inr (.inr ⟨by omega, by omega, by omega, by simp [a1, a2, a3]⟩))
            · exact .inr (.inr (.inl ⟨by omega, by omega, by omega, by simp [a3]⟩))
          · exact .inr (.inl ⟨by omega, by omega, by simp [a2]⟩)
        · exact .inl ⟨by omega, by simp [a1]⟩)
      have HWH := Lib.hid (slot_whole (k, g1, ix, dt) X)
      unfold recV at HWH
      have HZ0 := Lib.hid Z0
      have HZ1 := Lib.hid Z1
      have HZ2 := Lib.hid Z2
      have HZR := Lib.hid ZR
      have HI2 := Lib.hid I2
      have HK2 := Lib.hid K2
      have HJ2 := Lib.hid J2
      have HSX2 := Lib.hid (Nat.le_trans HSX.out as2.size)
      have HAS := Lib.hid (ham.trans as2)
      rcases HCS.out with ⟨t1, t5⟩ | ⟨t1, t2, t5⟩ | ⟨t1, t2, t3, t5⟩ | ⟨t1, t2, t3, t5⟩
      · have NO := HNO.out t5
        clear HCS HOK t5
        gi_wp2_with fail
        refine ⟨trivial, ?_⟩
        gi_wp2_with fail
        rw [hsz1]
        exact ⟨⟨HI2.out, HK2.out⟩, rfl, .inl ⟨out, NO, HJ2.out⟩⟩
      · have NO := HNO.out t5
        clear HCS HOK t5
        gi_wp2_with fail
        refine ⟨trivial, ?_⟩
        gi_wp2_with fail
        rw [hsz1]
        exact ⟨⟨HI2.out, HK2.out⟩, rfl, .inl ⟨out, NO, HJ2.out⟩⟩
      · have NO := HNO.out t5
        clear HCS HOK t5
        gi_wp2_with fail
        refine ⟨trivial, ?_⟩
        gi_wp2_with fail
        rw [hsz1]
        exact ⟨⟨HI2.out, HK2.out⟩, rfl, .inl ⟨out, NO, HJ2.out⟩⟩
      · have HT5 := Lib.hid t5
        clear HCS HOK t5
        gi_wp2_with fail
        refine ⟨trivial, rfl, (CallsIn.inRound _ (callsIn_wide.2 HWH.out)).mono ?_⟩
        rintro e X3 ⟨rfl, hb3⟩
        have HB3 := Lib.hid hb3
        have I3 := Lib.hid (HI2.out.trans (Its.of_below hb3 HSX2.out))
        have K3 := Lib.hid (HK2.out.trans ⟨hb3.mono (Nat.le_trans hn1 (Nat.le_trans (Nat.le_add_right _ 8) HSX2.out)), Its.of_below hb3 (Nat.le_trans (Nat.add_le_add_left (by decide : 6 ≤ 8) _) HSX2.out)⟩)
        have J3 := Lib.hid (hJ _ _ _ HJ2.out (Aside.of_below hb3))
        have AS3 := Lib.hid (HAS.out.trans (Aside.of_below hb3))
        have D0 := Lib.hid (HZ0.out.keep hb3)
        have D1 := Lib.hid (HZ1.out.keep hb3)
        have D2 := Lib.hid (HZ2.out.keep hb3)
        have DR := Lib.hid (HZR.out.keep hb3)
        clear hb3 HWH z0 z1 z2 r0 r1 r2 r3 Z0 Z1 Z2 ZR I2 K2 J2 as2 HI2 HK2 HJ2 HAS HZ0 HZ1 HZ2 HZR t2
        clear t1 t3
        cases hwb : wholeB (k, g1, ix, dt) with
        | false =>
          have NO := HNO.out (HT5.out.trans hwb)
          clear HT5
          gi_wp2_with fail
          rw [hsz1]
          exact ⟨⟨I3.out, K3.out⟩, rfl, .inl ⟨out, NO, J3.out⟩⟩
        | true =>
          have YES := Lib.hid (HYES.out (HT5.out.trans hwb))
          clear HT5 HNO HYES HSTEP
          have hy3 := hY out (k, g1, ix, dt) Wm X3 hJm AS3.out (by
            obtain ⟨rest, hrest⟩ := hpre
            show _ <+: foundF 0 0 (openL2 D i r)
            rw [← hrest, YES.out]
            exact List.prefix_append _ _) (by have := DR.out.lt; omega)
          obtain ⟨fn, tmps, assign, body, hy, hRd⟩ := hy3
          have HRD := Lib.hid (roundIn (l0 := W1.heap.size + 1) (m' := 0) hRd)
          unfold encP recV at hy
          dsimp only at hy
          rw [hsz1] at HRD
          clear hRd
          obtain ⟨r0, r1, r2, r3⟩ := DR.out.four
          have z0 := D0.out.cell0
          gi_wp2_with fail
          clear z0 r0 r1 r2 r3 hy
          refine ⟨rfl, HRD.out.mono ?_⟩
          clear HRD fn tmps assign body
          rintro e X4 ⟨hyn, hk4, hi4⟩
          have I4 := Lib.hid (I3.out.trans (hi4.mono (Nat.le_add_right _ 6) (Nat.le_refl _)))
          have K4 := Lib.hid (K3.out.trans ⟨hk4.1.1, hi4.mono (by omega) (by omega)⟩)
          have E0 := Lib.hid ((hi4 W.heap.size (Nat.le_refl _) (by omega)).trans D0.out)
          have E1 := Lib.hid ((hi4 (W.heap.size + 1) (by omega) (by omega)).trans D1.out)
          have E2 : Hid (Blk X4 (W.heap.size + 1 + 1) _ _) := Lib.hid ((hi4 (W.heap.size + 1 + 1) (by omega) (by omega)).trans D2.out)
          have ER : Hid (Blk X4 Bx _ _) := Lib.hid ((hk4.2 Bx hB1 DR.out.lt).trans DR.out)
          have HB4 := Lib.hid hk4.1.1
          have HS3 := Lib.hid HB3.out.size
          clear hk4 hi4 D0 D1 D2 DR HB3
          rcases hyn with ⟨rfl, hJ4⟩ | ⟨rfl, hJ4⟩
          · obtain ⟨r0, r1, r2, r3⟩ := ER.out.four
            have z2 := E2.out.cell0
            have gf4 := E2.out.frozen 0
            have J4 := Lib.hid hJ4
            clear hJ4
            by_cases hk : k = 3
            · have e3 : ((k : Int) == 3) = true := by rw [beq_iff_eq]; omega
              have YES3 : Hid (∀ rest, foundF 0 0 (pre ++ [(j, k, g1, ix, dt)] ++ rest) = out ++ [(k, g1, ix, dt)]) := Lib.hid (fun rest => by rw [YES.out, if_pos hk, List.append_nil])
              clear YES hk
              gi_wp2_with fail
              try rw [hsz1]
              exact ⟨⟨I4.out, K4.out⟩, rfl, .inl ⟨_, YES3.out, J4.out⟩⟩
            · have e3 : ((k : Int) == 3) = false := by rw [beq_eq_false_iff_ne]; omega
              have YES3 : Hid (∀ rest, foundF 0 0 (pre ++ [(j, k, g1, ix, dt)] ++ rest) = (out ++ [(k, g1, ix, dt)]) ++ foundF (n + 1) g rest) := Lib.hid (fun rest => by rw [YES.out, if_neg hk])
              clear YES hk
              gi_wp2_with fail
              try rw [hsz1]
              have hln : (pre ++ [((j, k, g1, ix, dt) : Nat × RecT)]).length = n + 1 := by rw [List.length_append, ← HN.out]; rfl
              have hln2 : (((pre ++ [((j, k, g1, ix, dt) : Nat × RecT)]).length : Nat) : Int) = (n : Int) + 1 := by rw [hln]; rfl
              refine ⟨⟨I4.out.trans (Its.setCell X4 (p := ⟨W.heap.size + 1 + 1, 0, none⟩) (.inl (by show W.heap.size + 1 + 1 < W.heap.size + 6; omega)) _), K4.out.trans ⟨(Below.refl _ _).setCell (p := ⟨W.heap.size + 1 + 1, 0, none⟩) (by show n₀ ≤ W.heap.size + 1 + 1; omega) _, Its.setCell X4 (p := ⟨W.heap.size + 1 + 1, 0, none⟩) (.inl (by show W.heap.size + 1 + 1 < W.heap.size + 1 + 1 + 1; omega)) _⟩⟩, out ++ [(k, g1, ix, dt)], g, ?_⟩
              refine ⟨by rw [hln]; exact YES3.out, Blk.far (p := ⟨W.heap.size + 1 + 1, 0, none⟩) E0.out (by show W.heap.size ≠ W.heap.size + 1 + 1; omega) _, Blk.far (p := ⟨W.heap.size + 1 + 1, 0, none⟩) E1.out (by show W.heap.size + 1 ≠ W.heap.size + 1 + 1; omega) _, ?_, ?_, ?_⟩
              · rw [hln2]; exact E2.out.set_ 0 _
              · exact (hbel.trans ((K3.out.1).trans HB4.out)).setCell (p := ⟨W.heap.size + 1 + 1, 0, none⟩) (by show n₀ ≤ W.heap.size + 1 + 1; omega) _
              · exact hJ _ _ _ J4.out (Aside.setCell X4 (p := ⟨W.heap.size + 1 + 1, 0, none⟩) (by show W.heap.size ≤ W.heap.size + 1 + 1; omega) (by show W.heap.size + 1 + 1 < _; omega) _)
          · have J4 := Lib.hid hJ4
            clear hJ4
            gi_wp2_with fail
            try rw [hsz1]
            refine ⟨⟨I4.out, K4.out⟩, rfl, .inr ⟨_, fun rest => ?_, J4.out⟩⟩
            rw [YES.out]
            exact List.prefix_append _ _
  case done =>
    rintro X ⟨out, g, hX⟩ hdef
    rw [hsz1] at hdef
    subst hA
    have hL : foundL D i r = out := by
      have h := hX.1 []
      rw [List.append_nil] at h
      unfold foundL
      rw [h]
      show out ++ foundF _ _ [] = out
      rw [foundF, List.append_nil]
    have hJX := hX.2.2.2.2.2
    gi_wp2_with fail
    rw [hsz1]
    refine ⟨by simp, .inl ⟨_, _, rfl, run_takeDeferred hdef, ?_⟩⟩
    refine ⟨_, results_none rfl _ _ _, ⟨_, rfl⟩, .inl ?_⟩
    rw [hL]
    exact hJ _ _ _ hJX (Aside.putObj _ (by omega) (by omega) _)
  case stop =>
    rintro c pre X hpre ⟨rfl, hs⟩ hdef
    rw [hsz1] at hdef
    subst hA
    gi_wp2_with fail
    rw [hsz1]
    refine ⟨by simp, .inl ⟨_, _, rfl, run_takeDeferred hdef, ?_⟩⟩
    refine ⟨_, results_none rfl _ _ _, ⟨_, rfl⟩, ?_⟩
    obtain ⟨rest, hrest⟩ := hpre
    rcases hs with ⟨out, q1, q2⟩ | ⟨out, q1, q2⟩
    · refine .inl ?_
      have e : foundL D i r = out := by unfold foundL; rw [← hrest]; exact q1 rest
      rw [e]
      exact hJ _ _ _ q2 (Aside.putObj _ (by omega) (by omega) _)
    · refine .inr ⟨out, ?_, hJx _ _ _ q2 (Aside.putObj _ (by omega) (by omega) _)⟩
      show out <+: foundF 0 0 (openL2 D i r)
      rw [← hrest]
      exact q1 rest
end Go.Proofs.YtbigpapniloknaaDoor
