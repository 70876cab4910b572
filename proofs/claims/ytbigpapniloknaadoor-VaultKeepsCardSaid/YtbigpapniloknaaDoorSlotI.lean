/- The contract of slot's Read. -/
import Derived.Test.YtbigpapniloknaaDoorBldA
import Derived.Deep.RegionHeld3
import Derived.Deep.RegionWith
namespace Go.Proofs.YtbigpapniloknaaDoor
open Go.RowKit Go.Maps
set_option maxRecDepth 100000
attribute [local go_sem] Oper.semAt_some

def dataL (L : List RecT) : List UInt8 := (L.map (fun x => x.2.2.2)).flatten
def endR (L : List RecT) : RecT := L.getLast?.getD (0, 0, 0, [])
/-- What Read answers of what found's iterator gives. -/
def readF (L : List RecT) : List UInt8 × Nat × Bool :=
  if (endR L).1 = 3 ∧ 4 ≤ (dataL L).length ∧ (dataL L).drop ((dataL L).length - 4) = leL (crcSum ((dataL L).take ((dataL L).length - 4))) then ((dataL L).take ((dataL L).length - 4), (endR L).2.1, true) else ([], 0, false)
theorem dataL_snoc (L : List RecT) (x : RecT) : dataL (L ++ [x]) = dataL L ++ x.2.2.2 := by simp [dataL]
theorem endR_snoc (L : List RecT) (x : RecT) : endR (L ++ [x]) = x := by simp [endR]
theorem byteCells_append (a b : List UInt8) : Lib.byteCells (a ++ b) = Lib.byteCells a ++ Lib.byteCells b := by simp [Lib.byteCells]
theorem strCells_bs (d : List UInt8) : Lib.strCells (bs d) = Lib.byteCells d := rfl

theorem openL2_ok {D : DSt} {i r : Int} {x : Nat × RecT} (h : x ∈ openL2 D i r) : RecOk x.2 := by
  unfold openL2 at h
  split at h
  · unfold openK at h
    obtain ⟨j, hj, he⟩ := List.mem_filterMap.1 h
    unfold openF at he
    split at he
    · injection he with he; rw [← he]; exact openT_ok _
    · cases he
  · cases h
theorem foundF_mem {x : RecT} : ∀ (l : List (Nat × RecT)) (n g : Nat), x ∈ foundF n g l → ∃ j, (j, x) ∈ l
  | [], n, g, h => by rw [foundF] at h; cases h
  | y :: l, n, g, h => by
    unfold foundF at h
    split at h
    · rcases List.mem_cons.1 h with rfl | h
      · exact ⟨y.1, List.mem_cons_self ..⟩
      · split at h
        · cases h
        · obtain ⟨j, hj⟩ := foundF_mem l _ _ h
          exact ⟨j, List.mem_cons_of_mem _ hj⟩
    · cases h
theorem foundF_len : ∀ (l : List (Nat × RecT)) (n g : Nat), (foundF n g l).length ≤ l.length
  | [], n, g => by rw [foundF]; exact Nat.le_refl _
  | y :: l, n, g => by
    unfold foundF
    split
    · simp only [List.length_cons]
      split
      · simp
      · have := foundF_len l (n + 1) (if y.1 = 0 then y.2.2.1 else g); omega
    · simp
theorem dataL_len : ∀ (L : List RecT), (∀ x ∈ L, x.2.2.2.length ≤ 110) → (dataL L).length ≤ 110 * L.length
  | [], _ => by simp [dataL]
  | x :: L, h => by
    have h1 := h x (List.mem_cons_self ..)
    have h2 := dataL_len L (fun y hy => h y (List.mem_cons_of_mem _ hy))
    have e : dataL (x :: L) = x.2.2.2 ++ dataL L := by simp [dataL]
    rw [e, List.length_append, List.length_cons]
    omega
theorem foundL_data {D : DSt} {i r : Int} (hD : D.lasts.length ≤ 4096) {pre : List RecT} (h : pre <+: foundL D i r) : (dataL pre).length ≤ 450560 ∧ ∀ x ∈ pre, RecOk x := by
  have hm : ∀ x ∈ pre, RecOk x := fun x hx => by
    obtain ⟨j, hj⟩ := foundF_mem _ _ _ (h.subset hx)
    exact openL2_ok hj
  refine ⟨?_, hm⟩
  have h1 := dataL_len pre (fun x hx => (hm x hx).2.2.2)
  have h2 := h.length_le
  have h3 := foundF_len (openL2 D i r) 0 0
  have h4 := openL2_len D i r hD
  unfold foundL at h2
  omega

/-- What holds while Read's text is read. -/
def RdK (s : Nat) (l : List UInt8) (cs : List Value) (W Y : World) : Prop := Lib.IsBuilderF 110 5 s s (Lib.byteCells l) Y ∧ Below s W Y ∧ Blk Y (s + 1) 89 cs ∧ Y.heap[s + 5]? = some (.deferred (some []))
theorem RdK.drew {s : Nat} {l : List UInt8} {cs : List Value} {W Y : World} (h : RdK s l cs W Y) : RdK s l cs W Y.drew :=
  ⟨h.1, h.2.1.drew, h.2.2.1, h.2.2.2⟩
theorem rdk_String {s : Nat} {l : List UInt8} {cs : List Value} {W Y : World} (h : RdK s l cs W Y) (hs : s ≤ W.heap.size) :
    Calls Tryd.prog 59 #[.pointer (some ⟨s, 0, none⟩)] Y fun e w' => e = .returned (.string (bs l)) ∧ RdK s l cs W w' := by
  refine (bld_String s s l Y h.1 (Nat.le_trans hs h.2.1.size)).mono ?_
  rintro e w' ⟨rfl, h1, h2, h3⟩
  exact ⟨rfl, h1, h.2.1.trans h2, h3 _ _ h.2.2.1 (by intro h; injection h with h; omega) (fun c fz hc => by injection hc with _ hc _; exact absurd hc (by decide)), h3 _ _ h.2.2.2 (by intro h; injection h with h; omega) (fun c fz hc => by cases hc)⟩

def RdI (w : World) (pre : List RecT) (X : World) : Prop :=
  (∃ v, BldV w.heap.size w.heap.size v (Lib.byteCells (dataL pre)) X ∧ ∀ g, v.ownBlock = some g → w.heap.size + 15 ≤ g) ∧
    Blk X (w.heap.size + 1) 89 [.int .u8 ((endR pre).1 : Int), .int .u64 ((endR pre).2.1 : Int), .int .u32 ((endR pre).2.2.1 : Int), .string (bs (endR pre).2.2.2)] ∧ Below w.heap.size w X
theorem BldV.aside {s : Nat} {v : Value} {l : List Value} {X Y : World} (h : BldV s s v l X) (hg : ∀ g, v.ownBlock = some g → s + 15 ≤ g) (ha : Aside (s + 5) 10 X Y) : BldV s s v l Y :=
  h.far (ha.block s h.lt (by omega)) (fun g e => ha.block g (h.2.2.1.lt g e).2 (by have := hg g e; omega))
theorem RdI.aside {w : World} {pre : List RecT} {X Y : World} (h : RdI w pre X) (ha : Aside (w.heap.size + 5) 10 X Y) : RdI w pre Y := by
  obtain ⟨⟨v, h1, h2⟩, h3, h4⟩ := h
  exact ⟨⟨v, h1.aside h2 ha, h2⟩, ha.get h3 (by omega), h4.trans (ha.below (by omega) h4.size)⟩

set_option maxHeartbeats 16000000 in
theorem slot_Read (base : Nat) (w : World) (p gl M : Nat) (v : Value) (D : DSt) (i r : Int) (hi : i ≤ 9223372036854775807) (h : IsDisk base w p gl M v D) :
    Calls Tryd.prog 40 #[.pointer (some ⟨p, 0, none⟩), .int .i64 i, .int .i64 r] w fun e w' => e = .returned (.tuple #[.string (bs (readF (foundL D i r)).1), .int .u64 (((readF (foundL D i r)).2.1 : Nat) : Int), .bool (readF (foundL D i r)).2.2]) ∧ Below w.heap.size w w' := by
  have HD : Hid (∀ W', Below w.heap.size w W' → IsDisk base W' p gl M v D) := Lib.hid (fun W' hb => h.keep hb)
  have hDl : D.lasts.length ≤ 4096 := h.2.2.2.2.1.2.1
  have HOP := Lib.hid (fun W => slot_found W p i r)
  clear h
  refine (callsIn_wide (n := 0)).1 ?_
  refine callsIn_of_wp_marks Tryd.func40 rfl trivial ?_ rfl
  simp only [Tryd.ntmps40, List.size_toArray, List.length_cons, List.length_nil, Nat.reduceAdd, Nat.reduceSub, Array.replicate_succ, Array.replicate_zero, List.push_toArray, List.append_toArray, List.nil_append, List.cons_append]
  gi_wp2_with fail
  refine ⟨trivial, rfl, (callsIn_wide.2 (HOP.out _)).mono ?_⟩
  rintro e w1 ⟨rfl, rfl⟩
  gi_wp2_with fail
  obtain ⟨Wz, hWz⟩ : ∃ Wz, Wz = ((w.alloc (.cells #[.pointer none, .slice none 0 0] 110)).alloc (.cells #[.int .u8 0, .int .u64 0, .int .u32 0, .string ⟨#[]⟩] 89)) := ⟨_, rfl⟩
  have zsz : Wz.heap.size = w.heap.size + 1 + 1 := by rw [hWz]; simp
  have bz : Below w.heap.size w Wz := by rw [hWz]; exact ((Below.refl _ _).alloc (Nat.le_refl _) _).alloc (by simp) _
  have Z0 : BldV w.heap.size w.heap.size (.slice none 0 0) (Lib.byteCells (dataL [])) Wz := by
    rw [hWz]
    refine ⟨Nat.le_refl _, ⟨_, .inl rfl, (Below.heap_alloc _ _ _ (by simp)).trans (heap_alloc_new w _)⟩, World.ownsRow_nil _ _ _ _, by intro h; cases h⟩
  have Z1 : Blk Wz (w.heap.size + 1) 89 [.int .u8 0, .int .u64 0, .int .u32 0, .string ⟨#[]⟩] := by
    have h := Blk.box4 (w.alloc (.cells #[.pointer none, .slice none 0 0] 110)) 89 (.int .u8 0) (.int .u64 0) (.int .u32 0) (.string ⟨#[]⟩)
    rw [World.size_alloc] at h
    rw [hWz]; exact h
  rw [← hWz]
  clear hWz
  obtain ⟨W0, hW0⟩ : ∃ W0, W0 = (((Wz.alloc (.cells #[.pointer (some ⟨p, 0, none⟩)] 24)).alloc (.cells #[.int .i64 i] 3)).alloc (.cells #[.int .i64 r] 3)) := ⟨_, rfl⟩
  have C0 : Caps W0 (w.heap.size + 1 + 1) p i r := by have h := caps_new Wz p i r; rw [zsz] at h; rw [hW0]; exact h
  have belz : Below Wz.heap.size Wz W0 := by rw [hW0]; exact (((Below.refl _ _).alloc (Nat.le_refl _) _).alloc (by simp) _).alloc (by simp; omega) _
  have hsz : W0.heap.size = w.heap.size + 5 := by rw [hW0]; simp; omega
  rw [← hW0]
  clear hW0
  have B0 : Below w.heap.size w W0 := bz.trans (belz.mono (by omega))
  have I0 : RdI w [] W0 := ⟨⟨_, Z0.far (belz.block _ (by omega)) (fun g e => by cases e), fun g e => by cases e⟩, Z1.keep belz, B0⟩
  generalize hA : (Act.mk _ _ : Act) = A0
  clear zsz bz Z0 Z1 belz
  refine wpIn_seq (gf := 66) (lb := #[.pointer (some ⟨w.heap.size + 1 + 1, 0, none⟩), .pointer (some ⟨w.heap.size + 1 + 1 + 1, 0, none⟩), .pointer (some ⟨w.heap.size + 1 + 1 + 2, 0, none⟩)]) (by rw [← hA]; rfl) (enters_of Tryd.func66 (by kernel_rfl) rfl)
    (found_seq base w.heap.size W0 p gl M v D i r (w.heap.size + 1 + 1) hi (by omega) (fun W hb => HD.out W (B0.trans hb)) C0) KpF.trans (fun m W l o hl hm => KpF.putObj W o (by omega) (by omega) hm) (Below.refl _ _) (fun _ => rfl)
    (RdI w) (fun _ _ _ => False)
    (fun s X Y hs ha => hs.aside (by rw [hsz] at ha; exact ha))
    (fun _ _ _ _ hs _ => hs)
    I0
    (fun m pre x a' X => ∃ v, BldV w.heap.size w.heap.size v (Lib.byteCells (dataL pre)) X ∧ (∀ g, v.ownBlock = some g → w.heap.size + 15 ≤ g ∧ g < m) ∧
      (∃ c0 c1 c2 c3, Blk X (w.heap.size + 1) 89 [c0, c1, c2, c3]) ∧ Below w.heap.size w X ∧
      ∃ Bx, (m ≤ Bx ∧ w.heap.size + 15 ≤ Bx) ∧ Blk X Bx 89 [.int .u8 (x.1 : Int), .int .u64 (x.2.1 : Int), .int .u32 (x.2.2.1 : Int), .string (bs x.2.2.2)] ∧ a' = { tmps := (A0.tmps.setIfInBounds 19 (recV x)).setIfInBounds 11 (.pointer (some ⟨Bx, 0, none⟩)), defers := [] })
    (fun m s x a' X Y hm ⟨v, q1, q2, ⟨c0, c1, c2, c3, q3⟩, q4, Bx, q5, q6, q7⟩ ha => by
      rw [hsz] at ha
      exact ⟨v, q1.aside (fun g e => (q2 g e).1) ha, q2, ⟨c0, c1, c2, c3, ha.get q3 (by omega)⟩, q4.trans (ha.below (by omega) q4.size), Bx, q5, ha.get q6 (by omega), q7⟩)
    ?assign ?body ?done ?stop
  case assign =>
    rintro pre ⟨k1, k2, k3, k4⟩ Wm X K ⟨⟨v, q1, q2⟩, q3, q4⟩ hmm ham _ hpre hlen hK
    rw [hsz] at ham hlen hmm
    subst hA
    unfold encP recV
    gi_wp2_with fail
    have bel : Below X.heap.size X (X.alloc (.cells #[.int .u8 (k1 : Int), .int .u64 (k2 : Int), .int .u32 (k3 : Int), .string (bs k4)] 89)) := (Below.refl _ _).alloc (Nat.le_refl _) _
    have ha2 : Aside (w.heap.size + 5) 10 Wm (X.alloc (.cells #[.int .u8 (k1 : Int), .int .u64 (k2 : Int), .int .u32 (k3 : Int), .string (bs k4)] 89)) := ham.trans (Aside.of_below bel)
    refine hK _ _ (Its.of_below bel (by omega)) bel.size ⟨⟨bel.mono (by omega), Its.of_below bel (by omega)⟩, fun j _ hj => bel.block j hj⟩ ⟨v, q1.aside q2 ha2, fun g e => ⟨q2 g e, (q1.2.2.1.lt g e).2⟩, ⟨_, _, _, _, ha2.get q3 (by omega)⟩, q4.trans (ha2.below (by omega) q4.size), X.heap.size, ⟨ham.size, by omega⟩, Blk.box4 _ _ _ _ _ _, rfl⟩
  case body =>
    rintro m pre ⟨k1, k2, k3, k4⟩ a' X hmm ⟨v, q1, q2, ⟨c0, c1, c2, c3, q3⟩, q4, Bx, q5, q6, rfl⟩ hpre hlen _ _
    rw [hsz] at hlen hmm
    subst hA
    have hdl : (dataL pre).length + k4.length ≤ 450560 := by
      have h := (foundL_data hDl hpre).1
      rw [dataL_snoc, List.length_append] at h
      exact h
    have HW := Lib.hid (bld_WriteString w.heap.size w.heap.size v _ (bs k4) X q1 (by rw [Lib.byteCells_length, bs_size]; omega) q4.size)
    obtain ⟨x0, x1, x2, x3⟩ := q6.four
    have HX := Lib.hid q6
    have HE := Lib.hid q3
    have HV := Lib.hid q2
    have HB := Lib.hid q4
    have HL := Lib.hid hlen
    have HM := Lib.hid hmm
    have HQ := Lib.hid q5
    clear q1 q2 q3 q4 q6 hdl hlen hmm q5
    gi_wp2_with fail
    refine ⟨trivial, rfl, (CallsIn.inRound _ (callsIn_wide.2 HW.out)).mono ?_⟩
    rintro e X1 ⟨rfl, v', hB', hbel, hblk, hfar⟩
    have q3 : Blk X1 (w.heap.size + 1) 89 [c0, c1, c2, c3] := (hfar (w.heap.size + 1) HE.out.lt (by omega) (by intro h; have := (HV.out _ h.symm).1; omega)).trans HE.out
    have q6 : Blk X1 Bx 89 [.int .u8 (k1 : Int), .int .u64 (k2 : Int), .int .u32 (k3 : Int), .string (bs k4)] := (hfar Bx HX.out.lt (by have := HQ.out.2; omega) (by intro h; have h1 := (HV.out _ h.symm).2; have h2 := HQ.out.1; omega)).trans HX.out
    have HE1 := Lib.hid q3
    have HX1 := Lib.hid q6
    have HW1 := Lib.hid hB'
    have HBL := Lib.hid hbel
    have HBK := Lib.hid hblk
    have HF := Lib.hid hfar
    obtain ⟨x0, x1, x2, x3⟩ := HX1.out.four
    obtain ⟨y0, y1, y2, y3⟩ := HE1.out.four
    have z0 := q3.frozen 0
    have z1 := q3.frozen 1
    have z2 := q3.frozen 2
    have z3 := q3.frozen 3
    clear q3 q6 hB' hbel hblk hfar
    gi_wp2_with fail
    obtain ⟨X2, hX2⟩ : ∃ X2, X2 = ((((X1.setCell ⟨w.heap.size + 1, 0, none⟩ (.int .u8 (k1 : Int))).setCell ⟨w.heap.size + 1, 1, none⟩ (.int .u64 (k2 : Int))).setCell ⟨w.heap.size + 1, 2, none⟩ (.int .u32 (k3 : Int))).setCell ⟨w.heap.size + 1, 3, none⟩ (.string (bs k4))) := ⟨_, rfl⟩
    rw [← hX2]
    have P2 : Blk X2 (w.heap.size + 1) 89 [.int .u8 (k1 : Int), .int .u64 (k2 : Int), .int .u32 (k3 : Int), .string (bs k4)] := by rw [hX2]; exact HE1.out.put4 _ _ _ _
    have F2 : ∀ j, j ≠ w.heap.size + 1 → X2.heap[j]? = X1.heap[j]? := fun j hj => by rw [hX2]; exact heap_put4 _ _ _ _ _ _ j hj
    have B2 : Below w.heap.size X X2 := by rw [hX2]; exact below_put4 HBL.out (Nat.le_succ _) _ _ _ _
    clear hX2
    have FA : ∀ j, j < X.heap.size → j ≠ w.heap.size → j ≠ w.heap.size + 1 → some j ≠ v.ownBlock → X2.heap[j]? = X.heap[j]? := fun j h1 h2 h3 h4 => (F2 j h3).trans (HF.out j h1 h2 h4)
    have hlen := HL.out
    have hmm := HM.out
    have hown : ∀ j, j < w.heap.size + 15 → some j ≠ v.ownBlock := fun j hj h => by have := (HV.out _ h.symm).1; omega
    have hown' : ∀ g, v'.ownBlock = some g → w.heap.size + 15 ≤ g := fun g hg => by
      rcases HBK.out with e | e
      · exact (HV.out _ (e.symm.trans hg)).1
      · rw [e] at hg; injection hg with hg; omega
    show (Its W0.heap.size 10 X X2 ∧ KpF w.heap.size (w.heap.size + 1 + 1) m X X2) ∧ RdI w (pre ++ [(k1, k2, k3, k4)]) X2
    rw [hsz]
    refine ⟨⟨fun j h1 h2 => FA j (by omega) (by omega) (by omega) (hown j (by omega)), ⟨B2, fun j h1 h2 => FA j (by omega) (by omega) (by omega) (hown j (by omega))⟩, fun j h1 h2 => FA j h2 (by omega) (by omega) (fun h => by have := (HV.out _ h.symm).2; omega)⟩, ⟨v', ?_, hown'⟩, ?_, HB.out.trans B2⟩
    · rw [dataL_snoc, byteCells_append]
      exact HW1.out.far (F2 _ (by omega)) (fun g e => F2 g (by have := hown' g e; omega))
    · rw [endR_snoc]; exact P2
  case done =>
    rintro W hI hK
    rw [hsz] at hK
    subst hA
    have HDL := Lib.hid (foundL_data hDl (List.prefix_refl (foundL D i r)))
    obtain ⟨⟨v, q1, q2⟩, q3, q4⟩ := hI
    obtain ⟨l, hl⟩ : ∃ l, l = dataL (foundL D i r) := ⟨_, rfl⟩
    obtain ⟨⟨k, g, ix, dt⟩, hE⟩ : ∃ E : RecT, endR (foundL D i r) = E := ⟨_, rfl⟩
    have HRF : Hid (readF (foundL D i r) = if k = 3 ∧ 4 ≤ l.length ∧ l.drop (l.length - 4) = leL (crcSum (l.take (l.length - 4))) then (l.take (l.length - 4), g, true) else ([], 0, false)) := Lib.hid (by unfold readF; rw [hl, hE])
    have hlen : l.length ≤ 450560 := by rw [hl]; exact HDL.out.1
    rw [← hl] at q1
    rw [hE] at q3
    dsimp only at q3
    have HLN := Lib.hid (bld_Len _ _ _ W q1.is)
    rw [Lib.byteCells_length] at HLN
    clear hl hE HDL
    have HQ1 := Lib.hid q1
    have HQ4 := Lib.hid q4
    have HQ3 := Lib.hid q3
    have HB9 : Hid (∀ Y, Below w.heap.size W Y → Below w.heap.size w (Y.putObj (w.heap.size + 5) (.deferred none))) := Lib.hid (fun Y hY => (q4.trans hY).trans ((Aside.putObj (B := w.heap.size) (k := 6) Y (by omega) (by omega) _).below (Nat.le_refl _) (Nat.le_trans q4.size hY.size)))
    obtain ⟨x0, x1, x2, x3⟩ := q3.four
    clear q1 q2 q4
    by_cases hk : k = 3
    · have e1 : ((k : Int) != 3) = false := by rw [bne_eq_false_iff_eq]; omega
      by_cases h4 : 4 ≤ l.length
      · obtain ⟨n, hn⟩ : ∃ n, l.length = n + 4 := ⟨l.length - 4, by omega⟩
        rw [hn] at HLN
        have e2 : decide ((n : Int) < 0) = false := decide_eq_false (by omega)
        gi_wp2_with fail
        refine ⟨trivial, rfl, (callsIn_wide.2 HLN.out).mono ?_⟩
        rintro e w1 ⟨rfl, rfl⟩
        gi_wp2_with fail
        obtain ⟨T, hT⟩ : ∃ T, T = bs (l.take n) := ⟨_, rfl⟩
        obtain ⟨S, hS⟩ : ∃ S, S = bs (l.drop n) := ⟨_, rfl⟩
        obtain ⟨F, hF⟩ : ∃ F, F = bs (leL (crcSum (l.take n))) := ⟨_, rfl⟩
        have hn4 : l.length - 4 = n := by omega
        have hto : ∀ W' : World, (Instr.slice 9 (.string (bs l)) none (some (.int .i64 (n : Int))) none).run Tryd.prog W' = .ok (.string T) W' := fun W' => by rw [hT]; exact run_str_to l _ n W' (by omega) rfl
        have hfr : ∀ W' : World, (Instr.slice 9 (.string (bs l)) (some (.int .i64 (n : Int))) none none).run Tryd.prog W' = .ok (.string S) W' := fun W' => by rw [hS]; exact run_str_from l _ n W' (by omega) rfl
        have HFO : Hid (∀ W', Calls Tryd.prog 60 #[.string T] W' fun e w' => e = .returned (.string F) ∧ Below W'.heap.size W' w') := Lib.hid (fun W' => by
          have h := slot_foot (bs (l.take n)) W' (by rw [bs_size, List.length_take]; omega)
          rw [bs_list] at h
          rw [hT, hF]; exact h)
        have hk0 : RdK w.heap.size l _ w1 w1 := ⟨.of HQ1.out.is, Below.refl _ _, HQ3.out, hK⟩
        have HS := Lib.hid HQ4.out.size
        have HCS : Hid ((l.drop n = leL (crcSum (l.take n)) ∧ (S.toList == F.toList) = true ∧ (S.toList != F.toList) = false) ∨ (l.drop n ≠ leL (crcSum (l.take n)) ∧ (S.toList == F.toList) = false ∧ (S.toList != F.toList) = true)) := Lib.hid (by
          have e : (S.toList == F.toList) = decide (l.drop n = leL (crcSum (l.take n))) := by
            rw [hS, hF, bs, bs, ByteArray.toList_mk, ByteArray.toList_mk]
            by_cases h : l.drop n = leL (crcSum (l.take n))
            · rw [decide_eq_true h, h, beq_self_eq_true]
            · rw [decide_eq_false h, beq_eq_false_iff_ne]; exact h
          by_cases h : l.drop n = leL (crcSum (l.take n))
          · exact .inl ⟨h, by rw [e, decide_eq_true h], by rw [bne, e, decide_eq_true h]; rfl⟩
          · exact .inr ⟨h, by rw [e, decide_eq_false h], by rw [bne, e, decide_eq_false h]; rfl⟩)
        have HTT := Lib.hid hT
        clear hT hS hF x0 x1 x2 x3 q3
        refine wpIn_wide.2 ?_
        go_region_held3 (fun w' => w'.heap[w.heap.size + 5]? = some (.deferred (some [])))
          (first | exact hy.2.2.2 | exact hK | trivial)
          (first
            | (go_at_call 59
               refine (rdk_String (s := w.heap.size) (l := l) (W := w1) (by first | assumption | exact RdK.drew hk0) HS.out).mono ?_
               rintro e Y ⟨rfl, hy⟩))
        have HY := Lib.hid hy
        clear hk0 hy hK hto hfr e1 e2 h4
        rcases HCS.out with ⟨s1, s2, s3⟩ | ⟨s1, s2, s3⟩
        · have HR1 : Hid (readF (foundL D i r) = (l.take n, g, true)) := Lib.hid (by rw [HRF.out, hn4, if_pos ⟨hk, by omega, s1⟩])
          clear HCS HRF s1 hn4
          gi_wp2_with fail
          refine ⟨trivial, rfl, (callsIn_wide.2 (HFO.out _)).mono ?_⟩
          rintro e Y2 ⟨rfl, hb⟩
          have HB2 := Lib.hid (HY.out.2.1.trans (hb.mono (Nat.le_trans HS.out HY.out.2.1.size)))
          have hK2 : Y2.heap[w.heap.size + 5]? = some (.deferred (some [])) := (hb.block _ (Array.getElem?_eq_some_iff.1 HY.out.2.2.2).1).trans HY.out.2.2.2
          have HQ := Lib.hid (HY.out.2.2.1.keep hb)
          obtain ⟨x0, x1, x2, x3⟩ := HQ.out.four
          clear hb
          gi_wp2_with fail
          refine wpIn_wide.2 ?_
          go_quiet (fail)
          gi_wp2_with fail
          rw [HR1.out]
          refine ⟨by simp, .inl ⟨_, _, rfl, run_takeDeferred (w := World.drewN Y2 _) hK2, ?_⟩⟩
          exact ⟨_, results_tmp3 rfl _ _ _, by rw [HTT.out]; rfl, HB9.out _ (Below.drewN HB2.out _)⟩
        · have HR0 : Hid (readF (foundL D i r) = ([], 0, false)) := Lib.hid (by rw [HRF.out, hn4, if_neg (fun hx => s1 hx.2.2)])
          clear HCS HRF s1 hn4
          gi_wp2_with fail
          refine ⟨trivial, rfl, (callsIn_wide.2 (HFO.out _)).mono ?_⟩
          rintro e Y2 ⟨rfl, hb⟩
          have HB2 := Lib.hid (HY.out.2.1.trans (hb.mono (Nat.le_trans HS.out HY.out.2.1.size)))
          have hK2 : Y2.heap[w.heap.size + 5]? = some (.deferred (some [])) := (hb.block _ (Array.getElem?_eq_some_iff.1 HY.out.2.2.2).1).trans HY.out.2.2.2
          clear hb
          gi_wp2_with fail
          rw [HR0.out]
          refine ⟨by simp, .inl ⟨_, _, rfl, run_takeDeferred hK2, ?_⟩⟩
          exact ⟨_, results_tmp3 rfl _ _ _, rfl, HB9.out _ HB2.out⟩
      · have e2 : decide ((l.length : Int) - 4 < 0) = true := decide_eq_true (by omega)
        have HR0 : Hid (readF (foundL D i r) = ([], 0, false)) := Lib.hid (by rw [HRF.out, if_neg (fun hx => h4 hx.2.1)])
        gi_wp2_with fail
        refine ⟨trivial, rfl, (callsIn_wide.2 HLN.out).mono ?_⟩
        rintro e w1 ⟨rfl, rfl⟩
        gi_wp2_with fail
        rw [HR0.out]
        refine ⟨by simp, .inl ⟨_, _, rfl, run_takeDeferred hK, ?_⟩⟩
        exact ⟨_, results_tmp3 rfl _ _ _, rfl, HB9.out _ (Below.refl _ _)⟩
    · have e1 : ((k : Int) != 3) = true := by rw [bne_iff_ne]; omega
      have HR0 : Hid (readF (foundL D i r) = ([], 0, false)) := Lib.hid (by rw [HRF.out, if_neg (fun hx => hk hx.1)])
      gi_wp2_with fail
      refine ⟨trivial, rfl, (callsIn_wide.2 HLN.out).mono ?_⟩
      rintro e w1 ⟨rfl, rfl⟩
      gi_wp2_with fail
      rw [HR0.out]
      refine ⟨by simp, .inl ⟨_, _, rfl, run_takeDeferred hK, ?_⟩⟩
      exact ⟨_, results_tmp3 rfl _ _ _, rfl, HB9.out _ (Below.refl _ _)⟩
  case stop =>
    rintro c pre W _ h _
    exact h.elim
end Go.Proofs.YtbigpapniloknaaDoor
