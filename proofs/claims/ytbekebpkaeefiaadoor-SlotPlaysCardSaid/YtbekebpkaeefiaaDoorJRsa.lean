/- Contracts of the document's May and Newest. Contracts of the document's summed. Contracts of the document's Parts. -/
import Derived.Test.YtbekebpkaeefiaaDoorJSlm
import Derived.Test.YtbekebpkaeefiaaDoorJRde
import Derived.Test.YtbekebpkaeefiaaDoorRefOpenC
import Derived.Test.YtbekebpkaeefiaaDoorRefCloseB
import Derived.Laws.IdiomStrings
namespace Go.Proofs.YtbekebpkaeefiaaDoor
set_option maxRecDepth 100000
open Go.RowKit

set_option maxHeartbeats 4000000 in
theorem ref_May (w : World) (A : Option Addr) (n c : Nat) (A' : Option Addr) (n' c' : Nat) (D : DSt) (hn : n ≤ 4096) (i r : Int) :
    Calls Tryd.prog 39 #[rdV A n c A' n' c' D, .int .i64 i, .int .i64 r] w fun e w' => e = .returned (.bool (liesB n i r)) ∧ Below w.heap.size w w' := by
  unfold rdV liesB
  have B0 := Lib.hid (((Below.refl w.heap.size w).alloc (Nat.le_refl _) (.cells #[.slice A n c, .slice A' n' c', .int .i64 D.armed, .int .i64 (D.ops : Int)] 31)))
  by_cases h0 : 0 ≤ i
  · have d0 : decide (0 ≤ i) = true := decide_eq_true h0
    rw [d0, Bool.true_and]
    by_cases h1 : i < (n : Int)
    · have d1 : decide (i < (n : Int)) = true := decide_eq_true h1
      have hw : IntKind.i64.wrap ((n : Int) - i) = (n : Int) - i := IntWalk.i64_in _ (by omega)
      by_cases h2 : 1 ≤ r
      · have d2 : decide (1 ≤ r) = true := decide_eq_true h2
        rw [d2, Bool.true_and]
        go_enter Tryd.func39, Tryd.ntmps39
        go_wp2_with fail
        go_ret
        exact ⟨rfl, B0.out⟩
      · have d2 : decide (1 ≤ r) = false := decide_eq_false h2
        rw [d2, Bool.false_and]
        go_enter Tryd.func39, Tryd.ntmps39
        go_wp2_with fail
        go_ret
        exact ⟨rfl, B0.out⟩
    · have d1 : decide (i < (n : Int)) = false := decide_eq_false h1
      have e : (decide (1 ≤ r) && decide (r ≤ (n : Int) - i)) = false := by
        by_cases h2 : 1 ≤ r
        · rw [decide_eq_false (show ¬ (r ≤ (n : Int) - i) by omega), Bool.and_false]
        · rw [decide_eq_false h2, Bool.false_and]
      rw [e]
      go_enter Tryd.func39, Tryd.ntmps39
      go_wp2_with fail
      go_ret
      exact ⟨rfl, B0.out⟩
  · have d0 : decide (0 ≤ i) = false := decide_eq_false h0
    rw [d0, Bool.false_and]
    go_enter Tryd.func39, Tryd.ntmps39
    go_wp2_with fail
    go_ret
    exact ⟨rfl, B0.out⟩

theorem rdD_lenK {D : DSt} (hok : DOk D) (i : Int) : (rdD D i).1.length ≤ 128 := by
  unfold rdD
  split
  · cases hx : lastIx D.waits i.toNat with
    | none =>
      show (D.lasts.getD i.toNat []).length ≤ 128
      rw [List.getD_eq_getElem?_getD]
      cases hy : D.lasts[i.toNat]? with
      | none => simp
      | some t => have := hok.2.2.1 t (List.mem_of_getElem? hy); show t.length ≤ 128; omega
    | some j =>
      show (D.waits.getD j (0, [])).2.length ≤ 128
      rw [List.getD_eq_getElem?_getD]
      cases hy : D.waits[j]? with
      | none => simp
      | some t => have := (hok.2.2.2 t (List.mem_of_getElem? hy)).2; show t.2.length ≤ 128; omega
  · simp
theorem openK_new {D : DSt} {fr i : Nat} : newF (openK D fr (i + 1)) = if (recAt D (fr + i)).2 = 0 then newStep (newF (openK D fr i)) (i, (recAt D (fr + i)).1) else newF (openK D fr i) := by
  by_cases h : (recAt D (fr + i)).2 = 0
  · rw [if_pos h, openK_yes h, newF_snoc]
  · rw [if_neg h, openK_no h]

set_option maxHeartbeats 8000000 in
theorem ref_Newest (w : World) (A : Option Addr) (n c : Nat) (A' : Option Addr) (n' c' : Nat) (D : DSt) (h : RDk w A n c A' n' c' D) (hn : n ≤ 4096) (hn' : n' ≤ 1000000) (hok : DOk D) (i r : Int) :
    Calls Tryd.prog 25 #[rdV A n c A' n' c' D, .int .i64 i, .int .i64 r] w fun e w' => e = .returned (.int .u64 ((newF (openL2 D i r) : Nat) : Int)) ∧ Below w.heap.size w w' := by
  have hln := h.len.1
  have HK := Lib.hid h
  obtain ⟨b, hb⟩ : ∃ b, b = liesB n i r := ⟨_, rfl⟩
  have HM : Hid (∀ W, Calls Tryd.prog 39 #[rdV A n c A' n' c' D, .int .i64 i, .int .i64 r] W fun e w' => e = .returned (.bool b) ∧ Below W.heap.size W w') := Lib.hid (fun W => by rw [hb]; exact ref_May W A n c A' n' c' D hn i r)
  have HOP := Lib.hid (fun (l : List UInt8) (hl : l.length ≤ 128) W => ref_Open l W (by omega))
  have B0 := Lib.hid (((Below.refl w.heap.size w).alloc (Nat.le_refl _) (.cells #[.slice A n c, .slice A' n' c', .int .i64 D.armed, .int .i64 (D.ops : Int)] 31)))
  have R0 := Lib.hid (show Blk (w.alloc (.cells #[.slice A n c, .slice A' n' c', .int .i64 D.armed, .int .i64 (D.ops : Int)] 31)) w.heap.size 31 [.slice A n c, .slice A' n' c', .int .i64 D.armed, .int .i64 (D.ops : Int)] from heap_alloc_new w _)
  unfold rdV at HM ⊢
  obtain ⟨W0, hW0⟩ : ∃ W0, W0 = w.alloc (.cells #[.slice A n c, .slice A' n' c', .int .i64 D.armed, .int .i64 (D.ops : Int)] 31) := ⟨_, rfl⟩
  cases b with
  | false =>
    have HZ : Hid (newF (openL2 D i r) = 0) := Lib.hid (read_out D i r (by rw [← hln]; exact hb.symm)).2
    clear h hb hln
    go_enter Tryd.func25, Tryd.ntmps25
    go_wp2_with fail
    go_loopw [7, 8] (fun gv iv wr => gv = .int .u64 0 ∧ iv = .int .i64 0 ∧ Hid (Below w.heap.size w wr) ∧ Hid (Blk wr w.heap.size 31 [.slice A n c, .slice A' n' c', .int .i64 D.armed, .int .i64 (D.ops : Int)])) (fun _ _ _ => 0)
    case atStart => exact ⟨rfl, rfl, B0, R0⟩
    case round =>
      obtain ⟨rfl, rfl, HB, HR⟩ := hrel
      obtain ⟨r0, r1, r2, r3⟩ := HR.out.fourR
      go_wp2_with fail
      refine (HM.out _).mono ?_
      rintro e w1 ⟨rfl, hb1⟩
      go_wp2_with fail
      go_ret
      rw [HZ.out]
      exact ⟨rfl, HB.out.trans (hb1.mono HB.out.size)⟩
  | true =>
    obtain ⟨fr, room, rfl, rfl, hr1, hr2⟩ := liesB_iff.1 hb.symm
    have HL : Hid (openL2 D (fr : Int) (room : Int) = openK D fr room) := Lib.hid (by unfold openL2; rw [← hln, ← hb, if_pos rfl]; rfl)
    have hfr : fr + room ≤ n := by omega
    have HLN := Lib.hid hln
    have HRD : Hid (∀ (j : Nat) W, RDk W A n c A' n' c' D → j < n → ∃ s : List UInt8, s.length ≤ 128 ∧ openT s = recAt D j ∧ Calls Tryd.prog 51 #[rdV A n c A' n' c' D, .int .i64 (j : Int)] W fun e w' => e = .returned (.tuple #[.string (bs s), .int .i64 (((rdD D (j : Int)).2 : Nat) : Int)]) ∧ Below W.heap.size W w') := Lib.hid (fun j W hk hj => by
      exact ⟨(rdD D (j : Int)).1, rdD_lenK hok _, rfl, ref_Read12 W A n c A' n' c' D j hk.1 hk.2.1 (by omega) hn hn'⟩)
    clear h hb hln
    go_enter Tryd.func25, Tryd.ntmps25
    go_wp2_with fail
    go_loopw [7, 8] (fun gv iv wr => ∃ (g i : Nat), gv = .int .u64 (g : Int) ∧ iv = .int .i64 i ∧ i ≤ room ∧ Hid (g = newF (openK D fr i)) ∧ Hid (Below w.heap.size w wr) ∧ Hid (RDk wr A n c A' n' c' D) ∧ Hid (Blk wr w.heap.size 31 [.slice A n c, .slice A' n' c', .int .i64 D.armed, .int .i64 (D.ops : Int)])) (fun _ iv _ => room - (intOf iv).toNat)
    case atStart => exact ⟨0, 0, rfl, rfl, Nat.zero_le _, Lib.hid rfl, B0, Lib.hid (HK.out.keep ((Below.refl _ _).alloc (Nat.le_refl _) _)), R0⟩
    case round =>
      obtain ⟨g, i, rfl, rfl, hir, HG, HB, HKW, HR⟩ := hrel
      obtain ⟨r0, r1, r2, r3⟩ := HR.out.fourR
      go_wp2_with fail
      refine (HM.out _).mono ?_
      rintro e w1 ⟨rfl, hb1⟩
      have B1 := Lib.hid (HB.out.trans (hb1.mono HB.out.size))
      have K1 := Lib.hid (HKW.out.keep hb1)
      have R1 := Lib.hid (HR.out.keep hb1)
      clear HB HKW HR hb1 r0 r1 r2 r3
      by_cases hlt : i < room
      · have hd : decide ((i : Int) < (room : Int)) = true := decide_eq_true (by omega)
        have hd' : decide (i < room) = true := decide_eq_true hlt
        have hiw : IntKind.i64.wrap ((i : Int) + 1) = (i : Int) + 1 := IntWalk.i64_in _ (by omega)
        have hfw : IntKind.i64.wrap ((fr : Int) + (i : Int)) = (fr : Int) + (i : Int) := IntWalk.i64_in _ (by omega)
        obtain ⟨s, s1, s2, s3⟩ := HRD.out (fr + i) w1 K1.out (by omega)
        obtain ⟨cd, hcd⟩ : ∃ x : Nat, x = (rdD D ((fr + i : Nat) : Int)).2 := ⟨_, rfl⟩
        rw [← hcd, show (((fr + i : Nat)) : Int) = (fr : Int) + (i : Int) by omega] at s3
        have HR3 := Lib.hid s3
        have HO3 := Lib.hid (HOP.out s s1)
        rw [s2] at HO3
        have HNEW := Lib.hid (openK_new (D := D) (fr := fr) (i := i))
        rw [← HG.out] at HNEW
        obtain ⟨⟨⟨k, g1, ix, dt⟩, co⟩, hrec⟩ : ∃ x, recAt D (fr + i) = x := ⟨_, rfl⟩
        rw [hrec] at HO3 HNEW
        unfold recV at HO3
        dsimp only at HO3 HNEW
        obtain ⟨r0, r1, r2, r3⟩ := R1.out.fourR
        clear s1 s2 s3 hcd hrec HG
        go_wp2_with fail
        refine HR3.out.mono ?_
        rintro e w2 ⟨rfl, hb2⟩
        have B2 := Lib.hid (B1.out.trans (hb2.mono B1.out.size))
        have K2 := Lib.hid (K1.out.keep hb2)
        have R2 := Lib.hid (R1.out.keep hb2)
        clear hb2 HR3 B1 K1 R1 r0 r1 r2 r3
        go_wp2_with fail
        refine (HO3.out _).mono ?_
        rintro e w3 ⟨rfl, hb3⟩
        have B3 := Lib.hid (B2.out.trans (hb3.mono B2.out.size))
        have ba : ∀ o, Below w3.heap.size w3 (w3.alloc o) := fun o => (Below.refl _ _).alloc (Nat.le_refl _) o
        have B4 := Lib.hid (fun o => B3.out.trans ((ba o).mono B3.out.size))
        have K4 := Lib.hid (fun o => (K2.out.keep hb3).keep (ba o))
        have R4 := Lib.hid (fun o => (R2.out.keep hb3).keep (ba o))
        clear hb3 HO3 B2 K2 R2 ba hfw
        by_cases hc : co = 0
        · have e1 : ((co : Int) == 0) = true := by rw [beq_iff_eq]; omega
          rw [if_pos hc] at HNEW
          unfold newStep at HNEW
          dsimp only at HNEW
          by_cases hk2 : k = 2
          · have e2 : ((k : Int) == 2) = true := by rw [beq_iff_eq]; omega
            rw [if_pos (.inl hk2)] at HNEW
            by_cases hgt : g < g1
            · have e4 : decide ((g : Int) < (g1 : Int)) = true := decide_eq_true (by omega)
              have e4' : decide (g < g1) = true := decide_eq_true hgt
              go_wp2_with fail
              refine ⟨⟨g1, i + 1, rfl, by go_num, by omega, Lib.hid (by rw [HNEW.out]; omega), Lib.hid (B4.out _), Lib.hid (K4.out _), Lib.hid (R4.out _)⟩, by simp [intOf]; omega⟩
            · have e4 : decide ((g : Int) < (g1 : Int)) = false := decide_eq_false (by omega)
              have e4' : decide (g < g1) = false := decide_eq_false hgt
              go_wp2_with fail
              refine ⟨⟨g, i + 1, rfl, by go_num, by omega, Lib.hid (by rw [HNEW.out]; omega), Lib.hid (B4.out _), Lib.hid (K4.out _), Lib.hid (R4.out _)⟩, by simp [intOf]; omega⟩
          · have e2 : ((k : Int) == 2) = false := by rw [beq_eq_false_iff_ne]; omega
            by_cases hk3 : k = 3
            · have e3 : ((k : Int) == 3) = true := by rw [beq_iff_eq]; omega
              rw [if_pos (.inr hk3)] at HNEW
              by_cases hgt : g < g1
              · have e4 : decide ((g : Int) < (g1 : Int)) = true := decide_eq_true (by omega)
                have e4' : decide (g < g1) = true := decide_eq_true hgt
                go_wp2_with fail
                refine ⟨⟨g1, i + 1, rfl, by go_num, by omega, Lib.hid (by rw [HNEW.out]; omega), Lib.hid (B4.out _), Lib.hid (K4.out _), Lib.hid (R4.out _)⟩, by simp [intOf]; omega⟩
              · have e4 : decide ((g : Int) < (g1 : Int)) = false := decide_eq_false (by omega)
                have e4' : decide (g < g1) = false := decide_eq_false hgt
                go_wp2_with fail
                refine ⟨⟨g, i + 1, rfl, by go_num, by omega, Lib.hid (by rw [HNEW.out]; omega), Lib.hid (B4.out _), Lib.hid (K4.out _), Lib.hid (R4.out _)⟩, by simp [intOf]; omega⟩
            · have e3 : ((k : Int) == 3) = false := by rw [beq_eq_false_iff_ne]; omega
              rw [if_neg (fun h => h.elim hk2 hk3)] at HNEW
              go_wp2_with fail
              refine ⟨⟨g, i + 1, rfl, by go_num, by omega, Lib.hid HNEW.out.symm, Lib.hid (B4.out _), Lib.hid (K4.out _), Lib.hid (R4.out _)⟩, by simp [intOf]; omega⟩
        · have e1 : ((co : Int) == 0) = false := by rw [beq_eq_false_iff_ne]; omega
          rw [if_neg hc] at HNEW
          go_wp2_with fail
          refine ⟨⟨g, i + 1, rfl, by go_num, by omega, Lib.hid HNEW.out.symm, Lib.hid (B4.out _), Lib.hid (K4.out _), Lib.hid (R4.out _)⟩, by simp [intOf]; omega⟩
      · obtain rfl : i = room := by omega
        have hd : decide ((i : Int) < (i : Int)) = false := decide_eq_false (by omega)
        have hd' : decide (i < i) = false := decide_eq_false (by omega)
        go_wp2_with fail
        go_ret
        rw [HL.out, ← HG.out]
        exact ⟨rfl, B1.out⟩
end Go.Proofs.YtbekebpkaeefiaaDoor

namespace Go.Proofs.YtbekebpkaeefiaaDoor
set_option maxRecDepth 100000
open Go.RowKit

/-- A row of bytes that is the call's own, of which nothing behind its bytes is frozen. -/
def BY (B : Nat) (w : World) (v : Value) (l : List UInt8) : Prop :=
  ∃ g cap cur fz, v = .slice (some ⟨g, 0, none⟩) l.length cap ∧ B ≤ g ∧ w.heap[g]? = some (.cells cur 5 fz) ∧ (∀ j, l.length ≤ j → j < cur.size → ¬ (fz.1 ≤ j ∧ j < fz.2)) ∧ l.length ≤ cap ∧ cap ≤ maxLen ∧ cur.size = cap ∧ cur.toList.take l.length = Lib.byteCells l
theorem BY.keep {B : Nat} {w w' : World} {v : Value} {l : List UInt8} (h : BY B w v l) (hb : Below w.heap.size w w') : BY B w' v l := by
  obtain ⟨g, cap, cur, fz, h1, h2, h3, h4⟩ := h
  exact ⟨g, cap, cur, fz, h1, h2, (hb.block g (Array.getElem?_eq_some_iff.1 h3).1).trans h3, h4⟩
theorem BY.cells {B : Nat} {w : World} {v : Value} {l : List UInt8} (h : BY B w v l) : ∃ g cap, v = .slice (some ⟨g, 0, none⟩) l.length cap ∧ g < w.heap.size ∧ ∀ j (hj : j < l.length), w.cell? ⟨g, j, none⟩ = some (.int .u8 ((l[j]).toNat : Int)) := by
  obtain ⟨g, cap, cur, fz, h1, h2, h3, h4, h5, h6, h7, h8⟩ := h
  refine ⟨g, cap, h1, (Array.getElem?_eq_some_iff.1 h3).1, fun j hj => ?_⟩
  rw [cell_of_row w g j cur _ fz h3]
  have hx : (cur.toList.take l.length)[j]? = (Lib.byteCells l)[j]? := by rw [h8]
  rw [List.getElem?_take_of_lt hj, Array.getElem?_toList] at hx
  rw [hx]
  unfold Lib.byteCells
  rw [List.getElem?_map, List.getElem?_eq_getElem hj]
  rfl
theorem BY.conv {B : Nat} {w : World} {v : Value} {l : List UInt8} (h : BY B w v l) : (convert 107 9 v).run Tryd.prog w = .ok (.string (bs l)) w := by
  obtain ⟨g, cap, rfl, _, hc⟩ := h.cells
  exact run_convert_bytes_back (P := Tryd.prog) w 107 9 5 ⟨g, 0, none⟩ cap l Tryd.underlying107 Tryd.underlying5 Tryd.underlying9 (fun j hj => by
    have := hc j hj
    have e : (⟨g, 0, none⟩ : Addr).add j = ⟨g, j, none⟩ := by unfold Addr.add; split <;> simp_all
    rw [e]; exact this)
theorem BY.of_string (w : World) (l : List UInt8) (hl : l.length ≤ maxLen) : ∃ v w', (convert 9 107 (.string (bs l))).run Tryd.prog w = .ok v w' ∧ BY w.heap.size w' v l ∧ Below w.heap.size w w' := by
  have h := Lib.run_convert_string_bytes (P := Tryd.prog) w 9 107 5 (bs l) Tryd.underlying9 Tryd.underlying107 Tryd.underlying5
  rw [bs_size] at h
  refine ⟨_, _, h, ⟨w.heap.size, _, _, _, rfl, Nat.le_refl _, Lib.bytesWorld_at_new w _ _, ?_, ?_, ?_, ?_, ?_⟩, ⟨?_, ?_, ?_, ?_, fun k hk => Lib.bytesWorld_at_old _ _ _ _ hk⟩⟩
  · intro j h1 h2 h3
    have := h3.1
    omega
  · exact grownCap_ge _ _ _ _
  · exact grownCap_le_maxLen w l.length 0 _ hl
  · have hg := grownCap_ge w l.length 0 5
    unfold Lib.bytesCells
    rw [bs_size, Array.size_append, Array.size_map, Array.size_replicate]
    have : (bs l).data.size = l.length := bs_size l
    omega
  · unfold Lib.bytesCells Lib.byteCells
    rw [Array.toList_append, Array.toList_map]
    exact List.take_left' (by rw [List.length_map, Array.length_toList]; exact bs_size l)
  · simp [Lib.bytesWorld, World.freeze]; rfl
  · simp [Lib.bytesWorld, World.freeze]
  · simp [Lib.bytesWorld, World.freeze]; rfl
  · rw [Lib.bytesWorld_size]; omega
/-- A byte appended. -/
theorem BY.append {B : Nat} {w : World} {v : Value} {l : List UInt8} (h : BY B w v l) (hl : l.length ≤ 1000000) (hB : B ≤ w.heap.size) (ty : TypeId) (a : Addr) (c : UInt8) (ha : w.cell? a = some (.int .u8 ((c.toNat : Nat) : Int))) :
    ∃ v' w', (Builtin.append_ #[107, 107] ty #[v, .slice (some a) 1 1]).run Tryd.prog w = .ok v' w' ∧ BY B w' v' (l ++ [c]) ∧ Below B w w' := by
  obtain ⟨i0, hi, hz0, hz1, hz2⟩ := info_parts infoByte
  have hi' : Tryd.prog.info? 5 = some i0 := hi
  obtain ⟨g, cap, hv, hgl, hcs⟩ := h.cells
  obtain ⟨g1, cap1, cur, fz, h1, h2, h3, h4, h5, h6, h7, h8⟩ := h
  rw [hv] at h1
  injection h1 with e1 _ e2
  injection e1 with e1
  injection e1 with e1
  subst e1 e2 hv
  have hadd0 : a.add 0 = a := by unfold Addr.add; split <;> simp_all
  have hnews : ∀ j u, [Value.int .u8 ((c.toNat : Nat) : Int)][j]? = some u → w.cell? (a.add j) = some u := fun j u hj => by
    match j, hj with
    | 0, hj => simp at hj; subst hj; rw [hadd0]; exact ha
  have hll : (l ++ [c]).length = l.length + 1 := by rw [List.length_append]; rfl
  have hbc : Lib.byteCells (l ++ [c]) = Lib.byteCells l ++ [.int .u8 ((c.toNat : Nat) : Int)] := by unfold Lib.byteCells; rw [List.map_append]; rfl
  by_cases hroom : l.length + 1 ≤ cap
  · have hf := run_firstCells_some (P := Tryd.prog) w i0.size 1 a 1 1 [Value.int .u8 ((c.toNat : Nat) : Int)] (by rw [hz1]; rfl) hnews
    rw [hz1] at hf
    have hadd : (⟨g, 0, none⟩ : Addr).add l.length = ⟨g, l.length, none⟩ := by unfold Addr.add; split <;> simp_all
    have hadd1 : (⟨g, l.length, none⟩ : Addr).add 0 = ⟨g, l.length, none⟩ := by unfold Addr.add; split <;> simp_all
    have hin : l.length < cur.size := by omega
    have hcell : w.cell? ⟨g, l.length, none⟩ = some cur[l.length] := by simp [World.cell?, h3, hin]
    have hfro : w.frozen? ⟨g, l.length, none⟩ = false := by
      obtain ⟨lo, hi2⟩ := fz
      have := h4 l.length (Nat.le_refl _) hin
      simp only [World.frozen?, h3, Bool.and_eq_false_iff, decide_eq_false_iff_not]
      simp only at this
      omega
    have hst : (storeCells ⟨g, l.length, none⟩ [Value.int .u8 ((c.toNat : Nat) : Int)] 0).run Tryd.prog w = .ok () (w.setCell ⟨g, l.length, none⟩ (.int .u8 ((c.toNat : Nat) : Int))) := by
      have hs1 : (store ⟨g, l.length, none⟩ (.int .u8 ((c.toNat : Nat) : Int))).run Tryd.prog w = .ok () (w.setCell ⟨g, l.length, none⟩ (.int .u8 ((c.toNat : Nat) : Int))) := by
        rw [run_store Tryd.prog w ⟨g, l.length, none⟩ (.int .u8 ((c.toNat : Nat) : Int)) _ rfl, hcell]
        simp [hfro]
      simp only [storeCells, hadd1, Sem.run_bind, Sem.run_pure, hs1, Result.andThen_ok]
    refine ⟨.slice (some ⟨g, 0, none⟩) (l.length + 1) cap, w.setCell ⟨g, l.length, none⟩ (.int .u8 ((c.toNat : Nat) : Int)), ?_, ⟨g, cap, cur.setIfInBounds l.length (.int .u8 ((c.toNat : Nat) : Int)), fz, by rw [hll], h2, ?_, ?_, by rw [hll]; exact hroom, h6, by rw [Array.size_setIfInBounds]; exact h7, ?_⟩, (Below.refl _ _).setCell (p := ⟨g, l.length, none⟩) h2 _⟩
    · simp [Builtin.append_, run_underlying Tryd.underlying107, sizeOf, typeInfo, hi', hz1, Builtin.lenOf, hroom, hf, Addr.add_lit, hst]
    · simp [World.setCell, Array.getElem?_modify, h3]
    · intro j j1 j2
      rw [Array.size_setIfInBounds] at j2
      rw [hll] at j1
      exact h4 j (by omega) j2
    · rw [hll, hbc, ← h8, Array.toList_setIfInBounds, List.take_succ_eq_append_getElem (by rw [List.length_set, Array.length_toList]; exact hin), List.getElem_set_self, List.take_set_of_le (Nat.le_refl _)]
  · have hr := run_append_grow (P := Tryd.prog) w 107 ty 5 i0 (.int .u8 0) Tryd.underlying107 hi' hz0 ⟨g, 0, none⟩ l.length cap (Lib.byteCells l) (by rw [hz1, Lib.byteCells_length, Nat.mul_one]) (fun j u hj => by
      have hj' : j < l.length := by have := (List.getElem?_eq_some_iff.1 hj).1; rwa [Lib.byteCells_length] at this
      have e : (⟨g, 0, none⟩ : Addr).add j = ⟨g, j, none⟩ := by unfold Addr.add; split <;> simp_all
      rw [e, hcs j hj']
      unfold Lib.byteCells at hj
      rw [List.getElem?_map, List.getElem?_eq_getElem hj'] at hj
      exact hj) a 1 1 [.int .u8 ((c.toNat : Nat) : Int)] (by rw [hz1]; rfl) hnews (by omega) (by omega) (by rw [hz2]; exact growslice_fits (by omega) (by omega))
    have hge := grownCap_ge w (l.length + 1) cap 5
    have hz : (Value.int IntKind.u8 0).cells = #[.int .u8 0] := rfl
    refine ⟨_, _, hr, ⟨w.heap.size, _, _, _, by rw [hll], hB, heap_alloc_new w.drew _, ?_, by rw [hll]; exact hge, grownCap_le_maxLen w (l.length + 1) cap _ (by unfold maxLen; omega), ?_, ?_⟩, ?_⟩
    · intro j j1 j2 j3
      have := j3.2
      simp at this
    · rw [Array.size_append, Array.size_append, size_zeroCells]
      simp only [List.size_toArray, Lib.byteCells_length, hz]
      simp
      omega
    · rw [hll, hbc, Array.toList_append, Array.toList_append]
      exact List.take_left' (by simp [Lib.byteCells_length])
    · exact ((Below.refl B w).drew).alloc hB _
theorem wpList_append_by {w : World} {ops : Array Oper} {rest : List Oper} {o : Oper} {a : Act} {Q : Exit → Act → World → Prop} (hgd : o.guard = none) (sl x : Operand)
    (ho : o.op = .call { callee := .builtin .append, args := #[sl, x], argTypes := #[107, 107] }) (B : Nat) (v : Value) (l : List UInt8) (hs : a.eval sl = v) (h : BY B w v l) (hl : l.length ≤ 1000000) (hB : B ≤ w.heap.size)
    (ad : Addr) (c : UInt8) (hx : a.eval x = .slice (some ad) 1 1) (ha : w.cell? ad = some (.int .u8 ((c.toNat : Nat) : Int)))
    (hK : ∀ v' w', BY B w' v' (l ++ [c]) → Below B w w' → wpList Tryd.prog ops Q rest (a.put o.dst v') w') : wpList Tryd.prog ops Q (o :: rest) a w := by
  refine wpList_plain hgd fun K hK2 => ?_
  obtain ⟨v', w', hr, h2, h3⟩ := h.append hl hB o.type ad c ha
  unfold Oper.wp execOp
  simp only [ho, resolve, invoke, builtin, Sem.run_bind, Sem.run_pure, Result.andThen_ok, List.map_toArray, List.map_cons, List.map_nil, hs, hx, hr]
  exact hK2 _ _ (hK v' w' h2 h3)

theorem leL_next (x k : Nat) (hk : k < 4) : (leL x).take (k + 1) = (leL x).take k ++ [UInt8.ofNat (x / 256 ^ k % 256)] := by
  unfold leL
  match k, hk with
  | 0, _ => simp
  | 1, _ => simp
  | 2, _ => simp
  | 3, _ => simp

set_option maxHeartbeats 4000000 in
theorem ref_summed (t : List UInt8) (w : World) (ht : t.length ≤ 400000) :
    Calls Tryd.prog 58 #[.string (bs t)] w fun e w' => e = .returned (.string (bs (sumT t))) ∧ Below w.heap.size w w' := by
  obtain ⟨X, hX⟩ : ∃ X, X = crcSum t := ⟨_, rfl⟩
  have hXl : X < 18446744073709551616 := by rw [hX]; have := crcSum_lt t; omega
  have HX := Lib.hid hX
  have HS : Hid (Calls Tryd.prog 78 #[.string (bs t)] w fun e w' => e = .returned (.int .u64 (X : Int)) ∧ w = w') := Lib.hid (by
    have h := ref_Sum (bs t) w (by rw [bs_size]; omega)
    rw [bs_list, ← hX] at h
    exact h)
  obtain ⟨v0, w0, hcv, hby, hbl⟩ := BY.of_string w t (by unfold maxLen; omega)
  have HBY := Lib.hid hby
  have HBL := Lib.hid hbl
  have HCV := Lib.hid hcv
  clear hX hby hbl hcv
  go_enter Tryd.func58, Tryd.ntmps58
  go_wp2_with fail
  refine HS.out.mono ?_
  rintro e w1 ⟨rfl, rfl⟩
  go_wp2_with (refine wpList_conv_to rfl 9 107 _ rfl (.string (bs t)) rfl v0 w0 HCV.out ?_)
  go_loopw [3, 4, 5] (fun xv bv iv wr => ∃ (k x : Nat), xv = .int .u64 (x : Int) ∧ iv = .int .i64 k ∧ k ≤ 4 ∧ x < 18446744073709551616 ∧ Hid (x = X / 256 ^ k) ∧ Hid (BY w.heap.size wr bv (t ++ (leL X).take k)) ∧ Hid (Below w.heap.size w wr)) (fun _ _ iv _ => 4 - (intOf iv).toNat)
  case atStart => exact ⟨0, X, rfl, rfl, Nat.zero_le _, hXl, Lib.hid (by rw [Nat.pow_zero, Nat.div_one]), Lib.hid (by rw [List.take_zero, List.append_nil]; exact HBY.out), HBL⟩
  case round =>
    obtain ⟨k, x, rfl, rfl, hk, hx, HXK, HB, HW⟩ := hrel
    by_cases hlt : k < 4
    · have hd : decide ((k : Int) < 4) = true := decide_eq_true (by omega)
      have hd' : decide (k < 4) = true := decide_eq_true hlt
      have hiw : IntKind.i64.wrap ((k : Int) + 1) = (k : Int) + 1 := IntWalk.i64_in _ (by omega)
      obtain ⟨y, hy⟩ : ∃ y, y = x % 256 := ⟨_, rfl⟩
      obtain ⟨z, hz⟩ : ∃ z, z = x / 256 := ⟨_, rfl⟩
      have e1 : (x : Int) % 256 = (y : Int) := by omega
      have e1t : (x : Int).tmod 256 = (y : Int) := by rw [Int.tmod_eq_emod_of_nonneg (by omega)]; exact e1
      have e2 : (x : Int) / 256 = (z : Int) := by omega
      have e2t : (x : Int).tdiv 256 = (z : Int) := by rw [Int.tdiv_eq_ediv_of_nonneg (by omega)]; exact e2
      have w1' : IntKind.u64.wrap (y : Int) = (y : Int) := IntWalk.u64_in _ (by omega)
      have w2' : IntKind.u64.wrap (z : Int) = (z : Int) := IntWalk.u64_in _ (by omega)
      have w3' : IntKind.u8.wrap (y : Int) = (y : Int) := by
        have e : IntKind.u8.wrap (y : Int) = (y : Int) % 256 := by simp [IntKind.wrap, IntKind.bits, IntKind.signed]
        rw [e]; omega
      have HY : Hid ((((UInt8.ofNat y).toNat : Nat) : Int) = (y : Int)) := Lib.hid (by rw [UInt8.toNat_ofNat']; omega)
      have HYX : Hid (UInt8.ofNat y = UInt8.ofNat (X / 256 ^ k % 256)) := Lib.hid (by rw [hy, HXK.out])
      have HZX : Hid (z = X / 256 ^ (k + 1)) := Lib.hid (by rw [hz, HXK.out, Nat.div_div_eq_div_mul, Nat.pow_succ])
      have hzl : z < 18446744073709551616 := by omega
      clear hy hz
      go_wp2_with (at_builtin; refine wpList_append_by rfl _ _ rfl w.heap.size _ _ rfl (HB.out.keep ((Below.refl _ _).alloc (Nat.le_refl _) _)) (by rw [List.length_append, List.length_take]; omega) (by have := HW.out.size; simp; omega) ⟨wr.heap.size, 0, none⟩ (UInt8.ofNat y) rfl (by rw [HY.out]; exact (Blk.new1 wr _ _).cell0) ?_; intro v' w' hb' hbw'; have HB' := Lib.hid hb'; have HW' := Lib.hid ((HW.out.alloc HW.out.size _).trans hbw'); clear hb' hbw')
      refine ⟨⟨k + 1, z, by go_num, by go_num, by omega, hzl, HZX, Lib.hid ?_, Lib.hid ?_⟩, by simp [intOf]; omega⟩
      · rw [leL_next X k hlt, ← List.append_assoc, ← HYX.out]; exact HB'.out
      · exact HW'.out
    · obtain rfl : k = 4 := by omega
      go_wp2_with (refine wpList_conv_to rfl 107 9 _ rfl _ rfl (.string (bs (sumT t))) _ (by have h := HB.out.conv; rw [show (leL X).take 4 = leL X from List.take_of_length_le (by rw [leL_len]; exact Nat.le_refl _)] at h; rw [HX.out] at h; exact h) ?_)
      go_ret
      exact ⟨rfl, HW.out⟩
end Go.Proofs.YtbekebpkaeefiaaDoor

namespace Go.Proofs.YtbekebpkaeefiaaDoor
set_option maxRecDepth 100000
open Go.RowKit

theorem infoRec13 : (Tryd.prog.info? 97).map (fun i => (i.zero, i.size, i.bytes)) = some (some (.agg #[.int .u8 0, .int .u64 0, .int .u32 0, .string ⟨#[]⟩]), 4, 40) := by kernel_rfl
theorem builtRec13 (k g i : Int) (d : ByteArray) : Tryd.prog.built 97 [(0, .int .u8 k), (1, .int .u64 g), (2, .int .u32 i), (3, .string d)] = some #[.int .u8 k, .int .u64 g, .int .u32 i, .string d] := by kernel_rfl
def recC (r : RecT) : List Value := [.int .u8 (r.1 : Int), .int .u64 (r.2.1 : Int), .int .u32 (r.2.2.1 : Int), .string (bs r.2.2.2)]
def recsV (L : List RecT) : List Value := (L.map recC).flatten
theorem recsV_snoc (L : List RecT) (r : RecT) : recsV (L ++ [r]) = recsV L ++ recC r := by simp [recsV]
theorem recC_one (r : RecT) : ∀ u ∈ recC r, u.oneCell' = true := by
  intro u hu
  unfold recC at hu
  simp at hu
  rcases hu with rfl | rfl | rfl | rfl <;> rfl
theorem own_sl {base e size n : Nat} {w : World} {v : Value} {xs : List Value} (h : w.ownsRow base e size v n xs) : ∃ A c, v = .slice A n c := by
  rcases h.2 with ⟨rfl, rfl⟩ | ⟨g, cap, cur, rfl, _⟩
  · exact ⟨_, _, rfl⟩
  · exact ⟨_, _, rfl⟩

set_option maxHeartbeats 4000000 in
theorem ref_Parts (t : List UInt8) (gen : Nat) (w : World) (ht : t.length ≤ 400000) :
    Calls Tryd.prog 40 #[.string (bs t), .int .u64 (gen : Int)] w fun e w' => ∃ v, e = .returned v ∧ w'.ownsRow w.heap.size 97 4 v (partN (sumT t)) (recsV (partsL gen t)) ∧ Below w.heap.size w w' := by
  obtain ⟨i0, hi, hz0, hz1, hz2⟩ := info_parts infoRec13
  have HS := Lib.hid (ref_summed t w ht)
  have hSl := sumT_len t
  unfold partsL
  obtain ⟨S, hS⟩ : ∃ S, S = sumT t := ⟨_, rfl⟩
  rw [← hS] at HS hSl ⊢
  clear hS
  obtain ⟨N, hN⟩ : ∃ N, N = partN S := ⟨_, rfl⟩
  have hN' : N = (S.length + 109) / 110 := hN
  have HN := Lib.hid hN
  rw [← hN]
  clear hN
  go_enter Tryd.func40, Tryd.ntmps40
  go_wp2_with fail
  refine HS.out.mono ?_
  rintro e w1 ⟨rfl, hb1⟩
  have B1 := Lib.hid hb1
  clear hb1 HS
  go_wp2_with fail
  go_loopw [5, 6] (fun sv pv wr => ∃ (k : Nat) (u : Value), u = pv ∧ sv = .string (bs (S.drop (110 * k))) ∧ k + 1 ≤ N ∧ Hid (wr.ownsRow w.heap.size 97 4 u k (recsV (partsK gen S k))) ∧ Hid (Below w.heap.size w wr)) (fun sv _ _ => match sv with | .string s => s.size | _ => 0)
  case atStart => exact ⟨0, _, rfl, by rw [Nat.mul_zero, List.drop_zero], by omega, Lib.hid (World.ownsRow_nil _ _ _ _), B1⟩
  case round =>
    obtain ⟨k, u, rfl, rfl, hk, HO, HB⟩ := hrel
    have hsl : ∀ W : World, (Builtin.len_ #[93] 3 #[u]).run Tryd.prog W = .ok (.int .i64 (k : Int)) W := fun W => by
      obtain ⟨A, c, e⟩ := own_sl HO.out
      rw [e]
      simp [Builtin.len_, go_sem]
    obtain ⟨R, hR⟩ : ∃ R, R = S.drop (110 * k) := ⟨_, rfl⟩
    have hRl : R.length = S.length - 110 * k := by rw [hR, List.length_drop]
    have hsz := bs_size R
    have HR := Lib.hid hR
    rw [← hR]
    clear hR
    have hkw : IntKind.u32.wrap (k : Int) = (k : Int) := IntWalk.u32_in _ (by omega)
    have hkm : (k : Int) % 4294967296 = (k : Int) := by omega
    by_cases hgt : 110 < R.length
    · have hd : decide ((110 : Int) < (R.length : Int)) = true := decide_eq_true (by omega)
      have hd' : decide (110 < R.length) = true := decide_eq_true hgt
      obtain ⟨T, hT⟩ : ∃ T, T = R.take 110 := ⟨_, rfl⟩
      obtain ⟨R2, hR2⟩ : ∃ R2, R2 = R.drop 110 := ⟨_, rfl⟩
      have HT := Lib.hid hT
      have HR2 := Lib.hid hR2
      have hto : ∀ W' : World, (Instr.slice 9 (.string (bs R)) none (some (.int .i64 110)) none).run Tryd.prog W' = .ok (.string (bs T)) W' := fun W' => run_str_to R T 110 W' (by omega) hT.symm
      have hfr : ∀ W' : World, (Instr.slice 9 (.string (bs R)) (some (.int .i64 110)) none none).run Tryd.prog W' = .ok (.string (bs R2)) W' := fun W' => run_str_from R R2 110 W' (by omega) hR2.symm
      have hbt := fun (g i : Int) (d : ByteArray) => builtRec13 2 g i d
      clear hT hR2
      go_wp2_with (at_builtin; refine wpList_append_own _ rfl _ _ 93 rfl w.heap.size 97 i0 (.agg #[.int .u8 0, .int .u64 0, .int .u32 0, .string ⟨#[]⟩]) 4 40 Tryd.underlying93 hi hz0 hz1 hz2 rfl (by decide) u k (recsV (partsK gen S k)) rfl (HO.out.alloc _) ⟨wr.heap.size, 0, none⟩ 1 1 [.int .u8 2, .int .u64 (gen : Int), .int .u32 (k : Int), .string (bs T)] rfl rfl (World.news_of_block (cs := #[.int .u8 2, .int .u64 (gen : Int), .int .u32 (k : Int), .string (bs T)]) (heap_alloc_new wr _)) (by intro u hu; simp at hu; rcases hu with rfl | rfl | rfl | rfl <;> rfl) (by simp only [maxLen]; omega) (by omega) (Nat.le_trans HB.out.size (grow1 _ _)) ?_; intro v7 w7 ho7 hg7 hn7; have HO7 := Lib.hid ho7; have HB7 := Lib.hid ((HB.out.alloc HB.out.size _).grown hg7 (Nat.le_trans HB.out.size (grow1 _ _)) (fun g e => (HO.out.lt g e).1)); clear ho7 hg7 hn7)
      refine ⟨⟨k + 1, _, rfl, ?_, by omega, Lib.hid ?_, HB7⟩, ?_⟩
      · rw [HR2.out, HR.out, List.drop_drop, show 110 * k + 110 = 110 * (k + 1) by omega]
      · have e : recC (partAt gen S k) = [.int .u8 2, .int .u64 (gen : Int), .int .u32 (k : Int), .string (bs T)] := by
          unfold recC partAt
          rw [if_neg (by rw [← HN.out]; omega), HT.out, HR.out]
          rfl
        rw [partsK_succ, recsV_snoc, e]
        exact HO7.out
      · have hR2 : R2.length = R.length - 110 := by rw [HR2.out, List.length_drop]
        simp only [bs_size]
        omega
    · have hd : decide ((110 : Int) < (R.length : Int)) = false := decide_eq_false (by omega)
      have hd' : decide (110 < R.length) = false := decide_eq_false hgt
      obtain rfl : N = k + 1 := by omega
      have hbt := fun (g i : Int) (d : ByteArray) => builtRec13 3 g i d
      go_wp2_with (at_builtin; refine wpList_append_own _ rfl _ _ 93 rfl w.heap.size 97 i0 (.agg #[.int .u8 0, .int .u64 0, .int .u32 0, .string ⟨#[]⟩]) 4 40 Tryd.underlying93 hi hz0 hz1 hz2 rfl (by decide) u k (recsV (partsK gen S k)) rfl (HO.out.alloc _) ⟨wr.heap.size, 0, none⟩ 1 1 [.int .u8 3, .int .u64 (gen : Int), .int .u32 (k : Int), .string (bs R)] rfl rfl (World.news_of_block (cs := #[.int .u8 3, .int .u64 (gen : Int), .int .u32 (k : Int), .string (bs R)]) (heap_alloc_new wr _)) (by intro u hu; simp at hu; rcases hu with rfl | rfl | rfl | rfl <;> rfl) (by simp only [maxLen]; omega) (by omega) (Nat.le_trans HB.out.size (grow1 _ _)) ?_; intro v7 w7 ho7 hg7 hn7; have HO7 := Lib.hid ho7; have HB7 := Lib.hid ((HB.out.alloc HB.out.size _).grown hg7 (Nat.le_trans HB.out.size (grow1 _ _)) (fun g e => (HO.out.lt g e).1)); clear ho7 hg7 hn7)
      go_ret
      refine ⟨v7, rfl, ?_, HB7.out⟩
      have e : recC (partAt gen S k) = [.int .u8 3, .int .u64 (gen : Int), .int .u32 (k : Int), .string (bs R)] := by
        unfold recC partAt
        rw [if_pos HN.out, ← HR.out, List.take_of_length_le (by omega)]
        rfl
      rw [partsK_succ, recsV_snoc, e]
      exact HO7.out
end Go.Proofs.YtbekebpkaeefiaaDoor
