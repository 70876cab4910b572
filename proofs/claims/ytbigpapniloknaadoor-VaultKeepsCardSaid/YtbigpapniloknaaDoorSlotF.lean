/- The contract of slot's Write. -/
import Derived.Test.YtbigpapniloknaaDoorSlotE
import Derived.Test.YtbigpapniloknaaDoorJOpd
namespace Go.Proofs.YtbigpapniloknaaDoor
open Go.RowKit Go.Maps
set_option maxRecDepth 100000
attribute [local go_sem] Oper.semAt_some

/-- Parts, written one behind the other. -/
def wrParts (D : DSt) (fr : Nat) : List RecT → DSt × Nat
  | [] => (D, 0)
  | r :: l => if (wrD D ((fr + r.2.2.1 : Nat) : Int) (secL r.1 r.2.1 r.2.2.1 r.2.2.2)).2 = 0 then wrParts (wrD D ((fr + r.2.2.1 : Nat) : Int) (secL r.1 r.2.1 r.2.2.1 r.2.2.2)).1 fr l else wrD D ((fr + r.2.2.1 : Nat) : Int) (secL r.1 r.2.1 r.2.2.1 r.2.2.2)
theorem wrParts_append (fr : Nat) : ∀ (l m : List RecT) (D : DSt), wrParts D fr (l ++ m) = if (wrParts D fr l).2 = 0 then wrParts (wrParts D fr l).1 fr m else wrParts D fr l
  | [], m, D => by rw [List.nil_append, wrParts, if_pos rfl]
  | r :: l, m, D => by
    rw [List.cons_append]
    show (if (wrD D ((fr + r.2.2.1 : Nat) : Int) (secL r.1 r.2.1 r.2.2.1 r.2.2.2)).2 = 0 then wrParts (wrD D ((fr + r.2.2.1 : Nat) : Int) (secL r.1 r.2.1 r.2.2.1 r.2.2.2)).1 fr (l ++ m) else wrD D ((fr + r.2.2.1 : Nat) : Int) (secL r.1 r.2.1 r.2.2.1 r.2.2.2)) = _
    by_cases h : (wrD D ((fr + r.2.2.1 : Nat) : Int) (secL r.1 r.2.1 r.2.2.1 r.2.2.2)).2 = 0
    · have e : wrParts D fr (r :: l) = wrParts (wrD D ((fr + r.2.2.1 : Nat) : Int) (secL r.1 r.2.1 r.2.2.1 r.2.2.2)).1 fr l := by rw [wrParts, if_pos h]
      rw [if_pos h, wrParts_append fr l m, e]
    · have e : wrParts D fr (r :: l) = wrD D ((fr + r.2.2.1 : Nat) : Int) (secL r.1 r.2.1 r.2.2.1 r.2.2.2) := by rw [wrParts, if_neg h]
      rw [if_neg h, e, if_neg h]
theorem wrParts_one (D : DSt) (fr : Nat) (r : RecT) : wrParts D fr [r] = wrD D ((fr + r.2.2.1 : Nat) : Int) (secL r.1 r.2.1 r.2.2.1 r.2.2.2) := by
  show (if (wrD D ((fr + r.2.2.1 : Nat) : Int) (secL r.1 r.2.1 r.2.2.1 r.2.2.2)).2 = 0 then ((wrD D ((fr + r.2.2.1 : Nat) : Int) (secL r.1 r.2.1 r.2.2.1 r.2.2.2)).1, 0) else wrD D ((fr + r.2.2.1 : Nat) : Int) (secL r.1 r.2.1 r.2.2.1 r.2.2.2)) = _
  by_cases h : (wrD D ((fr + r.2.2.1 : Nat) : Int) (secL r.1 r.2.1 r.2.2.1 r.2.2.2)).2 = 0
  · rw [if_pos h]; exact Prod.ext rfl h.symm
  · rw [if_neg h]
/-- What Write does. -/
def slotW (D : DSt) (i r : Int) (gen : Nat) (t : List UInt8) : DSt × Nat :=
  if liesB D.lasts.length i r = false then (D, 5) else if 110 * r - 4 < (t.length : Int) then (D, 11) else wrParts D i.toNat (partsL gen t)

/-- A disk that may be written so often and stays small. -/
def SmallN (n : Nat) (D : DSt) : Prop := ArmOk D ∧ D.waits.length + n ≤ 1000000 ∧ D.ops + n ≤ 1000000000
theorem SmallN.small {n : Nat} {D : DSt} (h : SmallN n D) : Small D := ⟨h.1, by have := h.2.1; omega, by have := h.2.2; omega⟩
theorem SmallN.mono {n m : Nat} {D : DSt} (h : SmallN n D) (hm : m ≤ n) : SmallN m D := ⟨h.1, by have := h.2.1; omega, by have := h.2.2; omega⟩
theorem SmallN.wr {n : Nat} {D : DSt} (h : SmallN (n + 1) D) (i : Int) (s : List UInt8) : SmallN n (wrD D i s).1 := by
  unfold wrD
  split
  · exact h.mono (Nat.le_succ _)
  · split
    · exact h.mono (Nat.le_succ _)
    · have h1 := fires_arm h.1
      have h2 := fires_waits D
      have h3 := fires_ops D
      split
      · exact ⟨h1, by rw [h2]; have := h.2.1; omega, by rw [h3]; have := h.2.2; omega⟩
      · refine ⟨h1, ?_, ?_⟩
        · show ((fires D).1.waits ++ _).length + n ≤ _; rw [List.length_append, h2]; have := h.2.1; simp; omega
        · show (fires D).1.ops + 1 + n ≤ _; rw [h3]; have := h.2.2; omega
theorem wrD_lasts (D : DSt) (i : Int) (s : List UInt8) : (wrD D i s).1.lasts = D.lasts := by
  unfold wrD
  split
  · rfl
  · split
    · rfl
    · split
      · exact fires_lasts D
      · exact fires_lasts D
theorem SmallN.parts {fr : Nat} : ∀ (l : List RecT) {n : Nat} {D : DSt}, SmallN (n + l.length) D → SmallN n (wrParts D fr l).1
  | [], _, _, h => h
  | r :: l, n, D, h => by
    unfold wrParts
    have h1 : SmallN (n + l.length) (wrD D ((fr + r.2.2.1 : Nat) : Int) (secL r.1 r.2.1 r.2.2.1 r.2.2.2)).1 := SmallN.wr (by rw [List.length_cons, ← Nat.add_assoc] at h; exact h) _ _
    split
    · exact SmallN.parts l h1
    · exact h1.mono (Nat.le_add_right _ _)

theorem partN_le (S : List UInt8) {r : Nat} (h : S.length ≤ 110 * r) : partN S ≤ r := by unfold partN; omega
theorem partsL_len (gen : Nat) (t : List UInt8) : (partsL gen t).length = partN (sumT t) := by unfold partsL partsK; rw [List.length_map, List.length_range]
theorem partsL_ok {gen : Nat} {t : List UInt8} {x : RecT} (hg : gen < 18446744073709551616) (ht : t.length ≤ 400000) (h : x ∈ partsL gen t) : RecOk x ∧ x.2.2.1 < partN (sumT t) := by
  unfold partsL partsK at h
  obtain ⟨j, hj, rfl⟩ := List.mem_map.1 h
  rw [List.mem_range] at hj
  have hl := sumT_len t
  refine ⟨⟨?_, hg, ?_, ?_⟩, hj⟩
  · show (if j + 1 = partN (sumT t) then 3 else 2) < 256
    split <;> omega
  · show j < 4294967296
    unfold partN at hj; omega
  · show (((sumT t).drop (110 * j)).take 110).length ≤ 110
    rw [List.length_take]; omega

/-- The row of what waits is none of these two blocks. -/
def OffW (B : Nat) (v : Value) (D : DSt) : Prop := D.waits = [] ∨ ∀ k, v.ownBlock = some k → k < B ∨ B + 2 ≤ k
theorem IsDisk.asideK {base B : Nat} {X Y : World} {p gl M : Nat} {v : Value} {D : DSt} (h : IsDisk base X p gl M v D) (ha : Aside B 2 X Y) (hp : p < B) (hgl : gl < B) (hM : M < B) (hv : OffW B v D) : IsDisk base Y p gl M v D := by
  obtain ⟨h1, h2, h3, ⟨m, h4, h5⟩, h6⟩ := h
  refine ⟨ha.get h1 (.inl hp), ha.get h2 (.inl hgl), ?_, ⟨m, ?_, h5⟩, h6⟩
  · rcases h3 with h3 | ⟨h3, h7⟩
    · exact .inl h3
    · refine .inr ⟨h3, h7.1, ?_⟩
      rcases h7.2 with e1 | ⟨g', c', cur, e1, hb, hh, hr⟩
      · exact .inl e1
      · rcases hv with hv | hv
        · rw [hv] at h3; cases h3
        · exact .inr ⟨g', c', cur, e1, hb, ha.get hh (hv g' (by rw [e1]; rfl)), hr⟩
  · obtain ⟨es, cl, q1, q2⟩ := h4
    exact ⟨es, cl, ha.get q1 (.inl hM), q2⟩
theorem IsDisk.lts {base : Nat} {w : World} {p gl M : Nat} {v : Value} {D : DSt} (h : IsDisk base w p gl M v D) : p < w.heap.size ∧ gl < w.heap.size ∧ M < w.heap.size ∧ ∀ B, w.heap.size ≤ B → OffW B v D := by
  obtain ⟨h1, h2, h3, ⟨m, h4, h5⟩, h6⟩ := h
  refine ⟨h1.lt, h2.lt, ?_, fun B hB => ?_⟩
  · obtain ⟨es, cl, q1, q2⟩ := h4
    exact (Array.getElem?_eq_some_iff.1 q1).1
  · rcases h3 with ⟨e, _⟩ | ⟨h3, h7⟩
    · exact .inl e
    · exact .inr fun k e => .inl (Nat.lt_of_lt_of_le (h7.lt k e).2 hB)
theorem offW_of {base B : Nat} {w : World} {p gl M : Nat} {v : Value} {D : DSt} (h : IsDisk base w p gl M v D) {o1 o2 : Obj} (q1 : w.heap[B]? = some o1) (n1 : ∀ cs t f, o1 ≠ .cells cs t f) (q2 : w.heap[B + 1]? = some o2) (n2 : ∀ cs t f, o2 ≠ .cells cs t f) : OffW B v D := by
  obtain ⟨h1, h2, h3, ⟨m, h4, h5⟩, h6⟩ := h
  rcases h3 with ⟨e, _⟩ | ⟨h3, h7⟩
  · exact .inl e
  · refine .inr fun k e => ?_
    rcases h7.2 with ⟨e1, _⟩ | ⟨g', c', cur, e1, hb, hh, hr⟩
    · rw [e1] at e; cases e
    · rw [e1] at e
      have e' : g' = k := by simpa [Value.ownBlock] using e
      subst e'
      have a1 : g' ≠ B := by
        rintro rfl
        rw [hh] at q1
        injection q1 with q1
        exact n1 _ _ _ q1.symm
      have a2 : g' ≠ B + 1 := by
        rintro rfl
        rw [hh] at q2
        injection q2 with q2
        exact n2 _ _ _ q2.symm
      omega
theorem Keeps.asideK {B : Nat} {w X Y : World} (h : Keeps w X) (hB : w.heap.size ≤ B) (ha : Aside B 2 X Y) : Keeps w Y :=
  ⟨fun k t cs n1 n2 n3 hb => ha.get (h.blk k t cs n1 n2 n3 hb) (.inl (Nat.lt_of_lt_of_le hb.lt hB)), fun k o hk n1 n2 => ha.get (h.oth k o hk n1 n2) (.inl (Nat.lt_of_lt_of_le (Array.getElem?_eq_some_iff.1 hk).1 hB))⟩

/-- What holds between two rounds of Write's loop. -/
def WrI (base : Nat) (w : World) (p gl M : Nat) (D : DSt) (fr gen : Nat) (t : List UInt8) (pre : List RecT) (W : World) : Prop :=
  ∃ D' v', wrParts D fr pre = (D', 0) ∧ SmallN (5000 - pre.length) D' ∧ IsDisk base W p gl M v' D' ∧ OffW (w.heap.size + 5) v' D' ∧ Blk W w.heap.size 24 [.pointer (some ⟨p, 0, none⟩)] ∧ Blk W (w.heap.size + 1) 3 [.int .i64 (fr : Int)] ∧ Blk W (w.heap.size + 1 + 1) 25 [.int .i64 0] ∧
    CapP W (w.heap.size + 3) gen t ∧ Below base w W ∧ Keeps w W
def WrX (base : Nat) (w : World) (p gl M : Nat) (D : DSt) (fr : Nat) (c : Code) (pre : List RecT) (W : World) : Prop :=
  c = .ret ∧ ∃ D' v' k, wrParts D fr pre = (D', k) ∧ k ≠ 0 ∧ IsDisk base W p gl M v' D' ∧ OffW (w.heap.size + 5) v' D' ∧ Blk W (w.heap.size + 1 + 1) 25 [.int .i64 (k : Int)] ∧ Below base w W ∧ Keeps w W
theorem WrI.aside {base : Nat} {w : World} {p gl M : Nat} {D : DSt} {fr gen : Nat} {t : List UInt8} {pre : List RecT} {X Y : World} (h : WrI base w p gl M D fr gen t pre X) (hp : p < w.heap.size) (hgl : gl < w.heap.size) (hM : M < w.heap.size) (hbs : base ≤ w.heap.size) (ha : Aside (w.heap.size + 5) 2 X Y) : WrI base w p gl M D fr gen t pre Y := by
  obtain ⟨D', v', h1, h2, h3, h4, h5, h6, h7, h8, h9, h10⟩ := h
  exact ⟨D', v', h1, h2, h3.asideK ha (by omega) (by omega) (by omega) h4, h4, ha.get h5 (by omega), ha.get h6 (by omega), ha.get h7 (by omega), ⟨ha.get h8.1 (by omega), ha.get h8.2 (by omega)⟩, h9.trans (ha.below (by omega) (Nat.le_trans hbs h9.size)), h10.asideK (by omega) ha⟩
theorem WrX.aside {base : Nat} {w : World} {p gl M : Nat} {D : DSt} {fr : Nat} {c : Code} {pre : List RecT} {X Y : World} (h : WrX base w p gl M D fr c pre X) (hp : p < w.heap.size) (hgl : gl < w.heap.size) (hM : M < w.heap.size) (hbs : base ≤ w.heap.size) (ha : Aside (w.heap.size + 5) 2 X Y) : WrX base w p gl M D fr c pre Y := by
  obtain ⟨h0, D', v', k, h1, h2, h3, h4, h7, h9, h10⟩ := h
  exact ⟨h0, D', v', k, h1, h2, h3.asideK ha (by omega) (by omega) (by omega) h4, h4, ha.get h7 (by omega), h9.trans (ha.below (by omega) (Nat.le_trans hbs h9.size)), h10.asideK (by omega) ha⟩

set_option maxHeartbeats 16000000 in
theorem slot_Write (base : Nat) (w : World) (p gl M : Nat) (v : Value) (D : DSt) (i r : Int) (gen : Nat) (t : List UInt8) (h : IsDisk base w p gl M v D) (hs : SmallN 5000 D) (hbs : base ≤ w.heap.size) (hi : i ≤ 9223372036854775807) (hg : gen < 18446744073709551616) (ht : t.length ≤ 400000) :
    Calls Tryd.prog 38 #[.pointer (some ⟨p, 0, none⟩), .int .i64 i, .int .i64 r, .int .u64 (gen : Int), .string (bs t)] w fun e w' => e = .returned (.int .i64 (((slotW D i r gen t).2 : Nat) : Int)) ∧ ∃ v', IsDisk base w' p gl M v' (slotW D i r gen t).1 ∧ Below base w w' ∧ Keeps w w' := by
  have H0 := Lib.hid h
  have HLI := Lib.hid (fun W (hb : Below w.heap.size w W) => slot_lies base W p gl M v D i r hi (h.keep hb))
  have HPA := Lib.hid (fun W => slot_parts W gen t)
  clear h
  refine (callsIn_wide (n := 0)).1 ?_
  refine callsIn_of_wp_marks Tryd.func38 rfl trivial ?_ rfl
  simp only [Tryd.ntmps38, List.size_toArray, List.length_cons, List.length_nil, Nat.reduceAdd, Nat.reduceSub, Array.replicate_succ, Array.replicate_zero, List.push_toArray, List.append_toArray, List.nil_append, List.cons_append]
  gi_wp2_with fail
  obtain ⟨W0, hW0⟩ : ∃ W0, W0 = ((w.alloc (.cells #[.pointer (some ⟨p, 0, none⟩)] 24)).alloc (.cells #[.int .i64 i] 3)).alloc (.cells #[.int .i64 0] 25) := ⟨_, rfl⟩
  rw [← hW0]
  have B0 : Below w.heap.size w W0 := by rw [hW0]; exact (((Below.refl _ _).alloc (Nat.le_refl _) _).alloc (by simp) _).alloc (by simp; omega) _
  have G0 : Blk W0 w.heap.size 24 [.pointer (some ⟨p, 0, none⟩)] := by rw [hW0]; exact ((Blk.new1 _ _ _).alloc _).alloc _
  have G1 : Blk W0 (w.heap.size + 1) 3 [.int .i64 i] := by
    have h := (Blk.new1 (w.alloc (.cells #[.pointer (some ⟨p, 0, none⟩)] 24)) 3 (.int .i64 i)).alloc (.cells #[.int .i64 0] 25)
    rw [World.size_alloc] at h
    rw [hW0]; exact h
  have G2 : Blk W0 (w.heap.size + 1 + 1) 25 [.int .i64 0] := by
    have h := Blk.new1 ((w.alloc (.cells #[.pointer (some ⟨p, 0, none⟩)] 24)).alloc (.cells #[.int .i64 i] 3)) 25 (.int .i64 0)
    rw [World.size_alloc, World.size_alloc] at h
    rw [hW0]; exact h
  have hsz0 : W0.heap.size = w.heap.size + 3 := by rw [hW0]; simp
  clear hW0
  have HG0 := Lib.hid G0
  have HG1 := Lib.hid G1
  have HG2 := Lib.hid G2
  have HB0 := Lib.hid B0
  refine ⟨trivial, rfl, (callsIn_wide.2 (HLI.out _ B0)).mono ?_⟩
  rintro e w1 ⟨rfl, rfl⟩
  have g2 := G2.cell0
  have f2 := G2.frozen 0
  cases hl : liesB D.lasts.length i r with
  | false =>
    have E1 : Hid (slotW D i r gen t = (D, 5)) := Lib.hid (by unfold slotW; rw [if_pos hl])
    gi_wp2_with fail
    have c2 := (HG2.out.set_ 0 (.int .i64 5)).cell0
    have bb := HB0.out.setCell (p := ⟨w.heap.size + 1 + 1, 0, none⟩) (Nat.le_add_right _ 2) (.int .i64 5)
    refine ⟨.int .i64 5, ?_, ?_⟩
    · simp [results, Tryd.results38, go_sem, c2]
    · rw [E1.out]
      exact ⟨rfl, v, H0.out.keep bb, bb.mono hbs, Keeps.of_below bb⟩
  | true =>
    obtain ⟨fr, room, rfl, rfl, hr1, hr2⟩ := liesB_iff.1 hl
    have HLN : Hid (fr + room ≤ 4096) := Lib.hid (by have := H0.out.2.2.2.2.1.2.1; omega)
    have hts := bs_size t
    obtain ⟨n, hn⟩ : ∃ n, n = t.length := ⟨_, rfl⟩
    rw [← hn] at hts
    have hmul : IntKind.i64.wrap (110 * (room : Int)) = 110 * (room : Int) := IntWalk.i64_in _ (by have := HLN.out; omega)
    by_cases hlong : 110 * (room : Int) - 4 < (n : Int)
    · have E1 : Hid (slotW D (fr : Int) (room : Int) gen t = (D, 11)) := Lib.hid (by unfold slotW; rw [if_neg (by rw [hl]; decide), if_pos (by rw [← hn]; exact hlong)])
      have hd1 : decide (110 * (room : Int) - 4 < (n : Int)) = true := decide_eq_true hlong
      have hw1 : IntKind.i64.wrap (110 * (room : Int) - 4) = 110 * (room : Int) - 4 := IntWalk.i64_in _ (by have := HLN.out; omega)
      gi_wp2_with fail
      have c2 := (HG2.out.set_ 0 (.int .i64 11)).cell0
      have bb := HB0.out.setCell (p := ⟨w.heap.size + 1 + 1, 0, none⟩) (Nat.le_add_right _ 2) (.int .i64 11)
      refine ⟨.int .i64 11, ?_, ?_⟩
      · simp [results, Tryd.results38, go_sem, c2]
      · rw [E1.out]
        exact ⟨rfl, v, H0.out.keep bb, bb.mono hbs, Keeps.of_below bb⟩
    · have E1 : Hid (slotW D (fr : Int) (room : Int) gen t = wrParts D fr (partsL gen t)) := Lib.hid (by unfold slotW; rw [if_neg (by rw [hl]; decide), if_neg (by rw [← hn]; exact hlong)]; rfl)
      have hd1 : decide (110 * (room : Int) - 4 < (n : Int)) = false := decide_eq_false hlong
      have hw1 : IntKind.i64.wrap (110 * (room : Int) - 4) = 110 * (room : Int) - 4 := IntWalk.i64_in _ (by have := HLN.out; omega)
      have HPN : Hid (partN (sumT t) ≤ room) := Lib.hid (partN_le _ (by rw [sumT_len]; omega))
      gi_wp2_with fail
      refine ⟨trivial, rfl, (callsIn_wide.2 (HPA.out _)).mono ?_⟩
      rintro e w1 ⟨rfl, rfl⟩
      clear hd1 hw1 hmul hts hn hlong g2 f2
      gi_wp2_with fail
      obtain ⟨W1, hW1⟩ : ∃ W1, W1 = (W0.alloc (.cells #[.int .u64 (gen : Int)] 29)).alloc (.cells #[.string (bs t)] 9) := ⟨_, rfl⟩
      have CP : CapP W1 (w.heap.size + 3) gen t := by have h := capP_new W0 gen t; rw [hsz0] at h; rw [hW1]; exact h
      have bel1 : Below W0.heap.size W0 W1 := by rw [hW1]; exact ((Below.refl _ _).alloc (Nat.le_refl _) _).alloc (by simp) _
      have hsz1 : W1.heap.size = w.heap.size + 5 := by rw [hW1]; simp; omega
      rw [← hW1]
      clear hW1
      have HBW := Lib.hid (HB0.out.trans (bel1.mono (by rw [hsz0]; omega)))
      have G0' := HG0.out.keep bel1
      have G1' := HG1.out.keep bel1
      have G2' := HG2.out.keep bel1
      generalize hA : (Act.mk _ _ : Act) = A0
      obtain ⟨lp, lgl, lM, lv⟩ := H0.out.lts
      refine wpIn_seq (gf := 63) (lb := #[.pointer (some ⟨w.heap.size + 3 + 1, 0, none⟩), .pointer (some ⟨w.heap.size + 3, 0, none⟩)]) (by rw [← hA]; rfl) (enters_of Tryd.func63 (by kernel_rfl) rfl)
        (parts_seq W1 (w.heap.size + 3) gen t CP ht) KpP.trans (fun m W l o hl _ => KpP.putObj W o (by omega)) (Below.refl _ _) (fun _ => rfl)
        (WrI base w p gl M D fr gen t) (WrX base w p gl M D fr)
        (fun s X Y hs ha => hs.aside lp lgl lM hbs (by rw [hsz1] at ha; exact ha))
        (fun c s X Y hs ha => hs.aside lp lgl lM hbs (by rw [hsz1] at ha; exact ha))
        ⟨D, v, rfl, hs, H0.out.keep HBW.out, lv _ (by omega), G0', G1', G2', CP, HBW.out.mono hbs, Keeps.of_below HBW.out⟩
        (fun _ pre x a' W => WrI base w p gl M D fr gen t pre W ∧ ∃ Bx, w.heap.size + 7 ≤ Bx ∧ Blk W Bx 89 [.int .u8 (x.1 : Int), .int .u64 (x.2.1 : Int), .int .u32 (x.2.2.1 : Int), .string (bs x.2.2.2)] ∧ a' = { tmps := (A0.tmps.setIfInBounds 31 (recV x)).setIfInBounds 11 (.pointer (some ⟨Bx, 0, none⟩)), defers := [] })
        (fun _ s x a' X Y _ hs ha => by
          rw [hsz1] at ha
          obtain ⟨h1, Bx, h3, h4, h5⟩ := hs
          exact ⟨h1.aside lp lgl lM hbs ha, Bx, h3, ha.get h4 (by omega), h5⟩)
        ?assign ?body ?done ?stop
      case assign =>
        rintro pre ⟨k1, k2, k3, k4⟩ Wm W K _ _ _ h1 hpre hlen hK
        subst hA
        unfold encP recV
        gi_wp2_with fail
        have bel : Below W.heap.size W (W.alloc (.cells #[.int .u8 (k1 : Int), .int .u64 (k2 : Int), .int .u32 (k3 : Int), .string (bs k4)] 89)) := (Below.refl _ _).alloc (Nat.le_refl _) _
        refine hK _ _ (Its.of_below bel (by omega)) bel.size ⟨Its.of_below bel (by omega), bel.size⟩ ⟨?_, W.heap.size, by omega, Blk.box4 _ _ _ _ _ _, rfl⟩
        exact h1.aside lp lgl lM hbs (Aside.of_below bel)
      case body =>
        rintro m pre ⟨k, g, ix, dt⟩ a' W _ ⟨⟨D', v', e1, e2, e3, e4, e5, e6, e7, e8, e9, e10⟩, Bx, hBx, hR, rfl⟩ hpre hlen ⟨rl, hrl⟩ hdef
        rw [hsz1] at hrl hdef
        subst hA
        obtain ⟨hok, hix⟩ := partsL_ok hg ht (hpre.subset (by simp : (k, g, ix, dt) ∈ pre ++ [(k, g, ix, dt)]))
        have HOK := Lib.hid hok
        have hix2 : ix < partN (sumT t) := hix
        have HIX : Hid (fr + ix < 4096 ∧ fr + ix < D.lasts.length) := Lib.hid (by have := HPN.out; have := HLN.out; omega)
        have hplen : pre.length + 1 ≤ 4096 := by have := hpre.length_le; rw [partsL_len, List.length_append] at this; have := HPN.out; have := HLN.out; simp at *; omega
        have HSM : Hid (SmallN ((5000 - (pre ++ [(k, g, ix, dt)]).length) + 1) D') := Lib.hid (by
          have e : 5000 - (pre ++ [(k, g, ix, dt)]).length + 1 = 5000 - pre.length := by rw [List.length_append]; simp; omega
          rw [e]; exact e2)
        obtain ⟨S, hS⟩ : ∃ S, S = secL k g ix dt := ⟨_, rfl⟩
        have HSL : Hid (S.length = 128) := Lib.hid (by rw [hS]; exact secL_len _ _ _ _ HOK.out.2.2.2)
        have HCL : Hid (∀ W', Calls Tryd.prog 43 #[.agg #[.int .u8 (k : Int), .int .u64 (g : Int), .int .u32 (ix : Int), .string (bs dt)]] W' fun e w' => e = .returned (.tuple #[.string (bs S), .int .i64 0]) ∧ Below W'.heap.size W' w') := Lib.hid (fun W' => by rw [hS]; exact close_bs (k, g, ix, dt) HOK.out W')
        obtain ⟨q, hq⟩ : ∃ q, q = fr + ix := ⟨_, rfl⟩
        have hiw : IntKind.i64.wrap (ix : Int) = (ix : Int) := IntWalk.i64_in _ (by have := HIX.out; omega)
        have hqi : IntKind.i64.wrap ((fr : Int) + (ix : Int)) = (q : Int) := by rw [IntWalk.i64_in _ (by have := HIX.out; omega)]; omega
        have HWQ : Hid (wrap64 ((fr : Int) + (ix : Int)) = (q : Int)) := Lib.hid (by rw [IntWalk.wrap64_in _ (by have := HIX.out; omega)]; omega)
        have HST : Hid (wrParts D fr (pre ++ [(k, g, ix, dt)]) = wrD D' (q : Int) S) := Lib.hid (by
          rw [wrParts_append, e1, if_pos rfl, wrParts_one, hS, hq])
        have E3 := Lib.hid e3
        have E5 := Lib.hid e5
        have E6 := Lib.hid e6
        have E7 := Lib.hid e7
        have E8 := Lib.hid e8
        have E9 := Lib.hid e9
        have E10 := Lib.hid e10
        have HR := Lib.hid hR
        have HDF := Lib.hid hdef
        have HRL := Lib.hid hrl
        obtain ⟨r0, r1, r2, r3⟩ := hR.four
        clear hok hix hix2 hplen hS hq e1 e2 e3 e4 e5 e6 e7 e8 e9 e10 hR hdef hrl hpre
        gi_wp2_with fail
        refine ⟨trivial, rfl, (CallsIn.inRound _ (callsIn_wide.2 (HCL.out _))).mono ?_⟩
        rintro e w3 ⟨rfl, hb3⟩
        have hR3 := HR.out.keep hb3
        obtain ⟨r0, r1, r2, r3⟩ := hR3.four
        have g0 := (E5.out.keep hb3).cell0
        have g1 := (E6.out.keep hb3).cell0
        have HB3 := Lib.hid hb3
        have HWR := Lib.hid (disk_Write base w3 p gl M v' D' (q : Int) S (E3.out.keep hb3) HSM.out.small (Nat.le_trans hbs (Nat.le_trans (Nat.le_trans (by omega) hlen) hb3.size)) (by rw [HSL.out]; omega))
        have HSM2 := Lib.hid (SmallN.wr HSM.out (q : Int) S)
        obtain ⟨D2, hD2⟩ : ∃ D2, D2 = (wrD D' (q : Int) S).1 := ⟨_, rfl⟩
        obtain ⟨c, hc⟩ : ∃ c, c = (wrD D' (q : Int) S).2 := ⟨_, rfl⟩
        have HST2 : Hid (wrParts D fr (pre ++ [(k, g, ix, dt)]) = (D2, c)) := Lib.hid (by rw [HST.out, hD2, hc])
        rw [← hD2] at HSM2 HWR
        rw [← hc] at HWR
        clear hD2 hc hb3 hR3
        gi_wp2_with fail
        try rw [HWQ.out]
        refine ⟨trivial, rfl, (CallsIn.inRound _ (callsIn_wide.2 HWR.out)).mono ?_⟩
        rintro e w4 ⟨rfl, v4, h4, hb4, hk4⟩
        have hd3 := (HB3.out.block _ (Array.getElem?_eq_some_iff.1 HDF.out).1).trans HDF.out
        have hl3 := (HB3.out.block _ (Array.getElem?_eq_some_iff.1 HRL.out).1).trans HRL.out
        have hd4 := hk4.oth _ _ hd3 (fun _ _ _ h => by cases h) (fun _ _ h => by cases h)
        have hl4 := hk4.oth _ _ hl3 (fun _ _ _ h => by cases h) (fun _ _ h => by cases h)
        have OF4 : Hid (OffW (w.heap.size + 5) v4 D2) := Lib.hid (offW_of h4 hd4 (fun _ _ _ h => by cases h) hl4 (fun _ _ _ h => by cases h))
        have T0 := Lib.hid (hk4.blk _ _ _ (by decide) (by decide) (by decide) (E5.out.keep HB3.out))
        have T1 := Lib.hid (hk4.blk _ _ _ (by decide) (by decide) (by decide) (E6.out.keep HB3.out))
        have T2 := Lib.hid (hk4.blk _ _ _ (by decide) (by decide) (by decide) (E7.out.keep HB3.out))
        have T3 := Lib.hid (hk4.blk _ _ _ (by decide) (by decide) (by decide) (E8.out.1.keep HB3.out))
        have T4 := Lib.hid (hk4.blk _ _ _ (by decide) (by decide) (by decide) (E8.out.2.keep HB3.out))
        have hbW : base ≤ W.heap.size := Nat.le_trans hbs (Nat.le_trans (by omega) hlen)
        have B4 := Lib.hid (E9.out.trans ((HB3.out.mono hbW).trans hb4))
        have K4 := Lib.hid ((E10.out.trans (Keeps.of_below HB3.out)).trans hk4)
        have SZ4 := Lib.hid (Nat.le_trans HB3.out.size hb4.size)
        have IT4 : Hid (Its (w.heap.size + 5) 2 W w4) := Lib.hid (fun j j1 j2 => by
          have e : j = w.heap.size + 5 ∨ j = w.heap.size + 5 + 1 := by omega
          rcases e with rfl | rfl
          · rw [hd4, HDF.out]
          · rw [hl4, HRL.out])
        have KP4 : Hid (KpP (w.heap.size + 3) W w4) := Lib.hid ⟨fun j j1 j2 => by
          have e : j = w.heap.size + 3 ∨ j = w.heap.size + 3 + 1 := by omega
          rcases e with rfl | rfl
          · exact T3.out.trans E8.out.1.symm
          · exact T4.out.trans E8.out.2.symm, SZ4.out⟩
        have H4 := Lib.hid h4
        clear hd3 hl3 hd4 hl4 h4 hb4 hk4 HWR
        by_cases hc : c = 0
        · subst hc
          have hcb : (((0 : Nat) : Int) != 0) = false := rfl
          gi_wp2_with fail
          rw [hsz1]
          exact ⟨⟨IT4.out, KP4.out⟩, D2, v4, HST2.out, HSM2.out, H4.out, OF4.out, T0.out, T1.out, T2.out, ⟨T3.out, T4.out⟩, B4.out, K4.out⟩
        · have hcb : ((c : Int) != 0) = true := by rw [bne_iff_ne]; omega
          have g2 := T2.out.cell0
          have f2 := T2.out.frozen 0
          gi_wp2_with fail
          rw [hsz1]
          refine ⟨⟨IT4.out.trans (Its.setCell _ (p := ⟨w.heap.size + 1 + 1, 0, none⟩) (.inl (by show w.heap.size + 1 + 1 < _; omega)) _), KP4.out.trans ⟨Its.setCell _ (p := ⟨w.heap.size + 1 + 1, 0, none⟩) (.inl (by show w.heap.size + 1 + 1 < _; omega)) _, by simp [World.setCell]⟩⟩, rfl, D2, v4, c, HST2.out, hc, H4.out.put1 T2.out (by decide) (by decide) (by decide) 0 _, OF4.out, T2.out.set_ 0 _, B4.out.setCell (p := ⟨w.heap.size + 1 + 1, 0, none⟩) (Nat.le_trans hbs (Nat.le_add_right _ 2)) _, K4.out.put1' (Nat.le_add_right _ 2) 0 _⟩
      case done =>
        rintro W ⟨D', v', e1, e2, e3, e4, e5, e6, e7, e8, e9, e10⟩ hdef
        rw [hsz1] at hdef
        subst hA
        have g2 := e7.cell0
        have f2 := e7.frozen 0
        gi_wp2_with fail
        have hd2 : (W.setCell ⟨w.heap.size + 1 + 1, 0, none⟩ (.int .i64 0)).heap[w.heap.size + 5]? = some (.deferred (some [])) := (Below.heap_setCell W ⟨w.heap.size + 1 + 1, 0, none⟩ _ _ (by show w.heap.size + 5 ≠ w.heap.size + 1 + 1; omega)).trans hdef
        have t2 := e7.set_ 0 (.int .i64 0)
        have h3 := e3.put1 e7 (by decide) (by decide) (by decide) 0 (.int .i64 0)
        have h9 := e9.setCell (p := ⟨w.heap.size + 1 + 1, 0, none⟩) (Nat.le_trans hbs (Nat.le_add_right _ 2)) (.int .i64 0)
        have h10 := e10.put1' (Nat.le_add_right _ 2) 0 (.int .i64 0)
        obtain ⟨W2, hW2⟩ : ∃ W2, W2 = W.setCell ⟨w.heap.size + 1 + 1, 0, none⟩ (.int .i64 0) := ⟨_, rfl⟩
        rw [← hW2] at hd2 t2 h3 h9 h10 ⊢
        have has : Aside (w.heap.size + 5) 2 W2 (W2.putObj (w.heap.size + 5) (.deferred none)) := Aside.putObj _ (Nat.le_refl _) (by omega) _
        have t3 := (show Blk (W2.putObj (w.heap.size + 5) (.deferred none)) (w.heap.size + 1 + 1) 25 [.int .i64 0] from has.get t2 (by omega)).cell0
        rw [hsz1]
        refine ⟨by simp, .inl ⟨_, _, rfl, run_takeDeferred hd2, ?_⟩⟩
        refine ⟨.int .i64 0, ?_, ?_⟩
        · simp [results, Tryd.results38, go_sem, t3]
        · rw [E1.out, e1]
          exact ⟨rfl, v', h3.asideK has (by omega) (by omega) (by omega) e4, h9.trans (has.below (by omega) (Nat.le_trans hbs h9.size)), h10.asideK (by omega) has⟩
      case stop =>
        rintro c pre W hpre ⟨rfl, D', v', k, e1, e2, e3, e4, e7, e9, e10⟩ hdef
        rw [hsz1] at hdef
        subst hA
        have e8 : wrParts D fr (partsL gen t) = (D', k) := by
          obtain ⟨rest, hr⟩ := hpre
          rw [← hr, wrParts_append, e1, if_neg e2]
        gi_wp2_with fail
        have has : Aside (w.heap.size + 5) 2 W (W.putObj (w.heap.size + 5) (.deferred none)) := Aside.putObj _ (Nat.le_refl _) (by omega) _
        have t3 := (show Blk (W.putObj (w.heap.size + 5) (.deferred none)) (w.heap.size + 1 + 1) 25 [.int .i64 (k : Int)] from has.get e7 (by omega)).cell0
        rw [hsz1]
        refine ⟨by simp, .inl ⟨_, _, rfl, run_takeDeferred hdef, ?_⟩⟩
        refine ⟨.int .i64 (k : Int), ?_, ?_⟩
        · simp [results, Tryd.results38, go_sem, t3]
        · rw [E1.out, e8]
          exact ⟨rfl, v', e3.asideK has (by omega) (by omega) (by omega) e4, e9.trans (has.below (by omega) (Nat.le_trans hbs e9.size)), e10.asideK (by omega) has⟩
end Go.Proofs.YtbigpapniloknaaDoor
