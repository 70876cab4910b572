/- Contracts of goesOff, Arm, empty and New. -/
import Derived.Test.YtcnbpajlocoocaaDoorDiskA
import Derived.Deep.WholeRow
namespace Go.Proofs.YtcnbpajlocoocaaDoor
open Go.RowKit Go.Maps Go.ChangeMaps Go.MapKept

/-- The armed number counts down; is this the one that fails? -/
def fires (D : DSt) : DSt × Bool := if D.armed ≤ 0 then (D, false) else ({ D with armed := D.armed - 1 }, D.armed - 1 == 0)
theorem fires_lasts (D : DSt) : (fires D).1.lasts = D.lasts := by unfold fires; split <;> rfl
theorem fires_waits (D : DSt) : (fires D).1.waits = D.waits := by unfold fires; split <;> rfl
theorem fires_ops (D : DSt) : (fires D).1.ops = D.ops := by unfold fires; split <;> rfl
/-- The armed number is an int's. -/
def ArmOk (D : DSt) : Prop := -9223372036854775808 ≤ D.armed ∧ D.armed ≤ 9223372036854775807
theorem fires_arm {D : DSt} (h : ArmOk D) : ArmOk (fires D).1 := by
  unfold fires ArmOk at *
  split
  · exact h
  · simp only; omega

set_option maxHeartbeats 1000000 in
theorem disk_goesOff (base : Nat) (w : World) (p gl M : Nat) (v : Value) (D : DSt) (h : IsDisk base w p gl M v D) (ha : ArmOk D) :
    Calls Tryd.prog 44 #[.pointer (some ⟨p, 0, none⟩)] w fun e w' => e = .returned (.bool (fires D).2) ∧ IsDisk base w' p gl M v (fires D).1 ∧ Below base w w' ∧ Keeps w w' := by
  obtain ⟨c0, c1, c2, c3, c4⟩ := h.1.five
  have H := Lib.hid h
  obtain ⟨a1, a2⟩ := ha
  clear h
  unfold fires
  obtain ⟨a, ha⟩ : ∃ a, a = D.armed := ⟨_, rfl⟩
  have HA := Lib.hid ha
  rw [← ha] at c3 a1 a2 ⊢
  clear ha
  by_cases h0 : a ≤ 0
  · have hd : decide (a ≤ 0) = true := decide_eq_true h0
    rw [if_pos h0]
    go_enter Tryd.func44, Tryd.ntmps44
    go_wp2
    go_ret
    exact ⟨rfl, H.out, Below.refl _ _, Keeps.refl _⟩
  · have hd : decide (a ≤ 0) = false := decide_eq_false h0
    have hw : IntKind.i64.wrap (a - 1) = a - 1 := IntWalk.i64_in _ (by omega)
    have z3 := H.out.1.frozen 3
    have H2 := Lib.hid (H.out.put 3 (.int .i64 (a - 1)) v { D with armed := a - 1 } rfl rfl rfl rfl)
    have K2 := Lib.hid (Keeps.put (i := 3) H.out.1 (.int .i64 (a - 1)))
    have HP := Lib.hid H.out.2.2.2.2.2.1
    rw [if_neg h0]
    go_enter Tryd.func44, Tryd.ntmps44
    go_wp2
    go_ret
    exact ⟨rfl, H2.out, (Below.refl _ _).setCell (p := ⟨p, 3, none⟩) HP.out _, K2.out⟩

set_option maxHeartbeats 1000000 in
theorem disk_Arm (base : Nat) (w : World) (p gl M : Nat) (v : Value) (D : DSt) (n : Int) (h : IsDisk base w p gl M v D) :
    Calls Tryd.prog 10 #[.pointer (some ⟨p, 0, none⟩), .int .i64 n] w fun e w' => e = .returned (.tuple #[]) ∧ IsDisk base w' p gl M v { D with armed := n } ∧ Below base w w' ∧ Keeps w w' := by
  obtain ⟨c0, c1, c2, c3, c4⟩ := h.1.five
  have z3 := h.1.frozen 3
  have H2 := Lib.hid (h.put 3 (.int .i64 n) v { D with armed := n } rfl rfl rfl rfl)
  have K2 := Lib.hid (Keeps.put (i := 3) h.1 (.int .i64 n))
  have HP := Lib.hid h.2.2.2.2.2.1
  clear h
  go_enter Tryd.func10, Tryd.ntmps10
  go_wp2
  go_end0
  exact ⟨rfl, H2.out, (Below.refl _ _).setCell (p := ⟨p, 3, none⟩) HP.out _, K2.out⟩

theorem run_clear_map {P : Program} {k e t : TypeId} {R : Value → Option (DataW Unit × List MemPlace)} {w : World} {b n : Nat} {m : DataW Unit} (h : w.ownsMap P k R b n m) (ht : P.underlying t = some (.map k e)) (ty : TypeId) :
    ∃ w', (Builtin.clear_ #[t] ty #[.map (some b)]).run P w = .ok (.tuple #[]) w' ∧ w'.ownsMap P k R b 0 (.map []) ∧ w.mapTurned w' b := by
  obtain ⟨es, clock, hb, F, hs, rfl⟩ := h
  refine ⟨_, ?_, ⟨#[], clock, heap_setBlock_same hb _, ⟨by simp, stamped_empty clock, by simp⟩, Nat.le_refl _, rfl⟩, ⟨es, clock, #[], clock, hb, rfl⟩⟩
  simp [Builtin.clear_, run_underlying ht, MapKept.run_getObj_map hb, MapKept.run_setObj_map _ hb, setBlock, Result.andThen]

theorem wpList_clear_own {P : Program} {ops : Array Oper} {rest : List Oper} {o : Oper} {a : Act} {w : World} {Q : Exit → Act → World → Prop} (hg : o.guard = none) (m : Operand) (t : TypeId) (hop : o.op = Op.call { callee := Callee.builtin Builtin.clear, args := #[m], argTypes := #[t] })
    (k e : TypeId) (ht : P.underlying t = some (.map k e)) (R : Value → Option (DataW Unit × List MemPlace)) (b n : Nat) (D : DataW Unit) (hm : a.eval m = .map (some b)) (hown : w.ownsMap P k R b n D)
    (hK : ∀ w', w'.ownsMap P k R b 0 (.map []) → w.mapTurned w' b → wpList P ops Q rest (a.put o.dst (.tuple #[])) w') :
    wpList P ops Q (o :: rest) a w := by
  refine wpList_plain hg fun K' hK' => ?_
  obtain ⟨w', hrun, r1, r2⟩ := run_clear_map hown ht o.type
  unfold Oper.wp
  simp [execOp, hop, resolve, invoke, builtin, hm, hrun, Result.andThen]
  exact hK' _ _ (hK w' r1 r2)

theorem Blk.turned {w w' : World} {M g t : Nat} {cs : List Value} (h : Blk w g t cs) (ht : w.mapTurned w' M) : Blk w' g t cs := by
  refine h.grown ht.grown (fun e => ?_)
  obtain ⟨es, clock, _, _, h1, _⟩ := ht
  injection e with e
  subst e
  have := h.get
  rw [h1] at this
  cases this
theorem Keeps.turned {w w' : World} {M : Nat} (ht : w.mapTurned w' M) : Keeps w w' := ⟨fun _ _ _ _ _ _ hb => hb.turned ht, fun g o hg _ n2 => (ht.grown.block g (Array.getElem?_eq_some_iff.1 hg).1 (fun e => by
  obtain ⟨es, clock, _, _, h1, _⟩ := ht
  injection e with e
  subst e
  rw [hg] at h1
  injection h1 with h1
  exact n2 _ _ h1)).trans hg⟩
theorem Below.turned {w w' : World} {M B : Nat} (ht : w.mapTurned w' M) (hM : B ≤ M) : Below B w w' := by
  have hg := ht.grown
  exact ⟨hg.os, hg.tape, hg.output, hg.size, fun k hk => hg.block k (by
    obtain ⟨_, _, _, _, h1, _⟩ := ht
    rcases Nat.lt_or_ge M w.heap.size with hl | hl
    · omega
    · rw [Array.getElem?_eq_none hl] at h1; cases h1) (fun e => by injection e with e; omega)⟩

set_option maxHeartbeats 2000000 in
theorem disk_empty (base : Nat) (w : World) (p gl M : Nat) (v : Value) (D : DSt) (h : IsDisk base w p gl M v D) :
    Calls Tryd.prog 37 #[.pointer (some ⟨p, 0, none⟩)] w fun e w' => e = .returned (.tuple #[]) ∧ ∃ v', IsDisk base w' p gl M v' { D with waits := [] } ∧ Below base w w' ∧ Keeps w w' := by
  obtain ⟨c0, c1, c2, c3, c4⟩ := h.1.five
  obtain ⟨A, c, hv⟩ := h.2.2.1.form
  subst hv
  obtain ⟨h1, h2, h3, ⟨m, h4, h5⟩, h6, h7, h8, h9⟩ := h
  have H1 := Lib.hid h1
  have H2 := Lib.hid h2
  have H4 := Lib.hid h4
  have H6 := Lib.hid h6
  clear h1 h2 h3 h4 h5 h6
  go_enter Tryd.func37, Tryd.ntmps37
  go_wp2_with (refine wpList_clear_own rfl _ 72 rfl 3 3 Tryd.underlying72 (plainElem Tryd.prog 3) M _ m rfl H4.out ?_)
  intro w1 hm1 ht1
  have T1 := Lib.hid ht1
  have P1 := Lib.hid (H1.out.turned ht1)
  have G1 := Lib.hid (H2.out.turned ht1)
  have M1 := Lib.hid hm1
  obtain ⟨d0, d1, d2, d3, d4⟩ := P1.out.five
  have z1 := P1.out.frozen 1
  clear hm1 ht1
  go_wp2
  go_end0
  refine ⟨rfl, .slice A 0 0, ⟨?_, ?_, .inl ⟨rfl, A, rfl⟩, ⟨.map [], ?_, MapOf.empty⟩, ⟨H6.out.1, H6.out.2.1, H6.out.2.2.1, fun x hx => by cases hx⟩, h7, h8, h9⟩, ?_, ?_⟩
  · exact P1.out.set_ 1 _
  · exact G1.out.far (p := ⟨p, 1, none⟩) (G1.out.ne_ P1.out (by decide)) _
  · exact M1.out.setCell (a := ⟨p, 1, none⟩) (map_ne M1.out P1.out) _
  · exact (Below.turned T1.out h9).setCell (p := ⟨p, 1, none⟩) h7 _
  · exact (Keeps.turned T1.out).trans (Keeps.put (i := 1) P1.out _)

/-- A disk that is new. -/
def newD (n : Nat) : DSt := ⟨List.replicate n (List.replicate 128 0), [], 0, 0⟩
theorem flat_rep (n : Nat) : flatL (List.replicate n (List.replicate 128 0)) = List.replicate (n * 128) (.int .u8 0) := by
  unfold flatL nb
  rw [List.flatten_replicate_replicate, List.map_replicate]
  exact nums_replicate .u8 (n * 128)

theorem made_rep (k : Nat) (z : Value) (m : Nat) (hm : 0 < m) : (madeCells (Array.replicate m z) k).toList = List.replicate k z := by
  refine List.eq_replicate_iff.2 ⟨by rw [Array.length_toList, size_madeCells], fun b hb => ?_⟩
  unfold madeCells at hb
  rw [Array.toList_map, List.mem_map] at hb
  obtain ⟨i, _, rfl⟩ := hb
  have h : i % (Array.replicate m z).size < (Array.replicate m z).size := Nat.mod_lt _ (by simpa using hm)
  rw [getElem!_pos (Array.replicate m z) _ h, Array.getElem_replicate]
theorem Blk.of_ownN {w : World} {g base e size n : Nat} {xs : List Value} (h : w.ownsRow base e size (.slice (some ⟨g, 0, none⟩) n n) n xs) (hs : 0 < size) : Blk w g e xs := by
  obtain ⟨_, h2⟩ := h
  rcases h2 with ⟨h0, _⟩ | ⟨g', cap, cur, hv, _, hh, _, _, hs, ht⟩
  · cases h0
  · injection hv with hv hn hcap
    injection hv with hv
    injection hv with hv
    subst hv hcap
    unfold Blk
    rw [hh, ← ht, List.take_of_length_le (by simp [hs])]

theorem disk_New_bad (n : Int) (w : World) (h : n < 1 ∨ 4096 < n) :
    Calls Tryd.prog 8 #[.int .i64 n] w fun e w' => e = .returned (.tuple #[.pointer none, .int .i64 5]) ∧ w = w' := by
  by_cases h1 : n < 1
  · have hd : decide (n < 1) = true := decide_eq_true h1
    go_enter Tryd.func8, Tryd.ntmps8
    go_wp2
    go_ret2
    exact ⟨rfl, rfl⟩
  · have hd : decide (n < 1) = false := decide_eq_false h1
    have hd2 : decide (4096 < n) = true := decide_eq_true (by omega)
    go_enter Tryd.func8, Tryd.ntmps8
    go_wp2
    go_ret2
    exact ⟨rfl, rfl⟩

set_option maxHeartbeats 2000000 in
theorem disk_New (n : Nat) (w : World) (h1 : 1 ≤ n) (h2 : n ≤ 4096) :
    Calls Tryd.prog 8 #[.int .i64 (n : Int)] w fun e w' => ∃ p gl M v, e = .returned (.tuple #[.pointer (some ⟨p, 0, none⟩), .int .i64 0]) ∧ IsDisk w.heap.size w' p gl M v (newD n) ∧ Below w.heap.size w w' := by
  obtain ⟨i0, hi, hz0, hz1, hz2⟩ := info_parts infoSector
  have hd : decide ((n : Int) < 1) = false := decide_eq_false (by omega)
  have hd2 : decide (4096 < (n : Int)) = false := decide_eq_false (by omega)
  have hmm := @run_makeMap Tryd.prog
  go_enter Tryd.func8, Tryd.ntmps8
  go_wp2_with (at_make; refine wpList_make_full _ rfl _ _ 71 rfl w.heap.size 81 i0 (.agg (Array.replicate 128 (.int .u8 0))) 128 Tryd.underlying71 hi hz0 hz1 .i64 .i64 _ _ n rfl rfl rfl rfl (by rw [hz2]; omega) (by simp only [maxLen]; omega) (Nat.le_refl _) ?_; intro w1 hown hgr; have G0 := Lib.hid hown; clear hown)
  have G1 : Hid (Blk w1 w.heap.size 81 (flatL (newD n).lasts)) := Lib.hid (by
    have h := Blk.of_ownN G0.out (by decide)
    have e : (madeCells (Value.agg (Array.replicate 128 (.int .u8 0))).cells (n * 128)).toList = flatL (newD n).lasts := (made_rep (n * 128) (.int .u8 0) 128 (by decide)).trans (flat_rep n).symm
    rw [e] at h
    exact h)
  have B1 := Lib.hid ((Below.refl w.heap.size w).grown hgr (Nat.le_refl _) (fun k hk => by cases hk))
  have L1 := Lib.hid G1.out.lt
  clear hgr G0
  go_wp2_with fail
  go_ret2
  have B2 := B1.out.alloc B1.out.size (.map #[] 0)
  refine ⟨w1.heap.size + 1, w.heap.size, w1.heap.size, .slice none 0 0, rfl, ⟨?_, ?_, .inl ⟨rfl, none, rfl⟩, ⟨.map [], ?_, MapOf.empty⟩, ⟨?_, ?_, ?_, fun x hx => by cases hx⟩, ?_, Nat.le_refl _, B1.out.size⟩, B2.alloc B2.size _⟩
  · have h : Blk ((w1.alloc (.map #[] 0)).alloc (.cells #[.slice (some ⟨w.heap.size, 0, none⟩) n n, .slice none 0 0, .map (some w1.heap.size), .int .i64 0, .int .i64 0] 75)) (w1.alloc (.map #[] 0)).heap.size 75 [.slice (some ⟨w.heap.size, 0, none⟩) n n, .slice none 0 0, .map (some w1.heap.size), .int .i64 0, .int .i64 0] := heap_alloc_new _ _
    rw [show (w1.alloc (.map #[] 0)).heap.size = w1.heap.size + 1 from by simp] at h
    simpa [newD] using h
  · exact (G1.out.alloc _).alloc _
  · exact (World.ownsMap_made w1 Tryd.prog 3 (plainElem Tryd.prog 3)).alloc _
  · simp [newD]; exact h1
  · simp [newD]; exact h2
  · intro t ht
    have := List.eq_of_mem_replicate ht
    rw [this, List.length_replicate]
  · exact Nat.le_succ_of_le B1.out.size

end Go.Proofs.YtcnbpajlocoocaaDoor
