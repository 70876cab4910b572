/- The contract of a disk's Write. -/
import Derived.Test.YtbigpapniloknaaDoorDiskE
import Derived.Deep.RegionLawGrows
import Derived.Lib.BufferWrite
import Derived.Deep.Onto
import Derived.Great.BuildSlice
namespace Go.Proofs.YtbigpapniloknaaDoor
open Go.RowKit Go.Maps Go.ChangeMaps Go.MapKept

/-- A builtin's call whose run is known, as a step of a region that draws. -/
theorem step_append_run {P : Program} {ops : Array Oper} {o : Oper} {a : Act} {w : World} {K : Act → World → Prop} {Q : Exit → Act → World → Prop} {E : Prop}
    (hg : o.guard = none) (s x : Operand) (t : TypeId) (hop : o.op = Op.call { callee := Callee.builtin Builtin.append, args := #[s, x], argTypes := #[t, t] })
    (vs vx : Value) (hs : a.eval s = vs) (hx : a.eval x = vx) (r : Value) (w' : World) (hrun : ∀ ty, (Builtin.append_ #[t, t] ty #[vs, vx]).run P w = .ok r w') (hK : K (a.put o.dst r) w') :
    if Region.wanted o (yielded ops a.tmps) = true then Oper.wp P o a w K Q else E := by
  have hw : Region.wanted o (yielded ops a.tmps) = true := by simp [Region.wanted, hg]
  rw [if_pos hw]
  unfold Oper.wp
  simp [execOp, hop, resolve, invoke, builtin, hs, hx, hrun, Result.andThen]
  exact hK

theorem wp_load_is {P : Program} {o : Oper} {a : Act} {w : World} {K : Act → World → Prop} {Q : Exit → Act → World → Prop} (ty : TypeId) (x : Operand) (ho : o.op = .load ty x)
    (ad : Addr) (hx : a.eval x = .pointer (some ad)) (v : Value) (hrun : (Instr.loadAt ty (.pointer (some ad))).run P w = .ok v w) (h : K (a.put o.dst v) w) : o.wp P a w K Q := by
  unfold Oper.wp execOp
  simp only [ho, hx, hrun, Sem.run_bind, Sem.run_pure, Result.andThen_ok]
  exact h
theorem wp_build_is {P : Program} {o : Oper} {a : Act} {w : World} {K : Act → World → Prop} {Q : Exit → Act → World → Prop} (t : TypeId) (len : Nat) (parts : Array (Nat × Operand)) (ho : o.op = .buildSlice t len parts)
    (vals : Array (Nat × Value)) (hv : (parts.map fun (i, x) => (i, a.eval x)) = vals) (v : Value) (w' : World) (hrun : (Instr.buildSlice t len vals).run P w = .ok v w') (h : K (a.put o.dst v) w') : o.wp P a w K Q := by
  unfold Oper.wp execOp
  simp only [ho, hv, hrun, Sem.run_bind, Sem.run_pure, Result.andThen_ok]
  exact h
theorem wp_store_is {P : Program} {o : Oper} {a : Act} {w : World} {K : Act → World → Prop} {Q : Exit → Act → World → Prop} (ty : TypeId) (x y : Operand) (ho : o.op = .store ty x y)
    (ad : Addr) (hx : a.eval x = .pointer (some ad)) (v : Value) (hy : a.eval y = v) (w' : World) (hrun : (Instr.storeAt ty (.pointer (some ad)) v).run P w = .ok () w') (h : K (a.put o.dst undef) w') : o.wp P a w K Q := by
  unfold Oper.wp execOp
  simp only [ho, hx, hy, hrun, Sem.run_bind, Sem.run_pure, Result.andThen_ok]
  exact h

/-- 'copy(dst, s)' of a text into a block that is known whole. -/
theorem wpList_copy_string {P : Program} {ops : Array Oper} {rest : List Oper} {o : Oper} {a : Act} {w : World} {Q : Exit → Act → World → Prop} (hg : o.guard = none) (d x : Operand) (dT sT : TypeId)
    (hop : o.op = Op.call { callee := Callee.builtin Builtin.copy, args := #[d, x], argTypes := #[dT, sT] }) (elem : TypeId) (hu : P.underlying dT = some (.slice elem)) (hs : (P.info? elem).map (·.size) = some 1)
    (g off dLen dCap : Nat) (hd : a.eval d = .slice (some ⟨g, off, none⟩) dLen dCap) (s : ByteArray) (hx : a.eval x = .string s) (cur : Array Value) (t : TypeId) (hgk : w.heap[g]? = some (.cells cur t (0, 0))) (hle : s.size ≤ dLen) (hfit : off + s.size ≤ cur.size)
    (hK : wpList P ops Q rest (a.put o.dst (goInt s.size)) (w.setRow g (cur.toList.take off ++ Lib.byteCells s.data.toList ++ cur.toList.drop (off + s.size)).toArray)) :
    wpList P ops Q (o :: rest) a w := by
  refine wpList_plain hg fun K' hK' => ?_
  have hrun := Lib.run_copy_row_string (P := P) w dT sT o.type elem g off dLen dCap s cur t hu hs hgk hle hfit
  unfold Oper.wp
  simp [execOp, hop, resolve, invoke, builtin, hd, hx, hrun, Result.andThen]
  exact hK' _ _ (by simpa using hK)

theorem wpList_build_is {P : Program} {ops : Array Oper} {rest : List Oper} {o : Oper} {a : Act} {w : World} {Q : Exit → Act → World → Prop} (hg : o.guard = none) (t : TypeId) (parts : Array (Nat × Operand)) (ho : o.op = .build t parts)
    (vals : List (Nat × Value)) (hv : (parts.map fun (i, x) => (i, a.eval x)).toList = vals) (cells : Array Value) (hb : P.built t vals = some cells) (h : wpList P ops Q rest (a.put o.dst (.agg cells)) w) : wpList P ops Q (o :: rest) a w := by
  refine wpList_build hg t parts ho (by rw [hv, hb]; rfl) ?_
  rw [hv, hb]
  exact h

theorem fold_set (xs : List Value) : ∀ (pre old post : List Value), old.length = xs.length →
    (xs.zipIdx pre.length).foldl (fun (cs : Array Value) (x : Value × Nat) => cs.setIfInBounds (0 + x.2) x.1) (pre ++ (old ++ post)).toArray = (pre ++ (xs ++ post)).toArray := by
  induction xs with
  | nil =>
    intro pre old post h
    have : old = [] := List.eq_nil_of_length_eq_zero h
    subst this
    rfl
  | cons v r ih =>
    intro pre old post h
    match old, h with
    | o1 :: old', h =>
      rw [List.zipIdx_cons, List.foldl_cons]
      have e1 : (pre ++ (o1 :: old' ++ post)).toArray.setIfInBounds (0 + pre.length) v = ((pre ++ [v]) ++ (old' ++ post)).toArray := by
        rw [Nat.zero_add, List.setIfInBounds_toArray, List.set_append_right _ _ (Nat.le_refl _), Nat.sub_self]
        simp
      show List.foldl _ ((pre ++ (o1 :: old' ++ post)).toArray.setIfInBounds (0 + pre.length) v) _ = _
      rw [e1]
      have h2 := ih (pre ++ [v]) old' post (by simpa using h)
      rw [List.length_append, List.length_singleton] at h2
      rw [h2]
      simp
theorem fill_one (X C : Array Value) (h : C.size = X.size) (place : Nat → Option (Nat × Nat)) (hp : place 0 = some (0, X.size)) : Instr.fill place C [(0, .agg X)] = some X := by
  unfold Instr.fill
  rw [hp]
  simp only
  rw [if_neg (by simp [Value.cells]; omega)]
  show Instr.fill place (Array.foldl _ C (Value.cells (.agg X)).zipIdx) [] = some X
  unfold Instr.fill
  congr 1
  have e := fold_set X.toList [] C.toList [] (by rw [Array.length_toList, Array.length_toList]; exact h)
  simp only [List.nil_append, List.append_nil, List.length_nil, Array.toArray_toList] at e
  rw [← Array.foldl_toList, Array.toList_zipIdx]
  exact e
theorem run_build_write {x : Nat × List UInt8} (hx : x.2.length = 128) (W : World) : (Instr.buildSlice 56 1 #[(0, .agg (wrCells x).toArray)]).run Tryd.prog W = .ok (.slice (some ⟨W.heap.size, 0, none⟩) 1 1) (W.alloc (.cells (wrCells x).toArray 82)) := by
  obtain ⟨i0, hi, hz0, hz1, hz2⟩ := info_parts infoWrite
  refine run_buildSlice W 56 82 1 _ _ i0 _ Tryd.underlying56 hi hz0 (by rw [hz1]; omega) (by rw [hz1]; omega) (fill_one _ _ ?_ _ ?_)
  · rw [Array.size_map, Array.size_range, hz1, List.size_toArray, wrCells_len hx]
  · rw [hz1, List.size_toArray, wrCells_len hx]

theorem flatW_snoc (ws : List (Nat × List UInt8)) (x : Nat × List UInt8) : flatW (ws ++ [x]) = flatW ws ++ wrCells x := by
  unfold flatW; rw [List.map_append, List.flatten_append]; simp

/-- An append to what waits. -/
theorem run_append_W {base : Nat} {w : World} {v : Value} {ws : List (Nat × List UInt8)} (h : OwnW base w v ws) (hn : ws.length ≤ 1000000) (hbs : base ≤ w.heap.size) {x : Nat × List UInt8} (hx : x.2.length = 128) {B : Nat} (hB : Blk w B 82 (wrCells x)) :
    ∃ g cap w', (∀ ty, (Builtin.append_ #[56, 56] ty #[v, .slice (some ⟨B, 0, none⟩) 1 1]).run Tryd.prog w = .ok (.slice (some ⟨g, 0, none⟩) (ws.length + 1) cap) w') ∧
      OwnW base w' (.slice (some ⟨g, 0, none⟩) (ws.length + 1) cap) (ws ++ [x]) ∧ Below base w w' ∧ (∀ k t cs, t ≠ 82 → Blk w k t cs → Blk w' k t cs) ∧ (∀ (k : Nat) es cl, w.heap[k]? = some (Obj.map es cl) → w'.heap[k]? = some (Obj.map es cl)) ∧
      (∀ k : Nat, k < w.heap.size → (0 < ws.length → v.ownBlock ≠ some k) → w'.heap[k]? = w.heap[k]?) := by
  obtain ⟨i0, hi, hz0, hz1, hz2⟩ := info_parts infoWrite
  have hzs : (Value.agg (#[.int .i64 0] ++ Array.replicate 128 (.int .u8 0))).cells.size = 129 := by simp [Value.cells]
  have hnl : (wrCells x).length = 1 * 129 := by rw [wrCells_len hx]
  have hnews : ∀ j u, (wrCells x)[j]? = some u → w.cell? ((⟨B, 0, none⟩ : Addr).add j) = some u := World.news_of_block (cs := (wrCells x).toArray) hB.get
  rcases h with ⟨rfl, A, rfl⟩ | ⟨h1, h2⟩
  · have key : ∃ v' w', (Builtin.append_ #[56, 56] 0 #[.slice A 0 0, .slice (some ⟨B, 0, none⟩) 1 1]).run Tryd.prog w = .ok v' w' ∧ w'.ownsRow w.heap.size 82 129 v' 1 (wrCells x) ∧ w.grownBy w' none := by
      cases A with
      | none =>
        obtain ⟨v', w', hr, h3, h4, _⟩ := run_append_own (P := Tryd.prog) w w.heap.size 56 0 82 i0 _ 129 136 Tryd.underlying56 hi hz0 hz1 hz2 hzs (by decide) (.slice none 0 0) 0 [] (World.ownsRow_nil w _ _ _) ⟨B, 0, none⟩ 1 1 (wrCells x) hnl hnews (wr_oneCell x) (by simp [maxLen]) (by omega) (Nat.le_refl _)
        exact ⟨v', w', hr, h3, h4⟩
      | some b =>
        obtain ⟨v', w', hr, h3, h4⟩ := run_append_arg_grows (P := Tryd.prog) w 56 0 82 i0 _ 129 136 Tryd.underlying56 hi hz0 hz1 hz2 hzs (by decide) b 0 0 [] rfl (fun j u h => by simp at h) ⟨B, 0, none⟩ 1 1 (wrCells x) hnl hnews (by omega) (by simp [maxLen]) (by omega)
        exact ⟨v', w', hr, h3, h4⟩
    obtain ⟨v', w', hr, h3, h4⟩ := key
    obtain ⟨g, cap, rfl, _, _⟩ := h3.form (by omega)
    have hb0 : Below w.heap.size w w' := (Below.refl _ _).grown h4 (Nat.le_refl _) (fun k hk => by cases hk)
    refine ⟨g, cap, w', fun _ => hr, .inr ⟨by simp, ?_⟩, (hb0.mono hbs), fun k t cs _ hb => hb.keep hb0, fun k es cl hm => (hb0.block k (Array.getElem?_eq_some_iff.1 hm).1).trans hm, fun k hk _ => hb0.block k hk⟩
    rw [flatW_snoc]
    exact h3.mono hbs
  · obtain ⟨v', w', hr, h3, h4, _⟩ := run_append_own (P := Tryd.prog) w base 56 0 82 i0 _ 129 136 Tryd.underlying56 hi hz0 hz1 hz2 hzs (by decide) v ws.length (flatW ws) h2 ⟨B, 0, none⟩ 1 1 (wrCells x) hnl hnews (wr_oneCell x) (by simp only [maxLen]; omega) (by omega) hbs
    obtain ⟨g, cap, rfl, _, _⟩ := h3.form (by omega)
    refine ⟨g, cap, w', fun _ => hr, .inr ⟨by simp, ?_⟩, (Below.refl _ _).grown h4 hbs (fun k hk => (h2.lt k hk).1), fun k t cs ht hb => hb.grown h4 (fun e => ownW_ne h2 hb ht e.symm), fun k es cl hm => (h4.block k (Array.getElem?_eq_some_iff.1 hm).1 (fun e => ?_)).trans hm, fun k hk hne => h4.block k hk (fun e => hne h1 e.symm)⟩
    · rw [flatW_snoc, List.length_append]
      exact h3
    · rcases h2.2 with ⟨e1, _⟩ | ⟨g', c', cur, e1, _, hh, _⟩
      · rw [e1] at e; cases e
      · rw [e1] at e
        injection e with e
        subst e
        rw [hm] at hh
        cases hh

theorem sizeByte : (Tryd.prog.info? 5).map (·.size) = some 1 := by kernel_rfl
theorem builtWrite (i : Int) : Tryd.prog.built 82 [(0, .int .i64 i)] = some (#[.int .i64 i] ++ Array.replicate 128 (.int .u8 0)) := by kernel_rfl
/-- What Write does where it doesn't fail. -/
def wrote (D : DSt) (i : Nat) (s : List UInt8) : DSt := { D with waits := D.waits ++ [(i, s)], ops := D.ops + 1 }

set_option maxHeartbeats 1000000 in
theorem disk_Write_range (base : Nat) (w : World) (p gl M : Nat) (v : Value) (D : DSt) (i : Int) (s : ByteArray) (h : IsDisk base w p gl M v D) (hb : hasB D i = false) :
    Calls Tryd.prog 44 #[.pointer (some ⟨p, 0, none⟩), .int .i64 i, .string s] w fun e w' => e = .returned (.int .i64 5) ∧ w = w' := by
  have HH := Lib.hid (disk_has base w p gl M v D i h)
  rw [hb] at HH
  clear h hb
  go_enter Tryd.func44, Tryd.ntmps44
  go_wp2_with fail
  refine HH.out.mono ?_
  rintro e w1 ⟨rfl, rfl⟩
  go_wp2_with fail
  go_ret
  exact ⟨rfl, rfl⟩

set_option maxHeartbeats 1000000 in
theorem disk_Write_form (base : Nat) (w : World) (p gl M : Nat) (v : Value) (D : DSt) (i : Int) (s : ByteArray) (h : IsDisk base w p gl M v D) (hb : hasB D i = true) (hs : s.size ≠ 128) :
    Calls Tryd.prog 44 #[.pointer (some ⟨p, 0, none⟩), .int .i64 i, .string s] w fun e w' => e = .returned (.int .i64 4) ∧ w = w' := by
  have HH := Lib.hid (disk_has base w p gl M v D i h)
  rw [hb] at HH
  have hne : ((s.size : Int) != 128) = true := by rw [bne_iff_ne]; omega
  clear h hb
  go_enter Tryd.func44, Tryd.ntmps44
  go_wp2_with fail
  refine HH.out.mono ?_
  rintro e w1 ⟨rfl, rfl⟩
  go_wp2_with fail
  go_ret
  exact ⟨rfl, rfl⟩

set_option maxHeartbeats 1000000 in
theorem disk_Write_bad (base : Nat) (w : World) (p gl M : Nat) (v : Value) (D : DSt) (i : Int) (s : ByteArray) (h : IsDisk base w p gl M v D) (hb : hasB D i = true) (hs : s.size = 128) (ha : ArmOk D) (hf : (fires D).2 = true) :
    Calls Tryd.prog 44 #[.pointer (some ⟨p, 0, none⟩), .int .i64 i, .string s] w fun e w' => e = .returned (.int .i64 7) ∧ IsDisk base w' p gl M v (fires D).1 ∧ Below base w w' ∧ Keeps w w' := by
  have HH := Lib.hid (disk_has base w p gl M v D i h)
  have HG := Lib.hid (disk_goesOff base w p gl M v D h ha)
  rw [hb] at HH
  rw [hf] at HG
  clear h hb hf
  go_enter Tryd.func44, Tryd.ntmps44
  go_wp2_with fail
  refine HH.out.mono ?_
  rintro e w1 ⟨rfl, rfl⟩
  go_wp2_with fail
  refine HG.out.mono ?_
  rintro e w2 ⟨rfl, h1, hb1, hk1⟩
  go_wp2_with fail
  go_ret
  exact ⟨rfl, h1, hb1, hk1⟩

abbrev w10o0 : Oper := { dst := some 35, op := Op.move (Operand.tmp 0), type := 24, pos := "disk.go:68", after := #[], guard := none }
abbrev w10o1 : Oper := { dst := some 36, op := Op.move (Operand.tmp 0), type := 24, pos := "disk.go:68", after := #[], guard := none }
abbrev w10o2 : Oper := { dst := some 37, op := Op.nilCheck (Operand.tmp 36), type := 0, pos := "disk.go:68", after := #[{ on := 1, ground := Ground.data }], guard := none }
abbrev w10o3 : Oper := { dst := some 38, op := Op.fieldAddr 58 (Operand.tmp 37) 1, type := 0, pos := "disk.go:68", after := #[{ on := 2, ground := Ground.data }], guard := none }
abbrev w10o4 : Oper := { dst := some 39, op := Op.load 56 (Operand.tmp 38), type := 56, pos := "disk.go:68", after := #[{ on := 3, ground := Ground.data }], guard := none }
abbrev w10o5 : Oper := { dst := some 40, op := Op.load 82 (Operand.tmp 7), type := 82, pos := "disk.go:68", after := #[], guard := none }
abbrev w10o6 : Oper := { dst := some 41, op := Op.buildSlice 56 1 #[(0, Operand.tmp 40)], type := 56, pos := "disk.go:68", after := #[{ on := 5, ground := Ground.data }], guard := none }
abbrev w10o7 : Oper := { dst := some 42, op := Op.call { callee := Callee.builtin Builtin.append, args := #[Operand.tmp 39, Operand.tmp 41], argTypes := #[56, 56] }, type := 56, pos := "disk.go:68", after := #[{ on := 4, ground := Ground.data }, { on := 6, ground := Ground.data }], guard := none }
abbrev w10o8 : Oper := { dst := some 43, op := Op.nilCheck (Operand.tmp 35), type := 0, pos := "disk.go:68", after := #[{ on := 0, ground := Ground.data }, { on := 0, ground := Ground.phase }, { on := 1, ground := Ground.phase }, { on := 2, ground := Ground.phase }, { on := 3, ground := Ground.phase }, { on := 4, ground := Ground.phase }, { on := 5, ground := Ground.phase }, { on := 6, ground := Ground.phase }, { on := 7, ground := Ground.phase }], guard := none }
abbrev w10o9 : Oper := { dst := some 44, op := Op.fieldAddr 58 (Operand.tmp 43) 1, type := 0, pos := "disk.go:68", after := #[{ on := 8, ground := Ground.data }, { on := 0, ground := Ground.phase }, { on := 1, ground := Ground.phase }, { on := 2, ground := Ground.phase }, { on := 3, ground := Ground.phase }, { on := 4, ground := Ground.phase }, { on := 5, ground := Ground.phase }, { on := 6, ground := Ground.phase }, { on := 7, ground := Ground.phase }], guard := none }
abbrev w10o10 : Oper := { dst := none, op := Op.store 56 (Operand.tmp 44) (Operand.tmp 42), type := 0, pos := "disk.go:68", after := #[{ on := 9, ground := Ground.data }, { on := 7, ground := Ground.data }, { on := 7, ground := Ground.chain }, { on := 0, ground := Ground.phase }, { on := 1, ground := Ground.phase }, { on := 2, ground := Ground.phase }, { on := 3, ground := Ground.phase }, { on := 4, ground := Ground.phase }, { on := 5, ground := Ground.phase }, { on := 6, ground := Ground.phase }, { on := 7, ground := Ground.phase }], guard := none }
theorem OwnW.cells {base : Nat} {w : World} {v : Value} {ws : List (Nat × List UInt8)} (h : OwnW base w v ws) (hp : 0 < ws.length) {k : Nat} (e : v.ownBlock = some k) : ∃ cs t f, w.heap[k]? = some (Obj.cells cs t f) := by
  rcases h with ⟨h1, _⟩ | ⟨_, h2⟩
  · rw [h1] at hp; cases hp
  · rcases h2.2 with ⟨h1, _⟩ | ⟨g', c', cur, h1, _, hh, _⟩
    · rw [h1] at e; cases e
    · rw [h1] at e
      injection e with e
      subst e
      exact ⟨_, _, _, hh⟩
theorem OwnW.turned {base : Nat} {w w' : World} {v : Value} {ws : List (Nat × List UInt8)} (h : OwnW base w v ws) {M : Nat} (ht : w.mapTurned w' M) : OwnW base w' v ws := by
  rcases h with h | ⟨h1, h2⟩
  · exact .inl h
  · refine .inr ⟨h1, h2.kept ht.grown (.inr fun e => ?_)⟩
    obtain ⟨es, cl, _, _, hm, _⟩ := ht
    rcases h2.2 with ⟨e1, _⟩ | ⟨g', c', cur, e1, _, hh, _⟩
    · rw [e1] at e; cases e
    · rw [e1] at e
      injection e with e
      subst e
      rw [hm] at hh
      cases hh

set_option maxHeartbeats 4000000 in
set_option maxRecDepth 100000 in
theorem disk_Write_ok (base : Nat) (w : World) (p gl M : Nat) (v : Value) (D : DSt) (i : Nat) (s : ByteArray) (h : IsDisk base w p gl M v D) (hb : i < D.lasts.length) (hs : s.size = 128) (ha : ArmOk D) (hf : (fires D).2 = false) (hw : D.waits.length ≤ 1000000) (ho : D.ops ≤ 1000000000) (hbs : base ≤ w.heap.size) :
    Calls Tryd.prog 44 #[.pointer (some ⟨p, 0, none⟩), .int .i64 (i : Int), .string s] w fun e w' => e = .returned (.int .i64 0) ∧ ∃ v', IsDisk base w' p gl M v' (wrote (fires D).1 i s.data.toList) ∧ Below base w w' ∧ Keeps w w' := by
  have HH := Lib.hid (disk_has base w p gl M v D i h)
  have HG := Lib.hid (disk_goesOff base w p gl M v D h ha)
  rw [hasB_nat hb] at HH
  rw [hf] at HG
  have hwl : (fires D).1.waits.length = D.waits.length := by rw [fires_waits]
  have hil : i < (fires D).1.lasts.length := by rw [fires_lasts]; exact hb
  obtain ⟨D1, hD1⟩ : ∃ D1, D1 = (fires D).1 := ⟨_, rfl⟩
  rw [← hD1] at HG hwl hil ⊢
  have hops : D1.ops = D.ops := by rw [hD1]; exact fires_ops D
  obtain ⟨Z, hZ, hzw⟩ := zeroW
  have hu75 := Tryd.underlying82
  have hs75 := sizeWrite
  obtain ⟨Y, hY⟩ : ∃ Y : Array Value, Y = #[.int .i64 (i : Int)] ++ Array.replicate 128 (.int .u8 0) := ⟨_, rfl⟩
  have hY129 : Y.size = 129 := by rw [hY]; simp
  have hbu := builtWrite (i : Int)
  rw [← hY] at hbu
  obtain ⟨x, hx⟩ : ∃ x : Nat × List UInt8, x = (i, s.data.toList) := ⟨_, rfl⟩
  have hx2 : x.2.length = 128 := by rw [hx]; show s.data.toList.length = 128; rw [Array.length_toList]; exact hs
  have HY1 : Hid (∀ y ∈ Y.toList, y.oneCell' = true) := Lib.hid (by
    rw [hY]
    intro y hy
    simp only [Array.toList_append, List.mem_append, Array.toList_replicate] at hy
    rcases hy with hy | hy
    · simp at hy; rw [hy]; rfl
    · rw [List.eq_of_mem_replicate hy]; rfl)
  have HXC : Hid ((Y.toList.take 1 ++ Lib.byteCells s.data.toList ++ Y.toList.drop (1 + s.size)).toArray = (wrCells x).toArray) := Lib.hid (by
    congr 1
    rw [hx, hs, List.drop_of_length_le (by rw [Array.length_toList, hY129]; omega), List.append_nil, hY]
    simp [wrCells, Lib.byteCells, nums, nb])
  have HWR : Hid (wrote D1 i s.data.toList = { D1 with waits := D1.waits ++ [x], ops := D1.ops + 1 }) := Lib.hid (by rw [hx]; rfl)
  have hi63 : i < 9223372036854775807 := by have := h.2.2.2.2.1.2.1; omega
  have hx1 : x.1 = i := by rw [hx]
  clear h hb hD1 hf hY
  go_enter Tryd.func44, Tryd.ntmps44
  go_wp2_with fail
  refine HH.out.mono ?_
  rintro e w0 ⟨rfl, rfl⟩
  go_wp2_with fail
  refine HG.out.mono ?_
  rintro e w1 ⟨rfl, h1, hb1, hk1⟩
  have H1 := Lib.hid h1
  have B1 := Lib.hid hb1
  have K1 := Lib.hid hk1
  have NZ := Lib.hid (heap_alloc_new w1 (.cells Z 82))
  have NY := Lib.hid (heap_alloc_new w1 (.cells Y 82))
  have NY2 : Hid (((w1.alloc (.cells Z 82)).setRow w1.heap.size Y).heap[w1.heap.size]? = some (.cells Y 82 (0, 0))) := Lib.hid (by rw [World.setRow_alloc_new]; exact NY.out)
  clear h1 hb1 hk1
  go_wp2_with (first
    | (refine wpList_build_is rfl 82 _ rfl [(0, .int .i64 (i : Int))] (by simp [Act.eval]) Y hbu ?_)
    | (refine wpList_store_row rfl _ _ _ rfl w1.heap.size Y rfl rfl 82 Z NZ.out (by rw [hY129]; exact hs75) (by rw [hZ, hY129]) (by rw [← Array.toArray_toList (xs := Y)]; exact all_oneCell_toArray HY1.out) ?_)
    | (refine wpList_copy_string rfl _ _ 86 9 rfl 5 Tryd.underlying86 sizeByte w1.heap.size 1 128 128 rfl s rfl Y 82 NY2.out (by omega) (by rw [hY129]; omega) ?_))
  rw [setRow_setRow, World.setRow_alloc_new, HXC.out]
  obtain ⟨W, hW⟩ : ∃ W, W = w1.alloc (.cells (wrCells x).toArray 82) := ⟨_, rfl⟩
  rw [← hW]
  have NB : Hid (Blk W w1.heap.size 82 (wrCells x)) := Lib.hid (by rw [hW]; exact heap_alloc_new w1 _)
  have H2 := Lib.hid (show IsDisk base W p gl M v D1 from by rw [hW]; exact H1.out.keep ((Below.refl _ _).alloc (Nat.le_refl _) _))
  have BW : Hid (Below base w W) := Lib.hid (by rw [hW]; exact B1.out.alloc (Nat.le_trans hbs B1.out.size) _)
  have KW : Hid (Keeps w W) := Lib.hid (by rw [hW]; exact K1.out.trans (Keeps.of_below ((Below.refl _ _).alloc (Nat.le_refl _) _)))
  have VN : Hid (0 < D1.waits.length → v.ownBlock ≠ some w1.heap.size) := Lib.hid (by
    rcases H1.out.2.2.1 with ⟨e, _⟩ | ⟨_, h2⟩
    · intro h0; rw [e] at h0; cases h0
    · intro _ e; have := (h2.lt _ e).2; omega)
  obtain ⟨n, hn⟩ : ∃ n, n = D1.waits.length := ⟨_, rfl⟩
  have HN := Lib.hid hn
  obtain ⟨m, hm, hmo⟩ := H2.out.2.2.2.1
  have hwf : (Lit.int .i64 (i : Int)).wf = true := WalkArith.wf_i64 (by omega)
  have hwn : (Lit.int .i64 (n : Int)).wf = true := WalkArith.wf_i64 (by omega)
  obtain ⟨W4, hrun, hm4, ht4⟩ := (World.ownsMap.drew hm).store intKeyed Tryd.underlying55 (by rw [← hn]; simp only [maxLen]; omega) (keyOf_int_mk Tryd.underlying3 hwf) (plainElem_int Tryd.underlying3 hwn)
  have HM4 := Lib.hid hm4
  have HMO := Lib.hid hmo
  obtain ⟨A, c, hv⟩ := H2.out.2.2.1.form
  have P2 := Lib.hid (show Blk W.drew p 58 _ from H2.out.1)
  have P4 := Lib.hid (P2.out.turned ht4)
  have G4 := Lib.hid ((show Blk W.drew gl 80 _ from H2.out.2.1).turned ht4)
  have O4 := Lib.hid ((show OwnW base W.drew v D1.waits from H2.out.2.2.1).turned ht4)
  have NB4 := Lib.hid ((show Blk W.drew w1.heap.size 82 (wrCells x) from NB.out).turned ht4)
  have hbp : base ≤ p := H2.out.2.2.2.2.2.1
  have hbg : base ≤ gl := H2.out.2.2.2.2.2.2.1
  have hbm : base ≤ M := H2.out.2.2.2.2.2.2.2
  have DO := Lib.hid H2.out.2.2.2.2.1
  have B4 : Hid (Below base w W4) := Lib.hid (BW.out.drew.trans (Below.turned ht4 hbm))
  have K4 : Hid (Keeps w W4) := Lib.hid (KW.out.trans ((Keeps.of_below (Below.refl W.heap.size W).drew).trans (Keeps.turned (w := W.drew) ht4)))
  subst hv
  rw [← hn] at P2 P4 O4 VN HM4
  have hn6 : (n : Int) ≤ 1000000 := by omega
  have HS0 : Hid (W.drew.cell? ⟨p, 1, none⟩ = some (.slice A n c) ∧ W.drew.cell? ⟨p, 2, none⟩ = some (.map (some M))) := Lib.hid ⟨P2.out.five.2.1, P2.out.five.2.2.1⟩
  have HS4 : Hid (W4.cell? ⟨p, 1, none⟩ = some (.slice A n c) ∧ W4.cell? ⟨p, 2, none⟩ = some (.map (some M))) := Lib.hid ⟨P4.out.five.2.1, P4.out.five.2.2.1⟩
  have HOP := Lib.hid (show (D1.ops : Int) ≤ 1000000000 by omega)
  clear hW NZ NY NY2 hm hmo hm4 ht4 hwl hops hn H1 H2 B1 K1
  go_region_held3 (fun w' => w'.cell? ⟨p, 1, none⟩ = some (.slice A n c) ∧ w'.cell? ⟨p, 2, none⟩ = some (.map (some M)))
    (first | exact HS4.out | exact HS0.out)
    (fail)
  have hx2' := hx2
  have HX1 := Lib.hid hx1
  have HX2 := Lib.hid hx2
  obtain ⟨W5, hW5⟩ : ∃ W5, W5 = (W4.alloc (.cells (wrCells x).toArray 82)).drew := ⟨_, rfl⟩
  have Q5 : Hid (Below W4.heap.size W4 W5) := Lib.hid (by rw [hW5]; exact ((Below.refl _ _).alloc (Nat.le_refl _) _).drew)
  have NB5 : Hid (Blk W5 W4.heap.size 82 (wrCells x)) := Lib.hid (by rw [hW5]; exact heap_alloc_new W4 _)
  have O5 := Lib.hid (O4.out.keep Q5.out)
  have P5 := Lib.hid (P4.out.keep Q5.out)
  have G5 := Lib.hid (G4.out.keep Q5.out)
  have M5 := Lib.hid (map_keep HM4.out Q5.out)
  have C5 := Lib.hid (NB4.out.keep Q5.out)
  have B5 : Hid (Below base w W5) := Lib.hid (B4.out.trans (Q5.out.mono (Nat.le_trans hbs B4.out.size)))
  have K5 : Hid (Keeps w W5) := Lib.hid (K4.out.trans (Keeps.of_below Q5.out))
  obtain ⟨g, cap, W6, hrun6, hO6, hB6, hK6, hM6, hF6⟩ := run_append_W O5.out (by rw [← HN.out]; omega) (Nat.le_trans hbs B5.out.size) hx2 NB5.out
  rw [← HN.out] at hrun6 hO6 hF6
  have HR6 := Lib.hid hrun6
  have O6 := Lib.hid hO6
  have P6 := Lib.hid (hK6 p 58 _ (by decide) P5.out)
  have G6 := Lib.hid (hK6 gl 80 _ (by decide) G5.out)
  have M6 : Hid (W6.ownsMap Tryd.prog 3 (plainElem Tryd.prog 3) M (n + 1) (m.put (.int .i64 (i : Int)) (.lit (.int .i64 (n : Int))))) := Lib.hid (by
    obtain ⟨es, cl, h1, h2⟩ := M5.out
    exact ⟨es, cl, hM6 M es cl h1, h2⟩)
  have C6 : Hid (Blk W6 w1.heap.size 82 (wrCells x)) := Lib.hid ((hF6 w1.heap.size C5.out.lt VN.out).trans C5.out)
  have B6 : Hid (Below base w W6) := Lib.hid (B5.out.trans hB6)
  have K6 : Hid (Keeps w W6) := Lib.hid (K5.out.trans ⟨fun k t cs _ _ h3 hb => hK6 k t cs h3 hb, fun k o hk n1 n2 => (hF6 k (Array.getElem?_eq_some_iff.1 hk).1 (fun hpos e => by obtain ⟨cs, t, f, ht⟩ := O5.out.cells (by rw [← HN.out]; exact hpos) e; rw [hk] at ht; injection ht with ht; exact n1 _ _ _ ht)).trans hk⟩)
  have P7 := Lib.hid (P6.out.set_ 1 (.slice (some ⟨g, 0, none⟩) (n + 1) cap))
  have C7 := Lib.hid (C6.out.far (p := ⟨p, 1, none⟩) (C6.out.ne_ P6.out (by decide)) (.slice (some ⟨g, 0, none⟩) (n + 1) cap))
  have HL4a : Hid ((Instr.loadAt 56 (.pointer (some ⟨p, 1, none⟩))).run Tryd.prog W4.drew = .ok (.slice A n c) W4.drew) := Lib.hid (by
    have h : W4.drew.cell? ⟨p, 1, none⟩ = some (.slice A n c) := P4.out.five.2.1
    go_simp)
  have HL4b : Hid ((Instr.loadAt 56 (.pointer (some ⟨p, 1, none⟩))).run Tryd.prog W5 = .ok (.slice A n c) W5) := Lib.hid (by
    have h : W5.cell? ⟨p, 1, none⟩ = some (.slice A n c) := P5.out.five.2.1
    clear hW5
    go_simp)
  have HL5 : Hid ((Instr.loadAt 82 (.pointer (some ⟨w1.heap.size, 0, none⟩))).run Tryd.prog W4.drew = .ok (.agg (wrCells x).toArray) W4.drew) := Lib.hid
    (run_loadAt_mid W4.drew w1.heap.size 0 82 (wrCells x) _ (fun j u hj => by rw [Nat.zero_add]; exact (NB4.out.cell j).trans hj) hu75 rfl (by rw [wrCells_len hx2']; exact hs75))
  have HB6 : Hid ((Instr.buildSlice 56 1 #[(0, .agg (wrCells x).toArray)]).run Tryd.prog W4.drew = .ok (.slice (some ⟨W4.heap.size, 0, none⟩) 1 1) W5) := Lib.hid (by rw [hW5]; exact run_build_write hx2' W4.drew)
  have HS10 : Hid ((Instr.storeAt 56 (.pointer (some ⟨p, 1, none⟩)) (.slice (some ⟨g, 0, none⟩) (n + 1) cap)).run Tryd.prog W6 = .ok () (W6.setCell ⟨p, 1, none⟩ (.slice (some ⟨g, 0, none⟩) (n + 1) cap))) := Lib.hid (by
    have h : W6.cell? ⟨p, 1, none⟩ = some (.slice A n c) := P6.out.five.2.1
    have h2 := P6.out.frozen 1
    go_simp)
  clear hrun6 hO6 hB6 hK6 hM6 hF6 hrun hx hx1 hx2 hx2' hbu hY129 hzw hZ hwf hwn hW5
  obtain ⟨V, hV⟩ : ∃ V, V = (.slice (some ⟨g, 0, none⟩) (n + 1) cap : Value) := ⟨_, rfl⟩
  have H7 : Hid (IsDisk base (W6.setCell ⟨p, 1, none⟩ (.slice (some ⟨g, 0, none⟩) (n + 1) cap)) p gl M (.slice (some ⟨g, 0, none⟩) (n + 1) cap) { D1 with waits := D1.waits ++ [x] }) := Lib.hid (by
    refine ⟨?_, G6.out.far (p := ⟨p, 1, none⟩) (G6.out.ne_ P6.out (by decide)) _, O6.out.put P6.out (by decide) _, ⟨m.put (.int .i64 (i : Int)) (.lit (.int .i64 (n : Int))), ?_, ?_⟩, ⟨DO.out.1, DO.out.2.1, DO.out.2.2.1, ?_⟩, hbp, hbg, hbm⟩
    · exact P6.out.set_ 1 _
    · have h := M6.out.setCell (a := ⟨p, 1, none⟩) (map_ne M6.out P6.out) (.slice (some ⟨g, 0, none⟩) (n + 1) cap)
      rw [HN.out] at h ⊢
      rw [List.length_append]
      exact h
    · have h := HMO.out.put x
      rw [← HN.out, HX1.out] at h
      exact h
    · intro y hy
      rcases List.mem_append.1 hy with hy | hy
      · exact DO.out.2.2.2 y hy
      · simp only [List.mem_singleton] at hy
        subst hy
        exact ⟨by rw [HX1.out]; exact hil, HX2.out⟩)
  have H8 : Hid (IsDisk base ((W6.setCell ⟨p, 1, none⟩ (.slice (some ⟨g, 0, none⟩) (n + 1) cap)).setCell ⟨p, 4, none⟩ (.int .i64 ((D1.ops : Int) + 1))) p gl M (.slice (some ⟨g, 0, none⟩) (n + 1) cap) (wrote D1 i s.data.toList)) := Lib.hid (by
    rw [HWR.out]
    exact H7.out.put 4 (.int .i64 ((D1.ops : Int) + 1)) _ { D1 with waits := D1.waits ++ [x], ops := D1.ops + 1 } rfl rfl rfl rfl)
  have B8 : Hid (Below base w ((W6.setCell ⟨p, 1, none⟩ (.slice (some ⟨g, 0, none⟩) (n + 1) cap)).setCell ⟨p, 4, none⟩ (.int .i64 ((D1.ops : Int) + 1)))) := Lib.hid ((B6.out.setCell (p := ⟨p, 1, none⟩) hbp _).setCell (p := ⟨p, 4, none⟩) hbp _)
  have K8 : Hid (Keeps w ((W6.setCell ⟨p, 1, none⟩ (.slice (some ⟨g, 0, none⟩) (n + 1) cap)).setCell ⟨p, 4, none⟩ (.int .i64 ((D1.ops : Int) + 1)))) := Lib.hid ((K6.out.trans (Keeps.put (i := 1) P6.out _)).trans (Keeps.put (i := 4) H7.out.1 _))
  obtain ⟨e0, e1, e2, e3, e4⟩ := H7.out.1.five
  have y4 := H7.out.1.frozen 4
  have hob : (D1.ops : Int) + 1 ≤ 2000000000 := by have := HOP.out; omega
  have hwo : IntKind.i64.wrap ((D1.ops : Int) + 1) = (D1.ops : Int) + 1 := IntWalk.i64_in _ (by omega)
  clear hV V ho
  go_wp2_with fail
  refine wp_region_any (by kernel_rfl) ?_
  (try change wpAny _ _ _ _ _ _ _ (World.drew _))
  refine wpAny_take (i := 0) (oi := w10o0) (v := ?_) rfl (by kernel_rfl) (by kernel_rfl) (by kernel_rfl) (fun _ _ _ h => h) (Or.inl ⟨by rfl, ?_⟩) ?_
  rotate_left
  · (intro w; dsimp only [w10o0]; go_simp; try (with_reducible rfl))
  (try simp only [Act.put, List.setIfInBounds_toArray, List.set_cons_zero, List.set_cons_succ])
  refine wpAny_take (i := 1) (oi := w10o1) (v := ?_) rfl (by kernel_rfl) (by kernel_rfl) (by kernel_rfl) (fun _ _ _ h => h) (Or.inl ⟨by rfl, ?_⟩) ?_
  rotate_left
  · (intro w; dsimp only [w10o1]; go_simp; try (with_reducible rfl))
  (try simp only [Act.put, List.setIfInBounds_toArray, List.set_cons_zero, List.set_cons_succ])
  refine wpAny_take (i := 2) (oi := w10o2) (v := ?_) rfl (by kernel_rfl) (by kernel_rfl) (by kernel_rfl) (fun _ _ _ h => h) (Or.inl ⟨by rfl, ?_⟩) ?_
  rotate_left
  · (intro w; dsimp only [w10o2]; go_simp; try (with_reducible rfl))
  (try simp only [Act.put, List.setIfInBounds_toArray, List.set_cons_zero, List.set_cons_succ])
  refine wpAny_take (i := 3) (oi := w10o3) (v := ?_) rfl (by kernel_rfl) (by kernel_rfl) (by kernel_rfl) (fun _ _ _ h => h) (Or.inl ⟨by rfl, ?_⟩) ?_
  rotate_left
  · (intro w; dsimp only [w10o3]; go_simp; try (with_reducible rfl))
  (try simp only [Act.put, List.setIfInBounds_toArray, List.set_cons_zero, List.set_cons_succ])
  refine wpAny_ready (rs := [4, 5]) (by kernel_rfl) (by simp) ?_
  refine AllReady.cons (o := w10o4) rfl (fun K hK => ?_) (AllReady.cons (o := w10o5) rfl (fun K hK => ?_) AllReady.nil)
  · rw [if_pos (by rfl)]
    refine wp_load_is _ _ rfl ⟨p, 1, none⟩ rfl (.slice A n c) HL4a.out ?_
    refine hK _ _ ?_
    clear hK K
    (try simp only [Act.put, List.setIfInBounds_toArray, List.set_cons_zero, List.set_cons_succ])
    refine wpAny_ready (rs := [5]) (by kernel_rfl) (by simp) ?_
    refine AllReady.cons (o := w10o5) rfl (fun K hK => ?_) AllReady.nil
    rw [if_pos (by rfl)]
    refine wp_load_is _ _ rfl ⟨w1.heap.size, 0, none⟩ rfl (.agg (wrCells x).toArray) HL5.out ?_
    refine hK _ _ ?_
    clear hK K
    (try simp only [Act.put, List.setIfInBounds_toArray, List.set_cons_zero, List.set_cons_succ])
    refine wpAny_ready (rs := [6]) (by kernel_rfl) (by simp) ?_
    refine AllReady.cons (o := w10o6) rfl (fun K hK => ?_) AllReady.nil
    rw [if_pos (by rfl)]
    refine wp_build_is _ _ _ rfl #[(0, .agg (wrCells x).toArray)] (by simp [Act.eval]) (.slice (some ⟨W4.heap.size, 0, none⟩) 1 1) W5 HB6.out ?_
    refine hK _ _ ?_
    clear hK K
    (try simp only [Act.put, List.setIfInBounds_toArray, List.set_cons_zero, List.set_cons_succ])
    refine wpAny_ready (rs := [7]) (by kernel_rfl) (by simp) ?_
    refine AllReady.cons (o := w10o7) rfl (fun K hK => ?_) AllReady.nil
    refine step_append_run rfl _ _ 56 rfl (.slice A n c) (.slice (some ⟨W4.heap.size, 0, none⟩) 1 1) rfl rfl _ W6 HR6.out ?_
    refine hK _ _ ?_
    clear hK K
    (try simp only [Act.put, List.setIfInBounds_toArray, List.set_cons_zero, List.set_cons_succ])
    refine wpAny_take (i := 8) (oi := w10o8) (v := ?_) rfl (by kernel_rfl) (by kernel_rfl) (by kernel_rfl) (fun _ _ _ h => h) (Or.inl ⟨by rfl, ?_⟩) ?_
    rotate_left
    · (intro w; dsimp only [w10o8]; go_simp; try (with_reducible rfl))
    (try simp only [Act.put, List.setIfInBounds_toArray, List.set_cons_zero, List.set_cons_succ])
    refine wpAny_take (i := 9) (oi := w10o9) (v := ?_) rfl (by kernel_rfl) (by kernel_rfl) (by kernel_rfl) (fun _ _ _ h => h) (Or.inl ⟨by rfl, ?_⟩) ?_
    rotate_left
    · (intro w; dsimp only [w10o9]; go_simp; try (with_reducible rfl))
    (try simp only [Act.put, List.setIfInBounds_toArray, List.set_cons_zero, List.set_cons_succ])
    refine wpAny_ready (rs := [10]) (by kernel_rfl) (by simp) ?_
    refine AllReady.cons (o := w10o10) rfl (fun K hK => ?_) AllReady.nil
    rw [if_pos (by rfl)]
    refine wp_store_is _ _ _ rfl ⟨p, 1, none⟩ rfl (.slice (some ⟨g, 0, none⟩) (n + 1) cap) rfl _ HS10.out ?_
    refine hK _ _ ?_
    clear hK K
    (try simp only [Act.put, List.setIfInBounds_toArray, List.set_cons_zero, List.set_cons_succ])
    refine wpAny_done (by kernel_rfl) ?_ _
    go_wp2_with fail
    go_ret
    exact ⟨rfl, _, H8.out, B8.out, K8.out⟩
  · rw [if_pos (by rfl)]
    refine wp_load_is _ _ rfl ⟨w1.heap.size, 0, none⟩ rfl (.agg (wrCells x).toArray) HL5.out ?_
    refine hK _ _ ?_
    clear hK K
    (try simp only [Act.put, List.setIfInBounds_toArray, List.set_cons_zero, List.set_cons_succ])
    refine wpAny_ready (rs := [4, 6]) (by kernel_rfl) (by simp) ?_
    refine AllReady.cons (o := w10o4) rfl (fun K hK => ?_) (AllReady.cons (o := w10o6) rfl (fun K hK => ?_) AllReady.nil)
    · rw [if_pos (by rfl)]
      refine wp_load_is _ _ rfl ⟨p, 1, none⟩ rfl (.slice A n c) HL4a.out ?_
      refine hK _ _ ?_
      clear hK K
      (try simp only [Act.put, List.setIfInBounds_toArray, List.set_cons_zero, List.set_cons_succ])
      refine wpAny_ready (rs := [6]) (by kernel_rfl) (by simp) ?_
      refine AllReady.cons (o := w10o6) rfl (fun K hK => ?_) AllReady.nil
      rw [if_pos (by rfl)]
      refine wp_build_is _ _ _ rfl #[(0, .agg (wrCells x).toArray)] (by simp [Act.eval]) (.slice (some ⟨W4.heap.size, 0, none⟩) 1 1) W5 HB6.out ?_
      refine hK _ _ ?_
      clear hK K
      (try simp only [Act.put, List.setIfInBounds_toArray, List.set_cons_zero, List.set_cons_succ])
      refine wpAny_ready (rs := [7]) (by kernel_rfl) (by simp) ?_
      refine AllReady.cons (o := w10o7) rfl (fun K hK => ?_) AllReady.nil
      refine step_append_run rfl _ _ 56 rfl (.slice A n c) (.slice (some ⟨W4.heap.size, 0, none⟩) 1 1) rfl rfl _ W6 HR6.out ?_
      refine hK _ _ ?_
      clear hK K
      (try simp only [Act.put, List.setIfInBounds_toArray, List.set_cons_zero, List.set_cons_succ])
      refine wpAny_take (i := 8) (oi := w10o8) (v := ?_) rfl (by kernel_rfl) (by kernel_rfl) (by kernel_rfl) (fun _ _ _ h => h) (Or.inl ⟨by rfl, ?_⟩) ?_
      rotate_left
      · (intro w; dsimp only [w10o8]; go_simp; try (with_reducible rfl))
      (try simp only [Act.put, List.setIfInBounds_toArray, List.set_cons_zero, List.set_cons_succ])
      refine wpAny_take (i := 9) (oi := w10o9) (v := ?_) rfl (by kernel_rfl) (by kernel_rfl) (by kernel_rfl) (fun _ _ _ h => h) (Or.inl ⟨by rfl, ?_⟩) ?_
      rotate_left
      · (intro w; dsimp only [w10o9]; go_simp; try (with_reducible rfl))
      (try simp only [Act.put, List.setIfInBounds_toArray, List.set_cons_zero, List.set_cons_succ])
      refine wpAny_ready (rs := [10]) (by kernel_rfl) (by simp) ?_
      refine AllReady.cons (o := w10o10) rfl (fun K hK => ?_) AllReady.nil
      rw [if_pos (by rfl)]
      refine wp_store_is _ _ _ rfl ⟨p, 1, none⟩ rfl (.slice (some ⟨g, 0, none⟩) (n + 1) cap) rfl _ HS10.out ?_
      refine hK _ _ ?_
      clear hK K
      (try simp only [Act.put, List.setIfInBounds_toArray, List.set_cons_zero, List.set_cons_succ])
      refine wpAny_done (by kernel_rfl) ?_ _
      go_wp2_with fail
      go_ret
      exact ⟨rfl, _, H8.out, B8.out, K8.out⟩
    · rw [if_pos (by rfl)]
      refine wp_build_is _ _ _ rfl #[(0, .agg (wrCells x).toArray)] (by simp [Act.eval]) (.slice (some ⟨W4.heap.size, 0, none⟩) 1 1) W5 HB6.out ?_
      refine hK _ _ ?_
      clear hK K
      (try simp only [Act.put, List.setIfInBounds_toArray, List.set_cons_zero, List.set_cons_succ])
      refine wpAny_ready (rs := [4]) (by kernel_rfl) (by simp) ?_
      refine AllReady.cons (o := w10o4) rfl (fun K hK => ?_) AllReady.nil
      rw [if_pos (by rfl)]
      refine wp_load_is _ _ rfl ⟨p, 1, none⟩ rfl (.slice A n c) HL4b.out ?_
      refine hK _ _ ?_
      clear hK K
      (try simp only [Act.put, List.setIfInBounds_toArray, List.set_cons_zero, List.set_cons_succ])
      refine wpAny_ready (rs := [7]) (by kernel_rfl) (by simp) ?_
      refine AllReady.cons (o := w10o7) rfl (fun K hK => ?_) AllReady.nil
      refine step_append_run rfl _ _ 56 rfl (.slice A n c) (.slice (some ⟨W4.heap.size, 0, none⟩) 1 1) rfl rfl _ W6 HR6.out ?_
      refine hK _ _ ?_
      clear hK K
      (try simp only [Act.put, List.setIfInBounds_toArray, List.set_cons_zero, List.set_cons_succ])
      refine wpAny_take (i := 8) (oi := w10o8) (v := ?_) rfl (by kernel_rfl) (by kernel_rfl) (by kernel_rfl) (fun _ _ _ h => h) (Or.inl ⟨by rfl, ?_⟩) ?_
      rotate_left
      · (intro w; dsimp only [w10o8]; go_simp; try (with_reducible rfl))
      (try simp only [Act.put, List.setIfInBounds_toArray, List.set_cons_zero, List.set_cons_succ])
      refine wpAny_take (i := 9) (oi := w10o9) (v := ?_) rfl (by kernel_rfl) (by kernel_rfl) (by kernel_rfl) (fun _ _ _ h => h) (Or.inl ⟨by rfl, ?_⟩) ?_
      rotate_left
      · (intro w; dsimp only [w10o9]; go_simp; try (with_reducible rfl))
      (try simp only [Act.put, List.setIfInBounds_toArray, List.set_cons_zero, List.set_cons_succ])
      refine wpAny_ready (rs := [10]) (by kernel_rfl) (by simp) ?_
      refine AllReady.cons (o := w10o10) rfl (fun K hK => ?_) AllReady.nil
      rw [if_pos (by rfl)]
      refine wp_store_is _ _ _ rfl ⟨p, 1, none⟩ rfl (.slice (some ⟨g, 0, none⟩) (n + 1) cap) rfl _ HS10.out ?_
      refine hK _ _ ?_
      clear hK K
      (try simp only [Act.put, List.setIfInBounds_toArray, List.set_cons_zero, List.set_cons_succ])
      refine wpAny_done (by kernel_rfl) ?_ _
      go_wp2_with fail
      go_ret
      exact ⟨rfl, _, H8.out, B8.out, K8.out⟩

end Go.Proofs.YtbigpapniloknaaDoor
