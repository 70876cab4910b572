/- Add and Seen, the program's and the document's. Written by wip/tools/gen_tabe.py. -/
import Derived.Test.YthoahengdajpcaaTabD
namespace Go.Proofs.Ythoahengdajpcaa
open Go.RowKit
set_option maxRecDepth 100000

abbrev ad7o0 : Oper := { dst := some 40, op := Op.move (Operand.tmp 1), type := 3, pos := "table.go:38", after := #[], guard := none }
abbrev ad7o1 : Oper := { dst := some 41, op := Op.move (Operand.tmp 2), type := 3, pos := "table.go:38", after := #[], guard := none }
abbrev ad7o2 : Oper := { dst := some 42, op := Op.fieldAddr 28 (Operand.tmp 3) 1, type := 0, pos := "table.go:38", after := #[], guard := none }
abbrev ad7o3 : Oper := { dst := some 43, op := Op.indexAddr 25 (Operand.tmp 42) (Operand.tmp 40), type := 0, pos := "table.go:38", after := #[{ on := 2, ground := Ground.data }, { on := 0, ground := Ground.data }], guard := none }
abbrev ad7o4 : Oper := { dst := some 44, op := Op.indexAddr 24 (Operand.tmp 43) (Operand.tmp 41), type := 0, pos := "table.go:38", after := #[{ on := 3, ground := Ground.data }, { on := 1, ground := Ground.data }], guard := none }
abbrev ad7o5 : Oper := { dst := some 45, op := Op.load 22 (Operand.tmp 44), type := 22, pos := "table.go:38", after := #[{ on := 4, ground := Ground.data }], guard := none }
abbrev ad7o6 : Oper := { dst := some 46, op := Op.binOp BinOp.add 22 (Operand.tmp 45) (Operand.const (Value.int IntKind.u32 1)) 22, type := 22, pos := "table.go:38", after := #[{ on := 5, ground := Ground.data }], guard := none }
abbrev ad7o7 : Oper := { dst := some 47, op := Op.fieldAddr 28 (Operand.tmp 3) 1, type := 0, pos := "table.go:38", after := #[], guard := none }
abbrev ad7o8 : Oper := { dst := some 48, op := Op.indexAddr 25 (Operand.tmp 47) (Operand.tmp 40), type := 0, pos := "table.go:38", after := #[{ on := 7, ground := Ground.data }, { on := 0, ground := Ground.data }], guard := none }
abbrev ad7o9 : Oper := { dst := some 49, op := Op.indexAddr 24 (Operand.tmp 48) (Operand.tmp 41), type := 0, pos := "table.go:38", after := #[{ on := 8, ground := Ground.data }, { on := 1, ground := Ground.data }, { on := 0, ground := Ground.phase }, { on := 1, ground := Ground.phase }, { on := 2, ground := Ground.phase }, { on := 3, ground := Ground.phase }, { on := 4, ground := Ground.phase }, { on := 5, ground := Ground.phase }, { on := 6, ground := Ground.phase }], guard := none }
abbrev ad7o10 : Oper := { dst := none, op := Op.store 22 (Operand.tmp 49) (Operand.tmp 46), type := 0, pos := "table.go:38", after := #[{ on := 9, ground := Ground.data }, { on := 6, ground := Ground.data }, { on := 0, ground := Ground.phase }, { on := 1, ground := Ground.phase }, { on := 2, ground := Ground.phase }, { on := 3, ground := Ground.phase }, { on := 4, ground := Ground.phase }, { on := 5, ground := Ground.phase }, { on := 6, ground := Ground.phase }], guard := none }
abbrev ra8o0 : Oper := { dst := some 44, op := Op.move (Operand.tmp 1), type := 3, pos := "ref.go:28", after := #[], guard := none }
abbrev ra8o1 : Oper := { dst := some 45, op := Op.move (Operand.tmp 2), type := 3, pos := "ref.go:28", after := #[], guard := none }
abbrev ra8o2 : Oper := { dst := some 46, op := Op.fieldAddr 34 (Operand.tmp 3) 1, type := 0, pos := "ref.go:28", after := #[], guard := none }
abbrev ra8o3 : Oper := { dst := some 47, op := Op.indexAddr 32 (Operand.tmp 46) (Operand.tmp 44), type := 0, pos := "ref.go:28", after := #[{ on := 2, ground := Ground.data }, { on := 0, ground := Ground.data }], guard := none }
abbrev ra8o4 : Oper := { dst := some 48, op := Op.indexAddr 31 (Operand.tmp 47) (Operand.tmp 45), type := 0, pos := "ref.go:28", after := #[{ on := 3, ground := Ground.data }, { on := 1, ground := Ground.data }], guard := none }
abbrev ra8o5 : Oper := { dst := some 49, op := Op.load 22 (Operand.tmp 48), type := 22, pos := "ref.go:28", after := #[{ on := 4, ground := Ground.data }], guard := none }
abbrev ra8o6 : Oper := { dst := some 50, op := Op.binOp BinOp.add 22 (Operand.tmp 49) (Operand.const (Value.int IntKind.u32 1)) 22, type := 22, pos := "ref.go:28", after := #[{ on := 5, ground := Ground.data }], guard := none }
abbrev ra8o7 : Oper := { dst := some 51, op := Op.fieldAddr 34 (Operand.tmp 3) 1, type := 0, pos := "ref.go:28", after := #[], guard := none }
abbrev ra8o8 : Oper := { dst := some 52, op := Op.indexAddr 32 (Operand.tmp 51) (Operand.tmp 44), type := 0, pos := "ref.go:28", after := #[{ on := 7, ground := Ground.data }, { on := 0, ground := Ground.data }], guard := none }
abbrev ra8o9 : Oper := { dst := some 53, op := Op.indexAddr 31 (Operand.tmp 52) (Operand.tmp 45), type := 0, pos := "ref.go:28", after := #[{ on := 8, ground := Ground.data }, { on := 1, ground := Ground.data }, { on := 0, ground := Ground.phase }, { on := 1, ground := Ground.phase }, { on := 2, ground := Ground.phase }, { on := 3, ground := Ground.phase }, { on := 4, ground := Ground.phase }, { on := 5, ground := Ground.phase }, { on := 6, ground := Ground.phase }], guard := none }
abbrev ra8o10 : Oper := { dst := none, op := Op.store 22 (Operand.tmp 53) (Operand.tmp 50), type := 0, pos := "ref.go:28", after := #[{ on := 9, ground := Ground.data }, { on := 6, ground := Ground.data }, { on := 0, ground := Ground.phase }, { on := 1, ground := Ground.phase }, { on := 2, ground := Ground.phase }, { on := 3, ground := Ground.phase }, { on := 4, ground := Ground.phase }, { on := 5, ground := Ground.phase }, { on := 6, ground := Ground.phase }], guard := none }

theorem results_cell_row2 {P : Program} {fn : Func} {p q : Tmp} {ty : TypeId} (h : fn.results = #[.cell p ty, .tmp q]) (tmps : Array Value) (w : World) (g : Nat) (t : TypeId) (cs : Array Value) (fr : Nat × Nat) (d : TypeDesc)
    (hp : tmps.getD p undef = .pointer (some ⟨g, 0, none⟩)) (hg : w.heap[g]? = some (.cells cs t fr))
    (hu : P.underlying ty = some d) (hd : (match d with | .struct _ | .array _ _ => true | _ => false) = true) (hi : (P.info? ty).map (·.size) = some cs.size) (v : Value) (hv : tmps.getD q undef = v) :
    (results fn tmps).run P w = .ok (.tuple #[.agg cs, v]) w := by
  rw [results_cell_tmp h, hp, hv]
  simp only [asAddr, Sem.run_pure, Result.andThen_ok, run_loadVar_row w g t ty cs fr d hg hu hd hi]
theorem wp_worldT {P : Program} {c : Code} {Q : Exit → Act → World → Prop} {a : Act} {w w' : World} (h : w' = w) (k : c.wp P Q a w') : c.wp P Q a w := by
  subst h; exact k
theorem wp_load_isT {P : Program} {o : Oper} {a : Act} {w : World} {K : Act → World → Prop} {Q : Exit → Act → World → Prop} (ty : TypeId) (x : Operand) (ho : o.op = .load ty x)
    (ad : Addr) (hx : a.eval x = .pointer (some ad)) (v : Value) (hrun : (Instr.loadAt ty (.pointer (some ad))).run P w = .ok v w) (h : K (a.put o.dst v) w) : o.wp P a w K Q := by
  unfold Oper.wp execOp
  simp only [ho, hx, hrun, Sem.run_bind, Sem.run_pure, Result.andThen_ok]
  exact h
theorem wp_store_isT {P : Program} {o : Oper} {a : Act} {w : World} {K : Act → World → Prop} {Q : Exit → Act → World → Prop} (ty : TypeId) (x y : Operand) (ho : o.op = .store ty x y)
    (ad : Addr) (hx : a.eval x = .pointer (some ad)) (v : Value) (hy : a.eval y = v) (w' : World) (hrun : (Instr.storeAt ty (.pointer (some ad)) v).run P w = .ok () w') (h : K (a.put o.dst undef) w') : o.wp P a w K Q := by
  unfold Oper.wp execOp
  simp only [ho, hx, hy, hrun, Sem.run_bind, Sem.run_pure, Result.andThen_ok]
  exact h
theorem run_load_u32 (w : World) (a : Addr) (v : Value) (hc : w.cell? a = some v) : (Instr.loadAt 22 (.pointer (some a))).run Try.prog w = .ok v w := by
  simp [Instr.loadAt, Instr.sureAddr, loadVar, hc]
theorem run_store_u32 (w : World) (b o : Nat) (v : Value) (i : Int) (hc : w.cell? ⟨b, o, none⟩ = some v) (hf : w.frozen? ⟨b, o, none⟩ = false) : (Instr.storeAt 22 (.pointer (some ⟨b, o, none⟩)) (.int .u32 i)).run Try.prog w = .ok () (w.setCell ⟨b, o, none⟩ (.int .u32 i)) := by
  have h := run_storeCells_cells (P := Try.prog) b o [.int .u32 i] 0 w (fun j hj => by
    obtain rfl : j = 0 := by simpa using hj
    simp [hc]) (fun j hj => by
    obtain rfl : j = 0 := by simpa using hj
    simpa using hf) (fun u hu => by rw [List.mem_singleton.1 hu]; rfl)
  simp only [Nat.add_zero] at h
  simpa [Instr.storeAt, Instr.sureAddr, storeVar, Value.cells, World.setCells] using h

/-- What Add answers: counts, and what is wrong. -/
def addT (f : Nat → Nat) (c k : Int) : (Nat → Nat) × Nat :=
  if c < 0 ∨ 16 ≤ c then (f, 12) else if k < 0 ∨ 8 ≤ k then (f, 13) else
  if f (8 * (c.toNat + 1) + k.toNat) = 4294967295 ∨ f k.toNat = 4294967295 then (f, 9) else
  (upd (upd f (8 * (c.toNat + 1) + k.toNat) (f (8 * (c.toNat + 1) + k.toNat) + 1)) k.toNat (f k.toNat + 1), 0)
def seenT (L r : Nat) : Nat × Nat := if r ≤ L then (L, 14) else (r, 0)
theorem addT_fits {f : Nat → Nat} (h : Fits f) (c k : Int) : Fits (addT f c k).1 := by
  unfold addT
  split
  · exact h
  · split
    · exact h
    · split
      · exact h
      · rename_i h1
        have a := h (8 * (c.toNat + 1) + k.toNat)
        have b := h k.toNat
        exact (h.upd _ _ (by omega)).upd _ _ (by omega)
theorem upd_comm {f : Nat → Nat} {i j a b : Nat} (h : i ≠ j) : upd (upd f i a) j b = upd (upd f j b) i a := by
  funext x
  unfold upd
  by_cases h1 : x = j
  · subst h1
    rw [if_pos rfl, if_neg (fun e => h e.symm), if_pos rfl]
  · rw [if_neg h1, if_neg h1]

/-- A table in its box, and the box of what is answered. -/
def Two (T : TypeId) (w W : World) (a b : List Value) : Prop := Blk W w.heap.size T a ∧ Blk W (w.heap.size + 1) T b ∧ Below w.heap.size w W
theorem Two.new (T : TypeId) (w : World) (a b : List Value) : Two T w ((w.alloc (.cells a.toArray T)).alloc (.cells b.toArray T)) a b := by
  refine ⟨(show Blk _ _ _ _ from heap_alloc_new w _).alloc _, ?_, ((Below.refl _ _).alloc (Nat.le_refl _) _).alloc (by simp) _⟩
  have h := (show Blk _ _ _ _ from heap_alloc_new (w.alloc (.cells a.toArray T)) (.cells b.toArray T))
  rw [World.size_alloc] at h
  exact h
theorem Two.drew {T : TypeId} {w W : World} {a b : List Value} (h : Two T w W a b) : Two T w W.drew a b := ⟨h.1, h.2.1, h.2.2.drew⟩
theorem Two.put {T : TypeId} {w W : World} {a b : List Value} (h : Two T w W a b) (i : Nat) (v : Value) : Two T w (W.setCell ⟨w.heap.size, i, none⟩ v) (a.set i v) b :=
  ⟨h.1.set_ i v, h.2.1.far (show w.heap.size + 1 ≠ w.heap.size by omega) v, h.2.2.setCell (p := ⟨w.heap.size, i, none⟩) (Nat.le_refl _) v⟩
theorem Two.fin {T : TypeId} {w W : World} {a b : List Value} (h : Two T w W a b) (c : List Value) (hc : c.length = b.length) : Two T w (W.setCells (w.heap.size + 1) 0 c.toArray.toList) a c :=
  ⟨h.1.farT (show w.heap.size ≠ w.heap.size + 1 by omega) _ _, h.2.1.setWhole c hc, Below.setCellsT h.2.2 (by omega) _ _⟩

set_option maxHeartbeats 8000000 in
theorem tab_Add_bad (f : Nat → Nat) (L : Nat) (c k : Int) (e : Nat) (w : World) (h : (c < 0 ∨ 16 ≤ c) ∧ e = 12 ∨ (0 ≤ c ∧ c < 16) ∧ (k < 0 ∨ 8 ≤ k) ∧ e = 13) :
    Calls Try.prog 11 #[.agg (tcs f L).toArray, .int .i64 c, .int .i64 k] w fun x w' => x = .returned (.tuple #[.agg (tcs f L).toArray, .int .i64 (e : Int)]) ∧ Below w.heap.size w w' := by
  have hsa : (Try.prog.info? 28).map (·.size) = some (tcs f L).length := by rw [tcs_len]; exact sizeTab
  have ha1 : (tcs f L).toArray.all (·.oneCell') = true := all_oneCell_toArray (tcs_one f L)
  have hal := tcs_len f L
  obtain ⟨a, ha⟩ : ∃ a, a = tcs f L := ⟨_, rfl⟩
  rw [← ha] at hsa ha1 hal ⊢
  clear ha
  have hsa2 : (Try.prog.info? 28).map (·.size) = some a.toArray.size := by rw [List.size_toArray]; exact hsa
  have hz := zeroTab
  obtain ⟨Z, hZ⟩ : ∃ Z, Z = tcs (fun _ => 0) 0 := ⟨_, rfl⟩
  have hZl : Z.length = 137 := by rw [hZ]; exact tcs_len _ _
  rw [← hZ] at hz
  clear hZ
  have TW := Lib.hid (Two.new 28 w a Z)
  have TH : Hid (((w.alloc (.cells a.toArray 28)).alloc (.cells Z.toArray 28)).there (w.heap.size + 1) 0 a.toArray.size) := Lib.hid (TW.out.2.1.thereT (by rw [hZl, show a.toArray.size = 137 by rw [List.size_toArray, hal]]; omega))
  have FIN := Lib.hid (TW.out.fin a (by rw [hal, hZl]))
  have RA := Lib.hid TW.out.1.whole
  clear hal hZl
  rcases h with ⟨h, rfl⟩ | ⟨h0, h, rfl⟩
  · rcases h with h | h
    · have d1 : decide (c < 0) = true := decide_eq_true h
      clear h
      go_enter Try.func11, Try.ntmps11
      go_wp2_with (first
        | (refine wpList_load_mid rfl _ _ rfl w.heap.size 0 rfl a _ RA.out Try.underlying28 rfl hsa ?_)
        | (refine wpList_store_mid rfl _ _ _ rfl (w.heap.size + 1) 0 a.toArray rfl rfl TH.out hsa2 ha1 ?_))
      refine bodyPost_ret (v := .tuple #[.agg a.toArray, .int .i64 12]) ?_ rfl ⟨rfl, FIN.out.2.2⟩
      exact results_cell_row2 rfl _ _ (w.heap.size + 1) _ a.toArray (0, 0) _ rfl FIN.out.2.1 Try.underlying28 rfl hsa2 _ rfl
    · have d1 : decide (c < 0) = false := decide_eq_false (by omega)
      have d2 : decide (16 ≤ c) = true := decide_eq_true (by omega)
      clear h
      go_enter Try.func11, Try.ntmps11
      go_wp2_with (first
        | (refine wpList_load_mid rfl _ _ rfl w.heap.size 0 rfl a _ RA.out Try.underlying28 rfl hsa ?_)
        | (refine wpList_store_mid rfl _ _ _ rfl (w.heap.size + 1) 0 a.toArray rfl rfl TH.out hsa2 ha1 ?_))
      refine bodyPost_ret (v := .tuple #[.agg a.toArray, .int .i64 12]) ?_ rfl ⟨rfl, FIN.out.2.2⟩
      exact results_cell_row2 rfl _ _ (w.heap.size + 1) _ a.toArray (0, 0) _ rfl FIN.out.2.1 Try.underlying28 rfl hsa2 _ rfl
  · have d1 : decide (c < 0) = false := decide_eq_false (by omega)
    have d2 : decide (16 ≤ c) = false := decide_eq_false (by omega)
    clear h0
    rcases h with h | h
    · have d3 : decide (k < 0) = true := decide_eq_true h
      clear h
      go_enter Try.func11, Try.ntmps11
      go_wp2_with (first
        | (refine wpList_load_mid rfl _ _ rfl w.heap.size 0 rfl a _ RA.out Try.underlying28 rfl hsa ?_)
        | (refine wpList_store_mid rfl _ _ _ rfl (w.heap.size + 1) 0 a.toArray rfl rfl TH.out hsa2 ha1 ?_))
      refine bodyPost_ret (v := .tuple #[.agg a.toArray, .int .i64 13]) ?_ rfl ⟨rfl, FIN.out.2.2⟩
      exact results_cell_row2 rfl _ _ (w.heap.size + 1) _ a.toArray (0, 0) _ rfl FIN.out.2.1 Try.underlying28 rfl hsa2 _ rfl
    · have d3 : decide (k < 0) = false := decide_eq_false (by omega)
      have d4 : decide (8 ≤ k) = true := decide_eq_true (by omega)
      clear h
      go_enter Try.func11, Try.ntmps11
      go_wp2_with (first
        | (refine wpList_load_mid rfl _ _ rfl w.heap.size 0 rfl a _ RA.out Try.underlying28 rfl hsa ?_)
        | (refine wpList_store_mid rfl _ _ _ rfl (w.heap.size + 1) 0 a.toArray rfl rfl TH.out hsa2 ha1 ?_))
      refine bodyPost_ret (v := .tuple #[.agg a.toArray, .int .i64 13]) ?_ rfl ⟨rfl, FIN.out.2.2⟩
      exact results_cell_row2 rfl _ _ (w.heap.size + 1) _ a.toArray (0, 0) _ rfl FIN.out.2.1 Try.underlying28 rfl hsa2 _ rfl

set_option maxHeartbeats 8000000 in
theorem tab_Add_full (f : Nat → Nat) (L c k x y : Nat) (w : World) (hc : c < 16) (hk : k < 8) (hX : x = f (8 * (c + 1) + k)) (hY : y = f k) (h : x = 4294967295 ∨ y = 4294967295) :
    Calls Try.prog 11 #[.agg (tcs f L).toArray, .int .i64 (c : Int), .int .i64 (k : Int)] w fun x w' => x = .returned (.tuple #[.agg (tcs f L).toArray, .int .i64 9]) ∧ Below w.heap.size w w' := by
  have hsa : (Try.prog.info? 28).map (·.size) = some (tcs f L).length := by rw [tcs_len]; exact sizeTab
  have ha1 : (tcs f L).toArray.all (·.oneCell') = true := all_oneCell_toArray (tcs_one f L)
  have hal := tcs_len f L
  have d1 : decide ((c : Int) < 0) = false := decide_eq_false (by omega)
  have d2 : decide ((16 : Int) ≤ (c : Int)) = false := decide_eq_false (by omega)
  have d3 : decide ((k : Int) < 0) = false := decide_eq_false (by omega)
  have d4 : decide ((8 : Int) ≤ (k : Int)) = false := decide_eq_false (by omega)
  have hci : (c : Int) < 16 := by omega
  have hki : (k : Int) < 8 := by omega
  have hz := zeroTab
  obtain ⟨Z, hZ⟩ : ∃ Z, Z = tcs (fun _ => 0) 0 := ⟨_, rfl⟩
  have hZl : Z.length = 137 := by rw [hZ]; exact tcs_len _ _
  rw [← hZ] at hz
  clear hZ
  have hx : (w.alloc (.cells (tcs f L).toArray 28) |>.alloc (.cells Z.toArray 28)).cell? ⟨w.heap.size, 8 + c * 8 + k, none⟩ = some (.int .u32 (x : Int)) := by
    rw [(Two.new 28 w (tcs f L) Z).1.cell, tcs_get f L _ (by omega), hX, show 8 * (c + 1) + k = 8 + c * 8 + k from by omega]
  have hy : (w.alloc (.cells (tcs f L).toArray 28) |>.alloc (.cells Z.toArray 28)).cell? ⟨w.heap.size, k, none⟩ = some (.int .u32 (y : Int)) := by
    rw [(Two.new 28 w (tcs f L) Z).1.cell, tcs_get f L _ (by omega), hY]
  obtain ⟨a, ha⟩ : ∃ a, a = tcs f L := ⟨_, rfl⟩
  rw [← ha] at hsa ha1 hal hx hy ⊢
  clear ha hX hY
  have hsa2 : (Try.prog.info? 28).map (·.size) = some a.toArray.size := by rw [List.size_toArray]; exact hsa
  have TW := Lib.hid (Two.new 28 w a Z)
  have TH : Hid (((w.alloc (.cells a.toArray 28)).alloc (.cells Z.toArray 28)).there (w.heap.size + 1) 0 a.toArray.size) := Lib.hid (TW.out.2.1.thereT (by rw [hZl, show a.toArray.size = 137 by rw [List.size_toArray, hal]]; omega))
  have FIN := Lib.hid (TW.out.fin a (by rw [hal, hZl]))
  have RA := Lib.hid TW.out.1.whole
  clear hal hZl hc hk
  by_cases q : x = 4294967295
  · have q1 : ((x : Int) == 4294967295) = true := by simp; omega
    clear q h
    go_enter Try.func11, Try.ntmps11
    go_wp2_with (first
      | (refine wpList_load_mid rfl _ _ rfl w.heap.size 0 rfl a _ RA.out Try.underlying28 rfl hsa ?_)
      | (refine wpList_store_mid rfl _ _ _ rfl (w.heap.size + 1) 0 a.toArray rfl rfl TH.out hsa2 ha1 ?_))
    refine bodyPost_ret (v := .tuple #[.agg a.toArray, .int .i64 9]) ?_ rfl ⟨rfl, FIN.out.2.2⟩
    exact results_cell_row2 rfl _ _ (w.heap.size + 1) _ a.toArray (0, 0) _ rfl FIN.out.2.1 Try.underlying28 rfl hsa2 _ rfl
  · have q1 : ((x : Int) == 4294967295) = false := by simp; omega
    have q2 : ((y : Int) == 4294967295) = true := by simp; omega
    clear q h
    go_enter Try.func11, Try.ntmps11
    go_wp2_with (first
      | (refine wpList_load_mid rfl _ _ rfl w.heap.size 0 rfl a _ RA.out Try.underlying28 rfl hsa ?_)
      | (refine wpList_store_mid rfl _ _ _ rfl (w.heap.size + 1) 0 a.toArray rfl rfl TH.out hsa2 ha1 ?_))
    refine bodyPost_ret (v := .tuple #[.agg a.toArray, .int .i64 9]) ?_ rfl ⟨rfl, FIN.out.2.2⟩
    exact results_cell_row2 rfl _ _ (w.heap.size + 1) _ a.toArray (0, 0) _ rfl FIN.out.2.1 Try.underlying28 rfl hsa2 _ rfl

set_option maxHeartbeats 16000000 in
theorem tab_Add_ok (f : Nat → Nat) (L c k x y : Nat) (w : World) (hf : Fits f) (hc : c < 16) (hk : k < 8) (hX : x = f (8 * (c + 1) + k)) (hY : y = f k) (h1 : x ≠ 4294967295) (h2 : y ≠ 4294967295) :
    Calls Try.prog 11 #[.agg (tcs f L).toArray, .int .i64 (c : Int), .int .i64 (k : Int)] w fun e w' => e = .returned (.tuple #[.agg (tcs (upd (upd f (8 * (c + 1) + k) (x + 1)) k (y + 1)) L).toArray, .int .i64 0]) ∧ Below w.heap.size w w' := by
  have d1 : decide ((c : Int) < 0) = false := decide_eq_false (by omega)
  have d2 : decide ((16 : Int) ≤ (c : Int)) = false := decide_eq_false (by omega)
  have d3 : decide ((k : Int) < 0) = false := decide_eq_false (by omega)
  have d4 : decide ((8 : Int) ≤ (k : Int)) = false := decide_eq_false (by omega)
  have hci : (c : Int) < 16 := by omega
  have hki : (k : Int) < 8 := by omega
  have hz := zeroTab
  obtain ⟨Z, hZ⟩ : ∃ Z, Z = tcs (fun _ => 0) 0 := ⟨_, rfl⟩
  have hZl : Z.length = 137 := by rw [hZ]; exact tcs_len _ _
  rw [← hZ] at hz
  clear hZ
  have q1 : ((x : Int) == 4294967295) = false := by simp; omega
  have q2 : ((y : Int) == 4294967295) = false := by simp; omega
  have hxb : x < 4294967296 := by rw [hX]; exact hf _
  have hyb : y < 4294967296 := by rw [hY]; exact hf _
  have wx : IntKind.u32.wrap ((x : Int) + 1) = ((x + 1 : Nat) : Int) := by simp [IntKind.wrap, IntKind.bits, IntKind.signed]; omega
  have wy : IntKind.u32.wrap ((y : Int) + 1) = ((y + 1 : Nat) : Int) := by simp [IntKind.wrap, IntKind.bits, IntKind.signed]; omega
  have hx : (w.alloc (.cells (tcs f L).toArray 28) |>.alloc (.cells Z.toArray 28)).cell? ⟨w.heap.size, 8 + c * 8 + k, none⟩ = some (.int .u32 (x : Int)) := by
    rw [(Two.new 28 w (tcs f L) Z).1.cell, tcs_get f L _ (by omega), hX, show 8 * (c + 1) + k = 8 + c * 8 + k from by omega]
  have hy : (w.alloc (.cells (tcs f L).toArray 28) |>.alloc (.cells Z.toArray 28)).cell? ⟨w.heap.size, k, none⟩ = some (.int .u32 (y : Int)) := by
    rw [(Two.new 28 w (tcs f L) Z).1.cell, tcs_get f L _ (by omega), hY]
  obtain ⟨W0, hW0⟩ : ∃ W0, W0 = (w.alloc (.cells (tcs f L).toArray 28)).alloc (.cells Z.toArray 28) := ⟨_, rfl⟩
  have TW : Hid (Two 28 w W0 (tcs f L) Z) := Lib.hid (by rw [hW0]; exact Two.new 28 w (tcs f L) Z)
  have hm : (tcs f L).set (8 + c * 8 + k) (.int .u32 ((x + 1 : Nat) : Int)) = tcs (upd f (8 + c * 8 + k) (x + 1)) L := tcs_set f L _ _ (by omega)
  have hn : (tcs (upd f (8 + c * 8 + k) (x + 1)) L).set (k) (.int .u32 ((y + 1 : Nat) : Int)) = tcs (upd (upd f (8 + c * 8 + k) (x + 1)) (k) (y + 1)) L := tcs_set _ L _ _ (by omega)
  have hne : (k) ≠ (8 + c * 8 + k) := by omega
  have hg2 : (tcs (upd f (8 + c * 8 + k) (x + 1)) L)[k]? = some (.int .u32 (y : Int)) := by
    rw [tcs_get _ L _ (by omega)]
    unfold upd
    rw [if_neg hne]
    rw [hY]
  have he : tcs (upd (upd f (8 + c * 8 + k) (x + 1)) (k) (y + 1)) L = tcs (upd (upd f (8 * (c + 1) + k) (x + 1)) k (y + 1)) L := by
    rw [show 8 * (c + 1) + k = 8 + c * 8 + k from by omega]
  have HZ := Lib.hid hZl
  rw [← he]
  obtain ⟨A0, hA0⟩ : ∃ a, a = tcs f L := ⟨_, rfl⟩
  obtain ⟨A1, hA1⟩ : ∃ a, a = tcs (upd f (8 + c * 8 + k) (x + 1)) L := ⟨_, rfl⟩
  have hal : (tcs (upd (upd f (8 + c * 8 + k) (x + 1)) (k) (y + 1)) L).length = 137 := tcs_len _ _
  have ha1 := tcs_one (upd (upd f (8 + c * 8 + k) (x + 1)) (k) (y + 1)) L
  obtain ⟨a, ha⟩ : ∃ a, a = tcs (upd (upd f (8 + c * 8 + k) (x + 1)) (k) (y + 1)) L := ⟨_, rfl⟩
  rw [← hA1] at hm hn hg2
  rw [← ha] at hn hal ha1 ⊢
  rw [← hA0] at hm hx hy hW0 TW ⊢
  have HM := Lib.hid hm
  have HN := Lib.hid hn
  have HG2 := Lib.hid hg2
  have HNE := Lib.hid hne
  have HL := Lib.hid hal
  have HO := Lib.hid ha1
  have HX1 : Hid (W0.cell? ⟨w.heap.size, 8 + c * 8 + k, none⟩ = some (.int .u32 (x : Int))) := Lib.hid (by rw [hW0]; exact hx)
  have HY1 : Hid (W0.cell? ⟨w.heap.size, k, none⟩ = some (.int .u32 (y : Int))) := Lib.hid (by rw [hW0]; exact hy)
  clear hm hn hg2 hA0 hA1 ha hX hY hxb hyb he hal ha1 hZl hf h1 h2 hc hk hne
  go_enter Try.func11, Try.ntmps11
  go_upto_region 7 with fail
  rw [← hW0]
  clear hW0 hx hy
  refine wp_region_noPanic ?_
  refine wp_region_held_drew (S := fun _ => True) (by kernel_rfl) ?_ (fun hHeld => ?_)
  · exact trivial
  refine wpAnyH_take (i := 0) (oi := ad7o0) (v := ?_) rfl (by kernel_rfl) (by kernel_rfl) (by kernel_rfl) (fun _ _ _ h => h) (Or.inl ⟨by rfl, ?_⟩) (by assumption) ?_
  rotate_left
  · (intro w hSw; (try dsimp only at hSw); (try dsimp only [ad7o0]); go_simp; try (with_reducible rfl))
  (try simp only [Act.put, List.setIfInBounds_toArray, List.set_cons_zero, List.set_cons_succ])
  refine wpAnyH_take (i := 1) (oi := ad7o1) (v := ?_) rfl (by kernel_rfl) (by kernel_rfl) (by kernel_rfl) (fun _ _ _ h => h) (Or.inl ⟨by rfl, ?_⟩) (by assumption) ?_
  rotate_left
  · (intro w hSw; (try dsimp only at hSw); (try dsimp only [ad7o1]); go_simp; try (with_reducible rfl))
  (try simp only [Act.put, List.setIfInBounds_toArray, List.set_cons_zero, List.set_cons_succ])
  refine wpAnyH_take (i := 2) (oi := ad7o2) (v := ?_) rfl (by kernel_rfl) (by kernel_rfl) (by kernel_rfl) (fun _ _ _ h => h) (Or.inl ⟨by rfl, ?_⟩) (by assumption) ?_
  rotate_left
  · (intro w hSw; (try dsimp only at hSw); (try dsimp only [ad7o2]); go_simp; try (with_reducible rfl))
  (try simp only [Act.put, List.setIfInBounds_toArray, List.set_cons_zero, List.set_cons_succ])
  refine wpAnyH_take (i := 3) (oi := ad7o3) (v := ?_) rfl (by kernel_rfl) (by kernel_rfl) (by kernel_rfl) (fun _ _ _ h => h) (Or.inl ⟨by rfl, ?_⟩) (by assumption) ?_
  rotate_left
  · (intro w hSw; (try dsimp only at hSw); (try dsimp only [ad7o3]); go_simp; try (with_reducible rfl))
  (try simp only [Act.put, List.setIfInBounds_toArray, List.set_cons_zero, List.set_cons_succ])
  refine wpAnyH_take (i := 4) (oi := ad7o4) (v := ?_) rfl (by kernel_rfl) (by kernel_rfl) (by kernel_rfl) (fun _ _ _ h => h) (Or.inl ⟨by rfl, ?_⟩) (by assumption) ?_
  rotate_left
  · (intro w hSw; (try dsimp only at hSw); (try dsimp only [ad7o4]); go_simp; try (with_reducible rfl))
  (try simp only [Act.put, List.setIfInBounds_toArray, List.set_cons_zero, List.set_cons_succ])
  refine wpAnyH_take (i := 7) (oi := ad7o7) (v := ?_) rfl (by kernel_rfl) (by kernel_rfl) (by kernel_rfl) (fun _ _ _ h => h) (Or.inl ⟨by rfl, ?_⟩) (by assumption) ?_
  rotate_left
  · (intro w hSw; (try dsimp only at hSw); (try dsimp only [ad7o7]); go_simp; try (with_reducible rfl))
  (try simp only [Act.put, List.setIfInBounds_toArray, List.set_cons_zero, List.set_cons_succ])
  refine wpAnyH_take (i := 8) (oi := ad7o8) (v := ?_) rfl (by kernel_rfl) (by kernel_rfl) (by kernel_rfl) (fun _ _ _ h => h) (Or.inl ⟨by rfl, ?_⟩) (by assumption) ?_
  rotate_left
  · (intro w hSw; (try dsimp only at hSw); (try dsimp only [ad7o8]); go_simp; try (with_reducible rfl))
  (try simp only [Act.put, List.setIfInBounds_toArray, List.set_cons_zero, List.set_cons_succ])
  refine wpAnyH_ready (rs := [5]) (by kernel_rfl) (by simp) ?_
  refine AllReadyH.cons (o := ad7o5) rfl (fun K hK => ?_) AllReadyH.nil
  rw [if_pos (by rfl)]
  refine wp_load_isT _ _ rfl ⟨w.heap.size, 8 + c * 8 + k, none⟩ rfl (.int .u32 (x : Int)) (run_load_u32 _ _ _ HX1.out) ?_
  refine hK.out _ _ ?_ (fun hHeld => ?_)
  · exact trivial
  clear hK K
  (try simp only [Act.put, List.setIfInBounds_toArray, List.set_cons_zero, List.set_cons_succ])
  refine wpAnyH_take (i := 6) (oi := ad7o6) (v := ?_) rfl (by kernel_rfl) (by kernel_rfl) (by kernel_rfl) (fun _ _ _ h => h) (Or.inl ⟨by rfl, ?_⟩) (by assumption) ?_
  rotate_left
  · (intro w hSw; (try dsimp only at hSw); (try dsimp only [ad7o6]); go_simp; try (with_reducible rfl))
  (try simp only [Act.put, List.setIfInBounds_toArray, List.set_cons_zero, List.set_cons_succ])
  refine wpAnyH_take (i := 9) (oi := ad7o9) (v := ?_) rfl (by kernel_rfl) (by kernel_rfl) (by kernel_rfl) (fun _ _ _ h => h) (Or.inl ⟨by rfl, ?_⟩) (by assumption) ?_
  rotate_left
  · (intro w hSw; (try dsimp only at hSw); (try dsimp only [ad7o9]); go_simp; try (with_reducible rfl))
  (try simp only [Act.put, List.setIfInBounds_toArray, List.set_cons_zero, List.set_cons_succ])
  refine wpAnyH_ready (rs := [10]) (by kernel_rfl) (by simp) ?_
  refine AllReadyH.cons (o := ad7o10) rfl (fun K hK => ?_) AllReadyH.nil
  rw [if_pos (by rfl)]
  refine wp_store_isT _ _ _ rfl ⟨w.heap.size, 8 + c * 8 + k, none⟩ rfl (.int .u32 ((x + 1 : Nat) : Int)) rfl _ (run_store_u32 _ _ _ _ _ HX1.out (TW.out.drew.1.frozen _)) ?_
  refine hK.out _ _ ?_ (fun hHeld => ?_)
  · exact trivial
  clear hK K
  (try simp only [Act.put, List.setIfInBounds_toArray, List.set_cons_zero, List.set_cons_succ])
  refine wpAnyH_done (by kernel_rfl) ?_ _
  refine NoPanic.normal ?_
  have HT1 : Hid (Two 28 w (W0.drew.setCell ⟨w.heap.size, 8 + c * 8 + k, none⟩ (.int .u32 ((x + 1 : Nat) : Int))) A1 Z) := Lib.hid (by have h := TW.out.drew.put (8 + c * 8 + k) (.int .u32 ((x + 1 : Nat) : Int)); rw [HM.out] at h; exact h)
  obtain ⟨W1, hW1⟩ : ∃ W1, W1 = W0.drew.setCell ⟨w.heap.size, 8 + c * 8 + k, none⟩ (.int .u32 ((x + 1 : Nat) : Int)) := ⟨_, rfl⟩
  rw [← hW1] at HT1 ⊢
  clear hW1
  have hy1 : W1.cell? ⟨w.heap.size, k, none⟩ = some (.int .u32 (y : Int)) := (HT1.out.1.cell _).trans HG2.out
  have hf1 := HT1.out.1.frozen (k)
  have HT2 : Hid (Two 28 w (W1.setCell ⟨w.heap.size, k, none⟩ (.int .u32 ((y + 1 : Nat) : Int))) a Z) := Lib.hid (by have h := HT1.out.put (k) (.int .u32 ((y + 1 : Nat) : Int)); rw [HN.out] at h; exact h)
  have RA := Lib.hid HT2.out.1.whole
  have hsa : (Try.prog.info? 28).map (·.size) = some a.length := by rw [HL.out]; exact sizeTab
  have hsa2 : (Try.prog.info? 28).map (·.size) = some a.toArray.size := by rw [List.size_toArray]; exact hsa
  have TH : Hid ((W1.setCell ⟨w.heap.size, k, none⟩ (.int .u32 ((y + 1 : Nat) : Int))).there (w.heap.size + 1) 0 a.toArray.size) := Lib.hid (HT2.out.2.1.thereT (by rw [HZ.out, show a.toArray.size = 137 by rw [List.size_toArray, HL.out]]; omega))
  have FIN := Lib.hid (HT2.out.fin a (by rw [HL.out, HZ.out]))
  have hone : a.toArray.all (·.oneCell') = true := all_oneCell_toArray HO.out
  go_wp2_with (first
    | (refine wpList_load_mid rfl _ _ rfl w.heap.size 0 rfl a _ RA.out Try.underlying28 rfl hsa ?_)
    | (refine wpList_store_mid rfl _ _ _ rfl (w.heap.size + 1) 0 a.toArray rfl rfl TH.out hsa2 hone ?_))
  refine bodyPost_ret (v := .tuple #[.agg a.toArray, .int .i64 0]) ?_ rfl ⟨rfl, FIN.out.2.2⟩
  exact results_cell_row2 rfl _ _ (w.heap.size + 1) _ a.toArray (0, 0) _ rfl FIN.out.2.1 Try.underlying28 rfl hsa2 _ rfl

set_option maxHeartbeats 8000000 in
theorem ref_Add_bad (f : Nat → Nat) (L : Nat) (c k : Int) (e : Nat) (w : World) (h : (c < 0 ∨ 16 ≤ c) ∧ e = 12 ∨ (0 ≤ c ∧ c < 16) ∧ (k < 0 ∨ 8 ≤ k) ∧ e = 13) :
    Calls Try.prog 12 #[.agg (tcs f L).toArray, .int .i64 c, .int .i64 k] w fun x w' => x = .returned (.tuple #[.agg (tcs f L).toArray, .int .i64 (e : Int)]) ∧ Below w.heap.size w w' := by
  have hsa : (Try.prog.info? 34).map (·.size) = some (tcs f L).length := by rw [tcs_len]; exact sizeRTab
  have ha1 : (tcs f L).toArray.all (·.oneCell') = true := all_oneCell_toArray (tcs_one f L)
  have hal := tcs_len f L
  obtain ⟨a, ha⟩ : ∃ a, a = tcs f L := ⟨_, rfl⟩
  rw [← ha] at hsa ha1 hal ⊢
  clear ha
  have hsa2 : (Try.prog.info? 34).map (·.size) = some a.toArray.size := by rw [List.size_toArray]; exact hsa
  have hz := zeroRTab
  obtain ⟨Z, hZ⟩ : ∃ Z, Z = tcs (fun _ => 0) 0 := ⟨_, rfl⟩
  have hZl : Z.length = 137 := by rw [hZ]; exact tcs_len _ _
  rw [← hZ] at hz
  clear hZ
  have TW := Lib.hid (Two.new 34 w a Z)
  have TH : Hid (((w.alloc (.cells a.toArray 34)).alloc (.cells Z.toArray 34)).there (w.heap.size + 1) 0 a.toArray.size) := Lib.hid (TW.out.2.1.thereT (by rw [hZl, show a.toArray.size = 137 by rw [List.size_toArray, hal]]; omega))
  have FIN := Lib.hid (TW.out.fin a (by rw [hal, hZl]))
  have RA := Lib.hid TW.out.1.whole
  clear hal hZl
  rcases h with ⟨h, rfl⟩ | ⟨h0, h, rfl⟩
  · rcases h with h | h
    · have d1 : decide (c < 0) = true := decide_eq_true h
      clear h
      go_enter Try.func12, Try.ntmps12
      go_wp2_with (first
        | (refine wpList_load_mid rfl _ _ rfl w.heap.size 0 rfl a _ RA.out Try.underlying34 rfl hsa ?_)
        | (refine wpList_store_mid rfl _ _ _ rfl (w.heap.size + 1) 0 a.toArray rfl rfl TH.out hsa2 ha1 ?_))
      refine bodyPost_ret (v := .tuple #[.agg a.toArray, .int .i64 12]) ?_ rfl ⟨rfl, FIN.out.2.2⟩
      exact results_cell_row2 rfl _ _ (w.heap.size + 1) _ a.toArray (0, 0) _ rfl FIN.out.2.1 Try.underlying34 rfl hsa2 _ rfl
    · have d1 : decide (c < 0) = false := decide_eq_false (by omega)
      have d2 : decide (15 < c) = true := decide_eq_true (by omega)
      clear h
      go_enter Try.func12, Try.ntmps12
      go_wp2_with (first
        | (refine wpList_load_mid rfl _ _ rfl w.heap.size 0 rfl a _ RA.out Try.underlying34 rfl hsa ?_)
        | (refine wpList_store_mid rfl _ _ _ rfl (w.heap.size + 1) 0 a.toArray rfl rfl TH.out hsa2 ha1 ?_))
      refine bodyPost_ret (v := .tuple #[.agg a.toArray, .int .i64 12]) ?_ rfl ⟨rfl, FIN.out.2.2⟩
      exact results_cell_row2 rfl _ _ (w.heap.size + 1) _ a.toArray (0, 0) _ rfl FIN.out.2.1 Try.underlying34 rfl hsa2 _ rfl
  · have d1 : decide (c < 0) = false := decide_eq_false (by omega)
    have d2 : decide (15 < c) = false := decide_eq_false (by omega)
    clear h0
    rcases h with h | h
    · have d3 : decide (k < 0) = true := decide_eq_true h
      clear h
      go_enter Try.func12, Try.ntmps12
      go_wp2_with (first
        | (refine wpList_load_mid rfl _ _ rfl w.heap.size 0 rfl a _ RA.out Try.underlying34 rfl hsa ?_)
        | (refine wpList_store_mid rfl _ _ _ rfl (w.heap.size + 1) 0 a.toArray rfl rfl TH.out hsa2 ha1 ?_))
      refine bodyPost_ret (v := .tuple #[.agg a.toArray, .int .i64 13]) ?_ rfl ⟨rfl, FIN.out.2.2⟩
      exact results_cell_row2 rfl _ _ (w.heap.size + 1) _ a.toArray (0, 0) _ rfl FIN.out.2.1 Try.underlying34 rfl hsa2 _ rfl
    · have d3 : decide (k < 0) = false := decide_eq_false (by omega)
      have d4 : decide (7 < k) = true := decide_eq_true (by omega)
      clear h
      go_enter Try.func12, Try.ntmps12
      go_wp2_with (first
        | (refine wpList_load_mid rfl _ _ rfl w.heap.size 0 rfl a _ RA.out Try.underlying34 rfl hsa ?_)
        | (refine wpList_store_mid rfl _ _ _ rfl (w.heap.size + 1) 0 a.toArray rfl rfl TH.out hsa2 ha1 ?_))
      refine bodyPost_ret (v := .tuple #[.agg a.toArray, .int .i64 13]) ?_ rfl ⟨rfl, FIN.out.2.2⟩
      exact results_cell_row2 rfl _ _ (w.heap.size + 1) _ a.toArray (0, 0) _ rfl FIN.out.2.1 Try.underlying34 rfl hsa2 _ rfl

set_option maxHeartbeats 8000000 in
theorem ref_Add_full (f : Nat → Nat) (L c k x y : Nat) (w : World) (hc : c < 16) (hk : k < 8) (hX : x = f (8 * (c + 1) + k)) (hY : y = f k) (h : x = 4294967295 ∨ y = 4294967295) :
    Calls Try.prog 12 #[.agg (tcs f L).toArray, .int .i64 (c : Int), .int .i64 (k : Int)] w fun x w' => x = .returned (.tuple #[.agg (tcs f L).toArray, .int .i64 9]) ∧ Below w.heap.size w w' := by
  have hsa : (Try.prog.info? 34).map (·.size) = some (tcs f L).length := by rw [tcs_len]; exact sizeRTab
  have ha1 : (tcs f L).toArray.all (·.oneCell') = true := all_oneCell_toArray (tcs_one f L)
  have hal := tcs_len f L
  have d1 : decide ((c : Int) < 0) = false := decide_eq_false (by omega)
  have d2 : decide ((15 : Int) < (c : Int)) = false := decide_eq_false (by omega)
  have d3 : decide ((k : Int) < 0) = false := decide_eq_false (by omega)
  have d4 : decide ((7 : Int) < (k : Int)) = false := decide_eq_false (by omega)
  have hci : (c : Int) < 16 := by omega
  have hki : (k : Int) < 8 := by omega
  have hz := zeroRTab
  obtain ⟨Z, hZ⟩ : ∃ Z, Z = tcs (fun _ => 0) 0 := ⟨_, rfl⟩
  have hZl : Z.length = 137 := by rw [hZ]; exact tcs_len _ _
  rw [← hZ] at hz
  clear hZ
  have hx : (w.alloc (.cells (tcs f L).toArray 34) |>.alloc (.cells Z.toArray 34)).cell? ⟨w.heap.size, 8 + c * 8 + k, none⟩ = some (.int .u32 (x : Int)) := by
    rw [(Two.new 34 w (tcs f L) Z).1.cell, tcs_get f L _ (by omega), hX, show 8 * (c + 1) + k = 8 + c * 8 + k from by omega]
  have hy : (w.alloc (.cells (tcs f L).toArray 34) |>.alloc (.cells Z.toArray 34)).cell? ⟨w.heap.size, k, none⟩ = some (.int .u32 (y : Int)) := by
    rw [(Two.new 34 w (tcs f L) Z).1.cell, tcs_get f L _ (by omega), hY]
  obtain ⟨a, ha⟩ : ∃ a, a = tcs f L := ⟨_, rfl⟩
  rw [← ha] at hsa ha1 hal hx hy ⊢
  clear ha hX hY
  have hsa2 : (Try.prog.info? 34).map (·.size) = some a.toArray.size := by rw [List.size_toArray]; exact hsa
  have TW := Lib.hid (Two.new 34 w a Z)
  have TH : Hid (((w.alloc (.cells a.toArray 34)).alloc (.cells Z.toArray 34)).there (w.heap.size + 1) 0 a.toArray.size) := Lib.hid (TW.out.2.1.thereT (by rw [hZl, show a.toArray.size = 137 by rw [List.size_toArray, hal]]; omega))
  have FIN := Lib.hid (TW.out.fin a (by rw [hal, hZl]))
  have RA := Lib.hid TW.out.1.whole
  clear hal hZl hc hk
  by_cases q : y = 4294967295
  · have q1 : ((y : Int) == 4294967295) = true := by simp; omega
    clear q h
    go_enter Try.func12, Try.ntmps12
    go_wp2_with (first
      | (refine wpList_load_mid rfl _ _ rfl w.heap.size 0 rfl a _ RA.out Try.underlying34 rfl hsa ?_)
      | (refine wpList_store_mid rfl _ _ _ rfl (w.heap.size + 1) 0 a.toArray rfl rfl TH.out hsa2 ha1 ?_))
    refine bodyPost_ret (v := .tuple #[.agg a.toArray, .int .i64 9]) ?_ rfl ⟨rfl, FIN.out.2.2⟩
    exact results_cell_row2 rfl _ _ (w.heap.size + 1) _ a.toArray (0, 0) _ rfl FIN.out.2.1 Try.underlying34 rfl hsa2 _ rfl
  · have q1 : ((y : Int) == 4294967295) = false := by simp; omega
    have q2 : ((x : Int) == 4294967295) = true := by simp; omega
    clear q h
    go_enter Try.func12, Try.ntmps12
    go_wp2_with (first
      | (refine wpList_load_mid rfl _ _ rfl w.heap.size 0 rfl a _ RA.out Try.underlying34 rfl hsa ?_)
      | (refine wpList_store_mid rfl _ _ _ rfl (w.heap.size + 1) 0 a.toArray rfl rfl TH.out hsa2 ha1 ?_))
    refine bodyPost_ret (v := .tuple #[.agg a.toArray, .int .i64 9]) ?_ rfl ⟨rfl, FIN.out.2.2⟩
    exact results_cell_row2 rfl _ _ (w.heap.size + 1) _ a.toArray (0, 0) _ rfl FIN.out.2.1 Try.underlying34 rfl hsa2 _ rfl

set_option maxHeartbeats 16000000 in
theorem ref_Add_ok (f : Nat → Nat) (L c k x y : Nat) (w : World) (hf : Fits f) (hc : c < 16) (hk : k < 8) (hX : x = f (8 * (c + 1) + k)) (hY : y = f k) (h1 : x ≠ 4294967295) (h2 : y ≠ 4294967295) :
    Calls Try.prog 12 #[.agg (tcs f L).toArray, .int .i64 (c : Int), .int .i64 (k : Int)] w fun e w' => e = .returned (.tuple #[.agg (tcs (upd (upd f (8 * (c + 1) + k) (x + 1)) k (y + 1)) L).toArray, .int .i64 0]) ∧ Below w.heap.size w w' := by
  have d1 : decide ((c : Int) < 0) = false := decide_eq_false (by omega)
  have d2 : decide ((15 : Int) < (c : Int)) = false := decide_eq_false (by omega)
  have d3 : decide ((k : Int) < 0) = false := decide_eq_false (by omega)
  have d4 : decide ((7 : Int) < (k : Int)) = false := decide_eq_false (by omega)
  have hci : (c : Int) < 16 := by omega
  have hki : (k : Int) < 8 := by omega
  have hz := zeroRTab
  obtain ⟨Z, hZ⟩ : ∃ Z, Z = tcs (fun _ => 0) 0 := ⟨_, rfl⟩
  have hZl : Z.length = 137 := by rw [hZ]; exact tcs_len _ _
  rw [← hZ] at hz
  clear hZ
  have q1 : ((x : Int) == 4294967295) = false := by simp; omega
  have q2 : ((y : Int) == 4294967295) = false := by simp; omega
  have hxb : x < 4294967296 := by rw [hX]; exact hf _
  have hyb : y < 4294967296 := by rw [hY]; exact hf _
  have wx : IntKind.u32.wrap ((x : Int) + 1) = ((x + 1 : Nat) : Int) := by simp [IntKind.wrap, IntKind.bits, IntKind.signed]; omega
  have wy : IntKind.u32.wrap ((y : Int) + 1) = ((y + 1 : Nat) : Int) := by simp [IntKind.wrap, IntKind.bits, IntKind.signed]; omega
  have hx : (w.alloc (.cells (tcs f L).toArray 34) |>.alloc (.cells Z.toArray 34)).cell? ⟨w.heap.size, 8 + c * 8 + k, none⟩ = some (.int .u32 (x : Int)) := by
    rw [(Two.new 34 w (tcs f L) Z).1.cell, tcs_get f L _ (by omega), hX, show 8 * (c + 1) + k = 8 + c * 8 + k from by omega]
  have hy : (w.alloc (.cells (tcs f L).toArray 34) |>.alloc (.cells Z.toArray 34)).cell? ⟨w.heap.size, k, none⟩ = some (.int .u32 (y : Int)) := by
    rw [(Two.new 34 w (tcs f L) Z).1.cell, tcs_get f L _ (by omega), hY]
  obtain ⟨W0, hW0⟩ : ∃ W0, W0 = (w.alloc (.cells (tcs f L).toArray 34)).alloc (.cells Z.toArray 34) := ⟨_, rfl⟩
  have TW : Hid (Two 34 w W0 (tcs f L) Z) := Lib.hid (by rw [hW0]; exact Two.new 34 w (tcs f L) Z)
  have hm : (tcs f L).set (k) (.int .u32 ((y + 1 : Nat) : Int)) = tcs (upd f (k) (y + 1)) L := tcs_set f L _ _ (by omega)
  have hn : (tcs (upd f (k) (y + 1)) L).set (8 + c * 8 + k) (.int .u32 ((x + 1 : Nat) : Int)) = tcs (upd (upd f (k) (y + 1)) (8 + c * 8 + k) (x + 1)) L := tcs_set _ L _ _ (by omega)
  have hne : (8 + c * 8 + k) ≠ (k) := by omega
  have hg2 : (tcs (upd f (k) (y + 1)) L)[8 + c * 8 + k]? = some (.int .u32 (x : Int)) := by
    rw [tcs_get _ L _ (by omega)]
    unfold upd
    rw [if_neg hne]
    rw [hX, show 8 * (c + 1) + k = 8 + c * 8 + k from by omega]
  have he : tcs (upd (upd f (k) (y + 1)) (8 + c * 8 + k) (x + 1)) L = tcs (upd (upd f (8 * (c + 1) + k) (x + 1)) k (y + 1)) L := by
    rw [show 8 * (c + 1) + k = 8 + c * 8 + k from by omega]
    rw [upd_comm (by omega)]
  have HZ := Lib.hid hZl
  rw [← he]
  obtain ⟨A0, hA0⟩ : ∃ a, a = tcs f L := ⟨_, rfl⟩
  obtain ⟨A1, hA1⟩ : ∃ a, a = tcs (upd f (k) (y + 1)) L := ⟨_, rfl⟩
  have hal : (tcs (upd (upd f (k) (y + 1)) (8 + c * 8 + k) (x + 1)) L).length = 137 := tcs_len _ _
  have ha1 := tcs_one (upd (upd f (k) (y + 1)) (8 + c * 8 + k) (x + 1)) L
  obtain ⟨a, ha⟩ : ∃ a, a = tcs (upd (upd f (k) (y + 1)) (8 + c * 8 + k) (x + 1)) L := ⟨_, rfl⟩
  rw [← hA1] at hm hn hg2
  rw [← ha] at hn hal ha1 ⊢
  rw [← hA0] at hm hx hy hW0 TW ⊢
  have HM := Lib.hid hm
  have HN := Lib.hid hn
  have HG2 := Lib.hid hg2
  have HNE := Lib.hid hne
  have HL := Lib.hid hal
  have HO := Lib.hid ha1
  have HX1 : Hid (W0.cell? ⟨w.heap.size, 8 + c * 8 + k, none⟩ = some (.int .u32 (x : Int))) := Lib.hid (by rw [hW0]; exact hx)
  have HY1 : Hid (W0.cell? ⟨w.heap.size, k, none⟩ = some (.int .u32 (y : Int))) := Lib.hid (by rw [hW0]; exact hy)
  clear hm hn hg2 hA0 hA1 ha hX hY hxb hyb he hal ha1 hZl hf h1 h2 hc hk hne
  go_enter Try.func12, Try.ntmps12
  go_upto_region 7 with fail
  rw [← hW0]
  clear hx hy hW0
  have hfr := TW.out.1.frozen k
  have hy2 := HY1.out
  go_upto_region 8 with fail
  clear hfr hy2
  have HT1 : Hid (Two 34 w (W0.setCell ⟨w.heap.size, k, none⟩ (.int .u32 ((y + 1 : Nat) : Int))) A1 Z) := Lib.hid (by have h := TW.out.put (k) (.int .u32 ((y + 1 : Nat) : Int)); rw [HM.out] at h; exact h)
  obtain ⟨W1, hW1⟩ : ∃ W1, W1 = W0.setCell ⟨w.heap.size, k, none⟩ (.int .u32 ((y + 1 : Nat) : Int)) := ⟨_, rfl⟩
  rw [← hW1] at HT1
  refine wp_worldT hW1 ?_
  clear hW1
  have hy1 : Hid (W1.drew.cell? ⟨w.heap.size, 8 + c * 8 + k, none⟩ = some (.int .u32 (x : Int))) := Lib.hid ((HT1.out.drew.1.cell _).trans HG2.out)
  refine wp_region_noPanic ?_
  refine wp_region_held_drew (S := fun _ => True) (by kernel_rfl) ?_ (fun hHeld => ?_)
  · exact trivial
  refine wpAnyH_take (i := 0) (oi := ra8o0) (v := ?_) rfl (by kernel_rfl) (by kernel_rfl) (by kernel_rfl) (fun _ _ _ h => h) (Or.inl ⟨by rfl, ?_⟩) (by assumption) ?_
  rotate_left
  · (intro w hSw; (try dsimp only at hSw); (try dsimp only [ra8o0]); go_simp; try (with_reducible rfl))
  (try simp only [Act.put, List.setIfInBounds_toArray, List.set_cons_zero, List.set_cons_succ])
  refine wpAnyH_take (i := 1) (oi := ra8o1) (v := ?_) rfl (by kernel_rfl) (by kernel_rfl) (by kernel_rfl) (fun _ _ _ h => h) (Or.inl ⟨by rfl, ?_⟩) (by assumption) ?_
  rotate_left
  · (intro w hSw; (try dsimp only at hSw); (try dsimp only [ra8o1]); go_simp; try (with_reducible rfl))
  (try simp only [Act.put, List.setIfInBounds_toArray, List.set_cons_zero, List.set_cons_succ])
  refine wpAnyH_take (i := 2) (oi := ra8o2) (v := ?_) rfl (by kernel_rfl) (by kernel_rfl) (by kernel_rfl) (fun _ _ _ h => h) (Or.inl ⟨by rfl, ?_⟩) (by assumption) ?_
  rotate_left
  · (intro w hSw; (try dsimp only at hSw); (try dsimp only [ra8o2]); go_simp; try (with_reducible rfl))
  (try simp only [Act.put, List.setIfInBounds_toArray, List.set_cons_zero, List.set_cons_succ])
  refine wpAnyH_take (i := 3) (oi := ra8o3) (v := ?_) rfl (by kernel_rfl) (by kernel_rfl) (by kernel_rfl) (fun _ _ _ h => h) (Or.inl ⟨by rfl, ?_⟩) (by assumption) ?_
  rotate_left
  · (intro w hSw; (try dsimp only at hSw); (try dsimp only [ra8o3]); go_simp; try (with_reducible rfl))
  (try simp only [Act.put, List.setIfInBounds_toArray, List.set_cons_zero, List.set_cons_succ])
  refine wpAnyH_take (i := 4) (oi := ra8o4) (v := ?_) rfl (by kernel_rfl) (by kernel_rfl) (by kernel_rfl) (fun _ _ _ h => h) (Or.inl ⟨by rfl, ?_⟩) (by assumption) ?_
  rotate_left
  · (intro w hSw; (try dsimp only at hSw); (try dsimp only [ra8o4]); go_simp; try (with_reducible rfl))
  (try simp only [Act.put, List.setIfInBounds_toArray, List.set_cons_zero, List.set_cons_succ])
  refine wpAnyH_take (i := 7) (oi := ra8o7) (v := ?_) rfl (by kernel_rfl) (by kernel_rfl) (by kernel_rfl) (fun _ _ _ h => h) (Or.inl ⟨by rfl, ?_⟩) (by assumption) ?_
  rotate_left
  · (intro w hSw; (try dsimp only at hSw); (try dsimp only [ra8o7]); go_simp; try (with_reducible rfl))
  (try simp only [Act.put, List.setIfInBounds_toArray, List.set_cons_zero, List.set_cons_succ])
  refine wpAnyH_take (i := 8) (oi := ra8o8) (v := ?_) rfl (by kernel_rfl) (by kernel_rfl) (by kernel_rfl) (fun _ _ _ h => h) (Or.inl ⟨by rfl, ?_⟩) (by assumption) ?_
  rotate_left
  · (intro w hSw; (try dsimp only at hSw); (try dsimp only [ra8o8]); go_simp; try (with_reducible rfl))
  (try simp only [Act.put, List.setIfInBounds_toArray, List.set_cons_zero, List.set_cons_succ])
  refine wpAnyH_ready (rs := [5]) (by kernel_rfl) (by simp) ?_
  refine AllReadyH.cons (o := ra8o5) rfl (fun K hK => ?_) AllReadyH.nil
  rw [if_pos (by rfl)]
  refine wp_load_isT _ _ rfl ⟨w.heap.size, 8 + c * 8 + k, none⟩ rfl (.int .u32 (x : Int)) (run_load_u32 _ _ _ hy1.out) ?_
  refine hK.out _ _ ?_ (fun hHeld => ?_)
  · exact trivial
  clear hK K
  (try simp only [Act.put, List.setIfInBounds_toArray, List.set_cons_zero, List.set_cons_succ])
  refine wpAnyH_take (i := 6) (oi := ra8o6) (v := ?_) rfl (by kernel_rfl) (by kernel_rfl) (by kernel_rfl) (fun _ _ _ h => h) (Or.inl ⟨by rfl, ?_⟩) (by assumption) ?_
  rotate_left
  · (intro w hSw; (try dsimp only at hSw); (try dsimp only [ra8o6]); go_simp; try (with_reducible rfl))
  (try simp only [Act.put, List.setIfInBounds_toArray, List.set_cons_zero, List.set_cons_succ])
  refine wpAnyH_take (i := 9) (oi := ra8o9) (v := ?_) rfl (by kernel_rfl) (by kernel_rfl) (by kernel_rfl) (fun _ _ _ h => h) (Or.inl ⟨by rfl, ?_⟩) (by assumption) ?_
  rotate_left
  · (intro w hSw; (try dsimp only at hSw); (try dsimp only [ra8o9]); go_simp; try (with_reducible rfl))
  (try simp only [Act.put, List.setIfInBounds_toArray, List.set_cons_zero, List.set_cons_succ])
  refine wpAnyH_ready (rs := [10]) (by kernel_rfl) (by simp) ?_
  refine AllReadyH.cons (o := ra8o10) rfl (fun K hK => ?_) AllReadyH.nil
  rw [if_pos (by rfl)]
  refine wp_store_isT _ _ _ rfl ⟨w.heap.size, 8 + c * 8 + k, none⟩ rfl (.int .u32 ((x + 1 : Nat) : Int)) rfl _ (run_store_u32 _ _ _ _ _ hy1.out (HT1.out.drew.1.frozen _)) ?_
  refine hK.out _ _ ?_ (fun hHeld => ?_)
  · exact trivial
  clear hK K
  (try simp only [Act.put, List.setIfInBounds_toArray, List.set_cons_zero, List.set_cons_succ])
  refine wpAnyH_done (by kernel_rfl) ?_ _
  refine NoPanic.normal ?_
  have HT2 : Hid (Two 34 w (W1.drew.setCell ⟨w.heap.size, 8 + c * 8 + k, none⟩ (.int .u32 ((x + 1 : Nat) : Int))) a Z) := Lib.hid (by have h := HT1.out.drew.put (8 + c * 8 + k) (.int .u32 ((x + 1 : Nat) : Int)); rw [HN.out] at h; exact h)
  have RA := Lib.hid HT2.out.1.whole
  have hsa : (Try.prog.info? 34).map (·.size) = some a.length := by rw [HL.out]; exact sizeRTab
  have hsa2 : (Try.prog.info? 34).map (·.size) = some a.toArray.size := by rw [List.size_toArray]; exact hsa
  have TH : Hid ((W1.drew.setCell ⟨w.heap.size, 8 + c * 8 + k, none⟩ (.int .u32 ((x + 1 : Nat) : Int))).there (w.heap.size + 1) 0 a.toArray.size) := Lib.hid (HT2.out.2.1.thereT (by rw [HZ.out, show a.toArray.size = 137 by rw [List.size_toArray, HL.out]]; omega))
  have FIN := Lib.hid (HT2.out.fin a (by rw [HL.out, HZ.out]))
  have hone : a.toArray.all (·.oneCell') = true := all_oneCell_toArray HO.out
  go_wp2_with (first
    | (refine wpList_load_mid rfl _ _ rfl w.heap.size 0 rfl a _ RA.out Try.underlying34 rfl hsa ?_)
    | (refine wpList_store_mid rfl _ _ _ rfl (w.heap.size + 1) 0 a.toArray rfl rfl TH.out hsa2 hone ?_))
  refine bodyPost_ret (v := .tuple #[.agg a.toArray, .int .i64 0]) ?_ rfl ⟨rfl, FIN.out.2.2⟩
  exact results_cell_row2 rfl _ _ (w.heap.size + 1) _ a.toArray (0, 0) _ rfl FIN.out.2.1 Try.underlying34 rfl hsa2 _ rfl

theorem addT_cases (f : Nat → Nat) (c k : Int) (P : (Nat → Nat) × Nat → Prop) (h1 : (c < 0 ∨ 16 ≤ c) → P (f, 12)) (h2 : 0 ≤ c ∧ c < 16 → (k < 0 ∨ 8 ≤ k) → P (f, 13))
    (h3 : ∀ a b : Nat, a < 16 → b < 8 → c = (a : Int) → k = (b : Int) → (f (8 * (a + 1) + b) = 4294967295 ∨ f b = 4294967295) → P (f, 9))
    (h4 : ∀ a b : Nat, a < 16 → b < 8 → c = (a : Int) → k = (b : Int) → f (8 * (a + 1) + b) ≠ 4294967295 → f b ≠ 4294967295 → P (upd (upd f (8 * (a + 1) + b) (f (8 * (a + 1) + b) + 1)) b (f b + 1), 0)) : P (addT f c k) := by
  unfold addT
  by_cases a1 : c < 0 ∨ 16 ≤ c
  · rw [if_pos a1]; exact h1 a1
  · rw [if_neg a1]
    by_cases a2 : k < 0 ∨ 8 ≤ k
    · rw [if_pos a2]; exact h2 (by omega) a2
    · rw [if_neg a2]
      by_cases a3 : f (8 * (c.toNat + 1) + k.toNat) = 4294967295 ∨ f k.toNat = 4294967295
      · rw [if_pos a3]; exact h3 c.toNat k.toNat (by omega) (by omega) (by omega) (by omega) a3
      · rw [if_neg a3]; exact h4 c.toNat k.toNat (by omega) (by omega) (by omega) (by omega) (fun e => a3 (.inl e)) (fun e => a3 (.inr e))

theorem tab_Add (f : Nat → Nat) (L : Nat) (c k : Int) (w : World) (hf : Fits f) :
    Calls Try.prog 11 #[.agg (tcs f L).toArray, .int .i64 c, .int .i64 k] w fun e w' => e = .returned (.tuple #[.agg (tcs (addT f c k).1 L).toArray, .int .i64 ((addT f c k).2 : Int)]) ∧ Below w.heap.size w w' := by
  refine addT_cases f c k (fun r => Calls Try.prog 11 #[.agg (tcs f L).toArray, .int .i64 c, .int .i64 k] w fun e w' => e = .returned (.tuple #[.agg (tcs r.1 L).toArray, .int .i64 (r.2 : Int)]) ∧ Below w.heap.size w w') ?_ ?_ ?_ ?_
  · intro h; exact tab_Add_bad f L c k 12 w (.inl ⟨h, rfl⟩)
  · intro h h'; exact tab_Add_bad f L c k 13 w (.inr ⟨h, h', rfl⟩)
  · rintro a b ha hb rfl rfl h; exact tab_Add_full f L a b _ _ w ha hb rfl rfl h
  · rintro a b ha hb rfl rfl h h'; exact tab_Add_ok f L a b _ _ w hf ha hb rfl rfl h h'

theorem ref_Add (f : Nat → Nat) (L : Nat) (c k : Int) (w : World) (hf : Fits f) :
    Calls Try.prog 12 #[.agg (tcs f L).toArray, .int .i64 c, .int .i64 k] w fun e w' => e = .returned (.tuple #[.agg (tcs (addT f c k).1 L).toArray, .int .i64 ((addT f c k).2 : Int)]) ∧ Below w.heap.size w w' := by
  refine addT_cases f c k (fun r => Calls Try.prog 12 #[.agg (tcs f L).toArray, .int .i64 c, .int .i64 k] w fun e w' => e = .returned (.tuple #[.agg (tcs r.1 L).toArray, .int .i64 (r.2 : Int)]) ∧ Below w.heap.size w w') ?_ ?_ ?_ ?_
  · intro h; exact ref_Add_bad f L c k 12 w (.inl ⟨h, rfl⟩)
  · intro h h'; exact ref_Add_bad f L c k 13 w (.inr ⟨h, h', rfl⟩)
  · rintro a b ha hb rfl rfl h; exact ref_Add_full f L a b _ _ w ha hb rfl rfl h
  · rintro a b ha hb rfl rfl h h'; exact ref_Add_ok f L a b _ _ w hf ha hb rfl rfl h h'

set_option maxHeartbeats 8000000 in
theorem tab_Seen (f : Nat → Nat) (L r : Nat) (w : World) :
    Calls Try.prog 9 #[.agg (tcs f L).toArray, .int .u64 (r : Int)] w fun e w' => e = .returned (.tuple #[.agg (tcs f (seenT L r).1).toArray, .int .i64 ((seenT L r).2 : Int)]) ∧ Below w.heap.size w w' := by
  have hz := zeroTab
  obtain ⟨Z, hZ⟩ : ∃ Z, Z = tcs (fun _ => 0) 0 := ⟨_, rfl⟩
  have hZl : Z.length = 137 := by rw [hZ]; exact tcs_len _ _
  rw [← hZ] at hz
  clear hZ
  obtain ⟨W0, hW0⟩ : ∃ W0, W0 = (w.alloc (.cells (tcs f L).toArray 28)).alloc (.cells Z.toArray 28) := ⟨_, rfl⟩
  have TW : Hid (Two 28 w W0 (tcs f L) Z) := Lib.hid (by rw [hW0]; exact Two.new 28 w (tcs f L) Z)
  have hl : W0.cell? ⟨w.heap.size, 136, none⟩ = some (.int .u64 (L : Int)) := (TW.out.1.cell _).trans (tcs_last f L)
  unfold seenT
  by_cases h : r ≤ L
  · have d1 : decide (r ≤ L) = true := decide_eq_true h
    rw [if_pos h]
    clear h
    have hal : (tcs f L).length = 137 := tcs_len _ _
    have ha1 : (tcs f L).toArray.all (·.oneCell') = true := all_oneCell_toArray (tcs_one f L)
    dsimp only
    obtain ⟨a, ha⟩ : ∃ a, a = tcs f L := ⟨_, rfl⟩
    rw [← ha] at TW hW0 hal ha1 ⊢
    clear ha
    have hsa : (Try.prog.info? 28).map (·.size) = some a.length := by rw [hal]; exact sizeTab
    have hsa2 : (Try.prog.info? 28).map (·.size) = some a.toArray.size := by rw [List.size_toArray]; exact hsa
    have TH : Hid (W0.there (w.heap.size + 1) 0 a.toArray.size) := Lib.hid (TW.out.2.1.thereT (by rw [hZl, show a.toArray.size = 137 by rw [List.size_toArray, hal]]; omega))
    have FIN := Lib.hid (TW.out.fin a (by rw [hal, hZl]))
    have RA := Lib.hid TW.out.1.whole
    clear hal hZl
    go_enter Try.func9, Try.ntmps9
    go_upto_region 1 with fail
    rw [← hW0]
    clear hW0
    go_wp2_with (first
      | (refine wpList_load_mid rfl _ _ rfl w.heap.size 0 rfl a _ RA.out Try.underlying28 rfl hsa ?_)
      | (refine wpList_store_mid rfl _ _ _ rfl (w.heap.size + 1) 0 a.toArray rfl rfl TH.out hsa2 ha1 ?_))
    refine bodyPost_ret (v := .tuple #[.agg a.toArray, .int .i64 14]) ?_ rfl ⟨rfl, FIN.out.2.2⟩
    exact results_cell_row2 rfl _ _ (w.heap.size + 1) _ a.toArray (0, 0) _ rfl FIN.out.2.1 Try.underlying28 rfl hsa2 _ rfl
  · have d1 : decide (r ≤ L) = false := decide_eq_false h
    rw [if_neg h]
    clear h
    have hal : (tcs f r).length = 137 := tcs_len _ _
    have ha1 : (tcs f r).toArray.all (·.oneCell') = true := all_oneCell_toArray (tcs_one f r)
    dsimp only
    have HT2 : Hid (Two 28 w (W0.setCell ⟨w.heap.size, 136, none⟩ (.int .u64 (r : Int))) (tcs f r) Z) := Lib.hid (by have h := TW.out.put 136 (.int .u64 (r : Int)); rw [tcs_setL] at h; exact h)
    have hfr := TW.out.1.frozen 136
    obtain ⟨a, ha⟩ : ∃ a, a = tcs f r := ⟨_, rfl⟩
    rw [← ha] at HT2 hal ha1 ⊢
    obtain ⟨A0, hA0⟩ : ∃ a, a = tcs f L := ⟨_, rfl⟩
    rw [← hA0] at hW0 ⊢
    clear ha hA0 TW
    have hsa : (Try.prog.info? 28).map (·.size) = some a.length := by rw [hal]; exact sizeTab
    have hsa2 : (Try.prog.info? 28).map (·.size) = some a.toArray.size := by rw [List.size_toArray]; exact hsa
    have TH : Hid ((W0.setCell ⟨w.heap.size, 136, none⟩ (.int .u64 (r : Int))).there (w.heap.size + 1) 0 a.toArray.size) := Lib.hid (HT2.out.2.1.thereT (by rw [hZl, show a.toArray.size = 137 by rw [List.size_toArray, hal]]; omega))
    have FIN := Lib.hid (HT2.out.fin a (by rw [hal, hZl]))
    have RA := Lib.hid HT2.out.1.whole
    clear hal hZl
    go_enter Try.func9, Try.ntmps9
    go_upto_region 1 with fail
    rw [← hW0]
    clear hW0
    go_wp2_with (first
      | (refine wpList_load_mid rfl _ _ rfl w.heap.size 0 rfl a _ RA.out Try.underlying28 rfl hsa ?_)
      | (refine wpList_store_mid rfl _ _ _ rfl (w.heap.size + 1) 0 a.toArray rfl rfl TH.out hsa2 ha1 ?_))
    refine bodyPost_ret (v := .tuple #[.agg a.toArray, .int .i64 0]) ?_ rfl ⟨rfl, FIN.out.2.2⟩
    exact results_cell_row2 rfl _ _ (w.heap.size + 1) _ a.toArray (0, 0) _ rfl FIN.out.2.1 Try.underlying28 rfl hsa2 _ rfl

set_option maxHeartbeats 8000000 in
theorem ref_Seen (f : Nat → Nat) (L r : Nat) (w : World) :
    Calls Try.prog 10 #[.agg (tcs f L).toArray, .int .u64 (r : Int)] w fun e w' => e = .returned (.tuple #[.agg (tcs f (seenT L r).1).toArray, .int .i64 ((seenT L r).2 : Int)]) ∧ Below w.heap.size w w' := by
  have hz := zeroRTab
  obtain ⟨Z, hZ⟩ : ∃ Z, Z = tcs (fun _ => 0) 0 := ⟨_, rfl⟩
  have hZl : Z.length = 137 := by rw [hZ]; exact tcs_len _ _
  rw [← hZ] at hz
  clear hZ
  obtain ⟨W0, hW0⟩ : ∃ W0, W0 = (w.alloc (.cells (tcs f L).toArray 34)).alloc (.cells Z.toArray 34) := ⟨_, rfl⟩
  have TW : Hid (Two 34 w W0 (tcs f L) Z) := Lib.hid (by rw [hW0]; exact Two.new 34 w (tcs f L) Z)
  have hl : W0.cell? ⟨w.heap.size, 136, none⟩ = some (.int .u64 (L : Int)) := (TW.out.1.cell _).trans (tcs_last f L)
  unfold seenT
  by_cases h : r ≤ L
  · have d1 : decide (r ≤ L) = true := decide_eq_true h
    rw [if_pos h]
    clear h
    have hal : (tcs f L).length = 137 := tcs_len _ _
    have ha1 : (tcs f L).toArray.all (·.oneCell') = true := all_oneCell_toArray (tcs_one f L)
    dsimp only
    obtain ⟨a, ha⟩ : ∃ a, a = tcs f L := ⟨_, rfl⟩
    rw [← ha] at TW hW0 hal ha1 ⊢
    clear ha
    have hsa : (Try.prog.info? 34).map (·.size) = some a.length := by rw [hal]; exact sizeRTab
    have hsa2 : (Try.prog.info? 34).map (·.size) = some a.toArray.size := by rw [List.size_toArray]; exact hsa
    have TH : Hid (W0.there (w.heap.size + 1) 0 a.toArray.size) := Lib.hid (TW.out.2.1.thereT (by rw [hZl, show a.toArray.size = 137 by rw [List.size_toArray, hal]]; omega))
    have FIN := Lib.hid (TW.out.fin a (by rw [hal, hZl]))
    have RA := Lib.hid TW.out.1.whole
    clear hal hZl
    go_enter Try.func10, Try.ntmps10
    go_upto_region 1 with fail
    rw [← hW0]
    clear hW0
    go_wp2_with (first
      | (refine wpList_load_mid rfl _ _ rfl w.heap.size 0 rfl a _ RA.out Try.underlying34 rfl hsa ?_)
      | (refine wpList_store_mid rfl _ _ _ rfl (w.heap.size + 1) 0 a.toArray rfl rfl TH.out hsa2 ha1 ?_))
    refine bodyPost_ret (v := .tuple #[.agg a.toArray, .int .i64 14]) ?_ rfl ⟨rfl, FIN.out.2.2⟩
    exact results_cell_row2 rfl _ _ (w.heap.size + 1) _ a.toArray (0, 0) _ rfl FIN.out.2.1 Try.underlying34 rfl hsa2 _ rfl
  · have d1 : decide (r ≤ L) = false := decide_eq_false h
    rw [if_neg h]
    clear h
    have hal : (tcs f r).length = 137 := tcs_len _ _
    have ha1 : (tcs f r).toArray.all (·.oneCell') = true := all_oneCell_toArray (tcs_one f r)
    dsimp only
    have HT2 : Hid (Two 34 w (W0.setCell ⟨w.heap.size, 136, none⟩ (.int .u64 (r : Int))) (tcs f r) Z) := Lib.hid (by have h := TW.out.put 136 (.int .u64 (r : Int)); rw [tcs_setL] at h; exact h)
    have hfr := TW.out.1.frozen 136
    obtain ⟨a, ha⟩ : ∃ a, a = tcs f r := ⟨_, rfl⟩
    rw [← ha] at HT2 hal ha1 ⊢
    obtain ⟨A0, hA0⟩ : ∃ a, a = tcs f L := ⟨_, rfl⟩
    rw [← hA0] at hW0 ⊢
    clear ha hA0 TW
    have hsa : (Try.prog.info? 34).map (·.size) = some a.length := by rw [hal]; exact sizeRTab
    have hsa2 : (Try.prog.info? 34).map (·.size) = some a.toArray.size := by rw [List.size_toArray]; exact hsa
    have TH : Hid ((W0.setCell ⟨w.heap.size, 136, none⟩ (.int .u64 (r : Int))).there (w.heap.size + 1) 0 a.toArray.size) := Lib.hid (HT2.out.2.1.thereT (by rw [hZl, show a.toArray.size = 137 by rw [List.size_toArray, hal]]; omega))
    have FIN := Lib.hid (HT2.out.fin a (by rw [hal, hZl]))
    have RA := Lib.hid HT2.out.1.whole
    clear hal hZl
    go_enter Try.func10, Try.ntmps10
    go_upto_region 1 with fail
    rw [← hW0]
    clear hW0
    go_wp2_with (first
      | (refine wpList_load_mid rfl _ _ rfl w.heap.size 0 rfl a _ RA.out Try.underlying34 rfl hsa ?_)
      | (refine wpList_store_mid rfl _ _ _ rfl (w.heap.size + 1) 0 a.toArray rfl rfl TH.out hsa2 ha1 ?_))
    refine bodyPost_ret (v := .tuple #[.agg a.toArray, .int .i64 0]) ?_ rfl ⟨rfl, FIN.out.2.2⟩
    exact results_cell_row2 rfl _ _ (w.heap.size + 1) _ a.toArray (0, 0) _ rfl FIN.out.2.1 Try.underlying34 rfl hsa2 _ rfl

end Go.Proofs.Ythoahengdajpcaa
