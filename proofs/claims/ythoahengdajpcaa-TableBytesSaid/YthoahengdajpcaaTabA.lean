/- Tables of this seat: zero values, sizes, comparing. -/
import Derived.Test.YthoahengdajpcaaTabM
namespace Go.Proofs.Ythoahengdajpcaa
open Go.RowKit
set_option maxRecDepth 100000

theorem infoTab : (Try.prog.info? 28).map (fun i => (i.zero, i.size)) = some (some (.agg (tcs (fun _ => 0) 0).toArray), 137) := by kernel_rfl
theorem infoRTab : (Try.prog.info? 34).map (fun i => (i.zero, i.size)) = some (some (.agg (tcs (fun _ => 0) 0).toArray), 137) := by kernel_rfl
theorem infoTRow : (Try.prog.info? 24).map (fun i => (i.zero, i.size)) = some (some (.agg (fcs (fun _ => 0) 8).toArray), 8) := by kernel_rfl
theorem infoRRow : (Try.prog.info? 31).map (fun i => (i.zero, i.size)) = some (some (.agg (fcs (fun _ => 0) 8).toArray), 8) := by kernel_rfl
theorem info16 : (Try.prog.info? 25).map (fun i => (i.zero, i.size)) = some (some (.agg (fcs (fun _ => 0) 128).toArray), 128) := by kernel_rfl
theorem infoR16 : (Try.prog.info? 32).map (fun i => (i.zero, i.size)) = some (some (.agg (fcs (fun _ => 0) 128).toArray), 128) := by kernel_rfl

theorem zeroTab (w : World) : (zeroValue 28).run Try.prog w = .ok (.agg (tcs (fun _ => 0) 0).toArray) w := (zero_of_info infoTab).1 w
theorem zeroRTab (w : World) : (zeroValue 34).run Try.prog w = .ok (.agg (tcs (fun _ => 0) 0).toArray) w := (zero_of_info infoRTab).1 w
theorem sizeTab : (Try.prog.info? 28).map (·.size) = some 137 := (zero_of_info infoTab).2
theorem sizeRTab : (Try.prog.info? 34).map (·.size) = some 137 := (zero_of_info infoRTab).2
theorem sizeTRow : (Try.prog.info? 24).map (·.size) = some 8 := (zero_of_info infoTRow).2
theorem sizeRRow : (Try.prog.info? 31).map (·.size) = some 8 := (zero_of_info infoRRow).2
theorem size16 : (Try.prog.info? 25).map (·.size) = some 128 := (zero_of_info info16).2

section
variable {P : Program} (w : World)
theorem run_part_int {e : TypeId} {k : IntKind} (he : P.underlying e = some (.int k)) {xs : Array Value} {o : Nat} {v : Value} (hv : xs[o]? = some v) : (part e xs o).run P w = .ok v w := by
  simp [part, isAgg, run_underlying he, hv]
theorem run_part_arr {t e : TypeId} {n m : Nat} (hu : P.underlying t = some (.array n e)) (hi : (P.info? t).map (·.size) = some m) (xs : Array Value) (o : Nat) : (part t xs o).run P w = .ok (.agg (xs.extract o (o + m))) w := by
  cases hq : P.info? t with
  | none => simp [hq] at hi
  | some i =>
    have hs : i.size = m := by simpa [hq] using hi
    simp [part, isAgg, run_underlying hu, sizeOf, typeInfo, hq, hs]
theorem run_eqItems_q (d : Nat) (e : TypeId) (c : Nat) (xs ys : Array Value) (q : Nat → Prop) : ∀ is : List Nat,
    (∀ i ∈ is, ∃ a b r, (part e xs (i * c)).run P w = .ok a w ∧ (part e ys (i * c)).run P w = .ok b w ∧ (Op.equalIn d e a b).run P w = .ok r w ∧ (r = true ↔ q i)) →
    ∃ r : Bool, (Op.eqItems d e c xs ys is).run P w = .ok r w ∧ (r = true ↔ ∀ i ∈ is, q i)
  | [], _ => ⟨true, by simp [Op.eqItems], by simp⟩
  | i :: is, h => by
    obtain ⟨a, b, r, p1, p2, p3, hr⟩ := h i (by simp)
    obtain ⟨r', q1, hr'⟩ := run_eqItems_q d e c xs ys q is (fun j hj => h j (by simp [hj]))
    simp only [Op.eqItems, Sem.run_bind, p1, p2, p3, Result.andThen_ok]
    cases r
    · exact ⟨false, by simp, by simp; intro x; exact absurd (hr.2 x) (by simp)⟩
    · refine ⟨r', by simpa using q1, ?_⟩
      rw [hr']
      simp [hr.1 rfl]
/-- Two rows of counts are compared. -/
theorem run_eq_row (d : Nat) {t e : TypeId} {n : Nat} (hu : P.underlying t = some (.array n e)) (hi : (P.info? e).map (·.size) = some 1) (hc : P.cellsOf e = 1) (he : P.underlying e = some (.int .u32)) {xs ys : Array Value} {f g : Nat → Nat}
    (hx : ∀ j, j < n → xs[j]? = some (.int .u32 (f j : Int))) (hy : ∀ j, j < n → ys[j]? = some (.int .u32 (g j : Int))) :
    ∃ r : Bool, (Op.equalIn (d + 2) t (.agg xs) (.agg ys)).run P w = .ok r w ∧ (r = true ↔ ∀ j, j < n → f j = g j) := by
  cases hq : P.info? e with
  | none => simp [hq] at hi
  | some i =>
    rw [run_equalIn_array w (d + 1) xs ys hu hq, hc]
    obtain ⟨r, h1, h2⟩ := run_eqItems_q w (d + 1) e 1 xs ys (fun j => f j = g j) (List.range n) (fun j hj => by
      have hj := List.mem_range.1 hj
      refine ⟨_, _, _, run_part_int w he (by rw [Nat.mul_one]; exact hx j hj), run_part_int w he (by rw [Nat.mul_one]; exact hy j hj), run_equalIn_int w d e .u32 .u32 _ _ he, ?_⟩
      rw [beq_iff_eq]; omega)
    refine ⟨r, h1, h2.trans ⟨fun h j hj => h j (List.mem_range.2 hj), fun h j hj => h j (List.mem_range.1 hj)⟩⟩
theorem run_eq_rows (d : Nat) {t u e : TypeId} (ht : P.underlying t = some (.array 16 u)) (hu : P.underlying u = some (.array 8 e)) (hui : (P.info? u).map (·.size) = some 8) (huc : P.cellsOf u = 8) (hi : (P.info? e).map (·.size) = some 1) (hc : P.cellsOf e = 1) (he : P.underlying e = some (.int .u32)) {xs ys : Array Value} {f g : Nat → Nat}
    (hx : ∀ j, j < 128 → xs[j]? = some (.int .u32 (f j : Int))) (hy : ∀ j, j < 128 → ys[j]? = some (.int .u32 (g j : Int))) :
    ∃ r : Bool, (Op.equalIn (d + 3) t (.agg xs) (.agg ys)).run P w = .ok r w ∧ (r = true ↔ ∀ j, j < 128 → f j = g j) := by
  cases hq : P.info? u with
  | none => simp [hq] at hui
  | some i =>
    rw [run_equalIn_array w (d + 2) xs ys ht hq, huc]
    have hp : ∀ (zs : Array Value) (h : Nat → Nat), (∀ j, j < 128 → zs[j]? = some (.int .u32 (h j : Int))) → ∀ c, c < 16 → ∀ j, j < 8 → (zs.extract (c * 8) (c * 8 + 8))[j]? = some (.int .u32 (h (c * 8 + j) : Int)) := by
      intro zs h hz c hc' j hj
      rw [Array.getElem?_extract, if_pos (by
        have h1 := hz 127 (by omega)
        have h2 := (Array.getElem?_eq_some_iff.1 h1).1
        omega)]
      exact hz _ (by omega)
    obtain ⟨r, h1, h2⟩ := run_eqItems_q w (d + 2) u 8 xs ys (fun c => ∀ j, j < 8 → f (c * 8 + j) = g (c * 8 + j)) (List.range 16) (fun c hc' => by
      have hc' := List.mem_range.1 hc'
      obtain ⟨r, q1, q2⟩ := run_eq_row w d hu hi hc he (hp xs f hx c hc') (hp ys g hy c hc')
      exact ⟨_, _, r, run_part_arr w hu hui _ _, run_part_arr w hu hui _ _, q1, q2⟩)
    refine ⟨r, h1, h2.trans ⟨fun h j hj => ?_, fun h c hc' j hj => h _ (by have := List.mem_range.1 hc'; omega)⟩⟩
    have := h (j / 8) (List.mem_range.2 (by omega)) (j % 8) (by omega)
    rw [show j / 8 * 8 + j % 8 = j from by omega] at this
    exact this
theorem run_eqFields3 (d : Nat) (xs ys : Array Value) (f0 f1 f2 : Field) (a0 a1 a2 b0 b1 b2 : Value) (q0 q1 q2 : Prop) (n0 : f0.name ≠ "_") (n1 : f1.name ≠ "_") (n2 : f2.name ≠ "_")
    (x0 : (part f0.type xs f0.offset).run P w = .ok a0 w) (y0 : (part f0.type ys f0.offset).run P w = .ok b0 w) (h0 : ∃ r : Bool, (Op.equalIn d f0.type a0 b0).run P w = .ok r w ∧ (r = true ↔ q0))
    (x1 : (part f1.type xs f1.offset).run P w = .ok a1 w) (y1 : (part f1.type ys f1.offset).run P w = .ok b1 w) (h1 : ∃ r : Bool, (Op.equalIn d f1.type a1 b1).run P w = .ok r w ∧ (r = true ↔ q1))
    (x2 : (part f2.type xs f2.offset).run P w = .ok a2 w) (y2 : (part f2.type ys f2.offset).run P w = .ok b2 w) (h2 : ∃ r : Bool, (Op.equalIn d f2.type a2 b2).run P w = .ok r w ∧ (r = true ↔ q2)) :
    ∃ r : Bool, (Op.eqFields d xs ys [f0, f1, f2]).run P w = .ok r w ∧ (r = true ↔ q0 ∧ q1 ∧ q2) := by
  obtain ⟨r0, e0, p0⟩ := h0
  obtain ⟨r1, e1, p1⟩ := h1
  obtain ⟨r2, e2, p2⟩ := h2
  refine ⟨r0 && (r1 && r2), ?_, by rw [Bool.and_eq_true, Bool.and_eq_true, p0, p1, p2]⟩
  simp only [Op.eqFields, ne_eq, n0, n1, n2, not_false_eq_true, if_true, Sem.run_bind, x0, y0, e0, x1, y1, e1, x2, y2, e2, Result.andThen_ok]
  cases r0 <;> cases r1 <;> cases r2 <;> simp [x1, y1, e1, x2, y2, e2]
end

theorem tab_parts (f : Nat → Nat) (L : Nat) : (∀ j, j < 8 → ((tcs f L).toArray.extract 0 (0 + 8))[j]? = some (.int .u32 (f j : Int))) ∧ (∀ j, j < 128 → ((tcs f L).toArray.extract 8 (8 + 128))[j]? = some (.int .u32 (f (8 + j) : Int))) ∧ (tcs f L).toArray[136]? = some (.int .u64 (L : Int)) := by
  refine ⟨fun j hj => ?_, fun j hj => ?_, ?_⟩
  · rw [Array.getElem?_extract, List.size_toArray, tcs_len, if_pos (by omega), List.getElem?_toArray, Nat.zero_add, tcs_get f L j (by omega)]
  · rw [Array.getElem?_extract, List.size_toArray, tcs_len, if_pos (by omega), List.getElem?_toArray, tcs_get f L _ (by omega)]
  · rw [List.getElem?_toArray, tcs_last]

theorem tab_iff (f g : Nat → Nat) (L M : Nat) : ((∀ j, j < 8 → f j = g j) ∧ (∀ j, j < 128 → f (8 + j) = g (8 + j)) ∧ L = M) ↔ ((∀ j, j < 136 → f j = g j) ∧ L = M) := by
  constructor
  · rintro ⟨h1, h2, h3⟩
    refine ⟨fun j hj => ?_, h3⟩
    rcases Nat.lt_or_ge j 8 with h | h
    · exact h1 j h
    · have := h2 (j - 8) (by omega)
      rw [show 8 + (j - 8) = j from by omega] at this
      exact this
  · rintro ⟨h1, h2⟩
    exact ⟨fun j hj => h1 j (by omega), fun j hj => h1 _ (by omega), h2⟩

theorem fields_T : ∃ f0 f1 f2 : Field, (Try.prog.fieldsOf 28).toList = [f0, f1, f2] ∧ (f0.name ≠ "_" ∧ f0.type = 24 ∧ f0.offset = 0) ∧ (f1.name ≠ "_" ∧ f1.type = 25 ∧ f1.offset = 8) ∧ f2.name ≠ "_" ∧ f2.type = 26 ∧ f2.offset = 136 := by
  refine ⟨_, _, _, by simp only [Program.fieldsOf, Try.underlying28]; rfl, ⟨by decide, rfl, rfl⟩, ⟨by decide, rfl, rfl⟩, by decide, rfl, rfl⟩
theorem fields_RT : ∃ f0 f1 f2 : Field, (Try.prog.fieldsOf 34).toList = [f0, f1, f2] ∧ (f0.name ≠ "_" ∧ f0.type = 31 ∧ f0.offset = 0) ∧ (f1.name ≠ "_" ∧ f1.type = 32 ∧ f1.offset = 8) ∧ f2.name ≠ "_" ∧ f2.type = 26 ∧ f2.offset = 136 := by
  refine ⟨_, _, _, by simp only [Program.fieldsOf, Try.underlying34]; rfl, ⟨by decide, rfl, rfl⟩, ⟨by decide, rfl, rfl⟩, by decide, rfl, rfl⟩

set_option maxHeartbeats 2000000 in
/-- Two tables are compared. -/
theorem run_eqT (w : World) (f g : Nat → Nat) (L M : Nat) : ∃ r : Bool, (Op.equalIn 10000 28 (.agg (tcs f L).toArray) (.agg (tcs g M).toArray)).run Try.prog w = .ok r w ∧ (r = true ↔ (∀ j, j < 136 → f j = g j) ∧ L = M) := by
  obtain ⟨a0, a1, a2⟩ := tab_parts f L
  obtain ⟨b0, b1, b2⟩ := tab_parts g M
  obtain ⟨f0, f1, f2, hF, ⟨n0, t0, o0⟩, ⟨n1, t1, o1⟩, n2, t2, o2⟩ := fields_T
  rw [show (10000 : Nat) = 9999 + 1 from rfl, run_equalIn_struct w 9999 28 _ _ (by kernel_rfl) (by kernel_rfl), hF]
  obtain ⟨r, h1, h2⟩ := run_eqFields3 (P := Try.prog) w 9999 (tcs f L).toArray (tcs g M).toArray f0 f1 f2 _ _ _ _ _ _ (∀ j, j < 8 → f j = g j) (∀ j, j < 128 → f (8 + j) = g (8 + j)) (L = M) n0 n1 n2
    (by rw [t0, o0]; exact run_part_arr w Try.underlying24 sizeTRow _ 0) (by rw [t0, o0]; exact run_part_arr w Try.underlying24 sizeTRow _ 0)
    (by rw [t0]; exact run_eq_row w 9997 Try.underlying24 (by kernel_rfl) (by kernel_rfl) Try.underlying22 a0 b0)
    (by rw [t1, o1]; exact run_part_arr w Try.underlying25 size16 _ 8) (by rw [t1, o1]; exact run_part_arr w Try.underlying25 size16 _ 8)
    (by rw [t1]; exact run_eq_rows w 9996 Try.underlying25 Try.underlying24 sizeTRow (by kernel_rfl) (by kernel_rfl) (by kernel_rfl) Try.underlying22 a1 b1)
    (by rw [t2, o2]; exact run_part_int w Try.underlying26 a2) (by rw [t2, o2]; exact run_part_int w Try.underlying26 b2)
    ⟨_, by rw [t2]; exact run_equalIn_int w 9998 26 .u64 .u64 _ _ Try.underlying26, by rw [beq_iff_eq]; omega⟩
  exact ⟨r, h1, h2.trans (tab_iff f g L M)⟩
theorem sizeR16 : (Try.prog.info? 32).map (·.size) = some 128 := (zero_of_info infoR16).2
set_option maxHeartbeats 2000000 in
theorem run_eqRT (w : World) (f g : Nat → Nat) (L M : Nat) : ∃ r : Bool, (Op.equalIn 10000 34 (.agg (tcs f L).toArray) (.agg (tcs g M).toArray)).run Try.prog w = .ok r w ∧ (r = true ↔ (∀ j, j < 136 → f j = g j) ∧ L = M) := by
  obtain ⟨a0, a1, a2⟩ := tab_parts f L
  obtain ⟨b0, b1, b2⟩ := tab_parts g M
  obtain ⟨f0, f1, f2, hF, ⟨n0, t0, o0⟩, ⟨n1, t1, o1⟩, n2, t2, o2⟩ := fields_RT
  rw [show (10000 : Nat) = 9999 + 1 from rfl, run_equalIn_struct w 9999 34 _ _ (by kernel_rfl) (by kernel_rfl), hF]
  obtain ⟨r, h1, h2⟩ := run_eqFields3 (P := Try.prog) w 9999 (tcs f L).toArray (tcs g M).toArray f0 f1 f2 _ _ _ _ _ _ (∀ j, j < 8 → f j = g j) (∀ j, j < 128 → f (8 + j) = g (8 + j)) (L = M) n0 n1 n2
    (by rw [t0, o0]; exact run_part_arr w Try.underlying31 sizeRRow _ 0) (by rw [t0, o0]; exact run_part_arr w Try.underlying31 sizeRRow _ 0)
    (by rw [t0]; exact run_eq_row w 9997 Try.underlying31 (by kernel_rfl) (by kernel_rfl) Try.underlying22 a0 b0)
    (by rw [t1, o1]; exact run_part_arr w Try.underlying32 sizeR16 _ 8) (by rw [t1, o1]; exact run_part_arr w Try.underlying32 sizeR16 _ 8)
    (by rw [t1]; exact run_eq_rows w 9996 Try.underlying32 Try.underlying31 sizeRRow (by kernel_rfl) (by kernel_rfl) (by kernel_rfl) Try.underlying22 a1 b1)
    (by rw [t2, o2]; exact run_part_int w Try.underlying26 a2) (by rw [t2, o2]; exact run_part_int w Try.underlying26 b2)
    ⟨_, by rw [t2]; exact run_equalIn_int w 9998 26 .u64 .u64 _ _ Try.underlying26, by rw [beq_iff_eq]; omega⟩
  exact ⟨r, h1, h2.trans (tab_iff f g L M)⟩
theorem run_eqR (w : World) (f g : Nat → Nat) : ∃ r : Bool, (Op.equalIn 10000 24 (.agg (fcs f 8).toArray) (.agg (fcs g 8).toArray)).run Try.prog w = .ok r w ∧ (r = true ↔ ∀ j, j < 8 → f j = g j) :=
  run_eq_row w 9998 Try.underlying24 (by kernel_rfl) (by kernel_rfl) Try.underlying22 (fun j hj => by rw [List.getElem?_toArray, fcs_get f 8 j hj]) (fun j hj => by rw [List.getElem?_toArray, fcs_get g 8 j hj])

/-- binOp on tables, as an equation for the walk. -/
theorem binT (o : BinOp) (f g : Nat → Nat) (L M : Nat) (b : Bool) (hb : b = true ↔ (∀ j, j < 136 → f j = g j) ∧ L = M) (w : World) : (o = .eql → (binOp .eql 28 (.agg (tcs f L).toArray) (.agg (tcs g M).toArray)).run Try.prog w = .ok (.bool b) w) ∧ (o = .neq → (binOp .neq 28 (.agg (tcs f L).toArray) (.agg (tcs g M).toArray)).run Try.prog w = .ok (.bool (!b)) w) := by
  obtain ⟨r, h1, h2⟩ := run_eqT w f g L M
  have e : r = b := Bool.eq_iff_iff.2 (h2.trans hb.symm)
  subst e
  exact ⟨fun _ => by rw [run_eql_struct, h1]; rfl, fun _ => by rw [run_neq_struct, h1]; rfl⟩
theorem binRT (f g : Nat → Nat) (L M : Nat) (b : Bool) (hb : b = true ↔ (∀ j, j < 136 → f j = g j) ∧ L = M) (w : World) : (binOp .neq 34 (.agg (tcs f L).toArray) (.agg (tcs g M).toArray)).run Try.prog w = .ok (.bool (!b)) w := by
  obtain ⟨r, h1, h2⟩ := run_eqRT w f g L M
  have e : r = b := Bool.eq_iff_iff.2 (h2.trans hb.symm)
  subst e
  rw [run_neq_struct, h1]; rfl
theorem binR (f g : Nat → Nat) (b : Bool) (hb : b = true ↔ ∀ j, j < 8 → f j = g j) (w : World) : (binOp .eql 24 (.agg (fcs f 8).toArray) (.agg (fcs g 8).toArray)).run Try.prog w = .ok (.bool b) w := by
  obtain ⟨r, h1, h2⟩ := run_eqR w f g
  have e : r = b := Bool.eq_iff_iff.2 (h2.trans hb.symm)
  subst e
  rw [run_eql_struct, h1]; rfl
end Go.Proofs.Ythoahengdajpcaa
