/- wrong; Encode and Decode of tables. Written by wip/tools/gen_tabj.py. -/
import Derived.Test.YthoahengdajpcaaTabN
import Derived.Deep.Cut
import Derived.Deep.CutBlock
namespace Go.Proofs.Ythoahengdajpcaa
open Go.RowKit
set_option maxRecDepth 100000

abbrev td6o0 : Oper := { dst := some 25, op := Op.load 38 (Operand.tmp 10), type := 38, pos := "table.go:84", after := #[], guard := none }
abbrev td6o1 : Oper := { dst := some 26, op := Op.load 9 (Operand.tmp 3), type := 9, pos := "table.go:84", after := #[], guard := none }
abbrev td6o2 : Oper := { dst := some 27, op := Op.load 3 (Operand.tmp 9), type := 3, pos := "table.go:84", after := #[], guard := none }
abbrev td6o3 : Oper := { dst := some 28, op := Op.slice 9 (Operand.tmp 26) (some (Operand.tmp 27)) none none, type := 9, pos := "table.go:84", after := #[{ on := 1, ground := Ground.data }, { on := 2, ground := Ground.data }], guard := none }
abbrev td6o4 : Oper := { dst := some 29, op := Op.call { callee := Callee.value (Operand.func 31), args := #[Operand.tmp 28], argTypes := #[9] }, type := 38, pos := "table.go:84", after := #[{ on := 3, ground := Ground.data }], guard := none }
abbrev td6o5 : Oper := { dst := some 30, op := Op.buildSlice 79 2 #[(0, Operand.tmp 25), (1, Operand.tmp 29)], type := 79, pos := "table.go:84", after := #[{ on := 0, ground := Ground.data }, { on := 4, ground := Ground.data }], guard := none }
abbrev td6o6 : Oper := { dst := some 31, op := Op.call { callee := Callee.value (Operand.func 30), args := #[Operand.tmp 30], argTypes := #[79] }, type := 38, pos := "table.go:84", after := #[{ on := 5, ground := Ground.data }, { on := 4, ground := Ground.chain }], guard := none }
abbrev td6o7 : Oper := { dst := some 12, op := Op.assign (Operand.tmp 31), type := 38, pos := "table.go:84", after := #[{ on := 6, ground := Ground.data }, { on := 6, ground := Ground.chain }, { on := 0, ground := Ground.phase }, { on := 1, ground := Ground.phase }, { on := 2, ground := Ground.phase }, { on := 3, ground := Ground.phase }, { on := 4, ground := Ground.phase }, { on := 5, ground := Ground.phase }, { on := 6, ground := Ground.phase }], guard := none }

/-- What Encode answers. -/
def encA (f : Nat → Nat) (L m n : Nat) : Array Value := if Told f m n then #[.string (bs (encL f L m n)), .int .i64 0] else #[.string (bs []), .int .i64 4]

theorem tab_wrong_ok (m n : Int) (w : World) (hm : 1 ≤ m ∧ m ≤ 16) (hn : 1 ≤ n ∧ n ≤ 8) :
    Calls Try.prog 22 #[.int .i64 m, .int .i64 n] w fun e w' => e = .returned (.int .i64 0) ∧ w = w' := by
  have d1 : decide (m < 1) = false := decide_eq_false (by omega)
  have d2 : decide (16 < m) = false := decide_eq_false (by omega)
  have d3 : decide (n < 1) = false := decide_eq_false (by omega)
  have d4 : decide (8 < n) = false := decide_eq_false (by omega)
  clear hm hn
  go_enter Try.func22, Try.ntmps22
  go_wp2_with fail
  go_ret
  exact ⟨rfl, rfl⟩
theorem tab_wrong_no (m n : Int) (w : World) (h : ¬ ((1 ≤ m ∧ m ≤ 16) ∧ (1 ≤ n ∧ n ≤ 8))) :
    Calls Try.prog 22 #[.int .i64 m, .int .i64 n] w fun e w' => e = .returned (.int .i64 5) ∧ w = w' := by
  by_cases a1 : m < 1
  · have d1 : decide (m < 1) = true := decide_eq_true a1
    clear a1 h
    go_enter Try.func22, Try.ntmps22
    go_wp2_with fail
    go_ret
    exact ⟨rfl, rfl⟩
  · have d1 : decide (m < 1) = false := decide_eq_false a1
    by_cases a2 : 16 < m
    · have d2 : decide (16 < m) = true := decide_eq_true a2
      clear a1 a2 h
      go_enter Try.func22, Try.ntmps22
      go_wp2_with fail
      go_ret
      exact ⟨rfl, rfl⟩
    · have d2 : decide (16 < m) = false := decide_eq_false a2
      by_cases a3 : n < 1
      · have d3 : decide (n < 1) = true := decide_eq_true a3
        clear a1 a2 a3 h
        go_enter Try.func22, Try.ntmps22
        go_wp2_with fail
        go_ret
        exact ⟨rfl, rfl⟩
      · have d3 : decide (n < 1) = false := decide_eq_false a3
        have d4 : decide (8 < n) = true := decide_eq_true (by omega)
        clear a1 a2 a3 h
        go_enter Try.func22, Try.ntmps22
        go_wp2_with fail
        go_ret
        exact ⟨rfl, rfl⟩

set_option maxHeartbeats 8000000 in
theorem tab_Encode_no (f : Nat → Nat) (L : Nat) (m n : Int) (w : World) (h : ¬ ((1 ≤ m ∧ m ≤ 16) ∧ (1 ≤ n ∧ n ≤ 8))) :
    Calls Try.prog 13 #[.agg (tcs f L).toArray, .int .i64 m, .int .i64 n] w fun e w' => e = .returned (.tuple #[.string (bs []), .int .i64 5]) ∧ Below w.heap.size w w' := by
  have HW := Lib.hid (fun W => tab_wrong_no m n W h)
  obtain ⟨a, ha⟩ : ∃ a, a = tcs f L := ⟨_, rfl⟩
  rw [← ha]
  clear ha h
  have B0 := Lib.hid ((Below.refl w.heap.size w).alloc (Nat.le_refl _) (.cells a.toArray 28))
  go_enter Try.func13, Try.ntmps13
  go_wp2_with (go_at_call 22; refine (HW.out _).mono ?_; rintro e w1 ⟨rfl, rfl⟩)
  go_ret2
  exact ⟨rfl, B0.out⟩

set_option maxHeartbeats 16000000 in
theorem tab_Encode_ok (f : Nat → Nat) (L m n : Nat) (w : World) (hf : Fits f) (hL : L < 18446744073709551616) (hm : 1 ≤ m ∧ m ≤ 16) (hn : 1 ≤ n ∧ n ≤ 8) :
    Calls Try.prog 13 #[.agg (tcs f L).toArray, .int .i64 (m : Int), .int .i64 (n : Int)] w fun e w' => e = .returned (.tuple (encA f L m n)) ∧ Below w.heap.size w w' := by
  unfold encA
  have HW := Lib.hid (fun W => tab_wrong_ok (m : Int) (n : Int) W (by omega) (by omega))
  obtain ⟨A, hA⟩ : ∃ a, a = tcs f L := ⟨_, rfl⟩
  obtain ⟨W1, hW1⟩ : ∃ W1, W1 = (w.alloc (.cells A.toArray 28)).alloc (.cells #[.slice none 0 0] 60) := ⟨_, rfl⟩
  have A1 : Hid (Blk W1 w.heap.size 28 A ∧ Below w.heap.size w W1) := Lib.hid (by
    rw [hW1]
    exact ⟨(show Blk _ _ _ _ from heap_alloc_new w _).alloc _, ((Below.refl _ _).alloc (Nat.le_refl _) _).alloc (by simp) _⟩)
  have hsz : w.heap.size ≤ W1.heap.size := A1.out.2.size
  have hI : InvC w.heap.size (w.heap.size + 1) [] W1 := by
    refine ⟨by omega, hsz, .slice none 0 0, ?_, World.ownsRow_nil _ _ _ _⟩
    have h := Blk.new1 (w.alloc (.cells A.toArray 28)) 60 (.slice none 0 0)
    rw [World.size_alloc] at h
    rw [hW1]
    exact h
  have hcan : ([] : List UInt8).length + 8 * (n * (m + 1) + 1) ≤ 1000000 := by
    have h1 : n * (m + 1) ≤ 8 * 17 := Nat.mul_le_mul hn.2 (by omega)
    rw [List.length_nil]; omega
  have HE0 := tabEach_enc w.heap.size (w.heap.size + 1) stC _ _ (enc_num w.heap.size (w.heap.size + 1)) [] f L m n W1 hI hcan hf hL hn.2 hm.2 hsz
  obtain ⟨q1, q2⟩ := stC_rows (stC [] L 8).1 f m n (m + 1) hn.2 (Nat.le_refl _)
  have e1 : (rowsE stC (stC [] L 8).1 f n (m + 1)).1 = encL f L m n := by
    rw [q1]
    unfold encL
    rw [encI_more f m n 17 (by omega)]; rfl
  rw [e1] at HE0
  obtain ⟨b, hb⟩ : ∃ b, b = decide (Told f m n) := ⟨_, rfl⟩
  have hbi : b = true ↔ (∀ j, j < 136 → (rowsE stC (stC [] L 8).1 f n (m + 1)).2 j = f j) ∧ (stC [] L 8).2 = L := by
    rw [hb, decide_eq_true_iff, ← cutF_told f m n]
    exact ⟨fun h => ⟨fun j hj => (q2 j).trans (h j hj), rfl⟩, fun h j hj => (q2 j).symm.trans (h.1 j hj)⟩
  have NE := Lib.hid (fun W => (binT .neq _ f _ L b hbi W).2 rfl)
  have HBB := Lib.hid hb
  have h2l : (tcs (rowsE stC (stC [] L 8).1 f n (m + 1)).2 (stC [] L 8).2).length = 137 := tcs_len _ _
  have h2o : (tcs (rowsE stC (stC [] L 8).1 f n (m + 1)).2 (stC [] L 8).2).toArray.all (·.oneCell') = true := all_oneCell_toArray (tcs_one _ _)
  obtain ⟨T, hT⟩ : ∃ a, a = tcs (rowsE stC (stC [] L 8).1 f n (m + 1)).2 (stC [] L 8).2 := ⟨_, rfl⟩
  rw [← hT] at HE0 NE h2l h2o
  rw [← hA] at HE0 NE ⊢
  have hal : A.length = 137 := by rw [hA]; exact tcs_len _ _
  obtain ⟨El, hEl⟩ : ∃ x, x = encL f L m n := ⟨_, rfl⟩
  rw [← hEl] at HE0 ⊢
  have hif : (if Told f m n then (#[.string (bs El), .int .i64 0] : Array Value) else #[.string (bs []), .int .i64 4]) = if b = true then #[.string (bs El), .int .i64 0] else #[.string (bs []), .int .i64 4] := by
    rw [hb]
    by_cases h : Told f m n
    · rw [if_pos h, if_pos (decide_eq_true h)]
    · rw [if_neg h, if_neg (by rw [decide_eq_true_iff]; exact h)]
  rw [hif]
  have HE := Lib.hid HE0
  have hz := zeroTab
  obtain ⟨Z, hZ⟩ : ∃ Z, Z = tcs (fun _ => 0) 0 := ⟨_, rfl⟩
  have hZl : Z.length = 137 := by rw [hZ]; exact tcs_len _ _
  rw [← hZ] at hz
  have hsA : (Try.prog.info? 28).map (·.size) = some A.length := by rw [hal]; exact sizeTab
  have hsT : (Try.prog.info? 28).map (·.size) = some T.length := by rw [h2l]; exact sizeTab
  have hsT2 : (Try.prog.info? 28).map (·.size) = some T.toArray.size := by rw [List.size_toArray, h2l]; exact sizeTab
  have TH : Hid (∀ W : World, (W.alloc (.cells Z.toArray 28)).there W.heap.size 0 T.toArray.size) := Lib.hid (fun W => (show Blk _ _ _ _ from heap_alloc_new W (.cells Z.toArray 28)).thereT (by rw [hZl, show T.toArray.size = 137 by rw [List.size_toArray, h2l]]; omega))
  have E1 : Hid (∀ W : World, (W.alloc (.cells Z.toArray 28)).setCells W.heap.size 0 T.toArray.toList = W.alloc (.cells T.toArray 28)) := Lib.hid (fun W => alloc_setCells W _ Z T (by rw [h2l, hZl]))
  clear hZ hZl h2l hal hEl hif hT hA hbi hb q1 q2 e1 HE0 hcan hI hsz hf hL hm hn
  have RA1 := Lib.hid A1.out.1.whole
  go_enter Try.func13, Try.ntmps13
  go_upto_region 5 with (go_at_call 22; refine (HW.out _).mono ?_; rintro e w1 ⟨rfl, rfl⟩)
  rw [← hW1]
  clear hW1
  go_wp2_with (refine wpList_load_mid rfl _ _ rfl w.heap.size 0 rfl A _ RA1.out Try.underlying28 rfl hsA ?_)
  refine HE.out.mono ?_
  rintro e w2 ⟨rfl, ⟨q1, q2, u, hU, hO⟩, b2, k2⟩
  have A2 : Hid (Blk w2 w.heap.size 28 A ∧ Below w.heap.size w w2) := Lib.hid ⟨k2.blk A1.out.1 (by decide), A1.out.2.trans b2⟩
  have U2 := Lib.hid hU
  have O2 := Lib.hid hO
  clear q1 q2 hU hO b2 k2 HE A1 RA1
  go_upto_region 6 with (refine wpList_store_mid rfl _ _ _ rfl w2.heap.size 0 T.toArray rfl rfl (TH.out w2) hsT2 h2o ?_)
  refine wp_worldT (E1.out w2).symm ?_
  obtain ⟨g, hg⟩ : ∃ g, g = w2.heap.size := ⟨_, rfl⟩
  obtain ⟨W3, hW3⟩ : ∃ W3, W3 = w2.alloc (.cells T.toArray 28) := ⟨_, rfl⟩
  have bl : Below w2.heap.size w2 W3 := by rw [hW3]; exact (Below.refl _ _).alloc (Nat.le_refl _) _
  have A3 : Hid (Blk W3 w.heap.size 28 A ∧ Blk W3 g 28 T ∧ Below w.heap.size w W3) := Lib.hid ⟨A2.out.1.keep bl, by rw [hW3, hg]; exact heap_alloc_new w2 _, A2.out.2.trans (bl.mono A2.out.2.size)⟩
  have hc := (U2.out.keep bl).cell0
  have hO2 : W3.ownsRow w.heap.size 5 1 u (nb El).length (nums .u8 (nb El)) := by rw [nb_len]; exact own_keep O2.out bl
  have hcv := conv_own hO2
  have RA := Lib.hid A3.out.1.whole
  have RT := Lib.hid A3.out.2.1.whole
  rw [← hg]
  refine wp_worldT hW3 ?_
  clear hW3 hg bl hO2 A2 U2 O2 TH E1 hz
  have hcv2 : (convert 60 9 u).run Try.prog W3 = .ok (.string (bs El)) W3 := hcv
  clear hcv
  cases b with
  | true =>
    have NE1 := Lib.hid NE.out
    go_wp2_with (first
      | (refine wpList_load_mid rfl _ _ rfl g 0 rfl T _ RT.out Try.underlying28 rfl hsT ?_)
      | (refine wpList_load_mid rfl _ _ rfl w.heap.size 0 rfl A _ RA.out Try.underlying28 rfl hsA ?_)
      | (refine wpList_bin_isG (by rfl) .neq 28 28 _ _ rfl T.toArray A.toArray rfl rfl guardT (.bool false) (NE1.out _) ?_))
    go_ret2
    exact ⟨rfl, A3.out.2.2⟩
  | false =>
    have NE1 := Lib.hid NE.out
    go_wp2_with (first
      | (refine wpList_load_mid rfl _ _ rfl g 0 rfl T _ RT.out Try.underlying28 rfl hsT ?_)
      | (refine wpList_load_mid rfl _ _ rfl w.heap.size 0 rfl A _ RA.out Try.underlying28 rfl hsA ?_)
      | (refine wpList_bin_isG (by rfl) .neq 28 28 _ _ rfl T.toArray A.toArray rfl rfl guardT (.bool true) (NE1.out _) ?_))
    go_ret2
    exact ⟨rfl, A3.out.2.2⟩

theorem run_str_fromT (l T : List UInt8) (n : Nat) (W : World) (hn : n ≤ l.length) (hT : l.drop n = T) :
    (Instr.slice 9 (.string (bs l)) (some (.int .i64 (n : Int))) none none).run Try.prog W = .ok (.string (bs T)) W := by
  have h2 : (0 : Int) ≤ (n : Int) := by omega
  have h4 : n ≤ (bs l).size := by rw [bs_size]; omega
  have hx : (bs l).extract n (bs l).size = bs T := by rw [bs_extract, bs_size, List.take_of_length_le (by rw [List.length_drop]; exact Nat.le_refl _), hT]
  simp [Instr.slice, Instr.sliceBounds, Instr.sliceBound, asIntOf, run_underlying Try.underlying9, go_sem, h2, h4, hx]

set_option maxHeartbeats 8000000 in
theorem tab_Decode_no (l : List UInt8) (m n : Int) (w : World) (h : ¬ ((1 ≤ m ∧ m ≤ 16) ∧ (1 ≤ n ∧ n ≤ 8))) :
    Calls Try.prog 15 #[.string (bs l), .int .i64 m, .int .i64 n] w fun e w' => e = .returned (.tuple #[.agg (tcs (fun _ => 0) 0).toArray, .int .i64 5]) ∧ Below w.heap.size w w' := by
  have HW := Lib.hid (fun W => tab_wrong_no m n W h)
  have HBZ := Lib.hid (fun W => run_build (P := Try.prog) W 28 #[] _ built_zero)
  have hz := zeroTab
  obtain ⟨Z, hZ⟩ : ∃ Z, Z = tcs (fun _ => 0) 0 := ⟨_, rfl⟩
  have hZl : Z.length = 137 := by rw [hZ]; exact tcs_len _ _
  have hZo : Z.toArray.all (·.oneCell') = true := all_oneCell_toArray (by rw [hZ]; exact tcs_one _ _)
  rw [← hZ] at hz HBZ ⊢
  clear hZ h
  have hsz : (Try.prog.info? 28).map (·.size) = some Z.toArray.size := by rw [List.size_toArray, hZl]; exact sizeTab
  obtain ⟨W0, hW0⟩ : ∃ W0, W0 = (w.alloc (.cells #[.string (bs l)] 9)).alloc (.cells Z.toArray 28) := ⟨_, rfl⟩
  have Z0 : Hid (Blk W0 (w.heap.size + 1) 28 Z ∧ Below w.heap.size w W0) := Lib.hid (by
    rw [hW0]
    refine ⟨?_, ((Below.refl _ _).alloc (Nat.le_refl _) _).alloc (by simp) _⟩
    have h := (show Blk _ _ _ _ from heap_alloc_new (w.alloc (.cells #[.string (bs l)] 9)) (.cells Z.toArray 28))
    rw [World.size_alloc] at h
    exact h)
  have TH : Hid (W0.there (w.heap.size + 1) 0 Z.toArray.size) := Lib.hid (Z0.out.1.thereT (by rw [hZl, show Z.toArray.size = 137 by rw [List.size_toArray, hZl]]; omega))
  have FIN : Hid (Blk (W0.setCells (w.heap.size + 1) 0 Z.toArray.toList) (w.heap.size + 1) 28 Z ∧ Below w.heap.size w (W0.setCells (w.heap.size + 1) 0 Z.toArray.toList)) := Lib.hid ⟨Z0.out.1.setWhole Z rfl, Below.setCellsT Z0.out.2 (by omega) _ _⟩
  clear hZl
  go_enter Try.func15, Try.ntmps15
  go_upto_region 1 with fail
  rw [← hW0]
  clear hW0 hz
  go_wp2_with (first
    | (go_at_call 22; refine (HW.out _).mono ?_; rintro e w1 ⟨rfl, rfl⟩)
    | (refine wpList_build_isT rfl 28 #[] rfl #[] (by simp) (.agg Z.toArray) (HBZ.out _) ?_)
    | (refine wpList_store_mid rfl _ _ _ rfl (w.heap.size + 1) 0 Z.toArray rfl rfl TH.out hsz hZo ?_))
  refine bodyPost_ret (v := .tuple #[.agg Z.toArray, .int .i64 5]) ?_ rfl ⟨rfl, FIN.out.2⟩
  exact results_cell_row2 rfl _ _ (w.heap.size + 1) _ Z.toArray (0, 0) _ rfl FIN.out.1 Try.underlying28 rfl hsz _ rfl

/-- Decode's boxes, laid. -/
theorem dec_boxes (w : World) (l : List UInt8) (Z : List Value) :
    ∀ W0, W0 = (((w.alloc (.cells #[.string (bs l)] 9)).alloc (.cells Z.toArray 28)).alloc (.cells #[.int .i64 0] 3)).alloc (.cells #[.int .i64 0] 38) →
    Blk W0 w.heap.size 9 [.string (bs l)] ∧ Blk W0 (w.heap.size + 1) 28 Z ∧ Blk W0 (w.heap.size + 1 + 1) 3 [.int .i64 0] ∧ Blk W0 (w.heap.size + 1 + 1 + 1) 38 [.int .i64 0] ∧ Below w.heap.size w W0 := by
  intro W0 hW0
  obtain ⟨A, hA⟩ : ∃ A, A = w.alloc (.cells #[.string (bs l)] 9) := ⟨_, rfl⟩
  have a1 : Blk A w.heap.size 9 [.string (bs l)] := by rw [hA]; exact Blk.new1 _ _ _
  have sA : A.heap.size = w.heap.size + 1 := by rw [hA]; simp
  have bA : Below w.heap.size w A := by rw [hA]; exact (Below.refl _ _).alloc (Nat.le_refl _) _
  rw [← hA] at hW0
  obtain ⟨B, hB⟩ : ∃ B, B = A.alloc (.cells Z.toArray 28) := ⟨_, rfl⟩
  have b1 : Blk B w.heap.size 9 [.string (bs l)] := by rw [hB]; exact a1.alloc _
  have b2 : Blk B (w.heap.size + 1) 28 Z := by rw [hB, ← sA]; exact heap_alloc_new A _
  have sB : B.heap.size = w.heap.size + 1 + 1 := by rw [hB, World.size_alloc, sA]
  have bB : Below w.heap.size w B := by rw [hB]; exact bA.alloc (by omega) _
  rw [← hB] at hW0
  obtain ⟨C, hC⟩ : ∃ C, C = B.alloc (.cells #[.int .i64 0] 3) := ⟨_, rfl⟩
  have c3 : Blk C (w.heap.size + 1 + 1) 3 [.int .i64 0] := by rw [hC, ← sB]; exact Blk.new1 B _ _
  have sC : C.heap.size = w.heap.size + 1 + 1 + 1 := by rw [hC, World.size_alloc, sB]
  have bC : Below w.heap.size w C := by rw [hC]; exact bB.alloc (by omega) _
  have c1 : Blk C w.heap.size 9 [.string (bs l)] := by rw [hC]; exact b1.alloc _
  have c2 : Blk C (w.heap.size + 1) 28 Z := by rw [hC]; exact b2.alloc _
  rw [← hC] at hW0
  have e5 : Blk W0 (w.heap.size + 1 + 1 + 1) 38 [.int .i64 0] := by rw [hW0, ← sC]; exact Blk.new1 C _ _
  rw [hW0] at e5 ⊢
  exact ⟨c1.alloc _, c2.alloc _, c3.alloc _, e5, bC.alloc (by omega) _⟩

set_option maxHeartbeats 16000000 in
theorem tab_Decode_ok (l : List UInt8) (m n : Nat) (w : World) (hl : l.length ≤ 1000000) (hm : 1 ≤ m ∧ m ≤ 16) (hn : 1 ≤ n ∧ n ≤ 8) :
    Calls Try.prog 15 #[.string (bs l), .int .i64 (m : Int), .int .i64 (n : Int)] w fun e w' => e = .returned (.tuple #[.agg (tcs (decT l m n).1 (decT l m n).2.1).toArray, .int .i64 ((decT l m n).2.2 : Int)]) ∧ Below w.heap.size w w' := by
  have HW := Lib.hid (fun W => tab_wrong_ok (m : Int) (n : Int) W (by omega) (by omega))
  have HBZ := Lib.hid (fun W => run_build (P := Try.prog) W 28 #[] _ built_zero)
  have hz := zeroTab
  obtain ⟨t1, t2⟩ := dec_told l m n hn.2
  obtain ⟨DC, hDC⟩ : ∃ x, x = (decT l m n).2.2 := ⟨_, rfl⟩
  have hDZ : DC ≠ 0 → tcs (decT l m n).1 (decT l m n).2.1 = tcs (fun _ => 0) 0 := by
    rw [hDC]
    unfold decT
    split
    · intro _; rfl
    · split
      · intro _; rfl
      · intro h; exact absurd rfl h
  obtain ⟨Z, hZ⟩ : ∃ Z, Z = tcs (fun _ => 0) 0 := ⟨_, rfl⟩
  have hZl : Z.length = 137 := by rw [hZ]; exact tcs_len _ _
  have hZo : Z.toArray.all (·.oneCell') = true := all_oneCell_toArray (by rw [hZ]; exact tcs_one _ _)
  have HE0 := fun W hi h0 => tabEach_dec w.heap.size w.heap.size (w.heap.size + 1 + 1) (w.heap.size + 1 + 1 + 1) (stO l) _ _ (dec_num w.heap.size w.heap.size (w.heap.size + 1 + 1) (w.heap.size + 1 + 1 + 1) l hl) (0, 0) (fun _ => 0) 0 m n W hi trivial Fits.zero (by decide) hn.2 hm.2 h0
  obtain ⟨s, hs⟩ : ∃ s, s = (rowsE (stO l) (stO l (0, 0) 0 8).1 (fun _ => 0) n (m + 1)).1 := ⟨_, rfl⟩
  obtain ⟨T, hT⟩ : ∃ T, T = tcs (rowsE (stO l) (stO l (0, 0) 0 8).1 (fun _ => 0) n (m + 1)).2 (stO l (0, 0) 0 8).2 := ⟨_, rfl⟩
  have hTl : T.length = 137 := by rw [hT]; exact tcs_len _ _
  have hTo : T.toArray.all (·.oneCell') = true := all_oneCell_toArray (by rw [hT]; exact tcs_one _ _)
  have hDT : DC = 0 → tcs (decT l m n).1 (decT l m n).2.1 = T := by
    intro h
    rw [hT]
    obtain ⟨a, b⟩ := t2 (by rw [← hDC]; exact h)
    exact tcs_congr (fun j _ => (a j).symm) b.symm
  obtain ⟨D, hD⟩ : ∃ D, D = tcs (decT l m n).1 (decT l m n).2.1 := ⟨_, rfl⟩
  rw [← hs, ← hDC] at t1
  rw [← hs, ← hT, ← hZ] at HE0
  rw [← hD, ← hZ] at hDZ
  rw [← hD] at hDT
  rw [← hD, ← hDC]
  rw [← hZ] at hz HBZ
  have HDZ := Lib.hid hDZ
  have HDT := Lib.hid hDT
  have HE := Lib.hid HE0
  clear hs hT hD hDC hZ hDT hDZ HE0 t2 hm hn
  obtain ⟨at', f⟩ := s
  have HOP := Lib.hid t1
  clear t1
  have hsz : (Try.prog.info? 28).map (·.size) = some Z.toArray.size := by rw [List.size_toArray, hZl]; exact sizeTab
  have hsT : (Try.prog.info? 28).map (·.size) = some T.length := by rw [hTl]; exact sizeTab
  have hsT2 : (Try.prog.info? 28).map (·.size) = some T.toArray.size := by rw [List.size_toArray, hTl]; exact sizeTab
  obtain ⟨W0, hW0⟩ : ∃ W0, W0 = (((w.alloc (.cells #[.string (bs l)] 9)).alloc (.cells Z.toArray 28)).alloc (.cells #[.int .i64 0] 3)).alloc (.cells #[.int .i64 0] 38) := ⟨_, rfl⟩
  have F0 := dec_boxes w l Z W0 hW0
  have Z0 : Hid (Blk W0 (w.heap.size + 1) 28 Z ∧ Below w.heap.size w W0) := Lib.hid ⟨F0.2.1, F0.2.2.2.2⟩
  have HE1 := Lib.hid (HE.out W0 ⟨⟨⟨by omega, by omega, by omega, by omega, by omega⟩, Nat.zero_le _, F0.1, F0.2.2.1, F0.2.2.2.1⟩, F0.2.2.2.2.size⟩ F0.2.2.2.2.size)
  have TH : Hid (∀ W : World, (W.alloc (.cells Z.toArray 28)).there W.heap.size 0 T.toArray.size) := Lib.hid (fun W => (show Blk _ _ _ _ from heap_alloc_new W (.cells Z.toArray 28)).thereT (by rw [hZl, show T.toArray.size = 137 by rw [List.size_toArray, hTl]]; omega))
  have E1 : Hid (∀ W : World, (W.alloc (.cells Z.toArray 28)).setCells W.heap.size 0 T.toArray.toList = W.alloc (.cells T.toArray 28)) := Lib.hid (fun W => alloc_setCells W _ Z T (by rw [hTl, hZl]))
  have HZL := Lib.hid hZl
  have HTL := Lib.hid hTl
  clear F0 HE hZl hTl hl
  go_enter Try.func15, Try.ntmps15
  go_upto_region 5 with (go_at_call 22; refine (HW.out _).mono ?_; rintro e w1 ⟨rfl, rfl⟩)
  rw [← hW0]
  clear hW0
  go_wp2_with (refine wpList_build_isT rfl 28 #[] rfl #[] (by simp) (.agg Z.toArray) (HBZ.out _) ?_)
  refine HE1.out.mono ?_
  rintro e W1 ⟨rfl, ⟨i1, s1⟩, b1, k1⟩
  have Z1 : Hid (Blk W1 (w.heap.size + 1) 28 Z ∧ Below w.heap.size w W1) := Lib.hid ⟨k1.blk Z0.out.1 (by decide), Z0.out.2.trans b1⟩
  have I1 := Lib.hid i1
  clear i1 s1 b1 k1 Z0 HE1
  go_upto_region 6 with (refine wpList_store_mid rfl _ _ _ rfl W1.heap.size 0 T.toArray rfl rfl (TH.out W1) hsT2 hTo ?_)
  refine wp_worldT (E1.out W1).symm ?_
  obtain ⟨g, hg⟩ : ∃ g, g = W1.heap.size := ⟨_, rfl⟩
  obtain ⟨W2, hW2⟩ : ∃ W2, W2 = W1.alloc (.cells T.toArray 28) := ⟨_, rfl⟩
  have bl : Below W1.heap.size W1 W2 := by rw [hW2]; exact (Below.refl _ _).alloc (Nat.le_refl _) _
  have Z2 : Hid (Blk W2 (w.heap.size + 1) 28 Z ∧ Blk W2 g 28 T ∧ Below w.heap.size w W2) := Lib.hid ⟨Z1.out.1.keep bl, by rw [hW2, hg]; exact heap_alloc_new W1 _, Z1.out.2.trans (bl.mono Z1.out.2.size)⟩
  have HC : Hid (∀ w', Below W2.heap.size W2 w' → w'.cell? ⟨w.heap.size, 0, none⟩ = some (.string (bs l)) ∧ w'.cell? ⟨w.heap.size + 1 + 1, 0, none⟩ = some (.int .i64 (at' : Int)) ∧ w'.cell? ⟨w.heap.size + 1 + 1 + 1, 0, none⟩ = some (.int .i64 (f : Int))) := Lib.hid (fun w' hb => by
    obtain ⟨q1, q2, q3, q4, q5⟩ := I1.out
    have e : ∀ {g t : Nat} {cs : List Value}, Blk W1 g t cs → Blk w' g t cs := fun h => (h.keep bl).keep hb
    exact ⟨(e q3).cell0, (e q4).cell0, (e q5).cell0⟩)
  have K0 : Hid (Below W2.heap.size W2 W2.drew) := Lib.hid (Below.refl _ _).drew
  have hat : at' ≤ l.length := I1.out.2.1
  have HSL := Lib.hid (fun W => run_str_fromT l (l.drop at') at' W hat rfl)
  obtain ⟨E, hE, hEn⟩ : ∃ E : Nat, (∀ W, Calls Try.prog 31 #[.string (bs (l.drop at'))] W fun e w' => e = .returned (.int .i64 (E : Int)) ∧ W = w') ∧ E = (if at' < l.length then 11 else 0) := by
    by_cases h : at' < l.length
    · refine ⟨11, fun W => oct_End_some _ W ?_, by rw [if_pos h]⟩
      intro e
      have := congrArg List.length e
      rw [List.length_drop] at this
      simp at this
      omega
    · refine ⟨0, fun W => ?_, by rw [if_neg h]⟩
      rw [List.drop_of_length_le (by omega)]
      exact oct_End_none W
  have HEE := Lib.hid hE
  have HOR := Lib.hid (fun g W hb => cmp_Or (f : Int) (E : Int) g W hb)
  have hFi : (if (f : Int) = 0 then (E : Int) else (f : Int)) = (DC : Int) := by
    rw [← HOP.out, hEn]
    unfold opE
    dsimp only
    by_cases h : f = 0
    · subst h
      rfl
    · rw [if_neg h, if_neg (by omega)]
  rw [hFi] at HOR
  have hsl := HSL.out
  clear hFi hE hEn hat
  rw [← hg]
  refine wp_worldT hW2 ?_
  clear hW2 I1 Z1 HSL hg bl TH E1 HOP hz
  refine wp_region_noPanic ?_
  refine wp_region_held_drew (S := fun w' => w'.cell? ⟨w.heap.size, 0, none⟩ = some (.string (bs l)) ∧ w'.cell? ⟨w.heap.size + 1 + 1, 0, none⟩ = some (.int .i64 (at' : Int)) ∧ w'.cell? ⟨w.heap.size + 1 + 1 + 1, 0, none⟩ = some (.int .i64 (f : Int))) (by kernel_rfl) ?_ (fun hHeld => ?_)
  · exact HC.out _ K0.out
  refine wpAnyH_take (i := 0) (oi := td6o0) (v := ?_) rfl (by kernel_rfl) (by kernel_rfl) (by kernel_rfl) (fun _ _ _ h => h) (Or.inl ⟨by rfl, ?_⟩) (by assumption) ?_
  rotate_left
  · (intro w hSw; (try dsimp only at hSw); obtain ⟨s0, s1, s2⟩ := hSw; (try dsimp only [td6o0]); go_simp; try (with_reducible rfl))
  (try simp only [Act.put, List.setIfInBounds_toArray, List.set_cons_zero, List.set_cons_succ])
  refine wpAnyH_take (i := 1) (oi := td6o1) (v := ?_) rfl (by kernel_rfl) (by kernel_rfl) (by kernel_rfl) (fun _ _ _ h => h) (Or.inl ⟨by rfl, ?_⟩) (by assumption) ?_
  rotate_left
  · (intro w hSw; (try dsimp only at hSw); obtain ⟨s0, s1, s2⟩ := hSw; (try dsimp only [td6o1]); go_simp; try (with_reducible rfl))
  (try simp only [Act.put, List.setIfInBounds_toArray, List.set_cons_zero, List.set_cons_succ])
  refine wpAnyH_take (i := 2) (oi := td6o2) (v := ?_) rfl (by kernel_rfl) (by kernel_rfl) (by kernel_rfl) (fun _ _ _ h => h) (Or.inl ⟨by rfl, ?_⟩) (by assumption) ?_
  rotate_left
  · (intro w hSw; (try dsimp only at hSw); obtain ⟨s0, s1, s2⟩ := hSw; (try dsimp only [td6o2]); go_simp; try (with_reducible rfl))
  (try simp only [Act.put, List.setIfInBounds_toArray, List.set_cons_zero, List.set_cons_succ])
  refine wpAnyH_take (i := 3) (oi := td6o3) (v := ?_) rfl (by kernel_rfl) (by kernel_rfl) (by kernel_rfl) (fun _ _ _ h => h) (Or.inl ⟨by rfl, ?_⟩) (by assumption) ?_
  rotate_left
  · (intro w hSw; (try dsimp only at hSw); obtain ⟨s0, s1, s2⟩ := hSw; (try dsimp only [td6o3]); go_simp; try (with_reducible rfl))
  (try simp only [Act.put, List.setIfInBounds_toArray, List.set_cons_zero, List.set_cons_succ])
  refine wpAnyH_ready (rs := [4]) (by kernel_rfl) (by simp) ?_
  refine AllReadyH.cons (o := td6o4) rfl (fun K hK => ?_) AllReadyH.nil
  dsimp only [td6o4]
  go_simp
  refine (HEE.out _).mono ?_
  rintro e w3 ⟨rfl, rfl⟩
  (try go_wp2_with fail)
  refine hK.out _ _ ?_ (fun hHeld => ?_)
  · exact HC.out _ K0.out
  clear hK K
  (try simp only [Act.put, List.setIfInBounds_toArray, List.set_cons_zero, List.set_cons_succ])
  refine wpAnyH_ready (rs := [5]) (by kernel_rfl) (by simp) ?_
  refine AllReadyH.cons (o := td6o5) rfl (fun K hK => ?_) AllReadyH.nil
  rw [if_pos (by rfl)]
  dsimp only [td6o5]
  go_simp
  refine hK.out _ _ ?_ (fun hHeld => ?_)
  · exact HC.out _ (K0.out.alloc (Nat.le_refl _) _)
  clear hK K
  (try simp only [Act.put, List.setIfInBounds_toArray, List.set_cons_zero, List.set_cons_succ])
  refine wpAnyH_ready (rs := [6]) (by kernel_rfl) (by simp) ?_
  refine AllReadyH.cons (o := td6o6) rfl (fun K hK => ?_) AllReadyH.nil
  dsimp only [td6o6]
  go_simp
  refine (HOR.out W2.heap.size (W2.alloc (.cells #[.int .i64 (f : Int), .int .i64 (E : Int)] 38)).drew (heap_alloc_new W2 _)).mono ?_
  rintro e w3 ⟨rfl, rfl⟩
  (try go_wp2_with fail)
  refine hK.out _ _ ?_ (fun hHeld => ?_)
  · exact HC.out _ (K0.out.alloc (Nat.le_refl _) _)
  clear hK K
  (try simp only [Act.put, List.setIfInBounds_toArray, List.set_cons_zero, List.set_cons_succ])
  refine wpAnyH_take (i := 7) (oi := td6o7) (v := ?_) rfl (by kernel_rfl) (by kernel_rfl) (by kernel_rfl) (fun _ _ _ h => h) (Or.inl ⟨by rfl, ?_⟩) (by assumption) ?_
  rotate_left
  · (intro w hSw; (try dsimp only at hSw); obtain ⟨s0, s1, s2⟩ := hSw; (try dsimp only [td6o7]); go_simp; try (with_reducible rfl))
  (try simp only [Act.put, List.setIfInBounds_toArray, List.set_cons_zero, List.set_cons_succ])
  refine wpAnyH_done (by kernel_rfl) ?_ _
  refine NoPanic.normal ?_
  obtain ⟨W3, hW3⟩ : ∃ W3, W3 = (W2.alloc (.cells #[.int .i64 (f : Int), .int .i64 (E : Int)] 38)).drew := ⟨_, rfl⟩
  have B3 : Hid (Below W2.heap.size W2 W3) := Lib.hid (by rw [hW3]; exact ((Below.refl _ _).alloc (Nat.le_refl _) _).drew)
  have Z3 : Hid (Blk W3 (w.heap.size + 1) 28 Z ∧ Blk W3 g 28 T ∧ Below w.heap.size w W3) := Lib.hid ⟨Z2.out.1.keep B3.out, Z2.out.2.1.keep B3.out, Z2.out.2.2.trans (B3.out.mono Z2.out.2.2.size)⟩
  rw [← hW3]
  clear hW3 HC hsl B3 Z2 HOR HEE K0
  by_cases hF0 : DC = 0
  · subst hF0
    obtain rfl := HDT.out rfl
    have RT := Lib.hid Z3.out.2.1.whole
    have TH : Hid (W3.there (w.heap.size + 1) 0 D.toArray.size) := Lib.hid (Z3.out.1.thereT (by rw [HZL.out, show D.toArray.size = 137 by rw [List.size_toArray, HTL.out]]; omega))
    have FIN : Hid (Blk (W3.setCells (w.heap.size + 1) 0 D.toArray.toList) (w.heap.size + 1) 28 D ∧ Below w.heap.size w (W3.setCells (w.heap.size + 1) 0 D.toArray.toList)) := Lib.hid ⟨Z3.out.1.setWhole D (by rw [HTL.out, HZL.out]), Below.setCellsT Z3.out.2.2 (by omega) _ _⟩
    go_wp2_with (first
      | (refine wpList_load_mid rfl _ _ rfl g 0 rfl D _ RT.out Try.underlying28 rfl hsT ?_)
      | (refine wpList_store_mid rfl _ _ _ rfl (w.heap.size + 1) 0 D.toArray rfl rfl TH.out hsT2 hTo ?_))
    refine bodyPost_ret (v := .tuple #[.agg D.toArray, .int .i64 0]) ?_ rfl ⟨rfl, FIN.out.2⟩
    exact results_cell_row2 rfl _ _ (w.heap.size + 1) _ D.toArray (0, 0) _ rfl FIN.out.1 Try.underlying28 rfl hsT2 _ rfl
  · have hFn : ((DC : Int) != 0) = true := by rw [bne_iff_ne]; omega
    obtain rfl := HDZ.out hF0
    clear hF0
    have TH : Hid (W3.there (w.heap.size + 1) 0 D.toArray.size) := Lib.hid (Z3.out.1.thereT (by rw [HZL.out, show D.toArray.size = 137 by rw [List.size_toArray, HZL.out]]; omega))
    have FIN : Hid (Blk (W3.setCells (w.heap.size + 1) 0 D.toArray.toList) (w.heap.size + 1) 28 D ∧ Below w.heap.size w (W3.setCells (w.heap.size + 1) 0 D.toArray.toList)) := Lib.hid ⟨Z3.out.1.setWhole D rfl, Below.setCellsT Z3.out.2.2 (by omega) _ _⟩
    go_wp2_with (first
      | (refine wpList_build_isT rfl 28 #[] rfl #[] (by simp) (.agg D.toArray) (HBZ.out _) ?_)
      | (refine wpList_store_mid rfl _ _ _ rfl (w.heap.size + 1) 0 D.toArray rfl rfl TH.out hsz hZo ?_))
    refine bodyPost_ret (v := .tuple #[.agg D.toArray, .int .i64 (DC : Int)]) ?_ rfl ⟨rfl, FIN.out.2⟩
    exact results_cell_row2 rfl _ _ (w.heap.size + 1) _ D.toArray (0, 0) _ rfl FIN.out.1 Try.underlying28 rfl hsz _ rfl

end Go.Proofs.Ythoahengdajpcaa
