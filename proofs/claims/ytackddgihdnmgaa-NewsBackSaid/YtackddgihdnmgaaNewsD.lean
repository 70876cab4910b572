/- The contracts of closed and opened of a round, of CloseRound and OpenRound. Written by wip/tools/gen_news.py. -/
import Derived.Test.YtackddgihdnmgaaNewsC
import Derived.Deep.Cut
import Derived.Deep.CutBlock
import Derived.Deep.RegionHeld3
namespace Go.Proofs.Ytackddgihdnmgaa
open Go.RowKit
set_option maxRecDepth 100000

abbrev on8o0 : Oper := { dst := some 26, op := Op.load 27 (Operand.tmp 10), type := 27, pos := "news.go:151", after := #[], guard := none }
abbrev on8o1 : Oper := { dst := some 27, op := Op.load 9 (Operand.tmp 5), type := 9, pos := "news.go:151", after := #[], guard := none }
abbrev on8o2 : Oper := { dst := some 28, op := Op.load 3 (Operand.tmp 9), type := 3, pos := "news.go:151", after := #[], guard := none }
abbrev on8o3 : Oper := { dst := some 29, op := Op.slice 9 (Operand.tmp 27) (some (Operand.tmp 28)) none none, type := 9, pos := "news.go:151", after := #[{ on := 1, ground := Ground.data }, { on := 2, ground := Ground.data }], guard := none }
abbrev on8o4 : Oper := { dst := some 30, op := Op.call { callee := Callee.value (Operand.func 33), args := #[Operand.tmp 29], argTypes := #[9] }, type := 27, pos := "news.go:151", after := #[{ on := 3, ground := Ground.data }], guard := none }
abbrev on8o5 : Oper := { dst := some 31, op := Op.buildSlice 82 2 #[(0, Operand.tmp 26), (1, Operand.tmp 30)], type := 82, pos := "news.go:151", after := #[{ on := 0, ground := Ground.data }, { on := 4, ground := Ground.data }], guard := none }
abbrev on8o6 : Oper := { dst := some 32, op := Op.call { callee := Callee.value (Operand.func 28), args := #[Operand.tmp 31], argTypes := #[82] }, type := 27, pos := "news.go:151", after := #[{ on := 5, ground := Ground.data }, { on := 4, ground := Ground.chain }], guard := none }
abbrev on8o7 : Oper := { dst := some 12, op := Op.assign (Operand.tmp 32), type := 27, pos := "news.go:151", after := #[{ on := 6, ground := Ground.data }, { on := 6, ground := Ground.chain }, { on := 0, ground := Ground.phase }, { on := 1, ground := Ground.phase }, { on := 2, ground := Ground.phase }, { on := 3, ground := Ground.phase }, { on := 4, ground := Ground.phase }, { on := 5, ground := Ground.phase }, { on := 6, ground := Ground.phase }], guard := none }

theorem wp_world {P : Program} {c : Code} {Q : Exit → Act → World → Prop} {a : Act} {w w' : World} (h : w' = w) (k : c.wp P Q a w') : c.wp P Q a w := by
  subst h; exact k
theorem run_str_fromN (l T : List UInt8) (n : Nat) (W : World) (hn : n ≤ l.length) (hT : l.drop n = T) :
    (Instr.slice 9 (.string (bs l)) (some (.int .i64 (n : Int))) none none).run Try.prog W = .ok (.string (bs T)) W := by
  have h2 : (0 : Int) ≤ (n : Int) := by omega
  have h4 : n ≤ (bs l).size := by rw [bs_size]; omega
  have hx : (bs l).extract n (bs l).size = bs T := by rw [bs_extract, bs_size, List.take_of_length_le (by rw [List.length_drop]; exact Nat.le_refl _), hT]
  simp [Instr.slice, Instr.sliceBounds, Instr.sliceBound, asIntOf, run_underlying Try.underlying9, go_sem, h2, h4, hx]
/-- A round's bytes. -/
def rdL (a b c : Nat) : List UInt8 := (([82] ++ beL a 8) ++ beL b 4) ++ beL c 1

set_option maxHeartbeats 4000000 in
theorem news_closedR (a b c : Nat) (w : World) (ha : a < 18446744073709551616) (hb : b < 4294967296) (hc : c < 256) :
    Calls Try.prog 21 #[.int .u8 82, .func (.func 19) #[.agg #[.int .u64 (a : Int), .int .u32 (b : Int), .int .u8 (c : Int)]] #[]] w fun e w' => e = .returned (.string (bs (rdL a b c))) ∧ Below w.heap.size w w' := by
  obtain ⟨W1, hW1⟩ : ∃ W1, W1 = (w.alloc (.cells #[.int .u8 82] 5)).alloc (.cells #[.slice (some ⟨w.heap.size, 0, none⟩) 1 1] 77) := ⟨_, rfl⟩
  have hI : InvC w.heap.size (w.heap.size + 1) [82] W1 := by
    refine ⟨by omega, by rw [hW1]; simp; omega, .slice (some ⟨w.heap.size, 0, none⟩) 1 1, ?_, ?_⟩
    · have h := Blk.new1 (w.alloc (.cells #[.int .u8 82] 5)) 77 (.slice (some ⟨w.heap.size, 0, none⟩) 1 1)
      rw [World.size_alloc] at h
      rw [hW1]
      exact h
    · have h := Blk.alloc (show Blk _ _ _ [.int .u8 82] from heap_alloc_new w (.cells #[.int .u8 82] 5)) (.cells #[.slice (some ⟨w.heap.size, 0, none⟩) 1 1] 77)
      rw [← hW1] at h
      exact ⟨rfl, .inr ⟨w.heap.size, 1, #[.int .u8 82], rfl, Nat.le_refl _, h.get, Nat.le_refl _, by decide, rfl, rfl⟩⟩
  have hsz : w.heap.size ≤ W1.heap.size := by rw [hW1]; simp; omega
  have B0 : Hid (Below w.heap.size w W1) := Lib.hid (by rw [hW1]; exact ((Below.refl _ _).alloc (Nat.le_refl _) _).alloc (by simp) _)
  have HE := Lib.hid (eachR_closed w.heap.size (w.heap.size + 1) stC _ _ (closedR_num w.heap.size (w.heap.size + 1)) [82] a b c W1 hI (by simp) ha hb hc hsz)
  clear hI hsz ha hb hc
  go_enter Try.func21, Try.ntmps21
  go_wp2_with fail
  rw [← hW1]
  clear hW1
  refine HE.out.mono ?_
  rintro e w2 ⟨rfl, ⟨q1, q2, u, hU, hO⟩, b2, k2⟩
  have hc := hU.cell0
  have hO2 : w2.ownsRow w.heap.size 5 1 u (nb (rdL a b c)).length (nums .u8 (nb (rdL a b c))) := by rw [nb_len]; exact hO
  have hcv := conv_own hO2
  have B2 := Lib.hid (B0.out.trans b2)
  clear hU hO hO2 b2 k2 HE B0
  go_wp2_with fail
  go_ret
  exact ⟨rfl, B2.out⟩

set_option maxHeartbeats 4000000 in
theorem news_CloseRound (a b c : Nat) (w : World) (ha : a < 18446744073709551616) (hb : b < 4294967296) (hc : c < 256) :
    Calls Try.prog 9 #[.agg #[.int .u64 (a : Int), .int .u32 (b : Int), .int .u8 (c : Int)]] w fun e w' => e = .returned (.string (bs (rdL a b c))) ∧ Below w.heap.size w w' := by
  have H := Lib.hid (fun W => news_closedR a b c W ha hb hc)
  obtain ⟨W1, hW1⟩ : ∃ W1, W1 = w.alloc (.cells #[.int .u64 (a : Int), .int .u32 (b : Int), .int .u8 (c : Int)] 25) := ⟨_, rfl⟩
  have B0 : Hid (Below w.heap.size w W1) := Lib.hid (by rw [hW1]; exact (Below.refl _ _).alloc (Nat.le_refl _) _)
  clear ha hb hc
  go_enter Try.func9, Try.ntmps9
  go_wp2_with fail
  rw [← hW1]
  refine (H.out _).mono ?_
  rintro e w2 ⟨rfl, b2⟩
  have B2 := Lib.hid (B0.out.trans (b2.mono B0.out.size))
  clear b2
  go_wp2_with fail
  go_ret
  exact ⟨rfl, B2.out⟩

/-- What opened's function tells of a round's bytes. -/
def opR (l : List UInt8) : (Nat × Nat) × (Nat × Nat × Nat) :=
  let p1 := stO l (1, 0) 0 8
  let p2 := stO l p1.1 0 4
  let p3 := stO l p2.1 0 1
  (p3.1, (p1.2, p2.2, p3.2))
/-- What is wrong behind the numbers. -/
def opE (s : Nat × Nat) (l : List UInt8) : Nat := if s.2 = 0 then (if s.1 < l.length then 11 else 0) else s.2
def opV (p : (Nat × Nat) × (Nat × Nat × Nat)) (l : List UInt8) : Value := if opE p.1 l = 0 then .agg #[.int .u64 (p.2.1 : Int), .int .u32 (p.2.2.1 : Int), .int .u8 (p.2.2.2 : Int)] else .agg #[.int .u64 0, .int .u32 0, .int .u8 0]
/-- The boxes of opened, laid. -/
theorem opened_boxes (w W0 : World) (L : List UInt8) (T : TypeId) (z : Array Value) (hW0 : W0 = ((((w.alloc (.cells #[.string (bs L)] 9)).alloc (.cells z T)).alloc (.cells z T)).alloc (.cells #[.int .i64 1] 3)).alloc (.cells #[.int .i64 0] 27)) :
    Blk W0 w.heap.size 9 [.string (bs L)] ∧ Blk W0 (w.heap.size + 1) T z.toList ∧ Blk W0 (w.heap.size + 1 + 1) T z.toList ∧ Blk W0 (w.heap.size + 1 + 1 + 1) 3 [.int .i64 1] ∧ Blk W0 (w.heap.size + 1 + 1 + 1 + 1) 27 [.int .i64 0] ∧ Below w.heap.size w W0 := by
  obtain ⟨A, hA⟩ : ∃ A, A = w.alloc (.cells #[.string (bs L)] 9) := ⟨_, rfl⟩
  have a1 : Blk A w.heap.size 9 [.string (bs L)] := by rw [hA]; exact Blk.new1 _ _ _
  have sA : A.heap.size = w.heap.size + 1 := by rw [hA]; simp
  have bA : Below w.heap.size w A := by rw [hA]; exact (Below.refl _ _).alloc (Nat.le_refl _) _
  rw [← hA] at hW0
  obtain ⟨B, hB⟩ : ∃ B, B = A.alloc (.cells z T) := ⟨_, rfl⟩
  have b1 : Blk B w.heap.size 9 [.string (bs L)] := by rw [hB]; exact a1.alloc _
  have b2 : Blk B (w.heap.size + 1) T z.toList := by rw [hB, ← sA]; exact heap_alloc_new A _
  have sB : B.heap.size = w.heap.size + 1 + 1 := by rw [hB, World.size_alloc, sA]
  have bB : Below w.heap.size w B := by rw [hB]; exact bA.alloc (by omega) _
  rw [← hB] at hW0
  obtain ⟨C, hC⟩ : ∃ C, C = B.alloc (.cells z T) := ⟨_, rfl⟩
  have c3 : Blk C (w.heap.size + 1 + 1) T z.toList := by rw [hC, ← sB]; exact heap_alloc_new B _
  have sC : C.heap.size = w.heap.size + 1 + 1 + 1 := by rw [hC, World.size_alloc, sB]
  have bC : Below w.heap.size w C := by rw [hC]; exact bB.alloc (by omega) _
  have c1 : Blk C w.heap.size 9 [.string (bs L)] := by rw [hC]; exact b1.alloc _
  have c2 : Blk C (w.heap.size + 1) T z.toList := by rw [hC]; exact b2.alloc _
  rw [← hC] at hW0
  obtain ⟨D, hD⟩ : ∃ D, D = C.alloc (.cells #[.int .i64 1] 3) := ⟨_, rfl⟩
  have d4 : Blk D (w.heap.size + 1 + 1 + 1) 3 [.int .i64 1] := by rw [hD, ← sC]; exact Blk.new1 C _ _
  have sD : D.heap.size = w.heap.size + 1 + 1 + 1 + 1 := by rw [hD, World.size_alloc, sC]
  have bD : Below w.heap.size w D := by rw [hD]; exact bC.alloc (by omega) _
  have d1 : Blk D w.heap.size 9 [.string (bs L)] := by rw [hD]; exact c1.alloc _
  have d2 : Blk D (w.heap.size + 1) T z.toList := by rw [hD]; exact c2.alloc _
  have d3 : Blk D (w.heap.size + 1 + 1) T z.toList := by rw [hD]; exact c3.alloc _
  rw [← hD] at hW0
  have e5 : Blk W0 (w.heap.size + 1 + 1 + 1 + 1) 27 [.int .i64 0] := by rw [hW0, ← sD]; exact Blk.new1 D _ _
  rw [hW0] at e5 ⊢
  exact ⟨d1.alloc _, d2.alloc _, d3.alloc _, d4.alloc _, e5, bD.alloc (by omega) _⟩
def rdZ : Value := .agg #[.int .u64 0, .int .u32 0, .int .u8 0]

theorem news_openedR_none (w : World) :
    Calls Try.prog 18 #[.int .u8 82, .func (.func 19) #[rdZ] #[], .string (bs [])] w fun e w' => e = .returned (.tuple #[rdZ, .int .i64 10]) ∧ Below w.heap.size w w' := by
  have h1 : (bs []).toList.isEmpty = true := by rw [bs, ByteArray.toList_mk]; rfl
  go_enter Try.func18, Try.ntmps18
  go_wp2_with fail
  refine bodyPost_ret (v := .tuple #[rdZ, .int .i64 10]) (by simp [results, Try.results18, go_sem, rdZ]) rfl ⟨rfl, ?_⟩
  exact (((Below.refl _ _).alloc (Nat.le_refl _) _).alloc (by simp) _).alloc (by simp; omega) _

theorem news_openedR_form (x : UInt8) (l : List UInt8) (w : World) (hx : x ≠ 82) :
    Calls Try.prog 18 #[.int .u8 82, .func (.func 19) #[rdZ] #[], .string (bs (x :: l))] w fun e w' => e = .returned (.tuple #[rdZ, .int .i64 4]) ∧ Below w.heap.size w w' := by
  have h1 : (bs (x :: l)).toList.isEmpty = false := by rw [bs, ByteArray.toList_mk]; rfl
  have hj : 0 < (bs (x :: l)).size := by rw [bs_size]; simp
  obtain ⟨v, hv⟩ : ∃ v, v = x.toNat := ⟨_, rfl⟩
  have hvi : (((bs (x :: l))[0]'hj).toNat : Int) = (v : Int) := by rw [hv]; rfl
  have hne : ((v : Int) != 82) = true := by
    rw [bne_iff_ne]
    intro e
    apply hx
    apply UInt8.toNat_inj.1
    rw [← hv]
    show v = 82
    omega
  clear hv
  go_enter Try.func18, Try.ntmps18
  go_wp2_with fail
  refine bodyPost_ret (v := .tuple #[rdZ, .int .i64 4]) (by simp [results, Try.results18, go_sem, rdZ]) rfl ⟨rfl, ?_⟩
  exact (((Below.refl _ _).alloc (Nat.le_refl _) _).alloc (by simp) _).alloc (by simp; omega) _

set_option maxHeartbeats 8000000 in
theorem news_openedR_ok (l L : List UInt8) (w : World) (hL : L = 82 :: l) (hl : L.length ≤ 1000000) :
    Calls Try.prog 18 #[.int .u8 82, .func (.func 19) #[rdZ] #[], .string (bs L)] w fun e w' => e = .returned (.tuple #[opV (opR L) L, .int .i64 (opE (opR L).1 L : Int)]) ∧ Below w.heap.size w w' := by
  have h1 : (bs L).toList.isEmpty = false := by rw [hL, bs, ByteArray.toList_mk]; rfl
  have hj : 0 < (bs L).size := by rw [bs_size, hL]; simp
  have hvi : (((bs L)[0]'hj).toNat : Int) = 82 := by subst hL; rfl
  have hln : 1 ≤ L.length := by rw [hL]; simp
  clear hL
  obtain ⟨W0, hW0⟩ : ∃ W0, W0 = ((((w.alloc (.cells #[.string (bs L)] 9)).alloc (.cells #[.int .u64 0, .int .u32 0, .int .u8 0] 25)).alloc (.cells #[.int .u64 0, .int .u32 0, .int .u8 0] 25)).alloc (.cells #[.int .i64 1] 3)).alloc (.cells #[.int .i64 0] 27) := ⟨_, rfl⟩
  have F0 := opened_boxes w W0 L 25 #[.int .u64 0, .int .u32 0, .int .u8 0] hW0
  have I0 : Hid (InvO w.heap.size w.heap.size L (1, 0) W0) := Lib.hid ⟨Nat.le_refl _, hln, F0.1, F0.2.2.2.1, F0.2.2.2.2.1⟩
  have Z0 : Hid (Blk W0 (w.heap.size + 1) 25 [.int .u64 0, .int .u32 0, .int .u8 0] ∧ Blk W0 (w.heap.size + 1 + 1) 25 [.int .u64 0, .int .u32 0, .int .u8 0]) := Lib.hid ⟨F0.2.1, F0.2.2.1⟩
  have B0 : Hid (Below w.heap.size w W0) := Lib.hid F0.2.2.2.2.2
  have HE := Lib.hid (eachR_opened w.heap.size w.heap.size (stO L) _ _ (openedR_num w.heap.size w.heap.size L hl) (1, 0) 0 0 0 W0 ⟨I0.out, B0.out.size⟩ trivial (by decide) (by decide) (by decide) B0.out.size)
  obtain ⟨P, hP⟩ : ∃ P, P = opR L := ⟨_, rfl⟩
  have HE2 : Hid (Calls Try.prog 19 #[rdZ, .func (.func 31) #[] #[.pointer (some ⟨w.heap.size + 3, 0, none⟩), .pointer (some ⟨w.heap.size, 0, none⟩), .pointer (some ⟨w.heap.size + 4, 0, none⟩)]] W0 fun e w' =>
      e = .returned (.agg #[.int .u64 (P.2.1 : Int), .int .u32 (P.2.2.1 : Int), .int .u8 (P.2.2.2 : Int)]) ∧ (InvO w.heap.size w.heap.size L P.1 w' ∧ w.heap.size ≤ w'.heap.size) ∧ Below w.heap.size W0 w' ∧ KeepT eachT W0 w') := Lib.hid (by rw [hP]; exact HE.out)
  rw [← hP]
  obtain ⟨⟨at', f⟩, x1, x2, x3⟩ := P
  dsimp only at HE2
  clear hP HE F0 I0
  go_enter Try.func18, Try.ntmps18
  go_upto_region 8 with (go_at_call 19; rw [← hW0]; refine HE2.out.mono ?_; rintro e W1 ⟨rfl, ⟨i1, s1⟩, b1, k1⟩)
  have Z1 : Hid (Blk W1 (w.heap.size + 1) 25 [.int .u64 0, .int .u32 0, .int .u8 0] ∧ Blk W1 (w.heap.size + 1 + 1) 25 [.int .u64 0, .int .u32 0, .int .u8 0]) := Lib.hid ⟨k1.blk Z0.out.1 (by decide), k1.blk Z0.out.2 (by decide)⟩
  have B1 := Lib.hid (B0.out.trans b1)
  have I1 := Lib.hid i1
  clear HE2 Z0 B0 b1 k1 i1 h1 hvi hW0
  obtain ⟨W2, hW2⟩ : ∃ W2, W2 = W1.alloc (.cells #[.int .u64 (x1 : Int), .int .u32 (x2 : Int), .int .u8 (x3 : Int)] 25) := ⟨_, rfl⟩
  have Z2 : Hid (Blk W2 (w.heap.size + 1) 25 [.int .u64 0, .int .u32 0, .int .u8 0] ∧ Blk W2 (w.heap.size + 1 + 1) 25 [.int .u64 0, .int .u32 0, .int .u8 0] ∧ Blk W2 W1.heap.size 25 [.int .u64 (x1 : Int), .int .u32 (x2 : Int), .int .u8 (x3 : Int)]) := Lib.hid (by
    rw [hW2]
    exact ⟨Z1.out.1.alloc _, Z1.out.2.alloc _, heap_alloc_new W1 _⟩)
  have HNE : Hid (w.heap.size + 1 ≠ W1.heap.size) := Lib.hid (Nat.ne_of_lt Z1.out.1.lt)
  have B2 : Hid (Below w.heap.size w W2) := Lib.hid (by rw [hW2]; exact B1.out.alloc B1.out.size _)
  have HC : Hid (∀ w', Below W2.heap.size W2 w' → w'.cell? ⟨w.heap.size, 0, none⟩ = some (.string (bs L)) ∧ w'.cell? ⟨w.heap.size + 1 + 1 + 1, 0, none⟩ = some (.int .i64 (at' : Int)) ∧ w'.cell? ⟨w.heap.size + 1 + 1 + 1 + 1, 0, none⟩ = some (.int .i64 (f : Int))) := Lib.hid (fun w' hb => by
    obtain ⟨q1, q2, q3, q4, q5⟩ := I1.out
    have e : ∀ {g t : Nat} {cs : List Value}, Blk W1 g t cs → Blk w' g t cs := fun h => (by rw [hW2] at hb; exact (h.alloc _).keep hb)
    exact ⟨(e q3).cell0, (e q4).cell0, (e q5).cell0⟩)
  have K0 : Hid (Below W2.heap.size W2 W2.drew) := Lib.hid (Below.refl _ _).drew
  have hat : at' ≤ L.length := I1.out.2.1
  have HSL := Lib.hid (fun W => run_str_fromN L (L.drop at') at' W hat rfl)
  obtain ⟨E, hE, hEn⟩ : ∃ E : Nat, (∀ W, Calls Try.prog 33 #[.string (bs (L.drop at'))] W fun e w' => e = .returned (.int .i64 (E : Int)) ∧ W = w') ∧ E = (if at' < L.length then 11 else 0) := by
    by_cases h : at' < L.length
    · refine ⟨11, fun W => oct_End_some _ W ?_, by rw [if_pos h]⟩
      intro e
      have := congrArg List.length e
      rw [List.length_drop] at this
      simp at this
      omega
    · refine ⟨0, fun W => ?_, by rw [if_neg h]⟩
      rw [List.drop_of_length_le (by omega)]
      exact oct_End_none W
  have HEE := Lib.hid hE
  have HOR := Lib.hid (fun g W hb => cmp_Or (f : Int) (E : Int) g W hb)
  obtain ⟨F, hF⟩ : ∃ F, F = opE (at', f) L := ⟨_, rfl⟩
  have hFi : (if (f : Int) = 0 then (E : Int) else (f : Int)) = (F : Int) := by
    rw [hF, hEn]
    unfold opE
    dsimp only
    by_cases h : f = 0
    · subst h
      rfl
    · rw [if_neg h, if_neg (by omega)]
  rw [hFi] at HOR
  have hV : opV ((at', f), x1, x2, x3) L = if F = 0 then .agg #[.int .u64 (x1 : Int), .int .u32 (x2 : Int), .int .u8 (x3 : Int)] else .agg #[.int .u64 0, .int .u32 0, .int .u8 0] := by rw [hF]; rfl
  have HV := Lib.hid hV
  have HF := Lib.hid hF
  have hsl := HSL.out
  clear hF hFi hE hEn hV hat
  refine wp_world hW2 ?_
  clear hW2 I1 Z1 HSL
  refine wp_region_noPanic ?_
  refine wp_region_held_drew (S := fun w' => w'.cell? ⟨w.heap.size, 0, none⟩ = some (.string (bs L)) ∧ w'.cell? ⟨w.heap.size + 1 + 1 + 1, 0, none⟩ = some (.int .i64 (at' : Int)) ∧ w'.cell? ⟨w.heap.size + 1 + 1 + 1 + 1, 0, none⟩ = some (.int .i64 (f : Int))) (by kernel_rfl) ?_ (fun hHeld => ?_)
  · exact HC.out _ K0.out
  refine wpAnyH_take (i := 0) (oi := on8o0) (v := ?_) rfl (by kernel_rfl) (by kernel_rfl) (by kernel_rfl) (fun _ _ _ h => h) (Or.inl ⟨by rfl, ?_⟩) (by assumption) ?_
  rotate_left
  · (intro w hSw; (try dsimp only at hSw); obtain ⟨s0, s1, s2⟩ := hSw; (try dsimp only [on8o0]); go_simp; try (with_reducible rfl))
  (try simp only [Act.put, List.setIfInBounds_toArray, List.set_cons_zero, List.set_cons_succ])
  refine wpAnyH_take (i := 1) (oi := on8o1) (v := ?_) rfl (by kernel_rfl) (by kernel_rfl) (by kernel_rfl) (fun _ _ _ h => h) (Or.inl ⟨by rfl, ?_⟩) (by assumption) ?_
  rotate_left
  · (intro w hSw; (try dsimp only at hSw); obtain ⟨s0, s1, s2⟩ := hSw; (try dsimp only [on8o1]); go_simp; try (with_reducible rfl))
  (try simp only [Act.put, List.setIfInBounds_toArray, List.set_cons_zero, List.set_cons_succ])
  refine wpAnyH_take (i := 2) (oi := on8o2) (v := ?_) rfl (by kernel_rfl) (by kernel_rfl) (by kernel_rfl) (fun _ _ _ h => h) (Or.inl ⟨by rfl, ?_⟩) (by assumption) ?_
  rotate_left
  · (intro w hSw; (try dsimp only at hSw); obtain ⟨s0, s1, s2⟩ := hSw; (try dsimp only [on8o2]); go_simp; try (with_reducible rfl))
  (try simp only [Act.put, List.setIfInBounds_toArray, List.set_cons_zero, List.set_cons_succ])
  refine wpAnyH_take (i := 3) (oi := on8o3) (v := ?_) rfl (by kernel_rfl) (by kernel_rfl) (by kernel_rfl) (fun _ _ _ h => h) (Or.inl ⟨by rfl, ?_⟩) (by assumption) ?_
  rotate_left
  · (intro w hSw; (try dsimp only at hSw); obtain ⟨s0, s1, s2⟩ := hSw; (try dsimp only [on8o3]); go_simp; try (with_reducible rfl))
  (try simp only [Act.put, List.setIfInBounds_toArray, List.set_cons_zero, List.set_cons_succ])
  refine wpAnyH_ready (rs := [4]) (by kernel_rfl) (by simp) ?_
  refine AllReadyH.cons (o := on8o4) rfl (fun K hK => ?_) AllReadyH.nil
  dsimp only [on8o4]
  go_simp
  refine (HEE.out _).mono ?_
  rintro e w3 ⟨rfl, rfl⟩
  (try go_wp2_with fail)
  refine hK.out _ _ ?_ (fun hHeld => ?_)
  · exact HC.out _ K0.out
  clear hK K
  (try simp only [Act.put, List.setIfInBounds_toArray, List.set_cons_zero, List.set_cons_succ])
  refine wpAnyH_ready (rs := [5]) (by kernel_rfl) (by simp) ?_
  refine AllReadyH.cons (o := on8o5) rfl (fun K hK => ?_) AllReadyH.nil
  rw [if_pos (by rfl)]
  dsimp only [on8o5]
  go_simp
  refine hK.out _ _ ?_ (fun hHeld => ?_)
  · exact HC.out _ (K0.out.alloc (Nat.le_refl _) _)
  clear hK K
  (try simp only [Act.put, List.setIfInBounds_toArray, List.set_cons_zero, List.set_cons_succ])
  refine wpAnyH_ready (rs := [6]) (by kernel_rfl) (by simp) ?_
  refine AllReadyH.cons (o := on8o6) rfl (fun K hK => ?_) AllReadyH.nil
  dsimp only [on8o6]
  go_simp
  refine (HOR.out W2.heap.size (W2.alloc (.cells #[.int .i64 (f : Int), .int .i64 (E : Int)] 27)).drew (heap_alloc_new W2 _)).mono ?_
  rintro e w3 ⟨rfl, rfl⟩
  (try go_wp2_with fail)
  refine hK.out _ _ ?_ (fun hHeld => ?_)
  · exact HC.out _ (K0.out.alloc (Nat.le_refl _) _)
  clear hK K
  (try simp only [Act.put, List.setIfInBounds_toArray, List.set_cons_zero, List.set_cons_succ])
  refine wpAnyH_take (i := 7) (oi := on8o7) (v := ?_) rfl (by kernel_rfl) (by kernel_rfl) (by kernel_rfl) (fun _ _ _ h => h) (Or.inl ⟨by rfl, ?_⟩) (by assumption) ?_
  rotate_left
  · (intro w hSw; (try dsimp only at hSw); obtain ⟨s0, s1, s2⟩ := hSw; (try dsimp only [on8o7]); go_simp; try (with_reducible rfl))
  (try simp only [Act.put, List.setIfInBounds_toArray, List.set_cons_zero, List.set_cons_succ])
  refine wpAnyH_done (by kernel_rfl) ?_ _
  refine NoPanic.normal ?_
  obtain ⟨W3, hW3⟩ : ∃ W3, W3 = (W2.alloc (.cells #[.int .i64 (f : Int), .int .i64 (E : Int)] 27)).drew := ⟨_, rfl⟩
  have B3 : Hid (Below W2.heap.size W2 W3) := Lib.hid (by rw [hW3]; exact ((Below.refl _ _).alloc (Nat.le_refl _) _).drew)
  have Z3 : Hid (Blk W3 (w.heap.size + 1) 25 [.int .u64 0, .int .u32 0, .int .u8 0] ∧ Blk W3 (w.heap.size + 1 + 1) 25 [.int .u64 0, .int .u32 0, .int .u8 0] ∧ Blk W3 W1.heap.size 25 [.int .u64 (x1 : Int), .int .u32 (x2 : Int), .int .u8 (x3 : Int)]) := Lib.hid ⟨Z2.out.1.keep B3.out, Z2.out.2.1.keep B3.out, Z2.out.2.2.keep B3.out⟩
  have BW : Hid (Below w.heap.size w W3) := Lib.hid (B2.out.trans (B3.out.mono B2.out.size))
  rw [← hW3]
  clear hW3 HC hsl B3 B2 Z2 HOR HEE K0 hj hln
  obtain ⟨g0, g1, g2⟩ := Z3.out.1.three
  have q0 := Z3.out.1.frozen 0
  have q1 := Z3.out.1.frozen 1
  have q2 := Z3.out.1.frozen 2
  by_cases hF0 : F = 0
  · subst hF0
    obtain ⟨m0, m1, m2⟩ := Z3.out.2.2.three
    go_wp2_with fail
    have GP := Z3.out.1.put3 (.int .u64 (x1 : Int)) (.int .u32 (x2 : Int)) (.int .u8 (x3 : Int))
    obtain ⟨d0, d1, d2⟩ := GP.three
    refine bodyPost_ret (v := .tuple #[.agg #[.int .u64 (x1 : Int), .int .u32 (x2 : Int), .int .u8 (x3 : Int)], .int .i64 0]) (by simp [results, Try.results18, go_sem, d0, d1, d2]) rfl ⟨by rw [HV.out, ← HF.out]; rfl, ?_⟩
    exact ((BW.out.setCell (p := ⟨w.heap.size + 1, 0, none⟩) (by show w.heap.size ≤ w.heap.size + 1; omega) _).setCell (p := ⟨w.heap.size + 1, 1, none⟩) (by show w.heap.size ≤ w.heap.size + 1; omega) _).setCell (p := ⟨w.heap.size + 1, 2, none⟩) (by show w.heap.size ≤ w.heap.size + 1; omega) _
  · obtain ⟨m0, m1, m2⟩ := Z3.out.2.1.three
    have hFn : ((F : Int) != 0) = true := by rw [bne_iff_ne]; omega
    have hFz := Lib.hid hF0
    clear hF0
    go_wp2_with fail
    have GP := Z3.out.1.put3 (.int .u64 0) (.int .u32 0) (.int .u8 0)
    obtain ⟨d0, d1, d2⟩ := GP.three
    refine bodyPost_ret (v := .tuple #[.agg #[.int .u64 0, .int .u32 0, .int .u8 0], .int .i64 (F : Int)]) (by simp [results, Try.results18, go_sem, d0, d1, d2]) rfl ⟨by rw [HV.out, ← HF.out, if_neg hFz.out], ?_⟩
    exact ((BW.out.setCell (p := ⟨w.heap.size + 1, 0, none⟩) (by show w.heap.size ≤ w.heap.size + 1; omega) _).setCell (p := ⟨w.heap.size + 1, 1, none⟩) (by show w.heap.size ≤ w.heap.size + 1; omega) _).setCell (p := ⟨w.heap.size + 1, 2, none⟩) (by show w.heap.size ≤ w.heap.size + 1; omega) _

end Go.Proofs.Ytackddgihdnmgaa
