/- The contract of the document's Close of a record. Written by wip/tools/gen_refclose.py. -/
import Derived.Test.YtbekebpkaeefiaaDoorJRop
import Derived.Test.YtbekebpkaeefiaaDoorRefOpenB
import Derived.Test.YtbekebpkaeefiaaDoorJOpd
import Derived.Deep.RegionHeld3
import Derived.Deep.AppendLies
namespace Go.Proofs.YtbekebpkaeefiaaDoor
open Go.RowKit

abbrev c11o0 : Oper := { dst := some 46, op := Op.move (Operand.tmp 4), type := 107, pos := "ref.go:53", after := #[], guard := none }
abbrev c11o1 : Oper := { dst := some 47, op := Op.move (Operand.tmp 5), type := 107, pos := "ref.go:53", after := #[], guard := none }
abbrev c11o2 : Oper := { dst := some 48, op := Op.indexAddr 107 (Operand.tmp 47) (Operand.const (Value.int IntKind.i64 3)), type := 0, pos := "ref.go:53", after := #[{ on := 1, ground := Ground.data }], guard := none }
abbrev c11o3 : Oper := { dst := some 49, op := Op.load 5 (Operand.tmp 48), type := 5, pos := "ref.go:53", after := #[{ on := 2, ground := Ground.data }], guard := none }
abbrev c11o4 : Oper := { dst := some 50, op := Op.move (Operand.tmp 5), type := 107, pos := "ref.go:53", after := #[], guard := none }
abbrev c11o5 : Oper := { dst := some 51, op := Op.indexAddr 107 (Operand.tmp 50) (Operand.const (Value.int IntKind.i64 2)), type := 0, pos := "ref.go:53", after := #[{ on := 4, ground := Ground.data }], guard := none }
abbrev c11o6 : Oper := { dst := some 52, op := Op.load 5 (Operand.tmp 51), type := 5, pos := "ref.go:53", after := #[{ on := 5, ground := Ground.data }], guard := none }
abbrev c11o7 : Oper := { dst := some 53, op := Op.move (Operand.tmp 5), type := 107, pos := "ref.go:53", after := #[], guard := none }
abbrev c11o8 : Oper := { dst := some 54, op := Op.indexAddr 107 (Operand.tmp 53) (Operand.const (Value.int IntKind.i64 1)), type := 0, pos := "ref.go:53", after := #[{ on := 7, ground := Ground.data }], guard := none }
abbrev c11o9 : Oper := { dst := some 55, op := Op.load 5 (Operand.tmp 54), type := 5, pos := "ref.go:53", after := #[{ on := 8, ground := Ground.data }], guard := none }
abbrev c11o10 : Oper := { dst := some 56, op := Op.move (Operand.tmp 5), type := 107, pos := "ref.go:53", after := #[], guard := none }
abbrev c11o11 : Oper := { dst := some 57, op := Op.indexAddr 107 (Operand.tmp 56) (Operand.const (Value.int IntKind.i64 0)), type := 0, pos := "ref.go:53", after := #[{ on := 10, ground := Ground.data }], guard := none }
abbrev c11o12 : Oper := { dst := some 58, op := Op.load 5 (Operand.tmp 57), type := 5, pos := "ref.go:53", after := #[{ on := 11, ground := Ground.data }], guard := none }
abbrev c11o13 : Oper := { dst := some 59, op := Op.buildSlice 107 4 #[(0, Operand.tmp 49), (1, Operand.tmp 52), (2, Operand.tmp 55), (3, Operand.tmp 58)], type := 107, pos := "ref.go:53", after := #[{ on := 3, ground := Ground.data }, { on := 6, ground := Ground.data }, { on := 9, ground := Ground.data }, { on := 12, ground := Ground.data }], guard := none }
abbrev c11o14 : Oper := { dst := some 60, op := Op.call { callee := Callee.builtin Builtin.append, args := #[Operand.tmp 46, Operand.tmp 59], argTypes := #[107, 107] }, type := 107, pos := "ref.go:53", after := #[{ on := 0, ground := Ground.data }, { on := 13, ground := Ground.data }], guard := none }
abbrev c11o15 : Oper := { dst := some 61, op := Op.convert 107 9 (Operand.tmp 60), type := 9, pos := "ref.go:53", after := #[{ on := 14, ground := Ground.data }], guard := none }
abbrev c11o16 : Oper := { dst := some 2, op := Op.assign (Operand.tmp 61), type := 9, pos := "ref.go:53", after := #[{ on := 15, ground := Ground.data }, { on := 14, ground := Ground.chain }, { on := 0, ground := Ground.phase }, { on := 1, ground := Ground.phase }, { on := 2, ground := Ground.phase }, { on := 3, ground := Ground.phase }, { on := 4, ground := Ground.phase }, { on := 5, ground := Ground.phase }, { on := 6, ground := Ground.phase }, { on := 7, ground := Ground.phase }, { on := 8, ground := Ground.phase }, { on := 9, ground := Ground.phase }, { on := 10, ground := Ground.phase }, { on := 11, ground := Ground.phase }, { on := 12, ground := Ground.phase }, { on := 13, ground := Ground.phase }, { on := 14, ground := Ground.phase }, { on := 15, ground := Ground.phase }], guard := none }
abbrev c11o17 : Oper := { dst := some 3, op := Op.assign (Operand.const (Value.int IntKind.i64 0)), type := 3, pos := "ref.go:53", after := #[{ on := 16, ground := Ground.chain }, { on := 0, ground := Ground.phase }, { on := 1, ground := Ground.phase }, { on := 2, ground := Ground.phase }, { on := 3, ground := Ground.phase }, { on := 4, ground := Ground.phase }, { on := 5, ground := Ground.phase }, { on := 6, ground := Ground.phase }, { on := 7, ground := Ground.phase }, { on := 8, ground := Ground.phase }, { on := 9, ground := Ground.phase }, { on := 10, ground := Ground.phase }, { on := 11, ground := Ground.phase }, { on := 12, ground := Ground.phase }, { on := 13, ground := Ground.phase }, { on := 14, ground := Ground.phase }, { on := 15, ground := Ground.phase }, { on := 16, ground := Ground.phase }], guard := none }

theorem wp_conv_to {P : Program} {o : Oper} {a : Act} {w : World} {K : Act → World → Prop} {Q : Exit → Act → World → Prop} (t u : TypeId) (x : Operand) (ho : o.op = .convert t u x)
    (v : Value) (hx : a.eval x = v) (r : Value) (w' : World) (hrun : (convert t u v).run P w = .ok r w') (h : K (a.put o.dst r) w') : o.wp P a w K Q := by
  unfold Oper.wp execOp
  simp only [ho, hx, hrun, Sem.run_bind, Sem.run_pure, Result.andThen_ok]
  exact h
theorem wpList_conv_to {P : Program} {ops : Array Oper} {rest : List Oper} {o : Oper} {a : Act} {w : World} {Q : Exit → Act → World → Prop} (hg : o.guard = none) (t u : TypeId) (x : Operand) (ho : o.op = .convert t u x)
    (v : Value) (hx : a.eval x = v) (r : Value) (w' : World) (hrun : (convert t u v).run P w = .ok r w') (h : wpList P ops Q rest (a.put o.dst r) w') : wpList P ops Q (o :: rest) a w :=
  wpList_plain hg fun _ hK => wp_conv_to t u x ho v hx r w' hrun (hK _ _ h)
def lenOf : Value → Nat
  | .slice _ n _ => n
  | _ => 0
theorem own_app {w : World} {base e m : Nat} {v : Value} {T L : List UInt8} (hm : L.length = m) (h : w.ownsRow base e 1 v ((nb T).length + m) (nums .u8 (nb T) ++ nums .u8 (nb L))) : w.ownsRow base e 1 v (nb (T ++ L)).length (nums .u8 (nb (T ++ L))) := by
  rw [nb_append, List.length_append, nb_len L, hm, nums_append]
  exact h
theorem byte_one {x : Nat} (h : x < 256) : nums .u8 (nb (beL x 1)) = [.int .u8 (x : Int)] := by
  have e : beL x 1 = [UInt8.ofNat x] := by
    show [UInt8.ofNat (x / 256 ^ (1 - 1 - 0) % 256)] = _
    rw [show 1 - 1 - 0 = 0 from rfl, Nat.pow_zero, Nat.div_one, Nat.mod_eq_of_lt h]
  rw [e]
  show [Value.int .u8 (((UInt8.ofNat x).toNat : Nat) : Int)] = _
  rw [UInt8.toNat_ofNat', Nat.mod_eq_of_lt h]
theorem Bts.news {w : World} {g : Nat} {l : List UInt8} (h : Bts w g l) : ∀ j u, (nums .u8 (nb l))[j]? = some u → w.cell? ((⟨g, 0, none⟩ : Addr).add j) = some u := by
  intro j u hu
  have hadd : (⟨g, 0, none⟩ : Addr).add j = ⟨g, j, none⟩ := by unfold Addr.add; split <;> simp_all
  rw [hadd]
  unfold nums nb at hu
  rw [List.getElem?_map, List.getElem?_map] at hu
  by_cases hj : j < l.length
  · rw [List.getElem?_eq_getElem hj] at hu
    rw [(h j hj).1]
    exact hu
  · rw [List.getElem?_eq_none (by omega)] at hu
    cases hu
theorem beL_four {X : Nat} (h : X < 4294967296) : ∃ x0 x1 x2 x3 : Nat, nums .u8 (nb (beL X 4)) = [.int .u8 (x3 : Int), .int .u8 (x2 : Int), .int .u8 (x1 : Int), .int .u8 (x0 : Int)] ∧ nums .u8 (nb (leL X)) = [.int .u8 (x0 : Int), .int .u8 (x1 : Int), .int .u8 (x2 : Int), .int .u8 (x3 : Int)] := by
  refine ⟨X % 256, X / 256 % 256, X / 65536 % 256, X / 16777216 % 256, ?_, ?_⟩
  · have e : beL X 4 = [UInt8.ofNat (X / 16777216 % 256), UInt8.ofNat (X / 65536 % 256), UInt8.ofNat (X / 256 % 256), UInt8.ofNat (X % 256)] := by
      show [UInt8.ofNat (X / 256 ^ 3 % 256), UInt8.ofNat (X / 256 ^ 2 % 256), UInt8.ofNat (X / 256 ^ 1 % 256), UInt8.ofNat (X / 256 ^ 0 % 256)] = _
      simp
    rw [e]
    simp only [nums, nb, List.map_cons, List.map_nil, UInt8.toNat_ofNat']
    simp
  · simp only [nums, nb, leL, List.map_cons, List.map_nil, UInt8.toNat_ofNat']
    simp

set_option maxHeartbeats 4000000 in
set_option maxRecDepth 100000 in
theorem ref_Close_long (k g i : Nat) (d : List UInt8) (w : World) (hd : 110 < d.length) (hd2 : d.length ≤ 9223372036854775807) :
    Calls Tryd.prog 41 #[.agg #[.int .u8 (k : Int), .int .u64 (g : Int), .int .u32 (i : Int), .string (bs d)]] w fun e w' => e = .returned (.tuple #[.string ⟨#[]⟩, .int .i64 11]) ∧ Below w.heap.size w w' := by
  have hsz := bs_size d
  have hd1 : decide ((110 : Int) < (d.length : Int)) = true := decide_eq_true (by omega)
  go_enter Tryd.func41, Tryd.ntmps41
  go_wp2
  go_ret2
  exact ⟨rfl, (Below.refl _ _).alloc (Nat.le_refl _) _⟩

set_option maxHeartbeats 8000000 in
set_option maxRecDepth 100000 in
theorem ref_Close_ok (k g i : Nat) (d : List UInt8) (w : World) (hk : k < 256) (hg : g < 18446744073709551616) (hi' : i < 4294967296) (hd : d.length ≤ 110) :
    Calls Tryd.prog 41 #[.agg #[.int .u8 (k : Int), .int .u64 (g : Int), .int .u32 (i : Int), .string (bs d)]] w fun e w' => e = .returned (.tuple #[.string (bs (secL k g i d)), .int .i64 0]) ∧ Below w.heap.size w w' := by
  obtain ⟨i0, hi, iz0, iz1, iz2⟩ := info_parts infoByte
  have hsz := bs_size d
  have hd1 : decide ((110 : Int) < (d.length : Int)) = false := decide_eq_false (by omega)
  have hwi : IntKind.u64.wrap (i : Int) = (i : Int) := IntWalk.u64_in _ (by omega)
  have hwd : IntKind.u8.wrap (d.length : Int) = (d.length : Int) := by
    have e : IntKind.u8.wrap (d.length : Int) = (d.length : Int) % 256 := by simp [IntKind.wrap, IntKind.bits, IntKind.signed]
    rw [e]; omega
  have HD := Lib.hid hd
  obtain ⟨W0, hW0⟩ : ∃ W0, W0 = w.alloc (.cells #[.int .u8 (k : Int), .int .u64 (g : Int), .int .u32 (i : Int), .string (bs d)] 97) := ⟨_, rfl⟩
  have s0 : W0.heap.size = w.heap.size + 1 := by rw [hW0]; simp
  have RC0 : Hid (Blk W0 w.heap.size 97 [.int .u8 (k : Int), .int .u64 (g : Int), .int .u32 (i : Int), .string (bs d)]) := Lib.hid (by rw [hW0]; exact heap_alloc_new w _)
  have BW0 : Hid (Below w.heap.size w W0) := Lib.hid (by rw [hW0]; exact (Below.refl _ _).alloc (Nat.le_refl _) _)
  have HW0 := Lib.hid hW0
  have S0 := Lib.hid s0
  obtain ⟨W1, hW1⟩ : ∃ W1, W1 = W0.alloc (.cells #[.int .u8 (k : Int)] 5) := ⟨_, rfl⟩
  have RC1 : Hid (Blk W1 w.heap.size 97 [.int .u8 (k : Int), .int .u64 (g : Int), .int .u32 (i : Int), .string (bs d)]) := Lib.hid (by rw [hW1]; exact RC0.out.alloc _)
  have BW1 : Hid (Below w.heap.size w W1) := Lib.hid (by rw [hW1]; exact BW0.out.alloc BW0.out.size _)
  have SW1 : Hid (w.heap.size + 1 ≤ W1.heap.size) := Lib.hid (by rw [hW1, ← s0]; exact grow1 _ _)
  have OW1 : Hid (W1.ownsRow (w.heap.size + 1) 5 1 (.slice (some ⟨w.heap.size + 1, 0, none⟩) 1 1) (nb (beL k 1)).length (nums .u8 (nb (beL k 1)))) := Lib.hid (by
    rw [byte_one hk, nb_len, beL_len]
    refine ⟨rfl, .inr ⟨w.heap.size + 1, 1, #[.int .u8 (k : Int)], rfl, Nat.le_refl _, ?_, Nat.le_refl _, by simp [maxLen], rfl, rfl⟩⟩
    rw [hW1, ← s0]
    exact heap_alloc_new W0 _)
  have HW1 := Lib.hid hW1
  clear hW0 hW1 s0 hd
  go_enter Tryd.func41, Tryd.ntmps41
  obtain ⟨r0, r1, r2, r3⟩ := RC1.out.four
  go_wp2_with fail
  clear r0 r1 r2 r3
  rw [← HW0.out, ← HW1.out]
  refine (ref_digits g 8 W1 hg (by decide) (by decide)).mono ?_
  rintro e W2 ⟨rfl, bk, bl⟩
  have BK2 := Lib.hid bk
  have RC2 := Lib.hid (RC1.out.keep bl)
  have OW2 := Lib.hid (own_keep OW1.out bl)
  have BW2 := Lib.hid (BW1.out.trans (bl.mono BW1.out.size))
  have SW2 := Lib.hid (Nat.le_trans SW1.out bl.size)
  clear bk bl
  go_wp2_with (at_builtin; refine wpList_append_own _ rfl _ _ 107 rfl (w.heap.size + 1) 5 i0 (.int .u8 0) 1 1 Tryd.underlying107 hi iz0 iz1 iz2 rfl (by decide) _ _ _ rfl OW2.out ⟨W1.heap.size, 0, none⟩ 8 8 (nums .u8 (nb (beL g 8))) rfl (by rw [nums_length, nb_len, beL_len]) (World.news_of_block (cs := (nums .u8 (nb (beL g 8))).toArray) BK2.out) (nums_one _ _) (by simp only [maxLen]; rw [nb_len]; simp only [List.length_append, beL_len]; omega) (by rw [nb_len]; simp only [List.length_append, beL_len]; omega) SW2.out ?_)
  intro v3 W3 hown hgr _
  have OW3 := Lib.hid (own_app (T := (beL k 1)) (L := beL g 8) (by rw [beL_len]) hown)
  have bl : Below (w.heap.size + 1) W2 W3 := (Below.refl _ _).grown hgr SW2.out (fun j hj => (OW2.out.lt j hj).1)
  have RC3 := Lib.hid (RC2.out.below bl (Nat.lt_succ_self _))
  have BW3 := Lib.hid (BW2.out.trans (bl.mono (Nat.le_succ _)))
  have SW3 := Lib.hid (Nat.le_trans SW2.out bl.size)
  clear hown hgr bl
  obtain ⟨r0, r1, r2, r3⟩ := RC3.out.four
  go_wp2_with fail
  clear r0 r1 r2 r3
  refine (ref_digits i 4 W3 (by omega) (by decide) (by decide)).mono ?_
  rintro e W4 ⟨rfl, bk, bl⟩
  have BK4 := Lib.hid bk
  have RC4 := Lib.hid (RC3.out.keep bl)
  have OW4 := Lib.hid (own_keep OW3.out bl)
  have BW4 := Lib.hid (BW3.out.trans (bl.mono BW3.out.size))
  have SW4 := Lib.hid (Nat.le_trans SW3.out bl.size)
  clear bk bl
  go_wp2_with (at_builtin; refine wpList_append_own _ rfl _ _ 107 rfl (w.heap.size + 1) 5 i0 (.int .u8 0) 1 1 Tryd.underlying107 hi iz0 iz1 iz2 rfl (by decide) _ _ _ rfl OW4.out ⟨W3.heap.size, 0, none⟩ 4 4 (nums .u8 (nb (beL i 4))) rfl (by rw [nums_length, nb_len, beL_len]) (World.news_of_block (cs := (nums .u8 (nb (beL i 4))).toArray) BK4.out) (nums_one _ _) (by simp only [maxLen]; rw [nb_len]; simp only [List.length_append, beL_len]; omega) (by rw [nb_len]; simp only [List.length_append, beL_len]; omega) SW4.out ?_)
  intro v5 W5 hown hgr _
  have OW5 := Lib.hid (own_app (T := (beL k 1 ++ beL g 8)) (L := beL i 4) (by rw [beL_len]) hown)
  have bl : Below (w.heap.size + 1) W4 W5 := (Below.refl _ _).grown hgr SW4.out (fun j hj => (OW4.out.lt j hj).1)
  have RC5 := Lib.hid (RC4.out.below bl (Nat.lt_succ_self _))
  have BW5 := Lib.hid (BW4.out.trans (bl.mono (Nat.le_succ _)))
  have SW5 := Lib.hid (Nat.le_trans SW4.out bl.size)
  clear hown hgr bl
  obtain ⟨r0, r1, r2, r3⟩ := RC5.out.four
  go_wp2_with (at_builtin; refine wpList_append_own _ rfl _ _ 107 rfl (w.heap.size + 1) 5 i0 (.int .u8 0) 1 1 Tryd.underlying107 hi iz0 iz1 iz2 rfl (by decide) _ _ _ rfl (OW5.out.alloc _) ⟨W5.heap.size, 0, none⟩ 1 1 (nums .u8 (nb (beL d.length 1))) rfl (by rw [nums_length, nb_len, beL_len]) (by rw [byte_one (by have := HD.out; omega)]; exact World.news_of_block (cs := #[.int .u8 (d.length : Int)]) (heap_alloc_new W5 _)) (nums_one _ _) (by simp only [maxLen]; rw [nb_len]; simp only [List.length_append, beL_len]; omega) (by rw [nb_len]; simp only [List.length_append, beL_len]; omega) (Nat.le_trans SW5.out (grow1 _ _)) ?_)
  intro v6 W6 hown hgr _
  clear r0 r1 r2 r3
  have OW6 := Lib.hid (own_app (T := ((beL k 1 ++ beL g 8) ++ beL i 4)) (L := beL d.length 1) (by rw [beL_len]) hown)
  have bl : Below (w.heap.size + 1) W5 W6 := ((Below.refl _ _).alloc SW5.out _).grown hgr (Nat.le_trans SW5.out (grow1 _ _)) (fun j hj => (OW5.out.lt j hj).1)
  have RC6 := Lib.hid (RC5.out.below bl (Nat.lt_succ_self _))
  have BW6 := Lib.hid (BW5.out.trans (bl.mono (Nat.le_succ _)))
  have SW6 := Lib.hid (Nat.le_trans SW5.out bl.size)
  clear hown hgr bl
  obtain ⟨cap, W7, hcv, hbts, bl, hlt, hcap⟩ := conv_bytes d W6 (by have := HD.out; omega)
  have HCV := Lib.hid hcv
  have HBT := Lib.hid hbts.news
  have RC7 := Lib.hid (RC6.out.keep bl)
  have OW7 := Lib.hid (own_keep OW6.out bl)
  have BW7 := Lib.hid (BW6.out.trans (bl.mono BW6.out.size))
  have SW7 := Lib.hid (Nat.le_trans SW6.out bl.size)
  clear hcv hbts bl hlt hcap
  obtain ⟨r0, r1, r2, r3⟩ := RC6.out.four
  obtain ⟨T4, hT4⟩ : ∃ T4, T4 = ((beL k 1 ++ beL g 8) ++ beL i 4) ++ beL d.length 1 := ⟨_, rfl⟩
  have DT4 : Hid (T4.length = 14) := Lib.hid (by rw [hT4]; simp only [List.length_append, beL_len])
  rw [← hT4] at OW6 OW7
  have HT4 := Lib.hid hT4
  clear hT4
  go_wp2_with (first | (refine wpList_conv_to rfl 9 107 _ rfl (.string (bs d)) rfl _ W7 HCV.out ?_) | (at_builtin; refine wpList_append_own _ rfl _ _ 107 rfl (w.heap.size + 1) 5 i0 (.int .u8 0) 1 1 Tryd.underlying107 hi iz0 iz1 iz2 rfl (by decide) _ _ _ rfl OW7.out ⟨W6.heap.size, 0, none⟩ d.length cap (nums .u8 (nb d)) rfl (by rw [nums_length, nb_len, Nat.mul_one]) HBT.out (nums_one _ _) (by simp only [maxLen]; rw [nb_len, DT4.out]; have := HD.out; omega) (by rw [nb_len, DT4.out]; have := HD.out; omega) SW7.out ?_; intro v8 W8 hown hgr _))
  clear r0 r1 r2 r3
  have OW8 := Lib.hid (own_app (T := T4) (L := d) (by rfl) hown)
  have bl : Below (w.heap.size + 1) W7 W8 := (Below.refl _ _).grown hgr SW7.out (fun j hj => (OW7.out.lt j hj).1)
  have RC8 := Lib.hid (RC7.out.below bl (Nat.lt_succ_self _))
  have BW8 := Lib.hid (BW7.out.trans (bl.mono (Nat.le_succ _)))
  have SW8 := Lib.hid (Nat.le_trans SW7.out bl.size)
  clear hown hgr bl
  obtain ⟨T5, hT5⟩ : ∃ T5, T5 = T4 ++ d := ⟨_, rfl⟩
  have DT5 : Hid (T5.length = 14 + d.length) := Lib.hid (by rw [hT5, List.length_append, DT4.out])
  rw [← hT5] at OW8
  have HT5 := Lib.hid hT5
  have h8 := OW8.out
  rw [nb_len, DT5.out] at h8
  obtain ⟨g8, cap8, rfl, _, _⟩ := h8.form (by omega)
  have OX8 : Hid (W8.ownsRow (w.heap.size + 1) 5 1 (.slice (some ⟨g8, 0, none⟩) (14 + d.length) cap8) (nb (T5 ++ beL 0 0)).length (nums .u8 (nb (T5 ++ beL 0 0)))) := Lib.hid (by
    have e : T5 ++ beL 0 0 = T5 := by simp [beL]
    rw [e]
    exact OW8.out)
  clear h8 hT5
  try simp only [Act.put, List.setIfInBounds_toArray, List.set_cons_succ, List.set_cons_zero]
  go_loopw [4] (fun ov wr => ∃ (m q gg cc : Nat), ov = .slice (some ⟨gg, 0, none⟩) q cc ∧ q = 14 + d.length + m ∧ m ≤ 110 - d.length ∧ Hid (wr.ownsRow (w.heap.size + 1) 5 1 (.slice (some ⟨gg, 0, none⟩) q cc) (nb (T5 ++ beL 0 m)).length (nums .u8 (nb (T5 ++ beL 0 m)))) ∧ Hid (Below w.heap.size w wr) ∧ Hid (w.heap.size + 1 ≤ wr.heap.size)) (fun ov _ => 124 - lenOf ov)
  case atStart => exact ⟨0, _, _, _, rfl, rfl, Nat.zero_le _, OX8, BW8, SW8⟩
  case round =>
    obtain ⟨m, q, gg, cc, rfl, hq, hm, HO, HB, HSZ⟩ := hrel
    have DQ : Hid ((T5 ++ beL 0 m).length = q) := Lib.hid (by rw [List.length_append, DT5.out, beL_len]; omega)
    by_cases hlt : q < 124
    · have hd : decide ((q : Int) < 124) = true := decide_eq_true (by omega)
      have HQ := Lib.hid hlt
      have HM := Lib.hid (show m + 1 ≤ 110 - d.length by omega)
      have HQ2 := Lib.hid hq
      clear hq hlt hm
      go_wp2_with (at_builtin; refine wpList_append_own _ rfl _ _ 107 rfl (w.heap.size + 1) 5 i0 (.int .u8 0) 1 1 Tryd.underlying107 hi iz0 iz1 iz2 rfl (by decide) _ _ _ rfl (HO.out.alloc _) ⟨wr.heap.size, 0, none⟩ 1 1 [.int .u8 0] rfl rfl (World.news_of_block (cs := #[.int .u8 0]) (heap_alloc_new wr _)) (by intro u hu; simp at hu; subst hu; rfl) (by rw [nb_len, DQ.out]; have := HQ.out; simp only [maxLen]; omega) (by rw [nb_len, DQ.out]; have := HQ.out; omega) (Nat.le_trans HSZ.out (grow1 _ _)) ?_; intro v9 w9 hown hgr _)
      have bl : Below (w.heap.size + 1) wr w9 := ((Below.refl _ _).alloc HSZ.out _).grown hgr (Nat.le_trans HSZ.out (grow1 _ _)) (fun j hj => (HO.out.lt j hj).1)
      have B9 := Lib.hid (HB.out.trans (bl.mono (Nat.le_succ _)))
      have S9 := Lib.hid (Nat.le_trans HSZ.out bl.size)
      have e9 : beL 0 (m + 1) = beL 0 m ++ [0] := by rw [beL_zero, beL_zero, List.replicate_succ']
      have h9 : w9.ownsRow (w.heap.size + 1) 5 1 v9 (nb (T5 ++ beL 0 (m + 1))).length (nums .u8 (nb (T5 ++ beL 0 (m + 1)))) := by
        rw [e9, ← List.append_assoc]
        exact own_app (m := 1) (L := [0]) rfl hown
      obtain ⟨g9, c9, e, _, _⟩ := h9.form (by rw [nb_len, List.length_append, DT5.out]; omega)
      have eq9 : (nb (T5 ++ beL 0 (m + 1))).length = q + 1 := by rw [nb_len, List.length_append, DT5.out, beL_len]; have := HQ2.out; omega
      rw [eq9] at e
      subst e
      have O9 := Lib.hid h9
      clear hown hgr bl e9 h9 eq9
      try simp only [Act.put, List.setIfInBounds_toArray, List.set_cons_succ, List.set_cons_zero]
      go_roundw
      case rel => exact ⟨m + 1, q + 1, g9, c9, rfl, by have := HQ2.out; omega, HM.out, O9, B9, S9⟩
      case measure => have := HQ.out; simp [lenOf]; omega
    · obtain rfl : q = 124 := by have := HD.out; omega
      obtain ⟨T, hT⟩ : ∃ T, T = T5 ++ beL 0 m := ⟨_, rfl⟩
      have hT2 : T = bodyL k g i d := by
        rw [hT, HT5.out, HT4.out, show m = 110 - d.length by have := HD.out; omega]
        rfl
      rw [← hT] at HO DQ
      obtain ⟨X, hX⟩ : ∃ X, X = crcSum T := ⟨_, rfl⟩
      have hXb : X < 4294967296 := by rw [hX]; exact crcSum_lt _
      have HSEC : Hid (T ++ leL X = secL k g i d) := Lib.hid (by rw [hX, hT2]; rfl)
      have HS : Hid (∀ W, Calls Tryd.prog 78 #[.string (bs T)] W fun e w' => e = .returned (.int .u64 (X : Int)) ∧ W = w') := Lib.hid (fun W => by
        have h := ref_Sum (bs T) W (by rw [bs_size, DQ.out]; omega)
        rw [bs_list, ← hX] at h
        exact h)
      have HCO : Hid ((convert 107 9 (.slice (some ⟨gg, 0, none⟩) 124 cc)).run Tryd.prog wr = .ok (.string (bs T)) wr) := Lib.hid (conv_own HO.out)
      have hd : decide (((124 : Nat) : Int) < 124) = false := by decide
      have HXB := Lib.hid hXb
      clear hT hT2 hX hq hlt hm hXb
      go_wp2_with (refine wpList_conv_to rfl 107 9 _ rfl (.slice (some ⟨gg, 0, none⟩) 124 cc) rfl (.string (bs T)) wr HCO.out ?_)
      refine (HS.out _).mono ?_
      rintro e w1 ⟨rfl, rfl⟩
      go_wp2_with fail
      refine (ref_digits X 4 wr (by have := HXB.out; omega) (by decide) (by decide)).mono ?_
      rintro e W8 ⟨rfl, bk, bl⟩
      obtain ⟨x0, x1, x2, x3, hb4, hl4⟩ := beL_four HXB.out
      rw [hb4] at bk
      have BK8 := Lib.hid bk
      have OW8 := Lib.hid (own_keep HO.out bl)
      have BW8 := Lib.hid (HB.out.trans (bl.mono HB.out.size))
      have SW8 := Lib.hid (Nat.le_trans HSZ.out bl.size)
      have DL : Hid (T.length = 124) := Lib.hid DQ.out
      obtain ⟨W9, hW9⟩ : ∃ W9, W9 = (W8.alloc (.cells #[.int .u8 (x0 : Int), .int .u8 (x1 : Int), .int .u8 (x2 : Int), .int .u8 (x3 : Int)] 5)).drew := ⟨_, rfl⟩
      have HB9 : Hid ((Instr.buildSlice 107 4 #[(0, .int .u8 (x0 : Int)), (1, .int .u8 (x1 : Int)), (2, .int .u8 (x2 : Int)), (3, .int .u8 (x3 : Int))]).run Tryd.prog W8.drew = .ok (.slice (some ⟨W8.heap.size, 0, none⟩) 4 4) W9) := Lib.hid (by
        rw [hW9]
        go_simp
        try rfl)
      have BK9 : Hid (Blk W9 wr.heap.size 5 [.int .u8 (x3 : Int), .int .u8 (x2 : Int), .int .u8 (x1 : Int), .int .u8 (x0 : Int)]) := Lib.hid (by rw [hW9]; exact BK8.out.alloc _)
      have HN9 : Hid (∀ j u, (nums .u8 (nb (leL X)))[j]? = some u → W9.cell? ((⟨W8.heap.size, 0, none⟩ : Addr).add j) = some u) := Lib.hid (by
        rw [hl4, hW9]
        exact World.news_of_block (w := (W8.alloc _).drew) (cs := #[.int .u8 (x0 : Int), .int .u8 (x1 : Int), .int .u8 (x2 : Int), .int .u8 (x3 : Int)]) (heap_alloc_new W8 _))
      have OW9 : Hid (W9.ownsRow (w.heap.size + 1) 5 1 (.slice (some ⟨gg, 0, none⟩) 124 cc) (nb T).length (nums .u8 (nb T))) := Lib.hid (by rw [hW9]; exact OW8.out.alloc _)
      have SW9 : Hid (w.heap.size + 1 ≤ W9.heap.size) := Lib.hid (by rw [hW9]; exact Nat.le_trans SW8.out (grow1 _ _))
      have BW9 : Hid (Below w.heap.size w W9) := Lib.hid (by rw [hW9]; exact (BW8.out.alloc BW8.out.size _).drew)
      have HS0 : Hid (W8.drew.cell? ⟨wr.heap.size, 0, none⟩ = some (.int .u8 (x3 : Int)) ∧ W8.drew.cell? ⟨wr.heap.size, 1, none⟩ = some (.int .u8 (x2 : Int)) ∧ W8.drew.cell? ⟨wr.heap.size, 2, none⟩ = some (.int .u8 (x1 : Int)) ∧ W8.drew.cell? ⟨wr.heap.size, 3, none⟩ = some (.int .u8 (x0 : Int))) := Lib.hid BK8.out.four
      have HS9 := Lib.hid BK9.out.four
      have hlt9 := (HO.out.lt gg rfl).2
      have HSK := Lib.hid (fun (W10 : World) (hgr : W9.grownBy W10 (Value.ownBlock (.slice (some ⟨gg, 0, none⟩) 124 cc))) => (BK9.out.grown hgr (fun e => by
        have e2 : wr.heap.size = gg := by injection e
        omega)).four)
      clear bk bl hb4 hl4 hW9 hlt9
      go_wp2_with fail
      refine wp_region_held_drew (S := fun w' => w'.cell? ⟨wr.heap.size, 0, none⟩ = some (.int .u8 (x3 : Int)) ∧ w'.cell? ⟨wr.heap.size, 1, none⟩ = some (.int .u8 (x2 : Int)) ∧ w'.cell? ⟨wr.heap.size, 2, none⟩ = some (.int .u8 (x1 : Int)) ∧ w'.cell? ⟨wr.heap.size, 3, none⟩ = some (.int .u8 (x0 : Int))) (by kernel_rfl) ?_ (fun hHeld => ?_)
      · exact HS0.out
      refine wpAnyH_take (i := 0) (oi := c11o0) (v := ?_) rfl (by kernel_rfl) (by kernel_rfl) (by kernel_rfl) (fun _ _ _ h => h) (Or.inl ⟨by rfl, ?_⟩) (by assumption) ?_
      rotate_left
      · (intro w hSw; (try dsimp only at hSw); obtain ⟨s0, s1, s2, s3⟩ := hSw; (try dsimp only [c11o0]); go_simp; try (with_reducible rfl))
      (try simp only [Act.put, List.setIfInBounds_toArray, List.set_cons_zero, List.set_cons_succ])
      refine wpAnyH_take (i := 1) (oi := c11o1) (v := ?_) rfl (by kernel_rfl) (by kernel_rfl) (by kernel_rfl) (fun _ _ _ h => h) (Or.inl ⟨by rfl, ?_⟩) (by assumption) ?_
      rotate_left
      · (intro w hSw; (try dsimp only at hSw); obtain ⟨s0, s1, s2, s3⟩ := hSw; (try dsimp only [c11o1]); go_simp; try (with_reducible rfl))
      (try simp only [Act.put, List.setIfInBounds_toArray, List.set_cons_zero, List.set_cons_succ])
      refine wpAnyH_take (i := 2) (oi := c11o2) (v := ?_) rfl (by kernel_rfl) (by kernel_rfl) (by kernel_rfl) (fun _ _ _ h => h) (Or.inl ⟨by rfl, ?_⟩) (by assumption) ?_
      rotate_left
      · (intro w hSw; (try dsimp only at hSw); obtain ⟨s0, s1, s2, s3⟩ := hSw; (try dsimp only [c11o2]); go_simp; try (with_reducible rfl))
      (try simp only [Act.put, List.setIfInBounds_toArray, List.set_cons_zero, List.set_cons_succ])
      refine wpAnyH_take (i := 3) (oi := c11o3) (v := ?_) rfl (by kernel_rfl) (by kernel_rfl) (by kernel_rfl) (fun _ _ _ h => h) (Or.inl ⟨by rfl, ?_⟩) (by assumption) ?_
      rotate_left
      · (intro w hSw; (try dsimp only at hSw); obtain ⟨s0, s1, s2, s3⟩ := hSw; (try dsimp only [c11o3]); go_simp; try (with_reducible rfl))
      (try simp only [Act.put, List.setIfInBounds_toArray, List.set_cons_zero, List.set_cons_succ])
      refine wpAnyH_take (i := 4) (oi := c11o4) (v := ?_) rfl (by kernel_rfl) (by kernel_rfl) (by kernel_rfl) (fun _ _ _ h => h) (Or.inl ⟨by rfl, ?_⟩) (by assumption) ?_
      rotate_left
      · (intro w hSw; (try dsimp only at hSw); obtain ⟨s0, s1, s2, s3⟩ := hSw; (try dsimp only [c11o4]); go_simp; try (with_reducible rfl))
      (try simp only [Act.put, List.setIfInBounds_toArray, List.set_cons_zero, List.set_cons_succ])
      refine wpAnyH_take (i := 5) (oi := c11o5) (v := ?_) rfl (by kernel_rfl) (by kernel_rfl) (by kernel_rfl) (fun _ _ _ h => h) (Or.inl ⟨by rfl, ?_⟩) (by assumption) ?_
      rotate_left
      · (intro w hSw; (try dsimp only at hSw); obtain ⟨s0, s1, s2, s3⟩ := hSw; (try dsimp only [c11o5]); go_simp; try (with_reducible rfl))
      (try simp only [Act.put, List.setIfInBounds_toArray, List.set_cons_zero, List.set_cons_succ])
      refine wpAnyH_take (i := 6) (oi := c11o6) (v := ?_) rfl (by kernel_rfl) (by kernel_rfl) (by kernel_rfl) (fun _ _ _ h => h) (Or.inl ⟨by rfl, ?_⟩) (by assumption) ?_
      rotate_left
      · (intro w hSw; (try dsimp only at hSw); obtain ⟨s0, s1, s2, s3⟩ := hSw; (try dsimp only [c11o6]); go_simp; try (with_reducible rfl))
      (try simp only [Act.put, List.setIfInBounds_toArray, List.set_cons_zero, List.set_cons_succ])
      refine wpAnyH_take (i := 7) (oi := c11o7) (v := ?_) rfl (by kernel_rfl) (by kernel_rfl) (by kernel_rfl) (fun _ _ _ h => h) (Or.inl ⟨by rfl, ?_⟩) (by assumption) ?_
      rotate_left
      · (intro w hSw; (try dsimp only at hSw); obtain ⟨s0, s1, s2, s3⟩ := hSw; (try dsimp only [c11o7]); go_simp; try (with_reducible rfl))
      (try simp only [Act.put, List.setIfInBounds_toArray, List.set_cons_zero, List.set_cons_succ])
      refine wpAnyH_take (i := 8) (oi := c11o8) (v := ?_) rfl (by kernel_rfl) (by kernel_rfl) (by kernel_rfl) (fun _ _ _ h => h) (Or.inl ⟨by rfl, ?_⟩) (by assumption) ?_
      rotate_left
      · (intro w hSw; (try dsimp only at hSw); obtain ⟨s0, s1, s2, s3⟩ := hSw; (try dsimp only [c11o8]); go_simp; try (with_reducible rfl))
      (try simp only [Act.put, List.setIfInBounds_toArray, List.set_cons_zero, List.set_cons_succ])
      refine wpAnyH_take (i := 9) (oi := c11o9) (v := ?_) rfl (by kernel_rfl) (by kernel_rfl) (by kernel_rfl) (fun _ _ _ h => h) (Or.inl ⟨by rfl, ?_⟩) (by assumption) ?_
      rotate_left
      · (intro w hSw; (try dsimp only at hSw); obtain ⟨s0, s1, s2, s3⟩ := hSw; (try dsimp only [c11o9]); go_simp; try (with_reducible rfl))
      (try simp only [Act.put, List.setIfInBounds_toArray, List.set_cons_zero, List.set_cons_succ])
      refine wpAnyH_take (i := 10) (oi := c11o10) (v := ?_) rfl (by kernel_rfl) (by kernel_rfl) (by kernel_rfl) (fun _ _ _ h => h) (Or.inl ⟨by rfl, ?_⟩) (by assumption) ?_
      rotate_left
      · (intro w hSw; (try dsimp only at hSw); obtain ⟨s0, s1, s2, s3⟩ := hSw; (try dsimp only [c11o10]); go_simp; try (with_reducible rfl))
      (try simp only [Act.put, List.setIfInBounds_toArray, List.set_cons_zero, List.set_cons_succ])
      refine wpAnyH_take (i := 11) (oi := c11o11) (v := ?_) rfl (by kernel_rfl) (by kernel_rfl) (by kernel_rfl) (fun _ _ _ h => h) (Or.inl ⟨by rfl, ?_⟩) (by assumption) ?_
      rotate_left
      · (intro w hSw; (try dsimp only at hSw); obtain ⟨s0, s1, s2, s3⟩ := hSw; (try dsimp only [c11o11]); go_simp; try (with_reducible rfl))
      (try simp only [Act.put, List.setIfInBounds_toArray, List.set_cons_zero, List.set_cons_succ])
      refine wpAnyH_take (i := 12) (oi := c11o12) (v := ?_) rfl (by kernel_rfl) (by kernel_rfl) (by kernel_rfl) (fun _ _ _ h => h) (Or.inl ⟨by rfl, ?_⟩) (by assumption) ?_
      rotate_left
      · (intro w hSw; (try dsimp only at hSw); obtain ⟨s0, s1, s2, s3⟩ := hSw; (try dsimp only [c11o12]); go_simp; try (with_reducible rfl))
      (try simp only [Act.put, List.setIfInBounds_toArray, List.set_cons_zero, List.set_cons_succ])
      refine wpAnyH_ready (rs := [13]) (by kernel_rfl) (by simp) ?_
      refine AllReadyH.cons (o := c11o13) rfl (fun K hK => ?_) AllReadyH.nil
      rw [if_pos (by rfl)]
      refine wp_build_isR _ _ _ rfl #[(0, .int .u8 (x0 : Int)), (1, .int .u8 (x1 : Int)), (2, .int .u8 (x2 : Int)), (3, .int .u8 (x3 : Int))] (by simp [Act.eval]) (.slice (some ⟨W8.heap.size, 0, none⟩) 4 4) W9 HB9.out ?_
      refine hK.out _ _ ?_ (fun hHeld => ?_)
      · exact HS9.out
      clear hK K
      (try simp only [Act.put, List.setIfInBounds_toArray, List.set_cons_zero, List.set_cons_succ])
      refine wpAnyH_ready (rs := [14]) (by kernel_rfl) (by simp) ?_
      refine AllReadyH.cons (o := c11o14) rfl (fun K hK => ?_) AllReadyH.nil
      rw [if_pos (by rfl)]
      refine wp_append_own W9 _ _ 107 rfl (w.heap.size + 1) 5 i0 (.int .u8 0) 1 1 Tryd.underlying107 hi iz0 iz1 iz2 rfl (by decide) _ _ _ rfl OW9.out ⟨W8.heap.size, 0, none⟩ 4 4 (nums .u8 (nb (leL X))) rfl (by rw [nums_length, nb_len, leL_len]) HN9.out (nums_one _ _) (by simp only [maxLen]; rw [nb_len, DL.out]; omega) (by rw [nb_len, DL.out]; omega) SW9.out ?_
      intro v10 W10 hown10 hgr10 _
      have OW10 := Lib.hid (own_app (by rfl) hown10)
      have B10 := Lib.hid (BW9.out.trans ((Below.refl (w.heap.size + 1) W9).grown hgr10 SW9.out (fun j hj => (OW9.out.lt j hj).1) |>.mono (Nat.le_succ _)))
      have HS10 := Lib.hid (HSK.out W10 hgr10)
      clear hown10 hgr10
      refine hK.out _ _ ?_ (fun hHeld => ?_)
      · exact HS10.out
      clear hK K
      (try simp only [Act.put, List.setIfInBounds_toArray, List.set_cons_zero, List.set_cons_succ])
      refine wpAnyH_ready (rs := [15]) (by kernel_rfl) (by simp) ?_
      refine AllReadyH.cons (o := c11o15) rfl (fun K hK => ?_) AllReadyH.nil
      rw [if_pos (by rfl)]
      refine wp_conv_is _ _ _ rfl v10 rfl (.string (bs (T ++ leL X))) (conv_own OW10.out) ?_
      refine hK.out _ _ ?_ (fun hHeld => ?_)
      · exact HS10.out
      clear hK K
      (try simp only [Act.put, List.setIfInBounds_toArray, List.set_cons_zero, List.set_cons_succ])
      refine wpAnyH_take (i := 16) (oi := c11o16) (v := ?_) rfl (by kernel_rfl) (by kernel_rfl) (by kernel_rfl) (fun _ _ _ h => h) (Or.inl ⟨by rfl, ?_⟩) (by assumption) ?_
      rotate_left
      · (intro w hSw; (try dsimp only at hSw); obtain ⟨s0, s1, s2, s3⟩ := hSw; (try dsimp only [c11o16]); go_simp; try (with_reducible rfl))
      (try simp only [Act.put, List.setIfInBounds_toArray, List.set_cons_zero, List.set_cons_succ])
      refine wpAnyH_take (i := 17) (oi := c11o17) (v := ?_) rfl (by kernel_rfl) (by kernel_rfl) (by kernel_rfl) (fun _ _ _ h => h) (Or.inl ⟨by rfl, ?_⟩) (by assumption) ?_
      rotate_left
      · (intro w hSw; (try dsimp only at hSw); obtain ⟨s0, s1, s2, s3⟩ := hSw; (try dsimp only [c11o17]); go_simp; try (with_reducible rfl))
      (try simp only [Act.put, List.setIfInBounds_toArray, List.set_cons_zero, List.set_cons_succ])
      refine wpAnyH_done (by kernel_rfl) ?_ _
      go_wp2_with fail
      go_ret2
      exact ⟨by rw [HSEC.out]; rfl, B10.out⟩

end Go.Proofs.YtbekebpkaeefiaaDoor
