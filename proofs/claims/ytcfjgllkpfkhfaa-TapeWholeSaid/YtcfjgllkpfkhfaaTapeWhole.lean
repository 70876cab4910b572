/- The statement TapeWhole walked. -/
import Derived.Test.YtcfjgllkpfkhfaaTapeM
import Derived.Laws.BitsLemmas
namespace Go.Proofs.Ytcfjgllkpfkhfaa
open Go.RowKit

theorem numL_one (l : List UInt8) (a : Nat) : numL l a 1 = bitL l a := by
  rw [numL_succ, numL_zero, Nat.zero_mul, Nat.zero_add, Nat.add_zero]
/-- A byte is its first bit and the seven behind it. -/
theorem byte_split (l : List UInt8) (i : Nat) : (l.getD i 0).toNat = bitL l (8 * i) * 128 + numL l (8 * i + 1) 7 := by
  rw [← numL_byte, show 8 = 1 + 7 from rfl, numL_add, numL_one]
theorem byte_tail (l : List UInt8) (a : Nat) : numL l a 8 = numL l a 7 * 2 + bitL l (a + 7) := numL_succ l a 7

theorem wrap8 {k : Nat} (h : k < 256) : IntKind.u8.wrap (k : Int) = (k : Int) := by
  have : (k : Int) % 256 = (k : Int) := by omega
  simpa [IntKind.wrap, IntKind.bits, IntKind.signed] using this
theorem or8 {a b : Nat} (ha : a < 2) (hb : b < 128) : bits BinOp.or IntKind.u8 ((a * 128 : Nat) : Int) (b : Int) = ((a * 128 + b : Nat) : Int) := by
  have h1 : (a * 128 ||| b) = a * 128 + b := by
    have e : (128 : Nat) = 2 ^ 7 := by decide
    rw [e] at hb ⊢
    rw [Nat.mul_comm a, ← Nat.two_pow_add_eq_or_of_lt hb]
  have h2 : a * 128 + b < 256 := by omega
  have h3 : (BitVec.ofInt 8 ((a * 128 : Nat) : Int)).toNat = a * 128 := by
    rw [BitVec.ofInt_natCast, BitVec.toNat_ofNat]; exact Nat.mod_eq_of_lt (by omega)
  have h4 : (BitVec.ofInt 8 (b : Int)).toNat = b := by
    rw [BitVec.ofInt_natCast, BitVec.toNat_ofNat]; exact Nat.mod_eq_of_lt (by omega)
  show IntKind.u8.wrap ((BitVec.ofInt 8 ((a * 128 : Nat) : Int) ||| BitVec.ofInt 8 (b : Int)).toNat : Int) = _
  rw [BitVec.toNat_or, h3, h4, h1, wrap8 h2]
theorem and8 {a : Nat} (ha : a < 256) : bits BinOp.and IntKind.u8 (a : Int) 1 = ((a % 2 : Nat) : Int) := by
  have h3 : (BitVec.ofInt 8 (a : Int)).toNat = a := by
    rw [BitVec.ofInt_natCast, BitVec.toNat_ofNat]; exact Nat.mod_eq_of_lt (by omega)
  have h4 : (BitVec.ofInt 8 1).toNat = 1 := by decide
  show IntKind.u8.wrap ((BitVec.ofInt 8 (a : Int) &&& BitVec.ofInt 8 1).toNat : Int) = _
  rw [BitVec.toNat_and, h3, h4, Nat.and_one_is_mod, wrap8 (by omega)]

theorem one_byte (v : Nat) : (strOfNums [(v : Int)]).data.toList = [UInt8.ofNat v] := by
  rw [strOfNums_data]
  simp

theorem conv_one (V : Nat) : ∃ E : ByteArray, E.data.toList = [UInt8.ofNat V] ∧ ∀ (W : World) (te : TypeId), (convert 44 9 (.slice (some ⟨W.heap.size, 0, none⟩) 1 1)).run Try.prog (W.alloc (.cells #[.int .u8 (V : Int)] te)) = .ok (.string E) (W.alloc (.cells #[.int .u8 (V : Int)] te)) := by
  refine ⟨strOfNums [(V : Int)], one_byte V, fun W te => ?_⟩
  exact run_convert_bytes_arg (P := Try.prog) _ 44 5 Try.underlying44 Try.underlying5 W.heap.size 0 1 1 [(V : Int)] rfl (fun i hi => by
    have : i = 0 := by omega
    subst this
    exact World.cell?_alloc_at (w := W) #[.int .u8 (V : Int)] te W.heap.size 0 rfl) 9 Try.underlying9

set_option maxHeartbeats 4000000 in
set_option maxRecDepth 100000 in
theorem tapeWhole_walk (s0 : ByteArray) (hs0 : s0.size ≤ maxLen) (w : World) :
    Calls Try.prog 5 #[.string s0] w fun e w' => e = .returned (.bool true) ∧ Below w.heap.size w w' := by
  unfold maxLen at hs0
  by_cases hbig : 200 < s0.size
  · go_enter Try.func5, Try.ntmps5
    go_wp2_with fail
    refine (law7_Awake _).mono ?_
    rintro e w1 ⟨rfl, hb1⟩
    have B1 := Lib.hid hb1
    clear hb1
    go_wp2_with fail
    go_ret
    exact ⟨rfl, B1.out⟩
  · have hs200 : (s0.size : Int) ≤ 200 := by omega
    have hs : (s0.size : Int) ≤ 1000000 := by omega
    have hd : decide (200 < (s0.size : Int)) = false := decide_eq_false (by omega)
    have hm8 : IntKind.i64.wrap (8 * (s0.size : Int)) = 8 * (s0.size : Int) := IntWalk.i64_in _ (by omega)
    obtain ⟨m, hm⟩ : ∃ m, m = 8 * s0.size := ⟨_, rfl⟩
    have hmi : 8 * (s0.size : Int) = (m : Int) := by omega
    have RB := Lib.hid (fun W => tape_Bytes_ok s0 s0 0 s0.size m W hs (by omega) (Lib.hid (by rw [← dlen, bytL_all])) (Lib.hid (by omega)))
    have L0 := Lib.hid (fun W => tape_Left s0 m 0 W hs (by omega))
    have L8 : Hid (∀ W : World, Calls Try.prog 18 #[.agg #[.string s0, .int .i64 0]] W fun e w' => e = .returned (.int .i64 (m : Int)) ∧ Below W.heap.size W w') := Lib.hid (fun W => tape_Left s0 0 m W hs (by omega))
    by_cases hemp : s0.size = 0
    · have hnil : s0 = ⟨#[]⟩ := bytes_ext (List.eq_nil_of_length_eq_zero (by rw [dlen]; exact hemp))
      subst hnil
      have hm0 : m = 0 := hm
      subst hm0
      have RS : Hid (∀ W : World, Calls Try.prog 15 #[.agg #[.string ⟨#[]⟩, .int .i64 0], .int .i64 1] W fun e w' => e = .returned (.tuple #[.int .u64 0, .agg #[.string ⟨#[]⟩, .int .i64 0], .int .i64 6]) ∧ Below W.heap.size W w') :=
        Lib.hid (fun W => tape_Read_short ⟨#[]⟩ 0 1 W (by decide) (by decide) (by decide) (by decide))
      have RB0 : Hid (∀ W : World, Calls Try.prog 12 #[.agg #[.string ⟨#[]⟩, .int .i64 0], .int .i64 0] W fun e w' => e = .returned (.tuple #[.string ⟨#[]⟩, .agg #[.string ⟨#[]⟩, .int .i64 0], .int .i64 0]) ∧ Below W.heap.size W w') := Lib.hid (fun W => RB.out W)
      clear hm hemp hmi hm8 hd hbig hs0 hs200 RB
      go_enter Try.func5, Try.ntmps5
      go_wp2_with fail
      refine (tape_New ⟨#[]⟩ _).mono ?_
      rintro e w1 ⟨rfl, hb1⟩
      have T1 := Lib.hid (TBox.new 25 w1 ⟨#[]⟩ 0)
      have B1 := Lib.hid (hb1.alloc hb1.size (.cells #[.string ⟨#[]⟩, .int .i64 0] 25))
      clear hb1
      go_wp2_with fail
      refine (RB0.out _).mono ?_
      rintro e w2 ⟨rfl, hb2⟩
      have T2 := Lib.hid ((T1.out.keep hb2).alloc (.cells #[.string ⟨#[]⟩, .int .i64 0] 25))
      have B2 := Lib.hid ((keepB B1.out hb2).alloc (keepB B1.out hb2).size (.cells #[.string ⟨#[]⟩, .int .i64 0] 25))
      clear hb2 T1 B1
      go_wp2_with fail
      refine (L8.out _).mono ?_
      rintro e w3 ⟨rfl, hb3⟩
      have T3 := Lib.hid (T2.out.keep hb3)
      have B3 := Lib.hid (keepB B2.out hb3)
      obtain ⟨c0, c1⟩ := T3.out.cells
      clear hb3 T2 B2
      go_wp2_with fail
      refine (L8.out _).mono ?_
      rintro e w4 ⟨rfl, hb4⟩
      have T4 := Lib.hid (T3.out.keep hb4)
      have B4 := Lib.hid (keepB B3.out hb4)
      clear hb4 T3 B3 c0 c1
      obtain ⟨c0, c1⟩ := T4.out.cells
      go_wp2_with fail
      refine (RS.out _).mono ?_
      rintro e w5 ⟨rfl, hb5⟩
      have B5 := Lib.hid ((keepB B4.out hb5).alloc (keepB B4.out hb5).size (.cells #[.string ⟨#[]⟩, .int .i64 0] 25))
      clear hb5 T4 B4 c0 c1
      go_wp2_with fail
      refine (law7_Awake _).mono ?_
      rintro e w6 ⟨rfl, hb6⟩
      have B6 := Lib.hid (keepB B5.out hb6)
      clear hb6 B5
      go_wp2_with fail
      go_ret
      exact ⟨rfl, B6.out⟩
    · obtain ⟨q, hq⟩ : ∃ q, s0.size = q + 1 := ⟨s0.size - 1, by omega⟩
      have hne1 : s0.toList.isEmpty = false := by
        rw [ByteArray.toList_eq]
        cases hl : s0.data.toList with
        | nil => have := dlen s0; rw [hl] at this; simp at this; omega
        | cons _ _ => rfl
      obtain ⟨x, hx⟩ : ∃ x, x = bitL s0.data.toList 0 := ⟨_, rfl⟩
      obtain ⟨C, hC⟩ : ∃ C : ByteArray, C.data.toList = bytL s0.data.toList 1 q := ⟨⟨(bytL s0.data.toList 1 q).toArray⟩, rfl⟩
      obtain ⟨y, hy⟩ : ∃ y, y = numL s0.data.toList (1 + 8 * q) 7 := ⟨_, rfl⟩
      obtain ⟨z, hz⟩ : ∃ z, z = 1 + 8 * q := ⟨_, rfl⟩
      have hCq : C.size = q := by rw [← dlen, hC, bytL_len]
      have hx2 : x < 2 := by rw [hx]; exact bitL_lt _ _
      have hy7 : y < 128 := by
        have := numL_lt s0.data.toList (1 + 8 * q) 7
        rw [← hy, show (2 : Nat) ^ 7 = 128 from by decide] at this
        exact this
      have R1 : Hid (∀ W : World, Calls Try.prog 15 #[.agg #[.string s0, .int .i64 0], .int .i64 1] W fun e w' => e = .returned (.tuple #[.int .u64 (x : Int), .agg #[.string s0, .int .i64 1], .int .i64 0]) ∧ Below W.heap.size W w') :=
        Lib.hid (fun W => tape_Read_ok s0 0 1 x 1 W hs (by omega) (by omega) (Lib.hid (by rw [hx, numL_one])) (Lib.hid (by omega)))
      have RC : Hid (∀ W : World, Calls Try.prog 12 #[.agg #[.string s0, .int .i64 1], .int .i64 (q : Int)] W fun e w' => e = .returned (.tuple #[.string C, .agg #[.string s0, .int .i64 (z : Int)], .int .i64 0]) ∧ Below W.heap.size W w') :=
        Lib.hid (fun W => tape_Bytes_ok s0 C 1 q z W hs (by omega) (Lib.hid hC) (Lib.hid hz))
      have R7 : Hid (∀ W : World, Calls Try.prog 15 #[.agg #[.string s0, .int .i64 (z : Int)], .int .i64 7] W fun e w' => e = .returned (.tuple #[.int .u64 (y : Int), .agg #[.string s0, .int .i64 (m : Int)], .int .i64 0]) ∧ Below W.heap.size W w') :=
        Lib.hid (fun W => tape_Read_ok s0 z 7 y m W hs (by omega) (by omega) (Lib.hid (by rw [hy, hz])) (Lib.hid (by omega)))
      have hq1 : IntKind.i64.wrap ((s0.size : Int) - 1) = (q : Int) := by rw [IntWalk.i64_in _ (by omega)]; omega
      have hxw : IntKind.u8.wrap (x : Int) = (x : Int) := wrap8 (by omega)
      have HXX := Lib.hid hx
      have HCC := Lib.hid hC
      have HYY := Lib.hid hy
      have HQQ := Lib.hid hq
      have hCs : (C.size : Int) = (q : Int) := by omega
      have hq200 : (q : Int) ≤ 200 := by omega
      have HCQ := Lib.hid hCq
      clear hm hemp hbig hs0 hq hx hC hy hz hCq
      go_enter Try.func5, Try.ntmps5
      go_wp2_with fail
      refine (tape_New s0 _).mono ?_
      rintro e w1 ⟨rfl, hb1⟩
      have T1 := Lib.hid (TBox.new 25 w1 s0 0)
      have B1 := Lib.hid (below_al hb1 (.cells #[.string s0, .int .i64 0] 25))
      clear hb1
      go_wp2_with fail
      refine (RB.out _).mono ?_
      rintro e w2 ⟨rfl, hb2⟩
      have T2 := Lib.hid ((T1.out.keep hb2).alloc (.cells #[.string s0, .int .i64 (m : Int)] 25))
      have B2 := Lib.hid (below_al (keepB B1.out hb2) (.cells #[.string s0, .int .i64 (m : Int)] 25))
      clear hb2 T1 B1
      go_wp2_with fail
      refine (L0.out _).mono ?_
      rintro e w3 ⟨rfl, hb3⟩
      have T3 := Lib.hid (T2.out.keep hb3)
      have B3 := Lib.hid (keepB B2.out hb3)
      obtain ⟨c0, c1⟩ := T3.out.cells
      clear hb3 T2 B2
      go_wp2_with fail
      refine (L8.out _).mono ?_
      rintro e w4 ⟨rfl, hb4⟩
      have T4 := Lib.hid (T3.out.keep hb4)
      have B4 := Lib.hid (keepB B3.out hb4)
      clear hb4 T3 B3 c0 c1
      obtain ⟨c0, c1⟩ := T4.out.cells
      go_wp2_with fail
      refine (R1.out _).mono ?_
      rintro e w5 ⟨rfl, hb5⟩
      have B5 := Lib.hid (below_al (keepB B4.out hb5) (.cells #[.string s0, .int .i64 1] 25))
      clear hb5 T4 B4 c0 c1
      go_wp2_with fail
      refine (RC.out _).mono ?_
      rintro e w6 ⟨rfl, hb6⟩
      have B6 := Lib.hid (below_al (keepB B5.out hb6) (.cells #[.string s0, .int .i64 (z : Int)] 25))
      clear hb6 B5
      go_wp2_with fail
      refine (R7.out _).mono ?_
      rintro e w7 ⟨rfl, hb7⟩
      have B7 := Lib.hid (below_al (keepB B6.out hb7) (.cells #[.string s0, .int .i64 (m : Int)] 25))
      clear hb7 B6
      go_wp2_with fail
      go_loopw [18, 19, 93] (fun tv dv iv wr => ∃ (i t : Nat) (D : ByteArray), iv = .int .i64 (i : Int) ∧ tv = .int .u8 (t : Int) ∧ dv = .string D ∧ i ≤ q ∧ Hid (D.data.toList = s0.data.toList.take i) ∧ Hid (t = bitL s0.data.toList (8 * i)) ∧ Hid (Below w.heap.size w wr)) (fun _ _ iv _ => q - (intOf iv).toNat)
      case atStart => exact ⟨0, x, ⟨#[]⟩, rfl, rfl, rfl, Nat.zero_le _, Lib.hid rfl, HXX, B7⟩
      case round =>
        obtain ⟨i, t, D, rfl, rfl, rfl, hi, HD, HT, HB⟩ := hrel
        have ht2 : t < 2 := by rw [HT.out]; exact bitL_lt _ _
        have hDs : D.size = i := by rw [← dlen, HD.out, List.length_take, dlen, HQQ.out]; omega
        by_cases hlt : i < q
        · have hiC : i < C.size := by rw [HCQ.out]; exact hlt
          obtain ⟨cv, hcv⟩ : ∃ cv : Nat, cv = C[i].toNat := ⟨_, rfl⟩
          obtain ⟨h, hh⟩ : ∃ h, h = numL s0.data.toList (8 * i + 1) 7 := ⟨_, rfl⟩
          obtain ⟨t', ht'⟩ : ∃ t', t' = bitL s0.data.toList (8 * (i + 1)) := ⟨_, rfl⟩
          have hcn : cv = h * 2 + t' := by
            have h1 : C.data.toList.getD i 0 = C[i] := byte_at hiC
            rw [hcv, ← h1, HCC.out, List.getD_eq_getElem?_getD, bytL_get _ _ _ _ hlt]
            have h2 := numL_byte_lt s0.data.toList (1 + 8 * i)
            simp only [Option.getD_some]
            rw [UInt8.toNat_ofNat', Nat.mod_eq_of_lt h2, byte_tail, hh, ht', Nat.add_comm 1, show 8 * i + 1 + 7 = 8 * (i + 1) from by omega]
          have ht'2 : t' < 2 := by rw [ht']; exact bitL_lt _ _
          have hh7 : h < 128 := by
            have := numL_lt s0.data.toList (8 * i + 1) 7
            rw [← hh, show (2 : Nat) ^ 7 = 128 from by decide] at this
            exact this
          have hci : (C[i].toNat : Int) = (cv : Int) := by rw [hcv]
          obtain ⟨T, hTT⟩ : ∃ T, T = t * 128 := ⟨_, rfl⟩
          obtain ⟨V, hVV⟩ : ∃ V, V = t * 128 + h := ⟨_, rfl⟩
          have hV8 : V < 256 := by omega
          have hT1 : (t : Int) * 128 % 256 = (T : Int) := by omega
          have hT2 : (t : Int) * 128 = (T : Int) := by omega
          have hsr : (cv : Int) / 2 = (h : Int) := by omega
          have hor : bits BinOp.or IntKind.u8 (T : Int) (h : Int) = (V : Int) := by rw [hTT, hVV]; exact or8 ht2 hh7
          have han : bits BinOp.and IntKind.u8 (cv : Int) 1 = (t' : Int) := by rw [and8 (by omega)]; omega
          have HV8 := Lib.hid hV8
          have HVL : Hid (s0.data.toList.getD i 0 = UInt8.ofNat V) := Lib.hid (by
            have := byte_split s0.data.toList i
            rw [← HT.out, ← hh, ← hVV] at this
            rw [← this, UInt8.ofNat_toNat])
          have HT' := Lib.hid ht'
          obtain ⟨E, hE, hcvE⟩ := conv_one V
          have hEs : E.size = 1 := by rw [← dlen, hE]; rfl
          have HDE : Hid ((D ++ E).data.toList = s0.data.toList.take (i + 1)) := Lib.hid (by
            have hil : i < s0.data.toList.length := by rw [dlen, HQQ.out]; omega
            rw [app_data, HD.out, hE, ← HVL.out, List.getD_eq_getElem?_getD, List.getElem?_eq_getElem hil, List.take_succ_eq_append_getElem hil]
            rfl)
          have hcat : D.size + E.size ≤ 9223372036854775807 := by omega
          have HCV := Lib.hid hcvE
          clear hcv hh ht' hcn hTT hVV hV8 hE hEs hcvE
          go_wp2_with fail
          rw [HCV.out]
          go_simp
          go_wp2_with fail
          go_roundw
          case rel => exact ⟨i + 1, t', D ++ E, by go_num, rfl, rfl, by omega, HDE, HT', Lib.hid (below_al HB.out _)⟩
          case measure => simp [intOf]; omega
        · have hiq : i = q := by omega
          subst hiq
          obtain ⟨T, hTT⟩ : ∃ T, T = t * 128 := ⟨_, rfl⟩
          obtain ⟨V, hVV⟩ : ∃ V, V = t * 128 + y := ⟨_, rfl⟩
          have hT1 : (t : Int) * 128 % 256 = (T : Int) := by omega
          have hT2 : (t : Int) * 128 = (T : Int) := by omega
          have hor : bits BinOp.or IntKind.u8 (T : Int) (y : Int) = (V : Int) := by rw [hTT, hVV]; exact or8 ht2 hy7
          have hyw : IntKind.u8.wrap (y : Int) = (y : Int) := wrap8 (by omega)
          obtain ⟨E, hE, hcvE⟩ := conv_one V
          have hEs : E.size = 1 := by rw [← dlen, hE]; rfl
          have hDE : D ++ E = s0 := bytes_ext (by
            have hil : i < s0.data.toList.length := by rw [dlen, HQQ.out]; omega
            have h1 := byte_split s0.data.toList i
            rw [← HT.out, show 8 * i + 1 = 1 + 8 * i from by omega, ← HYY.out, ← hVV] at h1
            rw [app_data, HD.out, hE, ← h1, UInt8.ofNat_toNat, List.getD_eq_getElem?_getD, List.getElem?_eq_getElem hil]
            have h2 := List.take_succ_eq_append_getElem hil
            rw [List.take_of_length_le (by rw [dlen, HQQ.out]; omega)] at h2
            exact h2.symm)
          have hcat : D.size + E.size ≤ 9223372036854775807 := by omega
          have HCV := Lib.hid hcvE
          have HDE := Lib.hid hDE
          clear hTT hVV hE hEs hcvE hDE
          go_wp2_with fail
          refine (law7_Awake _).mono ?_
          rintro e w8 ⟨rfl, hb8⟩
          have B8 := Lib.hid (keepB HB.out hb8)
          clear hb8
          go_wp2_with fail
          rw [HCV.out]
          have hDE := HDE.out
          go_simp
          go_wp2_with fail
          go_ret
          exact ⟨rfl, below_al B8.out _⟩
end Go.Proofs.Ytcfjgllkpfkhfaa
