/- The document's Encode and Decode of tables. Written by wip/tools/gen_tabk.py. -/
import Derived.Test.YthoahengdajpcaaTabJ
namespace Go.Proofs.Ythoahengdajpcaa
open Go.RowKit
set_option maxRecDepth 100000

set_option maxHeartbeats 8000000 in
theorem ref_Encode_no (f : Nat → Nat) (L : Nat) (m n : Int) (w : World) (h : ¬ ((1 ≤ m ∧ m ≤ 16) ∧ (1 ≤ n ∧ n ≤ 8))) :
    Calls Try.prog 14 #[.agg (tcs f L).toArray, .int .i64 m, .int .i64 n] w fun e w' => e = .returned (.tuple #[.string (bs []), .int .i64 5]) ∧ Below w.heap.size w w' := by
  obtain ⟨a, ha⟩ : ∃ a, a = tcs f L := ⟨_, rfl⟩
  rw [← ha]
  clear ha
  have B0 := Lib.hid ((Below.refl w.heap.size w).alloc (Nat.le_refl _) (.cells a.toArray 34))
  by_cases a1 : m < 1
  · have d1 : decide (m < 1) = true := decide_eq_true a1
    clear a1 h
    go_enter Try.func14, Try.ntmps14
    go_wp2_with fail
    go_ret2
    exact ⟨rfl, B0.out⟩
  · have d1 : decide (m < 1) = false := decide_eq_false a1
    by_cases a2 : 16 < m
    · have d2 : decide (16 < m) = true := decide_eq_true a2
      clear a1 a2 h
      go_enter Try.func14, Try.ntmps14
      go_wp2_with fail
      go_ret2
      exact ⟨rfl, B0.out⟩
    · have d2 : decide (16 < m) = false := decide_eq_false a2
      by_cases a3 : n < 1
      · have d3 : decide (n < 1) = true := decide_eq_true a3
        clear a1 a2 a3 h
        go_enter Try.func14, Try.ntmps14
        go_wp2_with fail
        go_ret2
        exact ⟨rfl, B0.out⟩
      · have d3 : decide (n < 1) = false := decide_eq_false a3
        have d4 : decide (8 < n) = true := decide_eq_true (by omega)
        clear a1 a2 a3 h
        go_enter Try.func14, Try.ntmps14
        go_wp2_with fail
        go_ret2
        exact ⟨rfl, B0.out⟩

/-- What is told of row i's first k counts. -/
def encX (f : Nat → Nat) (m n i k : Nat) : List UInt8 := if i ≤ m then encK f n i k else []
def Seen0 (f : Nat → Nat) (m n i k : Nat) : Prop := ∀ a b, (a < i ∧ b < 8) ∨ (a = i ∧ b < k) → ¬ (a ≤ m ∧ b < n) → f (8 * a + b) = 0
theorem Seen0.next {f : Nat → Nat} {m n i k : Nat} (h : Seen0 f m n i k) (h1 : ¬ (i ≤ m ∧ k < n) → f (8 * i + k) = 0) : Seen0 f m n i (k + 1) := fun a b hab hn => by
  by_cases e : a = i ∧ b = k
  · obtain ⟨rfl, rfl⟩ := e; exact h1 hn
  · exact h a b (by omega) hn
theorem Seen0.row {f : Nat → Nat} {m n i : Nat} (h : Seen0 f m n i 8) : Seen0 f m n (i + 1) 0 := fun a b hab hn => h a b (by omega) hn
theorem Seen0.told {f : Nat → Nat} {m n : Nat} (h : Seen0 f m n 17 0) : Told f m n := fun j hj hn => by
  have := h (j / 8) (j % 8) (by omega) hn
  rw [show 8 * (j / 8) + j % 8 = j from by omega] at this
  exact this

set_option maxHeartbeats 16000000 in
theorem ref_Encode_ok (f : Nat → Nat) (L m n : Nat) (w : World) (hf : Fits f) (hL : L < 18446744073709551616) (hm : 1 ≤ m ∧ m ≤ 16) (hn : 1 ≤ n ∧ n ≤ 8) :
    Calls Try.prog 14 #[.agg (tcs f L).toArray, .int .i64 (m : Int), .int .i64 (n : Int)] w fun e w' => e = .returned (.tuple (encA f L m n)) ∧ Below w.heap.size w w' := by
  have d1 : decide ((m : Int) < 1) = false := decide_eq_false (by omega)
  have d2 : decide (16 < (m : Int)) = false := decide_eq_false (by omega)
  have d3 : decide ((n : Int) < 1) = false := decide_eq_false (by omega)
  have d4 : decide (8 < (n : Int)) = false := decide_eq_false (by omega)
  have HN := Lib.hid (⟨hm, hn⟩ : (1 ≤ m ∧ m ≤ 16) ∧ (1 ≤ n ∧ n ≤ 8))
  have HF := Lib.hid hf
  have RW := Lib.hid (fun i (hi : i ≤ 16) W => ref_row f L i W hi)
  have HP := Lib.hid (fun W => octr_Put L 8 W (by decide) (by decide) hL)
  rw [show putB L 8 = beL L 8 from by unfold putB; rw [if_pos (by rw [show (256 : Nat) ^ 8 = 18446744073709551616 from by decide]; exact hL)], show putE L 8 = 0 from by unfold putE; rw [if_pos (by rw [show (256 : Nat) ^ 8 = 18446744073709551616 from by decide]; exact hL)]] at HP
  have HP4 := Lib.hid (fun (v : Nat) (hv : v < 4294967296) W => octr_Put v 4 W (by decide) (by decide) (by omega))
  have PB : Hid (∀ v : Nat, v < 4294967296 → putB v 4 = beL v 4 ∧ putE v 4 = 0) := Lib.hid (fun v hv => by
    unfold putB putE
    rw [if_pos (by rw [show (256 : Nat) ^ 4 = 4294967296 from by decide]; exact hv), if_pos (by rw [show (256 : Nat) ^ 4 = 4294967296 from by decide]; exact hv)]
    exact ⟨rfl, rfl⟩)
  have hlast : (w.alloc (.cells (tcs f L).toArray 34)).cell? ⟨w.heap.size, 136, none⟩ = some (.int .u64 (L : Int)) := by
    rw [(show Blk _ _ _ _ from heap_alloc_new w (.cells (tcs f L).toArray 34)).cell, tcs_last]
  have hal : (tcs f L).length = 137 := tcs_len _ _
  obtain ⟨A, hA⟩ : ∃ a, a = tcs f L := ⟨_, rfl⟩
  rw [← hA] at RW hlast hal ⊢
  clear hA hf hL
  have hsA : (Try.prog.info? 34).map (·.size) = some A.length := by rw [hal]; exact sizeRTab
  have A0 : Hid (Blk (w.alloc (.cells A.toArray 34)) w.heap.size 34 A ∧ Below w.heap.size w (w.alloc (.cells A.toArray 34))) := Lib.hid ⟨heap_alloc_new w _, (Below.refl _ _).alloc (Nat.le_refl _) _⟩
  obtain ⟨H8, hH8⟩ : ∃ x, x = beL L 8 := ⟨_, rfl⟩
  have HH8 := Lib.hid hH8
  have hH8l : H8.length = 8 := by rw [hH8]; exact beL_len _ _
  rw [← hH8] at HP
  clear hH8 hal
  go_enter Try.func14, Try.ntmps14
  go_wp2_with fail
  refine (HP.out _).mono ?_
  rintro e w1 ⟨rfl, b1⟩
  have A1 : Hid (Blk w1 w.heap.size 34 A ∧ Below w.heap.size w w1) := Lib.hid ⟨A0.out.1.keep b1, A0.out.2.trans (b1.mono A0.out.2.size)⟩
  clear b1 hlast A0 HP
  go_wp2_with fail
  go_loopw [8, 10] (fun sv iv wr => ∃ i : Nat, sv = .string (bs (H8 ++ encI f m n i)) ∧ iv = .int .i64 (i : Int) ∧ i ≤ 17 ∧ Hid (Seen0 f m n i 0) ∧ Hid (Blk wr w.heap.size 34 A ∧ Below w.heap.size w wr)) (fun _ iv _ => 17 - (intOf iv).toNat)
  case atStart => exact ⟨0, by rw [show encI f m n 0 = [] from rfl, List.append_nil], rfl, Nat.zero_le _, Lib.hid (fun a b hab => by omega), A1⟩
  case round =>
    obtain ⟨i, rfl, rfl, hi, HS, HT⟩ := hrel
    by_cases hlt : i < 17
    · have hdec : decide ((i : Int) < 17) = true := decide_eq_true (by omega)
      have hw1 : IntKind.i64.wrap ((i : Int) + 1) = ((i + 1 : Nat) : Int) := by rw [IntWalk.i64_in _ (by omega)]; omega
      have RI := Lib.hid (fun W => RW.out i (by omega) W)
      obtain ⟨base, hbase⟩ : ∃ x, x = H8 ++ encI f m n i := ⟨_, rfl⟩
      have hbl : base.length ≤ 1000 := by
        rw [hbase, List.length_append, hH8l]
        have hle : (encI f m n i).length ≤ 4 * (8 * 17) := by
          obtain ⟨hm', hn'⟩ := HN.out
          rcases Nat.lt_or_ge (m + 1) i with e | e
          · rw [encI_more f m n i (by omega), encI_len f m n (m + 1) hn'.2 (Nat.le_refl _)]
            exact Nat.mul_le_mul_left 4 (Nat.mul_le_mul hn'.2 (by omega))
          · rw [encI_len f m n i hn'.2 e]
            exact Nat.mul_le_mul_left 4 (Nat.mul_le_mul hn'.2 (by omega))
        omega
      have HBS := Lib.hid hbase
      rw [← hbase]
      clear hbase
      go_wp2_with fail
      go_loopw [8, 11] (fun sv iv wr => ∃ k : Nat, sv = .string (bs (base ++ encX f m n i k)) ∧ iv = .int .i64 (k : Int) ∧ k ≤ 8 ∧ Hid (Seen0 f m n i k) ∧ Hid (Blk wr w.heap.size 34 A ∧ Below w.heap.size w wr)) (fun _ iv _ => 8 - (intOf iv).toNat)
      case atStart => exact ⟨0, by rw [show encX f m n i 0 = [] from by unfold encX; split <;> rfl, List.append_nil], rfl, Nat.zero_le _, HS, HT⟩
      case round =>
        obtain ⟨k, rfl, rfl, hk, HS, HT⟩ := hrel
        by_cases hlk : k < 8
        · have hdk : decide ((k : Int) < 8) = true := decide_eq_true (by omega)
          have hw2 : IntKind.i64.wrap ((k : Int) + 1) = ((k + 1 : Nat) : Int) := by rw [IntWalk.i64_in _ (by omega)]; omega
          obtain ⟨v, hv⟩ : ∃ v, v = f (8 * i + k) := ⟨_, rfl⟩
          have hvb : v < 4294967296 := by rw [hv]; exact HF.out _
          obtain ⟨r, hr⟩ : ∃ r, r = fcs (rowOf f i) 8 := ⟨_, rfl⟩
          have ix : ∀ W, (Instr.index 31 (.agg r.toArray) (.int .i64 (k : Int))).run Try.prog W = .ok (.int .u32 (v : Int)) W := fun W => run_index_row _ _ _ hlk (by rw [hr, hv]; exact fcs_get _ 8 k hlk) W
          have RC := RI
          rw [← hr] at RC
          have HV := Lib.hid hv
          obtain ⟨S, hS⟩ : ∃ x, x = base ++ encX f m n i k := ⟨_, rfl⟩
          have hSl : S.length ≤ 2000 := by
            rw [hS, List.length_append]
            have : (encX f m n i k).length ≤ 4 * 8 := by
              unfold encX
              split
              · obtain ⟨hm', hn'⟩ := HN.out
                rcases Nat.lt_or_ge n k with e | e
                · rw [encK_more f n i k (by omega), encK_len f n i n (Nat.le_refl _)]; omega
                · rw [encK_len f n i k e]; omega
              · simp
            omega
          have HSE := Lib.hid hS
          rw [← hS]
          have RA := Lib.hid HT.out.1.whole
          have HPV := Lib.hid (fun W => HP4.out v hvb W)
          rw [(PB.out v hvb).1, (PB.out v hvb).2] at HPV
          have wv : IntKind.u64.wrap (v : Int) = (v : Int) := IntWalk.u64_in _ (by omega)
          have HLK := Lib.hid hlk
          clear hv hr hS hlk
          go_wp2_with (refine wpList_load_mid rfl _ _ rfl w.heap.size 0 rfl A _ RA.out Try.underlying34 rfl hsA ?_)
          refine (RC.out _).mono ?_
          rintro e w5 ⟨rfl, b5⟩
          have HT5 : Hid (Blk w5 w.heap.size 34 A ∧ Below w.heap.size w w5) := Lib.hid ⟨HT.out.1.keep b5, HT.out.2.trans (b5.mono HT.out.2.size)⟩
          clear b5 RA
          by_cases him : m < i
          · have g1 : decide (m < i) = true := decide_eq_true him
            have HX : Hid (encX f m n i (k + 1) = encX f m n i k) := Lib.hid (by unfold encX; rw [if_neg (by omega), if_neg (by omega)])
            have HOUT : Hid (¬ (i ≤ m ∧ k < n)) := Lib.hid (by omega)
            clear him
            by_cases hv0 : v = 0
            · have z1 : ((v : Int) != 0) = false := by rw [bne_eq_false_iff_eq]; omega
              have HV0 := Lib.hid hv0
              clear hv0
              go_wp2_with fail
              go_roundw
              case rel => exact ⟨k + 1, by rw [HX.out, HSE.out], by go_num, by have := HLK.out; omega, Lib.hid (HS.out.next (fun _ => by rw [← HV.out]; exact HV0.out)), HT5⟩
              case measure => simp [intOf]; have := HLK.out; omega
            · have z1 : ((v : Int) != 0) = true := by rw [bne_iff_ne]; omega
              have HV0 := Lib.hid hv0
              have HNT : Hid (¬ Told f m n) := Lib.hid (fun h => HV0.out (by
                have := h (8 * i + k) (by have := HLK.out; omega) (by have := HLK.out; have := HOUT.out; omega)
                rw [HV.out]; exact this))
              clear hv0
              go_wp2_with fail
              go_ret2
              refine ⟨?_, HT5.out.2⟩
              rw [show encA f L m n = #[.string (bs []), .int .i64 4] from if_neg HNT.out]; rfl
          · have g1 : decide (m < i) = false := decide_eq_false him
            by_cases hkn : n ≤ k
            · have g2 : decide (n ≤ k) = true := decide_eq_true hkn
              have HX : Hid (encX f m n i (k + 1) = encX f m n i k) := Lib.hid (by
                unfold encX
                rw [if_pos (by omega), if_pos (by omega)]
                show encK f n i k ++ _ = _
                rw [if_neg (by omega), List.append_nil])
              have HOUT : Hid (¬ (i ≤ m ∧ k < n)) := Lib.hid (by omega)
              clear hkn him
              by_cases hv0 : v = 0
              · have z1 : ((v : Int) != 0) = false := by rw [bne_eq_false_iff_eq]; omega
                have HV0 := Lib.hid hv0
                clear hv0
                go_wp2_with fail
                go_roundw
                case rel => exact ⟨k + 1, by rw [HX.out, HSE.out], by go_num, by have := HLK.out; omega, Lib.hid (HS.out.next (fun _ => by rw [← HV.out]; exact HV0.out)), HT5⟩
                case measure => simp [intOf]; have := HLK.out; omega
              · have z1 : ((v : Int) != 0) = true := by rw [bne_iff_ne]; omega
                have HV0 := Lib.hid hv0
                have HNT : Hid (¬ Told f m n) := Lib.hid (fun h => HV0.out (by
                  have := h (8 * i + k) (by have := HLK.out; omega) (by have := HLK.out; have := HOUT.out; omega)
                  rw [HV.out]; exact this))
                clear hv0
                go_wp2_with fail
                go_ret2
                refine ⟨?_, HT5.out.2⟩
                rw [show encA f L m n = #[.string (bs []), .int .i64 4] from if_neg HNT.out]; rfl
            · have g2 : decide (n ≤ k) = false := decide_eq_false hkn
              have HIN : Hid (i ≤ m ∧ k < n) := Lib.hid (by omega)
              clear hkn him
              go_wp2_with fail
              refine (HPV.out _).mono ?_
              rintro e w6 ⟨rfl, b6⟩
              have HT6 : Hid (Blk w6 w.heap.size 34 A ∧ Below w.heap.size w w6) := Lib.hid ⟨HT5.out.1.keep b6, HT5.out.2.trans (b6.mono HT5.out.2.size)⟩
              clear b6
              obtain ⟨D, hD⟩ : ∃ x, x = beL v 4 := ⟨_, rfl⟩
              have hDl : D.length = 4 := by rw [hD]; exact beL_len _ _
              have HD := Lib.hid hD
              rw [← hD]
              clear hD
              have hs1 := bs_size S
              have hs2 : (bs D).size = 4 := by rw [bs_size, hDl]
              have hsb : S.length + 4 ≤ 3000 := by omega
              have HAP : Hid (bs S ++ bs D = bs (base ++ encX f m n i (k + 1))) := Lib.hid (by
                rw [bs_append, HSE.out, HD.out, List.append_assoc]
                congr 2
                unfold encX
                rw [if_pos HIN.out.1, if_pos HIN.out.1]
                show encK f n i k ++ _ = encK f n i k ++ _
                rw [if_pos HIN.out.2, HV.out])
              go_wp2_with fail
              go_roundw
              case rel => exact ⟨k + 1, by rw [HAP.out], by go_num, by have := HLK.out; omega, Lib.hid (HS.out.next (fun h => absurd HIN.out h)), HT6⟩
              case measure => simp [intOf]; have := HLK.out; omega
        · obtain rfl : k = 8 := by omega
          have hdk : decide (((8 : Nat) : Int) < 8) = false := by decide
          go_wp2_with fail
          go_roundw
          case rel =>
            refine ⟨i + 1, ?_, by go_num, by omega, Lib.hid HS.out.row, HT⟩
            rw [HBS.out, List.append_assoc]
            rfl
          case measure => simp [intOf]; omega
    · obtain rfl : i = 17 := by omega
      have hdec : decide (((17 : Nat) : Int) < 17) = false := by decide
      go_wp2_with fail
      go_ret2
      refine ⟨?_, HT.out.2⟩
      rw [show encA f L m n = #[.string (bs (encL f L m n)), .int .i64 0] from if_pos HS.out.told]
      unfold encL
      rw [← HH8.out]; rfl

set_option maxHeartbeats 8000000 in
theorem ref_Decode_no (l : List UInt8) (m n : Int) (w : World) (h : ¬ ((1 ≤ m ∧ m ≤ 16) ∧ (1 ≤ n ∧ n ≤ 8))) :
    Calls Try.prog 16 #[.string (bs l), .int .i64 m, .int .i64 n] w fun e w' => e = .returned (.tuple #[.agg (tcs (fun _ => 0) 0).toArray, .int .i64 5]) ∧ Below w.heap.size w w' := by
  have HBZ := Lib.hid (fun W => run_build (P := Try.prog) W 34 #[] _ built_rzero)
  have hz := zeroRTab
  obtain ⟨Z, hZ⟩ : ∃ Z, Z = tcs (fun _ => 0) 0 := ⟨_, rfl⟩
  have hZl : Z.length = 137 := by rw [hZ]; exact tcs_len _ _
  have hZo : Z.toArray.all (·.oneCell') = true := all_oneCell_toArray (by rw [hZ]; exact tcs_one _ _)
  rw [← hZ] at hz HBZ ⊢
  clear hZ
  have hsz : (Try.prog.info? 34).map (·.size) = some Z.toArray.size := by rw [List.size_toArray, hZl]; exact sizeRTab
  obtain ⟨W0, hW0⟩ : ∃ W0, W0 = w.alloc (.cells Z.toArray 34) := ⟨_, rfl⟩
  have Z0 : Hid (Blk W0 w.heap.size 34 Z ∧ Below w.heap.size w W0) := Lib.hid (by rw [hW0]; exact ⟨heap_alloc_new w _, (Below.refl _ _).alloc (Nat.le_refl _) _⟩)
  have TH : Hid (W0.there w.heap.size 0 Z.toArray.size) := Lib.hid (Z0.out.1.thereT (by rw [hZl, show Z.toArray.size = 137 by rw [List.size_toArray, hZl]]; omega))
  have FIN : Hid (Blk (W0.setCells w.heap.size 0 Z.toArray.toList) w.heap.size 34 Z ∧ Below w.heap.size w (W0.setCells w.heap.size 0 Z.toArray.toList)) := Lib.hid ⟨Z0.out.1.setWhole Z rfl, Below.setCellsT Z0.out.2 (Nat.le_refl _) _ _⟩
  clear hZl
  by_cases a1 : m < 1
  · have d1 : decide (m < 1) = true := decide_eq_true a1
    clear a1 h
    go_enter Try.func16, Try.ntmps16
    go_upto_region 1 with fail
    rw [← hW0]
    clear hW0 hz
    go_wp2_with (first
      | (refine wpList_build_isT rfl 34 #[] rfl #[] (by simp) (.agg Z.toArray) (HBZ.out _) ?_)
      | (refine wpList_store_mid rfl _ _ _ rfl w.heap.size 0 Z.toArray rfl rfl TH.out hsz hZo ?_))
    refine bodyPost_ret (v := .tuple #[.agg Z.toArray, .int .i64 5]) ?_ rfl ⟨rfl, FIN.out.2⟩
    exact results_cell_row2 rfl _ _ w.heap.size _ Z.toArray (0, 0) _ rfl FIN.out.1 Try.underlying34 rfl hsz _ rfl
  · have d1 : decide (m < 1) = false := decide_eq_false a1
    by_cases a2 : 16 < m
    · have d2 : decide (16 < m) = true := decide_eq_true a2
      clear a1 a2 h
      go_enter Try.func16, Try.ntmps16
      go_upto_region 1 with fail
      rw [← hW0]
      clear hW0 hz
      go_wp2_with (first
        | (refine wpList_build_isT rfl 34 #[] rfl #[] (by simp) (.agg Z.toArray) (HBZ.out _) ?_)
        | (refine wpList_store_mid rfl _ _ _ rfl w.heap.size 0 Z.toArray rfl rfl TH.out hsz hZo ?_))
      refine bodyPost_ret (v := .tuple #[.agg Z.toArray, .int .i64 5]) ?_ rfl ⟨rfl, FIN.out.2⟩
      exact results_cell_row2 rfl _ _ w.heap.size _ Z.toArray (0, 0) _ rfl FIN.out.1 Try.underlying34 rfl hsz _ rfl
    · have d2 : decide (16 < m) = false := decide_eq_false a2
      by_cases a3 : n < 1
      · have d3 : decide (n < 1) = true := decide_eq_true a3
        clear a1 a2 a3 h
        go_enter Try.func16, Try.ntmps16
        go_upto_region 1 with fail
        rw [← hW0]
        clear hW0 hz
        go_wp2_with (first
          | (refine wpList_build_isT rfl 34 #[] rfl #[] (by simp) (.agg Z.toArray) (HBZ.out _) ?_)
          | (refine wpList_store_mid rfl _ _ _ rfl w.heap.size 0 Z.toArray rfl rfl TH.out hsz hZo ?_))
        refine bodyPost_ret (v := .tuple #[.agg Z.toArray, .int .i64 5]) ?_ rfl ⟨rfl, FIN.out.2⟩
        exact results_cell_row2 rfl _ _ w.heap.size _ Z.toArray (0, 0) _ rfl FIN.out.1 Try.underlying34 rfl hsz _ rfl
      · have d3 : decide (n < 1) = false := decide_eq_false a3
        have d4 : decide (8 < n) = true := decide_eq_true (by omega)
        clear a1 a2 a3 h
        go_enter Try.func16, Try.ntmps16
        go_upto_region 1 with fail
        rw [← hW0]
        clear hW0 hz
        go_wp2_with (first
          | (refine wpList_build_isT rfl 34 #[] rfl #[] (by simp) (.agg Z.toArray) (HBZ.out _) ?_)
          | (refine wpList_store_mid rfl _ _ _ rfl w.heap.size 0 Z.toArray rfl rfl TH.out hsz hZo ?_))
        refine bodyPost_ret (v := .tuple #[.agg Z.toArray, .int .i64 5]) ?_ rfl ⟨rfl, FIN.out.2⟩
        exact results_cell_row2 rfl _ _ w.heap.size _ Z.toArray (0, 0) _ rfl FIN.out.1 Try.underlying34 rfl hsz _ rfl

set_option maxHeartbeats 8000000 in
theorem ref_Decode_size (l : List UInt8) (m n e : Nat) (w : World) (hl : l.length ≤ 1000000) (hm : 1 ≤ m ∧ m ≤ 16) (hn : 1 ≤ n ∧ n ≤ 8) (h : (l.length < 8 + 4 * (n * (m + 1)) ∧ e = 10) ∨ (8 + 4 * (n * (m + 1)) < l.length ∧ e = 11)) :
    Calls Try.prog 16 #[.string (bs l), .int .i64 (m : Int), .int .i64 (n : Int)] w fun x w' => x = .returned (.tuple #[.agg (tcs (fun _ => 0) 0).toArray, .int .i64 (e : Int)]) ∧ Below w.heap.size w w' := by
  have d1 : decide ((m : Int) < 1) = false := decide_eq_false (by omega)
  have d2 : decide (16 < (m : Int)) = false := decide_eq_false (by omega)
  have d3 : decide ((n : Int) < 1) = false := decide_eq_false (by omega)
  have d4 : decide (8 < (n : Int)) = false := decide_eq_false (by omega)
  obtain ⟨p4, hp4⟩ : ∃ x, x = 4 * n := ⟨_, rfl⟩
  obtain ⟨M1, hM1⟩ : ∃ x, x = m + 1 := ⟨_, rfl⟩
  obtain ⟨Q, hQ⟩ : ∃ x, x = p4 * M1 := ⟨_, rfl⟩
  obtain ⟨R, hR⟩ : ∃ x, x = 8 + Q := ⟨_, rfl⟩
  have hp4b : p4 ≤ 32 := by omega
  have hM1b : M1 ≤ 17 := by omega
  have hQb : Q ≤ 32 * 17 := by rw [hQ]; exact Nat.mul_le_mul hp4b hM1b
  have hR2 : R = 8 + 4 * (n * (m + 1)) := by rw [hR, hQ, hp4, hM1, Nat.mul_assoc]
  have v1 : IntKind.i64.wrap (4 * (n : Int)) = (p4 : Int) := by rw [IntWalk.i64_in _ (by omega)]; omega
  have v2 : IntKind.i64.wrap ((m : Int) + 1) = (M1 : Int) := by rw [IntWalk.i64_in _ (by omega)]; omega
  have v3 : IntKind.i64.wrap ((p4 : Int) * (M1 : Int)) = (Q : Int) := by
    rw [show (p4 : Int) * (M1 : Int) = (Q : Int) from by rw [hQ, Int.natCast_mul], IntWalk.i64_in _ (by omega)]
  have v4 : IntKind.i64.wrap (8 + (Q : Int)) = (R : Int) := by rw [IntWalk.i64_in _ (by omega)]; omega
  have hszl := bs_size l
  have HBZ := Lib.hid (fun W => run_build (P := Try.prog) W 34 #[] _ built_rzero)
  have hz := zeroRTab
  obtain ⟨Z, hZ⟩ : ∃ Z, Z = tcs (fun _ => 0) 0 := ⟨_, rfl⟩
  have hZl : Z.length = 137 := by rw [hZ]; exact tcs_len _ _
  have hZo : Z.toArray.all (·.oneCell') = true := all_oneCell_toArray (by rw [hZ]; exact tcs_one _ _)
  rw [← hZ] at hz HBZ ⊢
  rw [← hR2] at h
  clear hZ hR2 hp4 hM1 hQ hR hp4b hM1b hQb hm hn
  have hsz : (Try.prog.info? 34).map (·.size) = some Z.toArray.size := by rw [List.size_toArray, hZl]; exact sizeRTab
  obtain ⟨W0, hW0⟩ : ∃ W0, W0 = w.alloc (.cells Z.toArray 34) := ⟨_, rfl⟩
  have Z0 : Hid (Blk W0 w.heap.size 34 Z ∧ Below w.heap.size w W0) := Lib.hid (by rw [hW0]; exact ⟨heap_alloc_new w _, (Below.refl _ _).alloc (Nat.le_refl _) _⟩)
  have TH : Hid (W0.there w.heap.size 0 Z.toArray.size) := Lib.hid (Z0.out.1.thereT (by rw [hZl, show Z.toArray.size = 137 by rw [List.size_toArray, hZl]]; omega))
  have FIN : Hid (Blk (W0.setCells w.heap.size 0 Z.toArray.toList) w.heap.size 34 Z ∧ Below w.heap.size w (W0.setCells w.heap.size 0 Z.toArray.toList)) := Lib.hid ⟨Z0.out.1.setWhole Z rfl, Below.setCellsT Z0.out.2 (Nat.le_refl _) _ _⟩
  clear hZl
  rcases h with ⟨h, rfl⟩ | ⟨h, rfl⟩
  · have g1 : decide (l.length < R) = true := decide_eq_true h
    clear h
    go_enter Try.func16, Try.ntmps16
    go_upto_region 1 with fail
    rw [← hW0]
    clear hW0 hz
    go_wp2_with (first
      | (refine wpList_build_isT rfl 34 #[] rfl #[] (by simp) (.agg Z.toArray) (HBZ.out _) ?_)
      | (refine wpList_store_mid rfl _ _ _ rfl w.heap.size 0 Z.toArray rfl rfl TH.out hsz hZo ?_))
    refine bodyPost_ret (v := .tuple #[.agg Z.toArray, .int .i64 10]) ?_ rfl ⟨rfl, FIN.out.2⟩
    exact results_cell_row2 rfl _ _ w.heap.size _ Z.toArray (0, 0) _ rfl FIN.out.1 Try.underlying34 rfl hsz _ rfl
  · have g1 : decide (l.length < R) = false := decide_eq_false (by omega)
    have g2 : decide (R < l.length) = true := decide_eq_true h
    clear h
    go_enter Try.func16, Try.ntmps16
    go_upto_region 1 with fail
    rw [← hW0]
    clear hW0 hz
    go_wp2_with (first
      | (refine wpList_build_isT rfl 34 #[] rfl #[] (by simp) (.agg Z.toArray) (HBZ.out _) ?_)
      | (refine wpList_store_mid rfl _ _ _ rfl w.heap.size 0 Z.toArray rfl rfl TH.out hsz hZo ?_))
    refine bodyPost_ret (v := .tuple #[.agg Z.toArray, .int .i64 11]) ?_ rfl ⟨rfl, FIN.out.2⟩
    exact results_cell_row2 rfl _ _ w.heap.size _ Z.toArray (0, 0) _ rfl FIN.out.1 Try.underlying34 rfl hsz _ rfl

/-- What is told of the first i rows and of row i's first k counts. -/
def decG (l : List UInt8) (n i k : Nat) : Nat → Nat := fun j => if (j / 8 < i ∧ j % 8 < n) ∨ (j / 8 = i ∧ j % 8 < k) then beV ((l.drop (at4 n j)).take 4) else 0
theorem decG_zero (l : List UInt8) (n i L : Nat) : tcs (decG l n i 0) L = tcs (decF l n i) L := tcs_congr (fun j _ => by
  unfold decG decF
  by_cases h : j / 8 < i ∧ j % 8 < n
  · rw [if_pos (.inl h), if_pos h]
  · rw [if_neg (by omega), if_neg h]) rfl
theorem decG_full (l : List UInt8) (n i L : Nat) : tcs (decG l n i n) L = tcs (decF l n (i + 1)) L := tcs_congr (fun j _ => by
  unfold decG decF
  by_cases h : j / 8 < i + 1 ∧ j % 8 < n
  · rw [if_pos (by omega), if_pos h]
  · rw [if_neg (by omega), if_neg h]) rfl
theorem decG_step (l : List UInt8) (n i k L : Nat) (hk : k < 8) : tcs (upd (decG l n i k) (8 * i + k) (beV ((l.drop (8 + 4 * (n * i + k))).take 4))) L = tcs (decG l n i (k + 1)) L := tcs_congr (fun j _ => by
  unfold upd decG
  by_cases h : j = 8 * i + k
  · rw [if_pos h, if_pos (by omega)]
    unfold at4
    rw [show j / 8 = i from by omega, show j % 8 = k from by omega]
  · rw [if_neg h]
    by_cases h2 : (j / 8 < i ∧ j % 8 < n) ∨ (j / 8 = i ∧ j % 8 < k)
    · rw [if_pos h2, if_pos (by omega)]
    · rw [if_neg h2, if_neg (by omega)]) rfl

set_option maxHeartbeats 16000000 in
theorem ref_Decode_ok (l : List UInt8) (m n : Nat) (w : World) (hl : l.length ≤ 1000000) (hm : 1 ≤ m ∧ m ≤ 16) (hn : 1 ≤ n ∧ n ≤ 8) (h : l.length = 8 + 4 * (n * (m + 1))) :
    Calls Try.prog 16 #[.string (bs l), .int .i64 (m : Int), .int .i64 (n : Int)] w fun x w' => x = .returned (.tuple #[.agg (tcs (decF l n (m + 1)) (beV (l.take 8))).toArray, .int .i64 0]) ∧ Below w.heap.size w w' := by
  have d1 : decide ((m : Int) < 1) = false := decide_eq_false (by omega)
  have d2 : decide (16 < (m : Int)) = false := decide_eq_false (by omega)
  have d3 : decide ((n : Int) < 1) = false := decide_eq_false (by omega)
  have d4 : decide (8 < (n : Int)) = false := decide_eq_false (by omega)
  obtain ⟨p4, hp4⟩ : ∃ x, x = 4 * n := ⟨_, rfl⟩
  obtain ⟨M1, hM1⟩ : ∃ x, x = m + 1 := ⟨_, rfl⟩
  obtain ⟨Q, hQ⟩ : ∃ x, x = p4 * M1 := ⟨_, rfl⟩
  obtain ⟨R, hR⟩ : ∃ x, x = 8 + Q := ⟨_, rfl⟩
  have hp4b : p4 ≤ 32 := by omega
  have hM1b : M1 ≤ 17 := by omega
  have hQb : Q ≤ 32 * 17 := by rw [hQ]; exact Nat.mul_le_mul hp4b hM1b
  have hR2 : R = 8 + 4 * (n * (m + 1)) := by rw [hR, hQ, hp4, hM1, Nat.mul_assoc]
  have v1 : IntKind.i64.wrap (4 * (n : Int)) = (p4 : Int) := by rw [IntWalk.i64_in _ (by omega)]; omega
  have v2 : IntKind.i64.wrap ((m : Int) + 1) = (M1 : Int) := by rw [IntWalk.i64_in _ (by omega)]; omega
  have v3 : IntKind.i64.wrap ((p4 : Int) * (M1 : Int)) = (Q : Int) := by
    rw [show (p4 : Int) * (M1 : Int) = (Q : Int) from by rw [hQ, Int.natCast_mul], IntWalk.i64_in _ (by omega)]
  have v4 : IntKind.i64.wrap (8 + (Q : Int)) = (R : Int) := by rw [IntWalk.i64_in _ (by omega)]; omega
  have hszl := bs_size l
  have g1 : decide (l.length < R) = false := decide_eq_false (by omega)
  have g2 : decide (R < l.length) = false := decide_eq_false (by omega)
  have HN := Lib.hid (⟨hm, hn⟩ : (1 ≤ m ∧ m ≤ 16) ∧ (1 ≤ n ∧ n ≤ 8))
  have HLEN := Lib.hid h
  have HLL := Lib.hid hl
  have HT8 := Lib.hid (fun W => octr_Take_ok l 8 W (by decide) (by decide) (by omega) (by omega))
  have HT4 := Lib.hid (fun (a : Nat) (ha : a + 4 ≤ l.length) W => octr_Take_ok (l.drop a) 4 W (by decide) (by decide) (by rw [List.length_drop]; omega) (by rw [List.length_drop]; omega))
  have HBZ := Lib.hid (fun W => run_build (P := Try.prog) W 34 #[] _ built_rzero)
  have hz := zeroRTab
  obtain ⟨Z, hZ⟩ : ∃ Z, Z = tcs (fun _ => 0) 0 := ⟨_, rfl⟩
  have hZl : Z.length = 137 := by rw [hZ]; exact tcs_len _ _
  have hZo : Z.toArray.all (·.oneCell') = true := all_oneCell_toArray (by rw [hZ]; exact tcs_one _ _)
  have HZE := Lib.hid hZ
  rw [← hZ] at hz HBZ
  clear hZ hR2 hp4 hM1 hQ hR hp4b hM1b hQb hm hn h hl
  have hsz : (Try.prog.info? 34).map (·.size) = some Z.toArray.size := by rw [List.size_toArray, hZl]; exact sizeRTab
  obtain ⟨W0, hW0⟩ : ∃ W0, W0 = w.alloc (.cells Z.toArray 34) := ⟨_, rfl⟩
  have Z0 : Hid (Blk W0 w.heap.size 34 Z ∧ Below w.heap.size w W0 ∧ W0.heap.size = w.heap.size + 1) := Lib.hid (by rw [hW0]; exact ⟨heap_alloc_new w _, (Below.refl _ _).alloc (Nat.le_refl _) _, by simp⟩)
  have TH : Hid ((W0.alloc (.cells Z.toArray 34)).there W0.heap.size 0 Z.toArray.size) := Lib.hid ((show Blk _ _ _ _ from heap_alloc_new W0 (.cells Z.toArray 34)).thereT (by rw [hZl, show Z.toArray.size = 137 by rw [List.size_toArray, hZl]]; omega))
  have E1 : Hid ((W0.alloc (.cells Z.toArray 34)).setCells W0.heap.size 0 Z.toArray.toList = W0.alloc (.cells Z.toArray 34)) := Lib.hid (alloc_setCells W0 _ Z Z rfl)
  have HZL := Lib.hid hZl
  clear hZl
  obtain ⟨L2, hL2⟩ : ∃ x, x = beV (l.take 8) := ⟨_, rfl⟩
  rw [← hL2] at HT8 ⊢
  clear hL2
  go_enter Try.func16, Try.ntmps16
  go_upto_region 1 with fail
  rw [← hW0]
  clear hW0
  go_upto_region 8 with (first
    | (refine wpList_build_isT rfl 34 #[] rfl #[] (by simp) (.agg Z.toArray) (HBZ.out _) ?_)
    | (refine wpList_store_mid rfl _ _ _ rfl W0.heap.size 0 Z.toArray rfl rfl TH.out hsz hZo ?_))
  refine wp_worldT E1.out.symm ?_
  obtain ⟨b, hb⟩ : ∃ b, b = W0.heap.size := ⟨_, rfl⟩
  have HBB : Hid (w.heap.size < b) := Lib.hid (by rw [hb, Z0.out.2.2]; omega)
  obtain ⟨W1, hW1⟩ : ∃ W1, W1 = W0.alloc (.cells Z.toArray 34) := ⟨_, rfl⟩
  have A1 : Hid (Blk W1 w.heap.size 34 Z ∧ Blk W1 b 34 (tcs (fun _ => 0) 0) ∧ Below w.heap.size w W1) := Lib.hid (by
    rw [hW1, hb, ← HZE.out]
    exact ⟨Z0.out.1.alloc _, heap_alloc_new W0 _, Z0.out.2.1.alloc Z0.out.2.1.size _⟩)
  rw [← hb]
  refine wp_worldT hW1 ?_
  clear hW1 hb TH E1 Z0 hz g1 g2
  go_wp2_with fail
  refine (HT8.out _).mono ?_
  rintro e w1 ⟨rfl, b1⟩
  have A2 : Hid (Blk w1 w.heap.size 34 Z ∧ Blk w1 b 34 (tcs (fun _ => 0) 0) ∧ Below w.heap.size w w1) := Lib.hid ⟨A1.out.1.keep b1, A1.out.2.1.keep b1, A1.out.2.2.trans (b1.mono A1.out.2.2.size)⟩
  have m0 := (A2.out.2.1.cell 136).trans (tcs_last _ _)
  have n0 := A2.out.2.1.frozen 136
  have A3 : Hid (Blk (w1.setCell ⟨b, 136, none⟩ (.int .u64 (L2 : Int))) w.heap.size 34 Z ∧ Blk (w1.setCell ⟨b, 136, none⟩ (.int .u64 (L2 : Int))) b 34 (tcs (decF l n 0) L2) ∧ Below w.heap.size w (w1.setCell ⟨b, 136, none⟩ (.int .u64 (L2 : Int)))) := Lib.hid (by
    refine ⟨A2.out.1.far (p := ⟨b, 136, none⟩) (by have := HBB.out; show w.heap.size ≠ b; omega) _, ?_, A2.out.2.2.setCell (p := ⟨b, 136, none⟩) (by have := HBB.out; show w.heap.size ≤ b; omega) _⟩
    have h := A2.out.2.1.set_ 136 (.int .u64 (L2 : Int))
    rw [tcs_setL] at h
    rw [show tcs (decF l n 0) L2 = tcs (fun _ => 0) L2 from tcs_congr (fun j _ => by unfold decF; rw [if_neg (by omega)]) rfl]
    exact h)
  clear b1 A1 HT8
  go_wp2_with fail
  clear m0 n0
  go_loopw [9] (fun iv wr => ∃ i : Nat, iv = .int .i64 (i : Int) ∧ i ≤ m + 1 ∧ Hid (Blk wr w.heap.size 34 Z ∧ Blk wr b 34 (tcs (decF l n i) L2) ∧ Below w.heap.size w wr)) (fun iv _ => m + 1 - (intOf iv).toNat)
  case atStart => exact ⟨0, rfl, Nat.zero_le _, A3⟩
  case round =>
    obtain ⟨i, rfl, hi, HT⟩ := hrel
    by_cases hlt : i ≤ m
    · have hdec : decide ((i : Int) ≤ (m : Int)) = true := decide_eq_true (by omega)
      have hdec2 : decide (i ≤ m) = true := decide_eq_true hlt
      have hib : i ≤ 16 := by have := HN.out; omega
      have hw1 : IntKind.i64.wrap ((i : Int) + 1) = ((i + 1 : Nat) : Int) := by rw [IntWalk.i64_in _ (by omega)]; omega
      go_wp2_with fail
      go_loopw [10] (fun iv wr => ∃ k : Nat, iv = .int .i64 (k : Int) ∧ k ≤ n ∧ Hid (Blk wr w.heap.size 34 Z ∧ Blk wr b 34 (tcs (decG l n i k) L2) ∧ Below w.heap.size w wr)) (fun iv _ => n - (intOf iv).toNat)
      case atStart => exact ⟨0, rfl, Nat.zero_le _, by rw [decG_zero]; exact HT⟩
      case round =>
        obtain ⟨k, rfl, hk, HT⟩ := hrel
        by_cases hlk : k < n
        · have hdk : decide ((k : Int) < (n : Int)) = true := decide_eq_true (by omega)
          have hk8 : k < 8 := by have := HN.out; omega
          have hki : (k : Int) < 8 := by omega
          have hw2 : IntKind.i64.wrap ((k : Int) + 1) = ((k + 1 : Nat) : Int) := by rw [IntWalk.i64_in _ (by omega)]; omega
          have hnb : n ≤ 8 := by have := HN.out; omega
          obtain ⟨x1, hx1⟩ : ∃ x, x = n * i := ⟨_, rfl⟩
          have hx1b : x1 ≤ 8 * 16 := by rw [hx1]; exact Nat.mul_le_mul hnb hib
          obtain ⟨x2, hx2⟩ : ∃ x, x = x1 + k := ⟨_, rfl⟩
          obtain ⟨x3, hx3⟩ : ∃ x, x = 4 * x2 := ⟨_, rfl⟩
          obtain ⟨x4, hx4⟩ : ∃ x, x = 8 + x3 := ⟨_, rfl⟩
          have hle : x4 + 4 ≤ l.length := by
            rw [HLEN.out, hx4, hx3, hx2, hx1]
            have : n * (i + 1) ≤ n * (m + 1) := Nat.mul_le_mul_left n (by omega)
            rw [Nat.mul_add n i 1, Nat.mul_one] at this
            omega
          have y1 : IntKind.i64.wrap ((n : Int) * (i : Int)) = (x1 : Int) := by
            rw [show (n : Int) * (i : Int) = (x1 : Int) from by rw [hx1, Int.natCast_mul], IntWalk.i64_in _ (by omega)]
          have y2 : IntKind.i64.wrap ((x1 : Int) + (k : Int)) = (x2 : Int) := by rw [IntWalk.i64_in _ (by omega)]; omega
          have y3 : IntKind.i64.wrap (4 * (x2 : Int)) = (x3 : Int) := by rw [IntWalk.i64_in _ (by omega)]; omega
          have y4 : IntKind.i64.wrap (8 + (x3 : Int)) = (x4 : Int) := by rw [IntWalk.i64_in _ (by omega)]; omega
          have hsl : ∀ W, (Instr.slice 9 (.string (bs l)) (some (.int .i64 (x4 : Int))) none none).run Try.prog W = .ok (.string (bs (l.drop x4))) W := fun W => run_str_fromT l (l.drop x4) x4 W (by omega) rfl
          have TK := Lib.hid (fun W => HT4.out x4 hle W)
          obtain ⟨v, hv⟩ : ∃ v, v = beV ((l.drop x4).take 4) := ⟨_, rfl⟩
          have hvb : v < 4294967296 := by
            rw [hv]
            have h := beV_lt ((l.drop x4).take 4)
            have h2 : ((l.drop x4).take 4).length ≤ 4 := by rw [List.length_take]; exact Nat.min_le_left _ _
            have h3 : (256 : Nat) ^ ((l.drop x4).take 4).length ≤ 256 ^ 4 := Nat.pow_le_pow_right (by decide) h2
            have e4 : (256 : Nat) ^ 4 = 4294967296 := by decide
            omega
          rw [← hv] at TK
          have HV : Hid (v = beV ((l.drop (8 + 4 * (n * i + k))).take 4)) := Lib.hid (by rw [hv, hx4, hx3, hx2, hx1])
          have wv : IntKind.u32.wrap (v : Int) = (v : Int) := by simp [IntKind.wrap, IntKind.bits, IntKind.signed]; omega
          have HLK := Lib.hid (⟨hlk, hk8⟩ : k < n ∧ k < 8)
          clear hx1 hx2 hx3 hx4 hx1b hle hv hvb
          go_wp2_with fail
          refine (TK.out _).mono ?_
          rintro e w5 ⟨rfl, b5⟩
          clear hlk hk8
          have HT5 : Hid (Blk w5 w.heap.size 34 Z ∧ Blk w5 b 34 (tcs (decG l n i k) L2) ∧ Below w.heap.size w w5) := Lib.hid ⟨HT.out.1.keep b5, HT.out.2.1.keep b5, HT.out.2.2.trans (b5.mono HT.out.2.2.size)⟩
          have HT6 : Hid (Blk (w5.setCell ⟨b, 8 * i + k, none⟩ (.int .u32 (v : Int))) w.heap.size 34 Z ∧ Blk (w5.setCell ⟨b, 8 * i + k, none⟩ (.int .u32 (v : Int))) b 34 (tcs (decG l n i (k + 1)) L2) ∧ Below w.heap.size w (w5.setCell ⟨b, 8 * i + k, none⟩ (.int .u32 (v : Int)))) := Lib.hid (by
            refine ⟨HT5.out.1.far (p := ⟨b, 8 * i + k, none⟩) (by have := HBB.out; show w.heap.size ≠ b; omega) _, ?_, HT5.out.2.2.setCell (p := ⟨b, 8 * i + k, none⟩) (by have := HBB.out; show w.heap.size ≤ b; omega) _⟩
            have h := HT5.out.2.1.set_ (8 * i + k) (.int .u32 (v : Int))
            rw [tcs_set _ L2 (8 * i + k) v (by have := HLK.out; omega), HV.out, decG_step l n i k L2 HLK.out.2] at h
            rw [← HV.out] at h
            exact h)
          have m0 := (HT5.out.2.1.cell (8 * i + k)).trans (tcs_get _ _ _ (by have := HLK.out; omega))
          have n0 := HT5.out.2.1.frozen (8 * i + k)
          clear b5 hsl y1 y2 y3 y4
          by_cases h0 : i = 0
          · have z1 : ((i : Int) == 0) = true := by rw [beq_iff_eq]; omega
            rw [show 8 * i + k = k from by omega] at m0 n0 HT6
            clear h0
            go_wp2_with fail
            go_roundw
            case rel => exact ⟨k + 1, by go_num, by have := HLK.out; omega, HT6⟩
            case measure => simp [intOf]; have := HLK.out; omega
          · have z1 : ((i : Int) == 0) = false := by rw [beq_eq_false_iff_ne]; omega
            obtain ⟨c, hc⟩ : ∃ c, c = i - 1 := ⟨_, rfl⟩
            have hw3 : IntKind.i64.wrap ((i : Int) - 1) = (c : Int) := by rw [IntWalk.i64_in _ (by omega)]; omega
            have hci : (c : Int) < 16 := by omega
            rw [show 8 * i + k = 8 + c * 8 + k from by omega] at m0 n0 HT6
            clear h0 hc
            go_wp2_with fail
            go_roundw
            case rel => exact ⟨k + 1, by go_num, by have := HLK.out; omega, HT6⟩
            case measure => simp [intOf]; have := HLK.out; omega
        · obtain rfl : k = n := by omega
          have hdk : decide ((k : Int) < (k : Int)) = false := decide_eq_false (by omega)
          go_wp2_with fail
          go_roundw
          case rel => exact ⟨i + 1, by go_num, by omega, by rw [← decG_full]; exact HT⟩
          case measure => simp [intOf]; omega
    · obtain rfl : i = m + 1 := by omega
      have hdec : decide (((m + 1 : Nat) : Int) ≤ (m : Int)) = false := decide_eq_false (by omega)
      have hdec2 : decide (m + 1 ≤ m) = false := decide_eq_false (by omega)
      have hal : (tcs (decF l n (m + 1)) L2).length = 137 := tcs_len _ _
      have hao : (tcs (decF l n (m + 1)) L2).toArray.all (·.oneCell') = true := all_oneCell_toArray (tcs_one _ _)
      obtain ⟨a, ha⟩ : ∃ a, a = tcs (decF l n (m + 1)) L2 := ⟨_, rfl⟩
      rw [← ha] at HT hal hao
      have HA := Lib.hid ha
      clear ha
      obtain ⟨I, hI⟩ : ∃ I, I = ((m + 1 : Nat) : Int) := ⟨_, rfl⟩
      rw [← hI] at hdec ⊢
      clear hI hdec2 hi hlt
      have hsa : (Try.prog.info? 34).map (·.size) = some a.length := by rw [hal]; exact sizeRTab
      have hsa2 : (Try.prog.info? 34).map (·.size) = some a.toArray.size := by rw [List.size_toArray, hal]; exact sizeRTab
      have RA := Lib.hid HT.out.2.1.whole
      have TH : Hid (wr.there w.heap.size 0 a.toArray.size) := Lib.hid (HT.out.1.thereT (by rw [HZL.out, show a.toArray.size = 137 by rw [List.size_toArray, hal]]; omega))
      have FIN : Hid (Blk (wr.setCells w.heap.size 0 a.toArray.toList) w.heap.size 34 a ∧ Below w.heap.size w (wr.setCells w.heap.size 0 a.toArray.toList)) := Lib.hid ⟨HT.out.1.setWhole a (by rw [hal, HZL.out]), Below.setCellsT HT.out.2.2 (Nat.le_refl _) _ _⟩
      clear hal
      go_wp2_with (first
        | (refine wpList_load_mid rfl _ _ rfl b 0 rfl a _ RA.out Try.underlying34 rfl hsa ?_)
        | (refine wpList_store_mid rfl _ _ _ rfl w.heap.size 0 a.toArray rfl rfl TH.out hsa2 hao ?_))
      refine bodyPost_ret (v := .tuple #[.agg a.toArray, .int .i64 0]) ?_ rfl ⟨by rw [HA.out], FIN.out.2⟩
      exact results_cell_row2 rfl _ _ w.heap.size _ a.toArray (0, 0) _ rfl FIN.out.1 Try.underlying34 rfl hsa2 _ rfl

theorem ref_Decode_all (l : List UInt8) (m n : Nat) (w : World) (hl : l.length ≤ 1000000) (hm : 1 ≤ m ∧ m ≤ 16) (hn : 1 ≤ n ∧ n ≤ 8) :
    Calls Try.prog 16 #[.string (bs l), .int .i64 (m : Int), .int .i64 (n : Int)] w fun e w' => e = .returned (.tuple #[.agg (tcs (decT l m n).1 (decT l m n).2.1).toArray, .int .i64 ((decT l m n).2.2 : Int)]) ∧ Below w.heap.size w w' := by
  unfold decT
  by_cases h1 : l.length < 8 + 4 * (n * (m + 1))
  · rw [if_pos h1]
    exact ref_Decode_size l m n 10 w hl hm hn (.inl ⟨h1, rfl⟩)
  · rw [if_neg h1]
    by_cases h2 : 8 + 4 * (n * (m + 1)) < l.length
    · rw [if_pos h2]
      exact ref_Decode_size l m n 11 w hl hm hn (.inr ⟨h2, rfl⟩)
    · rw [if_neg h2]
      exact ref_Decode_ok l m n w hl hm hn (by omega)

end Go.Proofs.Ythoahengdajpcaa
