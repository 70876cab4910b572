/- The statement CoinEven walked. -/
import Derived.Test.YtcfjgllkpfkhfaaCoinD
import Derived.OpenShut
namespace Go.Proofs.Ytcfjgllkpfkhfaa
open Go.RowKit

theorem infoInt8 : (Try.prog.info? 3).map (fun i => (i.zero, i.size, i.bytes)) = some (some (.int .i64 0), 1, 8) := by kernel_rfl

/-- How many of the first i tapes lead to each number below m. -/
def cnts (m i : Nat) : List Nat := (List.range m).map fun v => cnt (leads m v) i
theorem cnts_len (m i : Nat) : (cnts m i).length = m := by simp [cnts]
theorem cnts_get {m i v : Nat} (h : v < m) : (cnts m i).getD v 0 = cnt (leads m v) i := by
  simp [cnts, List.getD_eq_getElem?_getD, h]
theorem cnts_zero (m : Nat) : cnts m 0 = List.replicate m 0 := by
  apply List.ext_getElem?
  intro j
  by_cases h : j < m
  · simp [cnts, h, cnt]
  · simp [cnts, h]
theorem cnts_none {m i : Nat} {v z c : Nat} (h : beT (two i) 0 m = (v, z, c)) (hc : c ≠ 0) : cnts m (i + 1) = cnts m i := by
  unfold cnts
  refine List.map_congr_left fun x _ => ?_
  have : leads m x i = false := by
    unfold leads
    rw [h]
    exact decide_eq_false fun e => hc e.1
  rw [cnt_succ, this]
  rfl
theorem cnts_some {m i : Nat} {v z : Nat} (h : beT (two i) 0 m = (v, z, 0)) (hv : v < m) : (nums .i64 (cnts m i)).set v (.int .i64 ((cnt (leads m v) i : Nat) + 1 : Int)) = nums .i64 (cnts m (i + 1)) := by
  apply List.ext_getElem?
  intro j
  by_cases hj : j < m
  · rw [nums_get _ _ _ (by rw [cnts_len]; exact hj), cnts_get hj, cnt_succ]
    by_cases e : v = j
    · subst e
      have : leads m v i = true := by
        unfold leads
        rw [h]
        exact decide_eq_true ⟨rfl, rfl⟩
      rw [this, List.getElem?_set_self (by rw [nums_length, cnts_len]; exact hj)]
      simp
    · have : leads m j i = false := by
        unfold leads
        rw [h]
        exact decide_eq_false fun x => e x.2
      rw [this, List.getElem?_set_ne e, nums_get _ _ _ (by rw [cnts_len]; exact hj), cnts_get hj]
      simp
  · rw [List.getElem?_eq_none (by rw [List.length_set, nums_length, cnts_len]; omega), List.getElem?_eq_none (by rw [nums_length, cnts_len]; omega)]
theorem cnts_all {m : Nat} (hm : m ≤ 256) (h0 : 0 < m) : cnts m 65536 = List.replicate m (cnt (leads m 0) 65536) := by
  apply List.ext_getElem?
  intro j
  by_cases h : j < m
  · rw [List.getElem?_replicate, if_pos h]
    have : (cnts m 65536)[j]? = some (cnt (leads m j) 65536) := by simp [cnts, h]
    rw [this, leads_even hm h h0]
  · rw [List.getElem?_eq_none (by rw [cnts_len]; omega), List.getElem?_eq_none (by rw [List.length_replicate]; omega)]

theorem conv_two (p q i : Nat) (hp : p = i / 256) (hq : q = i % 256) : ∃ E : ByteArray, E.data.toList = two i ∧ ∀ (W : World) (te : TypeId), (convert 44 9 (.slice (some ⟨W.heap.size, 0, none⟩) 2 2)).run Try.prog (W.alloc (.cells #[.int .u8 (p : Int), .int .u8 (q : Int)] te)) = .ok (.string E) (W.alloc (.cells #[.int .u8 (p : Int), .int .u8 (q : Int)] te)) := by
  refine ⟨strOfNums [(p : Int), (q : Int)], ?_, fun W te => ?_⟩
  · rw [strOfNums_data]
    subst hp hq
    simp only [List.map_cons, List.map_nil, Int.toNat_natCast, two]
  · exact run_convert_bytes_arg (P := Try.prog) _ 44 5 Try.underlying44 Try.underlying5 W.heap.size 0 2 2 [(p : Int), (q : Int)] rfl (fun i hi => by
      have h2 : i = 0 ∨ i = 1 := by omega
      rcases h2 with rfl | rfl
      · exact World.cell?_alloc_at (w := W) #[.int .u8 (p : Int), .int .u8 (q : Int)] te W.heap.size 0 rfl
      · exact World.cell?_alloc_at (w := W) #[.int .u8 (p : Int), .int .u8 (q : Int)] te W.heap.size 1 rfl) 9 Try.underlying9

theorem wrap8e {k : Nat} (h : k < 256) : IntKind.u8.wrap (k : Int) = (k : Int) := by
  have : (k : Int) % 256 = (k : Int) := by omega
  simpa [IntKind.wrap, IntKind.bits, IntKind.signed] using this
theorem wrap8m (k : Nat) : IntKind.u8.wrap (k : Int) = ((k % 256 : Nat) : Int) := by
  simp [IntKind.wrap, IntKind.bits, IntKind.signed]

set_option maxHeartbeats 4000000 in
set_option maxRecDepth 100000 in
theorem coinEven_walk (a0 : Int) (h0 : (Lit.int .u8 a0).wf = true) (w : World) :
    Calls Try.prog 9 #[.int .u8 a0] w fun e w' => e = .returned (.bool true) ∧ Below w.heap.size w w' := by
  have b0 := bounds_u8 h0
  obtain ⟨b00, b01⟩ := b0
  obtain ⟨r, hr⟩ : ∃ r : Nat, a0 % 40 = (r : Int) := ⟨(a0 % 40).toNat, by omega⟩
  have hr40 : r < 40 := by omega
  obtain ⟨m, hm⟩ : ∃ m : Nat, (r : Int) + 1 = (m : Int) := ⟨r + 1, by omega⟩
  have hm40 : m ≤ 40 := by omega
  have hm0 : 0 < m := by omega
  have hmw : IntKind.u64.wrap (m : Int) = (m : Int) := IntWalk.u64_in _ (by omega)
  obtain ⟨i0, hi, hz0, hz1', hz2⟩ := info_parts infoInt8
  clear h0
  go_enter Try.func9, Try.ntmps9
  go_wp2_with (first
    | (at_make
       refine wpList_make_full _ rfl _ _ 22 rfl w.heap.size 3 i0 (.int .i64 0) 1 Try.underlying22 hi hz0 hz1' .i64 .i64 _ _ m rfl rfl rfl rfl (by rw [hz2]; omega) (by simp only [maxLen]; omega) (Nat.le_refl _) ?_
       intro w1 hown hgr
       have hblk := Lib.hid (Blk.of_make hown (by omega))
       have hb1 : Below w.heap.size w w1 := (Below.refl _ _).grown hgr (Nat.le_refl _) (fun k hk => by cases hk)
       have hbw := Lib.hid hb1
       clear hown hgr hb1))
  go_loopw [17] (fun iv wr => ∃ i : Nat, iv = .int .i64 (i : Int) ∧ Hid (i ≤ 65536) ∧ Hid (Blk wr w.heap.size 3 (nums .i64 (cnts m i))) ∧ Hid (Below w.heap.size w wr)) (fun iv _ => 65536 - (intOf iv).toNat)
  case atStart => exact ⟨0, rfl, Lib.hid (by omega), Lib.hid (by rw [cnts_zero, nums_replicate]; exact hblk.out), hbw⟩
  case round =>
    clear hblk hbw
    obtain ⟨i, rfl, hi65, HBK, HB⟩ := hrel
    by_cases hlt : i < 65536
    · obtain ⟨p, hp⟩ : ∃ p, p = i / 256 := ⟨_, rfl⟩
      obtain ⟨q, hq⟩ : ∃ q, q = i % 256 := ⟨_, rfl⟩
      obtain ⟨E, hE, hcv⟩ := conv_two p q i hp hq
      have HCV := Lib.hid hcv
      have hpi : (i : Int) / 256 = (p : Int) := by omega
      have hqi : (i : Int) % 256 = (q : Int) := by omega
      have hpw : IntKind.u8.wrap (p : Int) = (p : Int) := wrap8e (by omega)
      have hqw : IntKind.u8.wrap (i : Int) = (q : Int) := by rw [wrap8m, hq]
      have HE := Lib.hid hE
      have hEs : E.size = 2 := by rw [← dlen, hE]; rfl
      have HP : Hid (∀ W : World, Calls Try.prog 20 #[.agg #[.string E, .int .i64 0], .int .u64 (m : Int)] W (BeRet E 0 m W)) := Lib.hid (fun W => coin_Below E 0 m W (by omega) (Nat.zero_le _) (by omega))
      have hd : decide ((i : Int) < 65536) = true := decide_eq_true (by omega)
      have HLT := Lib.hid hlt
      have hiw : IntKind.i64.wrap ((i : Int) + 1) = (i : Int) + 1 := IntWalk.i64_in _ (by omega)
      clear hp hq hE hcv hEs hlt
      go_wp2_with fail
      rw [HCV.out]
      go_simp
      go_wp2_with fail
      refine (tape_New E _).mono ?_
      rintro e w2 ⟨rfl, hb2⟩
      have B2 := Lib.hid (keepB (below_al HB.out (.cells #[.int .u8 (p : Int), .int .u8 (q : Int)] 5)) hb2)
      have K2 := Lib.hid ((Blk.alloc HBK.out (.cells #[.int .u8 (p : Int), .int .u8 (q : Int)] 5)).keep hb2)
      clear hb2
      go_wp2_with fail
      refine (HP.out _).mono ?_
      rintro e w3 ⟨v, z, c, hbe, rfl, hb3⟩
      rw [HE.out] at hbe
      have HBE := Lib.hid hbe
      have B3 := Lib.hid (keepB B2.out hb3)
      have K3 := Lib.hid (K2.out.keep hb3)
      have hsz := K3.out.lt
      clear hb3 B2 K2 hbe HB HBK
      by_cases hc : c = 0
      · subst hc
        have hvm : v < m := by
          rcases beT_cases (two i) 0 m (Nat.zero_le _) with ⟨h, _⟩ | ⟨_, _, e⟩ | ⟨v2, a2, _, _, e, h, _⟩
          · omega
          · rw [HBE.out] at e; injection e with _ e; injection e with _ e; cases e
          · rw [HBE.out] at e; injection e with e _; rw [e]; exact h
        obtain ⟨C, hC⟩ : ∃ C, C = cnt (leads m v) i := ⟨_, rfl⟩
        have hCi : C ≤ i := by rw [hC]; exact cnt_le _ _
        have hcell := K3.out.cell v
        rw [nums_get _ _ _ (by rw [cnts_len]; exact hvm), cnts_get hvm, ← hC] at hcell
        have hfr := K3.out.frozen v
        have HS := Lib.hid (cnts_some HBE.out hvm)
        have hvi : (v : Int) < (m : Int) := by omega
        have hge : decide (m ≤ v) = false := decide_eq_false (by omega)
        have HC : Hid (C = cnt (leads m v) i) := Lib.hid hC
        have hCw : IntKind.i64.wrap ((C : Int) + 1) = (C : Int) + 1 := by have := HLT.out; exact IntWalk.i64_in _ (by omega)
        clear hC hCi
        go_wp2_with fail
        go_roundw
        case rel => exact ⟨i + 1, by go_num, Lib.hid (by have := HLT.out; omega), Lib.hid (by rw [← HS.out, ← HC.out]; exact (Blk.set_ K3.out v _).alloc _), Lib.hid (below_al (B3.out.setCell (Nat.le_refl _) _) _)⟩
        case measure => have := HLT.out; simp [intOf]; omega
      · have hc1 : ((c : Int) == 0) = false := beq_eq_false_iff_ne.2 (by omega)
        have hc2 : ((c : Int) != 0) = true := bne_iff_ne.2 (by omega)
        have HN := Lib.hid (cnts_none HBE.out hc)
        clear hc
        go_wp2_with fail
        go_roundw
        case rel => exact ⟨i + 1, by go_num, Lib.hid (by have := HLT.out; omega), Lib.hid (by rw [HN.out]; exact K3.out.alloc _), Lib.hid (below_al B3.out _)⟩
        case measure => have := HLT.out; simp [intOf]; omega
    · have hi6 : i = 65536 := by have := hi65.out; omega
      have HK : Hid (Blk wr w.heap.size 3 (nums .i64 (List.replicate m (cnt (leads m 0) 65536)))) := Lib.hid (by
        rw [← cnts_all (by omega) hm0, ← hi6]; exact HBK.out)
      have HP0 := Lib.hid (leads_pos (n := m) (v := 0) (by omega) hm0)
      obtain ⟨K, hK⟩ : ∃ K, K = cnt (leads m 0) 65536 := ⟨_, rfl⟩
      rw [← hK] at HK HP0
      have hk0 : ((K : Int) == 0) = false := beq_eq_false_iff_ne.2 (by have := HP0.out; omega)
      have hd : decide ((i : Int) < 65536) = false := decide_eq_false (by omega)
      have hcell0 := HK.out.cell 0
      rw [nums_get _ _ _ (by rw [List.length_replicate]; exact hm0)] at hcell0
      have e0 : (List.replicate m K).getD 0 0 = K := by simp [List.getD_eq_getElem?_getD, List.getElem?_replicate, hm0]
      rw [e0] at hcell0
      clear HBK hK hi6 hi65 hlt e0
      go_wp2_with fail
      go_loop [50] (fun jv => ∃ j : Nat, jv = .int .i64 (j : Int) ∧ j ≤ m) (fun jv => m - (intOf jv).toNat)
      case atStart => exact ⟨0, rfl, Nat.zero_le _⟩
      case round =>
        obtain ⟨j, rfl, hj⟩ := hrel
        by_cases hjm : j < m
        · have hcell := HK.out.cell j
          rw [nums_get _ _ _ (by rw [List.length_replicate]; exact hjm)] at hcell
          have e1 : (List.replicate m K).getD j 0 = K := by simp [List.getD_eq_getElem?_getD, List.getElem?_replicate, hjm]
          rw [e1] at hcell
          clear e1
          go_wp2_with fail
          go_round
          case rel => exact ⟨j + 1, by go_num, by omega⟩
          case measure => simp [intOf]; omega
        · go_wp2_with fail
          refine (law8_Awake _).mono ?_
          rintro e w9 ⟨rfl, hb9⟩
          have B9 := Lib.hid (keepB HB.out hb9)
          clear hb9
          go_wp2_with fail
          go_ret
          exact ⟨rfl, B9.out⟩
end Go.Proofs.Ytcfjgllkpfkhfaa
