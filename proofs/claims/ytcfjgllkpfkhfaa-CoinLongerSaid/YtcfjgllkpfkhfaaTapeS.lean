/- Contracts of the document's answers for tapes: Bytes. -/
import Derived.Test.YtcfjgllkpfkhfaaTapeR
import Derived.Test.YtcfjgllkpfkhfaaTapeD
import Derived.Laws.BytesArg
namespace Go.Proofs.Ytcfjgllkpfkhfaa
open Go.RowKit

theorem infoByte : (Try.prog.info? 5).map (fun i => (i.zero, i.size, i.bytes)) = some (some (.int .u8 0), 1, 1) := by kernel_rfl

/-- Bytes as numbers. -/
def nb (l : List UInt8) : List Nat := l.map (·.toNat)
theorem nb_len (l : List UInt8) : (nb l).length = l.length := by simp [nb]
theorem nb_snoc (l : List UInt8) (v : Nat) (h : v < 256) : nb (l ++ [UInt8.ofNat v]) = nb l ++ [v] := by simp [nb, Nat.mod_eq_of_lt h]
theorem own_keep {w w' : World} {base e n : Nat} {v : Value} {xs : List Value} (h : w.ownsRow base e 1 v n xs) (hb : Below w.heap.size w w') : w'.ownsRow base e 1 v n xs := by
  refine ⟨h.1, ?_⟩
  rcases h.2 with h0 | ⟨g, cap, cur, hv, hg, hh, hr⟩
  · exact .inl h0
  · refine .inr ⟨g, cap, cur, hv, hg, (hb.block g ?_).trans hh, hr⟩
    rcases Nat.lt_or_ge g w.heap.size with hl | hl
    · exact hl
    · rw [Array.getElem?_eq_none hl] at hh; cases hh
theorem own_of {w w' : World} {base e n : Nat} {v : Value} {xs : List Value} (h : w.ownsRow base e 1 v n xs) (hk : ∀ k, base ≤ k → k < w.heap.size → w'.heap[k]? = w.heap[k]?) : w'.ownsRow base e 1 v n xs := by
  refine ⟨h.1, ?_⟩
  rcases h.2 with h0 | ⟨g, cap, cur, hv, hg, hh, hr⟩
  · exact .inl h0
  · refine .inr ⟨g, cap, cur, hv, hg, (hk g hg ?_).trans hh, hr⟩
    rcases Nat.lt_or_ge g w.heap.size with hl | hl
    · exact hl
    · rw [Array.getElem?_eq_none hl] at hh; cases hh
theorem own_put2 {w : World} {base e n : Nat} {v : Value} {xs : List Value} (h : w.ownsRow base e 1 v n xs) {g : Nat} (hg : g < base) (a b : Value) : ((w.setCell ⟨g, 0, none⟩ a).setCell ⟨g, 1, none⟩ b).ownsRow base e 1 v n xs :=
  own_of h fun k hk _ => (Below.heap_setCell _ ⟨g, 1, none⟩ _ k (by simp; omega)).trans (Below.heap_setCell _ ⟨g, 0, none⟩ _ k (by simp; omega))

theorem str_nb (l : List UInt8) : strOfNums ((nb l).map fun x : Nat => (x : Int)) = ⟨l.toArray⟩ := by
  have h : (strOfNums ((nb l).map fun x : Nat => (x : Int))).data.toList = l := by
    rw [strOfNums_data]
    simp only [nb, List.map_map]
    conv => rhs; rw [← List.map_id l]
    refine List.map_congr_left fun x _ => ?_
    show UInt8.ofNat ((x.toNat : Int)).toNat = x
    rw [Int.toNat_natCast, UInt8.ofNat_toNat]
  cases hs : strOfNums ((nb l).map fun x : Nat => (x : Int)) with
  | mk a => rw [hs] at h; congr 1; rw [← h]

/-- A row of bytes of the call's own, as a text. -/
theorem conv_own {w : World} {base : Nat} {v : Value} {l : List UInt8} (h : w.ownsRow base 5 1 v (nb l).length (nums .u8 (nb l))) :
    (convert 44 9 v).run Try.prog w = .ok (.string ⟨l.toArray⟩) w := by
  have h0 := h
  rcases h.2 with ⟨rfl, hz⟩ | ⟨g, cap, cur, rfl, _, hh, _⟩
  · have hl : l = [] := List.eq_nil_of_length_eq_zero (by rw [← nb_len]; exact hz)
    subst hl
    exact run_convert_bytes_nil (P := Try.prog) w 44 5 Try.underlying44 Try.underlying5 0 0 9 Try.underlying9
  · have := run_convert_bytes_arg (P := Try.prog) w 44 5 Try.underlying44 Try.underlying5 g 0 (nb l).length cap ((nb l).map fun x : Nat => (x : Int)) (by rw [List.length_map]) (fun i hi => by
      rw [Nat.zero_add, h0.cellAt i (by omega), nums_get _ _ _ hi, List.getD_eq_getElem?_getD, List.getD_eq_getElem?_getD, List.getElem?_map, List.getElem?_eq_getElem hi]
      rfl) 9 Try.underlying9
    rw [str_nb] at this
    exact this

set_option maxHeartbeats 4000000 in
set_option maxRecDepth 100000 in
theorem rtape_Bytes (s : ByteArray) (a : Nat) (n : Int) (w : World) (hs : (s.size : Int) ≤ 1000000) (ha : a ≤ 8 * s.size) (hn0 : -9223372036854775808 ≤ n) (hn1 : n ≤ 9223372036854775807) :
    Calls Try.prog 13 #[.agg #[.string s, .int .i64 (a : Int)], .int .i64 n] w (ByRet s a n w) := by
  by_cases hlo : n < 0
  · have HR := Lib.hid (byT_range (l := s.data.toList) (a := a) hlo)
    go_enter Try.func13, Try.ntmps13
    go_wp2_with fail
    go_region
    all_goals go_wp2_with fail
    all_goals refine bodyPost_ret (v := .tuple #[.string ⟨#[]⟩, .agg #[.string s, .int .i64 (a : Int)], .int .i64 5]) (by simp [results, Try.results13, go_sem]) rfl ⟨[], a, 5, HR.out, rfl, ?_⟩
    all_goals exact (((Below.refl _ _).alloc (Nat.le_refl _) _).alloc (hz1 _ _) _).drew
  · obtain ⟨b, hb⟩ : ∃ b, 8 * s.size = a + b := ⟨8 * s.size - a, by omega⟩
    obtain ⟨m, rfl⟩ : ∃ m : Nat, n = (m : Int) := ⟨n.toNat, by omega⟩
    obtain ⟨q, hq⟩ : ∃ q, q = b / 8 := ⟨_, rfl⟩
    have hqi : (b : Int) / 8 = (q : Int) := by omega
    have hqb : (q : Int) ≤ 1000000 := by omega
    have hbb : (b : Int) ≤ 8000000 := by omega
    have HL := Lib.hid (fun W => rtape_Left s a b W hs hb)
    have X0 := Lib.hid ((TBox.new 28 w s a).alloc (.cells #[.string ⟨#[]⟩, .int .i64 0] 28))
    have Y0 := TBox.new 28 (w.alloc (.cells #[.string s, .int .i64 (a : Int)] 28)) ⟨#[]⟩ 0
    rw [show (w.alloc (.cells #[.string s, .int .i64 (a : Int)] 28)).heap.size = w.heap.size + 1 from by simp] at Y0
    have Y0 := Lib.hid Y0
    have B0 := Lib.hid (((Below.refl w.heap.size w).alloc (Nat.le_refl _) (.cells #[.string s, .int .i64 (a : Int)] 28)).alloc (hz1 _ _) (.cells #[.string ⟨#[]⟩, .int .i64 0] 28))
    have HB := Lib.hid hb
    have HQ := Lib.hid hq
    by_cases hbm : q < m
    · have HR := Lib.hid (byT_short (l := s.data.toList) (a := a) (b := b) (n := (m : Int)) (by omega) (by rw [dlen]; exact hb) (by omega))
      have hd : decide ((q : Int) < (m : Int)) = true := decide_eq_true (by omega)
      clear hb hlo hq
      go_enter Try.func13, Try.ntmps13
      go_wp2_with fail
      refine (HL.out _).mono ?_
      rintro e w1 ⟨rfl, hb1⟩
      have X1 := Lib.hid (X0.out.keep hb1)
      have Y1 := Lib.hid (Y0.out.keep hb1)
      have B1 := Lib.hid (keepB B0.out hb1)
      obtain ⟨c0, c1⟩ := X1.out.cells
      obtain ⟨d0, d1⟩ := Y1.out.cells
      obtain ⟨f0, f1⟩ := Y1.out.fz
      clear hb1 X0 Y0 B0
      go_wp2_with fail
      go_region
      all_goals go_wp2_with fail
      all_goals refine bodyPost_ret (v := .tuple #[.string ⟨#[]⟩, .agg #[.string s, .int .i64 (a : Int)], .int .i64 6]) (by simp [results, Try.results13, go_sem, d0, d1]) rfl ⟨[], a, 6, HR.out, rfl, ?_⟩
      all_goals exact Below.drew (Below.put2 B1.out (Nat.le_succ _) _ _)
    · have HA : Hid (a + 8 * m ≤ 8 * s.size) := Lib.hid (by omega)
      have HR : Hid (byT s.data.toList a (m : Int) = (bytL s.data.toList a m, a + 8 * m, 0)) := Lib.hid (byT_ok (by rw [dlen]; exact HA.out))
      have hbm' : (m : Int) ≤ (q : Int) := by omega
      have hmb : (m : Int) ≤ 1000000 := by omega
      have q0 : decide ((m : Int) < 0) = false := decide_eq_false (by omega)
      have q2 : decide (q < m) = false := decide_eq_false (by omega)
      obtain ⟨i0, hi, hz0, hz1', hz2⟩ := info_parts infoByte
      clear hb hlo hbm hq
      go_enter Try.func13, Try.ntmps13
      go_wp2_with fail
      refine (HL.out _).mono ?_
      rintro e w1 ⟨rfl, hb1⟩
      have X1 := Lib.hid (X0.out.keep hb1)
      have Y1 := Lib.hid (Y0.out.keep hb1)
      have B1 := Lib.hid (keepB B0.out hb1)
      have XL := Lib.hid X1.out.lt
      have YL := Lib.hid Y1.out.lt
      obtain ⟨c0, c1⟩ := X1.out.cells
      clear hb1 X0 Y0 B0
      go_wp2_with (at_make; refine wpList_make_own _ rfl _ _ 44 rfl w1.heap.size 5 i0 (.int .u8 0) 1 Try.underlying44 hi hz0 hz1' .i64 .i64 _ m rfl rfl ?c1 ?c2 ?c3 (Nat.le_refl _) ?_)
      case c1 => first | rfl | (push_cast; rfl)
      case c2 => rw [hz2]; omega
      case c3 => simp only [maxLen]; omega
      intro w2 hown0 hgr0
      have G2 : Hid (Below w1.heap.size w1 w2) := Lib.hid ((Below.refl _ _).grown hgr0 (Nat.le_refl _) (fun k hk => by cases hk))
      have X2 := Lib.hid (X1.out.keep G2.out)
      have Y2 := Lib.hid (Y1.out.keep G2.out)
      have B2 := Lib.hid (keepB B1.out G2.out)
      have O2 : Hid (w2.ownsRow w1.heap.size 5 1 _ (nb []).length (nums .u8 (nb []))) := Lib.hid hown0
      have L2 := Lib.hid G2.out.size
      clear hgr0 hown0 X1 Y1 B1 c0 c1
      go_wp2_with fail
      go_loopw [7, 8] (fun vv iv wr => ∃ (k x : Nat), iv = .int .i64 (k : Int) ∧ k ≤ m ∧ Hid (x = a + 8 * k) ∧ Hid (TBox 28 wr w.heap.size s x) ∧ Hid (TBox 28 wr (w.heap.size + 1) ⟨#[]⟩ 0) ∧ Hid (Below w.heap.size w wr) ∧ Hid (w1.heap.size ≤ wr.heap.size) ∧
          Hid (wr.ownsRow w1.heap.size 5 1 vv (nb (bytL s.data.toList a k)).length (nums .u8 (nb (bytL s.data.toList a k))))) (fun _ iv _ => m - (intOf iv).toNat)
      case atStart => exact ⟨0, a, rfl, Nat.zero_le _, Lib.hid rfl, X2, Y2, B2, L2, O2⟩
      case round =>
        obtain ⟨k, x, rfl, hk, HX, X3, Y3, B3, L3, O3⟩ := hrel
        obtain ⟨c0, c1⟩ := X3.out.cells
        by_cases hlt : k < m
        · obtain ⟨v, hv⟩ : ∃ v, v = numL s.data.toList x 8 := ⟨_, rfl⟩
          obtain ⟨x', hx'⟩ : ∃ x', x' = x + 8 := ⟨_, rfl⟩
          have hv8 : v < 256 := by rw [hv]; exact numL_byte_lt _ _
          have hv8i : IntKind.u8.wrap (v : Int) = (v : Int) := by
            have : (v : Int) % 256 = (v : Int) := by omega
            simpa [IntKind.wrap, IntKind.bits, IntKind.signed] using this
          have HT : Hid (∀ W : World, Calls Try.prog 16 #[.agg #[.string s, .int .i64 (x : Int)], .int .i64 8] W fun e w' =>
              e = .returned (.tuple #[.int .u64 (v : Int), .agg #[.string s, .int .i64 (x' : Int)], .int .i64 0]) ∧ Below W.heap.size W w') := Lib.hid (fun W => by
            have h1 := HX.out
            have h2 := HA.out
            refine (rtape_Read s x 8 W hs (by omega) (by omega) (by omega)).mono ?_
            rintro e w' ⟨v2, z2, c2, hr, he, hb⟩
            have h3 := rdT_ok (l := s.data.toList) (a := x) (n := 8) (by omega) (by rw [dlen]; omega)
            have h4 := hr.symm.trans h3
            injection h4 with e1 e2
            injection e2 with e2 e3
            subst e1 e2 e3
            rw [he, hv, hx']
            exact ⟨rfl, hb⟩)
          have HBY : Hid (nb (bytL s.data.toList a (k + 1)) = nb (bytL s.data.toList a k) ++ [v]) := Lib.hid (by
            rw [← nb_snoc _ _ hv8, hv, HX.out]; rfl)
          have HX' : Hid (x' = a + 8 * (k + 1)) := Lib.hid (by rw [hx', HX.out]; omega)
          have hlb : (nb (bytL s.data.toList a k)).length ≤ 8796093022208 := by rw [nb_len, bytL_len]; omega
          have HLB := Lib.hid hlb
          clear hv hx' hlb
          go_wp2_with fail
          refine (HT.out _).mono ?_
          rintro e w4 ⟨rfl, hb4⟩
          have X4 := Lib.hid ((X3.out.keep hb4).alloc (.cells #[.string s, .int .i64 (x' : Int)] 28))
          have Y4 := Lib.hid ((Y3.out.keep hb4).alloc (.cells #[.string s, .int .i64 (x' : Int)] 28))
          have Z4 := Lib.hid (TBox.new 28 w4 s x')
          have B4 : Hid (Below w.heap.size w (w4.alloc (.cells #[.string s, .int .i64 (x' : Int)] 28))) := Lib.hid ((keepB B3.out hb4).alloc (keepB B3.out hb4).size _)
          have L4 : Hid (w1.heap.size ≤ (w4.alloc (.cells #[.string s, .int .i64 (x' : Int)] 28)).heap.size) := Lib.hid (Nat.le_trans (Nat.le_trans L3.out hb4.size) (hz1 _ _))
          have B4' := Lib.hid (keepB B3.out hb4)
          have L4' : Hid (w1.heap.size ≤ w4.heap.size) := Lib.hid (Nat.le_trans L3.out hb4.size)
          have hl4 := L4.out
          have hb41 : Below w1.heap.size w4 (w4.alloc (.cells #[.string s, .int .i64 (x' : Int)] 28)) := (Below.refl _ _).alloc (Nat.le_trans L3.out hb4.size) _
          have hown4 := (own_keep O3.out hb4).alloc (.cells #[.string s, .int .i64 (x' : Int)] 28)
          clear hb4 X3 Y3 B3 O3 c0 c1
          go_wp2_with (at_builtin; refine wpList_append1 rfl (.tmp 34) (.tmp 37) 44 rfl .u8 w1.heap.size 5 i0 (.int .u8 0) 1 Try.underlying44 hi hz0 hz1' hz2 rfl _ (nb (bytL s.data.toList a k)) rfl hown4 _ v ?_ _ ?_ HLB.out (by omega) hb41 hl4 ?_)
          · rfl
          · show Value.slice (some ⟨w4.heap.size + 1, 0, none⟩) 1 1 = _
            simp
          · intro v6 w6 hown6 hb6 hkeep6
            have X6 := Lib.hid (hkeep6 w.heap.size 28 _ (by decide) X4.out)
            have Y6 := Lib.hid (hkeep6 (w.heap.size + 1) 28 _ (by decide) Y4.out)
            have Z6 := Lib.hid (hkeep6 w4.heap.size 28 _ (by decide) Z4.out)
            have B6 : Hid (Below w.heap.size w w6) := Lib.hid (B4'.out.trans (hb6.mono (Nat.le_of_lt XL.out)))
            have L6 : Hid (w1.heap.size ≤ w6.heap.size) := Lib.hid (Nat.le_trans L4'.out hb6.size)
            have O6 : Hid (w6.ownsRow w1.heap.size 5 1 v6 (nb (bytL s.data.toList a (k + 1))).length (nums .u8 (nb (bytL s.data.toList a (k + 1))))) := Lib.hid (by rw [HBY.out, List.length_append]; exact hown6)
            obtain ⟨c0, c1⟩ := TBox.cells Z6.out
            obtain ⟨g0, g1⟩ := TBox.cells X6.out
            obtain ⟨f0, f1⟩ := TBox.fz X6.out
            clear hown6 hb6 hkeep6 X4 Y4 Z4 B4 L4 hl4 hb41 hown4
            go_wp2_with fail
            go_roundw
            case rel => exact ⟨k + 1, x', by go_num, by omega, HX', Lib.hid (TBox.store X6.out x'), Lib.hid (TBox.far (TBox.far Y6.out (by simp) _) (by simp) _), Lib.hid (Below.put2 B6.out (Nat.le_refl _) _ _), Lib.hid (by simp [World.setCell]; exact L6.out), Lib.hid (own_put2 O6.out XL.out _ _)⟩
            case measure => simp [intOf]; omega
        · have hkm : k = m := by omega
          subst hkm
          have HR2 : Hid (byT s.data.toList a (k : Int) = (bytL s.data.toList a k, x, 0)) := Lib.hid (by rw [HX.out]; exact HR.out)
          obtain ⟨l, hl⟩ : ∃ l, l = bytL s.data.toList a k := ⟨_, rfl⟩
          rw [← hl] at O3 HR2
          clear HR hl HX
          obtain ⟨d0, d1⟩ := Y3.out.cells
          obtain ⟨f0, f1⟩ := Y3.out.fz
          have hcv := conv_own (w := World.drew _) O3.out
          clear O3
          go_wp2_with fail
          go_region
          all_goals go_wp2_with fail
          all_goals refine bodyPost_ret (v := .tuple #[.string ⟨l.toArray⟩, .agg #[.string s, .int .i64 (x : Int)], .int .i64 0]) (by simp [results, Try.results13, go_sem, d0, d1]) rfl ⟨l, x, 0, HR2.out, rfl, ?_⟩
          all_goals first | exact Below.drew (Below.put2 B3.out (Nat.le_succ _) _ _) | exact Below.put2 (Below.drew B3.out) (Nat.le_succ _) _ _
end Go.Proofs.Ytcfjgllkpfkhfaa
