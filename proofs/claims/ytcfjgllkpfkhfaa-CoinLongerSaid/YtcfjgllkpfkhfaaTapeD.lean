/- Contracts of tape's Bytes. -/
import Derived.Test.YtcfjgllkpfkhfaaTapeC
import Derived.Test.YtcfjgllkpfkhfaaBuilder
import Derived.Deep.RegionWith
namespace Go.Proofs.Ytcfjgllkpfkhfaa
open Go.RowKit

/-- A builder stays while its own blocks do. -/
theorem builder_of {T e : TypeId} {B b : Nat} {bs : List Value} {w w' : World} (h : Lib.IsBuilder T e B b bs w) (hk : ∀ k, B ≤ k → k < w.heap.size → w'.heap[k]? = w.heap[k]?) : Lib.IsBuilder T e B b bs w' := by
  have key : ∀ p, Lib.BuilderAt T e B b p bs w → Lib.BuilderAt T e B b p bs w' := by
    intro p hp
    have hlt := hp.lt
    obtain ⟨hB, v, hb, hown, hne⟩ := hp
    refine ⟨hB, v, (hk b hB hlt).trans hb, ⟨hown.1, ?_⟩, hne⟩
    rcases hown.2 with h0 | ⟨g, cap, cur, hv, hg, hh, hr⟩
    · exact .inl h0
    · refine .inr ⟨g, cap, cur, hv, hg, (hk g hg ?_).trans hh, hr⟩
      rcases Nat.lt_or_ge g w.heap.size with hl | hl
      · exact hl
      · rw [Array.getElem?_eq_none hl] at hh; cases hh
  rcases h with h | h
  · exact .inl (key _ h)
  · exact .inr (key _ h)
theorem builder_keep {T e : TypeId} {B b : Nat} {bs : List Value} {w w' : World} (h : Lib.IsBuilder T e B b bs w) (hb : Below w.heap.size w w') : Lib.IsBuilder T e B b bs w' := builder_of h fun k _ hk => hb.block k hk
theorem builder_put2 {T e : TypeId} {B b : Nat} {bs : List Value} {w : World} (h : Lib.IsBuilder T e B b bs w) {g : Nat} (hg : g < B) (u v : Value) : Lib.IsBuilder T e B b bs ((w.setCell ⟨g, 0, none⟩ u).setCell ⟨g, 1, none⟩ v) :=
  builder_of h fun k hk _ => (Below.heap_setCell _ ⟨g, 1, none⟩ _ k (by simp; omega)).trans (Below.heap_setCell _ ⟨g, 0, none⟩ _ k (by simp; omega))

theorem builder_drew {T e : TypeId} {B b : Nat} {bs : List Value} {w : World} (h : Lib.IsBuilder T e B b bs w) : Lib.IsBuilder T e B b bs w.drew := builder_of h fun _ _ _ => rfl
theorem Blk.drew {w : World} {g : Nat} {t : TypeId} {cs : List Value} (h : Blk w g t cs) : Blk w.drew g t cs := h

/-- What a reading of bytes answers. -/
def ByRet (s : ByteArray) (a : Nat) (n : Int) (w : World) (e : Ending) (w' : World) : Prop :=
  ∃ (l : List UInt8) (z c : Nat), byT s.data.toList a n = (l, z, c) ∧ e = .returned (.tuple #[.string ⟨l.toArray⟩, .agg #[.string s, .int .i64 (z : Int)], .int .i64 (c : Int)]) ∧ Below w.heap.size w w'

theorem byT_range {l : List UInt8} {a : Nat} {n : Int} (h : n < 0) : byT l a n = ([], a, 5) := by unfold byT; rw [if_pos h]
theorem byT_short {l : List UInt8} {a b : Nat} {n : Int} (h0 : 0 ≤ n) (hb : 8 * l.length = a + b) (h : ((b / 8 : Nat) : Int) < n) : byT l a n = ([], a, 6) := by
  unfold byT; rw [if_neg (by omega), if_pos (by omega)]
theorem byT_ok {l : List UInt8} {a n : Nat} (hb : a + 8 * n ≤ 8 * l.length) : byT l a (n : Int) = (bytL l a n, a + 8 * n, 0) := by
  unfold byT; rw [if_neg (by omega), if_neg (by omega), Int.toNat_natCast]
theorem byteCells_snoc (l : List UInt8) (v : Nat) (h : v < 256) : Lib.byteCells (l ++ [UInt8.ofNat v]) = Lib.byteCells l ++ [.int .u8 (v : Int)] := by
  simp [Lib.byteCells, Nat.mod_eq_of_lt h]

set_option maxHeartbeats 4000000 in
set_option maxRecDepth 100000 in
theorem tape_Bytes (s : ByteArray) (a : Nat) (n : Int) (w : World) (hs : (s.size : Int) ≤ 1000000) (ha : a ≤ 8 * s.size) (hn0 : -9223372036854775808 ≤ n) (hn1 : n ≤ 9223372036854775807) :
    Calls Try.prog 12 #[.agg #[.string s, .int .i64 (a : Int)], .int .i64 n] w (ByRet s a n w) := by
  by_cases hlo : n < 0
  · have HR := Lib.hid (byT_range (l := s.data.toList) (a := a) hlo)
    go_enter Try.func12, Try.ntmps12
    go_wp2_with fail
    go_region
    all_goals go_wp2_with fail
    all_goals refine bodyPost_ret (v := .tuple #[.string ⟨#[]⟩, .agg #[.string s, .int .i64 (a : Int)], .int .i64 5]) (by simp [results, Try.results12, go_sem]) rfl ⟨[], a, 5, HR.out, rfl, ?_⟩
    all_goals exact (((Below.refl _ _).alloc (Nat.le_refl _) _).alloc (hz1 _ _) _).drew
  · obtain ⟨b, hb⟩ : ∃ b, 8 * s.size = a + b := ⟨8 * s.size - a, by omega⟩
    obtain ⟨m, rfl⟩ : ∃ m : Nat, n = (m : Int) := ⟨n.toNat, by omega⟩
    obtain ⟨q, hq⟩ : ∃ q, q = b / 8 := ⟨_, rfl⟩
    have hqi : (b : Int) / 8 = (q : Int) := by omega
    have hqb : (q : Int) ≤ 1000000 := by omega
    have hbb : (b : Int) ≤ 8000000 := by omega
    have HL := Lib.hid (fun W => tape_Left s a b W hs hb)
    have X0 := Lib.hid ((TBox.new 25 w s a).alloc (.cells #[.string ⟨#[]⟩, .int .i64 0] 25))
    have Y0 := TBox.new 25 (w.alloc (.cells #[.string s, .int .i64 (a : Int)] 25)) ⟨#[]⟩ 0
    rw [show (w.alloc (.cells #[.string s, .int .i64 (a : Int)] 25)).heap.size = w.heap.size + 1 from by simp] at Y0
    have Y0 := Lib.hid Y0
    have B0 := Lib.hid (((Below.refl w.heap.size w).alloc (Nat.le_refl _) (.cells #[.string s, .int .i64 (a : Int)] 25)).alloc (hz1 _ _) (.cells #[.string ⟨#[]⟩, .int .i64 0] 25))
    have HB := Lib.hid hb
    have HQ := Lib.hid hq
    by_cases hbm : q < m
    · have HR := Lib.hid (byT_short (l := s.data.toList) (a := a) (b := b) (n := (m : Int)) (by omega) (by rw [dlen]; exact hb) (by omega))
      have hd : decide ((q : Int) < (m : Int)) = true := decide_eq_true (by omega)
      clear hb hlo hq
      go_enter Try.func12, Try.ntmps12
      go_wp2_with fail
      refine (HL.out _).mono ?_
      rintro e w1 ⟨rfl, hb1⟩
      have X1 := Lib.hid (X0.out.keep hb1)
      have Y1 := Lib.hid (Y0.out.keep hb1)
      have B1 := Lib.hid (keepB B0.out hb1)
      obtain ⟨c0, c1⟩ := X1.out.cells
      obtain ⟨d0, d1⟩ := Y1.out.cells
      obtain ⟨f0, f1⟩ := Y1.out.fz
      clear hb1 X0 Y0 B0
      go_wp2_with fail
      go_region
      all_goals go_wp2_with fail
      all_goals refine bodyPost_ret (v := .tuple #[.string ⟨#[]⟩, .agg #[.string s, .int .i64 (a : Int)], .int .i64 6]) (by simp [results, Try.results12, go_sem, d0, d1]) rfl ⟨[], a, 6, HR.out, rfl, ?_⟩
      all_goals exact Below.drew (Below.put2 B1.out (Nat.le_succ _) _ _)
    · have HA : Hid (a + 8 * m ≤ 8 * s.size) := Lib.hid (by omega)
      have HR : Hid (byT s.data.toList a (m : Int) = (bytL s.data.toList a m, a + 8 * m, 0)) := Lib.hid (byT_ok (by rw [dlen]; exact HA.out))
      have hbm' : (m : Int) ≤ (q : Int) := by omega
      have hmb : (m : Int) ≤ 1000000 := by omega
      clear hb hlo hbm hq
      go_enter Try.func12, Try.ntmps12
      go_wp2_with fail
      refine (HL.out _).mono ?_
      rintro e w1 ⟨rfl, hb1⟩
      have X1 := Lib.hid (X0.out.keep hb1)
      have Y1 := Lib.hid (Y0.out.keep hb1)
      have B1 := Lib.hid (keepB B0.out hb1)
      obtain ⟨c0, c1⟩ := X1.out.cells
      clear hb1 X0 Y0 B0
      go_wp2_with fail
      refine (Try.Builder_Grow_fresh w1.heap.size w1.heap.size m _ (Nat.le_refl _) (heap_alloc_new w1 _) (hz1 _ _) (by omega)).mono ?_
      rintro e w2 ⟨rfl, hI, hb2⟩
      have G2 : Hid (Below w1.heap.size w1 w2) := Lib.hid (((Below.refl _ _).alloc (Nat.le_refl _) _).trans hb2)
      have X2 := Lib.hid (X1.out.keep G2.out)
      have Y2 := Lib.hid (Y1.out.keep G2.out)
      have B2 := Lib.hid (keepB B1.out G2.out)
      have I2 : Hid (Lib.IsBuilder 57 5 w1.heap.size w1.heap.size (Lib.byteCells []) w2) := Lib.hid (.inr hI)
      have L2 := Lib.hid G2.out.size
      have XL := Lib.hid X1.out.lt
      have YL := Lib.hid Y1.out.lt
      clear hI hb2 X1 Y1 B1 G2 c0 c1
      go_wp2_with fail
      go_loopw [23] (fun iv wr => ∃ (k x : Nat), iv = .int .i64 k ∧ k ≤ m ∧ Hid (x = a + 8 * k) ∧ Hid (TBox 25 wr w.heap.size s x) ∧ Hid (TBox 25 wr (w.heap.size + 1) ⟨#[]⟩ 0) ∧ Hid (Below w.heap.size w wr) ∧ Hid (w1.heap.size ≤ wr.heap.size) ∧
          Hid (Lib.IsBuilder 57 5 w1.heap.size w1.heap.size (Lib.byteCells (bytL s.data.toList a k)) wr)) (fun iv _ => m - (intOf iv).toNat)
      case atStart => exact ⟨0, a, rfl, Nat.zero_le _, Lib.hid rfl, X2, Y2, B2, L2, I2⟩
      case round =>
        obtain ⟨k, x, rfl, hk, HX, X3, Y3, B3, L3, I3⟩ := hrel
        obtain ⟨c0, c1⟩ := X3.out.cells
        by_cases hlt : k < m
        · obtain ⟨v, hv⟩ : ∃ v, v = numL s.data.toList x 8 := ⟨_, rfl⟩
          obtain ⟨x', hx'⟩ : ∃ x', x' = x + 8 := ⟨_, rfl⟩
          have hv8 : v < 256 := by rw [hv]; exact numL_byte_lt _ _
          have hv8i : IntKind.u8.wrap (v : Int) = (v : Int) := by
            have : (v : Int) % 256 = (v : Int) := by omega
            simpa [IntKind.wrap, IntKind.bits, IntKind.signed] using this
          have HT := Lib.hid (fun W => tape_bits s x 8 v x' W hs (by omega) (by have := HX.out; have := HA.out; omega) (Lib.hid hv) (Lib.hid hx'))
          have HBY : Hid (Lib.byteCells (bytL s.data.toList a (k + 1)) = Lib.byteCells (bytL s.data.toList a k) ++ [.int .u8 (v : Int)]) := Lib.hid (by
            rw [← byteCells_snoc _ _ hv8, hv, HX.out]; rfl)
          have HX' : Hid (x' = a + 8 * (k + 1)) := Lib.hid (by rw [hx', HX.out]; omega)
          have HLN : Hid ((Lib.byteCells (bytL s.data.toList a k)).length + 1 ≤ 140737488355328) := Lib.hid (by rw [Lib.byteCells_length, bytL_len]; omega)
          clear hv hx'
          go_wp2_with fail
          refine (HT.out _).mono ?_
          rintro e w4 ⟨rfl, hb4⟩
          have X4 := Lib.hid (X3.out.keep hb4)
          have Y4 := Lib.hid (Y3.out.keep hb4)
          have B4 := Lib.hid (keepB B3.out hb4)
          have I4 := Lib.hid (builder_keep I3.out hb4)
          have L4 := Lib.hid (Nat.le_trans L3.out hb4.size)
          clear hb4 X3 Y3 B3 I3 c0 c1
          obtain ⟨c0, c1⟩ := X4.out.cells
          obtain ⟨f0, f1⟩ := X4.out.fz
          go_wp2_with fail
          refine (Try.Builder_WriteByte w1.heap.size w1.heap.size _ (v : Int) _ (builder_put2 I4.out XL.out _ _) HLN.out (by simp [World.setCell]; exact L4.out)).mono ?_
          rintro e w5 ⟨rfl, hI, hb5⟩
          have X5 : Hid (TBox 25 w5 w.heap.size s x') := Lib.hid (Blk.below (X4.out.store x') hb5 (Nat.lt_of_lt_of_le XL.out (Nat.le_refl _)))
          have Y5 : Hid (TBox 25 w5 (w.heap.size + 1) ⟨#[]⟩ 0) := Lib.hid (Blk.below (TBox.far (TBox.far Y4.out (by simp) _) (by simp) _) hb5 YL.out)
          have B5 : Hid (Below w.heap.size w w5) := Lib.hid ((Below.put2 B4.out (Nat.le_refl _) _ _).trans (hb5.mono (Nat.le_of_lt XL.out)))
          have L5 : Hid (w1.heap.size ≤ w5.heap.size) := Lib.hid (Nat.le_trans L4.out (by have := hb5.size; simpa [World.setCell] using this))
          have I5 : Hid (Lib.IsBuilder 57 5 w1.heap.size w1.heap.size (Lib.byteCells (bytL s.data.toList a (k + 1))) w5) := Lib.hid (by rw [HBY.out]; exact .inr hI)
          clear hI hb5 X4 Y4 B4 I4 L4 c0 c1 f0 f1
          go_wp2_with fail
          go_roundw
          case rel => exact ⟨k + 1, x', by go_num, by omega, HX', X5, Y5, B5, L5, I5⟩
          case measure => simp [intOf]; omega
        · have hkm : k = m := by omega
          subst hkm
          have HR2 : Hid (byT s.data.toList a (k : Int) = (bytL s.data.toList a k, x, 0)) := Lib.hid (by rw [HX.out]; exact HR.out)
          obtain ⟨l, hl⟩ : ∃ l, l = bytL s.data.toList a k := ⟨_, rfl⟩
          rw [← hl] at I3 HR2
          clear HR hl HX
          obtain ⟨d0, d1⟩ := Y3.out.cells
          obtain ⟨f0, f1⟩ := Y3.out.fz
          go_wp2_with fail
          go_region_with (first
            | (go_at_call 28
               refine (Try.Builder_String_any w1.heap.size w1.heap.size l _ ?_ ?_).mono ?_
               · (first | exact builder_drew I3.out | exact builder_drew (builder_put2 I3.out YL.out _ _))
               · (first | exact L3.out | (simp [World.setCell]; exact L3.out))
               rintro e w6 ⟨rfl, hb6⟩
               have X6 := Lib.hid (Blk.below (Blk.drew X3.out) hb6 XL.out)
               have Y6 := Lib.hid (Blk.below (Blk.drew Y3.out) hb6 YL.out)
               have B6 : Hid (Below w.heap.size w w6) := Lib.hid ((Below.drew B3.out).trans (hb6.mono (Nat.le_of_lt XL.out)))
               obtain ⟨c60, c61⟩ := TBox.cells X6.out
               obtain ⟨d60, d61⟩ := TBox.cells Y6.out
               obtain ⟨f60, f61⟩ := TBox.fz Y6.out
               clear hb6))
          all_goals go_wp2_with fail
          all_goals refine bodyPost_ret (v := .tuple #[.string ⟨l.toArray⟩, .agg #[.string s, .int .i64 (x : Int)], .int .i64 0]) (by simp [results, Try.results12, go_sem, d60, d61]) rfl ⟨l, x, 0, HR2.out, rfl, ?_⟩
          all_goals first | exact Below.put2 B6.out (Nat.le_succ _) _ _ | exact Below.drew (Below.put2 B6.out (Nat.le_succ _) _ _)
end Go.Proofs.Ytcfjgllkpfkhfaa
