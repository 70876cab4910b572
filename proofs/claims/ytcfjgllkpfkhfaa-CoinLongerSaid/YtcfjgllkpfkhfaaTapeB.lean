/- Contracts of tape's bits and Read. -/
import Derived.Test.YtcfjgllkpfkhfaaTapeA
namespace Go.Proofs.Ytcfjgllkpfkhfaa
open Go.RowKit

/-- A tape's box. -/
def TBox (T : TypeId) (w : World) (g : Nat) (s : ByteArray) (a : Nat) : Prop := Blk w g T [.string s, .int .i64 (a : Int)]
section
variable {T : TypeId} {w w' : World} {g : Nat} {s : ByteArray} {a : Nat}
theorem TBox.keep (h : TBox T w g s a) (hb : Below w.heap.size w w') : TBox T w' g s a := Blk.keep h hb
theorem TBox.cells (h : TBox T w g s a) : w.cell? ⟨g, 0, none⟩ = some (.string s) ∧ w.cell? ⟨g, 1, none⟩ = some (.int .i64 (a : Int)) := ⟨Blk.cell h 0, Blk.cell h 1⟩
theorem TBox.fz (h : TBox T w g s a) : w.frozen? ⟨g, 0, none⟩ = false ∧ w.frozen? ⟨g, 1, none⟩ = false := ⟨Blk.frozen h 0, Blk.frozen h 1⟩
theorem TBox.lt (h : TBox T w g s a) : g < w.heap.size := Blk.lt h
theorem TBox.new (T : TypeId) (w : World) (s : ByteArray) (a : Nat) : TBox T (w.alloc (.cells #[.string s, .int .i64 (a : Int)] T)) w.heap.size s a := heap_alloc_new w _
theorem TBox.alloc (h : TBox T w g s a) (o : Obj) : TBox T (w.alloc o) g s a := Blk.alloc h o
theorem TBox.store (h : TBox T w g s a) (a' : Nat) : TBox T ((w.setCell ⟨g, 0, none⟩ (.string s)).setCell ⟨g, 1, none⟩ (.int .i64 (a' : Int))) g s a' := by
  have := (Blk.set_ (Blk.set_ h 0 (.string s)) 1 (.int .i64 (a' : Int)))
  exact this
theorem TBox.store2 (h : TBox T w g s a) (s' : ByteArray) (a' : Nat) : TBox T ((w.setCell ⟨g, 0, none⟩ (.string s')).setCell ⟨g, 1, none⟩ (.int .i64 (a' : Int))) g s' a' := by
  have := (Blk.set_ (Blk.set_ h 0 (.string s')) 1 (.int .i64 (a' : Int)))
  exact this
theorem TBox.far (h : TBox T w g s a) {p : Addr} (hp : g ≠ p.block) (u : Value) : TBox T (w.setCell p u) g s a := Blk.far h hp u
theorem Below.put2 {B g : Nat} (h : Below B w w') (hg : B ≤ g) (u v : Value) : Below B w ((w'.setCell ⟨g, 0, none⟩ u).setCell ⟨g, 1, none⟩ v) := (h.setCell (p := ⟨g, 0, none⟩) hg u).setCell (p := ⟨g, 1, none⟩) hg v
end
theorem keepB {w w1 w2 : World} (h : Below w.heap.size w w1) (k : Below w1.heap.size w1 w2) : Below w.heap.size w w2 := h.trans (k.mono h.size)

set_option maxHeartbeats 4000000 in
set_option maxRecDepth 100000 in
theorem tape_bits (s : ByteArray) (a n v z : Nat) (w : World) (hs : (s.size : Int) ≤ 1000000) (hn : n ≤ 64) (ha : a + n ≤ 8 * s.size) (hv : Hid (v = numL s.data.toList a n)) (hz : Hid (z = a + n)) :
    Calls Try.prog 26 #[.agg #[.string s, .int .i64 (a : Int)], .int .i64 (n : Int)] w fun e w' =>
      e = .returned (.tuple #[.int .u64 (v : Int), .agg #[.string s, .int .i64 (z : Int)]]) ∧ Below w.heap.size w w' := by
  obtain ⟨r, hr⟩ : ∃ r, r = a % 8 := ⟨_, rfl⟩
  have hri : (a : Int) % 8 = (r : Int) := by omega
  have hrw : IntKind.i64.wrap (8 - (r : Int)) = ((8 - r : Nat) : Int) := by rw [IntWalk.i64_in _ (by omega)]; omega
  have HR := Lib.hid hr
  have hr8 : r < 8 := by omega
  clear hr
  by_cases h0 : 0 < r
  · obtain ⟨k, hk⟩ : ∃ k, k = min n (8 - r) := ⟨_, rfl⟩
    obtain ⟨n1, hn1⟩ : ∃ n1, n1 = n - k := ⟨_, rfl⟩
    obtain ⟨a1, ha1⟩ : ∃ a1, a1 = a + k := ⟨_, rfl⟩
    obtain ⟨v1, hv1⟩ : ∃ v1, v1 = numL s.data.toList a k := ⟨_, rfl⟩
    have hT := fun W => tape_take s a 0 n (8 - r) k v1 a1 n1 W hs hk hn (by omega) (by have := HR.out; omega) (by omega) (Nat.two_pow_pos _) (by rw [hv1]; omega) ha1 hn1
    have HT := Lib.hid hT
    have HV1 := Lib.hid hv1
    have HA1 := Lib.hid ha1
    have HN1 : Hid (k + n1 = n) := Lib.hid (by omega)
    have HE1 : Hid (n1 = 0 ∨ a1 % 8 = 0) := Lib.hid (by have := HR.out; omega)
    have hn164 : n1 ≤ 64 := by omega
    clear hk hT hn1 ha1 hv1
    go_enter Try.func26, Try.ntmps26
    go_wp2_with fail
    refine (HT.out _).mono ?_
    rintro e w1 ⟨rfl, hb⟩
    have X1 := Lib.hid (((TBox.new 25 w s a).alloc (.cells #[.string ⟨#[]⟩, .int .i64 0] 25)).keep hb)
    have Y0 := TBox.new 25 (w.alloc (.cells #[.string s, .int .i64 (a : Int)] 25)) ⟨#[]⟩ 0
    rw [show (w.alloc (.cells #[.string s, .int .i64 (a : Int)] 25)).heap.size = w.heap.size + 1 from by simp] at Y0
    have Y1 := Lib.hid (Y0.keep hb)
    have B1 := Lib.hid (keepB (((Below.refl _ _).alloc (Nat.le_refl _) _).alloc (hz1 _ _) _) hb)
    obtain ⟨c0, c1⟩ := X1.out.cells
    obtain ⟨z0, z1⟩ := X1.out.fz
    clear hb Y0
    go_wp2_with fail
    go_loopw [1, 6] (fun nv vv wr => ∃ (m q x y : Nat), nv = .int .i64 q ∧ vv = .int .u64 x ∧ q ≤ 64 ∧ Hid (m + q = n) ∧ Hid (x = numL s.data.toList a m) ∧ Hid (y = a + m) ∧ Hid (q = 0 ∨ y % 8 = 0) ∧ TBox 25 wr w.heap.size s y ∧ TBox 25 wr (w.heap.size + 1) ⟨#[]⟩ 0 ∧ Below w.heap.size w wr) (fun nv _ _ => (intOf nv).toNat)
    case atStart => exact ⟨k, n1, v1, a1, rfl, rfl, hn164, HN1, HV1, HA1, HE1, X1.out.store _, (Y1.out.far (by simp) _).far (by simp) _, Below.put2 B1.out (Nat.le_refl _) _ _⟩
    case round =>
      obtain ⟨m, q, x, y, rfl, rfl, hq64, HM, HX, HY, HE, hX, hY, hB⟩ := hrel
      have XS := Lib.hid hX
      have YS := Lib.hid hY
      have BS := Lib.hid hB
      obtain ⟨c20, c21⟩ := XS.out.cells
      obtain ⟨z20, z21⟩ := XS.out.fz
      clear hX hY hB
      by_cases h8 : 8 ≤ q
      · obtain ⟨x', hx'⟩ : ∃ x', x' = numL s.data.toList a (m + 8) := ⟨_, rfl⟩
        obtain ⟨y', hy'⟩ : ∃ y', y' = y + 8 := ⟨_, rfl⟩
        obtain ⟨q', hq'⟩ : ∃ q', q' = q - 8 := ⟨_, rfl⟩
        have HT8 : Hid (∀ W : World, Calls Try.prog 34 #[.agg #[.string s, .int .i64 (y : Int)], .int .u64 (x : Int), .int .i64 (q : Int), .int .i64 (8 : Nat)] W fun e w' =>
            e = .returned (.tuple #[.int .u64 (x' : Int), .agg #[.string s, .int .i64 (y' : Int)], .int .i64 (q' : Int)]) ∧ Below W.heap.size W w') := Lib.hid (fun W => by
          have h1 := HM.out
          have h2 := HX.out
          have h3 := HY.out
          have h4 := HE.out
          exact tape_take s y x q 8 8 x' y' q' W hs (by omega) (by omega) (by omega) (by omega) (by omega) (by rw [h2]; exact Nat.lt_of_lt_of_le (numL_lt _ _ _) (Nat.pow_le_pow_right (by omega) (by omega))) (by rw [hx', h2, h3, numL_add]) hy' hq')
        have HX' := Lib.hid hx'
        have HY' : Hid (y' = a + (m + 8)) := Lib.hid (by have := HY.out; omega)
        have HM' : Hid (m + 8 + q' = n) := Lib.hid (by have := HM.out; omega)
        have HE' : Hid (q' = 0 ∨ y' % 8 = 0) := Lib.hid (by have := HE.out; omega)
        have hlt : q' < q := by omega
        have hq64' : q' ≤ 64 := by omega
        clear hx' hy' hq'
        go_wp2_with fail
        refine (HT8.out _).mono ?_
        rintro e w3 ⟨rfl, hb3⟩
        have X3 := Lib.hid (XS.out.keep hb3)
        have Y3 := Lib.hid (YS.out.keep hb3)
        have B3 := Lib.hid (keepB BS.out hb3)
        obtain ⟨c30, c31⟩ := X3.out.cells
        obtain ⟨z30, z31⟩ := X3.out.fz
        clear hb3 XS YS BS
        go_wp2_with fail
        go_roundw
        case rel => exact ⟨m + 8, q', x', y', rfl, rfl, hq64', HM', HX', HY', HE', X3.out.store _, (Y3.out.far (by simp) _).far (by simp) _, Below.put2 B3.out (Nat.le_refl _) _ _⟩
        case measure => simp [intOf]; omega
      · have HZ : Hid (q < 8) := Lib.hid (by omega)
        have HTL : Hid (∀ W : World, Calls Try.prog 34 #[.agg #[.string s, .int .i64 (y : Int)], .int .u64 (x : Int), .int .i64 (q : Int), .int .i64 (q : Int)] W fun e w' =>
            e = .returned (.tuple #[.int .u64 (v : Int), .agg #[.string s, .int .i64 (z : Int)], .int .i64 0]) ∧ Below W.heap.size W w') := Lib.hid (fun W => by
          have h1 := HM.out
          have h2 := HX.out
          have h3 := HY.out
          have h4 := HE.out
          exact tape_take s y x q q q v z 0 W hs (by omega) (by omega) (by omega) (by omega) (by omega) (by rw [h2]; exact Nat.lt_of_lt_of_le (numL_lt _ _ _) (Nat.pow_le_pow_right (by omega) (by omega))) (by rw [hv.out, h2, h3, ← h1, numL_add]) (by have := hz.out; omega) (by omega))
        go_wp2_with fail
        refine (HTL.out _).mono ?_
        rintro e w4 ⟨rfl, hb4⟩
        have X4 := Lib.hid (XS.out.keep hb4)
        have Y4 := Lib.hid (YS.out.keep hb4)
        have B4 := Lib.hid (keepB BS.out hb4)
        obtain ⟨c40, c41⟩ := X4.out.cells
        obtain ⟨z40, z41⟩ := X4.out.fz
        obtain ⟨d40, d41⟩ := Y4.out.cells
        obtain ⟨f40, f41⟩ := Y4.out.fz
        clear hb4 XS YS BS
        go_wp2_with fail
        go_region
        all_goals go_wp2_with fail
        all_goals refine bodyPost_ret (v := .tuple #[.int .u64 (v : Int), .agg #[.string s, .int .i64 (z : Int)]]) (by simp [results, Try.results26, go_sem, d40, d41]) rfl ⟨rfl, ?_⟩
        all_goals exact Below.drew (Below.put2 (Below.put2 B4.out (Nat.le_refl _) _ _) (Nat.le_succ _) _ _)

  · have hr0 : r = 0 := by omega
    subst hr0
    have hri0 : (a : Int) % 8 = 0 := by omega
    clear hri hrw
    by_cases hn8 : 8 ≤ n
    · have hd8 : decide ((8 : Int) ≤ (n : Int)) = true := decide_eq_true (by omega)
      go_enter Try.func26, Try.ntmps26
      go_wp2_with fail
      have HRI := Lib.hid hri0
      clear hri0
      go_loopw [1, 6] (fun nv vv wr => ∃ (m q x y : Nat), nv = .int .i64 q ∧ vv = .int .u64 x ∧ q ≤ 64 ∧ Hid (m + q = n) ∧ Hid (x = numL s.data.toList a m) ∧ Hid (y = a + m) ∧ Hid (q = 0 ∨ y % 8 = 0) ∧ TBox 25 wr w.heap.size s y ∧ TBox 25 wr (w.heap.size + 1) ⟨#[]⟩ 0 ∧ Below w.heap.size w wr) (fun nv _ _ => (intOf nv).toNat)
      case atStart =>
        refine ⟨0, n, 0, a, rfl, rfl, hn, Lib.hid (by omega), Lib.hid rfl, Lib.hid rfl, Lib.hid (by have := HR.out; omega), (TBox.new 25 w s a).alloc _, ?_, ((Below.refl _ _).alloc (Nat.le_refl _) _).alloc (hz1 _ _) _⟩
        have Y0 := TBox.new 25 (w.alloc (.cells #[.string s, .int .i64 (a : Int)] 25)) ⟨#[]⟩ 0
        rw [show (w.alloc (.cells #[.string s, .int .i64 (a : Int)] 25)).heap.size = w.heap.size + 1 from by simp] at Y0
        exact Y0
      case round =>
        obtain ⟨m, q, x, y, rfl, rfl, hq64, HM, HX, HY, HE, hX, hY, hB⟩ := hrel
        have XS := Lib.hid hX
        have YS := Lib.hid hY
        have BS := Lib.hid hB
        obtain ⟨c20, c21⟩ := XS.out.cells
        obtain ⟨z20, z21⟩ := XS.out.fz
        clear hX hY hB
        by_cases h8 : 8 ≤ q
        · obtain ⟨x', hx'⟩ : ∃ x', x' = numL s.data.toList a (m + 8) := ⟨_, rfl⟩
          obtain ⟨y', hy'⟩ : ∃ y', y' = y + 8 := ⟨_, rfl⟩
          obtain ⟨q', hq'⟩ : ∃ q', q' = q - 8 := ⟨_, rfl⟩
          have HT8 : Hid (∀ W : World, Calls Try.prog 34 #[.agg #[.string s, .int .i64 (y : Int)], .int .u64 (x : Int), .int .i64 (q : Int), .int .i64 (8 : Nat)] W fun e w' =>
              e = .returned (.tuple #[.int .u64 (x' : Int), .agg #[.string s, .int .i64 (y' : Int)], .int .i64 (q' : Int)]) ∧ Below W.heap.size W w') := Lib.hid (fun W => by
            have h1 := HM.out
            have h2 := HX.out
            have h3 := HY.out
            have h4 := HE.out
            exact tape_take s y x q 8 8 x' y' q' W hs (by omega) (by omega) (by omega) (by omega) (by omega) (by rw [h2]; exact Nat.lt_of_lt_of_le (numL_lt _ _ _) (Nat.pow_le_pow_right (by omega) (by omega))) (by rw [hx', h2, h3, numL_add]) hy' hq')
          have HX' := Lib.hid hx'
          have HY' : Hid (y' = a + (m + 8)) := Lib.hid (by have := HY.out; omega)
          have HM' : Hid (m + 8 + q' = n) := Lib.hid (by have := HM.out; omega)
          have HE' : Hid (q' = 0 ∨ y' % 8 = 0) := Lib.hid (by have := HE.out; omega)
          have hlt : q' < q := by omega
          have hq64' : q' ≤ 64 := by omega
          clear hx' hy' hq'
          go_wp2_with fail
          refine (HT8.out _).mono ?_
          rintro e w3 ⟨rfl, hb3⟩
          have X3 := Lib.hid (XS.out.keep hb3)
          have Y3 := Lib.hid (YS.out.keep hb3)
          have B3 := Lib.hid (keepB BS.out hb3)
          obtain ⟨c30, c31⟩ := X3.out.cells
          obtain ⟨z30, z31⟩ := X3.out.fz
          clear hb3 XS YS BS
          go_wp2_with fail
          go_roundw
          case rel => exact ⟨m + 8, q', x', y', rfl, rfl, hq64', HM', HX', HY', HE', X3.out.store _, (Y3.out.far (by simp) _).far (by simp) _, Below.put2 B3.out (Nat.le_refl _) _ _⟩
          case measure => simp [intOf]; omega
        · have HZ : Hid (q < 8) := Lib.hid (by omega)
          have HTL : Hid (∀ W : World, Calls Try.prog 34 #[.agg #[.string s, .int .i64 (y : Int)], .int .u64 (x : Int), .int .i64 (q : Int), .int .i64 (q : Int)] W fun e w' =>
              e = .returned (.tuple #[.int .u64 (v : Int), .agg #[.string s, .int .i64 (z : Int)], .int .i64 0]) ∧ Below W.heap.size W w') := Lib.hid (fun W => by
            have h1 := HM.out
            have h2 := HX.out
            have h3 := HY.out
            have h4 := HE.out
            exact tape_take s y x q q q v z 0 W hs (by omega) (by omega) (by omega) (by omega) (by omega) (by rw [h2]; exact Nat.lt_of_lt_of_le (numL_lt _ _ _) (Nat.pow_le_pow_right (by omega) (by omega))) (by rw [hv.out, h2, h3, ← h1, numL_add]) (by have := hz.out; omega) (by omega))
          go_wp2_with fail
          refine (HTL.out _).mono ?_
          rintro e w4 ⟨rfl, hb4⟩
          have X4 := Lib.hid (XS.out.keep hb4)
          have Y4 := Lib.hid (YS.out.keep hb4)
          have B4 := Lib.hid (keepB BS.out hb4)
          obtain ⟨c40, c41⟩ := X4.out.cells
          obtain ⟨z40, z41⟩ := X4.out.fz
          obtain ⟨d40, d41⟩ := Y4.out.cells
          obtain ⟨f40, f41⟩ := Y4.out.fz
          clear hb4 XS YS BS
          go_wp2_with fail
          go_region
          all_goals go_wp2_with fail
          all_goals refine bodyPost_ret (v := .tuple #[.int .u64 (v : Int), .agg #[.string s, .int .i64 (z : Int)]]) (by simp [results, Try.results26, go_sem, d40, d41]) rfl ⟨rfl, ?_⟩
          all_goals exact Below.drew (Below.put2 (Below.put2 B4.out (Nat.le_refl _) _ _) (Nat.le_succ _) _ _)

    · have XS := Lib.hid ((TBox.new 25 w s a).alloc (.cells #[.string ⟨#[]⟩, .int .i64 0] 25))
      have Y0 := TBox.new 25 (w.alloc (.cells #[.string s, .int .i64 (a : Int)] 25)) ⟨#[]⟩ 0
      rw [show (w.alloc (.cells #[.string s, .int .i64 (a : Int)] 25)).heap.size = w.heap.size + 1 from by simp] at Y0
      have YS := Lib.hid Y0
      have BS := Lib.hid (((Below.refl w.heap.size w).alloc (Nat.le_refl _) (.cells #[.string s, .int .i64 (a : Int)] 25)).alloc (hz1 _ _) (.cells #[.string ⟨#[]⟩, .int .i64 0] 25))
      have HTL := Lib.hid (fun W => tape_take s a 0 n n n v z 0 W hs (by omega) (by omega) (by omega) (by have := HR.out; omega) (by omega) (Nat.two_pow_pos _) (by have := hv.out; omega) hz.out (by omega))
      clear Y0
      go_enter Try.func26, Try.ntmps26
      go_wp2_with fail
      refine (HTL.out _).mono ?_
      rintro e w4 ⟨rfl, hb4⟩
      have X4 := Lib.hid (XS.out.keep hb4)
      have Y4 := Lib.hid (YS.out.keep hb4)
      have B4 := Lib.hid (keepB BS.out hb4)
      obtain ⟨c40, c41⟩ := X4.out.cells
      obtain ⟨z40, z41⟩ := X4.out.fz
      obtain ⟨d40, d41⟩ := Y4.out.cells
      obtain ⟨f40, f41⟩ := Y4.out.fz
      clear hb4 XS YS BS
      go_wp2_with fail
      go_region
      all_goals go_wp2_with fail
      all_goals refine bodyPost_ret (v := .tuple #[.int .u64 (v : Int), .agg #[.string s, .int .i64 (z : Int)]]) (by simp [results, Try.results26, go_sem, d40, d41]) rfl ⟨rfl, ?_⟩
      all_goals exact Below.drew (Below.put2 (Below.put2 B4.out (Nat.le_refl _) _ _) (Nat.le_succ _) _ _)

end Go.Proofs.Ytcfjgllkpfkhfaa
