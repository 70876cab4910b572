/- What the law of layer 16 asks: the same texts; does a text with records fit what may be there. What came in of the acts of layer 16's law. Does a text with records fit what may be there: the law's fits. -/
import Derived.Test.YtbigpapniloknaaDoorVaY
import Derived.Test.YtbigpapniloknaaDoorSlices0
import Derived.Deep.Slices
import Derived.Deep.Grids
namespace Go.Proofs.YtbigpapniloknaaDoor
open Go.RowKit Go.Maps
set_option maxRecDepth 100000

theorem bs_cmp {x y : List UInt8} : (((bs x).toList != (bs y).toList) = decide (x ≠ y)) ∧ (((bs x).toList == (bs y).toList) = decide (x = y)) := by
  have e : ∀ l : List UInt8, (bs l).toList = l := fun l => ByteArray.toList_mk l
  rw [e, e]
  constructor
  · by_cases h : x = y
    · subst h; simp
    · rw [decide_eq_true h]; simpa using h
  · by_cases h : x = y
    · subst h; simp
    · rw [decide_eq_false h]; simpa using h

set_option maxHeartbeats 8000000 in
theorem va_texts (w : World) (A : Option Addr) (n c : Nat) (A' : Option Addr) (n' c' : Nat) (ls ls' : List (List UInt8)) (h1 : StrC w A n c ls) (h2 : StrC w A' n' c' ls') :
    Calls Tryd.prog 33 #[.slice A n c, .slice A' n' c'] w fun e w' => e = .returned (.bool (decide (ls = ls'))) ∧ Below w.heap.size w w' := by
  have H1 := Lib.hid h1
  have H2 := Lib.hid h2
  have hb : (n : Int) ≤ 9223372036854775807 := by have := h1.2.1; have := h1.2.2.1; omega
  have hl1 := h1.1
  have hl2 := h2.1
  by_cases hn : n = n'
  · subst hn
    have hne : ((n : Int) != (n : Int)) = false := by simp
    have HL := Lib.hid (⟨hl1, hl2⟩ : ls.length = n ∧ ls'.length = n)
    clear h1 h2 hl1 hl2
    go_enter Tryd.func33, Tryd.ntmps33
    go_wp2_with fail
    go_loopw [13] (fun iv wr => ∃ i : Nat, iv = .int .i64 i ∧ i ≤ n ∧ Hid (∀ j, j < i → ls.getD j [] = ls'.getD j []) ∧ Hid (Below w.heap.size w wr)) (fun iv _ => n - (intOf iv).toNat)
    case atStart => exact ⟨0, rfl, Nat.zero_le _, Lib.hid (fun j hj => absurd hj (Nat.not_lt_zero _)), Lib.hid (Below.refl _ _)⟩
    case round =>
      obtain ⟨i, rfl, hi, HE, HB⟩ := hrel
      by_cases hlt : i < n
      · obtain ⟨b1, o1, rfl, l1, q1⟩ := (H1.out.keep HB.out).2.2.2 (by omega)
        obtain ⟨b2, o2, rfl, l2, q2⟩ := (H2.out.keep HB.out).2.2.2 (by omega)
        have c1 := q1 i hlt
        have c2 := q2 i hlt
        obtain ⟨x, hx⟩ : ∃ x, x = ls.getD i [] := ⟨_, rfl⟩
        obtain ⟨y, hy⟩ : ∃ y, y = ls'.getD i [] := ⟨_, rfl⟩
        rw [← hx] at c1
        rw [← hy] at c2
        have hd : decide ((i : Int) < (n : Int)) = true := decide_eq_true (by omega)
        have hd' : decide (i < n) = true := decide_eq_true hlt
        have hiw : IntKind.i64.wrap ((i : Int) + 1) = (i : Int) + 1 := IntWalk.i64_in _ (by omega)
        by_cases hxy : x = y
        · have f1 : ((bs x).toList != (bs y).toList) = false := by rw [bs_cmp.1]; exact decide_eq_false (fun h => h hxy)
          have f2 : ((bs x).toList == (bs y).toList) = true := by rw [bs_cmp.2]; exact decide_eq_true hxy
          have HE2 : Hid (∀ j, j < i + 1 → ls.getD j [] = ls'.getD j []) := Lib.hid (fun j hj => by
            rcases Nat.lt_or_ge j i with q | q
            · exact HE.out j q
            · obtain rfl : j = i := by omega
              rw [← hx, ← hy]; exact hxy)
          clear q1 q2 hx hy hxy
          go_wp2_with fail
          go_quiet (fail)
          go_wp2_with fail
          go_roundw
          case rel => exact ⟨i + 1, by go_num, by omega, HE2, Lib.hid (Below.drewN HB.out _)⟩
          case measure => simp [intOf]; omega
        · have f1 : ((bs x).toList != (bs y).toList) = true := by rw [bs_cmp.1]; exact decide_eq_true hxy
          have f2 : ((bs x).toList == (bs y).toList) = false := by rw [bs_cmp.2]; exact decide_eq_false hxy
          have HNE : Hid (decide (ls = ls') = false) := Lib.hid (decide_eq_false (fun e => hxy (by rw [hx, hy, e])))
          clear q1 q2 hx hy hxy
          go_wp2_with fail
          go_quiet (fail)
          go_wp2_with fail
          go_ret
          rw [HNE.out]
          exact ⟨rfl, Below.drewN HB.out _⟩
      · obtain rfl : i = n := by omega
        have hd : decide ((i : Int) < (i : Int)) = false := decide_eq_false (by omega)
        have hd' : decide (i < i) = false := decide_eq_false (by omega)
        have HEQ : Hid (decide (ls = ls') = true) := Lib.hid (decide_eq_true (List.ext_getElem (by rw [HL.out.1, HL.out.2]) (fun j q1 q2 => by
          have := HE.out j (by rw [← HL.out.1]; exact q1)
          rw [List.getD_eq_getElem?_getD, List.getD_eq_getElem?_getD, List.getElem?_eq_getElem q1, List.getElem?_eq_getElem q2] at this
          exact this)))
        go_wp2_with fail
        go_ret
        rw [HEQ.out]
        exact ⟨rfl, HB.out⟩
  · have hne : ((n : Int) != (n' : Int)) = true := by rw [bne_iff_ne]; omega
    have HNE : Hid (decide (ls = ls') = false) := Lib.hid (decide_eq_false (fun e => hn (by rw [← hl1, ← hl2, e])))
    rw [HNE.out]
    clear h1 h2 hn hl1 hl2
    go_enter Tryd.func33, Tryd.ntmps33
    go_wp2_with fail
    go_ret
    exact ⟨rfl, Below.refl _ _⟩

/-- The row of what may be there: the first with its records, the others with none. -/
def mayC (T0 : List UInt8) (u : Value) (sure : Nat) (more : List (List UInt8)) : List Value :=
  [.string (bs T0), u, .int .i64 (sure : Int)] ++ (more.map fun t => [Value.string (bs t), .slice none 0 0, .int .i64 0]).flatten
theorem flat3 {α : Type} (f : α → List Value) (hf : ∀ x, (f x).length = 3) : ∀ (l : List α) (j : Nat) (h : j < l.length) (i : Nat), i < 3 → ((l.map f).flatten)[j * 3 + i]? = (f l[j])[i]?
  | [], _, h, _, _ => by cases h
  | x :: l, 0, h, i, hi => by
    rw [List.map_cons, List.flatten_cons, Nat.zero_mul, Nat.zero_add, List.getElem?_append_left (by rw [hf]; exact hi)]
    rfl
  | x :: l, j + 1, h, i, hi => by
    rw [List.map_cons, List.flatten_cons, List.getElem?_append_right (by rw [hf]; omega), hf, show (j + 1) * 3 + i - 3 = j * 3 + i by omega, flat3 f hf l j (by simpa using h) i hi]
    rfl
theorem mayC_len (T0 : List UInt8) (u : Value) (sure : Nat) (more : List (List UInt8)) : (mayC T0 u sure more).length = (1 + more.length) * 3 := by
  have e : ∀ l : List (List UInt8), ((l.map fun t => [Value.string (bs t), .slice none 0 0, .int .i64 0]).flatten).length = l.length * 3 := fun l => by
    induction l with
    | nil => rfl
    | cons x l ih => rw [List.map_cons, List.flatten_cons, List.length_append, ih, List.length_cons]; simp; omega
  unfold mayC
  rw [List.length_append, e]
  simp
  omega
theorem mayC_zero (T0 : List UInt8) (u : Value) (sure : Nat) (more : List (List UInt8)) : (mayC T0 u sure more)[0]? = some (.string (bs T0)) ∧ (mayC T0 u sure more)[1]? = some u ∧ (mayC T0 u sure more)[2]? = some (.int .i64 (sure : Int)) := ⟨rfl, rfl, rfl⟩
theorem mayC_more (T0 : List UInt8) (u : Value) (sure : Nat) (more : List (List UInt8)) {j : Nat} (hj : j < more.length) :
    (mayC T0 u sure more)[(j + 1) * 3]? = some (.string (bs (more.getD j []))) ∧ (mayC T0 u sure more)[(j + 1) * 3 + 1]? = some (.slice none 0 0) ∧ (mayC T0 u sure more)[(j + 1) * 3 + 2]? = some (.int .i64 0) := by
  have h : ∀ i, i < 3 → (mayC T0 u sure more)[(j + 1) * 3 + i]? = [Value.string (bs (more.getD j [])), .slice none 0 0, .int .i64 0][i]? := fun i hi => by
    unfold mayC
    rw [List.getElem?_append_right (by simp; omega), show (j + 1) * 3 + i - [Value.string (bs T0), u, Value.int .i64 (sure : Int)].length = j * 3 + i by simp; omega, flat3 _ (fun _ => rfl) more j hj i hi, List.getD_eq_getElem?_getD, List.getElem?_eq_getElem hj]
    rfl
  exact ⟨h 0 (by decide), h 1 (by decide), h 2 (by decide)⟩
theorem mayC_snoc (T0 : List UInt8) (u : Value) (sure : Nat) (more : List (List UInt8)) (t : List UInt8) : mayC T0 u sure (more ++ [t]) = mayC T0 u sure more ++ [.string (bs t), .slice none 0 0, .int .i64 0] := by
  unfold mayC
  rw [List.map_append, List.flatten_append, List.append_assoc]
  rfl
end Go.Proofs.YtbigpapniloknaaDoor

namespace Go.Proofs.YtbigpapniloknaaDoor
open Go.RowKit Go.Deep Go.ChangeShapes Go.WideShapes
set_option maxRecDepth 100000

structure ActV where
  k : Nat
  t : List UInt8
  n : Int
  y : Nat
  K : Option Addr
  kn : Nat
  kc : Nat
  ks : List Bool
instance : Inhabited ActV := ⟨⟨0, [], 0, 0, none, 0, 0, []⟩⟩
def ActV.cells (a : ActV) : List Value := [.int .u8 (a.k : Int), .string (bs a.t), .int .i64 a.n, .int .u8 (a.y : Int), .slice a.K a.kn a.kc]
def ActV.ok (w : World) (a : ActV) : Prop := a.k < 256 ∧ a.t.length ≤ 9223372036854775807 ∧ (-9223372036854775808 ≤ a.n ∧ a.n ≤ 9223372036854775807) ∧ a.y < 256 ∧ KSl w a.K a.kn a.ks ∧ (a.kn : Int) ≤ 9223372036854775807
/-- A slice of acts. -/
def ActsV (w : World) (A : Option Addr) (n : Nat) (l : Nat → ActV) : Prop := 0 < n → ∃ b off, A = some ⟨b, off, none⟩ ∧ ∀ j, j < n → (l j).ok w ∧ ∀ i u, (l j).cells[i]? = some u → w.cell? ⟨b, off + j * 5 + i, none⟩ = some u
theorem KSl.keepV {w w' : World} {A : Option Addr} {n : Nat} {ks : List Bool} (h : KSl w A n ks) (hb : Below w.heap.size w w') : KSl w' A n ks :=
  ⟨h.1, fun hn => by
    obtain ⟨b, off, e, hc⟩ := h.2 hn
    refine ⟨b, off, e, fun j hj => (hb.cell (p := ⟨b, off + j, none⟩) ?_).trans (hc j hj)⟩
    exact block_lt_of_cell (hc j hj)⟩
theorem ActsV.keep {w w' : World} {A : Option Addr} {n : Nat} {l : Nat → ActV} (h : ActsV w A n l) (hb : Below w.heap.size w w') : ActsV w' A n l := fun hn => by
  obtain ⟨b, off, e, hc⟩ := h hn
  refine ⟨b, off, e, fun j hj => ?_⟩
  obtain ⟨⟨o1, o2, o3, o4, o5, o6⟩, q⟩ := hc j hj
  exact ⟨⟨o1, o2, o3, o4, o5.keepV hb, o6⟩, fun i u hu => (hb.cell (p := ⟨b, off + j * 5 + i, none⟩) (block_lt_of_cell (q i u hu))).trans (q i u hu)⟩

theorem actsV_of_trod {H : Type} {enc : TypeId × Value → H} {w : World} {base : Nat} {held : Bool} {fuel : Nat} {u : Value} {x : DataW H × List MemPlace}
    (h : DataW.trod enc Tryd.prog w base (fun _ => true) held fuel 22 [u] = some x) : ∃ A n c l, u = .slice A n c ∧ n ≤ c ∧ c ≤ maxLen ∧ ActsV w A n l := by
  rcases open_slice Tryd.underlying22 h with ⟨hcs, _⟩ | ⟨a, len, cap, m, n, D, Pl, hcs, _, hl, hm, hmm, _, hx⟩
  · injection hcs with e _
    exact ⟨none, 0, 0, default, e, Nat.le_refl _, by simp [maxLen], fun h => absurd h (Nat.lt_irrefl _)⟩
  · injection hcs with e _
    have ce : Tryd.prog.cellsOf 42 = 5 := by kernel_rfl
    have each : ∀ i, i < len → ∃ q : ActV, q.ok w ∧ ∀ k v, q.cells[k]? = some v → w.cell? (a.add (i * 5 + k)) = some v := by
      intro i hi
      have him : i < m := by rw [hmm]; simp; omega
      obtain ⟨cs', h1, h2⟩ := hx i him
      rw [ce] at h1
      obtain ⟨_, hlen, hcell⟩ := World.cells?_some h1
      obtain ⟨xs, k, hk, hxy, _, hxl, hf⟩ := DataW.trod_struct Tryd.underlying42 h2
      match xs, hxl, cs', hlen with
      | [y0, y1, y2, y3, y4], _, [v0, v1, v2, v3, v4], _ =>
        have c5 : Tryd.prog.cellsOf 5 = 1 := by kernel_rfl
        have c9 : Tryd.prog.cellsOf 9 = 1 := by kernel_rfl
        have c3 : Tryd.prog.cellsOf 3 = 1 := by kernel_rfl
        have c33 : Tryd.prog.cellsOf 40 = 1 := by kernel_rfl
        have g0 := hf 0 _ rfl
        have g1 := hf 1 _ rfl
        have g2 := hf 2 _ rfl
        have g3 := hf 3 _ rfl
        have g4 := hf 4 _ rfl
        simp [c5, c9, c3, c33] at g0 g1 g2 g3 g4
        obtain ⟨n0, e0, _, w0⟩ := DataW.trod_int Tryd.underlying5 g0
        obtain ⟨s1, e1, _, w1⟩ := DataW.trod_string Tryd.underlying9 g1
        obtain ⟨n2, e2, _, w2⟩ := DataW.trod_int Tryd.underlying3 g2
        obtain ⟨n3, e3, _, w3⟩ := DataW.trod_int Tryd.underlying5 g3
        obtain ⟨K, kn, kc, ks, e4, k1, k2⟩ := ksl0_of_trod g4
        injection e0 with e0 _
        injection e1 with e1 _
        injection e2 with e2 _
        injection e3 with e3 _
        subst e0 e1 e2 e3 e4
        have b0 := bounds_u8 w0
        have b3 := bounds_u8 w3
        have b2 : -9223372036854775808 ≤ n2 ∧ n2 ≤ 9223372036854775807 := by
          have := bounds_i64 w2
          omega
        have b1 : s1.data.toList.length ≤ 9223372036854775807 := by
          rw [Array.length_toList]
          have : s1.size ≤ maxLen := w1
          unfold maxLen at this
          show s1.size ≤ _
          omega
        refine ⟨⟨n0.toNat, s1.data.toList, n2, n3.toNat, K, kn, kc, ks⟩, ⟨by show n0.toNat < 256; omega, b1, b2, by show n3.toNat < 256; omega, k1, k2⟩, fun k v hv => ?_⟩
        have hk5 : k < 5 := by
          rcases Nat.lt_or_ge k 5 with h | h
          · exact h
          · rw [List.getElem?_eq_none (by show 5 ≤ k; exact h)] at hv; cases hv
        have hc := hcell k hk5
        rw [add_add] at hc
        rw [hc, ← hv]
        unfold ActV.cells
        rw [Int.toNat_of_nonneg b0.1, Int.toNat_of_nonneg b3.1, bs_of s1]
    obtain ⟨l, hl2⟩ := choose_lt each
    refine ⟨some a, len, cap, l, e, hl, hm, fun hp => ?_⟩
    obtain ⟨b, o, spot⟩ := a
    have h0 := (hl2 0 hp).2 0 _ rfl
    have hs : spot = none := by simpa [Addr.add] using World.cell?_spot h0
    subst hs
    refine ⟨b, o, rfl, fun j hj => ⟨(hl2 j hj).1, fun i v hv => ?_⟩⟩
    have := (hl2 j hj).2 i v hv
    rw [add_plain] at this
    rw [Nat.add_assoc]
    exact this
end Go.Proofs.YtbigpapniloknaaDoor

namespace Go.Proofs.YtbigpapniloknaaDoor
open Go.RowKit Go.Maps
set_option maxRecDepth 100000

set_option maxHeartbeats 8000000 in
theorem va_fitsG (w : World) (g cap len : Nat) (Good : Nat → Prop) (tx : List UInt8) (R : Option Addr) (m mc : Nat) (rs : List (List UInt8)) (hr : StrC w R m mc rs) (hlen : len ≤ 100000)
    (hE : ∀ j, j < len → ∃ (X : List UInt8) (A1 : Option Addr) (n1 c1 : Nat) (L1 : List (List UInt8)) (s1 : Nat), w.cell? ⟨g, j * 3, none⟩ = some (.string (bs X)) ∧ w.cell? ⟨g, j * 3 + 1, none⟩ = some (.slice A1 n1 c1) ∧ w.cell? ⟨g, j * 3 + 2, none⟩ = some (.int .i64 (s1 : Int)) ∧ StrC w A1 n1 c1 L1 ∧ (Good j ↔ X = tx ∧ s1 ≤ m ∧ m ≤ n1 ∧ rs = L1.take m))
    (hG : ∃ j, j < len ∧ Good j) :
    Calls Tryd.prog 12 #[.slice (some ⟨g, 0, none⟩) len cap, .string (bs tx), .slice R m mc] w fun e w' => e = .returned (.bool true) ∧ Below w.heap.size w w' := by
  have HR := Lib.hid hr
  have HE := Lib.hid hE
  have HG := Lib.hid hG
  clear hr hE hG
  go_enter Tryd.func12, Tryd.ntmps12
  go_wp2_with fail
  go_loopw [11] (fun iv wr => ∃ j : Nat, iv = .int .i64 j ∧ j ≤ len ∧ Hid (∀ i, i < j → ¬ Good i) ∧ Hid (Below w.heap.size w wr)) (fun iv _ => len - (intOf iv).toNat)
  case atStart => exact ⟨0, rfl, Nat.zero_le _, Lib.hid (fun i hi => absurd hi (Nat.not_lt_zero _)), Lib.hid (Below.refl _ _)⟩
  case round =>
    obtain ⟨j, rfl, hj, HB4, HB⟩ := hrel
    by_cases hlt : j < len
    · obtain ⟨X, A1, n1, c1, L1, s1, q0, q1, q2, q3, q4⟩ := HE.out j hlt
      have hd : decide ((j : Int) < (len : Int)) = true := decide_eq_true (by omega)
      have hd' : decide (j < len) = true := decide_eq_true hlt
      have hiw : IntKind.i64.wrap ((j : Int) + 1) = (j : Int) + 1 := IntWalk.i64_in _ (by omega)
      have k0 : wr.cell? ⟨g, j * 3, none⟩ = some (.string (bs X)) := (HB.out.cell (p := ⟨g, j * 3, none⟩) (block_lt_of_cell q0)).trans q0
      have k1 : wr.cell? ⟨g, j * 3 + 1, none⟩ = some (.slice A1 n1 c1) := (HB.out.cell (p := ⟨g, j * 3 + 1, none⟩) (block_lt_of_cell q1)).trans q1
      have k2 : wr.cell? ⟨g, j * 3 + 2, none⟩ = some (.int .i64 (s1 : Int)) := (HB.out.cell (p := ⟨g, j * 3 + 2, none⟩) (block_lt_of_cell q2)).trans q2
      have HS := Lib.hid q3
      have HGD := Lib.hid q4
      have B2 := Lib.hid (HB.out.alloc HB.out.size (.cells #[.string (bs X), .slice A1 n1 c1, .int .i64 (s1 : Int)] 38))
      have HNX : Hid (¬ Good j → ∀ i, i < j + 1 → ¬ Good i) := Lib.hid (fun hn i hi => by
        rcases Nat.lt_or_ge i j with q | q
        · exact HB4.out i q
        · obtain rfl : i = j := by omega
          exact hn)
      clear q0 q1 q2 q3 q4
      by_cases hX : X = tx
      · have f1 : ((bs X).toList == (bs tx).toList) = true := by rw [bs_cmp.2]; exact decide_eq_true hX
        by_cases h2 : s1 ≤ m
        · have f2 : decide ((s1 : Int) ≤ (m : Int)) = true := decide_eq_true (by omega)
          have f2' : decide (s1 ≤ m) = true := decide_eq_true h2
          by_cases h3 : m ≤ n1
          · have f3 : decide ((m : Int) ≤ (n1 : Int)) = true := decide_eq_true (by omega)
            have f3' : decide (m ≤ n1) = true := decide_eq_true h3
            have hnc := HS.out.2.1
            have hkc : (m : Int) ≤ (c1 : Int) := by omega
            have hkc' : m ≤ c1 := by omega
            have HTX := Lib.hid (fun W (hb : Below w.heap.size w W) => va_texts W R m mc A1 m c1 rs (L1.take m) (HR.out.keep hb) ((HS.out.keep hb).take h3))
            obtain ⟨z, hz⟩ : ∃ z, z = decide (rs = L1.take m) := ⟨_, rfl⟩
            rw [← hz] at HTX
            have HZ := Lib.hid hz
            have HALL : Hid (z = true ↔ Good j) := Lib.hid (by
              rw [hz, HGD.out, decide_eq_true_iff]
              exact ⟨fun q => ⟨hX, h2, h3, q⟩, fun q => q.2.2.2⟩)
            clear hz h2 h3 hX hnc
            go_wp2_with fail
            refine (HTX.out _ B2.out).mono ?_
            rintro e w5 ⟨rfl, b5⟩
            have B5 := Lib.hid (B2.out.trans (b5.mono B2.out.size))
            clear b5 HTX
            cases z with
            | true =>
              go_wp2_with fail
              go_ret
              exact ⟨rfl, B5.out⟩
            | false =>
              go_wp2_with fail
              exact ⟨⟨j + 1, by go_num, by omega, Lib.hid (HNX.out (fun q => by have := HALL.out.2 q; cases this)), B5⟩, by simp [intOf]; omega⟩
          · have f3 : decide ((m : Int) ≤ (n1 : Int)) = false := decide_eq_false (by omega)
            have f3' : decide (m ≤ n1) = false := decide_eq_false h3
            have HN : Hid (¬ Good j) := Lib.hid (fun q => h3 (HGD.out.1 q).2.2.1)
            clear h2 h3 hX
            go_wp2_with fail
            exact ⟨⟨j + 1, by go_num, by omega, Lib.hid (HNX.out HN.out), B2⟩, by simp [intOf]; omega⟩
        · have f2 : decide ((s1 : Int) ≤ (m : Int)) = false := decide_eq_false (by omega)
          have f2' : decide (s1 ≤ m) = false := decide_eq_false h2
          have HN : Hid (¬ Good j) := Lib.hid (fun q => h2 (HGD.out.1 q).2.1)
          clear h2 hX
          go_wp2_with fail
          exact ⟨⟨j + 1, by go_num, by omega, Lib.hid (HNX.out HN.out), B2⟩, by simp [intOf]; omega⟩
      · have f1 : ((bs X).toList == (bs tx).toList) = false := by rw [bs_cmp.2]; exact decide_eq_false hX
        have HN : Hid (¬ Good j) := Lib.hid (fun q => hX (HGD.out.1 q).1)
        clear hX
        go_wp2_with fail
        exact ⟨⟨j + 1, by go_num, by omega, Lib.hid (HNX.out HN.out), B2⟩, by simp [intOf]; omega⟩
    · exfalso
      obtain ⟨i, hi, hg⟩ := HG.out
      exact HB4.out i (by omega) hg

/-- The law's fits, of the row of what may be there. -/
theorem va_fits (w : World) (base : Nat) (mv : Value) (T0 tx : List UInt8) (A : Option Addr) (c : Nat) (all : List (List UInt8)) (sure : Nat) (more : List (List UInt8)) (R : Option Addr) (m mc : Nat) (rs : List (List UInt8))
    (hrow : w.ownsRow base 38 3 mv (1 + more.length) (mayC T0 (.slice A all.length c) sure more)) (hu : StrC w A all.length c all) (hr : StrC w R m mc rs) (hml : more.length ≤ 1000)
    (hfit : (tx = T0 ∧ sure ≤ m ∧ m ≤ all.length ∧ rs = all.take m) ∨ (tx ∈ more ∧ m = 0)) :
    Calls Tryd.prog 12 #[mv, .string (bs tx), .slice R m mc] w fun e w' => e = .returned (.bool true) ∧ Below w.heap.size w w' := by
  obtain ⟨g, cap, rfl, _, _⟩ := hrow.form (by omega)
  have hc : ∀ j, j < (1 + more.length) * 3 → w.cell? ⟨g, j, none⟩ = (mayC T0 (.slice A all.length c) sure more)[j]? := fun j hj => hrow.cellAt j hj
  refine va_fitsG w g cap (1 + more.length) (fun j => if j = 0 then (T0 = tx ∧ sure ≤ m ∧ m ≤ all.length ∧ rs = all.take m) else (more.getD (j - 1) [] = tx ∧ 0 ≤ m ∧ m ≤ 0 ∧ rs = ([] : List (List UInt8)).take m)) tx R m mc rs hr (by omega) (fun j hj => ?_) ?_
  · match j, hj with
    | 0, _ =>
      obtain ⟨e0, e1, e2⟩ := mayC_zero T0 (.slice A all.length c) sure more
      refine ⟨T0, A, all.length, c, all, sure, (hc 0 (by omega)).trans e0, (hc 1 (by omega)).trans e1, (hc 2 (by omega)).trans e2, hu, ?_⟩
      rw [if_pos rfl]
    | j + 1, hj =>
      obtain ⟨e0, e1, e2⟩ := mayC_more T0 (.slice A all.length c) sure more (j := j) (by omega)
      refine ⟨more.getD j [], none, 0, 0, [], 0, (hc _ (by omega)).trans e0, (hc _ (by omega)).trans e1, (hc _ (by omega)).trans e2, ⟨rfl, Nat.le_refl _, by decide, fun h => absurd h (Nat.lt_irrefl _)⟩, ?_⟩
      rw [if_neg (by omega)]
      rfl
  · rcases hfit with ⟨q1, q2, q3, q4⟩ | ⟨q1, q2⟩
    · exact ⟨0, by omega, by rw [if_pos rfl]; exact ⟨q1.symm, q2, q3, q4⟩⟩
    · obtain ⟨j, hj, e⟩ := List.mem_iff_getElem.1 q1
      refine ⟨j + 1, by omega, ?_⟩
      rw [if_neg (by omega)]
      subst q2
      refine ⟨?_, Nat.le_refl _, Nat.le_refl _, List.eq_nil_of_length_eq_zero hr.1⟩
      show more.getD j [] = tx
      rw [List.getD_eq_getElem?_getD, List.getElem?_eq_getElem hj, e]
      rfl
end Go.Proofs.YtbigpapniloknaaDoor
