/- A store of a whole sector; what a sync and a crash leave; contracts of Sync and Crash. -/
import Derived.Test.YtbigpapniloknaaDoorJDsk
import Derived.Deep.RegionHeld3
namespace Go.Proofs.YtbigpapniloknaaDoor
open Go.RowKit Go.Maps Go.ChangeMaps Go.MapKept

theorem setCells_cons (w : World) (g o : Nat) (v : Value) (r : List Value) : w.setCells g o (v :: r) = (w.setCell ⟨g, o, none⟩ v).setCells g (o + 1) r := rfl
theorem Blk.cell0' {w : World} {g t : Nat} {v : Value} {r : List Value} (h : Blk w g t (v :: r)) : w.cell? ⟨g, 0, none⟩ = some v := h.cell 0
theorem heap_setCells (g : Nat) : ∀ (vs : List Value) (o : Nat) (w : World) (k : Nat), k ≠ g → (w.setCells g o vs).heap[k]? = w.heap[k]?
  | [], _, _, _, _ => rfl
  | v :: r, o, w, k, h => by
    rw [setCells_cons, heap_setCells g r (o + 1) _ k h]
    exact Below.heap_setCell w ⟨g, o, none⟩ v k h
theorem size_setCells (g : Nat) : ∀ (vs : List Value) (o : Nat) (w : World), (w.setCells g o vs).heap.size = w.heap.size
  | [], _, _ => rfl
  | v :: r, o, w => by
    rw [setCells_cons, size_setCells g r (o + 1)]
    simp [World.setCell]
theorem Below.setCells {B g : Nat} {a w : World} (h : Below B a w) (hg : B ≤ g) : ∀ (vs : List Value) (o : Nat), Below B a (w.setCells g o vs) := fun vs => by
  induction vs generalizing w with
  | nil => intro o; exact h
  | cons v r ih => intro o; rw [setCells_cons]; exact ih (h.setCell (p := ⟨g, o, none⟩) hg v) (o + 1)
theorem Blk.setCells {w : World} {g t : Nat} (vs old : List Value) (hl : old.length = vs.length) : ∀ (a b : List Value), Blk w g t (a ++ (old ++ b)) → Blk (w.setCells g a.length vs) g t (a ++ (vs ++ b)) := by
  induction vs generalizing w old with
  | nil =>
    intro a b h
    have : old = [] := List.eq_nil_of_length_eq_zero hl
    subst this
    exact h
  | cons v r ih =>
    intro a b h
    match old, hl with
    | o1 :: old', hl =>
      rw [setCells_cons]
      have h2 := h.set_ a.length v
      rw [List.set_append_right _ _ (Nat.le_refl _), Nat.sub_self] at h2
      have h3 : Blk (w.setCell ⟨g, a.length, none⟩ v) g t ((a ++ [v]) ++ (old' ++ b)) := by
        simp only [List.append_assoc, List.singleton_append]
        exact h2
      have h4 := ih old' (by simpa using hl) (a ++ [v]) b h3
      rw [List.length_append, List.length_singleton] at h4
      simp only [List.append_assoc, List.singleton_append] at h4
      exact h4
theorem Blk.farN {w : World} {g g' t : Nat} {cs : List Value} (h : Blk w g' t cs) (hne : g' ≠ g) (o : Nat) (vs : List Value) : Blk (w.setCells g o vs) g' t cs := (heap_setCells g vs o w g' hne).trans h

theorem flat_set {α : Type} {m : Nat} : ∀ (ls : List (List α)) (_ : ∀ t ∈ ls, t.length = m) (i : Nat) (h : i < ls.length) (t : List α),
    ∃ a b, ls.flatten = a ++ (ls[i] ++ b) ∧ (ls.set i t).flatten = a ++ (t ++ b) ∧ a.length = i * m
  | [], _, i, h, _ => by cases h
  | x :: ls, hl, 0, h, t => ⟨[], ls.flatten, by simp, by simp, by simp⟩
  | x :: ls, hl, i + 1, h, t => by
    obtain ⟨a, b, h1, h2, h3⟩ := flat_set ls (fun y hy => hl y (by simp [hy])) i (by simpa using h) t
    have hx := hl x (by simp)
    refine ⟨x ++ a, b, ?_, ?_, ?_⟩
    · rw [List.flatten_cons, h1, List.append_assoc]; rfl
    · rw [List.set_cons_succ, List.flatten_cons, h2, List.append_assoc]
    · rw [List.length_append, h3, hx, Nat.succ_mul, Nat.add_comm]

theorem OwnW.farN {base : Nat} {w : World} {v : Value} {ws : List (Nat × List UInt8)} (h : OwnW base w v ws) {g T : Nat} {cs : List Value} (hp : Blk w g T cs) (hT : T ≠ 82) (o : Nat) (vs : List Value) : OwnW base (w.setCells g o vs) v ws := by
  rcases h with h | ⟨h1, h2⟩
  · exact .inl h
  · refine .inr ⟨h1, h2.1, ?_⟩
    have hne := ownW_ne h2 hp hT
    rcases h2.2 with h0 | ⟨k, cap, cur, rfl, hk, hh, hr⟩
    · exact .inl h0
    · exact .inr ⟨k, cap, cur, rfl, hk, (heap_setCells g vs o w k (fun e => hne (by rw [← e]; rfl))).trans hh, hr⟩
theorem map_farN {w : World} {M n g : Nat} {m : DataW Unit} (h : w.ownsMap Tryd.prog 3 (plainElem Tryd.prog 3) M n m) (hne : M ≠ g) (o : Nat) (vs : List Value) : (w.setCells g o vs).ownsMap Tryd.prog 3 (plainElem Tryd.prog 3) M n m := by
  obtain ⟨es, clock, h1, h2⟩ := h
  exact ⟨es, clock, (heap_setCells g vs o w M hne).trans h1, h2⟩

/-- A disk one sector of which was laid anew. -/
theorem IsDisk.setL {base : Nat} {w : World} {p gl M : Nat} {v : Value} {D : DSt} (h : IsDisk base w p gl M v D) {i : Nat} (hi : i < D.lasts.length) {t : List UInt8} (ht : t.length = 128) :
    IsDisk base (w.setCells gl (i * 128) (nums .u8 (nb t))) p gl M v { D with lasts := D.lasts.set i t } ∧ Keeps w (w.setCells gl (i * 128) (nums .u8 (nb t))) := by
  obtain ⟨h1, h2, h3, ⟨m, h4, h5⟩, h6, h7, h8, h9⟩ := h
  obtain ⟨a, b, e1, e2, e3⟩ := flat_set D.lasts h6.2.2.1 i hi t
  have hil := h6.2.2.1 _ (List.getElem_mem hi)
  have hpg : p ≠ gl := h1.ne_ h2 (by decide)
  refine ⟨⟨?_, ?_, h3.farN h2 (by decide) _ _, ⟨m, map_farN h4 (map_ne h4 h2) _ _, h5⟩, ⟨?_, ?_, ?_, ?_⟩, h7, h8, h9⟩, ?_⟩
  · have := h1.farN hpg (i * 128) (nums .u8 (nb t))
    simpa [List.length_set] using this
  · unfold flatL at h2 ⊢
    simp only
    rw [e1, nb_append, nb_append, nums_append, nums_append] at h2
    rw [e2, nb_append, nb_append, nums_append, nums_append]
    have h := Blk.setCells (nums .u8 (nb t)) (nums .u8 (nb D.lasts[i])) (by rw [nums_length, nums_length, nb_len, nb_len, hil, ht]) _ _ h2
    rw [nums_length, nb_len, e3] at h
    exact h
  · simp only [List.length_set]; exact h6.1
  · simp only [List.length_set]; exact h6.2.1
  · intro y hy
    rcases List.mem_or_eq_of_mem_set hy with hy | rfl
    · exact h6.2.2.1 y hy
    · exact ht
  · intro x hx
    simp only [List.length_set]
    exact h6.2.2.2 x hx
  · refine ⟨?_, fun k o hk n1 _ => (heap_setCells gl _ _ w k (oth_ne hk n1 h2)).trans hk⟩
    intro k T cs _ hT _ hb
    exact hb.farN (fun e => by
      subst e
      have := h2.get
      rw [hb.get] at this
      injection this with this
      injection this with _ hh
      exact hT hh) _ _

/-- Writes that last, in their order. -/
def settle (ls : List (List UInt8)) (ws : List (Nat × List UInt8)) : List (List UInt8) := ws.foldl (fun l x => l.set x.1 x.2) ls
theorem settle_take (ls : List (List UInt8)) (ws : List (Nat × List UInt8)) (k : Nat) (h : k < ws.length) : settle ls (ws.take (k + 1)) = (settle ls (ws.take k)).set (ws.getD k (0, [])).1 (ws.getD k (0, [])).2 := by
  unfold settle
  rw [List.take_succ_eq_append_getElem h, List.foldl_append, List.getD_eq_getElem?_getD, List.getElem?_eq_getElem h]
  rfl
theorem settle_len (ws : List (Nat × List UInt8)) : ∀ ls, (settle ls ws).length = ls.length := by
  induction ws with
  | nil => intro ls; rfl
  | cons x r ih => intro ls; show (settle (ls.set x.1 x.2) r).length = _; rw [ih, List.length_set]

theorem zeroWrite (w : World) : (zeroValue 82).run Tryd.prog w = .ok (.agg (#[.int .i64 0] ++ Array.replicate 128 (.int .u8 0))) w := (zero_of_info (by
  have h := infoWrite
  cases hq : Tryd.prog.info? 82 with
  | none => rw [hq] at h; cases h
  | some i => rw [hq] at h; simp only [Option.map_some, Option.some.injEq, Prod.mk.injEq] at h ⊢; exact ⟨h.1, h.2.1⟩) : _).1 w
theorem zeroW : ∃ Z : Array Value, Z.size = 129 ∧ ∀ w, (zeroValue 82).run Tryd.prog w = .ok (.agg Z) w := ⟨_, by simp, zeroWrite⟩
theorem sizeWrite : (Tryd.prog.info? 82).map (·.size) = some 129 := by kernel_rfl
theorem sizeSector : (Tryd.prog.info? 80).map (·.size) = some 128 := by kernel_rfl

/-- What Sync does where it doesn't fail. -/
def synced (D : DSt) : DSt := { D with lasts := settle D.lasts D.waits, waits := [], ops := D.ops + 1 }

theorem nums_oneCell (l : List UInt8) : ∀ u ∈ nums .u8 (nb l), u.oneCell' = true := nums_one .u8 (nb l)
theorem wr_oneCell (x : Nat × List UInt8) : ∀ u ∈ wrCells x, u.oneCell' = true := by
  intro u hu
  unfold wrCells at hu
  rcases List.mem_cons.1 hu with rfl | hu
  · rfl
  · exact nums_oneCell _ u hu

set_option maxHeartbeats 4000000 in
set_option maxRecDepth 100000 in
theorem disk_Sync_ok (base : Nat) (w : World) (p gl M : Nat) (v : Value) (D : DSt) (h : IsDisk base w p gl M v D) (ha : ArmOk D) (hf : (fires D).2 = false) (hw : D.waits.length ≤ 1000000) (ho : D.ops ≤ 1000000000) (hbs : base ≤ w.heap.size) :
    Calls Tryd.prog 31 #[.pointer (some ⟨p, 0, none⟩)] w fun e w' => e = .returned (.int .i64 0) ∧ ∃ v', IsDisk base w' p gl M v' (synced (fires D).1) ∧ Below base w w' ∧ Keeps w w' := by
  have HG := Lib.hid (disk_goesOff base w p gl M v D h ha)
  have hwl : (fires D).1.waits.length = D.waits.length := by rw [fires_waits]
  obtain ⟨D1, hD1⟩ : ∃ D1, D1 = (fires D).1 := ⟨_, rfl⟩
  rw [← hD1] at HG hwl ⊢
  have hops : D1.ops = D.ops := by rw [hD1]; exact fires_ops D
  rw [hf] at HG
  clear h hD1 hf
  obtain ⟨Z, hZ, hzw⟩ := zeroW
  have hu75 := Tryd.underlying82
  have hu73 := Tryd.underlying80
  have hs75 := sizeWrite
  have hs73 := sizeSector
  go_enter Tryd.func31, Tryd.ntmps31
  go_wp2_with fail
  refine HG.out.mono ?_
  rintro e w1 ⟨rfl, h1, hb1, hk1⟩
  obtain ⟨c0, c1, c2, c3, c4⟩ := h1.1.five
  obtain ⟨A, c, rfl⟩ := h1.2.2.1.form
  have H1 := Lib.hid h1
  have B1 := Lib.hid hb1
  have K1 := Lib.hid hk1
  obtain ⟨n, hn⟩ : ∃ n, n = D1.waits.length := ⟨_, rfl⟩
  rw [← hn] at c1 hwl
  have HN := Lib.hid hn
  have hn2 : n ≤ 1000000 := by omega
  clear h1 hb1 hk1 hn hwl hw
  go_wp2_with fail
  go_loopw [12] (fun iv wr => ∃ k : Nat, iv = .int .i64 k ∧ k ≤ n ∧ Hid (IsDisk base wr p gl M (.slice A n c) { D1 with lasts := settle D1.lasts (D1.waits.take k) }) ∧ Hid (Below base w wr) ∧ Hid (Keeps w wr)) (fun iv _ => n - (intOf iv).toNat)
  case atStart => exact ⟨0, rfl, Nat.zero_le _, Lib.hid (by rw [HN.out]; exact H1.out), B1, K1⟩
  case round =>
    obtain ⟨k, rfl, hk, HD, HB, HK⟩ := hrel
    obtain ⟨d0, d1, d2, d3, d4⟩ := HD.out.1.five
    by_cases hlt : k < n
    · obtain ⟨g, cw, hv, hcw, hat, hal, hcw0⟩ := at_wait HD.out (j := k) (by simp only; rw [← HN.out]; exact hlt)
      injection hv with hA hnn hcc
      clear hnn
      subst hA hcc
      have hkx : k < D1.waits.length := by rw [← HN.out]; exact hlt
      obtain ⟨x, hx⟩ : ∃ x, x = D1.waits.getD k (0, []) := ⟨_, rfl⟩
      have hx1 : x.1 < D1.lasts.length ∧ x.2.length = 128 := by
        have := HD.out.2.2.2.2.1.2.2.2 x (by rw [hx, List.getD_eq_getElem?_getD, List.getElem?_eq_getElem hkx]; exact List.getElem_mem hkx)
        simp only [settle_len] at this
        exact this
      have hrg : wr.rangeAt g (k * 129) (wrCells x) := by
        intro j u hj
        have hok : ∀ y ∈ D1.waits, y.2.length = 128 := fun y hy => (HD.out.2.2.2.2.1.2.2.2 y hy).2
        have hj2 : j < 129 := by
          have := (List.getElem?_eq_some_iff.1 hj).1
          rw [wrCells_len hx1.2] at this; exact this
        rcases HD.out.2.2.1 with ⟨e, _⟩ | ⟨h1, h2⟩
        · simp only at e; rw [e] at hkx; cases hkx
        · simp only at h2
          have e : x = D1.waits[k] := by rw [hx, List.getD_eq_getElem?_getD, List.getElem?_eq_getElem hkx]; rfl
          have hjb : k * 129 + 129 ≤ D1.waits.length * 129 := by have := Nat.mul_le_mul_right 129 hkx; rw [Nat.succ_mul] at this; exact this
          have h3 : wr.ownsRow base 82 129 (.slice (some ⟨g, 0, none⟩) D1.waits.length c) D1.waits.length (flatW D1.waits) := by rw [← HN.out] at h2 ⊢; exact h2
          rw [h3.cellAt (k * 129 + j) (by omega), flatW_get hok hkx hj2, ← e]
          exact hj
      have HRG := Lib.hid hrg
      have hsx : (Tryd.prog.info? 82).map (·.size) = some (wrCells x).length := by rw [wrCells_len hx1.2]; exact hs75
      have HX := Lib.hid hx1
      have HXX := Lib.hid hx
      have NW := Lib.hid (heap_alloc_new wr (.cells Z 82))
      have hdk : decide ((k : Int) < (n : Int)) = true := decide_eq_true (by omega)
      clear hat hal hcw0 hcw hrg hx hx1 hkx
      go_wp2_with (first
        | (refine wpList_load_mid rfl _ _ rfl g (k * 129) rfl (wrCells x) _ HRG.out hu75 rfl hsx ?_)
        | (refine wpList_store_row rfl _ _ _ rfl wr.heap.size (wrCells x).toArray rfl rfl 82 Z NW.out (by rw [List.size_toArray]; exact hsx) (by rw [hZ, List.size_toArray, wrCells_len HX.out.2]) (all_oneCell_toArray (wr_oneCell x)) ?_))
      rw [World.setRow_alloc_new]
      obtain ⟨i, hi⟩ : ∃ i, i = x.1 := ⟨_, rfl⟩
      obtain ⟨cs, hcs⟩ : ∃ cs, cs = nums .u8 (nb x.2) := ⟨_, rfl⟩
      have hcl : cs.length = 128 := by rw [hcs, nums_length, nb_len]; exact HX.out.2
      have hc1 : ∀ u ∈ cs, u.oneCell' = true := by rw [hcs]; exact nums_oneCell _
      have hsc : (Tryd.prog.info? 80).map (·.size) = some cs.length := by rw [hcl]; exact hs73
      have NB : Hid (Blk (wr.alloc (.cells (wrCells x).toArray 82)) wr.heap.size 82 (.int .i64 (i : Int) :: cs)) := Lib.hid (by rw [hi, hcs]; exact heap_alloc_new wr _)
      have HD2 := Lib.hid (HD.out.keep (((Below.refl wr.heap.size wr).alloc (Nat.le_refl _) (.cells (wrCells x).toArray 82)).drew))
      have hiL : i < D1.lasts.length := by rw [hi]; exact HX.out.1
      have HL : Hid (({ D1 with lasts := settle D1.lasts (D1.waits.take k) } : DSt).lasts.length = D1.lasts.length) := Lib.hid (settle_len _ _)
      obtain ⟨N, hN⟩ : ∃ N, N = D1.lasts.length := ⟨_, rfl⟩
      have HSET := Lib.hid (HD2.out.setL (i := i) (by rw [HL.out]; exact hiL) (t := x.2) HX.out.2)
      rw [← hcs] at HSET
      have HNX : Hid ({ D1 with lasts := settle D1.lasts (D1.waits.take (k + 1)) } = ({ ({ D1 with lasts := settle D1.lasts (D1.waits.take k) } : DSt) with lasts := (settle D1.lasts (D1.waits.take k)).set i x.2 } : DSt)) := Lib.hid (by
        rw [settle_take _ _ _ (by rw [← HN.out]; exact hlt), ← HXX.out, hi])
      have hNb : (N : Int) ≤ 4096 := by
        have := HD.out.2.2.2.2.1.2.1
        rw [HL.out] at this
        omega
      have hiN : i < N := by rw [hN]; exact hiL
      have HNE : Hid (wr.heap.size ≠ gl) := Lib.hid (fun e => by have := HD.out.2.1.lt; omega)
      have HNP : Hid (p ≠ gl) := Lib.hid (HD.out.1.ne_ HD.out.2.1 (by decide))
      have HS0 : Hid ((wr.alloc (.cells (wrCells x).toArray 82)).drew.cell? ⟨p, 0, none⟩ = some (.slice (some ⟨gl, 0, none⟩) N N) ∧ (wr.alloc (.cells (wrCells x).toArray 82)).drew.cell? ⟨wr.heap.size, 0, none⟩ = some (.int .i64 (i : Int)) ∧
          (wr.alloc (.cells (wrCells x).toArray 82)).drew.rangeAt wr.heap.size 1 cs ∧ (wr.alloc (.cells (wrCells x).toArray 82)).drew.there gl (i * 128) 128) := Lib.hid (by
        refine ⟨?_, NB.out.cell0', fun j u hj => ?_, fun j hj => ?_⟩
        · have := HD2.out.1.five.1
          rw [HL.out, ← hN] at this
          exact this
        · have := NB.out.cell (1 + j)
          rw [Nat.add_comm 1 j, List.getElem?_cons_succ, hj] at this
          rw [Nat.add_comm 1 j]
          exact this
        · obtain ⟨ha, hl⟩ := at_last HD2.out (i := i) (by rw [HL.out]; exact hiL)
          exact ⟨by rw [ha j (by rw [hl]; exact hj)]; rfl, HD2.out.2.1.frozen _⟩)
      have HS1 : Hid (((wr.alloc (.cells (wrCells x).toArray 82)).drew.setCells gl (i * 128) cs).cell? ⟨p, 0, none⟩ = some (.slice (some ⟨gl, 0, none⟩) N N) ∧ ((wr.alloc (.cells (wrCells x).toArray 82)).drew.setCells gl (i * 128) cs).cell? ⟨wr.heap.size, 0, none⟩ = some (.int .i64 (i : Int)) ∧
          ((wr.alloc (.cells (wrCells x).toArray 82)).drew.setCells gl (i * 128) cs).rangeAt wr.heap.size 1 cs ∧ ((wr.alloc (.cells (wrCells x).toArray 82)).drew.setCells gl (i * 128) cs).there gl (i * 128) 128) := Lib.hid (by
        obtain ⟨s1, s2, s3, s4⟩ := HS0.out
        refine ⟨?_, ?_, World.rangeAt_setCells_apart s3 gl (i * 128) cs (.inl HNE.out), World.there_setCells s4 gl (i * 128) cs⟩
        · rw [World.cell?_of_block (heap_setCells gl cs (i * 128) _ p HNP.out)]; exact s1
        · rw [World.cell?_of_block (heap_setCells gl cs (i * 128) _ wr.heap.size HNE.out)]; exact s2)
      clear hi hcs hN hiL d0 d1 d2 d3 d4
      go_region_held3 (fun w' => w'.cell? ⟨p, 0, none⟩ = some (.slice (some ⟨gl, 0, none⟩) N N) ∧ w'.cell? ⟨wr.heap.size, 0, none⟩ = some (.int .i64 (i : Int)) ∧ w'.rangeAt wr.heap.size 1 cs ∧ w'.there gl (i * 128) 128)
        (first | exact HS1.out | exact HS0.out)
        (fail)
      go_wp2_with fail
      go_roundw
      case rel =>
        refine ⟨k + 1, by go_num, by omega, Lib.hid ?_, Lib.hid ?_, Lib.hid ?_⟩
        · rw [HNX.out]; exact HSET.out.1
        · have hg : base ≤ gl := HD.out.2.2.2.2.2.2.1
          exact Below.setCells (HB.out.alloc (Nat.le_trans hbs HB.out.size) _).drew hg cs (i * 128)
        · exact HK.out.trans ((Keeps.of_below ((Below.refl wr.heap.size wr).alloc (Nat.le_refl _) (.cells (wrCells x).toArray 82)).drew).trans HSET.out.2)
      case measure => simp [intOf]; omega
    · have hkn : k = n := by omega
      subst hkn
      have HD' : Hid (IsDisk base wr p gl M (.slice A k c) { D1 with lasts := settle D1.lasts D1.waits }) := Lib.hid (by
        have h := HD.out
        rw [List.take_of_length_le (by rw [← HN.out]; exact Nat.le_refl _)] at h
        exact h)
      have HE := Lib.hid (disk_empty base wr p gl M (.slice A k c) _ HD'.out)
      clear HD
      go_wp2_with fail
      refine HE.out.mono ?_
      rintro e w4 ⟨rfl, v4, h4, hb4, hk4⟩
      have H4 := Lib.hid h4
      have B4 := Lib.hid (HB.out.trans hb4)
      have K4 := Lib.hid (HK.out.trans hk4)
      obtain ⟨e0, e1, e2, e3, e4⟩ := h4.1.five
      have z4 := h4.1.frozen 4
      have hob : (D1.ops : Int) + 1 ≤ 2000000000 := by omega
      have hw : IntKind.i64.wrap ((D1.ops : Int) + 1) = (D1.ops : Int) + 1 := IntWalk.i64_in _ (by omega)
      have H5 := Lib.hid (h4.put 4 (.int .i64 ((D1.ops : Int) + 1)) v4 (synced D1) rfl rfl rfl rfl)
      have K5 := Lib.hid (Keeps.put (i := 4) h4.1 (.int .i64 ((D1.ops : Int) + 1)))
      have HP := Lib.hid h4.2.2.2.2.2.1
      clear h4 hb4 hk4 hops ho
      go_wp2_with fail
      go_ret
      exact ⟨rfl, v4, H5.out, B4.out.setCell (p := ⟨p, 4, none⟩) HP.out _, K4.out.trans K5.out⟩

end Go.Proofs.YtbigpapniloknaaDoor
