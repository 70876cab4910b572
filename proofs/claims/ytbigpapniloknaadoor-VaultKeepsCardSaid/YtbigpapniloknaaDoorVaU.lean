/- The state of VaultKeeps' loop, and what a round makes of it: memory. -/
import Derived.Test.YtbigpapniloknaaDoorVaT
import Derived.Test.YtbigpapniloknaaDoorJVak
import Derived.Test.YtbigpapniloknaaDoorJVak
import Derived.Deep.RegionHeld3
namespace Go.Proofs.YtbigpapniloknaaDoor
open Go.RowKit Go.Maps
set_option maxRecDepth 100000

theorem own_keepsT {base e size n : Nat} {w w' : World} {v : Value} {xs : List Value} (h : w.ownsRow base e size v n xs) (hk : Keeps w w') (h1 : e ≠ 58) (h2 : e ≠ 80) (h3 : e ≠ 82) : w'.ownsRow base e size v n xs := by
  refine ⟨h.1, ?_⟩
  rcases h.2 with h0 | ⟨g, cap, cur, hv, hg, hh, hr⟩
  · exact .inl h0
  · have hb : Blk w g e cur.toList := by unfold Blk; rw [Array.toArray_toList]; exact hh
    have hb2 := hk.blk g _ _ h1 h2 h3 hb
    unfold Blk at hb2
    rw [Array.toArray_toList] at hb2
    exact .inr ⟨g, cap, cur, hv, hg, hb2, hr⟩
theorem own_asideT {base e size n : Nat} {w w' : World} {v : Value} {xs : List Value} (h : w.ownsRow base e size v n xs) {g T : Nat} {cs : List Value} (hg : Blk w g T cs) (hT : T ≠ e) (he : ∀ k, k ≠ g → w'.heap[k]? = w.heap[k]?) : w'.ownsRow base e size v n xs := by
  refine ⟨h.1, ?_⟩
  rcases h.2 with h0 | ⟨b, cap, cur, hv, hb, hh, hr⟩
  · exact .inl h0
  · refine .inr ⟨b, cap, cur, hv, hb, (he b ?_).trans hh, hr⟩
    have hx := ownW_ne h hg hT
    rw [hv] at hx
    intro e
    exact hx (by rw [e]; rfl)

theorem own_disj {w : World} {b1 b2 e1 e2 s1 s2 n1 n2 : Nat} {v1 v2 : Value} {xs1 xs2 : List Value} (h1 : w.ownsRow b1 e1 s1 v1 n1 xs1) (h2 : w.ownsRow b2 e2 s2 v2 n2 xs2) (he : e1 ≠ e2) : v1.ownBlock = none ∨ v1.ownBlock ≠ v2.ownBlock := by
  rcases h1.2 with ⟨e, _⟩ | ⟨g, cap, cur, e, _, hh, _⟩
  · left; rw [e]; rfl
  · right
    intro hx
    rcases h2.2 with ⟨e', _⟩ | ⟨g', cap', cur', e', _, hh', _⟩
    · rw [e, e'] at hx; cases hx
    · rw [e, e'] at hx
      injection hx with hx
      have hx' : g = g' := hx
      subst hx'
      rw [hh] at hh'
      injection hh' with hh'
      injection hh' with _ ht
      exact he ht
/-- What the loop of VaultKeeps holds: the vault's box, its disk, the row of what may be there. -/
structure VkSt (w : World) (p gl M vb : Nat) (i : Nat) (wr : World) (mv : Value) (D : DSt) (dv : Value) (a g : Nat) (st : Bool) (T0 : List UInt8) (all : List (List UInt8)) (sure : Nat) (more : List (List UInt8)) (u : Value) : Prop where
  inv : VI D a g st T0 all sure more i
  sm : SmallN (400000 - 6000 * i) D
  ml : more.length ≤ i
  box : Blk wr vb 33 [.int .i64 2, .int .i64 (a : Int), .int .i64 4, .int .i64 6, .int .u64 (g : Int), .int .i64 (all.length : Int), .bool st]
  dsk : IsDisk w.heap.size wr p gl M dv D
  row : wr.ownsRow w.heap.size 38 3 mv (1 + more.length) (mayC T0 u sure more)
  own : wr.ownsRow w.heap.size 9 1 u all.length (strsV all)
  bel : Below w.heap.size w wr
  low : w.heap.size ≤ vb
theorem VkSt.keep {w : World} {p gl M vb i : Nat} {wr wr' : World} {mv : Value} {D : DSt} {dv : Value} {a g : Nat} {st : Bool} {T0 : List UInt8} {all : List (List UInt8)} {sure : Nat} {more : List (List UInt8)} {u : Value} (h : VkSt w p gl M vb i wr mv D dv a g st T0 all sure more u) (hb : Below wr.heap.size wr wr') : VkSt w p gl M vb i wr' mv D dv a g st T0 all sure more u :=
  { h with box := h.box.keep hb, dsk := h.dsk.keep hb, row := ownW_keep h.row hb, own := ownW_keep h.own hb, bel := h.bel.trans (hb.mono h.bel.size) }
/-- The box is written: the same vault. -/
theorem VkSt.mono {w : World} {p gl M vb i k : Nat} {wr : World} {mv : Value} {D : DSt} {dv : Value} {a g : Nat} {st : Bool} {T0 : List UInt8} {all : List (List UInt8)} {sure : Nat} {more : List (List UInt8)} {u : Value} (h : VkSt w p gl M vb i wr mv D dv a g st T0 all sure more u) (hk : i ≤ k) : VkSt w p gl M vb k wr mv D dv a g st T0 all sure more u :=
  { h with inv := h.inv.mono hk, sm := h.sm.mono (by omega), ml := Nat.le_trans h.ml hk }
/-- A store of a whole vault into the box. -/
theorem VkSt.put {w : World} {p gl M vb i : Nat} {wr : World} {mv : Value} {D : DSt} {dv : Value} {a g : Nat} {st : Bool} {T0 : List UInt8} {all : List (List UInt8)} {sure : Nat} {more : List (List UInt8)} {u : Value} {c0 c1 c2 c3 c4 c5 c6 : Value}
    (inv : VI D a g st T0 all sure more i) (sm : SmallN (400000 - 6000 * i) D) (ml : more.length ≤ i) (box : Blk wr vb 33 [c0, c1, c2, c3, c4, c5, c6]) (dsk : IsDisk w.heap.size wr p gl M dv D) (row : wr.ownsRow w.heap.size 38 3 mv (1 + more.length) (mayC T0 u sure more)) (own : wr.ownsRow w.heap.size 9 1 u all.length (strsV all)) (bel : Below w.heap.size w wr) (low : w.heap.size ≤ vb) :
    VkSt w p gl M vb i (((((((wr.setCell ⟨vb, 0, none⟩ (.int .i64 2)).setCell ⟨vb, 1, none⟩ (.int .i64 (a : Int))).setCell ⟨vb, 2, none⟩ (.int .i64 4)).setCell ⟨vb, 3, none⟩ (.int .i64 6)).setCell ⟨vb, 4, none⟩ (.int .u64 (g : Int))).setCell ⟨vb, 5, none⟩ (.int .i64 (all.length : Int))).setCell ⟨vb, 6, none⟩ (.bool st)) mv D dv a g st T0 all sure more u where
  inv := inv
  sm := sm
  ml := ml
  box := box.put7 _ _ _ _ _ _ _
  dsk := dsk.put7 box (by decide) (by decide) (by decide) _ _ _ _ _ _ _
  row := own_asideT row box (by decide) (fun k hk => heap_put7 _ _ _ _ _ _ _ _ _ k hk)
  own := own_asideT own box (by decide) (fun k hk => heap_put7 _ _ _ _ _ _ _ _ _ k hk)
  bel := below_put7 bel low _ _ _ _ _ _ _
  low := low

theorem row_blk {w : World} {base e size L gm cap : Nat} {xs : List Value} (h : w.ownsRow base e size (.slice (some ⟨gm, 0, none⟩) L cap) L xs) : ∃ cs, Blk w gm e cs := by
  rcases h.2 with ⟨e1, _⟩ | ⟨g, c, cur, e1, _, hh, _⟩
  · cases e1
  · injection e1 with e1
    injection e1 with e1
    injection e1 with e1
    subst e1
    exact ⟨cur.toList, by unfold Blk; rw [Array.toArray_toList]; exact hh⟩
/-- What stands in memory within a round: the row, its records, the box, another vault's box, the act. -/
structure VkMid (w : World) (p gl M : Nat) (W : World) (D : DSt) (dv : Value) (gm L cap : Nat) (rowc : List Value) (u : Value) (all : List (List UInt8)) (vb : Nat) (bc : List Value) (xb : Nat) (xc : List Value) (ab : Nat) (ac : List Value) : Prop where
  row : W.ownsRow w.heap.size 38 3 (.slice (some ⟨gm, 0, none⟩) L cap) L rowc
  own : W.ownsRow w.heap.size 9 1 u all.length (strsV all)
  box : Blk W vb 33 bc
  xbx : Blk W xb 33 xc
  act : Blk W ab 42 ac
  dsk : IsDisk w.heap.size W p gl M dv D
  bel : Below w.heap.size w W
section
variable {w : World} {p gl M : Nat} {W : World} {D : DSt} {dv : Value} {gm L cap : Nat} {rowc : List Value} {u : Value} {all : List (List UInt8)} {vb : Nat} {bc : List Value} {xb : Nat} {xc : List Value} {ab : Nat} {ac : List Value}
theorem VkMid.keep {W' : World} (h : VkMid w p gl M W D dv gm L cap rowc u all vb bc xb xc ab ac) (hb : Below W.heap.size W W') : VkMid w p gl M W' D dv gm L cap rowc u all vb bc xb xc ab ac :=
  ⟨ownW_keep h.row hb, ownW_keep h.own hb, h.box.keep hb, h.xbx.keep hb, h.act.keep hb, h.dsk.keep hb, h.bel.trans (hb.mono h.bel.size)⟩
theorem VkMid.grown {w9 : World} {v9 : Value} {t : List UInt8} (h : VkMid w p gl M W D dv gm L cap rowc u all vb bc xb xc ab ac) (ho : w9.ownsRow w.heap.size 9 1 v9 (all.length + 1) (strsV all ++ [.string (bs t)])) (hg : W.grownBy w9 u.ownBlock) : VkMid w p gl M w9 D dv gm L cap rowc v9 (all ++ [t]) vb bc xb xc ab ac where
  row := World.ownsRow.kept h.row hg (own_disj h.row h.own (by decide))
  own := by rw [strsV_snoc, List.length_append]; exact ho
  box := h.box.grown hg (fun e => ownW_ne h.own h.box (by decide) e.symm)
  xbx := h.xbx.grown hg (fun e => ownW_ne h.own h.xbx (by decide) e.symm)
  act := h.act.grown hg (fun e => ownW_ne h.own h.act (by decide) e.symm)
  dsk := h.dsk.grown hg (fun g e => by
    rcases h.own.2 with ⟨e1, _⟩ | ⟨g', c', cur, e1, _, hh, _⟩
    · rw [e1] at e; cases e
    · rw [e1] at e
      injection e with e
      subst e
      have hb : Blk W g' 9 cur.toList := by unfold Blk; rw [Array.toArray_toList]; exact hh
      exact ⟨_, _, hb, by decide, by decide, by decide⟩)
  bel := h.bel.grown hg h.bel.size (fun b e => (World.ownsRow.lt h.own b e).1)
theorem VkMid.putRow (h : VkMid w p gl M W D dv gm L cap rowc u all vb bc xb xc ab ac) (hgm : w.heap.size ≤ gm) (j : Nat) (x : Value) : VkMid w p gl M (W.setCell ⟨gm, j, none⟩ x) D dv gm L cap (rowc.set j x) u all vb bc xb xc ab ac := by
  obtain ⟨cs, hb⟩ := row_blk h.row
  exact
    { row := (World.ownsRow.stored h.row j x).1
      own := ownsRow_setCell_other h.own (ownW_ne h.own hb (by decide)) x
      box := h.box.far (p := ⟨gm, j, none⟩) (h.box.ne_ hb (by decide)) x
      xbx := h.xbx.far (p := ⟨gm, j, none⟩) (h.xbx.ne_ hb (by decide)) x
      act := h.act.far (p := ⟨gm, j, none⟩) (h.act.ne_ hb (by decide)) x
      dsk := h.dsk.put1 hb (by decide) (by decide) (by decide) j x
      bel := h.bel.setCell (p := ⟨gm, j, none⟩) hgm x }
theorem VkMid.putBox {a0 a1 a2 a3 a4 a5 a6 : Value} (h : VkMid w p gl M W D dv gm L cap rowc u all vb [a0, a1, a2, a3, a4, a5, a6] xb xc ab ac) (hvb : w.heap.size ≤ vb) (hx : xb ≠ vb) (b0 b1 b2 b3 b4 b5 b6 : Value) :
    VkMid w p gl M (((((((W.setCell ⟨vb, 0, none⟩ b0).setCell ⟨vb, 1, none⟩ b1).setCell ⟨vb, 2, none⟩ b2).setCell ⟨vb, 3, none⟩ b3).setCell ⟨vb, 4, none⟩ b4).setCell ⟨vb, 5, none⟩ b5).setCell ⟨vb, 6, none⟩ b6) D dv gm L cap rowc u all vb [b0, b1, b2, b3, b4, b5, b6] xb xc ab ac where
  row := own_asideT h.row h.box (by decide) (fun k hk => heap_put7 _ _ _ _ _ _ _ _ _ k hk)
  own := own_asideT h.own h.box (by decide) (fun k hk => heap_put7 _ _ _ _ _ _ _ _ _ k hk)
  box := h.box.put7 _ _ _ _ _ _ _
  xbx := h.xbx.far7 hx _ _ _ _ _ _ _
  act := h.act.far7 (h.act.ne_ h.box (by decide)) _ _ _ _ _ _ _
  dsk := h.dsk.put7 h.box (by decide) (by decide) (by decide) _ _ _ _ _ _ _
  bel := below_put7 h.bel hvb _ _ _ _ _ _ _
theorem VkMid.cells {T0 : List UInt8} {sure : Nat} {more : List (List UInt8)} (h : VkMid w p gl M W D dv gm L cap (mayC T0 u sure more) u all vb bc xb xc ab ac) (hL : 0 < L) : W.cell? ⟨gm, 1, none⟩ = some u ∧ W.frozen? ⟨gm, 1, none⟩ = false ∧ W.cell? ⟨gm, 2, none⟩ = some (.int .i64 (sure : Int)) ∧ W.frozen? ⟨gm, 2, none⟩ = false :=
  ⟨h.row.cellAt 1 (by omega), h.row.frozenAt 1, h.row.cellAt 2 (by omega), h.row.frozenAt 2⟩
theorem store_all {W : World} {gm : Nat} {u : Value} (hc : W.cell? ⟨gm, 1, none⟩ = some u) (hf : W.frozen? ⟨gm, 1, none⟩ = false) (A : Option Addr) (n c : Nat) : (Instr.storeAt 34 (.pointer (some ⟨gm, 1, none⟩)) (.slice A n c)).run Tryd.prog W = .ok () (W.setCell ⟨gm, 1, none⟩ (.slice A n c)) := by go_simp
theorem load_all {W : World} {gm : Nat} {A : Option Addr} {n c : Nat} (hc : W.cell? ⟨gm, 1, none⟩ = some (.slice A n c)) : (Instr.loadAt 34 (.pointer (some ⟨gm, 1, none⟩))).run Tryd.prog W = .ok (.slice A n c) W := by go_simp
end
end Go.Proofs.YtbigpapniloknaaDoor
