/- The walk of DiskLasts: what was synced outlives a crash. -/
import Derived.Test.YtciophpplpmmfaaDiskH
import Derived.OpenShut
namespace Go.Proofs.Ytciophpplpmmfaa
open Go.RowKit Go.Maps Go.ChangeMaps Go.MapKept

/-- A slice of integers that came in, as the row's frame hands it. -/
def RowOf (k : IntKind) (w : World) (a : Option Addr) (len cap : Nat) (zs : List Int) : Prop :=
  (a = none ∧ len = 0 ∧ cap = 0 ∧ zs = []) ∨
  ∃ x, a = some x ∧ len ≤ cap ∧ cap ≤ maxLen ∧ zs.length = cap ∧ (∀ i, i < zs.length → w.cell? (x.add i) = some (.int k (zs.getD i 0))) ∧ ∀ n ∈ zs, (Lit.int k n).wf = true
theorem RowOf.sl8 {w : World} {a : Option Addr} {len cap : Nat} {zs : List Int} (h : RowOf .u8 w a len cap zs) : ∃ xs, Sl .u8 w a len cap xs ∧ ∀ y ∈ xs, y < 256 := by
  rcases h with ⟨rfl, rfl, rfl, rfl⟩ | ⟨x, rfl, hl, hm, hz, hc, hw⟩
  · exact ⟨[], Sl.nil _ _, fun y hy => by cases hy⟩
  · have hb : ∀ n ∈ zs, 0 ≤ n ∧ n ≤ 255 := fun n hn => bounds_u8 (hw n hn)
    refine ⟨(zs.take len).map Int.toNat, ⟨by rw [List.length_map, List.length_take]; omega, hl, by unfold maxLen at hm; omega, fun hpos => ?_⟩, ?_⟩
    · obtain ⟨b, off, rfl, hc2⟩ := ints_at hc (by omega)
      refine ⟨b, off, rfl, fun j hj => ?_⟩
      have hj2 : j < zs.length := by omega
      rw [hc2 j hj2]
      have h1 := (hb zs[j] (List.getElem_mem hj2)).1
      rw [List.getD_eq_getElem?_getD, List.getElem?_eq_getElem hj2, List.getD_eq_getElem?_getD, List.getElem?_map, List.getElem?_take_of_lt hj, List.getElem?_eq_getElem hj2]
      simp only [Option.map_some, Option.getD_some]
      rw [Int.toNat_of_nonneg h1]
    · intro y hy
      obtain ⟨n, hn, rfl⟩ := List.mem_map.1 hy
      have h1 := hb n (List.mem_of_mem_take hn)
      omega

/-- A disk of eight, on which nothing fails. -/
def Eight (L : Option (List (List UInt8))) (i o : Nat) (D : DSt) : Prop := D.lasts.length = 8 ∧ D.armed = 0 ∧ D.waits.length = i ∧ D.ops = o ∧ ∀ l, L = some l → D.lasts = l
theorem eight_write {L : Option (List (List UInt8))} {i o : Nat} {D : DSt} (h : Eight L i o D) {q : Nat} (hq : q < 8) (s : List UInt8) (hs : s.length = 128) : (wrD D (q : Int) s).2 = 0 ∧ Eight L (i + 1) (o + 1) (wrD D (q : Int) s).1 := by
  obtain ⟨h1, h2, h3, h4, h5⟩ := h
  unfold wrD
  rw [if_neg (by rw [hasB_nat (by omega)]; decide), if_neg (by rw [hs]; decide), fires_zero h2, if_neg (by simp)]
  refine ⟨rfl, h1, h2, ?_, ?_, h5⟩
  · show (D.waits ++ _).length = _; rw [List.length_append, h3]; rfl
  · show D.ops + 1 = _; rw [h4]
theorem eight_small {L : Option (List (List UInt8))} {i o : Nat} {D : DSt} (h : Eight L i o D) (hi : i ≤ 1000000) (ho : o ≤ 1000000000) : Small D := by
  obtain ⟨h1, h2, h3, h4, h5⟩ := h
  exact ⟨⟨by omega, by omega⟩, by omega, by omega⟩
theorem settleK_false (zs : List ((Nat × List UInt8) × Bool)) (h : ∀ z ∈ zs, z.2 = false) : ∀ ls, settleK ls zs = ls := by
  induction zs with
  | nil => intro ls; rfl
  | cons z r ih =>
    intro ls
    show settleK (if z.2 then ls.set z.1.1 z.1.2 else ls) r = ls
    rw [h z (by simp), ih (fun y hy => h y (by simp [hy]))]
    rfl
theorem read_dry {D : DSt} (h : D.waits = []) {i : Nat} (hi : i < D.lasts.length) : rdD D (i : Int) = (D.lasts.getD i [], 0) := rdD_last hi (by rw [h]; rfl)

theorem infoString : (Try.prog.info? 9).map (fun i => (i.zero, i.size, i.bytes)) = some (some (.string ⟨#[]⟩), 1, 16) := by kernel_rfl
theorem infoBool : (Try.prog.info? 4).map (fun i => (i.zero, i.size, i.bytes)) = some (some (.bool false), 1, 1) := by kernel_rfl
/-- Texts as cells. -/
def strsV (ls : List (List UInt8)) : List Value := ls.map fun l => .string (bs l)
theorem strsV_one (ls : List (List UInt8)) : ∀ u ∈ strsV ls, u.oneCell' = true := by
  intro u hu
  obtain ⟨x, _, rfl⟩ := List.mem_map.1 hu
  rfl

/-- A disk behind an append to a row that is no part of it. -/
theorem IsDisk.grown {base : Nat} {w w' : World} {p gl M : Nat} {v : Value} {D : DSt} {row : Option Nat} (h : IsDisk base w p gl M v D) (hg : w.grownBy w' row) (hr : ∀ g, row = some g → ∃ T cs, Blk w g T cs ∧ T ≠ 61 ∧ T ≠ 73 ∧ T ≠ 75) : IsDisk base w' p gl M v D := by
  obtain ⟨h1, h2, h3, ⟨m, h4, h5⟩, h6⟩ := h
  have ne : ∀ k T' ds, Blk w k T' ds → (T' = 61 ∨ T' = 73 ∨ T' = 75) → some k ≠ row := by
    intro k T' ds hb hT e
    obtain ⟨T, cs, hc, n1, n2, n3⟩ := hr k e.symm
    have := hb.get
    rw [hc.get] at this
    injection this with this
    injection this with _ hh
    rcases hT with hT | hT | hT <;> subst hT
    · exact n1 hh
    · exact n2 hh
    · exact n3 hh
  refine ⟨h1.grown hg (ne p _ _ h1 (.inl rfl)), h2.grown hg (ne gl _ _ h2 (.inr (.inl rfl))), ?_, ⟨m, h4.kept hg (fun e => ?_), h5⟩, h6⟩
  · rcases h3 with h3 | ⟨h3, h7⟩
    · exact .inl h3
    · refine .inr ⟨h3, ?_⟩
      rcases h7.2 with ⟨e1, _⟩ | ⟨g', c', cur, e1, _, hh, _⟩
      · exact h7.kept hg (.inl (by rw [e1]; rfl))
      · have hb : Blk w g' 75 cur.toList := by unfold Blk; rw [Array.toArray_toList]; exact hh
        refine h7.kept hg (.inr ?_)
        rw [e1]
        exact ne g' _ _ hb (.inr (.inr rfl))
  · obtain ⟨T, cs, hc, _⟩ := hr M e.symm
    exact map_ne h4 hc rfl

set_option maxHeartbeats 2000000 in
set_option maxRecDepth 100000 in
theorem lasts_idle (a0 : Option Addr) (n0 k0 : Nat) (a1 : Option Addr) (n1 k1 : Nat) (w : World) (h : 40 < n0 ∨ 40 < n1) (hb0 : (n0 : Int) ≤ 9223372036854775807) (hb1 : (n1 : Int) ≤ 9223372036854775807) :
    Calls Try.prog 4 #[.slice a0 n0 k0, .slice a1 n1 k1] w fun e w' => e = .returned (.bool true) ∧ Below w.heap.size w w' := by
  have HA := Lib.hid disk_Awake
  by_cases h0 : 40 < n0
  · have hd : decide ((40 : Int) < (n0 : Int)) = true := decide_eq_true (by omega)
    go_enter Try.func4, Try.ntmps4
    go_wp2_with fail
    refine (HA.out _).mono ?_
    rintro e w1 ⟨rfl, hb⟩
    go_wp2_with fail
    go_ret
    exact ⟨rfl, hb⟩
  · have hd : decide ((40 : Int) < (n0 : Int)) = false := decide_eq_false (by omega)
    have hd1 : decide ((40 : Int) < (n1 : Int)) = true := decide_eq_true (by omega)
    go_enter Try.func4, Try.ntmps4
    go_wp2_with fail
    refine (HA.out _).mono ?_
    rintro e w1 ⟨rfl, hb⟩
    go_wp2_with fail
    go_ret
    exact ⟨rfl, hb⟩

set_option maxHeartbeats 8000000 in
set_option maxRecDepth 100000 in
theorem lasts_main (a0 : Option Addr) (n0 k0 : Nat) (a1 : Option Addr) (n1 k1 : Nat) (xs ys : List Nat) (w : World) (hx : Sl .u8 w a0 n0 k0 xs) (hx8 : ∀ y ∈ xs, y < 256) (hy : Sl .u8 w a1 n1 k1 ys) (hy8 : ∀ y ∈ ys, y < 256) (h0 : n0 ≤ 40) (h1 : n1 ≤ 40) :
    Calls Try.prog 4 #[.slice a0 n0 k0, .slice a1 n1 k1] w fun e w' => e = .returned (.bool true) ∧ Below w.heap.size w w' := by
  obtain ⟨i0, hi, hz0, hz1, hz2⟩ := info_parts infoString
  obtain ⟨ib, hib, hbz0, hbz1, hbz2⟩ := info_parts infoBool
  have HA := Lib.hid disk_Awake
  have HN := Lib.hid (disk_New 8 w (by omega) (by omega))
  have HX := Lib.hid hx
  have HY := Lib.hid hy
  have HX8 : Hid (∀ j, xs.getD j 0 < 256) := Lib.hid (fun j => by
    rw [List.getD_eq_getElem?_getD]
    by_cases hj : j < xs.length
    · rw [List.getElem?_eq_getElem hj]; exact hx8 _ (List.getElem_mem hj)
    · rw [List.getElem?_eq_none (by omega)]; decide)
  have HY8 : Hid (∀ j, ys.getD j 0 < 256) := Lib.hid (fun j => by
    rw [List.getD_eq_getElem?_getD]
    by_cases hj : j < ys.length
    · rw [List.getElem?_eq_getElem hj]; exact hy8 _ (List.getElem_mem hj)
    · rw [List.getElem?_eq_none (by omega)]; decide)
  have hd0 : decide ((40 : Int) < (n0 : Int)) = false := decide_eq_false (by omega)
  have hd1 : decide ((40 : Int) < (n1 : Int)) = false := decide_eq_false (by omega)
  clear hx hy hx8 hy8
  go_enter Try.func4, Try.ntmps4
  go_wp2_with fail
  refine HN.out.mono ?_
  rintro e w1 ⟨p, gl, M, v, rfl, hD1, hb1⟩
  have D1 := Lib.hid hD1
  have B1 := Lib.hid hb1
  clear hD1 hb1 HN hd0 hd1
  go_wp2_with fail
  go_loopw [39] (fun iv wr => ∃ (i : Nat) (D : DSt) (v : Value), iv = .int .i64 i ∧ i ≤ n0 ∧ Hid (Eight none i i D) ∧ Hid (IsDisk w.heap.size wr p gl M v D) ∧ Hid (Below w.heap.size w wr)) (fun iv _ => n0 - (intOf iv).toNat)
  case atStart => exact ⟨0, _, v, rfl, Nat.zero_le _, Lib.hid ⟨rfl, rfl, rfl, rfl, fun l h => by cases h⟩, D1, B1⟩
  case round =>
    obtain ⟨i, D, v, rfl, hin, HE, HD, HB⟩ := hrel
    by_cases hlt : i < n0
    · obtain ⟨ab, ao, rfl, hbl, hcx⟩ := (HX.out.keep HB.out).block (by omega)
      obtain ⟨x, hx⟩ : ∃ x, x = xs.getD i 0 := ⟨_, rfl⟩
      have hxb : x < 256 := by rw [hx]; exact HX8.out i
      have hc := hcx i hlt
      rw [← hx] at hc
      obtain ⟨q, hq⟩ : ∃ q, q = i % 8 := ⟨_, rfl⟩
      have hq8 : q < 8 := by omega
      have hqi : (i : Int) % 8 = (q : Int) := by omega
      have hqt : (i : Int).tmod 8 = (q : Int) := by rw [Int.tmod_eq_emod_of_nonneg (by omega)]; exact hqi
      have HF := Lib.hid (fun W => law_Fill x W hxb)
      obtain ⟨a1', a2'⟩ := eight_write HE.out hq8 (secOf x) (secOf_len _)
      have A1 := Lib.hid a1'
      have A2 := Lib.hid a2'
      have SM := Lib.hid (eight_small HE.out (by omega) (by omega))
      have hd : decide ((i : Int) < (n0 : Int)) = true := decide_eq_true (by omega)
      clear hx hcx hbl hq a1' a2' hq8
      go_wp2_with fail
      refine (HF.out _).mono ?_
      rintro e w4 ⟨rfl, hb4⟩
      have D4 := Lib.hid (HD.out.keep hb4)
      have B4 := Lib.hid (HB.out.trans (hb4.mono HB.out.size))
      have HW := Lib.hid (disk_Write _ _ p gl M v _ (q : Int) (secOf x) D4.out SM.out B4.out.size (by rw [secOf_len]; omega))
      rw [A1.out] at HW
      clear hb4 hc
      go_wp2_with fail
      refine HW.out.mono ?_
      rintro e w5 ⟨rfl, v5, h5, hb5, _⟩
      have D5 := Lib.hid h5
      have B5 := Lib.hid (B4.out.trans hb5)
      clear h5 hb5 HW
      go_wp2_with fail
      go_roundw
      case rel => exact ⟨i + 1, _, v5, by go_num, by omega, A2, D5, B5⟩
      case measure => simp [intOf]; omega
    · obtain rfl : n0 = i := by omega
      have SM := Lib.hid (eight_small HE.out (by omega) (by omega))
      have HSY := Lib.hid (disk_Sync _ _ p gl M v D HD.out SM.out HB.out.size)
      have e1 : syD D = (synced D, 0) := by unfold syD; rw [fires_zero HE.out.2.1, if_neg (by simp)]
      rw [e1] at HSY
      clear e1
      obtain ⟨L, hL⟩ : ∃ L, L = (synced D).lasts := ⟨_, rfl⟩
      have HL8 : Hid (L.length = 8) := Lib.hid (by rw [hL]; show (settle D.lasts D.waits).length = 8; rw [settle_len]; exact HE.out.1)
      have HE2 : Hid (Eight (some L) 0 (n0 + 1) (synced D)) := Lib.hid ⟨by rw [← hL]; exact HL8.out, HE.out.2.1, rfl, by show D.ops + 1 = _; rw [HE.out.2.2.2.1], fun l h => by injection h with h; rw [← h, hL]⟩
      have HDW : Hid ((synced D).waits = []) := Lib.hid rfl
      obtain ⟨Ds, hDs⟩ : ∃ Ds, Ds = synced D := ⟨_, rfl⟩
      rw [← hDs] at HSY HE2 HDW hL
      have HLL := Lib.hid hL
      clear hDs hL HE
      go_wp2_with fail
      refine HSY.out.mono ?_
      rintro e w4 ⟨rfl, v4, h4, hb4, _⟩
      have D4 := Lib.hid h4
      have B4 := Lib.hid (HB.out.trans hb4)
      have HWT := Lib.hid (disk_Waiting _ _ p gl M v4 Ds D4.out)
      rw [HE2.out.2.2.1] at HWT
      clear h4 hb4 HSY
      go_wp2_with fail
      refine HWT.out.mono ?_
      rintro e w5 ⟨rfl, rfl⟩
      clear HWT HD HB
      go_wp2_with fail
      go_loopw [9, 60] (fun sx iv wr => ∃ (i : Nat) (sv : Value), sv = sx ∧ iv = .int .i64 i ∧ i ≤ 8 ∧ Hid (wr.ownsRow w.heap.size 9 1 sv (L.take i).length (strsV (L.take i))) ∧ Hid (IsDisk w.heap.size wr p gl M v4 Ds) ∧ Hid (Below w.heap.size w wr)) (fun _ iv _ => 8 - (intOf iv).toNat)
      case atStart => exact ⟨0, _, rfl, rfl, Nat.zero_le _, Lib.hid (World.ownsRow_nil _ _ _ _), D4, B4⟩
      case round =>
        obtain ⟨i, sv, rfl, rfl, hi8, HO, HD, HB⟩ := hrel
        by_cases hlt : i < 8
        · have HR := Lib.hid (disk_Read _ _ p gl M v4 Ds (i : Int) HD.out)
          rw [read_dry HDW.out (by rw [HE2.out.1]; exact hlt), ← HLL.out] at HR
          obtain ⟨t, ht⟩ : ∃ t, t = L.getD i [] := ⟨_, rfl⟩
          rw [← ht] at HR
          have HT : Hid (L.take (i + 1) = L.take i ++ [t]) := Lib.hid (by
            rw [ht, List.take_succ_eq_append_getElem (by rw [HL8.out]; exact hlt), List.getD_eq_getElem?_getD, List.getElem?_eq_getElem (by rw [HL8.out]; exact hlt)]; rfl)
          have HTL : Hid ((L.take i).length = i) := Lib.hid (by rw [List.length_take, HL8.out]; omega)
          have hd : decide ((i : Int) < 8) = true := decide_eq_true (by omega)
          have HI := Lib.hid hlt
          have hiw1 : IntKind.i64.wrap ((i : Int) + 1) = (i : Int) + 1 := IntWalk.i64_in _ (by omega)
          clear ht hlt hi8
          go_wp2_with fail
          refine HR.out.mono ?_
          rintro e w6 ⟨rfl, rfl⟩
          go_wp2_with (at_builtin; refine wpList_append_own _ rfl _ _ 28 rfl w.heap.size 9 i0 (.string ⟨#[]⟩) 1 16 Try.underlying28 hi hz0 hz1 hz2 rfl (by decide) _ _ _ rfl (HO.out.alloc _) ⟨wr.heap.size, 0, none⟩ 1 1 [.string (bs t)] rfl rfl (World.news_of_block (cs := #[.string (bs t)]) (heap_alloc_new wr _)) (by intro u hu; simp at hu; subst hu; rfl) (by rw [HTL.out]; have := HI.out; simp only [maxLen]; omega) (by rw [HTL.out]; have := HI.out; omega) (Nat.le_trans HB.out.size (grow1 _ _)) ?_; intro v6 w6 hown6 hgr6 hni6; have OW6 := Lib.hid hown6; have GR6 := Lib.hid hgr6; clear hown6 hgr6 hni6)
          have HROW : Hid (∀ g, sv.ownBlock = some g → ∃ T cs, Blk (wr.alloc (.cells #[.string (bs t)] 9)) g T cs ∧ T ≠ 61 ∧ T ≠ 73 ∧ T ≠ 75) := Lib.hid (fun g e => by
            rcases HO.out.2 with ⟨e1, _⟩ | ⟨g', c', cur, e1, _, hh, _⟩
            · rw [e1] at e; cases e
            · rw [e1] at e
              injection e with e
              subst e
              have hb : Blk wr g' 9 cur.toList := by unfold Blk; rw [Array.toArray_toList]; exact hh
              exact ⟨_, _, hb.alloc _, by decide, by decide, by decide⟩)
          have D6 := Lib.hid ((HD.out.keep ((Below.refl _ _).alloc (Nat.le_refl _) (.cells #[.string (bs t)] 9))).grown GR6.out HROW.out)
          have B6 : Hid (Below w.heap.size w w6) := Lib.hid ((HB.out.alloc HB.out.size (.cells #[.string (bs t)] 9)).grown GR6.out (Nat.le_trans HB.out.size (grow1 _ _)) (fun g e => (HO.out.lt g e).1))
          have O6 : Hid (w6.ownsRow w.heap.size 9 1 v6 (L.take (i + 1)).length (strsV (L.take (i + 1)))) := Lib.hid (by
            rw [HT.out, List.length_append]
            unfold strsV
            rw [List.map_append]
            exact OW6.out)
          have hi8 : i < 8 := HI.out
          clear HR
          go_wp2_with fail
          go_roundw
          case rel => exact ⟨i + 1, v6, rfl, by go_num, by omega, O6, D6, B6⟩
          case measure => simp [intOf]; omega
        · obtain rfl : i = 8 := by omega
          have hd : decide (((8 : Nat) : Int) < 8) = false := by decide
          have O8 : Hid (wr.ownsRow w.heap.size 9 1 sv 8 (strsV L)) := Lib.hid (by
            have h := HO.out
            rw [List.take_of_length_le (by rw [HL8.out]; exact Nat.le_refl _), HL8.out] at h
            exact h)
          have h8 := O8.out
          obtain ⟨gs, caps, rfl, _, _⟩ := h8.form (by omega)
          have HC8 : Hid (∃ cs : List Value, Blk wr gs 9 cs ∧ 8 ≤ caps ∧ ∀ j, j < 8 → cs[j]? = some (.string (bs (L.getD j [])))) := Lib.hid (by
            rcases h8.2 with ⟨e1, _⟩ | ⟨g', c', cur, e1, _, hh, hcap, _, _, htk⟩
            · cases e1
            · injection e1 with e1 _ e2
              injection e1 with e1
              injection e1 with e1
              subst e1 e2
              refine ⟨cur.toList, by unfold Blk; rw [Array.toArray_toList]; exact hh, hcap, fun j hj => ?_⟩
              have e3 : (cur.toList.take (8 * 1))[j]? = (strsV L)[j]? := by rw [htk]
              rw [List.getElem?_take_of_lt (by omega)] at e3
              rw [e3]
              unfold strsV
              rw [List.getElem?_map, List.getElem?_eq_getElem (by rw [HL8.out]; exact hj), List.getD_eq_getElem?_getD, List.getElem?_eq_getElem (by rw [HL8.out]; exact hj)]
              rfl)
          obtain ⟨cs, hcs1, hcs2, hcs3⟩ := HC8.out
          have G8 := Lib.hid hcs1
          have GC := Lib.hid hcs3
          have hcap8 : 8 ≤ caps := hcs2
          clear h8 hcs1 hcs2 hcs3 HC8 O8 HO hi8 hlt
          go_wp2_with fail
          go_loopw [76] (fun iv wr => ∃ (i : Nat) (D : DSt) (v : Value), iv = .int .i64 i ∧ i ≤ n1 ∧ Hid (Eight (some L) i (n0 + 1 + i) D) ∧ Hid (IsDisk w.heap.size wr p gl M v D) ∧ Hid (Blk wr gs 9 cs) ∧ Hid (Below w.heap.size w wr)) (fun iv _ => n1 - (intOf iv).toNat)
          case atStart => exact ⟨0, Ds, v4, rfl, Nat.zero_le _, HE2, HD, G8, HB⟩
          case round =>
            obtain ⟨i, D, v, rfl, hin, HE, HD, HG, HB⟩ := hrel
            by_cases hlt : i < n1
            · obtain ⟨ab, ao, rfl, hbl, hcx⟩ := (HY.out.keep HB.out).block (by omega)
              obtain ⟨x, hx⟩ : ∃ x, x = ys.getD i 0 := ⟨_, rfl⟩
              have hxb : x < 256 := by rw [hx]; exact HY8.out i
              have hc := hcx i hlt
              rw [← hx] at hc
              obtain ⟨q, hq⟩ : ∃ q, q = x % 8 := ⟨_, rfl⟩
              have hq8 : q < 8 := by omega
              have hqi : (x : Int) % 8 = (q : Int) := by omega
              have hqt : (x : Int).tmod 8 = (q : Int) := by rw [Int.tmod_eq_emod_of_nonneg (by omega)]; exact hqi
              have hxw : IntKind.i64.wrap (x : Int) = (x : Int) := IntWalk.i64_in _ (by omega)
              have hiw : IntKind.u8.wrap (i : Int) = (i : Int) := by
                have e : IntKind.u8.wrap (i : Int) = (i : Int) % 256 := by simp [IntKind.wrap, IntKind.bits, IntKind.signed]
                rw [e]; omega
              have HF := Lib.hid (fun W => law_Fill i W (by omega))
              obtain ⟨a1', a2'⟩ := eight_write HE.out hq8 (secOf i) (secOf_len _)
              have A1 := Lib.hid a1'
              have A2 := Lib.hid a2'
              have SM := Lib.hid (eight_small HE.out (by omega) (by omega))
              have hd : decide ((i : Int) < (n1 : Int)) = true := decide_eq_true (by omega)
              clear hx hcx hbl hq a1' a2' hq8
              go_wp2_with fail
              refine (HF.out _).mono ?_
              rintro e w4 ⟨rfl, hb4⟩
              have D4 := Lib.hid (HD.out.keep hb4)
              have B4 := Lib.hid (HB.out.trans (hb4.mono HB.out.size))
              have G4 := Lib.hid (HG.out.keep hb4)
              have HW := Lib.hid (disk_Write _ _ p gl M v _ (q : Int) (secOf i) D4.out SM.out B4.out.size (by rw [secOf_len]; omega))
              rw [A1.out] at HW
              clear hb4 hc
              go_wp2_with fail
              refine HW.out.mono ?_
              rintro e w5 ⟨rfl, v5, h5, hb5, hk5⟩
              have D5 := Lib.hid h5
              have B5 := Lib.hid (B4.out.trans hb5)
              have G5 := Lib.hid (hk5 gs 9 cs (by decide) (by decide) (by decide) G4.out)
              clear h5 hb5 hk5 HW
              go_wp2_with fail
              try simp only [Act.put, List.setIfInBounds_toArray, List.set_cons_succ, List.set_cons_zero]
              go_roundw
              case rel => exact ⟨_, _, _, _, _, _, _, _, _, _, _, _, _, _, _, _, ⟨i + 1, _, v5, by go_num, by omega, A2, D5, G5, B5⟩, rfl⟩
              case measure => simp [intOf]; omega
            · obtain rfl : n1 = i := by omega
              clear D4 B4 G8
              go_wp2_with (at_make; refine wpList_make_full _ rfl _ _ 33 rfl wr.heap.size 4 ib (.bool false) 1 Try.underlying33 hib hbz0 hbz1 .i64 .i64 _ _ n1 rfl rfl rfl rfl (by rw [hbz2]; omega) (by simp only [maxLen]; omega) (Nat.le_refl _) ?_; intro w4 hown hgr; have G0 := Lib.hid hown; have GR := Lib.hid hgr; clear hown hgr)
              have G1 : Hid (Blk w4 wr.heap.size 4 (List.replicate n1 (.bool false))) := Lib.hid (Blk.of_make G0.out (by omega))
              have W5 : Hid (Below w.heap.size w w4) := Lib.hid (HB.out.grown GR.out HB.out.size (fun k hk => by cases hk))
              have W6 : Hid (Below wr.heap.size wr w4) := Lib.hid ((Below.refl wr.heap.size wr).grown GR.out (Nat.le_refl _) (fun k hk => by cases hk))
              have W7 : Hid (IsDisk w.heap.size w4 p gl M v D) := Lib.hid (HD.out.keep W6.out)
              have W8 : Hid (Blk w4 gs 9 cs) := Lib.hid (HG.out.keep W6.out)
              have HC := Lib.hid (disk_Crash w.heap.size w4 p gl M v D (some ⟨wr.heap.size, 0, none⟩) n1 n1 (List.replicate n1 false) W7.out (fun w' _ hk => by
                have hb := hk _ _ _ (by decide) (by decide) (by decide) G1.out
                refine ⟨List.length_replicate, fun hp => ⟨wr.heap.size, 0, rfl, fun j hj => ?_⟩⟩
                rw [Nat.zero_add, hb.cell, List.getElem?_replicate, if_pos hj, List.getD_eq_getElem?_getD, List.getElem?_replicate, if_pos hj]
                rfl) (by omega) (by rw [HE.out.2.2.1]; omega) W5.out.size)
              obtain ⟨D2, hD2⟩ : ∃ D2, D2 = crashed D (List.replicate n1 false) := ⟨_, rfl⟩
              have HD2W : Hid (D2.waits = []) := Lib.hid (by rw [hD2]; rfl)
              have HD2L : Hid (D2.lasts = L) := Lib.hid (by
                rw [hD2]
                show settleK D.lasts (D.waits.zip (List.replicate n1 false)) = L
                rw [settleK_false _ (fun z hz => (List.mem_replicate.1 (List.of_mem_zip hz).2).2)]
                exact HE.out.2.2.2.2 _ rfl)
              rw [← hD2] at HC
              clear hD2 G0 GR HE HD HB HG W6 W7
              go_wp2_with fail
              refine HC.out.mono ?_
              rintro e w5 ⟨rfl, v5, h5, hb5, hk5⟩
              have D5 := Lib.hid h5
              have B5 := Lib.hid (W5.out.trans hb5)
              have G5 := Lib.hid (hk5 gs 9 cs (by decide) (by decide) (by decide) W8.out)
              clear h5 hb5 hk5 HC
              go_wp2_with fail
              go_loopw [95] (fun iv wr => ∃ (i : Nat), iv = .int .i64 i ∧ i ≤ 8 ∧ Hid (IsDisk w.heap.size wr p gl M v5 D2) ∧ Hid (Blk wr gs 9 cs) ∧ Hid (Below w.heap.size w wr)) (fun iv _ => 8 - (intOf iv).toNat)
              case atStart => exact ⟨0, rfl, Nat.zero_le _, D5, G5, B5⟩
              case round =>
                obtain ⟨i, rfl, hi8, HD, HG, HB⟩ := hrel
                by_cases hlt : i < 8
                · have HR := Lib.hid (disk_Read _ _ p gl M v5 D2 (i : Int) HD.out)
                  rw [read_dry HD2W.out (by rw [HD2L.out, HL8.out]; exact hlt), HD2L.out] at HR
                  obtain ⟨t, ht⟩ : ∃ t, t = L.getD i [] := ⟨_, rfl⟩
                  rw [← ht] at HR
                  have hc : wr.cell? ⟨gs, i, none⟩ = some (.string (bs t)) := by rw [HG.out.cell, GC.out i hlt, ← ht]
                  have hd : decide ((i : Int) < 8) = true := decide_eq_true (by omega)
                  have hiw1 : IntKind.i64.wrap ((i : Int) + 1) = (i : Int) + 1 := IntWalk.i64_in _ (by omega)
                  have hss : (bs t != bs t) = false := by show (!(bs t == bs t)) = false; rw [bs_beq]; simp
                  clear ht
                  go_wp2_with fail
                  refine HR.out.mono ?_
                  rintro e w6 ⟨rfl, rfl⟩
                  clear HR
                  go_wp2_with fail
                  go_roundw
                  case rel => exact ⟨i + 1, by go_num, by omega, HD, HG, HB⟩
                  case measure => simp [intOf]; omega
                · obtain rfl : i = 8 := by omega
                  have hd : decide (((8 : Nat) : Int) < 8) = false := by decide
                  have HWT := Lib.hid (disk_Waiting _ _ p gl M v5 D2 HD.out)
                  rw [HD2W.out] at HWT
                  clear hlt hi8
                  go_wp2_with fail
                  refine (HA.out _).mono ?_
                  rintro e w6 ⟨rfl, hb6⟩
                  have D6 := Lib.hid (HD.out.keep hb6)
                  have B6 := Lib.hid (HB.out.trans (hb6.mono HB.out.size))
                  have HWT := Lib.hid (disk_Waiting _ _ p gl M v5 D2 D6.out)
                  rw [HD2W.out] at HWT
                  clear hb6
                  go_wp2_with fail
                  refine HWT.out.mono ?_
                  rintro e w7 ⟨rfl, rfl⟩
                  go_wp2_with fail
                  go_ret
                  exact ⟨rfl, B6.out⟩

set_option maxHeartbeats 1000000 in
theorem diskLasts_walk (a0 : Option Addr) (len0 cap0 : Nat) (z0 : List Int) (a1 : Option Addr) (len1 cap1 : Nat) (z1 : List Int) (w : World) (w0 : RowOf .u8 w a0 len0 cap0 z0) (w1 : RowOf .u8 w a1 len1 cap1 z1) :
    Calls Try.prog 4 #[.slice a0 len0 cap0, .slice a1 len1 cap1] w fun e w' => e = .returned (.bool true) ∧ Below w.heap.size w w' := by
  obtain ⟨xs, hx, hx8⟩ := w0.sl8
  obtain ⟨ys, hy, hy8⟩ := w1.sl8
  by_cases h : 40 < len0 ∨ 40 < len1
  · exact (lasts_idle a0 len0 cap0 a1 len1 cap1 w h (by have h2 := hx.2.1; have h3 := hx.2.2.1; omega) (by have h2 := hy.2.1; have h3 := hy.2.2.1; omega))
  · exact (lasts_main a0 len0 cap0 a1 len1 cap1 xs ys w hx hx8 hy hy8 (by omega) (by omega))

end Go.Proofs.Ytciophpplpmmfaa
