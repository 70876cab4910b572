/- Contracts of Sync where it fails, and of Crash. -/
import Derived.Test.YtbigpapniloknaaDoorDiskD
namespace Go.Proofs.YtbigpapniloknaaDoor
open Go.RowKit Go.Maps Go.ChangeMaps Go.MapKept

set_option maxHeartbeats 1000000 in
theorem disk_Sync_bad (base : Nat) (w : World) (p gl M : Nat) (v : Value) (D : DSt) (h : IsDisk base w p gl M v D) (ha : ArmOk D) (hf : (fires D).2 = true) :
    Calls Tryd.prog 31 #[.pointer (some ⟨p, 0, none⟩)] w fun e w' => e = .returned (.int .i64 7) ∧ IsDisk base w' p gl M v (fires D).1 ∧ Below base w w' ∧ Keeps w w' := by
  have HG := Lib.hid (disk_goesOff base w p gl M v D h ha)
  rw [hf] at HG
  clear h hf
  go_enter Tryd.func31, Tryd.ntmps31
  go_wp2_with fail
  refine HG.out.mono ?_
  rintro e w1 ⟨rfl, h1, hb1, hk1⟩
  go_wp2_with fail
  go_ret
  exact ⟨rfl, h1, hb1, hk1⟩

/-- What is kept of the writes that wait. -/
def settleK (ls : List (List UInt8)) (zs : List ((Nat × List UInt8) × Bool)) : List (List UInt8) := zs.foldl (fun l z => if z.2 then l.set z.1.1 z.1.2 else l) ls
theorem settleK_len (zs : List ((Nat × List UInt8) × Bool)) : ∀ ls, (settleK ls zs).length = ls.length := by
  induction zs with
  | nil => intro ls; rfl
  | cons x r ih =>
    intro ls
    show (settleK (if x.2 then ls.set x.1.1 x.1.2 else ls) r).length = _
    rw [ih]
    split
    · rw [List.length_set]
    · rfl
theorem settleK_take (ls : List (List UInt8)) (ws : List (Nat × List UInt8)) (ks : List Bool) (k : Nat) (h : k < ws.length) (h2 : k < ks.length) :
    settleK ls ((ws.zip ks).take (k + 1)) = if ks.getD k false = true then (settleK ls ((ws.zip ks).take k)).set (ws.getD k (0, [])).1 (ws.getD k (0, [])).2 else settleK ls ((ws.zip ks).take k) := by
  have hz : k < (ws.zip ks).length := by rw [List.length_zip]; omega
  unfold settleK
  have e1 : ws.getD k (0, []) = ws[k] := by rw [List.getD_eq_getElem?_getD, List.getElem?_eq_getElem h]; rfl
  have e2 : ks.getD k false = ks[k] := by rw [List.getD_eq_getElem?_getD, List.getElem?_eq_getElem h2]; rfl
  rw [List.take_succ_eq_append_getElem hz, List.foldl_append, List.getElem_zip, e1, e2]
  rfl
/-- What a crash leaves. -/
def crashed (D : DSt) (ks : List Bool) : DSt := { D with lasts := settleK D.lasts (D.waits.zip ks), waits := [] }

/-- A slice of bools. -/
def KSl (w : World) (A : Option Addr) (n : Nat) (ks : List Bool) : Prop := ks.length = n ∧ (0 < n → ∃ b off, A = some ⟨b, off, none⟩ ∧ ∀ j, j < n → w.cell? ⟨b, off + j, none⟩ = some (.bool (ks.getD j false)))

set_option maxHeartbeats 4000000 in
set_option maxRecDepth 100000 in
theorem disk_Crash_a (base : Nat) (w : World) (p gl M : Nat) (v : Value) (D1 : DSt) (K : Option Addr) (kn kc : Nat) (ks : List Bool) (h : IsDisk base w p gl M v D1) (hks : ∀ w', Below base w w' → Keeps w w' → KSl w' K kn ks) (hkn : kn ≤ 1000000) (hw : D1.waits.length ≤ 1000000) (hbs : base ≤ w.heap.size) (hmk : D1.waits.length < kn) :
    Calls Tryd.prog 11 #[.pointer (some ⟨p, 0, none⟩), .slice K kn kc] w fun e w' => e = .returned (.tuple #[]) ∧ ∃ v', IsDisk base w' p gl M v' (crashed D1 ks) ∧ Below base w w' ∧ Keeps w w' := by
  obtain ⟨Z, hZ, hzw⟩ := zeroW
  have hu75 := Tryd.underlying82
  have hu73 := Tryd.underlying80
  have hs75 := sizeWrite
  have hs73 := sizeSector
  obtain ⟨c0, c1, c2, c3, c4⟩ := h.1.five
  obtain ⟨A, c, rfl⟩ := h.2.2.1.form
  have hnc : D1.waits.length ≤ c := by
    rcases h.2.2.1 with ⟨e, _⟩ | ⟨_, h2⟩
    · rw [e]; exact Nat.zero_le _
    · rcases h2.2 with ⟨e, _⟩ | ⟨g', cap, cur, e, _, _, hc, _⟩
      · injection e with _ e1 _; rw [e1]; exact Nat.zero_le _
      · injection e with _ _ e2; rw [e2]; exact hc
  have HKS := Lib.hid hks
  have HL0 : Hid (ks.length = kn) := Lib.hid (hks w (Below.refl _ _) (Keeps.refl _)).1
  have H1 := Lib.hid h
  obtain ⟨m, hm⟩ : ∃ m, m = D1.waits.length := ⟨_, rfl⟩
  rw [← hm] at c1 hnc hw hmk
  have HM := Lib.hid hm
  have hdm : decide ((m : Int) < (kn : Int)) = true := decide_eq_true (by omega)
  have hnk : m ≤ kn := by omega
  have hnm : m ≤ m := by omega
  have hn2 : m ≤ 1000000 := by omega
  have hn3 : m ≤ c := by omega
  have HNN : Hid (m = min kn m) := Lib.hid (by omega)
  clear h hks hm hdm
  go_enter Tryd.func11, Tryd.ntmps11
  go_wp2_with fail
  go_loopw [23] (fun iv wr => ∃ k : Nat, iv = .int .i64 k ∧ k ≤ m ∧ Hid (IsDisk base wr p gl M (.slice A m c) { D1 with lasts := settleK D1.lasts ((D1.waits.zip ks).take k) }) ∧ Hid (Below base w wr) ∧ Hid (Keeps w wr)) (fun iv _ => m - (intOf iv).toNat)
  case atStart => exact ⟨0, rfl, Nat.zero_le _, Lib.hid (by rw [HM.out]; exact H1.out), Lib.hid (Below.refl _ _), Lib.hid (Keeps.refl _)⟩
  case round =>
    obtain ⟨k, rfl, hk, HD, HB, HK⟩ := hrel
    obtain ⟨d0, d1, d2, d3, d4⟩ := HD.out.1.five
    by_cases hlt : k < m
    · obtain ⟨g, cw, hv, hcw, hat, hal, hcw0⟩ := at_wait HD.out (j := k) (by simp only; rw [← HM.out]; omega)
      injection hv with hA hnn hcc
      clear hnn
      subst hA hcc
      have hkx : k < D1.waits.length := by rw [← HM.out]; omega
      obtain ⟨x, hx⟩ : ∃ x, x = D1.waits.getD k (0, []) := ⟨_, rfl⟩
      have hx1 : x.1 < D1.lasts.length ∧ x.2.length = 128 := by
        have := HD.out.2.2.2.2.1.2.2.2 x (by rw [hx, List.getD_eq_getElem?_getD, List.getElem?_eq_getElem hkx]; exact List.getElem_mem hkx)
        simp only [settleK_len] at this
        exact this
      have hrg : wr.rangeAt g (k * 129) (wrCells x) := by
        intro j u hj
        have hok : ∀ y ∈ D1.waits, y.2.length = 128 := fun y hy => (HD.out.2.2.2.2.1.2.2.2 y hy).2
        have hj2 : j < 129 := by
          have := (List.getElem?_eq_some_iff.1 hj).1
          rw [wrCells_len hx1.2] at this; exact this
        rcases HD.out.2.2.1 with ⟨e, _⟩ | ⟨h1, h2⟩
        · simp only at e; rw [e] at hkx; cases hkx
        · simp only at h2
          have e : x = D1.waits[k] := by rw [hx, List.getD_eq_getElem?_getD, List.getElem?_eq_getElem hkx]; rfl
          have hjb : k * 129 + 129 ≤ D1.waits.length * 129 := by have := Nat.mul_le_mul_right 129 hkx; rw [Nat.succ_mul] at this; exact this
          have h3 : wr.ownsRow base 82 129 (.slice (some ⟨g, 0, none⟩) D1.waits.length c) D1.waits.length (flatW D1.waits) := by rw [← HM.out] at h2 ⊢; exact h2
          rw [h3.cellAt (k * 129 + j) (by omega), flatW_get hok hkx hj2, ← e]
          exact hj
      have HRG := Lib.hid hrg
      have hsx : (Tryd.prog.info? 82).map (·.size) = some (wrCells x).length := by rw [wrCells_len hx1.2]; exact hs75
      have HX := Lib.hid hx1
      have HXX := Lib.hid hx
      have NW := Lib.hid (heap_alloc_new wr (.cells Z 82))
      have hdk : decide ((k : Int) < (m : Int)) = true := decide_eq_true (by omega)
      have HKX := Lib.hid hkx
      obtain ⟨kb, ko, rfl, hkc0⟩ := (HKS.out wr HB.out HK.out).2 (by omega)
      have HB2 : Hid (Below base w (wr.alloc (.cells (wrCells x).toArray 82))) := Lib.hid (HB.out.alloc (Nat.le_trans hbs HB.out.size) _)
      have HK2 : Hid (Keeps w (wr.alloc (.cells (wrCells x).toArray 82))) := Lib.hid (HK.out.trans (Keeps.of_below ((Below.refl wr.heap.size wr).alloc (Nat.le_refl _) _)))
      have HKC : Hid (((wr.alloc (.cells Z 82)).setRow wr.heap.size (wrCells x).toArray).cell? ⟨kb, ko + k, none⟩ = some (.bool (ks.getD k false))) := Lib.hid (by
        rw [World.setRow_alloc_new]
        obtain ⟨b', o', e, hc⟩ := (HKS.out _ HB2.out HK2.out).2 (by omega)
        injection e with e
        injection e with e1 e2 _
        subst e1 e2
        exact hc k (by omega))
      have hkn0 : k < kn := by omega
      clear hat hal hcw0 hcw hrg hx hx1 hkx hkc0
      cases hbb : ks.getD k false with
      | true =>
        have HKB : Hid (ks.getD k false = true) := Lib.hid hbb
        have hkc := HKC.out
        rw [hbb] at hkc
        clear hbb HKC
        go_wp2_with (first
          | (refine wpList_load_mid rfl _ _ rfl g (k * 129) rfl (wrCells x) _ HRG.out hu75 rfl hsx ?_)
          | (refine wpList_store_row rfl _ _ _ rfl wr.heap.size (wrCells x).toArray rfl rfl 82 Z NW.out (by rw [List.size_toArray]; exact hsx) (by rw [hZ, List.size_toArray, wrCells_len HX.out.2]) (all_oneCell_toArray (wr_oneCell x)) ?_))
        rw [World.setRow_alloc_new]
        obtain ⟨i, hi⟩ : ∃ i, i = x.1 := ⟨_, rfl⟩
        obtain ⟨cs, hcs⟩ : ∃ cs, cs = nums .u8 (nb x.2) := ⟨_, rfl⟩
        have hcl : cs.length = 128 := by rw [hcs, nums_length, nb_len]; exact HX.out.2
        have hc1 : ∀ u ∈ cs, u.oneCell' = true := by rw [hcs]; exact nums_oneCell _
        have hsc : (Tryd.prog.info? 80).map (·.size) = some cs.length := by rw [hcl]; exact hs73
        have NB : Hid (Blk (wr.alloc (.cells (wrCells x).toArray 82)) wr.heap.size 82 (.int .i64 (i : Int) :: cs)) := Lib.hid (by rw [hi, hcs]; exact heap_alloc_new wr _)
        have HD2 := Lib.hid (HD.out.keep (((Below.refl wr.heap.size wr).alloc (Nat.le_refl _) (.cells (wrCells x).toArray 82)).drew))
        have hiL : i < D1.lasts.length := by rw [hi]; exact HX.out.1
        have HL : Hid (({ D1 with lasts := settleK D1.lasts ((D1.waits.zip ks).take k) } : DSt).lasts.length = D1.lasts.length) := Lib.hid (settleK_len _ _)
        obtain ⟨N, hN⟩ : ∃ N, N = D1.lasts.length := ⟨_, rfl⟩
        have HSET := Lib.hid (HD2.out.setL (i := i) (by rw [HL.out]; exact hiL) (t := x.2) HX.out.2)
        rw [← hcs] at HSET
        have HNX : Hid ({ D1 with lasts := settleK D1.lasts ((D1.waits.zip ks).take (k + 1)) } = ({ ({ D1 with lasts := settleK D1.lasts ((D1.waits.zip ks).take k) } : DSt) with lasts := (settleK D1.lasts ((D1.waits.zip ks).take k)).set i x.2 } : DSt)) := Lib.hid (by
          rw [settleK_take _ _ _ _ HKX.out (by rw [HL0.out]; omega), if_pos HKB.out, ← HXX.out, hi])
        have hNb : (N : Int) ≤ 4096 := by
          have := HD.out.2.2.2.2.1.2.1
          rw [HL.out] at this
          omega
        have hiN : i < N := by rw [hN]; exact hiL
        have HNE : Hid (wr.heap.size ≠ gl) := Lib.hid (fun e => by have := HD.out.2.1.lt; omega)
        have HNP : Hid (p ≠ gl) := Lib.hid (HD.out.1.ne_ HD.out.2.1 (by decide))
        have HS0 : Hid ((wr.alloc (.cells (wrCells x).toArray 82)).drew.cell? ⟨p, 0, none⟩ = some (.slice (some ⟨gl, 0, none⟩) N N) ∧ (wr.alloc (.cells (wrCells x).toArray 82)).drew.cell? ⟨wr.heap.size, 0, none⟩ = some (.int .i64 (i : Int)) ∧
            (wr.alloc (.cells (wrCells x).toArray 82)).drew.rangeAt wr.heap.size 1 cs ∧ (wr.alloc (.cells (wrCells x).toArray 82)).drew.there gl (i * 128) 128) := Lib.hid (by
          refine ⟨?_, NB.out.cell0', fun j u hj => ?_, fun j hj => ?_⟩
          · have := HD2.out.1.five.1
            rw [HL.out, ← hN] at this
            exact this
          · have := NB.out.cell (1 + j)
            rw [Nat.add_comm 1 j, List.getElem?_cons_succ, hj] at this
            rw [Nat.add_comm 1 j]
            exact this
          · obtain ⟨ha, hl⟩ := at_last HD2.out (i := i) (by rw [HL.out]; exact hiL)
            exact ⟨by rw [ha j (by rw [hl]; exact hj)]; rfl, HD2.out.2.1.frozen _⟩)
        have HS1 : Hid (((wr.alloc (.cells (wrCells x).toArray 82)).drew.setCells gl (i * 128) cs).cell? ⟨p, 0, none⟩ = some (.slice (some ⟨gl, 0, none⟩) N N) ∧ ((wr.alloc (.cells (wrCells x).toArray 82)).drew.setCells gl (i * 128) cs).cell? ⟨wr.heap.size, 0, none⟩ = some (.int .i64 (i : Int)) ∧
            ((wr.alloc (.cells (wrCells x).toArray 82)).drew.setCells gl (i * 128) cs).rangeAt wr.heap.size 1 cs ∧ ((wr.alloc (.cells (wrCells x).toArray 82)).drew.setCells gl (i * 128) cs).there gl (i * 128) 128) := Lib.hid (by
          obtain ⟨s1, s2, s3, s4⟩ := HS0.out
          refine ⟨?_, ?_, World.rangeAt_setCells_apart s3 gl (i * 128) cs (.inl HNE.out), World.there_setCells s4 gl (i * 128) cs⟩
          · rw [World.cell?_of_block (heap_setCells gl cs (i * 128) _ p HNP.out)]; exact s1
          · rw [World.cell?_of_block (heap_setCells gl cs (i * 128) _ wr.heap.size HNE.out)]; exact s2)
        clear hi hcs hN hiL d0 d1 d2 d3 d4
        go_region_held3 (fun w' => w'.cell? ⟨p, 0, none⟩ = some (.slice (some ⟨gl, 0, none⟩) N N) ∧ w'.cell? ⟨wr.heap.size, 0, none⟩ = some (.int .i64 (i : Int)) ∧ w'.rangeAt wr.heap.size 1 cs ∧ w'.there gl (i * 128) 128)
          (first | exact HS1.out | exact HS0.out)
          (fail)
        go_wp2_with fail
        go_roundw
        case rel =>
          refine ⟨k + 1, by go_num, by omega, Lib.hid ?_, Lib.hid ?_, Lib.hid ?_⟩
          · rw [HNX.out]; exact HSET.out.1
          · have hg : base ≤ gl := HD.out.2.2.2.2.2.2.1
            exact Below.setCells (HB.out.alloc (Nat.le_trans hbs HB.out.size) _).drew hg cs (i * 128)
          · exact HK.out.trans ((Keeps.of_below ((Below.refl wr.heap.size wr).alloc (Nat.le_refl _) (.cells (wrCells x).toArray 82)).drew).trans HSET.out.2)
        case measure => simp [intOf]; omega
      | false =>
        have HKB : Hid (¬ ks.getD k false = true) := Lib.hid (by rw [hbb]; decide)
        have hkc := HKC.out
        rw [hbb] at hkc
        clear hbb HKC
        go_wp2_with (first
          | (refine wpList_load_mid rfl _ _ rfl g (k * 129) rfl (wrCells x) _ HRG.out hu75 rfl hsx ?_)
          | (refine wpList_store_row rfl _ _ _ rfl wr.heap.size (wrCells x).toArray rfl rfl 82 Z NW.out (by rw [List.size_toArray]; exact hsx) (by rw [hZ, List.size_toArray, wrCells_len HX.out.2]) (all_oneCell_toArray (wr_oneCell x)) ?_))
        go_roundw
        case rel =>
          refine ⟨k + 1, by go_num, by omega, Lib.hid ?_, Lib.hid ?_, Lib.hid ?_⟩
          · rw [settleK_take _ _ _ _ HKX.out (by rw [HL0.out]; omega), if_neg HKB.out, World.setRow_alloc_new]
            exact HD.out.keep ((Below.refl wr.heap.size wr).alloc (Nat.le_refl _) _)
          · rw [World.setRow_alloc_new]; exact HB2.out
          · rw [World.setRow_alloc_new]; exact HK2.out
        case measure => simp [intOf]; omega
    · obtain rfl : m = k := by omega
      have HD' : Hid (IsDisk base wr p gl M (.slice A m c) { D1 with lasts := settleK D1.lasts (D1.waits.zip ks) }) := Lib.hid (by
        have h := HD.out
        rw [List.take_of_length_le (by rw [List.length_zip, HL0.out, ← HM.out]; have := HNN.out; omega)] at h
        exact h)
      have HE := Lib.hid (disk_empty base wr p gl M (.slice A m c) _ HD'.out)
      clear HD
      go_wp2_with fail
      refine HE.out.mono ?_
      rintro e w4 ⟨rfl, v4, h4, hb4, hk4⟩
      go_wp2_with fail
      go_end0
      exact ⟨rfl, v4, h4, HB.out.trans hb4, HK.out.trans hk4⟩

set_option maxHeartbeats 4000000 in
set_option maxRecDepth 100000 in
theorem disk_Crash_b (base : Nat) (w : World) (p gl M : Nat) (v : Value) (D1 : DSt) (K : Option Addr) (kn kc : Nat) (ks : List Bool) (h : IsDisk base w p gl M v D1) (hks : ∀ w', Below base w w' → Keeps w w' → KSl w' K kn ks) (hkn : kn ≤ 1000000) (hw : D1.waits.length ≤ 1000000) (hbs : base ≤ w.heap.size) (hmk : ¬ D1.waits.length < kn) :
    Calls Tryd.prog 11 #[.pointer (some ⟨p, 0, none⟩), .slice K kn kc] w fun e w' => e = .returned (.tuple #[]) ∧ ∃ v', IsDisk base w' p gl M v' (crashed D1 ks) ∧ Below base w w' ∧ Keeps w w' := by
  obtain ⟨Z, hZ, hzw⟩ := zeroW
  have hu75 := Tryd.underlying82
  have hu73 := Tryd.underlying80
  have hs75 := sizeWrite
  have hs73 := sizeSector
  obtain ⟨c0, c1, c2, c3, c4⟩ := h.1.five
  obtain ⟨A, c, rfl⟩ := h.2.2.1.form
  have hnc : D1.waits.length ≤ c := by
    rcases h.2.2.1 with ⟨e, _⟩ | ⟨_, h2⟩
    · rw [e]; exact Nat.zero_le _
    · rcases h2.2 with ⟨e, _⟩ | ⟨g', cap, cur, e, _, _, hc, _⟩
      · injection e with _ e1 _; rw [e1]; exact Nat.zero_le _
      · injection e with _ _ e2; rw [e2]; exact hc
  have HKS := Lib.hid hks
  have HL0 : Hid (ks.length = kn) := Lib.hid (hks w (Below.refl _ _) (Keeps.refl _)).1
  have H1 := Lib.hid h
  obtain ⟨m, hm⟩ : ∃ m, m = D1.waits.length := ⟨_, rfl⟩
  rw [← hm] at c1 hnc hw hmk
  have HM := Lib.hid hm
  have hdm : decide ((m : Int) < (kn : Int)) = false := decide_eq_false (by omega)
  have hnk : kn ≤ kn := by omega
  have hnm : kn ≤ m := by omega
  have hn2 : kn ≤ 1000000 := by omega
  have hn3 : kn ≤ c := by omega
  have HNN : Hid (kn = min kn m) := Lib.hid (by omega)
  clear h hks hm hdm
  go_enter Tryd.func11, Tryd.ntmps11
  go_wp2_with fail
  go_loopw [23] (fun iv wr => ∃ k : Nat, iv = .int .i64 k ∧ k ≤ kn ∧ Hid (IsDisk base wr p gl M (.slice A m c) { D1 with lasts := settleK D1.lasts ((D1.waits.zip ks).take k) }) ∧ Hid (Below base w wr) ∧ Hid (Keeps w wr)) (fun iv _ => kn - (intOf iv).toNat)
  case atStart => exact ⟨0, rfl, Nat.zero_le _, Lib.hid (by rw [HM.out]; exact H1.out), Lib.hid (Below.refl _ _), Lib.hid (Keeps.refl _)⟩
  case round =>
    obtain ⟨k, rfl, hk, HD, HB, HK⟩ := hrel
    obtain ⟨d0, d1, d2, d3, d4⟩ := HD.out.1.five
    by_cases hlt : k < kn
    · obtain ⟨g, cw, hv, hcw, hat, hal, hcw0⟩ := at_wait HD.out (j := k) (by simp only; rw [← HM.out]; omega)
      injection hv with hA hnn hcc
      clear hnn
      subst hA hcc
      have hkx : k < D1.waits.length := by rw [← HM.out]; omega
      obtain ⟨x, hx⟩ : ∃ x, x = D1.waits.getD k (0, []) := ⟨_, rfl⟩
      have hx1 : x.1 < D1.lasts.length ∧ x.2.length = 128 := by
        have := HD.out.2.2.2.2.1.2.2.2 x (by rw [hx, List.getD_eq_getElem?_getD, List.getElem?_eq_getElem hkx]; exact List.getElem_mem hkx)
        simp only [settleK_len] at this
        exact this
      have hrg : wr.rangeAt g (k * 129) (wrCells x) := by
        intro j u hj
        have hok : ∀ y ∈ D1.waits, y.2.length = 128 := fun y hy => (HD.out.2.2.2.2.1.2.2.2 y hy).2
        have hj2 : j < 129 := by
          have := (List.getElem?_eq_some_iff.1 hj).1
          rw [wrCells_len hx1.2] at this; exact this
        rcases HD.out.2.2.1 with ⟨e, _⟩ | ⟨h1, h2⟩
        · simp only at e; rw [e] at hkx; cases hkx
        · simp only at h2
          have e : x = D1.waits[k] := by rw [hx, List.getD_eq_getElem?_getD, List.getElem?_eq_getElem hkx]; rfl
          have hjb : k * 129 + 129 ≤ D1.waits.length * 129 := by have := Nat.mul_le_mul_right 129 hkx; rw [Nat.succ_mul] at this; exact this
          have h3 : wr.ownsRow base 82 129 (.slice (some ⟨g, 0, none⟩) D1.waits.length c) D1.waits.length (flatW D1.waits) := by rw [← HM.out] at h2 ⊢; exact h2
          rw [h3.cellAt (k * 129 + j) (by omega), flatW_get hok hkx hj2, ← e]
          exact hj
      have HRG := Lib.hid hrg
      have hsx : (Tryd.prog.info? 82).map (·.size) = some (wrCells x).length := by rw [wrCells_len hx1.2]; exact hs75
      have HX := Lib.hid hx1
      have HXX := Lib.hid hx
      have NW := Lib.hid (heap_alloc_new wr (.cells Z 82))
      have hdk : decide ((k : Int) < (kn : Int)) = true := decide_eq_true (by omega)
      have HKX := Lib.hid hkx
      obtain ⟨kb, ko, rfl, hkc0⟩ := (HKS.out wr HB.out HK.out).2 (by omega)
      have HB2 : Hid (Below base w (wr.alloc (.cells (wrCells x).toArray 82))) := Lib.hid (HB.out.alloc (Nat.le_trans hbs HB.out.size) _)
      have HK2 : Hid (Keeps w (wr.alloc (.cells (wrCells x).toArray 82))) := Lib.hid (HK.out.trans (Keeps.of_below ((Below.refl wr.heap.size wr).alloc (Nat.le_refl _) _)))
      have HKC : Hid (((wr.alloc (.cells Z 82)).setRow wr.heap.size (wrCells x).toArray).cell? ⟨kb, ko + k, none⟩ = some (.bool (ks.getD k false))) := Lib.hid (by
        rw [World.setRow_alloc_new]
        obtain ⟨b', o', e, hc⟩ := (HKS.out _ HB2.out HK2.out).2 (by omega)
        injection e with e
        injection e with e1 e2 _
        subst e1 e2
        exact hc k (by omega))
      have hkn0 : k < kn := by omega
      clear hat hal hcw0 hcw hrg hx hx1 hkx hkc0
      cases hbb : ks.getD k false with
      | true =>
        have HKB : Hid (ks.getD k false = true) := Lib.hid hbb
        have hkc := HKC.out
        rw [hbb] at hkc
        clear hbb HKC
        go_wp2_with (first
          | (refine wpList_load_mid rfl _ _ rfl g (k * 129) rfl (wrCells x) _ HRG.out hu75 rfl hsx ?_)
          | (refine wpList_store_row rfl _ _ _ rfl wr.heap.size (wrCells x).toArray rfl rfl 82 Z NW.out (by rw [List.size_toArray]; exact hsx) (by rw [hZ, List.size_toArray, wrCells_len HX.out.2]) (all_oneCell_toArray (wr_oneCell x)) ?_))
        rw [World.setRow_alloc_new]
        obtain ⟨i, hi⟩ : ∃ i, i = x.1 := ⟨_, rfl⟩
        obtain ⟨cs, hcs⟩ : ∃ cs, cs = nums .u8 (nb x.2) := ⟨_, rfl⟩
        have hcl : cs.length = 128 := by rw [hcs, nums_length, nb_len]; exact HX.out.2
        have hc1 : ∀ u ∈ cs, u.oneCell' = true := by rw [hcs]; exact nums_oneCell _
        have hsc : (Tryd.prog.info? 80).map (·.size) = some cs.length := by rw [hcl]; exact hs73
        have NB : Hid (Blk (wr.alloc (.cells (wrCells x).toArray 82)) wr.heap.size 82 (.int .i64 (i : Int) :: cs)) := Lib.hid (by rw [hi, hcs]; exact heap_alloc_new wr _)
        have HD2 := Lib.hid (HD.out.keep (((Below.refl wr.heap.size wr).alloc (Nat.le_refl _) (.cells (wrCells x).toArray 82)).drew))
        have hiL : i < D1.lasts.length := by rw [hi]; exact HX.out.1
        have HL : Hid (({ D1 with lasts := settleK D1.lasts ((D1.waits.zip ks).take k) } : DSt).lasts.length = D1.lasts.length) := Lib.hid (settleK_len _ _)
        obtain ⟨N, hN⟩ : ∃ N, N = D1.lasts.length := ⟨_, rfl⟩
        have HSET := Lib.hid (HD2.out.setL (i := i) (by rw [HL.out]; exact hiL) (t := x.2) HX.out.2)
        rw [← hcs] at HSET
        have HNX : Hid ({ D1 with lasts := settleK D1.lasts ((D1.waits.zip ks).take (k + 1)) } = ({ ({ D1 with lasts := settleK D1.lasts ((D1.waits.zip ks).take k) } : DSt) with lasts := (settleK D1.lasts ((D1.waits.zip ks).take k)).set i x.2 } : DSt)) := Lib.hid (by
          rw [settleK_take _ _ _ _ HKX.out (by rw [HL0.out]; omega), if_pos HKB.out, ← HXX.out, hi])
        have hNb : (N : Int) ≤ 4096 := by
          have := HD.out.2.2.2.2.1.2.1
          rw [HL.out] at this
          omega
        have hiN : i < N := by rw [hN]; exact hiL
        have HNE : Hid (wr.heap.size ≠ gl) := Lib.hid (fun e => by have := HD.out.2.1.lt; omega)
        have HNP : Hid (p ≠ gl) := Lib.hid (HD.out.1.ne_ HD.out.2.1 (by decide))
        have HS0 : Hid ((wr.alloc (.cells (wrCells x).toArray 82)).drew.cell? ⟨p, 0, none⟩ = some (.slice (some ⟨gl, 0, none⟩) N N) ∧ (wr.alloc (.cells (wrCells x).toArray 82)).drew.cell? ⟨wr.heap.size, 0, none⟩ = some (.int .i64 (i : Int)) ∧
            (wr.alloc (.cells (wrCells x).toArray 82)).drew.rangeAt wr.heap.size 1 cs ∧ (wr.alloc (.cells (wrCells x).toArray 82)).drew.there gl (i * 128) 128) := Lib.hid (by
          refine ⟨?_, NB.out.cell0', fun j u hj => ?_, fun j hj => ?_⟩
          · have := HD2.out.1.five.1
            rw [HL.out, ← hN] at this
            exact this
          · have := NB.out.cell (1 + j)
            rw [Nat.add_comm 1 j, List.getElem?_cons_succ, hj] at this
            rw [Nat.add_comm 1 j]
            exact this
          · obtain ⟨ha, hl⟩ := at_last HD2.out (i := i) (by rw [HL.out]; exact hiL)
            exact ⟨by rw [ha j (by rw [hl]; exact hj)]; rfl, HD2.out.2.1.frozen _⟩)
        have HS1 : Hid (((wr.alloc (.cells (wrCells x).toArray 82)).drew.setCells gl (i * 128) cs).cell? ⟨p, 0, none⟩ = some (.slice (some ⟨gl, 0, none⟩) N N) ∧ ((wr.alloc (.cells (wrCells x).toArray 82)).drew.setCells gl (i * 128) cs).cell? ⟨wr.heap.size, 0, none⟩ = some (.int .i64 (i : Int)) ∧
            ((wr.alloc (.cells (wrCells x).toArray 82)).drew.setCells gl (i * 128) cs).rangeAt wr.heap.size 1 cs ∧ ((wr.alloc (.cells (wrCells x).toArray 82)).drew.setCells gl (i * 128) cs).there gl (i * 128) 128) := Lib.hid (by
          obtain ⟨s1, s2, s3, s4⟩ := HS0.out
          refine ⟨?_, ?_, World.rangeAt_setCells_apart s3 gl (i * 128) cs (.inl HNE.out), World.there_setCells s4 gl (i * 128) cs⟩
          · rw [World.cell?_of_block (heap_setCells gl cs (i * 128) _ p HNP.out)]; exact s1
          · rw [World.cell?_of_block (heap_setCells gl cs (i * 128) _ wr.heap.size HNE.out)]; exact s2)
        clear hi hcs hN hiL d0 d1 d2 d3 d4
        go_region_held3 (fun w' => w'.cell? ⟨p, 0, none⟩ = some (.slice (some ⟨gl, 0, none⟩) N N) ∧ w'.cell? ⟨wr.heap.size, 0, none⟩ = some (.int .i64 (i : Int)) ∧ w'.rangeAt wr.heap.size 1 cs ∧ w'.there gl (i * 128) 128)
          (first | exact HS1.out | exact HS0.out)
          (fail)
        go_wp2_with fail
        go_roundw
        case rel =>
          refine ⟨k + 1, by go_num, by omega, Lib.hid ?_, Lib.hid ?_, Lib.hid ?_⟩
          · rw [HNX.out]; exact HSET.out.1
          · have hg : base ≤ gl := HD.out.2.2.2.2.2.2.1
            exact Below.setCells (HB.out.alloc (Nat.le_trans hbs HB.out.size) _).drew hg cs (i * 128)
          · exact HK.out.trans ((Keeps.of_below ((Below.refl wr.heap.size wr).alloc (Nat.le_refl _) (.cells (wrCells x).toArray 82)).drew).trans HSET.out.2)
        case measure => simp [intOf]; omega
      | false =>
        have HKB : Hid (¬ ks.getD k false = true) := Lib.hid (by rw [hbb]; decide)
        have hkc := HKC.out
        rw [hbb] at hkc
        clear hbb HKC
        go_wp2_with (first
          | (refine wpList_load_mid rfl _ _ rfl g (k * 129) rfl (wrCells x) _ HRG.out hu75 rfl hsx ?_)
          | (refine wpList_store_row rfl _ _ _ rfl wr.heap.size (wrCells x).toArray rfl rfl 82 Z NW.out (by rw [List.size_toArray]; exact hsx) (by rw [hZ, List.size_toArray, wrCells_len HX.out.2]) (all_oneCell_toArray (wr_oneCell x)) ?_))
        go_roundw
        case rel =>
          refine ⟨k + 1, by go_num, by omega, Lib.hid ?_, Lib.hid ?_, Lib.hid ?_⟩
          · rw [settleK_take _ _ _ _ HKX.out (by rw [HL0.out]; omega), if_neg HKB.out, World.setRow_alloc_new]
            exact HD.out.keep ((Below.refl wr.heap.size wr).alloc (Nat.le_refl _) _)
          · rw [World.setRow_alloc_new]; exact HB2.out
          · rw [World.setRow_alloc_new]; exact HK2.out
        case measure => simp [intOf]; omega
    · obtain rfl : kn = k := by omega
      have HD' : Hid (IsDisk base wr p gl M (.slice A m c) { D1 with lasts := settleK D1.lasts (D1.waits.zip ks) }) := Lib.hid (by
        have h := HD.out
        rw [List.take_of_length_le (by rw [List.length_zip, HL0.out, ← HM.out]; have := HNN.out; omega)] at h
        exact h)
      have HE := Lib.hid (disk_empty base wr p gl M (.slice A m c) _ HD'.out)
      clear HD
      go_wp2_with fail
      refine HE.out.mono ?_
      rintro e w4 ⟨rfl, v4, h4, hb4, hk4⟩
      go_wp2_with fail
      go_end0
      exact ⟨rfl, v4, h4, HB.out.trans hb4, HK.out.trans hk4⟩

theorem disk_Crash (base : Nat) (w : World) (p gl M : Nat) (v : Value) (D1 : DSt) (K : Option Addr) (kn kc : Nat) (ks : List Bool) (h : IsDisk base w p gl M v D1) (hks : ∀ w', Below base w w' → Keeps w w' → KSl w' K kn ks) (hkn : kn ≤ 1000000) (hw : D1.waits.length ≤ 1000000) (hbs : base ≤ w.heap.size) :
    Calls Tryd.prog 11 #[.pointer (some ⟨p, 0, none⟩), .slice K kn kc] w fun e w' => e = .returned (.tuple #[]) ∧ ∃ v', IsDisk base w' p gl M v' (crashed D1 ks) ∧ Below base w w' ∧ Keeps w w' := by
  by_cases hmk : D1.waits.length < kn
  · exact disk_Crash_a base w p gl M v D1 K kn kc ks h hks hkn hw hbs hmk
  · exact disk_Crash_b base w p gl M v D1 K kn kc ks h hks hkn hw hbs hmk

end Go.Proofs.YtbigpapniloknaaDoor
