/- The document's example of layer 14; texts. -/
import Derived.Test.YtbigpapniloknaaDoorLogE
import Derived.Test.YtbigpapniloknaaDoorJOpd
namespace Go.Proofs.YtbigpapniloknaaDoor
open Go.RowKit Go.Maps
set_option maxRecDepth 100000

theorem app_dry {D : DSt} {fr room gen next : Nat} {d : List UInt8} (hw : D.waits = []) (ha : D.armed = 0) (hn : next < room) (hi : fr + next < D.lasts.length) (hd : d.length ≤ 110) :
    appL D fr room gen next d = ({ D with lasts := D.lasts.set (fr + next) (secL 1 gen next d), waits := [], ops := D.ops + 2 }, next + 1, 0) := by
  have hh : hasB D ((fr + next : Nat) : Int) = true := hasB_nat hi
  have hS : (secL 1 gen next d).length = 128 := secL_len _ _ _ _ hd
  have hwr : wrD D ((fr + next : Nat) : Int) (secL 1 gen next d) = (wrote D (fr + next) (secL 1 gen next d), 0) := by
    unfold wrD
    rw [hh, fires_zero ha, if_neg (by decide), if_neg (by omega), if_neg (show ¬ (D, false).2 = true from fun h => by cases h), Int.toNat_natCast]
  unfold appL
  rw [if_neg (by omega), if_neg (by omega), hwr, if_pos rfl]
  unfold syD
  rw [fires_zero (show (wrote D (fr + next) (secL 1 gen next d), 0).1.armed = 0 from ha), if_neg (show ¬ ((wrote D (fr + next) (secL 1 gen next d)), false).2 = true from fun h => by cases h)]
  unfold synced wrote
  simp only [hw, List.nil_append]
  rfl

theorem own_strs {base n : Nat} {w : World} {v : Value} {ls : List (List UInt8)} (h : w.ownsRow base 9 1 v n (strsV ls)) (hn : 0 < n) :
    ∃ g cap, v = .slice (some ⟨g, 0, none⟩) n cap ∧ n ≤ cap ∧ base ≤ g ∧ g < w.heap.size ∧ ∀ j, j < n → w.cell? ⟨g, j, none⟩ = some (.string (bs (ls.getD j []))) := by
  obtain ⟨g, cap, e, h1, h2⟩ := h.form hn
  subst e
  rcases h.2 with ⟨e1, _⟩ | ⟨g', c', cur, e1, hb, hh, hcap, _, _, htk⟩
  · cases e1
  · injection e1 with e1 _ e2
    injection e1 with e1
    injection e1 with e1
    subst e1 e2
    have hbk : Blk w g 9 cur.toList := by unfold Blk; rw [Array.toArray_toList]; exact hh
    refine ⟨g, cap, rfl, hcap, hb, hbk.lt, fun j hj => ?_⟩
    have hl := h.1
    have hjl : j < ls.length := by unfold strsV at hl; rw [List.length_map] at hl; omega
    rw [h.cellAt j (by omega)]
    unfold strsV
    rw [List.getElem?_map, List.getElem?_eq_getElem hjl, List.getD_eq_getElem?_getD, List.getElem?_eq_getElem hjl]
    rfl

/-- A slice of texts. -/
def StrC (w : World) (A : Option Addr) (n c : Nat) (ls : List (List UInt8)) : Prop :=
  ls.length = n ∧ n ≤ c ∧ (c : Int) ≤ 9223372036854775807 ∧ (0 < n → ∃ b off, A = some ⟨b, off, none⟩ ∧ b < w.heap.size ∧ ∀ j, j < n → w.cell? ⟨b, off + j, none⟩ = some (.string (bs (ls.getD j []))))
theorem StrC.keep {w w' : World} {A : Option Addr} {n c : Nat} {ls : List (List UInt8)} (h : StrC w A n c ls) (hb : Below w.heap.size w w') : StrC w' A n c ls :=
  ⟨h.1, h.2.1, h.2.2.1, fun hn => by
    obtain ⟨b, off, e, hlt, hc⟩ := h.2.2.2 hn
    exact ⟨b, off, e, Nat.lt_of_lt_of_le hlt hb.size, fun j hj => (hb.cell (p := ⟨b, off + j, none⟩) hlt).trans (hc j hj)⟩⟩
theorem StrC.of_own {base n : Nat} {w : World} {v : Value} {ls : List (List UInt8)} (h : w.ownsRow base 9 1 v n (strsV ls)) (hl : ls.length = n) : ∃ A c, v = .slice A n c ∧ StrC w A n c ls := by
  have h0 := h
  rcases h.2 with ⟨rfl, rfl⟩ | ⟨g, cap, cur, rfl, _, hh, hcap, hm, _⟩
  · exact ⟨none, 0, rfl, hl, Nat.le_refl _, by omega, fun hn => absurd hn (Nat.lt_irrefl _)⟩
  · refine ⟨_, cap, rfl, hl, hcap, by unfold maxLen at hm; omega, fun hn => ?_⟩
    obtain ⟨g2, cap2, e, _, _, hlt, hc⟩ := own_strs h0 hn
    injection e with e _
    injection e with e
    injection e with e
    subst e
    exact ⟨g, 0, rfl, hlt, fun j hj => by rw [Nat.zero_add]; exact hc j hj⟩
theorem StrC.take {w : World} {A : Option Addr} {n c m : Nat} {ls : List (List UInt8)} (h : StrC w A n c ls) (hm : m ≤ n) : StrC w A m c (ls.take m) :=
  ⟨by rw [List.length_take, h.1]; omega, Nat.le_trans hm h.2.1, h.2.2.1, fun hn => by
    obtain ⟨b, off, e, hlt, hc⟩ := h.2.2.2 (by omega)
    refine ⟨b, off, e, hlt, fun j hj => ?_⟩
    rw [hc j (by omega), List.getD_eq_getElem?_getD, List.getD_eq_getElem?_getD, List.getElem?_take_of_lt hj]⟩

theorem newD_get {n i : Nat} (h : i < n) : (newD n).lasts.getD i [] = List.replicate 128 0 := by
  show (List.replicate n (List.replicate 128 0)).getD i [] = _
  rw [List.getD_eq_getElem?_getD, List.getElem?_replicate, if_pos h]
  rfl
theorem logL_new {n fr gen room : Nat} (h1 : 1 ≤ room) (h : fr + room ≤ n) : logL (newD n) fr gen room 0 = [] := by
  obtain ⟨f, rfl⟩ : ∃ f, room = f + 1 := ⟨room - 1, by omega⟩
  unfold logL
  rw [recAt_dry rfl (by simp [newD]; omega), newD_get (by omega), open_blank, if_neg (fun hx => by cases hx.1)]

/-- The example's disk, behind the first and the second record. -/
def exD1 : DSt := { newD 4 with lasts := (newD 4).lasts.set 1 (secL 1 7 0 [97]), waits := [], ops := 2 }
def exD2 : DSt := { exD1 with lasts := exD1.lasts.set 2 (secL 1 7 1 [98]), waits := [], ops := 4 }
theorem ex_app1 : appL (newD 4) 1 3 7 0 [97] = (exD1, 1, 0) := app_dry rfl rfl (by omega) (by simp [newD]) (by simp)
theorem ex_app2 : appL exD1 1 3 7 1 [98] = (exD2, 2, 0) := app_dry rfl rfl (by omega) (by simp [newD, exD1]) (by simp)
theorem ex_log : logL exD2 1 7 3 0 = [[97], [98]] := by
  have hlen : exD2.lasts.length = 4 := by simp [exD2, exD1, newD]
  obtain ⟨k, k1, k2, k3⟩ := log_take (D := exD2) (fr := 1) (gen := 7) (room := 3) (all := [[97], [98]]) (fun _ => true) rfl (by omega) (by omega) (by omega) (by simp) (fun j => by
    match j with
    | 0 => simp
    | 1 => simp
    | j + 2 => simp) (fun j hj => by
    have e1 : exD2.lasts.getD (1 + j) [] = if 2 = 1 + j then secL 1 7 1 [98] else if 1 = 1 + j then secL 1 7 0 [97] else (newD 4).lasts.getD (1 + j) [] := by
      show ((((newD 4).lasts.set 1 (secL 1 7 0 [97]))).set 2 (secL 1 7 1 [98])).getD (1 + j) [] = _
      rw [getD_set _ _ _ _ _ (by simp [newD]), getD_set _ _ _ _ _ (by simp [newD])]
    rw [e1]
    match j, hj with
    | 0, _ => rfl
    | 1, _ => rfl
    | 2, _ => rw [if_neg (by omega), if_neg (by omega), newD_get (by omega), if_neg (fun hx => by have := hx.1; simp at this)]) 3 0 rfl (by simp)
  have h := k3 2 (Nat.zero_le _) (by simp) (fun _ _ _ => rfl)
  rw [k2, List.drop_zero, List.take_of_length_le (by simp; omega)]
theorem exD_small : Small1 (newD 4) ∧ Small1 exD1 := ⟨⟨⟨by simp [newD], by simp [newD]⟩, by simp [newD], by simp [newD]⟩, ⟨⟨by simp [newD, exD1], by simp [newD, exD1]⟩, by simp [exD1], by simp [exD1]⟩⟩

set_option maxHeartbeats 8000000 in
theorem log_Awake (w : World) : Calls Tryd.prog 17 #[] w fun e w' => e = .returned (.bool true) ∧ Below w.heap.size w w' := by
  have HN := Lib.hid (disk_New 4 w (by omega) (by omega))
  have HA1 := Lib.hid disk_Awake
  have HA2 := Lib.hid seal_Awake
  go_enter Tryd.func17, Tryd.ntmps17
  go_wp2_with fail
  refine HN.out.mono ?_
  rintro e w1 ⟨p, gl, M, v, rfl, h1, hb1⟩
  have D1 := Lib.hid h1
  have B1 := Lib.hid hb1
  have HR : Hid (Calls Tryd.prog 25 #[.pointer (some ⟨p, 0, none⟩), .int .i64 1, .int .i64 3, .int .u64 7] w1 fun e w' => ∃ u, e = .returned (.tuple #[.agg #[.int .i64 1, .int .i64 3, .int .u64 7, .int .i64 0], u, .int .i64 0]) ∧ Below w1.heap.size w1 w') := Lib.hid (by
    have h := log_Replay _ w1 p gl M v (newD 4) 1 3 7 h1 (by omega) (by simp [newD]) (by omega)
    rw [logL_new (n := 4) (by omega) (by omega)] at h
    refine h.mono ?_
    rintro e w' ⟨u, rfl, _, hb⟩
    exact ⟨u, rfl, hb⟩)
  clear h1 hb1 HN
  go_wp2_with fail
  refine HR.out.mono ?_
  rintro e w2 ⟨u, rfl, hb2⟩
  have D2 := Lib.hid (D1.out.keep hb2)
  have B2 := Lib.hid (B1.out.trans (hb2.mono B1.out.size))
  clear HR D1 B1 hb2
  obtain ⟨W2, hW2⟩ : ∃ W2, W2 = w2.alloc (.cells #[.int .i64 1, .int .i64 3, .int .u64 7, .int .i64 0] 31) := ⟨_, rfl⟩
  have L2 : Hid (Blk W2 w2.heap.size 31 [.int .i64 1, .int .i64 3, .int .u64 7, .int .i64 0]) := Lib.hid (by rw [hW2]; exact Blk.box4 _ _ _ _ _ _)
  have D3 : Hid (IsDisk w.heap.size W2 p gl M v (newD 4)) := Lib.hid (by rw [hW2]; exact D2.out.keep ((Below.refl _ _).alloc (Nat.le_refl _) _))
  have B3 : Hid (Below w.heap.size w W2) := Lib.hid (by rw [hW2]; exact B2.out.alloc B2.out.size _)
  have S2 : Hid (w.heap.size ≤ w2.heap.size) := Lib.hid B2.out.size
  have HAP : Hid (Calls Tryd.prog 27 #[.agg #[.int .i64 1, .int .i64 3, .int .u64 7, .int .i64 0], .pointer (some ⟨p, 0, none⟩), .string ⟨#[97]⟩] W2 fun e w' => e = .returned (.tuple #[.agg #[.int .i64 1, .int .i64 3, .int .u64 7, .int .i64 1], .int .i64 0]) ∧ ∃ v', IsDisk w.heap.size w' p gl M v' exD1 ∧ Below w.heap.size W2 w' ∧ Keeps W2 w') := Lib.hid (by
    have h := log_Append _ W2 p gl M v (newD 4) 1 3 7 0 [97] D3.out exD_small.1 B3.out.size (by omega) (by simp [newD]) (by omega) (by omega) (by simp)
    rw [ex_app1] at h
    exact h)
  rw [hW2] at HAP
  go_wp2_with fail
  refine HAP.out.mono ?_
  rintro e w3 ⟨rfl, v3, h3, hb3, hk3⟩
  rw [← hW2] at hb3 hk3
  have L3 := Lib.hid (hk3 _ _ _ (by decide) (by decide) (by decide) L2.out)
  have DD3 := Lib.hid h3
  have B4 := Lib.hid (B3.out.trans hb3)
  clear h3 hb3 hk3 HAP L2 D3 B3 D2 B2 hW2
  obtain ⟨c0, c1, c2, c3⟩ := L3.out.four
  have f0 := L3.out.frozen 0
  have f1 := L3.out.frozen 1
  have f2 := L3.out.frozen 2
  have f3 := L3.out.frozen 3
  obtain ⟨W3, hW3⟩ : ∃ W3, W3 = (((w3.setCell ⟨w2.heap.size, 0, none⟩ (.int .i64 1)).setCell ⟨w2.heap.size, 1, none⟩ (.int .i64 3)).setCell ⟨w2.heap.size, 2, none⟩ (.int .u64 7)).setCell ⟨w2.heap.size, 3, none⟩ (.int .i64 1) := ⟨_, rfl⟩
  have L4 : Hid (Blk W3 w2.heap.size 31 [.int .i64 1, .int .i64 3, .int .u64 7, .int .i64 1]) := Lib.hid (by rw [hW3]; exact L3.out.put4 _ _ _ _)
  have D4 : Hid (IsDisk w.heap.size W3 p gl M v3 exD1) := Lib.hid (by rw [hW3]; exact DD3.out.put4 L3.out (by decide) (by decide) (by decide) _ _ _ _)
  have B5 : Hid (Below w.heap.size w W3) := Lib.hid (by rw [hW3]; exact below_put4 B4.out S2.out _ _ _ _)
  obtain ⟨l0, l1, l2, l3⟩ := L4.out.four
  have HAP : Hid (Calls Tryd.prog 27 #[.agg #[.int .i64 1, .int .i64 3, .int .u64 7, .int .i64 1], .pointer (some ⟨p, 0, none⟩), .string ⟨#[98]⟩] W3 fun e w' => e = .returned (.tuple #[.agg #[.int .i64 1, .int .i64 3, .int .u64 7, .int .i64 2], .int .i64 0]) ∧ ∃ v', IsDisk w.heap.size w' p gl M v' exD2 ∧ Below w.heap.size W3 w' ∧ Keeps W3 w') := Lib.hid (by
    have h := log_Append _ W3 p gl M v3 exD1 1 3 7 1 [98] D4.out exD_small.2 B5.out.size (by omega) (by simp [newD, exD1]) (by omega) (by omega) (by simp)
    rw [ex_app2] at h
    exact h)
  rw [hW3] at HAP
  go_wp2_with fail
  refine HAP.out.mono ?_
  rintro e w4 ⟨rfl, v4, h4, hb4, hk4⟩
  rw [← hW3] at hb4 hk4
  have D5 := Lib.hid h4
  have B6 := Lib.hid (B5.out.trans hb4)
  clear h4 hb4 hk4 HAP L4 D4 B5 L3 DD3 B4 hW3 c0 c1 c2 c3 f0 f1 f2 f3 l0 l1 l2 l3
  obtain ⟨W4, hW4⟩ : ∃ W4, W4 = w4.alloc (.cells #[.int .i64 1, .int .i64 3, .int .u64 7, .int .i64 2] 31) := ⟨_, rfl⟩
  have D6 : Hid (IsDisk w.heap.size W4 p gl M v4 exD2) := Lib.hid (by rw [hW4]; exact D5.out.keep ((Below.refl _ _).alloc (Nat.le_refl _) _))
  have B7 : Hid (Below w.heap.size w W4) := Lib.hid (by rw [hW4]; exact B6.out.alloc B6.out.size _)
  have HR : Hid (Calls Tryd.prog 25 #[.pointer (some ⟨p, 0, none⟩), .int .i64 1, .int .i64 3, .int .u64 7] W4 fun e w' => ∃ u, e = .returned (.tuple #[.agg #[.int .i64 1, .int .i64 3, .int .u64 7, .int .i64 2], u, .int .i64 0]) ∧ w'.ownsRow W4.heap.size 9 1 u 2 (strsV [[97], [98]]) ∧ Below W4.heap.size W4 w') := Lib.hid (by
    have h := log_Replay _ W4 p gl M v4 exD2 1 3 7 D6.out (by omega) (by simp [exD2, exD1, newD]) (by omega)
    rw [ex_log] at h
    exact h)
  rw [hW4] at HR
  go_wp2_with fail
  refine HR.out.mono ?_
  rintro e w5 ⟨u5, rfl, hu5, hb5⟩
  rw [← hW4] at hb5 hu5
  have B8 := Lib.hid (B7.out.trans (hb5.mono B7.out.size))
  obtain ⟨g, cap, rfl, hcap, _, hgl, hcs⟩ := own_strs hu5 (by omega)
  have s0 : w5.cell? ⟨g, 0, none⟩ = some (.string ⟨#[97]⟩) := hcs 0 (by omega)
  have s1 : w5.cell? ⟨g, 1, none⟩ = some (.string ⟨#[98]⟩) := hcs 1 (by omega)
  clear hb5 hu5 HR D6 D5 B6 B7 hW4 hcs
  obtain ⟨W5, hW5⟩ : ∃ W5, W5 = w5.alloc (.cells #[.int .i64 1, .int .i64 3, .int .u64 7, .int .i64 2] 31) := ⟨_, rfl⟩
  have B9 : Hid (Below w.heap.size w W5) := Lib.hid (by rw [hW5]; exact B8.out.alloc B8.out.size _)
  have L5 : Hid (Blk W5 w5.heap.size 31 [.int .i64 1, .int .i64 3, .int .u64 7, .int .i64 2]) := Lib.hid (by rw [hW5]; exact Blk.box4 _ _ _ _ _ _)
  have HC : Hid (W5.cell? ⟨g, 0, none⟩ = some (.string ⟨#[97]⟩) ∧ W5.cell? ⟨g, 1, none⟩ = some (.string ⟨#[98]⟩) ∧ g < W5.heap.size) := Lib.hid (by
    rw [hW5]
    exact ⟨(World.cell?_alloc_past _ g 0 hgl).trans s0, (World.cell?_alloc_past _ g 1 hgl).trans s1, by simp; omega⟩)
  clear s0 s1 hgl
  go_wp2_with fail
  rw [← hW5]
  refine (HA1.out _).mono ?_
  rintro e w6 ⟨rfl, hb6⟩
  have B10 := Lib.hid (B9.out.trans (hb6.mono B9.out.size))
  have L6 := Lib.hid (L5.out.keep hb6)
  have HC6 : Hid (w6.cell? ⟨g, 0, none⟩ = some (.string ⟨#[97]⟩) ∧ w6.cell? ⟨g, 1, none⟩ = some (.string ⟨#[98]⟩) ∧ g < w6.heap.size) := Lib.hid ⟨(hb6.cell (p := ⟨g, 0, none⟩) HC.out.2.2).trans HC.out.1, (hb6.cell (p := ⟨g, 1, none⟩) HC.out.2.2).trans HC.out.2.1, Nat.lt_of_lt_of_le HC.out.2.2 hb6.size⟩
  clear hb6 B9 L5 HC hW5
  go_wp2_with fail
  refine (HA2.out _).mono ?_
  rintro e w7 ⟨rfl, hb7⟩
  have B11 := Lib.hid (B10.out.trans (hb7.mono B10.out.size))
  have L7 := Lib.hid (L6.out.keep hb7)
  have s0 : w7.cell? ⟨g, 0, none⟩ = some (.string ⟨#[97]⟩) := (hb7.cell (p := ⟨g, 0, none⟩) HC6.out.2.2).trans HC6.out.1
  have s1 : w7.cell? ⟨g, 1, none⟩ = some (.string ⟨#[98]⟩) := (hb7.cell (p := ⟨g, 1, none⟩) HC6.out.2.2).trans HC6.out.2.1
  obtain ⟨l0, l1, l2, l3⟩ := L7.out.four
  have HFU : Hid (∀ W, Calls Tryd.prog 37 #[.agg #[.int .i64 1, .int .i64 3, .int .u64 7, .int .i64 2]] W fun e w' => e = .returned (.bool false) ∧ Below W.heap.size W w') := Lib.hid (fun W => log_Full 1 3 7 2 W)
  clear hb7 B10 L6 HC6
  go_wp2_with fail
  refine (HFU.out _).mono ?_
  rintro e w8 ⟨rfl, hb8⟩
  have B12 := Lib.hid (B11.out.trans (hb8.mono B11.out.size))
  go_wp2_with fail
  go_ret
  exact ⟨rfl, B12.out⟩
end Go.Proofs.YtbigpapniloknaaDoor
