/- The contract of a disk's Rot; of Fill. Write and Sync as functions of what a disk holds; the document's example of layer 12. A disk where a block that is no part of it was written. The walk of DiskLasts: what was synced outlives a crash. -/
import Derived.Test.YtbigpapniloknaaDoorDiskF
import Derived.OpenShut
namespace Go.Proofs.YtbigpapniloknaaDoor
open Go.RowKit Go.Maps Go.ChangeMaps Go.MapKept

theorem wrap_u8i (n : Int) : IntKind.u8.wrap n = n % 256 := by simp [IntKind.wrap, IntKind.bits, IntKind.signed]
theorem bits_xor_u8n (a b : Nat) (ha : a < 256) (hb : b < 256) : bits .xor .u8 (a : Int) (b : Int) = ((a ^^^ b : Nat) : Int) := by
  have hx : a ^^^ b < 2 ^ 8 := Nat.xor_lt_two_pow (by omega) (by omega)
  have h1 : (BitVec.ofInt 8 (a : Int)).toNat = a := by
    rw [BitVec.ofInt_natCast, BitVec.toNat_ofNat]; exact Nat.mod_eq_of_lt (by omega)
  have h2 : (BitVec.ofInt 8 (b : Int)).toNat = b := by
    rw [BitVec.ofInt_natCast, BitVec.toNat_ofNat]; exact Nat.mod_eq_of_lt (by omega)
  show IntKind.u8.wrap ((BitVec.ofInt 8 (a : Int) ^^^ BitVec.ofInt 8 (b : Int)).toNat : Int) = _
  rw [BitVec.toNat_xor, h1, h2, wrap_u8i]
  omega

/-- A sector's byte turned. -/
def rotT (t : List UInt8) (j y : Nat) : List UInt8 := t.set j (UInt8.ofNat ((t.getD j 0).toNat ^^^ y))
theorem rotT_len (t : List UInt8) (j y : Nat) : (rotT t j y).length = t.length := by unfold rotT; rw [List.length_set]
/-- What Rot does. -/
def rotD (D : DSt) (i at_ : Int) (y : Nat) : DSt :=
  if hasB D i = true ∧ 0 ≤ at_ ∧ at_ < 128 then { D with lasts := D.lasts.set i.toNat (rotT (D.lasts.getD i.toNat []) at_.toNat y) } else D

theorem nums_nb_set (l : List UInt8) (j : Nat) (c : UInt8) : (nums .u8 (nb l)).set j (.int .u8 ((c.toNat : Nat) : Int)) = nums .u8 (nb (l.set j c)) := by
  unfold nums nb
  rw [List.map_set, List.map_set]

theorem IsDisk.setB {base : Nat} {w : World} {p gl M : Nat} {v : Value} {D : DSt} (h : IsDisk base w p gl M v D) {i : Nat} (hi : i < D.lasts.length) {j : Nat} (hj : j < 128) (c : UInt8) :
    IsDisk base (w.setCell ⟨gl, i * 128 + j, none⟩ (.int .u8 ((c.toNat : Nat) : Int))) p gl M v { D with lasts := D.lasts.set i ((D.lasts.getD i []).set j c) } ∧ Keeps w (w.setCell ⟨gl, i * 128 + j, none⟩ (.int .u8 ((c.toNat : Nat) : Int))) := by
  obtain ⟨h1, h2, h3, ⟨m, h4, h5⟩, h6, h7, h8, h9⟩ := h
  have e0 : D.lasts.getD i [] = D.lasts[i] := by rw [List.getD_eq_getElem?_getD, List.getElem?_eq_getElem hi]; rfl
  rw [e0]
  obtain ⟨a, b, e1, e2, e3⟩ := flat_set D.lasts h6.2.2.1 i hi ((D.lasts[i]).set j c)
  have hil := h6.2.2.1 _ (List.getElem_mem hi)
  have hpg : p ≠ gl := h1.ne_ h2 (by decide)
  refine ⟨⟨?_, ?_, h3.put h2 (by decide) _, ⟨m, h4.setCell (a := ⟨gl, i * 128 + j, none⟩) (map_ne h4 h2) _, h5⟩, ⟨?_, ?_, ?_, ?_⟩, h7, h8, h9⟩, ?_⟩
  · have := h1.far (p := ⟨gl, i * 128 + j, none⟩) hpg (.int .u8 ((c.toNat : Nat) : Int))
    simpa [List.length_set] using this
  · have h := h2.set_ (i * 128 + j) (.int .u8 ((c.toNat : Nat) : Int))
    unfold flatL at h ⊢
    simp only
    rw [nums_nb_set, e1, List.set_append_right _ _ (by omega), e3, show i * 128 + j - i * 128 = j from by omega, List.set_append_left _ _ (by omega)] at h
    rw [e2]
    exact h
  · simp only [List.length_set]; exact h6.1
  · simp only [List.length_set]; exact h6.2.1
  · intro y hy
    rcases List.mem_or_eq_of_mem_set hy with hy | rfl
    · exact h6.2.2.1 y hy
    · rw [List.length_set]; exact hil
  · intro x hx
    simp only [List.length_set]
    exact h6.2.2.2 x hx
  · refine ⟨?_, fun k o hk n1 _ => (Below.heap_setCell w ⟨gl, i * 128 + j, none⟩ _ k (oth_ne hk n1 h2)).trans hk⟩
    intro k T cs _ hT _ hb
    exact hb.far (p := ⟨gl, i * 128 + j, none⟩) (fun e => by
      have e' : k = gl := e
      subst e'
      have := h2.get
      rw [hb.get] at this
      injection this with this
      injection this with _ hh
      exact hT hh) _

set_option maxHeartbeats 2000000 in
theorem disk_Rot (base : Nat) (w : World) (p gl M : Nat) (v : Value) (D : DSt) (i at_ : Int) (y : Nat) (hy : y < 256) (h : IsDisk base w p gl M v D) :
    Calls Tryd.prog 15 #[.pointer (some ⟨p, 0, none⟩), .int .i64 i, .int .i64 at_, .int .u8 (y : Int)] w fun e w' => e = .returned (.tuple #[]) ∧ IsDisk base w' p gl M v (rotD D i at_ y) ∧ Below base w w' ∧ Keeps w w' := by
  have HH := Lib.hid (disk_has base w p gl M v D i h)
  obtain ⟨c0, c1, c2, c3, c4⟩ := h.1.five
  have H := Lib.hid h
  have hbg : base ≤ gl := h.2.2.2.2.2.2.1
  clear h
  unfold rotD
  by_cases hb : hasB D i = true
  · rw [hb] at HH
    by_cases ha0 : 0 ≤ at_
    · have hd0 : decide (0 ≤ at_) = true := decide_eq_true ha0
      by_cases ha1 : at_ < 128
      · have hd1 : decide (at_ < 128) = true := decide_eq_true ha1
        obtain ⟨k, rfl, hk⟩ := hasB_nat_iff.1 hb
        obtain ⟨j, rfl⟩ : ∃ j : Nat, at_ = j := ⟨at_.toNat, by omega⟩
        have hj : j < 128 := by omega
        rw [if_pos ⟨hb, ha0, ha1⟩, Int.toNat_natCast, Int.toNat_natCast]
        obtain ⟨hat, hal⟩ := at_last H.out hk
        obtain ⟨t, ht⟩ : ∃ t, t = D.lasts.getD k [] := ⟨_, rfl⟩
        rw [← ht] at hat hal ⊢
        obtain ⟨x, hx⟩ : ∃ x, x = (t.getD j 0).toNat := ⟨_, rfl⟩
        have hx8 : x < 256 := by rw [hx]; exact (t.getD j 0).toNat_lt
        have hcell : w.cell? ⟨gl, k * 128 + j, none⟩ = some (.int .u8 (x : Int)) := by
          rw [hat j (by omega), hx, List.getD_eq_getElem?_getD, List.getElem?_eq_getElem (by omega : j < t.length)]; rfl
        have hfr := H.out.2.1.frozen (k * 128 + j)
        obtain ⟨z, hz⟩ : ∃ z, z = x ^^^ y := ⟨_, rfl⟩
        have hz8 : z < 256 := by
          have : x ^^^ y < 2 ^ 8 := Nat.xor_lt_two_pow (by omega) (by omega)
          omega
        have hzi : bits .xor .u8 (x : Int) (y : Int) = (z : Int) := by rw [hz]; exact bits_xor_u8n x y hx8 hy
        have HSET := Lib.hid (show IsDisk base ((w.drew).setCell ⟨gl, k * 128 + j, none⟩ (.int .u8 (z : Int))) p gl M v { D with lasts := D.lasts.set k (rotT t j y) } ∧ Keeps w ((w.drew).setCell ⟨gl, k * 128 + j, none⟩ (.int .u8 (z : Int))) from by
          have h := (H.out.keep (w' := w.drew) (Below.refl _ _).drew).setB hk hj (UInt8.ofNat z)
          rw [UInt8.toNat_ofNat', Nat.mod_eq_of_lt (by omega), ← ht] at h
          refine ⟨?_, (Keeps.of_below (Below.refl _ _).drew).trans h.2⟩
          unfold rotT
          rw [← hx, ← hz]
          exact h.1)
        have HNL := Lib.hid (show (D.lasts.length : Int) ≤ 4096 from by have := H.out.2.2.2.2.1.2.1; omega)
        obtain ⟨N, hN⟩ : ∃ N, N = D.lasts.length := ⟨_, rfl⟩
        rw [← hN] at c0 hk HNL
        have hkN : (k : Int) < (N : Int) := by omega
        have hNb := HNL.out
        clear hat hal ht hx hz hb ha0 ha1 hd0 hd1 hN c1 c2 c3 c4
        have hd0 : decide ((0 : Int) ≤ (j : Int)) = true := decide_eq_true (by omega)
        have hd1 : decide ((j : Int) < 128) = true := decide_eq_true (by omega)
        go_enter Tryd.func15, Tryd.ntmps15
        go_wp2_with fail
        refine HH.out.mono ?_
        rintro e w1 ⟨rfl, rfl⟩
        go_wp2_with fail
        go_region
        all_goals go_wp2_with fail
        all_goals go_end0
        all_goals refine ⟨rfl, ?_, ?_, ?_⟩
        all_goals first
          | exact HSET.out.1
          | exact (Below.refl _ _).drew.setCell (p := ⟨gl, k * 128 + j, none⟩) hbg _
          | exact HSET.out.2
          | exact ((Below.refl _ _).setCell (p := ⟨gl, k * 128 + j, none⟩) hbg _).drew
      · have hd1 : decide (at_ < 128) = false := decide_eq_false ha1
        rw [if_neg (fun hx => ha1 hx.2.2)]
        go_enter Tryd.func15, Tryd.ntmps15
        go_wp2_with fail
        refine HH.out.mono ?_
        rintro e w1 ⟨rfl, rfl⟩
        go_wp2_with fail
        go_end0
        exact ⟨rfl, H.out, Below.refl _ _, Keeps.refl _⟩
    · have hd0 : decide (0 ≤ at_) = false := decide_eq_false ha0
      rw [if_neg (fun hx => ha0 hx.2.1)]
      go_enter Tryd.func15, Tryd.ntmps15
      go_wp2_with fail
      refine HH.out.mono ?_
      rintro e w1 ⟨rfl, rfl⟩
      go_wp2_with fail
      go_end0
      exact ⟨rfl, H.out, Below.refl _ _, Keeps.refl _⟩
  · have hb' : hasB D i = false := by simpa using hb
    rw [hb'] at HH
    rw [if_neg (fun hx => hb hx.1)]
    clear hb hb'
    go_enter Tryd.func15, Tryd.ntmps15
    go_wp2_with fail
    refine HH.out.mono ?_
    rintro e w1 ⟨rfl, rfl⟩
    go_wp2_with fail
    go_end0
    exact ⟨rfl, H.out, Below.refl _ _, Keeps.refl _⟩

/-- A sector of one byte. -/
def secOf (b : Nat) : List UInt8 := List.replicate 128 (UInt8.ofNat b)
theorem secOf_len (b : Nat) : (secOf b).length = 128 := List.length_replicate

set_option maxHeartbeats 2000000 in
set_option maxRecDepth 100000 in
theorem law_Fill (b : Nat) (w : World) (hb : b < 256) :
    Calls Tryd.prog 48 #[.int .u8 (b : Int)] w fun e w' => e = .returned (.string (bs (secOf b))) ∧ Below w.heap.size w w' := by
  obtain ⟨i0, hi, hz0, hz1, hz2⟩ := info_parts infoByte
  go_enter Tryd.func48, Tryd.ntmps48
  go_wp2_with (at_make; refine wpList_make_full _ rfl _ _ 86 rfl w.heap.size 5 i0 (.int .u8 0) 1 Tryd.underlying86 hi hz0 hz1 .i64 .i64 _ _ 128 rfl rfl rfl rfl (by rw [hz2]; omega) (by simp only [maxLen]; omega) (Nat.le_refl _) ?_; intro w1 hown hgr; have G0 := Lib.hid hown; clear hown)
  have G1 : Hid (Blk w1 w.heap.size 5 (nums .u8 (nb (List.replicate 0 (UInt8.ofNat b) ++ List.replicate (128 - 0) 0)))) := Lib.hid (by
    have h := Blk.of_make G0.out (by omega)
    have e : nums .u8 (nb (List.replicate 0 (UInt8.ofNat b) ++ List.replicate (128 - 0) 0)) = List.replicate 128 (.int .u8 0) := by
      rw [List.replicate_zero, List.nil_append]
      unfold nb
      rw [List.map_replicate]
      exact nums_replicate .u8 128
    rw [e]
    exact h)
  have B1 := Lib.hid ((Below.refl w.heap.size w).grown hgr (Nat.le_refl _) (fun k hk => by cases hk))
  clear hgr G0
  go_wp2_with fail
  go_loopw [8] (fun iv wr => ∃ k : Nat, iv = .int .i64 k ∧ k ≤ 128 ∧ Hid (Blk wr w.heap.size 5 (nums .u8 (nb (List.replicate k (UInt8.ofNat b) ++ List.replicate (128 - k) 0)))) ∧ Hid (Below w.heap.size w wr)) (fun iv _ => 128 - (intOf iv).toNat)
  case atStart => exact ⟨0, rfl, Nat.zero_le _, G1, B1⟩
  case round =>
    obtain ⟨k, rfl, hk, HG, HB⟩ := hrel
    by_cases hlt : k < 128
    · obtain ⟨r, hr⟩ : ∃ r, 128 - k = r + 1 := ⟨128 - k - 1, by omega⟩
      have hc : wr.cell? ⟨w.heap.size, k, none⟩ = some (.int .u8 0) := by
        rw [HG.out.cell, nums_nb_get, List.getElem?_append_right (by rw [List.length_replicate]; exact Nat.le_refl _), List.length_replicate, Nat.sub_self, hr, List.replicate_succ]
        rfl
      have hf := HG.out.frozen k
      have HG2 : Hid (Blk (wr.setCell ⟨w.heap.size, k, none⟩ (.int .u8 (b : Int))) w.heap.size 5 (nums .u8 (nb (List.replicate (k + 1) (UInt8.ofNat b) ++ List.replicate (128 - (k + 1)) 0)))) := Lib.hid (by
        have h := HG.out.set_ k (.int .u8 (b : Int))
        have e := nums_nb_set (List.replicate k (UInt8.ofNat b) ++ List.replicate (128 - k) 0) k (UInt8.ofNat b)
        rw [UInt8.toNat_ofNat', Nat.mod_eq_of_lt (by omega)] at e
        rw [e, List.set_append_right _ _ (by rw [List.length_replicate]; exact Nat.le_refl _), List.length_replicate, Nat.sub_self, hr, List.replicate_succ, List.set_cons_zero] at h
        rw [show 128 - (k + 1) = r from by omega, List.replicate_succ', List.append_assoc]
        exact h)
      clear hr
      go_wp2_with fail
      go_roundw
      case rel => exact ⟨k + 1, by go_num, by omega, HG2, Lib.hid (HB.out.setCell (p := ⟨w.heap.size, k, none⟩) (Nat.le_refl _) _)⟩
      case measure => simp [intOf]; omega
    · obtain rfl : k = 128 := by omega
      have hat : At wr w.heap.size 0 (secOf b) := by
        intro j hj
        rw [Nat.zero_add, HG.out.cell, nums_nb_get]
        simp only [Nat.sub_self, List.replicate_zero, List.append_nil]
        show ((secOf b)[j]?).map _ = _
        rw [List.getElem?_eq_getElem hj]
        rfl
      have hcv := hat.conv 128
      rw [secOf_len] at hcv
      clear hat
      go_wp2_with fail
      go_ret
      exact ⟨rfl, HB.out⟩

end Go.Proofs.YtbigpapniloknaaDoor

namespace Go.Proofs.YtbigpapniloknaaDoor
set_option maxRecDepth 100000
open Go.RowKit Go.Maps Go.ChangeMaps Go.MapKept

def wrD (D : DSt) (i : Int) (s : List UInt8) : DSt × Nat :=
  if hasB D i = false then (D, 5) else if s.length ≠ 128 then (D, 4) else if (fires D).2 = true then ((fires D).1, 7) else (wrote (fires D).1 i.toNat s, 0)
def syD (D : DSt) : DSt × Nat := if (fires D).2 = true then ((fires D).1, 7) else (synced (fires D).1, 0)

/-- What a disk may have grown to. -/
def Small (D : DSt) : Prop := ArmOk D ∧ D.waits.length ≤ 1000000 ∧ D.ops ≤ 1000000000

theorem disk_Write (base : Nat) (w : World) (p gl M : Nat) (v : Value) (D : DSt) (i : Int) (s : List UInt8) (h : IsDisk base w p gl M v D) (hs : Small D) (hbs : base ≤ w.heap.size) (hsl : s.length ≤ 1000000) :
    Calls Tryd.prog 44 #[.pointer (some ⟨p, 0, none⟩), .int .i64 i, .string (bs s)] w fun e w' => e = .returned (.int .i64 (((wrD D i s).2 : Nat) : Int)) ∧ ∃ v', IsDisk base w' p gl M v' (wrD D i s).1 ∧ Below base w w' ∧ Keeps w w' := by
  unfold wrD
  by_cases h1 : hasB D i = false
  · rw [if_pos h1]
    refine (disk_Write_range base w p gl M v D i (bs s) h h1).mono ?_
    rintro e w' ⟨rfl, rfl⟩
    exact ⟨rfl, v, h, Below.refl _ _, Keeps.refl _⟩
  · rw [if_neg h1]
    have h1' : hasB D i = true := by simpa using h1
    by_cases h2 : s.length ≠ 128
    · rw [if_pos h2]
      refine (disk_Write_form base w p gl M v D i (bs s) h h1' (by rw [bs_size]; exact h2)).mono ?_
      rintro e w' ⟨rfl, rfl⟩
      exact ⟨rfl, v, h, Below.refl _ _, Keeps.refl _⟩
    · rw [if_neg h2]
      have h2' : (bs s).size = 128 := by rw [bs_size]; omega
      by_cases h3 : (fires D).2 = true
      · rw [if_pos h3]
        refine (disk_Write_bad base w p gl M v D i (bs s) h h1' h2' hs.1 h3).mono ?_
        rintro e w' ⟨rfl, h4, h5, h6⟩
        exact ⟨rfl, v, h4, h5, h6⟩
      · rw [if_neg h3]
        obtain ⟨k, rfl, hk⟩ := hasB_nat_iff.1 h1'
        rw [Int.toNat_natCast]
        have := disk_Write_ok base w p gl M v D k (bs s) h hk h2' hs.1 (by simpa using h3) hs.2.1 hs.2.2 hbs
        rw [bs_list] at this
        exact this

theorem disk_Sync (base : Nat) (w : World) (p gl M : Nat) (v : Value) (D : DSt) (h : IsDisk base w p gl M v D) (hs : Small D) (hbs : base ≤ w.heap.size) :
    Calls Tryd.prog 31 #[.pointer (some ⟨p, 0, none⟩)] w fun e w' => e = .returned (.int .i64 (((syD D).2 : Nat) : Int)) ∧ ∃ v', IsDisk base w' p gl M v' (syD D).1 ∧ Below base w w' ∧ Keeps w w' := by
  unfold syD
  by_cases h3 : (fires D).2 = true
  · rw [if_pos h3]
    refine (disk_Sync_bad base w p gl M v D h hs.1 h3).mono ?_
    rintro e w' ⟨rfl, h4, h5, h6⟩
    exact ⟨rfl, v, h4, h5, h6⟩
  · rw [if_neg h3]
    exact disk_Sync_ok base w p gl M v D h hs.1 (by simpa using h3) hs.2.1 hs.2.2 hbs

theorem disk_Crash0 (base : Nat) (w : World) (p gl M : Nat) (v : Value) (D : DSt) (h : IsDisk base w p gl M v D) (hw : D.waits.length ≤ 1000000) (hbs : base ≤ w.heap.size) :
    Calls Tryd.prog 11 #[.pointer (some ⟨p, 0, none⟩), .slice none 0 0] w fun e w' => e = .returned (.tuple #[]) ∧ ∃ v', IsDisk base w' p gl M v' (crashed D []) ∧ Below base w w' ∧ Keeps w w' :=
  disk_Crash base w p gl M v D none 0 0 [] h (fun _ _ _ => ⟨rfl, fun h => by omega⟩) (by omega) hw hbs

set_option maxHeartbeats 1000000 in
theorem ref_Blank (w : World) : Calls Tryd.prog 16 #[] w fun e w' => e = .returned (.string (bs (secOf 0))) ∧ Below w.heap.size w w' := by
  obtain ⟨i0, hi, hz0, hz1, hz2⟩ := info_parts infoByte
  go_enter Tryd.func16, Tryd.ntmps16
  go_wp2_with (at_make; refine wpList_make_full _ rfl _ _ 86 rfl w.heap.size 5 i0 (.int .u8 0) 1 Tryd.underlying86 hi hz0 hz1 .i64 .i64 _ _ 128 rfl rfl rfl rfl (by rw [hz2]; omega) (by simp only [maxLen]; omega) (Nat.le_refl _) ?_; intro w1 hown hgr; have G0 := Lib.hid hown; clear hown)
  have hcv : (convert 86 9 (.slice (some ⟨w.heap.size, 0, none⟩) 128 128)).run Tryd.prog w1 = .ok (.string (bs (secOf 0))) w1 := by
    have h := Blk.of_make G0.out (by omega)
    have hat : At w1 w.heap.size 0 (secOf 0) := by
      intro j hj
      have e : (secOf 0)[j] = 0 := List.getElem_replicate _
      rw [e]
      rw [secOf_len] at hj
      rw [Nat.zero_add, h.cell, List.getElem?_replicate_of_lt hj]
      rfl
    have h2 := hat.conv 128
    rwa [secOf_len] at h2
  have B1 := Lib.hid ((Below.refl w.heap.size w).grown hgr (Nat.le_refl _) (fun k hk => by cases hk))
  clear hgr G0
  rw [hcv]
  go_simp
  go_wp2_with fail
  go_ret
  exact ⟨rfl, B1.out⟩

theorem fires_zero {D : DSt} (h : D.armed = 0) : fires D = (D, false) := by unfold fires; rw [if_pos (by omega)]
theorem small_new (n : Nat) : Small (newD n) := ⟨⟨by simp [newD], by simp [newD]⟩, by simp [newD], by simp [newD]⟩

/-- The example's disk. -/
theorem ex_write : wrD (newD 2) 0 (secOf 7) = (wrote (newD 2) 0 (secOf 7), 0) := by
  unfold wrD
  rw [fires_zero rfl, if_neg (by decide), if_neg (by rw [secOf_len]; decide), if_neg (by decide)]
  rfl
theorem ex_read : rdD (wrote (newD 2) 0 (secOf 7)) 0 = (secOf 7, 0) := by
  have h := rdD_wait (D := wrote (newD 2) 0 (secOf 7)) (i := 0) (j := 0) (by decide) (by decide)
  exact h
theorem ex_read2 : rdD (crashed (wrote (newD 2) 0 (secOf 7)) []) 0 = (secOf 0, 0) := by
  have h := rdD_last (D := crashed (wrote (newD 2) 0 (secOf 7)) []) (i := 0) (by decide) rfl
  exact h

set_option maxHeartbeats 2000000 in
set_option maxRecDepth 100000 in
theorem disk_Awake (w : World) : Calls Tryd.prog 35 #[] w fun e w' => e = .returned (.bool true) ∧ Below w.heap.size w w' := by
  have HN := Lib.hid (disk_New 2 w (by omega) (by omega))
  have HF := Lib.hid (fun W => law_Fill 7 W (by omega) : ∀ W, Calls Tryd.prog 48 #[.int .u8 7] W fun e w' => e = .returned (.string (bs (secOf 7))) ∧ Below W.heap.size W w')
  have HB := Lib.hid ref_Blank
  go_enter Tryd.func35, Tryd.ntmps35
  go_wp2_with fail
  refine HN.out.mono ?_
  rintro e w1 ⟨p, gl, M, v, rfl, h1, hb1⟩
  have D1 := Lib.hid h1
  have B1 := Lib.hid hb1
  clear h1 hb1 HN
  go_wp2_with fail
  refine (HF.out _).mono ?_
  rintro e w2 ⟨rfl, hb2⟩
  have D2 := Lib.hid (D1.out.keep hb2)
  have B2 := Lib.hid (B1.out.trans (hb2.mono B1.out.size))
  have HW := Lib.hid (disk_Write _ _ p gl M v _ 0 (secOf 7) D2.out (small_new 2) B2.out.size (by rw [secOf_len]; omega))
  rw [ex_write] at HW
  clear hb2
  go_wp2_with fail
  refine HW.out.mono ?_
  rintro e w3 ⟨rfl, v3, h3, hb3, _⟩
  have D3 := Lib.hid h3
  have B3 := Lib.hid (B2.out.trans hb3)
  have HR := Lib.hid (disk_Read _ _ p gl M v3 _ 0 D3.out)
  rw [ex_read] at HR
  clear h3 hb3 HW
  go_wp2_with fail
  refine HR.out.mono ?_
  rintro e w4 ⟨rfl, rfl⟩
  have HC := Lib.hid (disk_Crash0 _ _ p gl M v3 _ D3.out (by decide) B3.out.size)
  clear HR
  go_wp2_with fail
  refine HC.out.mono ?_
  rintro e w5 ⟨rfl, v5, h5, hb5, _⟩
  have D5 := Lib.hid h5
  have B5 := Lib.hid (B3.out.trans hb5)
  have HR := Lib.hid (disk_Read _ _ p gl M v5 _ 0 D5.out)
  rw [ex_read2] at HR
  clear h5 hb5 HC
  go_wp2_with fail
  refine HR.out.mono ?_
  rintro e w6 ⟨rfl, rfl⟩
  clear HR
  go_wp2_with fail
  refine (HF.out _).mono ?_
  rintro e w7 ⟨rfl, hb7⟩
  have D7 := Lib.hid (D5.out.keep hb7)
  have B7 := Lib.hid (B5.out.trans (hb7.mono B5.out.size))
  have e7 : ((bs (secOf 7)).toList == (bs (secOf 7)).toList) = true := by simp
  clear hb7
  go_wp2_with fail
  refine (HB.out _).mono ?_
  rintro e w8 ⟨rfl, hb8⟩
  have D8 := Lib.hid (D7.out.keep hb8)
  have B8 := Lib.hid (B7.out.trans (hb8.mono B7.out.size))
  have HS := Lib.hid (disk_Size _ _ p gl M v5 _ D8.out)
  clear hb8 e7
  have e8 : ((bs (secOf 0)).toList == (bs (secOf 0)).toList) = true := by simp
  go_wp2_with fail
  refine HS.out.mono ?_
  rintro e w9 ⟨rfl, rfl⟩
  go_wp2_with fail
  go_ret
  exact ⟨rfl, B8.out⟩

end Go.Proofs.YtbigpapniloknaaDoor

namespace Go.Proofs.YtbigpapniloknaaDoor
set_option maxRecDepth 100000
open Go.RowKit

theorem heap_put4 (w : World) (g : Nat) (a b c d : Value) (k : Nat) (h : k ≠ g) : ((((w.setCell ⟨g, 0, none⟩ a).setCell ⟨g, 1, none⟩ b).setCell ⟨g, 2, none⟩ c).setCell ⟨g, 3, none⟩ d).heap[k]? = w.heap[k]? := by
  rw [Below.heap_setCell _ ⟨g, 3, none⟩ _ k h, Below.heap_setCell _ ⟨g, 2, none⟩ _ k h, Below.heap_setCell _ ⟨g, 1, none⟩ _ k h, Below.heap_setCell _ ⟨g, 0, none⟩ _ k h]

/-- A disk, where all blocks but one that is no part of it are as they were. -/
theorem IsDisk.aside {base : Nat} {w w' : World} {p gl M : Nat} {v : Value} {D : DSt} (h : IsDisk base w p gl M v D) {g T : Nat} {cs : List Value} (hg : Blk w g T cs) (h1 : T ≠ 58) (h2 : T ≠ 80) (h3 : T ≠ 82) (hs : w.heap.size ≤ w'.heap.size) (he : ∀ k, k ≠ g → w'.heap[k]? = w.heap[k]?) : IsDisk base w' p gl M v D := by
  obtain ⟨k1, k2, k3, ⟨m, k4, k5⟩, k6⟩ := h
  have ne : ∀ k T' ds, Blk w k T' ds → T' ≠ T → k ≠ g := fun k T' ds hb hT e => by
    subst e
    have := hb.get
    rw [hg.get] at this
    injection this with this
    injection this with _ hh
    exact hT hh.symm
  have nM : M ≠ g := fun e => map_ne k4 hg e
  refine ⟨(he p (ne p _ _ k1 h1.symm)).trans k1, (he gl (ne gl _ _ k2 h2.symm)).trans k2, ?_, ⟨m, ?_, k5⟩, k6⟩
  · rcases k3 with k3 | ⟨k3, k7⟩
    · exact .inl k3
    · refine .inr ⟨k3, ?_⟩
      refine ⟨k7.1, ?_⟩
      rcases k7.2 with e1 | ⟨g', c', cur, e1, hb, hh, hr⟩
      · exact .inl e1
      · have hb2 : Blk w g' 82 cur.toList := by unfold Blk; rw [Array.toArray_toList]; exact hh
        exact .inr ⟨g', c', cur, e1, hb, (he g' (ne g' _ _ hb2 h3.symm)).trans hh, hr⟩
  · obtain ⟨es, cl, q1, q2⟩ := k4
    exact ⟨es, cl, (he M nM).trans q1, q2⟩
theorem Keeps.aside {w w1 w2 : World} (h : Keeps w w1) {g : Nat} (hg : w.heap.size ≤ g) (he : ∀ k, k ≠ g → w2.heap[k]? = w1.heap[k]?) : Keeps w w2 := ⟨fun k t cs n1 n2 n3 hb => by
  have hk : k ≠ g := by have := hb.lt; omega
  exact (he k hk).trans (h k t cs n1 n2 n3 hb), fun k o hk n1 n2 => by
  have hk' : k ≠ g := by have := (Array.getElem?_eq_some_iff.1 hk).1; omega
  exact (he k hk').trans (h.oth k o hk n1 n2)⟩
theorem size_put4 (w : World) (g : Nat) (a b c d : Value) : w.heap.size ≤ ((((w.setCell ⟨g, 0, none⟩ a).setCell ⟨g, 1, none⟩ b).setCell ⟨g, 2, none⟩ c).setCell ⟨g, 3, none⟩ d).heap.size := by simp [World.setCell]
theorem IsDisk.put4 {base : Nat} {w : World} {p gl M : Nat} {v : Value} {D : DSt} (h : IsDisk base w p gl M v D) {g T : Nat} {cs : List Value} (hg : Blk w g T cs) (h1 : T ≠ 58) (h2 : T ≠ 80) (h3 : T ≠ 82) (a b c d : Value) :
    IsDisk base ((((w.setCell ⟨g, 0, none⟩ a).setCell ⟨g, 1, none⟩ b).setCell ⟨g, 2, none⟩ c).setCell ⟨g, 3, none⟩ d) p gl M v D := h.aside hg h1 h2 h3 (size_put4 _ _ _ _ _ _) (fun k hk => heap_put4 _ _ _ _ _ _ k hk)
theorem IsDisk.put1 {base : Nat} {w : World} {p gl M : Nat} {v : Value} {D : DSt} (h : IsDisk base w p gl M v D) {g T : Nat} {cs : List Value} (hg : Blk w g T cs) (h1 : T ≠ 58) (h2 : T ≠ 80) (h3 : T ≠ 82) (i : Nat) (a : Value) :
    IsDisk base (w.setCell ⟨g, i, none⟩ a) p gl M v D := h.aside hg h1 h2 h3 (by simp [World.setCell]) (fun k hk => Below.heap_setCell _ ⟨g, i, none⟩ _ k hk)
theorem Keeps.put4' {w0 w : World} (h : Keeps w0 w) {g : Nat} (hg : w0.heap.size ≤ g) (a b c d : Value) : Keeps w0 ((((w.setCell ⟨g, 0, none⟩ a).setCell ⟨g, 1, none⟩ b).setCell ⟨g, 2, none⟩ c).setCell ⟨g, 3, none⟩ d) := h.aside hg (fun k hk => heap_put4 _ _ _ _ _ _ k hk)
theorem Keeps.put1' {w0 w : World} (h : Keeps w0 w) {g : Nat} (hg : w0.heap.size ≤ g) (i : Nat) (a : Value) : Keeps w0 (w.setCell ⟨g, i, none⟩ a) := h.aside hg (fun k hk => Below.heap_setCell _ ⟨g, i, none⟩ _ k hk)
theorem Keeps.drew' {w0 w : World} (h : Keeps w0 w) : Keeps w0 w.drew := h.trans (Keeps.of_below (Below.refl _ _).drew)
theorem Blk.far4' {w : World} {g g' t : Nat} {cs : List Value} (h : Blk w g t cs) (hne : g ≠ g') (a b c d : Value) : Blk ((((w.setCell ⟨g', 0, none⟩ a).setCell ⟨g', 1, none⟩ b).setCell ⟨g', 2, none⟩ c).setCell ⟨g', 3, none⟩ d) g t cs :=
  (((h.far (p := ⟨g', 0, none⟩) hne a).far (p := ⟨g', 1, none⟩) hne b).far (p := ⟨g', 2, none⟩) hne c).far (p := ⟨g', 3, none⟩) hne d
end Go.Proofs.YtbigpapniloknaaDoor

namespace Go.Proofs.YtbigpapniloknaaDoor
set_option maxRecDepth 100000
open Go.RowKit Go.Maps Go.ChangeMaps Go.MapKept

/-- A slice of integers that came in, as the row's frame hands it. -/
def RowOf (k : IntKind) (w : World) (a : Option Addr) (len cap : Nat) (zs : List Int) : Prop :=
  (a = none ∧ len = 0 ∧ cap = 0 ∧ zs = []) ∨
  ∃ x, a = some x ∧ len ≤ cap ∧ cap ≤ maxLen ∧ zs.length = cap ∧ (∀ i, i < zs.length → w.cell? (x.add i) = some (.int k (zs.getD i 0))) ∧ ∀ n ∈ zs, (Lit.int k n).wf = true
theorem RowOf.sl8 {w : World} {a : Option Addr} {len cap : Nat} {zs : List Int} (h : RowOf .u8 w a len cap zs) : ∃ xs, Sl .u8 w a len cap xs ∧ ∀ y ∈ xs, y < 256 := by
  rcases h with ⟨rfl, rfl, rfl, rfl⟩ | ⟨x, rfl, hl, hm, hz, hc, hw⟩
  · exact ⟨[], Sl.nil _ _, fun y hy => by cases hy⟩
  · have hb : ∀ n ∈ zs, 0 ≤ n ∧ n ≤ 255 := fun n hn => bounds_u8 (hw n hn)
    refine ⟨(zs.take len).map Int.toNat, ⟨by rw [List.length_map, List.length_take]; omega, hl, by unfold maxLen at hm; omega, fun hpos => ?_⟩, ?_⟩
    · obtain ⟨b, off, rfl, hc2⟩ := ints_at hc (by omega)
      refine ⟨b, off, rfl, fun j hj => ?_⟩
      have hj2 : j < zs.length := by omega
      rw [hc2 j hj2]
      have h1 := (hb zs[j] (List.getElem_mem hj2)).1
      rw [List.getD_eq_getElem?_getD, List.getElem?_eq_getElem hj2, List.getD_eq_getElem?_getD, List.getElem?_map, List.getElem?_take_of_lt hj, List.getElem?_eq_getElem hj2]
      simp only [Option.map_some, Option.getD_some]
      rw [Int.toNat_of_nonneg h1]
    · intro y hy
      obtain ⟨n, hn, rfl⟩ := List.mem_map.1 hy
      have h1 := hb n (List.mem_of_mem_take hn)
      omega

/-- A disk of eight, on which nothing fails. -/
def Eight (L : Option (List (List UInt8))) (i o : Nat) (D : DSt) : Prop := D.lasts.length = 8 ∧ D.armed = 0 ∧ D.waits.length = i ∧ D.ops = o ∧ ∀ l, L = some l → D.lasts = l
theorem eight_write {L : Option (List (List UInt8))} {i o : Nat} {D : DSt} (h : Eight L i o D) {q : Nat} (hq : q < 8) (s : List UInt8) (hs : s.length = 128) : (wrD D (q : Int) s).2 = 0 ∧ Eight L (i + 1) (o + 1) (wrD D (q : Int) s).1 := by
  obtain ⟨h1, h2, h3, h4, h5⟩ := h
  unfold wrD
  rw [if_neg (by rw [hasB_nat (by omega)]; decide), if_neg (by rw [hs]; decide), fires_zero h2, if_neg (by simp)]
  refine ⟨rfl, h1, h2, ?_, ?_, h5⟩
  · show (D.waits ++ _).length = _; rw [List.length_append, h3]; rfl
  · show D.ops + 1 = _; rw [h4]
theorem eight_small {L : Option (List (List UInt8))} {i o : Nat} {D : DSt} (h : Eight L i o D) (hi : i ≤ 1000000) (ho : o ≤ 1000000000) : Small D := by
  obtain ⟨h1, h2, h3, h4, h5⟩ := h
  exact ⟨⟨by omega, by omega⟩, by omega, by omega⟩
theorem settleK_false (zs : List ((Nat × List UInt8) × Bool)) (h : ∀ z ∈ zs, z.2 = false) : ∀ ls, settleK ls zs = ls := by
  induction zs with
  | nil => intro ls; rfl
  | cons z r ih =>
    intro ls
    show settleK (if z.2 then ls.set z.1.1 z.1.2 else ls) r = ls
    rw [h z (by simp), ih (fun y hy => h y (by simp [hy]))]
    rfl
theorem read_dry {D : DSt} (h : D.waits = []) {i : Nat} (hi : i < D.lasts.length) : rdD D (i : Int) = (D.lasts.getD i [], 0) := rdD_last hi (by rw [h]; rfl)

theorem infoString : (Tryd.prog.info? 9).map (fun i => (i.zero, i.size, i.bytes)) = some (some (.string ⟨#[]⟩), 1, 16) := by kernel_rfl
theorem infoBool : (Tryd.prog.info? 4).map (fun i => (i.zero, i.size, i.bytes)) = some (some (.bool false), 1, 1) := by kernel_rfl
/-- Texts as cells. -/
def strsV (ls : List (List UInt8)) : List Value := ls.map fun l => .string (bs l)
theorem strsV_one (ls : List (List UInt8)) : ∀ u ∈ strsV ls, u.oneCell' = true := by
  intro u hu
  obtain ⟨x, _, rfl⟩ := List.mem_map.1 hu
  rfl

/-- A disk behind an append to a row that is no part of it. -/
theorem IsDisk.grown {base : Nat} {w w' : World} {p gl M : Nat} {v : Value} {D : DSt} {row : Option Nat} (h : IsDisk base w p gl M v D) (hg : w.grownBy w' row) (hr : ∀ g, row = some g → ∃ T cs, Blk w g T cs ∧ T ≠ 58 ∧ T ≠ 80 ∧ T ≠ 82) : IsDisk base w' p gl M v D := by
  obtain ⟨h1, h2, h3, ⟨m, h4, h5⟩, h6⟩ := h
  have ne : ∀ k T' ds, Blk w k T' ds → (T' = 58 ∨ T' = 80 ∨ T' = 82) → some k ≠ row := by
    intro k T' ds hb hT e
    obtain ⟨T, cs, hc, n1, n2, n3⟩ := hr k e.symm
    have := hb.get
    rw [hc.get] at this
    injection this with this
    injection this with _ hh
    rcases hT with hT | hT | hT <;> subst hT
    · exact n1 hh
    · exact n2 hh
    · exact n3 hh
  refine ⟨h1.grown hg (ne p _ _ h1 (.inl rfl)), h2.grown hg (ne gl _ _ h2 (.inr (.inl rfl))), ?_, ⟨m, h4.kept hg (fun e => ?_), h5⟩, h6⟩
  · rcases h3 with h3 | ⟨h3, h7⟩
    · exact .inl h3
    · refine .inr ⟨h3, ?_⟩
      rcases h7.2 with ⟨e1, _⟩ | ⟨g', c', cur, e1, _, hh, _⟩
      · exact h7.kept hg (.inl (by rw [e1]; rfl))
      · have hb : Blk w g' 82 cur.toList := by unfold Blk; rw [Array.toArray_toList]; exact hh
        refine h7.kept hg (.inr ?_)
        rw [e1]
        exact ne g' _ _ hb (.inr (.inr rfl))
  · obtain ⟨T, cs, hc, _⟩ := hr M e.symm
    exact map_ne h4 hc rfl

end Go.Proofs.YtbigpapniloknaaDoor
