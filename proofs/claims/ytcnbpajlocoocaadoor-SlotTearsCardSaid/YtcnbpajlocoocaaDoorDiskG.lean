/- The contract of a disk's Rot; of Fill. -/
import Derived.Test.YtcnbpajlocoocaaDoorDiskF
namespace Go.Proofs.YtcnbpajlocoocaaDoor
open Go.RowKit Go.Maps Go.ChangeMaps Go.MapKept

theorem wrap_u8i (n : Int) : IntKind.u8.wrap n = n % 256 := by simp [IntKind.wrap, IntKind.bits, IntKind.signed]
theorem bits_xor_u8n (a b : Nat) (ha : a < 256) (hb : b < 256) : bits .xor .u8 (a : Int) (b : Int) = ((a ^^^ b : Nat) : Int) := by
  have hx : a ^^^ b < 2 ^ 8 := Nat.xor_lt_two_pow (by omega) (by omega)
  have h1 : (BitVec.ofInt 8 (a : Int)).toNat = a := by
    rw [BitVec.ofInt_natCast, BitVec.toNat_ofNat]; exact Nat.mod_eq_of_lt (by omega)
  have h2 : (BitVec.ofInt 8 (b : Int)).toNat = b := by
    rw [BitVec.ofInt_natCast, BitVec.toNat_ofNat]; exact Nat.mod_eq_of_lt (by omega)
  show IntKind.u8.wrap ((BitVec.ofInt 8 (a : Int) ^^^ BitVec.ofInt 8 (b : Int)).toNat : Int) = _
  rw [BitVec.toNat_xor, h1, h2, wrap_u8i]
  omega

/-- A sector's byte turned. -/
def rotT (t : List UInt8) (j y : Nat) : List UInt8 := t.set j (UInt8.ofNat ((t.getD j 0).toNat ^^^ y))
theorem rotT_len (t : List UInt8) (j y : Nat) : (rotT t j y).length = t.length := by unfold rotT; rw [List.length_set]
/-- What Rot does. -/
def rotD (D : DSt) (i at_ : Int) (y : Nat) : DSt :=
  if hasB D i = true ∧ 0 ≤ at_ ∧ at_ < 128 then { D with lasts := D.lasts.set i.toNat (rotT (D.lasts.getD i.toNat []) at_.toNat y) } else D

theorem nums_nb_set (l : List UInt8) (j : Nat) (c : UInt8) : (nums .u8 (nb l)).set j (.int .u8 ((c.toNat : Nat) : Int)) = nums .u8 (nb (l.set j c)) := by
  unfold nums nb
  rw [List.map_set, List.map_set]

theorem IsDisk.setB {base : Nat} {w : World} {p gl M : Nat} {v : Value} {D : DSt} (h : IsDisk base w p gl M v D) {i : Nat} (hi : i < D.lasts.length) {j : Nat} (hj : j < 128) (c : UInt8) :
    IsDisk base (w.setCell ⟨gl, i * 128 + j, none⟩ (.int .u8 ((c.toNat : Nat) : Int))) p gl M v { D with lasts := D.lasts.set i ((D.lasts.getD i []).set j c) } ∧ Keeps w (w.setCell ⟨gl, i * 128 + j, none⟩ (.int .u8 ((c.toNat : Nat) : Int))) := by
  obtain ⟨h1, h2, h3, ⟨m, h4, h5⟩, h6, h7, h8, h9⟩ := h
  have e0 : D.lasts.getD i [] = D.lasts[i] := by rw [List.getD_eq_getElem?_getD, List.getElem?_eq_getElem hi]; rfl
  rw [e0]
  obtain ⟨a, b, e1, e2, e3⟩ := flat_set D.lasts h6.2.2.1 i hi ((D.lasts[i]).set j c)
  have hil := h6.2.2.1 _ (List.getElem_mem hi)
  have hpg : p ≠ gl := h1.ne_ h2 (by decide)
  refine ⟨⟨?_, ?_, h3.put h2 (by decide) _, ⟨m, h4.setCell (a := ⟨gl, i * 128 + j, none⟩) (map_ne h4 h2) _, h5⟩, ⟨?_, ?_, ?_, ?_⟩, h7, h8, h9⟩, ?_⟩
  · have := h1.far (p := ⟨gl, i * 128 + j, none⟩) hpg (.int .u8 ((c.toNat : Nat) : Int))
    simpa [List.length_set] using this
  · have h := h2.set_ (i * 128 + j) (.int .u8 ((c.toNat : Nat) : Int))
    unfold flatL at h ⊢
    simp only
    rw [nums_nb_set, e1, List.set_append_right _ _ (by omega), e3, show i * 128 + j - i * 128 = j from by omega, List.set_append_left _ _ (by omega)] at h
    rw [e2]
    exact h
  · simp only [List.length_set]; exact h6.1
  · simp only [List.length_set]; exact h6.2.1
  · intro y hy
    rcases List.mem_or_eq_of_mem_set hy with hy | rfl
    · exact h6.2.2.1 y hy
    · rw [List.length_set]; exact hil
  · intro x hx
    simp only [List.length_set]
    exact h6.2.2.2 x hx
  · refine ⟨?_, fun k o hk n1 _ => (Below.heap_setCell w ⟨gl, i * 128 + j, none⟩ _ k (oth_ne hk n1 h2)).trans hk⟩
    intro k T cs _ hT _ hb
    exact hb.far (p := ⟨gl, i * 128 + j, none⟩) (fun e => by
      have e' : k = gl := e
      subst e'
      have := h2.get
      rw [hb.get] at this
      injection this with this
      injection this with _ hh
      exact hT hh) _

set_option maxHeartbeats 2000000 in
theorem disk_Rot (base : Nat) (w : World) (p gl M : Nat) (v : Value) (D : DSt) (i at_ : Int) (y : Nat) (hy : y < 256) (h : IsDisk base w p gl M v D) :
    Calls Tryd.prog 21 #[.pointer (some ⟨p, 0, none⟩), .int .i64 i, .int .i64 at_, .int .u8 (y : Int)] w fun e w' => e = .returned (.tuple #[]) ∧ IsDisk base w' p gl M v (rotD D i at_ y) ∧ Below base w w' ∧ Keeps w w' := by
  have HH := Lib.hid (disk_has base w p gl M v D i h)
  obtain ⟨c0, c1, c2, c3, c4⟩ := h.1.five
  have H := Lib.hid h
  have hbg : base ≤ gl := h.2.2.2.2.2.2.1
  clear h
  unfold rotD
  by_cases hb : hasB D i = true
  · rw [hb] at HH
    by_cases ha0 : 0 ≤ at_
    · have hd0 : decide (0 ≤ at_) = true := decide_eq_true ha0
      by_cases ha1 : at_ < 128
      · have hd1 : decide (at_ < 128) = true := decide_eq_true ha1
        obtain ⟨k, rfl, hk⟩ := hasB_nat_iff.1 hb
        obtain ⟨j, rfl⟩ : ∃ j : Nat, at_ = j := ⟨at_.toNat, by omega⟩
        have hj : j < 128 := by omega
        rw [if_pos ⟨hb, ha0, ha1⟩, Int.toNat_natCast, Int.toNat_natCast]
        obtain ⟨hat, hal⟩ := at_last H.out hk
        obtain ⟨t, ht⟩ : ∃ t, t = D.lasts.getD k [] := ⟨_, rfl⟩
        rw [← ht] at hat hal ⊢
        obtain ⟨x, hx⟩ : ∃ x, x = (t.getD j 0).toNat := ⟨_, rfl⟩
        have hx8 : x < 256 := by rw [hx]; exact (t.getD j 0).toNat_lt
        have hcell : w.cell? ⟨gl, k * 128 + j, none⟩ = some (.int .u8 (x : Int)) := by
          rw [hat j (by omega), hx, List.getD_eq_getElem?_getD, List.getElem?_eq_getElem (by omega : j < t.length)]; rfl
        have hfr := H.out.2.1.frozen (k * 128 + j)
        obtain ⟨z, hz⟩ : ∃ z, z = x ^^^ y := ⟨_, rfl⟩
        have hz8 : z < 256 := by
          have : x ^^^ y < 2 ^ 8 := Nat.xor_lt_two_pow (by omega) (by omega)
          omega
        have hzi : bits .xor .u8 (x : Int) (y : Int) = (z : Int) := by rw [hz]; exact bits_xor_u8n x y hx8 hy
        have HSET := Lib.hid (show IsDisk base ((w.drew).setCell ⟨gl, k * 128 + j, none⟩ (.int .u8 (z : Int))) p gl M v { D with lasts := D.lasts.set k (rotT t j y) } ∧ Keeps w ((w.drew).setCell ⟨gl, k * 128 + j, none⟩ (.int .u8 (z : Int))) from by
          have h := (H.out.keep (w' := w.drew) (Below.refl _ _).drew).setB hk hj (UInt8.ofNat z)
          rw [UInt8.toNat_ofNat', Nat.mod_eq_of_lt (by omega), ← ht] at h
          refine ⟨?_, (Keeps.of_below (Below.refl _ _).drew).trans h.2⟩
          unfold rotT
          rw [← hx, ← hz]
          exact h.1)
        have HNL := Lib.hid (show (D.lasts.length : Int) ≤ 4096 from by have := H.out.2.2.2.2.1.2.1; omega)
        obtain ⟨N, hN⟩ : ∃ N, N = D.lasts.length := ⟨_, rfl⟩
        rw [← hN] at c0 hk HNL
        have hkN : (k : Int) < (N : Int) := by omega
        have hNb := HNL.out
        clear hat hal ht hx hz hb ha0 ha1 hd0 hd1 hN c1 c2 c3 c4
        have hd0 : decide ((0 : Int) ≤ (j : Int)) = true := decide_eq_true (by omega)
        have hd1 : decide ((j : Int) < 128) = true := decide_eq_true (by omega)
        go_enter Tryd.func21, Tryd.ntmps21
        go_wp2_with fail
        refine HH.out.mono ?_
        rintro e w1 ⟨rfl, rfl⟩
        go_wp2_with fail
        go_region
        all_goals go_wp2_with fail
        all_goals go_end0
        all_goals refine ⟨rfl, ?_, ?_, ?_⟩
        all_goals first
          | exact HSET.out.1
          | exact (Below.refl _ _).drew.setCell (p := ⟨gl, k * 128 + j, none⟩) hbg _
          | exact HSET.out.2
          | exact ((Below.refl _ _).setCell (p := ⟨gl, k * 128 + j, none⟩) hbg _).drew
      · have hd1 : decide (at_ < 128) = false := decide_eq_false ha1
        rw [if_neg (fun hx => ha1 hx.2.2)]
        go_enter Tryd.func21, Tryd.ntmps21
        go_wp2_with fail
        refine HH.out.mono ?_
        rintro e w1 ⟨rfl, rfl⟩
        go_wp2_with fail
        go_end0
        exact ⟨rfl, H.out, Below.refl _ _, Keeps.refl _⟩
    · have hd0 : decide (0 ≤ at_) = false := decide_eq_false ha0
      rw [if_neg (fun hx => ha0 hx.2.1)]
      go_enter Tryd.func21, Tryd.ntmps21
      go_wp2_with fail
      refine HH.out.mono ?_
      rintro e w1 ⟨rfl, rfl⟩
      go_wp2_with fail
      go_end0
      exact ⟨rfl, H.out, Below.refl _ _, Keeps.refl _⟩
  · have hb' : hasB D i = false := by simpa using hb
    rw [hb'] at HH
    rw [if_neg (fun hx => hb hx.1)]
    clear hb hb'
    go_enter Tryd.func21, Tryd.ntmps21
    go_wp2_with fail
    refine HH.out.mono ?_
    rintro e w1 ⟨rfl, rfl⟩
    go_wp2_with fail
    go_end0
    exact ⟨rfl, H.out, Below.refl _ _, Keeps.refl _⟩

/-- A sector of one byte. -/
def secOf (b : Nat) : List UInt8 := List.replicate 128 (UInt8.ofNat b)
theorem secOf_len (b : Nat) : (secOf b).length = 128 := List.length_replicate

set_option maxHeartbeats 2000000 in
set_option maxRecDepth 100000 in
theorem law_Fill (b : Nat) (w : World) (hb : b < 256) :
    Calls Tryd.prog 61 #[.int .u8 (b : Int)] w fun e w' => e = .returned (.string (bs (secOf b))) ∧ Below w.heap.size w w' := by
  obtain ⟨i0, hi, hz0, hz1, hz2⟩ := info_parts infoByte
  go_enter Tryd.func61, Tryd.ntmps61
  go_wp2_with (at_make; refine wpList_make_full _ rfl _ _ 100 rfl w.heap.size 5 i0 (.int .u8 0) 1 Tryd.underlying100 hi hz0 hz1 .i64 .i64 _ _ 128 rfl rfl rfl rfl (by rw [hz2]; omega) (by simp only [maxLen]; omega) (Nat.le_refl _) ?_; intro w1 hown hgr; have G0 := Lib.hid hown; clear hown)
  have G1 : Hid (Blk w1 w.heap.size 5 (nums .u8 (nb (List.replicate 0 (UInt8.ofNat b) ++ List.replicate (128 - 0) 0)))) := Lib.hid (by
    have h := Blk.of_make G0.out (by omega)
    have e : nums .u8 (nb (List.replicate 0 (UInt8.ofNat b) ++ List.replicate (128 - 0) 0)) = List.replicate 128 (.int .u8 0) := by
      rw [List.replicate_zero, List.nil_append]
      unfold nb
      rw [List.map_replicate]
      exact nums_replicate .u8 128
    rw [e]
    exact h)
  have B1 := Lib.hid ((Below.refl w.heap.size w).grown hgr (Nat.le_refl _) (fun k hk => by cases hk))
  clear hgr G0
  go_wp2_with fail
  go_loopw [8] (fun iv wr => ∃ k : Nat, iv = .int .i64 k ∧ k ≤ 128 ∧ Hid (Blk wr w.heap.size 5 (nums .u8 (nb (List.replicate k (UInt8.ofNat b) ++ List.replicate (128 - k) 0)))) ∧ Hid (Below w.heap.size w wr)) (fun iv _ => 128 - (intOf iv).toNat)
  case atStart => exact ⟨0, rfl, Nat.zero_le _, G1, B1⟩
  case round =>
    obtain ⟨k, rfl, hk, HG, HB⟩ := hrel
    by_cases hlt : k < 128
    · obtain ⟨r, hr⟩ : ∃ r, 128 - k = r + 1 := ⟨128 - k - 1, by omega⟩
      have hc : wr.cell? ⟨w.heap.size, k, none⟩ = some (.int .u8 0) := by
        rw [HG.out.cell, nums_nb_get, List.getElem?_append_right (by rw [List.length_replicate]; exact Nat.le_refl _), List.length_replicate, Nat.sub_self, hr, List.replicate_succ]
        rfl
      have hf := HG.out.frozen k
      have HG2 : Hid (Blk (wr.setCell ⟨w.heap.size, k, none⟩ (.int .u8 (b : Int))) w.heap.size 5 (nums .u8 (nb (List.replicate (k + 1) (UInt8.ofNat b) ++ List.replicate (128 - (k + 1)) 0)))) := Lib.hid (by
        have h := HG.out.set_ k (.int .u8 (b : Int))
        have e := nums_nb_set (List.replicate k (UInt8.ofNat b) ++ List.replicate (128 - k) 0) k (UInt8.ofNat b)
        rw [UInt8.toNat_ofNat', Nat.mod_eq_of_lt (by omega)] at e
        rw [e, List.set_append_right _ _ (by rw [List.length_replicate]; exact Nat.le_refl _), List.length_replicate, Nat.sub_self, hr, List.replicate_succ, List.set_cons_zero] at h
        rw [show 128 - (k + 1) = r from by omega, List.replicate_succ', List.append_assoc]
        exact h)
      clear hr
      go_wp2_with fail
      go_roundw
      case rel => exact ⟨k + 1, by go_num, by omega, HG2, Lib.hid (HB.out.setCell (p := ⟨w.heap.size, k, none⟩) (Nat.le_refl _) _)⟩
      case measure => simp [intOf]; omega
    · obtain rfl : k = 128 := by omega
      have hat : At wr w.heap.size 0 (secOf b) := by
        intro j hj
        rw [Nat.zero_add, HG.out.cell, nums_nb_get]
        simp only [Nat.sub_self, List.replicate_zero, List.append_nil]
        show ((secOf b)[j]?).map _ = _
        rw [List.getElem?_eq_getElem hj]
        rfl
      have hcv := hat.conv 128
      rw [secOf_len] at hcv
      clear hat
      go_wp2_with fail
      go_ret
      exact ⟨rfl, HB.out⟩

end Go.Proofs.YtcnbpajlocoocaaDoor
