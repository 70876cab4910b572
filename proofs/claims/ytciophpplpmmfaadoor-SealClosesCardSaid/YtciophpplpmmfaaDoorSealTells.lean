/- The walk of SealTells: a sector of which one byte was turned; only what is closed is opened. -/
import Derived.Test.YtciophpplpmmfaaDoorOpenD
import Derived.Test.YtciophpplpmmfaaDoorSealSums
import Derived.Lib.ConvBytes
namespace Go.Proofs.YtciophpplpmmfaaDoor
open Go.RowKit

theorem wrap_u8i (n : Int) : IntKind.u8.wrap n = n % 256 := by simp [IntKind.wrap, IntKind.bits, IntKind.signed]
theorem bits_xor_u8n (a b : Nat) (ha : a < 256) (hb : b < 256) : bits .xor .u8 (a : Int) (b : Int) = ((a ^^^ b : Nat) : Int) := by
  have hx : a ^^^ b < 2 ^ 8 := Nat.xor_lt_two_pow (by omega) (by omega)
  have h1 : (BitVec.ofInt 8 (a : Int)).toNat = a := by
    rw [BitVec.ofInt_natCast, BitVec.toNat_ofNat]; exact Nat.mod_eq_of_lt (by omega)
  have h2 : (BitVec.ofInt 8 (b : Int)).toNat = b := by
    rw [BitVec.ofInt_natCast, BitVec.toNat_ofNat]; exact Nat.mod_eq_of_lt (by omega)
  show IntKind.u8.wrap ((BitVec.ofInt 8 (a : Int) ^^^ BitVec.ofInt 8 (b : Int)).toNat : Int) = _
  rw [BitVec.toNat_xor, h1, h2, wrap_u8i]
  omega

/-- A row whose first cells are these bytes, and may be written. -/
def Bts (w : World) (g : Nat) (l : List UInt8) : Prop := ∀ j (h : j < l.length), w.cell? ⟨g, j, none⟩ = some (.int .u8 ((l[j]).toNat : Int)) ∧ w.frozen? ⟨g, j, none⟩ = false

theorem conv_bytes (l : List UInt8) (W : World) (hl : l.length ≤ 1000) : ∃ cap wb, (convert 9 26 (.string (bs l))).run Tryd.prog W = .ok (.slice (some ⟨W.heap.size, 0, none⟩) l.length cap) wb ∧ Bts wb W.heap.size l ∧ Below W.heap.size W wb ∧ W.heap.size < wb.heap.size ∧ l.length ≤ cap := by
  refine ⟨grownCap W (bs l).size 0 5, Lib.bytesWorld W 5 (bs l), ?_, ?_, ?_, ?_, ?_⟩
  · have h := Lib.run_convert_string_bytes (P := Tryd.prog) W 9 26 5 (bs l) Tryd.underlying9 Tryd.underlying26 Tryd.underlying5
    rw [bs_size] at h ⊢
    exact h
  · intro j hj
    have hs : j < (bs l).size := by rw [bs_size]; exact hj
    refine ⟨?_, ?_⟩
    · rw [Lib.bytesWorld_cell W 5 (bs l) j hs, bs_list, List.getD_eq_getElem?_getD, List.getElem?_eq_getElem hj]
      rfl
    · unfold World.frozen?
      rw [Lib.bytesWorld_at_new]
      have hc : (bs l).size ≤ (Lib.bytesCells W 5 (bs l)).size := by
        unfold Lib.bytesCells
        rw [Array.size_append, Array.size_map]
        exact Nat.le_add_right _ _
      simp
      intro h
      omega
  · exact ⟨by simp [Lib.bytesWorld, World.freeze]; rfl, by simp [Lib.bytesWorld, World.freeze], by simp [Lib.bytesWorld, World.freeze]; rfl, by rw [Lib.bytesWorld_size]; omega, fun k hk => Lib.bytesWorld_at_old _ _ _ _ hk⟩
  · rw [Lib.bytesWorld_size]; omega
  · rw [← bs_size]; exact grownCap_ge _ _ _ _

theorem Bts.set_ {w : World} {g : Nat} {l : List UInt8} (h : Bts w g l) (j : Nat) (c : UInt8) (hj : j < l.length) : Bts (w.setCell ⟨g, j, none⟩ (.int .u8 ((c.toNat : Nat) : Int))) g (l.set j c) := by
  intro i hi
  rw [List.length_set] at hi
  obtain ⟨h1, h2⟩ := h i hi
  refine ⟨?_, by rw [World.frozen?_setCell]; exact h2⟩
  by_cases e : i = j
  · subst e
    rw [List.getElem_set_self]
    exact World.cell?_setCell_same w ⟨g, i, none⟩ _ h1
  · rw [List.getElem_set_ne (fun x => e x.symm)]
    exact (World.cell?_setCell_other w ⟨g, j, none⟩ ⟨g, i, none⟩ _ (fun x => e (by injection x with _ x _; exact x.symm))).trans h1
theorem Bts.conv {w : World} {g : Nat} {l : List UInt8} (h : Bts w g l) (cap : Nat) : (convert 26 9 (.slice (some ⟨g, 0, none⟩) l.length cap)).run Tryd.prog w = .ok (.string (bs l)) w := by
  have := run_convert_bytes_arg (P := Tryd.prog) w 26 5 Tryd.underlying26 Tryd.underlying5 g 0 l.length cap ((nb l).map fun x : Nat => (x : Int)) (by rw [List.length_map, nb_len]) (fun i hi => by
    rw [Nat.zero_add, (h i hi).1, List.getD_eq_getElem?_getD, List.getElem?_map, nb, List.getElem?_map, List.getElem?_eq_getElem hi]
    rfl) 9 Tryd.underlying9
  rw [str_nb] at this
  exact this

theorem openT_ok (l : List UInt8) : RecOk (openT l).1 := by
  by_cases hl : l.length = 128
  · by_cases h : (openT l).2 = 0
    · exact (open_only hl h).1
    · unfold openT at h ⊢
      rw [if_neg (fun hx => hx hl)] at h ⊢
      by_cases hz : zeroL l = true
      · rw [if_pos hz]; exact ⟨by decide, by decide, by decide, by decide⟩
      · rw [if_neg hz] at h ⊢
        by_cases hs : l.drop 124 = leL (crcSum (l.take 124))
        · rw [if_neg (fun hx => hx hs)] at h ⊢
          unfold openL at h ⊢
          split at h
          · rename_i hc; rw [if_pos hc]; exact ⟨by decide, by decide, by decide, by decide⟩
          · exact absurd rfl h
        · rw [if_pos hs]; exact ⟨by decide, by decide, by decide, by decide⟩
  · unfold openT
    rw [if_pos hl]
    exact ⟨by decide, by decide, by decide, by decide⟩

theorem close_bs (r : Nat × Nat × Nat × List UInt8) (h : RecOk r) (w : World) : Calls Tryd.prog 10 #[recV r] w fun e w' => e = .returned (.tuple #[.string (bs (secL r.1 r.2.1 r.2.2.1 r.2.2.2)), .int .i64 0]) ∧ Below w.heap.size w w' := by
  have h2 := seal_Close_ok r.1 r.2.1 r.2.2.1 (bs r.2.2.2) w h.1 h.2.1 h.2.2.1 (by rw [bs_size]; exact h.2.2.2)
  rw [bs_list] at h2
  exact h2

set_option maxHeartbeats 8000000 in
set_option maxRecDepth 100000 in
theorem tells_idle (k g i at_ y : Nat) (d raw : ByteArray) (w : World) (hd2 : (d.size : Int) ≤ 9223372036854775807) (hr2 : (raw.size : Int) ≤ 9223372036854775807) (h : 110 < d.size ∨ raw.size ≠ 128) :
    Calls Tryd.prog 5 #[.agg #[.int .u8 (k : Int), .int .u64 (g : Int), .int .u32 (i : Int), .string d], .int .u8 (at_ : Int), .int .u8 (y : Int), .string raw] w fun e w' => e = .returned (.bool true) ∧ Below w.heap.size w w' := by
  have HA := Lib.hid seal_Awake
  have B0 := Lib.hid ((Below.refl w.heap.size w).alloc (Nat.le_refl _) (.cells #[.int .u8 (k : Int), .int .u64 (g : Int), .int .u32 (i : Int), .string d] 29))
  by_cases hd : 110 < d.size
  · have hdd : decide ((110 : Int) < (d.size : Int)) = true := decide_eq_true (by omega)
    go_enter Tryd.func5, Tryd.ntmps5
    go_wp2_with fail
    refine (HA.out _).mono ?_
    rintro e w1 ⟨rfl, hb1⟩
    go_wp2_with fail
    go_ret
    exact ⟨rfl, B0.out.trans (hb1.mono B0.out.size)⟩
  · have hdd : decide ((110 : Int) < (d.size : Int)) = false := decide_eq_false (by omega)
    have hrr : ((raw.size : Int) != 128) = true := by rw [bne_iff_ne]; omega
    go_enter Tryd.func5, Tryd.ntmps5
    go_wp2_with fail
    refine (HA.out _).mono ?_
    rintro e w1 ⟨rfl, hb1⟩
    go_wp2_with fail
    go_ret
    exact ⟨rfl, B0.out.trans (hb1.mono B0.out.size)⟩

set_option maxHeartbeats 8000000 in
set_option maxRecDepth 100000 in
theorem tells_main (k g i at_ y : Nat) (d raw : ByteArray) (w : World) (hk : k < 256) (hg : g < 18446744073709551616) (hi : i < 4294967296) (ha : at_ < 256) (hy : y < 256) (hd : d.size ≤ 110) (hr : raw.size = 128) :
    Calls Tryd.prog 5 #[.agg #[.int .u8 (k : Int), .int .u64 (g : Int), .int .u32 (i : Int), .string d], .int .u8 (at_ : Int), .int .u8 (y : Int), .string raw] w fun e w' => e = .returned (.bool true) ∧ Below w.heap.size w w' := by
  have HA := Lib.hid seal_Awake
  have HC := Lib.hid (fun W => seal_Close_ok k g i d W hk hg hi hd)
  have hdl : d.data.toList.length ≤ 110 := by rw [Array.length_toList]; exact hd
  obtain ⟨S, hS⟩ : ∃ S, S = secL k g i d.data.toList := ⟨_, rfl⟩
  have hSl : S.length = 128 := by rw [hS]; exact secL_len _ _ _ _ hdl
  obtain ⟨j, hj⟩ : ∃ j, j = at_ % 128 := ⟨_, rfl⟩
  have hji : (at_ : Int) % 128 = (j : Int) := by omega
  have hj8 : j < 128 := by omega
  have hjS : j < S.length := by omega
  obtain ⟨x, hx⟩ : ∃ x, x = (S[j]'hjS).toNat := ⟨_, rfl⟩
  have hx8 : x < 256 := by rw [hx]; exact S[j].toNat_lt
  obtain ⟨z, hz⟩ : ∃ z, z = x ^^^ y := ⟨_, rfl⟩
  have hzi : bits .xor .u8 (x : Int) (y : Int) = (z : Int) := by rw [hz]; exact bits_xor_u8n x y hx8 hy
  have hz8 : z < 256 := by
    have : x ^^^ y < 2 ^ 8 := Nat.xor_lt_two_pow (by omega) (by omega)
    omega
  obtain ⟨c, hc⟩ : ∃ c, c = UInt8.ofNat z := ⟨_, rfl⟩
  have hcz : c.toNat = z := by rw [hc, UInt8.toNat_ofNat', Nat.mod_eq_of_lt (by omega)]
  obtain ⟨S', hS'⟩ : ∃ S', S' = S.set j c := ⟨_, rfl⟩
  have hSl' : S'.length = 128 := by rw [hS', List.length_set]; exact hSl
  have HT : Hid ((y = 0 ∧ (openT S').2 = 0) ∨ (y ≠ 0 ∧ (openT S').2 = 8)) := Lib.hid (by
    by_cases h0 : y = 0
    · refine .inl ⟨h0, ?_⟩
      have e1 : c = S[j] := by
        rw [hc, hz, h0, Nat.xor_zero, hx, UInt8.ofNat_toNat]
      rw [hS', e1, List.set_getElem_self, hS, open_sec ⟨hk, hg, hi, hdl⟩]
    · refine .inr ⟨h0, ?_⟩
      have e1 : c ≠ S[j] := by
        intro e
        have e2 : z = x := by rw [← hcz, e, hx]
        rw [hz] at e2
        apply h0
        have e3 := congrArg (fun q => x ^^^ q) e2
        simpa [← Nat.xor_assoc] using e3
      have h := open_turned (k := k) (g := g) (i := i) hdl hj8 (c := c) (by simpa only [← hS] using e1)
      rw [hS', hS, h])
  obtain ⟨r1, hr1⟩ : ∃ r1, r1 = (openT S').1 := ⟨_, rfl⟩
  obtain ⟨c1, hc1⟩ : ∃ c1, c1 = (openT S').2 := ⟨_, rfl⟩
  rw [← hc1] at HT
  have HO1 := Lib.hid (fun W => by have h := seal_Open S' W (by omega); rw [← hr1, ← hc1] at h; exact h : ∀ W, Calls Tryd.prog 8 #[.string (bs S')] W fun e w' => e = .returned (.tuple #[.agg #[.int .u8 (r1.1 : Int), .int .u64 (r1.2.1 : Int), .int .u32 (r1.2.2.1 : Int), .string (bs r1.2.2.2)], .int .i64 (c1 : Int)]) ∧ Below W.heap.size W w')
  obtain ⟨rl, hrl⟩ : ∃ rl, rl = raw.data.toList := ⟨_, rfl⟩
  have hraw : raw = bs rl := by rw [hrl, bs_of]
  have hrll : rl.length = 128 := by rw [hrl, Array.length_toList]; exact hr
  obtain ⟨r2, hr2⟩ : ∃ r2, r2 = (openT rl).1 := ⟨_, rfl⟩
  obtain ⟨c2, hc2⟩ : ∃ c2, c2 = (openT rl).2 := ⟨_, rfl⟩
  have HO2 := Lib.hid (fun W => by have h := seal_Open rl W (by omega); rw [← hr2, ← hc2] at h; exact h : ∀ W, Calls Tryd.prog 8 #[.string (bs rl)] W fun e w' => e = .returned (.tuple #[.agg #[.int .u8 (r2.1 : Int), .int .u64 (r2.2.1 : Int), .int .u32 (r2.2.2.1 : Int), .string (bs r2.2.2.2)], .int .i64 (c2 : Int)]) ∧ Below W.heap.size W w')
  obtain ⟨Q, hQ⟩ : ∃ Q, Q = secL r2.1 r2.2.1 r2.2.2.1 r2.2.2.2 := ⟨_, rfl⟩
  have HC2 := Lib.hid (fun W => by have h := close_bs r2 (by rw [hr2]; exact openT_ok rl) W; rw [← hQ] at h; exact h : ∀ W, Calls Tryd.prog 10 #[.agg #[.int .u8 (r2.1 : Int), .int .u64 (r2.2.1 : Int), .int .u32 (r2.2.2.1 : Int), .string (bs r2.2.2.2)]] W fun e w' => e = .returned (.tuple #[.string (bs Q), .int .i64 0]) ∧ Below W.heap.size W w')
  have HQ : Hid (c2 ≠ 0 ∨ Q = rl) := Lib.hid (by
    by_cases h : c2 = 0
    · right
      rw [hQ, hr2]
      exact (open_only hrll (by rw [← hc2]; exact h)).2
    · exact .inl h)
  have HCV := Lib.hid (fun W => conv_bytes S W (by omega))
  have HSZ := Lib.hid (bs_size S)
  have hrs := (bs_size rl).trans hrll
  have hdd : decide ((110 : Int) < (d.size : Int)) = false := decide_eq_false (by omega)
  have hss := (bs_size S).trans hSl
  have HSET : Hid (∀ w1 g1, Bts w1 g1 S → Bts (w1.setCell ⟨g1, j, none⟩ (.int .u8 (z : Int))) g1 S') := Lib.hid (fun w1 g1 h => by rw [hS', ← hcz]; exact h.set_ j c hjS)
  have HXC : Hid (∀ w1 g1, Bts w1 g1 S → w1.cell? ⟨g1, j, none⟩ = some (.int .u8 (x : Int)) ∧ w1.frozen? ⟨g1, j, none⟩ = false) := Lib.hid (fun w1 g1 h => by rw [hx]; exact h j hjS)
  have HCB : Hid (∀ w1 g1 cap, Bts w1 g1 S' → (convert 26 9 (.slice (some ⟨g1, 0, none⟩) 128 cap)).run Tryd.prog w1 = .ok (.string (bs S')) w1) := Lib.hid (fun w1 g1 cap h => by have h2 := h.conv cap; rwa [hSl'] at h2)
  have HS : Hid ((⟨(secL k g i d.data.toList).toArray⟩ : ByteArray) = bs S) := Lib.hid (by rw [hS]; rfl)
  have HSL := Lib.hid hSl
  have B0 := Lib.hid ((Below.refl w.heap.size w).alloc (Nat.le_refl _) (.cells #[.int .u8 (k : Int), .int .u64 (g : Int), .int .u32 (i : Int), .string d] 29))
  rw [hraw]
  rw [HS.out] at HC
  clear hS hj hx hz hc hcz hS' hr1 hc1 hrl hraw hr2 hc2 hQ hjS hSl hSl' hrll hdl hr hd hk hg hi ha hy hx8 hz8
  go_enter Tryd.func5, Tryd.ntmps5
  go_wp2_with fail
  refine (HC.out _).mono ?_
  rintro e w1 ⟨rfl, hb1⟩
  have B1 := Lib.hid (B0.out.trans (hb1.mono B0.out.size))
  clear hb1
  go_wp2_with fail
  obtain ⟨cap, wb, hcv, hbts, hbel, hlt, hcap⟩ := HCV.out w1
  rw [HSL.out] at hcv hcap
  rw [hcv]
  obtain ⟨x0, f0⟩ := HXC.out wb _ hbts
  have hbt2 := HSET.out wb _ hbts
  have hcb := HCB.out _ _ cap hbt2
  have B2 := Lib.hid (B1.out.trans (hbel.mono B1.out.size))
  have B3 := Lib.hid (B2.out.setCell (p := ⟨w1.heap.size, j, none⟩) B1.out.size (.int .u8 (z : Int)))
  clear hcv hbts hbel hlt hbt2
  go_simp
  go_wp2_with fail
  refine (HO1.out _).mono ?_
  rintro e w3 ⟨rfl, hb3⟩
  have B4 := Lib.hid ((B3.out.trans (hb3.mono B3.out.size)).alloc (B3.out.trans (hb3.mono B3.out.size)).size (.cells #[.int .u8 (r1.1 : Int), .int .u64 (r1.2.1 : Int), .int .u32 (r1.2.2.1 : Int), .string (bs r1.2.2.2)] 29))
  clear hb3 hcb x0 f0
  rcases HT.out with ⟨hy, hc⟩ | ⟨hy, hc⟩
  · subst hy hc
    go_wp2_with fail
    refine (HO2.out _).mono ?_
    rintro e w4 ⟨rfl, hb4⟩
    have B5 := Lib.hid (B4.out.trans (hb4.mono B4.out.size))
    have B6 := Lib.hid (B5.out.alloc B5.out.size (.cells #[.int .u8 (r2.1 : Int), .int .u64 (r2.2.1 : Int), .int .u32 (r2.2.2.1 : Int), .string (bs r2.2.2.2)] 29))
    clear hb4
    go_wp2_with fail
    refine (HC2.out _).mono ?_
    rintro e w5 ⟨rfl, hb5⟩
    have B7 := Lib.hid (B6.out.trans (hb5.mono B6.out.size))
    clear hb5
    go_wp2_with fail
    refine (HA.out _).mono ?_
    rintro e w6 ⟨rfl, hb6⟩
    have B8 := Lib.hid (B7.out.trans (hb6.mono B7.out.size))
    clear hb6
    rcases HQ.out with hq | hq
    · have hq2 : ((c2 : Int) != 0) = true := by rw [bne_iff_ne]; omega
      clear hq
      go_wp2_with fail
      go_ret
      exact ⟨rfl, B8.out⟩
    · by_cases hc0 : c2 = 0
      · have hq2 : ((c2 : Int) != 0) = false := by rw [hc0]; rfl
        have hq3 : ((bs Q).toList == (bs rl).toList) = true := by rw [hq]; simp
        clear hq hc0
        go_wp2_with fail
        go_ret
        exact ⟨rfl, B8.out⟩
      · have hq2 : ((c2 : Int) != 0) = true := by rw [bne_iff_ne]; omega
        clear hq hc0
        go_wp2_with fail
        go_ret
        exact ⟨rfl, B8.out⟩
  · have hy2 : ((y : Int) != 0) = true := by rw [bne_iff_ne]; omega
    have hy3 : ((y : Int) == 0) = false := by rw [beq_eq_false_iff_ne]; omega
    subst hc
    clear hy
    go_wp2_with fail
    refine (HO2.out _).mono ?_
    rintro e w4 ⟨rfl, hb4⟩
    have B5 := Lib.hid (B4.out.trans (hb4.mono B4.out.size))
    have B6 := Lib.hid (B5.out.alloc B5.out.size (.cells #[.int .u8 (r2.1 : Int), .int .u64 (r2.2.1 : Int), .int .u32 (r2.2.2.1 : Int), .string (bs r2.2.2.2)] 29))
    clear hb4
    go_wp2_with fail
    refine (HC2.out _).mono ?_
    rintro e w5 ⟨rfl, hb5⟩
    have B7 := Lib.hid (B6.out.trans (hb5.mono B6.out.size))
    clear hb5
    go_wp2_with fail
    refine (HA.out _).mono ?_
    rintro e w6 ⟨rfl, hb6⟩
    have B8 := Lib.hid (B7.out.trans (hb6.mono B7.out.size))
    clear hb6
    rcases HQ.out with hq | hq
    · have hq2 : ((c2 : Int) != 0) = true := by rw [bne_iff_ne]; omega
      clear hq
      go_wp2_with fail
      go_ret
      exact ⟨rfl, B8.out⟩
    · by_cases hc0 : c2 = 0
      · have hq2 : ((c2 : Int) != 0) = false := by rw [hc0]; rfl
        have hq3 : ((bs Q).toList == (bs rl).toList) = true := by rw [hq]; simp
        clear hq hc0
        go_wp2_with fail
        go_ret
        exact ⟨rfl, B8.out⟩
      · have hq2 : ((c2 : Int) != 0) = true := by rw [bne_iff_ne]; omega
        clear hq hc0
        go_wp2_with fail
        go_ret
        exact ⟨rfl, B8.out⟩

theorem sealTells_walk (k : Nat) (hk : k < 256) (g : Nat) (hg : g < 18446744073709551616) (i : Nat) (hi : i < 4294967296) (d : ByteArray) (hd : d.size ≤ maxLen) (at_ : Nat) (ha : at_ < 256) (y : Nat) (hy : y < 256) (raw : ByteArray) (hr : raw.size ≤ maxLen) (w : World) :
    Calls Tryd.prog 5 #[.agg #[.int .u8 (k : Int), .int .u64 (g : Int), .int .u32 (i : Int), .string d], .int .u8 (at_ : Int), .int .u8 (y : Int), .string raw] w fun e w' => e = .returned (.bool true) ∧ Below w.heap.size w w' := by
  by_cases h : 110 < d.size ∨ raw.size ≠ 128
  · exact tells_idle k g i at_ y d raw w (by simp only [maxLen] at hd; omega) (by simp only [maxLen] at hr; omega) h
  · have h1 : d.size ≤ 110 := by
      rcases Nat.lt_or_ge 110 d.size with hx | hx
      · exact absurd (.inl hx) h
      · exact hx
    have h2 : raw.size = 128 := by
      by_cases hx : raw.size = 128
      · exact hx
      · exact absurd (.inr hx) h
    exact tells_main k g i at_ y d raw w hk hg hi ha hy h1 h2

end Go.Proofs.YtciophpplpmmfaaDoor
