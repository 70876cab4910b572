/- The contract of seal's Close. -/
import Derived.Test.YtbigpapniloknaaDoorSealA
import Derived.Lib.AppendStr
import Derived.Deep.RegionHeld3
import Derived.OwnWalk
namespace Go.Proofs.YtbigpapniloknaaDoor
open Go.RowKit

/-- What stands ahead of a sector's sum. -/
def bodyL (k g i : Nat) (d : List UInt8) : List UInt8 := ((((beL k 1 ++ beL g 8) ++ beL i 4) ++ beL d.length 1) ++ d) ++ beL 0 (110 - d.length)
/-- A sector. -/
def secL (k g i : Nat) (d : List UInt8) : List UInt8 := bodyL k g i d ++ leL (crcSum (bodyL k g i d))
theorem bodyL_len (k g i : Nat) (d : List UInt8) (h : d.length ≤ 110) : (bodyL k g i d).length = 124 := by
  simp only [bodyL, List.length_append, beL_len]; omega
theorem secL_len (k g i : Nat) (d : List UInt8) (h : d.length ≤ 110) : (secL k g i d).length = 128 := by
  rw [secL, List.length_append, bodyL_len _ _ _ _ h, leL_len]
theorem strCells_nb (s : ByteArray) : Lib.strCells s = nums .u8 (nb s.data.toList) := by simp [Lib.strCells, nums, nb]
theorem app_bytes (l m : List UInt8) : (⟨l.toArray⟩ : ByteArray) ++ ⟨m.toArray⟩ = ⟨(l ++ m).toArray⟩ := by
  apply ByteArray.ext
  rw [ByteArray.data_append, List.append_toArray]

theorem Blk.four {w : World} {g t : Nat} {a b c d : Value} (h : Blk w g t [a, b, c, d]) : w.cell? ⟨g, 0, none⟩ = some a ∧ w.cell? ⟨g, 1, none⟩ = some b ∧ w.cell? ⟨g, 2, none⟩ = some c ∧ w.cell? ⟨g, 3, none⟩ = some d := ⟨h.cell 0, h.cell 1, h.cell 2, h.cell 3⟩

theorem seal_lay0 (base B m : Nat) (v : Value) (xs : List UInt8) (w : World) (hm : m ≤ 200) (hx : xs.length ≤ 1000) (hB : Blk w B 86 [v]) (hb : base ≤ B)
    (hown : w.ownsRow base 5 1 v (nb xs).length (nums .u8 (nb xs))) (hbs : base ≤ w.heap.size) :
    Calls Tryd.prog 61 #[.int .u64 0, .int .i64 (m : Int), .pointer (some ⟨B, 0, none⟩)] w fun e w' => e = .returned (.tuple #[]) ∧ ∃ v', Blk w' B 86 [v'] ∧
      w'.ownsRow base 5 1 v' (nb (xs ++ beL 0 m)).length (nums .u8 (nb (xs ++ beL 0 m))) ∧ Below base w w' := by
  have h := seal_lay base B 0 m v xs w (by omega) hm hx hB hb hown hbs
  exact h

set_option maxHeartbeats 4000000 in
set_option maxRecDepth 100000 in
theorem seal_Close_long (k g i : Nat) (d : ByteArray) (w : World) (hd : 110 < d.size) (hd2 : (d.size : Int) ≤ 9223372036854775807) :
    Calls Tryd.prog 43 #[.agg #[.int .u8 (k : Int), .int .u64 (g : Int), .int .u32 (i : Int), .string d]] w fun e w' => e = .returned (.tuple #[.string ⟨#[]⟩, .int .i64 11]) ∧ Below w.heap.size w w' := by
  have hd1 : decide ((110 : Int) < (d.size : Int)) = true := decide_eq_true (by omega)
  go_enter Tryd.func43, Tryd.ntmps43
  go_wp2
  go_ret2
  exact ⟨rfl, (Below.refl _ _).alloc (Nat.le_refl _) _⟩

set_option maxHeartbeats 8000000 in
set_option maxRecDepth 100000 in
theorem seal_Close_ok (k g i : Nat) (d : ByteArray) (w : World) (hk : k < 256) (hg : g < 18446744073709551616) (hi' : i < 4294967296) (hd : d.size ≤ 110) :
    Calls Tryd.prog 43 #[.agg #[.int .u8 (k : Int), .int .u64 (g : Int), .int .u32 (i : Int), .string d]] w fun e w' => e = .returned (.tuple #[.string ⟨(secL k g i d.data.toList).toArray⟩, .int .i64 0]) ∧ Below w.heap.size w w' := by
  obtain ⟨i0, hi, iz0, iz1, iz2⟩ := info_parts infoByte
  have hd1 : decide ((110 : Int) < (d.size : Int)) = false := decide_eq_false (by omega)
  have hwk : IntKind.u64.wrap (k : Int) = (k : Int) := IntWalk.u64_in _ (by omega)
  have hwi : IntKind.u64.wrap (i : Int) = (i : Int) := IntWalk.u64_in _ (by omega)
  have hwd : IntKind.u64.wrap (d.size : Int) = (d.size : Int) := IntWalk.u64_in _ (by omega)
  have HDL : Hid (d.data.toList.length = d.size) := Lib.hid (by rw [Array.length_toList]; rfl)
  have R0 := Lib.hid (show Blk (w.alloc (.cells #[.int .u8 (k : Int), .int .u64 (g : Int), .int .u32 (i : Int), .string d] 89)) w.heap.size 89 [.int .u8 (k : Int), .int .u64 (g : Int), .int .u32 (i : Int), .string d] from heap_alloc_new w _)
  have S0 := Lib.hid (grow1 w (.cells #[.int .u8 (k : Int), .int .u64 (g : Int), .int .u32 (i : Int), .string d] 89))
  go_enter Tryd.func43, Tryd.ntmps43
  go_wp2_with (at_make; refine wpList_make_own _ rfl _ _ 86 rfl (w.heap.size + 1) 5 i0 (.int .u8 0) 1 Tryd.underlying86 hi iz0 iz1 .i64 .i64 _ 128 rfl rfl rfl (by rw [iz2]; omega) (by simp [maxLen]) (by simp) ?_)
  intro w1 hown1 hgr1
  have BL1 : Hid (Below (w.heap.size + 1) (w.alloc (.cells #[.int .u8 (k : Int), .int .u64 (g : Int), .int .u32 (i : Int), .string d] 89)) w1) := Lib.hid ((Below.refl _ _).grown hgr1 (by simp) (fun k hk => by cases hk))
  have BA1 : Hid (Below w.heap.size w w1) := Lib.hid (((Below.refl _ _).alloc (Nat.le_refl _) _).trans (BL1.out.mono (Nat.le_succ _)))
  have SZ1 : Hid (w.heap.size + 1 ≤ w1.heap.size) := Lib.hid (by have := BL1.out.size; simpa using this)
  have BK1 : Hid (Blk (w1.alloc (.cells #[.slice (some ⟨w.heap.size + 1, 0, none⟩) 0 128] 86)) w1.heap.size 86 [.slice (some ⟨w.heap.size + 1, 0, none⟩) 0 128]) := Lib.hid (by exact Blk.new1 _ _ _)
  have OW1 : Hid ((w1.alloc (.cells #[.slice (some ⟨w.heap.size + 1, 0, none⟩) 0 128] 86)).ownsRow (w.heap.size + 1) 5 1 (.slice (some ⟨w.heap.size + 1, 0, none⟩) 0 128) (nb []).length (nums .u8 (nb []))) := Lib.hid (by exact hown1.alloc _)
  have RC1 : Hid (Blk (w1.alloc (.cells #[.slice (some ⟨w.heap.size + 1, 0, none⟩) 0 128] 86)) w.heap.size 89 [.int .u8 (k : Int), .int .u64 (g : Int), .int .u32 (i : Int), .string d]) := Lib.hid (by exact (R0.out.below BL1.out (Nat.lt_succ_self _)).alloc _)
  have SW1 : Hid (w.heap.size + 1 ≤ (w1.alloc (.cells #[.slice (some ⟨w.heap.size + 1, 0, none⟩) 0 128] 86)).heap.size) := Lib.hid (by exact Nat.le_trans SZ1.out (grow1 _ _))
  have BW1 : Hid (Below w.heap.size w (w1.alloc (.cells #[.slice (some ⟨w.heap.size + 1, 0, none⟩) 0 128] 86))) := Lib.hid (by exact BA1.out.alloc BA1.out.size _)
  clear hown1 hgr1
  obtain ⟨r0, r1, r2, r3⟩ := RC1.out.four
  go_wp2_with fail
  clear r0 r1 r2 r3
  refine (seal_lay (w.heap.size + 1) w1.heap.size k 1 (.slice (some ⟨w.heap.size + 1, 0, none⟩) 0 128) [] (w1.alloc (.cells #[.slice (some ⟨w.heap.size + 1, 0, none⟩) 0 128] 86)) (by omega) (by decide) (by decide) BK1.out SZ1.out OW1.out SW1.out).mono ?_
  rintro e W2 ⟨rfl, v2, bk2, ow2, bl2⟩
  have BK2 := Lib.hid bk2
  have OW2 := Lib.hid ow2
  have RC2 := Lib.hid (RC1.out.below bl2 (Nat.lt_succ_self _))
  have SW2 := Lib.hid (Nat.le_trans SW1.out bl2.size)
  have BW2 := Lib.hid (BW1.out.trans (bl2.mono (Nat.le_succ _)))
  obtain ⟨r0, r1, r2, r3⟩ := RC2.out.four
  clear bk2 ow2 bl2
  go_wp2_with fail
  clear r0 r1 r2 r3
  refine (seal_lay (w.heap.size + 1) w1.heap.size g 8 v2 ([] ++ beL k 1) W2 hg (by decide) (by simp only [List.length_append, beL_len, List.length_nil]; omega) BK2.out SZ1.out OW2.out SW2.out).mono ?_
  rintro e W3 ⟨rfl, v3, bk3, ow3, bl3⟩
  have BK3 := Lib.hid bk3
  have OW3 := Lib.hid ow3
  have RC3 := Lib.hid (RC2.out.below bl3 (Nat.lt_succ_self _))
  have SW3 := Lib.hid (Nat.le_trans SW2.out bl3.size)
  have BW3 := Lib.hid (BW2.out.trans (bl3.mono (Nat.le_succ _)))
  obtain ⟨r0, r1, r2, r3⟩ := RC3.out.four
  clear bk3 ow3 bl3
  go_wp2_with fail
  clear r0 r1 r2 r3
  refine (seal_lay (w.heap.size + 1) w1.heap.size i 4 v3 (([] ++ beL k 1) ++ beL g 8) W3 (by omega) (by decide) (by simp only [List.length_append, beL_len, List.length_nil]; omega) BK3.out SZ1.out OW3.out SW3.out).mono ?_
  rintro e W4 ⟨rfl, v4, bk4, ow4, bl4⟩
  have BK4 := Lib.hid bk4
  have OW4 := Lib.hid ow4
  have RC4 := Lib.hid (RC3.out.below bl4 (Nat.lt_succ_self _))
  have SW4 := Lib.hid (Nat.le_trans SW3.out bl4.size)
  have BW4 := Lib.hid (BW3.out.trans (bl4.mono (Nat.le_succ _)))
  obtain ⟨r0, r1, r2, r3⟩ := RC4.out.four
  clear bk4 ow4 bl4
  go_wp2_with fail
  clear r0 r1 r2 r3
  refine (seal_lay (w.heap.size + 1) w1.heap.size d.size 1 v4 ((([] ++ beL k 1) ++ beL g 8) ++ beL i 4) W4 (by omega) (by decide) (by simp only [List.length_append, beL_len, List.length_nil]; omega) BK4.out SZ1.out OW4.out SW4.out).mono ?_
  rintro e W5 ⟨rfl, v5, bk5, ow5, bl5⟩
  have BK5 := Lib.hid bk5
  have OW5 := Lib.hid ow5
  have RC5 := Lib.hid (RC4.out.below bl5 (Nat.lt_succ_self _))
  have SW5 := Lib.hid (Nat.le_trans SW4.out bl5.size)
  have BW5 := Lib.hid (BW4.out.trans (bl5.mono (Nat.le_succ _)))
  obtain ⟨r0, r1, r2, r3⟩ := RC5.out.four
  clear bk5 ow5 bl5
  have b0 := BK5.out.cell0
  obtain ⟨T5, hT5⟩ : ∃ T5, T5 = ((([] ++ beL k 1) ++ beL g 8) ++ beL i 4 ++ beL d.size 1) := ⟨_, rfl⟩
  have DB := Lib.hid (show T5.length = 14 from by rw [hT5]; simp only [List.length_append, beL_len, List.length_nil])
  have HT5 := Lib.hid hT5
  have OW5' : Hid (W5.ownsRow (w.heap.size + 1) 5 1 v5 (nb T5).length (nums .u8 (nb T5))) := Lib.hid (by rw [hT5]; exact OW5.out)
  clear hT5 OW5
  go_wp2_with (at_builtin; refine Lib.wpList_append_own_string _ rfl _ _ 86 9 rfl (w.heap.size + 1) 5 i0 Tryd.underlying86 Tryd.underlying9 hi iz0 iz1 iz2 _ _ _ rfl OW5'.out d rfl (by simp only [maxLen]; rw [nb_len, DB.out]; omega) (by rw [nb_len, DB.out]; omega) SW5.out ?_)
  intro v6 w6 hown6 hgr6 _
  obtain ⟨q, hq⟩ : ∃ q, q = 14 + d.size := ⟨_, rfl⟩
  have HQ := Lib.hid hq
  have hown6' : w6.ownsRow (w.heap.size + 1) 5 1 v6 q (nums .u8 (nb (T5 ++ d.data.toList))) := by
    rw [strCells_nb, ← nums_append, ← nb_append, nb_len, DB.out, ← hq] at hown6
    exact hown6
  have DB2 := Lib.hid (show (nb (T5 ++ d.data.toList)).length = q from by rw [nb_len, List.length_append, DB.out, HDL.out, hq])
  have BL6 : Hid (Below (w.heap.size + 1) W5 w6) := Lib.hid ((Below.refl _ _).grown hgr6 SW5.out (fun j hj => (OW5'.out.lt j hj).1))
  have BK6 : Hid (Blk w6 w1.heap.size 86 [v5]) := Lib.hid (BK5.out.grown hgr6 (fun e => own_ne OW5'.out BK5.out (by decide) e.symm))
  have RC6 := Lib.hid (RC5.out.below BL6.out (Nat.lt_succ_self _))
  have SW6 := Lib.hid (Nat.le_trans SW5.out BL6.out.size)
  have BW6 := Lib.hid (BW5.out.trans (BL6.out.mono (Nat.le_succ _)))
  obtain ⟨g6, cap6, rfl, _, _⟩ := hown6'.form (by omega)
  have OW6 := Lib.hid hown6'
  have hwq : IntKind.i64.wrap (124 - (q : Int)) = ((110 - d.size : Nat) : Int) := by rw [IntWalk.i64_in _ (by omega)]; omega
  have RC7 := Lib.hid (RC6.out.far (p := ⟨w1.heap.size, 0, none⟩) (by have := SZ1.out; show w.heap.size ≠ w1.heap.size; omega) (.slice (some ⟨g6, 0, none⟩) q cap6))
  have BK7 : Hid (Blk (w6.setCell ⟨w1.heap.size, 0, none⟩ (.slice (some ⟨g6, 0, none⟩) q cap6)) w1.heap.size 86 [.slice (some ⟨g6, 0, none⟩) q cap6]) := Lib.hid (BK6.out.set_ 0 _)
  have OW7 : Hid ((w6.setCell ⟨w1.heap.size, 0, none⟩ (.slice (some ⟨g6, 0, none⟩) q cap6)).ownsRow (w.heap.size + 1) 5 1 (.slice (some ⟨g6, 0, none⟩) q cap6) (nb (T5 ++ d.data.toList)).length (nums .u8 (nb (T5 ++ d.data.toList)))) := Lib.hid (by rw [DB2.out]; exact ownsRow_setCell_other OW6.out (own_ne OW6.out BK6.out (by decide)) _)
  have SW7 : Hid (w.heap.size + 1 ≤ (w6.setCell ⟨w1.heap.size, 0, none⟩ (.slice (some ⟨g6, 0, none⟩) q cap6)).heap.size) := Lib.hid (by simp [World.setCell]; exact SW6.out)
  have BW7 : Hid (Below w.heap.size w (w6.setCell ⟨w1.heap.size, 0, none⟩ (.slice (some ⟨g6, 0, none⟩) q cap6))) := Lib.hid (BW6.out.setCell (p := ⟨w1.heap.size, 0, none⟩) (Nat.le_of_lt SZ1.out) _)
  have z6 := BK6.out.frozen 0
  have b6 := BK6.out.cell0
  have b7 := BK7.out.cell0
  clear hown6 hown6' hgr6 hq r0 r1 r2 r3 b0
  go_wp2_with fail
  refine (seal_lay0 (w.heap.size + 1) w1.heap.size (110 - d.size) _ (T5 ++ d.data.toList) _ (by omega) (by rw [List.length_append, DB.out, HDL.out]; omega) BK7.out SZ1.out OW7.out SW7.out).mono ?_
  rintro e W8 ⟨rfl, v8, bk8, ow8, bl8⟩
  have BK8 := Lib.hid bk8
  have BW8 := Lib.hid (BW7.out.trans (bl8.mono (Nat.le_succ _)))
  obtain ⟨E, hE⟩ : ∃ E, E = bodyL k g i d.data.toList := ⟨_, rfl⟩
  have HE : Hid ((T5 ++ d.data.toList) ++ beL 0 (110 - d.size) = E) := Lib.hid (by rw [hE, HT5.out, bodyL, HDL.out]; rfl)
  have OW8 : Hid (W8.ownsRow (w.heap.size + 1) 5 1 v8 (nb E).length (nums .u8 (nb E))) := Lib.hid (by rw [← HE.out]; exact ow8)
  have EL : Hid (E.length = 124) := Lib.hid (by rw [hE]; exact bodyL_len _ _ _ _ (by rw [HDL.out]; exact hd))
  have HES : Hid (secL k g i d.data.toList = E ++ leL (crcSum E)) := Lib.hid (by rw [hE]; rfl)
  clear bk8 ow8 bl8 hE b6 b7 z6
  have b8 := BK8.out.cell0
  obtain ⟨F, hF⟩ : ∃ F, F = leL (crcSum E) := ⟨_, rfl⟩
  obtain ⟨es, hes⟩ : ∃ es : ByteArray, es = ⟨E.toArray⟩ := ⟨_, rfl⟩
  obtain ⟨fs, hfs⟩ : ∃ fs : ByteArray, fs = ⟨F.toArray⟩ := ⟨_, rfl⟩
  have hesz : es.size = 124 := by rw [hes]; exact EL.out
  have hfsz : fs.size = 4 := by rw [hfs, hF]; rfl
  have HSEC : Hid ((⟨(secL k g i d.data.toList).toArray⟩ : ByteArray) = es ++ fs) := Lib.hid (by rw [HES.out, ← hF, hes, hfs, app_bytes])
  have HF : Hid (∀ W, Calls Tryd.prog 53 #[.string es] W fun e w' => e = .returned (.string fs) ∧ Below W.heap.size W w') := Lib.hid (fun W => by
    have h := seal_foot es W (by omega)
    rw [hes] at h ⊢
    rw [hfs, hF]
    exact h)
  have HK : Hid (∀ w', Below W8.heap.size W8 w' → w'.cell? ⟨w1.heap.size, 0, none⟩ = some v8 ∧ (convert 86 9 v8).run Tryd.prog w' = .ok (.string es) w') := Lib.hid (fun w' hb => ⟨(BK8.out.keep hb).cell0, by rw [hes]; exact conv_own (own_keep OW8.out hb)⟩)
  have HBD : Hid (Below W8.heap.size W8 W8.drew) := Lib.hid (Below.refl _ _).drew
  clear hF b8 hes hfs
  go_wp2_with fail
  go_region_held3 (fun w' => w'.cell? ⟨w1.heap.size, 0, none⟩ = some v8 ∧ (convert 86 9 v8).run Tryd.prog w' = .ok (.string es) w')
    (first | exact HK.out _ (HBD.out.trans hb9) | exact HK.out _ HBD.out | exact HK.out _ (Below.refl _ _))
    ((go_at_call 53; refine (HF.out _).mono ?_; rintro e w9 ⟨rfl, hb9⟩))
  all_goals go_wp2
  all_goals go_ret2
  all_goals rw [HSEC.out]
  all_goals refine ⟨rfl, ?_⟩
  all_goals exact BW8.out.trans (((HBD.out.trans hb9)).mono BW8.out.size)

end Go.Proofs.YtbigpapniloknaaDoor
