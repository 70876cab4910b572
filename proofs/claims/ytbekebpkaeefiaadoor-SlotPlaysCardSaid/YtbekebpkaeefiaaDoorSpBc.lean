/- The switch of SlotPlays, 5 ≤ kk. Written by wip/tools/gen_sp.py. -/
import Derived.Test.YtbekebpkaeefiaaDoorSpA
namespace Go.Proofs.YtbekebpkaeefiaaDoor
set_option maxRecDepth 100000
open Go.RowKit

set_option maxHeartbeats 40000000 in
theorem sp_switchC (w : World) (p gl M : Nat) (v : Value) (A : Option Addr) (q c : Nat) (A' : Option Addr) (q' c' : Nat) (D : DSt) (n S : Nat) (W4 : World) (b9 g2 : Nat) (kk : Nat) (I R : Int) (g : Nat) (t : List UInt8) (N : Int) (y : Nat) (K : Option Addr) (kn kc : Nat) (ks : List Bool) (HN12 : Hid (n ≤ 12)) (HO2 : Hid (i64B I)) (HO4 : Hid (g < 18446744073709551616)) (HO6 : Hid (i64B N)) (HO7 : Hid (y < 256)) (HO8 : Hid (KSl w K kn ks)) (DD : Hid (IsDisk w.heap.size W4 p gl M v D)) (QQ : Hid (RDk W4 A q c A' q' c' D)) (XX : Hid (Blk W4 g2 31 [.slice A q c, .slice A' q' c', .int .i64 D.armed, .int .i64 (D.ops : Int)])) (AA : Hid (Blk W4 b9 36 [.int .u8 (kk : Int), .int .i64 I, .int .i64 R, .int .u64 (g : Int), .string (bs t), .int .i64 N, .int .u8 (y : Int), .slice K kn kc])) (BB : Hid (Below w.heap.size w W4)) (HSZ : Hid (g2 < b9)) (C2 : Hid (w.heap.size ≤ g2)) (SM : Hid (SmallN (S + 6000) D)) (HLE : Hid (D.lasts.length = n)) (HTL : Hid (t.length ≤ 1500)) (HKN : Hid (kn ≤ 50)) (hkk : 5 ≤ kk) (hk256 : kk < 256)
    (z0 z1 z2 z3 z4 z6 z8 z12 z13 z14 z15 z16 z17 z18 z19 z20 z21 z22 z23 z24 z25 z26 z27 z28 z29 z30 z31 z32 z33 z34 z35 z36 z37 z38 z39 z40 z41 z42 z43 z44 z45 z46 z47 z48 z49 z50 z51 z52 z53 z54 z55 z56 z57 z58 z60 z61 z62 z63 z64 z65 z66 z67 z68 z69 z70 z71 z72 z73 z74 z75 z76 z77 z78 z79 z80 z81 z82 z83 z84 z85 z86 z87 z88 z89 z90 z91 z92 z93 z94 z95 z96 z97 z98 z99 z100 z101 z102 z103 z104 z105 z106 z107 z108 z109 z110 z111 z112 z113 z114 z115 z116 z117 z118 z119 z120 z121 z122 z123 z124 z125 z126 z127 z128 z129 z130 z131 z132 z133 z134 z135 z136 z137 z138 z139 z140 z141 z142 z143 z144 z145 z146 z147 z148 z149 z150 z151 z152 z153 z154 z155 z156 z157 z158 z159 z160 z161 z162 z163 z164 z165 z166 z167 z168 z169 z170 z171 z172 z173 z174 z175 z176 z177 z178 z179 z180 z181 z182 z183 z184 z185 z186 z187 z188 z189 z190 z191 z192 z193 z194 z195 z196 z197 z198 z199 z200 z201 z202 z203 z204 z205 z206 z207 z208 z209 z210 z211 z212 z213 z214 z215 z216 z217 z218 z219 z220 z221 z222 z223 z224 z225 z226 z227 z228 z229 z230 z231 z232 z233 : Value) (Q : Exit → Act → World → Prop)
    (hQ : ∀ (E : DSt) (cd : Nat) (v5 : Value) (B5 : Option Addr) (m5 d5 : Nat) (B6 : Option Addr) (m6 d6 : Nat) (y12 y13 y60 y61 y62 y63 y64 y65 y66 y67 y68 y69 y70 y71 y72 y73 y74 y75 y76 y77 y78 y79 y80 y81 y82 y83 y84 y85 y86 y87 y88 y89 y90 y91 y92 y93 y94 y95 y96 y97 y98 y99 y100 y101 y102 y103 y104 y105 y106 y107 y108 y109 y110 y111 y112 y113 y114 y115 y116 y117 y118 y119 y120 y121 y122 y123 y124 y125 y126 y127 y128 y129 y130 y131 y132 y133 y134 y135 y136 y137 y138 y139 y140 y141 y142 y143 y144 y145 y146 y147 y148 y149 y150 y151 y152 y153 y154 y155 y156 y157 y158 y159 y160 y161 y162 y163 y164 y165 y166 y167 y168 y169 y170 y171 y172 y173 y174 : Value) (wx : World), Hid (IsDisk w.heap.size wx p gl M v5 E) → Hid (RDk wx B5 m5 d5 B6 m6 d6 E) → Hid (Blk wx g2 31 [.slice B5 m5 d5, .slice B6 m6 d6, .int .i64 E.armed, .int .i64 (E.ops : Int)]) → Hid (Blk wx b9 36 [.int .u8 (kk : Int), .int .i64 I, .int .i64 R, .int .u64 (g : Int), .string (bs t), .int .i64 N, .int .u8 (y : Int), .slice K kn kc]) → Hid (SmallN S E) → Hid (E.lasts.length = n) → Hid (Below w.heap.size w wx) → Q .normal { tmps := #[z0, z1, z2, z3, z4, .pointer (some ⟨p, 0, none⟩), z6, .pointer (some ⟨g2, 0, none⟩), z8, .pointer (some ⟨b9, 0, none⟩), .int .i64 (cd : Int), .int .i64 (cd : Int), y12, y13, z14, z15, z16, z17, z18, z19, z20, z21, z22, z23, z24, z25, z26, z27, z28, z29, z30, z31, z32, z33, z34, z35, z36, z37, z38, z39, z40, z41, z42, z43, z44, z45, z46, z47, z48, z49, z50, z51, z52, z53, z54, z55, z56, z57, z58, .int .u8 (kk : Int), y60, y61, y62, y63, y64, y65, y66, y67, y68, y69, y70, y71, y72, y73, y74, y75, y76, y77, y78, y79, y80, y81, y82, y83, y84, y85, y86, y87, y88, y89, y90, y91, y92, y93, y94, y95, y96, y97, y98, y99, y100, y101, y102, y103, y104, y105, y106, y107, y108, y109, y110, y111, y112, y113, y114, y115, y116, y117, y118, y119, y120, y121, y122, y123, y124, y125, y126, y127, y128, y129, y130, y131, y132, y133, y134, y135, y136, y137, y138, y139, y140, y141, y142, y143, y144, y145, y146, y147, y148, y149, y150, y151, y152, y153, y154, y155, y156, y157, y158, y159, y160, y161, y162, y163, y164, y165, y166, y167, y168, y169, y170, y171, y172, y173, y174, z175, z176, z177, z178, z179, z180, z181, z182, z183, z184, z185, z186, z187, z188, z189, z190, z191, z192, z193, z194, z195, z196, z197, z198, z199, z200, z201, z202, z203, z204, z205, z206, z207, z208, z209, z210, z211, z212, z213, z214, z215, z216, z217, z218, z219, z220, z221, z222, z223, z224, z225, z226, z227, z228, z229, z230, z231, z232, z233], defers := [] } wx) :
    (spSw (Tryd.f3.body.getD .skip)).wp Tryd.prog Q { tmps := #[z0, z1, z2, z3, z4, .pointer (some ⟨p, 0, none⟩), z6, .pointer (some ⟨g2, 0, none⟩), z8, .pointer (some ⟨b9, 0, none⟩), .int .i64 0, .int .i64 0, z12, z13, z14, z15, z16, z17, z18, z19, z20, z21, z22, z23, z24, z25, z26, z27, z28, z29, z30, z31, z32, z33, z34, z35, z36, z37, z38, z39, z40, z41, z42, z43, z44, z45, z46, z47, z48, z49, z50, z51, z52, z53, z54, z55, z56, z57, z58, .int .u8 (kk : Int), z60, z61, z62, z63, z64, z65, z66, z67, z68, z69, z70, z71, z72, z73, z74, z75, z76, z77, z78, z79, z80, z81, z82, z83, z84, z85, z86, z87, z88, z89, z90, z91, z92, z93, z94, z95, z96, z97, z98, z99, z100, z101, z102, z103, z104, z105, z106, z107, z108, z109, z110, z111, z112, z113, z114, z115, z116, z117, z118, z119, z120, z121, z122, z123, z124, z125, z126, z127, z128, z129, z130, z131, z132, z133, z134, z135, z136, z137, z138, z139, z140, z141, z142, z143, z144, z145, z146, z147, z148, z149, z150, z151, z152, z153, z154, z155, z156, z157, z158, z159, z160, z161, z162, z163, z164, z165, z166, z167, z168, z169, z170, z171, z172, z173, z174, z175, z176, z177, z178, z179, z180, z181, z182, z183, z184, z185, z186, z187, z188, z189, z190, z191, z192, z193, z194, z195, z196, z197, z198, z199, z200, z201, z202, z203, z204, z205, z206, z207, z208, z209, z210, z211, z212, z213, z214, z215, z216, z217, z218, z219, z220, z221, z222, z223, z224, z225, z226, z227, z228, z229, z230, z231, z232, z233], defers := [] } W4 := by
  dsimp only [spSw, Tryd.f3, Option.getD, cR, cL, cI]
  have hsz := bs_size t
  have hTL2 := HTL.out
  obtain ⟨a0, a1, a2, a3, a4, a5, a6, a7⟩ := AA.out.eightR
  obtain ⟨x0, x1, x2, x3⟩ := XX.out.fourR
  have e0 : ((kk : Int) == 0) = false := by rw [beq_eq_false_iff_ne]; omega
  have e1 : ((kk : Int) == 1) = false := by rw [beq_eq_false_iff_ne]; omega
  have e2 : ((kk : Int) == 2) = false := by rw [beq_eq_false_iff_ne]; omega
  have e3 : ((kk : Int) == 3) = false := by rw [beq_eq_false_iff_ne]; omega
  have e4 : ((kk : Int) == 4) = false := by rw [beq_eq_false_iff_ne]; omega
  by_cases k5 : kk = 5
  · have e5 : ((kk : Int) == 5) = true := by rw [beq_iff_eq]; omega
    clear k5 hkk hk256 hTL2
    obtain ⟨r, hr⟩ : ∃ r : Int, r = N.tmod 12 := ⟨_, rfl⟩
    have hrt := hr.symm
    have hri := tmod_in (x := N) (n := 12) (by decide) (by decide)
    rw [hrt] at hri
    have hrw : IntKind.i64.wrap r = r := IntWalk.i64_in _ (by omega)

    obtain ⟨u, hu⟩ : ∃ u : Int, u = N.tmod 4 := ⟨_, rfl⟩
    have hut := hu.symm
    have hui := tmod_in (x := N) (n := 4) (by decide) (by decide)
    rw [hut] at hui
    have huw : IntKind.i64.wrap u = u := IntWalk.i64_in _ (by omega)
    obtain ⟨ix, hix⟩ : ∃ ix : Nat, ix = (u % 4294967296).toNat := ⟨_, rfl⟩
    have hixl : ix < 4294967296 := by omega
    have hxw : IntKind.u32.wrap u = (ix : Int) := by rw [wrap_u32i]; omega
    obtain ⟨z, hz⟩ : ∃ z : Nat, z = y % 5 := ⟨_, rfl⟩
    have hzi : (y : Int) % 5 = (z : Int) := by omega
    have hzt : (y : Int).tmod 5 = (z : Int) := by rw [Int.tmod_eq_emod_of_nonneg (by omega)]; exact hzi
    have hzw : IntKind.u8.wrap (z : Int) = (z : Int) := by rw [wrap_u8i]; omega
    obtain ⟨mn, hmn⟩ : ∃ mn, mn = min t.length 110 := ⟨_, rfl⟩
    have hmi : min (t.length : Int) 110 = (mn : Int) := by omega
    obtain ⟨T, hT⟩ : ∃ T, T = t.take mn := ⟨_, rfl⟩
    have hTl : T.length ≤ 110 := by rw [hT, List.length_take]; omega
    have hto : ∀ W' : World, (Instr.slice 9 (.string (bs t)) none (some (.int .i64 (mn : Int))) none).run Tryd.prog W' = .ok (.string (bs T)) W' := fun W' => run_str_to t T mn W' (by omega) hT.symm
    obtain ⟨s, hs⟩ : ∃ s, s = secL z g ix T := ⟨_, rfl⟩
    have hsl : s.length = 128 := by rw [hs]; exact secL_len _ _ _ _ hTl
    have HCL : Hid (∀ W, Calls Tryd.prog 18 #[.agg #[.int .u8 (z : Int), .int .u64 (g : Int), .int .u32 (ix : Int), .string (bs T)]] W fun e w' => e = .returned (.tuple #[.string (bs s), .int .i64 0]) ∧ Below W.heap.size W w') := Lib.hid (fun W => by
      have h := seal_Close_ok z g ix (bs T) W (by omega) HO4.out hixl (by rw [bs_size]; exact hTl)
      rw [show (bs T).data.toList = T from by unfold bs; simp] at h
      rw [hs]
      exact h)

    obtain ⟨E, hE⟩ : ∃ E, E = (wrD D r s).1 := ⟨_, rfl⟩
    obtain ⟨cd, hcd⟩ : ∃ cd : Nat, cd = (wrD D r s).2 := ⟨_, rfl⟩
    have SE : Hid (SmallN (S) E) := Lib.hid (by rw [hE]; exact (SM.out.mono (Nat.add_le_add_left (show 1 ≤ 6000 by decide) _)).wr r s)
    have HLE2 : Hid (E.lasts.length = n) := Lib.hid (by rw [hE]; exact (congrArg List.length (wrD_lasts D r s)).trans HLE.out)

    have HW := Lib.hid (fun W v hW (hb : w.heap.size ≤ W.heap.size) => disk_Write w.heap.size W p gl M v D r s hW SM.out.small hb (by omega))
    have HRW := Lib.hid (fun W (hW : RDk W A q c A' q' c' D) => ref_Put12 W A q c A' q' c' D r s hW SM.out.small (by rw [hW.len.1, HLE.out]; have := HN12.out; omega) (by omega))
    rw [← hE, ← hcd] at HW HRW
    unfold rdV at HRW
    clear hE hcd hr hu hri hui hix hz hmn hT hs
    go_wp2_with fail
    clear a0 a1 a2 a3 a4 a5 a6 a7 x0 x1 x2 x3
    have HCE : Hid (∀ W, Below W4.heap.size W4 W → W.cell? ⟨b9, 3, none⟩ = some (.int .u64 (g : Int)) ∧ W.cell? ⟨b9, 4, none⟩ = some (.string (bs t)) ∧ W.cell? ⟨b9, 5, none⟩ = some (.int .i64 N) ∧ W.cell? ⟨b9, 6, none⟩ = some (.int .u8 (y : Int))) := Lib.hid (fun W hb => by
      obtain ⟨a0, a1, a2, a3, a4, a5, a6, a7⟩ := (AA.out.keep hb).eightR
      exact ⟨a3, a4, a5, a6⟩)
    have K0 : Hid (Below W4.heap.size W4 W4.drew) := Lib.hid ((Below.refl _ _).drew)
    go_region_held3 (fun W => W.cell? ⟨b9, 3, none⟩ = some (.int .u64 (g : Int)) ∧ W.cell? ⟨b9, 4, none⟩ = some (.string (bs t)) ∧ W.cell? ⟨b9, 5, none⟩ = some (.int .i64 N) ∧ W.cell? ⟨b9, 6, none⟩ = some (.int .u8 (y : Int)))
      (first | exact HCE.out _ K1.out | exact HCE.out _ K0.out | exact HCE.out _ (Below.refl _ _))
      (first
        | (go_at_call 18
           refine (HCL.out _).mono ?_
           rintro e W5a ⟨rfl, b5a⟩
           have K1 := Lib.hid (K0.out.trans (b5a.mono K0.out.size))
           clear b5a))
    have QQ := Lib.hid (QQ.out.keep K1.out)

    have AA := Lib.hid (AA.out.keep K1.out)
    have XX := Lib.hid (XX.out.keep K1.out)
    have BB := Lib.hid (BB.out.trans (K1.out.mono BB.out.size))
    have DD := Lib.hid (DD.out.keep K1.out)

    clear K0 K1 HCE HCL hut huw hixl hxw hzi hzt hzw hmi hto hTl
    obtain ⟨a0, a1, a2, a3, a4, a5, a6, a7⟩ := AA.out.eightR
    obtain ⟨x0, x1, x2, x3⟩ := XX.out.fourR
    go_wp2_with fail
    clear a0 a1 a2 a3 a4 a5 a6 a7 x0 x1 x2 x3
    refine (HW.out _ _ DD.out BB.out.size).mono ?_
    rintro e W5 ⟨rfl, v5, h5, hb5, hk5⟩

    have AA := Lib.hid (hk5 _ _ _ (by decide) (by decide) (by decide) AA.out)
    have XX := Lib.hid (hk5 _ _ _ (by decide) (by decide) (by decide) XX.out)
    have QQ := Lib.hid (QQ.out.keeps hk5)
    have BB := Lib.hid (BB.out.trans hb5)
    have DD := Lib.hid h5

    clear h5 hb5 hk5 HW
    obtain ⟨a0, a1, a2, a3, a4, a5, a6, a7⟩ := AA.out.eightR
    obtain ⟨x0, x1, x2, x3⟩ := XX.out.fourR
    go_wp2_with fail
    clear a0 a1 a2 a3 a4 a5 a6 a7 x0 x1 x2 x3
    refine (HRW.out _ QQ.out).mono ?_
    rintro e W6 ⟨B5, m5, d5, B6, m6, d6, rfl, q6, b6⟩

    have AA := Lib.hid (AA.out.keep b6)
    have XX := Lib.hid (XX.out.keep b6)
    have BB := Lib.hid (BB.out.trans (b6.mono BB.out.size))
    have DD := Lib.hid (DD.out.keep b6)

    have QQ := Lib.hid q6
    clear q6 b6 HRW hrt hrw hsl
    have SM := SE
    have HLE := HLE2

    obtain ⟨W7, run7, hR7, hB7, he7, hs7⟩ := store_rd2 XX.out B5 m5 d5 B6 m6 d6 E.armed (E.ops : Int)
    have RUN7 := Lib.hid run7
    have AA : Hid (Blk W7 b9 36 [.int .u8 (kk : Int), .int .i64 I, .int .i64 R, .int .u64 (g : Int), .string (bs t), .int .i64 N, .int .u8 (y : Int), .slice K kn kc]) := Lib.hid ((he7 _ (by have := HSZ.out; omega)).trans AA.out)
    have DD := Lib.hid (DD.out.aside XX.out (by decide) (by decide) (by decide) hs7 he7)
    have QQ := Lib.hid (QQ.out.aside XX.out (by decide) (by decide) he7)
    have BB := Lib.hid (hB7 _ _ BB.out C2.out)
    have XX := Lib.hid hR7
    clear run7 hR7 hB7 he7 hs7
    obtain ⟨x0, x1, x2, x3⟩ := XX.out.fourR
    go_wp2_with (refine wpList_store_to rfl 31 _ _ rfl ⟨g2, 0, none⟩ rfl (.agg #[.slice B5 m5 d5, .slice B6 m6 d6, .int .i64 E.armed, .int .i64 (E.ops : Int)]) rfl W7 RUN7.out ?_)
    clear x0 x1 x2 x3 RUN7

    exact hQ E cd _ B5 m5 d5 B6 m6 d6 _ _ _ _ _ _ _ _ _ _ _ _ _ _ _ _ _ _ _ _ _ _ _ _ _ _ _ _ _ _ _ _ _ _ _ _ _ _ _ _ _ _ _ _ _ _ _ _ _ _ _ _ _ _ _ _ _ _ _ _ _ _ _ _ _ _ _ _ _ _ _ _ _ _ _ _ _ _ _ _ _ _ _ _ _ _ _ _ _ _ _ _ _ _ _ _ _ _ _ _ _ _ _ _ _ _ _ _ _ _ _ _ _ _ _ _ _ _ DD QQ XX AA SM HLE BB
  · have e5 : ((kk : Int) == 5) = false := by rw [beq_eq_false_iff_ne]; omega
    clear hkk hk256 hTL2
    obtain ⟨E, hE⟩ : ∃ E, E = D := ⟨_, rfl⟩
    obtain ⟨cd, hcd⟩ : ∃ cd : Nat, cd = 0 := ⟨_, rfl⟩
    obtain ⟨B5, m5, d5, B6, m6, d6, hnm⟩ : ∃ B5 m5 d5 B6 m6 d6, (B5, m5, d5, B6, m6, d6) = (A, q, c, A', q', c') := ⟨_, _, _, _, _, _, rfl⟩
    injection hnm with n1 hnm
    injection hnm with n2 hnm
    injection hnm with n3 hnm
    injection hnm with n4 hnm
    injection hnm with n5 n6
    subst n1 n2 n3 n4 n5 n6 hE
    have SM : Hid (SmallN (S) E) := Lib.hid (SM.out.mono (by omega))
    go_wp2_with fail
    clear a0 a1 a2 a3 a4 a5 a6 a7 x0 x1 x2 x3

    exact hQ E 0 _ B5 m5 d5 B6 m6 d6 _ _ _ _ _ _ _ _ _ _ _ _ _ _ _ _ _ _ _ _ _ _ _ _ _ _ _ _ _ _ _ _ _ _ _ _ _ _ _ _ _ _ _ _ _ _ _ _ _ _ _ _ _ _ _ _ _ _ _ _ _ _ _ _ _ _ _ _ _ _ _ _ _ _ _ _ _ _ _ _ _ _ _ _ _ _ _ _ _ _ _ _ _ _ _ _ _ _ _ _ _ _ _ _ _ _ _ _ _ _ _ _ _ _ _ _ _ _ DD QQ XX AA SM HLE BB
end Go.Proofs.YtbekebpkaeefiaaDoor
