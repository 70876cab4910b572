/- The loop of SlotPlays. Written by wip/tools/gen_sp.py. -/
import Derived.Test.YtbekebpkaeefiaaDoorSpBa
import Derived.Test.YtbekebpkaeefiaaDoorSpBb
import Derived.Test.YtbekebpkaeefiaaDoorSpBc
namespace Go.Proofs.YtbekebpkaeefiaaDoor
set_option maxRecDepth 100000
open Go.RowKit

theorem sp_switch (w : World) (p gl M : Nat) (v : Value) (A : Option Addr) (q c : Nat) (A' : Option Addr) (q' c' : Nat) (D : DSt) (n S : Nat) (W4 : World) (b9 g2 : Nat) (kk : Nat) (I R : Int) (g : Nat) (t : List UInt8) (N : Int) (y : Nat) (K : Option Addr) (kn kc : Nat) (ks : List Bool) (HN12 : Hid (n ≤ 12)) (HO2 : Hid (i64B I)) (HO4 : Hid (g < 18446744073709551616)) (HO6 : Hid (i64B N)) (HO7 : Hid (y < 256)) (HO8 : Hid (KSl w K kn ks)) (DD : Hid (IsDisk w.heap.size W4 p gl M v D)) (QQ : Hid (RDk W4 A q c A' q' c' D)) (XX : Hid (Blk W4 g2 31 [.slice A q c, .slice A' q' c', .int .i64 D.armed, .int .i64 (D.ops : Int)])) (AA : Hid (Blk W4 b9 36 [.int .u8 (kk : Int), .int .i64 I, .int .i64 R, .int .u64 (g : Int), .string (bs t), .int .i64 N, .int .u8 (y : Int), .slice K kn kc])) (BB : Hid (Below w.heap.size w W4)) (HSZ : Hid (g2 < b9)) (C2 : Hid (w.heap.size ≤ g2)) (SM : Hid (SmallN (S + 6000) D)) (HLE : Hid (D.lasts.length = n)) (HTL : Hid (t.length ≤ 1500)) (HKN : Hid (kn ≤ 50)) (hk256 : kk < 256)
    (z0 z1 z2 z3 z4 z6 z8 z12 z13 z14 z15 z16 z17 z18 z19 z20 z21 z22 z23 z24 z25 z26 z27 z28 z29 z30 z31 z32 z33 z34 z35 z36 z37 z38 z39 z40 z41 z42 z43 z44 z45 z46 z47 z48 z49 z50 z51 z52 z53 z54 z55 z56 z57 z58 z60 z61 z62 z63 z64 z65 z66 z67 z68 z69 z70 z71 z72 z73 z74 z75 z76 z77 z78 z79 z80 z81 z82 z83 z84 z85 z86 z87 z88 z89 z90 z91 z92 z93 z94 z95 z96 z97 z98 z99 z100 z101 z102 z103 z104 z105 z106 z107 z108 z109 z110 z111 z112 z113 z114 z115 z116 z117 z118 z119 z120 z121 z122 z123 z124 z125 z126 z127 z128 z129 z130 z131 z132 z133 z134 z135 z136 z137 z138 z139 z140 z141 z142 z143 z144 z145 z146 z147 z148 z149 z150 z151 z152 z153 z154 z155 z156 z157 z158 z159 z160 z161 z162 z163 z164 z165 z166 z167 z168 z169 z170 z171 z172 z173 z174 z175 z176 z177 z178 z179 z180 z181 z182 z183 z184 z185 z186 z187 z188 z189 z190 z191 z192 z193 z194 z195 z196 z197 z198 z199 z200 z201 z202 z203 z204 z205 z206 z207 z208 z209 z210 z211 z212 z213 z214 z215 z216 z217 z218 z219 z220 z221 z222 z223 z224 z225 z226 z227 z228 z229 z230 z231 z232 z233 : Value) (Q : Exit → Act → World → Prop)
    (hQ : ∀ (E : DSt) (cd : Nat) (v5 : Value) (B5 : Option Addr) (m5 d5 : Nat) (B6 : Option Addr) (m6 d6 : Nat) (y12 y13 y60 y61 y62 y63 y64 y65 y66 y67 y68 y69 y70 y71 y72 y73 y74 y75 y76 y77 y78 y79 y80 y81 y82 y83 y84 y85 y86 y87 y88 y89 y90 y91 y92 y93 y94 y95 y96 y97 y98 y99 y100 y101 y102 y103 y104 y105 y106 y107 y108 y109 y110 y111 y112 y113 y114 y115 y116 y117 y118 y119 y120 y121 y122 y123 y124 y125 y126 y127 y128 y129 y130 y131 y132 y133 y134 y135 y136 y137 y138 y139 y140 y141 y142 y143 y144 y145 y146 y147 y148 y149 y150 y151 y152 y153 y154 y155 y156 y157 y158 y159 y160 y161 y162 y163 y164 y165 y166 y167 y168 y169 y170 y171 y172 y173 y174 : Value) (wx : World), Hid (IsDisk w.heap.size wx p gl M v5 E) → Hid (RDk wx B5 m5 d5 B6 m6 d6 E) → Hid (Blk wx g2 31 [.slice B5 m5 d5, .slice B6 m6 d6, .int .i64 E.armed, .int .i64 (E.ops : Int)]) → Hid (Blk wx b9 36 [.int .u8 (kk : Int), .int .i64 I, .int .i64 R, .int .u64 (g : Int), .string (bs t), .int .i64 N, .int .u8 (y : Int), .slice K kn kc]) → Hid (SmallN S E) → Hid (E.lasts.length = n) → Hid (Below w.heap.size w wx) → Q .normal { tmps := #[z0, z1, z2, z3, z4, .pointer (some ⟨p, 0, none⟩), z6, .pointer (some ⟨g2, 0, none⟩), z8, .pointer (some ⟨b9, 0, none⟩), .int .i64 (cd : Int), .int .i64 (cd : Int), y12, y13, z14, z15, z16, z17, z18, z19, z20, z21, z22, z23, z24, z25, z26, z27, z28, z29, z30, z31, z32, z33, z34, z35, z36, z37, z38, z39, z40, z41, z42, z43, z44, z45, z46, z47, z48, z49, z50, z51, z52, z53, z54, z55, z56, z57, z58, .int .u8 (kk : Int), y60, y61, y62, y63, y64, y65, y66, y67, y68, y69, y70, y71, y72, y73, y74, y75, y76, y77, y78, y79, y80, y81, y82, y83, y84, y85, y86, y87, y88, y89, y90, y91, y92, y93, y94, y95, y96, y97, y98, y99, y100, y101, y102, y103, y104, y105, y106, y107, y108, y109, y110, y111, y112, y113, y114, y115, y116, y117, y118, y119, y120, y121, y122, y123, y124, y125, y126, y127, y128, y129, y130, y131, y132, y133, y134, y135, y136, y137, y138, y139, y140, y141, y142, y143, y144, y145, y146, y147, y148, y149, y150, y151, y152, y153, y154, y155, y156, y157, y158, y159, y160, y161, y162, y163, y164, y165, y166, y167, y168, y169, y170, y171, y172, y173, y174, z175, z176, z177, z178, z179, z180, z181, z182, z183, z184, z185, z186, z187, z188, z189, z190, z191, z192, z193, z194, z195, z196, z197, z198, z199, z200, z201, z202, z203, z204, z205, z206, z207, z208, z209, z210, z211, z212, z213, z214, z215, z216, z217, z218, z219, z220, z221, z222, z223, z224, z225, z226, z227, z228, z229, z230, z231, z232, z233], defers := [] } wx) :
    (spSw (Tryd.f3.body.getD .skip)).wp Tryd.prog Q { tmps := #[z0, z1, z2, z3, z4, .pointer (some ⟨p, 0, none⟩), z6, .pointer (some ⟨g2, 0, none⟩), z8, .pointer (some ⟨b9, 0, none⟩), .int .i64 0, .int .i64 0, z12, z13, z14, z15, z16, z17, z18, z19, z20, z21, z22, z23, z24, z25, z26, z27, z28, z29, z30, z31, z32, z33, z34, z35, z36, z37, z38, z39, z40, z41, z42, z43, z44, z45, z46, z47, z48, z49, z50, z51, z52, z53, z54, z55, z56, z57, z58, .int .u8 (kk : Int), z60, z61, z62, z63, z64, z65, z66, z67, z68, z69, z70, z71, z72, z73, z74, z75, z76, z77, z78, z79, z80, z81, z82, z83, z84, z85, z86, z87, z88, z89, z90, z91, z92, z93, z94, z95, z96, z97, z98, z99, z100, z101, z102, z103, z104, z105, z106, z107, z108, z109, z110, z111, z112, z113, z114, z115, z116, z117, z118, z119, z120, z121, z122, z123, z124, z125, z126, z127, z128, z129, z130, z131, z132, z133, z134, z135, z136, z137, z138, z139, z140, z141, z142, z143, z144, z145, z146, z147, z148, z149, z150, z151, z152, z153, z154, z155, z156, z157, z158, z159, z160, z161, z162, z163, z164, z165, z166, z167, z168, z169, z170, z171, z172, z173, z174, z175, z176, z177, z178, z179, z180, z181, z182, z183, z184, z185, z186, z187, z188, z189, z190, z191, z192, z193, z194, z195, z196, z197, z198, z199, z200, z201, z202, z203, z204, z205, z206, z207, z208, z209, z210, z211, z212, z213, z214, z215, z216, z217, z218, z219, z220, z221, z222, z223, z224, z225, z226, z227, z228, z229, z230, z231, z232, z233], defers := [] } W4 := by
  by_cases h3 : kk < 3
  · exact sp_switchA w p gl M v A q c A' q' c' D n S W4 b9 g2 kk I R g t N y K kn kc ks HN12 HO2 HO4 HO6 HO7 HO8 DD QQ XX AA BB HSZ C2 SM HLE HTL HKN h3 hk256 z0 z1 z2 z3 z4 z6 z8 z12 z13 z14 z15 z16 z17 z18 z19 z20 z21 z22 z23 z24 z25 z26 z27 z28 z29 z30 z31 z32 z33 z34 z35 z36 z37 z38 z39 z40 z41 z42 z43 z44 z45 z46 z47 z48 z49 z50 z51 z52 z53 z54 z55 z56 z57 z58 z60 z61 z62 z63 z64 z65 z66 z67 z68 z69 z70 z71 z72 z73 z74 z75 z76 z77 z78 z79 z80 z81 z82 z83 z84 z85 z86 z87 z88 z89 z90 z91 z92 z93 z94 z95 z96 z97 z98 z99 z100 z101 z102 z103 z104 z105 z106 z107 z108 z109 z110 z111 z112 z113 z114 z115 z116 z117 z118 z119 z120 z121 z122 z123 z124 z125 z126 z127 z128 z129 z130 z131 z132 z133 z134 z135 z136 z137 z138 z139 z140 z141 z142 z143 z144 z145 z146 z147 z148 z149 z150 z151 z152 z153 z154 z155 z156 z157 z158 z159 z160 z161 z162 z163 z164 z165 z166 z167 z168 z169 z170 z171 z172 z173 z174 z175 z176 z177 z178 z179 z180 z181 z182 z183 z184 z185 z186 z187 z188 z189 z190 z191 z192 z193 z194 z195 z196 z197 z198 z199 z200 z201 z202 z203 z204 z205 z206 z207 z208 z209 z210 z211 z212 z213 z214 z215 z216 z217 z218 z219 z220 z221 z222 z223 z224 z225 z226 z227 z228 z229 z230 z231 z232 z233 Q hQ
  by_cases h5 : kk < 5
  · exact sp_switchB w p gl M v A q c A' q' c' D n S W4 b9 g2 kk I R g t N y K kn kc ks HN12 HO2 HO4 HO6 HO7 HO8 DD QQ XX AA BB HSZ C2 SM HLE HTL HKN ⟨by omega, h5⟩ hk256 z0 z1 z2 z3 z4 z6 z8 z12 z13 z14 z15 z16 z17 z18 z19 z20 z21 z22 z23 z24 z25 z26 z27 z28 z29 z30 z31 z32 z33 z34 z35 z36 z37 z38 z39 z40 z41 z42 z43 z44 z45 z46 z47 z48 z49 z50 z51 z52 z53 z54 z55 z56 z57 z58 z60 z61 z62 z63 z64 z65 z66 z67 z68 z69 z70 z71 z72 z73 z74 z75 z76 z77 z78 z79 z80 z81 z82 z83 z84 z85 z86 z87 z88 z89 z90 z91 z92 z93 z94 z95 z96 z97 z98 z99 z100 z101 z102 z103 z104 z105 z106 z107 z108 z109 z110 z111 z112 z113 z114 z115 z116 z117 z118 z119 z120 z121 z122 z123 z124 z125 z126 z127 z128 z129 z130 z131 z132 z133 z134 z135 z136 z137 z138 z139 z140 z141 z142 z143 z144 z145 z146 z147 z148 z149 z150 z151 z152 z153 z154 z155 z156 z157 z158 z159 z160 z161 z162 z163 z164 z165 z166 z167 z168 z169 z170 z171 z172 z173 z174 z175 z176 z177 z178 z179 z180 z181 z182 z183 z184 z185 z186 z187 z188 z189 z190 z191 z192 z193 z194 z195 z196 z197 z198 z199 z200 z201 z202 z203 z204 z205 z206 z207 z208 z209 z210 z211 z212 z213 z214 z215 z216 z217 z218 z219 z220 z221 z222 z223 z224 z225 z226 z227 z228 z229 z230 z231 z232 z233 Q hQ
  exact sp_switchC w p gl M v A q c A' q' c' D n S W4 b9 g2 kk I R g t N y K kn kc ks HN12 HO2 HO4 HO6 HO7 HO8 DD QQ XX AA BB HSZ C2 SM HLE HTL HKN (by omega) hk256 z0 z1 z2 z3 z4 z6 z8 z12 z13 z14 z15 z16 z17 z18 z19 z20 z21 z22 z23 z24 z25 z26 z27 z28 z29 z30 z31 z32 z33 z34 z35 z36 z37 z38 z39 z40 z41 z42 z43 z44 z45 z46 z47 z48 z49 z50 z51 z52 z53 z54 z55 z56 z57 z58 z60 z61 z62 z63 z64 z65 z66 z67 z68 z69 z70 z71 z72 z73 z74 z75 z76 z77 z78 z79 z80 z81 z82 z83 z84 z85 z86 z87 z88 z89 z90 z91 z92 z93 z94 z95 z96 z97 z98 z99 z100 z101 z102 z103 z104 z105 z106 z107 z108 z109 z110 z111 z112 z113 z114 z115 z116 z117 z118 z119 z120 z121 z122 z123 z124 z125 z126 z127 z128 z129 z130 z131 z132 z133 z134 z135 z136 z137 z138 z139 z140 z141 z142 z143 z144 z145 z146 z147 z148 z149 z150 z151 z152 z153 z154 z155 z156 z157 z158 z159 z160 z161 z162 z163 z164 z165 z166 z167 z168 z169 z170 z171 z172 z173 z174 z175 z176 z177 z178 z179 z180 z181 z182 z183 z184 z185 z186 z187 z188 z189 z190 z191 z192 z193 z194 z195 z196 z197 z198 z199 z200 z201 z202 z203 z204 z205 z206 z207 z208 z209 z210 z211 z212 z213 z214 z215 z216 z217 z218 z219 z220 z221 z222 z223 z224 z225 z226 z227 z228 z229 z230 z231 z232 z233 Q hQ

set_option maxHeartbeats 40000000 in
theorem slotPlays_main (n : Nat) (La : Option Addr) (ln lc : Nat) (l : Nat → ActS) (w : World) (hn1 : 1 ≤ n) (hn : n ≤ 12) (hln : ln ≤ 30) (hL : ActsS w La ln l) :
    Calls Tryd.prog 3 #[.int .i64 (n : Int), .slice La ln lc] w fun e w' => e = .returned (.bool true) ∧ Below w.heap.size w w' := by
  have HA := Lib.hid slot_Awake
  have HN := Lib.hid (disk_New n w hn1 (by omega))
  have HLL := Lib.hid hL
  have d1 : decide ((n : Int) < 1) = false := decide_eq_false (by omega)
  have d1' : decide (n < 1) = false := decide_eq_false (by omega)
  have d2 : decide ((12 : Int) < (n : Int)) = false := decide_eq_false (by omega)
  have d2' : decide (12 < n) = false := decide_eq_false (by omega)
  have d3 : decide ((30 : Int) < (ln : Int)) = false := decide_eq_false (by omega)
  have d3' : decide (30 < ln) = false := decide_eq_false (by omega)
  have HSM0 : Hid (SmallN (300000 - 6000 * 0) (newD n) ∧ (newD n).lasts.length = n) := Lib.hid ⟨(smallN_new n).mono (by omega), by simp [newD]⟩
  clear hL
  go_enter Tryd.func3, Tryd.ntmps3
  go_wp2_with fail
  refine HN.out.mono ?_
  rintro e w1 ⟨p, gl, M, v, rfl, hD1, hb1⟩
  have D1 := Lib.hid hD1
  have B1 := Lib.hid hb1
  have RN := Lib.hid (ref_New12 n w1 hn1 (by omega))
  unfold rdV at RN
  clear hD1 hb1 HN
  go_wp2_with fail
  refine RN.out.mono ?_
  rintro e w2 ⟨B, m, d, rfl, hs2, bl⟩
  have D2 := Lib.hid (D1.out.keep bl)
  have B2 := Lib.hid (B1.out.trans (bl.mono B1.out.size))
  have Q2 : Hid (RDk w2 B m d none 0 0 (newD n)) := Lib.hid ⟨hs2, WriS.empty _, fun _ => ⟨rfl, rfl⟩⟩
  clear hs2 bl RN
  go_wp2_with fail
  obtain ⟨W3, hW3⟩ : ∃ W3, W3 = w2.alloc (.cells #[.slice B m d, .slice none 0 0, .int .i64 (newD n).armed, .int .i64 ((newD n).ops : Int)] 31) := ⟨_, rfl⟩
  have bl3 : Below w2.heap.size w2 W3 := by rw [hW3]; exact (Below.refl _ _).alloc (Nat.le_refl _) _
  have X3 : Hid (Blk W3 w2.heap.size 31 [.slice B m d, .slice none 0 0, .int .i64 (newD n).armed, .int .i64 ((newD n).ops : Int)]) := Lib.hid (by rw [hW3]; exact heap_alloc_new w2 _)
  have D3 := Lib.hid (D2.out.keep bl3)
  have Q3 := Lib.hid (Q2.out.keep bl3)
  have B3 := Lib.hid (B2.out.trans (bl3.mono B2.out.size))
  have C2 : Hid (w.heap.size ≤ w2.heap.size) := Lib.hid B2.out.size
  rw [← hW3]
  clear hW3 bl3
  try simp only [Act.put, List.setIfInBounds_toArray, List.set_cons_succ, List.set_cons_zero]
  go_loopw [43] (fun iv wr => ∃ (k : Nat) (D : DSt) (v : Value) (A : Option Addr) (q c : Nat) (A' : Option Addr) (q' c' : Nat), iv = .int .i64 k ∧ k ≤ ln ∧ Hid (IsDisk w.heap.size wr p gl M v D) ∧ Hid (RDk wr A q c A' q' c' D) ∧ Hid (Blk wr w2.heap.size 31 [.slice A q c, .slice A' q' c', .int .i64 D.armed, .int .i64 (D.ops : Int)]) ∧ Hid (SmallN (300000 - 6000 * k) D ∧ D.lasts.length = n) ∧ Hid (Below w.heap.size w wr)) (fun iv _ => ln - (intOf iv).toNat)
  case atStart => exact ⟨0, newD n, v, B, m, d, none, 0, 0, rfl, Nat.zero_le _, D3, Q3, X3, HSM0, B3⟩
  case round =>
    obtain ⟨k, D, v, A, q, c, A', q', c', rfl, hk, HD, HQ, HX, HS, HB⟩ := hrel
    clear D1 B1 D2 B2 Q2 X3 D3 Q3 B3 HSM0
    by_cases hlt : k < ln
    · have hd : decide ((k : Int) < (ln : Int)) = true := decide_eq_true (by omega)
      have hd3 : decide (k < ln) = true := decide_eq_true hlt
      have HLT := Lib.hid hlt
      have HLN := Lib.hid hln
      have HN12 := Lib.hid hn
      have hkw : IntKind.i64.wrap ((k : Int) + 1) = (k : Int) + 1 := IntWalk.i64_in _ (by omega)
      obtain ⟨lb, lo, rfl, hla⟩ := HLL.out (by omega)
      obtain ⟨hok, hcl⟩ := hla k hlt
      obtain ⟨⟨kk, I, R, g, t, N, y, K, kn, kc, ks⟩, ha⟩ : ∃ a, a = l k := ⟨_, rfl⟩
      rw [← ha] at hok hcl
      obtain ⟨o1, o2, o3, o4, o5, o6, o7, o8, o9⟩ := hok
      dsimp only at o1 o2 o3 o4 o5 o6 o7 o8 o9
      have HO2 := Lib.hid o2
      have HO3 := Lib.hid o3
      have HO4 := Lib.hid o4
      have HO6 := Lib.hid o6
      have HO7 := Lib.hid o7
      have hk256 := Lib.hid o1
      have HO8 := Lib.hid o8
      have hsz := bs_size t
      have hcw : ∀ i u, (ActS.mk kk I R g t N y K kn kc ks).cells[i]? = some u → wr.cell? ⟨lb, lo + k * 8 + i, none⟩ = some u := fun i u hu => (HB.out.cell (p := ⟨lb, lo + k * 8 + i, none⟩) (block_lt_of_cell (hcl i u hu))).trans (hcl i u hu)
      have c0 := hcw 0 _ rfl
      have c1 := hcw 1 _ rfl
      have c2 := hcw 2 _ rfl
      have c3 := hcw 3 _ rfl
      have c4 := hcw 4 _ rfl
      have c5 := hcw 5 _ rfl
      have c6 := hcw 6 _ rfl
      have c7 := hcw 7 _ rfl
      rw [Nat.add_zero] at c0
      obtain ⟨CS, hCS⟩ : ∃ CS : Obj, CS = .cells #[.int .u8 (kk : Int), .int .i64 I, .int .i64 R, .int .u64 (g : Int), .string (bs t), .int .i64 N, .int .u8 (y : Int), .slice K kn kc] 36 := ⟨_, rfl⟩
      clear hcw hcl ha hla hlt hk o2 o3 o4 o6 o7 o8
      by_cases h1500 : 1500 < t.length
      · have hk1 : decide ((1500 : Int) < (t.length : Int)) = true := decide_eq_true (by omega)
        have hk1' : decide (1500 < t.length) = true := decide_eq_true h1500
        have B4 := Lib.hid (HB.out.alloc HB.out.size CS)
        rw [hCS] at B4
        go_wp2_with fail
        refine (HA.out _).mono ?_
        rintro e w5 ⟨rfl, hb5⟩
        go_wp2_with fail
        go_ret
        exact ⟨rfl, B4.out.trans (hb5.mono B4.out.size)⟩
      · have hk1 : decide ((1500 : Int) < (t.length : Int)) = false := decide_eq_false (by omega)
        have hk1' : decide (1500 < t.length) = false := decide_eq_false h1500
        by_cases h50 : 50 < kn
        · have hk2 : decide ((50 : Int) < (kn : Int)) = true := decide_eq_true (by omega)
          have hk2' : decide (50 < kn) = true := decide_eq_true h50
          have B4 := Lib.hid (HB.out.alloc HB.out.size CS)
          rw [hCS] at B4
          go_wp2_with fail
          refine (HA.out _).mono ?_
          rintro e w5 ⟨rfl, hb5⟩
          go_wp2_with fail
          go_ret
          exact ⟨rfl, B4.out.trans (hb5.mono B4.out.size)⟩
        · have hk2 : decide ((50 : Int) < (kn : Int)) = false := decide_eq_false (by omega)
          have hk2' : decide (50 < kn) = false := decide_eq_false h50
          obtain ⟨W4, hW4⟩ : ∃ W4, W4 = wr.alloc CS := ⟨_, rfl⟩
          have bl4 : Below wr.heap.size wr W4 := by rw [hW4]; exact (Below.refl _ _).alloc (Nat.le_refl _) _
          have AA : Hid (Blk W4 wr.heap.size 36 [.int .u8 (kk : Int), .int .i64 I, .int .i64 R, .int .u64 (g : Int), .string (bs t), .int .i64 N, .int .u8 (y : Int), .slice K kn kc]) := Lib.hid (by rw [hW4, hCS]; exact heap_alloc_new wr _)
          have DD := Lib.hid (HD.out.keep bl4)
          have QQ := Lib.hid (HQ.out.keep bl4)
          have XX := Lib.hid (HX.out.keep bl4)
          have BB := Lib.hid (HB.out.trans (bl4.mono HB.out.size))
          have HSZ : Hid (w2.heap.size < wr.heap.size) := Lib.hid HX.out.lt
          have SM0 := HS.out.1
          rw [show 300000 - 6000 * k = (300000 - 6000 * (k + 1)) + 6000 by have := HLT.out; have := HLN.out; omega] at SM0
          have SM := Lib.hid SM0
          have HLE := Lib.hid HS.out.2
          have HTL : Hid (t.length ≤ 1500) := Lib.hid (by omega)
          have HKN : Hid (kn ≤ 50) := Lib.hid (by omega)
          clear SM0 bl4 HD HQ HX HB HS h1500 h50 o1 o5 o9
          obtain ⟨a0, a1, a2, a3, a4, a5, a6, a7⟩ := AA.out.eightR
          obtain ⟨x0, x1, x2, x3⟩ := XX.out.fourR
          rw [hW4, hCS] at a0 a1 a2 a3 a4 a5 a6 a7 x0 x1 x2 x3
          rw [hCS] at hW4
          have HW4 := Lib.hid hW4
          clear hW4 hCS
          go_upto_block 2 with fail
          clear a0 a1 a2 a3 a4 a5 a6 a7 x0 x1 x2 x3 c0 c1 c2 c3 c4 c5 c6 c7
          rw [← HW4.out]
          change (spSw (Tryd.f3.body.getD .skip)).wp _ _ _ _
          refine sp_switch w p gl M v A q c A' q' c' D n (300000 - 6000 * (k + 1)) W4 wr.heap.size w2.heap.size kk I R g t N y K kn kc ks HN12 HO2 HO4 HO6 HO7 HO8 DD QQ XX AA BB HSZ C2 SM HLE HTL HKN hk256.out _ _ _ _ _ _ _ _ _ _ _ _ _ _ _ _ _ _ _ _ _ _ _ _ _ _ _ _ _ _ _ _ _ _ _ _ _ _ _ _ _ _ _ _ _ _ _ _ _ _ _ _ _ _ _ _ _ _ _ _ _ _ _ _ _ _ _ _ _ _ _ _ _ _ _ _ _ _ _ _ _ _ _ _ _ _ _ _ _ _ _ _ _ _ _ _ _ _ _ _ _ _ _ _ _ _ _ _ _ _ _ _ _ _ _ _ _ _ _ _ _ _ _ _ _ _ _ _ _ _ _ _ _ _ _ _ _ _ _ _ _ _ _ _ _ _ _ _ _ _ _ _ _ _ _ _ _ _ _ _ _ _ _ _ _ _ _ _ _ _ _ _ _ _ _ _ _ _ _ _ _ _ _ _ _ _ _ _ _ _ _ _ _ _ _ _ _ _ _ _ _ _ _ _ _ _ _ _ _ _ _ _ _ _ _ _ _ _ _ _ _ _ _ _ _ _ _ _ _ (fun E cd v5 B5 m5 d5 B6 m6 d6 y12 y13 y60 y61 y62 y63 y64 y65 y66 y67 y68 y69 y70 y71 y72 y73 y74 y75 y76 y77 y78 y79 y80 y81 y82 y83 y84 y85 y86 y87 y88 y89 y90 y91 y92 y93 y94 y95 y96 y97 y98 y99 y100 y101 y102 y103 y104 y105 y106 y107 y108 y109 y110 y111 y112 y113 y114 y115 y116 y117 y118 y119 y120 y121 y122 y123 y124 y125 y126 y127 y128 y129 y130 y131 y132 y133 y134 y135 y136 y137 y138 y139 y140 y141 y142 y143 y144 y145 y146 y147 y148 y149 y150 y151 y152 y153 y154 y155 y156 y157 y158 y159 y160 y161 y162 y163 y164 y165 y166 y167 y168 y169 y170 y171 y172 y173 y174 wx DD QQ XX AA SM HLE BB => ?_)
          dsimp only [Exit.then]
          have hcc : ((cd : Int) != (cd : Int)) = false := by simp
          obtain ⟨x0, x1, x2, x3⟩ := XX.out.fourR
          go_wp2_with fail
          clear x0 x1 x2 x3 hcc
          have HSA := Lib.hid (law_Same w.heap.size _ p gl M _ B5 m5 d5 B6 m6 d6 E DD.out QQ.out.1 QQ.out.2.1 (by rw [QQ.out.len.1, HLE.out]; have := HN12.out; omega) (by rw [QQ.out.len.2]; exact SM.out.small.2.1))
          unfold rdV at HSA
          refine HSA.out.mono ?_
          rintro e W8 ⟨rfl, b8⟩
          have QQ := Lib.hid (QQ.out.keep b8)

          have AA := Lib.hid (AA.out.keep b8)
          have XX := Lib.hid (XX.out.keep b8)
          have BB := Lib.hid (BB.out.trans (b8.mono BB.out.size))
          have DD := Lib.hid (DD.out.keep b8)

          clear b8 HSA
          obtain ⟨⟨rt, rg, rb⟩, hrr⟩ : ∃ x, x = readF (foundL E I R) := ⟨_, rfl⟩
          obtain ⟨ng, hng⟩ : ∃ x, x = newF (openL2 E I R) := ⟨_, rfl⟩
          have HRD := Lib.hid (fun W v hW => slot_Read w.heap.size W p gl M v E I R HO2.out.2 hW)
          have HNW := Lib.hid (fun W v hW => slot_Newest w.heap.size W p gl M v E I R HO2.out.2 hW)
          have HRR := Lib.hid (fun W (hW : RDk W B5 m5 d5 B6 m6 d6 E) (hO : DOk E) => ref_Read15 W B5 m5 d5 B6 m6 d6 E hW (by rw [hW.len.1, HLE.out]; have := HN12.out; omega) (by rw [hW.len.2]; exact SM.out.small.2.1) hO I R)
          have HRN := Lib.hid (fun W (hW : RDk W B5 m5 d5 B6 m6 d6 E) (hO : DOk E) => ref_Newest W B5 m5 d5 B6 m6 d6 E hW (by rw [hW.len.1, HLE.out]; have := HN12.out; omega) (by rw [hW.len.2]; exact SM.out.small.2.1) hO I R)
          rw [← hrr] at HRD HRR
          rw [← hng] at HNW HRN
          dsimp only at HRD HRR
          unfold rdV at HRR HRN
          clear hrr hng
          obtain ⟨a0, a1, a2, a3, a4, a5, a6, a7⟩ := AA.out.eightR
          obtain ⟨x0, x1, x2, x3⟩ := XX.out.fourR
          go_wp2_with fail
          clear a0 a1 a2 a3 a4 a5 a6 a7 x0 x1 x2 x3
          refine (HRD.out _ _ DD.out).mono ?_
          rintro e W9 ⟨rfl, b9⟩
          have QQ := Lib.hid (QQ.out.keep b9)

          have AA := Lib.hid (AA.out.keep b9)
          have XX := Lib.hid (XX.out.keep b9)
          have BB := Lib.hid (BB.out.trans (b9.mono BB.out.size))
          have DD := Lib.hid (DD.out.keep b9)

          clear b9 HRD
          obtain ⟨a0, a1, a2, a3, a4, a5, a6, a7⟩ := AA.out.eightR
          obtain ⟨x0, x1, x2, x3⟩ := XX.out.fourR
          go_wp2_with fail
          clear a0 a1 a2 a3 a4 a5 a6 a7 x0 x1 x2 x3
          refine (HRR.out _ QQ.out DD.out.2.2.2.2.1).mono ?_
          rintro e W10 ⟨rfl, b10⟩
          have QQ := Lib.hid (QQ.out.keep b10)

          have AA := Lib.hid (AA.out.keep b10)
          have XX := Lib.hid (XX.out.keep b10)
          have BB := Lib.hid (BB.out.trans (b10.mono BB.out.size))
          have DD := Lib.hid (DD.out.keep b10)

          clear b10 HRR
          obtain ⟨a0, a1, a2, a3, a4, a5, a6, a7⟩ := AA.out.eightR
          obtain ⟨x0, x1, x2, x3⟩ := XX.out.fourR
          have f1 : ((bs rt).toList != (bs rt).toList) = false := by simp
          have f2 : ((rg : Int) != (rg : Int)) = false := by simp
          have f3 : (rb != rb) = false := by simp
          have f4 : ((ng : Int) != (ng : Int)) = false := by simp
          go_wp2_with fail
          clear a0 a1 a2 a3 a4 a5 a6 a7 x0 x1 x2 x3
          have HCE : Hid (∀ W, Below W10.heap.size W10 W → W.cell? ⟨wr.heap.size, 1, none⟩ = some (.int .i64 I) ∧ W.cell? ⟨wr.heap.size, 2, none⟩ = some (.int .i64 R) ∧ W.cell? ⟨w2.heap.size, 0, none⟩ = some (.slice B5 m5 d5) ∧ W.cell? ⟨w2.heap.size, 1, none⟩ = some (.slice B6 m6 d6) ∧ W.cell? ⟨w2.heap.size, 2, none⟩ = some (.int .i64 E.armed) ∧ W.cell? ⟨w2.heap.size, 3, none⟩ = some (.int .i64 (E.ops : Int))) := Lib.hid (fun W hb => by
            obtain ⟨a0, a1, a2, a3, a4, a5, a6, a7⟩ := (AA.out.keep hb).eightR
            obtain ⟨x0, x1, x2, x3⟩ := (XX.out.keep hb).fourR
            exact ⟨a1, a2, x0, x1, x2, x3⟩)
          have K0 : Hid (Below W10.heap.size W10 W10.drew) := Lib.hid ((Below.refl _ _).drew)
          go_region_held3 (fun W => W.cell? ⟨wr.heap.size, 1, none⟩ = some (.int .i64 I) ∧ W.cell? ⟨wr.heap.size, 2, none⟩ = some (.int .i64 R) ∧ W.cell? ⟨w2.heap.size, 0, none⟩ = some (.slice B5 m5 d5) ∧ W.cell? ⟨w2.heap.size, 1, none⟩ = some (.slice B6 m6 d6) ∧ W.cell? ⟨w2.heap.size, 2, none⟩ = some (.int .i64 E.armed) ∧ W.cell? ⟨w2.heap.size, 3, none⟩ = some (.int .i64 (E.ops : Int)))
            (first | exact HCE.out _ K2.out | exact HCE.out _ K1.out | exact HCE.out _ K0.out | exact HCE.out _ (Below.refl _ _))
            (first
              | (go_at_call 24
                 first
                   | (refine (HNW.out _ _ (DD.out.keep K1.out)).mono ?_
                      rintro e W12 ⟨rfl, b12⟩
                      have K2 := Lib.hid (K1.out.trans (b12.mono K1.out.size))
                      clear b12)
                   | (refine (HNW.out _ _ (DD.out.keep K0.out)).mono ?_
                      rintro e W11 ⟨rfl, b11⟩
                      have K1 := Lib.hid (K0.out.trans (b11.mono K0.out.size))
                      clear b11))
              | (go_at_call 25
                 first
                   | (refine (HRN.out _ (QQ.out.keep K1.out) DD.out.2.2.2.2.1).mono ?_
                      rintro e W12 ⟨rfl, b12⟩
                      have K2 := Lib.hid (K1.out.trans (b12.mono K1.out.size))
                      clear b12)
                   | (refine (HRN.out _ (QQ.out.keep K0.out) DD.out.2.2.2.2.1).mono ?_
                      rintro e W11 ⟨rfl, b11⟩
                      have K1 := Lib.hid (K0.out.trans (b11.mono K0.out.size))
                      clear b11)))
          all_goals go_wp2_with fail
          all_goals exact ⟨⟨k + 1, E, _, B5, m5, d5, B6, m6, d6, by go_num, by have := HLT.out; omega, Lib.hid (DD.out.keep K2.out), Lib.hid (QQ.out.keep K2.out), Lib.hid (XX.out.keep K2.out), Lib.hid ⟨SM.out, HLE.out⟩, Lib.hid (BB.out.trans (K2.out.mono BB.out.size))⟩, by have := HLT.out; simp [intOf]; omega⟩
    · obtain rfl : ln = k := by omega
      have hd : decide ((ln : Int) < (ln : Int)) = false := decide_eq_false (by omega)
      have hd3 : decide (ln < ln) = false := decide_eq_false (by omega)
      go_wp2_with fail
      refine (HA.out _).mono ?_
      rintro e w5 ⟨rfl, hb5⟩
      go_wp2_with fail
      go_ret
      exact ⟨rfl, HB.out.trans (hb5.mono HB.out.size)⟩
end Go.Proofs.YtbekebpkaeefiaaDoor
