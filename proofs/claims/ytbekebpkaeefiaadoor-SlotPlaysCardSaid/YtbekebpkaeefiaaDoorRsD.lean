/- The contract of the document's Read of a slot. -/
import Derived.Test.YtbekebpkaeefiaaDoorJRsa
namespace Go.Proofs.YtbekebpkaeefiaaDoor
set_option maxRecDepth 100000
open Go.RowKit

theorem toList_bs' (l : List UInt8) : (bs l).toList = l := by unfold bs; rw [ByteArray.toList_mk]
theorem sum_ne_bs (a b : List UInt8) : ((bs a).toList != (bs b).toList) = !(decide (a = b)) := by
  rw [toList_bs', toList_bs', bne]
  by_cases h : a = b
  · rw [decide_eq_true h, h, beq_self_eq_true]
  · rw [decide_eq_false h]
    have : (a == b) = false := by rw [beq_eq_false_iff_ne]; exact h
    rw [this]

set_option maxHeartbeats 16000000 in
theorem ref_Read15 (w : World) (A : Option Addr) (n c : Nat) (A' : Option Addr) (n' c' : Nat) (D : DSt) (h : RDk w A n c A' n' c' D) (hn : n ≤ 3000) (hn' : n' ≤ 1000000) (hok : DOk D) (i r : Int) :
    Calls Tryd.prog 23 #[rdV A n c A' n' c' D, .int .i64 i, .int .i64 r] w fun e w' => e = .returned (.tuple #[.string (bs (readF (foundL D i r)).1), .int .u64 (((readF (foundL D i r)).2.1 : Nat) : Int), .bool (readF (foundL D i r)).2.2]) ∧ Below w.heap.size w w' := by
  have hln := h.len.1
  have HK := Lib.hid h
  obtain ⟨b, hb⟩ : ∃ b, b = liesB n i r := ⟨_, rfl⟩
  have HM : Hid (∀ W, Calls Tryd.prog 39 #[rdV A n c A' n' c' D, .int .i64 i, .int .i64 r] W fun e w' => e = .returned (.bool b) ∧ Below W.heap.size W w') := Lib.hid (fun W => by rw [hb]; exact ref_May W A n c A' n' c' D (by omega) i r)
  have HOP := Lib.hid (fun (l : List UInt8) (hl : l.length ≤ 128) W => ref_Open l W (by omega))
  have B0 := Lib.hid (((Below.refl w.heap.size w).alloc (Nat.le_refl _) (.cells #[.slice A n c, .slice A' n' c', .int .i64 D.armed, .int .i64 (D.ops : Int)] 31)))
  have R0 := Lib.hid (show Blk (w.alloc (.cells #[.slice A n c, .slice A' n' c', .int .i64 D.armed, .int .i64 (D.ops : Int)] 31)) w.heap.size 31 [.slice A n c, .slice A' n' c', .int .i64 D.armed, .int .i64 (D.ops : Int)] from heap_alloc_new w _)
  unfold rdV at HM ⊢
  cases b with
  | false =>
    have HZ : Hid (readF (foundL D i r) = ([], 0, false)) := Lib.hid (read_out D i r (by rw [← hln]; exact hb.symm)).1
    clear h hb hln
    go_enter Tryd.func23, Tryd.ntmps23
    go_wp2_with fail
    refine (HM.out _).mono ?_
    rintro e w1 ⟨rfl, hb1⟩
    go_wp2_with fail
    rw [HZ.out]
    go_ret3
    exact ⟨rfl, B0.out.trans (hb1.mono B0.out.size)⟩
  | true =>
    obtain ⟨fr, room, rfl, rfl, hr1, hr2⟩ := liesB_iff.1 hb.symm
    have hfr : fr + room ≤ n := by omega
    have HRR : Hid (readF (foundL D (fr : Int) (room : Int)) = rrF D fr room 0 0 []) := Lib.hid (read_same D fr room (by omega) (by omega))
    rw [HRR.out]
    obtain ⟨Z, hZ⟩ : ∃ Z, Z = rrF D fr room 0 0 [] := ⟨_, rfl⟩
    rw [← hZ]
    have HZ0 : Hid (rrF D fr (room - 0) 0 0 [] = Z) := Lib.hid (by rw [hZ]; rfl)
    have HRD : Hid (∀ (j : Nat) W, RDk W A n c A' n' c' D → j < n → ∃ s : List UInt8, s.length ≤ 128 ∧ openT s = recAt D j ∧ Calls Tryd.prog 51 #[rdV A n c A' n' c' D, .int .i64 (j : Int)] W fun e w' => e = .returned (.tuple #[.string (bs s), .int .i64 (((rdD D (j : Int)).2 : Nat) : Int)]) ∧ Below W.heap.size W w') := Lib.hid (fun j W hk hj =>
      ⟨(rdD D (j : Int)).1, rdD_lenK hok _, rfl, ref_Read12 W A n c A' n' c' D j hk.1 hk.2.1 (by omega) (by omega) hn'⟩)
    clear h hb hln HRR hZ
    go_enter Tryd.func23, Tryd.ntmps23
    go_wp2_with fail
    refine (HM.out _).mono ?_
    rintro e w1 ⟨rfl, hb1⟩
    have B1 := Lib.hid (B0.out.trans (hb1.mono B0.out.size))
    have K1 := Lib.hid ((HK.out.keep ((Below.refl _ _).alloc (Nat.le_refl _) _)).keep hb1)
    have R1 := Lib.hid (R0.out.keep hb1)
    clear hb1 B0 R0 HK HM
    go_wp2_with fail
    go_loopw [9, 10, 11] (fun av gv iv wr => ∃ (i g : Nat) (acc : List UInt8), av = .string (bs acc) ∧ gv = .int .u64 (g : Int) ∧ iv = .int .i64 i ∧ i ≤ room ∧ acc.length = 110 * i ∧ Hid (rrF D fr (room - i) i g acc = Z) ∧ Hid (Below w.heap.size w wr) ∧ Hid (RDk wr A n c A' n' c' D) ∧ Hid (Blk wr w.heap.size 31 [.slice A n c, .slice A' n' c', .int .i64 D.armed, .int .i64 (D.ops : Int)])) (fun _ _ iv _ => room - (intOf iv).toNat)
    case atStart => exact ⟨0, 0, [], rfl, rfl, rfl, Nat.zero_le _, rfl, HZ0, B1, K1, R1⟩
    case round =>
      obtain ⟨i, g, acc, rfl, rfl, rfl, hir, hal, HZ, HB, HKW, HR⟩ := hrel
      clear B1 K1 R1 HZ0
      obtain ⟨r0, r1, r2, r3⟩ := HR.out.fourR
      have hsa := bs_size acc
      by_cases hlt : i < room
      · have hd : decide ((i : Int) < (room : Int)) = true := decide_eq_true (by omega)
        have hd' : decide (i < room) = true := decide_eq_true hlt
        have hiw : IntKind.i64.wrap ((i : Int) + 1) = (i : Int) + 1 := IntWalk.i64_in _ (by omega)
        have hfw : IntKind.i64.wrap ((fr : Int) + (i : Int)) = (fr : Int) + (i : Int) := IntWalk.i64_in _ (by omega)
        have hjm : (i : Int) % 4294967296 = (i : Int) := by omega
        have hrok := recAt_ok D (fr + i)
        obtain ⟨s, s1, s2, s3⟩ := HRD.out (fr + i) wr HKW.out (by omega)
        obtain ⟨cd, hcd⟩ : ∃ x : Nat, x = (rdD D ((fr + i : Nat) : Int)).2 := ⟨_, rfl⟩
        rw [← hcd, show (((fr + i : Nat)) : Int) = (fr : Int) + (i : Int) by omega] at s3
        have HR3 := Lib.hid s3
        have HO3 := Lib.hid (HOP.out s s1)
        rw [s2] at HO3
        have hz := HZ.out
        rw [show room - i = (room - (i + 1)) + 1 by omega] at hz
        unfold rrF at hz
        obtain ⟨⟨⟨k, g1, ix, dt⟩, co⟩, hrec⟩ : ∃ x, recAt D (fr + i) = x := ⟨_, rfl⟩
        rw [hrec] at HO3 hz hrok
        unfold recV at HO3
        dsimp only at HO3 hz
        have hdl : dt.length ≤ 110 := hrok.2.2.2
        obtain ⟨S, hS⟩ : ∃ S, S = acc ++ dt := ⟨_, rfl⟩
        have hSl : S.length = 110 * i + dt.length := by rw [hS, List.length_append, hal]
        rw [← hS] at hz
        have hsS := bs_size S
        have hsd := bs_size dt
        have hadd : ∀ W' : World, (Op.stringOp .add (bs acc) (bs dt)).run Tryd.prog W' = .ok (.string (bs S)) W' := fun W' => by
          rw [show bs S = bs acc ++ bs dt by rw [hS, bs_append]]
          exact run_string_add_sum W' _ _ (by rw [hsa, hsd]; omega)
        have HZZ := Lib.hid hz
        clear s1 s2 s3 hcd hrec hz HZ hrok hS
        go_wp2_with fail
        refine HR3.out.mono ?_
        rintro e w2 ⟨rfl, hb2⟩
        have B2 := Lib.hid (HB.out.trans (hb2.mono HB.out.size))
        have K2 := Lib.hid (HKW.out.keep hb2)
        have R2 := Lib.hid (HR.out.keep hb2)
        clear hb2 HR3 HB HKW HR r0 r1 r2 r3 hfw hd hd'
        go_wp2_with fail
        refine (HO3.out _).mono ?_
        rintro e w3 ⟨rfl, hb3⟩
        have B3 := Lib.hid (B2.out.trans (hb3.mono B2.out.size))
        have ba : ∀ o, Below w3.heap.size w3 (w3.alloc o) := fun o => (Below.refl _ _).alloc (Nat.le_refl _) o
        have B4 := Lib.hid (fun o => B3.out.trans ((ba o).mono B3.out.size))
        have K4 := Lib.hid (fun o => (K2.out.keep hb3).keep (ba o))
        have R4 := Lib.hid (fun o => (R2.out.keep hb3).keep (ba o))
        clear hb3 HO3 B2 K2 R2 ba
        by_cases hc : co = 0
        · have e1 : ((co : Int) != 0) = false := by rw [bne_eq_false_iff_eq]; omega
          by_cases hi0 : i = 0
          · have e0 : ((i : Int) == 0) = true := by rw [beq_iff_eq]; omega
            by_cases hix : ix = i
            · have e3 : ((ix : Int) != (i : Int)) = false := by rw [bne_eq_false_iff_eq]; omega
              have HZ1 := HZZ.out
              rw [if_neg (fun h => h.elim (fun h => h hc) (fun h => h.elim (fun h => h (by rw [if_pos hi0])) (fun h => h hix)))] at HZ1
              by_cases hk2 : k = 2 ∧ dt.length = 110
              · have e4 : ((k : Int) == 2) = true := by rw [beq_iff_eq]; omega
                have e5 : ((dt.length : Int) == 110) = true := by rw [beq_iff_eq]; omega
                have HZ2 : Hid (rrF D fr (room - (i + 1)) (i + 1) g1 S = Z) := Lib.hid (by rw [← HZ1, if_pos hk2])
                clear HZ1 HZZ
                go_wp2_with fail
                refine ⟨⟨i + 1, g1, S, rfl, rfl, by go_num, by omega, by omega, HZ2, Lib.hid (B4.out _), Lib.hid (K4.out _), Lib.hid (R4.out _)⟩, by simp [intOf]; omega⟩
              · rw [if_neg hk2] at HZ1
                by_cases h3 : k = 3
                · have e4 : ((k : Int) == 2) = false := by rw [beq_eq_false_iff_ne]; omega
                  have e6 : ((k : Int) != 3) = false := by rw [bne_eq_false_iff_eq]; omega
                  by_cases h4 : S.length < 4
                  · have e7 : decide ((S.length : Int) < 4) = true := decide_eq_true (by omega)
                    have e7' : decide (S.length < 4) = true := decide_eq_true h4
                    have HN0 : Hid (Z = ([], 0, false)) := Lib.hid (by rw [← HZ1, if_pos (.inr h4)])
                    clear HZ1 HZZ h4 hSl hdl hal hsd
                    go_wp2_with fail
                    rw [HN0.out]
                    go_ret3
                    exact ⟨rfl, B4.out _⟩
                  · have e7 : decide ((S.length : Int) < 4) = false := decide_eq_false (by omega)
                    have e7' : decide (S.length < 4) = false := decide_eq_false h4
                    rw [if_neg (fun h => h.elim (fun h => h h3) h4)] at HZ1
                    obtain ⟨m, hm⟩ : ∃ m, S.length = m + 4 := ⟨S.length - 4, by omega⟩
                    rw [hm, Nat.add_sub_cancel] at HZ1
                    have hmi : IntKind.i64.wrap ((S.length : Int) - 4) = (m : Int) := by rw [IntWalk.i64_in _ (by omega)]; omega
                    obtain ⟨T, hT⟩ : ∃ T, T = S.take m := ⟨_, rfl⟩
                    have hTl : T.length = m := by rw [hT, List.length_take]; omega
                    have hto : ∀ W' : World, (Instr.slice 9 (.string (bs S)) none (some (.int .i64 (m : Int))) none).run Tryd.prog W' = .ok (.string (bs T)) W' := fun W' => run_str_to S T m W' (by omega) hT.symm
                    rw [← hT] at HZ1
                    have HPA := Lib.hid (fun W => ref_Parts T g1 W (by omega))
                    have HSU := Lib.hid (fun W => ref_summed T W (by omega))
                    obtain ⟨U, hU⟩ : ∃ U, U = sumT T := ⟨_, rfl⟩
                    obtain ⟨q, hq⟩ : ∃ q, q = partN (sumT T) := ⟨_, rfl⟩
                    rw [← hq] at HPA
                    rw [← hU] at HSU
                    have HZ3 := Lib.hid HZ1
                    have HU := Lib.hid hU
                    have HQ := Lib.hid hq
                    clear HZ1 HZZ hT hU hq hm hTl hSl hdl hal hsd h4
                    go_wp2_with fail
                    refine (HPA.out _).mono ?_
                    rintro e w5 ⟨v5, rfl, ho5, hb5⟩
                    have B5 := Lib.hid ((B4.out _).trans (hb5.mono (B4.out _).size))
                    have hlen : ∀ W : World, (Builtin.len_ #[93] 3 #[v5]).run Tryd.prog W = .ok (.int .i64 (q : Int)) W := fun W => by
                      obtain ⟨A9, c9, e9⟩ := own_sl ho5
                      rw [e9]
                      simp [Builtin.len_, go_sem]
                    clear ho5 hb5 hto
                    by_cases hs : U = S
                    · have e8 : ((bs U).toList != (bs S).toList) = false := by rw [sum_ne_bs, decide_eq_true hs]; rfl
                      by_cases hn2 : q = i + 1
                      · have e9 : ((q : Int) != (i : Int) + 1) = false := by rw [bne_eq_false_iff_eq]; omega
                        have HN1 : Hid (Z = (T, g1, true)) := Lib.hid (by rw [← HZ3.out, if_neg (fun h => h.elim (fun h => h (by rw [← HU.out]; exact hs)) (fun h => h (by rw [← HQ.out]; exact hn2)))])
                        clear HZ3
                        go_wp2_with fail
                        refine (HSU.out _).mono ?_
                        rintro e w6 ⟨rfl, hb6⟩
                        go_wp2_with fail
                        rw [HN1.out]
                        go_ret3
                        exact ⟨rfl, B5.out.trans (hb6.mono B5.out.size)⟩
                      · have e9 : ((q : Int) != (i : Int) + 1) = true := by rw [bne_iff_ne]; omega
                        have HN0 : Hid (Z = ([], 0, false)) := Lib.hid (by rw [← HZ3.out, if_pos (.inr (by rw [← HQ.out]; exact hn2))])
                        clear HZ3
                        go_wp2_with fail
                        refine (HSU.out _).mono ?_
                        rintro e w6 ⟨rfl, hb6⟩
                        go_wp2_with fail
                        rw [HN0.out]
                        go_ret3
                        exact ⟨rfl, B5.out.trans (hb6.mono B5.out.size)⟩
                    · have e8 : ((bs U).toList != (bs S).toList) = true := by rw [sum_ne_bs, decide_eq_false hs]; rfl
                      have HN0 : Hid (Z = ([], 0, false)) := Lib.hid (by rw [← HZ3.out, if_pos (.inl (by rw [← HU.out]; exact hs))])
                      clear HZ3
                      go_wp2_with fail
                      refine (HSU.out _).mono ?_
                      rintro e w6 ⟨rfl, hb6⟩
                      go_wp2_with fail
                      all_goals try (exfalso; have hx : (bs U).toList = (bs S).toList := (by assumption); rw [toList_bs', toList_bs'] at hx; exact hs hx)
                      rw [HN0.out]
                      go_ret3
                      exact ⟨rfl, B5.out.trans (hb6.mono B5.out.size)⟩
                · have e6 : ((k : Int) != 3) = true := by rw [bne_iff_ne]; omega
                  have HN0 : Hid (Z = ([], 0, false)) := Lib.hid (by rw [← HZ1, if_pos (.inl h3)])
                  clear HZ1 HZZ
                  by_cases hk : k = 2
                  · have e4 : ((k : Int) == 2) = true := by rw [beq_iff_eq]; omega
                    have e5 : ((dt.length : Int) == 110) = false := by rw [beq_eq_false_iff_ne]; intro h; exact hk2 ⟨hk, by omega⟩
                    go_wp2_with fail
                    rw [HN0.out]
                    go_ret3
                    exact ⟨rfl, B4.out _⟩
                  · have e4 : ((k : Int) == 2) = false := by rw [beq_eq_false_iff_ne]; omega
                    go_wp2_with fail
                    rw [HN0.out]
                    go_ret3
                    exact ⟨rfl, B4.out _⟩
            · have e3 : ((ix : Int) != (i : Int)) = true := by rw [bne_iff_ne]; omega
              have HN0 : Hid (Z = ([], 0, false)) := Lib.hid (by rw [← HZZ.out, if_pos (.inr (.inr hix))])
              go_wp2_with fail
              rw [HN0.out]
              go_ret3
              exact ⟨rfl, B4.out _⟩
          · have e0 : ((i : Int) == 0) = false := by rw [beq_eq_false_iff_ne]; omega
            by_cases hg1 : g1 = g
            · have e2 : ((g1 : Int) != (g : Int)) = false := by rw [bne_eq_false_iff_eq]; omega
              by_cases hix : ix = i
              · have e3 : ((ix : Int) != (i : Int)) = false := by rw [bne_eq_false_iff_eq]; omega
                have HZ1 := HZZ.out
                rw [if_neg (fun h => h.elim (fun h => h hc) (fun h => h.elim (fun h => h (by rw [if_neg hi0]; exact hg1)) (fun h => h hix)))] at HZ1
                by_cases hk2 : k = 2 ∧ dt.length = 110
                · have e4 : ((k : Int) == 2) = true := by rw [beq_iff_eq]; omega
                  have e5 : ((dt.length : Int) == 110) = true := by rw [beq_iff_eq]; omega
                  have HZ2 : Hid (rrF D fr (room - (i + 1)) (i + 1) g1 S = Z) := Lib.hid (by rw [← HZ1, if_pos hk2])
                  clear HZ1 HZZ
                  go_wp2_with fail
                  refine ⟨⟨i + 1, g, S, rfl, rfl, by go_num, by omega, by omega, Lib.hid (by rw [← hg1]; exact HZ2.out), Lib.hid (B4.out _), Lib.hid (K4.out _), Lib.hid (R4.out _)⟩, by simp [intOf]; omega⟩
                · rw [if_neg hk2] at HZ1
                  by_cases h3 : k = 3
                  · have e4 : ((k : Int) == 2) = false := by rw [beq_eq_false_iff_ne]; omega
                    have e6 : ((k : Int) != 3) = false := by rw [bne_eq_false_iff_eq]; omega
                    by_cases h4 : S.length < 4
                    · exact absurd h4 (by omega)
                    · have e7 : decide ((S.length : Int) < 4) = false := decide_eq_false (by omega)
                      have e7' : decide (S.length < 4) = false := decide_eq_false h4
                      rw [if_neg (fun h => h.elim (fun h => h h3) h4)] at HZ1
                      obtain ⟨m, hm⟩ : ∃ m, S.length = m + 4 := ⟨S.length - 4, by omega⟩
                      rw [hm, Nat.add_sub_cancel] at HZ1
                      have hmi : IntKind.i64.wrap ((S.length : Int) - 4) = (m : Int) := by rw [IntWalk.i64_in _ (by omega)]; omega
                      obtain ⟨T, hT⟩ : ∃ T, T = S.take m := ⟨_, rfl⟩
                      have hTl : T.length = m := by rw [hT, List.length_take]; omega
                      have hto : ∀ W' : World, (Instr.slice 9 (.string (bs S)) none (some (.int .i64 (m : Int))) none).run Tryd.prog W' = .ok (.string (bs T)) W' := fun W' => run_str_to S T m W' (by omega) hT.symm
                      rw [← hT] at HZ1
                      have HPA := Lib.hid (fun W => ref_Parts T g W (by omega))
                      have HSU := Lib.hid (fun W => ref_summed T W (by omega))
                      obtain ⟨U, hU⟩ : ∃ U, U = sumT T := ⟨_, rfl⟩
                      obtain ⟨q, hq⟩ : ∃ q, q = partN (sumT T) := ⟨_, rfl⟩
                      rw [← hq] at HPA
                      rw [← hU] at HSU
                      have HZ3 := Lib.hid HZ1
                      have HU := Lib.hid hU
                      have HQ := Lib.hid hq
                      clear HZ1 HZZ hT hU hq hm hTl hSl hdl hal hsd h4
                      go_wp2_with fail
                      refine (HPA.out _).mono ?_
                      rintro e w5 ⟨v5, rfl, ho5, hb5⟩
                      have B5 := Lib.hid ((B4.out _).trans (hb5.mono (B4.out _).size))
                      have hlen : ∀ W : World, (Builtin.len_ #[93] 3 #[v5]).run Tryd.prog W = .ok (.int .i64 (q : Int)) W := fun W => by
                        obtain ⟨A9, c9, e9⟩ := own_sl ho5
                        rw [e9]
                        simp [Builtin.len_, go_sem]
                      clear ho5 hb5 hto
                      by_cases hs : U = S
                      · have e8 : ((bs U).toList != (bs S).toList) = false := by rw [sum_ne_bs, decide_eq_true hs]; rfl
                        by_cases hn2 : q = i + 1
                        · have e9 : ((q : Int) != (i : Int) + 1) = false := by rw [bne_eq_false_iff_eq]; omega
                          have HN1 : Hid (Z = (T, g1, true)) := Lib.hid (by rw [← HZ3.out, if_neg (fun h => h.elim (fun h => h (by rw [← HU.out]; exact hs)) (fun h => h (by rw [← HQ.out]; exact hn2)))])
                          clear HZ3
                          go_wp2_with fail
                          refine (HSU.out _).mono ?_
                          rintro e w6 ⟨rfl, hb6⟩
                          go_wp2_with fail
                          rw [HN1.out]
                          go_ret3
                          exact ⟨by rw [hg1]; rfl, B5.out.trans (hb6.mono B5.out.size)⟩
                        · have e9 : ((q : Int) != (i : Int) + 1) = true := by rw [bne_iff_ne]; omega
                          have HN0 : Hid (Z = ([], 0, false)) := Lib.hid (by rw [← HZ3.out, if_pos (.inr (by rw [← HQ.out]; exact hn2))])
                          clear HZ3
                          go_wp2_with fail
                          refine (HSU.out _).mono ?_
                          rintro e w6 ⟨rfl, hb6⟩
                          go_wp2_with fail
                          rw [HN0.out]
                          go_ret3
                          exact ⟨rfl, B5.out.trans (hb6.mono B5.out.size)⟩
                      · have e8 : ((bs U).toList != (bs S).toList) = true := by rw [sum_ne_bs, decide_eq_false hs]; rfl
                        have HN0 : Hid (Z = ([], 0, false)) := Lib.hid (by rw [← HZ3.out, if_pos (.inl (by rw [← HU.out]; exact hs))])
                        clear HZ3
                        go_wp2_with fail
                        refine (HSU.out _).mono ?_
                        rintro e w6 ⟨rfl, hb6⟩
                        go_wp2_with fail
                        all_goals try (exfalso; have hx : (bs U).toList = (bs S).toList := (by assumption); rw [toList_bs', toList_bs'] at hx; exact hs hx)
                        rw [HN0.out]
                        go_ret3
                        exact ⟨rfl, B5.out.trans (hb6.mono B5.out.size)⟩
                  · have e6 : ((k : Int) != 3) = true := by rw [bne_iff_ne]; omega
                    have HN0 : Hid (Z = ([], 0, false)) := Lib.hid (by rw [← HZ1, if_pos (.inl h3)])
                    clear HZ1 HZZ
                    by_cases hk : k = 2
                    · have e4 : ((k : Int) == 2) = true := by rw [beq_iff_eq]; omega
                      have e5 : ((dt.length : Int) == 110) = false := by rw [beq_eq_false_iff_ne]; intro h; exact hk2 ⟨hk, by omega⟩
                      go_wp2_with fail
                      rw [HN0.out]
                      go_ret3
                      exact ⟨rfl, B4.out _⟩
                    · have e4 : ((k : Int) == 2) = false := by rw [beq_eq_false_iff_ne]; omega
                      go_wp2_with fail
                      rw [HN0.out]
                      go_ret3
                      exact ⟨rfl, B4.out _⟩
              · have e3 : ((ix : Int) != (i : Int)) = true := by rw [bne_iff_ne]; omega
                have HN0 : Hid (Z = ([], 0, false)) := Lib.hid (by rw [← HZZ.out, if_pos (.inr (.inr hix))])
                go_wp2_with fail
                rw [HN0.out]
                go_ret3
                exact ⟨rfl, B4.out _⟩
            · have e2 : ((g1 : Int) != (g : Int)) = true := by rw [bne_iff_ne]; omega
              have HN0 : Hid (Z = ([], 0, false)) := Lib.hid (by rw [← HZZ.out, if_pos (.inr (.inl (by rw [if_neg hi0]; exact hg1)))])
              go_wp2_with fail
              rw [HN0.out]
              go_ret3
              exact ⟨rfl, B4.out _⟩
        · have e1 : ((co : Int) != 0) = true := by rw [bne_iff_ne]; omega
          by_cases hi0 : i = 0
          · have e0 : ((i : Int) == 0) = true := by rw [beq_iff_eq]; omega
            have HN0 : Hid (Z = ([], 0, false)) := Lib.hid (by rw [← HZZ.out, if_pos (.inl hc)])
            go_wp2_with fail
            rw [HN0.out]
            go_ret3
            exact ⟨rfl, B4.out _⟩
          · have e0 : ((i : Int) == 0) = false := by rw [beq_eq_false_iff_ne]; omega
            have HN0 : Hid (Z = ([], 0, false)) := Lib.hid (by rw [← HZZ.out, if_pos (.inl hc)])
            go_wp2_with fail
            rw [HN0.out]
            go_ret3
            exact ⟨rfl, B4.out _⟩
      · obtain rfl : i = room := by omega
        have hd : decide ((i : Int) < (i : Int)) = false := decide_eq_false (by omega)
        have hd' : decide (i < i) = false := decide_eq_false (by omega)
        have HN0 : Hid (Z = ([], 0, false)) := Lib.hid (by rw [← HZ.out, Nat.sub_self]; rfl)
        go_wp2_with fail
        rw [HN0.out]
        go_ret3
        exact ⟨rfl, HB.out⟩
end Go.Proofs.YtbekebpkaeefiaaDoor
