/- Contracts of the document's Shr and of nat's Shr. -/
import Derived.Test.YtmjinhieeflkgaaRefF
import Derived.Test.YtmjinhieeflkgaaShl
import Derived.Deep.RegionHeld3
import Derived.Deep.AppendLies
namespace Go.Proofs.Ytmjinhieeflkgaa
open Go.RowKit

theorem low_digits {U r : Nat} (hr : r < 16) : U % 4294967296 / 2 ^ r % 65536 = U / 2 ^ r % 65536 := by
  have e1 : (4294967296 : Nat) = 2 ^ r * (65536 * 2 ^ (16 - r)) := by
    rw [show (65536 : Nat) = 2 ^ 16 from rfl, ← Nat.pow_add, ← Nat.pow_add, show r + (16 + (16 - r)) = 32 from by omega]
  have h2 := Nat.mod_add_div U 4294967296
  have h3 : U / 2 ^ r = U % 4294967296 / 2 ^ r + 65536 * (2 ^ (16 - r) * (U / 4294967296)) := by
    conv => lhs; rw [← h2, show 4294967296 * (U / 4294967296) = 2 ^ r * (65536 * (2 ^ (16 - r) * (U / 4294967296))) from by
      conv => lhs; lhs; rw [e1]
      rw [Nat.mul_assoc, Nat.mul_assoc], Nat.add_mul_div_left _ _ (Nat.two_pow_pos r)]
  rw [h3, Nat.add_mul_mod_self_left]

theorem two_digits (U : Nat) : U % 65536 + U / 65536 % 65536 * 65536 = U % 4294967296 := by omega

theorem shr_digit {xs : List Nat} {s q r k : Nat} (hd : Dig 65536 xs) (hs : s = 16 * q + r) (hr : r < 16) :
    (xs.getD (q + k) 0 + xs.getD (q + k + 1) 0 * 65536) / 2 ^ r % 65536 = val 65536 xs / 2 ^ s / 65536 ^ k % 65536 := by
  rw [← digit_at (by omega) hd (q + k), ← digit_at (by omega) hd (q + k + 1), Nat.pow_succ, ← Nat.div_div_eq_div_mul, two_digits, low_digits hr, Nat.div_div_eq_div_mul, Nat.div_div_eq_div_mul]
  congr 2
  rw [hs, show (65536 : Nat) = 2 ^ 16 from rfl, ← Nat.pow_mul, ← Nat.pow_mul, ← Nat.pow_add, ← Nat.pow_add]
  congr 1
  omega

theorem shr_zero {x n s q : Nat} (hx : x < 65536 ^ n) (hq : q = s / 16) (h : n ≤ q) : x / 2 ^ s = 0 := by
  apply Nat.div_eq_of_lt
  refine Nat.lt_of_lt_of_le hx ?_
  rw [show (65536 : Nat) = 2 ^ 16 from rfl, ← Nat.pow_mul]
  exact Nat.pow_le_pow_right (by omega) (by omega)

theorem shr_fits {x n s q r : Nat} (hx : x < 65536 ^ n) (hs : s = 16 * q + r) (h : q ≤ n) : x / 2 ^ s < 65536 ^ (n - q) := by
  rw [Nat.div_lt_iff_lt_mul (Nat.two_pow_pos s)]
  refine Nat.lt_of_lt_of_le hx ?_
  rw [show (65536 : Nat) = 2 ^ 16 from rfl, ← Nat.pow_mul, ← Nat.pow_mul, ← Nat.pow_add]
  exact Nat.pow_le_pow_right (by omega) (by omega)

set_option maxHeartbeats 4000000 in
theorem ref_Shr (A : Option Addr) (n c x s : Nat) (w : World) (h : Rep .i64 65536 w A n c x) (hn : n ≤ 1000000) (hs : s ≤ 1000000) :
    Calls Try.prog 15 #[.slice A n c, .int .i64 s] w fun e w' => ∃ A' n' c', e = .returned (.slice A' n' c') ∧ Rep .i64 65536 w' A' n' c' (x / 2 ^ s) ∧ Below w.heap.size w w' := by
  obtain ⟨i0, hi, hz0, hz1, hz2⟩ := info_parts Try.info3
  have hxn := (h.len_le (by decide) n).1 (Nat.le_refl _)
  obtain ⟨xs, h1, h2, h3, h4⟩ := h
  obtain ⟨q, hq⟩ : ∃ q, q = s / 16 := ⟨_, rfl⟩
  have hqx : (s : Int) / 16 = (q : Int) := by omega
  by_cases hge : n ≤ q
  · have HZ := Lib.hid (shr_zero hxn hq hge)
    clear h1 h3 h4 hxn hq
    go_enter Try.func15, Try.ntmps15
    go_wp2
    go_ret
    exact ⟨_, _, _, rfl, by rw [HZ.out]; exact Rep.zero _ _ _, Below.refl _ _⟩
  · have hqn : q < n := by omega
    obtain ⟨r, hr⟩ : ∃ r, r = s % 16 := ⟨_, rfl⟩
    have hr16 : r < 16 := by omega
    have hrx : (s : Int) % 16 = (r : Int) := by omega
    have HSR : Hid (s = 16 * q + r) := Lib.hid (by omega)
    have HFIT := Lib.hid (shr_fits hxn HSR.out (Nat.le_of_lt hqn))
    have HSD : Hid (∀ k, (xs.getD (q + k) 0 + xs.getD (q + k + 1) 0 * 65536) / 2 ^ r % 65536 = x / 2 ^ s / 65536 ^ k % 65536) := Lib.hid (fun k => by rw [← h4]; exact shr_digit h2 HSR.out hr16)
    have H1 := Lib.hid h1
    have HL := Lib.hid h1.1
    obtain ⟨R, hR⟩ : ∃ R, R = x / 2 ^ s := ⟨_, rfl⟩
    rw [← hR] at HFIT HSD ⊢
    clear h1 h3 h4 hxn hq hr hR hge
    go_enter Try.func15, Try.ntmps15
    go_wp2
    go_loop [6, 7] (fun vv kv => ∃ (k u : Nat), kv = .int .i64 k ∧ vv = .int .i64 u ∧ k ≤ r ∧ Hid (u = 2 ^ k) ∧ u ≤ 32768 ∧ 1 ≤ u) (fun _ kv => r - (intOf kv).toNat)
    case atStart => exact ⟨0, 1, rfl, rfl, Nat.zero_le _, Lib.hid rfl, by omega, by omega⟩
    case round =>
      obtain ⟨k, u, rfl, rfl, hk, hu, hub, hu1⟩ := hrel
      by_cases hkr : k < r
      · have HU2 : Hid (2 * u = 2 ^ (k + 1)) := Lib.hid (by rw [hu.out, Nat.pow_succ]; omega)
        have hu2 : 2 * u ≤ 32768 := by
          rw [HU2.out, show 32768 = 2 ^ 15 from rfl]; exact Nat.pow_le_pow_right (by omega) (by omega)
        go_wp2
        go_round
        case rel => exact ⟨k + 1, 2 * u, by go_num, by go_num, by omega, HU2, hu2, by omega⟩
        case measure => simp [intOf]; omega
      · have hkr2 : k = r := by omega
        have HU : Hid (u = 2 ^ r) := Lib.hid (by rw [← hkr2]; exact hu.out)
        clear hkr2 hu
        go_wp2
        go_loopw [5, 8] (fun ov iv wr => ∃ (j : Nat) (zs : List Nat), iv = .int .i64 ((q + j : Nat) : Int) ∧ q + j ≤ n ∧ wr.ownsRow w.heap.size 3 1 ov zs.length (nums .i64 zs) ∧ Dig 65536 zs ∧ Hid (zs.length = j) ∧ Hid (val 65536 zs = R % 65536 ^ j) ∧ Below w.heap.size w wr) (fun _ iv _ => n - (intOf iv).toNat)
        case atStart => exact ⟨0, [], rfl, by omega, World.ownsRow_nil _ _ _ _, Dig.nil _, Lib.hid rfl, Lib.hid (by rw [Nat.pow_zero, Nat.mod_one]; rfl), Below.refl _ _⟩
        case round =>
          obtain ⟨j, zs, rfl, hj, hown, hdz, hlz, hv, hb⟩ := hrel
          obtain ⟨i, hi2⟩ : ∃ i, i = q + j := ⟨_, rfl⟩
          rw [← hi2] at hj ⊢
          have HI := Lib.hid hi2
          clear hi2
          by_cases hlt : i < n
          · obtain ⟨b, off, rfl, hbl, hc⟩ := H1.out.block (by omega)
            have hc0 := hc i hlt
            have hx0 := h2.getD (by omega) i
            have hx1 := h2.getD (by omega) (i + 1)
            have HAT := Lib.hid (fun W (hW : Sl .i64 W (some ⟨b, off, none⟩) n c xs) => ref_at (some ⟨b, off, none⟩) n c (i + 1) xs W hW)
            have hsd := HSD.out j
            rw [← HI.out] at hsd
            obtain ⟨d, hd⟩ : ∃ d, d = xs.getD i 0 := ⟨_, rfl⟩
            obtain ⟨e1, he1⟩ : ∃ e1, e1 = xs.getD (i + 1) 0 := ⟨_, rfl⟩
            rw [← hd] at hc0 hx0 hsd
            rw [← he1] at hx1 hsd HAT
            have hcell := (hb.cell (p := ⟨b, off + i, none⟩) hbl).trans hc0
            have HS1 := Lib.hid (H1.out.keep hb)
            rw [← HU.out] at hsd
            have HSDD := Lib.hid hsd
            rw [show ((i + 1 : Nat) : Int) = (i : Int) + 1 from by omega] at HAT
            have hw1 : IntKind.i64.wrap ((i : Int) + 1) = (i : Int) + 1 := IntWalk.i64_in _ (by omega)
            have hw2 : IntKind.i64.wrap ((e1 : Int) * 65536) = (e1 : Int) * 65536 := IntWalk.i64_in _ (by omega)
            obtain ⟨D2, hD2⟩ : ∃ D2, D2 = d + e1 * 65536 := ⟨_, rfl⟩
            obtain ⟨E, hE⟩ : ∃ E, E = D2 / u := ⟨_, rfl⟩
            obtain ⟨F, hF⟩ : ∃ F, F = E % 65536 := ⟨_, rfl⟩
            have hw3 : IntKind.i64.wrap ((d : Int) + (e1 : Int) * 65536) = (D2 : Int) := by rw [IntWalk.i64_in _ (by omega)]; omega
            have hD2b : D2 < 4294967296 := by omega
            have hEb : E ≤ D2 := by rw [hE]; exact Nat.div_le_self _ _
            have hw4 : IntKind.i64.wrap ((D2 : Int).tdiv (u : Int)) = (E : Int) := by
              rw [Int.tdiv_eq_ediv_of_nonneg (by omega), show (D2 : Int) / (u : Int) = (E : Int) from by rw [hE, Int.natCast_ediv]]
              exact IntWalk.i64_in _ (by omega)
            have hw5 : (E : Int).tmod 65536 = (F : Int) := by rw [Int.tmod_eq_emod_of_nonneg (by omega)]; omega
            have hu0 : ¬ u = 0 := by omega
            have hu2 : ((u : Int) == 0) = false := by rw [beq_eq_false_iff_ne]; omega
            have hw4' : IntKind.i64.wrap ((D2 : Int) / (u : Int)) = (E : Int) := by rw [← hw4, Int.tdiv_eq_ediv_of_nonneg (by omega)]
            have hw5' : (E : Int) % 65536 = (F : Int) := by rw [← hw5, Int.tmod_eq_emod_of_nonneg (by omega)]
            rw [← hD2, ← hE, ← hF] at hsd
            have HFE := Lib.hid hsd
            have HFB : Hid (F < 65536) := Lib.hid (by rw [hF]; exact Nat.mod_lt _ (by omega))
            clear hc hc0 hd he1 hsd hD2 hE hF hD2b hEb HSDD
            go_wp2
            have HV : Hid (val 65536 (zs ++ [F]) = R % 65536 ^ (j + 1)) := Lib.hid (by rw [val_snoc, hv.out, hlz.out, HFE.out, Nat.mod_pow_succ])
            have HLZ : Hid ((zs ++ [F]).length = j + 1) := Lib.hid (by rw [List.length_append, hlz.out]; rfl)
            clear hv
            have hlb : zs.length + 1 ≤ maxLen := by have := HI.out; simp only [maxLen]; rw [hlz.out]; omega
            have hlb2 : (zs.length + 1) * 8 ≤ 140737488355328 := by have := HI.out; rw [hlz.out]; omega
            have HOWN2 : Hid ((wr.alloc (.cells #[.int .i64 (F : Int)] 3)).drew.ownsRow w.heap.size 3 1 u5 zs.length (nums .i64 zs)) := Lib.hid (hown.alloc _)
            have HNEWS : Hid (∀ j u, [Value.int .i64 (F : Int)][j]? = some u → (wr.alloc (.cells #[.int .i64 (F : Int)] 3)).drew.cell? ((⟨wr.heap.size, 0, none⟩ : Addr).add j) = some u) := Lib.hid (World.news_of_block (w := (wr.alloc (.cells #[.int .i64 (F : Int)] 3)).drew) (cs := #[.int .i64 (F : Int)]) (t := 3) (fr := (0, 0)) (heap_alloc_new wr _))
            have HBA : Hid (Below w.heap.size w (wr.alloc (.cells #[.int .i64 (F : Int)] 3)).drew) := Lib.hid (hb.alloc hb.size _).drew
            have HOWNB := Lib.hid (fun g hg => (hown.lt g hg).1)
            have HSD1 : Hid (Sl .i64 wr.drew (some ⟨b, off, none⟩) n c xs) := HS1
            have h1c : ∀ u ∈ [Value.int .i64 (F : Int)], u.oneCell' = true := by intro u hu; simp at hu; subst hu; rfl
            clear hown
            have HKC : Hid (∀ w', Below wr.heap.size wr w' → w'.cell? ⟨b, off + i, none⟩ = some (.int .i64 (d : Int))) := Lib.hid (fun w' hw => (hw.cell (p := ⟨b, off + i, none⟩) (block_lt_of_cell hcell)).trans hcell)
            have HB0 : Hid (Below wr.heap.size wr wr.drew) := Lib.hid (Below.refl _ _).drew
            have HB1 : Hid (Below wr.heap.size wr (wr.alloc (.cells #[.int .i64 (F : Int)] 3)).drew) := Lib.hid (((Below.refl _ _).alloc (Nat.le_refl _) _).drew)
            have HFAR : Hid (∀ w', (wr.alloc (.cells #[.int .i64 (F : Int)] 3)).drew.grownBy w' u5.ownBlock → w'.cell? ⟨b, off + i, none⟩ = some (.int .i64 (d : Int))) := Lib.hid (fun w' hg => hg.cell (HKC.out _ HB1.out) (fun e => by have := HOWNB.out b e.symm; omega))
            go_region_held3 (fun w' => w'.cell? ⟨b, off + i, none⟩ = some (.int .i64 (d : Int)))
              (first | exact HFAR.out _ hgr3 | exact HKC.out _ HB1.out | exact HKC.out _ HB0.out | exact HKC.out _ (Below.refl _ _) | (simp [*]; done))
              (first
                | (go_at_call 29
                   refine (HAT.out _ HSD1.out).mono ?_
                   rintro e w' ⟨rfl, rfl⟩)
                | (refine step_append_lies _ (by rfl) _ _ _ (by rfl) w.heap.size 3 i0 (.int .i64 0) 1 8 Try.underlying26 hi hz0 hz1 hz2 rfl (Nat.succ_pos 0) u5 zs.length (nums .i64 zs) (by rfl) HOWN2.out ⟨wr.heap.size, 0, none⟩ 1 1 [.int .i64 (F : Int)] (by rfl) (by rfl) HNEWS.out h1c (Nat.succ_pos 0) hlb hlb2 HBA.out.size (wr.heap.size + 1) (by simp) ?_
                   intro g cap w3 hown3 hgr3 _ _))
            have hown4 : w3.ownsRow w.heap.size 3 1 (.slice (some ⟨g, 0, none⟩) (zs.length + 1) cap) (zs.length + 1) (nums .i64 (zs ++ [F])) := by rw [nums_append]; exact hown3
            have hb3 : Below w.heap.size w w3 := HBA.out.grown hgr3 HBA.out.size HOWNB.out
            clear hown3 hgr3
            go_wp2
            go_roundw
            case rel => exact ⟨j + 1, zs ++ [F], by have := HI.out; go_num, by have := HI.out; omega, by rw [List.length_append]; exact hown4, hdz.app (Dig.cons HFB.out (Dig.nil _)), HLZ, HV, hb3⟩
            case measure => simp [intOf]; omega
          · have hin : i = n := by omega
            have HV : Hid (val 65536 zs = R) := Lib.hid (by
              have e : j = n - q := by have := HI.out; omega
              rw [hv.out, e, Nat.mod_eq_of_lt HFIT.out])
            obtain ⟨A2, c2, rfl, hsl⟩ := Sl.of_owns hown
            have HSL := Lib.hid hsl
            have HB := Lib.hid hb
            clear hown hb hsl hv hlz hin
            go_wp2_with fail
            refine (ref_trim A2 _ c2 zs _ HSL.out).mono ?_
            rintro e w4 ⟨rfl, rfl⟩
            go_wp2
            go_ret
            refine ⟨_, _, _, rfl, ⟨trimL zs, ?_, trimL_dig hdz, trimL_idem zs, by rw [val_trim, HV.out]⟩, HB.out⟩
            have := HSL.out.take (trimL zs).length (trimL_len zs)
            rw [← trimL_take] at this
            exact this

end Go.Proofs.Ytmjinhieeflkgaa
