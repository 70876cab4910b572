/- The contract of nat's Parse. -/
import Derived.Test.YtliligfhckampaaParseA
namespace Go.Proofs.Ytliligfhckampaa
open Go.RowKit

theorem Blk.of_owns2 {w : World} {base e n : Nat} {v : Value} {cs : List Value} (h : w.ownsRow base e 1 v n cs) (hn : 0 < n) :
    ∃ g cap rest, v = .slice (some ⟨g, 0, none⟩) n cap ∧ base ≤ g ∧ g < w.heap.size ∧ n ≤ cap ∧ cap ≤ maxLen ∧ (cs ++ rest).length = cap ∧ Blk w g e (cs ++ rest) := by
  rcases h.2 with ⟨_, h0⟩ | ⟨g, cap, cur, rfl, hg, hh, hn, hcap, hs, ht⟩
  · omega
  · rw [Nat.mul_one] at ht hs
    have hb : Blk w g e (cs ++ cur.toList.drop n) := by
      unfold Blk
      rw [hh, ← ht, List.take_append_drop]
    exact ⟨g, cap, cur.toList.drop n, rfl, hg, hb.lt, hn, hcap, by rw [← ht, List.take_append_drop]; simpa using hs, hb⟩

theorem own_of_blk {w : World} {base e g n cap : Nat} {cs rest : List Value} (hg : base ≤ g) (hn : n ≤ cap) (hc : cap ≤ maxLen) (hlen : (cs ++ rest).length = cap) (hcs : cs.length = n) (h : Blk w g e (cs ++ rest)) :
    w.ownsRow base e 1 (.slice (some ⟨g, 0, none⟩) n cap) n cs := by
  refine ⟨by rw [Nat.mul_one]; exact hcs, .inr ⟨g, cap, (cs ++ rest).toArray, rfl, hg, h, hn, hc, by simpa using hlen, ?_⟩⟩
  rw [Nat.mul_one, ← hcs]
  simp

/-- timesPlus over words of the call's own. -/
theorem times_own (u a base n : Nat) (v : Value) (ws : List Nat) (w0 w : World) (hown : w.ownsRow base 40 1 v n (nums .u64 ws)) (hdx : Dig B64 ws) (hn : n ≤ 1099511627776) (hu : u < B64) (ha : a < B64) (hb : Below base w0 w) (hbs : base ≤ w.heap.size) :
    Calls Try.prog 44 #[v, .int .u64 u, .int .u64 a] w fun e w' => ∃ (zs : List Nat) (cy : Nat), e = .returned (.int .u64 cy) ∧ w'.ownsRow base 40 1 v n (nums .u64 zs) ∧
      zs.length = n ∧ Dig B64 zs ∧ cy < B64 ∧ val B64 zs + B64 ^ n * cy = val B64 ws * u + a ∧ Below base w0 w' := by
  have hl : ws.length = n := by have := hown.1; rw [nums_length, Nat.mul_one] at this; exact this
  by_cases h0 : 0 < n
  · obtain ⟨g, cap, rest, rfl, hg, hgl, hnc, hcap, hlen, hblk⟩ := Blk.of_owns2 hown h0
    refine (nat_timesPlus g n cap u a _ ws rest w (fun _ => ⟨rfl, hblk⟩) hl hdx hn hu ha).mono ?_
    rintro e w' ⟨zs, cy, rfl, hb2, hlz, hdz, hcy, hv, hgr⟩
    exact ⟨zs, cy, rfl, own_of_blk hg hnc hcap (by rw [List.length_append, nums_length, hlz, ← hl, ← nums_length .u64 ws, ← List.length_append]; exact hlen) (by rw [nums_length]; exact hlz) (hb2 h0), hlz, hdz, hcy, hv, hb.grown hgr hbs (fun k hk => by cases hk; exact hg)⟩
  · obtain ⟨A, c, rfl, hsl⟩ := Sl.of_owns hown
    refine (nat_timesPlus w.heap.size n c u a A ws [] w (fun h => absurd h h0) hl hdx hn hu ha).mono ?_
    rintro e w' ⟨zs, cy, rfl, hb2, hlz, hdz, hcy, hv, hgr⟩
    have hzw : zs = ws := by
      rw [List.eq_nil_of_length_eq_zero (show zs.length = 0 by omega), List.eq_nil_of_length_eq_zero (show ws.length = 0 by omega)]
    exact ⟨zs, cy, rfl, by rw [hzw]; exact hown.kept hgr (.inr (fun e => by have := (hown.lt _ e).2; omega)), hlz, hdz, hcy, hv, hb.grown hgr hbs (fun k hk => by cases hk; exact hbs)⟩

/-- What Parse answers. -/
def ParsePost (s : ByteArray) (w : World) (e : Ending) (w' : World) : Prop :=
  ∃ A n c code, e = .returned (.tuple #[.agg #[.slice A n c], .int .i64 code]) ∧ Below w.heap.size w w' ∧ ((¬ DecOk s.data.toList ∧ code = 4 ∧ n = 0) ∨ (DecOk s.data.toList ∧ Got w' (natOf s.data.toList) A n c code))

theorem take_snocS (s : ByteArray) (k : Nat) (h : k < s.size) : s.data.toList.take (k + 1) = s.data.toList.take k ++ [s[k]] := by
  have hk2 : k < s.data.toList.length := by rw [data_len]; exact h
  rw [← List.take_append_getElem hk2]
  congr 2

theorem natOf_take_le (l : List UInt8) (k : Nat) : natOf (l.take k) ≤ natOf l := by
  have := natOf_le (l.take k) (l.drop k)
  rw [List.take_append_drop] at this
  exact this

theorem pow10_19 {r : Nat} (h : r ≤ 18) : 10 ^ r ≤ 1000000000000000000 := by
  have h1 : 10 ^ r ≤ 10 ^ 18 := Nat.pow_le_pow_right (by omega) h
  have h2 : (10 : Nat) ^ 18 = 1000000000000000000 := by decide
  omega
theorem pow10_lt {r : Nat} (h : 10 ^ (r + 1) < 10000000000000000000) : r + 1 ≤ 18 := by
  apply Nat.le_of_not_lt
  intro h2
  have h1 : 10 ^ 19 ≤ 10 ^ (r + 1) := Nat.pow_le_pow_right (by omega) (by omega)
  have h3 : (10 : Nat) ^ 19 = 10000000000000000000 := by decide
  omega

set_option maxHeartbeats 4000000 in
theorem nat_Parse (s : ByteArray) (w : World) (hs : (s.size : Int) ≤ 1500) : Calls Try.prog 20 #[.string s] w (ParsePost s w) := by
  obtain ⟨i0, hi, hz0, hz1, hz2⟩ := info_parts Try.info40
  by_cases hD : DecOk s.data.toList
  · have HD := Lib.hid hD
    have HDEC : Hid (∀ W : World, Calls Try.prog 43 #[.string s] W fun e w' => e = .returned (.bool true) ∧ W = w') := Lib.hid (fun W => nat_decimal s true W hs (by simp [hD]))
    clear hD
    go_enter Try.func20, Try.ntmps20
    go_wp2_with fail
    refine (HDEC.out _).mono ?_
    rintro e w' ⟨rfl, rfl⟩
    have X0 : Hid (Blk (w.alloc (.cells #[.slice none 0 0] 29)) w.heap.size 29 [.slice none 0 0]) := Lib.hid (Blk.new1 w _ _)
    have B0 : Hid (Below w.heap.size w (w.alloc (.cells #[.slice none 0 0] 29))) := Lib.hid ((Below.refl _ _).alloc (Nat.le_refl _) _)
    go_wp2
    generalize w.alloc (.cells #[.slice none 0 0] 29) = w0 at *
    go_loopw [4, 5, 6, 15] (fun v vv sv iv wr => ∃ (k r sc vl : Nat) (ws : List Nat), iv = .int .i64 k ∧ vv = .int .u64 vl ∧ sv = .int .u64 sc ∧ k ≤ s.size ∧ Hid (sc = 10 ^ r) ∧ r ≤ 18 ∧ vl < sc ∧ Hid (k = s.size → r = 0) ∧
        wr.ownsRow w0.heap.size 40 1 v ws.length (nums .u64 ws) ∧ Dig B64 ws ∧ ws.length ≤ 64 ∧ Hid (val B64 ws * sc + vl = natOf (s.data.toList.take k)) ∧ Below w0.heap.size w0 wr) (fun _ _ _ iv _ => s.size - (intOf iv).toNat)
    case atStart => exact ⟨0, 0, 1, 0, [], rfl, rfl, rfl, Nat.zero_le _, Lib.hid rfl, by omega, by omega, Lib.hid (fun _ => rfl), World.ownsRow_nil _ _ _ _, Dig.nil _, by simp, Lib.hid rfl, Below.refl _ _⟩
    case round =>
      obtain ⟨k, r, sc, vl, ws, rfl, rfl, rfl, hk, hsc, hr, hvl, hlast, hown, hdw, hwl, hv, hb⟩ := hrel
      by_cases hlt : k < s.size
      · obtain ⟨c, hc⟩ : ∃ c, c = (s[k]'hlt).toNat := ⟨_, rfl⟩
        have hci : (((s[k]'hlt).toNat : Nat) : Int) = (c : Int) := by rw [hc]
        have hcd := HD.out.2.2 (s[k]'hlt) (List.mem_of_getElem? (lget s k hlt))
        rw [← hc] at hcd
        have hscb := pow10_19 hr
        rw [← hsc.out] at hscb
        have hscI : (sc : Int) ≤ 1000000000000000000 := by omega
        have hnat : natOf (s.data.toList.take (k + 1)) = natOf (s.data.toList.take k) * 10 + (c - 48) := by rw [take_snocS s k hlt, natOf_snoc, ← hc]
        have HNAT := Lib.hid hnat
        have HSC1 : Hid (sc * 10 = 10 ^ (r + 1)) := Lib.hid (by rw [hsc.out, Nat.pow_succ])
        have HV1 : Hid (val B64 ws * (sc * 10) + (vl * 10 + (c - 48)) = natOf (s.data.toList.take (k + 1))) := Lib.hid (by
          rw [hnat, ← hv.out, ← Nat.mul_assoc, Nat.add_mul]; omega)
        clear hc hnat hv hscb hlast
        by_cases hgo : sc * 10 < 10000000000000000000 ∧ k + 1 < s.size
        · obtain ⟨g1, g2⟩ := hgo
          have hr18 := pow10_lt (by rw [← HSC1.out]; exact g1)
          have d1 : decide ((sc : Int) * 10 < 10000000000000000000) = true := by rw [decide_eq_true_iff]; omega
          have d2 : decide ((k : Int) < (s.size : Int) - 1) = true := by rw [decide_eq_true_iff]; omega
          clear g1
          go_wp2
          go_roundw
          case rel => exact ⟨k + 1, r + 1, sc * 10, vl * 10 + (c - 48), ws, by go_num, by go_num, by go_num, by omega, HSC1, hr18, by omega, Lib.hid (fun e => by omega), hown, hdw, hwl, HV1, hb⟩
          case measure => simp [intOf]; omega
        · have hor : (decide ((sc : Int) * 10 < 10000000000000000000) = false) ∨ (decide ((sc : Int) * 10 < 10000000000000000000) = true ∧ decide ((k : Int) < (s.size : Int) - 1) = false) := by
            by_cases g1 : sc * 10 < 10000000000000000000
            · right
              refine ⟨by rw [decide_eq_true_iff]; omega, ?_⟩
              rw [decide_eq_false_iff_not]
              intro h
              exact hgo ⟨g1, by omega⟩
            · left
              rw [decide_eq_false_iff_not]; omega
          have HTO : Hid (∀ W v, W.ownsRow w0.heap.size 40 1 v ws.length (nums .u64 ws) → Below w0.heap.size w0 W → Calls Try.prog 44 #[v, .int .u64 ((sc : Int) * 10), .int .u64 ((vl : Int) * 10 + ((c : Int) - 48))] W fun e w' => ∃ (zs : List Nat) (cy : Nat), e = .returned (.int .u64 cy) ∧ w'.ownsRow w0.heap.size 40 1 v ws.length (nums .u64 zs) ∧
              zs.length = ws.length ∧ Dig B64 zs ∧ cy < B64 ∧ val B64 zs + B64 ^ ws.length * cy = natOf (s.data.toList.take (k + 1)) ∧ Below w0.heap.size w0 w') := Lib.hid (fun W v hW hbW => by
            have h := times_own (sc * 10) (vl * 10 + (c - 48)) w0.heap.size ws.length v ws w0 W hW hdw (by omega) (by rw [B64_eq]; omega) (by rw [B64_eq]; omega) hbW hbW.size
            rw [HV1.out] at h
            rw [show ((sc * 10 : Nat) : Int) = (sc : Int) * 10 from by omega, show ((vl * 10 + (c - 48) : Nat) : Int) = (vl : Int) * 10 + ((c : Int) - 48) from by omega] at h
            exact h)
          clear hgo HV1 HSC1
          rcases hor with d1 | ⟨d1, d2⟩
          all_goals
            go_wp2_with fail
            refine (HTO.out _ _ hown hb).mono ?_
            rintro e w1 ⟨zs, cy, rfl, hown1, hlz, hdz, hcy, hval, hb1⟩
            have HCY := Lib.hid hcy
            have hsz1 := hb1.size
            have hlb : zs.length ≤ 8796093022208 := by omega
            have hown2 := hown1
            rw [← hlz] at hown2
            have HLZ := Lib.hid hlz
            have HVAL := Lib.hid hval
            clear hown hb hown1 hlz hcy hval HTO
            by_cases hc0 : cy = 0
            · have HV2 : Hid (val B64 zs * 1 + 0 = natOf (s.data.toList.take (k + 1))) := Lib.hid (by have := HVAL.out; rw [hc0, Nat.mul_zero] at this; omega)
              have hce : ((cy : Int) == 0) = true := by rw [hc0]; rfl
              have hce2 : ((cy : Int) != 0) = false := by rw [hc0]; rfl
              obtain ⟨A2, c2, hv2, hsl2⟩ := Sl.of_owns hown2
              have hzl : zs.length ≤ 64 := by rw [HLZ.out]; exact hwl
              have HO2 := Lib.hid hown2
              rw [hv2] at HO2 ⊢
              clear hown2 hsl2 hv2 hc0 hlb hscI d1
              go_wp2
              go_roundw
              case rel => exact ⟨k + 1, 0, 1, 0, zs, by go_num, rfl, rfl, by omega, Lib.hid rfl, by omega, by omega, Lib.hid (fun _ => rfl), HO2.out, hdz, hzl, HV2, hb1⟩
              case measure => simp [intOf]; omega
            · have hce : ((cy : Int) == 0) = false := beq_eq_false_iff_ne.2 (by omega)
              have hce2 : ((cy : Int) != 0) = true := by rw [bne_iff_ne]; omega
              have HV2 : Hid (val B64 (zs ++ [cy]) * 1 + 0 = natOf (s.data.toList.take (k + 1))) := Lib.hid (by rw [val_snoc, HLZ.out]; have := HVAL.out; omega)
              go_wp2_with (at_builtin; refine wpList_append1 rfl (.tmp 43) (.tmp 45) 22 rfl .u64 w0.heap.size 40 i0 (.int .u64 0) 8 Try.underlying22 hi hz0 hz1 hz2 rfl _ zs rfl hown2 _ cy rfl _ rfl hlb (by omega) hb1 hsz1 ?_)
              intro v2 w2 hown3 hb2 _
              obtain ⟨A2, c2, hv2, hsl2⟩ := Sl.of_owns hown3
              have HO3 := Lib.hid hown3
              rw [hv2] at HO3 ⊢
              have hll : (zs ++ [cy]).length = zs.length + 1 := by simp
              by_cases h64 : zs.length + 1 ≤ 64
              · have HLL := Lib.hid hll
                clear hown2 hown3 hsl2 hv2 hc0 hb1 hll hlb hscI d1
                go_wp2
                go_roundw
                case rel => exact ⟨k + 1, 0, 1, 0, zs ++ [cy], by go_num, rfl, rfl, by omega, Lib.hid rfl, by omega, by omega, Lib.hid (fun _ => rfl), by rw [HLL.out]; exact HO3.out, hdz.app (Dig.cons HCY.out (Dig.nil _)), by rw [HLL.out]; exact h64, HV2, hb2⟩
                case measure => simp [intOf]; omega
              · have hbig : Lim ≤ natOf s.data.toList := by
                  have h1 := natOf_take_le s.data.toList (k + 1)
                  have h2 := HVAL.out
                  have h3 : ws.length = 64 := by have := HLZ.out; omega
                  rw [h3] at h2
                  have h4 : B64 ^ 64 * 1 ≤ B64 ^ 64 * cy := Nat.mul_le_mul_left _ (by omega)
                  unfold Lim
                  omega
                have HBIG := Lib.hid hbig
                have hbx := X0.out.keep hb2
                have hx0 := hbx.cell0
                have hx1 := hbx.frozen 0
                have hst := hbx.stored (.slice none 0 0)
                have HBB := Lib.hid (B0.out.trans (hb2.mono B0.out.size))
                clear hown2 hown3 hsl2 hv2 hc0 hb1 hll hbig hbx hb2 hlb hscI d1
                go_wp2
                exact bodyPost_ret (v := .tuple #[.agg #[.slice none 0 0], .int .i64 1]) (by simp [results, Try.results20, go_sem, hst]) rfl
                  ⟨_, _, _, _, rfl, HBB.out.setCell (Nat.le_refl _) _, .inr ⟨HD.out, .inr ⟨HBIG.out, rfl, rfl, rfl, rfl⟩⟩⟩
      · have hke : k = s.size := by omega
        have hr0 := hlast.out hke
        have hnat : val B64 ws = natOf s.data.toList := by
          have h1 := hv.out
          have h2 := hsc.out
          rw [hr0, Nat.pow_zero] at h2
          rw [h2, List.take_of_length_le (by rw [data_len]; omega)] at h1
          omega
        have HNAT := Lib.hid hnat
        obtain ⟨A2, c2, hv2, hsl2⟩ := Sl.of_owns hown
        have HSL := Lib.hid hsl2
        rw [hv2]
        have hbx := X0.out.keep hb
        have HBX := Lib.hid hbx
        have HBB := Lib.hid (B0.out.trans (hb.mono B0.out.size))
        clear hown hsl2 hv2 hbx hb hnat hv hsc hlast hr0
        go_wp2_with fail
        refine (nat_made _ ws.length _ ws _ HSL.out hdw).mono ?_
        rintro e w3 ⟨A3, n3, c3, code, rfl, hgot, hb3⟩
        have hbx := HBX.out.keep hb3
        have hx0 := hbx.cell0
        have hx1 := hbx.frozen 0
        have hst := hbx.stored (.slice A3 n3 c3)
        rw [HNAT.out] at hgot
        have HG := Lib.hid hgot
        have HB3 := Lib.hid (HBB.out.trans (hb3.mono HBB.out.size))
        clear hbx hgot hb3
        go_wp2
        exact bodyPost_ret (v := .tuple #[.agg #[.slice A3 n3 c3], .int .i64 code]) (by simp [results, Try.results20, go_sem, hst]) rfl
          ⟨_, _, _, _, rfl, HB3.out.setCell (Nat.le_refl _) _, .inr ⟨HD.out, HG.out.setCell hx0 (fun i h => by cases h) _⟩⟩
  · have HD := Lib.hid hD
    have HDEC : Hid (∀ W : World, Calls Try.prog 43 #[.string s] W fun e w' => e = .returned (.bool false) ∧ W = w') := Lib.hid (fun W => nat_decimal s false W hs (by simp [hD]))
    clear hD
    go_enter Try.func20, Try.ntmps20
    go_wp2_with fail
    refine (HDEC.out _).mono ?_
    rintro e w' ⟨rfl, rfl⟩
    go_wp2
    exact bodyPost_ret (v := .tuple #[.agg #[.slice none 0 0], .int .i64 4]) (by simp [results, Try.results20, go_sem]) rfl
      ⟨_, _, _, _, rfl, (Below.refl _ _).alloc (Nat.le_refl _) _, .inl ⟨HD.out, rfl, rfl⟩⟩

end Go.Proofs.Ytliligfhckampaa
