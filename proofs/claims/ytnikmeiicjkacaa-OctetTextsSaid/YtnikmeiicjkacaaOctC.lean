/- Contracts of octet's PutText and TakeText, and of the document's. -/
import Derived.Test.YtnikmeiicjkacaaOctB
namespace Go.Proofs.Ytnikmeiicjkacaa
open Go.RowKit

/-- What PutText answers, by a limit from 0 to 65535. -/
def ptB (t : List UInt8) (m : Nat) : List UInt8 := if t.length ≤ m then beL t.length 2 ++ t else []
def ptE (t : List UInt8) (m : Nat) : Int := if t.length ≤ m then 0 else 11
/-- What TakeText answers, by a limit from 0 to 65535. -/
def tkE (l : List UInt8) (m : Nat) : Int := if l.length < 2 then 10 else if m < beV (l.take 2) then 11 else if l.length < 2 + beV (l.take 2) then 10 else 0
def tkA (l : List UInt8) (m : Nat) : List UInt8 := if l.length < 2 then [] else if m < beV (l.take 2) then [] else if l.length < 2 + beV (l.take 2) then [] else (l.drop 2).take (beV (l.take 2))
def tkB (l : List UInt8) (m : Nat) : List UInt8 := if l.length < 2 then [] else if m < beV (l.take 2) then [] else if l.length < 2 + beV (l.take 2) then [] else (l.drop 2).drop (beV (l.take 2))

theorem oct_PutText_range (t : List UInt8) (m : Int) (w : World) (h : m < 0 ∨ 65535 < m) :
    Calls Try.prog 11 #[.string (bs t), .int .i64 m] w fun e w' => e = .returned (.tuple #[.string (bs []), .int .i64 5]) ∧ Below w.heap.size w w' := by
  have H := Lib.hid (fun W => oct_wrong_range (t.length : Int) m W h)
  have hsz := bs_size t
  clear h
  go_enter Try.func11, Try.ntmps11
  go_wp2_with (go_at_call 18; refine (H.out _).mono ?_; rintro e w1 ⟨rfl, rfl⟩)
  go_ret2
  exact ⟨rfl, Below.refl _ _⟩

theorem oct_PutText_long (t : List UInt8) (m : Nat) (w : World) (hm : m ≤ 65535) (h : m < t.length) :
    Calls Try.prog 11 #[.string (bs t), .int .i64 (m : Int)] w fun e w' => e = .returned (.tuple #[.string (bs []), .int .i64 11]) ∧ Below w.heap.size w w' := by
  have H := Lib.hid (fun W => oct_wrong_long (t.length : Int) (m : Int) W (by omega) (by omega) (by omega))
  have hsz := bs_size t
  clear h
  go_enter Try.func11, Try.ntmps11
  go_wp2_with (go_at_call 18; refine (H.out _).mono ?_; rintro e w1 ⟨rfl, rfl⟩)
  go_ret2
  exact ⟨rfl, Below.refl _ _⟩

theorem oct_PutText_ok (t : List UInt8) (m : Nat) (w : World) (hm : m ≤ 65535) (h : t.length ≤ m) :
    Calls Try.prog 11 #[.string (bs t), .int .i64 (m : Int)] w fun e w' => e = .returned (.tuple #[.string (bs (beL t.length 2 ++ t)), .int .i64 0]) ∧ Below w.heap.size w w' := by
  have H := Lib.hid (fun W => oct_wrong_ok (t.length : Int) (m : Int) W (by omega) (by omega) (by omega))
  obtain ⟨k, hk⟩ : ∃ k, k = t.length := ⟨_, rfl⟩
  rw [← hk] at H
  have HP := Lib.hid (fun W => oct_Put_ok k 2 W (by omega) (by omega) (by omega) (by have : (256 : Nat) ^ 2 = 65536 := by decide
                                                                                     omega))
  obtain ⟨L, hL⟩ : ∃ L, L = beL k 2 := ⟨_, rfl⟩
  rw [← hL] at HP
  have HR : Hid (bs L ++ bs t = bs (beL t.length 2 ++ t)) := Lib.hid (by rw [bs_append, hL, hk])
  have hLs : (bs L).size = 2 := by rw [bs_size, hL, beL_len]
  have hsz : (bs t).size = k := by rw [bs_size, hk]
  have hw : IntKind.u64.wrap (k : Int) = (k : Int) := IntWalk.u64_in _ (by omega)
  have hkm : k ≤ 65535 := by omega
  clear hL hk h
  go_enter Try.func11, Try.ntmps11
  go_wp2_with (first
    | (go_at_call 18; refine (H.out _).mono ?_; rintro e w1 ⟨rfl, rfl⟩)
    | (go_at_call 7; refine (HP.out _).mono ?_; rintro e w1 ⟨rfl, hb1⟩))
  go_ret2
  exact ⟨by rw [HR.out]; rfl, hb1⟩

theorem oct_PutText (t : List UInt8) (m : Nat) (w : World) (hm : m ≤ 65535) :
    Calls Try.prog 11 #[.string (bs t), .int .i64 (m : Int)] w fun e w' => e = .returned (.tuple #[.string (bs (ptB t m)), .int .i64 (ptE t m)]) ∧ Below w.heap.size w w' := by
  unfold ptB ptE
  split
  · exact oct_PutText_ok t m w hm (by assumption)
  · exact oct_PutText_long t m w hm (by omega)

theorem oct_TakeText_range (l : List UInt8) (m : Int) (w : World) (h : m < 0 ∨ 65535 < m) (hl : l.length ≤ 281474976710656) :
    Calls Try.prog 13 #[.string (bs l), .int .i64 m] w fun e w' => e = .returned (.tuple #[.string (bs []), .string (bs []), .int .i64 5]) ∧ Below w.heap.size w w' := by
  have H := Lib.hid (fun k W => oct_wrong_range k m W h)
  clear h
  by_cases h2 : l.length < 2
  · have HT := Lib.hid (fun W => oct_Take_short l 2 W (by omega) (by omega) h2)
    clear h2
    go_enter Try.func13, Try.ntmps13
    go_wp2_with (first
      | (go_at_call 18; refine (H.out _ _).mono ?_; rintro e w1 ⟨rfl, rfl⟩)
      | (go_at_call 9; refine (HT.out _).mono ?_; rintro e w1 ⟨rfl, hb1⟩))
    refine bodyPost_ret (v := .tuple #[.string (bs []), .string (bs []), .int .i64 5]) (by simp [results, Try.results13, go_sem, bs_nil]) rfl ⟨rfl, ?_⟩
    exact hb1
  · have HT := Lib.hid (fun W => oct_Take_ok l 2 W (by omega) (by omega) (by omega) hl)
    obtain ⟨V, hV⟩ : ∃ V, V = beV (l.take 2) := ⟨_, rfl⟩
    rw [← hV] at HT
    have hVb : V < 65536 := by
      have := beV_take_lt l 2 (by omega)
      have e : (256 : Nat) ^ 2 = 65536 := by decide
      omega
    have hw : IntKind.i64.wrap (V : Int) = (V : Int) := IntWalk.i64_in _ (by omega)
    clear h2 hV
    go_enter Try.func13, Try.ntmps13
    go_wp2_with (first
      | (go_at_call 18; refine (H.out _ _).mono ?_; rintro e w1 ⟨rfl, rfl⟩)
      | (go_at_call 9; refine (HT.out _).mono ?_; rintro e w1 ⟨rfl, hb1⟩))
    refine bodyPost_ret (v := .tuple #[.string (bs []), .string (bs []), .int .i64 5]) (by simp [results, Try.results13, go_sem, bs_nil]) rfl ⟨rfl, ?_⟩
    exact hb1

theorem oct_TakeText_none (l : List UInt8) (m : Nat) (w : World) (hm : m ≤ 65535) (h : l.length < 2) :
    Calls Try.prog 13 #[.string (bs l), .int .i64 (m : Int)] w fun e w' => e = .returned (.tuple #[.string (bs []), .string (bs []), .int .i64 10]) ∧ Below w.heap.size w w' := by
  have H := Lib.hid (fun W => oct_wrong_ok 0 (m : Int) W (by omega) (by omega) (by omega))
  have HT := Lib.hid (fun W => oct_Take_short l 2 W (by omega) (by omega) h)
  clear h
  go_enter Try.func13, Try.ntmps13
  go_wp2_with (first
    | (go_at_call 18; refine (H.out _).mono ?_; rintro e w1 ⟨rfl, rfl⟩)
    | (go_at_call 9; refine (HT.out _).mono ?_; rintro e w1 ⟨rfl, hb1⟩))
  refine bodyPost_ret (v := .tuple #[.string (bs []), .string (bs []), .int .i64 10]) (by simp [results, Try.results13, go_sem, bs_nil]) rfl ⟨rfl, ?_⟩
  exact hb1

theorem oct_TakeText_long (l : List UInt8) (m : Nat) (w : World) (hm : m ≤ 65535) (h : 2 ≤ l.length) (hl : l.length ≤ 281474976710656) (hv : m < beV (l.take 2)) :
    Calls Try.prog 13 #[.string (bs l), .int .i64 (m : Int)] w fun e w' => e = .returned (.tuple #[.string (bs []), .string (bs []), .int .i64 11]) ∧ Below w.heap.size w w' := by
  have HT := Lib.hid (fun W => oct_Take_ok l 2 W (by omega) (by omega) h hl)
  obtain ⟨V, hV⟩ : ∃ V, V = beV (l.take 2) := ⟨_, rfl⟩
  rw [← hV] at HT hv
  have H := Lib.hid (fun W => oct_wrong_long (V : Int) (m : Int) W (by omega) (by omega) (by omega))
  have hVb : V < 65536 := by
    have := beV_take_lt l 2 (by omega)
    have e : (256 : Nat) ^ 2 = 65536 := by decide
    omega
  have hw : IntKind.i64.wrap (V : Int) = (V : Int) := IntWalk.i64_in _ (by omega)
  clear h hV hv
  go_enter Try.func13, Try.ntmps13
  go_wp2_with (first
    | (go_at_call 18; refine (H.out _).mono ?_; rintro e w1 ⟨rfl, rfl⟩)
    | (go_at_call 9; refine (HT.out _).mono ?_; rintro e w1 ⟨rfl, hb1⟩))
  refine bodyPost_ret (v := .tuple #[.string (bs []), .string (bs []), .int .i64 11]) (by simp [results, Try.results13, go_sem, bs_nil]) rfl ⟨rfl, ?_⟩
  exact hb1

theorem oct_TakeText_short (l : List UInt8) (m : Nat) (w : World) (hm : m ≤ 65535) (h : 2 ≤ l.length) (hl : l.length ≤ 281474976710656) (hv : beV (l.take 2) ≤ m) (hs : l.length < 2 + beV (l.take 2)) :
    Calls Try.prog 13 #[.string (bs l), .int .i64 (m : Int)] w fun e w' => e = .returned (.tuple #[.string (bs []), .string (bs []), .int .i64 10]) ∧ Below w.heap.size w w' := by
  have HT := Lib.hid (fun W => oct_Take_ok l 2 W (by omega) (by omega) h hl)
  obtain ⟨V, hV⟩ : ∃ V, V = beV (l.take 2) := ⟨_, rfl⟩
  rw [← hV] at HT hv hs
  have H := Lib.hid (fun W => oct_wrong_ok (V : Int) (m : Int) W (by omega) (by omega) (by omega))
  have hw : IntKind.i64.wrap (V : Int) = (V : Int) := IntWalk.i64_in _ (by omega)
  obtain ⟨R, hR⟩ : ∃ R, R = l.drop 2 := ⟨_, rfl⟩
  rw [← hR] at HT
  have hRs : (bs R).size = R.length := bs_size R
  have hRl : R.length + 2 = l.length := by rw [hR, List.length_drop]; omega
  have hd : decide (R.length < V) = true := decide_eq_true (by omega)
  have HRL := Lib.hid hRl
  clear h hV hv hs hR hRl
  go_enter Try.func13, Try.ntmps13
  go_wp2_with (first
    | (go_at_call 18; refine (H.out _).mono ?_; rintro e w1 ⟨rfl, rfl⟩)
    | (go_at_call 9; refine (HT.out _).mono ?_; rintro e w1 ⟨rfl, hb1⟩))
  refine bodyPost_ret (v := .tuple #[.string (bs []), .string (bs []), .int .i64 10]) (by simp [results, Try.results13, go_sem, bs_nil]) rfl ⟨rfl, ?_⟩
  exact hb1

set_option maxHeartbeats 2000000 in
theorem oct_TakeText_ok (l : List UInt8) (m : Nat) (w : World) (hm : m ≤ 65535) (h : 2 ≤ l.length) (hl : l.length ≤ 281474976710656) (hv : beV (l.take 2) ≤ m) (hs : 2 + beV (l.take 2) ≤ l.length) :
    Calls Try.prog 13 #[.string (bs l), .int .i64 (m : Int)] w fun e w' => e = .returned (.tuple #[.string (bs ((l.drop 2).take (beV (l.take 2)))), .string (bs ((l.drop 2).drop (beV (l.take 2)))), .int .i64 0]) ∧ Below w.heap.size w w' := by
  have HT := Lib.hid (fun W => oct_Take_ok l 2 W (by omega) (by omega) h hl)
  obtain ⟨V, hV⟩ : ∃ V, V = beV (l.take 2) := ⟨_, rfl⟩
  rw [← hV] at HT hv hs ⊢
  have H := Lib.hid (fun W => oct_wrong_ok (V : Int) (m : Int) W (by omega) (by omega) (by omega))
  have hw : IntKind.i64.wrap (V : Int) = (V : Int) := IntWalk.i64_in _ (by omega)
  obtain ⟨R, hR⟩ : ∃ R, R = l.drop 2 := ⟨_, rfl⟩
  rw [← hR] at HT ⊢
  have hRs : (bs R).size = R.length := bs_size R
  have hRl : V ≤ R.length := by rw [hR, List.length_drop]; omega
  have hRm : R.length ≤ 281474976710656 := by rw [hR, List.length_drop]; omega
  have hd : decide (R.length < V) = false := decide_eq_false (by omega)
  have he1 : (bs R).extract 0 V = bs (R.take V) := by rw [bs_extract, List.drop_zero, Nat.sub_zero]
  have he2 : (bs R).extract V R.length = bs (R.drop V) := by rw [bs_extract, List.take_of_length_le (by rw [List.length_drop]; exact Nat.le_refl _)]
  clear h hV hv hs hR
  go_enter Try.func13, Try.ntmps13
  go_wp2_with (first
    | (go_at_call 18; refine (H.out _).mono ?_; rintro e w1 ⟨rfl, rfl⟩)
    | (go_at_call 9; refine (HT.out _).mono ?_; rintro e w1 ⟨rfl, hb1⟩))
  go_region
  all_goals go_wp2
  all_goals refine bodyPost_ret (v := .tuple #[.string (bs (R.take V)), .string (bs (R.drop V)), .int .i64 0]) (by simp [results, Try.results13, go_sem]) rfl ⟨rfl, ?_⟩
  all_goals exact hb1.drew

theorem oct_TakeText (l : List UInt8) (m : Nat) (w : World) (hm : m ≤ 65535) (hl : l.length ≤ 281474976710656) :
    Calls Try.prog 13 #[.string (bs l), .int .i64 (m : Int)] w fun e w' => e = .returned (.tuple #[.string (bs (tkA l m)), .string (bs (tkB l m)), .int .i64 (tkE l m)]) ∧ Below w.heap.size w w' := by
  unfold tkA tkB tkE
  split
  · exact oct_TakeText_none l m w hm (by assumption)
  · split
    · exact oct_TakeText_long l m w hm (by omega) hl (by assumption)
    · split
      · exact oct_TakeText_short l m w hm (by omega) hl (by omega) (by assumption)
      · exact oct_TakeText_ok l m w hm (by omega) hl (by omega) (by omega)

end Go.Proofs.Ytnikmeiicjkacaa
