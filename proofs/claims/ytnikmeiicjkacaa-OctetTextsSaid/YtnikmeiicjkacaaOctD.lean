/- Contracts of the document's PutText and TakeText; the document's examples of layer 17. -/
import Derived.Test.YtnikmeiicjkacaaOctC
import Derived.OpenShut
namespace Go.Proofs.Ytnikmeiicjkacaa
open Go.RowKit

theorem oct_beL2 (k : Nat) : beL k 2 = [UInt8.ofNat (k / 256 % 256), UInt8.ofNat (k % 256)] := by
  simp [beL, List.range, List.range.loop]
theorem oct_beV2 {l : List UInt8} (h : 2 ≤ l.length) : beV (l.take 2) = (l[0]'(by omega)).toNat * 256 + (l[1]'(by omega)).toNat := by
  rw [beV_take l 1 (by omega), beV_take l 0 (by omega), List.take_zero, beV_nil]
  omega

theorem oct_conv2 (p q k : Nat) (hp : p = k / 256) (hq : q = k % 256) (hk : k ≤ 65535) (W : World) (te : TypeId) (hte : te = 5) :
    (convert 44 9 (.slice (some ⟨W.heap.size, 0, none⟩) 2 2)).run Try.prog (W.alloc (.cells #[.int .u8 (p : Int), .int .u8 (q : Int)] te)) = .ok (.string (bs (beL k 2))) (W.alloc (.cells #[.int .u8 (p : Int), .int .u8 (q : Int)] te)) := by
  subst hte
  refine oct_conv (l := beL k 2) (n := 2) ?_ (beL_len k 2)
  have e : nums .u8 (nb (beL k 2)) = [.int .u8 (p : Int), .int .u8 (q : Int)] := by
    rw [oct_beL2]
    unfold nums nb
    simp only [List.map_cons, List.map_nil, UInt8.toNat_ofNat']
    have e1 : k / 256 % 256 % 2 ^ 8 = p := by omega
    have e2 : k % 256 % 2 ^ 8 = q := by omega
    rw [e1, e2]
  rw [e]
  exact heap_alloc_new W _

theorem oct_str_slice (l T : List UInt8) (i j : Nat) (W : World) (hij : i ≤ j) (hj : j ≤ l.length) (hT : (bs l).extract i j = bs T) :
    (Instr.slice 9 (.string (bs l)) (some (.int .i64 (i : Int))) (some (.int .i64 (j : Int))) none).run Try.prog W = .ok (.string (bs T)) W := by
  have h0 : (0 : Int) ≤ (i : Int) := by omega
  have h2 : (0 : Int) ≤ (j : Int) := by omega
  have h4 : j ≤ (bs l).size := by rw [bs_size]; omega
  simp [Instr.slice, Instr.sliceBounds, Instr.sliceBound, asIntOf, run_underlying Try.underlying9, go_sem, h0, h2, h4, hij, hT]

theorem octr_PutText_range (t : List UInt8) (m : Int) (w : World) (h : m < 0 ∨ 65535 < m) :
    Calls Try.prog 12 #[.string (bs t), .int .i64 m] w fun e w' => e = .returned (.tuple #[.string (bs []), .int .i64 5]) ∧ Below w.heap.size w w' := by
  rcases h with h | h
  · have h1 : decide (m < (0 : Int)) = true := decide_eq_true h
    go_enter Try.func12, Try.ntmps12
    go_wp2
    go_ret2
    exact ⟨rfl, Below.refl _ _⟩
  · have h1 : decide (m < (0 : Int)) = false := decide_eq_false (by omega)
    have h2 : decide ((65535 : Int) < m) = true := decide_eq_true h
    go_enter Try.func12, Try.ntmps12
    go_wp2
    go_ret2
    exact ⟨rfl, Below.refl _ _⟩

theorem octr_PutText_long (t : List UInt8) (m : Nat) (w : World) (hm : m ≤ 65535) (h : m < t.length) :
    Calls Try.prog 12 #[.string (bs t), .int .i64 (m : Int)] w fun e w' => e = .returned (.tuple #[.string (bs []), .int .i64 11]) ∧ Below w.heap.size w w' := by
  have hsz := bs_size t
  have h1 : decide ((m : Int) < (0 : Int)) = false := decide_eq_false (by omega)
  have h2 : decide ((65535 : Int) < (m : Int)) = false := decide_eq_false (by omega)
  have h3 : decide (m < t.length) = true := decide_eq_true (by omega)
  go_enter Try.func12, Try.ntmps12
  go_wp2
  go_ret2
  exact ⟨rfl, Below.refl _ _⟩

theorem octr_PutText_ok (t : List UInt8) (m : Nat) (w : World) (hm : m ≤ 65535) (h : t.length ≤ m) :
    Calls Try.prog 12 #[.string (bs t), .int .i64 (m : Int)] w fun e w' => e = .returned (.tuple #[.string (bs (beL t.length 2 ++ t)), .int .i64 0]) ∧ Below w.heap.size w w' := by
  obtain ⟨k, hk⟩ : ∃ k, k = t.length := ⟨_, rfl⟩
  have hkm : k ≤ 65535 := by omega
  have hsz : (bs t).size = k := by rw [bs_size, hk]
  have h1 : decide ((m : Int) < (0 : Int)) = false := decide_eq_false (by omega)
  have h2 : decide ((65535 : Int) < (m : Int)) = false := decide_eq_false (by omega)
  have h3 : decide (m < k) = false := decide_eq_false (by omega)
  obtain ⟨L, hL⟩ : ∃ L, L = beL k 2 := ⟨_, rfl⟩
  have HR : Hid (bs L ++ bs t = bs (beL t.length 2 ++ t)) := Lib.hid (by rw [bs_append, hL, hk])
  have hLs : (bs L).size = 2 := by rw [bs_size, hL, beL_len]
  obtain ⟨p, hp⟩ : ∃ p, p = k / 256 := ⟨_, rfl⟩
  obtain ⟨q, hq⟩ : ∃ q, q = k % 256 := ⟨_, rfl⟩
  have HC := Lib.hid (fun W => oct_conv2 p q k hp hq hkm W 5 rfl)
  rw [← hL] at HC
  have e1 : (k : Int) / 256 = (p : Int) := by omega
  have e2 : (k : Int) % 256 = (q : Int) := by omega
  have w1 : IntKind.u8.wrap (p : Int) = (p : Int) := by rw [oct_u8]; omega
  have w2 : IntKind.u8.wrap (q : Int) = (q : Int) := by rw [oct_u8]; omega
  clear hL hk h hp hq
  go_enter Try.func12, Try.ntmps12
  go_wp2
  rw [HC.out]
  go_simp
  go_wp2
  go_ret2
  exact ⟨by rw [HR.out]; rfl, (Below.refl _ _).alloc (Nat.le_refl _) _⟩

theorem octr_PutText (t : List UInt8) (m : Nat) (w : World) (hm : m ≤ 65535) :
    Calls Try.prog 12 #[.string (bs t), .int .i64 (m : Int)] w fun e w' => e = .returned (.tuple #[.string (bs (ptB t m)), .int .i64 (ptE t m)]) ∧ Below w.heap.size w w' := by
  unfold ptB ptE
  split
  · exact octr_PutText_ok t m w hm (by assumption)
  · exact octr_PutText_long t m w hm (by omega)

theorem octr_TakeText_range (l : List UInt8) (m : Int) (w : World) (h : m < 0 ∨ 65535 < m) :
    Calls Try.prog 14 #[.string (bs l), .int .i64 m] w fun e w' => e = .returned (.tuple #[.string (bs []), .string (bs []), .int .i64 5]) ∧ Below w.heap.size w w' := by
  rcases h with h | h
  · have h1 : decide (m < (0 : Int)) = true := decide_eq_true h
    go_enter Try.func14, Try.ntmps14
    go_wp2
    refine bodyPost_ret (v := .tuple #[.string (bs []), .string (bs []), .int .i64 5]) (by simp [results, Try.results14, go_sem, bs_nil]) rfl ⟨rfl, ?_⟩
    exact Below.refl _ _
  · have h1 : decide (m < (0 : Int)) = false := decide_eq_false (by omega)
    have h2 : decide ((65535 : Int) < m) = true := decide_eq_true h
    go_enter Try.func14, Try.ntmps14
    go_wp2
    refine bodyPost_ret (v := .tuple #[.string (bs []), .string (bs []), .int .i64 5]) (by simp [results, Try.results14, go_sem, bs_nil]) rfl ⟨rfl, ?_⟩
    exact Below.refl _ _

theorem octr_TakeText_none (l : List UInt8) (m : Nat) (w : World) (hm : m ≤ 65535) (h : l.length < 2) :
    Calls Try.prog 14 #[.string (bs l), .int .i64 (m : Int)] w fun e w' => e = .returned (.tuple #[.string (bs []), .string (bs []), .int .i64 10]) ∧ Below w.heap.size w w' := by
  have hsz := bs_size l
  have h1 : decide ((m : Int) < (0 : Int)) = false := decide_eq_false (by omega)
  have h2 : decide ((65535 : Int) < (m : Int)) = false := decide_eq_false (by omega)
  have h3 : decide ((l.length : Int) < (2 : Int)) = true := decide_eq_true (by omega)
  go_enter Try.func14, Try.ntmps14
  go_wp2
  refine bodyPost_ret (v := .tuple #[.string (bs []), .string (bs []), .int .i64 10]) (by simp [results, Try.results14, go_sem, bs_nil]) rfl ⟨rfl, ?_⟩
  exact Below.refl _ _

set_option maxHeartbeats 2000000 in
theorem octr_TakeText_more (l : List UInt8) (m : Nat) (w : World) (hm : m ≤ 65535) (h : 2 ≤ l.length) (hl : l.length ≤ 281474976710656) :
    Calls Try.prog 14 #[.string (bs l), .int .i64 (m : Int)] w fun e w' => e = .returned (.tuple #[.string (bs (tkA l m)), .string (bs (tkB l m)), .int .i64 (tkE l m)]) ∧ Below w.heap.size w w' := by
  have hsz := bs_size l
  have h1 : decide ((m : Int) < (0 : Int)) = false := decide_eq_false (by omega)
  have h2 : decide ((65535 : Int) < (m : Int)) = false := decide_eq_false (by omega)
  have h3 : decide ((l.length : Int) < (2 : Int)) = false := decide_eq_false (by omega)
  have HN : Hid (¬ l.length < 2) := Lib.hid (by omega)
  obtain ⟨a, ha⟩ : ∃ a, a = (l[0]'(by omega)).toNat := ⟨_, rfl⟩
  obtain ⟨b, hb⟩ : ∃ b, b = (l[1]'(by omega)).toNat := ⟨_, rfl⟩
  have j0 : 0 < (bs l).size := by rw [bs_size]; omega
  have j1 : 1 < (bs l).size := by rw [bs_size]; omega
  have g0 : (((bs l)[0]'j0).toNat : Int) = (a : Int) := by rw [ha]; rfl
  have g1 : (((bs l)[1]'j1).toNat : Int) = (b : Int) := by rw [hb]; rfl
  have ha8 : a < 256 := by rw [ha]; exact UInt8.toNat_lt _
  have hb8 : b < 256 := by rw [hb]; exact UInt8.toNat_lt _
  obtain ⟨V, hV⟩ : ∃ V, V = a * 256 + b := ⟨_, rfl⟩
  have HV : Hid (beV (l.take 2) = V) := Lib.hid (by rw [oct_beV2 h, ← ha, ← hb, hV])
  obtain ⟨y, hy⟩ : ∃ y, y = a * 256 := ⟨_, rfl⟩
  have wa : IntKind.i64.wrap (a : Int) = (a : Int) := IntWalk.i64_in _ (by omega)
  have wb : IntKind.i64.wrap (b : Int) = (b : Int) := IntWalk.i64_in _ (by omega)
  have wy : IntKind.i64.wrap ((a : Int) * 256) = (y : Int) := by rw [IntWalk.i64_in _ (by omega)]; omega
  have wv : IntKind.i64.wrap ((y : Int) + (b : Int)) = (V : Int) := by rw [IntWalk.i64_in _ (by omega)]; omega
  have hVb : V < 65536 := by omega
  obtain ⟨Z, hZ⟩ : ∃ Z, Z = 2 + V := ⟨_, rfl⟩
  have wz : IntKind.i64.wrap (2 + (V : Int)) = (Z : Int) := by rw [IntWalk.i64_in _ (by omega)]; omega
  have HZ := Lib.hid hZ
  clear ha hb hV hy
  go_enter Try.func14, Try.ntmps14
  go_wp2_with fail
  go_region
  by_cases hmv : m < V
  · have HR : Hid (tkA l m = [] ∧ tkB l m = [] ∧ tkE l m = 11) := Lib.hid (by
      unfold tkA tkB tkE
      rw [HV.out, if_neg HN.out, if_pos hmv, if_neg HN.out, if_pos hmv, if_neg HN.out, if_pos hmv]; exact ⟨rfl, rfl, rfl⟩)
    have h4 : decide (m < V) = true := decide_eq_true (by omega)
    clear hZ
    all_goals go_wp2
    all_goals refine bodyPost_ret (v := .tuple #[.string (bs []), .string (bs []), .int .i64 11]) (by simp [results, Try.results14, go_sem, bs_nil]) rfl ⟨by rw [HR.out.1, HR.out.2.1, HR.out.2.2], ?_⟩
    all_goals exact (Below.refl _ _).drew
  · have h4 : decide (m < V) = false := decide_eq_false (by omega)
    by_cases hsv : l.length < Z
    · have HR : Hid (tkA l m = [] ∧ tkB l m = [] ∧ tkE l m = 10) := Lib.hid (by
        have hq : l.length < 2 + V := by omega
        unfold tkA tkB tkE
        rw [HV.out, if_neg HN.out, if_neg hmv, if_pos hq, if_neg HN.out, if_neg hmv, if_pos hq, if_neg HN.out, if_neg hmv, if_pos hq]; exact ⟨rfl, rfl, rfl⟩)
      have h5 : decide (l.length < Z) = true := decide_eq_true (by omega)
      clear hZ
      go_wp2
      refine bodyPost_ret (v := .tuple #[.string (bs []), .string (bs []), .int .i64 10]) (by simp [results, Try.results14, go_sem, bs_nil]) rfl ⟨by rw [HR.out.1, HR.out.2.1, HR.out.2.2], ?_⟩
      exact (Below.refl _ _).drew
    · have HR : Hid (tkA l m = (l.drop 2).take V ∧ tkB l m = (l.drop 2).drop V ∧ tkE l m = 0) := Lib.hid (by
        have hq : ¬ l.length < 2 + V := by omega
        unfold tkA tkB tkE
        rw [HV.out, if_neg HN.out, if_neg hmv, if_neg hq, if_neg HN.out, if_neg hmv, if_neg hq, if_neg HN.out, if_neg hmv, if_neg hq]; exact ⟨rfl, rfl, rfl⟩)
      have h5 : decide (l.length < Z) = false := decide_eq_false (by omega)
      have h2z : 2 ≤ Z := by omega
      have hzl : Z ≤ l.length := by omega
      have he1 : (bs l).extract 2 Z = bs ((l.drop 2).take V) := by rw [bs_extract, show Z - 2 = V from by omega]
      have he2 : (bs l).extract Z l.length = bs ((l.drop 2).drop V) := by rw [bs_extract, List.take_of_length_le (by rw [List.length_drop]; exact Nat.le_refl _), List.drop_drop, hZ]
      have hs1 : ∀ W, (Instr.slice 9 (.string (bs l)) (some (.int .i64 2)) (some (.int .i64 (Z : Int))) none).run Try.prog W = .ok (.string (bs ((l.drop 2).take V))) W := fun W => oct_str_slice l _ 2 Z W h2z hzl he1
      clear hZ hsv hmv he1
      go_wp2_with fail
      go_region
      all_goals go_wp2
      all_goals refine bodyPost_ret (v := .tuple #[.string (bs ((l.drop 2).take V)), .string (bs ((l.drop 2).drop V)), .int .i64 0]) (by simp [results, Try.results14, go_sem]) rfl ⟨by rw [HR.out.1, HR.out.2.1, HR.out.2.2], ?_⟩
      all_goals exact (Below.refl _ _).drew.drew

theorem octr_TakeText (l : List UInt8) (m : Nat) (w : World) (hm : m ≤ 65535) (hl : l.length ≤ 281474976710656) :
    Calls Try.prog 14 #[.string (bs l), .int .i64 (m : Int)] w fun e w' => e = .returned (.tuple #[.string (bs (tkA l m)), .string (bs (tkB l m)), .int .i64 (tkE l m)]) ∧ Below w.heap.size w w' := by
  by_cases h : l.length < 2
  · have e : tkA l m = [] ∧ tkB l m = [] ∧ tkE l m = 10 := by
      unfold tkA tkB tkE
      rw [if_pos h, if_pos h, if_pos h]; exact ⟨rfl, rfl, rfl⟩
    rw [e.1, e.2.1, e.2.2]
    exact octr_TakeText_none l m w hm h
  · exact octr_TakeText_more l m w hm (by omega) hl

theorem oct_Awake (w : World) :
    Calls Try.prog 6 #[] w fun e w' => e = .returned (.bool true) ∧ Below w.heap.size w w' := by
  have e1 : beL 258 2 = [1, 2] := by decide
  have e2 : beL ([97] : List UInt8).length 2 ++ [97] = [0, 1, 97] := by decide
  have H1 : Hid (∀ W, Calls Try.prog 7 #[.int .u64 258, .int .i64 2] W fun e w' => e = .returned (.tuple #[.string ⟨#[1, 2]⟩, .int .i64 0]) ∧ Below W.heap.size W w') := Lib.hid (fun W => by
    have h := oct_Put_ok 258 2 W (by decide) (by decide) (by decide) (by decide)
    rw [e1] at h
    exact h)
  have H2 : Hid (∀ W, Calls Try.prog 11 #[.string ⟨#[97]⟩, .int .i64 9] W fun e w' => e = .returned (.tuple #[.string ⟨#[0, 1, 97]⟩, .int .i64 0]) ∧ Below W.heap.size W w') := Lib.hid (fun W => by
    have h := oct_PutText_ok [97] 9 W (by decide) (by decide)
    rw [e2] at h
    exact h)
  clear e1 e2
  go_enter Try.func6, Try.ntmps6
  go_wp2_with (first
    | (go_at_call 7; refine (H1.out _).mono ?_; rintro e w1 ⟨rfl, hb1⟩)
    | (go_at_call 11; refine (H2.out _).mono ?_; rintro e w2 ⟨rfl, hb2⟩))
  go_ret
  exact ⟨rfl, hb1.trans (hb2.mono hb1.size)⟩

end Go.Proofs.Ytnikmeiicjkacaa
