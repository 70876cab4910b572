/- Contracts of nat's helpers that make numbers: trim, widened, clone, made, and of what asks a number: Zero, Words. -/
import Derived.Test.YtmjinhieeflkgaaMem
namespace Go.Proofs.Ytmjinhieeflkgaa
open Go.RowKit

theorem Try.info40 : (Try.prog.info? 40).map (fun i => (i.zero, i.size, i.bytes)) = some (some (.int .u64 0), 1, 8) := by kernel_rfl
theorem Try.size40 : (Try.prog.info? 40).map (·.size) = some 1 := by kernel_rfl

theorem nat_trim (A : Option Addr) (n c : Nat) (xs : List Nat) (w : World) (h : Sl .u64 w A n c xs) :
    Calls Try.prog 21 #[.slice A n c] w fun e w' => e = .returned (.slice A (trimL xs).length c) ∧ w = w' := by
  obtain ⟨h1, h2, h3, h4⟩ := h
  go_enter Try.func21, Try.ntmps21
  go_wp2
  go_loop [0] (fun s => ∃ k : Nat, k ≤ n ∧ s = .slice A k c ∧ trimL xs = trimL (xs.take k)) (fun s => slLen s)
  case atStart => exact ⟨n, Nat.le_refl _, rfl, by rw [List.take_of_length_le (by omega)]⟩
  case round =>
    obtain ⟨k, hk, rfl, ht⟩ := hrel
    have HT := Lib.hid ht
    clear ht
    by_cases hlt : 0 < k
    · obtain ⟨b, off, rfl, hc⟩ := h4 (by omega)
      have hcell := hc (k - 1) (by omega)
      have hsp : xs.take k = xs.take (k - 1) ++ [xs.getD (k - 1) 0] := by
        have := List.take_append_getElem (l := xs) (i := k - 1) (by omega)
        rw [show k - 1 + 1 = k from by omega] at this
        rw [← this, List.getD_eq_getElem?_getD, List.getElem?_eq_getElem (by omega)]; rfl
      have HS := Lib.hid hsp
      clear hsp
      go_wp2
      · have h0 : (((xs[k - 1]?.getD 0 : Nat) : Int) == 0) = true := by assumption
        go_round
        case rel =>
          refine ⟨k - 1, by omega, rfl, ?_⟩
          rw [HT.out, HS.out, List.getD_eq_getElem?_getD, show xs[k - 1]?.getD 0 = 0 from by simpa using h0, trimL_snoc_zero]
        case measure => simp [slLen]; omega
      · have h0 : (((xs[k - 1]?.getD 0 : Nat) : Int) == 0) = false := by assumption
        go_ret
        refine ⟨?_, rfl⟩
        rw [HT.out, HS.out, List.getD_eq_getElem?_getD, trimL_snoc_pos _ _ (by simpa using h0)]
        simp only [List.length_append, List.length_take, List.length_cons, List.length_nil]
        rw [show min (k - 1) xs.length + (0 + 1) = k from by omega]
        rfl
    · have hk0 : k = 0 := by omega
      subst hk0
      go_wp2
      go_ret
      refine ⟨?_, rfl⟩
      rw [HT.out]; rfl

theorem nat_widened (A : Option Addr) (n c m : Nat) (xs : List Nat) (w : World) (h : Sl .u64 w A n c xs) (hm : n ≤ m) (hm2 : m ≤ 1099511627776) :
    Calls Try.prog 34 #[.slice A n c, .int .i64 m] w fun e w' => ∃ g, e = .returned (.slice (some ⟨g, 0, none⟩) m m) ∧ w.heap.size ≤ g ∧
      Blk w' g 40 (nums .u64 (xs ++ List.replicate (m - n) 0)) ∧ Below w.heap.size w w' := by
  obtain ⟨i0, hi, hz0, hz1, hz2⟩ := info_parts Try.info40
  go_enter Try.func34, Try.ntmps34
  go_wp2_with (first
    | (at_make
       refine wpList_make_full _ rfl _ _ 22 rfl w.heap.size 40 i0 (.int .u64 0) 1 Try.underlying22 hi hz0 hz1 .i64 .i64 _ _ m rfl rfl rfl rfl (by rw [hz2]; omega) (by simp only [maxLen]; omega) (Nat.le_refl _) ?_
       intro w1 hown hgr
       have hblk := Lib.hid (Blk.of_make hown (by omega))
       have hb1 : Below w.heap.size w w1 := (Below.refl _ _).grown hgr (Nat.le_refl _) (fun k hk => by cases hk)
       clear hown hgr)
    | ((with_reducible show wpList _ _ _ _ _ _)
       refine wpList_copy_splice rfl (.tmp 8) (.tmp 9) 22 22 rfl 40 Try.underlying22 Try.size40 _ _ _ _ _ _ rfl rfl w.heap.size 0 (List.replicate m (.int .u64 0)) 40 hblk.out.get (nums .u64 xs) (h.min_len hm) (fun hp => ⟨rfl, h.src hb1 hp⟩) (h.fits hm _) (nums_one _ _) w.heap.size w hb1 (Nat.le_refl _) ?_
       intro w2 hblk2 hb2))
  go_ret
  refine ⟨_, rfl, Nat.le_refl _, ?_, hb2⟩
  have hx := hblk2.out
  have e : splice (List.replicate m (.int .u64 0)) 0 (nums .u64 xs) = nums .u64 (xs ++ List.replicate (m - n) 0) := by
    simp [splice, nums_append, nums_length, h.1, nums_replicate]
  rw [e] at hx
  exact hx

theorem nat_clone (A : Option Addr) (n c : Nat) (xs : List Nat) (w : World) (h : Sl .u64 w A n c xs) (hm2 : n ≤ 1099511627776) :
    Calls Try.prog 23 #[.slice A n c] w fun e w' => ∃ g, e = .returned (.slice (some ⟨g, 0, none⟩) n n) ∧ w.heap.size ≤ g ∧
      Blk w' g 40 (nums .u64 xs) ∧ Below w.heap.size w w' := by
  go_enter Try.func23, Try.ntmps23
  go_wp2_with (go_at_call 34; refine (nat_widened A n c n xs _ h (Nat.le_refl _) hm2).mono ?_; rintro e w' ⟨g, rfl, hg, hblk, hb⟩)
  go_ret
  exact ⟨g, rfl, hg, by simpa using hblk, hb⟩

theorem nat_made (A : Option Addr) (n c : Nat) (xs : List Nat) (w : World) (h : Sl .u64 w A n c xs) (hd : Dig B64 xs) :
    Calls Try.prog 22 #[.slice A n c] w (RetGot w (val B64 xs)) := by
  have hl := trim_len_le (k := 64) (by decide) (trimL_dig hd) (trimL_idem xs)
  rw [val_trim] at hl
  have hle := trimL_len xs
  have ht := h.take (trimL xs).length (by rw [← h.1]; exact hle)
  rw [← trimL_take] at ht
  have hr : Rep .u64 B64 w A (trimL xs).length c (val B64 xs) := ⟨trimL xs, ht, trimL_dig hd, trimL_idem xs, val_trim _ _⟩
  have H := Lib.hid h
  have h2 := h.2.1
  have h3 := h.2.2.1
  have hm : (trimL xs).length ≤ n := by rw [← h.1]; exact hle
  clear h
  go_enter Try.func22, Try.ntmps22
  go_wp2_with (go_at_call 21; refine (nat_trim A n c xs _ (H.out.alloc _)).mono ?_; rintro e w' ⟨rfl, rfl⟩)
  · have hbig : 64 < ((trimL xs).length : Int) := by assumption
    exact bodyPost_ret (v := .tuple #[.agg #[.slice none 0 0], .int .i64 1]) (by simp [results, Try.results22, go_sem]) rfl
      ⟨_, _, _, _, rfl, .inr ⟨by unfold Lim; omega, rfl, rfl, rfl, rfl⟩, (Below.refl _ _).alloc (Nat.le_refl _) _⟩
  · have h0 : (((trimL xs).length : Int) == 0) = true := by assumption
    have hm0 : (trimL xs).length = 0 := by simpa using h0
    exact bodyPost_ret (v := .tuple #[.agg #[.slice none 0 0], .int .i64 0]) (by simp [results, Try.results22, go_sem]) rfl
      ⟨_, _, _, _, rfl, .inl ⟨by unfold Lim; omega, rfl, by rw [(hr.zero_iff B64_pos).1 hm0]; exact Rep.zero _ _ _⟩, (Below.refl _ _).alloc (Nat.le_refl _) _⟩
  · have hbig : ((trimL xs).length : Int) ≤ 64 := by assumption
    exact bodyPost_ret (v := .tuple #[.agg #[.slice A (trimL xs).length c], .int .i64 0]) (by simp [results, Try.results22, go_sem]) rfl
      ⟨_, _, _, _, rfl, .inl ⟨by unfold Lim; omega, rfl, hr.alloc _⟩, (Below.refl _ _).alloc (Nat.le_refl _) _⟩

end Go.Proofs.Ytmjinhieeflkgaa
