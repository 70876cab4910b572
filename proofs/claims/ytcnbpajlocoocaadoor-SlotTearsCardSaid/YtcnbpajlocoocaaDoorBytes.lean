/- Bytes as numbers; slices of bytes of the call's own, as texts. -/
import Derived.Test.YtcnbpajlocoocaaDoorMem
import Derived.Laws.BytesArg
import Derived.IntWalk
namespace Go.Proofs.YtcnbpajlocoocaaDoor
open Go.RowKit

theorem infoByte : (Tryd.prog.info? 5).map (fun i => (i.zero, i.size, i.bytes)) = some (some (.int .u8 0), 1, 1) := by kernel_rfl

theorem grow1 (w : World) (o : Obj) : w.heap.size ≤ (w.alloc o).heap.size := by simp

/-- Bytes as numbers. -/
def nb (l : List UInt8) : List Nat := l.map (·.toNat)
theorem nb_len (l : List UInt8) : (nb l).length = l.length := by simp [nb]
theorem nb_append (l m : List UInt8) : nb (l ++ m) = nb l ++ nb m := by simp [nb]
theorem nb_snoc (l : List UInt8) (v : Nat) (h : v < 256) : nb (l ++ [UInt8.ofNat v]) = nb l ++ [v] := by simp [nb, Nat.mod_eq_of_lt h]
theorem own_keep {w w' : World} {base e n : Nat} {v : Value} {xs : List Value} (h : w.ownsRow base e 1 v n xs) (hb : Below w.heap.size w w') : w'.ownsRow base e 1 v n xs := by
  refine ⟨h.1, ?_⟩
  rcases h.2 with h0 | ⟨g, cap, cur, hv, hg, hh, hr⟩
  · exact .inl h0
  · refine .inr ⟨g, cap, cur, hv, hg, (hb.block g ?_).trans hh, hr⟩
    rcases Nat.lt_or_ge g w.heap.size with hl | hl
    · exact hl
    · rw [Array.getElem?_eq_none hl] at hh; cases hh
theorem own_of {w w' : World} {base e n : Nat} {v : Value} {xs : List Value} (h : w.ownsRow base e 1 v n xs) (hk : ∀ k, base ≤ k → k < w.heap.size → w'.heap[k]? = w.heap[k]?) : w'.ownsRow base e 1 v n xs := by
  refine ⟨h.1, ?_⟩
  rcases h.2 with h0 | ⟨g, cap, cur, hv, hg, hh, hr⟩
  · exact .inl h0
  · refine .inr ⟨g, cap, cur, hv, hg, (hk g hg ?_).trans hh, hr⟩
    rcases Nat.lt_or_ge g w.heap.size with hl | hl
    · exact hl
    · rw [Array.getElem?_eq_none hl] at hh; cases hh
/-- A row of one's own is no block of another type. -/
theorem own_ne {w : World} {base e n B T : Nat} {v : Value} {xs cs : List Value} (h : w.ownsRow base e 1 v n xs) (hB : Blk w B T cs) (hne : T ≠ e) : v.ownBlock ≠ some B := by
  rcases h.2 with ⟨rfl, _⟩ | ⟨g, cap, cur, rfl, _, hh, _⟩
  · intro h; cases h
  · intro h
    have : g = B := by simpa [Value.ownBlock] using h
    subst this
    have h2 := hB.get
    rw [hh] at h2
    injection h2 with h2
    injection h2 with _ ht
    exact hne ht.symm

theorem str_nb (l : List UInt8) : strOfNums ((nb l).map fun x : Nat => (x : Int)) = ⟨l.toArray⟩ := by
  have h : (strOfNums ((nb l).map fun x : Nat => (x : Int))).data.toList = l := by
    rw [strOfNums_data]
    simp only [nb, List.map_map]
    conv => rhs; rw [← List.map_id l]
    refine List.map_congr_left fun x _ => ?_
    show UInt8.ofNat ((x.toNat : Int)).toNat = x
    rw [Int.toNat_natCast, UInt8.ofNat_toNat]
  cases hs : strOfNums ((nb l).map fun x : Nat => (x : Int)) with
  | mk a => rw [hs] at h; congr 1; rw [← h]

/-- A row of bytes of the call's own, as a text. -/
theorem conv_own {w : World} {base : Nat} {v : Value} {l : List UInt8} (h : w.ownsRow base 5 1 v (nb l).length (nums .u8 (nb l))) :
    (convert 100 9 v).run Tryd.prog w = .ok (.string ⟨l.toArray⟩) w := by
  have h0 := h
  rcases h.2 with ⟨rfl, hz⟩ | ⟨g, cap, cur, rfl, _, hh, _⟩
  · have hl : l = [] := List.eq_nil_of_length_eq_zero (by rw [← nb_len]; exact hz)
    subst hl
    exact run_convert_bytes_nil (P := Tryd.prog) w 100 5 Tryd.underlying100 Tryd.underlying5 0 0 9 Tryd.underlying9
  · have := run_convert_bytes_arg (P := Tryd.prog) w 100 5 Tryd.underlying100 Tryd.underlying5 g 0 (nb l).length cap ((nb l).map fun x : Nat => (x : Int)) (by rw [List.length_map]) (fun i hi => by
      rw [Nat.zero_add, h0.cellAt i (by omega), nums_get _ _ _ hi, List.getD_eq_getElem?_getD, List.getD_eq_getElem?_getD, List.getElem?_map, List.getElem?_eq_getElem hi]
      rfl) 9 Tryd.underlying9
    rw [str_nb] at this
    exact this

/-- The bytes of a number, the highest first, as many as told. -/
def beL (n m : Nat) : List UInt8 := (List.range m).map fun i => UInt8.ofNat (n / 256 ^ (m - 1 - i) % 256)
theorem beL_len (n m : Nat) : (beL n m).length = m := by simp [beL]
theorem beL_get (n m i : Nat) (h : i < m) : (beL n m)[i]? = some (UInt8.ofNat (n / 256 ^ (m - 1 - i) % 256)) := by simp [beL, h]
theorem beL_take (n m i : Nat) (h : i < m) : (beL n m).take (i + 1) = (beL n m).take i ++ [UInt8.ofNat (n / 256 ^ (m - 1 - i) % 256)] := by
  rw [List.take_succ_eq_append_getElem (by rw [beL_len]; exact h)]
  congr 2
  have h1 := beL_get n m i h
  rw [List.getElem?_eq_getElem (by rw [beL_len]; exact h)] at h1
  exact Option.some.inj h1
theorem beL_full (n m : Nat) : (beL n m).take m = beL n m := List.take_of_length_le (by rw [beL_len]; exact Nat.le_refl m)
theorem beL_zero (m : Nat) : beL 0 m = List.replicate m 0 := by
  apply List.ext_getElem?
  intro i
  by_cases h : i < m
  · rw [beL_get _ _ _ h, Nat.zero_div, List.getElem?_replicate_of_lt h]; rfl
  · rw [List.getElem?_eq_none (by rw [beL_len]; omega), List.getElem?_eq_none (by rw [List.length_replicate]; omega)]

end Go.Proofs.YtcnbpajlocoocaaDoor
