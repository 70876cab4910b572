/- The walk of SealTells: a sector of which one byte was turned; only what is closed is opened. -/
import Derived.Test.YtcnbpajlocoocaaDoorOpenD
import Derived.Test.YtcnbpajlocoocaaDoorSealSums
import Derived.Lib.ConvBytes
namespace Go.Proofs.YtcnbpajlocoocaaDoor
open Go.RowKit

theorem wrap_u8i (n : Int) : IntKind.u8.wrap n = n % 256 := by simp [IntKind.wrap, IntKind.bits, IntKind.signed]
theorem bits_xor_u8n (a b : Nat) (ha : a < 256) (hb : b < 256) : bits .xor .u8 (a : Int) (b : Int) = ((a ^^^ b : Nat) : Int) := by
  have hx : a ^^^ b < 2 ^ 8 := Nat.xor_lt_two_pow (by omega) (by omega)
  have h1 : (BitVec.ofInt 8 (a : Int)).toNat = a := by
    rw [BitVec.ofInt_natCast, BitVec.toNat_ofNat]; exact Nat.mod_eq_of_lt (by omega)
  have h2 : (BitVec.ofInt 8 (b : Int)).toNat = b := by
    rw [BitVec.ofInt_natCast, BitVec.toNat_ofNat]; exact Nat.mod_eq_of_lt (by omega)
  show IntKind.u8.wrap ((BitVec.ofInt 8 (a : Int) ^^^ BitVec.ofInt 8 (b : Int)).toNat : Int) = _
  rw [BitVec.toNat_xor, h1, h2, wrap_u8i]
  omega

/-- A row whose first cells are these bytes, and may be written. -/
def Bts (w : World) (g : Nat) (l : List UInt8) : Prop := ∀ j (h : j < l.length), w.cell? ⟨g, j, none⟩ = some (.int .u8 ((l[j]).toNat : Int)) ∧ w.frozen? ⟨g, j, none⟩ = false

theorem conv_bytes (l : List UInt8) (W : World) (hl : l.length ≤ 1000) : ∃ cap wb, (convert 9 100 (.string (bs l))).run Tryd.prog W = .ok (.slice (some ⟨W.heap.size, 0, none⟩) l.length cap) wb ∧ Bts wb W.heap.size l ∧ Below W.heap.size W wb ∧ W.heap.size < wb.heap.size ∧ l.length ≤ cap := by
  refine ⟨grownCap W (bs l).size 0 5, Lib.bytesWorld W 5 (bs l), ?_, ?_, ?_, ?_, ?_⟩
  · have h := Lib.run_convert_string_bytes (P := Tryd.prog) W 9 100 5 (bs l) Tryd.underlying9 Tryd.underlying100 Tryd.underlying5
    rw [bs_size] at h ⊢
    exact h
  · intro j hj
    have hs : j < (bs l).size := by rw [bs_size]; exact hj
    refine ⟨?_, ?_⟩
    · rw [Lib.bytesWorld_cell W 5 (bs l) j hs, bs_list, List.getD_eq_getElem?_getD, List.getElem?_eq_getElem hj]
      rfl
    · unfold World.frozen?
      rw [Lib.bytesWorld_at_new]
      have hc : (bs l).size ≤ (Lib.bytesCells W 5 (bs l)).size := by
        unfold Lib.bytesCells
        rw [Array.size_append, Array.size_map]
        exact Nat.le_add_right _ _
      simp
      intro h
      omega
  · exact ⟨by simp [Lib.bytesWorld, World.freeze]; rfl, by simp [Lib.bytesWorld, World.freeze], by simp [Lib.bytesWorld, World.freeze]; rfl, by rw [Lib.bytesWorld_size]; omega, fun k hk => Lib.bytesWorld_at_old _ _ _ _ hk⟩
  · rw [Lib.bytesWorld_size]; omega
  · rw [← bs_size]; exact grownCap_ge _ _ _ _

theorem Bts.set_ {w : World} {g : Nat} {l : List UInt8} (h : Bts w g l) (j : Nat) (c : UInt8) (hj : j < l.length) : Bts (w.setCell ⟨g, j, none⟩ (.int .u8 ((c.toNat : Nat) : Int))) g (l.set j c) := by
  intro i hi
  rw [List.length_set] at hi
  obtain ⟨h1, h2⟩ := h i hi
  refine ⟨?_, by rw [World.frozen?_setCell]; exact h2⟩
  by_cases e : i = j
  · subst e
    rw [List.getElem_set_self]
    exact World.cell?_setCell_same w ⟨g, i, none⟩ _ h1
  · rw [List.getElem_set_ne (fun x => e x.symm)]
    exact (World.cell?_setCell_other w ⟨g, j, none⟩ ⟨g, i, none⟩ _ (fun x => e (by injection x with _ x _; exact x.symm))).trans h1
theorem Bts.conv {w : World} {g : Nat} {l : List UInt8} (h : Bts w g l) (cap : Nat) : (convert 100 9 (.slice (some ⟨g, 0, none⟩) l.length cap)).run Tryd.prog w = .ok (.string (bs l)) w := by
  have := run_convert_bytes_arg (P := Tryd.prog) w 100 5 Tryd.underlying100 Tryd.underlying5 g 0 l.length cap ((nb l).map fun x : Nat => (x : Int)) (by rw [List.length_map, nb_len]) (fun i hi => by
    rw [Nat.zero_add, (h i hi).1, List.getD_eq_getElem?_getD, List.getElem?_map, nb, List.getElem?_map, List.getElem?_eq_getElem hi]
    rfl) 9 Tryd.underlying9
  rw [str_nb] at this
  exact this

theorem openT_ok (l : List UInt8) : RecOk (openT l).1 := by
  by_cases hl : l.length = 128
  · by_cases h : (openT l).2 = 0
    · exact (open_only hl h).1
    · unfold openT at h ⊢
      rw [if_neg (fun hx => hx hl)] at h ⊢
      by_cases hz : zeroL l = true
      · rw [if_pos hz]; exact ⟨by decide, by decide, by decide, by decide⟩
      · rw [if_neg hz] at h ⊢
        by_cases hs : l.drop 124 = leL (crcSum (l.take 124))
        · rw [if_neg (fun hx => hx hs)] at h ⊢
          unfold openL at h ⊢
          split at h
          · rename_i hc; rw [if_pos hc]; exact ⟨by decide, by decide, by decide, by decide⟩
          · exact absurd rfl h
        · rw [if_pos hs]; exact ⟨by decide, by decide, by decide, by decide⟩
  · unfold openT
    rw [if_pos hl]
    exact ⟨by decide, by decide, by decide, by decide⟩

theorem close_bs (r : Nat × Nat × Nat × List UInt8) (h : RecOk r) (w : World) : Calls Tryd.prog 23 #[recV r] w fun e w' => e = .returned (.tuple #[.string (bs (secL r.1 r.2.1 r.2.2.1 r.2.2.2)), .int .i64 0]) ∧ Below w.heap.size w w' := by
  have h2 := seal_Close_ok r.1 r.2.1 r.2.2.1 (bs r.2.2.2) w h.1 h.2.1 h.2.2.1 (by rw [bs_size]; exact h.2.2.2)
  rw [bs_list] at h2
  exact h2

end Go.Proofs.YtcnbpajlocoocaaDoor
