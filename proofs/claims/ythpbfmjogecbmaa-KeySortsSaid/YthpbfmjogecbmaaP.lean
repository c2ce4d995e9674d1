/- The contract of Parse. -/
import Derived.Test.YthpbfmjogecbmaaN
import Derived.Lib.OthersKept
import Derived.Laws.RangeAny
namespace Go.Proofs.Ythpbfmjogecbmaa
open Go.RowKit

/-! ### What a text is worth -/
def dgL (l : List UInt8) (j : Nat) : Nat := dg (l.getD j 0).toNat
def allDg (l : List UInt8) : Bool := l.all fun c => isDg c.toNat
def parsed (l : List UInt8) : List UInt8 := (List.range (l.length / 2)).map fun j => UInt8.ofNat (16 * dgL l (2 * j) + dgL l (2 * j + 1))
def fine (l : List UInt8) : Bool := l.length % 2 == 0 && allDg l
theorem dgL_lt (l : List UInt8) (j : Nat) : dgL l j < 16 := dg_lt _
theorem parsed_len (l : List UInt8) : (parsed l).length = l.length / 2 := by simp [parsed]
/-- The bytes as far as the first i digits fill them. -/
def pbv (l : List UInt8) (i j : Nat) : Nat := if 2 * j + 1 < i then 16 * dgL l (2 * j) + dgL l (2 * j + 1) else if 2 * j < i then dgL l (2 * j) else 0
theorem pbv_lt (l : List UInt8) (i j : Nat) : pbv l i j < 256 := by
  have := dgL_lt l (2 * j); have := dgL_lt l (2 * j + 1)
  unfold pbv; split
  · omega
  · split <;> omega
theorem pbv_zero (l : List UInt8) (j : Nat) : pbv l 0 j = 0 := by unfold pbv; simp
def pcs (l : List UInt8) (i : Nat) : Array Value := ((List.range (l.length / 2)).map fun j => Value.int .u8 (pbv l i j)).toArray
theorem pcs_size (l : List UInt8) (i : Nat) : (pcs l i).size = l.length / 2 := by simp [pcs]
theorem pcs_at (l : List UInt8) (i j : Nat) (h : j < l.length / 2) : (pcs l i)[j]? = some (.int .u8 (pbv l i j)) := by simp [pcs, h]
theorem pcs_set (l : List UInt8) (i : Nat) (v : Nat) (h : i / 2 < l.length / 2) (hv : v = pbv l (i + 1) (i / 2)) : (pcs l i).setIfInBounds (i / 2) (.int .u8 v) = pcs l (i + 1) := by
  apply Array.ext_getElem?
  intro j
  rw [Array.getElem?_setIfInBounds, pcs_size]
  rcases Nat.lt_or_ge j (l.length / 2) with hj | hj
  · rw [pcs_at _ _ _ hj, pcs_at _ _ _ hj]
    by_cases e : i / 2 = j
    · subst e; rw [if_pos rfl, if_pos hj, hv]
    · rw [if_neg e]
      have : pbv l i j = pbv l (i + 1) j := by
        unfold pbv
        by_cases h1 : 2 * j + 1 < i
        · rw [if_pos h1, if_pos (by omega)]
        · rw [if_neg h1]
          by_cases h2 : 2 * j + 1 < i + 1
          · omega
          · rw [if_neg h2]
            by_cases h3 : 2 * j < i
            · rw [if_pos h3, if_pos (by omega)]
            · rw [if_neg h3, if_neg (by omega)]
      rw [this]
  · have hn : ∀ q, (pcs l q)[j]? = none := fun q => Array.getElem?_eq_none (by rw [pcs_size]; exact hj)
    rw [hn, hn]
    by_cases e : i / 2 = j
    · rw [if_pos e, if_neg (by omega)]
    · rw [if_neg e]
theorem pcs_made (l : List UInt8) : madeCells (Value.int .u8 0).cells (l.length / 2 * 1) = pcs l 0 := by
  apply Array.ext_getElem?
  intro j
  rcases Nat.lt_or_ge j (l.length / 2) with h | h
  · rw [pcs_at _ _ _ h, pbv_zero]
    simp [madeCells, Value.cells, h, Nat.mod_one]
  · rw [Array.getElem?_eq_none (xs := pcs l 0) (by rw [pcs_size]; exact h), Array.getElem?_eq_none (by rw [size_madeCells]; omega)]
theorem BA_pcs {w : World} {b : Nat} {l : List UInt8} {i : Nat} (h : w.heap[b]? = some (.cells (pcs l i) 5 (0, 0))) (hi : l.length ≤ i) (he : l.length % 2 = 0) : BA w (some ⟨b, 0, none⟩) (parsed l) := fun j x hx => by
  refine ⟨b, 0, rfl, ?_⟩
  have hj : j < l.length / 2 := by have := (List.getElem?_eq_some_iff.1 hx).1; rwa [parsed_len] at this
  rw [Nat.zero_add, cell_of_row w b j _ 5 (0, 0) h, pcs_at _ _ _ hj]
  have : x = UInt8.ofNat (16 * dgL l (2 * j) + dgL l (2 * j + 1)) := by
    unfold parsed at hx
    rw [List.getElem?_map, List.getElem?_range hj] at hx
    simpa using hx.symm
  subst this
  have h1 := dgL_lt l (2 * j); have h2 := dgL_lt l (2 * j + 1)
  unfold pbv
  rw [if_pos (by omega)]
  simp only [UInt8.toNat_ofNat']
  rw [Nat.mod_eq_of_lt (by omega)]

theorem or_nibble : ∀ a : Nat, a < 16 → ∀ d : Nat, d < 16 → bits .or .u8 ((a : Int) * 16 % 256) (d : Int) = ((16 * a + d : Nat) : Int) := by decide +kernel
theorem pbv_step (l : List UInt8) (pos : Nat) : bits .or .u8 ((pbv l pos (pos / 2) : Int) * 16 % 256) (dgL l pos : Int) = ((pbv l (pos + 1) (pos / 2) : Nat) : Int) := by
  have h1 := dgL_lt l pos
  unfold pbv
  by_cases he : pos % 2 = 0
  · have e : 2 * (pos / 2) = pos := by omega
    rw [e, if_neg (by omega), if_neg (by omega), if_neg (by omega), if_pos (by omega)]
    have := or_nibble 0 (by decide) (dgL l pos) h1
    simpa using this
  · have e : 2 * (pos / 2) + 1 = pos := by omega
    have h2 := dgL_lt l (2 * (pos / 2))
    rw [e, if_neg (by omega), if_pos (by omega), if_pos (by omega)]
    exact or_nibble _ h2 _ h1
theorem fine_no {l : List UInt8} {j : Nat} (hj : j < l.length) (h : isDg (l.getD j 0).toNat = false) : fine l = false := by
  unfold fine
  have : allDg l = false := by
    cases ha : allDg l with
    | false => rfl
    | true =>
      unfold allDg at ha
      rw [List.all_eq_true] at ha
      have := ha l[j] (List.getElem_mem hj)
      rw [show l.getD j 0 = l[j] by simp [List.getD, hj]] at h
      rw [h] at this
      cases this
  rw [this, Bool.and_false]
theorem fine_yes {l : List UInt8} (he : l.length % 2 = 0) (h : ∀ j, j < l.length → isDg (l.getD j 0).toNat = true) : fine l = true := by
  unfold fine allDg
  rw [he, Bool.and_eq_true]
  refine ⟨rfl, ?_⟩
  rw [List.all_eq_true]
  intro x hx
  obtain ⟨j, hj, rfl⟩ := List.getElem_of_mem hx
  have := h j hj
  rwa [show l.getD j 0 = l[j] by simp [List.getD, hj]] at this

def ParsePost (l : List UInt8) (w : World) (e : Ending) (w' : World) : Prop :=
  if fine l = true then ∃ A c, e = .returned (.tuple #[.slice A (parsed l).length c, .int .i64 0]) ∧ BA w' A (parsed l) ∧ Below w.heap.size w w'
  else e = .returned (.tuple #[.slice none 0 0, .int .i64 14]) ∧ Below w.heap.size w w'

set_option maxHeartbeats 2000000 in
theorem parse_c (s : ByteArray) (w : World) (hl : s.size ≤ 2000000000000) : Calls Try.prog 13 #[.string s] w (ParsePost s.data.toList w) := by
  obtain ⟨l, hl0⟩ : ∃ l, l = s.data.toList := ⟨_, rfl⟩
  rw [← hl0]
  have hsz : s.size = l.length := by rw [hl0]; rfl
  have HL := Lib.hid hl0
  clear hl0
  by_cases hev : l.length % 2 = 0
  · have hmk : ∀ w : World, (Instr.makeSlice 22 (.int .i64 ((l.length : Int) / 2)) (.int .i64 ((l.length : Int) / 2))).run Try.prog w = .ok (.slice (some ⟨w.heap.size, 0, none⟩) (l.length / 2) (l.length / 2)) (w.alloc (.cells (pcs l 0) 5)) := fun w => by
      obtain ⟨i0, hi, hz0, hz1, hz2⟩ := info_parts info5
      have := run_make w 22 5 i0 (.int .u8 0) Try.underlying22 hi hz0 .i64 .i64 ((l.length / 2 : Nat) : Int) ((l.length / 2 : Nat) : Int) (by omega) (by omega) (by rw [hz2]; omega) (by omega)
      rw [Int.toNat_natCast, hz1, pcs_made l] at this
      rw [show ((l.length : Nat) : Int) / 2 = ((l.length / 2 : Nat) : Int) by omega]
      exact this
    have hd : ((l.length : Int) % 2 != 0) = false := by simp; omega
    have HEV := Lib.hid hev
    clear hev
    go_enter Try.func13, Try.ntmps13
    go_wp2
    clear hmk hd
    go_loopg [5, 6, 7, 8] l.length (fun gg _ _ _ _ wr => ∃ pos : Nat, pos ≤ l.length ∧ l.length - pos ≤ gg ∧ Hid (∀ j, j < pos → isDg (l.getD j 0).toNat = true) ∧
      wr.heap[w.heap.size + 1]? = some (.stringIter s pos) ∧ wr.heap[w.heap.size]? = some (.cells (pcs l pos) 5 (0, 0)) ∧ Below w.heap.size w wr)
    case atStart =>
      refine ⟨0, by omega, by omega, fun j hj => absurd hj (Nat.not_lt_zero j), ?_, ?_, ?_⟩
      · have := World.iter_heap (w.alloc (.cells (pcs l 0) 5)) s 0
        simpa using this
      · exact heap_alloc2_old w _ _
      · exact two_below w _ _
    case round =>
      obtain ⟨pos, hp, hgg, HD, hit, hcs, hB⟩ := hrel
      have HB := Lib.hid hB
      have HI := Lib.hid hit
      have HC := Lib.hid hcs
      clear hB
      by_cases hlt : pos < l.length
      · have hps : pos < s.size := by omega
        have hcell : (s[pos]'hps).toNat = (l.getD pos 0).toNat := by
          have e : l[pos]? = some (s[pos]'hps) := by
            rw [HL.out, Array.getElem?_toList, Array.getElem?_eq_getElem (by exact hps)]
            rfl
          simp [List.getD, e]
        obtain ⟨c, hc⟩ : ∃ c, c = (l.getD pos 0).toNat := ⟨_, rfl⟩
        have hc256 : c < 256 := hc ▸ UInt8.toNat_lt _
        rw [← hc] at hcell
        by_cases hdg : isDg c = true
        · have ha : (s[pos]'hps).toNat < 128 := by rw [hcell]; unfold isDg at hdg; simp at hdg; omega
          obtain ⟨W1, hW1⟩ : ∃ W1, W1 = wr.iterAt (w.heap.size + 1) s (pos + 1) := ⟨_, rfl⟩
          have hnx : ∀ ty, (Instr.next (.pointer (some ⟨w.heap.size + 1, 0, none⟩)) true ty).run Try.prog wr = .ok (.tuple #[.bool true, .int .i64 pos, .int .i32 c]) W1 := fun ty => by
            rw [Lib.run_next_ascii_at wr (w.heap.size + 1) s pos ty hit hps ha, hcell, hW1]
          have h1 : W1.heap[w.heap.size]? = some (.cells (pcs l pos) 5 (0, 0)) := by rw [hW1, Lib.iterAt_other _ _ _ _ _ (by omega)]; exact hcs
          have h2 : Hid (W1.heap[w.heap.size + 1]? = some (.stringIter s (pos + 1))) := by show _ = _; rw [hW1, Lib.iterAt_heap _ _ _ _ _ hit]
          have h3 : Hid (Below w.heap.size w W1) := by rw [hW1]; exact Lib.below_iterAt HB.out (by omega) _ _
          have ce : W1.cell? ⟨w.heap.size, pos / 2, none⟩ = some (.int .u8 (pbv l pos (pos / 2))) := by rw [cell_of_row _ _ _ _ _ _ h1]; exact pcs_at _ _ _ (by have := HEV.out; omega)
          have fe : W1.frozen? ⟨w.heap.size, pos / 2, none⟩ = false := frozen_of_row _ _ _ _ _ h1
          have hlt2 : pos / 2 < l.length / 2 := by have := HEV.out; omega
          have H1 := Lib.hid h1
          have HCD := Lib.hid hc
          have HDG := Lib.hid hdg
          clear hit hcs hcell hc ha hW1 h1 hdg
          go_wp2_with (go_at_call 26; refine (digit_yes c _ HDG.out).mono ?_; rintro e w' ⟨rfl, rfl⟩)
          have HV : Hid (bits .or .u8 ((pbv l pos (pos / 2) : Int) * 16 % 256) (dg c : Int) = ((pbv l (pos + 1) (pos / 2) : Nat) : Int)) := by
            have := pbv_step l pos
            unfold dgL at this
            rwa [← HCD.out] at this
          clear hnx ce fe
          go_roundg (l.length - (pos + 1))
          case measure => omega
          case rel =>
            rw [HV.out]
            refine ⟨pos + 1, by omega, by omega, fun j hj => ?_, ?_, ?_, h3.out.setCell (Nat.le_refl _) _⟩
            · rcases Nat.lt_or_ge j pos with h | h
              · exact HD.out j h
              · rw [show j = pos by omega, ← HCD.out]; exact HDG.out
            · rw [heap_setCell_other _ _ _ _ (Nat.succ_ne_self _)]; exact h2.out
            · have := heap_setCell_same W1 w.heap.size (pos / 2) (pcs l pos) 5 (.int .u8 (pbv l (pos + 1) (pos / 2) : Nat)) H1.out
              rwa [pcs_set l pos _ hlt2 rfl] at this
        · have hdf : isDg c = false := by simpa using hdg
          obtain ⟨r, hr⟩ : ∃ r, r = (Utf8.decode s pos).1 := ⟨_, rfl⟩
          have hrle : r ≤ 2147483647 := hr ▸ decode_le s pos
          have hrd : isDg r = false := by
            rcases Nat.lt_or_ge (s[pos]'hps).toNat 128 with h | h
            · rw [hr, decode_ascii s pos hps h]
              show isDg (s[pos]'hps).toNat = false
              rw [hcell]; exact hdf
            · have := (decode_high s pos hps h).1
              rw [← hr] at this
              unfold isDg
              simp
              omega
          obtain ⟨W1, hW1⟩ : ∃ W1, W1 = wr.iterAt (w.heap.size + 1) s (pos + (Utf8.decode s pos).2) := ⟨_, rfl⟩
          have hnx : ∀ ty, (Instr.next (.pointer (some ⟨w.heap.size + 1, 0, none⟩)) true ty).run Try.prog wr = .ok (.tuple #[.bool true, .int .i64 pos, .int .i32 r]) W1 := fun ty => by
            rw [Lib.run_next_any_at wr (w.heap.size + 1) s pos ty hit hps, hr, hW1]
          have h3 : Hid (Below w.heap.size w W1) := by rw [hW1]; exact Lib.below_iterAt HB.out (by omega) _ _
          have HF : Hid (fine l = false) := fine_no hlt (by rw [← hc]; exact hdf)
          have HRD := Lib.hid hrd
          clear hit hcs hcell hc hW1 hdg hdf hr hrd
          go_wp2_with (go_at_call 26; refine (digit_no r _ HRD.out hrle).mono ?_; rintro e w' ⟨rfl, rfl⟩)
          go_ret2
          unfold ParsePost
          rw [HF.out]
          exact ⟨rfl, h3.out⟩
      · have hnx : ∀ ty, (Instr.next (.pointer (some ⟨w.heap.size + 1, 0, none⟩)) true ty).run Try.prog wr = _ := fun ty => Lib.run_next_end_at wr (w.heap.size + 1) s pos ty hit (by omega)
        have HF : Hid (fine l = true) := fine_yes HEV.out fun j hj => HD.out j (by omega)
        clear hit hcs
        go_wp2
        go_ret2
        unfold ParsePost
        rw [HF.out, if_pos rfl]
        exact ⟨_, l.length / 2, by rw [parsed_len]; rfl, BA_pcs HC.out (by omega) HEV.out, HB.out⟩
  · have HF : Hid (fine l = false) := by show fine l = false; unfold fine; rw [show (l.length % 2 == 0) = false by simp; omega, Bool.false_and]
    have hd : ((l.length : Int) % 2 != 0) = true := by simp; omega
    go_enter Try.func13, Try.ntmps13
    go_wp2
    go_ret2
    unfold ParsePost
    rw [HF.out]
    exact ⟨rfl, Below.refl _ _⟩
end Go.Proofs.Ythpbfmjogecbmaa
