/- The contract of Ops. -/
import Derived.Test.YtnmjcfpmljahcaaDoorB
import Derived.Deep.OwnRows
namespace Go.Proofs.YtnmjcfpmljahcaaDoor
open Go.RowKit

theorem Chain.fault {w : World} {leaf : Value} : ∀ {fs : List Fr} {v : Value}, Chain w leaf fs v → ∀ (j : Nat) (f : Fr), fs[j]? = some f → ∃ v', w.heap[f.b]? = some (.cells #[.string f.op, .int .i64 f.n, v'] 42 (0, 0))
  | [], _, _, j, f, h => by simp at h
  | a :: r, v, hc, j, f, h => by
    obtain ⟨h1, v', h2, h3⟩ := hc
    cases j with
    | zero => simp at h; subst h; exact ⟨v', h2⟩
    | succ j => exact Chain.fault h3 j f (by simpa using h)

theorem info9 : (Tryd.prog.info? 9).map (fun i => (i.zero, i.size, i.bytes)) = some (some (.string ⟨#[]⟩), 1, 16) := by kernel_rfl

/-- The operations as far as k of them are stored. -/
def opCells (fs : List Fr) (k : Nat) : Array Value := ((fs.take k).map (fun f : Fr => Value.string f.op) ++ List.replicate (fs.length - k) (Value.string ⟨#[]⟩)).toArray
theorem opCells_zero (fs : List Fr) : madeCells #[Value.string ⟨#[]⟩] fs.length = opCells fs 0 := by
  apply Array.ext_getElem?
  intro j
  rcases Nat.lt_or_ge j fs.length with h | h
  · simp [opCells, madeCells, h, Nat.mod_one]
  · rw [Array.getElem?_eq_none (by rw [size_madeCells]; omega), Array.getElem?_eq_none (by simp [opCells]; omega)]
theorem opCells_at (fs : List Fr) (k j : Nat) (f : Fr) (h : fs[j]? = some f) (hj : j < k) : (opCells fs k)[j]? = some (.string f.op) := by
  have hlt := (List.getElem?_eq_some_iff.1 h).1
  unfold opCells
  rw [List.getElem?_toArray, List.getElem?_append_left (by simp; omega), List.getElem?_map, List.getElem?_take_of_lt hj, h]
  rfl
theorem opCells_set (fs : List Fr) (k : Nat) (f : Fr) (h : fs[k]? = some f) : (opCells fs k).setIfInBounds k (.string f.op) = opCells fs (k + 1) := by
  have hlt := (List.getElem?_eq_some_iff.1 h).1
  have hr : fs.length - k = (fs.length - (k + 1)) + 1 := by omega
  unfold opCells
  rw [List.take_add_one, h, hr, List.replicate_succ]
  apply Array.ext'
  simp only [List.setIfInBounds_toArray, Option.toList_some, List.map_append, List.map_cons, List.map_nil, List.append_assoc, List.cons_append, List.nil_append]
  rw [List.set_append_right _ _ (by simp; omega)]
  have : k - min k fs.length = 0 := by omega
  simp [this]
theorem opCells_size (fs : List Fr) (k : Nat) (hk : k ≤ fs.length) : (opCells fs k).size = fs.length := by simp [opCells]; omega

/-- What Ops leaves. -/
def OpsPost (w : World) (fs : List Fr) (e : Ending) (w' : World) : Prop :=
  ∃ g, e = .returned (.slice (some ⟨g, 0, none⟩) fs.length fs.length) ∧ w'.heap[g]? = some (.cells (opCells fs fs.length) 9 (0, 0)) ∧ Below w.heap.size w w'

set_option maxHeartbeats 4000000 in
set_option maxRecDepth 100000 in
theorem ops_c (fs : List Fr) (leaf v : Value) (w : World) (h : Chain w leaf fs v) (hleaf : Other leaf) (hl : fs.length ≤ 400000) :
    Calls Tryd.prog 15 #[v] w (OpsPost w fs) := by
  obtain ⟨i9, hi9, hz9, hs9, hb9⟩ := info_parts info9
  have HH := Lib.hid h
  have HO := Lib.hid hleaf
  clear h hleaf
  go_enter Tryd.func15, Tryd.ntmps15
  go_wp2_with (go_at_call 24; refine (apart_c fs leaf v _ HH.out HO.out hl).mono ?_)
  rintro e w1 ⟨s, rfl, hP, hB⟩
  obtain ⟨A, c, rfl, hlc, hA⟩ := hP.row
  have HA := Lib.hid hA
  have HP := Lib.hid hP
  have HB := Lib.hid hB
  clear hA hP hB
  go_wp2_with (refine wpList_make_row _ rfl _ _ 35 rfl 9 i9 (.string ⟨#[]⟩) Tryd.underlying35 hi9 hz9 hs9 rfl .i64 .i64 fs.length rfl rfl ?b1 ?b2 ?_)
  case b1 => rw [hb9]; omega
  case b2 => omega
  rw [opCells_zero]
  obtain ⟨W, hW⟩ : ∃ W, W = w1.alloc (.cells (opCells fs 0) 9) := ⟨_, rfl⟩
  have hz : W.heap[w1.heap.size]? = some (.cells (opCells fs 0) 9 (0, 0)) := by rw [hW]; exact heap_alloc_new w1 _
  have hB2 : Below w1.heap.size w1 W := by rw [hW]; exact (Below.refl _ _).alloc (Nat.le_refl _) _
  rw [← hW]
  have HZ := Lib.hid hz
  have HB2 := Lib.hid hB2
  clear hW hz hB2
  go_wp2_with fail
  go_loopg [18] fs.length (fun gg i wr => ∃ k : Nat, i = .int .i64 k ∧ k ≤ fs.length ∧ fs.length - k = gg ∧ wr.heap[w1.heap.size]? = some (.cells (opCells fs k) 9 (0, 0)) ∧ Below w1.heap.size w1 wr)
  case atStart => exact ⟨0, rfl, by omega, by omega, HZ.out, HB2.out⟩
  case round =>
    obtain ⟨k, rfl, hk, rfl, hz, hB⟩ := hrel
    by_cases hlt : k < fs.length
    · obtain ⟨f, hf⟩ : ∃ f, fs[k]? = some f := ⟨_, List.getElem?_eq_getElem hlt⟩
      obtain ⟨g, rfl, hg⟩ := HA.out k f hf
      obtain ⟨v', hv⟩ := HH.out.fault k f hf
      have hglt : g < w1.heap.size := lt_of_cell hg
      have c1 : wr.cell? ⟨g, k, none⟩ = some (.pointer (some ⟨f.b, 0, none⟩)) := by rw [hB.cell (p := ⟨g, k, none⟩) hglt]; exact hg
      have hv2 : wr.heap[f.b]? = some (.cells #[.string f.op, .int .i64 f.n, v'] 42 (0, 0)) := by
        rw [hB.block _ (Nat.lt_of_lt_of_le (lt_of_heap hv) HB.out.size), HB.out.block _ (lt_of_heap hv)]; exact hv
      have c2 : wr.cell? ⟨f.b, 0, none⟩ = some (.string f.op) := by rw [cell_of_cells hv2]; rfl
      have f3 : wr.frozen? ⟨w1.heap.size, k, none⟩ = false := by simp [World.frozen?, hz]
      have c3 : ∃ old, wr.cell? ⟨w1.heap.size, k, none⟩ = some old := ⟨_, by rw [cell_of_cells hz]; exact Array.getElem?_eq_getElem (by rw [opCells_size fs k hk]; exact hlt)⟩
      obtain ⟨old, c3⟩ := c3
      have hn : (wr.setCell ⟨w1.heap.size, k, none⟩ (.string f.op)).heap[w1.heap.size]? = some (.cells (opCells fs (k + 1)) 9 (0, 0)) := by
        rw [← opCells_set fs k f hf]; simp [World.setCell, Array.getElem?_modify, hz]
      have hn2 : Below w1.heap.size w1 (wr.setCell ⟨w1.heap.size, k, none⟩ (.string f.op)) := hB.setCell (p := ⟨w1.heap.size, k, none⟩) (Nat.le_refl _) _
      have HN := Lib.hid hn
      have HN2 := Lib.hid hn2
      have HF := Lib.hid hf
      clear hz hB hn hn2 hf hg hv hv2
      go_wp2
      go_roundg (fs.length - (k + 1))
      case measure => omega
      case rel => exact ⟨k + 1, by go_num, by omega, rfl, HN.out, HN2.out⟩
    · have hkk : k = fs.length := by omega
      subst hkk
      have HN := Lib.hid hz
      have HN2 := Lib.hid hB
      clear hz hB
      go_wp2
      go_ret
      exact ⟨_, rfl, HN.out, HB.out.trans (HN2.out.mono HB.out.size)⟩
end Go.Proofs.YtnmjcfpmljahcaaDoor
