/- The reference of layer 6: Empty; the reference of layer 7: the root as data. -/
import Derived.Test.YtaajnjddfcdeaaaGreatDoorLr
import Derived.Test.YtaajnjddfcdeaaaGreatDoorEb
import Derived.Test.YtaajnjddfcdeaaaGreatDoorM4
namespace Go.Proofs.YtaajnjddfcdeaaaGreatDoor
open Go.RowKit

set_option maxHeartbeats 1000000 in
set_option maxRecDepth 100000 in
theorem rempty_c (n : Int) (w : World) : Calls Tryz.prog 52 #[.int .i64 n] w fun e w' => e = .returned (.agg (bA (digL n emptyL))) ∧ Below w.heap.size w w' := by
  obtain ⟨X, hX⟩ : ∃ X, X = w.alloc (.cells (bA z26) 42) := ⟨_, rfl⟩
  have hb0 : Below w.heap.size w X := by rw [hX]; exact (Below.refl _ _).alloc (Nat.le_refl _) _
  have hrow : RowB X w.heap.size 42 z26 := by rw [hX]; exact RowB.alloc w _ _
  have HSZ : Hid (w.heap.size + 1 = X.heap.size) := by show _ = _; rw [hX]; simp
  have HX := Lib.hid hX
  have HB0 := Lib.hid hb0
  have HRW := Lib.hid hrow
  have hgl : (digL n emptyL).length = 32 := dig_len _ _
  have HS : Hid (∀ Y : World, Calls Tryz.prog 53 #[.int .i64 n, .slice (some ⟨Y.heap.size, 0, none⟩) 1 1] (Y.alloc (.cells #[bv 3] 5)) fun e w' => e = .returned (.agg (bA (digL n emptyL))) ∧ Below (Y.alloc (.cells #[bv 3] 5)).heap.size (Y.alloc (.cells #[bv 3] 5)) w') := fun Y => by
    obtain ⟨A1, c1, he, hc1, hA1⟩ := (own_made Y 3).any
    cases he
    exact rdig_c n _ _ emptyL _ hA1 (by decide)
  obtain ⟨g, hg⟩ : ∃ g, g = digL n emptyL := ⟨_, rfl⟩
  rw [← hg] at HS hgl ⊢
  have HGL := Lib.hid hgl
  clear hX hb0 hrow hg hgl
  go_enter Tryz.func52, Tryz.ntmps52
  go_wp2_with fail
  rw [← HX.out, HSZ.out]
  clear HX
  refine (HS.out X).mono ?_
  rintro _ w2 ⟨rfl, hb⟩
  have hb1 : Below X.heap.size X w2 := ((Below.refl _ _).alloc (Nat.le_refl X.heap.size) _).trans (hb.mono (by simp))
  have HB2 := Lib.hid (HB0.out.trans (hb1.mono HB0.out.size))
  have HR2 := Lib.hid (HRW.out.below hb1)
  have sb := stA_row (t := 42) HR2.out (v := bA g) (by rw [bA_size, HGL.out]; exact info26) (by rw [bA_size, bA_size, HGL.out]; rfl) (bA_one _)
  clear hb hb1
  go_wp2
  refine bodyPost_ret (v := .agg (bA g)) ?_ rfl ⟨rfl, Bt.below_row HB2.out (by omega) _⟩
  exact results_cell_row Tryz.results52 _ _ w.heap.size 42 _ (0, 0) _ rfl (setRow_heap w2 _ _ _ 42 _ HR2.out) Tryz.underlying42 rfl (by rw [bA_size, HGL.out]; exact info26)
/-- The digest of the subtree of a map, by the number of levels left. -/
def rootK : Nat → Int → List Ent → Int → List UInt8
  | 0, n, l, _ => match l with
    | [] => digL n emptyL
    | e :: _ => digL n (leafL e.k (digL n (valL e.v)))
  | f + 1, n, l, d => match l with
    | [] => digL n emptyL
    | [e] => digL n (leafL e.k (digL n (valL e.v)))
    | _ :: _ :: _ => digL n (nodeL (rootK f n (partK l d 0) (d + 1)) (rootK f n (partK l d 1) (d + 1)))
theorem rootK_len (f : Nat) (n : Int) (l : List Ent) (d : Int) : (rootK f n l d).length = 32 := by
  cases f with
  | zero => unfold rootK; split <;> exact dig_len _ _
  | succ f => unfold rootK; split <;> exact dig_len _ _
theorem rootK_none (f : Nat) (n : Int) (d : Int) : rootK f n [] d = digL n emptyL := by cases f <;> rfl
theorem rootK_one (f : Nat) (n : Int) (e : Ent) (d : Int) : rootK f n [e] d = digL n (leafL e.k (digL n (valL e.v))) := by cases f <;> rfl
theorem rootK_two (f : Nat) (n : Int) (l : List Ent) (d : Int) (h : 2 ≤ l.length) : rootK (f + 1) n l d = digL n (nodeL (rootK f n (partK l d 0) (d + 1)) (rootK f n (partK l d 1) (d + 1))) := by
  match l, h with
  | _ :: _ :: _, _ => rfl
theorem partE_ent (l : List En) (d b : Int) : (partE l d b).map En.ent = partK (l.map En.ent) d b := by
  unfold partE partK
  rw [List.filter_map]
  rfl
theorem partE_len (l : List En) (d b : Int) : (partE l d b).length ≤ l.length := List.length_filter_le _ _
theorem partE_mem {l : List En} {d b : Int} {e : En} (h : e ∈ partE l d b) : e ∈ l := (List.mem_filter.1 h).1
/-- Beyond the last bit there is none. -/
theorem partE_last (l : List En) (d b : Int) (hd : 256 ≤ d) (hb : 0 ≤ b) : partE l d b = [] := by
  unfold partE
  rw [List.filter_eq_nil_iff]
  intro e _
  have : bitK e.k d = -1 := by unfold bitK Bt.bitI; rw [if_neg (by omega)]
  rw [this, decide_eq_false (by omega)]
  simp
/-- Enough levels are left. -/
def Deep (f : Nat) (d : Int) (l : Nat) : Prop := l ≤ 1 ∨ (0 ≤ d ∧ d ≤ 256 ∧ 256 < d + f)
theorem Deep.part {f : Nat} {d : Int} {l : List En} (h : Deep (f + 1) d l.length) (hl : 2 ≤ l.length) (b : Int) (hb : 0 ≤ b) : Deep f (d + 1) (partE l d b).length := by
  rcases h with h | ⟨h0, h1, h2⟩
  · omega
  · by_cases hd : d = 256
    · rw [partE_last l d b (by omega) hb]; exact .inl (Nat.zero_le _)
    · exact .inr ⟨by omega, by omega, by omega⟩
end Go.Proofs.YtaajnjddfcdeaaaGreatDoor
