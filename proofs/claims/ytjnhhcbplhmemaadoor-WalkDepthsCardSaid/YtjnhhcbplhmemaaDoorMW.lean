/- Several texts in one: Kl Kp Kq Rm Kr Ks Kt Ku Kv Kx Ky Km Kz. -/
import Derived.Test.YtjnhhcbplhmemaaDoorML
import Derived.RangeFuncCalls
import Derived.Test.YtjnhhcbplhmemaaDoorMX
import Derived.Maps.AppendAt
import Derived.Test.YtjnhhcbplhmemaaDoorM4
import Derived.Test.YtjnhhcbplhmemaaDoorM3
import Derived.WalkMore
import Derived.Test.YtjnhhcbplhmemaaDoorSl
import Derived.Test.YtjnhhcbplhmemaaDoorMQ
/- The leaves of a map's tree with their depths, in order; how many keys are before a key, step by step on its way; the entry with a number, step by step: plain facts of layer 11. -/
namespace Go.Proofs.YtjnhhcbplhmemaaDoor
open Go.RowKit

/-- The leaves of a subtree at a depth, with their depths. -/
def leavesI : Tv → Nat → List (Nat × Tv)
  | .nil, _ => []
  | .leaf v e, d => [(d, .leaf v e)]
  | .inner _ a b, d => leavesI a (d + 1) ++ leavesI b (d + 1)
theorem SubMap.leaf11 {d : Nat} {l : List Ent} {v : Value} {x : Ent} (h : SubMap d l (.leaf v x)) (hd : d ≤ 256) : l = [x] := by
  have hl := h.few hd (by show (1 : Int) ≠ 2; decide)
  have ht := h.tr
  match l, hl with
  | [], _ => rw [growT_none] at ht; cases ht
  | [y], _ => rw [growT_one] at ht; injection ht with h1; rw [h1]
theorem SubMap.nil11 {d : Nat} {l : List Ent} (h : SubMap d l .nil) (hd : d ≤ 256) : l = [] := by
  have hl := h.few hd (by show (0 : Int) ≠ 2; decide)
  have ht := h.tr
  match l, hl with
  | [], _ => rfl
  | [y], _ => rw [growT_one] at ht; cases ht
theorem SubMap.len11 {d : Nat} {l : List Ent} {T : Tv} (h : SubMap d l T) (hd : d ≤ 256) : lenT T.tr = l.length := by
  rw [h.tr]
  exact (grow_both 0 (257 - d) l d h.sep (.inr ⟨by omega, by omega, by omega⟩)).1
theorem leavesI_ents : ∀ (T : Tv) (d : Nat), (leavesI T d).map (fun x => entT x.2.tr) = entsT T.tr
  | .nil, _ => rfl
  | .leaf _ _, _ => rfl
  | .inner _ a b, d => by
    show ((leavesI a (d + 1) ++ leavesI b (d + 1)).map _) = entsT a.tr ++ entsT b.tr
    rw [List.map_append, leavesI_ents a, leavesI_ents b]
theorem leavesI_leaf : ∀ (T : Tv) (d : Nat) (x : Nat × Tv), x ∈ leavesI T d → ∃ v e, x.2 = .leaf v e
  | .nil, _, x, h => by cases h
  | .leaf v e, d, x, h => by rw [show x = (d, .leaf v e) from List.mem_singleton.1 h]; exact ⟨v, e, rfl⟩
  | .inner _ a b, d, x, h => (List.mem_append.1 h).elim (leavesI_leaf a (d + 1) x) (leavesI_leaf b (d + 1) x)
theorem leavesI_ms {M : World → Int → Tv → Prop} (nd : NdV M) {w : World} {n : Int} : ∀ (T : Tv) (d : Nat), M w n T → ∀ x ∈ leavesI T d, M w n x.2
  | .nil, _, _, x, h => by cases h
  | .leaf v e, d, hM, x, h => by rw [show x = (d, .leaf v e) from List.mem_singleton.1 h]; exact hM
  | .inner _ a b, d, hM, x, h => by
    obtain ⟨ha, hb⟩ := nd.kids hM
    exact (List.mem_append.1 h).elim (leavesI_ms nd a (d + 1) ha x) (leavesI_ms nd b (d + 1) hb x)
theorem leavesI_dep : ∀ (T : Tv) (d : Nat) (l : List Ent), SubMap d l T → d ≤ 256 → ∀ x ∈ leavesI T d, entT x.2.tr ∈ l ∧ T.dep (entT x.2.tr).k d = x.1 ∧ x.1 ≤ 256
  | .nil, _, _, _, _, x, h => by cases h
  | .leaf v e, d, l, hs, hd, x, h => by
    rw [show x = (d, .leaf v e) from List.mem_singleton.1 h, hs.leaf11 hd]
    exact ⟨List.mem_singleton.2 rfl, rfl, hd⟩
  | .inner v a b, d, l, hs, hd, x, h => by
    obtain ⟨h256, ha, hb⟩ := hs.inner hd
    rcases List.mem_append.1 h with h | h
    · obtain ⟨h1, h2, h5⟩ := leavesI_dep a (d + 1) _ ha (by omega) x h
      obtain ⟨h3, h4⟩ := List.mem_filter.1 h1
      have hz : bitK (entT x.2.tr).k d = 0 := by simpa using h4
      refine ⟨h3, ?_, h5⟩
      unfold Tv.dep
      rw [if_pos hz]
      exact h2
    · obtain ⟨h1, h2, h5⟩ := leavesI_dep b (d + 1) _ hb (by omega) x h
      obtain ⟨h3, h4⟩ := List.mem_filter.1 h1
      have hz : bitK (entT x.2.tr).k d = 1 := by simpa using h4
      refine ⟨h3, ?_, h5⟩
      unfold Tv.dep
      rw [if_neg (by omega)]
      exact h2
theorem leaves_ents {l : List Ent} {T : Tv} (h : IsMap l T) (ha : Asc l) : (leavesI T 0).map (fun x => entT x.2.tr) = l := (leavesI_ents T 0).trans (h.ents ha)
theorem leaves_deps {l : List Ent} {T : Tv} (h : IsMap l T) (ha : Asc l) : (leavesI T 0).map (fun x => x.1) = l.map fun x => depK l x.k := by
  have h1 := congrArg (List.map fun x => depK l x.k) (leaves_ents h ha)
  rw [← h1, List.map_map]
  refine List.map_congr_left fun x hx => ?_
  obtain ⟨h2, h3, _⟩ := leavesI_dep T 0 l h.sub (by decide) x hx
  exact h3.symm.trans (dep_is h h2)
/-! ### Ranks on a way -/
theorem rank_cons (x : Ent) (r : List Ent) (k : List UInt8) : rankK (x :: r) k = (if cmpK x.k k < 0 then 1 else 0) + rankK r k := by
  unfold rankK
  by_cases h : cmpK x.k k < 0
  · rw [List.filter_cons_of_pos (by simpa using h), List.length_cons, if_pos h, Nat.add_comm]
  · rw [List.filter_cons_of_neg (by simpa using h), if_neg h, Nat.zero_add]
theorem part_cons (x : Ent) (r : List Ent) (d b : Int) : partK (x :: r) d b = if bitK x.k d = b then x :: partK r d b else partK r d b := by
  unfold partK
  by_cases h : bitK x.k d = b
  · rw [List.filter_cons_of_pos (by simpa using h), if_pos h]
  · rw [List.filter_cons_of_neg (by simpa using h), if_neg h]
/-- Keys that agree with k before bit d: those on the other side are all before k, or all behind it. -/
theorem rank_part {k : List UInt8} (hk : k.length = 32) {d : Nat} (hd : d < 256) : ∀ (l : List Ent), (∀ x ∈ l, x.k.length = 32 ∧ ∀ j : Nat, j < d → bitK x.k j = bitK k j) →
    rankK l k = (if bitK k d = 0 then 0 else (partK l d 0).length) + rankK (partK l d (bitK k d)) k
  | [], _ => by simp [rankK, partK]
  | x :: r, h => by
    obtain ⟨hx, he⟩ := h x (by simp)
    have ih := rank_part hk hd r fun y hy => h y (by simp [hy])
    have hbx := bitK_01 x.k d hd
    have hbk := bitK_01 k d hd
    rw [rank_cons, part_cons x r d (bitK k d), part_cons x r d 0, ih]
    have n10 : ¬ ((1 : Int) = 0) := by decide
    have n01 : ¬ ((0 : Int) = 1) := by decide
    by_cases hz : bitK k d = 0
    · simp only [hz, if_true]
      by_cases hq : bitK x.k d = 0
      · simp only [hq, if_true, rank_cons]; omega
      · have hlt : LtB k x.k := ⟨d, hd, fun j hj => (he j hj).symm, hz, by omega⟩
        simp only [hq, if_false, if_neg (hlt.not hk hx)]; omega
    · have h1 : bitK k d = 1 := by omega
      simp only [h1, n10, if_false]
      by_cases hq : bitK x.k d = 1
      · simp only [hq, n10, if_true, if_false, rank_cons]; omega
      · have hq0 : bitK x.k d = 0 := by omega
        have hlt : LtB x.k k := ⟨d, hd, he, hq0, h1⟩
        simp only [hq0, n01, if_true, if_false, if_pos hlt.cmp, List.length_cons]; omega
/-- One step of a way: how many keys of the map's part are before k. -/
theorem rank_step {l : List Ent} {k : List UInt8} {d : Nat} {v : Value} {a b : Tv} (hs : Sep 0 l) (hk : k.length = 32) (h : At l k d (.inner v a b)) :
    rankK (dK l k d) k = (if bitK k d = 0 then 0 else lenT a.tr) + rankK (dK l k (d + 1)) k := by
  obtain ⟨h256, _, _, h4⟩ := At.inner hs h
  have h1 := rank_part hk h256 (dK l k d) fun x hx => by
    obtain ⟨h1, h2⟩ := dK_mem.1 hx
    exact ⟨hs.len x h1, h2⟩
  rw [h1]
  show _ = _ + rankK (partK (dK l k d) d (bitK k d)) k
  by_cases hz : bitK k d = 0
  · rw [if_pos hz, if_pos hz]
  · have hz1 : bitK k d = 1 := by have := bitK_01 k d h256; omega
    rw [if_neg hz] at h4
    have hg := (grow_both 0 (256 - d) (sibK l k d) (d + 1) (sibK_sep hs k d h256) (.inr ⟨by omega, by omega, by omega⟩)).1
    rw [← h4] at hg
    rw [if_neg hz, if_neg hz, hg, show sibK l k d = partK (dK l k d) d 0 by unfold sibK; rw [hz1]; rfl]
theorem At.leaf11 {l : List Ent} {k : List UInt8} {d : Nat} {v : Value} {x : Ent} (hs : Sep 0 l) (h : At l k d (.leaf v x)) : dK l k d = [x] := SubMap.leaf11 (v := v) ⟨dK_sep hs k d h.le, h.tr⟩ h.le
theorem At.nil11 {l : List Ent} {k : List UInt8} {d : Nat} (hs : Sep 0 l) (h : At l k d .nil) : dK l k d = [] := SubMap.nil11 ⟨dK_sep hs k d h.le, h.tr⟩ h.le
/-! ### The entry with a number -/
theorem nth_step {d : Nat} {l : List Ent} {v : Value} {a b : Tv} {i : Nat} {e : Ent} (h : SubMap d l (.inner v a b)) (hd : d ≤ 256) (ha : Asc l) (he : l[i]? = some e) :
    d < 256 ∧ Asc (partK l d 0) ∧ Asc (partK l d 1) ∧ SubMap (d + 1) (partK l d 0) a ∧ SubMap (d + 1) (partK l d 1) b ∧ (partK l d 0).length = lenT a.tr ∧ (i < lenT a.tr → (partK l d 0)[i]? = some e) ∧ (¬ i < lenT a.tr → (partK l d 1)[i - lenT a.tr]? = some e) := by
  obtain ⟨h256, h0, h1⟩ := h.inner hd
  have hl := h0.len11 (by omega)
  have hp := part_app (d := d) (by omega) (by omega) h.sep ha
  refine ⟨h256, ha.filter _, ha.filter _, h0, h1, hl.symm, fun hi => ?_, fun hi => ?_⟩
  · rw [← hp, List.getElem?_append_left (by omega)] at he; exact he
  · rw [← hp, List.getElem?_append_right (by omega), ← hl] at he; exact he
end Go.Proofs.YtjnhhcbplhmemaaDoor

/- The program's iterator over leaves (it ranges over itself): its word. -/
namespace Go.Proofs.YtjnhhcbplhmemaaDoor
open Go.RowKit
attribute [local go_sem] Oper.semAt_some

def EL (x : Nat × Tv) (args : Array Value) (_ : World) : Prop := args = #[.int .i64 (x.1 : Int), x.2.val]
theorem RoundIn.any {P : Program} {n m l l' : Nat} {f : FuncId} {tmps : Array Value} {assign body : Code} {w : World} {R : Ending → World → Prop} (h : RoundIn Fence.wide n P l f tmps assign body w R) : RoundIn (Fence.wide.inRound l') m P l f tmps assign body w R :=
  ⟨trivial, fun c cs _ => h.2 c cs (room_wide _)⟩
theorem leaves_c (p : Option Addr) (d : Int) (w : World) : Calls Tryd.prog 29 #[.pointer p, .int .i64 d] w fun e w' => e = .returned (.func (.func 47) #[] #[.pointer (some ⟨w.heap.size, 0, none⟩), .pointer (some ⟨w.heap.size + 1, 0, none⟩)]) ∧ w' = (w.alloc (.cells #[.pointer p] 23)).alloc (.cells #[.int .i64 d] 3) := by
  go_enter Tryd.func29, Tryd.ntmps29
  go_wp2_with fail
  go_ret
  exact ⟨rfl, rfl⟩
/-- What the iterator has captured. -/
structure Lv (w0 : World) (s q : Nat) (T : Tv) (d : Nat) (X : World) : Prop where
  bel : Below w0.heap.size w0 X
  st : X.heap[s]? = some (.cells #[T.val] 23 (0, 0))
  dp : X.heap[q]? = some (.cells #[.int .i64 (d : Int)] 3 (0, 0))
theorem Lv.below {w0 : World} {s q : Nat} {T : Tv} {d : Nat} {X Y : World} (h : Lv w0 s q T d X) (hb : Below X.heap.size X Y) : Lv w0 s q T d Y :=
  ⟨h.bel.trans (hb.mono h.bel.size), by rw [hb.block _ (lt_of_heap h.st)]; exact h.st, by rw [hb.block _ (lt_of_heap h.dp)]; exact h.dp⟩
theorem Lv.keep {w0 : World} {s q : Nat} {T : Tv} {d : Nat} {X Y : World} {L : Nat → Prop} (h : Lv w0 s q T d X) (hk : Keep L X Y) (hL : ∀ i, L i → w0.heap.size ≤ i ∧ i ≠ s ∧ i ≠ q) : Lv w0 s q T d Y :=
  ⟨h.bel.trans (hk.below h.bel.size fun _ hi => (hL _ hi).1), hk.heap h.st fun h => (hL _ h).2.1 rfl, hk.heap h.dp fun h => (hL _ h).2.2 rfl⟩
def LvSeq (w0 : World) (T : Tv) : Prop := ∀ (d : Nat) (l : List Ent) (w : World) (s q : Nat), SubMap d l T → d ≤ 256 → Lv w0 s q T d w → SeqO Tryd.prog 47 #[.pointer (some ⟨s, 0, none⟩), .pointer (some ⟨q, 0, none⟩)] EL (fun i => w0.heap.size ≤ i ∧ i ≠ s ∧ i ≠ q) (leavesI T d) w
set_option maxHeartbeats 4000000 in
set_option maxRecDepth 100000 in
theorem lv_nil {M : World → Int → Tv → Prop} (nd : NdV M) (w0 : World) (n : Int) : LvSeq w0 .nil := by
  intro d l w s q hT hd hL n0 l0 J W hW hbear hround hJ0
  have hLW := hL.below hW
  have lc : W.cell? ⟨s, 0, none⟩ = some (.pointer none) := by rw [cell_of_cells hLW.st]; rfl
  obtain ⟨Y, hY⟩ : ∃ Y, Y = W.alloc (.cells #[.func (.yield l0) #[] #[]] 83) := ⟨_, rfl⟩
  have hbY : Below W.heap.size W Y := by rw [hY]; exact (Below.refl _ _).alloc (Nat.le_refl _) _
  have ly : Y.cell? ⟨s, 0, none⟩ = some (.pointer none) := by rw [cell_of_cells (hLW.below hbY).st]; rfl
  have HK := Lib.hid (nd.kind Y n .nil (nd.nil _ _))
  rw [show kindT Tv.nil.tr = 0 from rfl, show Tv.nil.val = .pointer none from rfl] at HK
  have HB := Lib.hid hbear
  have HJ := Lib.hid hJ0
  have HY := Lib.hid hY
  have HBY := Lib.hid hbY
  rw [hY] at ly
  clear hT hL hW hbear hround hJ0 hLW hY hbY
  refine callsIn_of_wp_marks Tryd.func47 rfl trivial ?_ rfl
  simp only [Tryd.ntmps47, List.size_toArray, List.length_cons, List.length_nil, Nat.reduceAdd, Nat.reduceSub, Array.replicate_succ, Array.replicate_zero, List.push_toArray, List.append_toArray, List.nil_append, List.cons_append]
  gi_wp2
  rw [← HY.out]
  refine ⟨trivial, fun h => (by cases h), (callsIn_wide.2 HK.out).mono ?_⟩
  rintro _ Y2 ⟨rfl, hB⟩
  have HB2 := Lib.hid (HBY.out.trans (hB.mono HBY.out.size))
  clear hB HK ly lc
  gi_wp2
  exact ⟨_, results_none rfl _ _ _, ⟨_, rfl⟩, fun _ => False, .inl (HB.out true [] _ W Y2 _ HJ.out (Keep.of_below HB2.out) fun i h => h.elim)⟩
set_option maxHeartbeats 4000000 in
set_option maxRecDepth 100000 in
theorem lv_leaf {M : World → Int → Tv → Prop} (nd : NdV M) (w0 : World) (n : Int) (v : Value) (x : Ent) (hM : M w0 n (.leaf v x)) : LvSeq w0 (.leaf v x) := by
  intro d l w s q hT hd hL n0 l0 J W hW hbear hround hJ0
  have hLW := hL.below hW
  obtain ⟨pT, hpT⟩ := val_ptr nd hM
  have lc : W.cell? ⟨s, 0, none⟩ = some (.pointer pT) := by rw [cell_of_cells hLW.st, hpT]; rfl
  obtain ⟨Y, hY⟩ : ∃ Y, Y = W.alloc (.cells #[.func (.yield l0) #[] #[]] 83) := ⟨_, rfl⟩
  have hbY : Below W.heap.size W Y := by rw [hY]; exact (Below.refl _ _).alloc (Nat.le_refl _) _
  have hyc : Y.heap[W.heap.size]? = some (.cells #[.func (.yield l0) #[] #[]] 83 (0, 0)) := by rw [hY]; exact heap_alloc_new W _
  have hLY := hLW.below hbY
  have ly : Y.cell? ⟨s, 0, none⟩ = some (.pointer pT) := by rw [cell_of_cells hLY.st, hpT]; rfl
  have HK := Lib.hid (nd.kind Y n _ (nd.below hM hLY.bel))
  rw [hpT, show kindT (Tv.leaf v x).tr = 1 from rfl] at HK
  have HB := Lib.hid hbear
  have HR := Lib.hid hround
  have HJ := Lib.hid hJ0
  have HY := Lib.hid hY
  have HBY := Lib.hid hbY
  have HYC := Lib.hid hyc
  have HLY := Lib.hid hLY
  have HPT := Lib.hid hpT
  rw [hY] at ly
  clear hT hL hW hbear hround hJ0 hLW hY hbY hyc hLY hpT
  refine callsIn_of_wp_marks Tryd.func47 rfl trivial ?_ rfl
  simp only [Tryd.ntmps47, List.size_toArray, List.length_cons, List.length_nil, Nat.reduceAdd, Nat.reduceSub, Array.replicate_succ, Array.replicate_zero, List.push_toArray, List.append_toArray, List.nil_append, List.cons_append]
  gi_wp2
  rw [← HY.out]
  refine ⟨trivial, fun h => (by cases h), (callsIn_wide.2 HK.out).mono ?_⟩
  rintro _ Y2 ⟨rfl, hB⟩
  have HB2 := Lib.hid (HBY.out.trans (hB.mono HBY.out.size))
  have hL2 := HLY.out.below hB
  have hy2 : Y2.heap[W.heap.size]? = some (.cells #[.func (.yield l0) #[] #[]] 83 (0, 0)) := by rw [hB.block _ (lt_of_heap HYC.out)]; exact HYC.out
  have l1 : Y2.cell? ⟨W.heap.size, 0, none⟩ = some (.func (.yield l0) #[] #[]) := by rw [cell_of_cells hy2]; rfl
  have l2 : Y2.cell? ⟨s, 0, none⟩ = some (.pointer pT) := by rw [cell_of_cells hL2.st, HPT.out]; rfl
  have l3 : Y2.cell? ⟨q, 0, none⟩ = some (.int .i64 (d : Int)) := by rw [cell_of_cells hL2.dp]; rfl
  have hJ2 := HB.out true [] (fun _ => False) W Y2 (fun i => W.heap.size ≤ i ∧ i < Y2.heap.size) HJ.out (Keep.of_below HB2.out) fun i h => .inr h.1
  obtain ⟨fn, tmps, assign, body, hy, hRD⟩ := HR.out [] (d, .leaf v x) _ _ Y2 hJ2 (fun i h => h) (by show [] ++ [_] <+: [_]; exact List.prefix_rfl) rfl
  dsimp only at hy
  rw [HPT.out] at hy
  have HRD := Lib.hid hRD
  clear hB HK ly lc hL2 hy2 hJ2 hRD
  gi_wp2
  refine ⟨fun h => (by cases h), HRD.out.mono ?_⟩
  rintro e W3 ⟨b, rfl, hJ3, _⟩
  have HJ3 := Lib.hid hJ3
  clear hJ3 HRD hy l1 l2 l3
  gi_wp2
  refine ⟨_, results_none rfl _ _ _, ⟨_, rfl⟩, fun i => W.heap.size ≤ i ∧ i < Y2.heap.size, ?_⟩
  cases b with
  | true => exact .inl HJ3.out
  | false => exact .inr ⟨_, List.prefix_rfl, HJ3.out⟩
end Go.Proofs.YtjnhhcbplhmemaaDoor

/- The program's iterator over leaves at an inner node: it ranges over itself twice. -/
namespace Go.Proofs.YtjnhhcbplhmemaaDoor
open Go.RowKit
attribute [local go_sem] Oper.semAt_some

set_option maxHeartbeats 16000000 in
set_option maxRecDepth 100000 in
theorem lv_inner {M : World → Int → Tv → Prop} (nd : NdV M) (w0 : World) (n : Int) (v : Value) (a b : Tv) (hM : M w0 n (.inner v a b)) (iha : LvSeq w0 a) (ihb : LvSeq w0 b) : LvSeq w0 (.inner v a b) := by
  intro d l w s q hT hd hL n0 l0 J W hW hbear hround hJ0
  obtain ⟨h256, hTa, hTb⟩ := hT.inner hd
  obtain ⟨hMa, hMb⟩ := nd.kids hM
  have hLW := hL.below hW
  obtain ⟨pT, hpT⟩ := val_ptr nd hM
  obtain ⟨pa, hpa⟩ := val_ptr nd hMa
  obtain ⟨pb, hpb⟩ := val_ptr nd hMb
  have lc : W.cell? ⟨s, 0, none⟩ = some (.pointer pT) := by rw [cell_of_cells hLW.st, hpT]; rfl
  obtain ⟨Y, hY⟩ : ∃ Y, Y = W.alloc (.cells #[.func (.yield l0) #[] #[]] 83) := ⟨_, rfl⟩
  have hbY : Below W.heap.size W Y := by rw [hY]; exact (Below.refl _ _).alloc (Nat.le_refl _) _
  have hyc : Y.heap[W.heap.size]? = some (.cells #[.func (.yield l0) #[] #[]] 83 (0, 0)) := by rw [hY]; exact heap_alloc_new W _
  have hLY := hLW.below hbY
  have ly : Y.cell? ⟨s, 0, none⟩ = some (.pointer pT) := by rw [cell_of_cells hLY.st, hpT]; rfl
  have HK := Lib.hid (nd.kind Y n _ (nd.below hM hLY.bel))
  rw [hpT, show kindT (Tv.inner v a b).tr = 2 from rfl] at HK
  have HB := Lib.hid hbear
  have HR := Lib.hid hround
  have HJ := Lib.hid hJ0
  have HY := Lib.hid hY
  have HBY := Lib.hid hbY
  have HYC := Lib.hid hyc
  have HLY := Lib.hid hLY
  have HPT := Lib.hid hpT
  have HPA := Lib.hid hpa
  have HPB := Lib.hid hpb
  have HM := Lib.hid hM
  have HMA := Lib.hid hMa
  have HMB := Lib.hid hMb
  have HTA := Lib.hid hTa
  have HTB := Lib.hid hTb
  have HIA := Lib.hid iha
  have HIB := Lib.hid ihb
  have HXA := Lib.hid (leavesI_ms nd a (d + 1) hMa)
  have HXB := Lib.hid (leavesI_ms nd b (d + 1) hMb)
  have H256 := Lib.hid h256
  have HSW : Hid (s < W.heap.size ∧ q < W.heap.size ∧ w0.heap.size ≤ W.heap.size) := ⟨lt_of_heap hLW.st, lt_of_heap hLW.dp, hLW.bel.size⟩
  rw [hY] at ly
  clear hT hd hL hW hbear hround hJ0 hLW hY hbY hyc hLY hpT hpa hpb hM hMa hMb hTa hTb iha ihb h256
  refine callsIn_of_wp_marks Tryd.func47 rfl trivial ?_ rfl
  simp only [Tryd.ntmps47, List.size_toArray, List.length_cons, List.length_nil, Nat.reduceAdd, Nat.reduceSub, Array.replicate_succ, Array.replicate_zero, List.push_toArray, List.append_toArray, List.nil_append, List.cons_append]
  refine wpIn_wide.2 ?_
  go_wp2_with fail
  rw [← HY.out]
  refine HK.out.mono ?_
  rintro _ Y2 ⟨rfl, hB⟩
  have HB2 := Lib.hid (HBY.out.trans (hB.mono HBY.out.size))
  have HL2 := Lib.hid (HLY.out.below hB)
  have HY2 : Hid (Y2.heap[W.heap.size]? = some (.cells #[.func (.yield l0) #[] #[]] 83 (0, 0))) := by show _ = _; rw [hB.block _ (lt_of_heap HYC.out)]; exact HYC.out
  have ls : ∀ x : Later Y2, x.w.cell? ⟨s, 0, none⟩ = some (.pointer pT) := fun x => by rw [cell_of_cells (x.block HL2.out.st), HPT.out]; rfl
  have HLF : Hid (∀ x : Later Y2, Calls Tryd.prog 35 #[.pointer pT] x.w fun e w' => e = .returned (.pointer pa) ∧ Below x.w.heap.size x.w w') := fun x => by
    have := nd.left x.w n _ (nd.below HM.out (HL2.out.bel.trans (x.h.mono HL2.out.bel.size)))
    rw [HPT.out] at this
    rw [← HPA.out]
    exact this
  have HRT : Hid (∀ x : Later Y2, Calls Tryd.prog 36 #[.pointer pT] x.w fun e w' => e = .returned (.pointer pb) ∧ Below x.w.heap.size x.w w') := fun x => by
    have := nd.right x.w n _ (nd.below HM.out (HL2.out.bel.trans (x.h.mono HL2.out.bel.size)))
    rw [HPT.out] at this
    rw [← HPB.out]
    exact this
  clear hB HK ly lc HLY HYC HBY HY
  go_wp2_with fail
  refine wp_region_later (by kernel_rfl) (by kernel_rfl) ?_
  repeat (go_big_quiet_step ((first | (go_at_call 35; exact Later.call (HLF.out _)) | (go_at_call 36; exact Later.call (HRT.out _)))))
  refine wpQuiet_nil ?_
  rintro _ ⟨u, rfl⟩
  have HU1 : Hid (W.heap.size < u.w.heap.size) := Nat.lt_of_lt_of_le (lt_of_heap HY2.out) u.h.size
  have HLU1 := Lib.hid (HL2.out.below u.h)
  have HYU1 : Hid (u.w.heap[W.heap.size]? = some (.cells #[.func (.yield l0) #[] #[]] 83 (0, 0))) := by show _ = _; rw [u.h.block _ (lt_of_heap HY2.out)]; exact HY2.out
  have HJU1 : Hid (J true [] (fun i => W.heap.size ≤ i ∧ i < u.w.heap.size) u.w) := HB.out true [] _ W u.w _ HJ.out (Keep.of_below (HB2.out.trans (u.h.mono HB2.out.size))) fun i h => .inr h.1
  obtain ⟨U1, hU1⟩ : ∃ U1, U1 = u.w := ⟨_, rfl⟩
  rw [← hU1] at HU1 HLU1 HYU1 HJU1
  rw [← hU1]
  obtain ⟨Ob1, hO1⟩ : ∃ Ob1 : Nat → Prop, Ob1 = fun i => W.heap.size ≤ i ∧ i < U1.heap.size := ⟨_, rfl⟩
  have HOB1 : Hid (Ob1 W.heap.size ∧ ∀ i, Ob1 i → W.heap.size ≤ i ∧ i < U1.heap.size) := by rw [hO1]; exact ⟨⟨Nat.le_refl _, HU1.out⟩, fun _ h => h⟩
  rw [← hO1] at HJU1
  have HEX1 : Hid True := trivial
  clear hU1 hO1 ls HLF HRT HB2 HL2 HY2 HJ
  go_wp2_with fail
  refine wp_loop_rounds 3 ?_
  rw [rounds_succ]
  have lq : U1.cell? ⟨q, 0, none⟩ = some (.int .i64 (d : Int)) := by rw [cell_of_cells HLU1.out.dp]; rfl
  have h256 : d < 256 := H256.out
  obtain ⟨L1, hL1⟩ : ∃ L, L = (U1.alloc (.cells #[.pointer pa] 23)).alloc (.cells #[.int .i64 ((d : Int) + 1)] 3) := ⟨_, rfl⟩
  have hbL : Below U1.heap.size U1 L1 := by rw [hL1]; exact ((Below.refl _ U1).alloc (Nat.le_refl _) _).alloc (by simp) _
  have HZ1 : Hid (L1.heap.size = U1.heap.size + 2) := by show _ = _; rw [hL1]; simp
  have HBL1 := Lib.hid hbL
  have HLL1 : Hid (Lv w0 U1.heap.size (U1.heap.size + 1) a (d + 1) L1) := ⟨HLU1.out.bel.trans (hbL.mono HLU1.out.bel.size), by rw [hL1, HPA.out]; exact heap_alloc2_old U1 _ _, by rw [hL1]; exact heap_alloc2_new U1 _ _⟩
  have HSEQ1 := Lib.hid (HIA.out (d + 1) _ L1 U1.heap.size (U1.heap.size + 1) HTA.out (by omega) HLL1.out)
  have HL1 := Lib.hid hL1
  clear hL1 hbL
  have ix : ∀ w : World, (Instr.index 84 (.agg #[.pointer pa, .pointer pb]) (.int .i64 0)).run Tryd.prog w = .ok (.pointer pa) w := fun _ => by kernel_rfl
  go_wp2_with fail
  refine (leaves_c pa ((d : Int) + 1) U1).mono ?_
  rintro e L ⟨rfl, hLe⟩
  rw [hLe, ← HL1.out]
  clear hLe lq ix
  go_wp2_with fail
  have hsw := HSW.out
  have hz := HZ1.out
  have hu := HU1.out
  refine (wpIn_wide (n := n0)).1 ?_
  obtain ⟨Os1, hOs1⟩ : ∃ Os : Nat → Prop, Os = fun i => Ob1 i ∨ (U1.heap.size ≤ i ∧ i < U1.heap.size + 4) := ⟨_, rfl⟩
  have HOS1 : Hid (∀ i, Ob1 i ∨ (U1.heap.size ≤ i ∧ i < U1.heap.size + 4) → Os1 i) := fun i h => by rw [hOs1]; exact h
  have HOS1b : Hid (∀ i, Os1 i → W.heap.size ≤ i ∧ i < U1.heap.size + 4) := fun i h => by rw [hOs1] at h; exact h.elim (fun h => ⟨(HOB1.out.2 i h).1, by have := (HOB1.out.2 i h).2; omega⟩) fun h => ⟨by omega, h.2⟩
  have HPRE : Hid (∀ (pre : List (Nat × Tv)) (x : Nat × Tv), pre ++ [x] <+: leavesI a (d + 1) → ([] ++ pre) ++ [x] <+: leavesI a (d + 1) ++ leavesI b (d + 1)) := fun pre x h => by obtain ⟨r, hr⟩ := h; exact ⟨r ++ leavesI b (d + 1), by rw [List.nil_append, ← List.append_assoc, hr]⟩
  refine wpIn_rangeO (gf := 47) (lb := #[.pointer (some ⟨U1.heap.size, 0, none⟩), .pointer (some ⟨U1.heap.size + 1, 0, none⟩)]) rfl (enters_of Tryd.func47 (by kernel_rfl) rfl) HSEQ1.out
    (fun i h1 h2 => ⟨by omega, by omega, by omega⟩) (fun x args X h => by rw [h]; rfl)
    (fun pre O X => J true ([] ++ pre) (fun i => Os1 i ∨ O i) X ∧ Lv w0 s q (.inner v a b) d X ∧ X.heap[W.heap.size]? = some (.cells #[.func (.yield l0) #[] #[]] 83 (0, 0)) ∧ True)
    (fun c pre O X => c = .ret ∧ J false ([] ++ pre) (fun i => Os1 i ∨ O i) X ∧ True)
    (fun p O X Z O' ⟨h1, h2, h3, h4⟩ hO hs hk ho => ⟨HB.out true _ _ X Z _ h1 (hk.mono fun i h => .inr h) (fun i h => h.elim (fun h => .inl (.inl h)) fun h => (ho i h).elim (fun h => .inl (.inr h)) .inr), h2.keep hk fun i h => by have := hO _ h; exact ⟨by omega, by omega, by omega⟩, hk.heap h3 fun h => by have := hO _ h; omega, trivial⟩)
    (fun p O X m o o' ⟨h1, h2, h3, h4⟩ hm hm2 _ _ => ⟨HB.out true _ _ X _ _ h1 (keep_putObj X m o' (.inl (HOS1.out _ (.inr ⟨by omega, by omega⟩)))) fun i h => .inl h, h2.keep (keep_putObj (M := fun i => i = m) X m o' rfl) fun i h => by have e : i = m := h; exact ⟨by omega, by omega, by omega⟩, (World.putObj_heap_other (by omega)).trans h3, trivial⟩)
    (fun cc p O X Z O' ⟨h0, h1, h4⟩ hO hs hk ho => ⟨h0, HB.out false _ _ X Z _ h1 (hk.mono fun i h => .inr h) (fun i h => h.elim (fun h => .inl (.inl h)) fun h => (ho i h).elim (fun h => .inl (.inr h)) .inr), trivial⟩)
    (fun cc p O X m o o' ⟨h0, h1, h4⟩ hm hm2 _ _ => ⟨h0, HB.out false _ _ X _ _ h1 (keep_putObj X m o' (.inl (HOS1.out _ (.inr ⟨by omega, by omega⟩)))) fun i h => .inl h, trivial⟩)
    (fun X hX => ⟨by
      have hb := HBL1.out.trans (hX.mono HBL1.out.size)
      rw [List.append_nil]
      exact HB.out true _ _ U1 X _ HJU1.out (Keep.of_below hb) fun i h => h.elim (fun h => by rw [hOs1] at h; exact h.elim .inl fun h => .inr h.1) fun h => h.elim, (HLU1.out.below HBL1.out).below hX, by
      rw [hX.block _ (by omega), HBL1.out.block _ (lt_of_heap HYU1.out)]; exact HYU1.out, trivial⟩) ?round ?done ?stop
  case round =>
    rintro l pre x O args X rfl ⟨r, hr⟩ ⟨h1, h2, h3, h4⟩ hO hp rfl
    obtain ⟨px, hpx⟩ := val_ptr nd (HXA.out x (pre_mem hp))
    have HJX := Lib.hid h1
    have HLX := Lib.hid h2
    have HYX := Lib.hid h3
    have HEXX := Lib.hid h4
    have HPX := Lib.hid hpx
    have HO := Lib.hid hO
    have HP := Lib.hid hp
    rw [hpx]
    have HD3 : Hid (L1.heap.size + 1 < X.heap.size) := lt_of_heap hr
    clear hr h1 h2 h3 h4 hpx hO hp hsw hz hu hOs1
    gi_wp2
    refine ⟨Keeps2.refl _ _, Keep.refl _ _, ⟨HJX.out, HLX.out, HYX.out, HEXX.out⟩, fun V _ hkV hIV => ?_⟩
    obtain ⟨g1, g2, g3, g4⟩ := hIV
    have hsw := HSW.out
    have hz := HZ1.out
    have hu := HU1.out
    obtain ⟨fn, tmps, assign, body, hy, hRD⟩ := HR.out _ x _ _ V g1 (fun i h => h.elim (fun h => by have := HOS1b.out i h; have := HD3.out; have := hkV.size; exact ⟨by omega, by omega⟩) fun h => by have := HO.out i h; have := hkV.size; exact ⟨by omega, by omega⟩) (HPRE.out pre x HP.out) rfl
    rw [HPX.out] at hy
    have l1 : V.cell? ⟨W.heap.size, 0, none⟩ = some (.func (.yield l0) #[] #[]) := by rw [cell_of_cells g3]; rfl
    have HRD := Lib.hid hRD
    have HLV := Lib.hid g2
    have HYV := Lib.hid g3
    have HEXV := Lib.hid g4
    clear g1 g2 g3 g4 hkV hRD hsw hz hu
    gi_wp2
    refine ⟨fun h => (by cases h), RoundIn.mono (RoundIn.any HRD.out) ?_⟩
    rintro e V3 ⟨bb, rfl, hJ3, hk3⟩
    have HK3 := Lib.hid hk3
    have hb1 : Os1 L1.heap.size := HOS1.out _ (.inr ⟨by have := HZ1.out; omega, by have := HZ1.out; omega⟩)
    have hb2 : Os1 (L1.heap.size + 1) := HOS1.out _ (.inr ⟨by have := HZ1.out; omega, by have := HZ1.out; omega⟩)
    have HE1 : Hid (Keeps2 L1.heap.size V V3) := Keeps2.of_keep hk3 (fun h => h.2 (.inl hb1)) fun h => h.2 (.inl hb2)
    have HE2 : Hid (Keep (fun i => (w0.heap.size ≤ i ∧ i ≠ U1.heap.size ∧ i ≠ U1.heap.size + 1) ∧ ¬ O i) V V3) := hk3.mono fun i h => ⟨⟨h.1.1, fun e => h.2 (.inl (HOS1.out _ (.inr ⟨by omega, by omega⟩))), fun e => h.2 (.inl (HOS1.out _ (.inr ⟨by omega, by omega⟩)))⟩, fun h2 => h.2 (.inr h2)⟩
    have HE3 := Lib.hid (HLV.out.keep hk3 fun i h => h.1)
    have HE4 : Hid (V3.heap[W.heap.size]? = some (.cells #[.func (.yield l0) #[] #[]] 83 (0, 0))) := hk3.heap HYV.out fun h => h.2 (.inl (HOS1.out _ (.inl HOB1.out.1)))
    have HE5 : Hid (True) := trivial
    rw [List.append_assoc] at hJ3
    have HJ3 := Lib.hid hJ3
    clear hJ3 hk3 hb1 hb2 hy l1 HRD
    cases bb with
    | true =>
      gi_wp2
      exact ⟨HE1.out, HE2.out, HJ3.out, HE3.out, HE4.out, HE5.out⟩
    | false =>
      gi_wp2
      exact ⟨HE1.out, HE2.out, rfl, HJ3.out, HE5.out⟩
  case stop =>
    rintro D cc pre O X rfl hp ⟨rfl, h1, h4⟩ hd
    have HJX := Lib.hid h1
    have HD := Lib.hid hd
    have HP := Lib.hid hp
    clear h1 h4 hd hp hsw hz hu hOs1
    refine wpIn_wide.2 ?_
    go_wp2_with fail
    refine ⟨by simp, .inl ⟨_, _, rfl, run_takeDeferred HD.out, ?_⟩⟩
    refine ⟨_, results_none rfl _ _ _, ⟨_, rfl⟩, Os1, .inr ⟨[] ++ pre, ?_, HB.out false _ _ X _ _ HJX.out ((keep_putObj (M := Os1) X L1.heap.size _ (HOS1.out _ (.inr ⟨by have := HZ1.out; omega, by have := HZ1.out; omega⟩))).mono fun i h => .inl h) fun i h => .inl (.inl h)⟩⟩
    obtain ⟨r, hr⟩ := HP.out
    exact ⟨r ++ leavesI b (d + 1), by rw [List.nil_append, ← List.append_assoc, hr]; rfl⟩
  case done =>
    rintro D O X rfl ⟨h1, h2, h3, h4⟩ hd
    have HU2 : Hid (W.heap.size < X.heap.size) := lt_of_heap h3
    have HLU2 := Lib.hid h2
    have HYU2 := Lib.hid h3
    have HEX2 : Hid (X.heap[L1.heap.size]? = some (.deferred (some []))) := hd
    have HD1 : Hid (L1.heap.size < X.heap.size) := lt_of_heap hd
    obtain ⟨Ob2, hO2⟩ : ∃ Ob2 : Nat → Prop, Ob2 = fun i => Os1 i ∧ i < X.heap.size := ⟨_, rfl⟩
    have HOB2 : Hid (Ob2 W.heap.size ∧ ∀ i, Ob2 i → W.heap.size ≤ i ∧ i < X.heap.size) := by rw [hO2]; exact ⟨⟨HOS1.out _ (.inl HOB1.out.1), HU2.out⟩, fun i h => ⟨(HOS1b.out i h.1).1, h.2⟩⟩
    have HOD : Hid (Ob2 L1.heap.size) := by rw [hO2]; exact ⟨HOS1.out _ (.inr ⟨by omega, by omega⟩), HD1.out⟩
    have HJU2 : Hid (J true (leavesI a (d + 1)) Ob2 X) := HB.out true _ _ X X _ h1 (Keep.refl _ _) fun i h => by rw [hO2] at h; exact .inl (.inl h.1)
    obtain ⟨U2, hU2⟩ : ∃ U2, U2 = X := ⟨_, rfl⟩
    rw [← hU2] at HU2 HLU2 HYU2 HEX2 HD1 HOB2 HJU2
    rw [← hU2]
    clear hU2 hO2 h1 h2 h3 h4 hd hsw hz hu hOs1 HPRE
    go_wp2_with fail
    rw [rounds_succ]
    have lq : U2.cell? ⟨q, 0, none⟩ = some (.int .i64 (d : Int)) := by rw [cell_of_cells HLU2.out.dp]; rfl
    have h256 : d < 256 := H256.out
    obtain ⟨L2, hL2⟩ : ∃ L, L = (U2.alloc (.cells #[.pointer pb] 23)).alloc (.cells #[.int .i64 ((d : Int) + 1)] 3) := ⟨_, rfl⟩
    have hbL : Below U2.heap.size U2 L2 := by rw [hL2]; exact ((Below.refl _ U2).alloc (Nat.le_refl _) _).alloc (by simp) _
    have HZ2 : Hid (L2.heap.size = U2.heap.size + 2) := by show _ = _; rw [hL2]; simp
    have HBL2 := Lib.hid hbL
    have HLL2 : Hid (Lv w0 U2.heap.size (U2.heap.size + 1) b (d + 1) L2) := ⟨HLU2.out.bel.trans (hbL.mono HLU2.out.bel.size), by rw [hL2, HPB.out]; exact heap_alloc2_old U2 _ _, by rw [hL2]; exact heap_alloc2_new U2 _ _⟩
    have HSEQ2 := Lib.hid (HIB.out (d + 1) _ L2 U2.heap.size (U2.heap.size + 1) HTB.out (by omega) HLL2.out)
    have HL2 := Lib.hid hL2
    clear hL2 hbL
    have ix : ∀ w : World, (Instr.index 84 (.agg #[.pointer pa, .pointer pb]) (.int .i64 1)).run Tryd.prog w = .ok (.pointer pb) w := fun _ => by kernel_rfl
    go_wp2_with fail
    refine (leaves_c pb ((d : Int) + 1) U2).mono ?_
    rintro e L ⟨rfl, hLe⟩
    rw [hLe, ← HL2.out]
    clear hLe lq ix
    go_wp2_with fail
    have hsw := HSW.out
    have hz := HZ2.out
    have hu := HU2.out
    refine (wpIn_wide (n := n0)).1 ?_
    obtain ⟨Os2, hOs2⟩ : ∃ Os : Nat → Prop, Os = fun i => Ob2 i ∨ (U2.heap.size ≤ i ∧ i < U2.heap.size + 4) := ⟨_, rfl⟩
    have HOS2 : Hid (∀ i, Ob2 i ∨ (U2.heap.size ≤ i ∧ i < U2.heap.size + 4) → Os2 i) := fun i h => by rw [hOs2]; exact h
    have HOS2b : Hid (∀ i, Os2 i → W.heap.size ≤ i ∧ i < U2.heap.size + 4) := fun i h => by rw [hOs2] at h; exact h.elim (fun h => ⟨(HOB2.out.2 i h).1, by have := (HOB2.out.2 i h).2; omega⟩) fun h => ⟨by omega, h.2⟩
    have HPRE : Hid (∀ (pre : List (Nat × Tv)) (x : Nat × Tv), pre ++ [x] <+: leavesI b (d + 1) → ((leavesI a (d + 1)) ++ pre) ++ [x] <+: leavesI a (d + 1) ++ leavesI b (d + 1)) := fun pre x h => by rw [List.append_assoc]; obtain ⟨r, hr⟩ := h; exact ⟨r, by rw [List.append_assoc, hr]⟩
    refine wpIn_rangeO (gf := 47) (lb := #[.pointer (some ⟨U2.heap.size, 0, none⟩), .pointer (some ⟨U2.heap.size + 1, 0, none⟩)]) rfl (enters_of Tryd.func47 (by kernel_rfl) rfl) HSEQ2.out
      (fun i h1 h2 => ⟨by omega, by omega, by omega⟩) (fun x args X h => by rw [h]; rfl)
      (fun pre O X => J true ((leavesI a (d + 1)) ++ pre) (fun i => Os2 i ∨ O i) X ∧ Lv w0 s q (.inner v a b) d X ∧ X.heap[W.heap.size]? = some (.cells #[.func (.yield l0) #[] #[]] 83 (0, 0)) ∧ X.heap[L1.heap.size]? = some (.deferred (some [])))
      (fun c pre O X => c = .ret ∧ J false ((leavesI a (d + 1)) ++ pre) (fun i => Os2 i ∨ O i) X ∧ X.heap[L1.heap.size]? = some (.deferred (some [])))
      (fun p O X Z O' ⟨h1, h2, h3, h4⟩ hO hs hk ho => ⟨HB.out true _ _ X Z _ h1 (hk.mono fun i h => .inr h) (fun i h => h.elim (fun h => .inl (.inl h)) fun h => (ho i h).elim (fun h => .inl (.inr h)) .inr), h2.keep hk fun i h => by have := hO _ h; exact ⟨by omega, by omega, by omega⟩, hk.heap h3 fun h => by have := hO _ h; omega, hk.heap h4 fun h => by have := hO _ h; have := HD1.out; omega⟩)
      (fun p O X m o o' ⟨h1, h2, h3, h4⟩ hm hm2 _ _ => ⟨HB.out true _ _ X _ _ h1 (keep_putObj X m o' (.inl (HOS2.out _ (.inr ⟨by omega, by omega⟩)))) fun i h => .inl h, h2.keep (keep_putObj (M := fun i => i = m) X m o' rfl) fun i h => by have e : i = m := h; exact ⟨by omega, by omega, by omega⟩, (World.putObj_heap_other (by omega)).trans h3, (World.putObj_heap_other (by have := HD1.out; omega)).trans h4⟩)
      (fun cc p O X Z O' ⟨h0, h1, h4⟩ hO hs hk ho => ⟨h0, HB.out false _ _ X Z _ h1 (hk.mono fun i h => .inr h) (fun i h => h.elim (fun h => .inl (.inl h)) fun h => (ho i h).elim (fun h => .inl (.inr h)) .inr), hk.heap h4 fun h => by have := hO _ h; have := HD1.out; omega⟩)
      (fun cc p O X m o o' ⟨h0, h1, h4⟩ hm hm2 _ _ => ⟨h0, HB.out false _ _ X _ _ h1 (keep_putObj X m o' (.inl (HOS2.out _ (.inr ⟨by omega, by omega⟩)))) fun i h => .inl h, (World.putObj_heap_other (by have := HD1.out; omega)).trans h4⟩)
      (fun X hX => ⟨by
        have hb := HBL2.out.trans (hX.mono HBL2.out.size)
        rw [List.append_nil]
        exact HB.out true _ _ U2 X _ HJU2.out (Keep.of_below hb) fun i h => h.elim (fun h => by rw [hOs2] at h; exact h.elim .inl fun h => .inr h.1) fun h => h.elim, (HLU2.out.below HBL2.out).below hX, by
        rw [hX.block _ (by omega), HBL2.out.block _ (lt_of_heap HYU2.out)]; exact HYU2.out, by rw [hX.block _ (by have := HD1.out; omega)]; rw [HBL2.out.block _ (lt_of_heap HEX2.out)]; exact HEX2.out⟩) ?round ?done ?stop
    case round =>
      rintro l pre x O args X rfl ⟨r, hr⟩ ⟨h1, h2, h3, h4⟩ hO hp rfl
      obtain ⟨px, hpx⟩ := val_ptr nd (HXB.out x (pre_mem hp))
      have HJX := Lib.hid h1
      have HLX := Lib.hid h2
      have HYX := Lib.hid h3
      have HEXX := Lib.hid h4
      have HPX := Lib.hid hpx
      have HO := Lib.hid hO
      have HP := Lib.hid hp
      rw [hpx]
      have HD3 : Hid (L2.heap.size + 1 < X.heap.size) := lt_of_heap hr
      clear hr h1 h2 h3 h4 hpx hO hp hsw hz hu hOs2
      gi_wp2
      refine ⟨Keeps2.refl _ _, Keep.refl _ _, ⟨HJX.out, HLX.out, HYX.out, HEXX.out⟩, fun V _ hkV hIV => ?_⟩
      obtain ⟨g1, g2, g3, g4⟩ := hIV
      have hsw := HSW.out
      have hz := HZ2.out
      have hu := HU2.out
      obtain ⟨fn, tmps, assign, body, hy, hRD⟩ := HR.out _ x _ _ V g1 (fun i h => h.elim (fun h => by have := HOS2b.out i h; have := HD3.out; have := hkV.size; exact ⟨by omega, by omega⟩) fun h => by have := HO.out i h; have := hkV.size; exact ⟨by omega, by omega⟩) (HPRE.out pre x HP.out) rfl
      rw [HPX.out] at hy
      have l1 : V.cell? ⟨W.heap.size, 0, none⟩ = some (.func (.yield l0) #[] #[]) := by rw [cell_of_cells g3]; rfl
      have HRD := Lib.hid hRD
      have HLV := Lib.hid g2
      have HYV := Lib.hid g3
      have HEXV := Lib.hid g4
      clear g1 g2 g3 g4 hkV hRD hsw hz hu
      gi_wp2
      refine ⟨fun h => (by cases h), RoundIn.mono (RoundIn.any HRD.out) ?_⟩
      rintro e V3 ⟨bb, rfl, hJ3, hk3⟩
      have HK3 := Lib.hid hk3
      have hb1 : Os2 L2.heap.size := HOS2.out _ (.inr ⟨by have := HZ2.out; omega, by have := HZ2.out; omega⟩)
      have hb2 : Os2 (L2.heap.size + 1) := HOS2.out _ (.inr ⟨by have := HZ2.out; omega, by have := HZ2.out; omega⟩)
      have HE1 : Hid (Keeps2 L2.heap.size V V3) := Keeps2.of_keep hk3 (fun h => h.2 (.inl hb1)) fun h => h.2 (.inl hb2)
      have HE2 : Hid (Keep (fun i => (w0.heap.size ≤ i ∧ i ≠ U2.heap.size ∧ i ≠ U2.heap.size + 1) ∧ ¬ O i) V V3) := hk3.mono fun i h => ⟨⟨h.1.1, fun e => h.2 (.inl (HOS2.out _ (.inr ⟨by omega, by omega⟩))), fun e => h.2 (.inl (HOS2.out _ (.inr ⟨by omega, by omega⟩)))⟩, fun h2 => h.2 (.inr h2)⟩
      have HE3 := Lib.hid (HLV.out.keep hk3 fun i h => h.1)
      have HE4 : Hid (V3.heap[W.heap.size]? = some (.cells #[.func (.yield l0) #[] #[]] 83 (0, 0))) := hk3.heap HYV.out fun h => h.2 (.inl (HOS2.out _ (.inl HOB2.out.1)))
      have HE5 : Hid (V3.heap[L1.heap.size]? = some (.deferred (some []))) := hk3.heap HEXV.out fun h => h.2 (.inl (HOS2.out _ (.inl HOD.out)))
      rw [List.append_assoc] at hJ3
      have HJ3 := Lib.hid hJ3
      clear hJ3 hk3 hb1 hb2 hy l1 HRD
      cases bb with
      | true =>
        gi_wp2
        exact ⟨HE1.out, HE2.out, HJ3.out, HE3.out, HE4.out, HE5.out⟩
      | false =>
        gi_wp2
        exact ⟨HE1.out, HE2.out, rfl, HJ3.out, HE5.out⟩
    case stop =>
      rintro D cc pre O X rfl hp ⟨rfl, h1, h4⟩ hd
      have HJX := Lib.hid h1
      have HD := Lib.hid hd
      have HP := Lib.hid hp
      have HDA := Lib.hid h4
      clear h1 h4 hd hp hsw hz hu hOs2
      refine wpIn_wide.2 ?_
      go_wp2_with fail
      refine ⟨by simp, .inl ⟨_, _, rfl, run_takeDeferred HD.out, ⟨by simp, .inl ⟨_, _, rfl, run_takeDeferred ((World.putObj_heap_other (by have := HD1.out; have := HZ2.out; omega)).trans HDA.out), ?_⟩⟩⟩⟩
      refine ⟨_, results_none rfl _ _ _, ⟨_, rfl⟩, Os2, .inr ⟨(leavesI a (d + 1)) ++ pre, ?_, HB.out false _ _ X _ _ HJX.out (((keep_putObj (M := Os2) X L2.heap.size _ (HOS2.out _ (.inr ⟨by have := HZ2.out; omega, by have := HZ2.out; omega⟩))).trans (keep_putObj (M := Os2) _ L1.heap.size _ (HOS2.out _ (.inl HOD.out)))).mono fun i h => .inl h) fun i h => .inl (.inl h)⟩⟩
      obtain ⟨r, hr⟩ := HP.out
      exact ⟨r, by rw [List.append_assoc, hr]; rfl⟩
    case done =>
      rintro D O X rfl ⟨h1, h2, h3, h4⟩ hd
      have HJX := Lib.hid h1
      have HD := Lib.hid hd
      have HDA := Lib.hid h4
      clear h1 h2 h3 h4 hd hsw hz hu hOs2
      go_wp2_with fail
      rw [rounds_succ]
      go_wp2_with fail
      refine ⟨by simp, .inl ⟨_, _, rfl, run_takeDeferred HD.out, ⟨by simp, .inl ⟨_, _, rfl, run_takeDeferred ((World.putObj_heap_other (by have := HD1.out; have := HZ2.out; omega)).trans HDA.out), ?_⟩⟩⟩⟩
      refine ⟨_, results_none rfl _ _ _, ⟨_, rfl⟩, Os2, .inl (HB.out true _ _ X _ _ HJX.out (((keep_putObj (M := Os2) X L2.heap.size _ (HOS2.out _ (.inr ⟨by have := HZ2.out; omega, by have := HZ2.out; omega⟩))).trans (keep_putObj (M := Os2) _ L1.heap.size _ (HOS2.out _ (.inl HOD.out)))).mono fun i h => .inl h) fun i h => .inl (.inl h))⟩
end Go.Proofs.YtjnhhcbplhmemaaDoor

/- A loop over a range function whose iterator hands over blocks that it made (H) with each element: the caller may keep them; the loop's law. Own work over any program. -/
namespace Go.Proofs.YtjnhhcbplhmemaaDoor
open Go.RowKit

/-- An iterator's word, where an element comes with blocks H that the iterator made and hands over (O: what it goes on to own). -/
def SeqH {α : Type} (P : Program) (g : FuncId) (lb : Array Value) (E : α → Array Value → (Nat → Prop) → (Nat → Prop) → World → Prop) (M : Nat → Prop) (xs : List α) (w : World) : Prop :=
  ∀ (n l : Nat) (J : Bool → List α → (Nat → Prop) → World → Prop) (W : World), Below w.heap.size w W → (∀ b s, BearsW (J b s)) →
    (∀ pre x O H args X, J true pre (fun i => O i ∨ H i) X → (∀ i, O i ∨ H i → W.heap.size ≤ i ∧ i < X.heap.size) → pre ++ [x] <+: xs → E x args O H X → YieldAt Fence.wide (n - 1) P l args X fun e Y => ∃ b, e = .returned (.bool b) ∧ J b (pre ++ [x]) O Y ∧ Keep (fun i => M i ∧ ¬ O i) X Y) →
    J true [] (fun _ => False) W →
    CallsIn Fence.wide n P g (#[.func (.yield l) #[] #[]] ++ lb) W fun e Y => (∃ v, e = .returned v) ∧ ∃ O, J true xs O Y ∨ ∃ pre, pre <+: xs ∧ J false pre O Y
/-- It is an iterator's word without handing over. -/
theorem SeqH.seqO {α : Type} {P : Program} {g : FuncId} {lb : Array Value} {E : α → Array Value → (Nat → Prop) → (Nat → Prop) → World → Prop} {E' : α → Array Value → World → Prop} {M : Nat → Prop} {xs : List α} {w : World} (h : SeqH P g lb E M xs w)
    (hE : ∀ x args O H X, E x args O H X → E' x args X) : SeqO P g lb E' M xs w := fun n l J W hW hJ hr h0 =>
  h n l J W hW hJ (fun pre x O H args X hj hO hp he => hr pre x O args X (hJ true pre _ X X _ hj (Keep.refl _ _) fun _ h => .inl (.inl h)) (fun i h => hO i (.inl h)) hp (hE x args O H X he)) h0
/-- The statement 'for .. := range g { .. }' at an outermost loop. -/
theorem wpIn_rangeH {α : Type} {P : Program} {n : Nat} {g : Operand} {ps : Array Tmp} {assign body : Code} {Q : Exit → Act → World → Prop} {a : Act} {w : World}
    {gf : Nat} {lb : Array Value} (hg : a.eval g = .func (.func gf) #[] lb) (eg : ∀ args w, (callFunc gf args).run P w = .ok (.enter gf args) w)
    {E : α → Array Value → (Nat → Prop) → (Nat → Prop) → World → Prop} {M : Nat → Prop} {xs : List α} (hseq : SeqH P gf lb E M xs w) (hM : ∀ i, w.heap.size ≤ i → i ≤ w.heap.size + 1 → M i) (hps : ∀ x args O H X, E x args O H X → args.size = ps.size)
    (I : List α → (Nat → Prop) → World → Prop) (Ix : Code → List α → (Nat → Prop) → World → Prop) (hI : ∀ s, BearsB w.heap.size (I s)) (hIo : ∀ s O, BearsL w.heap.size (I s O)) (hX : ∀ c s, BearsB w.heap.size (Ix c s)) (hXo : ∀ c s O, BearsL w.heap.size (Ix c s O)) (h0 : ∀ X, Below w.heap.size w X → I [] (fun _ => False) X)
    (hround : ∀ (l : Nat) (pre : List α) (x : α) (O H : Nat → Prop) (args : Array Value) (X : World), l = w.heap.size + 1 → (∃ r, X.heap[l]? = some (.loop r)) → I pre (fun i => O i ∨ H i) X → (∀ i, O i ∨ H i → w.heap.size + 2 ≤ i ∧ i < X.heap.size) → pre ++ [x] <+: xs → E x args O H X →
      assign.wpIn (Fence.wide.inRound l) (n - 1 - 1) P (Exit.then (fun a' Y => Keeps2 w.heap.size X Y ∧ Keep (fun i => M i ∧ ¬ O i) X Y ∧ I pre (fun i => O i ∨ H i) Y ∧ ∀ V, (∃ r, V.heap[l]? = some (.loop r)) → Keep (fun i => i = w.heap.size + 1) Y V → I pre (fun i => O i ∨ H i) V →
        body.wpIn (Fence.wide.inRound l) (n - 1 - 1) P (endO w.heap.size M O I Ix (pre ++ [x]) V) a' V) (fun _ _ _ => False)) { tmps := (ps.zip args).foldl (fun t (p, v) => t.setIfInBounds p v) a.tmps, defers := [] } X)
    (hdone : ∀ (D : Nat) (O : Nat → Prop) (X : World), D = w.heap.size → I xs O X → X.heap[D]? = some (.deferred (some [])) → Q .normal { a with defers := { target := .collected D, args := #[] } :: a.defers } X)
    (hstop : ∀ (D : Nat) (c : Code) (pre : List α) (O : Nat → Prop) (X : World), D = w.heap.size → pre <+: xs → Ix c pre O X → X.heap[D]? = some (.deferred (some [])) →
      c.wpIn Fence.wide n P Q { a with defers := { target := .collected D, args := #[] } :: a.defers } X) :
    (Code.rangeFunc g ps assign body).wpIn Fence.wide n P Q a w := by
  refine wpIn_rangeFunc fun fn hfn => ?_
  obtain ⟨rc, hrc⟩ : ∃ rc : LoopState → Option Code → Loop, rc = fun st pe => { state := st, pending := pe, fn, tmps := a.tmps, params := ps, assign, body, defers := w.heap.size } := ⟨_, rfl⟩
  obtain ⟨Z, hZ⟩ : ∃ Z, Z = (w.alloc (.deferred (some []))).alloc (.loop (rc .ready none)) := ⟨_, rfl⟩
  have zl : Z.heap[w.heap.size + 1]? = some (.loop (rc .ready none)) := by
    have := World.alloc_heap_new (w.alloc (.deferred (some []))) (.loop (rc .ready none))
    rwa [World.size_alloc, ← hZ] at this
  have zd : Z.heap[w.heap.size]? = some (.deferred (some [])) := by
    rw [hZ]
    exact (Below.heap_alloc _ _ _ (by simp)).trans (World.alloc_heap_new w _)
  have zs : Z.heap.size = w.heap.size + 2 := by rw [hZ]; simp
  have zb : Below w.heap.size w Z := by rw [hZ]; exact ((Below.refl _ w).alloc (Nat.le_refl _) _).alloc (by simp) _
  have ent := run_enterLoop_outer (P := P) (w := w) fn a.tmps ps assign body
  have hZ2 : (w.alloc (.deferred (some []))).alloc (.loop { state := .ready, pending := none, fn, tmps := a.tmps, params := ps, assign, body, defers := w.heap.size }) = Z := by rw [hZ, hrc]
  rw [hZ2] at ent
  refine ⟨_, _, Z, { target := .fn (.func gf) lb, args := #[.func (.yield (w.heap.size + 1)) #[] #[]] }, Z, gf, _, Z, ent, ?_, fun _ _ => trivial, ?_, (fun h => by cases h), (hseq (n - 1) (w.heap.size + 1) (JO w.heap.size rc I Ix) Z zb ?_ ?_ ⟨fun _ h => h.elim, zd, h0 Z zb, zl⟩).mono ?_⟩
  · simp only [resolve, hg]
    simp [go_sem]
  · simp [invoke, go_sem, eg]
  · rintro b s O X Y O' ⟨hO, hd, h⟩ hk ho
    have hnD : ¬ O w.heap.size := fun h => by have := hO _ h; omega
    have hnl : ¬ O (w.heap.size + 1) := fun h => by have := hO _ h; omega
    have hsz : w.heap.size + 2 ≤ X.heap.size := by
      cases b with
      | true => have := (Array.getElem?_eq_some_iff.1 h.2).1; omega
      | false => obtain ⟨c, _, h2⟩ := h; have := (Array.getElem?_eq_some_iff.1 h2).1; omega
    refine ⟨fun i hi => (ho i hi).elim (hO i) fun h => by omega, hk.heap hd hnD, ?_⟩
    cases b with
    | true => exact ⟨hI s O X Y O' h.1 hO hsz hk ho, hk.heap h.2 hnl⟩
    | false =>
      obtain ⟨c, h1, h2⟩ := h
      exact ⟨c, hX c s O X Y O' h1 hO hsz hk ho, hk.heap h2 hnl⟩
  · rintro pre x O H args X ⟨hOH, hd, hi, hl⟩ hOX hp hE
    have hO : ∀ i, O i → w.heap.size + 2 ≤ i := fun i h => hOH i (.inl h)
    rw [zs] at hOX
    refine ⟨_, _, _, _, run_yield hl (by rw [hrc]; exact hps x args O H X hE), roundIn_of_wpIn (by rw [hrc]; exact hfn) ?_⟩
    rw [hrc]
    refine wpIn_mono (hround _ pre x O H args X rfl ⟨_, hl⟩ hi hOX hp hE) fun e a' Y h => ?_
    cases e with
    | ret => exact h.elim
    | exit _ => exact h.elim
    | goto _ => exact h.elim
    | panic _ => exact h.elim
    | outgrown => exact h.elim
    | normal =>
    obtain ⟨hf, hm, hi2, hb⟩ := h
    have hl2 := hf _ _ (Nat.le_succ _) (Nat.le_refl _) hl rfl
    have hd2 := hf _ _ (Nat.le_refl _) (Nat.le_succ _) hd rfl
    refine ⟨_, run_beginRound hl2 (by rw [hrc]), ?_⟩
    obtain ⟨V, hV⟩ : ∃ V, V = Y.putObj (w.heap.size + 1) (.loop { rc .ready none with state := .busy }) := ⟨_, rfl⟩
    rw [← hV]
    have hnl : ¬ O (w.heap.size + 1) := fun h => by have := hO _ h; omega
    have vl : V.heap[w.heap.size + 1]? = some (.loop { rc .ready none with state := .busy }) := by rw [hV]; exact World.putObj_heap_same (Array.getElem?_eq_some_iff.1 hl2).1
    have vd : V.heap[w.heap.size]? = some (.deferred (some [])) := by rw [hV]; exact (World.putObj_heap_other (by omega)).trans hd2
    have vi : I pre (fun i => O i ∨ H i) V := by rw [hV]; exact hIo pre _ Y _ _ _ hi2 (Nat.le_succ _) (Nat.le_refl _) hl2 rfl
    have vk : Keep (fun i => i = w.heap.size + 1) Y V := by rw [hV]; exact keep_putObj _ _ _ rfl
    have vm : Keep (fun i => M i ∧ ¬ O i) Y V := by rw [hV]; exact keep_putObj _ _ _ ⟨hM _ (Nat.le_succ _) (Nat.le_refl _), hnl⟩
    refine wpIn_mono (hb V ⟨_, vl⟩ vk vi) fun e a3 U hu => ?_
    cases e with
    | normal =>
      obtain ⟨h1, h2, h3⟩ := hu
      obtain ⟨e1, e2, e3, o, e4, e5⟩ := round_end2 (P := P) (r' := rc .ready none) none vl vd h1 (by rw [hrc]; rfl)
      exact ⟨_, _, e1, true, rfl, ⟨hO, e2, hIo _ O U _ _ _ h3 (Nat.le_succ _) (Nat.le_refl _) e4 e5, by rw [hrc] at e3 ⊢; exact e3⟩, ((hm.trans vm).trans h2).trans (keep_putObj _ _ _ ⟨hM _ (Nat.le_succ _) (Nat.le_refl _), hnl⟩)⟩
    | ret =>
      obtain ⟨h1, h2, h3⟩ := hu
      obtain ⟨e1, e2, e3, o, e4, e5⟩ := round_end2 (P := P) (r' := rc .done (some .ret)) (some .ret) vl vd h1 (by rw [hrc]; rfl)
      exact ⟨_, _, e1, false, rfl, ⟨hO, e2, _, hXo _ _ O U _ _ _ h3 (Nat.le_succ _) (Nat.le_refl _) e4 e5, by rw [hrc] at e3 ⊢; exact e3⟩, ((hm.trans vm).trans h2).trans (keep_putObj _ _ _ ⟨hM _ (Nat.le_succ _) (Nat.le_refl _), hnl⟩)⟩
    | exit i =>
      obtain ⟨h1, h2, h3⟩ := hu
      obtain ⟨e1, e2, e3, o, e4, e5⟩ := round_end2 (P := P) (r' := rc .done (some (.exit i))) (some (.exit i)) vl vd h1 (by rw [hrc]; rfl)
      exact ⟨_, _, e1, false, rfl, ⟨hO, e2, _, hXo _ _ O U _ _ _ h3 (Nat.le_succ _) (Nat.le_refl _) e4 e5, by rw [hrc] at e3 ⊢; exact e3⟩, ((hm.trans vm).trans h2).trans (keep_putObj _ _ _ ⟨hM _ (Nat.le_succ _) (Nat.le_refl _), hnl⟩)⟩
    | goto t =>
      obtain ⟨h1, h2, h3⟩ := hu
      obtain ⟨e1, e2, e3, o, e4, e5⟩ := round_end2 (P := P) (r' := rc .done (some (.goto t))) (some (.goto t)) vl vd h1 (by rw [hrc]; rfl)
      exact ⟨_, _, e1, false, rfl, ⟨hO, e2, _, hXo _ _ O U _ _ _ h3 (Nat.le_succ _) (Nat.le_refl _) e4 e5, by rw [hrc] at e3 ⊢; exact e3⟩, ((hm.trans vm).trans h2).trans (keep_putObj _ _ _ ⟨hM _ (Nat.le_succ _) (Nat.le_refl _), hnl⟩)⟩
    | panic _ => exact hu.elim
    | outgrown => exact hu.elim
  · rintro e Y ⟨⟨v, rfl⟩, O, ⟨_, hd, hi, hl⟩ | ⟨pre, hp, _, hd, c, hi, hl⟩⟩
    · have := run_endLoop (P := P) hl (by rw [hrc]; simp)
      rw [show (rc .ready none).pending = none by rw [hrc]] at this
      exact ⟨_, _, this, hdone _ O _ rfl (hIo _ O Y _ _ _ hi (Nat.le_succ _) (Nat.le_refl _) hl rfl) ((World.putObj_heap_other (by omega)).trans hd)⟩
    · have := run_endLoop (P := P) hl (by rw [hrc]; simp)
      rw [show (rc .done (some c)).pending = some c by rw [hrc]] at this
      exact ⟨_, _, this, hstop _ c pre O _ rfl hp (hXo c _ O Y _ _ _ hi (Nat.le_succ _) (Nat.le_refl _) hl rfl) ((World.putObj_heap_other (by omega)).trans hd)⟩
end Go.Proofs.YtjnhhcbplhmemaaDoor

/- The program's iterators: over leaves at any subtree, over entries (All); All. -/
namespace Go.Proofs.YtjnhhcbplhmemaaDoor
open Go.RowKit
attribute [local go_sem] Oper.semAt_some

theorem leaves_seq {M : World → Int → Tv → Prop} (nd : NdV M) (w0 : World) (n : Int) : ∀ (T : Tv), M w0 n T → LvSeq w0 T
  | .nil, _ => lv_nil nd w0 n
  | .leaf v x, h => lv_leaf nd w0 n v x h
  | .inner v a b, h => lv_inner nd w0 n v a b h (leaves_seq nd w0 n a (nd.kids h).1) (leaves_seq nd w0 n b (nd.kids h).2)
/-- An entry that All yields, in memory: the value lies in a block that is handed over. -/
def EntH (x : Ent) (args : Array Value) (O H : Nat → Prop) (X : World) : Prop := x.k.length = 32 ∧ ∃ (A : Option Addr) (c : Nat), args = #[.agg (bA x.k), .slice A x.v.length c] ∧ BA X A x.v ∧ x.v.length ≤ c ∧ (x.v = [] ∨ ∃ g, A = some ⟨g, 0, none⟩ ∧ H g ∧ ¬ O g)
theorem EntH.e {x : Ent} {args : Array Value} {O H : Nat → Prop} {X : World} (h : EntH x args O H X) : EntE x args X := by
  obtain ⟨h1, A, c, h2, h3, h4, _⟩ := h
  exact ⟨h1, A, c, h2, h3, h4⟩
theorem NewB.blk {w : World} {B : Nat} {A : Option Addr} {c : Nat} {l : List UInt8} (h : NewB w B A c l) : l = [] ∨ ∃ g, A = some ⟨g, 0, none⟩ ∧ B ≤ g ∧ g < w.heap.size := by
  rcases h.2 with h | ⟨_, ⟨h1, h2⟩ | ⟨g, cap, cur, h1, h2, h3, _⟩⟩
  · exact .inl h
  · exact .inl (List.length_eq_zero_iff.1 h2)
  · injection h1 with h4
    exact .inr ⟨g, h4, h2, lt_of_heap h3⟩
@[go_sem ↓] theorem semAt_storeEntry (ro : Option Nat) (ρ : Operand → Value) (dst : Option Tmp) (x y : Operand) (type : TypeId) (pos : String) (after : Array Edge) (guard : Option (Nat × Bool)) (w : World) :
    Sem.run Tryd.prog (Oper.semAt ro ρ { dst, op := .store 34 x y, type, pos, after, guard }) w = stA 34 w (ρ x) (ρ y) := by cases ro <;> rfl
def entI (x : Nat × Tv) : Ent := entT x.2.tr
set_option maxHeartbeats 16000000 in
set_option maxRecDepth 100000 in
theorem all_seq {M : World → Int → Tv → Prop} (nd : NdV M) (w0 : World) (n : Int) (T : Tv) (l : List Ent) (w : World) (s : Nat) (hM : M w0 n T) (hT : IsMap l T) (ha : Asc l) (hbel : Below w0.heap.size w0 w) (hst : w.heap[s]? = some (.cells #[T.val] 23 (0, 0))) :
    SeqH Tryd.prog 28 #[.pointer (some ⟨s, 0, none⟩)] EntH (fun i => w0.heap.size ≤ i ∧ i ≠ s) l w := by
  intro n0 l0 J W hW hbear hround hJ0
  have hbW := hbel.trans (hW.mono hbel.size)
  have hsW : W.heap[s]? = some (.cells #[T.val] 23 (0, 0)) := by rw [hW.block _ (lt_of_heap hst)]; exact hst
  obtain ⟨pT, hpT⟩ := val_ptr nd hM
  obtain ⟨Y, hY⟩ : ∃ Y, Y = W.alloc (.cells #[.func (.yield l0) #[] #[]] 61) := ⟨_, rfl⟩
  have hbY : Below W.heap.size W Y := by rw [hY]; exact (Below.refl _ _).alloc (Nat.le_refl _) _
  have hyc : Y.heap[W.heap.size]? = some (.cells #[.func (.yield l0) #[] #[]] 61 (0, 0)) := by rw [hY]; exact heap_alloc_new W _
  have hsY : Y.heap.size = W.heap.size + 1 := by rw [hY]; simp
  have ly : Y.cell? ⟨s, 0, none⟩ = some (.pointer pT) := by rw [cell_of_cells (show Y.heap[s]? = _ by rw [hbY.block _ (lt_of_heap hsW)]; exact hsW), hpT]; rfl
  obtain ⟨L, hL⟩ : ∃ L, L = (Y.alloc (.cells #[.pointer pT] 23)).alloc (.cells #[.int .i64 0] 3) := ⟨_, rfl⟩
  have hbL : Below Y.heap.size Y L := by rw [hL]; exact ((Below.refl _ Y).alloc (Nat.le_refl _) _).alloc (by simp) _
  have HZ : Hid (L.heap.size = W.heap.size + 3) := by show _ = _; rw [hL]; simp [hsY]
  have hWL : Below W.heap.size W L := hbY.trans (hbL.mono hbY.size)
  have h0L : Below w0.heap.size w0 L := hbW.trans (hWL.mono hbW.size)
  have hLL : Lv w0 Y.heap.size (Y.heap.size + 1) T 0 L := ⟨h0L, by rw [hL, hpT]; exact heap_alloc2_old Y _ _, by rw [hL]; exact heap_alloc2_new Y _ _⟩
  have HSEQ := Lib.hid (leaves_seq nd w0 n T hM 0 l L Y.heap.size (Y.heap.size + 1) hT.sub (by decide) hLL)
  have HSY := Lib.hid hsY
  have HB := Lib.hid hbear
  have HR := Lib.hid hround
  have HJL : Hid (J true [] (fun i => W.heap.size ≤ i ∧ i < L.heap.size + 2) L) := hbear true [] _ W L _ hJ0 (Keep.of_below hWL) fun i h => .inr h.1
  have HY := Lib.hid hY
  have HL := Lib.hid hL
  have H0L := Lib.hid h0L
  have HYL : Hid (L.heap[W.heap.size]? = some (.cells #[.func (.yield l0) #[] #[]] 61 (0, 0))) := by show _ = _; rw [hbL.block _ (lt_of_heap hyc)]; exact hyc
  have HSW : Hid (s < W.heap.size ∧ w0.heap.size ≤ W.heap.size) := ⟨lt_of_heap hsW, hbW.size⟩
  have HMS := Lib.hid (leavesI_ms nd T 0 hM)
  have HLF := Lib.hid (leavesI_leaf T 0)
  have HENTS : Hid ((leavesI T 0).map entI = l) := leaves_ents hT ha
  have HPT := Lib.hid hpT
  rw [hY] at ly
  clear hM hT ha hbel hst hW hbear hround hJ0 hbW hsW hpT hY hbY hyc hsY hL hbL hWL h0L hLL
  refine callsIn_of_wp_marks Tryd.func28 rfl trivial ?_ rfl
  simp only [Tryd.ntmps28, List.size_toArray, List.length_cons, List.length_nil, Nat.reduceAdd, Nat.reduceSub, Array.replicate_succ, Array.replicate_zero, List.push_toArray, List.append_toArray, List.nil_append, List.cons_append]
  refine wpIn_wide.2 ?_
  go_wp2_with fail
  rw [← HY.out]
  refine (leaves_c pT 0 Y).mono ?_
  rintro e L' ⟨rfl, hLe⟩
  rw [hLe, ← HL.out]
  clear hLe ly HY HL
  go_wp2_with fail
  have hsw := HSW.out
  have hsy := HSY.out
  have hz := HZ.out
  refine (wpIn_wide (n := n0)).1 ?_
  obtain ⟨Os, hOs⟩ : ∃ Os : Nat → Prop, Os = fun i => W.heap.size ≤ i ∧ i < L.heap.size + 2 := ⟨_, rfl⟩
  have HOS : Hid (∀ i, Os i ↔ W.heap.size ≤ i ∧ i < L.heap.size + 2) := fun i => by rw [hOs]
  rw [← hOs] at HJL
  clear hOs
  have hos := HOS.out
  refine wpIn_rangeO (gf := 47) (lb := #[.pointer (some ⟨Y.heap.size, 0, none⟩), .pointer (some ⟨Y.heap.size + 1, 0, none⟩)]) rfl (enters_of Tryd.func47 (by kernel_rfl) rfl) HSEQ.out
    (fun i h1 h2 => ⟨by omega, by omega, by omega⟩) (fun x args X h => by rw [h]; rfl)
    (fun pre O X => J true (pre.map entI) (fun i => Os i ∨ O i) X ∧ X.heap[W.heap.size]? = some (.cells #[.func (.yield l0) #[] #[]] 61 (0, 0)) ∧ Below w0.heap.size w0 X)
    (fun c pre O X => c = .ret ∧ J false (pre.map entI) (fun i => Os i ∨ O i) X)
    (fun p O X Z O' ⟨h1, h2, h3⟩ hO hs hk ho => ⟨HB.out true _ _ X Z _ h1 (hk.mono fun i h => .inr h) (fun i h => h.elim (fun h => .inl (.inl h)) fun h => (ho i h).elim (fun h => .inl (.inr h)) .inr), hk.heap h2 fun h => by have := hO _ h; omega, h3.trans (hk.below h3.size fun i hi => by have := hO i hi; omega)⟩)
    (fun p O X m o o' ⟨h1, h2, h3⟩ hm hm2 _ _ => ⟨HB.out true _ _ X _ _ h1 (keep_putObj X m o' (.inl ((hos m).2 ⟨by omega, by omega⟩))) fun i h => .inl h, (World.putObj_heap_other (by omega)).trans h2, h3.trans ((keep_putObj (M := fun i => i = m) X m o' rfl).below h3.size fun i hi => by have e : i = m := hi; omega)⟩)
    (fun cc p O X Z O' ⟨h0, h1⟩ hO hs hk ho => ⟨h0, HB.out false _ _ X Z _ h1 (hk.mono fun i h => .inr h) (fun i h => h.elim (fun h => .inl (.inl h)) fun h => (ho i h).elim (fun h => .inl (.inr h)) .inr)⟩)
    (fun cc p O X m o o' ⟨h0, h1⟩ hm hm2 _ _ => ⟨h0, HB.out false _ _ X _ _ h1 (keep_putObj X m o' (.inl ((hos m).2 ⟨by omega, by omega⟩))) fun i h => .inl h⟩)
    (fun X hX => ⟨HB.out true [] _ L X _ HJL.out (Keep.of_below hX) fun i h => h.elim .inl fun h => h.elim, by rw [hX.block _ (by omega)]; exact HYL.out, H0L.out.trans (hX.mono H0L.out.size)⟩) ?round ?done ?stop
  case round =>
    rintro m pre x O args X rfl ⟨r, hr⟩ ⟨h1, h2, h3⟩ hO hp rfl
    obtain ⟨px, hpx⟩ := val_ptr nd (HMS.out x (pre_mem hp))
    have HJX := Lib.hid h1
    have HYX := Lib.hid h2
    have HBX := Lib.hid h3
    have HPX := Lib.hid hpx
    have HO := Lib.hid hO
    have HP := Lib.hid hp
    rw [hpx]
    have HD3 : Hid (L.heap.size + 1 < X.heap.size) := lt_of_heap hr
    clear hr h1 h2 h3 hpx hO hp hsw hz hsy hos
    gi_wp2
    refine ⟨Keeps2.refl _ _, Keep.refl _ _, ⟨HJX.out, HYX.out, HBX.out⟩, fun V _ hkV hIV => ?_⟩
    obtain ⟨g1, g2, g3⟩ := hIV
    have hen := nd.entry V n x.2 (nd.below (HMS.out x (pre_mem HP.out)) g3)
    obtain ⟨v, e, hxe⟩ := HLF.out x (pre_mem HP.out)
    have hkey := (nd.key (by have := HMS.out x (pre_mem HP.out); rw [hxe] at this; exact this)).1
    have hei : entI x = e := by unfold entI; rw [hxe]; rfl
    rw [HPX.out, hxe, show entT (Tv.leaf v e).tr = e from rfl] at hen
    have HEN := Lib.hid hen
    have HKEY := Lib.hid hkey
    have HEI := Lib.hid hei
    have HXV : Hid (X.heap.size ≤ V.heap.size) := hkV.size
    have HJV := Lib.hid g1
    have HYV := Lib.hid g2
    have HBV := Lib.hid g3
    clear g1 g2 g3 hen hkV hxe hkey hei
    gi_wp2
    refine ⟨trivial, fun h => (by cases h), (CallsIn.inRound _ (callsIn_wide.2 HEN.out)).mono ?_⟩
    rintro _ y1 ⟨A, c, rfl, hN, hb⟩
    obtain ⟨en, hen⟩ : ∃ en : En, en = ⟨e.k, A, e.v, c⟩ := ⟨_, rfl⟩
    have hek : en.k = e.k := by rw [hen]
    have hek32 : en.k.length = 32 := by rw [hek]; exact HKEY.out
    obtain ⟨y2, hy2⟩ : ∃ y2, y2 = y1.alloc (.cells (enC en).toArray 34) := ⟨_, rfl⟩
    have hb2 : Below y1.heap.size y1 y2 := by rw [hy2]; exact (Below.refl _ _).alloc (Nat.le_refl _) _
    have hbV : Below V.heap.size V y2 := hb.trans (hb2.mono hb.size)
    have st : stA 34 (y1.alloc (.cells (enC ⟨z26, none, [], 0⟩).toArray 34)) (.pointer (some ⟨y1.heap.size, 0, none⟩)) (.agg (enC en).toArray) = .ok .skip y2 := by rw [hy2]; exact stE_new hek32 rfl
    have hrow : y2.heap[y1.heap.size]? = some (.cells (enC en).toArray 34 (0, 0)) := by rw [hy2]; exact heap_alloc_new y1 _
    have hrg : y2.rangeAt y1.heap.size 0 (enC en) := fun j u hu => by rw [Nat.zero_add, cell_of_cells hrow]; simpa using hu
    have lk : ldA 31 y2 (.pointer (some ⟨y1.heap.size, 0, none⟩)) = .ok (.value (.agg (bA e.k))) y2 := by rw [← hek]; exact range_key hrg hek32
    have lv : y2.cell? ⟨y1.heap.size, 32, none⟩ = some (.slice A e.v.length c) := by have := range_val hrg hek32; rw [hen] at this; exact this
    have hyc2 : y2.heap[W.heap.size]? = some (.cells #[.func (.yield l0) #[] #[]] 61 (0, 0)) := by rw [hbV.block _ (lt_of_heap HYV.out)]; exact HYV.out
    have lc : y2.cell? ⟨W.heap.size, 0, none⟩ = some (.func (.yield l0) #[] #[]) := by rw [cell_of_cells hyc2]; rfl
    have hos := HOS.out
    have hd3 := HD3.out
    have hxv := HXV.out
    have hO := HO.out
    have hbs := hbV.size
    have hbs1 := hb.size
    have hbs2 := hb2.size
    have hz := HZ.out
    obtain ⟨fn, tmps, assign, body, hy, hRD⟩ := HR.out (pre.map entI) e (fun i => Os i ∨ O i) (fun i => V.heap.size ≤ i ∧ i < y2.heap.size) #[.agg (bA e.k), .slice A e.v.length c] y2
      (HB.out true _ _ V y2 _ HJV.out (Keep.of_below hbV) fun i h => h.elim .inl fun h => .inr h.1)
      (fun i h => h.elim (fun h => h.elim (fun h => by have := (hos i).1 h; omega) fun h => by have := hO i h; omega) fun h => by omega)
      (by rw [← HENTS.out, ← HEI.out]; have := HP.out.map entI; rwa [List.map_append] at this)
      ⟨HKEY.out, A, c, rfl, (NewB.ba hN).below hb2, hN.1, (NewB.blk hN).imp id fun ⟨g, h1, h2, h3⟩ => ⟨g, h1, ⟨h2, by omega⟩, fun h => h.elim (fun h => by have := (hos g).1 h; omega) fun h => by have := hO g h; omega⟩⟩
    have HRD := Lib.hid hRD
    have HBV2 := Lib.hid hbV
    have HYC2 := Lib.hid hyc2
    have HEN2 := Lib.hid hen
    rw [← hen]
    clear hy2 hb2 hbV hrow hrg hyc2 hos hd3 hxv hO hbs hbs1 hbs2 hz hRD HEN hb hek hek32 hen hN
    gi_wp2
    refine ⟨fun h => (by cases h), RoundIn.mono (RoundIn.any HRD.out) ?_⟩
    rintro _ V3 ⟨bb, rfl, hJ3, hk3⟩
    have hos := HOS.out
    have hsw := HSW.out
    have hsy := HSY.out
    have hz := HZ.out
    have HE1 : Hid (Keeps2 L.heap.size V V3) := fun k o h1 h2 h3 h4 => Keeps2.of_keep (B := L.heap.size) hk3 (fun h => h.2 (.inl ((hos _).2 ⟨by omega, by omega⟩))) (fun h => h.2 (.inl ((hos _).2 ⟨by omega, by omega⟩))) k o h1 h2 (by rw [HBV2.out.block _ (lt_of_heap h3)]; exact h3) h4
    have HE2 : Hid (Keep (fun i => (w0.heap.size ≤ i ∧ i ≠ Y.heap.size ∧ i ≠ Y.heap.size + 1) ∧ ¬ O i) V V3) := (Keep.of_below HBV2.out).trans (hk3.mono fun i h => ⟨⟨h.1.1, fun e => h.2 (.inl ((hos _).2 ⟨by omega, by omega⟩)), fun e => h.2 (.inl ((hos _).2 ⟨by omega, by omega⟩))⟩, fun h2 => h.2 (.inr h2)⟩)
    have HE4 : Hid (V3.heap[W.heap.size]? = some (.cells #[.func (.yield l0) #[] #[]] 61 (0, 0))) := hk3.heap HYC2.out fun h => h.2 (.inl ((hos _).2 ⟨by omega, by omega⟩))
    have HE5 : Hid (Below w0.heap.size w0 V3) := (HBV.out.trans (HBV2.out.mono HBV.out.size)).trans (hk3.below (Nat.le_trans HBV.out.size HBV2.out.size) fun i hi => hi.1.1)
    have HJ3 : Hid (J bb ((pre ++ [x]).map entI) (fun i => Os i ∨ O i) V3) := by show J _ _ _ _; rw [List.map_append, List.map_singleton, HEI.out]; exact hJ3
    clear hJ3 hk3 hy lk lv lc st HRD hos hsw hsy hz
    cases bb with
    | true =>
      gi_wp2
      exact ⟨HE1.out, HE2.out, HJ3.out, HE4.out, HE5.out⟩
    | false =>
      gi_wp2
      exact ⟨HE1.out, HE2.out, rfl, HJ3.out⟩
  case stop =>
    rintro D cc pre O X rfl hp ⟨rfl, h1⟩ hd
    have HJX := Lib.hid h1
    have HD := Lib.hid hd
    have HP := Lib.hid hp
    clear h1 hd hp hsw hz hsy hos
    refine wpIn_wide.2 ?_
    go_wp2_with fail
    refine ⟨by simp, .inl ⟨_, _, rfl, run_takeDeferred HD.out, ?_⟩⟩
    refine ⟨_, results_none rfl _ _ _, ⟨_, rfl⟩, Os, .inr ⟨pre.map entI, ?_, HB.out false _ _ X _ _ HJX.out (keep_putObj X _ _ (.inl ((HOS.out _).2 ⟨by have := HZ.out; omega, by omega⟩))) fun i h => .inl (.inl h)⟩⟩
    rw [← HENTS.out]
    exact HP.out.map _
  case done =>
    rintro D O X rfl ⟨h1, h2, h3⟩ hd
    rw [HENTS.out] at h1
    have HJX := Lib.hid h1
    have HD := Lib.hid hd
    clear h1 h2 h3 hd hsw hz hsy hos
    go_wp2_with fail
    refine ⟨by simp, .inl ⟨_, _, rfl, run_takeDeferred HD.out, ?_⟩⟩
    exact ⟨_, results_none rfl _ _ _, ⟨_, rfl⟩, Os, .inl (HB.out true _ _ X _ _ HJX.out (keep_putObj X _ _ (.inl ((HOS.out _).2 ⟨by have := HZ.out; omega, by omega⟩))) fun i h => .inl (.inl h))⟩
theorem all_call (p : Option Addr) (w : World) : Calls Tryd.prog 11 #[.pointer p] w fun e w' => e = .returned (.func (.func 28) #[] #[.pointer (some ⟨w.heap.size, 0, none⟩)]) ∧ w' = w.alloc (.cells #[.pointer p] 23) := by
  go_enter Tryd.func11, Tryd.ntmps11
  go_wp2_with fail
  go_ret
  exact ⟨rfl, rfl⟩
theorem all_h {M : World → Int → Tv → Prop} (nd : NdV M) (w0 w : World) (n : Int) (T : Tv) (l : List Ent) (hM : M w0 n T) (hb : Below w0.heap.size w0 w) (hT : IsMap l T) (ha : Asc l) (p : Option Addr) (hp : T.val = .pointer p) :
    Calls Tryd.prog 11 #[.pointer p] w fun e w' => e = .returned (.func (.func 28) #[] #[.pointer (some ⟨w.heap.size, 0, none⟩)]) ∧ Below w.heap.size w w' ∧ w'.heap.size = w.heap.size + 1 ∧
      ∀ Z, Keep (fun i => w0.heap.size ≤ i ∧ i ≠ w.heap.size) w' Z → SeqH Tryd.prog 28 #[.pointer (some ⟨w.heap.size, 0, none⟩)] EntH (fun i => w0.heap.size ≤ i ∧ i ≠ w.heap.size) l Z := by
  refine (all_call p w).mono ?_
  rintro _ w' ⟨rfl, hw⟩
  have hb' : Below w.heap.size w w' := by rw [hw]; exact (Below.refl _ _).alloc (Nat.le_refl _) _
  have hs : w'.heap[w.heap.size]? = some (.cells #[T.val] 23 (0, 0)) := by rw [hw, hp]; exact heap_alloc_new w _
  have h0 : Below w0.heap.size w0 w' := hb.trans (hb'.mono hb.size)
  exact ⟨rfl, hb', by rw [hw]; simp, fun Z hZ => all_seq nd w0 n T l Z w.heap.size hM hT ha (h0.trans (hZ.below h0.size fun i hi => hi.1)) (hZ.heap hs fun h => h.2 rfl)⟩
end Go.Proofs.YtjnhhcbplhmemaaDoor

/- Rows of entries and of numbers that the call owns: made with room, one more appended, told by the one block that changes. -/
namespace Go.Proofs.YtjnhhcbplhmemaaDoor
open Go.RowKit

theorem row11_other {w w' : World} {B : Nat} {e : TypeId} {size : Nat} {v : Value} {n : Nat} {xs : List Value} (h : w.ownsRow B e size v n xs) (hb : ∀ g cs, v.ownBlock = some g → w.heap[g]? = some (.cells cs e (0, 0)) → w'.heap[g]? = some (.cells cs e (0, 0))) : w'.ownsRow B e size v n xs := by
  obtain ⟨h0, h | ⟨g, cap, cur, rfl, hg, hh, hr⟩⟩ := h
  · exact ⟨h0, .inl h⟩
  · exact ⟨h0, .inr ⟨g, cap, cur, rfl, hg, hb g cur rfl hh, hr⟩⟩
theorem row11_lt {w : World} {B : Nat} {e : TypeId} {size : Nat} {v : Value} {n : Nat} {xs : List Value} (h : w.ownsRow B e size v n xs) : ∀ g, v.ownBlock = some g → B ≤ g ∧ ∃ cs, w.heap[g]? = some (.cells cs e (0, 0)) := fun g hg => by
  obtain ⟨_, h | ⟨g', cap, cur, rfl, hg', hh, _⟩⟩ := h
  · obtain ⟨rfl, _⟩ := h; simp [Value.ownBlock] at hg
  · simp [Value.ownBlock] at hg; subst hg; exact ⟨hg', cur, hh⟩
theorem row11_keep {w w' : World} {B : Nat} {e : TypeId} {size : Nat} {v : Value} {n : Nat} {xs : List Value} {L : Nat → Prop} (h : w.ownsRow B e size v n xs) (hk : Keep L w w') (hL : ∀ g, v.ownBlock = some g → ¬ L g) : w'.ownsRow B e size v n xs := row11_other h fun g _ hg hh => hk.heap hh (hL g hg)
theorem row11_obj {w : World} {B : Nat} {e : TypeId} {size : Nat} {v : Value} {n : Nat} {xs : List Value} {m : Nat} {o o' : Obj} (h : w.ownsRow B e size v n xs) (hm : w.heap[m]? = some o) (hc : o.isCells = false) : (w.putObj m o').ownsRow B e size v n xs := row11_other h fun g cs hg hh => by
  by_cases e : g = m
  · subst e; rw [hh] at hm; cases hm; cases hc
  · exact (World.putObj_heap_other e).trans hh
/-- What an append to one row leaves. -/
structure Grown11 (v v' : Value) (w w' : World) : Prop where
  by_ : w.grownBy w' v.ownBlock
  blk : v'.ownBlock = v.ownBlock ∨ v'.ownBlock = some w.heap.size
theorem Grown11.keep {v v' : Value} {w w' : World} (h : Grown11 v v' w w') : Keep (fun i => v.ownBlock = some i) w w' := ⟨h.by_.os, h.by_.tape, h.by_.output, h.by_.size, fun i hi hl => h.by_.block i hi fun e => hl e.symm⟩
/-! ### Entries -/
def mE (n : Nat) : Array Value := madeCells (Value.agg (((List.range 32).map fun _ => (0 : UInt8)).map bv ++ [Value.slice none 0 0]).toArray).cells (n * 33)
theorem make_ents (n : Nat) (hn : n ≤ 1000000) (w : World) : (Instr.makeSlice 22 (.int .i64 0) (.int .i64 (n : Int))).run Tryd.prog w = .ok (.slice (some ⟨w.heap.size, 0, none⟩) 0 n) (w.alloc (.cells (mE n) 34)) := by
  obtain ⟨i, hi, hz, hs, hb⟩ := info_parts infoE3
  have hr := run_make (P := Tryd.prog) w 22 34 i _ Tryd.underlying22 hi hz .i64 .i64 0 (n : Int) (by omega) (by omega) (by rw [hb]; omega) (by omega)
  rw [Int.toNat_natCast, hs] at hr
  exact hr
theorem own_ents (w : World) (n : Nat) (hn : n ≤ 1000000) : OwnE (w.alloc (.cells (mE n) 34)) w.heap.size (.slice (some ⟨w.heap.size, 0, none⟩) 0 n) [] :=
  ⟨rfl, .inr ⟨w.heap.size, n, mE n, rfl, Nat.le_refl _, heap_alloc_new w _, Nat.zero_le _, by unfold maxLen; omega, by unfold mE; rw [size_madeCells], by simp⟩⟩
theorem wpList_pushE11 {ops : Array Oper} {rest : List Oper} {o : Oper} {a : Act} {w : World} {Q : Exit → Act → World → Prop} (hgd : o.guard = none) (s x : Operand)
    (ho : o.op = .call { callee := .builtin .append, args := #[s, x], argTypes := #[22, 22] }) (B : Nat) (v : Value) (es : List En) (hs : a.eval s = v) (hown : OwnE w B v es) (g : Nat) (e : En) (hk : e.k.length = 32)
    (hx : a.eval x = .slice (some ⟨g, 0, none⟩) 1 1) (hr : w.rangeAt g 0 (enC e)) (hl : es.length ≤ 1000000) (hB : B ≤ w.heap.size)
    (h : ∀ v' w', OwnE w' B v' (es ++ [e]) → Grown11 v v' w w' → wpList Tryd.prog ops Q rest (a.put o.dst v') w') : wpList Tryd.prog ops Q (o :: rest) a w := by
  obtain ⟨i0, hi, hz0, hz1, hz2⟩ := info_parts infoE3
  refine wpList_append_own_at (w := w) hgd s x 22 ho B 34 i0 _ 33 56 Tryd.underlying22 hi hz0 hz1 hz2 rfl (by decide) v es.length (es.flatMap enC) hs hown ⟨g, 0, none⟩ 1 1 (enC e) hx (by rw [enC_len hk])
    (fun j u hj => ?_) (fun u hu => enC_one e u hu) (by unfold maxLen; omega) (by omega) hB fun v' w' h1 h2 _ h4 => h v' w' ?_ ⟨h2, h4⟩
  · have := hr j u hj
    rwa [show (⟨g, 0, none⟩ : Addr).add j = ⟨g, 0 + j, none⟩ from add_none g 0 j]
  · unfold OwnE
    rw [List.flatMap_append, List.length_append]
    simpa using h1
/-! ### Numbers -/
theorem infoI11 : (Tryd.prog.info? 3).map (fun i => (i.zero, i.size, i.bytes)) = some (some (.int .i64 0), 1, 8) := by kernel_rfl
def nI (x : Nat) : Value := .int .i64 (x : Int)
def OwnI (w : World) (B : Nat) (v : Value) (l : List Nat) : Prop := w.ownsRow B 3 1 v l.length (l.map nI)
def mI (n : Nat) : Array Value := madeCells (Value.int .i64 0).cells (n * 1)
theorem make_ints (n : Nat) (hn : n ≤ 1000000) (w : World) : (Instr.makeSlice 50 (.int .i64 0) (.int .i64 (n : Int))).run Tryd.prog w = .ok (.slice (some ⟨w.heap.size, 0, none⟩) 0 n) (w.alloc (.cells (mI n) 3)) := by
  obtain ⟨i, hi, hz, hs, hb⟩ := info_parts infoI11
  have hr := run_make (P := Tryd.prog) w 50 3 i _ Tryd.underlying50 hi hz .i64 .i64 0 (n : Int) (by omega) (by omega) (by rw [hb]; omega) (by omega)
  rw [Int.toNat_natCast, hs] at hr
  exact hr
theorem own_ints (w : World) (n : Nat) (hn : n ≤ 1000000) : OwnI (w.alloc (.cells (mI n) 3)) w.heap.size (.slice (some ⟨w.heap.size, 0, none⟩) 0 n) [] :=
  ⟨rfl, .inr ⟨w.heap.size, n, mI n, rfl, Nat.le_refl _, heap_alloc_new w _, Nat.zero_le _, by unfold maxLen; omega, by unfold mI; rw [size_madeCells], by simp⟩⟩
theorem OwnI.is {w : World} {B : Nat} {v : Value} {l : List Nat} (h : OwnI w B v l) : ∃ A c, v = .slice A l.length c ∧ IS w A l := by
  obtain ⟨h0, ⟨rfl, h⟩ | ⟨g, cap, cur, rfl, hg, hh, hn, hc, hs, ht⟩⟩ := h
  · exact ⟨none, 0, by rw [h], fun i x hi => by
      have : l = [] := List.length_eq_zero_iff.1 h
      subst this; simp at hi⟩
  · refine ⟨_, _, rfl, fun i x hi => ⟨g, 0, rfl, ?_⟩⟩
    rw [Nat.zero_add, cell_of_cells hh, ← Array.getElem?_toList]
    have hlt : i < l.length := (List.getElem?_eq_some_iff.1 hi).1
    have : (cur.toList.take (l.length * 1))[i]? = some (nI x) := by rw [ht]; simp [hi]
    rw [List.getElem?_take_of_lt (by omega)] at this
    exact this
theorem wpList_pushI {ops : Array Oper} {rest : List Oper} {o : Oper} {a : Act} {w : World} {Q : Exit → Act → World → Prop} (hgd : o.guard = none) (s x : Operand)
    (ho : o.op = .call { callee := .builtin .append, args := #[s, x], argTypes := #[50, 50] }) (B : Nat) (v : Value) (l : List Nat) (hs : a.eval s = v) (hown : OwnI w B v l) (g d : Nat)
    (hx : a.eval x = .slice (some ⟨g, 0, none⟩) 1 1) (hr : w.cell? ⟨g, 0, none⟩ = some (.int .i64 (d : Int))) (hl : l.length ≤ 1000000) (hB : B ≤ w.heap.size)
    (h : ∀ v' w', OwnI w' B v' (l ++ [d]) → Grown11 v v' w w' → wpList Tryd.prog ops Q rest (a.put o.dst v') w') : wpList Tryd.prog ops Q (o :: rest) a w := by
  obtain ⟨i0, hi, hz0, hz1, hz2⟩ := info_parts infoI11
  refine wpList_append_own_at (w := w) hgd s x 50 ho B 3 i0 _ 1 8 Tryd.underlying50 hi hz0 hz1 hz2 rfl (by decide) v l.length (l.map nI) hs hown ⟨g, 0, none⟩ 1 1 [nI d] hx rfl
    (fun j u hj => ?_) (fun u hu => ?_) (by unfold maxLen; omega) (by omega) hB fun v' w' h1 h2 _ h4 => h v' w' ?_ ⟨h2, h4⟩
  · match j, hj with
    | 0, hj =>
      simp at hj
      rw [← hj]
      simpa [Addr.add, nI] using hr
  · simp at hu; subst hu; rfl
  · unfold OwnI
    rw [List.map_append, List.length_append]
    simpa using h1
end Go.Proofs.YtjnhhcbplhmemaaDoor

/- The program's Entries: a loop over All that collects what is handed over. -/
namespace Go.Proofs.YtjnhhcbplhmemaaDoor
open Go.RowKit
attribute [local go_sem] Oper.semAt_some

theorem ba11_keep {V F : World} {g : Nat} {l : List UInt8} {L : Nat → Prop} (h : BA V (some ⟨g, 0, none⟩) l) (hk : Keep L V F) (hL : ¬ L g) : BA F (some ⟨g, 0, none⟩) l := fun j x hj => by
  obtain ⟨b, o, hA, hc⟩ := h j x hj
  cases hA
  exact ⟨_, _, rfl, hk.cellAt hc hL⟩
theorem ba11_nil (F : World) (A : Option Addr) {l : List UInt8} (h : l = []) : BA F A l := fun j x hj => by rw [h] at hj; simp at hj
theorem ba11_lt {V : World} {g : Nat} {l : List UInt8} (h : BA V (some ⟨g, 0, none⟩) l) : l = [] ∨ g < V.heap.size := by
  cases l with
  | nil => exact .inl rfl
  | cons y r =>
    obtain ⟨b, o, hA, hc⟩ := h 0 y rfl
    cases hA
    exact .inr (lt_of_cell hc)
/-- An entry in a row whose value lies in a block that was handed over. -/
def EnE (B : Nat) (O : Nat → Prop) (v : Value) (X : World) (e : En) : Prop := EnOk X e ∧ (e.v = [] ∨ ∃ g, e.A = some ⟨g, 0, none⟩ ∧ B + 2 ≤ g ∧ g < X.heap.size ∧ ¬ O g ∧ v.ownBlock ≠ some g)
theorem EnE.keep {B : Nat} {O O' L : Nat → Prop} {v v' : Value} {X Y : World} {e : En} (h : EnE B O v X e) (hk : Keep L X Y) (hL : ∀ g, B + 2 ≤ g → ¬ O g → v.ownBlock ≠ some g → ¬ L g) (hO : ∀ i, O' i → O i ∨ X.heap.size ≤ i) (hv : ∀ g, v'.ownBlock = some g → v.ownBlock = some g ∨ X.heap.size ≤ g) : EnE B O' v' Y e := by
  obtain ⟨⟨h1, h2, h3⟩, h4⟩ := h
  rcases h4 with h4 | ⟨g, hA, hB, hlt, hg, hvg⟩
  · exact ⟨⟨h1, h2, ba11_nil _ _ h4⟩, .inl h4⟩
  · rw [hA] at h3
    refine ⟨⟨h1, h2, by rw [hA]; exact ba11_keep h3 hk (hL g hB hg hvg)⟩, .inr ⟨g, hA, hB, Nat.lt_of_lt_of_le hlt hk.size, fun h => (hO g h).elim hg fun h => by omega, fun h => (hv g h).elim hvg fun h => by omega⟩⟩
structure EnI (w : World) (b1 lc sc B : Nat) (pre : List Ent) (O : Nat → Prop) (X : World) : Prop where
  bel : Below w.heap.size w X
  row : ∃ v es, X.heap[lc]? = some (.cells #[v] 22 (0, 0)) ∧ OwnE X b1 v es ∧ es.map En.ent = pre ∧ (∀ e ∈ es, EnE B O v X e) ∧ ∀ g, v.ownBlock = some g → g ≠ lc ∧ g ≠ sc ∧ ¬ O g
theorem EnI.keep {w : World} {b1 lc sc B : Nat} {pre : List Ent} {O O' L : Nat → Prop} {X Y : World} (h : EnI w b1 lc sc B pre O X) (hk : Keep L X Y) (hL : ∀ i, L i → O i) (hB : ∀ i, O i → B + 2 ≤ i) (hlc : lc < B) (hw : w.heap.size ≤ B) (hO : ∀ i, O' i → O i ∨ X.heap.size ≤ i) : EnI w b1 lc sc B pre O' Y := by
  obtain ⟨h0, v, es, h1, h2, h3, h4, h5⟩ := h
  refine ⟨h0.trans (hk.below h0.size fun i hi => by have := hB i (hL i hi); omega), v, es, hk.heap h1 fun h => by have := hB _ (hL _ h); omega, row11_keep h2 hk fun g hg h => (h5 g hg).2.2 (hL g h), h3, fun e he => (h4 e he).keep hk (fun g _ hg _ h => hg (hL g h)) hO fun g h => .inl h, fun g hg => ?_⟩
  obtain ⟨e1, e2, e3⟩ := h5 g hg
  exact ⟨e1, e2, fun h => (hO g h).elim e3 fun h => by
    obtain ⟨_, cs, hcs⟩ := row11_lt h2 g hg
    have := lt_of_heap hcs
    omega⟩
theorem EnI.obj {w : World} {b1 lc sc B : Nat} {pre : List Ent} {O : Nat → Prop} {X : World} {m : Nat} {o o' : Obj} (h : EnI w b1 lc sc B pre O X) (h1 : B ≤ m) (h2 : m ≤ B + 1) (hm : X.heap[m]? = some o) (hc : o.isCells = false) (hlc : lc < B) (hw : w.heap.size ≤ B) : EnI w b1 lc sc B pre O (X.putObj m o') := by
  obtain ⟨h0, v, es, g1, g2, g3, g4, g5⟩ := h
  have hk : Keep (fun i => i = m) X (X.putObj m o') := keep_putObj X m o' rfl
  exact ⟨h0.trans (hk.below h0.size fun i hi => by have e : i = m := hi; omega), v, es, (World.putObj_heap_other (by omega)).trans g1, row11_obj g2 hm hc, g3, fun e he => (g4 e he).keep hk (fun g hg _ _ h => by have e : g = m := h; omega) (fun i h => .inl h) fun g h => .inl h, g5⟩
/-- What a round of Entries leaves. -/
theorem en_push {w V Z w1 : World} {b1 lc sc B : Nat} {pre : List Ent} {O H : Nat → Prop} {v v' : Value} {es : List En} {en : En} {x : Ent} (hlc : lc < B) (hw : w.heap.size ≤ lc) (hls : lc ≠ sc) (hsc : sc < B) (hwb : w.heap.size ≤ b1)
    (hbel : Below w.heap.size w V) (hc : V.heap[lc]? = some (.cells #[v] 22 (0, 0))) (hown : OwnE V b1 v es) (hmap : es.map En.ent = pre) (hes : ∀ e ∈ es, EnE B (fun i => O i ∨ H i) v V e) (hrow : ∀ g, v.ownBlock = some g → g ≠ lc ∧ g ≠ sc ∧ ¬ (O g ∨ H g))
    (hen : EnOk V en) (hx : en.ent = x) (hblk : en.v = [] ∨ ∃ g, en.A = some ⟨g, 0, none⟩ ∧ H g ∧ ¬ O g) (hOB : ∀ i, O i ∨ H i → B + 2 ≤ i ∧ i < V.heap.size) (hBV : B < V.heap.size)
    (hZ : Below V.heap.size V Z) (hO' : OwnE w1 b1 v' (es ++ [en])) (hG : Grown11 v v' Z w1) :
    w1.cell? ⟨lc, 0, none⟩ = some v ∧ w1.frozen? ⟨lc, 0, none⟩ = false ∧ Hid (Keeps2 B V (w1.setCell ⟨lc, 0, none⟩ v') ∧ Keep (fun i => (w.heap.size ≤ i ∧ i ≠ sc) ∧ ¬ O i) V (w1.setCell ⟨lc, 0, none⟩ v') ∧ EnI w b1 lc sc B (pre ++ [x]) O (w1.setCell ⟨lc, 0, none⟩ v')) := by
  have hz1 : Z.heap[lc]? = some (.cells #[v] 22 (0, 0)) := by rw [hZ.block _ (lt_of_heap hc)]; exact hc
  have h1 : w1.heap[lc]? = some (.cells #[v] 22 (0, 0)) := hG.keep.heap hz1 fun e => (hrow lc e).1 rfl
  have k1 : Keep (fun i => i = lc) w1 (w1.setCell ⟨lc, 0, none⟩ v') := Keep.cell w1 ⟨lc, 0, none⟩ v'
  have hk : Keep (fun i => i = lc ∨ v.ownBlock = some i) V (w1.setCell ⟨lc, 0, none⟩ v') := ((Keep.of_below hZ).trans (hG.keep.mono fun _ h => .inr h)).trans (k1.mono fun _ h => .inl h)
  have hZs := hZ.size
  have hv' : ∀ g, v'.ownBlock = some g → v.ownBlock = some g ∨ g = Z.heap.size := fun g hg => hG.blk.imp (fun e => by rw [← e]; exact hg) fun e => by rw [e] at hg; cases hg; rfl
  have hlV := lt_of_heap hc
  have hL : ∀ i, (i = lc ∨ v.ownBlock = some i) → w.heap.size ≤ i ∧ i ≠ sc ∧ ¬ O i ∧ (V.heap[i]?.map Obj.isCells = some true) := fun i hi => by
    rcases hi with rfl | hi
    · exact ⟨hw, hls, fun h => by have := hOB _ (.inl h); omega, by rw [hc]; rfl⟩
    · obtain ⟨e1, e2, e3⟩ := hrow i hi
      obtain ⟨f1, cs, f2⟩ := row11_lt hown i hi
      exact ⟨by omega, e2, fun h => e3 (.inl h), by rw [f2]; rfl⟩
  refine ⟨by rw [cell_of_cells h1]; rfl, frozen_of_row w1 _ _ _ _ h1, fun k o hk1 hk2 ho hcl => ?_, hk.mono fun i hi => ⟨⟨(hL i hi).1, (hL i hi).2.1⟩, (hL i hi).2.2.1⟩, ?_⟩
  · refine hk.heap ho fun h => ?_
    have := (hL k h).2.2.2
    rw [ho] at this
    simp [hcl] at this
  · refine ⟨hbel.trans (hk.below hbel.size fun i hi => (hL i hi).1), v', es ++ [en], set_row h1, row11_keep hO' k1 fun g hg e => ?_, by rw [List.map_append, hmap]; show pre ++ [en.ent] = _; rw [hx], fun e he => ?_, fun g hg => ?_⟩
    · have e : g = lc := e
      rcases hv' g hg with h | h
      · exact (hrow g h).1 e
      · omega
    · have hOO : ∀ i, O i → (O i ∨ H i) ∨ V.heap.size ≤ i := fun i h => .inl (.inl h)
      have hvv : ∀ g, v'.ownBlock = some g → v.ownBlock = some g ∨ V.heap.size ≤ g := fun g hg => (hv' g hg).imp id fun h => by omega
      rcases List.mem_append.1 he with he | he
      · exact (hes e he).keep hk (fun g hg _ hvg h => h.elim (fun h => by omega) hvg) hOO hvv
      · rw [List.mem_singleton.1 he]
        obtain ⟨q1, q2, q3⟩ := hen
        rcases hblk with hb | ⟨g, hA, hH, hnO⟩
        · exact ⟨⟨q1, q2, ba11_nil _ _ hb⟩, .inl hb⟩
        · have hg := hOB g (.inr hH)
          rw [hA] at q3
          exact ⟨⟨q1, q2, by rw [hA]; exact ba11_keep q3 hk fun h => h.elim (fun h => by omega) fun h => (hrow g h).2.2 (.inr hH)⟩, .inr ⟨g, hA, hg.1, Nat.lt_of_lt_of_le hg.2 hk.size, hnO, fun h => (hv' g h).elim (fun h => (hrow g h).2.2 (.inr hH)) fun h => by omega⟩⟩
    · rcases hv' g hg with h | h
      · exact ⟨(hrow g h).1, (hrow g h).2.1, fun ho => (hrow g h).2.2 (.inl ho)⟩
      · exact ⟨by omega, by omega, fun ho => by have := hOB g (.inl ho); omega⟩
end Go.Proofs.YtjnhhcbplhmemaaDoor

/- The program's Entries, walked. -/
namespace Go.Proofs.YtjnhhcbplhmemaaDoor
open Go.RowKit
attribute [local go_sem] Oper.semAt_some

set_option maxHeartbeats 16000000 in
set_option maxRecDepth 100000 in
theorem entries_c {M : World → Int → Tv → Prop} (nd : NdV M) (w : World) (n : Int) (T : Tv) (l : List Ent) (hM : M w n T) (hT : IsMap l T) (ha : Asc l) (hl : l.length ≤ 100) :
    Calls Tryd.prog 14 #[T.val] w fun e w' => ∃ (A : Option Addr) (c : Nat) (es : List En), e = .returned (.slice A es.length c) ∧ EA w' A es ∧ es.map En.ent = l ∧ Below w.heap.size w w' := by
  obtain ⟨p, hp⟩ := val_ptr nd hM
  have hlen := hT.len
  have HLN := Lib.hid (nd.len w n T hM (by omega))
  rw [hp, hlen] at HLN
  have HM := Lib.hid hM
  have HT := Lib.hid hT
  have HAS := Lib.hid ha
  have HL := Lib.hid hl
  have HP := Lib.hid hp
  rw [hp]
  clear hM hT ha hl hp hlen
  refine (callsIn_wide (n := 10)).1 ?_
  refine callsIn_of_wp_marks Tryd.func14 rfl trivial ?_ rfl
  simp only [Tryd.ntmps14, List.size_toArray, List.length_cons, List.length_nil, Nat.reduceAdd, Nat.reduceSub, Array.replicate_succ, Array.replicate_zero, List.push_toArray, List.append_toArray, List.nil_append, List.cons_append]
  refine wpIn_wide.2 ?_
  go_wp2_with fail
  refine HLN.out.mono ?_
  rintro _ w1 ⟨rfl, hB1⟩
  have mk := make_ents l.length (by have := HL.out; omega) w1
  obtain ⟨Z1, hZ1⟩ : ∃ Z1, Z1 = w1.alloc (.cells (mE l.length) 34) := ⟨_, rfl⟩
  have hbZ : Below w1.heap.size w1 Z1 := by rw [hZ1]; exact (Below.refl _ _).alloc (Nat.le_refl _) _
  have hzs : Z1.heap.size = w1.heap.size + 1 := by rw [hZ1]; simp
  have hoZ : OwnE Z1 w1.heap.size (.slice (some ⟨w1.heap.size, 0, none⟩) 0 l.length) [] := by rw [hZ1]; exact own_ents w1 l.length (by have := HL.out; omega)
  rw [← hZ1] at mk
  obtain ⟨w2, hw2⟩ : ∃ w2, w2 = Z1.alloc (.cells #[.slice (some ⟨w1.heap.size, 0, none⟩) 0 l.length] 22) := ⟨_, rfl⟩
  have hb2 : Below Z1.heap.size Z1 w2 := by rw [hw2]; exact (Below.refl _ _).alloc (Nat.le_refl _) _
  have hs2 : w2.heap.size = w1.heap.size + 2 := by rw [hw2]; simp [hzs]
  have hlc : w2.heap[w1.heap.size + 1]? = some (.cells #[.slice (some ⟨w1.heap.size, 0, none⟩) 0 l.length] 22 (0, 0)) := by rw [hw2, ← hzs]; exact heap_alloc_new Z1 _
  have HO2 := Lib.hid (OwnE.below hoZ hb2)
  have hbw2 : Below w.heap.size w w2 := (hB1.trans (hbZ.mono hB1.size)).trans (hb2.mono (Nat.le_trans hB1.size hbZ.size))
  have HZS := Lib.hid hzs
  have HW2 := Lib.hid hw2
  have HB1 := Lib.hid hB1
  have HBW2 := Lib.hid hbw2
  have HS2 := Lib.hid hs2
  have HLC := Lib.hid hlc
  clear hZ1 hbZ hoZ hw2 hb2 hs2 hlc hbw2 hB1 HLN
  go_wp2_with fail
  rw [← HW2.out]
  refine (all_h nd w w2 n T l HM.out HBW2.out HT.out HAS.out p HP.out).mono ?_
  rintro _ w3 ⟨rfl, hb3, hs3, hseq⟩
  have HSEQ := Lib.hid (hseq w3 (Keep.refl _ _))
  have HE0 : Hid (EnI w w1.heap.size (w1.heap.size + 1) w2.heap.size w3.heap.size [] (fun _ => False) w3) := by
    have hs2 := HS2.out
    have hg : ∀ g, (Value.slice (some ⟨w1.heap.size, 0, none⟩) 0 l.length).ownBlock = some g → g ≠ w1.heap.size + 1 ∧ g ≠ w2.heap.size ∧ ¬ (fun _ : Nat => False) g := fun g hg => by
      have e : w1.heap.size = g := by simpa [Value.ownBlock] using hg
      exact ⟨by omega, by omega, fun h => h⟩
    exact ⟨HBW2.out.trans (hb3.mono HBW2.out.size), _, [], by rw [hb3.block _ (lt_of_heap HLC.out)]; exact HLC.out, OwnE.below HO2.out hb3, rfl, fun e he => absurd he (List.not_mem_nil), hg⟩
  have HS3 := Lib.hid hs3
  clear mk hb3 hs3 hseq
  go_wp2_with fail
  have hs2 := HS2.out
  have hs3 := HS3.out
  have hw1 := HB1.out.size
  refine (wpIn_wide (n := 10)).1 ?_
  refine wpIn_rangeH (gf := 28) (lb := #[.pointer (some ⟨w2.heap.size, 0, none⟩)]) rfl (enters_of Tryd.func28 (by kernel_rfl) rfl) HSEQ.out
    (fun i h1 h2 => ⟨by omega, by omega⟩) (fun x args O H X h => by obtain ⟨_, A, c, rfl, _⟩ := h; rfl)
    (EnI w w1.heap.size (w1.heap.size + 1) w2.heap.size w3.heap.size) (fun _ _ _ _ => False)
    (fun s O X Y O' h hO hs hk ho => h.keep hk (fun _ h => h) hO (by omega) (by omega) ho)
    (fun s O X m o o' h h1 h2 hm hc => h.obj h1 h2 hm hc (by omega) (by omega))
    (fun _ _ _ _ _ _ h => h.elim) (fun _ _ _ _ _ _ _ h => h.elim)
    (fun X hX => HE0.out.keep (Keep.of_below (L := fun _ => False) hX) (fun _ h => h) (fun _ h => h.elim) (by omega) (by omega) fun _ h => h.elim) ?round ?done ?stop
  case stop =>
    rintro D cc pre O X _ _ h _
    exact h.elim
  case round =>
    rintro m pre x O H args X rfl ⟨r, hr⟩ hI hO hp ⟨hxk, A, c, rfl, hba, hac, hblk⟩
    have st := stK11 (w := X) hxk
    have hD3 := lt_of_heap hr
    obtain ⟨Y3, hY3⟩ : ∃ Y3, Y3 = X.alloc (.cells (bA x.k) 31) := ⟨_, rfl⟩
    have hb3 : Below X.heap.size X Y3 := by rw [hY3]; exact (Below.refl _ _).alloc (Nat.le_refl _) _
    have hk3 : Y3.heap[X.heap.size]? = some (.cells (bA x.k) 31 (0, 0)) := by rw [hY3]; exact heap_alloc_new X _
    have hry : Y3.heap[w3.heap.size + 1]? = some (.loop r) := by rw [hb3.block _ hD3]; exact hr
    have hIY : EnI w w1.heap.size (w1.heap.size + 1) w2.heap.size w3.heap.size pre (fun i => O i ∨ H i) Y3 := hI.keep (Keep.of_below hb3) (fun _ h => h) (fun i h => (hO i h).1) (by omega) (by omega) fun i h => .inl h
    have HIY := Lib.hid hIY
    have HRY := Lib.hid hry
    have HBA3 := Lib.hid (hba.below hb3)
    have HAC := Lib.hid hac
    have HO := Lib.hid hO
    have HP2 := Lib.hid hp
    have HXK := Lib.hid hxk
    have HB3 := Lib.hid hb3
    have HK3 := Lib.hid hk3
    have HY3 := Lib.hid hY3
    have HBK := Lib.hid hblk
    have HD3 : Hid (w3.heap.size + 1 < X.heap.size) := hD3
    clear hr hI hO hp hxk hY3 hb3 hk3 hD3 hry hba hac hblk hIY hs2 hs3 hw1
    gi_wp2
    rw [← HY3.out]
    clear HY3 st
    refine ⟨keeps2_of (keepsO_below HB3.out) _, Keep.of_below HB3.out, HIY.out, fun V _ hkV hIV => ?_⟩
    obtain ⟨g0, v, es, g1, g2, g3, g4, g5⟩ := hIV
    have hd3 := HD3.out
    have hkb : V.heap[X.heap.size]? = some (.cells (bA x.k) 31 (0, 0)) := hkV.heap HK3.out (by omega)
    have hbaV : BA V A x.v := HBA3.out.loop HRY.out hkV
    have lk : ldA 31 V (.pointer (some ⟨X.heap.size, 0, none⟩)) = .ok (.value (.agg (bA x.k))) V := ldA_row (t' := 31) (fr := (0, 0)) hkb Tryd.underlying31 (by rw [bA_size, HXK.out]; exact infoKey)
    have lc : V.cell? ⟨w1.heap.size + 1, 0, none⟩ = some v := by rw [cell_of_cells g1]; rfl
    obtain ⟨en, hen⟩ : ∃ en : En, en = ⟨x.k, A, x.v, c⟩ := ⟨_, rfl⟩
    have hek : en.k.length = 32 := by rw [hen]; exact HXK.out
    have bl : ∀ w, bldA 34 w #[(0, .agg (bA x.k)), (1, .slice A x.v.length c)] = .ok (.value (.agg (enC en).toArray)) w := fun w => by rw [hen]; exact bldEntry ⟨x.k, A, x.v, c⟩ HXK.out w
    have bs := bsE_one en hek
    obtain ⟨Z, hZ⟩ : ∃ Z, Z = V.alloc (.cells (enC en).toArray 34) := ⟨_, rfl⟩
    have hbZ : Below V.heap.size V Z := by rw [hZ]; exact (Below.refl _ _).alloc (Nat.le_refl _) _
    have hrg : Z.rangeAt V.heap.size 0 (enC en) := fun j u hu => by rw [Nat.zero_add, cell_of_cells (show Z.heap[V.heap.size]? = _ by rw [hZ]; exact heap_alloc_new V _)]; simpa using hu
    have hVX : X.heap.size ≤ V.heap.size := Nat.le_trans HB3.out.size hkV.size
    have HVX : Hid (X.heap.size ≤ V.heap.size) := hVX
    have HZ := Lib.hid hZ
    have HBZ := Lib.hid hbZ
    have HRG := Lib.hid hrg
    have HEN := Lib.hid hen
    have HEK := Lib.hid hek
    have HBV := Lib.hid hbaV
    have G0 := Lib.hid g0
    have G1 := Lib.hid g1
    have G2 := Lib.hid g2
    have G3 := Lib.hid g3
    have G4 := Lib.hid g4
    have G5 := Lib.hid g5
    have HOZ := Lib.hid (OwnE.below g2 hbZ)
    have HEL : Hid (es.length ≤ 1000000) := by
      show _ ≤ _
      have h1 := congrArg List.length g3
      have h2 := pre_len HP2.out
      have h3 := HL.out
      rw [List.length_map] at h1
      omega
    have HBB : Hid (w1.heap.size ≤ Z.heap.size) := by show _ ≤ _; have h1 := hbZ.size; have h2 := HS2.out; have h3 := HS3.out; omega
    have HEO : Hid (EnOk V en) := by rw [hen]; exact ⟨HXK.out, HAC.out, hbaV⟩
    have HEX : Hid (en.ent = x) := by rw [hen]; rfl
    have HEB : Hid (en.v = [] ∨ ∃ g, en.A = some ⟨g, 0, none⟩ ∧ H g ∧ ¬ O g) := by rw [hen]; exact HBK.out
    have HOV : Hid (∀ i, O i ∨ H i → w3.heap.size + 2 ≤ i ∧ i < V.heap.size) := fun i h => by have := HO.out i h; omega
    have HSZ : Hid (w1.heap.size + 1 < w3.heap.size ∧ w.heap.size ≤ w1.heap.size ∧ w2.heap.size = w1.heap.size + 2 ∧ w2.heap.size < w3.heap.size ∧ w3.heap.size < V.heap.size) := by
      have h1 := HB1.out.size
      have h2 := HS2.out
      have h3 := HS3.out
      exact ⟨by omega, h1, h2, by omega, by omega⟩
    clear g0 g1 g2 g3 g4 g5 hen hek hZ hbZ hrg hVX hkb hbaV hkV hd3
    refine wpIn_block (round_region (fun ⟨_, _, h⟩ => h) (by rfl) ?_)
    go_wp2_with (at_builtin; rw [← HZ.out]; refine wpList_pushE11 rfl _ _ rfl w1.heap.size v es rfl HOZ.out V.heap.size en HEK.out rfl HRG.out HEL.out HBB.out ?_; intro v' w9 hO9 hG9; obtain ⟨hcell, hfroz, HFIN⟩ := en_push (B := w3.heap.size) (lc := w1.heap.size + 1) (sc := w2.heap.size) HSZ.out.1 (Nat.le_succ_of_le HSZ.out.2.1) (by have := HSZ.out.2.2.1; omega) HSZ.out.2.2.2.1 HSZ.out.2.1 G0.out G1.out G2.out G3.out G4.out G5.out HEO.out HEX.out HEB.out HOV.out HSZ.out.2.2.2.2 HBZ.out hO9 hG9; obtain ⟨A9, c9, rfl, _⟩ := OwnE.len hO9; obtain ⟨N, hN⟩ : ∃ N, N = (es ++ [en]).length := ⟨_, rfl⟩; rw [← hN] at HFIN ⊢; clear hO9 hG9 hN)
    exact HFIN.out
  case done =>
    rintro D O X rfl hI hd
    have hI2 := hI.obj (o' := .deferred none) (Nat.le_refl _) (Nat.le_succ _) hd rfl (by omega) (by omega)
    obtain ⟨_, v, es, g1, g2, g3, g4, _⟩ := hI
    have c1 : X.cell? ⟨w1.heap.size + 1, 0, none⟩ = some v := by rw [cell_of_cells g1]; rfl
    obtain ⟨q0, v', es', q1, q2, q3, q4, _⟩ := hI2
    have e1 : v' = v := by
      rw [World.putObj_heap_other (by omega), g1] at q1
      cases q1
      rfl
    subst e1
    obtain ⟨A, c, rfl, hc, hea⟩ := OwnE.ea q2 fun e he => (q4 e he).1
    have HF : Hid (EA (X.putObj w3.heap.size (.deferred none)) A es' ∧ es'.map En.ent = l ∧ Below w.heap.size w (X.putObj w3.heap.size (.deferred none))) := ⟨hea, q3, q0⟩
    have HD := Lib.hid hd
    clear hd g1 g2 g3 g4 q0 q1 q2 q3 q4 hea hs2 hs3 hw1
    go_wp2_with fail
    refine ⟨by simp, .inl ⟨_, _, rfl, run_takeDeferred HD.out, ?_⟩⟩
    exact ⟨_, results_tmp rfl _ _ _, A, c, es', rfl, HF.out⟩
end Go.Proofs.YtjnhhcbplhmemaaDoor

/- The program's Depths: a loop over the leaves that collects their depths. -/
namespace Go.Proofs.YtjnhhcbplhmemaaDoor
open Go.RowKit
attribute [local go_sem] Oper.semAt_some

def depI (x : Nat × Tv) : Nat := x.1
structure DpI (w : World) (b1 lc s B : Nat) (pre : List (Nat × Tv)) (O : Nat → Prop) (X : World) : Prop where
  bel : Below w.heap.size w X
  row : ∃ v, X.heap[lc]? = some (.cells #[v] 50 (0, 0)) ∧ OwnI X b1 v (pre.map depI) ∧ ∀ g, v.ownBlock = some g → g ≠ lc ∧ g ≠ s ∧ g ≠ s + 1 ∧ ¬ O g
theorem DpI.keep {w : World} {b1 lc s B : Nat} {pre : List (Nat × Tv)} {O O' L : Nat → Prop} {X Y : World} (h : DpI w b1 lc s B pre O X) (hk : Keep L X Y) (hL : ∀ i, L i → O i) (hB : ∀ i, O i → B + 2 ≤ i) (hlc : lc < B) (hw : w.heap.size ≤ B) (hO : ∀ i, O' i → O i ∨ X.heap.size ≤ i) : DpI w b1 lc s B pre O' Y := by
  obtain ⟨h0, v, h1, h2, h5⟩ := h
  refine ⟨h0.trans (hk.below h0.size fun i hi => by have := hB i (hL i hi); omega), v, hk.heap h1 fun h => by have := hB _ (hL _ h); omega, row11_keep h2 hk fun g hg h => (h5 g hg).2.2.2 (hL g h), fun g hg => ?_⟩
  obtain ⟨e1, e2, e4, e3⟩ := h5 g hg
  exact ⟨e1, e2, e4, fun h => (hO g h).elim e3 fun h => by
    obtain ⟨_, cs, hcs⟩ := row11_lt h2 g hg
    have := lt_of_heap hcs
    omega⟩
theorem DpI.obj {w : World} {b1 lc s B : Nat} {pre : List (Nat × Tv)} {O : Nat → Prop} {X : World} {m : Nat} {o o' : Obj} (h : DpI w b1 lc s B pre O X) (h1 : B ≤ m) (hm : X.heap[m]? = some o) (hc : o.isCells = false) (hlc : lc < B) (hw : w.heap.size ≤ B) : DpI w b1 lc s B pre O (X.putObj m o') := by
  obtain ⟨h0, v, g1, g2, g5⟩ := h
  have hk : Keep (fun i => i = m) X (X.putObj m o') := keep_putObj X m o' rfl
  exact ⟨h0.trans (hk.below h0.size fun i hi => by have e : i = m := hi; omega), v, (World.putObj_heap_other (by omega)).trans g1, row11_obj g2 hm hc, g5⟩
/-- What a round of Depths leaves. -/
theorem dp_push {w V Z w1 : World} {b1 lc s B : Nat} {pre : List (Nat × Tv)} {O : Nat → Prop} {v v' : Value} {x : Nat × Tv} (hlc : lc < B) (hw : w.heap.size ≤ lc) (hls : lc ≠ s ∧ lc ≠ s + 1) (hsc : s + 1 < B) (hwb : w.heap.size ≤ b1)
    (hbel : Below w.heap.size w V) (hc : V.heap[lc]? = some (.cells #[v] 50 (0, 0))) (hown : OwnI V b1 v (pre.map depI)) (hrow : ∀ g, v.ownBlock = some g → g ≠ lc ∧ g ≠ s ∧ g ≠ s + 1 ∧ ¬ O g)
    (hOB : ∀ i, O i → B + 2 ≤ i ∧ i < V.heap.size) (hBV : B < V.heap.size)
    (hZ : Below V.heap.size V Z) (hO' : OwnI w1 b1 v' (pre.map depI ++ [depI x])) (hG : Grown11 v v' Z w1) :
    w1.cell? ⟨lc, 0, none⟩ = some v ∧ w1.frozen? ⟨lc, 0, none⟩ = false ∧ Hid (Keeps2 B V (w1.setCell ⟨lc, 0, none⟩ v') ∧ Keep (fun i => (w.heap.size ≤ i ∧ i ≠ s ∧ i ≠ s + 1) ∧ ¬ O i) V (w1.setCell ⟨lc, 0, none⟩ v') ∧ DpI w b1 lc s B (pre ++ [x]) O (w1.setCell ⟨lc, 0, none⟩ v')) := by
  have hz1 : Z.heap[lc]? = some (.cells #[v] 50 (0, 0)) := by rw [hZ.block _ (lt_of_heap hc)]; exact hc
  have h1 : w1.heap[lc]? = some (.cells #[v] 50 (0, 0)) := hG.keep.heap hz1 fun e => (hrow lc e).1 rfl
  have k1 : Keep (fun i => i = lc) w1 (w1.setCell ⟨lc, 0, none⟩ v') := Keep.cell w1 ⟨lc, 0, none⟩ v'
  have hk : Keep (fun i => i = lc ∨ v.ownBlock = some i) V (w1.setCell ⟨lc, 0, none⟩ v') := ((Keep.of_below hZ).trans (hG.keep.mono fun _ h => .inr h)).trans (k1.mono fun _ h => .inl h)
  have hZs := hZ.size
  have hv' : ∀ g, v'.ownBlock = some g → v.ownBlock = some g ∨ g = Z.heap.size := fun g hg => hG.blk.imp (fun e => by rw [← e]; exact hg) fun e => by rw [e] at hg; cases hg; rfl
  have hlV := lt_of_heap hc
  have hL : ∀ i, (i = lc ∨ v.ownBlock = some i) → w.heap.size ≤ i ∧ i ≠ s ∧ i ≠ s + 1 ∧ ¬ O i ∧ (V.heap[i]?.map Obj.isCells = some true) := fun i hi => by
    rcases hi with rfl | hi
    · exact ⟨hw, hls.1, hls.2, fun h => by have := hOB _ h; omega, by rw [hc]; rfl⟩
    · obtain ⟨e1, e2, e4, e3⟩ := hrow i hi
      obtain ⟨f1, cs, f2⟩ := row11_lt hown i hi
      exact ⟨by omega, e2, e4, e3, by rw [f2]; rfl⟩
  refine ⟨by rw [cell_of_cells h1]; rfl, frozen_of_row w1 _ _ _ _ h1, fun k o hk1 hk2 ho hcl => ?_, hk.mono fun i hi => ⟨⟨(hL i hi).1, (hL i hi).2.1, (hL i hi).2.2.1⟩, (hL i hi).2.2.2.1⟩, ?_⟩
  · refine hk.heap ho fun h => ?_
    have := (hL k h).2.2.2.2
    rw [ho] at this
    simp [hcl] at this
  · refine ⟨hbel.trans (hk.below hbel.size fun i hi => (hL i hi).1), v', set_row h1, row11_keep (by rw [List.map_append]; exact hO') k1 fun g hg e => ?_, fun g hg => ?_⟩
    · have e : g = lc := e
      rcases hv' g hg with h | h
      · exact (hrow g h).1 e
      · omega
    · rcases hv' g hg with h | h
      · exact hrow g h
      · exact ⟨by omega, by omega, by omega, fun ho => by have := hOB g ho; omega⟩
set_option maxHeartbeats 16000000 in
set_option maxRecDepth 100000 in
theorem depths_c {M : World → Int → Tv → Prop} (nd : NdV M) (w : World) (n : Int) (T : Tv) (l : List Ent) (hM : M w n T) (hT : IsMap l T) (ha : Asc l) (hl : l.length ≤ 100) :
    Calls Tryd.prog 19 #[T.val] w fun e w' => ∃ (A : Option Addr) (c : Nat), e = .returned (.slice A l.length c) ∧ IS w' A (l.map fun x => depK l x.k) ∧ Below w.heap.size w w' := by
  obtain ⟨p, hp⟩ := val_ptr nd hM
  have hlen := hT.len
  have HLN := Lib.hid (nd.len w n T hM (by omega))
  rw [hp, hlen] at HLN
  have HM := Lib.hid hM
  have HT := Lib.hid hT
  have HL := Lib.hid hl
  have HP := Lib.hid hp
  have HDP : Hid ((leavesI T 0).map depI = l.map fun x => depK l x.k) := leaves_deps hT ha
  have HMS := Lib.hid (leavesI_ms nd T 0 hM)
  have HLL : Hid ((leavesI T 0).length = l.length) := by have := congrArg List.length (leaves_ents hT ha); rwa [List.length_map] at this
  rw [hp]
  clear hM hT ha hl hp hlen
  refine (callsIn_wide (n := 10)).1 ?_
  refine callsIn_of_wp_marks Tryd.func19 rfl trivial ?_ rfl
  simp only [Tryd.ntmps19, List.size_toArray, List.length_cons, List.length_nil, Nat.reduceAdd, Nat.reduceSub, Array.replicate_succ, Array.replicate_zero, List.push_toArray, List.append_toArray, List.nil_append, List.cons_append]
  refine wpIn_wide.2 ?_
  go_wp2_with fail
  refine HLN.out.mono ?_
  rintro _ w1 ⟨rfl, hB1⟩
  have mk := make_ints l.length (by have := HL.out; omega) w1
  obtain ⟨Z1, hZ1⟩ : ∃ Z1, Z1 = w1.alloc (.cells (mI l.length) 3) := ⟨_, rfl⟩
  have hbZ : Below w1.heap.size w1 Z1 := by rw [hZ1]; exact (Below.refl _ _).alloc (Nat.le_refl _) _
  have hzs : Z1.heap.size = w1.heap.size + 1 := by rw [hZ1]; simp
  have hoZ : OwnI Z1 w1.heap.size (.slice (some ⟨w1.heap.size, 0, none⟩) 0 l.length) [] := by rw [hZ1]; exact own_ints w1 l.length (by have := HL.out; omega)
  rw [← hZ1] at mk
  obtain ⟨w2, hw2⟩ : ∃ w2, w2 = Z1.alloc (.cells #[.slice (some ⟨w1.heap.size, 0, none⟩) 0 l.length] 50) := ⟨_, rfl⟩
  have hb2 : Below Z1.heap.size Z1 w2 := by rw [hw2]; exact (Below.refl _ _).alloc (Nat.le_refl _) _
  have hs2 : w2.heap.size = w1.heap.size + 2 := by rw [hw2]; simp [hzs]
  have hlc : w2.heap[w1.heap.size + 1]? = some (.cells #[.slice (some ⟨w1.heap.size, 0, none⟩) 0 l.length] 50 (0, 0)) := by rw [hw2, ← hzs]; exact heap_alloc_new Z1 _
  have hbw2 : Below w.heap.size w w2 := (hB1.trans (hbZ.mono hB1.size)).trans (hb2.mono (Nat.le_trans hB1.size hbZ.size))
  obtain ⟨w3, hw3⟩ : ∃ w3, w3 = (w2.alloc (.cells #[.pointer p] 23)).alloc (.cells #[.int .i64 0] 3) := ⟨_, rfl⟩
  have hb3 : Below w2.heap.size w2 w3 := by rw [hw3]; exact ((Below.refl _ w2).alloc (Nat.le_refl _) _).alloc (by simp) _
  have hs3 : w3.heap.size = w2.heap.size + 2 := by rw [hw3]; simp
  have hb03 : Below w.heap.size w w3 := hbw2.trans (hb3.mono hbw2.size)
  have hLv : Lv w w2.heap.size (w2.heap.size + 1) T 0 w3 := ⟨hb03, by rw [hw3, HP.out]; exact heap_alloc2_old w2 _ _, by rw [hw3]; exact heap_alloc2_new w2 _ _⟩
  have HSEQ := Lib.hid (leaves_seq nd w n T HM.out 0 l w3 w2.heap.size (w2.heap.size + 1) HT.out.sub (by decide) hLv)
  have HE0 : Hid (DpI w w1.heap.size (w1.heap.size + 1) w2.heap.size w3.heap.size [] (fun _ => False) w3) := by
    have hg : ∀ g, (Value.slice (some ⟨w1.heap.size, 0, none⟩) 0 l.length).ownBlock = some g → g ≠ w1.heap.size + 1 ∧ g ≠ w2.heap.size ∧ g ≠ w2.heap.size + 1 ∧ ¬ (fun _ : Nat => False) g := fun g hg => by
      have e : w1.heap.size = g := by simpa [Value.ownBlock] using hg
      exact ⟨by omega, by omega, by omega, fun h => h⟩
    exact ⟨hb03, _, by rw [hb3.block _ (lt_of_heap hlc)]; exact hlc, row11_keep hoZ (Keep.of_below (L := fun _ => False) (hb2.trans (hb3.mono hb2.size))) (fun _ _ h => h), hg⟩
  have HW2 := Lib.hid hw2
  have HW3 := Lib.hid hw3
  have HZS := Lib.hid hzs
  have HSZ : Hid (w.heap.size ≤ w1.heap.size ∧ w2.heap.size = w1.heap.size + 2 ∧ w3.heap.size = w2.heap.size + 2) := ⟨hB1.size, hs2, hs3⟩
  clear hZ1 hbZ hoZ hw2 hb2 hs2 hlc hbw2 hB1 HLN hw3 hb3 hs3 hb03 hLv
  go_wp2_with fail
  rw [← HW2.out]
  refine (leaves_c p 0 w2).mono ?_
  rintro e L' ⟨rfl, hLe⟩
  rw [hLe, ← HW3.out]
  clear hLe mk
  go_wp2_with fail
  obtain ⟨hs1, hs2, hs3⟩ := HSZ.out
  refine (wpIn_wide (n := 10)).1 ?_
  refine wpIn_rangeO (gf := 47) (lb := #[.pointer (some ⟨w2.heap.size, 0, none⟩), .pointer (some ⟨w2.heap.size + 1, 0, none⟩)]) rfl (enters_of Tryd.func47 (by kernel_rfl) rfl) HSEQ.out
    (fun i h1 h2 => ⟨by omega, by omega, by omega⟩) (fun x args X h => by rw [h]; rfl)
    (DpI w w1.heap.size (w1.heap.size + 1) w2.heap.size w3.heap.size) (fun _ _ _ _ => False)
    (fun s O X Y O' h hO hs hk ho => h.keep hk (fun _ h => h) hO (by omega) (by omega) ho)
    (fun s O X m o o' h h1 h2 hm hc => h.obj h1 hm hc (by omega) (by omega))
    (fun _ _ _ _ _ _ h => h.elim) (fun _ _ _ _ _ _ _ h => h.elim)
    (fun X hX => HE0.out.keep (Keep.of_below (L := fun _ => False) hX) (fun _ h => h) (fun _ h => h.elim) (by omega) (by omega) fun _ h => h.elim) ?round ?done ?stop
  case stop =>
    rintro D cc pre O X _ _ h _
    exact h.elim
  case round =>
    rintro m pre x O args X rfl ⟨r, hr⟩ hI hO hp rfl
    obtain ⟨px, hpx⟩ := val_ptr nd (HMS.out x (pre_mem hp))
    rw [hpx]
    have HI := Lib.hid hI
    have HO := Lib.hid hO
    have HP2 := Lib.hid hp
    have HD3 : Hid (w3.heap.size + 1 < X.heap.size) := lt_of_heap hr
    clear hr hI hO hp hpx hs1 hs2 hs3
    gi_wp2
    refine ⟨Keeps2.refl _ _, Keep.refl _ _, HI.out, fun V _ hkV hIV => ?_⟩
    obtain ⟨g0, v, g1, g2, g5⟩ := hIV
    have hd3 := HD3.out
    have hxv := hkV.size
    have lc : V.cell? ⟨w1.heap.size + 1, 0, none⟩ = some v := by rw [cell_of_cells g1]; rfl
    obtain ⟨Z, hZ⟩ : ∃ Z, Z = V.alloc (.cells #[.int .i64 (x.1 : Int)] 3) := ⟨_, rfl⟩
    have hbZ : Below V.heap.size V Z := by rw [hZ]; exact (Below.refl _ _).alloc (Nat.le_refl _) _
    have hcz : Z.cell? ⟨V.heap.size, 0, none⟩ = some (.int .i64 (x.1 : Int)) := by rw [cell_of_cells (show Z.heap[V.heap.size]? = _ by rw [hZ]; exact heap_alloc_new V _)]; rfl
    have HZ := Lib.hid hZ
    have HBZ := Lib.hid hbZ
    have HCZ := Lib.hid hcz
    have G0 := Lib.hid g0
    have G1 := Lib.hid g1
    have G2 := Lib.hid g2
    have G5 := Lib.hid g5
    have HOZ : Hid (OwnI Z w1.heap.size v (pre.map depI)) := row11_keep g2 (Keep.of_below (L := fun _ => False) hbZ) fun _ _ h => h
    have HEL : Hid ((pre.map depI).length ≤ 1000000) := by
      show _ ≤ _
      have h2 := pre_len HP2.out
      have h3 := HL.out
      have h4 := HLL.out
      rw [List.length_map]
      omega
    have HBB : Hid (w1.heap.size ≤ Z.heap.size) := by show _ ≤ _; have h1 := hbZ.size; have h2 := HSZ.out; omega
    have HOV : Hid (∀ i, O i → w3.heap.size + 2 ≤ i ∧ i < V.heap.size) := fun i h => by have := HO.out i h; omega
    have HS9 : Hid (w1.heap.size + 1 < w3.heap.size ∧ w.heap.size ≤ w1.heap.size ∧ (w1.heap.size + 1 ≠ w2.heap.size ∧ w1.heap.size + 1 ≠ w2.heap.size + 1) ∧ w2.heap.size + 1 < w3.heap.size ∧ w3.heap.size < V.heap.size) := by
      have h2 := HSZ.out
      exact ⟨by omega, by omega, ⟨by omega, by omega⟩, by omega, by omega⟩
    clear g0 g1 g2 g5 hZ hbZ hcz hkV hd3 hxv
    refine wpIn_block (round_region (fun ⟨_, _, h⟩ => h) (by rfl) ?_)
    go_wp2_with (at_builtin; rw [← HZ.out]; refine wpList_pushI rfl _ _ rfl w1.heap.size v (pre.map depI) rfl HOZ.out V.heap.size (depI x) rfl HCZ.out HEL.out HBB.out ?_; intro v' w9 hO9 hG9; obtain ⟨hcell, hfroz, HFIN⟩ := dp_push (x := x) (B := w3.heap.size) (lc := w1.heap.size + 1) (s := w2.heap.size) HS9.out.1 (Nat.le_succ_of_le HS9.out.2.1) HS9.out.2.2.1 HS9.out.2.2.2.1 HS9.out.2.1 G0.out G1.out G2.out G5.out HOV.out HS9.out.2.2.2.2 HBZ.out hO9 hG9; obtain ⟨A9, c9, rfl, _⟩ := OwnI.is hO9; obtain ⟨N, hN⟩ : ∃ N, N = (pre.map depI ++ [depI x]).length := ⟨_, rfl⟩; rw [← hN] at HFIN ⊢; clear hO9 hG9 hN)
    exact HFIN.out
  case done =>
    rintro D O X rfl hI hd
    have hI2 := hI.obj (o' := .deferred none) (Nat.le_refl _) hd rfl (by omega) (by omega)
    obtain ⟨_, v, g1, g2, _⟩ := hI
    have c1 : X.cell? ⟨w1.heap.size + 1, 0, none⟩ = some v := by rw [cell_of_cells g1]; rfl
    obtain ⟨q0, v', q1, q2, _⟩ := hI2
    have e1 : v' = v := by
      rw [World.putObj_heap_other (by omega), g1] at q1
      cases q1
      rfl
    subst e1
    rw [HDP.out] at q2
    obtain ⟨A, c, rfl, hea⟩ := OwnI.is q2
    rw [List.length_map] at c1
    have HF : Hid (IS (X.putObj w3.heap.size (.deferred none)) A (l.map fun x => depK l x.k) ∧ Below w.heap.size w (X.putObj w3.heap.size (.deferred none))) := ⟨hea, q0⟩
    have HD := Lib.hid hd
    clear hd g1 g2 q0 q1 q2 hea hs1 hs2 hs3
    go_wp2_with fail
    refine ⟨by simp, .inl ⟨_, _, rfl, run_takeDeferred HD.out, ?_⟩⟩
    exact ⟨_, results_tmp rfl _ _ _, A, c, rfl, HF.out⟩
end Go.Proofs.YtjnhhcbplhmemaaDoor

/- The program's Rank: down the way of a key. -/
namespace Go.Proofs.YtjnhhcbplhmemaaDoor
open Go.RowKit

theorem pcmpK_c (a b : List UInt8) (ha : a.length = 32) (hb : b.length = 32) (w : World) : Calls Tryd.prog 37 #[.agg (bA a), .agg (bA b)] w fun e w' => e = .returned (.int .i64 (cmpK a b)) ∧ Below w.heap.size w w' := by
  rw [bA_key a ha, bA_key b hb]
  exact Bt.compare_c (keyF a) (keyF b) (keyF_byt a) (keyF_byt b) w
theorem rank_one (x : Ent) (k : List UInt8) : rankK [x] k = if cmpK x.k k < 0 then 1 else 0 := by rw [rank_cons]; show _ + 0 = _; rw [Nat.add_zero]
set_option maxHeartbeats 8000000 in
set_option maxRecDepth 100000 in
theorem rank_c {M : World → Int → Tv → Prop} (nd : NdV M) (w : World) (n : Int) (T : Tv) (l : List Ent) (k : List UInt8) (hM : M w n T) (hT : IsMap l T) (hl : l.length ≤ 100) (hk : k.length = 32) :
    Calls Tryd.prog 17 #[T.val, .agg (bA k)] w fun e w' => e = .returned (.int .i64 (rankK l k : Int)) ∧ Below w.heap.size w w' := by
  obtain ⟨pT, hpT⟩ := val_ptr nd hM
  obtain ⟨X, hX⟩ : ∃ X, X = w.alloc (.cells (bA k) 31) := ⟨_, rfl⟩
  have hb0 : Below w.heap.size w X := by rw [hX]; exact (Below.refl _ _).alloc (Nat.le_refl _) _
  have hr0 : RowB X w.heap.size 31 k := by rw [hX]; exact RowB.alloc w k _
  obtain ⟨R, hR⟩ : ∃ R, R = rankK l k := ⟨_, rfl⟩
  have hRl : R ≤ 100 := by rw [hR]; exact Nat.le_trans (rankK_le l k) hl
  have HX := Lib.hid hX
  have HB0 := Lib.hid hb0
  have HR0 := Lib.hid hr0
  have HS := Lib.hid hT.sep
  have HK := Lib.hid hk
  have HLL : Hid (l.length ≤ 100) := hl
  have HST : Hid (T.val = .pointer pT ∧ M w n T ∧ At l k 0 T ∧ 0 + rankK (dK l k 0) k = R) := ⟨hpT, hM, hT.at k, by rw [hR, Nat.zero_add]; rfl⟩
  rw [hpT, ← hR]
  clear hpT hX hb0 hr0 hM hT hl hk hR
  go_enter Tryd.func17, Tryd.ntmps17
  go_wp2_with fail
  rw [← HX.out]
  clear HX
  go_loopg [0, 5, 6] 256 (fun gg nv cv dv wr => ∃ (d N : Nat) (S : Tv) (pS : Option Addr), nv = .pointer pS ∧ cv = .int .i64 (N : Int) ∧ dv = .int .i64 (d : Int) ∧ d ≤ 256 ∧ 256 - d = gg ∧ Hid (S.val = .pointer pS ∧ M w n S ∧ At l k d S ∧ N + rankK (dK l k d) k = R) ∧ Below X.heap.size X wr)
  case atStart => exact ⟨0, 0, T, pT, rfl, rfl, rfl, by omega, rfl, HST.out, Below.refl _ _⟩
  case round =>
    obtain ⟨d, N, S, pS, rfl, rfl, rfl, hd, rfl, HRR, hB⟩ := hrel
    obtain ⟨hpS, hMS, hat, hcn⟩ := HRR.out
    have hbw : Below w.heap.size w wr := HB0.out.trans (hB.mono HB0.out.size)
    have HMQ : Hid (∀ y, Below wr.heap.size wr y → M y n S) := fun y hy => nd.below hMS (hbw.trans (hy.mono hbw.size))
    have HKD : Hid (∀ y, Below wr.heap.size wr y → Calls Tryd.prog 33 #[.pointer pS] y fun e w' => e = .returned (.int .i64 (kindT S.tr)) ∧ Below y.heap.size y w') := fun y hy => by
      have := nd.kind y n S (HMQ.out y hy)
      rwa [hpS] at this
    have HKB : Hid (∀ y, Below wr.heap.size wr y → ldA 31 y (.pointer (some ⟨w.heap.size, 0, none⟩)) = .ok (.value (.agg (bA k))) y) := fun y hy => ((HR0.out.below hB).below hy).ldKey HK.out
    have HBW := Lib.hid hbw
    have HBX := Lib.hid hB
    have HMS := Lib.hid hMS
    cases S with
    | nil =>
      have hz : N = R := by rw [At.nil11 HS.out hat] at hcn; exact hcn
      rw [show kindT Tv.nil.tr = 0 from rfl] at HKD
      clear hpS hMS hat hcn hbw hB HRR
      go_wp2_with fail
      refine (HKD.out wr (Below.refl _ _)).mono ?_
      rintro _ w2 ⟨rfl, hB2⟩
      have HB2 := Lib.hid hB2
      have HK2 : Hid (∀ x : Later w2, Calls Tryd.prog 33 #[.pointer pS] x.w fun e w' => e = .returned (.int .i64 0) ∧ Below x.w.heap.size x.w w') := fun x => HKD.out x.w (HB2.out.trans (x.h.mono HB2.out.size))
      clear hB2 HKD
      go_wp2_with fail
      refine wp_region_later (by kernel_rfl) (by kernel_rfl) ?_
      repeat (go_big_quiet_step ((first | (go_at_call 33; exact Later.call (HK2.out _)))))
      refine wpQuiet_nil ?_
      rintro _ ⟨x, rfl⟩
      go_wp2_with fail
      go_ret
      subst hz
      have hb := HB0.out.trans (HBX.out.mono HB0.out.size)
      have hb2 := hb.trans (HB2.out.mono hb.size)
      exact ⟨rfl, hb2.trans (x.h.mono hb2.size)⟩
    | leaf v e =>
      obtain ⟨hke, _⟩ := nd.key hMS
      have hz : N + (if cmpK e.k k < 0 then 1 else 0) = R := by rw [At.leaf11 HS.out hat, rank_one] at hcn; exact hcn
      rw [show kindT (Tv.leaf v e).tr = 1 from rfl] at HKD
      obtain ⟨q, hq⟩ : ∃ q, q = e.k ++ digL n (valL e.v) := ⟨_, rfl⟩
      have fx : ∀ w, (Instr.field 72 (.agg (bA q)) 0).run Tryd.prog w = .ok (.agg (bA e.k)) w := fun w => by
        rw [hq, field_leafKey _ (by rw [List.length_append, hke, dig_len]) w, List.take_append_of_le_length (by omega), List.take_of_length_le (by omega)]
      have HLQ : Hid (∀ y, Below wr.heap.size wr y → Calls Tryd.prog 38 #[.pointer pS] y fun e w' => e = .returned (.agg (bA q)) ∧ Below y.heap.size y w') := fun y hy => by
        have := nd.leafOf y n _ (HMQ.out y hy)
        rw [hpS] at this
        rw [hq]
        exact this
      have HKE := Lib.hid hke
      clear hpS hMS hat hcn hbw hB HRR hq hke
      go_wp2_with fail
      refine (HKD.out wr (Below.refl _ _)).mono ?_
      rintro _ w2 ⟨rfl, hB2⟩
      have HB2 := Lib.hid hB2
      have HK2 : Hid (∀ x : Later w2, Calls Tryd.prog 33 #[.pointer pS] x.w fun e w' => e = .returned (.int .i64 1) ∧ Below x.w.heap.size x.w w') := fun x => HKD.out x.w (HB2.out.trans (x.h.mono HB2.out.size))
      have HL2 : Hid (∀ x : Later w2, Calls Tryd.prog 38 #[.pointer pS] x.w fun e w' => e = .returned (.agg (bA q)) ∧ Below x.w.heap.size x.w w') := fun x => HLQ.out x.w (HB2.out.trans (x.h.mono HB2.out.size))
      have lk : ∀ x : Later w2, ldA 31 x.w (.pointer (some ⟨w.heap.size, 0, none⟩)) = .ok (.value (.agg (bA k))) x.w := fun x => HKB.out x.w (HB2.out.trans (x.h.mono HB2.out.size))
      have hN : N ≤ 100 := by omega
      have hb := HB0.out.trans (HBX.out.mono HB0.out.size)
      have HBF := Lib.hid (hb.trans (HB2.out.mono hb.size))
      clear hB2 HKD HLQ hb
      by_cases hq : cmpK e.k k < 0
      · have e1 : decide (cmpK e.k k < 0) = true := decide_eq_true hq
        have HF : Hid (N + 1 = R) := by rw [if_pos hq] at hz; exact hz
        clear hq hz
        go_wp2_with fail
        refine wp_region_later (by kernel_rfl) (by kernel_rfl) ?_
        repeat (go_big_quiet_step ((first | (go_at_call 33; exact Later.call (HK2.out _)) | (go_at_call 38; exact Later.call (HL2.out _)) | (go_at_call 37; exact Later.call (pcmpK_c _ _ HKE.out HK.out _)))))
        refine wpQuiet_nil ?_
        rintro _ ⟨x, rfl⟩
        clear lk fx
        go_wp2_with fail
        go_ret
        exact ⟨by rw [← HF.out]; rfl, HBF.out.trans (x.h.mono HBF.out.size)⟩
      · have e1 : decide (cmpK e.k k < 0) = false := decide_eq_false hq
        have HF : Hid (N = R) := by rw [if_neg hq] at hz; exact hz
        clear hq hz
        go_wp2_with fail
        refine wp_region_later (by kernel_rfl) (by kernel_rfl) ?_
        repeat (go_big_quiet_step ((first | (go_at_call 33; exact Later.call (HK2.out _)) | (go_at_call 38; exact Later.call (HL2.out _)) | (go_at_call 37; exact Later.call (pcmpK_c _ _ HKE.out HK.out _)))))
        refine wpQuiet_nil ?_
        rintro _ ⟨x, rfl⟩
        clear lk fx
        go_wp2_with fail
        go_ret
        exact ⟨by rw [← HF.out]; rfl, HBF.out.trans (x.h.mono HBF.out.size)⟩
    | inner v a b =>
      obtain ⟨hMa, hMb⟩ := nd.kids hMS
      obtain ⟨pa, hpa⟩ := val_ptr nd hMa
      obtain ⟨pb, hpb⟩ := val_ptr nd hMb
      obtain ⟨h256, hat2⟩ := At.child HS.out hat rfl
      have hst := rank_step HS.out HK.out hat
      have hbit := bitK_01 k d h256
      rw [show kindT (Tv.inner v a b).tr = 2 from rfl] at HKD
      have HLF : Hid (∀ y, Below wr.heap.size wr y → Calls Tryd.prog 35 #[.pointer pS] y fun e w' => e = .returned (.pointer pa) ∧ Below y.heap.size y w') := fun y hy => by
        have := nd.left y n _ (HMQ.out y hy)
        rw [hpS] at this
        rw [← hpa]
        exact this
      have HRT : Hid (∀ y, Below wr.heap.size wr y → Calls Tryd.prog 36 #[.pointer pS] y fun e w' => e = .returned (.pointer pb) ∧ Below y.heap.size y w') := fun y hy => by
        have := nd.right y n _ (HMQ.out y hy)
        rw [hpS] at this
        rw [← hpb]
        exact this
      obtain ⟨la, hla⟩ : ∃ la, la = lenT a.tr := ⟨_, rfl⟩
      have hla9 : lenT a.tr ≤ 1000000000 := by
        have h1 := (At.both HS.out hat 0).1
        have h2 := dK_len l k d
        have h3 := HLL.out
        show _ ≤ _
        have h4 : lenT (Tv.inner v a b).tr = lenT a.tr + lenT b.tr := rfl
        omega
      have HLN : Hid (∀ y, Below wr.heap.size wr y → Calls Tryd.prog 31 #[.pointer pa] y fun e w' => e = .returned (.int .i64 (la : Int)) ∧ Below y.heap.size y w') := fun y hy => by
        have := nd.len y n a (nd.kids (HMQ.out y hy)).1 hla9
        rw [hpa] at this
        rw [hla]
        exact this
      rw [← hla] at hst
      obtain ⟨bt, hbt⟩ : ∃ bt, bt = bitK k d := ⟨_, rfl⟩
      rw [← hbt] at hst hat2 hbit
      have HBT := Lib.hid hbt
      have HMA := Lib.hid hMa
      have HMB := Lib.hid hMb
      have HPA := Lib.hid hpa
      have HPB := Lib.hid hpb
      have HCN : Hid (N + rankK (dK l k d) k = R) := hcn
      have HSTP := Lib.hid hst
      have HAT2 := Lib.hid hat2
      clear hpS hMS hat hcn hbw hB HRR hMa hMb hpa hpb hst hla hla9 hbt hat2
      go_wp2_with fail
      refine (HKD.out wr (Below.refl _ _)).mono ?_
      rintro _ w2 ⟨rfl, hB2⟩
      have HB2 := Lib.hid hB2
      have lk := HKB.out w2 hB2
      clear hB2 HKD
      go_wp2_with fail
      refine (pbitK_c k HK.out (d : Int) w2).mono ?_
      rintro _ w3 ⟨rfl, hB3⟩
      rw [← HBT.out]
      have HB3 := Lib.hid (HB2.out.trans (hB3.mono HB2.out.size))
      clear hB3 lk
      by_cases hz : bt = 0
      · subst hz
        have HC : Hid (N + rankK (dK l k (d + 1)) k = R) := by have h1 := HCN.out; have h2 := HSTP.out; rw [if_pos rfl] at h2; show _ = _; omega
        clear hbit
        go_wp2_with fail
        refine (HLF.out w3 HB3.out).mono ?_
        rintro _ w4 ⟨rfl, hB4⟩
        have HB4 := Lib.hid (HB3.out.trans (hB4.mono HB3.out.size))
        clear hB4
        go_wp2_with fail
        go_roundg (256 - (d + 1))
        case measure => omega
        case rel => exact ⟨d + 1, N, a, pa, rfl, rfl, by go_num, by omega, rfl, ⟨HPA.out, HMA.out, HAT2.out, HC.out⟩, HBX.out.trans (HB4.out.mono HBX.out.size)⟩
      · have h1 : bt = 1 := by omega
        subst h1
        have HC : Hid (N + la + rankK (dK l k (d + 1)) k = R) := by have h1 := HCN.out; have h2 := HSTP.out; rw [if_neg (by decide)] at h2; show _ = _; omega
        have hNl : N + la ≤ 100 := by have := HC.out; omega
        clear hbit hz
        go_wp2_with fail
        refine (HLF.out w3 HB3.out).mono ?_
        rintro _ w4 ⟨rfl, hB4⟩
        have HB4 := Lib.hid (HB3.out.trans (hB4.mono HB3.out.size))
        clear hB4
        go_wp2_with fail
        refine (HLN.out w4 HB4.out).mono ?_
        rintro _ w5 ⟨rfl, hB5⟩
        have HB5 := Lib.hid (HB4.out.trans (hB5.mono HB4.out.size))
        clear hB5
        go_wp2_with fail
        refine (HRT.out w5 HB5.out).mono ?_
        rintro _ w6 ⟨rfl, hB6⟩
        have HB6 := Lib.hid (HB5.out.trans (hB6.mono HB5.out.size))
        clear hB6
        go_wp2_with fail
        go_roundg (256 - (d + 1))
        case measure => omega
        case rel => exact ⟨d + 1, N + la, b, pb, rfl, by go_num, by go_num, by omega, rfl, ⟨HPB.out, HMB.out, HAT2.out, HC.out⟩, HBX.out.trans (HB6.out.mono HBX.out.size)⟩
end Go.Proofs.YtjnhhcbplhmemaaDoor

/- The program's Nth: down to the entry with a number. -/
namespace Go.Proofs.YtjnhhcbplhmemaaDoor
open Go.RowKit

theorem loadE11 {w : World} {g : Nat} {e : En} (h : w.heap[g]? = some (.cells (enC e).toArray 34 (0, 0))) (hk : e.k.length = 32) : (loadVar 34 ⟨g, 0, none⟩).run Tryd.prog w = .ok (.agg (enC e).toArray) w :=
  run_loadVar_row (P := Tryd.prog) w g 34 34 (enC e).toArray (0, 0) _ h Tryd.underlying34 rfl (by rw [List.size_toArray, enC_len hk]; exact infoEntry)
theorem bldE11 (w : World) : bldA 34 w #[] = .ok (.value (.agg (enC ⟨z26, none, [], 0⟩).toArray)) w := by kernel_rfl
set_option maxHeartbeats 8000000 in
set_option maxRecDepth 100000 in
theorem pnth_in {M : World → Int → Tv → Prop} (nd : NdV M) (w : World) (n : Int) (T : Tv) (l : List Ent) (i : Nat) (e : Ent) (hM : M w n T) (hT : IsMap l T) (ha : Asc l) (hl : l.length ≤ 100) (he : l[i]? = some e) :
    Calls Tryd.prog 18 #[T.val, .int .i64 (i : Int)] w fun x w' => ∃ A c, x = .returned (.tuple #[.agg (enC ⟨e.k, A, e.v, c⟩).toArray, .bool true]) ∧ NewB w' w.heap.size A c e.v ∧ Below w.heap.size w w' := by
  obtain ⟨pT, hpT⟩ := val_ptr nd hM
  have hil := (List.getElem?_eq_some_iff.1 he).1
  obtain ⟨X, hX⟩ : ∃ X, X = w.alloc (.cells (enC ⟨z26, none, [], 0⟩).toArray 34) := ⟨_, rfl⟩
  have hb0 : Below w.heap.size w X := by rw [hX]; exact (Below.refl _ _).alloc (Nat.le_refl _) _
  have hxr : X.heap[w.heap.size]? = some (.cells (enC ⟨z26, none, [], 0⟩).toArray 34 (0, 0)) := by rw [hX]; exact heap_alloc_new w _
  obtain ⟨N, hN⟩ : ∃ N, N = l.length := ⟨_, rfl⟩
  have HLN : Hid (Calls Tryd.prog 31 #[.pointer pT] X fun e w' => e = .returned (.int .i64 (N : Int)) ∧ Below X.heap.size X w') := by
    have := nd.len X n T (nd.below hM hb0) (by rw [hT.len]; omega)
    rw [hT.len, hpT] at this
    rw [hN]
    exact this
  have HX := Lib.hid hX
  have HXR := Lib.hid hxr
  have HB0 := Lib.hid hb0
  have HST : Hid (T.val = .pointer pT ∧ M w n T ∧ SubMap 0 l T ∧ Asc l ∧ l[i]? = some e ∧ l.length ≤ 100) := ⟨hpT, hM, hT.sub, ha, he, hl⟩
  have hN9 : N ≤ 100 := by omega
  have hiN : i < N := by omega
  rw [hpT]
  clear hpT hX hxr hb0 hM hT ha he hl hil hN
  go_enter Tryd.func18, Tryd.ntmps18
  have d1 : decide ((i : Int) < 0) = false := decide_eq_false (by omega)
  have d2 : decide ((N : Int) ≤ (i : Int)) = false := decide_eq_false (by omega)
  have d3 : decide (N ≤ i) = false := decide_eq_false (by omega)
  go_wp2_with fail
  rw [← HX.out]
  go_step3
  go_wp2_with fail
  refine HLN.out.mono ?_
  rintro _ w1 ⟨rfl, hB1⟩
  have HB1 := Lib.hid hB1
  have HBW := Lib.hid (HB0.out.trans (hB1.mono HB0.out.size))
  clear hB1 HLN
  go_wp2_with fail
  go_step3
  go_wp2_with fail
  go_loopg [0, 1, 6] 256 (fun gg nv iv _ wr => ∃ (d j : Nat) (S : Tv) (pS : Option Addr) (m : List Ent), nv = .pointer pS ∧ iv = .int .i64 (j : Int) ∧ d ≤ 256 ∧ 256 - d = gg ∧ j ≤ 100 ∧ Hid (S.val = .pointer pS ∧ M w n S ∧ SubMap d m S ∧ Asc m ∧ m[j]? = some e ∧ m.length ≤ 100) ∧ Below w1.heap.size w1 wr)
  case atStart => exact ⟨0, i, T, pT, l, rfl, rfl, by omega, rfl, by omega, HST.out, Below.refl _ _⟩
  case round =>
    obtain ⟨d, j, S, pS, m, rfl, rfl, hd, rfl, hj, HRR, hB⟩ := hrel
    obtain ⟨hpS, hMS, hsub, hasc, hget, hml⟩ := HRR.out
    have hbw : Below w.heap.size w wr := HBW.out.trans (hB.mono HBW.out.size)
    have HMQ : Hid (∀ y, Below wr.heap.size wr y → M y n S) := fun y hy => nd.below hMS (hbw.trans (hy.mono hbw.size))
    have HKD : Hid (∀ y, Below wr.heap.size wr y → Calls Tryd.prog 33 #[.pointer pS] y fun e w' => e = .returned (.int .i64 (kindT S.tr)) ∧ Below y.heap.size y w') := fun y hy => by
      have := nd.kind y n S (HMQ.out y hy)
      rwa [hpS] at this
    have HBR := Lib.hid hB
    have HMS := Lib.hid hMS
    cases S with
    | nil =>
      have : m = [] := hsub.nil11 hd
      rw [this] at hget
      simp at hget
    | leaf v x =>
      have hmx : m = [x] := hsub.leaf11 hd
      have hjx : j = 0 ∧ x = e := by
        rw [hmx] at hget
        cases j with
        | zero => exact ⟨rfl, by simpa using hget⟩
        | succ j => simp at hget
      obtain ⟨rfl, rfl⟩ := hjx
      have HLF : Hid (Calls Tryd.prog 35 #[.pointer pS] wr fun e w' => e = .returned (.pointer none) ∧ Below wr.heap.size wr w') := by
        have := nd.left wr n _ (HMQ.out wr (Below.refl _ _))
        rwa [hpS] at this
      rw [show kindT (Tv.leaf v x).tr = 1 from rfl] at HKD
      have HEN : Hid (∀ y, Below wr.heap.size wr y → Calls Tryd.prog 30 #[.pointer pS] y fun e w' => ∃ A c, e = .returned (.agg (enC ⟨x.k, A, x.v, c⟩).toArray) ∧ NewB w' y.heap.size A c x.v ∧ Below y.heap.size y w') := fun y hy => by
        have := nd.entry y n _ (HMQ.out y hy)
        rwa [hpS] at this
      obtain ⟨hxk, _⟩ := nd.key hMS
      have HXK := Lib.hid hxk
      clear hpS hMS hsub hasc hget hml hbw hB HRR hmx HST
      go_wp2_with fail
      refine HLF.out.mono ?_
      rintro _ w2 ⟨rfl, hB2⟩
      have HB2 := Lib.hid hB2
      have HL0 : Hid (Calls Tryd.prog 31 #[.pointer none] w2 fun e w' => e = .returned (.int .i64 0) ∧ Below w2.heap.size w2 w') := nd.len w2 n .nil (nd.nil _ _) (Nat.zero_le _)
      clear hB2 HLF
      go_wp2_with fail
      refine HL0.out.mono ?_
      rintro _ w3 ⟨rfl, hB3⟩
      have HB3 := Lib.hid (HB2.out.trans (hB3.mono HB2.out.size))
      clear hB3 HL0
      go_wp2_with fail
      refine (HKD.out w3 HB3.out).mono ?_
      rintro _ w4 ⟨rfl, hB4⟩
      have HB4 := Lib.hid (HB3.out.trans (hB4.mono HB3.out.size))
      clear hB4 HKD
      go_wp2_with fail
      refine (HEN.out w4 HB4.out).mono ?_
      rintro _ w5 ⟨A, c, rfl, hN5, hB5⟩
      have hx5 : Below X.heap.size X w5 := ((HB1.out.trans (HBR.out.mono HB1.out.size)).trans (HB4.out.mono (Nat.le_trans HB1.out.size HBR.out.size))).trans (hB5.mono (Nat.le_trans (Nat.le_trans HB1.out.size HBR.out.size) HB4.out.size))
      have hx4 : X.heap.size ≤ w4.heap.size := Nat.le_trans (Nat.le_trans HB1.out.size HBR.out.size) HB4.out.size
      have hlt := lt_of_heap HXR.out
      obtain ⟨en, hen⟩ : ∃ en : En, en = ⟨x.k, A, x.v, c⟩ := ⟨_, rfl⟩
      have hek : en.k.length = 32 := by rw [hen]; exact HXK.out
      have hr5 : w5.heap[w.heap.size]? = some (.cells (enC ⟨z26, none, [], 0⟩).toArray 34 (0, 0)) := by rw [hx5.block _ hlt]; exact HXR.out
      have st1 : stA 34 w5 (.pointer (some ⟨w.heap.size, 0, none⟩)) (.agg (enC en).toArray) = .ok .skip (w5.setRow w.heap.size (enC en).toArray) := stA_row hr5 (by rw [List.size_toArray, enC_len hek]; exact infoEntry) (by rw [List.size_toArray, List.size_toArray, enC_len hek]; rfl) (by rw [List.all_toArray, List.all_eq_true]; exact enC_one en)
      have HM5 := Lib.hid (setRow_heap w5 w.heap.size _ (enC en).toArray 34 _ hr5)
      have hb5 := HB0.out.trans (hx5.mono HB0.out.size)
      have HNF := Lib.hid (NewB.mono (NewB.row (b := w.heap.size) (cs := (enC en).toArray) hN5 (Nat.lt_of_lt_of_le hlt hx4)) (Nat.le_trans HB0.out.size hx4))
      have HBF : Hid (Below w.heap.size w (w5.setRow w.heap.size (enC en).toArray)) := hb5.trans ((Keep.row w5 w.heap.size _).below hb5.size fun i hi => by have e : i = w.heap.size := hi; omega)
      have HEN2 := Lib.hid hen
      have HEK := Lib.hid hek
      rw [← hen]
      clear hN5 hB5 hx5 hx4 hlt hr5 hb5 HEN hen hek
      go_wp2_with fail
      rw [Exit.noGoto_ret]
      refine bodyPost_ret (v := .tuple #[.agg (enC en).toArray, .bool true]) ?_ rfl ⟨A, c, by rw [HEN2.out], HNF.out, HBF.out⟩
      exact results_row_tmp rfl _ _ w.heap.size _ _ rfl rfl (loadE11 HM5.out HEK.out)
    | inner v a b =>
      obtain ⟨hMa, hMb⟩ := nd.kids hMS
      obtain ⟨pa, hpa⟩ := val_ptr nd hMa
      obtain ⟨pb, hpb⟩ := val_ptr nd hMb
      obtain ⟨h256, ha0, ha1, hs0, hs1, hl0, hlo, hhi⟩ := nth_step hsub hd hasc hget
      have hp0 := partK_len m d 0
      have hp1 := partK_len m d 1
      rw [show kindT (Tv.inner v a b).tr = 2 from rfl] at HKD
      have HLF : Hid (∀ y, Below wr.heap.size wr y → Calls Tryd.prog 35 #[.pointer pS] y fun e w' => e = .returned (.pointer pa) ∧ Below y.heap.size y w') := fun y hy => by
        have := nd.left y n _ (HMQ.out y hy)
        rw [hpS] at this
        rw [← hpa]
        exact this
      have HRT : Hid (∀ y, Below wr.heap.size wr y → Calls Tryd.prog 36 #[.pointer pS] y fun e w' => e = .returned (.pointer pb) ∧ Below y.heap.size y w') := fun y hy => by
        have := nd.right y n _ (HMQ.out y hy)
        rw [hpS] at this
        rw [← hpb]
        exact this
      obtain ⟨la, hla⟩ : ∃ la, la = lenT a.tr := ⟨_, rfl⟩
      rw [← hla] at hl0 hlo hhi
      have HLN : Hid (∀ y, Below wr.heap.size wr y → Calls Tryd.prog 31 #[.pointer pa] y fun e w' => e = .returned (.int .i64 (la : Int)) ∧ Below y.heap.size y w') := fun y hy => by
        have := nd.len y n a (nd.kids (HMQ.out y hy)).1 (by omega)
        rw [hpa] at this
        rw [hla]
        exact this
      have hla9 : la ≤ 100 := by omega
      have HA : Hid (j < la → a.val = .pointer pa ∧ M w n a ∧ SubMap (d + 1) (partK m d 0) a ∧ Asc (partK m d 0) ∧ (partK m d 0)[j]? = some e ∧ (partK m d 0).length ≤ 100) := fun h => ⟨hpa, hMa, hs0, ha0, hlo h, by omega⟩
      have HB : Hid (¬ j < la → b.val = .pointer pb ∧ M w n b ∧ SubMap (d + 1) (partK m d 1) b ∧ Asc (partK m d 1) ∧ (partK m d 1)[j - la]? = some e ∧ (partK m d 1).length ≤ 100) := fun h => ⟨hpb, hMb, hs1, ha1, hhi h, by omega⟩
      clear hpS hMS hsub hasc hget hml hbw hB HRR hMa hMb hpa hpb ha0 ha1 hs0 hs1 hl0 hlo hhi hp0 hp1 hla
      go_wp2_with fail
      refine (HLF.out wr (Below.refl _ _)).mono ?_
      rintro _ w2 ⟨rfl, hB2⟩
      have HB2 := Lib.hid hB2
      clear hB2
      go_wp2_with fail
      refine (HLN.out w2 HB2.out).mono ?_
      rintro _ w3 ⟨rfl, hB3⟩
      have HB3 := Lib.hid (HB2.out.trans (hB3.mono HB2.out.size))
      clear hB3 HLN
      go_wp2_with fail
      refine (HKD.out w3 HB3.out).mono ?_
      rintro _ w4 ⟨rfl, hB4⟩
      have HB4 := Lib.hid (HB3.out.trans (hB4.mono HB3.out.size))
      clear hB4 HKD
      by_cases hlt : j < la
      · have e1 : decide (j < la) = true := decide_eq_true hlt
        have HF := Lib.hid (HA.out hlt)
        clear hlt HA HB
        go_wp2_with fail
        refine (HLF.out w4 HB4.out).mono ?_
        rintro _ w5 ⟨rfl, hB5⟩
        have HB5 := Lib.hid (HB4.out.trans (hB5.mono HB4.out.size))
        clear hB5
        go_wp2_with fail
        go_roundg (256 - (d + 1))
        case measure => omega
        case rel => exact ⟨d + 1, j, a, pa, _, rfl, rfl, by omega, rfl, hj, HF.out, HBR.out.trans (HB5.out.mono HBR.out.size)⟩
      · have e1 : decide (j < la) = false := decide_eq_false hlt
        have HF := Lib.hid (HB.out hlt)
        have hge : la ≤ j := by omega
        clear hlt HA HB
        go_wp2_with fail
        refine (HRT.out w4 HB4.out).mono ?_
        rintro _ w5 ⟨rfl, hB5⟩
        have HB5 := Lib.hid (HB4.out.trans (hB5.mono HB4.out.size))
        clear hB5
        go_wp2_with fail
        go_roundg (256 - (d + 1))
        case measure => omega
        case rel => exact ⟨d + 1, j - la, b, pb, _, rfl, by go_num, by omega, rfl, by omega, HF.out, HBR.out.trans (HB5.out.mono HBR.out.size)⟩
set_option maxHeartbeats 8000000 in
set_option maxRecDepth 100000 in
theorem pnth_out {M : World → Int → Tv → Prop} (nd : NdV M) (w : World) (n : Int) (T : Tv) (l : List Ent) (i : Int) (hM : M w n T) (hT : IsMap l T) (hl : l.length ≤ 100) (hi : ¬ (0 ≤ i ∧ i < (l.length : Int))) (i0 : -9223372036854775808 ≤ i) (i1 : i ≤ 9223372036854775807) :
    Calls Tryd.prog 18 #[T.val, .int .i64 i] w fun x w' => x = .returned (.tuple #[.agg (enC ⟨z26, none, [], 0⟩).toArray, .bool false]) ∧ Below w.heap.size w w' := by
  obtain ⟨pT, hpT⟩ := val_ptr nd hM
  obtain ⟨X, hX⟩ : ∃ X, X = w.alloc (.cells (enC ⟨z26, none, [], 0⟩).toArray 34) := ⟨_, rfl⟩
  have hb0 : Below w.heap.size w X := by rw [hX]; exact (Below.refl _ _).alloc (Nat.le_refl _) _
  have hxr : X.heap[w.heap.size]? = some (.cells (enC ⟨z26, none, [], 0⟩).toArray 34 (0, 0)) := by rw [hX]; exact heap_alloc_new w _
  obtain ⟨N, hN⟩ : ∃ N, N = l.length := ⟨_, rfl⟩
  have HLN : Hid (Calls Tryd.prog 31 #[.pointer pT] X fun e w' => e = .returned (.int .i64 (N : Int)) ∧ Below X.heap.size X w') := by
    have := nd.len X n T (nd.below hM hb0) (by rw [hT.len]; omega)
    rw [hT.len, hpT] at this
    rw [hN]
    exact this
  have HX := Lib.hid hX
  have HXR := Lib.hid hxr
  have HB0 := Lib.hid hb0
  have hN9 : N ≤ 100 := by omega
  have bz := bldE11
  have hST : ∀ y : World, Below X.heap.size X y → stA 34 y (.pointer (some ⟨w.heap.size, 0, none⟩)) (.agg (enC ⟨z26, none, [], 0⟩).toArray) = .ok .skip (y.setRow w.heap.size (enC ⟨z26, none, [], 0⟩).toArray) := fun y hy => stA_row (by rw [hy.block _ (lt_of_heap hxr)]; exact hxr) (by rw [List.size_toArray, enC_len (e := ⟨z26, none, [], 0⟩) rfl]; exact infoEntry) rfl (by rw [List.all_toArray, List.all_eq_true]; exact enC_one ⟨z26, none, [], 0⟩)
  have HST := Lib.hid hST
  have hFI : ∀ y : World, Below X.heap.size X y → (y.setRow w.heap.size (enC ⟨z26, none, [], 0⟩).toArray).heap[w.heap.size]? = some (.cells (enC ⟨z26, none, [], 0⟩).toArray 34 (0, 0)) ∧ Below w.heap.size w (y.setRow w.heap.size (enC ⟨z26, none, [], 0⟩).toArray) := fun y hy => by
    have hb := hb0.trans (hy.mono hb0.size)
    exact ⟨setRow_heap y w.heap.size _ (enC ⟨z26, none, [], 0⟩).toArray 34 _ (by rw [hy.block _ (lt_of_heap hxr)]; exact hxr), hb.trans ((Keep.row y w.heap.size _).below hb.size fun i hi => by have e : i = w.heap.size := hi; omega)⟩
  have HFI := Lib.hid hFI
  rw [hpT]
  clear hpT hX hxr hb0 hM hT hST hFI
  go_enter Tryd.func18, Tryd.ntmps18
  by_cases hneg : i < 0
  · have d1 : decide (i < 0) = true := decide_eq_true hneg
    clear hi hN hneg
    have st := HST.out X (Below.refl _ _)
    go_wp2_with fail
    rw [← HX.out]
    go_step3
    go_wp2_with fail
    rw [Exit.noGoto_ret]
    refine bodyPost_ret (v := .tuple #[.agg (enC ⟨z26, none, [], 0⟩).toArray, .bool false]) ?_ rfl ⟨rfl, (HFI.out X (Below.refl _ _)).2⟩
    exact results_row_tmp rfl _ _ w.heap.size _ _ rfl rfl (loadE11 (HFI.out X (Below.refl _ _)).1 rfl)
  · have d1 : decide (i < 0) = false := decide_eq_false hneg
    have d2 : decide ((N : Int) ≤ i) = true := decide_eq_true (by omega)
    clear hi hN hneg
    go_wp2_with fail
    rw [← HX.out]
    go_step3
    go_wp2_with fail
    refine HLN.out.mono ?_
    rintro _ w1 ⟨rfl, hB1⟩
    have HB1 := Lib.hid hB1
    have st := HST.out w1 hB1
    clear hB1 HLN
    go_wp2_with fail
    rw [Exit.noGoto_ret]
    refine bodyPost_ret (v := .tuple #[.agg (enC ⟨z26, none, [], 0⟩).toArray, .bool false]) ?_ rfl ⟨rfl, (HFI.out w1 HB1.out).2⟩
    exact results_row_tmp rfl _ _ w.heap.size _ _ rfl rfl (loadE11 (HFI.out w1 HB1.out).1 rfl)
theorem nth_c {M : World → Int → Tv → Prop} (nd : NdV M) (w : World) (n : Int) (T : Tv) (l : List Ent) (i : Int) (hM : M w n T) (hT : IsMap l T) (ha : Asc l) (hl : l.length ≤ 100) (i0 : -9223372036854775808 ≤ i) (i1 : i ≤ 9223372036854775807) :
    Calls Tryd.prog 18 #[T.val, .int .i64 i] w fun e w' => ∃ x : En, e = .returned (.tuple #[.agg (enC x).toArray, .bool (decide (0 ≤ i ∧ i < (l.length : Int)))]) ∧ EnOk w' x ∧ (0 ≤ i → i < (l.length : Int) → l[i.toNat]? = some x.ent) ∧ (¬ (0 ≤ i ∧ i < (l.length : Int)) → x.k = z26 ∧ x.v = []) ∧ Below w.heap.size w w' := by
  by_cases hi : 0 ≤ i ∧ i < (l.length : Int)
  · obtain ⟨e, he⟩ : ∃ e, l[i.toNat]? = some e := ⟨_, List.getElem?_eq_getElem (by omega)⟩
    have h := pnth_in nd w n T l i.toNat e hM hT ha hl he
    rw [Int.toNat_of_nonneg hi.1] at h
    refine h.mono ?_
    rintro _ w' ⟨A, c, rfl, hN, hB⟩
    have hk : e.k.length = 32 := hT.sep.len e (List.mem_of_getElem? he)
    exact ⟨⟨e.k, A, e.v, c⟩, by rw [decide_eq_true hi], ⟨hk, hN.1, NewB.ba hN⟩, fun _ _ => he, fun h => absurd hi h, hB⟩
  · refine (pnth_out nd w n T l i hM hT hl hi i0 i1).mono ?_
    rintro _ w' ⟨rfl, hB⟩
    exact ⟨⟨z26, none, [], 0⟩, by rw [decide_eq_false hi], ⟨rfl, Nat.le_refl 0, fun j x h => by simp at h⟩, fun h1 h2 => absurd ⟨h1, h2⟩ hi, fun _ => ⟨rfl, rfl⟩, hB⟩
end Go.Proofs.YtjnhhcbplhmemaaDoor

/- The program's From: the entries with the numbers from the rank on. -/
namespace Go.Proofs.YtjnhhcbplhmemaaDoor
open Go.RowKit

/-- An entry in a row; its value's block is not the row's. -/
def EnF (v : Value) (X : World) (e : En) : Prop := EnOk X e ∧ (e.v = [] ∨ ∃ g, e.A = some ⟨g, 0, none⟩ ∧ g < X.heap.size ∧ v.ownBlock ≠ some g)
theorem EnF.keep {L : Nat → Prop} {v v' : Value} {X Y : World} {e : En} (h : EnF v X e) (hk : Keep L X Y) (hL : ∀ g, v.ownBlock ≠ some g → ¬ L g) (hv : ∀ g, v'.ownBlock = some g → v.ownBlock = some g ∨ X.heap.size ≤ g) : EnF v' Y e := by
  obtain ⟨⟨h1, h2, h3⟩, h4⟩ := h
  rcases h4 with h4 | ⟨g, hA, hlt, hvg⟩
  · exact ⟨⟨h1, h2, ba11_nil _ _ h4⟩, .inl h4⟩
  · rw [hA] at h3
    exact ⟨⟨h1, h2, by rw [hA]; exact ba11_keep h3 hk (hL g hvg)⟩, .inr ⟨g, hA, Nat.lt_of_lt_of_le hlt hk.size, fun h => (hv g h).elim hvg fun h => by omega⟩⟩
/-- What a round of From leaves. -/
theorem from_push {W0 wr w2 Z w9 : World} {v v' : Value} {es : List En} {en : En} (hB : Below W0.heap.size W0 wr) (hO : OwnE wr W0.heap.size v es) (hes : ∀ e ∈ es, EnF v wr e)
    (h2 : Below wr.heap.size wr w2) (hZ : Below w2.heap.size w2 Z) (hk : en.k.length = 32) (hN : NewB w2 wr.heap.size en.A en.c en.v) (hG : Grown11 v v' Z w9) :
    (∀ e ∈ es ++ [en], EnF v' w9 e) ∧ Below W0.heap.size W0 w9 := by
  have hwZ : Below wr.heap.size wr Z := h2.trans (hZ.mono h2.size)
  have hkp : Keep (fun i => v.ownBlock = some i) wr w9 := (Keep.of_below hwZ).trans hG.keep
  have hv' : ∀ g, v'.ownBlock = some g → v.ownBlock = some g ∨ g = Z.heap.size := fun g hg => hG.blk.imp (fun e => by rw [← e]; exact hg) fun e => by rw [e] at hg; cases hg; rfl
  refine ⟨fun e he => ?_, hB.trans (hkp.below hB.size fun i hi => (row11_lt hO i hi).1)⟩
  rcases List.mem_append.1 he with he | he
  · exact (hes e he).keep hkp (fun g hg h => hg h) fun g hg => (hv' g hg).imp id fun h => by rw [h]; exact hwZ.size
  · rw [List.mem_singleton.1 he]
    rcases NewB.blk hN with h0 | ⟨g, hA, h1, h3⟩
    · exact ⟨⟨hk, hN.1, ba11_nil _ _ h0⟩, .inl h0⟩
    · have hba : BA Z en.A en.v := (NewB.ba hN).below hZ
      have hnv : v.ownBlock ≠ some g := fun e => by
        obtain ⟨_, cs, hcs⟩ := row11_lt hO g e
        have := lt_of_heap hcs
        omega
      rw [hA] at hba
      have hZs := hZ.size
      have h9 := hG.keep.size
      exact ⟨⟨hk, hN.1, by rw [hA]; exact ba11_keep hba hG.keep hnv⟩, .inr ⟨g, hA, by omega, fun e => (hv' g e).elim hnv fun e => by omega⟩⟩
theorem take_from {l : List Ent} {r i : Nat} {x : Ent} (h : l[r + i]? = some x) : (l.drop r).take (i + 1) = (l.drop r).take i ++ [x] := by
  have h1 : (l.drop r)[i]? = some x := by rw [List.getElem?_drop]; exact h
  obtain ⟨hi, rfl⟩ := List.getElem?_eq_some_iff.1 h1
  rw [List.take_succ_eq_append_getElem hi]
set_option maxHeartbeats 8000000 in
set_option maxRecDepth 100000 in
theorem from_c {M : World → Int → Tv → Prop} (nd : NdV M) (w : World) (n : Int) (T : Tv) (l : List Ent) (k : List UInt8) (m : Int) (hM : M w n T) (hT : IsMap l T) (ha : Asc l) (hl : l.length ≤ 100) (hk : k.length = 32) (m0 : -9223372036854775808 ≤ m) (m1 : m ≤ 9223372036854775807) :
    Calls Tryd.prog 16 #[T.val, .agg (bA k), .int .i64 m] w fun e w' => ∃ (A : Option Addr) (c : Nat) (es : List En), e = .returned (.slice A es.length c) ∧ EA w' A es ∧ es.map En.ent = (l.drop (rankK l k)).take m.toNat ∧ Below w.heap.size w w' := by
  obtain ⟨pT, hpT⟩ := val_ptr nd hM
  obtain ⟨X, hX⟩ : ∃ X, X = w.alloc (.cells (bA k) 31) := ⟨_, rfl⟩
  have hb0 : Below w.heap.size w X := by rw [hX]; exact (Below.refl _ _).alloc (Nat.le_refl _) _
  have hr0 : RowB X w.heap.size 31 k := by rw [hX]; exact RowB.alloc w k _
  have lk := hr0.ldKey hk
  rw [hX] at lk
  have HRK := Lib.hid (rank_c nd X n T l k (nd.below hM hb0) hT hl hk)
  have hRl := rankK_le l k
  obtain ⟨R, hR⟩ : ∃ R, R = rankK l k := ⟨_, rfl⟩
  obtain ⟨N, hN⟩ : ∃ N, N = l.length := ⟨_, rfl⟩
  rw [← hR, ← hN] at hRl
  rw [← hR, hpT] at HRK
  have HLN : Hid (∀ y, Below X.heap.size X y → Calls Tryd.prog 31 #[.pointer pT] y fun e w' => e = .returned (.int .i64 (N : Int)) ∧ Below y.heap.size y w') := fun y hy => by
    have := nd.len y n T (nd.below (nd.below hM hb0) hy) (by rw [hT.len]; omega)
    rw [hT.len, hpT] at this
    rw [hN]
    exact this
  have HNT : Hid (∀ y, Below X.heap.size X y → ∀ (j : Nat) (e : Ent), l[j]? = some e → Calls Tryd.prog 18 #[.pointer pT, .int .i64 (j : Int)] y fun x w' => ∃ A c, x = .returned (.tuple #[.agg (enC ⟨e.k, A, e.v, c⟩).toArray, .bool true]) ∧ NewB w' y.heap.size A c e.v ∧ Below y.heap.size y w') := fun y hy j e he => by
    have := pnth_in nd y n T l j e (nd.below (nd.below hM hb0) hy) hT ha hl he
    rwa [hpT] at this
  have HKL : Hid (∀ e ∈ l, e.k.length = 32) := hT.sep.len
  obtain ⟨t, ht⟩ : ∃ t : Int, t = min m ((N : Int) - (R : Int)) := ⟨_, rfl⟩
  have f1 : ∀ (ts : Array TypeId) (ty : TypeId) (W : World), (Builtin.min_ ts ty #[.int .i64 m, .int .i64 ((N : Int) - (R : Int))]).run Tryd.prog W = .ok (.int .i64 t) W := fun ts ty W => by
    rw [run_min_int2, ht]
    congr 2
    omega
  obtain ⟨K, hK⟩ : ∃ K, K = t.toNat := ⟨_, rfl⟩
  have HEND : Hid ((l.drop R).take K = (l.drop R).take m.toNat) := by
    show _ = _
    rcases Int.lt_or_le m ((N : Int) - (R : Int)) with h | h
    · rw [show K = m.toNat by omega]
    · rw [List.take_of_length_le (by rw [List.length_drop]; omega), List.take_of_length_le (by rw [List.length_drop]; omega)]
  have HNL : Hid (N = l.length) := hN
  have hN9 : N ≤ 100 := by omega
  have ht9 : t ≤ 100 := by omega
  have HKR : Hid (R + K ≤ N ∧ K ≤ 100 ∧ ∀ i : Nat, (i : Int) < t ↔ i < K) := ⟨by omega, by omega, fun i => by omega⟩
  have HX := Lib.hid hX
  have HB0 := Lib.hid hb0
  rw [hpT, ← hR]
  clear hpT hX hb0 hr0 hM hT ha hl hk hR hN ht hK
  go_enter Tryd.func16, Tryd.ntmps16
  go_wp2_with fail
  rw [← HX.out]
  refine HRK.out.mono ?_
  rintro _ w1 ⟨rfl, hB1⟩
  have HB1 := Lib.hid hB1
  clear hB1 HRK lk HX
  go_wp2_with fail
  refine (HLN.out w1 HB1.out).mono ?_
  rintro _ w2 ⟨rfl, hB2⟩
  have HB2 := Lib.hid (HB1.out.trans (hB2.mono HB1.out.size))
  clear hB2 HLN
  go_wp2_with fail
  go_loopg [7, 21] K (fun gg lv iv wr => ∃ (i : Nat) (es : List En) (v : Value), v = lv ∧ iv = .int .i64 (i : Int) ∧ i ≤ K ∧ K - i = gg ∧ Hid (OwnE wr w2.heap.size v es ∧ es.map En.ent = (l.drop R).take i ∧ ∀ e ∈ es, EnF v wr e) ∧ Below w2.heap.size w2 wr)
  case atStart => exact ⟨0, [], _, rfl, rfl, by omega, rfl, ⟨OwnE.nil _ _, rfl, fun e he => absurd he List.not_mem_nil⟩, Below.refl _ _⟩
  case round =>
    obtain ⟨i, es, v, rfl, rfl, hi, rfl, HRR, hB⟩ := hrel
    obtain ⟨hO, hmap, hes⟩ := HRR.out
    by_cases hlt : i < K
    · have e1 : decide ((i : Int) < t) = true := decide_eq_true ((HKR.out.2.2 i).2 hlt)
      have hk1 := HKR.out.1
      have hk2 := HKR.out.2.1
      have hXr : Below X.heap.size X wr := HB2.out.trans (hB.mono HB2.out.size)
      obtain ⟨x, hx⟩ : ∃ x, l[R + i]? = some x := ⟨_, List.getElem?_eq_getElem (by have := HNL.out; omega)⟩
      have hnt := HNT.out wr hXr (R + i) x hx
      rw [show ((R + i : Nat) : Int) = (R : Int) + (i : Int) by omega] at hnt
      have HNTC := Lib.hid hnt
      have HXK : Hid (x.k.length = 32) := HKL.out x (List.mem_of_getElem? hx)
      have HTK := Lib.hid (take_from hx)
      have HO := Lib.hid hO
      have HMAP := Lib.hid hmap
      have HES := Lib.hid hes
      have HB := Lib.hid hB
      clear hnt hXr hx hO hmap hes hB HRR
      go_wp2_with fail
      refine HNTC.out.mono ?_
      rintro _ w3 ⟨A, c, rfl, hN, hB3⟩
      obtain ⟨en, hen⟩ : ∃ en : En, en = ⟨x.k, A, x.v, c⟩ := ⟨_, rfl⟩
      have hek : en.k.length = 32 := by rw [hen]; exact HXK.out
      have hN2 : NewB w3 wr.heap.size en.A en.c en.v := by rw [hen]; exact hN
      obtain ⟨w4, hw4⟩ : ∃ w4, w4 = w3.alloc (.cells (enC en).toArray 34) := ⟨_, rfl⟩
      have hb4 : Below w3.heap.size w3 w4 := by rw [hw4]; exact (Below.refl _ _).alloc (Nat.le_refl _) _
      have hr4 : w4.rangeAt w3.heap.size 0 (enC en) := fun j u hu => by rw [Nat.zero_add, cell_of_cells (show w4.heap[w3.heap.size]? = _ by rw [hw4]; exact heap_alloc_new w3 _)]; simpa using hu
      have st : stA 34 (w3.alloc (.cells (enC ⟨z26, none, [], 0⟩).toArray 34)) (.pointer (some ⟨w3.heap.size, 0, none⟩)) (.agg (enC en).toArray) = .ok .skip w4 := by rw [hw4]; exact stE_new hek rfl
      have le := range_ent hr4 hek
      have bs := bsE_one en hek
      obtain ⟨Z, hZ⟩ : ∃ Z, Z = w4.alloc (.cells (enC en).toArray 34) := ⟨_, rfl⟩
      have hbZ : Below w4.heap.size w4 Z := by rw [hZ]; exact (Below.refl _ _).alloc (Nat.le_refl _) _
      have hrg : Z.rangeAt w4.heap.size 0 (enC en) := fun j u hu => by rw [Nat.zero_add, cell_of_cells (show Z.heap[w4.heap.size]? = _ by rw [hZ]; exact heap_alloc_new w4 _)]; simpa using hu
      have h3Z : Below w3.heap.size w3 Z := hb4.trans (hbZ.mono hb4.size)
      have hrZ : Below wr.heap.size wr Z := hB3.trans (h3Z.mono hB3.size)
      have HZ := Lib.hid hZ
      have HRG := Lib.hid hrg
      have HOZ := Lib.hid (OwnE.below HO.out hrZ)
      have H3Z := Lib.hid h3Z
      have HB3 := Lib.hid hB3
      have HN2 := Lib.hid hN2
      have HEK := Lib.hid hek
      have HEX : Hid (en.ent = x) := by rw [hen]; rfl
      have HEL : Hid (es.length ≤ 1000000) := by
        show _ ≤ _
        have h1 := congrArg List.length HMAP.out
        rw [List.length_map, List.length_take] at h1
        omega
      have HBB : Hid (w2.heap.size ≤ Z.heap.size) := Nat.le_trans HB.out.size hrZ.size
      rw [← hen]
      clear hN hB3 hw4 hb4 hr4 hZ hbZ hrg h3Z hrZ hen hek hN2 HNTC
      go_wp2_with (at_builtin; rw [← HZ.out]; refine wpList_pushE11 rfl _ _ rfl w2.heap.size v es rfl HOZ.out w4.heap.size en HEK.out rfl HRG.out HEL.out HBB.out ?_; intro v' w9 hO9 hG9; obtain ⟨hfe, hfb⟩ := from_push HB.out HO.out HES.out HB3.out H3Z.out HEK.out HN2.out hG9; have HO9 := Lib.hid hO9; have HFE := Lib.hid hfe; have HFB := Lib.hid hfb; clear hO9 hG9 hfe hfb)
      go_roundg (K - (i + 1))
      case measure => omega
      case rel => exact ⟨i + 1, es ++ [en], v', rfl, by go_num, by omega, rfl, ⟨HO9.out, by rw [List.map_append, HMAP.out, HTK.out, List.map_singleton, HEX.out], HFE.out⟩, HFB.out⟩
    · obtain rfl : i = K := by omega
      have e1 : decide ((i : Int) < t) = false := decide_eq_false fun h => by have := (HKR.out.2.2 i).1 h; omega
      obtain ⟨A, c, rfl, hc, hea⟩ := OwnE.ea hO fun e he => (hes e he).1
      have hbw : Below w.heap.size w w2 := HB0.out.trans (HB2.out.mono HB0.out.size)
      have HF : Hid (EA wr A es ∧ es.map En.ent = (l.drop R).take m.toNat ∧ Below w.heap.size w wr) := ⟨hea, by rw [hmap]; exact HEND.out, hbw.trans (hB.mono hbw.size)⟩
      clear hO hmap hes hB HRR hea hbw hlt hc
      go_wp2_with fail
      go_ret
      exact ⟨A, c, es, rfl, HF.out⟩
end Go.Proofs.YtjnhhcbplhmemaaDoor

/- What the program of layer 11 keeps. -/
namespace Go.Proofs.YtjnhhcbplhmemaaDoor
open Go.RowKit

theorem walkall_c {M : World → Int → Tv → Prop} (nd : NdV M) (w0 w : World) (n : Int) (T : Tv) (l : List Ent) (hM : M w0 n T) (hb : Below w0.heap.size w0 w) (hT : IsMap l T) (ha : Asc l) :
    Calls Tryd.prog 11 #[T.val] w fun e w' => ∃ (gf : Nat) (lb : Array Value) (O0 : Nat → Prop), e = .returned (.func (.func gf) #[] lb) ∧ Below w.heap.size w w' ∧ (∀ i, O0 i → w.heap.size ≤ i ∧ i < w'.heap.size) ∧
      (∀ args w, (callFunc gf args).run Tryd.prog w = .ok (.enter gf args) w) ∧ ∀ Z, Keep (fun i => w0.heap.size ≤ i ∧ ¬ O0 i) w' Z → SeqO Tryd.prog gf lb EntE (fun i => w0.heap.size ≤ i ∧ ¬ O0 i) l Z := by
  obtain ⟨p, hp⟩ := val_ptr nd hM
  rw [hp]
  refine (all_h nd w0 w n T l hM hb hT ha p hp).mono ?_
  rintro _ w' ⟨rfl, hB, hs, hseq⟩
  exact ⟨_, _, fun i => i = w.heap.size, rfl, hB, fun i h => by have e : i = w.heap.size := h; omega, enters_of Tryd.func28 (by kernel_rfl) rfl, fun Z hZ => (hseq Z hZ).seqO fun x args O H X h => h.e⟩
theorem wk_c : WkV Mn where
  all := fun w0 w n T l hM hb hT ha _ => walkall_c nd_c w0 w n T l hM hb hT ha
  entries := fun w n T l hM hT ha hl => entries_c nd_c w n T l hM hT ha hl
  from_ := fun w n T l k m hM hT ha hl hk m0 m1 => from_c nd_c w n T l k m hM hT ha hl hk m0 m1
  rank := fun w n T l k hM hT _ hl hk => rank_c nd_c w n T l k hM hT hl hk
  nth := fun w n T l i hM hT ha hl i0 i1 => nth_c nd_c w n T l i hM hT ha hl i0 i1
  depths := fun w n T l hM hT ha hl => depths_c nd_c w n T l hM hT ha hl
end Go.Proofs.YtjnhhcbplhmemaaDoor
