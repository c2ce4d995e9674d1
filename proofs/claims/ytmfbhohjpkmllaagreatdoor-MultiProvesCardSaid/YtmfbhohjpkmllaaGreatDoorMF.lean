import Derived.RangeFuncBound
import Derived.RangeFuncLeaves
import Derived.Shelf.Abstract
import Derived.Shelf.RegionOpen
import Derived.OwnWalkIn
import Derived.TacticsInMore
import Derived.LoopNIn
import Derived.LoopIn
import Derived.Test.YtmfbhohjpkmllaaGreatDoorMO
import Derived.Test.YtmfbhohjpkmllaaGreatDoorM3
import Derived.Test.YtmfbhohjpkmllaaGreatDoorMR
import Derived.RangeFuncCalls
import Derived.BigQuiet
import Derived.Test.YtmfbhohjpkmllaaGreatDoorMQ
import Derived.WalkMore
namespace Go.Proofs.YtmfbhohjpkmllaaGreatDoor
set_option linter.unusedSimpArgs false
set_option linter.unusedVariables false
set_option maxHeartbeats 4000000
set_option maxRecDepth 100000
section
open Go.RowKit Go.Shelf
theorem pbitK_c (k : List UInt8) (hk : k.length = 32) (d : Int) (w : World) : Calls Tryz.prog 77 #[.agg (bA k), .int .i64 d] w fun e w' => e = .returned (.int .i64 (bitK k d)) ∧ Below w.heap.size w w' := by
 rw [bA_key k hk]
 exact Bt.bit_c (keyF k) (keyF_byt k) d w
theorem child_c {M : World → Int → Tv → Prop} (nd : NdV M) (w : World) (n : Int) (T : Tv) (b : Int) (h : M w n T) : Calls Tryz.prog 82 #[T.val, .int .i64 b] w fun e w' => e = .returned (T.child b).val ∧ Below w.heap.size w w' := by
 have HL := Lib.hid (nd.left w n T h)
 have HR := Lib.hid (nd.right w n T h)
 obtain ⟨p, hp⟩ := val_ptr nd h
 unfold Tv.child
 rw [hp] at HL HR ⊢
 clear h hp
 by_cases hb : b = 0
 ·rw [if_pos hb]
  subst hb
  go_enter Tryz.func82, Tryz.ntmps82
  go_wp2_with fail
  refine HL.out.mono ?_
  rintro _ w1 ⟨rfl, hB⟩
  have HB := Lib.hid hB
  clear hB
  go_wp2_with fail
  go_ret
  exact ⟨rfl, HB.out⟩
 ·rw [if_neg hb]
  have hb2 : (b == 0) = false := by simpa using hb
  go_enter Tryz.func82, Tryz.ntmps82
  go_wp2_with fail
  refine HR.out.mono ?_
  rintro _ w1 ⟨rfl, hB⟩
  have HB := Lib.hid hB
  clear hB
  go_wp2_with fail
  go_ret
  exact ⟨rfl, HB.out⟩
def Tv.wayI (k : List UInt8) : Tv → Nat → List (Nat × Tv)
 | .inner v a b, d => (d, .inner v a b) :: (if bitK k d = 0 then wayI k a (d + 1) else wayI k b (d + 1))
 | t, d => [(d, t)]
abbrev encW (x : Nat × Tv) : Array Value := #[.int .i64 (x.1 : Int), x.2.val]
theorem wayI_cons (k : List UInt8) (T : Tv) (d : Nat) : ∃ r, T.wayI k d = (d, T) :: r ∧ (kindT T.tr ≠ 2 → r = []) ∧ (kindT T.tr = 2 → r = (T.child (bitK k d)).wayI k (d + 1)) := by
 cases T with
 | nil => exact ⟨[], rfl, fun _ => rfl, fun h => absurd h (show ¬ (0 : Int) = 2 by decide)⟩
 | leaf v e => exact ⟨[], rfl, fun _ => rfl, fun h => absurd h (show ¬ (1 : Int) = 2 by decide)⟩
 | inner v a b =>
  refine ⟨_, rfl, fun h => absurd rfl h, fun _ => ?_⟩
  unfold Tv.child
  split <;> rfl
theorem kind_inner {T : Tv} (h : kindT T.tr = 2) : ∃ v a b, T = .inner v a b := by
 cases T with
 | nil => exact absurd h (show ¬ (0 : Int) = 2 by decide)
 | leaf v e => exact absurd h (show ¬ (1 : Int) = 2 by decide)
 | inner v a b => exact ⟨v, a, b, rfl⟩
theorem At.child {l : List Ent} {k : List UInt8} {d : Nat} {T : Tv} (hs : Sep 0 l) (h : At l k d T) (hk : kindT T.tr = 2) : d < 256 ∧ At l k (d + 1) (T.child (bitK k d)) := by
 obtain ⟨v, a, b, rfl⟩ := kind_inner hk
 obtain ⟨h1, _, h3, _⟩ := At.inner hs h
 refine ⟨h1, ?_⟩
 unfold Tv.child
 split at h3 <;> rename_i hb
 ·rw [if_pos hb]; exact h3
 ·rw [if_neg hb]; exact h3
theorem ms_child {M : World → Int → Tv → Prop} (nd : NdV M) {w : World} {n : Int} {T : Tv} {b : Int} (h : M w n T) : M w n (T.child b) := by
 unfold Tv.child
 cases T with
 | nil => split <;> exact nd.nil _ _
 | leaf v e => split <;> exact nd.nil _ _
 | inner v x y =>
  obtain ⟨hx, hy⟩ := nd.kids h
  split
  ·exact hx
  ·exact hy
structure Wy (M : World → Int → Tv → Prop) (w0 : World) (n : Int) (k : List UInt8) (s q : Nat) (S : Tv) (X : World) : Prop where
 bel : Below w0.heap.size w0 X
 st : X.heap[s]? = some (.cells #[S.val] 24 (0, 0))
 ky : X.heap[q]? = some (.cells (bA k) 39 (0, 0))
theorem Wy.below {M : World → Int → Tv → Prop} {w0 : World} {n : Int} {k : List UInt8} {s q : Nat} {S : Tv} {X Y : World} (h : Wy M w0 n k s q S X) (hb : Below X.heap.size X Y) : Wy M w0 n k s q S Y :=
 ⟨h.bel.trans (hb.mono h.bel.size), by rw [hb.block _ (lt_of_heap h.st)]; exact h.st, by rw [hb.block _ (lt_of_heap h.ky)]; exact h.ky⟩
theorem Wy.keep {M : World → Int → Tv → Prop} {w0 : World} {n : Int} {k : List UInt8} {s q : Nat} {S : Tv} {X Y : World} (h : Wy M w0 n k s q S X) (hk : Keep (fun i => w0.heap.size ≤ i ∧ i ≠ s ∧ i ≠ q) X Y) : Wy M w0 n k s q S Y :=
 ⟨h.bel.trans (hk.below h.bel.size fun _ hi => hi.1), hk.heap h.st fun h => h.2.1 rfl, hk.heap h.ky fun h => h.2.2 rfl⟩
@[go_sem ↓] theorem semAt_loadKey (ro : Option Nat) (ρ : Operand → Value) (dst : Option Tmp) (x : Operand) (type : TypeId) (pos : String) (after : Array Edge) (guard : Option (Nat × Bool)) (w : World) :
  Sem.run Tryz.prog (Oper.semAt ro ρ { dst, op := .load 39 x, type, pos, after, guard }) w = ldA 39 w (ρ x) := by cases ro <;> rfl
theorem way_seq {M : World → Int → Tv → Prop} (nd : NdV M) (w0 w : World) (n : Int) (l : List Ent) (T : Tv) (k : List UInt8) (hM : M w0 n T) (hT : IsMap l T) (hk : k.length = 32) (s q : Nat) (hw : Wy M w0 n k s q T w) :
  SeqC Tryz.prog 81 #[.pointer (some ⟨s, 0, none⟩), .pointer (some ⟨q, 0, none⟩)] encW (fun i => w0.heap.size ≤ i ∧ i ≠ s ∧ i ≠ q) (fun i => i = s) (T.wayI k 0) w := by
 intro n0 l0 J W hW hJ hY h0
 obtain ⟨pT, hpT⟩ := val_ptr nd hM
 have HPT := Lib.hid hpT
 have hc0 : W.cell? ⟨s, 0, none⟩ = some (.pointer pT) := by rw [cell_of_cells (hw.below hW).st, hpT]; rfl
 have HW0 := Lib.hid (hw.below hW)
 have HA0 := Lib.hid (hT.at k)
 have HM0 := Lib.hid hM
 have HSEP := Lib.hid hT.sep
 have HK := Lib.hid hk
 have HJ := Lib.hid hJ
 have HY := Lib.hid hY
 have HJ0 := Lib.hid h0
 clear hw hW hM hT hk hJ hY h0 hpT
 refine callsIn_of_wp Tryz.func81 rfl trivial ?_ rfl
 simp only [Tryz.ntmps81, List.size_toArray, List.length_cons, List.length_nil, Nat.reduceAdd, Nat.reduceSub, Array.replicate_succ, Array.replicate_zero, List.push_toArray, List.append_toArray, List.nil_append, List.cons_append]
 gi_wp2
 clear hc0
 gi_loopw [4, 5] (fun v p wr => ∃ (pre : List (Nat × Tv)) (S : Tv) (d : Nat) (pS : Option Addr), v = .pointer pS ∧ p = .int .i64 (d : Int) ∧ Hid (S.val = .pointer pS ∧ T.wayI k 0 = pre ++ S.wayI k d ∧ Wy M w0 n k s q T wr ∧ M w0 n S ∧ At l k d S ∧ J true pre wr)) (fun _ p _ => 257 - (intOf p).toNat)
 case atStart => exact ⟨[], T, 0, pT, rfl, rfl, HPT.out, rfl, HW0.out, HM0.out, HA0.out, HJ0.out⟩
 case round =>
  obtain ⟨pre, S, d, pS, rfl, rfl, HR⟩ := hrel
  obtain ⟨hpS, hx, hwy, hm, hat, hj⟩ := HR.out
  obtain ⟨r, hr, hr0, hr2⟩ := wayI_cons k S d
  have hpre : pre ++ [(d, S)] <+: T.wayI k 0 := ⟨r, by rw [hx, hr]; simp⟩
  obtain ⟨fn, tmps, assign, body, hy, hR⟩ := HY.out pre (d, S) wr hj hpre
  dsimp only [encW] at hy
  rw [hpS] at hy
  have HPRE := Lib.hid hpre
  have HWY := Lib.hid hwy
  have HM := Lib.hid hm
  have HAT := Lib.hid hat
  have HX := Lib.hid hx
  have HRR := Lib.hid hr
  have HR0 := Lib.hid hr0
  have HR2 := Lib.hid hr2
  have HP := Lib.hid hpS
  have HRD := Lib.hid hR
  clear hx hwy hm hat hj hr hr0 hr2 hpre hpS HR hR
  gi_wp2
  refine ⟨fun h => (by cases h), HRD.out.mono ?_⟩
  rintro e W3 ⟨b, rfl, hJ3, hk3⟩
  have HJ3 := Lib.hid hJ3
  have HK3 := Lib.hid hk3
  clear hJ3 hk3 HRD hy
  cases b with
  | false =>
   gi_wp2
   refine ⟨trivial, ?_⟩
   gi_wp2
   go_end0
   exact ⟨⟨_, rfl⟩, .inr ⟨_, HPRE.out, HJ3.out⟩⟩
  | true =>
   have hwy3 := HWY.out.keep (HK3.out rfl)
   have HKD := Lib.hid (nd.kind W3 n S (nd.below HM.out hwy3.bel))
   rw [HP.out] at HKD
   have HWY3 := Lib.hid hwy3
   clear hwy3
   gi_wp2
   refine ⟨trivial, fun h => (by cases h), (callsIn_wide.2 HKD.out).mono ?_⟩
   rintro _ W4 ⟨rfl, hB4⟩
   have HWY4 := Lib.hid (HWY3.out.below hB4)
   have HJ4 := Lib.hid (HJ.out _ _ _ _ HJ3.out (Keep.of_below hB4))
   clear HKD HWY3 HJ3 hB4 HK3
   by_cases hk2 : kindT S.tr = 2
   ·rw [hk2]
    have HCH := Lib.hid (At.child HSEP.out HAT.out hk2)
    have HR3 := Lib.hid (HR2.out hk2)
    clear hk2
    obtain ⟨hd, hat2⟩ := HCH.out
    have lk : ldA 39 W4 (.pointer (some ⟨q, 0, none⟩)) = .ok (.value (.agg (bA k))) W4 := ldA_row HWY4.out.ky Tryz.underlying39 (by rw [bA_size, HK.out]; exact infoKey)
    obtain ⟨bt, hbt⟩ : ∃ bt, bt = bitK k d := ⟨_, rfl⟩
    have HM2 := Lib.hid (ms_child nd (b := bt) HM.out)
    obtain ⟨pC, hpC⟩ := val_ptr nd HM2.out
    have HPC := Lib.hid hpC
    rw [← hbt] at hat2
    have HBT := Lib.hid hbt
    have HAT2 := Lib.hid hat2
    have HD := Lib.hid hd
    clear hpC hbt hat2 hd HCH
    gi_wp2
    refine ⟨trivial, fun h => (by cases h), (callsIn_wide.2 (pbitK_c k HK.out d _)).mono ?_⟩
    rintro _ W5 ⟨rfl, hB5⟩
    rw [← HBT.out]
    have HWY5 := Lib.hid (HWY4.out.below hB5)
    have HJ5 := Lib.hid (HJ.out _ _ _ _ HJ4.out (Keep.of_below hB5))
    have HC := Lib.hid (child_c nd W5 n S bt (nd.below HM.out HWY5.out.bel))
    rw [HP.out, HPC.out] at HC
    clear lk hB5 HWY4 HJ4
    gi_wp2
    refine ⟨trivial, fun h => (by cases h), (callsIn_wide.2 HC.out).mono ?_⟩
    rintro _ W6 ⟨rfl, hB6⟩
    have HWX := Lib.hid (HWY5.out.below hB6)
    have HJX := Lib.hid (HJ.out _ _ _ _ HJ5.out (Keep.of_below hB6))
    clear HC hB6 HWY5 HJ5
    have hd : d < 256 := HD.out
    gi_wp2
    go_roundw
    case rel =>
     refine ⟨pre ++ [(d, S)], S.child bt, d + 1, pC, rfl, by go_num, HPC.out, ?_, HWX.out, HM2.out, HAT2.out, HJX.out⟩
     rw [HX.out, HRR.out, HR3.out, HBT.out, List.append_assoc]
     rfl
    case measure => simp [intOf]; omega
   ·have HN := Lib.hid (HR0.out hk2)
    obtain ⟨kd, hkd⟩ : ∃ kd, kd = kindT S.tr := ⟨_, rfl⟩
    rw [← hkd] at hk2 ⊢
    have kb : (kd == 2) = false := by simpa using hk2
    clear hkd hk2
    gi_wp2
    go_end0
    exact ⟨⟨_, rfl⟩, .inl (by rw [HX.out, HRR.out, HN.out]; exact HJ4.out)⟩
end
section
open Go.RowKit Go.Shelf
attribute [local go_sem] Oper.semAt_some
theorem way_c (p : Option Addr) (k : List UInt8) (w : World) : Calls Tryz.prog 55 #[.pointer p, .agg (bA k)] w fun e w' => e = .returned (.func (.func 81) #[] #[.pointer (some ⟨w.heap.size, 0, none⟩), .pointer (some ⟨w.heap.size + 1, 0, none⟩)]) ∧ w' = (w.alloc (.cells #[.pointer p] 24)).alloc (.cells (bA k) 39) := by
 go_enter Tryz.func55, Tryz.ntmps55
 go_wp2_with fail
 go_ret
 exact ⟨rfl, rfl⟩
theorem wayI_way (k : List UInt8) : ∀ (T : Tv) (d : Nat), (T.wayI k d).map (·.2) = T.way k d
 | .nil, _ => rfl
 | .leaf _ _, _ => rfl
 | .inner v a b, d => by
  unfold Tv.wayI Tv.way
  rw [List.map_cons]
  split
  ·rw [wayI_way k a (d + 1)]
  ·rw [wayI_way k b (d + 1)]
theorem pre_mem {α : Type} {pre xs : List α} {x : α} (h : pre ++ [x] <+: xs) : x ∈ xs := h.subset (by simp)
theorem quietEndB {α : Type} {B j : Nat} {M : Nat → Prop} {I : List α → World → Prop} {Ix : Code → List α → World → Prop} {s : List α} {X : World} : ¬ LetsOut (Exit.inBlock j (endC B M I Ix s X)) := fun ⟨_, _, h⟩ => h
theorem wayI_ms {M : World → Int → Tv → Prop} (nd : NdV M) {w : World} {n : Int} (k : List UInt8) (T : Tv) (d : Nat) (h : M w n T) : ∀ x ∈ T.wayI k d, M w n x.2 := fun x hx =>
 ms_way nd k T d h _ (by rw [← wayI_way]; exact List.mem_map.2 ⟨x, hx, rfl⟩)
end
section
open Go.RowKit Go.Shelf
attribute [local go_sem] Oper.semAt_some
end
section
open Go.RowKit Go.Shelf
attribute [local go_sem] Oper.semAt_some
def lastV (s : List (Nat × Tv)) : Value :=
 match s.getLast? with
 | some x => x.2.val
 | none => .pointer none
def lastD (s : List (Nat × Tv)) : Int :=
 match s.getLast? with
 | some x => (x.1 : Int)
 | none => 0
theorem lastV_snoc (s : List (Nat × Tv)) (x : Nat × Tv) : lastV (s ++ [x]) = x.2.val := by simp [lastV]
theorem lastD_snoc (s : List (Nat × Tv)) (x : Nat × Tv) : lastD (s ++ [x]) = (x.1 : Int) := by simp [lastD]
theorem wayI_last (k : List UInt8) : ∀ (T : Tv) (d : Nat), (T.wayI k d).getLast? = some (T.dep k d, T.fin k d)
 | .nil, _ => rfl
 | .leaf _ _, _ => rfl
 | .inner v a b, d => by
  unfold Tv.wayI Tv.dep Tv.fin
  split
  ·rw [List.getLast?_cons, wayI_last k a (d + 1)]; rfl
  ·rw [List.getLast?_cons, wayI_last k b (d + 1)]; rfl
theorem lastV_way (k : List UInt8) (T : Tv) : lastV (T.wayI k 0) = (T.fin k 0).val := by unfold lastV; rw [wayI_last]
theorem lastD_way (k : List UInt8) (T : Tv) : lastD (T.wayI k 0) = ((T.dep k 0 : Nat) : Int) := by unfold lastD; rw [wayI_last]
theorem locate_n {M : World → Int → Tv → Prop} (nd : NdV M) (w : World) (n : Int) (l : List Ent) (T : Tv) (k : List UInt8) (hM : M w n T) (hT : IsMap l T) (hk : k.length = 32) :
  Calls Tryz.prog 30 #[T.val, .agg (bA k)] w fun e w' => e = .returned (.tuple #[(T.fin k 0).val, .int .i64 ((T.dep k 0 : Nat) : Int)]) ∧ Below w.heap.size w w' := by
 obtain ⟨p, hp⟩ := val_ptr nd hM
 have HP := Lib.hid hp
 have HM := Lib.hid hM
 have HT := Lib.hid hT
 obtain ⟨q, hq⟩ := val_ptr nd (ms_fin nd k (d := 0) hM)
 have HQ := Lib.hid hq
 rw [hp, hq]
 refine (callsIn_wide (n := 10)).1 ?_
 refine callsIn_of_wp_marks Tryz.func30 rfl trivial ?_ rfl
 simp only [Tryz.ntmps30, List.size_toArray, List.length_cons, List.length_nil, Nat.reduceAdd, Nat.reduceSub, Array.replicate_succ, Array.replicate_zero, List.push_toArray, List.append_toArray, List.nil_append, List.cons_append]
 refine wpIn_wide.2 ?_
 obtain ⟨V, hV⟩ : ∃ V, V = (w.alloc (.cells (bA k) 39)).alloc (.cells #[.pointer none] 24) := ⟨_, rfl⟩
 have hbV : Below w.heap.size w V := by rw [hV]; exact ((Below.refl _ w).alloc (Nat.le_refl _) _).alloc (by simp) _
 have hsV : V.heap.size = w.heap.size + 1 + 1 := by rw [hV]; simp
 have rK0 : V.heap[w.heap.size]? = some (.cells (bA k) 39 (0, 0)) := by rw [hV]; exact heap_alloc2_old w _ _
 have rE0 : V.heap[w.heap.size + 1]? = some (.cells #[.pointer none] 24 (0, 0)) := by rw [hV]; exact heap_alloc2_new w _ _
 obtain ⟨X, hX⟩ : ∃ X, X = V.alloc (.cells #[.int .i64 0] 3) := ⟨_, rfl⟩
 have hVX : Below V.heap.size V X := by rw [hX]; exact (Below.refl _ V).alloc (Nat.le_refl _) _
 have hbX : Below w.heap.size w X := hbV.trans (hVX.mono hbV.size)
 have hsX : X.heap.size = w.heap.size + 1 + 1 + 1 := by rw [hX]; simp [hsV]
 have rK : X.heap[w.heap.size]? = some (.cells (bA k) 39 (0, 0)) := by rw [hVX.block _ (by omega)]; exact rK0
 have rE : X.heap[w.heap.size + 1]? = some (.cells #[.pointer none] 24 (0, 0)) := by rw [hVX.block _ (by omega)]; exact rE0
 have rD : X.heap[w.heap.size + 1 + 1]? = some (.cells #[.int .i64 0] 3 (0, 0)) := by rw [hX, ← hsV]; exact heap_alloc_new V _
 have lk : ldA 39 X (.pointer (some ⟨w.heap.size, 0, none⟩)) = .ok (.value (.agg (bA k))) X :=
  ldA_row (t' := 39) (fr := (0, 0)) rK Tryz.underlying39 (by rw [bA_size, hk]; exact infoKey)
 rw [hX, hV] at lk
 have HX : Hid (X = ((w.alloc (.cells (bA k) 39)).alloc (.cells #[.pointer none] 24)).alloc (.cells #[.int .i64 0] 3)) := by show _ = _; rw [hX, hV]
 have HRE := Lib.hid rE
 have HRD := Lib.hid rD
 have HBX := Lib.hid hbX
 have HSX := Lib.hid hsX
 have HK := Lib.hid hk
 clear hX hV rK rE rD rK0 rE0 hVX hbV hsV hbX hsX hM hT hp hk hq
 go_wp2_with fail
 rw [← HX.out]
 refine (way_c p k X).mono ?_
 rintro e W0 ⟨rfl, hW0⟩
 have hbW : Below X.heap.size X W0 := by rw [hW0]; exact ((Below.refl _ X).alloc (Nat.le_refl _) _).alloc (by simp) _
 have hB0 : Below w.heap.size w W0 := HBX.out.trans (hbW.mono HBX.out.size)
 have hs0 : W0.heap.size = X.heap.size + 2 := by rw [hW0]; simp
 have hwy : Wy M w n k X.heap.size (X.heap.size + 1) T W0 := ⟨hB0, by rw [hW0, HP.out]; exact heap_alloc2_old X _ _, by rw [hW0]; exact heap_alloc2_new X _ _⟩
 have rE0 : W0.heap[w.heap.size + 1]? = some (.cells #[.pointer none] 24 (0, 0)) := by rw [hbW.block _ (lt_of_heap HRE.out)]; exact HRE.out
 have rD0 : W0.heap[w.heap.size + 1 + 1]? = some (.cells #[.int .i64 0] 3 (0, 0)) := by rw [hbW.block _ (lt_of_heap HRD.out)]; exact HRD.out
 have hseq := way_seq nd w W0 n l T k HM.out HT.out HK.out X.heap.size (X.heap.size + 1) hwy
 have HSEQ := Lib.hid hseq
 have HB0 := Lib.hid hB0
 have HS0 := Lib.hid hs0
 have HRE0 := Lib.hid rE0
 have HRD0 := Lib.hid rD0
 clear lk hW0 hbW hB0 hs0 hwy rE0 rD0 hseq HRE HRD HX
 go_wp2_with fail
 have hbig := HBX.out.size
 have hsx := HSX.out
 have hs0 := HS0.out
 refine (wpIn_wide (n := 10)).1 ?_
 refine wpIn_rangeC (gf := 81) (lb := #[.pointer (some ⟨X.heap.size, 0, none⟩), .pointer (some ⟨X.heap.size + 1, 0, none⟩)]) rfl (enters_of Tryz.func81 (by kernel_rfl) rfl) HSEQ.out
  (fun i hi => ⟨by omega, by omega, by omega⟩) (fun i hi => by have e : i = X.heap.size := hi; omega) (fun _ => rfl)
  (fun pre Y => (Y.heap[w.heap.size + 1]? = some (.cells #[lastV pre] 24 (0, 0)) ∧ Y.heap[w.heap.size + 1 + 1]? = some (.cells #[.int .i64 (lastD pre)] 3 (0, 0))) ∧ Below w.heap.size w Y) (fun _ _ _ => False)
  (fun s Y Z ⟨⟨h1, h2⟩, h3⟩ hk => ⟨⟨hk.heap h1 (fun e => by have e : w.heap.size + 1 = X.heap.size := e; omega), hk.heap h2 (fun e => by have e : w.heap.size + 1 + 1 = X.heap.size := e; omega)⟩, h3.trans (hk.below h3.size fun i hi => by have e : i = X.heap.size := hi; omega)⟩)
  (fun s Y b o o' ⟨⟨h1, h2⟩, h3⟩ hb ho hc => ⟨⟨(World.putObj_heap_other (by omega)).trans h1, (World.putObj_heap_other (by omega)).trans h2⟩, h3.trans ((keep_putObj (M := fun i => i = b) Y b o' rfl).below h3.size fun i hi => by have e : i = b := hi; omega)⟩)
  (fun _ _ _ _ h _ => h) (fun _ _ _ _ _ _ h _ _ _ => h)
  (fun Y hY => ⟨⟨by rw [hY.block _ (lt_of_heap HRE0.out)]; exact HRE0.out, by rw [hY.block _ (lt_of_heap HRD0.out)]; exact HRD0.out⟩, HB0.out.trans (hY.mono HB0.out.size)⟩)
  (fun x a' _ => a' = { tmps := #[.pointer p, .agg (bA k), undef, .pointer (some ⟨w.heap.size, 0, none⟩), .pointer none, .int .i64 0, .pointer (some ⟨w.heap.size + 1, 0, none⟩), .pointer (some ⟨w.heap.size + 1 + 1, 0, none⟩), .int .i64 (x.1 : Int), x.2.val, .pointer p, .agg (bA k),
   .func (.func 81) #[] #[.pointer (some ⟨X.heap.size, 0, none⟩), .pointer (some ⟨X.heap.size + 1, 0, none⟩)], .int .i64 (x.1 : Int), x.2.val, undef, undef, undef, undef], defers := [] })
  (fun _ _ _ _ _ _ h _ _ _ => h) ?assign ?body ?done ?stop
 case assign =>
  intro b pre x Y K hi hp hK
  clear hbig hsx hs0
  gi_wp2
  exact hK _ _ (KeepsFrom.refl _ _) (Keep.refl _ _) hi rfl
 case body =>
  rintro b pre x a' Y hb ⟨r, hr⟩ ⟨⟨h1, h2⟩, h3⟩ rfl hp
  clear hbig hsx hs0
  have hY0 : W0.heap.size ≤ Y.heap.size := by have := lt_of_heap hr; omega
  clear hr
  obtain ⟨px, hpx⟩ := val_ptr nd (wayI_ms nd k T 0 HM.out x (pre_mem hp))
  have HPX := Lib.hid hpx
  have HB := Lib.hid h3
  have hc1 : Y.cell? ⟨w.heap.size + 1, 0, none⟩ = some (lastV pre) := by rw [cell_of_cells h1]; rfl
  have hf1 : Y.frozen? ⟨w.heap.size + 1, 0, none⟩ = false := frozen_of_row Y _ _ _ _ h1
  obtain ⟨Y1, hY1⟩ : ∃ Y1, Y1 = Y.setCell ⟨w.heap.size + 1, 0, none⟩ (.pointer px) := ⟨_, rfl⟩
  have g1 : Y1.heap[w.heap.size + 1]? = some (.cells #[.pointer px] 24 (0, 0)) := by rw [hY1]; exact set_row h1
  have g2 : Y1.heap[w.heap.size + 1 + 1]? = some (.cells #[.int .i64 (lastD pre)] 3 (0, 0)) := by rw [hY1]; exact set_keep h2 (by omega)
  have hc2 : Y1.cell? ⟨w.heap.size + 1 + 1, 0, none⟩ = some (.int .i64 (lastD pre)) := by rw [cell_of_cells g2]; rfl
  have hf2 : Y1.frozen? ⟨w.heap.size + 1 + 1, 0, none⟩ = false := frozen_of_row Y1 _ _ _ _ g2
  obtain ⟨Y2, hY2⟩ : ∃ Y2, Y2 = Y1.setCell ⟨w.heap.size + 1 + 1, 0, none⟩ (.int .i64 (x.1 : Int)) := ⟨_, rfl⟩
  have e1 : Y2.heap[w.heap.size + 1]? = some (.cells #[.pointer px] 24 (0, 0)) := by rw [hY2]; exact set_keep g1 (by omega)
  have e2 : Y2.heap[w.heap.size + 1 + 1]? = some (.cells #[.int .i64 (x.1 : Int)] 3 (0, 0)) := by rw [hY2]; exact set_row g2
  have HF : Hid (KeepsFrom W0.heap.size Y Y2 ∧ Keep (fun i => w.heap.size ≤ i ∧ i ≠ X.heap.size ∧ i ≠ X.heap.size + 1) Y Y2 ∧ (Y2.heap[w.heap.size + 1]? = some (.cells #[lastV (pre ++ [x])] 24 (0, 0)) ∧ Y2.heap[w.heap.size + 1 + 1]? = some (.cells #[.int .i64 (lastD (pre ++ [x]))] 3 (0, 0))) ∧ Below w.heap.size w Y2) := by
   have hsx := HSX.out
   refine ⟨?_, ?_, ⟨by rw [lastV_snoc, HPX.out]; exact e1, by rw [lastD_snoc]; exact e2⟩, ?_⟩
   ·rw [hY2, hY1]; exact ((KeepsOthers.setCell _ _ _).trans (KeepsOthers.setCell _ _ _)).from _
   ·rw [hY2, hY1]; exact ((Keep.cell _ ⟨w.heap.size + 1, 0, none⟩ _).mono fun i hi => by have e : i = w.heap.size + 1 := hi; exact ⟨by omega, by omega, by omega⟩).trans ((Keep.cell _ ⟨w.heap.size + 1 + 1, 0, none⟩ _).mono fun i hi => by have e : i = w.heap.size + 1 + 1 := hi; exact ⟨by omega, by omega, by omega⟩)
   ·rw [hY2, hY1]; exact (HB.out.setCell (by show w.heap.size ≤ w.heap.size + 1; omega) _).setCell (by show w.heap.size ≤ w.heap.size + 1 + 1; omega) _
  have HY1 := Lib.hid hY1
  have HY2 := Lib.hid hY2
  rw [hY1] at hc2 hf2
  clear h1 h2 h3 hp g1 g2 e1 e2 hY1 hY2 hY0
  rw [hpx]
  clear hpx
  refine wpIn_block (round_region quietEndB (by rfl) ?_)
  go_wp2_with fail
  rw [← HY1.out, ← HY2.out]
  exact HF.out
 case done =>
  rintro D Y hD ⟨⟨h1, h2⟩, h3⟩ hd
  clear hbig hsx hs0
  rw [lastV_way, HQ.out] at h1
  rw [lastD_way] at h2
  have HH1 := Lib.hid h1
  have HH2 := Lib.hid h2
  have HF := Lib.hid h3
  have HD := Lib.hid hd
  have HDD := Lib.hid hD
  clear h1 h2 h3 hd hD
  have l1 : ∀ x : Later Y, x.w.cell? ⟨w.heap.size + 1, 0, none⟩ = some (.pointer q) := fun x => by rw [cell_of_cells (x.block HH1.out)]; rfl
  have l2 : ∀ x : Later Y, x.w.cell? ⟨w.heap.size + 1 + 1, 0, none⟩ = some (.int .i64 ((T.dep k 0 : Nat) : Int)) := fun x => by rw [cell_of_cells (x.block HH2.out)]; rfl
  go_wp2_with fail
  refine wp_region_later (by kernel_rfl) (by kernel_rfl) ?_
  repeat (go_big_quiet_step (fail))
  refine wpQuiet_nil ?_
  rintro _ ⟨x, rfl⟩
  have HDX : Hid (x.w.heap[D]? = some (.deferred (some []))) := by show _ = _; rw [x.h.block _ (lt_of_heap HD.out)]; exact HD.out
  have HFX : Hid (Below w.heap.size w (x.w.putObj D (.deferred none))) := (HF.out.trans (x.h.mono HF.out.size)).trans ((keep_putObj (M := fun i => i = D) x.w D _ rfl).below (Nat.le_trans HF.out.size x.h.size) fun i hi => by have e : i = D := hi; have := HDD.out; have := HB0.out.size; omega)
  clear l1 l2
  go_wp2_with fail
  refine ⟨by simp, .inl ⟨_, _, rfl, run_takeDeferred HDX.out, ?_⟩⟩
  exact ⟨_, results_tmp2 rfl _ _ _, rfl, HFX.out⟩
 case stop =>
  rintro D c pre Y _ _ h _
  exact h.elim
end
section
open Go.RowKit Go.Shelf
theorem field_leafKey_f (f : Nat → UInt8) (w : World) : (Instr.field 57 (.agg (bA ((List.range 64).map f))) 0).run Tryz.prog w = .ok (.agg (bA ((List.range 32).map f))) w := by kernel_rfl
theorem field_leafKey (l : List UInt8) (h : l.length = 64) (w : World) : (Instr.field 57 (.agg (bA l)) 0).run Tryz.prog w = .ok (.agg (bA (l.take 32))) w := by
 have h1 := field_leafKey_f (fun j => l.getD j 0) w
 rw [← list64 l h] at h1
 have e : (List.range 32).map (fun j => l.getD j 0) = l.take 32 := by
  refine List.ext_getElem (by simp [h]) fun j h2 h3 => ?_
  have hj : j < l.length := by have : j < 32 := by simpa using h2
                               omega
  simp [List.getD_eq_getElem?_getD, hj]
 rw [h1, e]
theorem neKey8 (l m : List UInt8) (hl : l.length = 32) (hm : m.length = 32) (x y : Operand) (w : World) :
  eqA .neq 39 x y w (.agg (bA l)) (.agg (bA m)) = .ok (.value (.bool (!decide (l = m)))) w := (eqA_of guardKey (eq_arr Tryz.underlying39 9998 l m hl hm) x y w).2
end
section
open Go.RowKit Go.Shelf
attribute [local go_sem] Oper.semAt_some
end
section
open Go.RowKit
theorem fn_c : FnV Mn where
 locate := locate_n nd_c
 child := fun w n T b => child_c nd_c w n T b
end
end Go.Proofs.YtmfbhohjpkmllaaGreatDoor
