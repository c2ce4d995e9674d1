import Derived.RangeFuncBound
import Derived.RangeFuncLeaves
import Derived.Shelf.Abstract
import Derived.Shelf.RegionOpen
import Derived.OwnWalkIn
import Derived.TacticsInMore
import Derived.LoopNIn
import Derived.LoopIn
import Derived.Test.YtjgdindjimbfeaaGreatDoorMO
import Derived.Test.YtjgdindjimbfeaaGreatDoorM3
import Derived.Test.YtjgdindjimbfeaaGreatDoorMR
import Derived.RangeFuncCalls
import Derived.BigQuiet
import Derived.Test.YtjgdindjimbfeaaGreatDoorMQ
import Derived.WalkMore
namespace Go.Proofs.YtjgdindjimbfeaaGreatDoor
set_option linter.unusedSimpArgs false
set_option linter.unusedVariables false
set_option maxHeartbeats 4000000
set_option maxRecDepth 100000
section
open Go.RowKit Go.Shelf
theorem pbitK_c (k : List UInt8) (hk : k.length = 32) (d : Int) (w : World) : Calls Tryz.prog 100 #[.agg (bA k), .int .i64 d] w fun e w' => e = .returned (.int .i64 (bitK k d)) ∧ Below w.heap.size w w' := by
 rw [bA_key k hk]
 exact Bt.bit_c (keyF k) (keyF_byt k) d w
theorem child_c {M : World → Int → Tv → Prop} (nd : NdV M) (w : World) (n : Int) (T : Tv) (b : Int) (h : M w n T) : Calls Tryz.prog 99 #[T.val, .int .i64 b] w fun e w' => e = .returned (T.child b).val ∧ Below w.heap.size w w' := by
 have HL := Lib.hid (nd.left w n T h)
 have HR := Lib.hid (nd.right w n T h)
 obtain ⟨p, hp⟩ := val_ptr nd h
 unfold Tv.child
 rw [hp] at HL HR ⊢
 clear h hp
 by_cases hb : b = 0
 ·rw [if_pos hb]
  subst hb
  go_enter Tryz.func99, Tryz.ntmps99
  go_wp2_with fail
  refine HL.out.mono ?_
  rintro _ w1 ⟨rfl, hB⟩
  have HB := Lib.hid hB
  clear hB
  go_wp2_with fail
  go_ret
  exact ⟨rfl, HB.out⟩
 ·rw [if_neg hb]
  have hb2 : (b == 0) = false := by simpa using hb
  go_enter Tryz.func99, Tryz.ntmps99
  go_wp2_with fail
  refine HR.out.mono ?_
  rintro _ w1 ⟨rfl, hB⟩
  have HB := Lib.hid hB
  clear hB
  go_wp2_with fail
  go_ret
  exact ⟨rfl, HB.out⟩
def Tv.wayI (k : List UInt8) : Tv → Nat → List (Nat × Tv)
 | .inner v a b, d => (d, .inner v a b) :: (if bitK k d = 0 then wayI k a (d + 1) else wayI k b (d + 1))
 | t, d => [(d, t)]
abbrev encW (x : Nat × Tv) : Array Value := #[.int .i64 (x.1 : Int), x.2.val]
theorem wayI_cons (k : List UInt8) (T : Tv) (d : Nat) : ∃ r, T.wayI k d = (d, T) :: r ∧ (kindT T.tr ≠ 2 → r = []) ∧ (kindT T.tr = 2 → r = (T.child (bitK k d)).wayI k (d + 1)) := by
 cases T with
 | nil => exact ⟨[], rfl, fun _ => rfl, fun h => absurd h (show ¬ (0 : Int) = 2 by decide)⟩
 | leaf v e => exact ⟨[], rfl, fun _ => rfl, fun h => absurd h (show ¬ (1 : Int) = 2 by decide)⟩
 | inner v a b =>
  refine ⟨_, rfl, fun h => absurd rfl h, fun _ => ?_⟩
  unfold Tv.child
  split <;> rfl
theorem kind_inner {T : Tv} (h : kindT T.tr = 2) : ∃ v a b, T = .inner v a b := by
 cases T with
 | nil => exact absurd h (show ¬ (0 : Int) = 2 by decide)
 | leaf v e => exact absurd h (show ¬ (1 : Int) = 2 by decide)
 | inner v a b => exact ⟨v, a, b, rfl⟩
theorem At.child {l : List Ent} {k : List UInt8} {d : Nat} {T : Tv} (hs : Sep 0 l) (h : At l k d T) (hk : kindT T.tr = 2) : d < 256 ∧ At l k (d + 1) (T.child (bitK k d)) := by
 obtain ⟨v, a, b, rfl⟩ := kind_inner hk
 obtain ⟨h1, _, h3, _⟩ := At.inner hs h
 refine ⟨h1, ?_⟩
 unfold Tv.child
 split at h3 <;> rename_i hb
 ·rw [if_pos hb]; exact h3
 ·rw [if_neg hb]; exact h3
theorem ms_child {M : World → Int → Tv → Prop} (nd : NdV M) {w : World} {n : Int} {T : Tv} {b : Int} (h : M w n T) : M w n (T.child b) := by
 unfold Tv.child
 cases T with
 | nil => split <;> exact nd.nil _ _
 | leaf v e => split <;> exact nd.nil _ _
 | inner v x y =>
  obtain ⟨hx, hy⟩ := nd.kids h
  split
  ·exact hx
  ·exact hy
structure Wy (M : World → Int → Tv → Prop) (w0 : World) (n : Int) (k : List UInt8) (s q : Nat) (S : Tv) (X : World) : Prop where
 bel : Below w0.heap.size w0 X
 st : X.heap[s]? = some (.cells #[S.val] 61 (0, 0))
 ky : X.heap[q]? = some (.cells (bA k) 48 (0, 0))
theorem Wy.below {M : World → Int → Tv → Prop} {w0 : World} {n : Int} {k : List UInt8} {s q : Nat} {S : Tv} {X Y : World} (h : Wy M w0 n k s q S X) (hb : Below X.heap.size X Y) : Wy M w0 n k s q S Y :=
 ⟨h.bel.trans (hb.mono h.bel.size), by rw [hb.block _ (lt_of_heap h.st)]; exact h.st, by rw [hb.block _ (lt_of_heap h.ky)]; exact h.ky⟩
theorem Wy.keep {M : World → Int → Tv → Prop} {w0 : World} {n : Int} {k : List UInt8} {s q : Nat} {S : Tv} {X Y : World} (h : Wy M w0 n k s q S X) (hk : Keep (fun i => w0.heap.size ≤ i ∧ i ≠ s ∧ i ≠ q) X Y) : Wy M w0 n k s q S Y :=
 ⟨h.bel.trans (hk.below h.bel.size fun _ hi => hi.1), hk.heap h.st fun h => h.2.1 rfl, hk.heap h.ky fun h => h.2.2 rfl⟩
@[go_sem ↓] theorem semAt_loadKey (ro : Option Nat) (ρ : Operand → Value) (dst : Option Tmp) (x : Operand) (type : TypeId) (pos : String) (after : Array Edge) (guard : Option (Nat × Bool)) (w : World) :
  Sem.run Tryz.prog (Oper.semAt ro ρ { dst, op := .load 48 x, type, pos, after, guard }) w = ldA 48 w (ρ x) := by cases ro <;> rfl
theorem way_seq {M : World → Int → Tv → Prop} (nd : NdV M) (w0 w : World) (n : Int) (l : List Ent) (T : Tv) (k : List UInt8) (hM : M w0 n T) (hT : IsMap l T) (hk : k.length = 32) (s q : Nat) (hw : Wy M w0 n k s q T w) :
  SeqC Tryz.prog 128 #[.pointer (some ⟨s, 0, none⟩), .pointer (some ⟨q, 0, none⟩)] encW (fun i => w0.heap.size ≤ i ∧ i ≠ s ∧ i ≠ q) (fun i => i = s) (T.wayI k 0) w := by
 intro n0 l0 J W hW hJ hY h0
 obtain ⟨pT, hpT⟩ := val_ptr nd hM
 have HPT := Lib.hid hpT
 have hc0 : W.cell? ⟨s, 0, none⟩ = some (.pointer pT) := by rw [cell_of_cells (hw.below hW).st, hpT]; rfl
 have HW0 := Lib.hid (hw.below hW)
 have HA0 := Lib.hid (hT.at k)
 have HM0 := Lib.hid hM
 have HSEP := Lib.hid hT.sep
 have HK := Lib.hid hk
 have HJ := Lib.hid hJ
 have HY := Lib.hid hY
 have HJ0 := Lib.hid h0
 clear hw hW hM hT hk hJ hY h0 hpT
 refine callsIn_of_wp Tryz.func128 rfl trivial ?_ rfl
 simp only [Tryz.ntmps128, List.size_toArray, List.length_cons, List.length_nil, Nat.reduceAdd, Nat.reduceSub, Array.replicate_succ, Array.replicate_zero, List.push_toArray, List.append_toArray, List.nil_append, List.cons_append]
 gi_wp2
 clear hc0
 gi_loopw [4, 5] (fun v p wr => ∃ (pre : List (Nat × Tv)) (S : Tv) (d : Nat) (pS : Option Addr), v = .pointer pS ∧ p = .int .i64 (d : Int) ∧ Hid (S.val = .pointer pS ∧ T.wayI k 0 = pre ++ S.wayI k d ∧ Wy M w0 n k s q T wr ∧ M w0 n S ∧ At l k d S ∧ J true pre wr)) (fun _ p _ => 257 - (intOf p).toNat)
 case atStart => exact ⟨[], T, 0, pT, rfl, rfl, HPT.out, rfl, HW0.out, HM0.out, HA0.out, HJ0.out⟩
 case round =>
  obtain ⟨pre, S, d, pS, rfl, rfl, HR⟩ := hrel
  obtain ⟨hpS, hx, hwy, hm, hat, hj⟩ := HR.out
  obtain ⟨r, hr, hr0, hr2⟩ := wayI_cons k S d
  have hpre : pre ++ [(d, S)] <+: T.wayI k 0 := ⟨r, by rw [hx, hr]; simp⟩
  obtain ⟨fn, tmps, assign, body, hy, hR⟩ := HY.out pre (d, S) wr hj hpre
  dsimp only [encW] at hy
  rw [hpS] at hy
  have HPRE := Lib.hid hpre
  have HWY := Lib.hid hwy
  have HM := Lib.hid hm
  have HAT := Lib.hid hat
  have HX := Lib.hid hx
  have HRR := Lib.hid hr
  have HR0 := Lib.hid hr0
  have HR2 := Lib.hid hr2
  have HP := Lib.hid hpS
  have HRD := Lib.hid hR
  clear hx hwy hm hat hj hr hr0 hr2 hpre hpS HR hR
  gi_wp2
  refine ⟨fun h => (by cases h), HRD.out.mono ?_⟩
  rintro e W3 ⟨b, rfl, hJ3, hk3⟩
  have HJ3 := Lib.hid hJ3
  have HK3 := Lib.hid hk3
  clear hJ3 hk3 HRD hy
  cases b with
  | false =>
   gi_wp2
   refine ⟨trivial, ?_⟩
   gi_wp2
   go_end0
   exact ⟨⟨_, rfl⟩, .inr ⟨_, HPRE.out, HJ3.out⟩⟩
  | true =>
   have hwy3 := HWY.out.keep (HK3.out rfl)
   have HKD := Lib.hid (nd.kind W3 n S (nd.below HM.out hwy3.bel))
   rw [HP.out] at HKD
   have HWY3 := Lib.hid hwy3
   clear hwy3
   gi_wp2
   refine ⟨trivial, fun h => (by cases h), (callsIn_wide.2 HKD.out).mono ?_⟩
   rintro _ W4 ⟨rfl, hB4⟩
   have HWY4 := Lib.hid (HWY3.out.below hB4)
   have HJ4 := Lib.hid (HJ.out _ _ _ _ HJ3.out (Keep.of_below hB4))
   clear HKD HWY3 HJ3 hB4 HK3
   by_cases hk2 : kindT S.tr = 2
   ·rw [hk2]
    have HCH := Lib.hid (At.child HSEP.out HAT.out hk2)
    have HR3 := Lib.hid (HR2.out hk2)
    clear hk2
    obtain ⟨hd, hat2⟩ := HCH.out
    have lk : ldA 48 W4 (.pointer (some ⟨q, 0, none⟩)) = .ok (.value (.agg (bA k))) W4 := ldA_row HWY4.out.ky Tryz.underlying48 (by rw [bA_size, HK.out]; exact infoKey)
    obtain ⟨bt, hbt⟩ : ∃ bt, bt = bitK k d := ⟨_, rfl⟩
    have HM2 := Lib.hid (ms_child nd (b := bt) HM.out)
    obtain ⟨pC, hpC⟩ := val_ptr nd HM2.out
    have HPC := Lib.hid hpC
    rw [← hbt] at hat2
    have HBT := Lib.hid hbt
    have HAT2 := Lib.hid hat2
    have HD := Lib.hid hd
    clear hpC hbt hat2 hd HCH
    gi_wp2
    refine ⟨trivial, fun h => (by cases h), (callsIn_wide.2 (pbitK_c k HK.out d _)).mono ?_⟩
    rintro _ W5 ⟨rfl, hB5⟩
    rw [← HBT.out]
    have HWY5 := Lib.hid (HWY4.out.below hB5)
    have HJ5 := Lib.hid (HJ.out _ _ _ _ HJ4.out (Keep.of_below hB5))
    have HC := Lib.hid (child_c nd W5 n S bt (nd.below HM.out HWY5.out.bel))
    rw [HP.out, HPC.out] at HC
    clear lk hB5 HWY4 HJ4
    gi_wp2
    refine ⟨trivial, fun h => (by cases h), (callsIn_wide.2 HC.out).mono ?_⟩
    rintro _ W6 ⟨rfl, hB6⟩
    have HWX := Lib.hid (HWY5.out.below hB6)
    have HJX := Lib.hid (HJ.out _ _ _ _ HJ5.out (Keep.of_below hB6))
    clear HC hB6 HWY5 HJ5
    have hd : d < 256 := HD.out
    gi_wp2
    go_roundw
    case rel =>
     refine ⟨pre ++ [(d, S)], S.child bt, d + 1, pC, rfl, by go_num, HPC.out, ?_, HWX.out, HM2.out, HAT2.out, HJX.out⟩
     rw [HX.out, HRR.out, HR3.out, HBT.out, List.append_assoc]
     rfl
    case measure => simp [intOf]; omega
   ·have HN := Lib.hid (HR0.out hk2)
    obtain ⟨kd, hkd⟩ : ∃ kd, kd = kindT S.tr := ⟨_, rfl⟩
    rw [← hkd] at hk2 ⊢
    have kb : (kd == 2) = false := by simpa using hk2
    clear hkd hk2
    gi_wp2
    go_end0
    exact ⟨⟨_, rfl⟩, .inl (by rw [HX.out, HRR.out, HN.out]; exact HJ4.out)⟩
end
section
open Go.RowKit Go.Shelf
attribute [local go_sem] Oper.semAt_some
theorem way_c (p : Option Addr) (k : List UInt8) (w : World) : Calls Tryz.prog 96 #[.pointer p, .agg (bA k)] w fun e w' => e = .returned (.func (.func 128) #[] #[.pointer (some ⟨w.heap.size, 0, none⟩), .pointer (some ⟨w.heap.size + 1, 0, none⟩)]) ∧ w' = (w.alloc (.cells #[.pointer p] 61)).alloc (.cells (bA k) 48) := by
 go_enter Tryz.func96, Tryz.ntmps96
 go_wp2_with fail
 go_ret
 exact ⟨rfl, rfl⟩
theorem wayI_way (k : List UInt8) : ∀ (T : Tv) (d : Nat), (T.wayI k d).map (·.2) = T.way k d
 | .nil, _ => rfl
 | .leaf _ _, _ => rfl
 | .inner v a b, d => by
  unfold Tv.wayI Tv.way
  rw [List.map_cons]
  split
  ·rw [wayI_way k a (d + 1)]
  ·rw [wayI_way k b (d + 1)]
theorem pre_mem {α : Type} {pre xs : List α} {x : α} (h : pre ++ [x] <+: xs) : x ∈ xs := h.subset (by simp)
theorem pre_len {α : Type} {pre xs : List α} {x : α} (h : pre ++ [x] <+: xs) : pre.length < xs.length := by have := h.length_le; simp at this; omega
theorem wayI_len {l : List Ent} {T : Tv} (h : IsMap l T) (k : List UInt8) : (T.wayI k 0).length ≤ 257 := by
 have h1 := congrArg List.length (wayI_way k T 0)
 rw [List.length_map, way_len] at h1
 have h2 := sibs_len k T 0
 have h3 := dep_le h.sep (h.at k)
 omega
theorem push_end {w Y Z w1 : World} {B bx : Nat} {v : Value} {A : Option Addr} {nn c : Nat} {ts : List Tv} {M : Nat → Prop} (hYZ : Below Y.heap.size Y Z) (hko : KeepsOthers Y Z) (hB : Below w.heap.size w Y) (hb : Z.heap[bx]? = some (.cells #[v] 117 (0, 0))) (hP : Pushed B (.slice A nn c) ts Z w1)
  (hbx : bx < B) (hM : ∀ i, B ≤ i → M i) (hMb : M bx) (hw : w.heap.size ≤ bx) (hwB : w.heap.size ≤ B) :
  (KeepsFrom B Y (w1.setCell ⟨bx, 0, none⟩ (.slice A nn c)) ∧ Keep M Y (w1.setCell ⟨bx, 0, none⟩ (.slice A nn c)) ∧ (w1.setCell ⟨bx, 0, none⟩ (.slice A nn c)).heap[bx]? = some (.cells #[.slice A nn c] 117 (0, 0)) ∧
   OwnT (w1.setCell ⟨bx, 0, none⟩ (.slice A nn c)) B (.slice A nn c) ts ∧ Below w.heap.size w (w1.setCell ⟨bx, 0, none⟩ (.slice A nn c))) ∧ w1.cell? ⟨bx, 0, none⟩ = some v ∧ w1.frozen? ⟨bx, 0, none⟩ = false := by
 have h1 : w1.heap[bx]? = some (.cells #[v] 117 (0, 0)) := by rw [hP.bel.block _ hbx]; exact hb
 have hc : Keep (fun i => i = bx) w1 (w1.setCell ⟨bx, 0, none⟩ (.slice A nn c)) := Keep.cell w1 ⟨bx, 0, none⟩ _
 have hZs := hYZ.size
 have hZ1 : Keep M Z w1 := ⟨hP.bel.os, hP.bel.tape, hP.bel.output, hP.bel.size, fun i _ hm => hP.bel.block i (by
  rcases Nat.lt_or_ge i B with h | h
  ·exact h
  ·exact absurd (hM i h) hm)⟩
 refine ⟨⟨((hko.trans hP.oth).trans (KeepsOthers.setCell _ _ _)).from _, ((Keep.of_below hYZ).trans hZ1).trans (hc.mono fun i hi => by have e : i = bx := hi; rw [e]; exact hMb), set_row h1, hP.own.keep hc fun i hi => by have e : i = bx := hi; omega, ?_⟩, by rw [cell_of_cells h1]; rfl, frozen_of_row w1 _ _ _ _ h1⟩
 have hw1 : Below w.heap.size w w1 := (hB.trans (hYZ.mono hB.size)).trans (hP.bel.mono hwB)
 exact hw1.setCell hw _
theorem quietEndB {α : Type} {B j : Nat} {M : Nat → Prop} {I : List α → World → Prop} {Ix : Code → List α → World → Prop} {s : List α} {X : World} : ¬ LetsOut (Exit.inBlock j (endC B M I Ix s X)) := fun ⟨_, _, h⟩ => h
theorem wayI_ms {M : World → Int → Tv → Prop} (nd : NdV M) {w : World} {n : Int} (k : List UInt8) (T : Tv) (d : Nat) (h : M w n T) : ∀ x ∈ T.wayI k d, M w n x.2 := fun x hx =>
 ms_way nd k T d h _ (by rw [← wayI_way]; exact List.mem_map.2 ⟨x, hx, rfl⟩)
end
section
open Go.RowKit Go.Shelf
attribute [local go_sem] Oper.semAt_some
theorem keepsO_below {X Y : World} (h : Below X.heap.size X Y) : KeepsOthers X Y := ⟨h.size, fun k o hk _ => by rw [h.block _ (lt_of_heap hk)]; exact hk⟩
def sibsI (k : List UInt8) (s : List (Nat × Tv)) : List Tv := (s.filter fun x => decide (kindT x.2.tr = 2)).map fun x => x.2.child (1 - bitK k x.1)
theorem sibsI_len (k : List UInt8) (s : List (Nat × Tv)) : (sibsI k s).length ≤ s.length := by
 unfold sibsI
 rw [List.length_map]
 exact List.length_filter_le _ _
theorem sibsI_yes (k : List UInt8) (s : List (Nat × Tv)) (x : Nat × Tv) (h : kindT x.2.tr = 2) : sibsI k (s ++ [x]) = sibsI k s ++ [x.2.child (1 - bitK k x.1)] := by simp [sibsI, h]
theorem sibsI_no (k : List UInt8) (s : List (Nat × Tv)) (x : Nat × Tv) (h : kindT x.2.tr ≠ 2) : sibsI k (s ++ [x]) = sibsI k s := by simp [sibsI, h]
theorem sibsI_app (k : List UInt8) (s r : List (Nat × Tv)) : sibsI k (s ++ r) = sibsI k s ++ sibsI k r := by simp [sibsI]
theorem sibsI_way {l : List Ent} (k : List UInt8) (hs : Sep 0 l) : ∀ (T : Tv) (d : Nat), At l k d T → sibsI k (T.wayI k d) = T.sibs k d
 | .nil, _, _ => rfl
 | .leaf _ _, _, _ => rfl
 | .inner v a b, d, h => by
  obtain ⟨h1, h2⟩ := At.child hs h rfl
  obtain ⟨r, hr, _, hr2⟩ := wayI_cons k (.inner v a b) d
  have e : sibsI k ((Tv.inner v a b).wayI k d) = (Tv.child (.inner v a b) (1 - bitK k d)) :: sibsI k ((Tv.child (.inner v a b) (bitK k d)).wayI k (d + 1)) := by
   rw [hr, hr2 rfl, ← List.singleton_append, sibsI_app, ← List.nil_append [(d, Tv.inner v a b)], sibsI_yes k [] _ (show kindT (Tv.inner v a b).tr = 2 from rfl), ← List.singleton_append]
   unfold sibsI
   rfl
  rw [e]
  rcases bitK_01 k d h1 with hb | hb
  ·rw [hb] at h2 ⊢
   unfold Tv.sibs
   rw [if_pos hb, ← sibsI_way k hs a (d + 1) h2]
   rfl
  ·rw [hb] at h2 ⊢
   unfold Tv.sibs
   rw [if_neg (by rw [hb]; decide), ← sibsI_way k hs b (d + 1) h2]
   rfl
theorem bitK_small (k : List UInt8) (d : Int) : -1 ≤ bitK k d ∧ bitK k d ≤ 1 := by
 unfold bitK Bt.bitI
 split
 ·have := Bt.bit_lt (keyF k) d.toNat
  omega
 ·omega
theorem siblings_n {M : World → Int → Tv → Prop} (nd : NdV M) (w : World) (n : Int) (l : List Ent) (T : Tv) (k : List UInt8) (hM : M w n T) (hT : IsMap l T) (hk : k.length = 32) :
  Calls Tryz.prog 57 #[T.val, .agg (bA k)] w fun e w' => ∃ A c, e = .returned (.slice A (T.sibs k 0).length c) ∧ PA w' A (T.sibs k 0) ∧ Below w.heap.size w w' := by
 obtain ⟨p, hp⟩ := val_ptr nd hM
 have HP := Lib.hid hp
 have HM := Lib.hid hM
 have HT := Lib.hid hT
 rw [hp]
 refine (callsIn_wide (n := 10)).1 ?_
 refine callsIn_of_wp_marks Tryz.func57 rfl trivial ?_ rfl
 simp only [Tryz.ntmps57, List.size_toArray, List.length_cons, List.length_nil, Nat.reduceAdd, Nat.reduceSub, Array.replicate_succ, Array.replicate_zero, List.push_toArray, List.append_toArray, List.nil_append, List.cons_append]
 refine wpIn_wide.2 ?_
 obtain ⟨X, hX⟩ : ∃ X, X = (w.alloc (.cells (bA k) 48)).alloc (.cells #[.slice none 0 0] 117) := ⟨_, rfl⟩
 have lk : ldA 48 X (.pointer (some ⟨w.heap.size, 0, none⟩)) = .ok (.value (.agg (bA k))) X :=
  ldA_row (t' := 48) (fr := (0, 0)) (by rw [hX]; exact heap_alloc2_old w _ _) Tryz.underlying48 (by rw [bA_size, hk]; exact infoKey)
 have rL : X.heap[w.heap.size + 1]? = some (.cells #[.slice none 0 0] 117 (0, 0)) := by rw [hX]; exact heap_alloc2_new w _ _
 have hbX : Below w.heap.size w X := by rw [hX]; exact ((Below.refl _ w).alloc (Nat.le_refl _) _).alloc (by simp) _
 have hsX : X.heap.size = w.heap.size + 1 + 1 := by rw [hX]; simp
 rw [hX] at lk
 have HX := Lib.hid hX
 have HRL := Lib.hid rL
 have HRK : Hid (X.heap[w.heap.size]? = some (.cells (bA k) 48 (0, 0))) := by show _ = _; rw [hX]; exact heap_alloc2_old w _ _
 have HBX := Lib.hid hbX
 have HSX := Lib.hid hsX
 have HK := Lib.hid hk
 clear hX rL hbX hsX hM hT hp hk
 go_wp2_with fail
 rw [← HX.out]
 refine (way_c p k X).mono ?_
 rintro e W0 ⟨rfl, hW0⟩
 have hbW : Below X.heap.size X W0 := by rw [hW0]; exact ((Below.refl _ X).alloc (Nat.le_refl _) _).alloc (by simp) _
 have hB0 : Below w.heap.size w W0 := HBX.out.trans (hbW.mono HBX.out.size)
 have hs0 : W0.heap.size = X.heap.size + 2 := by rw [hW0]; simp
 have hwy : Wy M w n k X.heap.size (X.heap.size + 1) T W0 := ⟨hB0, by rw [hW0, HP.out]; exact heap_alloc2_old X _ _, by rw [hW0]; exact heap_alloc2_new X _ _⟩
 have rL0 : W0.heap[w.heap.size + 1]? = some (.cells #[.slice none 0 0] 117 (0, 0)) := by rw [hbW.block _ (lt_of_heap HRL.out)]; exact HRL.out
 have hseq := way_seq nd w W0 n l T k HM.out HT.out HK.out X.heap.size (X.heap.size + 1) hwy
 have HSEQ := Lib.hid hseq
 have HB0 := Lib.hid hB0
 have HS0 := Lib.hid hs0
 have HRL0 := Lib.hid rL0
 have HRK0 : Hid (W0.heap[w.heap.size]? = some (.cells (bA k) 48 (0, 0))) := by show _ = _; rw [hbW.block _ (by rw [HSX.out]; omega)]; exact HRK.out
 clear lk hW0 hbW hB0 hs0 hwy rL0 hseq HRL HX
 go_wp2_with fail
 have hbig := HBX.out.size
 have hsx := HSX.out
 have hs0 := HS0.out
 refine (wpIn_wide (n := 10)).1 ?_
 refine wpIn_rangeC (gf := 128) (lb := #[.pointer (some ⟨X.heap.size, 0, none⟩), .pointer (some ⟨X.heap.size + 1, 0, none⟩)]) rfl (enters_of Tryz.func128 (by kernel_rfl) rfl) HSEQ.out
  (fun i hi => ⟨by omega, by omega, by omega⟩) (fun i hi => by have e : i = X.heap.size := hi; omega) (fun _ => rfl)
  (fun pre Y => ((∃ u, Y.heap[w.heap.size + 1]? = some (.cells #[u] 117 (0, 0)) ∧ OwnT Y W0.heap.size u (sibsI k pre)) ∧ Y.heap[w.heap.size]? = some (.cells (bA k) 48 (0, 0))) ∧ Below w.heap.size w Y) (fun _ _ _ => False)
  (fun s Y Z ⟨⟨⟨v, h1, h2⟩, h4⟩, h3⟩ hk => ⟨⟨⟨v, hk.heap h1 (fun e => by have e : w.heap.size + 1 = X.heap.size := e; omega), h2.keep hk fun i hi => by have e : i = X.heap.size := hi; omega⟩, hk.heap h4 (fun e => by have e : w.heap.size = X.heap.size := e; omega)⟩, h3.trans (hk.below h3.size fun i hi => by have e : i = X.heap.size := hi; omega)⟩)
  (fun s Y b o o' ⟨⟨⟨v, h1, h2⟩, h4⟩, h3⟩ hb ho hc => ⟨⟨⟨v, (World.putObj_heap_other (by omega)).trans h1, h2.putObj ho hc⟩, (World.putObj_heap_other (by omega)).trans h4⟩, h3.trans ((keep_putObj (M := fun i => i = b) Y b o' rfl).below h3.size fun i hi => by have e : i = b := hi; omega)⟩)
  (fun _ _ _ _ h _ => h) (fun _ _ _ _ _ _ h _ _ _ => h)
  (fun Y hY => ⟨⟨⟨_, by rw [hY.block _ (lt_of_heap HRL0.out)]; exact HRL0.out, OwnT.nil _ _⟩, by rw [hY.block _ (lt_of_heap HRK0.out)]; exact HRK0.out⟩, HB0.out.trans (hY.mono HB0.out.size)⟩)
  (fun x a' _ => a' = { tmps := #[.pointer p, .agg (bA k), undef, .pointer (some ⟨w.heap.size, 0, none⟩), .slice none 0 0, .pointer (some ⟨w.heap.size + 1, 0, none⟩), .int .i64 (x.1 : Int), x.2.val, .pointer p, .agg (bA k),
   .func (.func 128) #[] #[.pointer (some ⟨X.heap.size, 0, none⟩), .pointer (some ⟨X.heap.size + 1, 0, none⟩)], .int .i64 (x.1 : Int), x.2.val, undef, undef, undef, undef, undef, undef, undef, undef, undef, undef, undef, undef, undef], defers := [] })
  (fun _ _ _ _ _ _ h _ _ _ => h) ?assign ?body ?done ?stop
 case assign =>
  intro b pre x Y K hi hp hK
  clear hbig hsx hs0
  gi_wp2
  exact hK _ _ (KeepsFrom.refl _ _) (Keep.refl _ _) hi rfl
 case body =>
  rintro b pre x a' Y hb ⟨r, hr⟩ ⟨⟨⟨u, h1, h2⟩, h4⟩, h3⟩ rfl hp
  clear hbig hsx hs0
  have HY0 : Hid (W0.heap.size ≤ Y.heap.size) := by show _ ≤ _; have := lt_of_heap hr; omega
  clear hr
  have hmx := wayI_ms nd k T 0 HM.out x (pre_mem hp)
  obtain ⟨px, hpx⟩ := val_ptr nd hmx
  have HPX := Lib.hid hpx
  have HMX := Lib.hid hmx
  have HL := Lib.hid (show (sibsI k pre).length ≤ 400000 by have := pre_len hp; have := wayI_len HT.out k; have := sibsI_len k pre; omega)
  have HBY := Lib.hid h3
  have HKD := Lib.hid (nd.kind Y n x.2 (nd.below hmx h3))
  rw [hpx] at HKD
  have HU := Lib.hid h1
  have HOU := Lib.hid h2
  have HKY : Hid (Y.heap[w.heap.size]? = some (.cells (bA k) 48 (0, 0))) := h4
  rw [hpx]
  clear h1 h2 h3 h4 hp hpx hmx
  gi_wp2
  refine ⟨trivial, (CallsIn.inRound b (callsIn_wide.2 HKD.out)).mono ?_⟩
  rintro _ Y1 ⟨rfl, hYY⟩
  have HYY := Lib.hid hYY
  have HBW := Lib.hid (HBY.out.trans (hYY.mono HBY.out.size))
  have HYS : Hid (W0.heap.size ≤ Y1.heap.size) := Nat.le_trans HY0.out hYY.size
  have HO := Lib.hid (HOU.out.below hYY)
  have H1 : Hid (Y1.heap[w.heap.size + 1]? = some (.cells #[u] 117 (0, 0))) := by show _ = _; rw [hYY.block _ (lt_of_heap HU.out)]; exact HU.out
  have H4 : Hid (Y1.heap[w.heap.size]? = some (.cells (bA k) 48 (0, 0))) := by show _ = _; rw [hYY.block _ (lt_of_heap HKY.out)]; exact HKY.out
  clear hYY HKD HU HOU HKY
  by_cases hk2 : kindT x.2.tr = 2
  ·have HK2 := Lib.hid hk2
   obtain ⟨bt, hbt⟩ : ∃ bt, bt = bitK k x.1 := ⟨_, rfl⟩
   have hbs : -1 ≤ bt ∧ bt ≤ 1 := by rw [hbt]; exact bitK_small k x.1
   obtain ⟨hb1, hb2⟩ := hbs
   obtain ⟨pc, hpc⟩ := val_ptr nd (ms_child nd (b := 1 - bt) HMX.out)
   have HPC := Lib.hid hpc
   have HBT := Lib.hid hbt
   have LB : Hid (∀ q, Below W0.heap.size Y1 q → q.cell? ⟨w.heap.size + 1, 0, none⟩ = some u) := fun q h => by
    have := HBX.out.size
    have := HSX.out
    have := HS0.out
    rw [cell_of_cells (show q.heap[w.heap.size + 1]? = _ by rw [h.block _ (by omega)]; exact H1.out)]
    rfl
   have LK : Hid (∀ q, Below W0.heap.size Y1 q → ldA 48 q (.pointer (some ⟨w.heap.size, 0, none⟩)) = .ok (.value (.agg (bA k))) q) := fun q h => by
    have := HBX.out.size
    have := HSX.out
    have := HS0.out
    exact ldA_row (t' := 48) (fr := (0, 0)) (by rw [h.block _ (by omega)]; exact H4.out) Tryz.underlying48 (by rw [bA_size, HK.out]; exact infoKey)
   rw [hk2]
   clear hk2 hpc hbt
   gi_wp2
   refine round_heldT 9 (fun q => Below W0.heap.size Y1 q) (fun ⟨_, _, h⟩ => h) (by rfl) (by kernel_rfl) ?_
   have hHeld : Below W0.heap.size Y1 Y1.drew := (Below.refl _ _).drew
   refine HeldT.take (i := 0) (oi := { dst := some 16, op := .load _ (.tmp 5), .. }) (v := ?_) rfl (by kernel_rfl) (by kernel_rfl) (by kernel_rfl) (by kernel_rfl) (fun _ _ _ h => h) (Or.inl ⟨by rfl, ?_⟩) (by assumption) ?_
   rotate_left 1
   ·intro v hSv
    have hv1 := LB.out v hSv
    clear hSv
    go_simp
    try with_reducible rfl
   try simp only [Act.put, x_A, x_0, x_1]
   refine HeldT.take (i := 1) (oi := { dst := some 17, op := .move (.tmp 7), .. }) (v := ?_) rfl (by kernel_rfl) (by kernel_rfl) (by kernel_rfl) (by kernel_rfl) (fun _ _ _ h => h) (Or.inl ⟨by rfl, ?_⟩) (by assumption) ?_
   rotate_left 1
   ·intro v hSv
    clear hSv
    go_simp
    try with_reducible rfl
   try simp only [Act.put, x_A, x_0, x_1]
   refine HeldT.take (i := 2) (oi := { dst := some 18, op := .load _ (.tmp 3), .. }) (v := ?_) rfl (by kernel_rfl) (by kernel_rfl) (by kernel_rfl) (by kernel_rfl) (fun _ _ _ h => h) (Or.inl ⟨by rfl, ?_⟩) (by assumption) ?_
   rotate_left 1
   ·intro v hSv
    have hv1 := LK.out v hSv
    clear hSv
    go_simp
    try with_reducible rfl
   try simp only [Act.put, x_A, x_0, x_1]
   refine HeldT.take (i := 3) (oi := { dst := some 19, op := .move (.tmp 6), .. }) (v := ?_) rfl (by kernel_rfl) (by kernel_rfl) (by kernel_rfl) (by kernel_rfl) (fun _ _ _ h => h) (Or.inl ⟨by rfl, ?_⟩) (by assumption) ?_
   rotate_left 1
   ·intro v hSv
    clear hSv
    go_simp
    try with_reducible rfl
   try simp only [Act.put, x_A, x_0, x_1]
   refine HeldT.one (i := 4) (o := { dst := some 20, op := .call _, .. }) (by kernel_rfl) rfl rfl (fun K hK => ?_)
   go_wp2_with fail
   refine (pbitK_c k HK.out x.1 _).mono ?_
   rintro e y1 ⟨rfl, hb⟩
   have hq1 : Below Y1.heap.size Y1 y1 := ((Below.refl _ _).drew).trans hb
   have HQ1 := Lib.hid hq1
   clear hb
   rw [← HBT.out]
   go_wp2_with fail
   refine hK.out _ _ (fun _ => hq1.mono HYS.out) (fun hS => ?_)
   have hHeld := hS (by decide)
   clear hS hK K
   try simp only [Act.put, x_A, x_0, x_1]
   clear hq1
   refine HeldT.take (i := 5) (oi := { dst := some 21, op := .binOp .sub _ (.const (.int .i64 1)) (.tmp 20) _, .. }) (v := ?_) rfl (by kernel_rfl) (by kernel_rfl) (by kernel_rfl) (by kernel_rfl) (fun _ _ _ h => h) (Or.inl ⟨by rfl, ?_⟩) (by assumption) ?_
   rotate_left 1
   ·intro v hSv
    clear hSv
    go_simp
    try with_reducible rfl
   try simp only [Act.put, x_A, x_0, x_1]
   refine HeldT.one (i := 6) (o := { dst := some 22, op := .call _, .. }) (by kernel_rfl) rfl rfl (fun K hK => ?_)
   have HC := Lib.hid (child_c nd y1 n x.2 (1 - bt) (nd.below HMX.out (HBW.out.trans (HQ1.out.mono HBW.out.size))))
   rw [HPX.out, HPC.out] at HC
   go_wp2_with fail
   refine HC.out.mono ?_
   rintro e y2 ⟨rfl, hb⟩
   have hq2 : Below Y1.heap.size Y1 y2 := HQ1.out.trans (hb.mono HQ1.out.size)
   have HQ2 := Lib.hid hq2
   clear hb HC HQ1
   go_wp2_with fail
   refine hK.out _ _ (fun _ => hq2.mono HYS.out) (fun hS => ?_)
   have hHeld := hS (by decide)
   clear hS hK K
   try simp only [Act.put, x_A, x_0, x_1]
   clear hq2
   refine HeldT.one (i := 7) (o := { dst := some 23, op := .buildSlice _ _ _, .. }) (by kernel_rfl) rfl rfl (fun K hK => ?_)
   obtain ⟨Z, hZ⟩ : ∃ Z, Z = y2.alloc (.cells #[.pointer pc] 61) := ⟨_, rfl⟩
   have hq3 : Below Y1.heap.size Y1 Z := by rw [hZ]; exact HQ2.out.alloc HQ2.out.size _
   have HZN : Hid (Z.cell? ⟨y2.heap.size, 0, none⟩ = some (.pointer pc)) := by show _ = _; rw [hZ, cell_of_cells (heap_alloc_new y2 _)]; rfl
   have HQ3 := Lib.hid hq3
   have HZ := Lib.hid hZ
   clear hZ HQ2
   go_wp2_with fail
   rw [← HZ.out]
   refine hK.out _ _ (fun _ => hq3.mono HYS.out) (fun hS => ?_)
   have hHeld := hS (by decide)
   clear hS hK K
   try simp only [Act.put, x_A, x_0, x_1]
   clear hq3 HZ
   refine HeldT.one (i := 8) (o := { dst := some 24, op := .call _, .. }) (by kernel_rfl) rfl rfl (fun K hK => ?_)
   have HOZ := Lib.hid (HO.out.below HQ3.out)
   have hzs : W0.heap.size ≤ Z.heap.size := Nat.le_trans HYS.out HQ3.out.size
   have hzn := HZN.out
   go_wp2_with (at_builtin; refine wpList_pushT rfl _ _ rfl W0.heap.size u (sibsI k pre) rfl HOZ.out y2.heap.size (x.2.child (1 - bt)) pc HPC.out rfl hzn HL.out hzs ?_; intro A nn c w1 hP)
   have HPU := Lib.hid hP
   refine hK.out _ _ (fun _ => (HQ3.out.mono HYS.out).trans hP.bel) (fun hS => ?_)
   have hHeld := hS (by decide)
   clear hS hK K
   try simp only [Act.put, x_A, x_0, x_1]
   clear hP hzs hzn HOZ HZN
   refine HeldT.one (i := 9) (o := { dst := none, op := .store _ (.tmp 5) (.tmp 24), .. }) (by kernel_rfl) rfl rfl (fun K hK => ?_)
   obtain ⟨hfin, hcell, hfroz⟩ := push_end (bx := w.heap.size + 1) (M := fun i => w.heap.size ≤ i ∧ i ≠ X.heap.size ∧ i ≠ X.heap.size + 1) (HYY.out.trans (HQ3.out.mono HYY.out.size)) (keepsO_below (HYY.out.trans (HQ3.out.mono HYY.out.size))) HBY.out (by rw [HQ3.out.block _ (lt_of_heap H1.out)]; exact H1.out) HPU.out (by have := HBX.out.size; have := HSX.out; have := HS0.out; omega) (fun i hi => ⟨by have := HB0.out.size; omega, by have := HS0.out; omega, by have := HS0.out; omega⟩) ⟨by omega, by have := HSX.out; omega, by have := HSX.out; omega⟩ (Nat.le_succ _) (by have := HB0.out.size; omega)
   have HF := Lib.hid hfin
   have HK6 := Lib.hid (set_keep (v := .slice A nn c) (i := 0) (g' := w.heap.size + 1) (show w1.heap[w.heap.size]? = some (.cells (bA k) 48 (0, 0)) by rw [HPU.out.bel.block _ (by have := HBX.out.size; have := HSX.out; have := HS0.out; omega), HQ3.out.block _ (lt_of_heap H4.out)]; exact H4.out) (by omega))
   clear hfin HPU HQ3
   go_wp2_with fail
   refine hK.out _ _ (fun h => absurd rfl h) (fun _ => ?_)
   clear hK K
   refine HeldT.done (by kernel_rfl) ?_ _
   obtain ⟨f1, f2, f3, f4, f5⟩ := HF.out
   have f6 := HK6.out
   exact ⟨f1, f2, ⟨⟨_, f3, by rw [sibsI_yes k pre x HK2.out]; rw [HBT.out] at f4; exact f4⟩, f6⟩, f5⟩
  ·have HN := Lib.hid (sibsI_no k pre x hk2)
   obtain ⟨kd, hkd⟩ : ∃ kd, kd = kindT x.2.tr := ⟨_, rfl⟩
   rw [← hkd] at hk2 ⊢
   have kb : (kd == 2) = false := by simpa using hk2
   clear hkd hk2
   gi_wp2
   exact ⟨(keepsO_below HYY.out).from _, Keep.of_below HYY.out, ⟨⟨u, H1.out, by rw [HN.out]; exact HO.out⟩, H4.out⟩, HBW.out⟩
 case done =>
  rintro D Y hD ⟨⟨⟨v, h1, h2⟩, _⟩, h3⟩ hd
  clear hbig hsx hs0
  have hc1 : Y.cell? ⟨w.heap.size + 1, 0, none⟩ = some v := by rw [cell_of_cells h1]; rfl
  have hw : sibsI k (T.wayI k 0) = T.sibs k 0 := sibsI_way k HT.out.sep T 0 (HT.out.at k)
  rw [hw] at h2
  obtain ⟨A, c, hv, hA⟩ := (h2.putObj (o' := .deferred none) hd rfl).pa
  subst hv
  have HF : Hid (PA (Y.putObj D (.deferred none)) A (T.sibs k 0) ∧ Below w.heap.size w (Y.putObj D (.deferred none))) := ⟨hA, h3.trans ((keep_putObj (M := fun i => i = D) Y D _ rfl).below h3.size fun i hi => by have e : i = D := hi; have := HB0.out.size; omega)⟩
  have HD := Lib.hid hd
  clear h1 h2 h3 hd hD hw hA
  go_wp2_with fail
  refine ⟨by simp, .inl ⟨_, _, rfl, run_takeDeferred HD.out, ?_⟩⟩
  exact ⟨_, results_tmp rfl _ _ _, A, c, rfl, HF.out⟩
 case stop =>
  rintro D c pre Y _ _ h _
  exact h.elim
end
section
open Go.RowKit Go.Shelf
attribute [local go_sem] Oper.semAt_some
def lastV (s : List (Nat × Tv)) : Value :=
 match s.getLast? with
 | some x => x.2.val
 | none => .pointer none
def lastD (s : List (Nat × Tv)) : Int :=
 match s.getLast? with
 | some x => (x.1 : Int)
 | none => 0
theorem lastV_snoc (s : List (Nat × Tv)) (x : Nat × Tv) : lastV (s ++ [x]) = x.2.val := by simp [lastV]
theorem lastD_snoc (s : List (Nat × Tv)) (x : Nat × Tv) : lastD (s ++ [x]) = (x.1 : Int) := by simp [lastD]
theorem wayI_last (k : List UInt8) : ∀ (T : Tv) (d : Nat), (T.wayI k d).getLast? = some (T.dep k d, T.fin k d)
 | .nil, _ => rfl
 | .leaf _ _, _ => rfl
 | .inner v a b, d => by
  unfold Tv.wayI Tv.dep Tv.fin
  split
  ·rw [List.getLast?_cons, wayI_last k a (d + 1)]; rfl
  ·rw [List.getLast?_cons, wayI_last k b (d + 1)]; rfl
theorem lastV_way (k : List UInt8) (T : Tv) : lastV (T.wayI k 0) = (T.fin k 0).val := by unfold lastV; rw [wayI_last]
theorem lastD_way (k : List UInt8) (T : Tv) : lastD (T.wayI k 0) = ((T.dep k 0 : Nat) : Int) := by unfold lastD; rw [wayI_last]
theorem locate_n {M : World → Int → Tv → Prop} (nd : NdV M) (w : World) (n : Int) (l : List Ent) (T : Tv) (k : List UInt8) (hM : M w n T) (hT : IsMap l T) (hk : k.length = 32) :
  Calls Tryz.prog 54 #[T.val, .agg (bA k)] w fun e w' => e = .returned (.tuple #[(T.fin k 0).val, .int .i64 ((T.dep k 0 : Nat) : Int)]) ∧ Below w.heap.size w w' := by
 obtain ⟨p, hp⟩ := val_ptr nd hM
 have HP := Lib.hid hp
 have HM := Lib.hid hM
 have HT := Lib.hid hT
 obtain ⟨q, hq⟩ := val_ptr nd (ms_fin nd k (d := 0) hM)
 have HQ := Lib.hid hq
 rw [hp, hq]
 refine (callsIn_wide (n := 10)).1 ?_
 refine callsIn_of_wp_marks Tryz.func54 rfl trivial ?_ rfl
 simp only [Tryz.ntmps54, List.size_toArray, List.length_cons, List.length_nil, Nat.reduceAdd, Nat.reduceSub, Array.replicate_succ, Array.replicate_zero, List.push_toArray, List.append_toArray, List.nil_append, List.cons_append]
 refine wpIn_wide.2 ?_
 obtain ⟨V, hV⟩ : ∃ V, V = (w.alloc (.cells (bA k) 48)).alloc (.cells #[.pointer none] 61) := ⟨_, rfl⟩
 have hbV : Below w.heap.size w V := by rw [hV]; exact ((Below.refl _ w).alloc (Nat.le_refl _) _).alloc (by simp) _
 have hsV : V.heap.size = w.heap.size + 1 + 1 := by rw [hV]; simp
 have rK0 : V.heap[w.heap.size]? = some (.cells (bA k) 48 (0, 0)) := by rw [hV]; exact heap_alloc2_old w _ _
 have rE0 : V.heap[w.heap.size + 1]? = some (.cells #[.pointer none] 61 (0, 0)) := by rw [hV]; exact heap_alloc2_new w _ _
 obtain ⟨X, hX⟩ : ∃ X, X = V.alloc (.cells #[.int .i64 0] 3) := ⟨_, rfl⟩
 have hVX : Below V.heap.size V X := by rw [hX]; exact (Below.refl _ V).alloc (Nat.le_refl _) _
 have hbX : Below w.heap.size w X := hbV.trans (hVX.mono hbV.size)
 have hsX : X.heap.size = w.heap.size + 1 + 1 + 1 := by rw [hX]; simp [hsV]
 have rK : X.heap[w.heap.size]? = some (.cells (bA k) 48 (0, 0)) := by rw [hVX.block _ (by omega)]; exact rK0
 have rE : X.heap[w.heap.size + 1]? = some (.cells #[.pointer none] 61 (0, 0)) := by rw [hVX.block _ (by omega)]; exact rE0
 have rD : X.heap[w.heap.size + 1 + 1]? = some (.cells #[.int .i64 0] 3 (0, 0)) := by rw [hX, ← hsV]; exact heap_alloc_new V _
 have lk : ldA 48 X (.pointer (some ⟨w.heap.size, 0, none⟩)) = .ok (.value (.agg (bA k))) X :=
  ldA_row (t' := 48) (fr := (0, 0)) rK Tryz.underlying48 (by rw [bA_size, hk]; exact infoKey)
 rw [hX, hV] at lk
 have HX : Hid (X = ((w.alloc (.cells (bA k) 48)).alloc (.cells #[.pointer none] 61)).alloc (.cells #[.int .i64 0] 3)) := by show _ = _; rw [hX, hV]
 have HRE := Lib.hid rE
 have HRD := Lib.hid rD
 have HBX := Lib.hid hbX
 have HSX := Lib.hid hsX
 have HK := Lib.hid hk
 clear hX hV rK rE rD rK0 rE0 hVX hbV hsV hbX hsX hM hT hp hk hq
 go_wp2_with fail
 rw [← HX.out]
 refine (way_c p k X).mono ?_
 rintro e W0 ⟨rfl, hW0⟩
 have hbW : Below X.heap.size X W0 := by rw [hW0]; exact ((Below.refl _ X).alloc (Nat.le_refl _) _).alloc (by simp) _
 have hB0 : Below w.heap.size w W0 := HBX.out.trans (hbW.mono HBX.out.size)
 have hs0 : W0.heap.size = X.heap.size + 2 := by rw [hW0]; simp
 have hwy : Wy M w n k X.heap.size (X.heap.size + 1) T W0 := ⟨hB0, by rw [hW0, HP.out]; exact heap_alloc2_old X _ _, by rw [hW0]; exact heap_alloc2_new X _ _⟩
 have rE0 : W0.heap[w.heap.size + 1]? = some (.cells #[.pointer none] 61 (0, 0)) := by rw [hbW.block _ (lt_of_heap HRE.out)]; exact HRE.out
 have rD0 : W0.heap[w.heap.size + 1 + 1]? = some (.cells #[.int .i64 0] 3 (0, 0)) := by rw [hbW.block _ (lt_of_heap HRD.out)]; exact HRD.out
 have hseq := way_seq nd w W0 n l T k HM.out HT.out HK.out X.heap.size (X.heap.size + 1) hwy
 have HSEQ := Lib.hid hseq
 have HB0 := Lib.hid hB0
 have HS0 := Lib.hid hs0
 have HRE0 := Lib.hid rE0
 have HRD0 := Lib.hid rD0
 clear lk hW0 hbW hB0 hs0 hwy rE0 rD0 hseq HRE HRD HX
 go_wp2_with fail
 have hbig := HBX.out.size
 have hsx := HSX.out
 have hs0 := HS0.out
 refine (wpIn_wide (n := 10)).1 ?_
 refine wpIn_rangeC (gf := 128) (lb := #[.pointer (some ⟨X.heap.size, 0, none⟩), .pointer (some ⟨X.heap.size + 1, 0, none⟩)]) rfl (enters_of Tryz.func128 (by kernel_rfl) rfl) HSEQ.out
  (fun i hi => ⟨by omega, by omega, by omega⟩) (fun i hi => by have e : i = X.heap.size := hi; omega) (fun _ => rfl)
  (fun pre Y => (Y.heap[w.heap.size + 1]? = some (.cells #[lastV pre] 61 (0, 0)) ∧ Y.heap[w.heap.size + 1 + 1]? = some (.cells #[.int .i64 (lastD pre)] 3 (0, 0))) ∧ Below w.heap.size w Y) (fun _ _ _ => False)
  (fun s Y Z ⟨⟨h1, h2⟩, h3⟩ hk => ⟨⟨hk.heap h1 (fun e => by have e : w.heap.size + 1 = X.heap.size := e; omega), hk.heap h2 (fun e => by have e : w.heap.size + 1 + 1 = X.heap.size := e; omega)⟩, h3.trans (hk.below h3.size fun i hi => by have e : i = X.heap.size := hi; omega)⟩)
  (fun s Y b o o' ⟨⟨h1, h2⟩, h3⟩ hb ho hc => ⟨⟨(World.putObj_heap_other (by omega)).trans h1, (World.putObj_heap_other (by omega)).trans h2⟩, h3.trans ((keep_putObj (M := fun i => i = b) Y b o' rfl).below h3.size fun i hi => by have e : i = b := hi; omega)⟩)
  (fun _ _ _ _ h _ => h) (fun _ _ _ _ _ _ h _ _ _ => h)
  (fun Y hY => ⟨⟨by rw [hY.block _ (lt_of_heap HRE0.out)]; exact HRE0.out, by rw [hY.block _ (lt_of_heap HRD0.out)]; exact HRD0.out⟩, HB0.out.trans (hY.mono HB0.out.size)⟩)
  (fun x a' _ => a' = { tmps := #[.pointer p, .agg (bA k), undef, .pointer (some ⟨w.heap.size, 0, none⟩), .pointer none, .int .i64 0, .pointer (some ⟨w.heap.size + 1, 0, none⟩), .pointer (some ⟨w.heap.size + 1 + 1, 0, none⟩), .int .i64 (x.1 : Int), x.2.val, .pointer p, .agg (bA k),
   .func (.func 128) #[] #[.pointer (some ⟨X.heap.size, 0, none⟩), .pointer (some ⟨X.heap.size + 1, 0, none⟩)], .int .i64 (x.1 : Int), x.2.val, undef, undef, undef, undef], defers := [] })
  (fun _ _ _ _ _ _ h _ _ _ => h) ?assign ?body ?done ?stop
 case assign =>
  intro b pre x Y K hi hp hK
  clear hbig hsx hs0
  gi_wp2
  exact hK _ _ (KeepsFrom.refl _ _) (Keep.refl _ _) hi rfl
 case body =>
  rintro b pre x a' Y hb ⟨r, hr⟩ ⟨⟨h1, h2⟩, h3⟩ rfl hp
  clear hbig hsx hs0
  have hY0 : W0.heap.size ≤ Y.heap.size := by have := lt_of_heap hr; omega
  clear hr
  obtain ⟨px, hpx⟩ := val_ptr nd (wayI_ms nd k T 0 HM.out x (pre_mem hp))
  have HPX := Lib.hid hpx
  have HB := Lib.hid h3
  have hc1 : Y.cell? ⟨w.heap.size + 1, 0, none⟩ = some (lastV pre) := by rw [cell_of_cells h1]; rfl
  have hf1 : Y.frozen? ⟨w.heap.size + 1, 0, none⟩ = false := frozen_of_row Y _ _ _ _ h1
  obtain ⟨Y1, hY1⟩ : ∃ Y1, Y1 = Y.setCell ⟨w.heap.size + 1, 0, none⟩ (.pointer px) := ⟨_, rfl⟩
  have g1 : Y1.heap[w.heap.size + 1]? = some (.cells #[.pointer px] 61 (0, 0)) := by rw [hY1]; exact set_row h1
  have g2 : Y1.heap[w.heap.size + 1 + 1]? = some (.cells #[.int .i64 (lastD pre)] 3 (0, 0)) := by rw [hY1]; exact set_keep h2 (by omega)
  have hc2 : Y1.cell? ⟨w.heap.size + 1 + 1, 0, none⟩ = some (.int .i64 (lastD pre)) := by rw [cell_of_cells g2]; rfl
  have hf2 : Y1.frozen? ⟨w.heap.size + 1 + 1, 0, none⟩ = false := frozen_of_row Y1 _ _ _ _ g2
  obtain ⟨Y2, hY2⟩ : ∃ Y2, Y2 = Y1.setCell ⟨w.heap.size + 1 + 1, 0, none⟩ (.int .i64 (x.1 : Int)) := ⟨_, rfl⟩
  have e1 : Y2.heap[w.heap.size + 1]? = some (.cells #[.pointer px] 61 (0, 0)) := by rw [hY2]; exact set_keep g1 (by omega)
  have e2 : Y2.heap[w.heap.size + 1 + 1]? = some (.cells #[.int .i64 (x.1 : Int)] 3 (0, 0)) := by rw [hY2]; exact set_row g2
  have HF : Hid (KeepsFrom W0.heap.size Y Y2 ∧ Keep (fun i => w.heap.size ≤ i ∧ i ≠ X.heap.size ∧ i ≠ X.heap.size + 1) Y Y2 ∧ (Y2.heap[w.heap.size + 1]? = some (.cells #[lastV (pre ++ [x])] 61 (0, 0)) ∧ Y2.heap[w.heap.size + 1 + 1]? = some (.cells #[.int .i64 (lastD (pre ++ [x]))] 3 (0, 0))) ∧ Below w.heap.size w Y2) := by
   have hsx := HSX.out
   refine ⟨?_, ?_, ⟨by rw [lastV_snoc, HPX.out]; exact e1, by rw [lastD_snoc]; exact e2⟩, ?_⟩
   ·rw [hY2, hY1]; exact ((KeepsOthers.setCell _ _ _).trans (KeepsOthers.setCell _ _ _)).from _
   ·rw [hY2, hY1]; exact ((Keep.cell _ ⟨w.heap.size + 1, 0, none⟩ _).mono fun i hi => by have e : i = w.heap.size + 1 := hi; exact ⟨by omega, by omega, by omega⟩).trans ((Keep.cell _ ⟨w.heap.size + 1 + 1, 0, none⟩ _).mono fun i hi => by have e : i = w.heap.size + 1 + 1 := hi; exact ⟨by omega, by omega, by omega⟩)
   ·rw [hY2, hY1]; exact (HB.out.setCell (by show w.heap.size ≤ w.heap.size + 1; omega) _).setCell (by show w.heap.size ≤ w.heap.size + 1 + 1; omega) _
  have HY1 := Lib.hid hY1
  have HY2 := Lib.hid hY2
  rw [hY1] at hc2 hf2
  clear h1 h2 h3 hp g1 g2 e1 e2 hY1 hY2 hY0
  rw [hpx]
  clear hpx
  refine wpIn_block (round_region quietEndB (by rfl) ?_)
  go_wp2_with fail
  rw [← HY1.out, ← HY2.out]
  exact HF.out
 case done =>
  rintro D Y hD ⟨⟨h1, h2⟩, h3⟩ hd
  clear hbig hsx hs0
  rw [lastV_way, HQ.out] at h1
  rw [lastD_way] at h2
  have HH1 := Lib.hid h1
  have HH2 := Lib.hid h2
  have HF := Lib.hid h3
  have HD := Lib.hid hd
  have HDD := Lib.hid hD
  clear h1 h2 h3 hd hD
  have l1 : ∀ x : Later Y, x.w.cell? ⟨w.heap.size + 1, 0, none⟩ = some (.pointer q) := fun x => by rw [cell_of_cells (x.block HH1.out)]; rfl
  have l2 : ∀ x : Later Y, x.w.cell? ⟨w.heap.size + 1 + 1, 0, none⟩ = some (.int .i64 ((T.dep k 0 : Nat) : Int)) := fun x => by rw [cell_of_cells (x.block HH2.out)]; rfl
  go_wp2_with fail
  refine wp_region_later (by kernel_rfl) (by kernel_rfl) ?_
  repeat (go_big_quiet_step (fail))
  refine wpQuiet_nil ?_
  rintro _ ⟨x, rfl⟩
  have HDX : Hid (x.w.heap[D]? = some (.deferred (some []))) := by show _ = _; rw [x.h.block _ (lt_of_heap HD.out)]; exact HD.out
  have HFX : Hid (Below w.heap.size w (x.w.putObj D (.deferred none))) := (HF.out.trans (x.h.mono HF.out.size)).trans ((keep_putObj (M := fun i => i = D) x.w D _ rfl).below (Nat.le_trans HF.out.size x.h.size) fun i hi => by have e : i = D := hi; have := HDD.out; have := HB0.out.size; omega)
  clear l1 l2
  go_wp2_with fail
  refine ⟨by simp, .inl ⟨_, _, rfl, run_takeDeferred HDX.out, ?_⟩⟩
  exact ⟨_, results_tmp2 rfl _ _ _, rfl, HFX.out⟩
 case stop =>
  rintro D c pre Y _ _ h _
  exact h.elim
end
section
open Go.RowKit Go.Shelf
end
section
open Go.RowKit Go.Shelf
attribute [local go_sem] Oper.semAt_some
end
section
open Go.RowKit
theorem fn_c : FnV Mn where
 locate := locate_n nd_c
 siblings := siblings_n nd_c
 child := fun w n T b => child_c nd_c w n T b
end
end Go.Proofs.YtjgdindjimbfeaaGreatDoor
