import Derived.Test.YtjgdindjimbfeaaGreatDoorMM
import Derived.Test.YtjgdindjimbfeaaGreatDoorM6
import Derived.Test.YtjgdindjimbfeaaGreatDoorM3
import Derived.Test.YtjgdindjimbfeaaGreatDoorTG
namespace Go.Proofs.YtjgdindjimbfeaaGreatDoor
set_option linter.unusedSimpArgs false
set_option linter.unusedVariables false
section
open Go.RowKit
end
section
open Go.RowKit
theorem comK_c (a b : List UInt8) (ha : a.length = 32) (hb : b.length = 32) (w : World) : Calls Tryz.prog 79 #[.agg (bA a), .agg (bA b)] w fun e w' => e = .returned (.int .i64 (comK a b)) ∧ Below w.heap.size w w' := by
 rw [bA_key a ha, bA_key b hb]
 exact Bt.rcommon_c (keyF a) (keyF b) (keyF_byt a) (keyF_byt b) w
end
section
open Go.RowKit
instance : DecidableEq Ent := fun a b => if h : a.k = b.k ∧ a.v = b.v then isTrue (by cases a; cases b; obtain ⟨rfl, rfl⟩ := h; rfl) else isFalse fun e => h ⟨congrArg Ent.k e, congrArg Ent.v e⟩
end
section
open Go.RowKit
structure IsMap (l : List Ent) (T : Tv) : Prop where
 sep : Sep 0 l
 tr : T.tr = growT 257 l 0
theorem IsMap.at {l : List Ent} {T : Tv} (h : IsMap l T) (k : List UInt8) : At l k 0 T := At.top k h.tr
def PA (w : World) (A : Option Addr) (ts : List Tv) : Prop := ∀ i T, ts[i]? = some T → ∃ g o, A = some ⟨g, o, none⟩ ∧ w.cell? ⟨g, o + i, none⟩ = some T.val
def getT (t : Tr) (k : List UInt8) : Option Ent :=
 match t with
 | .leaf e => if e.k = k then some e else none
 | _ => none
structure FnV (M : World → Int → Tv → Prop) : Prop where
 locate : ∀ (w : World) (n : Int) (l : List Ent) (T : Tv) (k : List UInt8), M w n T → IsMap l T → k.length = 32 →
  Calls Tryz.prog 54 #[T.val, .agg (bA k)] w fun e w' => e = .returned (.tuple #[(T.fin k 0).val, .int .i64 ((T.dep k 0 : Nat) : Int)]) ∧ Below w.heap.size w w'
 siblings : ∀ (w : World) (n : Int) (l : List Ent) (T : Tv) (k : List UInt8), M w n T → IsMap l T → k.length = 32 →
  Calls Tryz.prog 57 #[T.val, .agg (bA k)] w fun e w' => ∃ A c, e = .returned (.slice A (T.sibs k 0).length c) ∧ PA w' A (T.sibs k 0) ∧ Below w.heap.size w w'
 child : ∀ (w : World) (n : Int) (T : Tv) (b : Int), M w n T → Calls Tryz.prog 99 #[T.val, .int .i64 b] w fun e w' => e = .returned (T.child b).val ∧ Below w.heap.size w w'
theorem ms_way {M : World → Int → Tv → Prop} (nd : NdV M) {w : World} {n : Int} (k : List UInt8) : ∀ (T : Tv) (d : Nat), M w n T → ∀ S ∈ T.way k d, M w n S
 | .nil, _, h, S, hS => by
  rw [show S = .nil by simpa [Tv.way] using hS]; exact h
 | .leaf v e, _, h, S, hS => by
  rw [show S = .leaf v e by simpa [Tv.way] using hS]; exact h
 | .inner v a b, d, h, S, hS => by
  obtain ⟨ha, hb⟩ := nd.kids h
  unfold Tv.way at hS
  rcases List.mem_cons.1 hS with rfl | hS
  ·exact h
  ·by_cases hb0 : bitK k d = 0
   ·rw [if_pos hb0] at hS; exact ms_way nd k a (d + 1) ha S hS
   ·rw [if_neg hb0] at hS; exact ms_way nd k b (d + 1) hb S hS
theorem ms_sibs {M : World → Int → Tv → Prop} (nd : NdV M) {w : World} {n : Int} (k : List UInt8) : ∀ (T : Tv) (d : Nat), M w n T → ∀ S ∈ T.sibs k d, M w n S
 | .nil, _, _, S, hS => by simp [Tv.sibs] at hS
 | .leaf _ _, _, _, S, hS => by simp [Tv.sibs] at hS
 | .inner v a b, d, h, S, hS => by
  obtain ⟨ha, hb⟩ := nd.kids h
  unfold Tv.sibs at hS
  by_cases hb0 : bitK k d = 0
  ·rw [if_pos hb0] at hS
   rcases List.mem_cons.1 hS with rfl | hS
   ·exact hb
   ·exact ms_sibs nd k a (d + 1) ha S hS
  ·rw [if_neg hb0] at hS
   rcases List.mem_cons.1 hS with rfl | hS
   ·exact ha
   ·exact ms_sibs nd k b (d + 1) hb S hS
theorem ms_fin {M : World → Int → Tv → Prop} (nd : NdV M) {w : World} {n : Int} (k : List UInt8) {T : Tv} {d : Nat} (h : M w n T) : M w n (T.fin k d) :=
 ms_way nd k T d h _ (List.mem_of_getElem? (way_last k T d))
theorem val_ptr {M : World → Int → Tv → Prop} (nd : NdV M) {w : World} {n : Int} {T : Tv} (h : M w n T) : ∃ a, T.val = .pointer a := by
 rcases nd.addr h with rfl | ⟨a, ha⟩
 ·exact ⟨none, rfl⟩
 ·exact ⟨_, ha⟩
structure Fs (M : World → Int → Tv → Prop) (W : World) (n : Int) (A : Option Addr) (m : List En) (T : Tv) (w : World) : Prop where
 bel : Below W.heap.size W w
 vars : Vars w
 ea : EA w A m
 ms : M w n T
theorem Fs.hs {M : World → Int → Tv → Prop} (nd : NdV M) {W w w' : World} {n : Int} {A : Option Addr} {m : List En} {T : Tv} (h : Fs M W n A m T w) {b : Nat} {k : Int} {c : Nat} (hh : Hs w b k c) (hb : W.heap.size ≤ b) (hk : Keep (fun i => i = b) w w') : Fs M W n A m T w' :=
 ⟨keep_new h.bel hb hk, h.vars.hs hh hk, hh.ea h.ea hk, nd.hs h.ms hh hk⟩
end
section
open Go.RowKit
def k129 : List UInt8 := 129 :: List.replicate 31 0
def E8a : Ent := ⟨z26, [1]⟩
def E8b : Ent := ⟨k128, [2]⟩
structure Two (T : Tv) (v va vb : Value) : Prop where
 val : T.val = v
 f1 : T.fin z26 0 = .leaf va E8a
 d1 : T.dep z26 0 = 1
 s1 : (T.sibs z26 0).length = 1
 w1 : (T.way z26 0).length = 2
 g1 : getT (T.fin k128 0).tr k128 = some E8b
 g2 : getT (T.fin k129 0).tr k129 = none
 c0 : T.child 0 = .leaf va E8a
 u : T.under k128 256 = .leaf vb E8b
end
section
open Go.RowKit
end
end Go.Proofs.YtjgdindjimbfeaaGreatDoor
