/- Several texts in one: Oc Od Oe Of Og Ok. -/
import Derived.Test.YtbkokcfmndiedaaGreatDoorMM
import Derived.Test.YtbkokcfmndiedaaGreatDoorM6
import Derived.Test.YtbkokcfmndiedaaGreatDoorM3
import Derived.Test.YtbkokcfmndiedaaGreatDoorLd
/- The reference of layer 8: End, Sibling, Under; of layer 7: Get, Same. -/
namespace Go.Proofs.YtbkokcfmndiedaaGreatDoor
open Go.RowKit

/-- The entries below depth i on the way of k, those beside it. -/
def dE (es : List En) (k : List UInt8) : Nat → List En
  | 0 => es
  | i + 1 => partE (dE es k i) i (bitK k i)
def sibE (es : List En) (k : List UInt8) (i : Nat) : List En := partE (dE es k i) i (1 - bitK k i)
theorem dE_ent (es : List En) (k : List UInt8) : ∀ i, (dE es k i).map En.ent = dK (es.map En.ent) k i
  | 0 => rfl
  | i + 1 => by
    show (partE (dE es k i) i (bitK k i)).map En.ent = partK (dK (es.map En.ent) k i) i (bitK k i)
    rw [partE_ent, dE_ent es k i]
theorem sibE_ent (es : List En) (k : List UInt8) (i : Nat) : (sibE es k i).map En.ent = sibK (es.map En.ent) k i := by
  unfold sibE sibK
  rw [partE_ent, dE_ent]
theorem dE_len (es : List En) (k : List UInt8) : ∀ i, (dE es k i).length ≤ es.length
  | 0 => Nat.le_refl _
  | i + 1 => Nat.le_trans (partE_len _ _ _) (dE_len es k i)
theorem dE_mem {es : List En} {k : List UInt8} {e : En} : ∀ {i : Nat}, e ∈ dE es k i → e ∈ es
  | 0, h => h
  | _ + 1, h => dE_mem (partE_mem h)
theorem dE_two {es : List En} {k : List UInt8} (hs : Sep 0 (es.map En.ent)) {i : Nat} (hi : i ≤ 256) (h : 2 ≤ (dE es k i).length) : i < 256 := by
  have h1 := dK_sep hs k i hi
  rw [← dE_ent] at h1
  have := h1.two (by rw [List.length_map]; exact h)
  omega
set_option maxHeartbeats 8000000 in
set_option maxRecDepth 100000 in
theorem end8_c (A : Option Addr) (c : Nat) (es : List En) (k : List UInt8) (w : World) (hA : EA w A es) (hn : es.length ≤ 100000) (hk : k.length = 32) (hs : Sep 0 (es.map En.ent)) :
    Calls Tryz.prog 21 #[.slice A es.length c, .agg (bA k)] w fun e w' => ∃ (A' : Option Addr) (c' D : Nat), e = .returned (.tuple #[.slice A' (dE es k D).length c', .int .i64 (D : Int)]) ∧ EA w' A' (dE es k D) ∧
      (∀ j, j < D → 2 ≤ (dE es k j).length) ∧ (dE es k D).length ≤ 1 ∧ D ≤ 256 ∧ Below w.heap.size w w' := by
  obtain ⟨X, hX⟩ : ∃ X, X = w.alloc (.cells (bA k) 24) := ⟨_, rfl⟩
  have hb0 : Below w.heap.size w X := by rw [hX]; exact (Below.refl _ _).alloc (Nat.le_refl _) _
  have hr0 : RowB X w.heap.size 24 k := by rw [hX]; exact RowB.alloc w k _
  have HX := Lib.hid hX
  have HB0 := Lib.hid hb0
  have HR0 := Lib.hid hr0
  have HA := Lib.hid (hA.below hb0)
  have HS := Lib.hid hs
  have HSZ : Hid (w.heap.size < X.heap.size) := by show _ < _; rw [hX]; simp
  clear hA hs hX hb0 hr0
  go_enter Tryz.func21, Tryz.ntmps21
  go_wp2_with fail
  rw [← HX.out]
  clear HX
  go_loopg [0, 6] 257 (fun gg l i wr => ∃ (d : Nat) (A' : Option Addr) (c' : Nat), l = .slice A' (dE es k d).length c' ∧ i = .int .i64 (d : Int) ∧ d ≤ 256 ∧ 257 - d = gg ∧ EA wr A' (dE es k d) ∧ Hid (∀ j, j < d → 2 ≤ (dE es k j).length) ∧ Below X.heap.size X wr)
  case atStart => exact ⟨0, A, c, rfl, rfl, by omega, by omega, HA.out, fun j hj => absurd hj (Nat.not_lt_zero j), Below.refl _ _⟩
  case round =>
    obtain ⟨d, A', c', rfl, rfl, hd, rfl, hE, HJ, hB⟩ := hrel
    have HE := Lib.hid hE
    have HB := Lib.hid hB
    have HL := Lib.hid (Nat.le_trans (dE_len es k d) hn)
    obtain ⟨L, hL⟩ : ∃ L, L = (dE es k d).length := ⟨_, rfl⟩
    rw [← hL]
    have HLL := Lib.hid hL
    clear hE hB
    by_cases h2 : 2 ≤ L
    · have h256 := dE_two HS.out hd (by rw [← hL]; exact h2)
      have dl : decide (1 < L) = true := decide_eq_true (by omega)
      have dl2 : decide (1 < (L : Int)) = true := decide_eq_true (by omega)
      have lk := (HR0.out.below HB.out).ldKey hk
      have hdi : (d : Int) < 256 := by omega
      clear hL
      go_wp2_with fail
      refine (bitK_c k hk d wr).mono ?_
      rintro _ w2 ⟨rfl, hb⟩
      have HB2 := Lib.hid (HB.out.trans (hb.mono HB.out.size))
      have HE2 := Lib.hid (HE.out.below hb)
      have HC := Lib.hid (part7_c A' c' (dE es k d) d (bitK k d) w2 HE2.out HL.out)
      rw [← HLL.out] at HC
      clear hb lk
      go_wp2_with fail
      refine HC.out.mono ?_
      rintro _ w3 ⟨v3, rfl, hO3, hB3⟩
      obtain ⟨A3, c3, rfl, hc3, hE3⟩ := hO3.ea (fun e he => (HE2.out.mem e (partE_mem he)).below hB3)
      have HE3 : Hid (EA w3 A3 (dE es k (d + 1))) := hE3
      have HB3 := Lib.hid (HB2.out.trans (hB3.mono HB2.out.size))
      have HL3 : Hid ((partE (dE es k d) d (bitK k d)).length = (dE es k (d + 1)).length) := rfl
      clear hO3 hc3 hE3 hB3 HC
      rw [HL3.out]
      go_wp2_with fail
      go_roundg (257 - (d + 1))
      case measure => omega
      case rel =>
        refine ⟨d + 1, A3, c3, rfl, by go_num, by omega, rfl, HE3.out, fun j hj => ?_, HB3.out⟩
        rcases Nat.eq_or_lt_of_le (Nat.lt_succ_iff.1 hj) with rfl | hj
        · rw [← HLL.out]; exact h2
        · exact HJ.out j hj
    · have dl : decide (1 < L) = false := decide_eq_false (by omega)
      have dl2 : decide (1 < (L : Int)) = false := decide_eq_false (by omega)
      clear hL
      go_wp2_with fail
      go_ret2
      exact ⟨A', c', d, by rw [← HLL.out]; rfl, HE.out, HJ.out, by rw [← HLL.out]; omega, hd, HB0.out.trans (HB.out.mono HB0.out.size)⟩
set_option maxHeartbeats 8000000 in
set_option maxRecDepth 100000 in
theorem sibling8_c (A : Option Addr) (c : Nat) (es : List En) (k : List UInt8) (D : Nat) (w : World) (hA : EA w A es) (hn : es.length ≤ 100000) (hk : k.length = 32) (hD : D < 256) :
    Calls Tryz.prog 23 #[.slice A es.length c, .agg (bA k), .int .i64 (D : Int)] w fun e w' => ∃ (A' : Option Addr) (c' : Nat), e = .returned (.slice A' (sibE es k D).length c') ∧ EA w' A' (sibE es k D) ∧ Below w.heap.size w w' := by
  obtain ⟨X, hX⟩ : ∃ X, X = w.alloc (.cells (bA k) 24) := ⟨_, rfl⟩
  have hb0 : Below w.heap.size w X := by rw [hX]; exact (Below.refl _ _).alloc (Nat.le_refl _) _
  have hr0 : RowB X w.heap.size 24 k := by rw [hX]; exact RowB.alloc w k _
  have HX := Lib.hid hX
  have HB0 := Lib.hid hb0
  have HR0 := Lib.hid hr0
  have HA := Lib.hid (hA.below hb0)
  clear hA hX hb0 hr0
  go_enter Tryz.func23, Tryz.ntmps23
  go_wp2_with fail
  rw [← HX.out]
  clear HX
  go_loopg [0, 7] D (fun gg l i wr => ∃ (d : Nat) (A' : Option Addr) (c' : Nat), l = .slice A' (dE es k d).length c' ∧ i = .int .i64 (d : Int) ∧ d ≤ D ∧ D - d = gg ∧ EA wr A' (dE es k d) ∧ Below X.heap.size X wr)
  case atStart => exact ⟨0, A, c, rfl, rfl, by omega, by omega, HA.out, Below.refl _ _⟩
  case round =>
    obtain ⟨d, A', c', rfl, rfl, hd, rfl, hE, hB⟩ := hrel
    have HE := Lib.hid hE
    have HB := Lib.hid hB
    have HL := Lib.hid (Nat.le_trans (dE_len es k d) hn)
    obtain ⟨L, hL⟩ : ∃ L, L = (dE es k d).length := ⟨_, rfl⟩
    rw [← hL]
    have HLL := Lib.hid hL
    have lk := (HR0.out.below HB.out).ldKey hk
    clear hE hB hL
    by_cases hlt : d < D
    · have dl : decide (d < D) = true := decide_eq_true hlt
      have hdi : (d : Int) < 256 := by omega
      go_wp2_with fail
      refine (bitK_c k hk d wr).mono ?_
      rintro _ w2 ⟨rfl, hb⟩
      have HB2 := Lib.hid (HB.out.trans (hb.mono HB.out.size))
      have HE2 := Lib.hid (HE.out.below hb)
      have HC := Lib.hid (part7_c A' c' (dE es k d) d (bitK k d) w2 HE2.out HL.out)
      rw [← HLL.out] at HC
      clear hb lk
      go_wp2_with fail
      refine HC.out.mono ?_
      rintro _ w3 ⟨v3, rfl, hO3, hB3⟩
      obtain ⟨A3, c3, rfl, hc3, hE3⟩ := hO3.ea (fun e he => (HE2.out.mem e (partE_mem he)).below hB3)
      have HE3 : Hid (EA w3 A3 (dE es k (d + 1))) := hE3
      have HB3 := Lib.hid (HB2.out.trans (hB3.mono HB2.out.size))
      have HL3 : Hid ((partE (dE es k d) d (bitK k d)).length = (dE es k (d + 1)).length) := rfl
      clear hO3 hc3 hE3 hB3 HC
      rw [HL3.out]
      go_wp2_with fail
      go_roundg (D - (d + 1))
      case measure => omega
      case rel => exact ⟨d + 1, A3, c3, rfl, by go_num, by omega, rfl, HE3.out, HB3.out⟩
    · obtain rfl : d = D := by omega
      have dl : decide (d < d) = false := decide_eq_false (by omega)
      have h01 := bitK_01 k d hD
      have HSB : Hid (∀ w, Calls Tryz.prog 33 #[.agg (bA k), .int .i64 (d : Int)] w fun e w' => e = .returned (.int .i64 (bitK k d)) ∧ Below w.heap.size w w') := fun w => bitK_c k hk d w
      have HCP : Hid (∀ w2, EA w2 A' (dE es k d) → Calls Tryz.prog 37 #[.slice A' L c', .int .i64 (d : Int), .int .i64 (1 - bitK k d)] w2 fun e w' => ∃ v, e = .returned v ∧ OwnE w' w2.heap.size v (sibE es k d) ∧ Below w2.heap.size w2 w') := fun w2 h => by
        rw [HLL.out]
        exact part7_c A' c' (dE es k d) d (1 - bitK k d) w2 h HL.out
      obtain ⟨q, hq⟩ : ∃ q, q = bitK k d := ⟨_, rfl⟩
      rw [← hq] at HSB HCP h01
      have q0 : 0 ≤ q := by omega
      have q1 : q ≤ 1 := by omega
      clear hq h01
      go_wp2_with fail
      refine (HSB.out wr).mono ?_
      rintro _ w2 ⟨rfl, hb⟩
      have HB2 := Lib.hid (HB.out.trans (hb.mono HB.out.size))
      have HE2 := Lib.hid (HE.out.below hb)
      have HC := Lib.hid (HCP.out w2 HE2.out)
      clear hb lk
      go_wp2_with fail
      refine HC.out.mono ?_
      rintro _ w3 ⟨v3, rfl, hO3, hB3⟩
      obtain ⟨A3, c3, rfl, hc3, hE3⟩ := hO3.ea (fun e he => (HE2.out.mem e (partE_mem he)).below hB3)
      have HE3 := Lib.hid hE3
      have HB3 := Lib.hid (HB2.out.trans (hB3.mono HB2.out.size))
      clear hO3 hc3 hE3 hB3 HC
      go_wp2_with fail
      go_ret
      exact ⟨A3, c3, rfl, HE3.out, HB0.out.trans (HB3.out.mono HB0.out.size)⟩
end Go.Proofs.YtbkokcfmndiedaaGreatDoor

/- The reference of layer 8: Under; of layer 7: Get, Same. -/
namespace Go.Proofs.YtbkokcfmndiedaaGreatDoor
open Go.RowKit
def underE (es : List En) (k : List UInt8) (b : Nat) : List En := es.filter fun e => decide (b ≤ comK e.k k)
theorem underE_ent (es : List En) (k : List UInt8) (b : Nat) : (underE es k b).map En.ent = underK (es.map En.ent) k b := by
  unfold underE underK
  rw [List.filter_map]
  rfl
theorem underE_mem {es : List En} {k : List UInt8} {b : Nat} {e : En} (h : e ∈ underE es k b) : e ∈ es := (List.mem_filter.1 h).1
theorem underE_len (es : List En) (k : List UInt8) (b : Nat) : (underE es k b).length ≤ es.length := List.length_filter_le _ _
/-- The entry of a key. -/
def getE (es : List En) (k : List UInt8) : Option En := es.find? fun e => decide (e.k = k)
def getVal : Option En → Value
  | none => .slice none 0 0
  | some e => .slice e.A e.v.length e.c
end Go.Proofs.YtbkokcfmndiedaaGreatDoor

/- The reference of layer 7: Same (lists of entries). -/
namespace Go.Proofs.YtbkokcfmndiedaaGreatDoor
open Go.RowKit

instance : DecidableEq Ent := fun a b => if h : a.k = b.k ∧ a.v = b.v then isTrue (by cases a; cases b; obtain ⟨rfl, rfl⟩ := h; rfl) else isFalse fun e => h ⟨congrArg Ent.k e, congrArg Ent.v e⟩
theorem map_take_succ {es : List En} {m : Nat} {e : En} (h : es[m]? = some e) : (es.take (m + 1)).map En.ent = (es.take m).map En.ent ++ [e.ent] := by
  rw [take_some h, List.map_append]
  rfl
end Go.Proofs.YtbkokcfmndiedaaGreatDoor

/- What the program of layer 8 keeps, as a contract; the law's Tree over contracts; what a law's walk carries. -/
namespace Go.Proofs.YtbkokcfmndiedaaGreatDoor
open Go.RowKit

/-- T is the tree of the map l. -/
structure IsMap (l : List Ent) (T : Tv) : Prop where
  sep : Sep 0 l
  tr : T.tr = growT 257 l 0
theorem IsMap.at {l : List Ent} {T : Tv} (h : IsMap l T) (k : List UInt8) : At l k 0 T := At.top k h.tr
/-- A slice of subtrees. -/
def PA (w : World) (A : Option Addr) (ts : List Tv) : Prop := ∀ i T, ts[i]? = some T → ∃ g o, A = some ⟨g, o, none⟩ ∧ w.cell? ⟨g, o + i, none⟩ = some T.val
theorem PA.below {w w' : World} {A : Option Addr} {ts : List Tv} (h : PA w A ts) (hb : Below w.heap.size w w') : PA w' A ts := fun i T hi => by
  obtain ⟨g, o, rfl, h1⟩ := h i T hi
  exact ⟨g, o, rfl, by rw [hb.cell (lt_of_cell h1)]; exact h1⟩
theorem Hs.pa {w w' : World} {b : Nat} {n : Int} {c : Nat} {A : Option Addr} {ts : List Tv} (h : Hs w b n c) (hA : PA w A ts) (hv : ∀ T ∈ ts, ∃ a, T.val = .pointer a) (k : Keep (fun i => i = b) w w') : PA w' A ts := fun i T hi => by
  obtain ⟨g, o, rfl, h1⟩ := hA i T hi
  refine ⟨g, o, rfl, k.cellAt h1 fun e => ?_⟩
  have e3 : g = b := e
  subst e3
  obtain ⟨a, ha⟩ := hv T (List.mem_of_getElem? hi)
  rw [cell_of_cells h, ha] at h1
  obtain ⟨q, hq⟩ : ∃ q, q = o + i := ⟨_, rfl⟩
  rw [← hq] at h1
  match q, h1 with
  | 0, h1 => cases h1
  | 1, h1 => cases h1
  | q + 2, h1 => simp at h1
/-- What Get finds at the end of the way. -/
def getT (t : Tr) (k : List UInt8) : Option Ent :=
  match t with
  | .leaf e => if e.k = k then some e else none
  | _ => none
def valO : Option Ent → List UInt8
  | none => []
  | some e => e.v
def limB (b : Int) : Nat := (max 0 (min b 256)).toNat
theorem limB_le (b : Int) : limB b ≤ 256 := by unfold limB; omega
/-- What the program of layer 8 keeps. -/
structure FnV (M : World → Int → Tv → Prop) : Prop where
  locate : ∀ (w : World) (n : Int) (l : List Ent) (T : Tv) (k : List UInt8), M w n T → IsMap l T → k.length = 32 →
    Calls Tryz.prog 27 #[T.val, .agg (bA k)] w fun e w' => e = .returned (.tuple #[(T.fin k 0).val, .int .i64 ((T.dep k 0 : Nat) : Int)]) ∧ Below w.heap.size w w'
  siblings : ∀ (w : World) (n : Int) (l : List Ent) (T : Tv) (k : List UInt8), M w n T → IsMap l T → k.length = 32 →
    Calls Tryz.prog 30 #[T.val, .agg (bA k)] w fun e w' => ∃ A c, e = .returned (.slice A (T.sibs k 0).length c) ∧ PA w' A (T.sibs k 0) ∧ Below w.heap.size w w'
  child : ∀ (w : World) (n : Int) (T : Tv) (b : Int), M w n T → Calls Tryz.prog 59 #[T.val, .int .i64 b] w fun e w' => e = .returned (T.child b).val ∧ Below w.heap.size w w'
/-! ### Subtrees of a subtree -/
theorem ms_way {M : World → Int → Tv → Prop} (nd : NdV M) {w : World} {n : Int} (k : List UInt8) : ∀ (T : Tv) (d : Nat), M w n T → ∀ S ∈ T.way k d, M w n S
  | .nil, _, h, S, hS => by
    rw [show S = .nil by simpa [Tv.way] using hS]; exact h
  | .leaf v e, _, h, S, hS => by
    rw [show S = .leaf v e by simpa [Tv.way] using hS]; exact h
  | .inner v a b, d, h, S, hS => by
    obtain ⟨ha, hb⟩ := nd.kids h
    unfold Tv.way at hS
    rcases List.mem_cons.1 hS with rfl | hS
    · exact h
    · by_cases hb0 : bitK k d = 0
      · rw [if_pos hb0] at hS; exact ms_way nd k a (d + 1) ha S hS
      · rw [if_neg hb0] at hS; exact ms_way nd k b (d + 1) hb S hS
theorem ms_sibs {M : World → Int → Tv → Prop} (nd : NdV M) {w : World} {n : Int} (k : List UInt8) : ∀ (T : Tv) (d : Nat), M w n T → ∀ S ∈ T.sibs k d, M w n S
  | .nil, _, _, S, hS => by simp [Tv.sibs] at hS
  | .leaf _ _, _, _, S, hS => by simp [Tv.sibs] at hS
  | .inner v a b, d, h, S, hS => by
    obtain ⟨ha, hb⟩ := nd.kids h
    unfold Tv.sibs at hS
    by_cases hb0 : bitK k d = 0
    · rw [if_pos hb0] at hS
      rcases List.mem_cons.1 hS with rfl | hS
      · exact hb
      · exact ms_sibs nd k a (d + 1) ha S hS
    · rw [if_neg hb0] at hS
      rcases List.mem_cons.1 hS with rfl | hS
      · exact ha
      · exact ms_sibs nd k b (d + 1) hb S hS
theorem ms_fin {M : World → Int → Tv → Prop} (nd : NdV M) {w : World} {n : Int} (k : List UInt8) {T : Tv} {d : Nat} (h : M w n T) : M w n (T.fin k d) :=
  ms_way nd k T d h _ (List.mem_of_getElem? (way_last k T d))
theorem ms_under {M : World → Int → Tv → Prop} (nd : NdV M) {w : World} {n : Int} (k : List UInt8) (b : Nat) {T : Tv} (h : M w n T) : M w n (T.under k b) := by
  unfold Tv.under
  cases hw : (T.way k 0)[b]? with
  | some S => exact ms_way nd k T 0 h S (List.mem_of_getElem? hw)
  | none =>
    have hf := ms_fin nd k (d := 0) h
    cases hF : T.fin k 0 with
    | nil => exact nd.nil _ _
    | inner v a b => exact nd.nil _ _
    | leaf v e =>
      rw [hF] at hf
      show M w n (if b ≤ comK e.k k then .leaf v e else .nil)
      split
      · exact hf
      · exact nd.nil _ _
theorem val_ptr {M : World → Int → Tv → Prop} (nd : NdV M) {w : World} {n : Int} {T : Tv} (h : M w n T) : ∃ a, T.val = .pointer a := by
  rcases nd.addr h with rfl | ⟨a, ha⟩
  · exact ⟨none, rfl⟩
  · exact ⟨_, ha⟩
/-! ### What a law's walk carries -/
structure Fs (M : World → Int → Tv → Prop) (W : World) (n : Int) (A : Option Addr) (m : List En) (T : Tv) (w : World) : Prop where
  bel : Below W.heap.size W w
  vars : Vars w
  ea : EA w A m
  ms : M w n T
theorem Fs.below {M : World → Int → Tv → Prop} (nd : NdV M) {W w w' : World} {n : Int} {A : Option Addr} {m : List En} {T : Tv} (h : Fs M W n A m T w) (hb : Below w.heap.size w w') : Fs M W n A m T w' :=
  ⟨h.bel.trans (hb.mono h.bel.size), h.vars.below hb, h.ea.below hb, nd.below h.ms hb⟩
theorem Fs.hs {M : World → Int → Tv → Prop} (nd : NdV M) {W w w' : World} {n : Int} {A : Option Addr} {m : List En} {T : Tv} (h : Fs M W n A m T w) {b : Nat} {k : Int} {c : Nat} (hh : Hs w b k c) (hb : W.heap.size ≤ b) (hk : Keep (fun i => i = b) w w') : Fs M W n A m T w' :=
  ⟨keep_new h.bel hb hk, h.vars.hs hh hk, hh.ea h.ea hk, nd.hs h.ms hh hk⟩
set_option maxHeartbeats 8000000 in
set_option maxRecDepth 100000 in
theorem tree_in {M : World → Int → Tv → Prop} (nd : NdV M) (n : Int) (A : Option Addr) (c : Nat) (es : List En) (W : World) (hA : EA W A es) (hl : es.length ≤ 12) (hvl : ∀ e ∈ es, e.v.length ≤ 1000) (hf : fewK (es.map En.ent) = true) (hvx : Vars W) (h0 : 0 ≤ n) (h1 : n ≤ 256) :
    Calls Tryz.prog 4 #[.int .i64 n, .slice A es.length c] W fun e w' => ∃ A' c' T, e = .returned (.tuple #[.slice A' (ofE es).length c', T.val, .bool true]) ∧ (ofE es).length ≤ c' ∧ IsMap ((ofE es).map En.ent) T ∧ Fs M W n A' (ofE es) T w' := by
  have HR : Hid (∀ w, Calls Tryz.prog 11 #[.int .i64 n] w fun e w' => e = .returned (.bool true) ∧ w = w') := fun w => by
    have := right5_c n w
    rwa [decide_eq_true ⟨h0, h1⟩] at this
  have HFW : Hid (∀ w, EA w A es → Calls Tryz.prog 12 #[.slice A es.length c] w fun e w' => e = .returned (.bool true) ∧ w = w') := fun w h => by
    have := few7_c A c es w h
    rwa [hf] at this
  have HA := Lib.hid hA
  have HV := Lib.hid hvl
  have HVX := Lib.hid hvx
  have HH := Lib.hid (hash_in n W h0 h1)
  clear hA hvl hvx hf
  go_enter Tryz.func4, Tryz.ntmps4
  go_wp2_with fail
  refine (HR.out W).mono ?_
  rintro _ _ ⟨rfl, rfl⟩
  go_wp2_with fail
  refine (HFW.out W HA.out).mono ?_
  rintro _ _ ⟨rfl, rfl⟩
  go_wp2_with fail
  refine HH.out.mono ?_
  rintro _ w1 ⟨b, rfl, hb, hH, hB⟩
  have HB := Lib.hid hB
  have HH1 := Lib.hid hH
  have HA1 := Lib.hid (HA.out.below hB)
  have HVX1 := Lib.hid (HVX.out.below hB)
  have HBB := Lib.hid hb
  clear hB hH hb HH
  go_wp2_with fail
  refine (of7_c A c es w1 HA1.out (by omega)).mono ?_
  rintro _ w2 ⟨v2, rfl, hO2, hB2⟩
  obtain ⟨A2, c2, rfl, hc2, hE2⟩ := hO2.ea (fun e he => (HA1.out.mem e (ofE_mem he)).below hB2)
  have hln := ofE_len es
  have HB2 := Lib.hid (HB.out.trans (hB2.mono HB.out.size))
  have HH2 := Lib.hid (HH1.out.keep (Keep.of_below (L := fun _ => False) hB2) fun h => h)
  have HVX2 := Lib.hid (HVX1.out.below hB2)
  have HE2 := Lib.hid hE2
  have HC2 := Lib.hid hc2
  obtain ⟨O, hO⟩ : ∃ O, O = ofE es := ⟨_, rfl⟩
  have HSEP : Hid (Sep 0 (O.map En.ent)) := by
    show Sep _ _
    rw [hO, ofE_ent]
    refine ofK_sep _ fun e he => ?_
    obtain ⟨x, hx, rfl⟩ := List.mem_map.1 he
    exact (HA1.out.mem x hx).key
  have HVO : Hid (∀ e ∈ O, e.v.length ≤ 1000) := fun e he => HV.out e (ofE_mem (by rw [← hO]; exact he))
  rw [← hO] at HE2 hln HC2 ⊢
  have HLO : Hid (O.length ≤ 12) := Nat.le_trans hln hl
  have HOO := Lib.hid hO
  clear hO2 hc2 hE2 hB2 HH1 HVX1 HA1 HB hO hln
  go_wp2_with fail
  have hdeep : Deep 257 0 O.length := .inr ⟨by omega, by omega, by omega⟩
  refine (grow_c nd.c n b 257 A2 c2 O 0 0 w2 HE2.out (by have := HLO.out; omega) HVO.out hdeep HH2.out HVX2.out (by have := HLO.out; omega)).mono ?_
  rintro _ w4 ⟨_, m4, rfl, ⟨T, rfl, hT, hM⟩, hm4, hH4, hK4⟩
  have HP : Hid (IsMap (O.map En.ent) T ∧ Fs M W n A2 O T w4) := ⟨⟨HSEP.out, hT⟩, ⟨keep_new HB2.out HBB.out hK4, HVX2.out.hs HH2.out hK4, HH2.out.ea HE2.out hK4, hM⟩⟩
  clear hT hM hm4 hH4 hK4 hdeep
  go_wp2_with fail
  go_ret3
  rw [← HOO.out]
  exact ⟨A2, c2, T, rfl, HC2.out, HP.out⟩
set_option maxHeartbeats 4000000 in
set_option maxRecDepth 100000 in
theorem tree_out (n : Int) (A : Option Addr) (c : Nat) (es : List En) (W : World) (hA : EA W A es) (h : (n < 0 ∨ 256 < n) ∨ fewK (es.map En.ent) = false) :
    Calls Tryz.prog 4 #[.int .i64 n, .slice A es.length c] W fun e w' => e = .returned (.tuple #[.slice none 0 0, .pointer none, .bool false]) ∧ Below W.heap.size W w' := by
  have HA := Lib.hid hA
  clear hA
  by_cases hn : n < 0 ∨ 256 < n
  · have HR : Hid (∀ w, Calls Tryz.prog 11 #[.int .i64 n] w fun e w' => e = .returned (.bool false) ∧ w = w') := fun w => by
      have := right5_c n w
      rwa [decide_eq_false (by omega)] at this
    clear hn h
    go_enter Tryz.func4, Tryz.ntmps4
    go_wp2_with fail
    refine (HR.out W).mono ?_
    rintro _ _ ⟨rfl, rfl⟩
    go_wp2_with fail
    go_ret3
    exact ⟨rfl, Below.refl _ _⟩
  · have hf := h.elim (fun h => absurd h hn) id
    have HR : Hid (∀ w, Calls Tryz.prog 11 #[.int .i64 n] w fun e w' => e = .returned (.bool true) ∧ w = w') := fun w => by
      have := right5_c n w
      rwa [decide_eq_true (by omega)] at this
    have HFW : Hid (∀ w, EA w A es → Calls Tryz.prog 12 #[.slice A es.length c] w fun e w' => e = .returned (.bool false) ∧ w = w') := fun w h => by
      have := few7_c A c es w h
      rwa [hf] at this
    clear hn h hf
    go_enter Tryz.func4, Tryz.ntmps4
    go_wp2_with fail
    refine (HR.out W).mono ?_
    rintro _ _ ⟨rfl, rfl⟩
    go_wp2_with fail
    refine (HFW.out W HA.out).mono ?_
    rintro _ _ ⟨rfl, rfl⟩
    go_wp2_with fail
    go_ret3
    exact ⟨rfl, Below.refl _ _⟩
end Go.Proofs.YtbkokcfmndiedaaGreatDoor

/- alive of layer 8 over contracts. -/
namespace Go.Proofs.YtbkokcfmndiedaaGreatDoor
open Go.RowKit

/-- A row of entries in a block. -/
theorem ea_row {w : World} {g : Nat} {T : TypeId} {fr : Nat × Nat} {es : List En} (h : w.heap[g]? = some (.cells (es.flatMap enC).toArray T fr)) (hes : ∀ e ∈ es, EnOk w e) : EA w (some ⟨g, 0, none⟩) es := fun i e hi => by
  refine ⟨hes e (List.mem_of_getElem? hi), g, 0, rfl, fun j v hv => ?_⟩
  have := flat_at (fun e he => (hes e he).key) hi hv
  rw [Nat.zero_add, cell_of_cells h]
  simpa using this
def e8a (A : Option Addr) : En := ⟨z26, A, [1], 1⟩
def e8b (A : Option Addr) : En := ⟨k128, A, [2], 1⟩
theorem bldEntry_2 (A : Option Addr) (w : World) : bldA 63 w #[(0, .agg (bA k128)), (1, .slice A 1 1)] = .ok (.value (.agg (enC (e8b A)).toArray)) w := bldEntry (e8b A) rfl w
theorem bldEntry_1 (A : Option Addr) (w : World) : bldA 63 w #[(1, .slice A 1 1)] = .ok (.value (.agg (enC (e8a A)).toArray)) w := bldEntry_v A 1 1 w
theorem bsE_two (A B : Option Addr) (w : World) : bsE w 2 #[(0, .agg (enC (e8a A)).toArray), (1, .agg (enC (e8b B)).toArray)] = .ok (.value (.slice (some ⟨w.heap.size, 0, none⟩) 2 2)) (w.alloc (.cells ([e8a A, e8b B].flatMap enC).toArray 63)) := by kernel_rfl
def k77 : List UInt8 := 77 :: List.replicate 31 0
def k129 : List UInt8 := 129 :: List.replicate 31 0
theorem bldKey_77 (w : World) : bldA 24 w #[(0, .int .u8 77)] = .ok (.value (.agg (bA k77))) w := by kernel_rfl
theorem bldKey_129 (w : World) : bldA 24 w #[(0, .int .u8 129)] = .ok (.value (.agg (bA k129))) w := by kernel_rfl
theorem elemEs : Tryz.prog.elem 22 = 63 := by kernel_rfl
theorem sizeEs (w : World) : (sizeOf 63).run Tryz.prog w = .ok 33 w := by
  obtain ⟨i0, hi, hz0, hz1, hz2⟩ := info_parts infoE3
  simp [sizeOf, typeInfo, hi, hz1]
theorem sl_first (g : Nat) (w : World) : (Instr.sliceAt 22 (.slice (some ⟨g, 0, none⟩) 2 2) none (some (.int .i64 1)) none).run Tryz.prog w = .ok (.slice (some ⟨g, 0, none⟩) 1 2) w := by
  have ht : Tryz.prog.underlying 22 = some (.slice (Tryz.prog.elem 22)) := by rw [elemEs]; exact Tryz.underlying22
  rw [run_sliceAt_slice w 22 _ _ _ _ ht, run_slice_h w 22 _ _ _ ht .i64 1 (by decide) (by decide), elemEs, sizeEs]
  simp [sliced, add_none]
def E8a : Ent := ⟨z26, [1]⟩
def E8b : Ent := ⟨k128, [2]⟩
theorem bit_a : bitK z26 0 = 0 := by decide
theorem bit_b : bitK k128 0 = 1 := by decide
theorem bit_c9 : bitK k129 0 = 1 := by decide
theorem grow_ab : growT 257 [E8a, E8b] 0 = .inner (.leaf E8a) (.leaf E8b) := by
  rw [show (257 : Nat) = 256 + 1 from rfl, growT_two 256 _ 0 (by decide)]
  have h0 : partK [E8a, E8b] 0 0 = [E8a] := by simp [partK, E8a, E8b, bit_a, bit_b]
  have h1 : partK [E8a, E8b] 0 1 = [E8b] := by simp [partK, E8a, E8b, bit_a, bit_b]
  rw [h0, h1, growT_one, growT_one]
  rfl
theorem sep_ab : Sep 0 [E8a, E8b] where
  len := fun a ha => by
    simp only [List.mem_cons, List.not_mem_nil, or_false] at ha
    rcases ha with rfl | rfl <;> rfl
  ne := by
    refine List.pairwise_cons.2 ⟨fun b hb => ?_, List.pairwise_singleton _ _⟩
    rw [List.mem_singleton.1 hb]
    decide
  eq := fun _ _ _ _ i hi => by omega
theorem sep_a : Sep 0 [E8a] where
  len := fun a ha => by rw [List.mem_singleton.1 ha]; rfl
  ne := List.pairwise_singleton _ _
  eq := fun _ _ _ _ i hi => by omega
/-- What the two trees are. -/
structure Two (T : Tv) (v va vb : Value) : Prop where
  val : T.val = v
  f1 : T.fin z26 0 = .leaf va E8a
  d1 : T.dep z26 0 = 1
  s1 : (T.sibs z26 0).length = 1
  w1 : (T.way z26 0).length = 2
  g1 : getT (T.fin k128 0).tr k128 = some E8b
  g2 : getT (T.fin k129 0).tr k129 = none
  c0 : T.child 0 = .leaf va E8a
  u : T.under k128 256 = .leaf vb E8b
theorem two_of {T : Tv} (h : T.tr = growT 257 [E8a, E8b] 0) : ∃ v va vb, T = .inner v (.leaf va E8a) (.leaf vb E8b) := by
  rw [grow_ab] at h
  match T, h with
  | .inner v (.leaf va a) (.leaf vb b), h =>
    injection h with h1 h2
    injection h1 with h1
    injection h2 with h2
    subst h1 h2
    exact ⟨v, va, vb, rfl⟩
theorem com_self : 256 ≤ comK k128 k128 := (com_bits (Nat.le_refl 256)).2 fun _ _ => rfl
theorem two_is (v va vb : Value) : Two (.inner v (.leaf va E8a) (.leaf vb E8b)) v va vb where
  val := rfl
  f1 := by simp [Tv.fin, bit_a]
  d1 := by simp [Tv.dep, bit_a]
  s1 := by simp [Tv.sibs, bit_a]
  w1 := by simp [Tv.way, bit_a]
  g1 := by simp [Tv.fin, bit_b, Tv.tr, getT, E8b]
  g2 := by
    have : k128 ≠ k129 := by decide
    simp [Tv.fin, bit_c9, Tv.tr, getT, E8b, this]
  c0 := rfl
  u := by
    have h := com_self
    simp [Tv.under, Tv.way, Tv.fin, bit_b, E8b, h]
end Go.Proofs.YtbkokcfmndiedaaGreatDoor

/- What Get finds, as a plain fact. -/
namespace Go.Proofs.YtbkokcfmndiedaaGreatDoor
open Go.RowKit

theorem get_is {l : List Ent} {k : List UInt8} (hs : Sep 0 l) {T : Tv} (hT : At l k 0 T) : getT (T.fin k 0).tr k = l.find? fun e => decide (e.k = k) := by
  obtain ⟨i1, i2, _⟩ := At.fin hs T 0 hT
  have hf := i1.few hs i2
  have hin : ∀ x ∈ l, x.k = k → x ∈ dK l k (T.dep k 0) := fun x hx he => dK_mem.2 ⟨hx, fun j _ => by rw [he]⟩
  match hm : dK l k (T.dep k 0), hf with
  | [], _ =>
    rw [i1.nil hm]
    refine (List.find?_eq_none.2 fun x hx => ?_).symm
    intro h
    have := hin x hx (of_decide_eq_true h)
    rw [hm] at this
    simp at this
  | [e], _ =>
    rw [i1.one hm]
    show (if e.k = k then some e else none) = _
    by_cases he : e.k = k
    · rw [if_pos he]
      have h1 : e ∈ dK l k (T.dep k 0) := by rw [hm]; simp
      have hel := (dK_mem.1 h1).1
      cases hq : l.find? fun e => decide (e.k = k) with
      | none =>
        have := List.find?_eq_none.1 hq e hel
        simp [he] at this
      | some x =>
        have hx1 := List.find?_some hq
        have hx2 := List.mem_of_find?_eq_some hq
        have := hin x hx2 (of_decide_eq_true hx1)
        rw [hm, List.mem_singleton] at this
        rw [this]
    · rw [if_neg he]
      refine (List.find?_eq_none.2 fun x hx => ?_).symm
      intro h
      have h2 := of_decide_eq_true h
      have := hin x hx h2
      rw [hm, List.mem_singleton] at this
      rw [this] at h2
      exact he h2
theorem getE_map (es : List En) (k : List UInt8) : (getE es k).map En.ent = (es.map En.ent).find? fun e => decide (e.k = k) := by
  unfold getE
  rw [List.find?_map]
  rfl
theorem get_isE {O : List En} {k : List UInt8} {T : Tv} (h : IsMap (O.map En.ent) T) : getT (T.fin k 0).tr k = (getE O k).map En.ent := by
  rw [get_is h.sep (h.at k), getE_map]
theorem getE_mem {es : List En} {k : List UInt8} {e : En} (h : getE es k = some e) : e ∈ es ∧ e.k = k := ⟨List.mem_of_find?_eq_some h, by have := List.find?_some h; simpa using this⟩
end Go.Proofs.YtbkokcfmndiedaaGreatDoor
