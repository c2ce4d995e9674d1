/- Several texts in one: Cr Ct Cu Cx Cv. -/
import Derived.Test.YtnmbbfndboohjaaDoorCq
import Derived.Test.YtnmbbfndboohjaaDoorRn
import Derived.Test.YtnmbbfndboohjaaDoorAA
import Derived.Shelf.RegionOpenPlain
import Derived.WalkKit
import Derived.Deep.LoopGhost
import Derived.Lib.Walk
import Derived.Sort.WalkB12
import Derived.Lib.SlicesMore
import Derived.Test.YtnmbbfndboohjaaDoorCA
import Derived.Test.YtnmbbfndboohjaaDoorSl
/- The program's Steps (layer 16, as landed): a loop over the iterator that collects the digests. -/
namespace Go.Proofs.YtnmbbfndboohjaaDoor
open Go.RowKit
attribute [local go_sem] Oper.semAt_some

theorem psteps_c (b : Nat) (vp vk : Array Value) (A : Option Addr) (m c : Nat) (w : World) : Calls Tryd.prog 32 #[ptr b, .agg vp, .slice A m c, .agg vk] w fun e w' =>
    e = .returned (.func (.func 52) #[] #[.pointer (some ⟨w.heap.size + 1, 0, none⟩), .pointer (some ⟨w.heap.size, 0, none⟩), .pointer (some ⟨w.heap.size + 2, 0, none⟩), .pointer (some ⟨w.heap.size + 3, 0, none⟩)]) ∧
      w' = (((w.alloc (.cells #[ptr b] 32)).alloc (.cells vp 29)).alloc (.cells #[.slice A m c] 27)).alloc (.cells vk 23) := by
  go_enter Tryd.func32, Tryd.ntmps32
  go_wp2_with fail
  go_ret
  exact ⟨by simp, rfl⟩
theorem row16_obj {w : World} {B : Nat} {e : TypeId} {size : Nat} {v : Value} {n : Nat} {xs : List Value} {m : Nat} {o o' : Obj} (h : w.ownsRow B e size v n xs) (hm : w.heap[m]? = some o) (hc : o.isCells = false) : (w.putObj m o').ownsRow B e size v n xs := row11_other h fun g cs hg hh => by
  by_cases e : g = m
  · subst e; rw [hh] at hm; cases hm; cases hc
  · exact (World.putObj_heap_other e).trans hh
/-- What Steps keeps between two rounds. -/
structure SpI (wS : World) (b r0 : Nat) (dF : Nat → List UInt8) (pre : List Nat) (O : Nat → Prop) (X : World) : Prop where
  kp : Keep (fun i => i = b ∨ i = r0) wS X
  row : ∃ v, X.heap[r0]? = some (.cells #[v] 27 (0, 0)) ∧ OwnD X wS.heap.size v (pre.map dF) ∧ ∀ g, v.ownBlock = some g → g ≠ r0 ∧ ¬ O g
theorem SpI.bears {wS : World} {b r0 : Nat} {dF : Nat → List UInt8} {pre : List Nat} (hr : r0 < wS.heap.size) (hrb : r0 ≠ b) : BearsS (fun i => i = b) wS.heap.size (SpI wS b r0 dF pre) := fun O X Y O' ⟨h0, v, h1, h2, h3⟩ hO hs hk ho => by
  refine ⟨h0.step hk fun i hi => (hO i hi).elim (fun h => .inl (.inl h)) fun h => .inr (by omega), v, hk.heap h1 fun h => (hO _ h).elim hrb fun h => by omega, row11_keep h2 hk fun g hg h => (h3 g hg).2 h, fun g hg => ⟨(h3 g hg).1, fun h => (ho g h).elim (h3 g hg).2 fun h => ?_⟩⟩
  obtain ⟨_, cs, hcs⟩ := row11_lt h2 g hg
  have := lt_of_heap hcs
  omega
theorem SpI.below {wS : World} {b r0 : Nat} {dF : Nat → List UInt8} {pre : List Nat} {O : Nat → Prop} {X Y : World} (h : SpI wS b r0 dF pre O X) (hb : Below X.heap.size X Y) : SpI wS b r0 dF pre O Y := by
  obtain ⟨h0, v, h1, h2, h3⟩ := h
  exact ⟨h0.trans (Keep.of_below hb), v, by rw [hb.block _ (lt_of_heap h1)]; exact h1, row11_keep h2 (Keep.of_below (L := fun _ => False) hb) fun _ _ h => h, h3⟩
theorem SpI.obj {wS : World} {b r0 : Nat} {dF : Nat → List UInt8} {pre : List Nat} {O : Nat → Prop} (hr : r0 < wS.heap.size) : BearsL wS.heap.size (SpI wS b r0 dF pre O) := fun X m o o' ⟨h0, v, h1, h2, h3⟩ hm _ ho hc =>
  ⟨h0.step (keep_putObj (M := fun i => i = m) X m o' rfl) fun i hi => .inr (by have e : i = m := hi; omega), v, (World.putObj_heap_other (by omega)).trans h1, row16_obj h2 ho hc, h3⟩
theorem SpI.push {wS V Z w1 : World} {b r0 : Nat} {dF : Nat → List UInt8} {pre : List Nat} {x : Nat} {O : Nat → Prop} {v v' : Value} (hr : r0 < wS.heap.size) (hrb : r0 ≠ b)
    (h0 : Keep (fun i => i = b ∨ i = r0) wS V) (h1 : V.heap[r0]? = some (.cells #[v] 27 (0, 0))) (h2 : OwnD V wS.heap.size v (pre.map dF)) (h3 : ∀ g, v.ownBlock = some g → g ≠ r0 ∧ ¬ O g)
    (hO : ∀ i, O i → (i = b ∨ wS.heap.size + 2 ≤ i) ∧ i < V.heap.size) (hZ : Below V.heap.size V Z) (hO9 : OwnD w1 wS.heap.size v' (pre.map dF ++ [dF x])) (hG : Grown11 v v' Z w1) :
    w1.cell? ⟨r0, 0, none⟩ = some v ∧ w1.frozen? ⟨r0, 0, none⟩ = false ∧ Hid (Keeps2 wS.heap.size V (w1.setCell ⟨r0, 0, none⟩ v') ∧ Keep (fun i => (i = r0 ∨ wS.heap.size ≤ i) ∧ ¬ O i) V (w1.setCell ⟨r0, 0, none⟩ v') ∧ SpI wS b r0 dF (pre ++ [x]) O (w1.setCell ⟨r0, 0, none⟩ v')) := by
  have hz1 : Z.heap[r0]? = some (.cells #[v] 27 (0, 0)) := by rw [hZ.block _ (lt_of_heap h1)]; exact h1
  have g1 : w1.heap[r0]? = some (.cells #[v] 27 (0, 0)) := hG.keep.heap hz1 fun e => (h3 r0 e).1 rfl
  have k1 : Keep (fun i => i = r0) w1 (w1.setCell ⟨r0, 0, none⟩ v') := Keep.cell w1 ⟨r0, 0, none⟩ v'
  have hk : Keep (fun i => i = r0 ∨ v.ownBlock = some i) V (w1.setCell ⟨r0, 0, none⟩ v') := ((Keep.of_below hZ).trans (hG.keep.mono fun _ h => .inr h)).trans (k1.mono fun _ h => .inl h)
  have hZs := hZ.size
  have hv' : ∀ g, v'.ownBlock = some g → v.ownBlock = some g ∨ g = Z.heap.size := fun g hg => hG.blk.imp (fun e => by rw [← e]; exact hg) fun e => by rw [e] at hg; cases hg; rfl
  have hrV := lt_of_heap h1
  have hL : ∀ i, (i = r0 ∨ v.ownBlock = some i) → (i = r0 ∨ wS.heap.size ≤ i) ∧ ¬ O i ∧ (V.heap[i]?.map Obj.isCells = some true) := fun i hi => by
    rcases hi with rfl | hi
    · exact ⟨.inl rfl, fun h => (hO _ h).1.elim hrb fun h => by omega, by rw [h1]; rfl⟩
    · obtain ⟨f1, cs, f2⟩ := row11_lt h2 i hi
      exact ⟨.inr f1, (h3 i hi).2, by rw [f2]; rfl⟩
  refine ⟨by rw [cell_of_cells g1]; rfl, frozen_of_row w1 _ _ _ _ g1, fun k o hk1 hk2 ho hcl => hk.heap ho fun h => ?_, hk.mono fun i hi => ⟨(hL i hi).1, (hL i hi).2.1⟩, h0.step hk fun i hi => (hL i hi).1.imp .inr id, v', set_row g1, row11_keep (by rw [List.map_append]; exact hO9) k1 fun g hg e => ?_, fun g hg => ?_⟩
  · have := (hL k h).2.2
    rw [ho] at this
    simp [hcl] at this
  · have e : g = r0 := e
    rcases hv' g hg with h | h
    · exact (h3 g h).1 e
    · omega
  · rcases hv' g hg with h | h
    · exact h3 g h
    · exact ⟨by omega, fun ho => by have := hO g ho; omega⟩
theorem DS.nilA {w : World} {A : Option Addr} : DS w A [] := fun i k h => by simp at h
theorem st16_of {w4 : World} {pb hb kb sb b r0 B : Nat} {n : Int} {m : Nat} {p : Pf} {s : Value} {k : List UInt8} {A : Option Addr} {c : Nat} {X : List (List UInt8)} (hp : PfAt w4 pb p s) (hh : w4.heap[hb]? = some (.cells #[ptr b] 32 (0, 0)))
    (hk : w4.heap[kb]? = some (.cells (bA k) 23 (0, 0))) (hs : w4.heap[sb]? = some (.cells #[.slice A X.length c] 27 (0, 0))) (hd : NewD w4 B A c X) (hX : ∀ x ∈ X, x.length = 32) (hv : Vars w4) (hH : Hs w4 b n m) (hbB : b < B)
    {rt : TypeId} (hrt : rt ≠ 24) (hr0 : w4.heap[r0]? = some (.cells #[.slice none 0 0] rt (0, 0))) (hne : pb ≠ b ∧ hb ≠ b ∧ kb ≠ b ∧ sb ≠ b) (hnr : pb ≠ r0 ∧ hb ≠ r0 ∧ kb ≠ r0 ∧ sb ≠ r0) (hvr : r0 ≠ 1 ∧ r0 ≠ 0) (Y : World) (hK : Keep (fun i => i = b ∨ i = r0) w4 Y) : St16 pb hb kb sb b p s k A c X Y where
  p := hp.keep hK fun h => h.elim hne.1 hnr.1
  h := hK.heap hh fun h => h.elim hne.2.1 hnr.2.1
  k := hK.heap hk fun h => h.elim hne.2.2.1 hnr.2.2.1
  s := hK.heap hs fun h => h.elim hne.2.2.2 hnr.2.2.2
  ds := by
    rcases hd.2 with rfl | ho
    · exact DS.nilA
    · refine OwnD.dsA (B := B) (n := X.length) (c := c) (row11_keep ho hK fun g hg h => ?_) hX
      obtain ⟨h1, cs, h2⟩ := row11_lt ho g hg
      rcases h with h | h
      · omega
      · rw [h, hr0] at h2
        injection h2 with h2
        injection h2 with _ h2
        exact hrt h2
  v := hv.keep hK (fun h => h.elim (fun e => (hH.vars hv).1 e.symm) fun e => hvr.1 e.symm) (fun h => h.elim (fun e => (hH.vars hv).2 e.symm) fun e => hvr.2 e.symm)
theorem chk_kind {p : Pf} (h : chkP p = 0) : p.good ∧ (p.kind = 0 ∨ p.kind = 1) := by
  rcases chkP_cases p with h1 | ⟨h1, h2 | h2⟩
  · omega
  · omega
  · exact ⟨h2.2, h1⟩
theorem stpB_map (n : Int) (e : List UInt8) (X : List (List UInt8)) (k : List UInt8) (D : Nat) : ∀ i, stpB n e X k D i = (List.range (i + 1)).map fun j => digL n (preF n e X k D j)
  | 0 => rfl
  | i + 1 => by unfold stpB; rw [stpB_map n e X k D i, List.range_succ (n := i + 1), List.map_append]; rfl
theorem Vars.lts {w : World} (h : Vars w) : 1 < w.heap.size ∧ 0 < w.heap.size :=
  ⟨lt_of_cell (h.kt 5 (by decide)), lt_of_cell (h.it 5 _ (show (init8.list.map u)[5]? = some (u (init8.list.getD 5 0)) from rfl))⟩
set_option maxHeartbeats 16000000 in
set_option maxRecDepth 100000 in
theorem psteps_ok (w : World) (b : Nat) (n : Int) (m : Nat) (p : Pf) (A : Option Addr) (c : Nat) (k : List UInt8) (hH : Hs w b n m) (hm : m ≤ 500000) (hv : Vars w) (hp : p.Ok) (hA : DS w A p.sib) (hc : p.sib.length ≤ c) (hl : p.sib.length ≤ 1000000) (hk : k.length = 32) (h0 : chkP p = 0) :
    Calls Tryd.prog 15 #[ptr b, .agg (pfC p (.slice A p.sib.length c)), .agg (bA k)] w fun e w' => ∃ A' c' m', e = .returned (.tuple #[.slice A' (stepL n p k).length c', .int .i64 0]) ∧ NewD w' w.heap.size A' c' (stepL n p k) ∧ m' ≤ m + (p.dep.toNat + 2) ∧ Hs w' b n m' ∧ Keep (fun i => i = b) w w' := by
  obtain ⟨s, hs⟩ : ∃ s : Value, s = .slice A p.sib.length c := ⟨_, rfl⟩
  obtain ⟨w1, hw1⟩ : ∃ w1, w1 = (w.alloc (.cells (pfC p s) 29)).alloc (.cells (bA k) 23) := ⟨_, rfl⟩
  have hB1 : Below w.heap.size w w1 := by rw [hw1]; exact ((Below.refl _ _).alloc (Nat.le_refl _) _).alloc (by simp) _
  have hz1 : w1.heap.size = w.heap.size + 2 := by rw [hw1]; simp
  have hP1 : PfAt w1 w.heap.size p s := by rw [hw1]; exact (Below.heap_alloc _ _ _ (by simp)).trans (heap_alloc_new _ _)
  have hK1 : w1.heap[w.heap.size + 1]? = some (.cells (bA k) 23 (0, 0)) := by rw [hw1]; exact heap_alloc2_new w _ _
  have ld := hP1.ld hp
  rw [hw1] at ld
  obtain ⟨hgood, hkd⟩ := chk_kind h0
  obtain ⟨D, hD⟩ : ∃ D : Nat, D = p.dep.toNat := ⟨_, rfl⟩
  have hdep : p.dep = (D : Int) := by have := hgood.1; omega
  obtain ⟨X, hX⟩ : ∃ X, X = sidX n p := ⟨_, rfl⟩
  have hXl : X.length = D := by rw [hX, hD]; exact expL_len ..
  have hX2 : ∀ x ∈ X, x.length = 32 := fun x hx => expL_mem (n := n) (d := p.dep.toNat) hgood.2.2.2.1 hp.sib (by have := hgood.2.1; omega) x (by rw [hX] at hx; exact hx)
  have hbw := lt_of_heap hH
  have hvl := hH.vars hv
  have HEX := pexp_1 w1 b n m p A c (hH.keep (Keep.of_below (L := fun _ => False) hB1) id) hm (hv.below hB1) hp (hA.below hB1) hc hl h0
  rw [← hs, ← show sidX n p = expL n p.bm p.sib p.dep.toNat from rfl, ← hX] at HEX
  have HEX := Lib.hid HEX
  have HST : Hid (stepL n p k = (List.range (D + 1)).map fun i => digL n (preF n (endP p) X k D i)) := by show _ = _; unfold stepL; rw [← hX, ← hD]; exact stpB_map ..
  obtain ⟨pF, hpF⟩ : ∃ pF, pF = preF n (endP p) X k D := ⟨_, rfl⟩
  obtain ⟨dF, hdF⟩ : ∃ dF : Nat → List UInt8, dF = fun i => digL n (pF i) := ⟨_, rfl⟩
  rw [← hpF, ← hdF] at HST
  have HPF := Lib.hid hpF
  have HDF : Hid (∀ i, dF i = digL n (pF i)) := fun i => by rw [hdF]
  have HVL := Lib.hid hvl
  rw [HST.out, ← hs, ← hD]
  have HW1 := Lib.hid hw1
  have HB1 := Lib.hid hB1
  have HZ1 := Lib.hid hz1
  have HP1 := Lib.hid hP1
  have HK1 := Lib.hid hK1
  have HDE := Lib.hid hdep
  have HD2 : Hid (D ≤ 256) := by have := hgood.2.1; show D ≤ 256; omega
  have HKD := Lib.hid hkd
  have HXL := Lib.hid hXl
  have HX2 := Lib.hid hX2
  have HBW := Lib.hid hbw
  have HVS : Hid (1 < w.heap.size ∧ 0 < w.heap.size) := hv.lts
  have HV := Lib.hid hv
  have HPO := Lib.hid hp
  have HK := Lib.hid hk
  have HM := Lib.hid hm
  clear hs hw1 hB1 hz1 hP1 hK1 h0 hgood hkd hD hdep hX hXl hX2 hbw hvl hpF hdF hH hm hv hp hA hc hl hk
  refine (callsIn_wide (n := 10)).1 ?_
  refine callsIn_of_wp_marks Tryd.func15 rfl trivial ?_ rfl
  simp only [Tryd.ntmps15, List.size_toArray, List.length_cons, List.length_nil, Nat.reduceAdd, Nat.reduceSub, Array.replicate_succ, Array.replicate_zero, List.push_toArray, List.append_toArray, List.nil_append, List.cons_append]
  refine wpIn_wide.2 ?_
  go_wp2_with fail
  rw [← HW1.out]
  refine HEX.out.mono ?_
  rintro _ w2 ⟨AX, cX, m2, rfl, hN2, hm2, hH2, hk2⟩
  have hz2 := hk2.size
  obtain ⟨w3, hw3⟩ : ∃ w3, w3 = w2.alloc (.cells #[.slice none 0 0] 27) := ⟨_, rfl⟩
  have hb3 : Below w2.heap.size w2 w3 := by rw [hw3]; exact Bt.one_below _ _
  have hz3 : w3.heap.size = w2.heap.size + 1 := by rw [hw3]; simp
  have hr3 : w3.heap[w2.heap.size]? = some (.cells #[.slice none 0 0] 27 (0, 0)) := by rw [hw3]; exact heap_alloc_new _ _
  have hne0 : w.heap.size ≠ b := by have := HBW.out; omega
  have hne1 : w.heap.size + 1 ≠ b := by have := HBW.out; omega
  have hP3 : PfAt w3 w.heap.size p s := (HP1.out.keep hk2 hne0).below hb3 (by have := HZ1.out; omega)
  have hK3 : w3.heap[w.heap.size + 1]? = some (.cells (bA k) 23 (0, 0)) := by rw [hb3.block _ (by have := HZ1.out; omega)]; exact hk2.heap HK1.out hne1
  have ld3 := hP3.ld HPO.out
  have lk3 : ldA 23 w3 (.pointer (some ⟨w.heap.size + 1, 0, none⟩)) = .ok (.value (.agg (bA k))) w3 := ldA_row hK3 Tryd.underlying23 (by rw [bA_size, HK.out]; exact infoKey)
  rw [hw3] at ld3 lk3
  have HW3 := Lib.hid hw3
  have HB3 := Lib.hid hb3
  have HZ3 := Lib.hid hz3
  have HR3 := Lib.hid hr3
  have HN2 := Lib.hid hN2
  have HM2 := Lib.hid hm2
  have HH2 := Lib.hid hH2
  have HK2 := Lib.hid hk2
  have HZ2 := Lib.hid hz2
  clear hw3 hb3 hz3 hr3 hN2 hm2 hH2 hk2 hz2 HEX ld hP3 hK3 hne0 hne1
  go_wp2_with fail
  rw [← HW3.out]
  refine (psteps_c b (pfC p s) (bA k) AX X.length cX w3).mono ?_
  rintro _ w4 ⟨rfl, hw4⟩
  obtain ⟨r0, hr0⟩ : ∃ r0, r0 = w2.heap.size := ⟨_, rfl⟩
  have hz4 : w4.heap.size = r0 + 5 := by rw [hw4, hr0]; simp [HZ3.out]
  have h33 : w3.heap.size = r0 + 1 := by rw [HZ3.out, hr0]
  rw [h33]
  have hb34 : Below w3.heap.size w3 w4 := by rw [hw4]; exact ((((Below.refl _ _).alloc (Nat.le_refl _) _).alloc (by simp only [World.size_alloc]; omega) _).alloc (by simp only [World.size_alloc]; omega) _).alloc (by simp only [World.size_alloc]; omega) _
  have e1 : w4.heap[r0 + 1]? = some (.cells #[ptr b] 32 (0, 0)) := by
    rw [hw4, ← h33]
    refine (Below.heap_alloc _ _ _ (by simp only [World.size_alloc]; omega)).trans ((Below.heap_alloc _ _ _ (by simp only [World.size_alloc]; omega)).trans ((Below.heap_alloc _ _ _ (by simp only [World.size_alloc]; omega)).trans (heap_alloc_new _ _)))
  have e2 : PfAt w4 (r0 + 2) p s := by
    show w4.heap[r0 + 2]? = _
    rw [hw4, ← show (w3.alloc (.cells #[ptr b] 32)).heap.size = r0 + 2 by simp [h33]]
    refine (Below.heap_alloc _ _ _ (by simp only [World.size_alloc]; omega)).trans ((Below.heap_alloc _ _ _ (by simp only [World.size_alloc]; omega)).trans (heap_alloc_new _ _))
  have e4 : w4.heap[r0 + 3]? = some (.cells #[.slice AX X.length cX] 27 (0, 0)) := by
    rw [hw4, ← show ((w3.alloc (.cells #[ptr b] 32)).alloc (.cells (pfC p s) 29)).heap.size = r0 + 3 by simp [h33]]
    refine (Below.heap_alloc _ _ _ (by simp only [World.size_alloc]; omega)).trans (heap_alloc_new _ _)
  have e3 : w4.heap[r0 + 4]? = some (.cells (bA k) 23 (0, 0)) := by
    rw [hw4, ← show (((w3.alloc (.cells #[ptr b] 32)).alloc (.cells (pfC p s) 29)).alloc (.cells #[.slice AX X.length cX] 27)).heap.size = r0 + 4 by simp [h33]]
    exact heap_alloc_new _ _
  have hK24 : Keep (fun _ => False) w2 w4 := Keep.of_below (HB3.out.trans (hb34.mono HB3.out.size))
  have hr4 : w4.heap[r0]? = some (.cells #[.slice none 0 0] 27 (0, 0)) := by rw [hb34.block _ (by omega), hr0]; exact HR3.out
  have hH4 : Hs w4 b n m2 := HH2.out.keep hK24 id
  have hV4 : Vars w4 := (((HV.out.below HB1.out).keep HK2.out (fun e => HVL.out.1 e.symm) (fun e => HVL.out.2 e.symm))).keep hK24 id id
  have hN4 : NewD w4 w1.heap.size AX cX X := ⟨HN2.out.1, HN2.out.2.imp id fun h => row11_keep h hK24 fun _ _ h => h⟩
  have hlt : b < r0 ∧ w.heap.size + 2 ≤ r0 := by have := HBW.out; have := HZ1.out; have := HZ2.out; omega
  have hst := st16_of (r0 := r0) e2 e1 e3 e4 hN4 HX2.out hV4 hH4 (by have := HBW.out; have := HZ1.out; omega) (by decide) hr4 ⟨by omega, by omega, by omega, by omega⟩ ⟨by omega, by omega, by omega, by omega⟩ ⟨by have := HVS.out; omega, by have := HVS.out; omega⟩
  have HSEQ := Lib.hid (steps_seq w4 b r0 (r0 + 2) (r0 + 1) (r0 + 4) (r0 + 3) n m2 p s k AX cX X hst hH4 (by omega) (by omega) (by have := HM.out; have := HM2.out; omega) HPO.out HK.out HKD.out D HDE.out HD2.out HXL.out HX2.out (by rw [← HXL.out]; exact HN2.out.1))
  rw [← HPF.out] at HSEQ
  have HI0 : Hid (SpI w4 b r0 dF [] (fun i => i = b) w4) := ⟨Keep.refl _ _, _, hr4, OwnD.nil _ _, fun g hg => by simp [Value.ownBlock] at hg⟩
  have HZ4 := Lib.hid hz4
  have HLT := Lib.hid hlt
  have HR0 := Lib.hid hr0
  have HKW4 : Hid (Keep (fun i => i = b) w w4) := ((Keep.of_below HB1.out).trans HK2.out).trans (hK24.mono fun _ h => h.elim)
  clear hz4 h33 hb34 e1 e2 e3 e4 hK24 hr4 hH4 hV4 hN4 hlt hst hw4 ld3 lk3 hr0
  go_wp2_with fail
  rw [← HR0.out]
  refine (wpIn_wide (n := 10)).1 ?_
  have hz4 := HZ4.out
  have hlt := HLT.out
  refine wpIn_rangeS (gf := 52) (lb := #[.pointer (some ⟨r0 + 2, 0, none⟩), .pointer (some ⟨r0 + 1, 0, none⟩), .pointer (some ⟨r0 + 3, 0, none⟩), .pointer (some ⟨r0 + 4, 0, none⟩)]) rfl (enters_of Tryd.func52 (by kernel_rfl) rfl) HSEQ.out
    (fun i h => by have e : i = b := h; omega) (fun s X m o o' h hm _ _ _ => (World.putObj_heap_other (by omega)).trans h) (fun i h1 _ => .inr h1) (fun x args O H X ⟨_, _, h, _⟩ => by rw [h]; rfl)
    (SpI w4 b r0 dF) (fun _ _ _ _ => False) (fun s => SpI.bears (by omega) (by omega)) (fun s O => SpI.obj (by omega)) (fun _ _ _ _ _ _ h => h.elim) (fun _ _ _ _ _ _ _ h => h.elim)
    (fun X hX => HI0.out.below hX) ?round ?done ?stop
  case stop =>
    rintro D cc pre O X _ _ h _
    exact h.elim
  case round =>
    rintro m0 pre x O H args X1 rfl ⟨r, hr⟩ hI hLO hO hp ⟨A3, c3, rfl, _, _, _⟩ _
    have hdl : (digL n (pF x)).length = 32 := dig_len _ _
    rw [← HDF.out x] at hdl ⊢
    have st1 : stA 24 (X1.alloc (.cells (bA z26) 24)) (.pointer (some ⟨X1.heap.size, 0, none⟩)) (.agg (bA (dF x))) = .ok .skip (X1.alloc (.cells (bA (dF x)) 24)) := stA_new X1 _ _ (by rw [bA_size, hdl]; exact info26) (by rw [bA_size, bA_size, hdl]; rfl) (bA_one _)
    obtain ⟨X2, hX2⟩ : ∃ X2, X2 = X1.alloc (.cells (bA (dF x)) 24) := ⟨_, rfl⟩
    have hb2 : Below X1.heap.size X1 X2 := by rw [hX2]; exact Bt.one_below _ _
    have hc2 : X2.heap[X1.heap.size]? = some (.cells (bA (dF x)) 24 (0, 0)) := by rw [hX2]; exact heap_alloc_new _ _
    rw [← hX2] at st1
    have HI := Lib.hid (SpI.below hI hb2)
    have HO := Lib.hid hO
    have HP2 := Lib.hid hp
    have HLX : Hid (w4.heap.size + 1 < X1.heap.size) := lt_of_heap hr
    have HB2 := Lib.hid hb2
    have HC2 := Lib.hid hc2
    have HDL := Lib.hid hdl
    clear hr hI hLO hO hp hX2 hb2 hc2 hdl hz4 hlt
    gi_wp2
    clear st1
    refine ⟨Keeps2.of_keep (L := fun _ => False) (Keep.of_below HB2.out) id id, Keep.of_below HB2.out, HI.out, fun V _ hkV hIV => ?_⟩
    obtain ⟨g0, v, g1, g2, g3⟩ := hIV
    have lc : V.cell? ⟨r0, 0, none⟩ = some v := by rw [cell_of_cells g1]; rfl
    have lx : ldA 24 V (.pointer (some ⟨X1.heap.size, 0, none⟩)) = .ok (.value (.agg (bA (dF x)))) V := RowB.ldDig (hkV.heap HC2.out (by have := HLX.out; show ¬ _ = _; omega)) HDL.out
    have bs := bsD_one (dF x) HDL.out
    obtain ⟨Z, hZ⟩ : ∃ Z, Z = V.alloc (.cells (bA (dF x)) 24) := ⟨_, rfl⟩
    have hbZ : Below V.heap.size V Z := by rw [hZ]; exact Bt.one_below _ _
    have HCZ : Hid (Z.rangeAt V.heap.size 0 (dC (dF x))) := by show Z.rangeAt _ _ _; rw [hZ]; exact dig_made _ _ _
    have HOZ : Hid (OwnD Z w4.heap.size v (pre.map dF)) := row11_keep g2 (Keep.of_below (L := fun _ => False) hbZ) fun _ _ h => h
    have HZ := Lib.hid hZ
    have HBZ := Lib.hid hbZ
    have G0 := Lib.hid g0
    have G1 := Lib.hid g1
    have G2 := Lib.hid g2
    have G3 : Hid (∀ g, v.ownBlock = some g → g ≠ r0 ∧ ¬ O g) := fun g hg => ⟨(g3 g hg).1, fun h => (g3 g hg).2 (.inl h)⟩
    have HEL : Hid ((pre.map dF).length ≤ 1000000) := by
      show _ ≤ _
      obtain ⟨z, hz⟩ := HP2.out
      have := congrArg List.length hz
      simp at this
      have := HD2.out
      rw [List.length_map]
      omega
    have HVS2 : Hid (X2.heap.size ≤ V.heap.size) := hkV.size
    have HOV : Hid (∀ i, O i → (i = b ∨ w4.heap.size + 2 ≤ i) ∧ i < V.heap.size) := fun i h => ⟨(HO.out i (.inl h)).1, by have := (HO.out i (.inl h)).2; have := HB2.out.size; have := HVS2.out; omega⟩
    have HBB : Hid (w4.heap.size ≤ Z.heap.size) := by show _ ≤ _; have := HLX.out; have := HB2.out.size; have := HVS2.out; have := HBZ.out.size; omega
    have HR4 : Hid (r0 < w4.heap.size ∧ r0 ≠ b) := by have := HZ4.out; have := HLT.out; constructor <;> omega
    have HDM : Hid (∀ d ∈ pre.map dF ++ [dF x], d.length = 32) := fun d hd => by
      have hl : ∀ i, (dF i).length = 32 := fun i => by rw [HDF.out i]; exact dig_len _ _
      rcases List.mem_append.1 hd with h | h
      · obtain ⟨i, _, rfl⟩ := List.mem_map.1 h
        exact hl i
      · rw [List.mem_singleton.1 h]; exact hl x
    clear g0 g1 g2 g3 hZ hbZ hkV
    refine wpIn_block (round_region (fun ⟨_, _, h⟩ => h) (by rfl) ?_)
    go_wp2_with (at_builtin; rw [← HZ.out]; refine wpList_pushD rfl _ _ rfl w4.heap.size v (pre.map dF) rfl HOZ.out V.heap.size (dF x) HDL.out rfl HCZ.out HEL.out HBB.out ?_; intro v' w9 hO9 hG9; obtain ⟨hcell, hfroz, HFIN⟩ := SpI.push (x := x) HR4.out.1 HR4.out.2 G0.out G1.out G2.out G3.out HOV.out HBZ.out hO9 hG9; obtain ⟨A9, c9, rfl, _, _⟩ := hO9.ds HDM.out; obtain ⟨N, hN⟩ : ∃ N, N = (pre.map dF ++ [dF x]).length := ⟨_, rfl⟩; rw [← hN] at HFIN ⊢; clear hO9 hG9 hN)
    exact HFIN.out
  case done =>
    rintro D0 O X5 rfl hI hS hd
    have hI2 := SpI.obj (r0 := r0) (by omega) X5 _ _ (.deferred none) hI (Nat.le_refl _) (Nat.le_succ _) hd rfl
    obtain ⟨_, v, g1, g2, _⟩ := hI
    have c1 : X5.cell? ⟨r0, 0, none⟩ = some v := by rw [cell_of_cells g1]; rfl
    obtain ⟨q0, v', q1, q2, _⟩ := hI2
    have e1 : v' = v := by
      rw [World.putObj_heap_other (by omega), g1] at q1
      cases q1
      rfl
    subst e1
    have hl : ∀ d ∈ (List.range (D + 1)).map dF, d.length = 32 := fun d hd => by
      obtain ⟨i, _, rfl⟩ := List.mem_map.1 hd
      rw [HDF.out i]; exact dig_len _ _
    have HQ2 := Lib.hid q2
    obtain ⟨A9, c9, rfl, _, hc9⟩ := q2.ds hl
    have HS5 : Hid (Hs (X5.putObj w4.heap.size (.deferred none)) b n (m2 + (D + 1))) := by
      have h : (X5.putObj w4.heap.size (.deferred none)).heap[b]? = X5.heap[b]? := World.putObj_heap_other (by omega)
      have h2 : Hs (X5.putObj w4.heap.size (.deferred none)) b n (m2 + (List.range (D + 1)).length) := h.trans hS
      rwa [List.length_range] at h2
    have HKF : Hid (Keep (fun i => i = b) w (X5.putObj w4.heap.size (.deferred none))) := HKW4.out.step q0 fun i hi => hi.elim .inl fun h => .inr (by omega)
    have HC9 := Lib.hid hc9
    have HD := Lib.hid hd
    have HWZ : Hid (w.heap.size ≤ w4.heap.size) := by show _ ≤ _; omega
    clear hd g1 g2 q0 q1 q2 hz4 hlt hl hc9 hS
    obtain ⟨N, hN⟩ : ∃ N, N = ((List.range (D + 1)).map dF).length := ⟨_, rfl⟩
    rw [← hN] at HC9 c1 HQ2
    have HN := Lib.hid hN
    clear hN
    go_wp2_with fail
    refine ⟨by simp, .inl ⟨_, _, rfl, run_takeDeferred HD.out, ?_⟩⟩
    exact ⟨_, results_tmp2 rfl _ _ _, A9, c9, m2 + (D + 1), by rw [HN.out]; rfl, ⟨by rw [← HN.out]; exact HC9.out, .inr (by rw [← HN.out]; exact OwnD.mono HQ2.out HWZ.out)⟩, by have := HM2.out; omega, HS5.out, HKF.out⟩
end Go.Proofs.YtnmbbfndboohjaaDoor

/- The program's slices.Reverse at rows of byte slices (walked after the library's relation). -/
namespace Go.Proofs.YtnmbbfndboohjaaDoor
open Go.RowKit Go.Sort Go.Lib

abbrev Hh := Option Addr × Nat × Nat
def encHd (h : Hh) : Value := .slice h.1 h.2.1 h.2.2
set_option maxHeartbeats 1600000 in
set_option maxRecDepth 1000000 in
theorem prev_c (blk off cap : Nat) (d : Array Hh) (w : World) (hH : Holds encHd w blk off d) (hsz : d.size ≤ 1000000) :
    Calls Tryd.prog 34 #[.slice (some ⟨blk, off, none⟩) d.size cap] w fun e w' => e = .returned (.tuple #[]) ∧ ∃ n, w' = putRow encHd (Sort.ahead w n) blk off d.reverse := by
  go_enter Tryd.func34, Tryd.ntmps34
  go_wp2
  go_loopg [2, 3] d.size (fun k s2 s3 wr => ∃ (i jn : Nat) (jz : Int) (dk : Array Hh) (n : Nat), s2 = .int .i64 i ∧ s3 = .int .i64 jz ∧ ((i : Int) < jz → jz = jn ∧ jn < d.size) ∧ (¬ (i : Int) < jz → ¬ i < jn) ∧ jn - i ≤ k ∧
    dk.size = d.size ∧ wr = putRow encHd (Sort.ahead w n) blk off dk ∧ reverseLoop i jn dk = reverseLoop 0 (d.size - 1) d)
  case atStart => exact ⟨0, d.size - 1, (d.size : Int) - 1, d, 0, rfl, rfl, fun h => ⟨by omega, by omega⟩, fun h => by omega, by omega, rfl, (putRow_self encHd w blk off d hH).symm, rfl⟩
  case round =>
    obtain ⟨i, jn, jz, dk, n, rfl, rfl, h1, h2, hk, hds, hwr, heq⟩ := hrel
    by_cases hlt : (i : Int) < jz
    · obtain ⟨rfl, hjn⟩ := h1 hlt
      have hij : i < jn := by omega
      have hHk : Holds encHd wr blk off dk := by rw [hwr]; exact holds_putRow encHd _ blk off d dk (holds_ahead encHd w n blk off d hH) hds
      obtain ⟨ci, fi⟩ := hHk i (by omega)
      obtain ⟨cj, fj⟩ := hHk jn (by omega)
      have A : Aside (wr = putRow encHd (Sort.ahead w n) blk off dk) := hwr
      unfold encHd at ci cj
      have mixed : Tryd.prog.follows .mixedOrders = true := by kernel_rfl
      have hid : i < d.size := by omega
      clear hwr hHk hH h1 h2
      go_wp2_with fail
      go_region_o
      go_wp2
      go_roundg (jn - 1 - (i + 1))
      case measure => omega
      case rel =>
        rw [reverseLoop, if_pos hij] at heq
        exact ⟨i + 1, jn - 1, (jn : Int) - 1, swp dk i jn, n + 1, by simp, rfl, fun h => ⟨by omega, by omega⟩, fun h => by omega, Nat.le_refl _, by rw [size_swp]; exact hds,
          swap_world encHd (by omega) (by omega) A.out (by first | rfl | simp [encHd, getElem!_pos, show jn < dk.size by omega]) (by first | rfl | simp [encHd, getElem!_pos, show i < dk.size by omega]), heq⟩
    · have hnot := h2 hlt
      go_wp2
      go_end0
      refine ⟨rfl, n, ?_⟩
      rw [reverseLoop, if_neg hnot] at heq
      rw [← Lib.reverseLoop_reverse, ← heq]
end Go.Proofs.YtnmbbfndboohjaaDoor

/- The program's Preimages (scratch form of stage 16): a loop over the iterator that collects the preimages, turned round. -/
namespace Go.Proofs.YtnmbbfndboohjaaDoor
open Go.RowKit Go.Sort
attribute [local go_sem] Oper.semAt_some

def OwnHd (w : World) (B : Nat) (v : Value) (hs : List Hh) : Prop := w.ownsRow B 36 1 v hs.length (hs.map encHd)
theorem OwnHd.nil (w : World) (B : Nat) : OwnHd w B (.slice none 0 0) [] := ⟨rfl, .inl ⟨rfl, rfl⟩⟩
theorem infoHd : (Tryd.prog.info? 36).map (fun i => (i.zero, i.size, i.bytes)) = some (some (.slice none 0 0), 1, 24) := by kernel_rfl
theorem wpList_pushHd {ops : Array Oper} {rest : List Oper} {o : Oper} {a : Act} {w : World} {Q : Exit → Act → World → Prop} (hgd : o.guard = none) (s x : Operand)
    (ho : o.op = .call { callee := .builtin .append, args := #[s, x], argTypes := #[49, 49] }) (B : Nat) (v : Value) (hs : List Hh) (he : a.eval s = v) (hown : OwnHd w B v hs) (g : Nat) (h : Hh)
    (hx : a.eval x = .slice (some ⟨g, 0, none⟩) 1 1) (hr : w.cell? ⟨g, 0, none⟩ = some (encHd h)) (hl : hs.length ≤ 1000000) (hB : B ≤ w.heap.size)
    (hQ : ∀ v' w', OwnHd w' B v' (hs ++ [h]) → Grown11 v v' w w' → wpList Tryd.prog ops Q rest (a.put o.dst v') w') : wpList Tryd.prog ops Q (o :: rest) a w := by
  obtain ⟨i0, hi, hz0, hz1, hz2⟩ := info_parts infoHd
  refine wpList_append_own_at (w := w) hgd s x 49 ho B 36 i0 _ 1 24 Tryd.underlying49 hi hz0 hz1 hz2 rfl (by decide) v hs.length (hs.map encHd) he hown ⟨g, 0, none⟩ 1 1 [encHd h] hx rfl
    (fun j u hj => ?_) (fun u hu => ?_) (by unfold maxLen; omega) (by omega) hB fun v' w' h1 h2 _ h4 => hQ v' w' ?_ ⟨h2, h4⟩
  · match j, hj with
    | 0, hj =>
      simp at hj
      rw [← hj]
      simpa [Addr.add] using hr
  · simp at hu; subst hu; rfl
  · unfold OwnHd
    rw [List.map_append, List.length_append]
    simpa using h1
theorem BA.keepB {L : Nat → Prop} {X Y : World} {A : Option Addr} {l : List UInt8} (h : BA X A l) (hk : Keep L X Y) (hL : ∀ a, A = some a → ¬ L a.block) : BA Y A l := fun j x hj => by
  obtain ⟨g, o, rfl, h1⟩ := h j x hj
  exact ⟨g, o, rfl, hk.cellAt h1 (show ¬ L g from hL _ rfl)⟩
theorem OwnHd.sl {w : World} {B : Nat} {v : Value} {hs : List Hh} (h : OwnHd w B v hs) : ∃ A c, v = .slice A hs.length c ∧ hs.length ≤ c := by
  obtain ⟨_, ⟨rfl, h⟩ | ⟨g, cap, cur, rfl, _, _, h, _⟩⟩ := h
  · exact ⟨none, 0, by rw [h], by omega⟩
  · exact ⟨_, _, rfl, h⟩
theorem keep_putRow16 (w : World) (n g : Nat) (d : Array Hh) : Keep (fun i => i = g) w (putRow encHd (Sort.ahead w n) g 0 d) :=
  ⟨rfl, rfl, rfl, by simp [putRow, mapBlock, Sort.ahead], fun i _ hl => by
    have hl : ¬ g = i := fun e => hl e.symm
    simp [putRow, mapBlock, Sort.ahead, Array.getElem?_modify, hl]⟩
theorem OwnHd.holds {w : World} {B : Nat} {v : Value} {hs : List Hh} (h : OwnHd w B v hs) (h0 : 0 < hs.length) : ∃ g c, v = .slice (some ⟨g, 0, none⟩) hs.length c ∧ v.ownBlock = some g ∧ B ≤ g ∧ Holds encHd w g 0 hs.toArray ∧ ∃ cs, w.heap[g]? = some (.cells cs 36 (0, 0)) := by
  obtain ⟨e0, ⟨_, e⟩ | ⟨g, cap, cur, rfl, hg, hh, hn, hc, hsz, ht⟩⟩ := h
  · omega
  · refine ⟨g, cap, rfl, rfl, hg, fun j hj => ⟨?_, frozen_of_row w _ _ _ _ hh⟩, cur, hh⟩
    have hj : j < hs.length := by simpa using hj
    rw [Nat.zero_add, cell_of_cells hh, ← Array.getElem?_toList]
    have := congrArg (·[j]?) ht
    simp only [Nat.mul_one] at this
    rw [List.getElem?_take, if_pos hj] at this
    rw [this]
    simp [hj]
/-- A preimage that the caller keeps. -/
structure El (B : Nat) (O : Nat → Prop) (X : World) (A : Option Addr) (c : Nat) (l : List UInt8) : Prop where
  c : l.length ≤ c
  a : BA X A l
  f : ∀ a, A = some a → B ≤ a.block ∧ ¬ O a.block ∧ ∃ cs, X.heap[a.block]? = some (.cells cs 5 (0, 0))
theorem El.keep {B : Nat} {O O' L : Nat → Prop} {X Y : World} {A : Option Addr} {c : Nat} {l : List UInt8} (h : El B O X A c l) (hk : Keep L X Y) (hL : ∀ a, A = some a → ¬ L a.block) (hO : ∀ i, O' i → O i ∨ X.heap.size ≤ i) : El B O' Y A c l :=
  ⟨h.c, h.a.keepB hk hL, fun a ha => by
    obtain ⟨h1, h2, cs, h3⟩ := h.f a ha
    exact ⟨h1, fun ho => (hO _ ho).elim h2 fun h => by have := lt_of_heap h3; omega, cs, hk.heap h3 (hL a ha)⟩⟩
/-- What Preimages keeps between two rounds. -/
structure PpI (wS : World) (b r0 : Nat) (pF : Nat → List UInt8) (pre : List Nat) (O : Nat → Prop) (X : World) : Prop where
  kp : Keep (fun i => i = b ∨ i = r0) wS X
  row : ∃ v hs, X.heap[r0]? = some (.cells #[v] 49 (0, 0)) ∧ OwnHd X wS.heap.size v hs ∧ (∀ g, v.ownBlock = some g → g ≠ r0 ∧ ¬ O g) ∧ hs.length = pre.length ∧
    ∀ (i x : Nat), pre[i]? = some x → ∃ A c, hs[i]? = some (A, (pF x).length, c) ∧ El wS.heap.size O X A c (pF x)
theorem PpI.bears {wS : World} {b r0 : Nat} {pF : Nat → List UInt8} {pre : List Nat} (hr : r0 < wS.heap.size) (hrb : r0 ≠ b) : BearsS (fun i => i = b) wS.heap.size (PpI wS b r0 pF pre) := fun O X Y O' ⟨h0, v, hs, h1, h2, h3, h4, h5⟩ hO hs2 hk ho => by
  refine ⟨h0.step hk fun i hi => (hO i hi).elim (fun h => .inl (.inl h)) fun h => .inr (by omega), v, hs, hk.heap h1 fun h => (hO _ h).elim hrb fun h => by omega, row11_keep h2 hk fun g hg h => (h3 g hg).2 h, fun g hg => ⟨(h3 g hg).1, fun h => (ho g h).elim (h3 g hg).2 fun h => ?_⟩, h4, fun i x hi => ?_⟩
  · obtain ⟨_, cs, hcs⟩ := row11_lt h2 g hg
    have := lt_of_heap hcs
    omega
  · obtain ⟨A, c, e, he⟩ := h5 i x hi
    exact ⟨A, c, e, he.keep hk (fun a ha => (he.f a ha).2.1) ho⟩
theorem PpI.obj {wS : World} {b r0 : Nat} {pF : Nat → List UInt8} {pre : List Nat} {O : Nat → Prop} (hr : r0 < wS.heap.size) : BearsL wS.heap.size (PpI wS b r0 pF pre O) := fun X m o o' ⟨h0, v, hs, h1, h2, h3, h4, h5⟩ hm _ ho hc =>
  ⟨h0.step (keep_putObj (M := fun i => i = m) X m o' rfl) fun i hi => .inr (by have e : i = m := hi; omega), v, hs, (World.putObj_heap_other (by omega)).trans h1, row16_obj h2 ho hc, h3, h4, fun i x hi => by
    obtain ⟨A, c, e, he⟩ := h5 i x hi
    refine ⟨A, c, e, he.keep (keep_putObj (M := fun i => i = m) X m o' rfl) (fun a ha e2 => ?_) fun _ h => .inl h⟩
    obtain ⟨_, _, cs, h6⟩ := he.f a ha
    have e2 : a.block = m := e2
    rw [e2, ho] at h6
    cases h6
    cases hc⟩
theorem PpI.below {wS : World} {b r0 : Nat} {pF : Nat → List UInt8} {pre : List Nat} {O : Nat → Prop} {X Y : World} (h : PpI wS b r0 pF pre O X) (hb : Below X.heap.size X Y) : PpI wS b r0 pF pre O Y := by
  obtain ⟨h0, v, hs, h1, h2, h3, h4, h5⟩ := h
  refine ⟨h0.trans (Keep.of_below hb), v, hs, by rw [hb.block _ (lt_of_heap h1)]; exact h1, row11_keep h2 (Keep.of_below (L := fun _ => False) hb) fun _ _ h => h, h3, h4, fun i x hi => ?_⟩
  obtain ⟨A, c, e, he⟩ := h5 i x hi
  exact ⟨A, c, e, he.keep (Keep.of_below (L := fun _ => False) hb) (fun _ _ h => h) fun _ h => .inl h⟩
theorem PpI.push {wS V Z w1 : World} {b r0 : Nat} {pF : Nat → List UInt8} {pre : List Nat} {x : Nat} {O : Nat → Prop} {v v' : Value} {hs : List Hh} {A : Option Addr} {c : Nat} (hr : r0 < wS.heap.size) (hrb : r0 ≠ b)
    (h0 : Keep (fun i => i = b ∨ i = r0) wS V) (h1 : V.heap[r0]? = some (.cells #[v] 49 (0, 0))) (h2 : OwnHd V wS.heap.size v hs) (h3 : ∀ g, v.ownBlock = some g → g ≠ r0 ∧ ¬ O g) (h4 : hs.length = pre.length)
    (h5 : ∀ (i x : Nat), pre[i]? = some x → ∃ A c, hs[i]? = some (A, (pF x).length, c) ∧ El wS.heap.size O V A c (pF x)) (hx : El wS.heap.size O V A c (pF x))
    (hO : ∀ i, O i → (i = b ∨ wS.heap.size + 2 ≤ i) ∧ i < V.heap.size) (hZ : Below V.heap.size V Z) (hO9 : OwnHd w1 wS.heap.size v' (hs ++ [(A, (pF x).length, c)])) (hG : Grown11 v v' Z w1) :
    w1.cell? ⟨r0, 0, none⟩ = some v ∧ w1.frozen? ⟨r0, 0, none⟩ = false ∧ Hid (Keeps2 wS.heap.size V (w1.setCell ⟨r0, 0, none⟩ v') ∧ Keep (fun i => (i = r0 ∨ wS.heap.size ≤ i) ∧ ¬ O i) V (w1.setCell ⟨r0, 0, none⟩ v') ∧ PpI wS b r0 pF (pre ++ [x]) O (w1.setCell ⟨r0, 0, none⟩ v')) := by
  have hz1 : Z.heap[r0]? = some (.cells #[v] 49 (0, 0)) := by rw [hZ.block _ (lt_of_heap h1)]; exact h1
  have g1 : w1.heap[r0]? = some (.cells #[v] 49 (0, 0)) := hG.keep.heap hz1 fun e => (h3 r0 e).1 rfl
  have k1 : Keep (fun i => i = r0) w1 (w1.setCell ⟨r0, 0, none⟩ v') := Keep.cell w1 ⟨r0, 0, none⟩ v'
  have hk : Keep (fun i => i = r0 ∨ v.ownBlock = some i) V (w1.setCell ⟨r0, 0, none⟩ v') := ((Keep.of_below hZ).trans (hG.keep.mono fun _ h => .inr h)).trans (k1.mono fun _ h => .inl h)
  have hZs := hZ.size
  have hv' : ∀ g, v'.ownBlock = some g → v.ownBlock = some g ∨ g = Z.heap.size := fun g hg => hG.blk.imp (fun e => by rw [← e]; exact hg) fun e => by rw [e] at hg; cases hg; rfl
  have hrV := lt_of_heap h1
  have hL : ∀ i, (i = r0 ∨ v.ownBlock = some i) → (i = r0 ∨ wS.heap.size ≤ i) ∧ ¬ O i ∧ (V.heap[i]?.map Obj.isCells = some true) := fun i hi => by
    rcases hi with rfl | hi
    · exact ⟨.inl rfl, fun h => (hO _ h).1.elim hrb fun h => by omega, by rw [h1]; rfl⟩
    · obtain ⟨f1, cs, f2⟩ := row11_lt h2 i hi
      exact ⟨.inr f1, (h3 i hi).2, by rw [f2]; rfl⟩
  have hel : ∀ A c l, El wS.heap.size O V A c l → El wS.heap.size O (w1.setCell ⟨r0, 0, none⟩ v') A c l := fun A c l he => he.keep hk (fun a ha h => by
    obtain ⟨f1, _, cs, f3⟩ := he.f a ha
    rcases h with h | h
    · omega
    · obtain ⟨_, cs2, f4⟩ := row11_lt h2 _ h
      rw [f3] at f4
      cases f4) fun _ h => .inl h
  refine ⟨by rw [cell_of_cells g1]; rfl, frozen_of_row w1 _ _ _ _ g1, fun k o hk1 hk2 ho hcl => hk.heap ho fun h => ?_, hk.mono fun i hi => ⟨(hL i hi).1, (hL i hi).2.1⟩, h0.step hk fun i hi => (hL i hi).1.imp .inr id, v', hs ++ [(A, (pF x).length, c)], set_row g1, row11_keep hO9 k1 fun g hg e => ?_, fun g hg => ?_, by rw [List.length_append, List.length_append, h4]; rfl, fun i y hi => ?_⟩
  · have := (hL k h).2.2
    rw [ho] at this
    simp [hcl] at this
  · have e : g = r0 := e
    rcases hv' g hg with h | h
    · exact (h3 g h).1 e
    · omega
  · rcases hv' g hg with h | h
    · exact h3 g h
    · exact ⟨by omega, fun ho => by have := hO g ho; omega⟩
  · by_cases hlt : i < pre.length
    · rw [List.getElem?_append_left hlt] at hi
      obtain ⟨A', c', e, he⟩ := h5 i y hi
      exact ⟨A', c', by rw [List.getElem?_append_left (by omega)]; exact e, hel _ _ _ he⟩
    · rw [List.getElem?_append_right (by omega)] at hi
      have hi0 : i - pre.length = 0 := by have := (List.getElem?_eq_some_iff.1 hi).1; simp at this; omega
      rw [hi0] at hi
      have e : x = y := by simpa using hi
      subst e
      exact ⟨A, c, by rw [List.getElem?_append_right (by omega), h4, hi0]; rfl, hel _ _ _ hx⟩
set_option maxHeartbeats 16000000 in
set_option maxRecDepth 100000 in
theorem ppre_ok (w : World) (b : Nat) (n : Int) (m : Nat) (p : Pf) (A : Option Addr) (c : Nat) (k : List UInt8) (hH : Hs w b n m) (hm : m ≤ 500000) (hv : Vars w) (hp : p.Ok) (hA : DS w A p.sib) (hc : p.sib.length ≤ c) (hl : p.sib.length ≤ 1000000) (hk : k.length = 32) (h0 : chkP p = 0) :
    Calls Tryd.prog 20 #[ptr b, .agg (pfC p (.slice A p.sib.length c)), .agg (bA k)] w fun e w' => ∃ A' c' m', e = .returned (.tuple #[.slice A' (preL n p k).length c', .int .i64 0]) ∧ PS w' A' (preL n p k) ∧ m' ≤ m + 1000 ∧ Hs w' b n m' ∧ Keep (fun i => i = b) w w' := by
  obtain ⟨s, hs⟩ : ∃ s : Value, s = .slice A p.sib.length c := ⟨_, rfl⟩
  obtain ⟨w1, hw1⟩ : ∃ w1, w1 = (w.alloc (.cells (pfC p s) 29)).alloc (.cells (bA k) 23) := ⟨_, rfl⟩
  have hB1 : Below w.heap.size w w1 := by rw [hw1]; exact ((Below.refl _ _).alloc (Nat.le_refl _) _).alloc (by simp) _
  have hz1 : w1.heap.size = w.heap.size + 2 := by rw [hw1]; simp
  have hP1 : PfAt w1 w.heap.size p s := by rw [hw1]; exact (Below.heap_alloc _ _ _ (by simp)).trans (heap_alloc_new _ _)
  have hK1 : w1.heap[w.heap.size + 1]? = some (.cells (bA k) 23 (0, 0)) := by rw [hw1]; exact heap_alloc2_new w _ _
  have ld := hP1.ld hp
  rw [hw1] at ld
  obtain ⟨hgood, hkd⟩ := chk_kind h0
  obtain ⟨D, hD⟩ : ∃ D : Nat, D = p.dep.toNat := ⟨_, rfl⟩
  have hdep : p.dep = (D : Int) := by have := hgood.1; omega
  obtain ⟨X, hX⟩ : ∃ X, X = sidX n p := ⟨_, rfl⟩
  have hXl : X.length = D := by rw [hX, hD]; exact expL_len ..
  have hX2 : ∀ x ∈ X, x.length = 32 := fun x hx => expL_mem (n := n) (d := p.dep.toNat) hgood.2.2.2.1 hp.sib (by have := hgood.2.1; omega) x (by rw [hX] at hx; exact hx)
  have hbw := lt_of_heap hH
  have hvl := hH.vars hv
  have HEX := pexp_1 w1 b n m p A c (hH.keep (Keep.of_below (L := fun _ => False) hB1) id) hm (hv.below hB1) hp (hA.below hB1) hc hl h0
  rw [← hs, ← show sidX n p = expL n p.bm p.sib p.dep.toNat from rfl, ← hX] at HEX
  have HEX := Lib.hid HEX
  have HST : Hid (preL n p k = preB n (endP p) X k D D) := by show _ = _; unfold preL; rw [← hX, ← hD]
  obtain ⟨pF, hpF⟩ : ∃ pF, pF = preF n (endP p) X k D := ⟨_, rfl⟩
  obtain ⟨xs, hxs⟩ : ∃ xs, xs = preB n (endP p) X k D D := ⟨_, rfl⟩
  have HXS : Hid (xs.length = D + 1 ∧ ∀ j, j ≤ D → xs[D - j]? = some (pF j)) := ⟨by rw [hxs, preB_len], fun j hj => by rw [hxs, hpF]; exact preB_at _ _ _ _ _ _ _ hj⟩
  rw [← hxs] at HST
  have HPF := Lib.hid hpF
  have HVL := Lib.hid hvl
  rw [HST.out, ← hs]
  have HW1 := Lib.hid hw1
  have HB1 := Lib.hid hB1
  have HZ1 := Lib.hid hz1
  have HP1 := Lib.hid hP1
  have HK1 := Lib.hid hK1
  have HDE := Lib.hid hdep
  have HD2 : Hid (D ≤ 256) := by have := hgood.2.1; show D ≤ 256; omega
  have HKD := Lib.hid hkd
  have HXL := Lib.hid hXl
  have HX2 := Lib.hid hX2
  have HBW := Lib.hid hbw
  have HVS : Hid (1 < w.heap.size ∧ 0 < w.heap.size) := hv.lts
  have HV := Lib.hid hv
  have HPO := Lib.hid hp
  have HK := Lib.hid hk
  have HM := Lib.hid hm
  clear hs hw1 hB1 hz1 hP1 hK1 h0 hgood hkd hD hdep hX hXl hX2 hbw hvl hpF hxs hH hm hv hp hA hc hl hk
  refine (callsIn_wide (n := 10)).1 ?_
  refine callsIn_of_wp_marks Tryd.func20 rfl trivial ?_ rfl
  simp only [Tryd.ntmps20, List.size_toArray, List.length_cons, List.length_nil, Nat.reduceAdd, Nat.reduceSub, Array.replicate_succ, Array.replicate_zero, List.push_toArray, List.append_toArray, List.nil_append, List.cons_append]
  refine wpIn_wide.2 ?_
  go_wp2_with fail
  rw [← HW1.out]
  refine HEX.out.mono ?_
  rintro _ w2 ⟨AX, cX, m2, rfl, hN2, hm2, hH2, hk2⟩
  have hz2 := hk2.size
  obtain ⟨w3, hw3⟩ : ∃ w3, w3 = w2.alloc (.cells #[.slice none 0 0] 49) := ⟨_, rfl⟩
  have hb3 : Below w2.heap.size w2 w3 := by rw [hw3]; exact Bt.one_below _ _
  have hz3 : w3.heap.size = w2.heap.size + 1 := by rw [hw3]; simp
  have hr3 : w3.heap[w2.heap.size]? = some (.cells #[.slice none 0 0] 49 (0, 0)) := by rw [hw3]; exact heap_alloc_new _ _
  have hne0 : w.heap.size ≠ b := by have := HBW.out; omega
  have hne1 : w.heap.size + 1 ≠ b := by have := HBW.out; omega
  have hP3 : PfAt w3 w.heap.size p s := (HP1.out.keep hk2 hne0).below hb3 (by have := HZ1.out; omega)
  have hK3 : w3.heap[w.heap.size + 1]? = some (.cells (bA k) 23 (0, 0)) := by rw [hb3.block _ (by have := HZ1.out; omega)]; exact hk2.heap HK1.out hne1
  have ld3 := hP3.ld HPO.out
  have lk3 : ldA 23 w3 (.pointer (some ⟨w.heap.size + 1, 0, none⟩)) = .ok (.value (.agg (bA k))) w3 := ldA_row hK3 Tryd.underlying23 (by rw [bA_size, HK.out]; exact infoKey)
  rw [hw3] at ld3 lk3
  have HW3 := Lib.hid hw3
  have HB3 := Lib.hid hb3
  have HZ3 := Lib.hid hz3
  have HR3 := Lib.hid hr3
  have HN2 := Lib.hid hN2
  have HM2 := Lib.hid hm2
  have HH2 := Lib.hid hH2
  have HK2 := Lib.hid hk2
  have HZ2 := Lib.hid hz2
  clear hw3 hb3 hz3 hr3 hN2 hm2 hH2 hk2 hz2 HEX ld hP3 hK3 hne0 hne1
  go_wp2_with fail
  rw [← HW3.out]
  refine (psteps_c b (pfC p s) (bA k) AX X.length cX w3).mono ?_
  rintro _ w4 ⟨rfl, hw4⟩
  obtain ⟨r0, hr0⟩ : ∃ r0, r0 = w2.heap.size := ⟨_, rfl⟩
  have hz4 : w4.heap.size = r0 + 5 := by rw [hw4, hr0]; simp [HZ3.out]
  have h33 : w3.heap.size = r0 + 1 := by rw [HZ3.out, hr0]
  rw [h33]
  have hb34 : Below w3.heap.size w3 w4 := by rw [hw4]; exact ((((Below.refl _ _).alloc (Nat.le_refl _) _).alloc (by simp only [World.size_alloc]; omega) _).alloc (by simp only [World.size_alloc]; omega) _).alloc (by simp only [World.size_alloc]; omega) _
  have e1 : w4.heap[r0 + 1]? = some (.cells #[ptr b] 32 (0, 0)) := by
    rw [hw4, ← h33]
    refine (Below.heap_alloc _ _ _ (by simp only [World.size_alloc]; omega)).trans ((Below.heap_alloc _ _ _ (by simp only [World.size_alloc]; omega)).trans ((Below.heap_alloc _ _ _ (by simp only [World.size_alloc]; omega)).trans (heap_alloc_new _ _)))
  have e2 : PfAt w4 (r0 + 2) p s := by
    show w4.heap[r0 + 2]? = _
    rw [hw4, ← show (w3.alloc (.cells #[ptr b] 32)).heap.size = r0 + 2 by simp [h33]]
    refine (Below.heap_alloc _ _ _ (by simp only [World.size_alloc]; omega)).trans ((Below.heap_alloc _ _ _ (by simp only [World.size_alloc]; omega)).trans (heap_alloc_new _ _))
  have e4 : w4.heap[r0 + 3]? = some (.cells #[.slice AX X.length cX] 27 (0, 0)) := by
    rw [hw4, ← show ((w3.alloc (.cells #[ptr b] 32)).alloc (.cells (pfC p s) 29)).heap.size = r0 + 3 by simp [h33]]
    refine (Below.heap_alloc _ _ _ (by simp only [World.size_alloc]; omega)).trans (heap_alloc_new _ _)
  have e3 : w4.heap[r0 + 4]? = some (.cells (bA k) 23 (0, 0)) := by
    rw [hw4, ← show (((w3.alloc (.cells #[ptr b] 32)).alloc (.cells (pfC p s) 29)).alloc (.cells #[.slice AX X.length cX] 27)).heap.size = r0 + 4 by simp [h33]]
    exact heap_alloc_new _ _
  have hK24 : Keep (fun _ => False) w2 w4 := Keep.of_below (HB3.out.trans (hb34.mono HB3.out.size))
  have hr4 : w4.heap[r0]? = some (.cells #[.slice none 0 0] 49 (0, 0)) := by rw [hb34.block _ (by omega), hr0]; exact HR3.out
  have hH4 : Hs w4 b n m2 := HH2.out.keep hK24 id
  have hV4 : Vars w4 := (((HV.out.below HB1.out).keep HK2.out (fun e => HVL.out.1 e.symm) (fun e => HVL.out.2 e.symm))).keep hK24 id id
  have hN4 : NewD w4 w1.heap.size AX cX X := ⟨HN2.out.1, HN2.out.2.imp id fun h => row11_keep h hK24 fun _ _ h => h⟩
  have hlt : b < r0 ∧ w.heap.size + 2 ≤ r0 := by have := HBW.out; have := HZ1.out; have := HZ2.out; omega
  have hst := st16_of (r0 := r0) e2 e1 e3 e4 hN4 HX2.out hV4 hH4 (by have := HBW.out; have := HZ1.out; omega) (by decide) hr4 ⟨by omega, by omega, by omega, by omega⟩ ⟨by omega, by omega, by omega, by omega⟩ ⟨by have := HVS.out; omega, by have := HVS.out; omega⟩
  have HSEQ := Lib.hid (steps_seq w4 b r0 (r0 + 2) (r0 + 1) (r0 + 4) (r0 + 3) n m2 p s k AX cX X hst hH4 (by omega) (by omega) (by have := HM.out; have := HM2.out; omega) HPO.out HK.out HKD.out D HDE.out HD2.out HXL.out HX2.out (by rw [← HXL.out]; exact HN2.out.1))
  rw [← HPF.out] at HSEQ
  have HI0 : Hid (PpI w4 b r0 pF [] (fun i => i = b) w4) := ⟨Keep.refl _ _, _, [], hr4, OwnHd.nil _ _, (fun g hg => by simp [Value.ownBlock] at hg), rfl, fun i x hi => by simp at hi⟩
  have HZ4 := Lib.hid hz4
  have HLT := Lib.hid hlt
  have HR0 := Lib.hid hr0
  have HKW4 : Hid (Keep (fun i => i = b) w w4) := ((Keep.of_below HB1.out).trans HK2.out).trans (hK24.mono fun _ h => h.elim)
  clear hz4 h33 hb34 e1 e2 e3 e4 hK24 hr4 hH4 hV4 hN4 hlt hst hw4 ld3 lk3 hr0
  go_wp2_with fail
  rw [← HR0.out]
  refine (wpIn_wide (n := 10)).1 ?_
  have hz4 := HZ4.out
  have hlt := HLT.out
  refine wpIn_rangeS (gf := 52) (lb := #[.pointer (some ⟨r0 + 2, 0, none⟩), .pointer (some ⟨r0 + 1, 0, none⟩), .pointer (some ⟨r0 + 3, 0, none⟩), .pointer (some ⟨r0 + 4, 0, none⟩)]) rfl (enters_of Tryd.func52 (by kernel_rfl) rfl) HSEQ.out
    (fun i h => by have e : i = b := h; omega) (fun s X m o o' h hm _ _ _ => (World.putObj_heap_other (by omega)).trans h) (fun i h1 _ => .inr h1) (fun x args O H X ⟨_, _, h, _⟩ => by rw [h]; rfl)
    (PpI w4 b r0 pF) (fun _ _ _ _ => False) (fun s => PpI.bears (by omega) (by omega)) (fun s O => PpI.obj (by omega)) (fun _ _ _ _ _ _ h => h.elim) (fun _ _ _ _ _ _ _ h => h.elim)
    (fun X hX => HI0.out.below hX) ?round ?done ?stop
  case stop =>
    rintro D cc pre O X _ _ h _
    exact h.elim
  case round =>
    rintro m0 pre x O H args X1 rfl ⟨r, hr⟩ hI hLO hO hp ⟨A3, c3, rfl, hc3, hA3, hf3⟩ _
    have hEl : El w4.heap.size O X1 A3 c3 (pF x) := ⟨hc3, hA3, fun a ha => ⟨(hf3 a ha).1, (hf3 a ha).2.2.1, (hf3 a ha).2.2.2⟩⟩
    have HRR : Hid (∃ r, X1.heap[w4.heap.size + 1]? = some (.loop r)) := ⟨r, hr⟩
    have HI := Lib.hid hI
    have HO := Lib.hid hO
    have HP2 := Lib.hid hp
    have HEL0 := Lib.hid hEl
    have HLX : Hid (w4.heap.size + 1 < X1.heap.size) := lt_of_heap hr
    clear hr hI hLO hO hp hEl hc3 hA3 hf3 hz4 hlt
    gi_wp2
    refine ⟨Keeps2.refl _ _, Keep.refl _ _, HI.out, fun V _ hkV hIV => ?_⟩
    obtain ⟨g0, v, hs, g1, g2, g3, g4, g5⟩ := hIV
    have HEV : Hid (El w4.heap.size O V A3 c3 (pF x)) := HEL0.out.keep hkV (fun a ha e => by
      obtain ⟨_, _, cs, h3⟩ := HEL0.out.f a ha
      obtain ⟨r, hr⟩ := HRR.out
      have e : a.block = w4.heap.size + 1 := e
      rw [e, hr] at h3
      cases h3) fun _ h => .inl h
    have lc : V.cell? ⟨r0, 0, none⟩ = some v := by rw [cell_of_cells g1]; rfl
    obtain ⟨Z, hZ⟩ : ∃ Z, Z = V.alloc (.cells #[.slice A3 (pF x).length c3] 36) := ⟨_, rfl⟩
    have hbZ : Below V.heap.size V Z := by rw [hZ]; exact Bt.one_below _ _
    have HCZ : Hid (Z.cell? ⟨V.heap.size, 0, none⟩ = some (encHd (A3, (pF x).length, c3))) := by show _ = _; rw [cell_of_cells (show Z.heap[V.heap.size]? = _ by rw [hZ]; exact heap_alloc_new V _)]; rfl
    have HOZ : Hid (OwnHd Z w4.heap.size v hs) := row11_keep g2 (Keep.of_below (L := fun _ => False) hbZ) fun _ _ h => h
    have HZ := Lib.hid hZ
    have HBZ := Lib.hid hbZ
    have G0 := Lib.hid g0
    have G1 := Lib.hid g1
    have G2 := Lib.hid g2
    have G3 : Hid (∀ g, v.ownBlock = some g → g ≠ r0 ∧ ¬ O g) := fun g hg => ⟨(g3 g hg).1, fun h => (g3 g hg).2 (.inl h)⟩
    have G4 := Lib.hid g4
    have G5 : Hid (∀ (i x : Nat), pre[i]? = some x → ∃ A c, hs[i]? = some (A, (pF x).length, c) ∧ El w4.heap.size O V A c (pF x)) := fun i y hi => by
      obtain ⟨A', c', e, he⟩ := g5 i y hi
      exact ⟨A', c', e, he.c, he.a, fun a ha => ⟨(he.f a ha).1, fun h => (he.f a ha).2.1 (.inl h), (he.f a ha).2.2⟩⟩
    have HEL : Hid (hs.length ≤ 1000000) := by
      show _ ≤ _
      obtain ⟨z, hz⟩ := HP2.out
      have := congrArg List.length hz
      simp at this
      have := HD2.out
      omega
    have HVS2 : Hid (X1.heap.size ≤ V.heap.size) := hkV.size
    have HOV : Hid (∀ i, O i → (i = b ∨ w4.heap.size + 2 ≤ i) ∧ i < V.heap.size) := fun i h => ⟨(HO.out i (.inl h)).1, by have := (HO.out i (.inl h)).2; have := HVS2.out; omega⟩
    have HBB : Hid (w4.heap.size ≤ Z.heap.size) := by show _ ≤ _; have := HLX.out; have := HVS2.out; have := HBZ.out.size; omega
    have HR4 : Hid (r0 < w4.heap.size ∧ r0 ≠ b) := by have := HZ4.out; have := HLT.out; constructor <;> omega
    clear g0 g1 g2 g3 g4 g5 hZ hbZ hkV
    refine wpIn_block (round_region (fun ⟨_, _, h⟩ => h) (by rfl) ?_)
    go_wp2_with (at_builtin; rw [← HZ.out]; refine wpList_pushHd rfl _ _ rfl w4.heap.size v hs rfl HOZ.out V.heap.size (A3, (pF x).length, c3) rfl HCZ.out HEL.out HBB.out ?_; intro v' w9 hO9 hG9; obtain ⟨hcell, hfroz, HFIN⟩ := PpI.push (x := x) HR4.out.1 HR4.out.2 G0.out G1.out G2.out G3.out G4.out G5.out HEV.out HOV.out HBZ.out hO9 hG9; obtain ⟨A9, c9, rfl, _⟩ := OwnHd.sl hO9; obtain ⟨N, hN⟩ : ∃ N, N = (hs ++ [(A3, (pF x).length, c3)]).length := ⟨_, rfl⟩; rw [← hN] at HFIN ⊢; clear hO9 hG9 hN)
    exact HFIN.out
  case done =>
    rintro D0 O X5 rfl hI hS hd
    obtain ⟨q0, v, hs, g1, g2, g3, g4, g5⟩ := hI
    rw [List.length_range] at g4
    obtain ⟨g, cap, rfl, hob, hg, hh, hcs⟩ := g2.holds (by omega)
    have hgr := g3 g hob
    have hgw : g ≠ w4.heap.size := fun e => by
      obtain ⟨cs, h⟩ := hcs
      rw [e, hd] at h
      cases h
    have c1 : X5.cell? ⟨r0, 0, none⟩ = some (.slice (some ⟨g, 0, none⟩) hs.length cap) := by rw [cell_of_cells g1]; rfl
    have HRV := prev_c g 0 cap hs.toArray X5 hh (by simp; have := HD2.out; omega)
    rw [show hs.toArray.size = hs.length by simp] at HRV
    have HRV := Lib.hid HRV
    have HHO := Lib.hid hh
    have HG1 := Lib.hid g1
    have HG4 := Lib.hid g4
    have HG5 := Lib.hid g5
    have HQ0 := Lib.hid q0
    have HGR := Lib.hid hgr
    have HGG : Hid (w4.heap.size ≤ g ∧ g ≠ w4.heap.size) := ⟨hg, hgw⟩
    have HCS := Lib.hid hcs
    have HS := Lib.hid hS
    have HDD := Lib.hid hd
    have HLT2 : Hid (b < w4.heap.size ∧ r0 < w4.heap.size ∧ w.heap.size ≤ w4.heap.size) := ⟨by omega, by omega, by omega⟩
    clear q0 g1 g2 g3 g4 g5 hob hg hh hcs hgr hgw hS hd hz4 hlt
    go_wp2_with fail
    refine HRV.out.mono ?_
    rintro e X6 ⟨rfl, nn, hX6⟩
    have hk6 : Keep (fun i => i = g) X5 X6 := by rw [hX6]; exact keep_putRow16 _ _ _ _
    have hh6 : Holds encHd X6 g 0 hs.toArray.reverse := by rw [hX6]; exact holds_putRow encHd _ g 0 hs.toArray _ (holds_ahead encHd X5 nn g 0 _ HHO.out) (by simp)
    have g6 : X6.heap[r0]? = some (.cells #[.slice (some ⟨g, 0, none⟩) hs.length cap] 49 (0, 0)) := hk6.heap HG1.out (by have := HGR.out.1; omega)
    have c6 : X6.cell? ⟨r0, 0, none⟩ = some (.slice (some ⟨g, 0, none⟩) hs.length cap) := by rw [cell_of_cells g6]; rfl
    have hd6 : X6.heap[w4.heap.size]? = some (.deferred (some [])) := hk6.heap HDD.out (by have := HGG.out.2; omega)
    obtain ⟨Y, hY⟩ : ∃ Y, Y = X6.putObj w4.heap.size (.deferred none) := ⟨_, rfl⟩
    have hkY : Keep (fun i => i = w4.heap.size) X6 Y := by rw [hY]; exact keep_putObj _ _ _ rfl
    have HKF : Hid (Keep (fun i => i = b) w Y) := by
      have k1 : Keep (fun i => i = b) w X5 := HKW4.out.step HQ0.out fun i hi => hi.elim .inl fun h => .inr (by have := HLT.out; omega)
      have k2 : Keep (fun i => i = b) w X6 := k1.step hk6 fun i hi => .inr (by have := HGG.out; have := HLT2.out; have e : i = g := hi; omega)
      exact k2.step hkY fun i hi => .inr (by have := HLT2.out; have e : i = w4.heap.size := hi; omega)
    have HSY : Hid (Hs Y b n (m2 + (List.range (D + 1)).length)) := (HS.out.keep hk6 (by have := HGG.out; have := HLT2.out; show ¬ b = g; omega)).keep hkY (by have := HLT2.out; show ¬ b = w4.heap.size; omega)
    have HPS : Hid (PS Y (some ⟨g, 0, none⟩) xs) := fun i l hi => by
      have hxl := HXS.out.1
      have hil : i < D + 1 := by have := (List.getElem?_eq_some_iff.1 hi).1; omega
      obtain ⟨j, hj⟩ : ∃ j, j = D - i := ⟨_, rfl⟩
      have hij : D - j = i := by omega
      have h1 := HXS.out.2 j (by omega)
      rw [hij, hi] at h1
      obtain rfl : l = pF j := by simpa using h1
      obtain ⟨A', c', e, he⟩ := HG5.out j j (List.getElem?_range (by omega))
      have hh := (hh6 i (by simp [HG4.out]; omega)).1
      have hrev : hs.toArray.reverse[i]! = (A', (pF j).length, c') := by
        have h2 : hs.toArray.reverse[i]? = some (A', (pF j).length, c') := by
          rw [List.reverse_toArray, List.getElem?_toArray, List.getElem?_reverse (by rw [HG4.out]; omega), HG4.out, show D + 1 - 1 - i = j by omega]
          exact e
        rw [getElem!_def, h2]
      rw [hrev, Nat.zero_add] at hh
      refine ⟨g, 0, _, rfl, ?_, A', c', rfl, ?_, he.c⟩
      · rw [Nat.zero_add]
        exact hkY.cellAt hh (show ¬ g = _ from HGG.out.2)
      · refine (he.a.keepB hk6 fun a ha e2 => ?_).keepB hkY fun a ha e2 => ?_
        · obtain ⟨_, _, cs, f3⟩ := he.f a ha
          obtain ⟨cs2, f4⟩ := HCS.out
          have e2 : a.block = g := e2
          rw [e2, f4] at f3
          cases f3
        · obtain ⟨_, _, cs, f3⟩ := he.f a ha
          have e2 : a.block = w4.heap.size := e2
          rw [e2, HDD.out] at f3
          cases f3
    have HD6 := Lib.hid hd6
    have HY := Lib.hid hY
    have hln : hs.length = xs.length := by rw [HG4.out, HXS.out.1]
    have HLN := Lib.hid hln
    clear hX6 hk6 hh6 g6 hd6 hkY hY hln c1 HRV
    go_wp2_with fail
    refine ⟨by simp, .inl ⟨_, _, rfl, run_takeDeferred HD6.out, ?_⟩⟩
    rw [← HY.out]
    exact ⟨_, results_tmp2 rfl _ _ _, some ⟨g, 0, none⟩, cap, _, by rw [← HLN.out]; rfl, HPS.out, by have := HM2.out; have := HD2.out; rw [List.length_range]; omega, HSY.out, HKF.out⟩
end Go.Proofs.YtnmbbfndboohjaaDoor

/- The program's Steps, Preimages where the proof is not well-formed; Root (scratch form of stage 16). -/
namespace Go.Proofs.YtnmbbfndboohjaaDoor
open Go.RowKit

set_option maxHeartbeats 16000000 in
set_option maxRecDepth 100000 in
theorem psteps_bad (w : World) (b : Nat) (n : Int) (m : Nat) (p : Pf) (A : Option Addr) (c : Nat) (k : List UInt8) (hH : Hs w b n m) (hp : p.Ok) (hA : DS w A p.sib) (hc : p.sib.length ≤ c) (hl : p.sib.length ≤ 1000000) (h0 : chkP p ≠ 0) :
    Calls Tryd.prog 15 #[ptr b, .agg (pfC p (.slice A p.sib.length c)), .agg (bA k)] w fun e w' => ∃ A' c' m', e = .returned (.tuple #[.slice A' 0 c', .int .i64 (chkP p)]) ∧ m' ≤ m + 1000 ∧ Hs w' b n m' ∧ Keep (fun i => i = b) w w' := by
  obtain ⟨w1, hw1⟩ : ∃ w1, w1 = (w.alloc (.cells (pfC p (.slice A p.sib.length c)) 29)).alloc (.cells (bA k) 23) := ⟨_, rfl⟩
  have hB1 : Below w.heap.size w w1 := by rw [hw1]; exact ((Below.refl _ _).alloc (Nat.le_refl _) _).alloc (by simp) _
  have hP1 : PfAt w1 w.heap.size p (.slice A p.sib.length c) := by rw [hw1]; exact (Below.heap_alloc _ _ _ (by simp)).trans (heap_alloc_new _ _)
  have ld := hP1.ld hp
  rw [hw1] at ld
  have HEX := Lib.hid (pexp_bad w1 b n m p A c (hH.keep (Keep.of_below (L := fun _ => False) hB1) id) hp (hA.below hB1) hc hl h0)
  obtain ⟨z, hz⟩ : ∃ z, z = chkP p := ⟨_, rfl⟩
  rw [← hz] at HEX h0 ⊢
  have zb : (z != 0) = true := by simpa using h0
  have HW1 := Lib.hid hw1
  have HB1 := Lib.hid hB1
  clear hw1 hB1 hP1 hz h0 hH hp hA hc hl
  go_enter Tryd.func15, Tryd.ntmps15
  go_wp2_with fail
  rw [← HW1.out]
  refine HEX.out.mono ?_
  rintro _ w2 ⟨AX, cX, m2, rfl, hm2, hH2, hk2⟩
  have HM2 := Lib.hid hm2
  have HH2 := Lib.hid hH2
  have HK2 : Hid (Keep (fun i => i = b) w w2) := (Keep.of_below HB1.out).trans hk2
  clear hm2 hH2 hk2 ld HEX
  go_wp2_with fail
  go_ret2
  exact ⟨none, 0, m2, rfl, HM2.out, HH2.out, HK2.out⟩
set_option maxHeartbeats 16000000 in
set_option maxRecDepth 100000 in
theorem ppre_bad (w : World) (b : Nat) (n : Int) (m : Nat) (p : Pf) (A : Option Addr) (c : Nat) (k : List UInt8) (hH : Hs w b n m) (hp : p.Ok) (hA : DS w A p.sib) (hc : p.sib.length ≤ c) (hl : p.sib.length ≤ 1000000) (h0 : chkP p ≠ 0) :
    Calls Tryd.prog 20 #[ptr b, .agg (pfC p (.slice A p.sib.length c)), .agg (bA k)] w fun e w' => ∃ A' c' m', e = .returned (.tuple #[.slice A' 0 c', .int .i64 (chkP p)]) ∧ m' ≤ m + 1000 ∧ Hs w' b n m' ∧ Keep (fun i => i = b) w w' := by
  obtain ⟨w1, hw1⟩ : ∃ w1, w1 = (w.alloc (.cells (pfC p (.slice A p.sib.length c)) 29)).alloc (.cells (bA k) 23) := ⟨_, rfl⟩
  have hB1 : Below w.heap.size w w1 := by rw [hw1]; exact ((Below.refl _ _).alloc (Nat.le_refl _) _).alloc (by simp) _
  have hP1 : PfAt w1 w.heap.size p (.slice A p.sib.length c) := by rw [hw1]; exact (Below.heap_alloc _ _ _ (by simp)).trans (heap_alloc_new _ _)
  have ld := hP1.ld hp
  rw [hw1] at ld
  have HEX := Lib.hid (pexp_bad w1 b n m p A c (hH.keep (Keep.of_below (L := fun _ => False) hB1) id) hp (hA.below hB1) hc hl h0)
  obtain ⟨z, hz⟩ : ∃ z, z = chkP p := ⟨_, rfl⟩
  rw [← hz] at HEX h0 ⊢
  have zb : (z != 0) = true := by simpa using h0
  have HW1 := Lib.hid hw1
  have HB1 := Lib.hid hB1
  clear hw1 hB1 hP1 hz h0 hH hp hA hc hl
  go_enter Tryd.func20, Tryd.ntmps20
  go_wp2_with fail
  rw [← HW1.out]
  refine HEX.out.mono ?_
  rintro _ w2 ⟨AX, cX, m2, rfl, hm2, hH2, hk2⟩
  have HM2 := Lib.hid hm2
  have HH2 := Lib.hid hH2
  have HK2 : Hid (Keep (fun i => i = b) w w2) := (Keep.of_below HB1.out).trans hk2
  clear hm2 hH2 hk2 ld HEX
  go_wp2_with fail
  go_ret2
  exact ⟨none, 0, m2, rfl, HM2.out, HH2.out, HK2.out⟩
set_option maxHeartbeats 16000000 in
set_option maxRecDepth 100000 in
theorem proot_ok (w : World) (b : Nat) (n : Int) (m : Nat) (p : Pf) (A : Option Addr) (c : Nat) (k : List UInt8) (hH : Hs w b n m) (hm : m ≤ 500000) (hv : Vars w) (hp : p.Ok) (hA : DS w A p.sib) (hc : p.sib.length ≤ c) (hl : p.sib.length ≤ 1000000) (hk : k.length = 32) (h0 : chkP p = 0) :
    Calls Tryd.prog 16 #[ptr b, .agg (pfC p (.slice A p.sib.length c)), .agg (bA k)] w fun e w' => ∃ m', e = .returned (.tuple #[.agg (bA (rootP n p k)), .int .i64 0]) ∧ m' ≤ m + (p.dep.toNat + 2) ∧ Hs w' b n m' ∧ Keep (fun i => i = b) w w' := by
  obtain ⟨w1, hw1⟩ : ∃ w1, w1 = ((w.alloc (.cells (pfC p (.slice A p.sib.length c)) 29)).alloc (.cells (bA k) 23)).alloc (.cells (bA z26) 24) := ⟨_, rfl⟩
  have hB1 : Below w.heap.size w w1 := by rw [hw1]; exact (((Below.refl _ _).alloc (Nat.le_refl _) _).alloc (by simp) _).alloc (by simp only [World.size_alloc]; omega) _
  have hP1 : PfAt w1 w.heap.size p (.slice A p.sib.length c) := by rw [hw1]; exact (Below.heap_alloc _ _ _ (by simp only [World.size_alloc]; omega)).trans ((Below.heap_alloc _ _ _ (by simp)).trans (heap_alloc_new _ _))
  have hK1 : w1.heap[w.heap.size + 1]? = some (.cells (bA k) 23 (0, 0)) := by rw [hw1]; exact (Below.heap_alloc _ _ _ (by simp)).trans (heap_alloc2_new w _ _)
  have hR1 : w1.heap[w.heap.size + 2]? = some (.cells (bA z26) 24 (0, 0)) := by
    rw [hw1, ← show ((w.alloc (.cells (pfC p (.slice A p.sib.length c)) 29)).alloc (.cells (bA k) 23)).heap.size = w.heap.size + 2 by simp]
    exact heap_alloc_new _ _
  have ld := hP1.ld hp
  have lk : ldA 23 w1 (.pointer (some ⟨w.heap.size + 1, 0, none⟩)) = .ok (.value (.agg (bA k))) w1 := ldA_row hK1 Tryd.underlying23 (by rw [bA_size, hk]; exact infoKey)
  rw [hw1] at ld lk
  have HEX := Lib.hid (psteps_ok w1 b n m p A c k (hH.keep (Keep.of_below (L := fun _ => False) hB1) id) hm (hv.below hB1) hp (hA.below hB1) hc hl hk h0)
  have HSL : Hid (∀ s ∈ stepL n p k, s.length = 32) := stpB_mem _ _ _ _ _ _
  have HLS : Hid ((stepL n p k)[p.dep.toNat]? = some (rootP n p k)) := stepL_last n p k
  have HRL : Hid ((rootP n p k).length = 32) := dig_len _ _
  obtain ⟨D, hD⟩ : ∃ D, D = p.dep.toNat := ⟨_, rfl⟩
  have hln : (stepL n p k).length = D + 1 := by rw [hD]; exact stepL_len
  obtain ⟨rt, hrt⟩ : ∃ rt, rt = rootP n p k := ⟨_, rfl⟩
  obtain ⟨S, hS⟩ : ∃ S, S = stepL n p k := ⟨_, rfl⟩
  rw [← hD] at HLS HEX ⊢
  rw [← hrt] at HLS HRL ⊢
  rw [← hS] at HLS HSL HEX hln
  have HW1 := Lib.hid hw1
  have HB1 := Lib.hid hB1
  have HR1 := Lib.hid hR1
  have HLN := Lib.hid hln
  have HBW : Hid (b < w.heap.size) := lt_of_heap hH
  have HD2 : Hid (D ≤ 256) := by have := (chk_kind h0).1.2.1; show D ≤ 256; omega
  clear hw1 hB1 hP1 hK1 hR1 h0 hH hp hA hc hl hv hk hm hln hrt hS hD
  go_enter Tryd.func16, Tryd.ntmps16
  go_wp2_with fail
  rw [← HW1.out]
  refine HEX.out.mono ?_
  rintro _ w2 ⟨AX, cX, m2, rfl, hN2, hm2, hH2, hk2⟩
  have HM2 := Lib.hid hm2
  have HH2 := Lib.hid hH2
  have HK2 : Hid (Keep (fun i => i = b) w w2) := (Keep.of_below HB1.out).trans hk2
  have HR2 : Hid (w2.heap[w.heap.size + 2]? = some (.cells (bA z26) 24 (0, 0))) := hk2.heap HR1.out (by have := HBW.out; show ¬ _ = b; omega)
  obtain ⟨_, g, o, rfl, h3⟩ := (hN2.ds HSL.out) D rt HLS.out
  have lx : ldA 24 w2 (.pointer (some ⟨g, o + D * 32, none⟩)) = .ok (.value (.agg (bA rt))) w2 := ldDig h3 HRL.out
  rw [HLN.out]
  have hd2 := HD2.out
  have st1 : stA 24 w2 (.pointer (some ⟨w.heap.size + 2, 0, none⟩)) (.agg (bA rt)) = .ok .skip (w2.setRow (w.heap.size + 2) (bA rt)) := stA_row HR2.out (by rw [bA_size, HRL.out]; exact info26) (by rw [bA_size, bA_size, HRL.out]; rfl) (bA_one _)
  have HM3 := Lib.hid (setRow_heap w2 (w.heap.size + 2) _ (bA rt) _ _ HR2.out)
  have HF : Hid (Hs (w2.setRow (w.heap.size + 2) (bA rt)) b n m2) := HH2.out.keep (Keep.row w2 (w.heap.size + 2) _) (by have := HBW.out; show ¬ b = _; omega)
  have HKf : Hid (Keep (fun i => i = b) w (w2.setRow (w.heap.size + 2) (bA rt))) := HK2.out.step (Keep.row w2 (w.heap.size + 2) _) fun i hi => .inr (by have e : i = w.heap.size + 2 := hi; omega)
  clear hm2 hH2 hk2 hN2 h3 ld lk HEX
  go_wp2_with fail
  refine bodyPost_ret ?_ rfl ⟨m2, rfl, HM2.out, HF.out, HKf.out⟩
  exact results_row_tmp Tryd.results16 _ _ (w.heap.size + 2) _ _ rfl rfl (run_loadVar_row (P := Tryd.prog) _ _ 24 24 (bA rt) (0, 0) _ HM3.out Tryd.underlying24 rfl (by rw [bA_size, HRL.out]; exact info26))
set_option maxHeartbeats 16000000 in
set_option maxRecDepth 100000 in
theorem proot_bad (w : World) (b : Nat) (n : Int) (m : Nat) (p : Pf) (A : Option Addr) (c : Nat) (k : List UInt8) (hH : Hs w b n m) (hp : p.Ok) (hA : DS w A p.sib) (hc : p.sib.length ≤ c) (hl : p.sib.length ≤ 1000000) (hk : k.length = 32) (h0 : chkP p ≠ 0) :
    Calls Tryd.prog 16 #[ptr b, .agg (pfC p (.slice A p.sib.length c)), .agg (bA k)] w fun e w' => ∃ m', e = .returned (.tuple #[.agg (bA z26), .int .i64 (chkP p)]) ∧ m' ≤ m + 1000 ∧ Hs w' b n m' ∧ Keep (fun i => i = b) w w' := by
  obtain ⟨w1, hw1⟩ : ∃ w1, w1 = ((w.alloc (.cells (pfC p (.slice A p.sib.length c)) 29)).alloc (.cells (bA k) 23)).alloc (.cells (bA z26) 24) := ⟨_, rfl⟩
  have hB1 : Below w.heap.size w w1 := by rw [hw1]; exact (((Below.refl _ _).alloc (Nat.le_refl _) _).alloc (by simp) _).alloc (by simp only [World.size_alloc]; omega) _
  have hP1 : PfAt w1 w.heap.size p (.slice A p.sib.length c) := by rw [hw1]; exact (Below.heap_alloc _ _ _ (by simp only [World.size_alloc]; omega)).trans ((Below.heap_alloc _ _ _ (by simp)).trans (heap_alloc_new _ _))
  have hK1 : w1.heap[w.heap.size + 1]? = some (.cells (bA k) 23 (0, 0)) := by rw [hw1]; exact (Below.heap_alloc _ _ _ (by simp)).trans (heap_alloc2_new w _ _)
  have hR1 : w1.heap[w.heap.size + 2]? = some (.cells (bA z26) 24 (0, 0)) := by
    rw [hw1, ← show ((w.alloc (.cells (pfC p (.slice A p.sib.length c)) 29)).alloc (.cells (bA k) 23)).heap.size = w.heap.size + 2 by simp]
    exact heap_alloc_new _ _
  have ld := hP1.ld hp
  have lk : ldA 23 w1 (.pointer (some ⟨w.heap.size + 1, 0, none⟩)) = .ok (.value (.agg (bA k))) w1 := ldA_row hK1 Tryd.underlying23 (by rw [bA_size, hk]; exact infoKey)
  rw [hw1] at ld lk
  have HEX := Lib.hid (psteps_bad w1 b n m p A c k (hH.keep (Keep.of_below (L := fun _ => False) hB1) id) hp (hA.below hB1) hc hl h0)
  obtain ⟨z, hz⟩ : ∃ z, z = chkP p := ⟨_, rfl⟩
  rw [← hz] at HEX h0 ⊢
  have bz : ∀ W : World, bldA 24 W #[] = .ok (.value (.agg (bA z26))) W := fun _ => by kernel_rfl
  have zb : (z != 0) = true := by simpa using h0
  have HW1 := Lib.hid hw1
  have HB1 := Lib.hid hB1
  have HR1 := Lib.hid hR1
  have HBW : Hid (b < w.heap.size) := lt_of_heap hH
  clear hw1 hB1 hP1 hK1 hR1 h0 hz hH hp hA hc hl hk
  go_enter Tryd.func16, Tryd.ntmps16
  go_wp2_with fail
  rw [← HW1.out]
  refine HEX.out.mono ?_
  rintro _ w2 ⟨AX, cX, m2, rfl, hm2, hH2, hk2⟩
  have HM2 := Lib.hid hm2
  have HH2 := Lib.hid hH2
  have HK2 : Hid (Keep (fun i => i = b) w w2) := (Keep.of_below HB1.out).trans hk2
  have HR2 : Hid (w2.heap[w.heap.size + 2]? = some (.cells (bA z26) 24 (0, 0))) := hk2.heap HR1.out (by have := HBW.out; show ¬ _ = b; omega)
  have st1 : stA 24 w2 (.pointer (some ⟨w.heap.size + 2, 0, none⟩)) (.agg (bA z26)) = .ok .skip (w2.setRow (w.heap.size + 2) (bA z26)) := stA_row HR2.out (by exact info26) rfl (bA_one _)
  have HM3 := Lib.hid (setRow_heap w2 (w.heap.size + 2) _ (bA z26) _ _ HR2.out)
  have HF : Hid (Hs (w2.setRow (w.heap.size + 2) (bA z26)) b n m2) := HH2.out.keep (Keep.row w2 (w.heap.size + 2) _) (by have := HBW.out; show ¬ b = _; omega)
  have HKf : Hid (Keep (fun i => i = b) w (w2.setRow (w.heap.size + 2) (bA z26))) := HK2.out.step (Keep.row w2 (w.heap.size + 2) _) fun i hi => .inr (by have e : i = w.heap.size + 2 := hi; omega)
  clear hm2 hH2 hk2 ld lk HEX
  go_wp2_with fail
  refine bodyPost_ret ?_ rfl ⟨m2, rfl, HM2.out, HF.out, HKf.out⟩
  exact results_row_tmp Tryd.results16 _ _ (w.heap.size + 2) _ _ rfl rfl (run_loadVar_row (P := Tryd.prog) _ _ 24 24 (bA z26) (0, 0) _ HM3.out Tryd.underlying24 rfl (by exact info26))
end Go.Proofs.YtnmbbfndboohjaaDoor

/- The program keeps the contract of layer 16 (scratch form of stage 16). -/
namespace Go.Proofs.YtnmbbfndboohjaaDoor
open Go.RowKit

theorem fo_c : FoV where
  endd := fun w b n m p _ _ hH hm hv hp _ _ hk => pEnd_c w b n m p _ hH hm hv hp hk
  steps := psteps_ok
  stepsBad := fun w b n m p A c k hH _ _ hp hA hc hl _ h0 => psteps_bad w b n m p A c k hH hp hA hc hl h0
  root := proot_ok
  rootBad := fun w b n m p A c k hH _ _ hp hA hc hl hk h0 => proot_bad w b n m p A c k hH hp hA hc hl hk h0
  pre := ppre_ok
  preBad := fun w b n m p A c k hH _ _ hp hA hc hl _ h0 => ppre_bad w b n m p A c k hH hp hA hc hl h0
end Go.Proofs.YtnmbbfndboohjaaDoor
