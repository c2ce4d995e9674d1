import Derived.BigQuiet
import Derived.Test.YtjgdindjimbfeaaGreatDoorAD
import Derived.Test.YtjgdindjimbfeaaGreatDoorM3
namespace Go.Proofs.YtjgdindjimbfeaaGreatDoor
set_option linter.unusedSimpArgs false
set_option linter.unusedVariables false
set_option maxHeartbeats 8000000
set_option maxRecDepth 100000
open Go.RowKit
theorem sup_leaf {p : Pf} (_hp : p.Ok) {k v : List UInt8} (hk : k.length = 32) : p.lf = k ++ v ↔ p.lf.take 32 = k ∧ p.lf.drop 32 = v := by
 constructor
 ·intro h
  rw [h]
  exact ⟨by rw [List.take_append_of_le_length (by omega), List.take_of_length_le (by omega)], by rw [List.drop_append, List.drop_of_length_le (by omega), hk, List.nil_append, Nat.sub_self, List.drop_zero]⟩
 ·rintro ⟨h1, h2⟩
  rw [← h1, ← h2, List.take_append_drop]
theorem psup_yes (w : World) (p : Pf) (s : Value) (k v : List UInt8) (hp : p.Ok) (hk : k.length = 32) (hv : v.length = 32) :
  Calls Tryz.prog 108 #[.agg (pfC p s), .agg (bA k), .agg (bA v), .bool true] w fun e w' => e = .returned (.bool (supYes p k v)) ∧ Below w.heap.size w w' := by
 obtain ⟨X, hX⟩ : ∃ X, X = ((w.alloc (.cells (pfC p s) 53)).alloc (.cells (bA k) 48)).alloc (.cells (bA v) 47) := ⟨_, rfl⟩
 have hB : Below w.heap.size w X := by rw [hX]; exact three_below _ _ _ _
 have hP : PfAt X w.heap.size p s := by
  rw [hX]
  exact ((PfAt.one w p s).below (Bt.one_below _ _) (by simp)).below (Bt.one_below _ _) (by simp; omega)
 have hK : X.heap[w.heap.size + 1]? = some (.cells (bA k) 48 (0, 0)) := by
  rw [hX, Below.heap_alloc _ _ _ (by simp)]
  exact heap_alloc2_new w _ _
 have hV : X.heap[w.heap.size + 1 + 1]? = some (.cells (bA v) 47 (0, 0)) := by
  have := heap_alloc_new ((w.alloc (.cells (pfC p s) 53)).alloc (.cells (bA k) 48)) (.cells (bA v) 47)
  rw [hX]
  simpa using this
 have l0 := hP.kind
 have ll := hP.leaf hp
 have l2 : ldA 48 X (.pointer (some ⟨w.heap.size + 1, 0, none⟩)) = .ok (.value (.agg (bA k))) X := RowB.ldKey hK hk
 have l3 : ldA 47 X (.pointer (some ⟨w.heap.size + 1 + 1, 0, none⟩)) = .ok (.value (.agg (bA v))) X := RowB.ldDig hV hv
 have bl := fun w => bldLeaf k v hk hv w
 have el := fun x y w => eqLeaf p.lf (k ++ v) hp.lf (by rw [List.length_append, hk, hv]) x y w
 have HB := Lib.hid hB
 obtain ⟨z, hz⟩ : ∃ z, z = decide (p.lf = k ++ v) := ⟨_, rfl⟩
 simp only [← hz] at el
 have HS : Hid (supYes p k v = (decide (p.kind = 1) && z)) := by
  show _ = _
  rw [hz]
  unfold supYes
  by_cases h1 : p.kind = 1
  ·by_cases h2 : p.lf = k ++ v
   ·rw [decide_eq_true h1, decide_eq_true h2]; exact decide_eq_true ⟨h1, (sup_leaf hp hk).1 h2⟩
   ·rw [decide_eq_true h1, decide_eq_false h2]; exact decide_eq_false fun h => h2 ((sup_leaf hp hk).2 h.2)
  ·rw [decide_eq_false h1, Bool.false_and]; exact decide_eq_false fun h => h1 h.1
 obtain ⟨kl, hkl⟩ : ∃ kl, kl = k ++ v := ⟨_, rfl⟩
 rw [← hkl] at bl el
 clear hB hP hK hV hp hz hkl
 subst hX
 by_cases h1 : p.kind = 1
 ·have b1 : (p.kind == 1) = true := by simpa using h1
  have HE : Hid (supYes p k v = z) := by show _ = _; rw [HS.out, decide_eq_true h1, Bool.true_and]
  clear h1 HS
  go_enter Tryz.func108, Tryz.ntmps108
  go_wp2
  go_ret
  exact ⟨ret_b15 HE.out.symm, HB.out⟩
 ·have b1 : (p.kind == 1) = false := by simpa using h1
  have HE : Hid (supYes p k v = false) := by show _ = _; rw [HS.out, decide_eq_false h1, Bool.false_and]
  clear h1 HS
  go_enter Tryz.func108, Tryz.ntmps108
  go_wp2
  go_ret
  exact ⟨ret_b15 HE.out.symm, HB.out⟩
theorem psup_no (w : World) (p : Pf) (s : Value) (k v : List UInt8) (hp : p.Ok) (hk : k.length = 32) (_hv : v.length = 32) :
  Calls Tryz.prog 108 #[.agg (pfC p s), .agg (bA k), .agg (bA v), .bool false] w fun e w' => e = .returned (.bool (supNo p k)) ∧ Below w.heap.size w w' := by
 obtain ⟨X, hX⟩ : ∃ X, X = ((w.alloc (.cells (pfC p s) 53)).alloc (.cells (bA k) 48)).alloc (.cells (bA v) 47) := ⟨_, rfl⟩
 have hB : Below w.heap.size w X := by rw [hX]; exact three_below _ _ _ _
 have hP : PfAt X w.heap.size p s := by
  rw [hX]
  exact ((PfAt.one w p s).below (Bt.one_below _ _) (by simp)).below (Bt.one_below _ _) (by simp; omega)
 have hK : X.heap[w.heap.size + 1]? = some (.cells (bA k) 48 (0, 0)) := by
  rw [hX, Below.heap_alloc _ _ _ (by simp)]
  exact heap_alloc2_new w _ _
 obtain ⟨q, hq⟩ : ∃ q, q = p.lf.take 32 := ⟨_, rfl⟩
 have hql : q.length = 32 := by rw [hq, List.length_take, hp.lf]; rfl
 have l0 := fun x : Later X => (hP.below x.h hP.lt).kind
 have k0 := hP.kind
 have l1 := fun x : Later X => (hP.below x.h hP.lt).dep
 have lk := fun x : Later X => (hP.below x.h hP.lt).lkey hp
 rw [← hq] at lk
 have l2 := fun x : Later X => show ldA 48 x.w (.pointer (some ⟨w.heap.size + 1, 0, none⟩)) = .ok (.value (.agg (bA k))) x.w from RowB.ldKey (x.block hK) hk
 have ek := fun x y w => neKey q k hql hk x y w
 have HB := Lib.hid hB
 rw [hX] at k0
 have HX := Lib.hid hX
 have HSUP : Hid (supNo p k = decide (p.kind = 0 ∨ (p.kind = 1 ∧ q ≠ k ∧ p.dep ≤ comK q k))) := by show _ = _; rw [hq]; rfl
 have HCC : Hid (∀ w, Calls Tryz.prog 139 #[.agg (bA q), .agg (bA k)] w fun e w' => e = .returned (.int .i64 (comK q k)) ∧ Below w.heap.size w w') := fun w => by
  have := Bt.common_c (keyF q) (keyF k) (keyF_byt q) (keyF_byt k) w
  rwa [← bA_key q hql, ← bA_key k hk] at this
 obtain ⟨m, hm⟩ : ∃ m, m = comK q k := ⟨_, rfl⟩
 rw [← hm] at HSUP HCC
 clear hB hX hP hK hp hm hq
 by_cases h1 : p.kind = 1
 ·have b1 : (p.kind == 1) = true := by simpa using h1
  have b0 : (p.kind == 0) = false := by rw [h1]; rfl
  by_cases h2 : q = k
  ·have b2 : decide (q = k) = true := decide_eq_true h2
   have HE : Hid (supNo p k = false) := by show _ = _; rw [HSUP.out]; exact decide_eq_false fun h => h.elim (fun h => by omega) fun h => h.2.1 h2
   clear h1 h2 HSUP
   go_enter Tryz.func108, Tryz.ntmps108
   go_wp2_with fail
   rw [← HX.out]
   refine wp_region_later (by kernel_rfl) (by kernel_rfl) ?_
   repeat (go_big_quiet_step ((go_at_call 139; exact Later.call (HCC.out _))))
   refine wpQuiet_nil ?_
   rintro _ ⟨x, rfl⟩
   have HB2 := Lib.hid (HB.out.trans (x.h.mono HB.out.size))
   clear l0 l1 lk l2 ek k0
   go_wp2
   go_ret
   exact ⟨ret_b15 HE.out.symm, HB2.out⟩
  ·have b2 : decide (q = k) = false := decide_eq_false h2
   obtain ⟨z, hz⟩ : ∃ z, z = decide (p.dep ≤ (m : Int)) := ⟨_, rfl⟩
   have HE : Hid (supNo p k = z) := by
    show _ = _
    rw [HSUP.out, hz]
    by_cases h3 : p.dep ≤ (m : Int)
    ·rw [decide_eq_true h3]; exact decide_eq_true (.inr ⟨h1, h2, h3⟩)
    ·rw [decide_eq_false h3]; exact decide_eq_false fun h => h.elim (fun h => by omega) fun h => h3 h.2.2
   have b3 : decide (p.dep ≤ (m : Int)) = z := hz.symm
   clear h1 h2 HSUP hz
   go_enter Tryz.func108, Tryz.ntmps108
   go_wp2_with fail
   rw [← HX.out]
   refine wp_region_later (by kernel_rfl) (by kernel_rfl) ?_
   repeat (go_big_quiet_step ((go_at_call 139; exact Later.call (HCC.out _))))
   refine wpQuiet_nil ?_
   rintro _ ⟨x, rfl⟩
   have HB2 := Lib.hid (HB.out.trans (x.h.mono HB.out.size))
   clear l0 l1 lk l2 ek k0
   go_wp2
   go_ret
   exact ⟨ret_b15 HE.out.symm, HB2.out⟩
 ·have b1 : (p.kind == 1) = false := by simpa using h1
  by_cases h0 : p.kind = 0
  ·have b0 : (p.kind == 0) = true := by simpa using h0
   have HE : Hid (supNo p k = true) := by show _ = _; rw [HSUP.out]; exact decide_eq_true (.inl h0)
   clear h0 h1 HSUP l0 l1 lk l2 ek
   go_enter Tryz.func108, Tryz.ntmps108
   go_wp2
   rw [← HX.out]
   go_ret
   exact ⟨ret_b15 HE.out.symm, HB.out⟩
  ·have b0 : (p.kind == 0) = false := by simpa using h0
   have HE : Hid (supNo p k = false) := by show _ = _; rw [HSUP.out]; exact decide_eq_false fun h => h.elim h0 fun h => h1 h.1
   clear h0 h1 HSUP l0 l1 lk l2 ek
   go_enter Tryz.func108, Tryz.ntmps108
   go_wp2
   rw [← HX.out]
   go_ret
   exact ⟨ret_b15 HE.out.symm, HB.out⟩
theorem psup_c (w : World) (p : Pf) (A : Option Addr) (c : Nat) (k v : List UInt8) (q : Bool) (hp : p.Ok) (hk : k.length = 32) (hv : v.length = 32) :
  Calls Tryz.prog 108 #[.agg (pfC p (.slice A p.sib.length c)), .agg (bA k), .agg (bA v), .bool q] w fun e w' => e = .returned (.bool (supP p k v q)) ∧ Below w.heap.size w w' := by
 cases q with
 | true => rw [supP_yes]; exact psup_yes w p _ k v hp hk hv
 | false => rw [supP_no]; exact psup_no w p _ k v hp hk hv
end Go.Proofs.YtjgdindjimbfeaaGreatDoor
