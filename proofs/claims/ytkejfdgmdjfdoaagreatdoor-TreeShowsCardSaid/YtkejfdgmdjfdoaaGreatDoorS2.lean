import Derived.Test.YtkejfdgmdjfdoaaGreatDoorT1
import Derived.Test.YtkejfdgmdjfdoaaGreatDoorFT
import Derived.Test.YtkejfdgmdjfdoaaGreatDoorSl
import Derived.Test.YtkejfdgmdjfdoaaGreatDoorMQ
import Derived.Test.YtkejfdgmdjfdoaaGreatDoorMX
import Derived.Test.YtkejfdgmdjfdoaaGreatDoorML
import Derived.Test.YtkejfdgmdjfdoaaGreatDoorG5
import Derived.Test.YtkejfdgmdjfdoaaGreatDoorG6
import Derived.Test.YtkejfdgmdjfdoaaGreatDoorMF
import Derived.Test.YtkejfdgmdjfdoaaGreatDoorJ1
import Derived.Test.YtkejfdgmdjfdoaaGreatDoorS1
namespace Go.Proofs.YtkejfdgmdjfdoaaGreatDoor
set_option linter.unusedSimpArgs false
set_option linter.unusedVariables false
set_option maxHeartbeats 8000000
set_option maxRecDepth 100000
section
open Go.RowKit
theorem kc_kz : Bt.kc Bt.kz = bA z26 := rfl
theorem pof_yes (A : Option Addr) (c : Nat) (l : List UInt8) (w : World) (hA : BA w A l) (hl : l.length = 32) :
  Calls Tryz.prog 95 #[.slice A l.length c] w fun e w' => e = .returned (.tuple #[.agg (bA l), .int .i64 0]) ∧ Below w.heap.size w w' := by
 have := Bt.of_yes A c l w hA hl
 rwa [kc_kof hl] at this
theorem pof_no (A : Option Addr) (n c : Nat) (w : World) (hn : n ≠ 32) :
  Calls Tryz.prog 95 #[.slice A n c] w fun e w' => e = .returned (.tuple #[.agg (bA z26), .int .i64 2]) ∧ Below w.heap.size w w' := by
 have := Bt.of_no A n c w hn
 rwa [kc_kz] at this
def keyR (k v : List UInt8) : List UInt8 := if rightK k v = 0 then k else z26
theorem keyR_len (k v : List UInt8) : (keyR k v).length = 32 := by
 unfold keyR
 split
 ·rename_i h
  exact (rightK_zero h).1
 ·simp [z26]
theorem varKey {w : World} {g : Nat} {t : TypeId} {fr : Nat × Nat} {l : List UInt8} (h : w.heap[g]? = some (.cells (bA l) t fr)) (hl : l.length = 32) : (loadVar 40 ⟨g, 0, none⟩).run Tryz.prog w = .ok (.agg (bA l)) w :=
 run_loadVar_row (P := Tryz.prog) w g t 40 (bA l) fr _ h Tryz.underlying40 rfl (by rw [bA_size, hl]; exact infoKey)
theorem bldK0 (w : World) : bldA 40 w #[] = .ok (.value (.agg (bA z26))) w := by kernel_rfl
theorem stKey13 (w : World) {k : List UInt8} (hk : k.length = 32) : stA 40 (w.alloc (.cells (Bt.kc Bt.kz) 40)) (.pointer (some ⟨w.heap.size, 0, none⟩)) (.agg (bA k)) = .ok .skip (w.alloc (.cells (bA k) 40)) :=
 stA_new (t := 40) w (Bt.kc Bt.kz) (bA k) (by rw [bA_size, hk]; exact infoKey) (by rw [bA_size, Bt.kc_size, hk]) (bA_one _)
theorem ldKey13 {w : World} {g : Nat} {t : TypeId} {fr : Nat × Nat} {k : List UInt8} (h : w.heap[g]? = some (.cells (bA k) t fr)) (hk : k.length = 32) : ldA 40 w (.pointer (some ⟨g, 0, none⟩)) = .ok (.value (.agg (bA k))) w :=
 ldA_row h Tryz.underlying40 (by rw [bA_size, hk]; exact infoKey)
theorem stKey13_old {w : World} {g : Nat} {z : Array Value} {t : TypeId} {k : List UInt8} (h : w.heap[g]? = some (.cells z t (0, 0))) (hz : z.size = 32) (hk : k.length = 32) : stA 40 w (.pointer (some ⟨g, 0, none⟩)) (.agg (bA k)) = .ok .skip (w.setRow g (bA k)) :=
 stA_row h (by rw [bA_size, hk]; exact infoKey) (by rw [bA_size, hk, hz]) (bA_one _)
theorem below_row13 {B g : Nat} {a w : World} (h : Below B a w) (hg : B ≤ g) (c : Array Value) : Below B a (w.setRow g c) :=
 ⟨h.os, h.tape, h.output, by rw [setRow_size]; exact h.size, fun i hi => by rw [setRow_other _ _ _ _ (by omega)]; exact h.block i hi⟩
theorem check_size {w w1 : World} {o : Obj} (hB : Below (w.alloc o).heap.size (w.alloc o) w1) : ¬ w1.heap.size = w.heap.size := by
 have h1 := hB.size
 have h2 : (w.alloc o).heap.size = w.heap.size + 1 := by simp
 omega
theorem check_facts {w w1 : World} {q : List UInt8} (hB : Below (w.alloc (.cells (Bt.kc Bt.kz) 40)).heap.size (w.alloc (.cells (Bt.kc Bt.kz) 40)) w1) {X : World} (hX : X = w1.alloc (.cells (bA q) 40)) :
  X.heap[w1.heap.size]? = some (.cells (bA q) 40 (0, 0)) ∧ X.heap[w.heap.size]? = some (.cells (Bt.kc Bt.kz) 40 (0, 0)) ∧ Below w.heap.size w X := by
 have hb0 : Below w.heap.size w (w.alloc (.cells (Bt.kc Bt.kz) 40)) := (Below.refl _ _).alloc (Nat.le_refl _) _
 have hb1 : Below w1.heap.size w1 X := by rw [hX]; exact (Below.refl _ _).alloc (Nat.le_refl _) _
 have h0 : (w.alloc (.cells (Bt.kc Bt.kz) 40)).heap[w.heap.size]? = some (.cells (Bt.kc Bt.kz) 40 (0, 0)) := heap_alloc_new w _
 have h1 : w1.heap[w.heap.size]? = some (.cells (Bt.kc Bt.kz) 40 (0, 0)) := (hB.block _ (lt_of_heap h0)).trans h0
 exact ⟨by rw [hX]; exact heap_alloc_new w1 _, (hb1.block _ (lt_of_heap h1)).trans h1, (hb0.trans (hB.mono hb0.size)).trans (hb1.mono (Nat.le_trans hb0.size hB.size))⟩
theorem tcheck_c (A B : Option Addr) (cA cB : Nat) (k v : List UInt8) (w : World) (hA : BA w A k) :
  Calls Tryz.prog 65 #[.slice A k.length cA, .slice B v.length cB] w fun e w' => e = .returned (.tuple #[.agg (bA (keyR k v)), .int .i64 (rightK k v)]) ∧ Below w.heap.size w w' := by
 by_cases hk : k.length = 32
 ·have HQ : Hid (k.length = 32) := hk
  have HOF : Hid (∀ y, Below w.heap.size w y → Calls Tryz.prog 95 #[.slice A k.length cA] y fun e w' => e = .returned (.tuple #[.agg (bA k), .int .i64 0]) ∧ Below y.heap.size y w') := fun y hy => pof_yes A cA k y (hA.below hy) hk
  have HW : Hid (Below w.heap.size w (w.alloc (.cells (Bt.kc Bt.kz) 40))) := (Below.refl _ _).alloc (Nat.le_refl _) _
  have b0 := bldK0
  by_cases hv : 65535 < v.length
  ·have HR : Hid (rightK k v = 3) := by show _ = _; unfold rightK; rw [if_pos hk, if_pos hv]
   have HK : Hid (keyR k v = z26) := by show _ = _; unfold keyR; rw [HR.out]; rfl
   have d2 : decide (65535 < (v.length : Int)) = true := decide_eq_true (by omega)
   have d3 : decide (65535 < v.length) = true := decide_eq_true hv
   clear hA hk hv
   go_enter Tryz.func65, Tryz.ntmps65
   go_wp2_with (go_at_call 95; refine (HOF.out _ HW.out).mono ?_; rintro _ w1 ⟨rfl, hB⟩; obtain ⟨X, hX⟩ : ∃ X, X = w1.alloc (.cells (bA k) 40) := ⟨_, rfl⟩; have hst := stKey13 w1 HQ.out; rw [← hX] at hst; obtain ⟨f1, f2, f3⟩ := check_facts hB hX; have HX := Lib.hid hX; have F1 := Lib.hid f1; have F2 := Lib.hid f2; have F3 := Lib.hid f3; have lk := ldKey13 f1 HQ.out; have hs2 := stKey13_old (k := z26) f2 (Bt.kc_size _) (by simp [z26]); clear hX hB f1 f2 f3)
   refine bodyPost_ret (v := .tuple #[.agg (bA z26), .int .i64 3]) ?_ rfl ⟨by rw [HK.out, HR.out], below_row13 F3.out (Nat.le_refl _) _⟩
   exact results_row_tmp rfl _ _ w.heap.size _ _ rfl rfl (varKey (setRow_heap _ _ _ _ _ _ F2.out) (by simp [z26]))
  ·have HR : Hid (rightK k v = 0) := by show _ = _; unfold rightK; rw [if_pos hk, if_neg hv]
   have HK : Hid (keyR k v = k) := by show _ = _; unfold keyR; rw [if_pos HR.out]
   have d2 : decide (65535 < (v.length : Int)) = false := decide_eq_false (by omega)
   have d3 : decide (65535 < v.length) = false := decide_eq_false hv
   clear hA hk hv
   go_enter Tryz.func65, Tryz.ntmps65
   go_wp2_with (go_at_call 95; refine (HOF.out _ HW.out).mono ?_; rintro _ w1 ⟨rfl, hB⟩; obtain ⟨X, hX⟩ : ∃ X, X = w1.alloc (.cells (bA k) 40) := ⟨_, rfl⟩; have hst := stKey13 w1 HQ.out; rw [← hX] at hst; obtain ⟨f1, f2, f3⟩ := check_facts hB hX; have HX := Lib.hid hX; have F1 := Lib.hid f1; have F2 := Lib.hid f2; have F3 := Lib.hid f3; have lk := ldKey13 f1 HQ.out; have hs2 := stKey13_old (k := k) f2 (Bt.kc_size _) HQ.out; clear hX hB f1 f2 f3)
   refine bodyPost_ret (v := .tuple #[.agg (bA k), .int .i64 0]) ?_ rfl ⟨by rw [HK.out, HR.out], below_row13 F3.out (Nat.le_refl _) _⟩
   exact results_row_tmp rfl _ _ w.heap.size _ _ rfl rfl (varKey (setRow_heap _ _ _ _ _ _ F2.out) HQ.out)
 ·have HQ : Hid (z26.length = 32) := by show _ = _; simp [z26]
  have HOF : Hid (∀ y, Below w.heap.size w y → Calls Tryz.prog 95 #[.slice A k.length cA] y fun e w' => e = .returned (.tuple #[.agg (bA z26), .int .i64 2]) ∧ Below y.heap.size y w') := fun y _ => pof_no A k.length cA y hk
  have HW : Hid (Below w.heap.size w (w.alloc (.cells (Bt.kc Bt.kz) 40))) := (Below.refl _ _).alloc (Nat.le_refl _) _
  have HR : Hid (rightK k v = 2) := by show _ = _; unfold rightK; rw [if_neg hk]
  have HK : Hid (keyR k v = z26) := by show _ = _; unfold keyR; rw [HR.out]; rfl
  clear hA hk
  go_enter Tryz.func65, Tryz.ntmps65
  go_wp2_with (go_at_call 95; refine (HOF.out _ HW.out).mono ?_; rintro _ w1 ⟨rfl, hB⟩; obtain ⟨X, hX⟩ : ∃ X, X = w1.alloc (.cells (bA z26) 40) := ⟨_, rfl⟩; have hst := stKey13 w1 HQ.out; rw [← hX] at hst; obtain ⟨f1, f2, f3⟩ := check_facts hB hX; have HX := Lib.hid hX; have F1 := Lib.hid f1; have F2 := Lib.hid f2; have F3 := Lib.hid f3; have lk := ldKey13 f1 HQ.out; have hs2 := stKey13_old (k := z26) f2 (Bt.kc_size _) HQ.out; clear hX hB f1 f2 f3)
  refine bodyPost_ret (v := .tuple #[.agg (bA z26), .int .i64 2]) ?_ rfl ⟨by rw [HK.out, HR.out], below_row13 F3.out (Nat.le_refl _) _⟩
  exact results_row_tmp rfl _ _ w.heap.size _ _ rfl rfl (varKey (setRow_heap _ _ _ _ _ _ F2.out) HQ.out)
def Un.vA (x : Un) : Option Addr := if x.d then none else x.B
def Un.vE (x : Un) : Nat := if x.d then 0 else x.e
theorem Un.val_ok {w : World} {x : Un} (h : UnOk w x) : BA w x.vA x.up.val ∧ x.up.val.length ≤ x.vE := by
 unfold Un.vA Un.vE Up.val Un.up
 cases x.d
 ·exact ⟨h.val, h.vc⟩
 ·exact ⟨BA_nil _ _, Nat.le_refl _⟩
theorem valueOf_c (x : Un) (w : World) : Calls Tryz.prog 80 #[.agg (unC x).toArray] w fun e w' => e = .returned (.slice x.vA x.up.val.length x.vE) ∧ Below w.heap.size w w' := by
 obtain ⟨A, k, c, B, v, e, d⟩ := x
 cases d
 all_goals
  unfold unC
  go_enter Tryz.func80, Tryz.ntmps80
  go_wp2_with fail
  go_ret
  exact ⟨rfl, (Below.refl _ _).alloc (Nat.le_refl _) _⟩
theorem wrap_ok (op : ByteArray) (i : Int) (w : World) : Calls Tryz.prog 52 #[.string op, .int .i64 i, .int .i64 0] w fun e w' => e = .returned .nilIface ∧ Below w.heap.size w w' := by
 have HE : Hid (Calls Tryz.prog 78 #[.iface 24 (.int .i64 0), .iface 24 (.int .i64 0)] w fun e w' => e = .returned (.bool true) ∧ Below w.heap.size w w') := Ft.errIs_c [] 0 0 _ w rfl
 go_enter Tryz.func52, Tryz.ntmps52
 go_wp2_with (go_at_call 78; refine HE.out.mono ?_; rintro _ w1 ⟨rfl, hB⟩; have HB := Lib.hid hB; clear hB)
 go_ret
 exact ⟨rfl, HB.out⟩
theorem wrap_no (op : ByteArray) (i code : Int) (hc : code ≠ 0) (w : World) : Calls Tryz.prog 52 #[.string op, .int .i64 i, .int .i64 code] w fun e w' => ∃ b, e = .returned (.iface 142 (.pointer (some ⟨b, 0, none⟩))) ∧ Wrong w' op i code (.iface 142 (.pointer (some ⟨b, 0, none⟩))) ∧ Below w.heap.size w w' := by
 have HE : Hid (Calls Tryz.prog 78 #[.iface 24 (.int .i64 code), .iface 24 (.int .i64 0)] w fun e w' => e = .returned (.bool false) ∧ Below w.heap.size w w') := by
  have := Ft.errIs_c [] code 0 (.iface 24 (.int .i64 code)) w rfl
  rwa [show (code == 0) = false from beq_eq_false_iff_ne.2 hc] at this
 clear hc
 go_enter Tryz.func52, Tryz.ntmps52
 go_wp2_with (first | (go_at_call 78; refine HE.out.mono ?_; rintro _ w1 ⟨rfl, hB⟩; have HB := Lib.hid hB; clear hB) | (go_at_call 79; refine (Ft.new_c op i 24 (.int .i64 code) _).mono ?_; rintro _ w2 ⟨rfl, hw2⟩; have HW2 := Lib.hid hw2; clear hw2))
 go_ret
 refine ⟨_, rfl, ⟨w1.heap.size, rfl, _, ?_, rfl⟩, ?_⟩
 ·rw [HW2.out]
  exact heap_alloc_new w1 _
 ·rw [HW2.out]
  exact HB.out.alloc HB.out.size _
end
section
open Go.RowKit
theorem NodeAt.ctl {L : Nat → Prop} {w w' : World} {g : Nat} {d : List UInt8} {t : TypeId} {v : Value} (h : NodeAt w g d (.iface t v)) (hd : d.length = 32) (k : Keep L w w') (hL : ∀ i, L i → Ctl w i) : NodeAt w' g d (.iface t v) :=
 k.heap h fun hl => by rcases (hL _ hl).cell (h.cell hd) with ⟨z, e⟩ | ⟨q, e⟩ <;> cases e
theorem Mn.ctl {n : Int} {L : Nat → Prop} : ∀ {T : Tv} {w w' : World}, Mn w n T → Keep L w w' → (∀ i, L i → Ctl w i) → Mn w' n T
 | .nil, _, _, _, _, _ => trivial
 | .leaf _ _, _, _, ⟨g, A, c, hv, hg, he, hl⟩, k, hL => ⟨g, A, c, hv, hg.ctl (digT_len _ _) k hL, he.ctl k hL, hl⟩
 | .inner _ _ _, _, _, ⟨g, hv, hg, ha, hb⟩, k, hL => ⟨g, hv, hg.ctl (digT_len _ _) k hL, Mn.ctl ha k hL, Mn.ctl hb k hL⟩
def Tr13 (w : World) (p b : Nat) (_n : Int) (T : Tv) : Prop := w.heap[p]? = some (.cells #[ptr b, T.val] 73 (0, 0)) ∧ ∃ q, T.val = .pointer q
theorem Tr13.lt {w : World} {p b : Nat} {n : Int} {T : Tv} (h : Tr13 w p b n T) : p < w.heap.size := lt_of_heap h.1
theorem Tr13.keep {L : Nat → Prop} {w w' : World} {p b : Nat} {n : Int} {T : Tv} (h : Tr13 w p b n T) (k : Keep L w w') (hl : ¬ L p) : Tr13 w' p b n T := ⟨k.heap h.1 hl, h.2⟩
theorem Tr13.below {w w' : World} {p b : Nat} {n : Int} {T : Tv} (h : Tr13 w p b n T) (k : Below w.heap.size w w') : Tr13 w' p b n T := h.keep (Keep.of_below (L := fun _ => False) k) fun h => h
theorem Tr13.ne {w : World} {p b b' : Nat} {n k : Int} {T : Tv} {c : Nat} (h : Tr13 w p b n T) (hh : Hs w b' k c) : p ≠ b' := by
 rintro rfl
 have h1 := h.1
 rw [hh] at h1
 cases h1
theorem Tr13.ctl {w : World} {p b : Nat} {n : Int} {T : Tv} (h : Tr13 w p b n T) : Ctl w p := ctl_two h.1 (.inr ⟨_, rfl⟩) (.inr h.2)
theorem Tr13.cell0 {w : World} {p b : Nat} {n : Int} {T : Tv} (h : Tr13 w p b n T) : w.cell? ⟨p, 0, none⟩ = some (ptr b) := by rw [cell_of_cells h.1]; rfl
theorem Tr13.cell1 {w : World} {p b : Nat} {n : Int} {T : Tv} (h : Tr13 w p b n T) : w.cell? ⟨p, 1, none⟩ = some T.val := by rw [cell_of_cells h.1]; rfl
theorem Wrong.row {w : World} {op : ByteArray} {i code : Int} {v : Value} {g : Nat} {z : Array Value} {fr : Nat × Nat} (h : Wrong w op i code v) (hz : w.heap[g]? = some (.cells z 40 fr)) (cs : Array Value) : Wrong (w.setRow g cs) op i code v := by
 obtain ⟨b, rfl, v', hb, rfl⟩ := h
 refine ⟨b, rfl, _, ?_, rfl⟩
 rw [setRow_other _ _ _ _ (fun e => by rw [e] at hb; rw [hb] at hz; cases hz)]
 exact hb
theorem begin_ok (p : Nat) (op : ByteArray) (A B : Option Addr) (cA cB : Nat) (k v : List UInt8) (w : World) (hA : BA w A k) (hr : rightK k v = 0) :
  Calls Tryz.prog 42 #[ptr p, .string op, .slice A k.length cA, .slice B v.length cB] w fun e w' => e = .returned (.tuple #[.agg (bA k), .nilIface]) ∧ Below w.heap.size w w' := by
 have HA := Lib.hid hA
 have HW : Hid (Below w.heap.size w (w.alloc (.cells (Bt.kc Bt.kz) 40))) := (Below.refl _ _).alloc (Nat.le_refl _) _
 have hck : ∀ y, Below w.heap.size w y → Calls Tryz.prog 65 #[.slice A k.length cA, .slice B v.length cB] y fun e w' => e = .returned (.tuple #[.agg (bA (keyR k v)), .int .i64 (rightK k v)]) ∧ Below y.heap.size y w' := fun y hy => tcheck_c A B cA cB k v y (HA.out.below hy)
 rw [hr] at hck
 have hk0 : keyR k v = k := by unfold keyR; rw [if_pos hr]
 obtain ⟨q, hq⟩ : ∃ q, q = keyR k v := ⟨_, rfl⟩
 have e9 : bA k = bA q := by rw [hq, hk0]
 rw [e9]
 clear e9 hk0 hr
 have HQ : Hid (q.length = 32) := by show _ = _; rw [hq]; exact keyR_len k v
 rw [← hq] at hck
 have HCK := Lib.hid hck
 clear hA hck hq
 go_enter Tryz.func42, Tryz.ntmps42
 go_wp2_with (go_at_call 65; refine (HCK.out _ HW.out).mono ?_; rintro _ w1 ⟨rfl, hB⟩; obtain ⟨X, hX⟩ : ∃ X, X = w1.alloc (.cells (bA q) 40) := ⟨_, rfl⟩; have hst := stKey13 w1 HQ.out; rw [← hX] at hst; obtain ⟨f1, f2, f3⟩ := check_facts hB hX; have HX := Lib.hid hX; have F1 := Lib.hid f1; have F2 := Lib.hid f2; have F3 := Lib.hid f3; have hn1 := check_size hB; have LK : Hid (∀ v, Keep (fun i => i = w.heap.size) X v → ldA 40 v (.pointer (some ⟨w1.heap.size, 0, none⟩)) = .ok (.value (.agg (bA q))) v) := fun v hv => ldKey13 (hv.heap F1.out hn1) HQ.out; clear hX hB f1 f2 f3 hn1)
 refine wp_region_held_drew (S := fun w' => Keep (fun i => i = w.heap.size) X w') (by kernel_rfl) ((Keep.refl _ _).drew) (fun hHeld => ?_)
 have hb0 : Keep (fun i => i = w.heap.size) X X.drew := (Keep.refl _ _).drew
 refine x_t (i := 0) (oi := { dst := some 23, op := .load _ (.tmp 10), .. }) (v := ?_) rfl (Or.inl ⟨by rfl, ?_⟩) ?_
 rotate_left 1
 ·intro v hSv
  have hv1 := LK.out v hSv
  clear hSv
  go_simp
  try with_reducible rfl
 try simp only [Act.put, x_A, x_0, x_1]
 refine x_t (i := 1) (oi := { dst := some 24, op := .move (.tmp 1), .. }) (v := ?_) rfl (Or.inl ⟨by rfl, ?_⟩) ?_
 rotate_left 1
 ·intro v hSv
  clear hSv
  go_simp
  try with_reducible rfl
 try simp only [Act.put, x_A, x_0, x_1]
 refine x_t (i := 2) (oi := { dst := some 25, op := .move (.tmp 11), .. }) (v := ?_) rfl (Or.inl ⟨by rfl, ?_⟩) ?_
 rotate_left 1
 ·intro v hSv
  clear hSv
  go_simp
  try with_reducible rfl
 try simp only [Act.put, x_A, x_0, x_1]
 refine wpAnyH_ready (rs := [3]) (by kernel_rfl) (by simp) ?_
 refine AllReadyH.cons (o := { dst := some 26, op := .call _, .. }) rfl (fun K hK => ?_) AllReadyH.nil
 go_simp
 refine (wrap_ok op 0 X.drew).mono ?_
 rintro e y1 ⟨rfl, hb⟩
 have hb1 : Keep (fun i => i = w.heap.size) X y1 := (hb0).trans (Keep.of_below hb)
 have HZW := Lib.hid ((hb.block _ (lt_of_heap F2.out)).trans F2.out)
 clear hb
 go_wp2_with fail
 refine hK.out _ _ (hb1) (fun hHeld => ?_)
 clear hK K
 try simp only [Act.put, x_A, x_0, x_1]
 refine wpAnyH_ready (rs := [4]) (by kernel_rfl) (by simp) ?_
 refine AllReadyH.cons (o := { dst := none, op := .store _ (.tmp 8) (.tmp 23), .. }) rfl (fun K hK => ?_) AllReadyH.nil
 have HZr := HZW
 have st1 := stKey13_old (k := q) HZr.out (Bt.kc_size _) HQ.out
 have HM := Lib.hid (setRow_heap y1 w.heap.size _ (bA q) _ _ HZr.out)
 go_simp
 refine hK.out _ _ ((hb1).trans (Keep.row y1 w.heap.size _)) (fun hHeld => ?_)
 clear hK K
 try simp only [Act.put, x_A, x_0, x_1]
 refine x_t (i := 5) (oi := { dst := some 9, op := .assign (.tmp 26), .. }) (v := ?_) rfl (Or.inl ⟨by rfl, ?_⟩) ?_
 rotate_left 1
 ·intro v hSv
  clear hSv
  go_simp
  try with_reducible rfl
 try simp only [Act.put, x_A, x_0, x_1]
 refine wpAnyH_done (by kernel_rfl) ?_ _
 go_wp2_with fail
 refine bodyPost_ret (v := .tuple #[.agg (bA q), .nilIface]) ?_ rfl ⟨rfl, F3.out.trans ((((hb1).trans (Keep.row y1 w.heap.size _))).below F3.out.size fun i hi => by omega)⟩
 exact results_row_tmp rfl _ _ w.heap.size _ _ rfl rfl (varKey HM.out HQ.out)
theorem begin_no (p : Nat) (op : ByteArray) (A B : Option Addr) (cA cB : Nat) (k v : List UInt8) (w : World) (hA : BA w A k) (hr : rightK k v ≠ 0) :
  Calls Tryz.prog 42 #[ptr p, .string op, .slice A k.length cA, .slice B v.length cB] w fun e w' => ∃ b, e = .returned (.tuple #[.agg (bA (keyR k v)), .iface 142 (.pointer (some ⟨b, 0, none⟩))]) ∧ Wrong w' op 0 (rightK k v) (.iface 142 (.pointer (some ⟨b, 0, none⟩))) ∧ Below w.heap.size w w' := by
 have HA := Lib.hid hA
 have HW : Hid (Below w.heap.size w (w.alloc (.cells (Bt.kc Bt.kz) 40))) := (Below.refl _ _).alloc (Nat.le_refl _) _
 have hck : ∀ y, Below w.heap.size w y → Calls Tryz.prog 65 #[.slice A k.length cA, .slice B v.length cB] y fun e w' => e = .returned (.tuple #[.agg (bA (keyR k v)), .int .i64 (rightK k v)]) ∧ Below y.heap.size y w' := fun y hy => tcheck_c A B cA cB k v y (HA.out.below hy)
 obtain ⟨E, hE⟩ : ∃ E, E = rightK k v := ⟨_, rfl⟩
 rw [← hE] at hck hr ⊢
 have HE : Hid (E ≠ 0) := hr
 obtain ⟨q, hq⟩ : ∃ q, q = keyR k v := ⟨_, rfl⟩
 rw [← hq]
 clear hE hr
 have HQ : Hid (q.length = 32) := by show _ = _; rw [hq]; exact keyR_len k v
 rw [← hq] at hck
 have HCK := Lib.hid hck
 clear hA hck hq
 go_enter Tryz.func42, Tryz.ntmps42
 go_wp2_with (go_at_call 65; refine (HCK.out _ HW.out).mono ?_; rintro _ w1 ⟨rfl, hB⟩; obtain ⟨X, hX⟩ : ∃ X, X = w1.alloc (.cells (bA q) 40) := ⟨_, rfl⟩; have hst := stKey13 w1 HQ.out; rw [← hX] at hst; obtain ⟨f1, f2, f3⟩ := check_facts hB hX; have HX := Lib.hid hX; have F1 := Lib.hid f1; have F2 := Lib.hid f2; have F3 := Lib.hid f3; have hn1 := check_size hB; have LK : Hid (∀ v, Keep (fun i => i = w.heap.size) X v → ldA 40 v (.pointer (some ⟨w1.heap.size, 0, none⟩)) = .ok (.value (.agg (bA q))) v) := fun v hv => ldKey13 (hv.heap F1.out hn1) HQ.out; clear hX hB f1 f2 f3 hn1)
 refine wp_region_held_drew (S := fun w' => Keep (fun i => i = w.heap.size) X w') (by kernel_rfl) ((Keep.refl _ _).drew) (fun hHeld => ?_)
 have hb0 : Keep (fun i => i = w.heap.size) X X.drew := (Keep.refl _ _).drew
 refine x_t (i := 0) (oi := { dst := some 23, op := .load _ (.tmp 10), .. }) (v := ?_) rfl (Or.inl ⟨by rfl, ?_⟩) ?_
 rotate_left 1
 ·intro v hSv
  have hv1 := LK.out v hSv
  clear hSv
  go_simp
  try with_reducible rfl
 try simp only [Act.put, x_A, x_0, x_1]
 refine x_t (i := 1) (oi := { dst := some 24, op := .move (.tmp 1), .. }) (v := ?_) rfl (Or.inl ⟨by rfl, ?_⟩) ?_
 rotate_left 1
 ·intro v hSv
  clear hSv
  go_simp
  try with_reducible rfl
 try simp only [Act.put, x_A, x_0, x_1]
 refine x_t (i := 2) (oi := { dst := some 25, op := .move (.tmp 11), .. }) (v := ?_) rfl (Or.inl ⟨by rfl, ?_⟩) ?_
 rotate_left 1
 ·intro v hSv
  clear hSv
  go_simp
  try with_reducible rfl
 try simp only [Act.put, x_A, x_0, x_1]
 refine wpAnyH_ready (rs := [3]) (by kernel_rfl) (by simp) ?_
 refine AllReadyH.cons (o := { dst := some 26, op := .call _, .. }) rfl (fun K hK => ?_) AllReadyH.nil
 go_simp
 refine (wrap_no op 0 E HE.out X.drew).mono ?_
 rintro e y1 ⟨b9, rfl, hWG, hb⟩
 have hb1 : Keep (fun i => i = w.heap.size) X y1 := (hb0).trans (Keep.of_below hb)
 have HZW := Lib.hid ((hb.block _ (lt_of_heap F2.out)).trans F2.out)
 have HWG := Lib.hid hWG
 clear hWG
 clear hb
 go_wp2_with fail
 refine hK.out _ _ (hb1) (fun hHeld => ?_)
 clear hK K
 try simp only [Act.put, x_A, x_0, x_1]
 refine wpAnyH_ready (rs := [4]) (by kernel_rfl) (by simp) ?_
 refine AllReadyH.cons (o := { dst := none, op := .store _ (.tmp 8) (.tmp 23), .. }) rfl (fun K hK => ?_) AllReadyH.nil
 have HZr := HZW
 have st1 := stKey13_old (k := q) HZr.out (Bt.kc_size _) HQ.out
 have HM := Lib.hid (setRow_heap y1 w.heap.size _ (bA q) _ _ HZr.out)
 go_simp
 refine hK.out _ _ ((hb1).trans (Keep.row y1 w.heap.size _)) (fun hHeld => ?_)
 clear hK K
 try simp only [Act.put, x_A, x_0, x_1]
 refine x_t (i := 5) (oi := { dst := some 9, op := .assign (.tmp 26), .. }) (v := ?_) rfl (Or.inl ⟨by rfl, ?_⟩) ?_
 rotate_left 1
 ·intro v hSv
  clear hSv
  go_simp
  try with_reducible rfl
 try simp only [Act.put, x_A, x_0, x_1]
 refine wpAnyH_done (by kernel_rfl) ?_ _
 go_wp2_with fail
 refine bodyPost_ret (v := .tuple #[.agg (bA q), .iface 142 (.pointer (some ⟨b9, 0, none⟩))]) ?_ rfl ⟨b9, rfl, HWG.out.row HZW.out _, F3.out.trans ((((hb1).trans (Keep.row y1 w.heap.size _))).below F3.out.size fun i hi => by omega)⟩
 exact results_row_tmp rfl _ _ w.heap.size _ _ rfl rfl (varKey HM.out HQ.out)
theorem begin_nil (op : ByteArray) (A B : Option Addr) (nA nB cA cB : Nat) (w : World) :
  Calls Tryz.prog 42 #[.pointer none, .string op, .slice A nA cA, .slice B nB cB] w fun e w' => ∃ b, e = .returned (.tuple #[.agg (bA z26), .iface 142 (.pointer (some ⟨b, 0, none⟩))]) ∧ Wrong w' op 0 1 (.iface 142 (.pointer (some ⟨b, 0, none⟩))) ∧ Below w.heap.size w w' := by
 have b0 := bldK0
 obtain ⟨X, hX⟩ : ∃ X, X = w.alloc (.cells (Bt.kc Bt.kz) 40) := ⟨_, rfl⟩
 have hb0 : Below w.heap.size w X := by rw [hX]; exact (Below.refl _ _).alloc (Nat.le_refl _) _
 have hz0 : X.heap[w.heap.size]? = some (.cells (Bt.kc Bt.kz) 40 (0, 0)) := by rw [hX]; exact heap_alloc_new w _
 have HX := Lib.hid hX
 have HB0 := Lib.hid hb0
 have HZ0 := Lib.hid hz0
 have HWR : Hid (Calls Tryz.prog 52 #[.string op, .int .i64 0, .int .i64 1] X fun e w' => ∃ b, e = .returned (.iface 142 (.pointer (some ⟨b, 0, none⟩))) ∧ Wrong w' op 0 1 (.iface 142 (.pointer (some ⟨b, 0, none⟩))) ∧ Below X.heap.size X w') := wrap_no op 0 1 (by decide) X
 clear hX hb0 hz0
 go_enter Tryz.func42, Tryz.ntmps42
 go_wp2_with fail
 rw [← HX.out]
 refine HWR.out.mono ?_
 rintro _ w1 ⟨b, rfl, hWG, hB⟩
 have hz1 := (hB.block _ (lt_of_heap HZ0.out)).trans HZ0.out
 have st1 := stKey13_old (k := z26) hz1 (Bt.kc_size _) (by simp [z26])
 have HM := Lib.hid (setRow_heap w1 w.heap.size _ (bA z26) _ _ hz1)
 have HF := Lib.hid (hWG.row hz1 (bA z26))
 have HB1 := Lib.hid (HB0.out.trans (hB.mono HB0.out.size))
 clear hWG hB hz1
 go_wp2_with fail
 refine bodyPost_ret (v := .tuple #[.agg (bA z26), .iface 142 (.pointer (some ⟨b, 0, none⟩))]) ?_ rfl ⟨b, rfl, HF.out, below_row13 HB1.out (Nat.le_refl _) _⟩
 exact results_row_tmp rfl _ _ w.heap.size _ _ rfl rfl (varKey HM.out (by simp [z26]))
end
section
open Go.RowKit
theorem tnew_c (n : Int) (w : World) (h0 : 0 ≤ n) (h1 : n ≤ 256) : Calls Tryz.prog 9 #[.int .i64 n] w fun e w' => ∃ p b, e = .returned (.tuple #[ptr p, .int .i64 0]) ∧ Tr13 w' p b n .nil ∧ Hs w' b n 0 ∧ w.heap.size ≤ p ∧ w.heap.size ≤ b ∧ Below w.heap.size w w' := by
 have HN := Lib.hid (new_c n w h0 h1)
 clear h0 h1
 go_enter Tryz.func9, Tryz.ntmps9
 go_wp2_with fail
 refine HN.out.mono ?_
 rintro _ w1 ⟨b, rfl, hb, hH, hB⟩
 have HB := Lib.hid hB
 have HH := Lib.hid hH
 have HBB := Lib.hid hb
 clear hb hH hB HN
 unfold ptr
 go_wp2_with fail
 go_ret2
 exact ⟨w1.heap.size, b, rfl, ⟨heap_alloc_new w1 _, none, rfl⟩, HH.out.keep (Keep.of_below (L := fun _ => False) ((Below.refl _ _).alloc (Nat.le_refl _) _)) (fun h => h), HB.out.size, HBB.out, HB.out.alloc HB.out.size _⟩
theorem tnew_no (n : Int) (w : World) (h : n < 0 ∨ 256 < n) : Calls Tryz.prog 9 #[.int .i64 n] w fun e w' => e = .returned (.tuple #[.pointer none, .int .i64 4]) ∧ Below w.heap.size w w' := by
 have HN := Lib.hid (out_c n w h)
 clear h
 go_enter Tryz.func9, Tryz.ntmps9
 go_wp2_with fail
 refine HN.out.mono ?_
 rintro _ w1 ⟨rfl, hB⟩
 have HB := Lib.hid hB
 clear hB HN
 go_wp2_with fail
 go_ret2
 exact ⟨rfl, HB.out⟩
theorem tnode_c (w : World) (p b : Nat) (n : Int) (T : Tv) (h : Tr13 w p b n T) : Calls Tryz.prog 27 #[ptr p] w fun e w' => e = .returned T.val ∧ w = w' := by
 have c1 := h.cell1
 obtain ⟨q, hq⟩ := h.2
 rw [hq] at c1 ⊢
 clear h hq
 unfold ptr
 go_enter Tryz.func27, Tryz.ntmps27
 go_wp2_with fail
 go_ret
 exact ⟨rfl, rfl⟩
theorem thasher_c (w : World) (p b : Nat) (n : Int) (T : Tv) (h : Tr13 w p b n T) : Calls Tryz.prog 24 #[ptr p] w fun e w' => e = .returned (ptr b) ∧ w = w' := by
 have c0 := h.cell0
 clear h
 unfold ptr at *
 go_enter Tryz.func24, Tryz.ntmps24
 go_wp2_with fail
 go_ret
 exact ⟨rfl, rfl⟩
theorem tnode_nil (w : World) : Calls Tryz.prog 27 #[.pointer none] w fun e w' => e = .returned (.pointer none) ∧ w = w' := by
 go_enter Tryz.func27, Tryz.ntmps27
 go_wp2_with fail
 go_ret
 exact ⟨rfl, rfl⟩
theorem thasher_nil (w : World) : Calls Tryz.prog 24 #[.pointer none] w fun e w' => e = .returned (.pointer none) ∧ w = w' := by
 go_enter Tryz.func24, Tryz.ntmps24
 go_wp2_with fail
 go_ret
 exact ⟨rfl, rfl⟩
theorem tlen_c (w : World) (p b : Nat) (n : Int) (l : List Ent) (T : Tv) (h : Tr13 w p b n T) (hM : Mn w n T) (hI : IsMap l T) (hl : l.length ≤ 500) : Calls Tryz.prog 17 #[ptr p] w fun e w' => e = .returned (.int .i64 (l.length : Int)) ∧ Below w.heap.size w w' := by
 have H1 := Lib.hid (tnode_c w p b n T h)
 have H2 := Lib.hid (nd_c.len w n T hM (by rw [hI.len]; omega))
 rw [hI.len] at H2
 obtain ⟨q, hq⟩ := h.2
 rw [hq] at H1 H2
 unfold ptr at *
 clear h hM hI hq hl
 go_enter Tryz.func17, Tryz.ntmps17
 go_wp2_with fail
 refine H1.out.mono ?_
 rintro _ _ ⟨rfl, rfl⟩
 go_wp2_with fail
 refine H2.out.mono ?_
 rintro _ w1 ⟨rfl, hB⟩
 have HB := Lib.hid hB
 clear hB H1 H2
 go_wp2_with fail
 go_ret
 exact ⟨rfl, HB.out⟩
theorem tentries_c (w : World) (p b : Nat) (n : Int) (l : List Ent) (T : Tv) (h : Tr13 w p b n T) (hM : Mn w n T) (hI : IsMap l T) (hA : Asc l) (hl : l.length ≤ 500) : Calls Tryz.prog 23 #[ptr p] w fun e w' => ∃ (A : Option Addr) (c : Nat) (es : List En), e = .returned (.slice A es.length c) ∧ EA w' A es ∧ es.map En.ent = l ∧ Below w.heap.size w w' ∧ ∀ e ∈ es, FreshV w.heap.size A w' e := by
 have H1 := Lib.hid (tnode_c w p b n T h)
 have H2 := Lib.hid (entries_cf nd_c w n T l hM hI hA (by omega))
 obtain ⟨q, hq⟩ := h.2
 rw [hq] at H1 H2
 unfold ptr at *
 clear h hM hI hq hl hA
 go_enter Tryz.func23, Tryz.ntmps23
 go_wp2_with fail
 refine H1.out.mono ?_
 rintro _ _ ⟨rfl, rfl⟩
 go_wp2_with fail
 refine H2.out.mono ?_
 rintro _ w1 ⟨A, c, es, rfl, hE, he, hB, _, hF⟩
 have HB := Lib.hid hB
 have HE := Lib.hid hE
 have HM := Lib.hid he
 have HF := Lib.hid hF
 clear hB hE he H1 H2 hF
 go_wp2_with fail
 go_ret
 exact ⟨A, c, es, rfl, HE.out, HM.out, HB.out, HF.out⟩
theorem troot_c (w : World) (p b : Nat) (n : Int) (c : Nat) (T : Tv) (h : Tr13 w p b n T) (hH : Hs w b n c) (hc : c ≤ 20000000) (hv : Vars w) (hM : Mn w n T) : Calls Tryz.prog 16 #[ptr p] w fun e w' => e = .returned (.agg (bA (digT n T.tr))) ∧ Idle w b n (c + 10) w' := by
 obtain ⟨X, hX⟩ : ∃ X, X = w.alloc (.cells (bA z26) 46) := ⟨_, rfl⟩
 have hb0 : Below w.heap.size w X := by rw [hX]; exact (Below.refl _ _).alloc (Nat.le_refl _) _
 have hz0 : X.heap[w.heap.size]? = some (.cells (bA z26) 46 (0, 0)) := by rw [hX]; exact heap_alloc_new w _
 have hTX := h.below hb0
 have hHX : Hs X b n c := hH.keep (Keep.of_below (L := fun _ => False) hb0) fun h => h
 have H1 := Lib.hid (thasher_c X p b n T hTX)
 have H2 := Lib.hid (tnode_c X p b n T hTX)
 have H3 := Lib.hid (digest_n X b n c T hHX (by omega) (hv.below hb0) (hM.below hb0))
 have HNE : Hid (w.heap.size ≠ b) := by have := lt_of_heap hH; show _ ≠ _; omega
 obtain ⟨g, hg⟩ : ∃ g, g = digT n T.tr := ⟨_, rfl⟩
 have HGL : Hid (g.length = 32) := by show _ = _; rw [hg]; exact digT_len _ _
 rw [← hg] at H3 ⊢
 obtain ⟨q, hq⟩ := h.2
 rw [hq] at H2 H3
 have HX := Lib.hid hX
 have HB0 := Lib.hid hb0
 have HZ0 := Lib.hid hz0
 have HC := Lib.hid hc
 unfold ptr at *
 clear h hM hq hc hH hv hX hb0 hz0 hTX hHX hg
 go_enter Tryz.func16, Tryz.ntmps16
 go_wp2_with fail
 rw [← HX.out]
 refine H1.out.mono ?_
 rintro _ _ ⟨rfl, rfl⟩
 go_wp2_with fail
 refine H2.out.mono ?_
 rintro _ _ ⟨rfl, rfl⟩
 go_wp2_with fail
 refine H3.out.mono ?_
 rintro _ w1 ⟨c', rfl, hc', _, hh, hk⟩
 have hz1 := hk.heap HZ0.out HNE.out
 have st := stA_row (t := 46) (v := bA g) hz1 (by rw [bA_size, HGL.out]; exact info26) (by rw [bA_size, bA_size, HGL.out]; rfl) (bA_one _)
 have HM := Lib.hid (setRow_heap w1 w.heap.size _ (bA g) 46 _ hz1)
 have HK : Hid (Keep (fun i => i = b) w (w1.setRow w.heap.size (bA g))) := ((Keep.of_below HB0.out).trans hk).newRow (Nat.le_refl _) _
 have HHF : Hid (Hs (w1.setRow w.heap.size (bA g)) b n c') := by
  show Hs _ _ _ _
  unfold Hs
  rw [setRow_other _ _ _ _ (Ne.symm HNE.out)]
  exact hh
 have HC2 := Lib.hid hc'
 clear hc' hh hk hz1 H1 H2 H3
 go_wp2_with fail
 refine bodyPost_ret (v := .agg (bA g)) ?_ rfl ⟨rfl, ⟨c', by have := HC2.out; omega, HHF.out⟩, HK.out⟩
 exact results_cell_row rfl _ _ w.heap.size 46 _ (0, 0) _ rfl HM.out Tryz.underlying46 rfl (by rw [bA_size, HGL.out]; exact info26)
theorem tclone_c (w : World) (p b : Nat) (n : Int) (T : Tv) (h : Tr13 w p b n T) : Calls Tryz.prog 18 #[ptr p] w fun e w' => ∃ q, e = .returned (ptr q) ∧ Tr13 w' q b n T ∧ w.heap.size ≤ q ∧ Below w.heap.size w w' := by
 obtain ⟨q, hq⟩ := h.2
 have L0 : Hid (∀ v, Below w.heap.size w v → v.cell? ⟨p, 0, none⟩ = some (.pointer (some ⟨b, 0, none⟩))) := fun v hv => (h.below hv).cell0
 have L1 : Hid (∀ v, Below w.heap.size w v → v.cell? ⟨p, 1, none⟩ = some (.pointer q)) := fun v hv => by rw [← hq]; exact (h.below hv).cell1
 have HQ := Lib.hid hq
 unfold ptr
 clear h hq
 go_enter Tryz.func18, Tryz.ntmps18
 go_wp2_with fail
 refine wp_region_held_drew (S := fun w' => Below w.heap.size w w') (by kernel_rfl) ((Below.refl _ _).drew) (fun hHeld => ?_)
 have hb0 : Below w.heap.size w w.drew := (Below.refl _ _).drew
 refine x_t (i := 0) (oi := { dst := some 5, op := .move (.tmp 0), .. }) (v := ?_) rfl (Or.inl ⟨by rfl, ?_⟩) ?_
 rotate_left 1
 ·intro v hSv
  clear hSv
  go_simp
  try with_reducible rfl
 try simp only [Act.put, x_A, x_0, x_1]
 refine x_t (i := 1) (oi := { dst := some 6, op := .nilCheck (.tmp 5), .. }) (v := ?_) rfl (Or.inl ⟨by rfl, ?_⟩) ?_
 rotate_left 1
 ·intro v hSv
  clear hSv
  go_simp
  try with_reducible rfl
 try simp only [Act.put, x_A, x_0, x_1]
 refine x_t (i := 2) (oi := { dst := some 7, op := .fieldAddr _ (.tmp 6) 0, .. }) (v := ?_) rfl (Or.inl ⟨by rfl, ?_⟩) ?_
 rotate_left 1
 ·intro v hSv
  clear hSv
  go_simp
  try with_reducible rfl
 try simp only [Act.put, x_A, x_0, x_1]
 refine x_t (i := 3) (oi := { dst := some 8, op := .load _ (.tmp 7), .. }) (v := ?_) rfl (Or.inl ⟨by rfl, ?_⟩) ?_
 rotate_left 1
 ·intro v hSv
  have hv1 := L0.out v hSv
  clear hSv
  go_simp
  try with_reducible rfl
 try simp only [Act.put, x_A, x_0, x_1]
 refine x_t (i := 4) (oi := { dst := some 9, op := .move (.tmp 0), .. }) (v := ?_) rfl (Or.inl ⟨by rfl, ?_⟩) ?_
 rotate_left 1
 ·intro v hSv
  clear hSv
  go_simp
  try with_reducible rfl
 try simp only [Act.put, x_A, x_0, x_1]
 refine x_t (i := 5) (oi := { dst := some 10, op := .nilCheck (.tmp 9), .. }) (v := ?_) rfl (Or.inl ⟨by rfl, ?_⟩) ?_
 rotate_left 1
 ·intro v hSv
  clear hSv
  go_simp
  try with_reducible rfl
 try simp only [Act.put, x_A, x_0, x_1]
 refine x_t (i := 6) (oi := { dst := some 11, op := .fieldAddr _ (.tmp 10) 1, .. }) (v := ?_) rfl (Or.inl ⟨by rfl, ?_⟩) ?_
 rotate_left 1
 ·intro v hSv
  clear hSv
  go_simp
  try with_reducible rfl
 try simp only [Act.put, x_A, x_0, x_1]
 refine x_t (i := 7) (oi := { dst := some 12, op := .load _ (.tmp 11), .. }) (v := ?_) rfl (Or.inl ⟨by rfl, ?_⟩) ?_
 rotate_left 1
 ·intro v hSv
  have hv1 := L1.out v hSv
  clear hSv
  go_simp
  try with_reducible rfl
 try simp only [Act.put, x_A, x_0, x_1]
 refine x_t (i := 8) (oi := { dst := some 13, op := .build _ #[(0, .tmp 8), (1, .tmp 12)], .. }) (v := ?_) rfl (Or.inl ⟨by rfl, ?_⟩) ?_
 rotate_left 1
 ·intro v hSv
  clear hSv
  go_simp
  try with_reducible rfl
 try simp only [Act.put, x_A, x_0, x_1]
 refine wpAnyH_ready (rs := [9]) (by kernel_rfl) (by simp) ?_
 refine AllReadyH.cons (o := { dst := some 14, op := .box _ (.tmp 13), .. }) rfl (fun K hK => ?_) AllReadyH.nil
 go_simp
 refine hK.out _ _ ((hb0).alloc (hb0).size _) (fun hHeld => ?_)
 clear hK K
 try simp only [Act.put, x_A, x_0, x_1]
 refine x_t (i := 10) (oi := { dst := some 2, op := .assign (.tmp 14), .. }) (v := ?_) rfl (Or.inl ⟨by rfl, ?_⟩) ?_
 rotate_left 1
 ·intro v hSv
  clear hSv
  go_simp
  try with_reducible rfl
 try simp only [Act.put, x_A, x_0, x_1]
 refine wpAnyH_done (by kernel_rfl) ?_ _
 go_wp2_with fail
 go_ret
 refine ⟨w.heap.size, rfl, ⟨?_, q, HQ.out⟩, Nat.le_refl _, ((hb0).alloc (hb0).size _)⟩
 rw [HQ.out]
 exact heap_alloc_new w.drew _
theorem tlen_nil (w : World) : Calls Tryz.prog 17 #[.pointer none] w fun e w' => e = .returned (.int .i64 0) ∧ Below w.heap.size w w' := by
 have H1 := Lib.hid (tnode_nil w)
 have H2 := Lib.hid (nd_c.len w 0 .nil trivial (by decide))
 go_enter Tryz.func17, Tryz.ntmps17
 go_wp2_with fail
 refine H1.out.mono ?_
 rintro _ _ ⟨rfl, rfl⟩
 go_wp2_with fail
 refine H2.out.mono ?_
 rintro _ w1 ⟨rfl, hB⟩
 have HB := Lib.hid hB
 clear hB H1 H2
 go_wp2_with fail
 go_ret
 exact ⟨rfl, HB.out⟩
theorem tclone_nil (w : World) : Calls Tryz.prog 18 #[.pointer none] w fun e w' => e = .returned (.pointer none) ∧ Below w.heap.size w w' := by
 go_enter Tryz.func18, Tryz.ntmps18
 go_wp2_with fail
 go_ret
 exact ⟨rfl, Below.refl _ _⟩
theorem tentries_nil (w : World) : Calls Tryz.prog 23 #[.pointer none] w fun e w' => ∃ (A : Option Addr) (c : Nat), e = .returned (.slice A 0 c) ∧ Below w.heap.size w w' := by
 have H1 := Lib.hid (tnode_nil w)
 have H2 := Lib.hid (entries_c nd_c w 0 .nil [] trivial map_none List.Pairwise.nil (by decide))
 go_enter Tryz.func23, Tryz.ntmps23
 go_wp2_with fail
 refine H1.out.mono ?_
 rintro _ _ ⟨rfl, rfl⟩
 go_wp2_with fail
 refine H2.out.mono ?_
 rintro _ w1 ⟨A, c, es, rfl, hE, he, hB⟩
 have HB := Lib.hid hB
 have hl : es.length = 0 := by have := congrArg List.length he; simpa using this
 rw [hl]
 clear hB hE he H1 H2 hl
 go_wp2_with fail
 go_ret
 exact ⟨A, c, rfl, HB.out⟩
end
section
open Go.RowKit
theorem done13 {w X y1 : World} {p b m : Nat} {n : Int} {l' : List Ent} {T T' : Tv} {q : Option Addr} (hb : Below w.heap.size w X) (hT : Tr13 w p b n T) (hne : p ≠ b) (hM : Made Mn X.drew b n T T' m y1) (hI : IsMap l' T') (hq : T'.val = .pointer q) : Done Mn Tr13 w p b n l' T T' m (y1.setCell ⟨p, 1, none⟩ (.pointer q)) := by
 have hTX : Tr13 X.drew p b n T := hT.below (w' := X) hb
 have hT1 : Tr13 y1 p b n T := hTX.keep hM.keep hne
 have hk1 : Keep (fun i => i = p) y1 (y1.setCell ⟨p, 1, none⟩ (.pointer q)) := Keep.cell y1 ⟨p, 1, none⟩ _
 have hpw := hT.lt
 have hsX := hb.size
 refine ⟨⟨?_, q, hq⟩, hI, hM.ms.ctl hk1 (fun i e => by have e2 : i = p := e; rw [e2]; exact hT1.ctl), ?_, ?_, fun w2 hk h2 => hM.aft w2 ((hk1.mono fun i e => ?_).step hk fun i hi => .inl ?_) h2⟩
 ·rw [heap_setCell_same y1 p 1 _ _ _ hT1.1, hq]
  rfl
 ·obtain ⟨c', h1, h2⟩ := hM.hs
  exact ⟨c', h1, h2.keep hk1 fun e => hne (show p = b from Eq.symm e)⟩
 ·exact ((Keep.of_below (L := fun i => i = b ∨ i = p) hb).drew.trans (hM.keep.mono fun _ h => .inl h)).trans (hk1.mono fun _ h => .inr h)
 ·have e2 : i = p := e
  show i < X.heap.size
  omega
 ·show i < X.heap.size
  omega
theorem tput_no (w : World) (p b : Nat) (n : Int) (c : Nat) (A B : Option Addr) (cA cB : Nat) (k v : List UInt8) (hH : Hs w b n c) (hA : BA w A k) (hr : rightK k v ≠ 0) :
  Calls Tryz.prog 15 #[ptr p, .slice A k.length cA, .slice B v.length cB] w fun e w' => ∃ x, e = .returned x ∧ Wrong w' (opB putB) 0 (rightK k v) x ∧ Idle w b n (c + 1000) w' := by
 have HBE := Lib.hid (begin_no p (opB putB) A B cA cB k v w hA hr)
 obtain ⟨q, hq⟩ : ∃ q, q = keyR k v := ⟨_, rfl⟩
 have HQ : Hid (q.length = 32) := by show _ = _; rw [hq]; exact keyR_len k v
 rw [← hq] at HBE
 have HH := Lib.hid hH
 clear hq hA hr hH
 go_enter Tryz.func15, Tryz.ntmps15
 go_wp2_with (go_at_call 42; refine HBE.out.mono ?_; rintro _ w1 ⟨b9, rfl, hWG, hB⟩; obtain ⟨X, hX⟩ : ∃ X, X = w1.alloc (.cells (bA q) 40) := ⟨_, rfl⟩; have hst := stKey13 w1 HQ.out; rw [← hX] at hst; have hb1 : Below w1.heap.size w1 X := (by rw [hX]; exact (Below.refl _ _).alloc (Nat.le_refl _) _); have hg1 : X.heap[w1.heap.size]? = some (.cells (bA q) 40 (0, 0)) := (by rw [hX]; exact heap_alloc_new w1 _); have HWX := Lib.hid (hWG.below hb1); have HBX := Lib.hid (hB.trans (hb1.mono hB.size)); clear hX hb1 hg1 hWG hB)
 go_ret
 exact ⟨_, rfl, HWX.out, ⟨⟨c, by omega, HH.out.keep (Keep.of_below (L := fun _ => False) HBX.out) fun h => h⟩, Keep.of_below HBX.out⟩⟩
theorem tput_ok (w : World) (p b : Nat) (n : Int) (c : Nat) (l : List Ent) (T : Tv) (A B : Option Addr) (cA cB : Nat) (k v : List UInt8) (hT : Tr13 w p b n T) (hH : Hs w b n c) (hc : c ≤ 20000000) (hv : Vars w) (hM : Mn w n T) (hI : IsMap l T) (hl : l.length ≤ 500) (hA : BA w A k) (hB : BA w B v) (hcB : v.length ≤ cB) (hr : rightK k v = 0) :
  Calls Tryz.prog 15 #[ptr p, .slice A k.length cA, .slice B v.length cB] w fun e w' => ∃ T', e = .returned .nilIface ∧ Done Mn Tr13 w p b n (putK l ⟨k, v⟩) T T' (c + 1000) w' := by
 have hk : k.length = 32 := (rightK_zero hr).1
 have HQ : Hid (k.length = 32) := hk
 have HBE := Lib.hid (begin_ok p (opB putB) A B cA cB k v w hA hr)
 have HT := Lib.hid hT
 have HH := Lib.hid hH
 have HV := Lib.hid hv
 have HM := Lib.hid hM
 have HI := Lib.hid hI
 have HLN := Lib.hid hl
 have HC := Lib.hid hc
 have HNB := Lib.hid (hT.ne hH)
 obtain ⟨z, hz⟩ := hT.2
 have HZ := Lib.hid hz
 have HVL : Hid (v.length ≤ 65535) := (rightK_zero hr).2
 have HBV := Lib.hid hB
 obtain ⟨en, hen⟩ : ∃ en : En, en = ⟨k, B, v, cB⟩ := ⟨_, rfl⟩
 have bl : ∀ w, bldA 42 w #[(0, .agg (bA k)), (1, .slice B v.length cB)] = .ok (.value (.agg (enC en).toArray)) w := fun w => by rw [hen]; exact bldEntry ⟨k, B, v, cB⟩ HQ.out w
 have HEN : Hid (∀ y, Below w.heap.size w y → EnOk y en ∧ en.v.length ≤ 70000 ∧ en.ent = ⟨k, v⟩) := fun y hy => by rw [hen]; exact ⟨⟨HQ.out, hcB, HBV.out.below hy⟩, by have := HVL.out; show v.length ≤ 70000; omega, rfl⟩
 clear hk hA hB hr hT hH hv hM hI hl hc hz hen hcB
 unfold ptr
 go_enter Tryz.func15, Tryz.ntmps15
 go_wp2_with (go_at_call 42; refine HBE.out.mono ?_; rintro _ w1 ⟨rfl, hB⟩; obtain ⟨X, hX⟩ : ∃ X, X = w1.alloc (.cells (bA k) 40) := ⟨_, rfl⟩; have hst := stKey13 w1 HQ.out; rw [← hX] at hst; have hb1 : Below w1.heap.size w1 X := (by rw [hX]; exact (Below.refl _ _).alloc (Nat.le_refl _) _); have hg1 : X.heap[w1.heap.size]? = some (.cells (bA k) 40 (0, 0)) := (by rw [hX]; exact heap_alloc_new w1 _); have HBX := Lib.hid (hB.trans (hb1.mono hB.size)); have HG1 := Lib.hid hg1; have HW1 := Lib.hid hB.size; clear hX hb1 hg1 hB)
 have HTX := Lib.hid (HT.out.below HBX.out)
 have LT0 : Hid (X.cell? ⟨p, 1, none⟩ = some (.pointer z)) := by have := HTX.out.cell1; rwa [HZ.out] at this
 have LC0 : Hid (X.cell? ⟨p, 0, none⟩ = some (.pointer (some ⟨b, 0, none⟩))) := HTX.out.cell0
 have HHX : Hid (Hs X b n c) := HH.out.keep (Keep.of_below (L := fun _ => False) HBX.out) fun h => h
 have HVX : Hid (Vars X.drew) := HV.out.keep (Keep.of_below (L := fun _ => False) HBX.out).drew (fun h => h) fun h => h
 have HMX : Hid (Mn X.drew n T) := HM.out.below HBX.out.drew
 have LK : Hid (∀ v, Keep (fun i => i = b ∨ i = p) X v → ldA 40 v (.pointer (some ⟨w1.heap.size, 0, none⟩)) = .ok (.value (.agg (bA k))) v) := fun v hv => ldKey13 (hv.heap HG1.out fun e => by have h1 := HW1.out; have h2 := HT.out.lt; have h3 := lt_of_heap HH.out; omega) HQ.out
 have HPU : Hid (Calls Tryz.prog 43 #[.pointer (some ⟨b, 0, none⟩), .pointer z, .agg (enC en).toArray] X.drew fun x w' => ∃ T', x = .returned T'.val ∧ IsMap (putK l ⟨k, v⟩) T' ∧ Made Mn X.drew b n T T' (c + 1000) w') := by
  obtain ⟨h1, h2, h3⟩ := HEN.out X.drew HBX.out.drew
  have := pt_c.put X.drew b n c l T en HHX.out (by have := HC.out; omega) HVX.out HMX.out HI.out (by have := HLN.out; omega) h1 h2
  rw [h3, HZ.out] at this
  exact this
 refine wp_region_held_drew (S := fun w' => Keep (fun i => i = b ∨ i = p) X w' ∧ w'.cell? ⟨p, 0, none⟩ = some (.pointer (some ⟨b, 0, none⟩))) (by kernel_rfl) (⟨(Keep.refl _ _).drew, LC0.out⟩) (fun hHeld => ?_)
 have hb0 : Keep (fun i => i = b ∨ i = p) X X.drew ∧ X.drew.cell? ⟨p, 0, none⟩ = some (.pointer (some ⟨b, 0, none⟩)) := ⟨(Keep.refl _ _).drew, LC0.out⟩
 refine x_t (i := 0) (oi := { dst := some 19, op := .move (.tmp 0), .. }) (v := ?_) rfl (Or.inl ⟨by rfl, ?_⟩) ?_
 rotate_left 1
 ·intro v hSv
  clear hSv
  go_simp
  try with_reducible rfl
 try simp only [Act.put, x_A, x_0, x_1]
 refine x_t (i := 1) (oi := { dst := some 20, op := .move (.tmp 0), .. }) (v := ?_) rfl (Or.inl ⟨by rfl, ?_⟩) ?_
 rotate_left 1
 ·intro v hSv
  clear hSv
  go_simp
  try with_reducible rfl
 try simp only [Act.put, x_A, x_0, x_1]
 refine x_t (i := 2) (oi := { dst := some 21, op := .nilCheck (.tmp 20), .. }) (v := ?_) rfl (Or.inl ⟨by rfl, ?_⟩) ?_
 rotate_left 1
 ·intro v hSv
  clear hSv
  go_simp
  try with_reducible rfl
 try simp only [Act.put, x_A, x_0, x_1]
 refine x_t (i := 3) (oi := { dst := some 22, op := .fieldAddr _ (.tmp 21) 0, .. }) (v := ?_) rfl (Or.inl ⟨by rfl, ?_⟩) ?_
 rotate_left 1
 ·intro v hSv
  clear hSv
  go_simp
  try with_reducible rfl
 try simp only [Act.put, x_A, x_0, x_1]
 refine x_t (i := 4) (oi := { dst := some 23, op := .load _ (.tmp 22), .. }) (v := ?_) rfl (Or.inl ⟨by rfl, ?_⟩) ?_
 rotate_left 1
 ·intro v hSv
  have hv1 := hSv.2
  clear hSv
  go_simp
  try with_reducible rfl
 try simp only [Act.put, x_A, x_0, x_1]
 refine x_t (i := 5) (oi := { dst := some 24, op := .move (.tmp 0), .. }) (v := ?_) rfl (Or.inl ⟨by rfl, ?_⟩) ?_
 rotate_left 1
 ·intro v hSv
  clear hSv
  go_simp
  try with_reducible rfl
 try simp only [Act.put, x_A, x_0, x_1]
 refine x_t (i := 6) (oi := { dst := some 25, op := .nilCheck (.tmp 24), .. }) (v := ?_) rfl (Or.inl ⟨by rfl, ?_⟩) ?_
 rotate_left 1
 ·intro v hSv
  clear hSv
  go_simp
  try with_reducible rfl
 try simp only [Act.put, x_A, x_0, x_1]
 refine x_t (i := 7) (oi := { dst := some 26, op := .fieldAddr _ (.tmp 25) 1, .. }) (v := ?_) rfl (Or.inl ⟨by rfl, ?_⟩) ?_
 rotate_left 1
 ·intro v hSv
  clear hSv
  go_simp
  try with_reducible rfl
 try simp only [Act.put, x_A, x_0, x_1]
 refine x_t (i := 9) (oi := { dst := some 28, op := .load _ (.tmp 7), .. }) (v := ?_) rfl (Or.inl ⟨by rfl, ?_⟩) ?_
 rotate_left 1
 ·intro v hSv
  have hv1 := LK.out v hSv.1
  clear hSv
  go_simp
  try with_reducible rfl
 try simp only [Act.put, x_A, x_0, x_1]
 refine x_t (i := 10) (oi := { dst := some 29, op := .move (.tmp 2), .. }) (v := ?_) rfl (Or.inl ⟨by rfl, ?_⟩) ?_
 rotate_left 1
 ·intro v hSv
  clear hSv
  go_simp
  try with_reducible rfl
 try simp only [Act.put, x_A, x_0, x_1]
 refine x_t (i := 11) (oi := { dst := some 30, op := .build _ #[(0, .tmp 28), (1, .tmp 29)], .. }) (v := ?_) rfl (Or.inl ⟨by rfl, ?_⟩) ?_
 rotate_left 1
 ·intro v hSv
  clear hSv
  go_simp
  try with_reducible rfl
 try simp only [Act.put, x_A, x_0, x_1]
 refine wpAnyH_ready (rs := [8]) (by kernel_rfl) (by simp) ?_
 refine AllReadyH.cons (o := { dst := some 27, op := .load _ (.tmp 26), .. }) rfl (fun K hK => ?_) AllReadyH.nil
 have lT0 : X.drew.cell? ⟨p, 1, none⟩ = some (.pointer z) := LT0.out
 go_simp
 refine hK.out _ _ (hb0) (fun hHeld => ?_)
 clear hK K
 try simp only [Act.put, x_A, x_0, x_1]
 refine wpAnyH_ready (rs := [12]) (by kernel_rfl) (by simp) ?_
 refine AllReadyH.cons (o := { dst := some 31, op := .call _, .. }) rfl (fun K hK => ?_) AllReadyH.nil
 go_simp
 refine (HPU.out).mono ?_
 rintro e y1 ⟨T9, rfl, hI9, hb⟩
 have hb1 : Keep (fun i => i = b ∨ i = p) X y1 ∧ y1.cell? ⟨p, 0, none⟩ = some (.pointer (some ⟨b, 0, none⟩)) := ⟨(hb0).1.trans (hb.keep.mono fun _ h => .inl h), hb.keep.cellAt (hb0).2 HNB.out⟩
 obtain ⟨q9, hq9⟩ := Mn.ptr hb.ms
 rw [hq9]
 have HQ9 := Lib.hid hq9
 have HI9 := Lib.hid hI9
 have HM9 := Lib.hid hb
 clear hq9 hI9
 clear lT0
 clear hb
 go_wp2_with fail
 refine hK.out _ _ (hb1) (fun hHeld => ?_)
 clear hK K
 try simp only [Act.put, x_A, x_0, x_1]
 refine x_t (i := 13) (oi := { dst := some 32, op := .nilCheck (.tmp 19), .. }) (v := ?_) rfl (Or.inl ⟨by rfl, ?_⟩) ?_
 rotate_left 1
 ·intro v hSv
  clear hSv
  go_simp
  try with_reducible rfl
 try simp only [Act.put, x_A, x_0, x_1]
 refine x_t (i := 14) (oi := { dst := some 33, op := .fieldAddr _ (.tmp 32) 1, .. }) (v := ?_) rfl (Or.inl ⟨by rfl, ?_⟩) ?_
 rotate_left 1
 ·intro v hSv
  clear hSv
  go_simp
  try with_reducible rfl
 try simp only [Act.put, x_A, x_0, x_1]
 refine wpAnyH_ready (rs := [15]) (by kernel_rfl) (by simp) ?_
 refine AllReadyH.cons (o := { dst := none, op := .store _ (.tmp 33) (.tmp 31), .. }) rfl (fun K hK => ?_) AllReadyH.nil
 have hp1 := HTX.out.1
 have hp2 : y1.heap[p]? = some (.cells #[ptr b, T.val] 73 (0, 0)) := HM9.out.keep.heap hp1 HNB.out
 have lT1 : y1.cell? ⟨p, 1, none⟩ = some T.val := by rw [cell_of_cells hp2]; rfl
 have fr1 := frozen_of_row y1 p 1 _ _ hp2
 have HP2 := Lib.hid (heap_setCell_same y1 p 1 _ _ (.pointer q9) hp2)
 clear hp1 hp2
 go_simp
 refine hK.out _ _ (⟨(hb1).1.trans ((Keep.cell y1 ⟨p, 1, none⟩ _).mono fun _ h => .inr h), by rw [cell_of_cells HP2.out]; rfl⟩) (fun hHeld => ?_)
 clear hK K
 try simp only [Act.put, x_A, x_0, x_1]
 refine wpAnyH_done (by kernel_rfl) ?_ _
 go_wp2_with fail
 go_ret
 exact ⟨T9, rfl, done13 HBX.out HT.out HNB.out HM9.out HI9.out HQ9.out⟩
theorem tget_no (w : World) (p : Nat) (A : Option Addr) (cA : Nat) (k : List UInt8) (hA : BA w A k) (hk : k.length ≠ 32) :
  Calls Tryz.prog 22 #[ptr p, .slice A k.length cA] w fun e w' => ∃ B cB x, e = .returned (.tuple #[.slice B 0 cB, .bool false, x]) ∧ Wrong w' (opB getB) 0 2 x ∧ Below w.heap.size w w' := by
 have hr : rightK k [] = 2 := by unfold rightK; rw [if_neg hk]
 have HBE := Lib.hid (begin_no p (opB getB) A none cA 0 k [] w hA (by rw [hr]; decide))
 rw [hr] at HBE
 obtain ⟨q, hq⟩ : ∃ q, q = keyR k [] := ⟨_, rfl⟩
 have HQ : Hid (q.length = 32) := by show _ = _; rw [hq]; exact keyR_len k []
 rw [← hq] at HBE
 clear hq hA hr hk
 go_enter Tryz.func22, Tryz.ntmps22
 go_wp2_with (go_at_call 42; refine HBE.out.mono ?_; rintro _ w1 ⟨b9, rfl, hWG, hB⟩; obtain ⟨X, hX⟩ : ∃ X, X = w1.alloc (.cells (bA q) 40) := ⟨_, rfl⟩; have hst := stKey13 w1 HQ.out; rw [← hX] at hst; have hb1 : Below w1.heap.size w1 X := (by rw [hX]; exact (Below.refl _ _).alloc (Nat.le_refl _) _); have hg1 : X.heap[w1.heap.size]? = some (.cells (bA q) 40 (0, 0)) := (by rw [hX]; exact heap_alloc_new w1 _); have HWX := Lib.hid (hWG.below hb1); have HBX := Lib.hid (hB.trans (hb1.mono hB.size)); clear hX hb1 hg1 hWG hB)
 go_ret3
 exact ⟨none, 0, _, rfl, HWX.out, HBX.out⟩
theorem tget_ok (w : World) (p b : Nat) (n : Int) (l : List Ent) (T : Tv) (A : Option Addr) (cA : Nat) (k : List UInt8) (hT : Tr13 w p b n T) (hM : Mn w n T) (hI : IsMap l T) (hA : BA w A k) (hk : k.length = 32) :
  Calls Tryz.prog 22 #[ptr p, .slice A k.length cA] w fun e w' => ∃ B cB, e = .returned (.tuple #[.slice B ((valK l k).getD []).length cB, .bool (valK l k).isSome, .nilIface]) ∧ NewB w' w.heap.size B cB ((valK l k).getD []) ∧ Below w.heap.size w w' := by
 have hr : rightK k [] = 0 := by unfold rightK; rw [if_pos hk, if_neg (by decide)]
 have HQ : Hid (k.length = 32) := hk
 have HBE := Lib.hid (begin_ok p (opB getB) A none cA 0 k [] w hA hr)
 have hvx : valO (getT (T.fin k 0).tr k) = (valK l k).getD [] ∧ (getT (T.fin k 0).tr k).isSome = (valK l k).isSome := by
  rw [get_is hI.sep (hI.at k)]
  unfold valK
  cases l.find? fun e => decide (e.k = k) <;> exact ⟨rfl, rfl⟩
 obtain ⟨V, hV⟩ : ∃ V, V = (valK l k).getD [] := ⟨_, rfl⟩
 obtain ⟨S, hS⟩ : ∃ S, S = (valK l k).isSome := ⟨_, rfl⟩
 rw [← hV, ← hS] at hvx ⊢
 have HVX := Lib.hid hvx
 have HT := Lib.hid hT
 have HM := Lib.hid hM
 have HI := Lib.hid hI
 obtain ⟨z, hz⟩ := hT.2
 have HZ := Lib.hid hz
 clear hk hA hr hT hM hI hz hvx hV hS
 unfold ptr
 go_enter Tryz.func22, Tryz.ntmps22
 go_wp2_with (go_at_call 42; refine HBE.out.mono ?_; rintro _ w1 ⟨rfl, hB⟩; obtain ⟨X, hX⟩ : ∃ X, X = w1.alloc (.cells (bA k) 40) := ⟨_, rfl⟩; have hst := stKey13 w1 HQ.out; rw [← hX] at hst; have hb1 : Below w1.heap.size w1 X := (by rw [hX]; exact (Below.refl _ _).alloc (Nat.le_refl _) _); have hg1 : X.heap[w1.heap.size]? = some (.cells (bA k) 40 (0, 0)) := (by rw [hX]; exact heap_alloc_new w1 _); have HBX := Lib.hid (hB.trans (hb1.mono hB.size)); have HG1 := Lib.hid hg1; have HW1 := Lib.hid hB.size; clear hX hb1 hg1 hB)
 have HTX := Lib.hid (HT.out.below HBX.out)
 have LT : Hid (∀ v, Below X.heap.size X v → v.cell? ⟨p, 1, none⟩ = some (.pointer z)) := fun v hv => by have := (HTX.out.below hv).cell1; rwa [HZ.out] at this
 have LK : Hid (∀ v, Keep (fun _ => False) X v → ldA 40 v (.pointer (some ⟨w1.heap.size, 0, none⟩)) = .ok (.value (.agg (bA k))) v) := fun v hv => ldKey13 (hv.heap HG1.out fun e => e) HQ.out
 have HGE : Hid (Calls Tryz.prog 44 #[.pointer z, .agg (bA k)] X.drew fun x w' => ∃ A c, x = .returned (.tuple #[.slice A V.length c, .bool S]) ∧ NewB w' X.drew.heap.size A c V ∧ Below X.drew.heap.size X.drew w') := by
  have := fn_c.get X.drew n l T k (HM.out.below HBX.out.drew) HI.out HQ.out
  rw [HVX.out.1, HVX.out.2, HZ.out] at this
  exact this
 refine wp_region_held_drew (S := fun w' => Below X.heap.size X w') (by kernel_rfl) ((Below.refl _ _).drew) (fun hHeld => ?_)
 have hb0 : Below X.heap.size X X.drew := (Below.refl _ _).drew
 refine x_t (i := 0) (oi := { dst := some 21, op := .move (.tmp 0), .. }) (v := ?_) rfl (Or.inl ⟨by rfl, ?_⟩) ?_
 rotate_left 1
 ·intro v hSv
  clear hSv
  go_simp
  try with_reducible rfl
 try simp only [Act.put, x_A, x_0, x_1]
 refine x_t (i := 1) (oi := { dst := some 22, op := .nilCheck (.tmp 21), .. }) (v := ?_) rfl (Or.inl ⟨by rfl, ?_⟩) ?_
 rotate_left 1
 ·intro v hSv
  clear hSv
  go_simp
  try with_reducible rfl
 try simp only [Act.put, x_A, x_0, x_1]
 refine x_t (i := 2) (oi := { dst := some 23, op := .fieldAddr _ (.tmp 22) 1, .. }) (v := ?_) rfl (Or.inl ⟨by rfl, ?_⟩) ?_
 rotate_left 1
 ·intro v hSv
  clear hSv
  go_simp
  try with_reducible rfl
 try simp only [Act.put, x_A, x_0, x_1]
 refine x_t (i := 3) (oi := { dst := some 24, op := .load _ (.tmp 23), .. }) (v := ?_) rfl (Or.inl ⟨by rfl, ?_⟩) ?_
 rotate_left 1
 ·intro v hSv
  have hv1 := LT.out v hSv
  clear hSv
  go_simp
  try with_reducible rfl
 try simp only [Act.put, x_A, x_0, x_1]
 refine x_t (i := 4) (oi := { dst := some 25, op := .load _ (.tmp 7), .. }) (v := ?_) rfl (Or.inl ⟨by rfl, ?_⟩) ?_
 rotate_left 1
 ·intro v hSv
  have hv1 := LK.out v (Keep.of_below hSv)
  clear hSv
  go_simp
  try with_reducible rfl
 try simp only [Act.put, x_A, x_0, x_1]
 refine wpAnyH_ready (rs := [5]) (by kernel_rfl) (by simp) ?_
 refine AllReadyH.cons (o := { dst := some 26, op := .call _, .. }) rfl (fun K hK => ?_) AllReadyH.nil
 go_simp
 refine (HGE.out).mono ?_
 rintro e y1 ⟨A9, c9, rfl, hN9, hb⟩
 have hb1 : Below X.heap.size X y1 := keeps (hb0) hb
 have HN9 := Lib.hid hN9
 have HB9 := Lib.hid hb
 clear hN9
 clear hb
 go_wp2_with fail
 refine hK.out _ _ (hb1) (fun hHeld => ?_)
 clear hK K
 try simp only [Act.put, x_A, x_0, x_1]
 refine x_t (i := 6) (oi := { dst := some 20, op := .move (.tmp 26), .. }) (v := ?_) rfl (Or.inl ⟨by rfl, ?_⟩) ?_
 rotate_left 1
 ·intro v hSv
  clear hSv
  go_simp
  try with_reducible rfl
 try simp only [Act.put, x_A, x_0, x_1]
 refine x_t (i := 7) (oi := { dst := some 27, op := .extract (.tmp 20) 0, .. }) (v := ?_) rfl (Or.inl ⟨by rfl, ?_⟩) ?_
 rotate_left 1
 ·intro v hSv
  clear hSv
  go_simp
  try with_reducible rfl
 try simp only [Act.put, x_A, x_0, x_1]
 refine x_t (i := 8) (oi := { dst := some 28, op := .extract (.tmp 20) 1, .. }) (v := ?_) rfl (Or.inl ⟨by rfl, ?_⟩) ?_
 rotate_left 1
 ·intro v hSv
  clear hSv
  go_simp
  try with_reducible rfl
 try simp only [Act.put, x_A, x_0, x_1]
 refine x_t (i := 9) (oi := { dst := some 9, op := .assign (.tmp 27), .. }) (v := ?_) rfl (Or.inl ⟨by rfl, ?_⟩) ?_
 rotate_left 1
 ·intro v hSv
  clear hSv
  go_simp
  try with_reducible rfl
 try simp only [Act.put, x_A, x_0, x_1]
 refine x_t (i := 10) (oi := { dst := some 10, op := .assign (.tmp 28), .. }) (v := ?_) rfl (Or.inl ⟨by rfl, ?_⟩) ?_
 rotate_left 1
 ·intro v hSv
  clear hSv
  go_simp
  try with_reducible rfl
 try simp only [Act.put, x_A, x_0, x_1]
 refine wpAnyH_done (by kernel_rfl) ?_ _
 go_wp2_with fail
 go_ret3
 exact ⟨A9, c9, rfl, ⟨HN9.out.1, HN9.out.2.imp id fun h => row11_low h HBX.out.size⟩, HBX.out.drew.trans (HB9.out.mono HBX.out.size)⟩
theorem tdel_no (w : World) (p b : Nat) (n : Int) (c : Nat) (A : Option Addr) (cA : Nat) (k : List UInt8) (hH : Hs w b n c) (hA : BA w A k) (hk : k.length ≠ 32) :
  Calls Tryz.prog 29 #[ptr p, .slice A k.length cA] w fun e w' => ∃ x, e = .returned (.tuple #[.bool false, x]) ∧ Wrong w' (opB deleteB) 0 2 x ∧ Idle w b n (c + 1000) w' := by
 have hr : rightK k [] = 2 := by unfold rightK; rw [if_neg hk]
 have HBE := Lib.hid (begin_no p (opB deleteB) A none cA 0 k [] w hA (by rw [hr]; decide))
 rw [hr] at HBE
 obtain ⟨q, hq⟩ : ∃ q, q = keyR k [] := ⟨_, rfl⟩
 have HQ : Hid (q.length = 32) := by show _ = _; rw [hq]; exact keyR_len k []
 rw [← hq] at HBE
 have HH := Lib.hid hH
 clear hq hA hr hk hH
 go_enter Tryz.func29, Tryz.ntmps29
 go_wp2_with (go_at_call 42; refine HBE.out.mono ?_; rintro _ w1 ⟨b9, rfl, hWG, hB⟩; obtain ⟨X, hX⟩ : ∃ X, X = w1.alloc (.cells (bA q) 40) := ⟨_, rfl⟩; have hst := stKey13 w1 HQ.out; rw [← hX] at hst; have hb1 : Below w1.heap.size w1 X := (by rw [hX]; exact (Below.refl _ _).alloc (Nat.le_refl _) _); have hg1 : X.heap[w1.heap.size]? = some (.cells (bA q) 40 (0, 0)) := (by rw [hX]; exact heap_alloc_new w1 _); have HWX := Lib.hid (hWG.below hb1); have HBX := Lib.hid (hB.trans (hb1.mono hB.size)); clear hX hb1 hg1 hWG hB)
 go_ret2
 exact ⟨_, rfl, HWX.out, ⟨⟨c, by omega, HH.out.keep (Keep.of_below (L := fun _ => False) HBX.out) fun h => h⟩, Keep.of_below HBX.out⟩⟩
theorem tdel_ok (w : World) (p b : Nat) (n : Int) (c : Nat) (l : List Ent) (T : Tv) (A : Option Addr) (cA : Nat) (k : List UInt8) (hT : Tr13 w p b n T) (hH : Hs w b n c) (hc : c ≤ 20000000) (hv : Vars w) (hM : Mn w n T) (hI : IsMap l T) (hl : l.length ≤ 500) (hA : BA w A k) (hk0 : k.length = 32) :
  Calls Tryz.prog 29 #[ptr p, .slice A k.length cA] w fun e w' => ∃ T', e = .returned (.tuple #[.bool (hasK l k), .nilIface]) ∧ Done Mn Tr13 w p b n (rmK l k) T T' (c + 1000) w' := by
 have hr : rightK k [] = 0 := by unfold rightK; rw [if_pos hk0, if_neg (by decide)]
 have hk : k.length = 32 := hk0
 have HQ : Hid (k.length = 32) := hk
 have HBE := Lib.hid (begin_ok p (opB deleteB) A none cA 0 k [] w hA hr)
 have HT := Lib.hid hT
 have HH := Lib.hid hH
 have HV := Lib.hid hv
 have HM := Lib.hid hM
 have HI := Lib.hid hI
 have HLN := Lib.hid hl
 have HC := Lib.hid hc
 have HNB := Lib.hid (hT.ne hH)
 obtain ⟨z, hz⟩ := hT.2
 have HZ := Lib.hid hz
 obtain ⟨hs, hhs⟩ : ∃ hs, hs = hasK l k := ⟨_, rfl⟩
 have HHS := Lib.hid hhs
 rw [← hhs]
 clear hk hk0 hA hr hT hH hv hM hI hl hc hz hhs
 unfold ptr
 go_enter Tryz.func29, Tryz.ntmps29
 go_wp2_with (go_at_call 42; refine HBE.out.mono ?_; rintro _ w1 ⟨rfl, hB⟩; obtain ⟨X, hX⟩ : ∃ X, X = w1.alloc (.cells (bA k) 40) := ⟨_, rfl⟩; have hst := stKey13 w1 HQ.out; rw [← hX] at hst; have hb1 : Below w1.heap.size w1 X := (by rw [hX]; exact (Below.refl _ _).alloc (Nat.le_refl _) _); have hg1 : X.heap[w1.heap.size]? = some (.cells (bA k) 40 (0, 0)) := (by rw [hX]; exact heap_alloc_new w1 _); have HBX := Lib.hid (hB.trans (hb1.mono hB.size)); have HG1 := Lib.hid hg1; have HW1 := Lib.hid hB.size; clear hX hb1 hg1 hB)
 have HTX := Lib.hid (HT.out.below HBX.out)
 have LT0 : Hid (X.cell? ⟨p, 1, none⟩ = some (.pointer z)) := by have := HTX.out.cell1; rwa [HZ.out] at this
 have LC0 : Hid (X.cell? ⟨p, 0, none⟩ = some (.pointer (some ⟨b, 0, none⟩))) := HTX.out.cell0
 have HHX : Hid (Hs X b n c) := HH.out.keep (Keep.of_below (L := fun _ => False) HBX.out) fun h => h
 have HVX : Hid (Vars X.drew) := HV.out.keep (Keep.of_below (L := fun _ => False) HBX.out).drew (fun h => h) fun h => h
 have HMX : Hid (Mn X.drew n T) := HM.out.below HBX.out.drew
 have LK : Hid (∀ v, Keep (fun i => i = b) X v → ldA 40 v (.pointer (some ⟨w1.heap.size, 0, none⟩)) = .ok (.value (.agg (bA k))) v) := fun v hv => ldKey13 (hv.heap HG1.out fun e => by have h1 := HW1.out; have h2 := HT.out.lt; have h3 := lt_of_heap HH.out; omega) HQ.out
 have LT : Hid (∀ v, Keep (fun i => i = b) X v → v.cell? ⟨p, 0, none⟩ = some (.pointer (some ⟨b, 0, none⟩)) ∧ v.cell? ⟨p, 1, none⟩ = some (.pointer z)) := fun v hv => ⟨hv.cellAt LC0.out HNB.out, hv.cellAt LT0.out HNB.out⟩
 have HRM : Hid (Calls Tryz.prog 49 #[.pointer (some ⟨b, 0, none⟩), .pointer z, .agg (bA k)] X.drew fun x w' => ∃ T', x = .returned (.tuple #[T'.val, .bool hs]) ∧ IsMap (rmK l k) T' ∧ Made Mn X.drew b n T T' (c + 1000) w' ∧ (hs = false → T' = T ∧ Hs w' b n c)) := by
  have := rm_c.remove X.drew b n c l T k HHX.out (by have := HC.out; omega) HVX.out HMX.out HI.out (by have := HLN.out; omega) HQ.out
  rw [← HHS.out, HZ.out] at this
  exact this
 refine wp_region_held_drew (S := fun w' => Keep (fun i => i = b) X w') (by kernel_rfl) ((Keep.refl _ _).drew) (fun hHeld => ?_)
 have hb0 : Keep (fun i => i = b) X X.drew := (Keep.refl _ _).drew
 refine x_t (i := 0) (oi := { dst := some 20, op := .move (.tmp 0), .. }) (v := ?_) rfl (Or.inl ⟨by rfl, ?_⟩) ?_
 rotate_left 1
 ·intro v hSv
  clear hSv
  go_simp
  try with_reducible rfl
 try simp only [Act.put, x_A, x_0, x_1]
 refine x_t (i := 1) (oi := { dst := some 21, op := .nilCheck (.tmp 20), .. }) (v := ?_) rfl (Or.inl ⟨by rfl, ?_⟩) ?_
 rotate_left 1
 ·intro v hSv
  clear hSv
  go_simp
  try with_reducible rfl
 try simp only [Act.put, x_A, x_0, x_1]
 refine x_t (i := 2) (oi := { dst := some 22, op := .fieldAddr _ (.tmp 21) 0, .. }) (v := ?_) rfl (Or.inl ⟨by rfl, ?_⟩) ?_
 rotate_left 1
 ·intro v hSv
  clear hSv
  go_simp
  try with_reducible rfl
 try simp only [Act.put, x_A, x_0, x_1]
 refine x_t (i := 3) (oi := { dst := some 23, op := .load _ (.tmp 22), .. }) (v := ?_) rfl (Or.inl ⟨by rfl, ?_⟩) ?_
 rotate_left 1
 ·intro v hSv
  have hv1 := LT.out v hSv |>.1
  clear hSv
  go_simp
  try with_reducible rfl
 try simp only [Act.put, x_A, x_0, x_1]
 refine x_t (i := 4) (oi := { dst := some 24, op := .move (.tmp 0), .. }) (v := ?_) rfl (Or.inl ⟨by rfl, ?_⟩) ?_
 rotate_left 1
 ·intro v hSv
  clear hSv
  go_simp
  try with_reducible rfl
 try simp only [Act.put, x_A, x_0, x_1]
 refine x_t (i := 5) (oi := { dst := some 25, op := .nilCheck (.tmp 24), .. }) (v := ?_) rfl (Or.inl ⟨by rfl, ?_⟩) ?_
 rotate_left 1
 ·intro v hSv
  clear hSv
  go_simp
  try with_reducible rfl
 try simp only [Act.put, x_A, x_0, x_1]
 refine x_t (i := 6) (oi := { dst := some 26, op := .fieldAddr _ (.tmp 25) 1, .. }) (v := ?_) rfl (Or.inl ⟨by rfl, ?_⟩) ?_
 rotate_left 1
 ·intro v hSv
  clear hSv
  go_simp
  try with_reducible rfl
 try simp only [Act.put, x_A, x_0, x_1]
 refine x_t (i := 7) (oi := { dst := some 27, op := .load _ (.tmp 26), .. }) (v := ?_) rfl (Or.inl ⟨by rfl, ?_⟩) ?_
 rotate_left 1
 ·intro v hSv
  have hv1 := LT.out v hSv |>.2
  clear hSv
  go_simp
  try with_reducible rfl
 try simp only [Act.put, x_A, x_0, x_1]
 refine x_t (i := 8) (oi := { dst := some 28, op := .load _ (.tmp 6), .. }) (v := ?_) rfl (Or.inl ⟨by rfl, ?_⟩) ?_
 rotate_left 1
 ·intro v hSv
  have hv1 := LK.out v hSv
  clear hSv
  go_simp
  try with_reducible rfl
 try simp only [Act.put, x_A, x_0, x_1]
 refine wpAnyH_ready (rs := [9]) (by kernel_rfl) (by simp) ?_
 refine AllReadyH.cons (o := { dst := some 29, op := .call _, .. }) rfl (fun K hK => ?_) AllReadyH.nil
 go_simp
 refine (HRM.out).mono ?_
 rintro e y1 ⟨T9, rfl, hI9, hMd, hb⟩
 have hb1 : Keep (fun i => i = b) X y1 := (hb0).trans hMd.keep
 obtain ⟨q9, hq9⟩ := Mn.ptr hMd.ms
 rw [hq9]
 have HQ9 := Lib.hid hq9
 have HI9 := Lib.hid hI9
 have HM9 := Lib.hid hMd
 clear hq9 hI9
 clear hMd
 clear hb
 go_wp2_with fail
 refine hK.out _ _ (hb1) (fun hHeld => ?_)
 clear hK K
 try simp only [Act.put, x_A, x_0, x_1]
 refine x_t (i := 10) (oi := { dst := some 19, op := .move (.tmp 29), .. }) (v := ?_) rfl (Or.inl ⟨by rfl, ?_⟩) ?_
 rotate_left 1
 ·intro v hSv
  clear hSv
  go_simp
  try with_reducible rfl
 try simp only [Act.put, x_A, x_0, x_1]
 refine x_t (i := 11) (oi := { dst := some 30, op := .extract (.tmp 19) 0, .. }) (v := ?_) rfl (Or.inl ⟨by rfl, ?_⟩) ?_
 rotate_left 1
 ·intro v hSv
  clear hSv
  go_simp
  try with_reducible rfl
 try simp only [Act.put, x_A, x_0, x_1]
 refine x_t (i := 12) (oi := { dst := some 31, op := .extract (.tmp 19) 1, .. }) (v := ?_) rfl (Or.inl ⟨by rfl, ?_⟩) ?_
 rotate_left 1
 ·intro v hSv
  clear hSv
  go_simp
  try with_reducible rfl
 try simp only [Act.put, x_A, x_0, x_1]
 refine x_t (i := 13) (oi := { dst := some 8, op := .assign (.tmp 30), .. }) (v := ?_) rfl (Or.inl ⟨by rfl, ?_⟩) ?_
 rotate_left 1
 ·intro v hSv
  clear hSv
  go_simp
  try with_reducible rfl
 try simp only [Act.put, x_A, x_0, x_1]
 refine x_t (i := 14) (oi := { dst := some 9, op := .assign (.tmp 31), .. }) (v := ?_) rfl (Or.inl ⟨by rfl, ?_⟩) ?_
 rotate_left 1
 ·intro v hSv
  clear hSv
  go_simp
  try with_reducible rfl
 try simp only [Act.put, x_A, x_0, x_1]
 refine wpAnyH_done (by kernel_rfl) ?_ _
 have hp2 : y1.heap[p]? = some (.cells #[ptr b, T.val] 73 (0, 0)) := HM9.out.keep.heap HTX.out.1 HNB.out
 have lT1 : y1.cell? ⟨p, 1, none⟩ = some T.val := by rw [cell_of_cells hp2]; rfl
 have fr1 := frozen_of_row y1 p 1 _ _ hp2
 clear hp2
 go_wp2_with fail
 go_ret2
 exact ⟨T9, rfl, done13 HBX.out HT.out HNB.out HM9.out HI9.out HQ9.out⟩
end
section
open Go.RowKit
@[go_sem ↓] theorem execOp_loadPl (ρ : Operand → Value) (dst : Option Tmp) (x : Operand) (type : TypeId) (pos : String) (after : Array Edge) (guard : Option (Nat × Bool)) (w : World) :
  Sem.run Tryz.prog (execOp ρ { dst, op := .load 154 x, type, pos, after, guard }) w = ldA 154 w (ρ x) := rfl
@[go_sem ↓] theorem execOp_storePl (ρ : Operand → Value) (dst : Option Tmp) (x y : Operand) (type : TypeId) (pos : String) (after : Array Edge) (guard : Option (Nat × Bool)) (w : World) :
  Sem.run Tryz.prog (execOp ρ { dst, op := .store 154 x y, type, pos, after, guard }) w = stA 154 w (ρ x) (ρ y) := rfl
@[go_sem ↓] theorem execOp_buildPl (ρ : Operand → Value) (dst : Option Tmp) (parts : Array (Nat × Operand)) (type : TypeId) (pos : String) (after : Array Edge) (guard : Option (Nat × Bool)) (w : World) :
  Sem.run Tryz.prog (execOp ρ { dst, op := .build 154 parts, type, pos, after, guard }) w = bldA 154 w (parts.map fun x => (x.1, ρ x.2)) := rfl
noncomputable def bsPl (w : World) (n : Nat) (parts : Array (Nat × Value)) : Result Next := Sem.run Tryz.prog (do pure (.value (← Instr.buildSlice 110 n parts))) w
@[go_sem ↓] theorem execOp_build_pls (ρ : Operand → Value) (dst : Option Tmp) (n : Nat) (parts : Array (Nat × Operand)) (type : TypeId) (pos : String) (after : Array Edge) (guard : Option (Nat × Bool)) (w : World) :
  Sem.run Tryz.prog (execOp ρ { dst, op := .buildSlice 110 n parts, type, pos, after, guard }) w = bsPl w n (parts.map fun x => (x.1, ρ x.2)) := rfl
theorem zeroPl : ∀ w, (zeroValue 154).run Tryz.prog w = .ok (.agg (((List.range 32).map fun _ => (0 : UInt8)).map bv ++ [Value.int .i64 0]).toArray) w := fun _ => by kernel_rfl
def zPl : Pl := ⟨z26, 0, by simp [z26]⟩
theorem zeroPl2 : ∀ w, (zeroValue 154).run Tryz.prog w = .ok (.agg (plC zPl).toArray) w := zeroPl
attribute [go_sem ↓] zeroPl2
theorem bldPl_f (f : Nat → UInt8) (i : Int) (w : World) : bldA 154 w #[(0, .agg (bA ((List.range 32).map f))), (1, .int .i64 i)] = .ok (.value (.agg (((List.range 32).map f).map bv ++ [Value.int .i64 i]).toArray)) w := by kernel_rfl
theorem bldPl (p : Pl) (w : World) : bldA 154 w #[(0, .agg (bA p.k)), (1, .int .i64 (p.i : Int))] = .ok (.value (.agg (plC p).toArray)) w := by
 have := bldPl_f (fun j => p.k.getD j 0) (p.i : Int) w
 rw [← list32 p.k p.len] at this
 exact this
theorem bsPl_f (f : Nat → UInt8) (i : Int) (w : World) : bsPl w 1 #[(0, .agg (((List.range 32).map f).map bv ++ [Value.int .i64 i]).toArray)] = .ok (.value (.slice (some ⟨w.heap.size, 0, none⟩) 1 1)) (w.alloc (.cells (((List.range 32).map f).map bv ++ [Value.int .i64 i]).toArray 154)) := by kernel_rfl
theorem bsPl_one (p : Pl) (w : World) : bsPl w 1 #[(0, .agg (plC p).toArray)] = .ok (.value (.slice (some ⟨w.heap.size, 0, none⟩) 1 1)) (w.alloc (.cells (plC p).toArray 154)) := by
 have := bsPl_f (fun j => p.k.getD j 0) (p.i : Int) w
 rw [← list32 p.k p.len] at this
 exact this
theorem infoPl1 : (Tryz.prog.info? 154).map (·.size) = some 33 := by kernel_rfl
theorem pl_made (w : World) (p : Pl) (t : TypeId) : (w.alloc (.cells (plC p).toArray t)).rangeAt w.heap.size 0 (plC p) := fun j v hv => by
 rw [Nat.zero_add, cell_of_cells (heap_alloc_new w _), List.getElem?_toArray]
 exact hv
theorem range_plk {w : World} {g o : Nat} {p : Pl} (h : w.rangeAt g o (plC p)) : ldA 40 w (.pointer (some ⟨g, o, none⟩)) = .ok (.value (.agg (bA p.k))) w := by
 have := ldA_of (t := 40) (w := w) (b := g) (o := o) (cs := p.k.map bv) (fun j v hv => h j v (by
  unfold plC
  rw [List.getElem?_append_left (List.getElem?_eq_some_iff.1 hv).1]
  exact hv)) Tryz.underlying40 (by rw [List.length_map, p.len]; exact infoKey)
 exact this
theorem range_pli {w : World} {g o : Nat} {p : Pl} (h : w.rangeAt g o (plC p)) : w.cell? ⟨g, o + 32, none⟩ = some (.int .i64 (p.i : Int)) :=
 h 32 _ (by
  unfold plC
  rw [List.getElem?_append_right (by simp [p.len])]
  simp [p.len])
theorem range_pl {w : World} {g o : Nat} {p : Pl} (h : w.rangeAt g o (plC p)) : ldA 154 w (.pointer (some ⟨g, o, none⟩)) = .ok (.value (.agg (plC p).toArray)) w := by
 unfold ldA
 rw [Sem.run_bind, run_loadAt_mid (P := Tryz.prog) w g o 154 (plC p) _ h Tryz.underlying154 rfl (by rw [plC_len]; exact infoPl1)]
 simp [Sem.run_pure, Result.andThen_ok]
theorem stPl13 (w : World) (p : Pl) : stA 154 (w.alloc (.cells (plC zPl).toArray 154)) (.pointer (some ⟨w.heap.size, 0, none⟩)) (.agg (plC p).toArray) = .ok .skip (w.alloc (.cells (plC p).toArray 154)) :=
 stA_new (t := 154) w (plC zPl).toArray (plC p).toArray (by rw [List.size_toArray, plC_len]; exact infoPl1) (by rw [List.size_toArray, List.size_toArray, plC_len, plC_len]) (by rw [List.all_toArray, List.all_eq_true]; exact plC_one p)
theorem SeenM.look {w : World} {B : Nat} {ks : List (List UInt8)} (h : SeenM w B ks) {k : List UInt8} (hk : k.length = 32) : (Instr.lookup 151 (.map (some B)) (.agg (bA k)) false).run Tryz.prog w = .ok (.bool (decide (k ∈ ks))) w := by
 obtain ⟨D, hown, hat⟩ := h
 obtain ⟨l, hl⟩ := keyOf_ex hk
 obtain ⟨v, ps, hrun, hv⟩ := hown.lookup keyLaw13 Tryz.underlying151 (zeroBool13 w) (plainElem_bool Tryz.underlying4 false) hl
 rw [hat k l hk hl] at hv
 obtain ⟨b, rfl, hz⟩ := plainElem_bool_inv Tryz.underlying4 hv
 have hb : decide (k ∈ ks) = b := by
  injection hz with hz _
  injection hz with hz
  injection hz
 rw [hb]
 exact hrun
theorem pcmpG_c (a b : List UInt8) (ha : a.length = 32) (hb : b.length = 32) (w : World) : Calls Tryz.prog 83 #[.agg (bA a), .agg (bA b)] w fun e w' => e = .returned (.int .i64 (cmpK a b)) ∧ Bt.Grew w w' := by
 rw [bA_key a ha, bA_key b hb]
 exact Bt.compare_g (keyF a) (keyF b) (keyF_byt a) (keyF_byt b) w
theorem cmp1_c (x y : Pl) (w : World) : Calls Tryz.prog 82 #[.agg (plC x).toArray, .agg (plC y).toArray] w fun e w' => e = .returned (.int .i64 (cfP x y)) ∧ Bt.Grew w w' := by
 obtain ⟨X, hX⟩ : ∃ X, X = w.alloc (.cells (plC x).toArray 154) := ⟨_, rfl⟩
 obtain ⟨Z, hZ⟩ : ∃ Z, Z = X.alloc (.cells (plC y).toArray 154) := ⟨_, rfl⟩
 have hs : X.heap.size = w.heap.size + 1 := by rw [hX]; simp
 have hbZ : Below X.heap.size X Z := by rw [hZ]; exact (Below.refl _ _).alloc (Nat.le_refl _) _
 have rx : X.rangeAt w.heap.size 0 (plC x) := by rw [hX]; exact pl_made w x _
 have ry : Z.rangeAt (w.heap.size + 1) 0 (plC y) := by rw [hZ, ← hs]; exact pl_made X y _
 have lx := range_plk (range_below rx hbZ)
 have ly := range_plk ry
 have HC := Lib.hid (pcmpG_c x.k y.k x.len y.len Z)
 have HG : Hid (Bt.Grew w Z) := by rw [hZ, hX]; exact Bt.Grew.two _ _ _
 obtain ⟨cx, hcx⟩ : ∃ cx, cx = plC x := ⟨_, rfl⟩
 obtain ⟨cy, hcy⟩ : ∃ cy, cy = plC y := ⟨_, rfl⟩
 rw [hZ, hX, ← hcx, ← hcy] at lx ly HC HG
 rw [← hcx, ← hcy]
 clear hX hZ hs hbZ rx ry hcx hcy
 go_enter Tryz.func82, Tryz.ntmps82
 go_wp2_with fail
 refine HC.out.mono ?_
 rintro _ w1 ⟨rfl, hg⟩
 have HG1 := Lib.hid (HG.out.trans hg)
 clear hg
 go_wp2_with fail
 go_ret
 exact ⟨rfl, HG1.out⟩
theorem cmpLaysPl (blk off size : Nat) (w : World) : CmpLays Tryz.prog 82 #[] plC 33 cfP blk off size w := fun _ _ _ _ x y =>
 (cmp1_c x y _).mono fun _ _ ⟨he, q, os, h⟩ => ⟨he, q, os, h⟩
theorem sortPl_c (A : Option Addr) (c : Nat) (l : List Pl) (B : Nat) (w : World) (hR : OwnPl w B (.slice A l.length c) l) (hB : B ≤ w.heap.size) (hl : l.length ≤ 1000000) :
  Calls Tryz.prog 81 #[.slice A l.length c, .func (.func 82) #[] #[]] w fun e w' => e = .returned (.tuple #[]) ∧ ∃ m : List Pl, m.Perm l ∧ m.Pairwise (fun a b => ¬ cmpK b.k a.k < 0) ∧ PlA w' A m ∧ Below B w w' := by
 by_cases hne : l = []
 ·subst hne
  have := AnyF.slices_SortFunc_none lsortP A c (.func (.func 82) #[] #[]) w
  change Calls Tryz.prog 81 _ _ _ at this
  exact this.mono fun _ _ ⟨he, hw⟩ => ⟨he, [], List.Perm.refl _, List.Pairwise.nil, fun i p hi => by simp at hi, by rw [hw]; exact Below.refl _ _⟩
 ·have hpos : 0 < l.length := List.length_pos_iff.2 hne
  obtain ⟨h0, h | ⟨g, cap, cur, e, hg, hh, hr⟩⟩ := id hR
  ·omega
  ·cases e
   have hH := OwnPl.holds hR
   have eg : ∀ args w, (callFunc 82 args).run Tryz.prog w = .ok (.enter 82 args) w := enters_of Tryz.func82 (by kernel_rfl) rfl
   have hlt := lt_of_heap hh
   have := AnyQ.slices_SortFunc lsortP 33 Tryz.isAgg154 Tryz.sizeOf154 plC plC_len plC_one cfP swoP 82 #[] g 0 c l.toArray w eg (cmpLaysPl g 0 _ w) hH hlt (by simp; omega)
   change Calls Tryz.prog 81 _ _ _ at this
   simp only [List.size_toArray] at this
   refine this.mono fun _ _ ⟨he, d', n, os, hp, hs, hw⟩ => ⟨he, d'.toList, ?_, ?_, ?_, ?_⟩
   ·have h3 := hp.2.2
    have e1 : d'.extract 0 l.length = d' := by
     have : l.length = d'.size := by have := hp.1; simp at this; omega
     rw [this]; simp
    have e2 : l.toArray.extract 0 l.length = l.toArray := by
     have : l.length = l.toArray.size := by simp
     rw [this]; simp
    rw [e1, e2] at h3
    simpa using h3
   ·have hsz : d'.size = l.length := by have := hp.1; simpa using this
    rw [List.pairwise_iff_getElem]
    intro i j hi hj hij
    have h4 := hs i j (Nat.zero_le _) hij (by simp at hj; omega)
    rw [getElem!_pos _ _ (by simpa using hj), getElem!_pos _ _ (by simpa using hi)] at h4
    simp only [Array.getElem_toList]
    exact of_decide_eq_false h4
   ·rw [hw]
    exact pla_of_holds (holdsK_sortWorldK_c plC 33 w g 0 l.toArray d' n os hH hlt (by simpa using hp.1))
   ·rw [hw]
    exact below_sortPl hg hB
end
end Go.Proofs.YtkejfdgmdjfdoaaGreatDoor
