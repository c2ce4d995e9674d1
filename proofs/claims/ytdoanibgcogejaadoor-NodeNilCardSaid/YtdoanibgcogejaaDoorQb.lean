/- The program's asFull, asInner; Left, Right, Leaf. -/
import Derived.Test.YtdoanibgcogejaaDoorQa
import Derived.Test.YtdoanibgcogejaaDoorPs
import Derived.Test.YtdoanibgcogejaaDoorPt
namespace Go.Proofs.YtdoanibgcogejaaDoor
open Go.RowKit

theorem zeroInner : ∀ w, (zeroValue 75).run Tryd.prog w = .ok (.agg (inC (.pointer none) (.pointer none) 0)) w := fun _ => by kernel_rfl
attribute [go_sem ↓] zeroInner
theorem flC_size (r : List UInt8) (A : Option Addr) (l : List UInt8) (c : Nat) (h : r.length = 64) : (flC r A l c).size = 65 := by simp [flC, h]
theorem flC_one (r : List UInt8) (A : Option Addr) (l : List UInt8) (c : Nat) : (flC r A l c).all (·.oneCell') = true := by simp [flC, bv, Value.oneCell']
theorem inC_one (a b : Option Addr) (n : Int) : (inC (.pointer a) (.pointer b) n).all (·.oneCell') = true := by simp [inC, Value.oneCell']
theorem infoFull : (Tryd.prog.info? 71).map (·.size) = some 65 := by kernel_rfl
@[go_sem ↓] theorem execOp_storeFull (ρ : Operand → Value) (dst : Option Tmp) (x y : Operand) (type : TypeId) (pos : String) (after : Array Edge) (guard : Option (Nat × Bool)) (w : World) :
    Sem.run Tryd.prog (execOp ρ { dst, op := .store 71 x y, type, pos, after, guard }) w = stA 71 w (ρ x) (ρ y) := rfl
@[go_sem ↓] theorem execOp_loadFull (ρ : Operand → Value) (dst : Option Tmp) (x : Operand) (type : TypeId) (pos : String) (after : Array Edge) (guard : Option (Nat × Bool)) (w : World) :
    Sem.run Tryd.prog (execOp ρ { dst, op := .load 71 x, type, pos, after, guard }) w = ldA 71 w (ρ x) := rfl
theorem ldFull_row {w : World} {b : Nat} {t' : TypeId} {cs : Array Value} {fr : Nat × Nat} (h : w.heap[b]? = some (.cells cs t' fr)) (hs : cs.size = 65) : ldA 71 w (.pointer (some ⟨b, 0, none⟩)) = .ok (.value (.agg cs)) w := by
  unfold ldA
  simp only [Instr.loadAt, Instr.sureAddr, Sem.run_bind, Sem.run_pure, Result.andThen_ok]
  rw [run_loadVar_row (P := Tryd.prog) w b t' 71 cs fr _ h Tryd.underlying71 rfl (by rw [hs]; exact infoFull)]
  rfl
set_option maxHeartbeats 2000000 in
set_option maxRecDepth 100000 in
theorem asFull_of (w : World) (q : Option Addr) (cv : Value) (L : Array Value) (ok : Bool)
    (HC : Hid (Calls Tryd.prog 42 #[.pointer q] (w.alloc (.cells (flC z64 none [] 0) 71)) fun e w' => e = .returned cv ∧ w.alloc (.cells (flC z64 none [] 0) 71) = w'))
    (ta : ∀ w, (Instr.typeAssert cv 61 71 true).run Tryd.prog w = .ok (.tuple #[.agg L, .bool ok]) w) (hs : L.size = 65) (h1 : L.all (·.oneCell') = true) :
    Calls Tryd.prog 40 #[.pointer q] w fun e w' => e = .returned (.agg L) ∧ Below w.heap.size w w' := by
  have hb0 : Below w.heap.size w (w.alloc (.cells (flC z64 none [] 0) 71)) := (Below.refl _ _).alloc (Nat.le_refl _) _
  have st := stA_two (t := 71) w (.cells (flC z64 none [] 0) 71) (flC z64 none [] 0) L (by rw [hs]; exact infoFull) (by rw [hs]; rfl) h1
  have ld := ldFull_row (heap_alloc2_new w (.cells (flC z64 none [] 0) 71) (.cells L 71)) hs
  have ro := heap_alloc2_old w (.cells (flC z64 none [] 0) 71) (.cells L 71)
  have st2 := stA_row (t := 71) (v := L) ro (by rw [hs]; exact infoFull) (by rw [hs]; rfl) h1
  have HRO := Lib.hid (setRow_heap _ w.heap.size _ L 71 _ ro)
  have HBB : Hid (Below w.heap.size w (((w.alloc (.cells (flC z64 none [] 0) 71)).alloc (.cells L 71)).setRow w.heap.size L)) := below_setRow ((hb0.alloc (by simp) _)) (Nat.le_refl _) _
  have HS := Lib.hid hs
  clear ro hb0 hs h1
  go_enter Tryd.func40, Tryd.ntmps40
  go_wp2_with fail
  refine HC.out.mono ?_
  rintro _ _ ⟨rfl, rfl⟩
  go_wp2_with fail
  refine bodyPost_ret (v := .agg L) ?_ rfl ⟨rfl, HBB.out⟩
  exact results_cell_row Tryd.results40 _ _ w.heap.size 71 _ (0, 0) _ rfl HRO.out Tryd.underlying71 rfl (by rw [HS.out]; exact infoFull)
theorem infoInner : (Tryd.prog.info? 75).map (·.size) = some 3 := by kernel_rfl
@[go_sem ↓] theorem execOp_storeInner (ρ : Operand → Value) (dst : Option Tmp) (x y : Operand) (type : TypeId) (pos : String) (after : Array Edge) (guard : Option (Nat × Bool)) (w : World) :
    Sem.run Tryd.prog (execOp ρ { dst, op := .store 75 x y, type, pos, after, guard }) w = stA 75 w (ρ x) (ρ y) := rfl
@[go_sem ↓] theorem execOp_loadInner (ρ : Operand → Value) (dst : Option Tmp) (x : Operand) (type : TypeId) (pos : String) (after : Array Edge) (guard : Option (Nat × Bool)) (w : World) :
    Sem.run Tryd.prog (execOp ρ { dst, op := .load 75 x, type, pos, after, guard }) w = ldA 75 w (ρ x) := rfl
theorem ldInner_row {w : World} {b : Nat} {t' : TypeId} {cs : Array Value} {fr : Nat × Nat} (h : w.heap[b]? = some (.cells cs t' fr)) (hs : cs.size = 3) : ldA 75 w (.pointer (some ⟨b, 0, none⟩)) = .ok (.value (.agg cs)) w := by
  unfold ldA
  simp only [Instr.loadAt, Instr.sureAddr, Sem.run_bind, Sem.run_pure, Result.andThen_ok]
  rw [run_loadVar_row (P := Tryd.prog) w b t' 75 cs fr _ h Tryd.underlying75 rfl (by rw [hs]; exact infoInner)]
  rfl
set_option maxHeartbeats 2000000 in
set_option maxRecDepth 100000 in
theorem asInner_of (w : World) (q : Option Addr) (cv : Value) (L : Array Value) (ok : Bool)
    (HC : Hid (Calls Tryd.prog 42 #[.pointer q] (w.alloc (.cells (inC (.pointer none) (.pointer none) 0) 75)) fun e w' => e = .returned cv ∧ w.alloc (.cells (inC (.pointer none) (.pointer none) 0) 75) = w'))
    (ta : ∀ w, (Instr.typeAssert cv 61 75 true).run Tryd.prog w = .ok (.tuple #[.agg L, .bool ok]) w) (hs : L.size = 3) (h1 : L.all (·.oneCell') = true) :
    Calls Tryd.prog 43 #[.pointer q] w fun e w' => e = .returned (.agg L) ∧ Below w.heap.size w w' := by
  have hb0 : Below w.heap.size w (w.alloc (.cells (inC (.pointer none) (.pointer none) 0) 75)) := (Below.refl _ _).alloc (Nat.le_refl _) _
  have st := stA_two (t := 75) w (.cells (inC (.pointer none) (.pointer none) 0) 75) (inC (.pointer none) (.pointer none) 0) L (by rw [hs]; exact infoInner) (by rw [hs]; rfl) h1
  have ld := ldInner_row (heap_alloc2_new w (.cells (inC (.pointer none) (.pointer none) 0) 75) (.cells L 75)) hs
  have ro := heap_alloc2_old w (.cells (inC (.pointer none) (.pointer none) 0) 75) (.cells L 75)
  have st2 := stA_row (t := 75) (v := L) ro (by rw [hs]; exact infoInner) (by rw [hs]; rfl) h1
  have HRO := Lib.hid (setRow_heap _ w.heap.size _ L 75 _ ro)
  have HBB : Hid (Below w.heap.size w (((w.alloc (.cells (inC (.pointer none) (.pointer none) 0) 75)).alloc (.cells L 75)).setRow w.heap.size L)) := below_setRow ((hb0.alloc (by simp) _)) (Nat.le_refl _) _
  have HS := Lib.hid hs
  clear ro hb0 hs h1
  go_enter Tryd.func43, Tryd.ntmps43
  go_wp2_with fail
  refine HC.out.mono ?_
  rintro _ _ ⟨rfl, rfl⟩
  go_wp2_with fail
  refine bodyPost_ret (v := .agg L) ?_ rfl ⟨rfl, HBB.out⟩
  exact results_cell_row Tryd.results43 _ _ w.heap.size 75 _ (0, 0) _ rfl HRO.out Tryd.underlying75 rfl (by rw [HS.out]; exact infoInner)

theorem Mn.ptr {w : World} {n : Int} {T : Tv} (h : Mn w n T) : ∃ p, T.val = .pointer p := by
  rcases h.addr with rfl | ⟨a, ha⟩
  · exact ⟨none, rfl⟩
  · exact ⟨_, ha⟩
theorem leafV_len (n : Int) (t : Tr) (h : ∀ e, t = .leaf e → e.k.length = 32) : (leafV n t).length = 64 := by
  match t, h with
  | .nil, _ => rfl
  | .inner _ _, _ => rfl
  | .leaf e, h =>
    show (e.k ++ digL n (valL e.v)).length = 64
    rw [List.length_append, h e rfl, dig_len]
theorem Mn.lvl {w : World} {n : Int} {T : Tv} (h : Mn w n T) : (leafV n T.tr).length = 64 := leafV_len n T.tr fun e he => by
  match T, h with
  | .leaf v x, ⟨_, _, _, _, _, hx, _⟩ =>
    cases he
    exact hx.key
theorem asfull_n (w0 w : World) (n : Int) (T : Tv) (h : Mn w0 n T) (hw : Below w0.heap.size w0 w) : Calls Tryd.prog 40 #[T.val] w fun e w' => ∃ A c, e = .returned (.agg (flC (leafV n T.tr) A (entT T.tr).v c)) ∧ BA w0 A (entT T.tr).v ∧ Below w.heap.size w w' := by
  have hb0 : Below w0.heap.size w0 (w.alloc (.cells (flC z64 none [] 0) 71)) := hw.trans ((Below.refl _ _).alloc hw.size _)
  match T, h with
  | .nil, _ =>
    exact (asFull_of w none .nilIface (flC z64 none [] 0) false (contents_nil _) ta_nf rfl (flC_one _ _ _ _)).mono fun e w' ⟨he, hb⟩ => ⟨none, 0, he, (fun j x hj => by simp [entT, Tv.tr] at hj), hb⟩
  | .leaf v e, ⟨g, A, c, hv, hg, he, _⟩ =>
    rw [show (Tv.leaf v e).val = v from rfl, hv]
    exact (asFull_of w (some ⟨g, 0, none⟩) (.iface 71 (.agg (flC (e.k ++ digL n (valL e.v)) A e.v c))) (flC (e.k ++ digL n (valL e.v)) A e.v c) true (contents_at (hg.below hb0) (digT_len _ _)) (ta_ff _) (flC_size _ _ _ _ (by rw [List.length_append, dig_len]; have : e.k.length = 32 := he.key; omega)) (flC_one _ _ _ _)).mono fun x w' ⟨hx, hb⟩ => ⟨A, c, hx, he.val, hb⟩
  | .inner v a b, ⟨g, hv, hg, _, _⟩ =>
    rw [show (Tv.inner v a b).val = v from rfl, hv]
    exact (asFull_of w (some ⟨g, 0, none⟩) _ (flC z64 none [] 0) false (contents_at (hg.below hb0) (digT_len _ _)) (ta_if _) rfl (flC_one _ _ _ _)).mono fun e w' ⟨he, hb⟩ => ⟨none, 0, he, (fun j x hj => by simp [entT, Tv.tr] at hj), hb⟩
theorem asinner_n (w : World) (n : Int) (T : Tv) (h : Mn w n T) : Calls Tryd.prog 43 #[T.val] w fun e w' => ∃ k, e = .returned (.agg (inC T.left.val T.right.val k)) ∧ Below w.heap.size w w' := by
  have hb0 : Below w.heap.size w (w.alloc (.cells (inC (.pointer none) (.pointer none) 0) 75)) := (Below.refl _ _).alloc (Nat.le_refl _) _
  match T, h with
  | .nil, _ =>
    exact (asInner_of w none .nilIface (inC (.pointer none) (.pointer none) 0) false (contents_nil _) ta_ni rfl (inC_one _ _ _)).mono fun e w' ⟨he, hb⟩ => ⟨0, he, hb⟩
  | .leaf v e, ⟨g, A, c, hv, hg, he, _⟩ =>
    rw [show (Tv.leaf v e).val = v from rfl, hv]
    exact (asInner_of w (some ⟨g, 0, none⟩) _ (inC (.pointer none) (.pointer none) 0) false (contents_at (hg.below hb0) (digT_len _ _)) (ta_fi _) rfl (inC_one _ _ _)).mono fun e w' ⟨he, hb⟩ => ⟨0, he, hb⟩
  | .inner v a b, ⟨g, hv, hg, ha, hb'⟩ =>
    rw [show (Tv.inner v a b).left.val = a.val from rfl, show (Tv.inner v a b).right.val = b.val from rfl, show (Tv.inner v a b).val = v from rfl, hv]
    obtain ⟨pa, hpa⟩ := ha.ptr
    obtain ⟨pb, hpb⟩ := hb'.ptr
    have hc := contents_at (hg.below hb0) (digT_len _ _)
    rw [hpa, hpb] at hc ⊢
    exact (asInner_of w (some ⟨g, 0, none⟩) _ (inC (.pointer pa) (.pointer pb) ((lenT a.tr + lenT b.tr : Nat) : Int)) true hc (ta_ii _) rfl (inC_one _ _ _)).mono fun e w' ⟨he, hb⟩ => ⟨_, he, hb⟩
theorem fld_l (p q r : Value) (w : World) : (Instr.field 75 (.agg #[p, q, r]) 0).run Tryd.prog w = .ok p w := by kernel_rfl
theorem fld_r (p q r : Value) (w : World) : (Instr.field 75 (.agg #[p, q, r]) 1).run Tryd.prog w = .ok q w := by kernel_rfl
theorem Mn.left {w : World} {n : Int} {T : Tv} (h : Mn w n T) : Mn w n T.left := by
  match T, h with
  | .nil, _ => trivial
  | .leaf _ _, _ => trivial
  | .inner _ _ _, ⟨_, _, _, ha, _⟩ => exact ha
theorem Mn.right {w : World} {n : Int} {T : Tv} (h : Mn w n T) : Mn w n T.right := by
  match T, h with
  | .nil, _ => trivial
  | .leaf _ _, _ => trivial
  | .inner _ _ _, ⟨_, _, _, _, hb⟩ => exact hb
set_option maxHeartbeats 2000000 in
set_option maxRecDepth 100000 in
theorem left_n (w : World) (n : Int) (T : Tv) (h : Mn w n T) : Calls Tryd.prog 23 #[T.val] w fun e w' => e = .returned T.left.val ∧ Below w.heap.size w w' := by
  have HC := Lib.hid (asinner_n w n T h)
  obtain ⟨p, hp⟩ := h.ptr
  obtain ⟨pa, hpa⟩ := h.left.ptr
  obtain ⟨pb, hpb⟩ := h.right.ptr
  rw [hpa, hpb, hp] at HC
  rw [hp, hpa]
  clear h hp hpa hpb
  go_enter Tryd.func23, Tryd.ntmps23
  go_wp2_with fail
  refine HC.out.mono ?_
  rintro _ w1 ⟨k, rfl, hB⟩
  have HB := Lib.hid hB
  clear hB
  have fl := fld_l
  unfold inC
  go_wp2_with fail
  go_ret
  exact ⟨rfl, HB.out⟩
set_option maxHeartbeats 2000000 in
set_option maxRecDepth 100000 in
theorem right_n (w : World) (n : Int) (T : Tv) (h : Mn w n T) : Calls Tryd.prog 24 #[T.val] w fun e w' => e = .returned T.right.val ∧ Below w.heap.size w w' := by
  have HC := Lib.hid (asinner_n w n T h)
  obtain ⟨p, hp⟩ := h.ptr
  obtain ⟨pa, hpa⟩ := h.left.ptr
  obtain ⟨pb, hpb⟩ := h.right.ptr
  rw [hpa, hpb, hp] at HC
  rw [hp, hpb]
  clear h hp hpa hpb
  go_enter Tryd.func24, Tryd.ntmps24
  go_wp2_with fail
  refine HC.out.mono ?_
  rintro _ w1 ⟨k, rfl, hB⟩
  have HB := Lib.hid hB
  clear hB
  have fl := fld_r
  unfold inC
  go_wp2_with fail
  go_ret
  exact ⟨rfl, HB.out⟩
noncomputable def fldA (t : TypeId) (w : World) (v : Value) (i : Nat) : Result Next := Sem.run Tryd.prog (do pure (.value (← Instr.field t v i))) w
@[go_sem ↓] theorem execOp_fieldFull (ρ : Operand → Value) (dst : Option Tmp) (x : Operand) (i : Nat) (type : TypeId) (pos : String) (after : Array Edge) (guard : Option (Nat × Bool)) (w : World) :
    Sem.run Tryd.prog (execOp ρ { dst, op := .field 71 x i, type, pos, after, guard }) w = fldA 71 w (ρ x) i := rfl
theorem fld_f (f : Nat → UInt8) (A : Option Addr) (n c : Nat) (w : World) : fldA 71 w (.agg (((List.range 64).map f).map bv ++ [Value.slice A n c]).toArray) 0 = .ok (.value (.agg (bA ((List.range 64).map f)))) w := by kernel_rfl
theorem list64 (l : List UInt8) (h : l.length = 64) : l = (List.range 64).map fun j => l.getD j 0 := by
  refine List.ext_getElem (by simp [h]) fun j h1 h2 => ?_
  simp [List.getD_eq_getElem?_getD, h1]
theorem fld_leaf (r : List UInt8) (A : Option Addr) (l : List UInt8) (c : Nat) (h : r.length = 64) (w : World) : fldA 71 w (.agg (flC r A l c)) 0 = .ok (.value (.agg (bA r))) w := by
  have := fld_f (fun j => r.getD j 0) A l.length c w
  rw [← list64 r h] at this
  exact this
set_option maxHeartbeats 4000000 in
set_option maxRecDepth 100000 in
theorem leafOf_n (w : World) (n : Int) (T : Tv) (h : Mn w n T) : Calls Tryd.prog 19 #[T.val] w fun e w' => e = .returned (.agg (bA (leafV n T.tr))) ∧ Below w.heap.size w w' := by
  obtain ⟨X, hX⟩ : ∃ X, X = w.alloc (.cells (bA z64) 44) := ⟨_, rfl⟩
  have hb0 : Below w.heap.size w X := by rw [hX]; exact (Below.refl _ _).alloc (Nat.le_refl _) _
  have r0 : X.heap[w.heap.size]? = some (.cells (bA z64) 44 (0, 0)) := by rw [hX]; exact heap_alloc_new w _
  have hl := h.lvl
  have HC := Lib.hid (asfull_n w X n T h hb0)
  obtain ⟨p, hp⟩ := h.ptr
  rw [hp] at HC ⊢
  obtain ⟨r, hr⟩ : ∃ r, r = leafV n T.tr := ⟨_, rfl⟩
  rw [← hr] at hl HC ⊢
  have HX := Lib.hid hX
  have HR0 := Lib.hid r0
  have HB0 := Lib.hid hb0
  have HL := Lib.hid hl
  clear h hX hb0 r0 hp hl hr
  go_enter Tryd.func19, Tryd.ntmps19
  go_wp2_with fail
  rw [← HX.out]
  refine HC.out.mono ?_
  rintro _ w1 ⟨A, c, rfl, _, hB⟩
  have fl := fld_leaf r A (entT T.tr).v c HL.out w1
  have hr1 : w1.heap[w.heap.size]? = some (.cells (bA z64) 44 (0, 0)) := by rw [hB.block _ (lt_of_heap HR0.out)]; exact HR0.out
  have st := stA_row (t := 44) (v := bA r) hr1 (by rw [bA_size, HL.out]; exact infoLeaf) (by rw [bA_size, bA_size, HL.out]; rfl) (bA_one _)
  have HM := Lib.hid (setRow_heap _ w.heap.size _ (bA r) 44 _ hr1)
  have HBB : Hid (Below w.heap.size w (w1.setRow w.heap.size (bA r))) := below_setRow (HB0.out.trans (hB.mono HB0.out.size)) (Nat.le_refl _) _
  obtain ⟨L, hL⟩ : ∃ L, L = flC r A (entT T.tr).v c := ⟨_, rfl⟩
  rw [← hL] at fl ⊢
  clear hr1 hB hL
  go_wp2_with fail
  refine bodyPost_ret (v := .agg (bA r)) ?_ rfl ⟨rfl, HBB.out⟩
  exact results_cell_row Tryd.results19 _ _ w.heap.size 44 _ (0, 0) _ rfl HM.out Tryd.underlying44 rfl (by rw [bA_size, HL.out]; exact infoLeaf)
end Go.Proofs.YtdoanibgcogejaaDoor
