import Derived.Test.YtmfbhohjpkmllaaGreatDoorM6
import Derived.Test.YtmfbhohjpkmllaaGreatDoorMP
import Derived.Test.YtmfbhohjpkmllaaGreatDoorCl
namespace Go.Proofs.YtmfbhohjpkmllaaGreatDoor
set_option linter.unusedSimpArgs false
set_option linter.unusedVariables false
set_option maxHeartbeats 8000000
set_option maxRecDepth 100000
section
open Go.RowKit
def flC (r : List UInt8) (A : Option Addr) (l : List UInt8) (c : Nat) : Array Value := (r.map bv ++ [Value.slice A l.length c]).toArray
def inC (a b : Value) (n : Int) : Array Value := #[a, b, .int .i64 n]
def nodeC (g : List UInt8) (c : Value) : Array Value := (g.map bv ++ [c]).toArray
def NodeAt (w : World) (g : Nat) (d : List UInt8) (c : Value) : Prop := w.heap[g]? = some (.cells (nodeC d c) 148 (0, 0))
def Mn (w : World) (n : Int) : Tv → Prop
 | .nil => True
 | .leaf v e => ∃ g A c, v = ptr g ∧ NodeAt w g (digT n (.leaf e)) (.iface 111 (.agg (flC (e.k ++ digL n (valL e.v)) A e.v c))) ∧ EnOk w ⟨e.k, A, e.v, c⟩ ∧ e.v.length ≤ 1000
 | .inner v a b => ∃ g, v = ptr g ∧ NodeAt w g (digT n (.inner a.tr b.tr)) (.iface 113 (.agg (inC a.val b.val ((lenT a.tr + lenT b.tr : Nat) : Int)))) ∧ Mn w n a ∧ Mn w n b
theorem NodeAt.cell {w : World} {g : Nat} {d : List UInt8} {c : Value} (h : NodeAt w g d c) (hd : d.length = 32) : w.cell? ⟨g, 32, none⟩ = some c := by
 rw [cell_of_cells h]
 unfold nodeC
 simp only [List.getElem?_toArray]
 rw [List.getElem?_append_right (by simp [hd])]
 simp [hd]
theorem NodeAt.dig {w : World} {g : Nat} {d : List UInt8} {c : Value} (h : NodeAt w g d c) (hd : d.length = 32) : ldA 45 w (.pointer (some ⟨g, 0, none⟩)) = .ok (.value (.agg (bA d))) w := by
 have := ldA_of (t := 45) (w := w) (b := g) (o := 0) (cs := d.map bv) (fun j v hv => by
  rw [Nat.zero_add, cell_of_cells h]
  unfold nodeC
  simp only [List.getElem?_toArray]
  rw [List.getElem?_append_left (List.getElem?_eq_some_iff.1 hv).1]
  exact hv) Tryz.underlying45 (by rw [List.length_map, hd]; exact info26)
 exact this
theorem NodeAt.below {w w' : World} {g : Nat} {d : List UInt8} {c : Value} (h : NodeAt w g d c) (hb : Below w.heap.size w w') : NodeAt w' g d c := by
 unfold NodeAt
 rw [hb.block g (lt_of_heap h)]
 exact h
theorem Mn.below {n : Int} : ∀ {T : Tv} {w w' : World}, Mn w n T → Below w.heap.size w w' → Mn w' n T
 | .nil, _, _, _, _ => trivial
 | .leaf _ _, _, _, ⟨g, A, c, hv, hg, he, hl⟩, hb => ⟨g, A, c, hv, hg.below hb, he.below hb, hl⟩
 | .inner _ _ _, _, _, ⟨g, hv, hg, ha, hb'⟩, hb => ⟨g, hv, hg.below hb, Mn.below ha hb, Mn.below hb' hb⟩
theorem NodeAt.hs {w w' : World} {g b : Nat} {d : List UInt8} {c : Value} {k : Int} {m : Nat} (h : NodeAt w g d c) (hd : d.length = 32) (hh : Hs w b k m) (hk : Keep (fun i => i = b) w w') : NodeAt w' g d c :=
 hk.heap h fun e => by
  have e2 : g = b := e
  subst e2
  have h1 := h.cell hd
  rw [cell_of_cells hh] at h1
  simp at h1
theorem Mn.hs {n : Int} : ∀ {T : Tv} {w w' : World} {b : Nat} {k : Int} {m : Nat}, Mn w n T → Hs w b k m → Keep (fun i => i = b) w w' → Mn w' n T
 | .nil, _, _, _, _, _, _, _, _ => trivial
 | .leaf _ _, _, _, _, _, _, ⟨g, A, c, hv, hg, he, hl⟩, hh, hk => ⟨g, A, c, hv, hg.hs (digT_len _ _) hh hk, hh.ok he hk, hl⟩
 | .inner _ _ _, _, _, _, _, _, ⟨g, hv, hg, ha, hb'⟩, hh, hk => ⟨g, hv, hg.hs (digT_len _ _) hh hk, Mn.hs ha hh hk, Mn.hs hb' hh hk⟩
theorem Mn.addr {w : World} {n : Int} {T : Tv} (h : Mn w n T) : T = .nil ∨ ∃ a, T.val = .pointer (some a) := by
 match T, h with
 | .nil, _ => exact .inl rfl
 | .leaf v e, ⟨g, A, c, hv, _⟩ => exact .inr ⟨_, hv⟩
 | .inner v a b, ⟨g, hv, _⟩ => exact .inr ⟨_, hv⟩
theorem zeroFull : ∀ w, (zeroValue 111).run Tryz.prog w = .ok (.agg (flC z64 none [] 0)) w := fun _ => by kernel_rfl
attribute [go_sem ↓] zeroFull
theorem na_full (v : Array Value) (w : World) : (nilAhead 307 111 (.agg v) "sparsetree/node.leaves").run Tryz.prog w = .ok (some false) w := by kernel_rfl
theorem na_inner (v : Array Value) (w : World) : (nilAhead 307 113 (.agg v) "sparsetree/node.leaves").run Tryz.prog w = .ok (some false) w := by kernel_rfl
theorem ta_ff (v : Value) (w : World) : (Instr.typeAssert (.iface 111 v) 108 111 true).run Tryz.prog w = .ok (.tuple #[v, .bool true]) w := by kernel_rfl
theorem ta_ii (v : Value) (w : World) : (Instr.typeAssert (.iface 113 v) 108 113 true).run Tryz.prog w = .ok (.tuple #[v, .bool true]) w := by kernel_rfl
theorem ta_fi (v : Value) (w : World) : (Instr.typeAssert (.iface 111 v) 108 113 true).run Tryz.prog w = .ok (.tuple #[.agg (inC (.pointer none) (.pointer none) 0), .bool false]) w := by kernel_rfl
theorem ta_if (v : Value) (w : World) : (Instr.typeAssert (.iface 113 v) 108 111 true).run Tryz.prog w = .ok (.tuple #[.agg (flC z64 none [] 0), .bool false]) w := by kernel_rfl
theorem ta_nf (w : World) : (Instr.typeAssert .nilIface 108 111 true).run Tryz.prog w = .ok (.tuple #[.agg (flC z64 none [] 0), .bool false]) w := by kernel_rfl
theorem ta_ni (w : World) : (Instr.typeAssert .nilIface 108 113 true).run Tryz.prog w = .ok (.tuple #[.agg (inC (.pointer none) (.pointer none) 0), .bool false]) w := by kernel_rfl
theorem leavesfull_c (v : Array Value) (w : World) : Calls Tryz.prog 145 #[.agg v] w fun e w' => e = .returned (.int .i64 1) ∧ Below w.heap.size w w' := by
 go_enter Tryz.func145, Tryz.ntmps145
 go_wp2
 go_ret
 exact ⟨rfl, (Below.refl _ _).alloc (Nat.le_refl _) _⟩
theorem leavesinner_c (a b : Value) (n : Int) (w : World) : Calls Tryz.prog 146 #[.agg #[a, b, .int .i64 n]] w fun e w' => e = .returned (.int .i64 n) ∧ Below w.heap.size w w' := by
 go_enter Tryz.func146, Tryz.ntmps146
 go_wp2
 go_ret
 exact ⟨rfl, (Below.refl _ _).alloc (Nat.le_refl _) _⟩
theorem contents_at {w : World} {g : Nat} {d : List UInt8} {t : TypeId} {v : Value} (hg : NodeAt w g d (.iface t v)) (hd : d.length = 32) : Calls Tryz.prog 56 #[.pointer (some ⟨g, 0, none⟩)] w fun e w' => e = .returned (.iface t v) ∧ w = w' := by
 have hc := hg.cell hd
 clear hg
 go_enter Tryz.func56, Tryz.ntmps56
 go_wp2_with fail
 go_ret
 exact ⟨rfl, rfl⟩
theorem contents_nil (w : World) : Calls Tryz.prog 56 #[.pointer none] w fun e w' => e = .returned .nilIface ∧ w = w' := by
 go_enter Tryz.func56, Tryz.ntmps56
 go_wp2_with fail
 go_ret
 exact ⟨rfl, rfl⟩
theorem kind_n (w : World) (n : Int) (T : Tv) (h : Mn w n T) : Calls Tryz.prog 31 #[T.val] w fun e w' => e = .returned (.int .i64 (kindT T.tr)) ∧ Below w.heap.size w w' := by
 match T, h with
 | .nil, _ =>
  rw [show (Tv.nil).val = .pointer none from rfl, show kindT (Tv.nil).tr = 0 from rfl]
  have ta := ta_nf
  have tb := ta_ni
  have HC : Hid (Calls Tryz.prog 56 #[.pointer none] w fun e w' => e = .returned .nilIface ∧ w = w') := contents_nil w
  go_enter Tryz.func31, Tryz.ntmps31
  go_wp2_with fail
  refine HC.out.mono ?_
  rintro _ _ ⟨rfl, rfl⟩
  go_wp2_with fail
  go_ret
  exact ⟨rfl, Below.refl _ _⟩
 | .leaf v e, ⟨g, A, c, hv, hg, _, _⟩ =>
  rw [show (Tv.leaf v e).val = v from rfl, show kindT (Tv.leaf v e).tr = 1 from rfl, hv]
  have ta := ta_ff
  obtain ⟨L, hL⟩ : ∃ L, L = flC (e.k ++ digL n (valL e.v)) A e.v c := ⟨_, rfl⟩
  rw [← hL] at hg
  have HC : Hid (Calls Tryz.prog 56 #[.pointer (some ⟨g, 0, none⟩)] w fun e w' => e = .returned (.iface 111 (.agg L)) ∧ w = w') := contents_at hg (digT_len _ _)
  clear hg hv hL
  unfold ptr
  go_enter Tryz.func31, Tryz.ntmps31
  go_wp2_with fail
  refine HC.out.mono ?_
  rintro _ _ ⟨rfl, rfl⟩
  go_wp2_with fail
  go_ret
  exact ⟨rfl, Below.refl _ _⟩
 | .inner v a b, ⟨g, hv, hg, _, _⟩ =>
  rw [show (Tv.inner v a b).val = v from rfl, show kindT (Tv.inner v a b).tr = 2 from rfl, hv]
  have ta := ta_if
  have tb := ta_ii
  obtain ⟨L, hL⟩ : ∃ L, L = inC a.val b.val ((lenT a.tr + lenT b.tr : Nat) : Int) := ⟨_, rfl⟩
  rw [← hL] at hg
  have HC : Hid (Calls Tryz.prog 56 #[.pointer (some ⟨g, 0, none⟩)] w fun e w' => e = .returned (.iface 113 (.agg L)) ∧ w = w') := contents_at hg (digT_len _ _)
  clear hg hv hL
  unfold ptr
  go_enter Tryz.func31, Tryz.ntmps31
  go_wp2_with fail
  refine HC.out.mono ?_
  rintro _ _ ⟨rfl, rfl⟩
  go_wp2_with fail
  go_ret
  exact ⟨rfl, Below.refl _ _⟩
theorem len_n (w : World) (n : Int) (T : Tv) (h : Mn w n T) (_hl : lenT T.tr ≤ 1000000000) : Calls Tryz.prog 87 #[T.val] w fun e w' => e = .returned (.int .i64 (lenT T.tr : Int)) ∧ Below w.heap.size w w' := by
 match T, h with
 | .nil, _ =>
  rw [show (Tv.nil).val = .pointer none from rfl, show lenT (Tv.nil).tr = 0 from rfl]
  have HC : Hid (Calls Tryz.prog 56 #[.pointer none] w fun e w' => e = .returned .nilIface ∧ w = w') := contents_nil w
  go_enter Tryz.func87, Tryz.ntmps87
  go_wp2_with fail
  refine HC.out.mono ?_
  rintro _ _ ⟨rfl, rfl⟩
  go_wp2_with fail
  go_ret
  exact ⟨rfl, Below.refl _ _⟩
 | .leaf v e, ⟨g, A, c, hv, hg, _, _⟩ =>
  rw [show (Tv.leaf v e).val = v from rfl, show lenT (Tv.leaf v e).tr = 1 from rfl, hv]
  obtain ⟨L, hL⟩ : ∃ L, L = flC (e.k ++ digL n (valL e.v)) A e.v c := ⟨_, rfl⟩
  rw [← hL] at hg
  have na := na_full L
  have HC : Hid (Calls Tryz.prog 56 #[.pointer (some ⟨g, 0, none⟩)] w fun e w' => e = .returned (.iface 111 (.agg L)) ∧ w = w') := contents_at hg (digT_len _ _)
  clear hg hv hL
  unfold ptr
  go_enter Tryz.func87, Tryz.ntmps87
  go_wp2_with fail
  refine HC.out.mono ?_
  rintro _ _ ⟨rfl, rfl⟩
  go_wp2_with fail
  refine (leavesfull_c L _).mono ?_
  rintro _ w1 ⟨rfl, hB⟩
  have HB := Lib.hid hB
  clear hB
  go_wp2_with fail
  go_ret
  exact ⟨rfl, HB.out⟩
 | .inner v a b, ⟨g, hv, hg, _, _⟩ =>
  rw [show (Tv.inner v a b).val = v from rfl, show lenT (Tv.inner v a b).tr = lenT a.tr + lenT b.tr from rfl, hv]
  have HL := Lib.hid (leavesinner_c a.val b.val ((lenT a.tr + lenT b.tr : Nat) : Int))
  change Hid (∀ w, Calls Tryz.prog 146 #[.agg (inC a.val b.val ((lenT a.tr + lenT b.tr : Nat) : Int))] w _) at HL
  obtain ⟨L, hL⟩ : ∃ L, L = inC a.val b.val ((lenT a.tr + lenT b.tr : Nat) : Int) := ⟨_, rfl⟩
  rw [← hL] at hg HL
  have na := na_inner L
  have HC : Hid (Calls Tryz.prog 56 #[.pointer (some ⟨g, 0, none⟩)] w fun e w' => e = .returned (.iface 113 (.agg L)) ∧ w = w') := contents_at hg (digT_len _ _)
  clear hg hv hL
  unfold ptr
  go_enter Tryz.func87, Tryz.ntmps87
  go_wp2_with fail
  refine HC.out.mono ?_
  rintro _ _ ⟨rfl, rfl⟩
  go_wp2_with fail
  refine (HL.out _).mono ?_
  rintro _ w1 ⟨rfl, hB⟩
  have HB := Lib.hid hB
  clear hB
  go_wp2_with fail
  go_ret
  exact ⟨rfl, HB.out⟩
end
section
open Go.RowKit
theorem zeroInner : ∀ w, (zeroValue 113).run Tryz.prog w = .ok (.agg (inC (.pointer none) (.pointer none) 0)) w := fun _ => by kernel_rfl
attribute [go_sem ↓] zeroInner
theorem flC_size (r : List UInt8) (A : Option Addr) (l : List UInt8) (c : Nat) (h : r.length = 64) : (flC r A l c).size = 65 := by simp [flC, h]
theorem flC_one (r : List UInt8) (A : Option Addr) (l : List UInt8) (c : Nat) : (flC r A l c).all (·.oneCell') = true := by simp [flC, bv, Value.oneCell']
theorem inC_one (a b : Option Addr) (n : Int) : (inC (.pointer a) (.pointer b) n).all (·.oneCell') = true := by simp [inC, Value.oneCell']
theorem infoFull : (Tryz.prog.info? 111).map (·.size) = some 65 := by kernel_rfl
@[go_sem ↓] theorem execOp_storeFull (ρ : Operand → Value) (dst : Option Tmp) (x y : Operand) (type : TypeId) (pos : String) (after : Array Edge) (guard : Option (Nat × Bool)) (w : World) :
  Sem.run Tryz.prog (execOp ρ { dst, op := .store 111 x y, type, pos, after, guard }) w = stA 111 w (ρ x) (ρ y) := rfl
@[go_sem ↓] theorem execOp_loadFull (ρ : Operand → Value) (dst : Option Tmp) (x : Operand) (type : TypeId) (pos : String) (after : Array Edge) (guard : Option (Nat × Bool)) (w : World) :
  Sem.run Tryz.prog (execOp ρ { dst, op := .load 111 x, type, pos, after, guard }) w = ldA 111 w (ρ x) := rfl
theorem ldFull_row {w : World} {b : Nat} {t' : TypeId} {cs : Array Value} {fr : Nat × Nat} (h : w.heap[b]? = some (.cells cs t' fr)) (hs : cs.size = 65) : ldA 111 w (.pointer (some ⟨b, 0, none⟩)) = .ok (.value (.agg cs)) w := by
 unfold ldA
 simp only [Instr.loadAt, Instr.sureAddr, Sem.run_bind, Sem.run_pure, Result.andThen_ok]
 rw [run_loadVar_row (P := Tryz.prog) w b t' 111 cs fr _ h Tryz.underlying111 rfl (by rw [hs]; exact infoFull)]
 rfl
theorem asFull_of (w : World) (q : Option Addr) (cv : Value) (L : Array Value) (ok : Bool)
  (HC : Hid (Calls Tryz.prog 56 #[.pointer q] (w.alloc (.cells (flC z64 none [] 0) 111)) fun e w' => e = .returned cv ∧ w.alloc (.cells (flC z64 none [] 0) 111) = w'))
  (ta : ∀ w, (Instr.typeAssert cv 108 111 true).run Tryz.prog w = .ok (.tuple #[.agg L, .bool ok]) w) (hs : L.size = 65) (h1 : L.all (·.oneCell') = true) :
  Calls Tryz.prog 57 #[.pointer q] w fun e w' => e = .returned (.agg L) ∧ Below w.heap.size w w' := by
 have hb0 : Below w.heap.size w (w.alloc (.cells (flC z64 none [] 0) 111)) := (Below.refl _ _).alloc (Nat.le_refl _) _
 have st := stA_two (t := 111) w (.cells (flC z64 none [] 0) 111) (flC z64 none [] 0) L (by rw [hs]; exact infoFull) (by rw [hs]; rfl) h1
 have ld := ldFull_row (heap_alloc2_new w (.cells (flC z64 none [] 0) 111) (.cells L 111)) hs
 have ro := heap_alloc2_old w (.cells (flC z64 none [] 0) 111) (.cells L 111)
 have st2 := stA_row (t := 111) (v := L) ro (by rw [hs]; exact infoFull) (by rw [hs]; rfl) h1
 have HRO := Lib.hid (setRow_heap _ w.heap.size _ L 111 _ ro)
 have HBB : Hid (Below w.heap.size w (((w.alloc (.cells (flC z64 none [] 0) 111)).alloc (.cells L 111)).setRow w.heap.size L)) := below_setRow ((hb0.alloc (by simp) _)) (Nat.le_refl _) _
 have HS := Lib.hid hs
 clear ro hb0 hs h1
 go_enter Tryz.func57, Tryz.ntmps57
 go_wp2_with fail
 refine HC.out.mono ?_
 rintro _ _ ⟨rfl, rfl⟩
 go_wp2_with fail
 refine bodyPost_ret (v := .agg L) ?_ rfl ⟨rfl, HBB.out⟩
 exact results_cell_row Tryz.results57 _ _ w.heap.size 111 _ (0, 0) _ rfl HRO.out Tryz.underlying111 rfl (by rw [HS.out]; exact infoFull)
theorem infoInner : (Tryz.prog.info? 113).map (·.size) = some 3 := by kernel_rfl
@[go_sem ↓] theorem execOp_storeInner (ρ : Operand → Value) (dst : Option Tmp) (x y : Operand) (type : TypeId) (pos : String) (after : Array Edge) (guard : Option (Nat × Bool)) (w : World) :
  Sem.run Tryz.prog (execOp ρ { dst, op := .store 113 x y, type, pos, after, guard }) w = stA 113 w (ρ x) (ρ y) := rfl
@[go_sem ↓] theorem execOp_loadInner (ρ : Operand → Value) (dst : Option Tmp) (x : Operand) (type : TypeId) (pos : String) (after : Array Edge) (guard : Option (Nat × Bool)) (w : World) :
  Sem.run Tryz.prog (execOp ρ { dst, op := .load 113 x, type, pos, after, guard }) w = ldA 113 w (ρ x) := rfl
theorem ldInner_row {w : World} {b : Nat} {t' : TypeId} {cs : Array Value} {fr : Nat × Nat} (h : w.heap[b]? = some (.cells cs t' fr)) (hs : cs.size = 3) : ldA 113 w (.pointer (some ⟨b, 0, none⟩)) = .ok (.value (.agg cs)) w := by
 unfold ldA
 simp only [Instr.loadAt, Instr.sureAddr, Sem.run_bind, Sem.run_pure, Result.andThen_ok]
 rw [run_loadVar_row (P := Tryz.prog) w b t' 113 cs fr _ h Tryz.underlying113 rfl (by rw [hs]; exact infoInner)]
 rfl
theorem asInner_of (w : World) (q : Option Addr) (cv : Value) (L : Array Value) (ok : Bool)
  (HC : Hid (Calls Tryz.prog 56 #[.pointer q] (w.alloc (.cells (inC (.pointer none) (.pointer none) 0) 113)) fun e w' => e = .returned cv ∧ w.alloc (.cells (inC (.pointer none) (.pointer none) 0) 113) = w'))
  (ta : ∀ w, (Instr.typeAssert cv 108 113 true).run Tryz.prog w = .ok (.tuple #[.agg L, .bool ok]) w) (hs : L.size = 3) (h1 : L.all (·.oneCell') = true) :
  Calls Tryz.prog 91 #[.pointer q] w fun e w' => e = .returned (.agg L) ∧ Below w.heap.size w w' := by
 have hb0 : Below w.heap.size w (w.alloc (.cells (inC (.pointer none) (.pointer none) 0) 113)) := (Below.refl _ _).alloc (Nat.le_refl _) _
 have st := stA_two (t := 113) w (.cells (inC (.pointer none) (.pointer none) 0) 113) (inC (.pointer none) (.pointer none) 0) L (by rw [hs]; exact infoInner) (by rw [hs]; rfl) h1
 have ld := ldInner_row (heap_alloc2_new w (.cells (inC (.pointer none) (.pointer none) 0) 113) (.cells L 113)) hs
 have ro := heap_alloc2_old w (.cells (inC (.pointer none) (.pointer none) 0) 113) (.cells L 113)
 have st2 := stA_row (t := 113) (v := L) ro (by rw [hs]; exact infoInner) (by rw [hs]; rfl) h1
 have HRO := Lib.hid (setRow_heap _ w.heap.size _ L 113 _ ro)
 have HBB : Hid (Below w.heap.size w (((w.alloc (.cells (inC (.pointer none) (.pointer none) 0) 113)).alloc (.cells L 113)).setRow w.heap.size L)) := below_setRow ((hb0.alloc (by simp) _)) (Nat.le_refl _) _
 have HS := Lib.hid hs
 clear ro hb0 hs h1
 go_enter Tryz.func91, Tryz.ntmps91
 go_wp2_with fail
 refine HC.out.mono ?_
 rintro _ _ ⟨rfl, rfl⟩
 go_wp2_with fail
 refine bodyPost_ret (v := .agg L) ?_ rfl ⟨rfl, HBB.out⟩
 exact results_cell_row Tryz.results91 _ _ w.heap.size 113 _ (0, 0) _ rfl HRO.out Tryz.underlying113 rfl (by rw [HS.out]; exact infoInner)
theorem Mn.ptr {w : World} {n : Int} {T : Tv} (h : Mn w n T) : ∃ p, T.val = .pointer p := by
 rcases h.addr with rfl | ⟨a, ha⟩
 ·exact ⟨none, rfl⟩
 ·exact ⟨_, ha⟩
theorem leafV_len (n : Int) (t : Tr) (h : ∀ e, t = .leaf e → e.k.length = 32) : (leafV n t).length = 64 := by
 match t, h with
 | .nil, _ => rfl
 | .inner _ _, _ => rfl
 | .leaf e, h =>
  show (e.k ++ digL n (valL e.v)).length = 64
  rw [List.length_append, h e rfl, dig_len]
theorem Mn.lvl {w : World} {n : Int} {T : Tv} (h : Mn w n T) : (leafV n T.tr).length = 64 := leafV_len n T.tr fun e he => by
 match T, h with
 | .leaf v x, ⟨_, _, _, _, _, hx, _⟩ =>
  cases he
  exact hx.key
theorem asfull_n (w0 w : World) (n : Int) (T : Tv) (h : Mn w0 n T) (hw : Below w0.heap.size w0 w) : Calls Tryz.prog 57 #[T.val] w fun e w' => ∃ A c, e = .returned (.agg (flC (leafV n T.tr) A (entT T.tr).v c)) ∧ BA w0 A (entT T.tr).v ∧ Below w.heap.size w w' := by
 have hb0 : Below w0.heap.size w0 (w.alloc (.cells (flC z64 none [] 0) 111)) := hw.trans ((Below.refl _ _).alloc hw.size _)
 match T, h with
 | .nil, _ =>
  exact (asFull_of w none .nilIface (flC z64 none [] 0) false (contents_nil _) ta_nf rfl (flC_one _ _ _ _)).mono fun e w' ⟨he, hb⟩ => ⟨none, 0, he, (fun j x hj => by simp [entT, Tv.tr] at hj), hb⟩
 | .leaf v e, ⟨g, A, c, hv, hg, he, _⟩ =>
  rw [show (Tv.leaf v e).val = v from rfl, hv]
  exact (asFull_of w (some ⟨g, 0, none⟩) (.iface 111 (.agg (flC (e.k ++ digL n (valL e.v)) A e.v c))) (flC (e.k ++ digL n (valL e.v)) A e.v c) true (contents_at (hg.below hb0) (digT_len _ _)) (ta_ff _) (flC_size _ _ _ _ (by rw [List.length_append, dig_len]; have : e.k.length = 32 := he.key; omega)) (flC_one _ _ _ _)).mono fun x w' ⟨hx, hb⟩ => ⟨A, c, hx, he.val, hb⟩
 | .inner v a b, ⟨g, hv, hg, _, _⟩ =>
  rw [show (Tv.inner v a b).val = v from rfl, hv]
  exact (asFull_of w (some ⟨g, 0, none⟩) _ (flC z64 none [] 0) false (contents_at (hg.below hb0) (digT_len _ _)) (ta_if _) rfl (flC_one _ _ _ _)).mono fun e w' ⟨he, hb⟩ => ⟨none, 0, he, (fun j x hj => by simp [entT, Tv.tr] at hj), hb⟩
theorem asinner_n (w : World) (n : Int) (T : Tv) (h : Mn w n T) : Calls Tryz.prog 91 #[T.val] w fun e w' => ∃ k, e = .returned (.agg (inC T.left.val T.right.val k)) ∧ Below w.heap.size w w' := by
 have hb0 : Below w.heap.size w (w.alloc (.cells (inC (.pointer none) (.pointer none) 0) 113)) := (Below.refl _ _).alloc (Nat.le_refl _) _
 match T, h with
 | .nil, _ =>
  exact (asInner_of w none .nilIface (inC (.pointer none) (.pointer none) 0) false (contents_nil _) ta_ni rfl (inC_one _ _ _)).mono fun e w' ⟨he, hb⟩ => ⟨0, he, hb⟩
 | .leaf v e, ⟨g, A, c, hv, hg, he, _⟩ =>
  rw [show (Tv.leaf v e).val = v from rfl, hv]
  exact (asInner_of w (some ⟨g, 0, none⟩) _ (inC (.pointer none) (.pointer none) 0) false (contents_at (hg.below hb0) (digT_len _ _)) (ta_fi _) rfl (inC_one _ _ _)).mono fun e w' ⟨he, hb⟩ => ⟨0, he, hb⟩
 | .inner v a b, ⟨g, hv, hg, ha, hb'⟩ =>
  rw [show (Tv.inner v a b).left.val = a.val from rfl, show (Tv.inner v a b).right.val = b.val from rfl, show (Tv.inner v a b).val = v from rfl, hv]
  obtain ⟨pa, hpa⟩ := ha.ptr
  obtain ⟨pb, hpb⟩ := hb'.ptr
  have hc := contents_at (hg.below hb0) (digT_len _ _)
  rw [hpa, hpb] at hc ⊢
  exact (asInner_of w (some ⟨g, 0, none⟩) _ (inC (.pointer pa) (.pointer pb) ((lenT a.tr + lenT b.tr : Nat) : Int)) true hc (ta_ii _) rfl (inC_one _ _ _)).mono fun e w' ⟨he, hb⟩ => ⟨_, he, hb⟩
theorem fld_l (p q r : Value) (w : World) : (Instr.field 113 (.agg #[p, q, r]) 0).run Tryz.prog w = .ok p w := by kernel_rfl
theorem fld_r (p q r : Value) (w : World) : (Instr.field 113 (.agg #[p, q, r]) 1).run Tryz.prog w = .ok q w := by kernel_rfl
theorem Mn.left {w : World} {n : Int} {T : Tv} (h : Mn w n T) : Mn w n T.left := by
 match T, h with
 | .nil, _ => trivial
 | .leaf _ _, _ => trivial
 | .inner _ _ _, ⟨_, _, _, ha, _⟩ => exact ha
theorem Mn.right {w : World} {n : Int} {T : Tv} (h : Mn w n T) : Mn w n T.right := by
 match T, h with
 | .nil, _ => trivial
 | .leaf _ _, _ => trivial
 | .inner _ _ _, ⟨_, _, _, _, hb⟩ => exact hb
theorem left_n (w : World) (n : Int) (T : Tv) (h : Mn w n T) : Calls Tryz.prog 64 #[T.val] w fun e w' => e = .returned T.left.val ∧ Below w.heap.size w w' := by
 have HC := Lib.hid (asinner_n w n T h)
 obtain ⟨p, hp⟩ := h.ptr
 obtain ⟨pa, hpa⟩ := h.left.ptr
 obtain ⟨pb, hpb⟩ := h.right.ptr
 rw [hpa, hpb, hp] at HC
 rw [hp, hpa]
 clear h hp hpa hpb
 go_enter Tryz.func64, Tryz.ntmps64
 go_wp2_with fail
 refine HC.out.mono ?_
 rintro _ w1 ⟨k, rfl, hB⟩
 have HB := Lib.hid hB
 clear hB
 have fl := fld_l
 unfold inC
 go_wp2_with fail
 go_ret
 exact ⟨rfl, HB.out⟩
theorem right_n (w : World) (n : Int) (T : Tv) (h : Mn w n T) : Calls Tryz.prog 65 #[T.val] w fun e w' => e = .returned T.right.val ∧ Below w.heap.size w w' := by
 have HC := Lib.hid (asinner_n w n T h)
 obtain ⟨p, hp⟩ := h.ptr
 obtain ⟨pa, hpa⟩ := h.left.ptr
 obtain ⟨pb, hpb⟩ := h.right.ptr
 rw [hpa, hpb, hp] at HC
 rw [hp, hpb]
 clear h hp hpa hpb
 go_enter Tryz.func65, Tryz.ntmps65
 go_wp2_with fail
 refine HC.out.mono ?_
 rintro _ w1 ⟨k, rfl, hB⟩
 have HB := Lib.hid hB
 clear hB
 have fl := fld_r
 unfold inC
 go_wp2_with fail
 go_ret
 exact ⟨rfl, HB.out⟩
noncomputable def fldA (t : TypeId) (w : World) (v : Value) (i : Nat) : Result Next := Sem.run Tryz.prog (do pure (.value (← Instr.field t v i))) w
@[go_sem ↓] theorem execOp_fieldFull (ρ : Operand → Value) (dst : Option Tmp) (x : Operand) (i : Nat) (type : TypeId) (pos : String) (after : Array Edge) (guard : Option (Nat × Bool)) (w : World) :
  Sem.run Tryz.prog (execOp ρ { dst, op := .field 111 x i, type, pos, after, guard }) w = fldA 111 w (ρ x) i := rfl
theorem fld_f (f : Nat → UInt8) (A : Option Addr) (n c : Nat) (w : World) : fldA 111 w (.agg (((List.range 64).map f).map bv ++ [Value.slice A n c]).toArray) 0 = .ok (.value (.agg (bA ((List.range 64).map f)))) w := by kernel_rfl
theorem list64 (l : List UInt8) (h : l.length = 64) : l = (List.range 64).map fun j => l.getD j 0 := by
 refine List.ext_getElem (by simp [h]) fun j h1 h2 => ?_
 simp [List.getD_eq_getElem?_getD, h1]
theorem fld_leaf (r : List UInt8) (A : Option Addr) (l : List UInt8) (c : Nat) (h : r.length = 64) (w : World) : fldA 111 w (.agg (flC r A l c)) 0 = .ok (.value (.agg (bA r))) w := by
 have := fld_f (fun j => r.getD j 0) A l.length c w
 rw [← list64 r h] at this
 exact this
theorem leafOf_n (w : World) (n : Int) (T : Tv) (h : Mn w n T) : Calls Tryz.prog 32 #[T.val] w fun e w' => e = .returned (.agg (bA (leafV n T.tr))) ∧ Below w.heap.size w w' := by
 obtain ⟨X, hX⟩ : ∃ X, X = w.alloc (.cells (bA z64) 57) := ⟨_, rfl⟩
 have hb0 : Below w.heap.size w X := by rw [hX]; exact (Below.refl _ _).alloc (Nat.le_refl _) _
 have r0 : X.heap[w.heap.size]? = some (.cells (bA z64) 57 (0, 0)) := by rw [hX]; exact heap_alloc_new w _
 have hl := h.lvl
 have HC := Lib.hid (asfull_n w X n T h hb0)
 obtain ⟨p, hp⟩ := h.ptr
 rw [hp] at HC ⊢
 obtain ⟨r, hr⟩ : ∃ r, r = leafV n T.tr := ⟨_, rfl⟩
 rw [← hr] at hl HC ⊢
 have HX := Lib.hid hX
 have HR0 := Lib.hid r0
 have HB0 := Lib.hid hb0
 have HL := Lib.hid hl
 clear h hX hb0 r0 hp hl hr
 go_enter Tryz.func32, Tryz.ntmps32
 go_wp2_with fail
 rw [← HX.out]
 refine HC.out.mono ?_
 rintro _ w1 ⟨A, c, rfl, _, hB⟩
 have fl := fld_leaf r A (entT T.tr).v c HL.out w1
 have hr1 : w1.heap[w.heap.size]? = some (.cells (bA z64) 57 (0, 0)) := by rw [hB.block _ (lt_of_heap HR0.out)]; exact HR0.out
 have st := stA_row (t := 57) (v := bA r) hr1 (by rw [bA_size, HL.out]; exact infoLeaf) (by rw [bA_size, bA_size, HL.out]; rfl) (bA_one _)
 have HM := Lib.hid (setRow_heap _ w.heap.size _ (bA r) 57 _ hr1)
 have HBB : Hid (Below w.heap.size w (w1.setRow w.heap.size (bA r))) := below_setRow (HB0.out.trans (hB.mono HB0.out.size)) (Nat.le_refl _) _
 obtain ⟨L, hL⟩ : ∃ L, L = flC r A (entT T.tr).v c := ⟨_, rfl⟩
 rw [← hL] at fl ⊢
 clear hr1 hB hL
 go_wp2_with fail
 refine bodyPost_ret (v := .agg (bA r)) ?_ rfl ⟨rfl, HBB.out⟩
 exact results_cell_row Tryz.results32 _ _ w.heap.size 57 _ (0, 0) _ rfl HM.out Tryz.underlying57 rfl (by rw [bA_size, HL.out]; exact infoLeaf)
end
section
open Go.RowKit
theorem NewB.row {w : World} {B b : Nat} {A : Option Addr} {c : Nat} {l : List UInt8} {cs : Array Value} (h : NewB w B A c l) (hb : b < B) : NewB (w.setRow b cs) B A c l :=
 ⟨h.1, h.2.imp id fun ⟨e0, h⟩ => ⟨e0, h.imp id fun ⟨g, cap, cur, e, hg, hh, hr⟩ => ⟨g, cap, cur, e, hg, by rw [setRow_other _ _ _ _ (by omega)]; exact hh, hr⟩⟩⟩
theorem Mn.ent {w : World} {n : Int} {T : Tv} (h : Mn w n T) : (entT T.tr).k.length = 32 ∧ (entT T.tr).v.length ≤ 1000 ∧ (leafV n T.tr).take 32 = (entT T.tr).k := by
 match T, h with
 | .nil, _ => exact ⟨rfl, Nat.zero_le _, rfl⟩
 | .inner _ _ _, _ => exact ⟨rfl, Nat.zero_le _, rfl⟩
 | .leaf v e, ⟨_, _, _, _, _, he, hl⟩ =>
  have hk : e.k.length = 32 := he.key
  refine ⟨hk, hl, ?_⟩
  show (e.k ++ digL n (valL e.v)).take 32 = e.k
  rw [List.take_append_of_le_length (by omega), List.take_of_length_le (by omega)]
end
section
open Go.RowKit
theorem Keep.newRow {L : Nat → Prop} {w w' : World} {g : Nat} (h : Keep L w w') (hg : w.heap.size ≤ g) (cs : Array Value) : Keep L w (w'.setRow g cs) :=
 h.step (Keep.row w' g cs) fun i hi => .inr (by have e : i = g := hi; omega)
theorem digest_n (w : World) (b : Nat) (n : Int) (c : Nat) (T : Tv) (hh : Hs w b n c) (hc : c ≤ 2000000) (hvx : Vars w) (h : Mn w n T) :
  Calls Tryz.prog 62 #[ptr b, T.val] w fun x w' => ∃ c', x = .returned (.agg (bA (digT n T.tr))) ∧ c' ≤ c + 1 ∧ (T.tr ≠ .nil → c' = c) ∧ Hs w' b n c' ∧ Keep (fun i => i = b) w w' := by
 obtain ⟨X, hX⟩ : ∃ X, X = w.alloc (.cells (bA z26) 45) := ⟨_, rfl⟩
 have hb0 : Below w.heap.size w X := by rw [hX]; exact (Below.refl _ _).alloc (Nat.le_refl _) _
 have r0 : X.heap[w.heap.size]? = some (.cells (bA z26) 45 (0, 0)) := by rw [hX]; exact heap_alloc_new w _
 have HX := Lib.hid hX
 have HB0 := Lib.hid hb0
 have HR0 := Lib.hid r0
 have HH0 := Lib.hid (hh.keep (Keep.of_below (L := fun _ => False) hb0) fun h => h)
 have HV0 := Lib.hid (hvx.below hb0)
 have HGB : Hid (w.heap.size ≠ b) := by have := lt_of_heap hh; show _ ≠ _; omega
 by_cases hT : T = .nil
 ·subst hT
  rw [show (Tv.nil).val = .pointer none from rfl, show digT n (Tv.nil).tr = digL n emptyL from rfl]
  obtain ⟨q, hq⟩ : ∃ q, q = digL n emptyL := ⟨_, rfl⟩
  have hql : q.length = 32 := by rw [hq]; exact dig_len _ _
  have HQ := Lib.hid hq
  have HQL := Lib.hid hql
  rw [← hq]
  have HC := Lib.hid (pempty_c X)
  clear hX hb0 r0 h hvx hh hq hql
  go_enter Tryz.func62, Tryz.ntmps62
  go_wp2_with fail
  rw [← HX.out]
  refine HC.out.mono ?_
  rintro _ w1 ⟨A1, c1, rfl, hl1, hc1, hA1, hB⟩
  have HB1 := Lib.hid hB
  have HH1 := Lib.hid (HH0.out.keep (Keep.of_below (L := fun _ => False) hB) fun h => h)
  have HC1 := Lib.hid (sum_hs b n c A1 emptyL c1 w1 HH1.out (by omega) hA1 hc1 (by decide) (HV0.out.below hB))
  rw [show emptyL.length = 1 from rfl, ← HQ.out] at HC1
  clear hl1 hc1 hA1 hB HC
  go_wp2_with fail
  refine HC1.out.mono ?_
  rintro _ w2 ⟨rfl, hh2, hk2⟩
  have hr2 : w2.heap[w.heap.size]? = some (.cells (bA z26) 45 (0, 0)) := hk2.heap ((Keep.of_below (L := fun _ => False) HB1.out).heap HR0.out fun h => h) HGB.out
  have st := stA_row (t := 45) (v := bA q) hr2 (by rw [bA_size, HQL.out]; exact info26) (by rw [bA_size, bA_size, HQL.out]; rfl) (bA_one _)
  have HM := Lib.hid (setRow_heap w2 w.heap.size _ (bA q) 45 _ hr2)
  have HK : Hid (Keep (fun i => i = b) w (w2.setRow w.heap.size (bA q))) := (((Keep.of_below HB0.out).trans (Keep.of_below HB1.out)).trans hk2).newRow (Nat.le_refl _) _
  have HHF : Hid (Hs (w2.setRow w.heap.size (bA q)) b n (c + 1)) := by
   show Hs _ _ _ _
   unfold Hs
   rw [setRow_other _ _ _ _ (Ne.symm HGB.out)]
   exact hh2
  clear hh2 hk2 hr2 HC1
  go_wp2_with fail
  refine bodyPost_ret (v := .agg (bA q)) ?_ rfl ⟨c + 1, rfl, Nat.le_refl _, fun h => absurd rfl h, HHF.out, HK.out⟩
  exact results_cell_row Tryz.results62 _ _ w.heap.size 45 _ (0, 0) _ rfl HM.out Tryz.underlying45 rfl (by rw [bA_size, HQL.out]; exact info26)
 ·obtain ⟨g, d, ct, hv, hg, hd⟩ : ∃ g d ct, T.val = ptr g ∧ NodeAt w g d ct ∧ d = digT n T.tr := by
   match T, h, hT with
   | .leaf v e, ⟨g, A, c, hv, hg, _⟩, _ => exact ⟨g, _, _, hv, hg, rfl⟩
   | .inner v a b, ⟨g, hv, hg, _⟩, _ => exact ⟨g, _, _, hv, hg, rfl⟩
   | .nil, _, h => exact absurd rfl h
  have hdl : d.length = 32 := by rw [hd]; exact digT_len _ _
  have htn : T.tr ≠ .nil ∨ True := .inr trivial
  rw [hv, ← hd]
  have ld : ldA 45 (w.alloc (.cells (bA z26) 45)) (.pointer (some ⟨g, 0, none⟩)) = .ok (.value (.agg (bA d))) (w.alloc (.cells (bA z26) 45)) := by
   rw [← hX]
   exact (hg.below hb0).dig hdl
  have st := stA_new (t := 45) w (bA z26) (bA d) (by rw [bA_size, hdl]; exact info26) (by rw [bA_size, bA_size, hdl]; rfl) (bA_one _)
  have HM := Lib.hid (heap_alloc_new w (.cells (bA d) 45))
  have HDL := Lib.hid hdl
  have HK : Hid (Keep (fun i => i = b) w (w.alloc (.cells (bA d) 45))) := (Keep.refl _ _).alloc _
  have HHF : Hid (Hs (w.alloc (.cells (bA d) 45)) b n c) := hh.keep ((Keep.refl (fun _ => False) w).alloc _) fun h => h
  clear hX hb0 r0 h hvx hh hv hg hd hdl htn
  unfold ptr
  go_enter Tryz.func62, Tryz.ntmps62
  go_wp2_with fail
  refine bodyPost_ret (v := .agg (bA d)) ?_ rfl ⟨c, rfl, Nat.le_succ _, fun _ => rfl, HHF.out, HK.out⟩
  exact results_cell_row Tryz.results62 _ _ w.heap.size 45 _ (0, 0) _ rfl HM.out Tryz.underlying45 rfl (by rw [bA_size, HDL.out]; exact info26)
end
section
open Go.RowKit
@[go_sem ↓] theorem execOp_buildLc (ρ : Operand → Value) (dst : Option Tmp) (parts : Array (Nat × Operand)) (type : TypeId) (pos : String) (after : Array Edge) (guard : Option (Nat × Bool)) (w : World) :
  Sem.run Tryz.prog (execOp ρ { dst, op := .build 111 parts, type, pos, after, guard }) w = bldA 111 w (parts.map fun x => (x.1, ρ x.2)) := rfl
@[go_sem ↓] theorem execOp_buildNode (ρ : Operand → Value) (dst : Option Tmp) (parts : Array (Nat × Operand)) (type : TypeId) (pos : String) (after : Array Edge) (guard : Option (Nat × Bool)) (w : World) :
  Sem.run Tryz.prog (execOp ρ { dst, op := .build 148 parts, type, pos, after, guard }) w = bldA 148 w (parts.map fun x => (x.1, ρ x.2)) := rfl
theorem bldFull_f (f : Nat → UInt8) (A : Option Addr) (n c : Nat) (w : World) : bldA 111 w #[(0, .agg (bA ((List.range 64).map f))), (1, .slice A n c)] =
  .ok (.value (.agg (((List.range 64).map f).map bv ++ [Value.slice A n c]).toArray)) w := by kernel_rfl
theorem bldFull (k d : List UInt8) (A : Option Addr) (l : List UInt8) (c : Nat) (hk : k.length = 32) (hd : d.length = 32) (w : World) : bldA 111 w #[(0, .agg (bA (k ++ d))), (1, .slice A l.length c)] = .ok (.value (.agg (flC (k ++ d) A l c))) w := by
 have := bldFull_f (fun j => (k ++ d).getD j 0) A l.length c w
 rw [← list64 (k ++ d) (by rw [List.length_append, hk, hd])] at this
 exact this
theorem bldNode_f (f : Nat → UInt8) (t : TypeId) (v : Value) (w : World) : bldA 148 w #[(0, .agg (bA ((List.range 32).map f))), (1, .iface t v)] = .ok (.value (.agg (((List.range 32).map f).map bv ++ [Value.iface t v]).toArray)) w := by kernel_rfl
theorem bldNode (q : List UInt8) (t : TypeId) (v : Value) (hq : q.length = 32) (w : World) : bldA 148 w #[(0, .agg (bA q)), (1, .iface t v)] = .ok (.value (.agg (nodeC q (.iface t v)))) w := by
 have := bldNode_f (fun j => q.getD j 0) t v w
 rw [← list32 q hq] at this
 exact this
theorem NewB.keep {w w' : World} {B : Nat} {A : Option Addr} {c : Nat} {l : List UInt8} {L : Nat → Prop} (h : NewB w B A c l) (k : Keep L w w') (hL : ∀ i, L i → i < B) : NewB w' B A c l :=
 ⟨h.1, h.2.imp id fun ⟨e0, h⟩ => ⟨e0, h.imp id fun ⟨g, cap, cur, e, hg, hh, hr⟩ => ⟨g, cap, cur, e, hg, k.heap hh fun hl => by have := hL _ hl; omega, hr⟩⟩⟩
theorem newleaf_end {w y : World} {b m B : Nat} {n : Int} {x : En} {q d : List UInt8} {A2 : Option Addr} {c2 : Nat} (hk : Keep (fun i => i = b) w (y.alloc (.cells (nodeC q (.iface 111 (.agg (flC (x.k ++ d) A2 x.v c2)))) 148)))
  (hh : Hs y b n (m + 1 + 1)) (hN : NewB y B A2 c2 x.v) (hkl : x.k.length = 32) (hvl : x.v.length ≤ 1000) (hq : q = digL n (leafL x.k d)) (hd : d = digL n (valL x.v)) (hB : w.heap.size ≤ B ∧ w.heap.size ≤ y.heap.size) (_hc : True) :
  ∃ v c', Ending.returned (.pointer (some ⟨y.heap.size, 0, none⟩)) = .returned v ∧ Mn (y.alloc (.cells (nodeC q (.iface 111 (.agg (flC (x.k ++ d) A2 x.v c2)))) 148)) n (.leaf v x.ent) ∧ c' ≤ m + 2 ∧ Hs (y.alloc (.cells (nodeC q (.iface 111 (.agg (flC (x.k ++ d) A2 x.v c2)))) 148)) b n c' ∧ Keep (fun i => i = b) w (y.alloc (.cells (nodeC q (.iface 111 (.agg (flC (x.k ++ d) A2 x.v c2)))) 148)) ∧
   ∀ w2, Keep (fun i => i < w.heap.size) (y.alloc (.cells (nodeC q (.iface 111 (.agg (flC (x.k ++ d) A2 x.v c2)))) 148)) w2 → Mn w2 n (.leaf v x.ent) := by
 have hby : Below y.heap.size y (y.alloc (.cells (nodeC q (.iface 111 (.agg (flC (x.k ++ d) A2 x.v c2)))) 148)) := (Below.refl _ _).alloc (Nat.le_refl _) _
 have hn : NodeAt (y.alloc (.cells (nodeC q (.iface 111 (.agg (flC (x.k ++ d) A2 x.v c2)))) 148)) y.heap.size q (.iface 111 (.agg (flC (x.k ++ d) A2 x.v c2))) := heap_alloc_new y _
 have hN2 : NewB (y.alloc (.cells (nodeC q (.iface 111 (.agg (flC (x.k ++ d) A2 x.v c2)))) 148)) B A2 c2 x.v := ⟨hN.1, hN.2.imp id fun h => h.below hby⟩
 have hq2 : q = digT n (.leaf x.ent) := by rw [hq, hd]; rfl
 subst hd
 refine ⟨_, m + 1 + 1, rfl, ⟨y.heap.size, A2, c2, rfl, by rw [← hq2]; exact hn, ⟨hkl, hN.1, hN2.ba⟩, hvl⟩, Nat.le_refl _, hh.keep (Keep.of_below (L := fun _ => False) hby) fun h => h, hk, fun w2 h2 => ?_⟩
 have hn3 : NodeAt w2 y.heap.size q (.iface 111 (.agg (flC (x.k ++ digL n (valL x.v)) A2 x.v c2))) := h2.heap hn (by omega)
 have hN3 := hN2.keep h2 fun i hi => by omega
 exact ⟨y.heap.size, A2, c2, rfl, by rw [← hq2]; exact hn3, ⟨hkl, hN.1, hN3.ba⟩, hvl⟩
theorem newleaf_n (w : World) (b : Nat) (n : Int) (m : Nat) (x : En) (hh : Hs w b n m) (hm : m ≤ 1000000) (hv : Vars w) (hx : EnOk w x) (hl : x.v.length ≤ 1000) :
  Calls Tryz.prog 59 #[ptr b, .agg (enC x).toArray] w fun e w' => ∃ v c', e = .returned v ∧ Mn w' n (.leaf v x.ent) ∧ c' ≤ m + 2 ∧ Hs w' b n c' ∧ Keep (fun i => i = b) w w' ∧ ∀ w2, Keep (fun i => i < w.heap.size) w' w2 → Mn w2 n (.leaf v x.ent) := by
 obtain ⟨X, hX⟩ : ∃ X, X = w.alloc (.cells (enC x).toArray 80) := ⟨_, rfl⟩
 have hb0 : Below w.heap.size w X := by rw [hX]; exact (Below.refl _ _).alloc (Nat.le_refl _) _
 have hr0 : X.rangeAt w.heap.size 0 (enC x) := by rw [hX]; exact ent_made w x _
 have hne : w.heap.size ≠ b := by have := lt_of_heap hh; omega
 have HX := Lib.hid hX
 have HKX : Hid (Keep (fun i => i = b) w X) := Keep.of_below hb0
 have HHX := Lib.hid (hh.keep (Keep.of_below (L := fun _ => False) hb0) fun h => h)
 have HVX := Lib.hid (hv.below hb0)
 have HKL := Lib.hid hx.key
 have HVL := Lib.hid hl
 have HSX : Hid (w.heap.size < X.heap.size) := by show _ < _; rw [hX]; simp
 have HBX : Hid (BA X x.A x.v) := hx.val.below hb0
 have lk := range_key hr0 hx.key
 have lc := range_val hr0 hx.key
 rw [Nat.zero_add] at lc
 rw [hX] at lk lc
 have HRX := Lib.hid hr0
 have HNE := Lib.hid hne
 have HC0 := Lib.hid (leafof_c b n m x.k x.A x.c x.v X HHX.out hm hx.key HBX.out hx.cap hl HVX.out)
 obtain ⟨d, hd⟩ : ∃ d, d = digL n (valL x.v) := ⟨_, rfl⟩
 have hdl : d.length = 32 := by rw [hd]; exact dig_len _ _
 rw [← hd] at HC0
 obtain ⟨q, hq⟩ : ∃ q, q = digL n (leafL x.k d) := ⟨_, rfl⟩
 have hql : q.length = 32 := by rw [hq]; exact dig_len _ _
 have HD := Lib.hid hd
 have HDL := Lib.hid hdl
 have HQ := Lib.hid hq
 have HQL := Lib.hid hql
 have HL64 : Hid ((x.k ++ d).length = 64) := by show _ = _; rw [List.length_append, HKL.out, hdl]
 have HCX : Hid (x.v.length ≤ x.c) := hx.cap
 have HC : Hid True := trivial
 clear hX hb0 hr0 hne hv hx hh hd hdl hq hql
 unfold ptr
 go_enter Tryz.func59, Tryz.ntmps59
 go_wp2_with fail
 rw [← HX.out]
 refine HC0.out.mono ?_
 rintro _ w1 ⟨rfl, hH1, hK1⟩
 have st := stA_new (t := 57) w1 (bA z64) (bA (x.k ++ d)) (by rw [bA_size, HL64.out]; exact infoLeaf) (by rw [bA_size, bA_size, HL64.out]; rfl) (bA_one _)
 obtain ⟨Z, hZ⟩ : ∃ Z, Z = w1.alloc (.cells (bA (x.k ++ d)) 57) := ⟨_, rfl⟩
 have hbZ : Below w1.heap.size w1 Z := by rw [hZ]; exact (Below.refl _ _).alloc (Nat.le_refl _) _
 have hrZ : Z.heap[w1.heap.size]? = some (.cells (bA (x.k ++ d)) 57 (0, 0)) := by rw [hZ]; exact heap_alloc_new w1 _
 have hKZ : Keep (fun i => i = b) X Z := hK1.trans (Keep.of_below hbZ)
 have hb1 : w1.heap.size ≠ b := by have := lt_of_heap hH1; omega
 have HZ := Lib.hid hZ
 have HZ0 : Hid (∀ w', Keep (fun i => i = b) Z w' → Keep (fun i => i = b) w w') := fun w' h => (HKX.out.trans hKZ).trans h
 have HH0 : Hid (Hs Z.drew b n (m + 1)) := hH1.keep (Keep.of_below (L := fun _ => False) hbZ.drew) fun h => h
 have HV0 : Hid (Vars Z.drew) := (HVX.out.hs HHX.out hK1).below hbZ.drew
 have HSZ : Hid (w.heap.size ≤ Z.heap.size) := by show _ ≤ _; have := HSX.out; have := hKZ.size; omega
 have LL : Hid (∀ w', Keep (fun i => i = b) Z w' → ldA 57 w' (.pointer (some ⟨w1.heap.size, 0, none⟩)) = .ok (.value (.agg (bA (x.k ++ d)))) w') := fun w' h => RowB.ldLeaf (h.heap hrZ hb1) HL64.out
 have hrg : ∀ w', Keep (fun i => i = b) Z w' → w'.rangeAt w.heap.size 0 (enC x) := fun w' h j v hv => (hKZ.trans h).cellAt (HRX.out j v hv) HNE.out
 have LC : Hid (∀ w', Keep (fun i => i = b) Z w' → w'.cell? ⟨w.heap.size, 32, none⟩ = some (.slice x.A x.v.length x.c)) := fun w' h => by
  have := range_val (hrg w' h) HKL.out
  rwa [Nat.zero_add] at this
 have HBA : Hid (∀ w', Keep (fun i => i = b) Z w' → BA w' x.A x.v) := fun w' h => HHX.out.ba HBX.out (hKZ.trans h)
 clear hH1 hK1 hZ hbZ hrZ hKZ hb1 hrg HC0 lk lc HX
 go_wp2_with fail
 rw [← HZ.out]
 clear HZ st
 refine wp_region_held_drew (S := fun w' => Keep (fun i => i = b) Z w') (by kernel_rfl) ((Keep.refl _ _).drew) (fun hHeld => ?_)
 have hb0 : Keep (fun i => i = b) Z Z.drew := (Keep.refl _ _).drew
 refine x_t (i := 0) (oi := { dst := some 12, op := .move (.tmp 0), .. }) (v := ?_) rfl (Or.inl ⟨by rfl, ?_⟩) ?_
 rotate_left 1
 ·intro v hSv
  clear hSv
  go_simp
  try with_reducible rfl
 try simp only [Act.put, x_A, x_0, x_1]
 refine x_t (i := 1) (oi := { dst := some 13, op := .load _ (.tmp 5), .. }) (v := ?_) rfl (Or.inl ⟨by rfl, ?_⟩) ?_
 rotate_left 1
 ·intro v hSv
  have hv1 := LL.out v hSv
  clear hSv
  go_simp
  try with_reducible rfl
 try simp only [Act.put, x_A, x_0, x_1]
 refine x_t (i := 4) (oi := { dst := some 16, op := .load _ (.tmp 5), .. }) (v := ?_) rfl (Or.inl ⟨by rfl, ?_⟩) ?_
 rotate_left 1
 ·intro v hSv
  have hv1 := LL.out v hSv
  clear hSv
  go_simp
  try with_reducible rfl
 try simp only [Act.put, x_A, x_0, x_1]
 refine x_t (i := 5) (oi := { dst := some 17, op := .fieldAddr _ (.tmp 3) 1, .. }) (v := ?_) rfl (Or.inl ⟨by rfl, ?_⟩) ?_
 rotate_left 1
 ·intro v hSv
  clear hSv
  go_simp
  try with_reducible rfl
 try simp only [Act.put, x_A, x_0, x_1]
 refine x_t (i := 6) (oi := { dst := some 18, op := .load _ (.tmp 17), .. }) (v := ?_) rfl (Or.inl ⟨by rfl, ?_⟩) ?_
 rotate_left 1
 ·intro v hSv
  have hv1 := LC.out v hSv
  clear hSv
  go_simp
  try with_reducible rfl
 try simp only [Act.put, x_A, x_0, x_1]
 refine wpAnyH_ready (rs := [2]) (by kernel_rfl) (by simp) ?_
 refine AllReadyH.cons (o := { dst := some 14, op := .call _, .. }) rfl (fun K hK => ?_) AllReadyH.nil
 go_simp
 refine (pleaf_c x.k d Z.drew HKL.out HDL.out).mono ?_
 rintro e y1 ⟨A1, c1, rfl, hn1, hc1, hA1, hb⟩
 have hb1 : Keep (fun i => i = b) Z y1 := (hb0).trans (Keep.of_below hb)
 have HH1 := Lib.hid (HH0.out.keep (Keep.of_below (L := fun _ => False) hb) fun h => h)
 have HS := Lib.hid (sum_hs b n (m + 1) A1 (leafL x.k d) c1 y1 HH1.out (by omega) hA1 (by omega) (by omega) (HV0.out.below hb))
 rw [hn1, ← HQ.out] at HS
 clear hn1 hc1 hA1
 clear hb
 go_wp2_with fail
 refine hK.out _ _ (hb1) (fun hHeld => ?_)
 clear hK K
 try simp only [Act.put, x_A, x_0, x_1]
 refine wpAnyH_ready (rs := [3]) (by kernel_rfl) (by simp) ?_
 refine AllReadyH.cons (o := { dst := some 15, op := .call _, .. }) rfl (fun K hK => ?_) AllReadyH.nil
 go_simp
 refine (HS.out).mono ?_
 rintro e y2 ⟨rfl, hh2, hb⟩
 have hb2 : Keep (fun i => i = b) Z y2 := (hb1).trans hb
 have HH2 := Lib.hid hh2
 clear hh2
 clear hb
 go_wp2_with fail
 refine hK.out _ _ (hb2) (fun hHeld => ?_)
 clear hK K
 try simp only [Act.put, x_A, x_0, x_1]
 refine wpAnyH_ready (rs := [7]) (by kernel_rfl) (by simp) ?_
 refine AllReadyH.cons (o := { dst := some 19, op := .call _, .. }) rfl (fun K hK => ?_) AllReadyH.nil
 go_simp
 refine (clone_new x.A x.v x.c y2 (HBA.out _ (hb2)) (by omega)).mono ?_
 rintro e y3 ⟨A2, c2, rfl, hN, hb⟩
 have hb3 : Keep (fun i => i = b) Z y3 := (hb2).trans (Keep.of_below hb)
 have HH3 := Lib.hid (HH2.out.keep (Keep.of_below (L := fun _ => False) hb) fun h => h)
 have HN := Lib.hid hN
 have HSN : Hid (w.heap.size ≤ y2.heap.size ∧ w.heap.size ≤ y3.heap.size) := ⟨Nat.le_trans HSZ.out (hb2).size, Nat.le_trans (Nat.le_trans HSZ.out (hb2).size) hb.size⟩
 clear hN
 clear hb
 go_wp2_with fail
 refine hK.out _ _ (hb3) (fun hHeld => ?_)
 clear hK K
 try simp only [Act.put, x_A, x_0, x_1]
 refine x_t (i := 8) (oi := { dst := some 20, op := .build _ #[(0, .tmp 16), (1, .tmp 19)], .. }) (v := ?_) rfl (Or.inl ⟨by rfl, ?_⟩) ?_
 rotate_left 1
 ·intro v hSv
  have hv1 := bldFull x.k d A2 x.v c2 HKL.out HDL.out v
  clear hSv
  go_simp
  try with_reducible rfl
 try simp only [Act.put, x_A, x_0, x_1]
 refine x_t (i := 9) (oi := { dst := some 21, op := .makeInterface _ (.tmp 20), .. }) (v := ?_) rfl (Or.inl ⟨by rfl, ?_⟩) ?_
 rotate_left 1
 ·intro v hSv
  clear hSv
  go_simp
  try with_reducible rfl
 try simp only [Act.put, x_A, x_0, x_1]
 refine x_t (i := 10) (oi := { dst := some 22, op := .build _ #[(0, .tmp 15), (1, .tmp 21)], .. }) (v := ?_) rfl (Or.inl ⟨by rfl, ?_⟩) ?_
 rotate_left 1
 ·intro v hSv
  have hv1 := bldNode q 111 (.agg (flC (x.k ++ d) A2 x.v c2)) HQL.out v
  clear hSv
  go_simp
  try with_reducible rfl
 try simp only [Act.put, x_A, x_0, x_1]
 refine wpAnyH_ready (rs := [11]) (by kernel_rfl) (by simp) ?_
 refine AllReadyH.cons (o := { dst := some 23, op := .box _ (.tmp 22), .. }) rfl (fun K hK => ?_) AllReadyH.nil
 go_simp
 refine hK.out _ _ ((hb3).alloc _) (fun hHeld => ?_)
 clear hK K
 try simp only [Act.put, x_A, x_0, x_1]
 refine x_t (i := 12) (oi := { dst := some 4, op := .assign (.tmp 23), .. }) (v := ?_) rfl (Or.inl ⟨by rfl, ?_⟩) ?_
 rotate_left 1
 ·intro v hSv
  clear hSv
  go_simp
  try with_reducible rfl
 try simp only [Act.put, x_A, x_0, x_1]
 refine wpAnyH_done (by kernel_rfl) ?_ _
 go_wp2_with fail
 go_ret
 exact newleaf_end (HZ0.out _ ((hb3).alloc _)) HH3.out HN.out HKL.out HVL.out HQ.out HD.out HSN.out HC.out
end
section
open Go.RowKit
@[go_sem ↓] theorem execOp_buildInner (ρ : Operand → Value) (dst : Option Tmp) (parts : Array (Nat × Operand)) (type : TypeId) (pos : String) (after : Array Edge) (guard : Option (Nat × Bool)) (w : World) :
  Sem.run Tryz.prog (execOp ρ { dst, op := .build 113 parts, type, pos, after, guard }) w = bldA 113 w (parts.map fun x => (x.1, ρ x.2)) := rfl
theorem bldInner (p q : Option Addr) (r : Int) (w : World) : bldA 113 w #[(0, .pointer p), (1, .pointer q), (2, .int .i64 r)] = .ok (.value (.agg #[.pointer p, .pointer q, .int .i64 r])) w := by kernel_rfl
theorem join_end {w y : World} {b m m2 : Nat} {n : Int} {S T : Tv} {q : List UInt8} {cs : Array Value} (hk : Keep (fun i => i = b) w y) (hh : Hs y b n (m2 + 1)) (hm : m2 ≤ m + 2) (hS : Mn y n S) (hT : Mn y n T) (hq : q = digT n (.inner S.tr T.tr))
  (hc : cs = nodeC q (.iface 113 (.agg (inC S.val T.val ((lenT S.tr + lenT T.tr : Nat) : Int))))) (hJ : ∀ v, joinV v S T = .inner v S T) :
  ∃ v c', Ending.returned (.pointer (some ⟨y.heap.size, 0, none⟩)) = .returned (joinV v S T).val ∧ Mn (y.alloc (.cells cs 148)) n (joinV v S T) ∧ c' ≤ m + 3 ∧ Hs (y.alloc (.cells cs 148)) b n c' ∧ Keep (fun i => i = b) w (y.alloc (.cells cs 148)) ∧
   ∀ w2, Keep (fun i => i < w.heap.size) (y.alloc (.cells cs 148)) w2 → Mn w2 n S → Mn w2 n T → Mn w2 n (joinV v S T) := by
 have hby : Below y.heap.size y (y.alloc (.cells cs 148)) := (Below.refl _ _).alloc (Nat.le_refl _) _
 have hn : NodeAt (y.alloc (.cells cs 148)) y.heap.size q (.iface 113 (.agg (inC S.val T.val ((lenT S.tr + lenT T.tr : Nat) : Int)))) := by
  unfold NodeAt
  rw [← hc]
  exact heap_alloc_new y _
 refine ⟨ptr y.heap.size, m2 + 1, by rw [hJ]; rfl, ?_, by omega, hh.keep (Keep.of_below (L := fun _ => False) hby) fun h => h, hk.alloc _, fun w2 h2 hS2 hT2 => ?_⟩
 ·rw [hJ]
  exact ⟨y.heap.size, rfl, by rw [← hq]; exact hn, hS.below hby, hT.below hby⟩
 ·have hy := hk.size
  rw [hJ]
  exact ⟨y.heap.size, rfl, by rw [← hq]; exact h2.heap hn (by omega), hS2, hT2⟩
theorem join_n (w : World) (b : Nat) (n : Int) (m : Nat) (S T : Tv) (hh : Hs w b n m) (hm : m ≤ 1000000) (hv : Vars w) (hS : Mn w n S) (hT : Mn w n T) (hl : lenT S.tr + lenT T.tr ≤ 1000000000) :
  Calls Tryz.prog 60 #[ptr b, S.val, T.val] w fun x w' => ∃ v c', x = .returned (joinV v S T).val ∧ Mn w' n (joinV v S T) ∧ c' ≤ m + 3 ∧ Hs w' b n c' ∧ Keep (fun i => i = b) w w' ∧
   ∀ w2, Keep (fun i => i < w.heap.size) w' w2 → Mn w2 n S → Mn w2 n T → Mn w2 n (joinV v S T) := by
 have hcase : (S = .nil ∧ kindT T.tr ≠ 2) ∨ (S = .nil ∧ kindT T.tr = 2) ∨ (S ≠ .nil ∧ T = .nil ∧ kindT S.tr ≠ 2) ∨ (S ≠ .nil ∧ T = .nil ∧ kindT S.tr = 2) ∨ (S ≠ .nil ∧ T ≠ .nil) := by
  by_cases h1 : S = .nil
  ·by_cases h2 : kindT T.tr = 2
   ·exact .inr (.inl ⟨h1, h2⟩)
   ·exact .inl ⟨h1, h2⟩
  ·by_cases h2 : T = .nil
   ·by_cases h3 : kindT S.tr = 2
    ·exact .inr (.inr (.inr (.inl ⟨h1, h2, h3⟩)))
    ·exact .inr (.inr (.inl ⟨h1, h2, h3⟩))
   ·exact .inr (.inr (.inr (.inr ⟨h1, h2⟩)))
 obtain ⟨pT, hpT⟩ := hT.ptr
 obtain ⟨pS, hpS⟩ := hS.ptr
 rcases hcase with ⟨rfl, hk⟩ | ⟨rfl, hk⟩ | ⟨hSn, rfl, hk⟩ | ⟨hSn, rfl, hk⟩ | ⟨hSn, hTn⟩
 ·have hJ : ∀ v, joinV v .nil T = T := fun v => by
   cases T with
   | nil => rfl
   | leaf v e => rfl
   | inner v x y => exact absurd rfl hk
  have HJ := Lib.hid hJ
  obtain ⟨kd, hkd⟩ : ∃ k, k = kindT T.tr := ⟨_, rfl⟩
  rw [← hkd] at hk
  have k1 : (kd != 2) = true := by rw [bne_iff_ne]; exact hk
  have HKD := Lib.hid hkd.symm
  rw [show (Tv.nil).val = .pointer none from rfl, hpT]
  have HS0 := Lib.hid hS
  have HT0 := Lib.hid hT
  have HH0 := Lib.hid hh
  have HV0 := Lib.hid hv
  have HK0 : Hid (Keep (fun i => i = b) w w) := Keep.refl _ _
  have HL := Lib.hid hl
  have HPT := Lib.hid hpT
  clear hJ hk hkd hS hT hh hv hpT hpS
  unfold ptr
  go_enter Tryz.func60, Tryz.ntmps60
  go_wp2_with fail
  have HC := Lib.hid (kind_n w n T HT0.out)
  rw [HPT.out, HKD.out] at HC
  refine HC.out.mono ?_
  rintro _ w1 ⟨rfl, hB⟩
  have HS1 := Lib.hid (HS0.out.below hB)
  have HT1 := Lib.hid (HT0.out.below hB)
  have HH1 := Lib.hid (HH0.out.keep (Keep.of_below (L := fun _ => False) hB) fun h => h)
  have HV1 := Lib.hid (HV0.out.below hB)
  have HK1 : Hid (Keep (fun i => i = b) w w1) := HK0.out.trans (Keep.of_below hB)
  clear hB HC HS0 HT0 HH0 HV0 HK0
  go_wp2_with fail
  go_ret
  exact ⟨.pointer none, m, by rw [HJ.out, HPT.out]; rfl, by rw [HJ.out]; exact HT1.out, by omega, HH1.out, HK1.out, fun w2 _ _ h => by rw [HJ.out]; exact h⟩
 ·have hJ : ∀ v, joinV v .nil T = .inner v .nil T := fun v => by
   cases T with
   | nil => exact absurd hk (show ¬ (0 : Int) = 2 by decide)
   | leaf v e => exact absurd hk (show ¬ (1 : Int) = 2 by decide)
   | inner v x y => rfl
  obtain ⟨aT, haT⟩ : ∃ a, T.val = .pointer (some a) := by
   rcases hT.addr with h | h
   ·rw [h] at hk; exact absurd hk (show ¬ (0 : Int) = 2 by decide)
   ·exact h
  rw [show (Tv.nil).val = .pointer none from rfl, haT]
  obtain ⟨S, hSS⟩ : ∃ S : Tv, S = .nil := ⟨_, rfl⟩
  have HSV : Hid (S.val = .pointer none) := by rw [hSS]; rfl
  rw [← hSS] at hS hl hJ ⊢
  have HS0 := Lib.hid hS
  have HT0 := Lib.hid hT
  have HH0 := Lib.hid hh
  have HV0 := Lib.hid hv
  have HK0 : Hid (Keep (fun i => i = b) w w) := Keep.refl _ _
  have HL := Lib.hid hl
  have HPT := Lib.hid haT
  have HKD := Lib.hid hk
  have HJJ := Lib.hid hJ
  clear hJ hk hS hT hh hv hpT hpS haT hSS
  unfold ptr
  go_enter Tryz.func60, Tryz.ntmps60
  go_wp2_with fail
  have HC := Lib.hid (kind_n w n T HT0.out)
  rw [HPT.out, HKD.out] at HC
  refine HC.out.mono ?_
  rintro _ w1 ⟨rfl, hB⟩
  have HS1 := Lib.hid (HS0.out.below hB)
  have HT1 := Lib.hid (HT0.out.below hB)
  have HH1 := Lib.hid (HH0.out.keep (Keep.of_below (L := fun _ => False) hB) fun h => h)
  have HV1 := Lib.hid (HV0.out.below hB)
  have HK1 : Hid (Keep (fun i => i = b) w w1) := HK0.out.trans (Keep.of_below hB)
  clear hB HC HS0 HT0 HH0 HV0 HK0
  obtain ⟨dS, hdS⟩ : ∃ d, d = digT n S.tr := ⟨_, rfl⟩
  obtain ⟨dT, hdT⟩ : ∃ d, d = digT n T.tr := ⟨_, rfl⟩
  have HdS : Hid (dS.length = 32) := by show _ = _; rw [hdS]; exact digT_len _ _
  have HdT : Hid (dT.length = 32) := by show _ = _; rw [hdT]; exact digT_len _ _
  obtain ⟨q, hq⟩ : ∃ q, q = digL n (nodeL dS dT) := ⟨_, rfl⟩
  have HQL : Hid (q.length = 32) := by show _ = _; rw [hq]; exact dig_len _ _
  have HQ : Hid (q = digT n (.inner S.tr T.tr)) := by show _ = _; rw [hq, hdS, hdT]; rfl
  have HDS := Lib.hid hdS
  have HDT := Lib.hid hdT
  have HQ1 := Lib.hid hq
  clear hdS hdT hq
  go_wp2_with fail
  have HC := Lib.hid (digest_n w1 b n m S HH1.out (by omega) HV1.out HS1.out)
  rw [HSV.out, ← HDS.out] at HC
  refine HC.out.mono ?_
  rintro _ v1 ⟨m1, rfl, hm1, _, hH, hK⟩
  have GS1 := Lib.hid (HS1.out.hs HH1.out hK)
  have GT1 := Lib.hid (HT1.out.hs HH1.out hK)
  have GV1 := Lib.hid (HV1.out.hs HH1.out hK)
  have GH1 := Lib.hid hH
  have GK1 := Lib.hid (HK1.out.trans hK)
  have GM1 := Lib.hid hm1
  clear hm1 hH hK HC HS1 HT1 HH1 HV1 HK1
  go_wp2_with fail
  have HC := Lib.hid (digest_n v1 b n m1 T GH1.out (by have := GM1.out; omega) GV1.out GT1.out)
  rw [HPT.out, ← HDT.out] at HC
  refine HC.out.mono ?_
  rintro _ v2 ⟨m2, rfl, hm2, _, hH, hK⟩
  have GS2 := Lib.hid (GS1.out.hs GH1.out hK)
  have GT2 := Lib.hid (GT1.out.hs GH1.out hK)
  have GV2 := Lib.hid (GV1.out.hs GH1.out hK)
  have GH2 := Lib.hid hH
  have GK2 := Lib.hid (GK1.out.trans hK)
  have GM2 : Hid (m2 ≤ m + 2) := by show _ ≤ _; have := GM1.out; omega
  clear hm2 hH hK HC GS1 GT1 GV1 GH1 GK1 GM1
  go_wp2_with fail
  refine (pnode_c dS dT v2 HdS.out HdT.out).mono ?_
  rintro _ v3 ⟨A1, c1, rfl, hn1, hc1, hA1, hB⟩
  have GH3 := Lib.hid (GH2.out.keep (Keep.of_below (L := fun _ => False) hB) fun h => h)
  have HC := Lib.hid (sum_hs b n m2 A1 (nodeL dS dT) c1 v3 GH3.out (by have := GM2.out; omega) hA1 (by omega) (by omega) (GV2.out.below hB))
  rw [hn1, ← HQ1.out] at HC
  have GS3 := Lib.hid (GS2.out.below hB)
  have GT3 := Lib.hid (GT2.out.below hB)
  have GK3 := Lib.hid (GK2.out.trans (Keep.of_below hB))
  clear hn1 hc1 hA1 hB GS2 GT2 GV2 GH2 GK2
  go_wp2_with fail
  refine HC.out.mono ?_
  rintro _ v4 ⟨rfl, hH, hK⟩
  have GS4 := Lib.hid (GS3.out.hs GH3.out hK)
  have GT4 := Lib.hid (GT3.out.hs GH3.out hK)
  have GH4 := Lib.hid hH
  have GK4 := Lib.hid (GK3.out.trans hK)
  clear hH hK HC GS3 GT3 GH3 GK3
  go_wp2_with fail
  have HC := Lib.hid (len_n v4 n S GS4.out (by have := HL.out; omega))
  rw [HSV.out] at HC
  refine HC.out.mono ?_
  rintro _ v5 ⟨rfl, hB⟩
  have GS5 := Lib.hid (GS4.out.below hB)
  have GT5 := Lib.hid (GT4.out.below hB)
  have GH5 := Lib.hid (GH4.out.keep (Keep.of_below (L := fun _ => False) hB) fun h => h)
  have GK5 := Lib.hid (GK4.out.trans (Keep.of_below hB))
  clear hB HC GS4 GT4 GH4 GK4
  go_wp2_with fail
  have HC := Lib.hid (len_n v5 n T GT5.out (by have := HL.out; omega))
  rw [HPT.out] at HC
  obtain ⟨lS, hlS⟩ : ∃ l, l = lenT S.tr := ⟨_, rfl⟩
  obtain ⟨lT, hlT⟩ : ∃ l, l = lenT T.tr := ⟨_, rfl⟩
  rw [← hlT] at HC
  rw [← hlS]
  have hlb : (lS : Int) + (lT : Int) ≤ 1000000000 := by rw [hlS, hlT]; have := HL.out; omega
  have HLS := Lib.hid hlS
  have HLT := Lib.hid hlT
  clear hlS hlT
  refine HC.out.mono ?_
  rintro _ v6 ⟨rfl, hB⟩
  have GS6 := Lib.hid (GS5.out.below hB)
  have GT6 := Lib.hid (GT5.out.below hB)
  have GH6 := Lib.hid (GH5.out.keep (Keep.of_below (L := fun _ => False) hB) fun h => h)
  have GK6 := Lib.hid (GK5.out.trans (Keep.of_below hB))
  have bi := bldInner
  have bn := bldNode q 113 (.agg #[S.val, T.val, .int .i64 ((lS : Int) + (lT : Int))]) HQL.out v6
  rw [HSV.out, HPT.out] at bn
  clear hB HC GS5 GT5 GH5 GK5
  go_wp2_with fail
  go_ret
  exact join_end GK6.out GH6.out GM2.out GS6.out GT6.out HQ.out (by rw [HSV.out, HPT.out, HLS.out, HLT.out]; push_cast; rfl) HJJ.out
 ·have hJ : ∀ v, joinV v S .nil = S := fun v => by
   cases S with
   | nil => exact absurd rfl hSn
   | leaf v e => rfl
   | inner v x y => exact absurd rfl hk
  have HJ := Lib.hid hJ
  obtain ⟨aS, haS⟩ : ∃ a, S.val = .pointer (some a) := by
   rcases hS.addr with h | h
   ·exact absurd h hSn
   ·exact h
  obtain ⟨kd, hkd⟩ : ∃ k, k = kindT S.tr := ⟨_, rfl⟩
  rw [← hkd] at hk
  have k1 : (kd != 2) = true := by rw [bne_iff_ne]; exact hk
  have HKD := Lib.hid hkd.symm
  rw [show (Tv.nil).val = .pointer none from rfl, haS]
  have HS0 := Lib.hid hS
  have HT0 := Lib.hid hT
  have HH0 := Lib.hid hh
  have HV0 := Lib.hid hv
  have HK0 : Hid (Keep (fun i => i = b) w w) := Keep.refl _ _
  have HL := Lib.hid hl
  have HPS := Lib.hid haS
  clear hJ hk hkd hS hT hh hv hpT hpS haS hSn
  unfold ptr
  go_enter Tryz.func60, Tryz.ntmps60
  go_wp2_with fail
  have HC := Lib.hid (kind_n w n S HS0.out)
  rw [HPS.out, HKD.out] at HC
  refine HC.out.mono ?_
  rintro _ w1 ⟨rfl, hB⟩
  have HS1 := Lib.hid (HS0.out.below hB)
  have HT1 := Lib.hid (HT0.out.below hB)
  have HH1 := Lib.hid (HH0.out.keep (Keep.of_below (L := fun _ => False) hB) fun h => h)
  have HV1 := Lib.hid (HV0.out.below hB)
  have HK1 : Hid (Keep (fun i => i = b) w w1) := HK0.out.trans (Keep.of_below hB)
  clear hB HC HS0 HT0 HH0 HV0 HK0
  go_wp2_with fail
  go_ret
  exact ⟨.pointer none, m, by rw [HJ.out, HPS.out]; rfl, by rw [HJ.out]; exact HS1.out, by omega, HH1.out, HK1.out, fun w2 _ h _ => by rw [HJ.out]; exact h⟩
 ·have hJ : ∀ v, joinV v S .nil = .inner v S .nil := fun v => by
   cases S with
   | nil => exact absurd rfl hSn
   | leaf v e => exact absurd hk (show ¬ (1 : Int) = 2 by decide)
   | inner v x y => rfl
  obtain ⟨aS, haS⟩ : ∃ a, S.val = .pointer (some a) := by
   rcases hS.addr with h | h
   ·exact absurd h hSn
   ·exact h
  rw [show (Tv.nil).val = .pointer none from rfl, haS]
  obtain ⟨T, hTT⟩ : ∃ T : Tv, T = .nil := ⟨_, rfl⟩
  have HTV : Hid (T.val = .pointer none) := by rw [hTT]; rfl
  rw [← hTT] at hT hl hJ ⊢
  have HS0 := Lib.hid hS
  have HT0 := Lib.hid hT
  have HH0 := Lib.hid hh
  have HV0 := Lib.hid hv
  have HK0 : Hid (Keep (fun i => i = b) w w) := Keep.refl _ _
  have HL := Lib.hid hl
  have HPS := Lib.hid haS
  have HKD := Lib.hid hk
  have HJJ := Lib.hid hJ
  clear hJ hk hS hT hh hv hpT hpS haS hTT hSn
  unfold ptr
  go_enter Tryz.func60, Tryz.ntmps60
  go_wp2_with fail
  have HC := Lib.hid (kind_n w n S HS0.out)
  rw [HPS.out, HKD.out] at HC
  refine HC.out.mono ?_
  rintro _ w1 ⟨rfl, hB⟩
  have HS1 := Lib.hid (HS0.out.below hB)
  have HT1 := Lib.hid (HT0.out.below hB)
  have HH1 := Lib.hid (HH0.out.keep (Keep.of_below (L := fun _ => False) hB) fun h => h)
  have HV1 := Lib.hid (HV0.out.below hB)
  have HK1 : Hid (Keep (fun i => i = b) w w1) := HK0.out.trans (Keep.of_below hB)
  clear hB HC HS0 HT0 HH0 HV0 HK0
  obtain ⟨dS, hdS⟩ : ∃ d, d = digT n S.tr := ⟨_, rfl⟩
  obtain ⟨dT, hdT⟩ : ∃ d, d = digT n T.tr := ⟨_, rfl⟩
  have HdS : Hid (dS.length = 32) := by show _ = _; rw [hdS]; exact digT_len _ _
  have HdT : Hid (dT.length = 32) := by show _ = _; rw [hdT]; exact digT_len _ _
  obtain ⟨q, hq⟩ : ∃ q, q = digL n (nodeL dS dT) := ⟨_, rfl⟩
  have HQL : Hid (q.length = 32) := by show _ = _; rw [hq]; exact dig_len _ _
  have HQ : Hid (q = digT n (.inner S.tr T.tr)) := by show _ = _; rw [hq, hdS, hdT]; rfl
  have HDS := Lib.hid hdS
  have HDT := Lib.hid hdT
  have HQ1 := Lib.hid hq
  clear hdS hdT hq
  go_wp2_with fail
  have HC := Lib.hid (digest_n w1 b n m S HH1.out (by omega) HV1.out HS1.out)
  rw [HPS.out, ← HDS.out] at HC
  refine HC.out.mono ?_
  rintro _ v1 ⟨m1, rfl, hm1, _, hH, hK⟩
  have GS1 := Lib.hid (HS1.out.hs HH1.out hK)
  have GT1 := Lib.hid (HT1.out.hs HH1.out hK)
  have GV1 := Lib.hid (HV1.out.hs HH1.out hK)
  have GH1 := Lib.hid hH
  have GK1 := Lib.hid (HK1.out.trans hK)
  have GM1 := Lib.hid hm1
  clear hm1 hH hK HC HS1 HT1 HH1 HV1 HK1
  go_wp2_with fail
  have HC := Lib.hid (digest_n v1 b n m1 T GH1.out (by have := GM1.out; omega) GV1.out GT1.out)
  rw [HTV.out, ← HDT.out] at HC
  refine HC.out.mono ?_
  rintro _ v2 ⟨m2, rfl, hm2, _, hH, hK⟩
  have GS2 := Lib.hid (GS1.out.hs GH1.out hK)
  have GT2 := Lib.hid (GT1.out.hs GH1.out hK)
  have GV2 := Lib.hid (GV1.out.hs GH1.out hK)
  have GH2 := Lib.hid hH
  have GK2 := Lib.hid (GK1.out.trans hK)
  have GM2 : Hid (m2 ≤ m + 2) := by show _ ≤ _; have := GM1.out; omega
  clear hm2 hH hK HC GS1 GT1 GV1 GH1 GK1 GM1
  go_wp2_with fail
  refine (pnode_c dS dT v2 HdS.out HdT.out).mono ?_
  rintro _ v3 ⟨A1, c1, rfl, hn1, hc1, hA1, hB⟩
  have GH3 := Lib.hid (GH2.out.keep (Keep.of_below (L := fun _ => False) hB) fun h => h)
  have HC := Lib.hid (sum_hs b n m2 A1 (nodeL dS dT) c1 v3 GH3.out (by have := GM2.out; omega) hA1 (by omega) (by omega) (GV2.out.below hB))
  rw [hn1, ← HQ1.out] at HC
  have GS3 := Lib.hid (GS2.out.below hB)
  have GT3 := Lib.hid (GT2.out.below hB)
  have GK3 := Lib.hid (GK2.out.trans (Keep.of_below hB))
  clear hn1 hc1 hA1 hB GS2 GT2 GV2 GH2 GK2
  go_wp2_with fail
  refine HC.out.mono ?_
  rintro _ v4 ⟨rfl, hH, hK⟩
  have GS4 := Lib.hid (GS3.out.hs GH3.out hK)
  have GT4 := Lib.hid (GT3.out.hs GH3.out hK)
  have GH4 := Lib.hid hH
  have GK4 := Lib.hid (GK3.out.trans hK)
  clear hH hK HC GS3 GT3 GH3 GK3
  go_wp2_with fail
  have HC := Lib.hid (len_n v4 n S GS4.out (by have := HL.out; omega))
  rw [HPS.out] at HC
  refine HC.out.mono ?_
  rintro _ v5 ⟨rfl, hB⟩
  have GS5 := Lib.hid (GS4.out.below hB)
  have GT5 := Lib.hid (GT4.out.below hB)
  have GH5 := Lib.hid (GH4.out.keep (Keep.of_below (L := fun _ => False) hB) fun h => h)
  have GK5 := Lib.hid (GK4.out.trans (Keep.of_below hB))
  clear hB HC GS4 GT4 GH4 GK4
  go_wp2_with fail
  have HC := Lib.hid (len_n v5 n T GT5.out (by have := HL.out; omega))
  rw [HTV.out] at HC
  obtain ⟨lS, hlS⟩ : ∃ l, l = lenT S.tr := ⟨_, rfl⟩
  obtain ⟨lT, hlT⟩ : ∃ l, l = lenT T.tr := ⟨_, rfl⟩
  rw [← hlT] at HC
  rw [← hlS]
  have hlb : (lS : Int) + (lT : Int) ≤ 1000000000 := by rw [hlS, hlT]; have := HL.out; omega
  have HLS := Lib.hid hlS
  have HLT := Lib.hid hlT
  clear hlS hlT
  refine HC.out.mono ?_
  rintro _ v6 ⟨rfl, hB⟩
  have GS6 := Lib.hid (GS5.out.below hB)
  have GT6 := Lib.hid (GT5.out.below hB)
  have GH6 := Lib.hid (GH5.out.keep (Keep.of_below (L := fun _ => False) hB) fun h => h)
  have GK6 := Lib.hid (GK5.out.trans (Keep.of_below hB))
  have bi := bldInner
  have bn := bldNode q 113 (.agg #[S.val, T.val, .int .i64 ((lS : Int) + (lT : Int))]) HQL.out v6
  rw [HPS.out, HTV.out] at bn
  clear hB HC GS5 GT5 GH5 GK5
  go_wp2_with fail
  go_ret
  exact join_end GK6.out GH6.out GM2.out GS6.out GT6.out HQ.out (by rw [HPS.out, HTV.out, HLS.out, HLT.out]; push_cast; rfl) HJJ.out
 ·have hJ : ∀ v, joinV v S T = .inner v S T := fun v => by
   cases S with
   | nil => exact absurd rfl hSn
   | leaf a e => cases T with
    | nil => exact absurd rfl hTn
    | leaf _ _ => rfl
    | inner _ _ _ => rfl
   | inner a x y => cases T with
    | nil => exact absurd rfl hTn
    | leaf _ _ => rfl
    | inner _ _ _ => rfl
  obtain ⟨aS, haS⟩ : ∃ a, S.val = .pointer (some a) := by
   rcases hS.addr with h | h
   ·exact absurd h hSn
   ·exact h
  obtain ⟨aT, haT⟩ : ∃ a, T.val = .pointer (some a) := by
   rcases hT.addr with h | h
   ·exact absurd h hTn
   ·exact h
  rw [haS, haT]
  have HS0 := Lib.hid hS
  have HT0 := Lib.hid hT
  have HH0 := Lib.hid hh
  have HV0 := Lib.hid hv
  have HK0 : Hid (Keep (fun i => i = b) w w) := Keep.refl _ _
  have HL := Lib.hid hl
  have HPS := Lib.hid haS
  have HPT := Lib.hid haT
  have HJJ := Lib.hid hJ
  clear hJ hS hT hh hv hpT hpS haS haT hSn hTn
  unfold ptr
  go_enter Tryz.func60, Tryz.ntmps60
  obtain ⟨dS, hdS⟩ : ∃ d, d = digT n S.tr := ⟨_, rfl⟩
  obtain ⟨dT, hdT⟩ : ∃ d, d = digT n T.tr := ⟨_, rfl⟩
  have HdS : Hid (dS.length = 32) := by show _ = _; rw [hdS]; exact digT_len _ _
  have HdT : Hid (dT.length = 32) := by show _ = _; rw [hdT]; exact digT_len _ _
  obtain ⟨q, hq⟩ : ∃ q, q = digL n (nodeL dS dT) := ⟨_, rfl⟩
  have HQL : Hid (q.length = 32) := by show _ = _; rw [hq]; exact dig_len _ _
  have HQ : Hid (q = digT n (.inner S.tr T.tr)) := by show _ = _; rw [hq, hdS, hdT]; rfl
  have HDS := Lib.hid hdS
  have HDT := Lib.hid hdT
  have HQ1 := Lib.hid hq
  clear hdS hdT hq
  go_wp2_with fail
  have HC := Lib.hid (digest_n w b n m S HH0.out (by omega) HV0.out HS0.out)
  rw [HPS.out, ← HDS.out] at HC
  refine HC.out.mono ?_
  rintro _ v1 ⟨m1, rfl, hm1, _, hH, hK⟩
  have GS1 := Lib.hid (HS0.out.hs HH0.out hK)
  have GT1 := Lib.hid (HT0.out.hs HH0.out hK)
  have GV1 := Lib.hid (HV0.out.hs HH0.out hK)
  have GH1 := Lib.hid hH
  have GK1 := Lib.hid (HK0.out.trans hK)
  have GM1 := Lib.hid hm1
  clear hm1 hH hK HC HS0 HT0 HH0 HV0 HK0
  go_wp2_with fail
  have HC := Lib.hid (digest_n v1 b n m1 T GH1.out (by have := GM1.out; omega) GV1.out GT1.out)
  rw [HPT.out, ← HDT.out] at HC
  refine HC.out.mono ?_
  rintro _ v2 ⟨m2, rfl, hm2, _, hH, hK⟩
  have GS2 := Lib.hid (GS1.out.hs GH1.out hK)
  have GT2 := Lib.hid (GT1.out.hs GH1.out hK)
  have GV2 := Lib.hid (GV1.out.hs GH1.out hK)
  have GH2 := Lib.hid hH
  have GK2 := Lib.hid (GK1.out.trans hK)
  have GM2 : Hid (m2 ≤ m + 2) := by show _ ≤ _; have := GM1.out; omega
  clear hm2 hH hK HC GS1 GT1 GV1 GH1 GK1 GM1
  go_wp2_with fail
  refine (pnode_c dS dT v2 HdS.out HdT.out).mono ?_
  rintro _ v3 ⟨A1, c1, rfl, hn1, hc1, hA1, hB⟩
  have GH3 := Lib.hid (GH2.out.keep (Keep.of_below (L := fun _ => False) hB) fun h => h)
  have HC := Lib.hid (sum_hs b n m2 A1 (nodeL dS dT) c1 v3 GH3.out (by have := GM2.out; omega) hA1 (by omega) (by omega) (GV2.out.below hB))
  rw [hn1, ← HQ1.out] at HC
  have GS3 := Lib.hid (GS2.out.below hB)
  have GT3 := Lib.hid (GT2.out.below hB)
  have GK3 := Lib.hid (GK2.out.trans (Keep.of_below hB))
  clear hn1 hc1 hA1 hB GS2 GT2 GV2 GH2 GK2
  go_wp2_with fail
  refine HC.out.mono ?_
  rintro _ v4 ⟨rfl, hH, hK⟩
  have GS4 := Lib.hid (GS3.out.hs GH3.out hK)
  have GT4 := Lib.hid (GT3.out.hs GH3.out hK)
  have GH4 := Lib.hid hH
  have GK4 := Lib.hid (GK3.out.trans hK)
  clear hH hK HC GS3 GT3 GH3 GK3
  go_wp2_with fail
  have HC := Lib.hid (len_n v4 n S GS4.out (by have := HL.out; omega))
  rw [HPS.out] at HC
  refine HC.out.mono ?_
  rintro _ v5 ⟨rfl, hB⟩
  have GS5 := Lib.hid (GS4.out.below hB)
  have GT5 := Lib.hid (GT4.out.below hB)
  have GH5 := Lib.hid (GH4.out.keep (Keep.of_below (L := fun _ => False) hB) fun h => h)
  have GK5 := Lib.hid (GK4.out.trans (Keep.of_below hB))
  clear hB HC GS4 GT4 GH4 GK4
  go_wp2_with fail
  have HC := Lib.hid (len_n v5 n T GT5.out (by have := HL.out; omega))
  rw [HPT.out] at HC
  obtain ⟨lS, hlS⟩ : ∃ l, l = lenT S.tr := ⟨_, rfl⟩
  obtain ⟨lT, hlT⟩ : ∃ l, l = lenT T.tr := ⟨_, rfl⟩
  rw [← hlT] at HC
  rw [← hlS]
  have hlb : (lS : Int) + (lT : Int) ≤ 1000000000 := by rw [hlS, hlT]; have := HL.out; omega
  have HLS := Lib.hid hlS
  have HLT := Lib.hid hlT
  clear hlS hlT
  refine HC.out.mono ?_
  rintro _ v6 ⟨rfl, hB⟩
  have GS6 := Lib.hid (GS5.out.below hB)
  have GT6 := Lib.hid (GT5.out.below hB)
  have GH6 := Lib.hid (GH5.out.keep (Keep.of_below (L := fun _ => False) hB) fun h => h)
  have GK6 := Lib.hid (GK5.out.trans (Keep.of_below hB))
  have bi := bldInner
  have bn := bldNode q 113 (.agg #[S.val, T.val, .int .i64 ((lS : Int) + (lT : Int))]) HQL.out v6
  rw [HPS.out, HPT.out] at bn
  clear hB HC GS5 GT5 GH5 GK5
  go_wp2_with fail
  go_ret
  exact join_end GK6.out GH6.out GM2.out GS6.out GT6.out HQ.out (by rw [HPS.out, HPT.out, HLS.out, HLT.out]; push_cast; rfl) HJJ.out
end
section
open Go.RowKit
theorem nd_c : NdV Mn where
 nil := fun _ _ => trivial
 below := Mn.below
 hs := Mn.hs
 addr := Mn.addr
 kids := fun ⟨_, _, _, ha, hb⟩ => ⟨ha, hb⟩
 key := fun ⟨_, _, _, _, _, he, hl⟩ => ⟨he.key, hl⟩
 leaf := newleaf_n
 join := join_n
 digest := fun w b n c T hh hc hv h => digest_n w b n c T hh (by omega) hv h
 kind := kind_n
 len := len_n
 left := left_n
 right := right_n
 leafOf := leafOf_n
end
end Go.Proofs.YtmfbhohjpkmllaaGreatDoor
