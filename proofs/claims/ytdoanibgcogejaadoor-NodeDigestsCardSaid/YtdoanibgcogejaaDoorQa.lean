/- The program's subtrees in memory (values of structs in an interface); its content, Kind, Len. -/
import Derived.Test.YtdoanibgcogejaaDoorM7
namespace Go.Proofs.YtdoanibgcogejaaDoor
open Go.RowKit

/-- A leaf's content, an inner node's, as the program lays them; a node's cells. -/
def flC (r : List UInt8) (A : Option Addr) (l : List UInt8) (c : Nat) : Array Value := (r.map bv ++ [Value.slice A l.length c]).toArray
def inC (a b : Value) (n : Int) : Array Value := #[a, b, .int .i64 n]
def nodeC (g : List UInt8) (c : Value) : Array Value := (g.map bv ++ [c]).toArray
def NodeAt (w : World) (g : Nat) (d : List UInt8) (c : Value) : Prop := w.heap[g]? = some (.cells (nodeC d c) 63 (0, 0))
def Mn (w : World) (n : Int) : Tv → Prop
  | .nil => True
  | .leaf v e => ∃ g A c, v = ptr g ∧ NodeAt w g (digT n (.leaf e)) (.iface 71 (.agg (flC (e.k ++ digL n (valL e.v)) A e.v c))) ∧ EnOk w ⟨e.k, A, e.v, c⟩ ∧ e.v.length ≤ 1000
  | .inner v a b => ∃ g, v = ptr g ∧ NodeAt w g (digT n (.inner a.tr b.tr)) (.iface 75 (.agg (inC a.val b.val ((lenT a.tr + lenT b.tr : Nat) : Int)))) ∧ Mn w n a ∧ Mn w n b
theorem NodeAt.cell {w : World} {g : Nat} {d : List UInt8} {c : Value} (h : NodeAt w g d c) (hd : d.length = 32) : w.cell? ⟨g, 32, none⟩ = some c := by
  rw [cell_of_cells h]
  unfold nodeC
  simp only [List.getElem?_toArray]
  rw [List.getElem?_append_right (by simp [hd])]
  simp [hd]
theorem NodeAt.dig {w : World} {g : Nat} {d : List UInt8} {c : Value} (h : NodeAt w g d c) (hd : d.length = 32) : ldA 30 w (.pointer (some ⟨g, 0, none⟩)) = .ok (.value (.agg (bA d))) w := by
  have := ldA_of (t := 30) (w := w) (b := g) (o := 0) (cs := d.map bv) (fun j v hv => by
    rw [Nat.zero_add, cell_of_cells h]
    unfold nodeC
    simp only [List.getElem?_toArray]
    rw [List.getElem?_append_left (List.getElem?_eq_some_iff.1 hv).1]
    exact hv) Tryd.underlying30 (by rw [List.length_map, hd]; exact info26)
  exact this
theorem NodeAt.below {w w' : World} {g : Nat} {d : List UInt8} {c : Value} (h : NodeAt w g d c) (hb : Below w.heap.size w w') : NodeAt w' g d c := by
  unfold NodeAt
  rw [hb.block g (lt_of_heap h)]
  exact h
theorem Mn.below {n : Int} : ∀ {T : Tv} {w w' : World}, Mn w n T → Below w.heap.size w w' → Mn w' n T
  | .nil, _, _, _, _ => trivial
  | .leaf _ _, _, _, ⟨g, A, c, hv, hg, he, hl⟩, hb => ⟨g, A, c, hv, hg.below hb, he.below hb, hl⟩
  | .inner _ _ _, _, _, ⟨g, hv, hg, ha, hb'⟩, hb => ⟨g, hv, hg.below hb, Mn.below ha hb, Mn.below hb' hb⟩
theorem NodeAt.hs {w w' : World} {g b : Nat} {d : List UInt8} {c : Value} {k : Int} {m : Nat} (h : NodeAt w g d c) (hd : d.length = 32) (hh : Hs w b k m) (hk : Keep (fun i => i = b) w w') : NodeAt w' g d c :=
  hk.heap h fun e => by
    have e2 : g = b := e
    subst e2
    have h1 := h.cell hd
    rw [cell_of_cells hh] at h1
    simp at h1
theorem Mn.hs {n : Int} : ∀ {T : Tv} {w w' : World} {b : Nat} {k : Int} {m : Nat}, Mn w n T → Hs w b k m → Keep (fun i => i = b) w w' → Mn w' n T
  | .nil, _, _, _, _, _, _, _, _ => trivial
  | .leaf _ _, _, _, _, _, _, ⟨g, A, c, hv, hg, he, hl⟩, hh, hk => ⟨g, A, c, hv, hg.hs (digT_len _ _) hh hk, hh.ok he hk, hl⟩
  | .inner _ _ _, _, _, _, _, _, ⟨g, hv, hg, ha, hb'⟩, hh, hk => ⟨g, hv, hg.hs (digT_len _ _) hh hk, Mn.hs ha hh hk, Mn.hs hb' hh hk⟩
theorem Mn.addr {w : World} {n : Int} {T : Tv} (h : Mn w n T) : T = .nil ∨ ∃ a, T.val = .pointer (some a) := by
  match T, h with
  | .nil, _ => exact .inl rfl
  | .leaf v e, ⟨g, A, c, hv, _⟩ => exact .inr ⟨_, hv⟩
  | .inner v a b, ⟨g, hv, _⟩ => exact .inr ⟨_, hv⟩
/-! ### The content taken apart -/
theorem zeroFull : ∀ w, (zeroValue 71).run Tryd.prog w = .ok (.agg (flC z64 none [] 0)) w := fun _ => by kernel_rfl
attribute [go_sem ↓] zeroFull
theorem na_full (v : Array Value) (w : World) : (nilAhead 232 71 (.agg v) "sparsetree/node.leaves").run Tryd.prog w = .ok (some false) w := by kernel_rfl
theorem na_inner (v : Array Value) (w : World) : (nilAhead 232 75 (.agg v) "sparsetree/node.leaves").run Tryd.prog w = .ok (some false) w := by kernel_rfl
theorem ta_ff (v : Value) (w : World) : (Instr.typeAssert (.iface 71 v) 61 71 true).run Tryd.prog w = .ok (.tuple #[v, .bool true]) w := by kernel_rfl
theorem ta_ii (v : Value) (w : World) : (Instr.typeAssert (.iface 75 v) 61 75 true).run Tryd.prog w = .ok (.tuple #[v, .bool true]) w := by kernel_rfl
theorem ta_fi (v : Value) (w : World) : (Instr.typeAssert (.iface 71 v) 61 75 true).run Tryd.prog w = .ok (.tuple #[.agg (inC (.pointer none) (.pointer none) 0), .bool false]) w := by kernel_rfl
theorem ta_if (v : Value) (w : World) : (Instr.typeAssert (.iface 75 v) 61 71 true).run Tryd.prog w = .ok (.tuple #[.agg (flC z64 none [] 0), .bool false]) w := by kernel_rfl
theorem ta_nf (w : World) : (Instr.typeAssert .nilIface 61 71 true).run Tryd.prog w = .ok (.tuple #[.agg (flC z64 none [] 0), .bool false]) w := by kernel_rfl
theorem ta_ni (w : World) : (Instr.typeAssert .nilIface 61 75 true).run Tryd.prog w = .ok (.tuple #[.agg (inC (.pointer none) (.pointer none) 0), .bool false]) w := by kernel_rfl
theorem leavesfull_c (v : Array Value) (w : World) : Calls Tryd.prog 92 #[.agg v] w fun e w' => e = .returned (.int .i64 1) ∧ Below w.heap.size w w' := by
  go_enter Tryd.func92, Tryd.ntmps92
  go_wp2
  go_ret
  exact ⟨rfl, (Below.refl _ _).alloc (Nat.le_refl _) _⟩
theorem leavesinner_c (a b : Value) (n : Int) (w : World) : Calls Tryd.prog 93 #[.agg #[a, b, .int .i64 n]] w fun e w' => e = .returned (.int .i64 n) ∧ Below w.heap.size w w' := by
  go_enter Tryd.func93, Tryd.ntmps93
  go_wp2
  go_ret
  exact ⟨rfl, (Below.refl _ _).alloc (Nat.le_refl _) _⟩
set_option maxRecDepth 100000 in
theorem contents_at {w : World} {g : Nat} {d : List UInt8} {t : TypeId} {v : Value} (hg : NodeAt w g d (.iface t v)) (hd : d.length = 32) : Calls Tryd.prog 42 #[.pointer (some ⟨g, 0, none⟩)] w fun e w' => e = .returned (.iface t v) ∧ w = w' := by
  have hc := hg.cell hd
  clear hg
  go_enter Tryd.func42, Tryd.ntmps42
  go_wp2_with fail
  go_ret
  exact ⟨rfl, rfl⟩
set_option maxRecDepth 100000 in
theorem contents_nil (w : World) : Calls Tryd.prog 42 #[.pointer none] w fun e w' => e = .returned .nilIface ∧ w = w' := by
  go_enter Tryd.func42, Tryd.ntmps42
  go_wp2_with fail
  go_ret
  exact ⟨rfl, rfl⟩
set_option maxHeartbeats 2000000 in
set_option maxRecDepth 100000 in
theorem kind_n (w : World) (n : Int) (T : Tv) (h : Mn w n T) : Calls Tryd.prog 21 #[T.val] w fun e w' => e = .returned (.int .i64 (kindT T.tr)) ∧ Below w.heap.size w w' := by
  match T, h with
  | .nil, _ =>
    rw [show (Tv.nil).val = .pointer none from rfl, show kindT (Tv.nil).tr = 0 from rfl]
    have ta := ta_nf
    have tb := ta_ni
    have HC : Hid (Calls Tryd.prog 42 #[.pointer none] w fun e w' => e = .returned .nilIface ∧ w = w') := contents_nil w
    go_enter Tryd.func21, Tryd.ntmps21
    go_wp2_with fail
    refine HC.out.mono ?_
    rintro _ _ ⟨rfl, rfl⟩
    go_wp2_with fail
    go_ret
    exact ⟨rfl, Below.refl _ _⟩
  | .leaf v e, ⟨g, A, c, hv, hg, _, _⟩ =>
    rw [show (Tv.leaf v e).val = v from rfl, show kindT (Tv.leaf v e).tr = 1 from rfl, hv]
    have ta := ta_ff
    obtain ⟨L, hL⟩ : ∃ L, L = flC (e.k ++ digL n (valL e.v)) A e.v c := ⟨_, rfl⟩
    rw [← hL] at hg
    have HC : Hid (Calls Tryd.prog 42 #[.pointer (some ⟨g, 0, none⟩)] w fun e w' => e = .returned (.iface 71 (.agg L)) ∧ w = w') := contents_at hg (digT_len _ _)
    clear hg hv hL
    unfold ptr
    go_enter Tryd.func21, Tryd.ntmps21
    go_wp2_with fail
    refine HC.out.mono ?_
    rintro _ _ ⟨rfl, rfl⟩
    go_wp2_with fail
    go_ret
    exact ⟨rfl, Below.refl _ _⟩
  | .inner v a b, ⟨g, hv, hg, _, _⟩ =>
    rw [show (Tv.inner v a b).val = v from rfl, show kindT (Tv.inner v a b).tr = 2 from rfl, hv]
    have ta := ta_if
    have tb := ta_ii
    obtain ⟨L, hL⟩ : ∃ L, L = inC a.val b.val ((lenT a.tr + lenT b.tr : Nat) : Int) := ⟨_, rfl⟩
    rw [← hL] at hg
    have HC : Hid (Calls Tryd.prog 42 #[.pointer (some ⟨g, 0, none⟩)] w fun e w' => e = .returned (.iface 75 (.agg L)) ∧ w = w') := contents_at hg (digT_len _ _)
    clear hg hv hL
    unfold ptr
    go_enter Tryd.func21, Tryd.ntmps21
    go_wp2_with fail
    refine HC.out.mono ?_
    rintro _ _ ⟨rfl, rfl⟩
    go_wp2_with fail
    go_ret
    exact ⟨rfl, Below.refl _ _⟩
set_option maxHeartbeats 2000000 in
set_option maxRecDepth 100000 in
theorem len_n (w : World) (n : Int) (T : Tv) (h : Mn w n T) (_hl : lenT T.tr ≤ 1000000000) : Calls Tryd.prog 22 #[T.val] w fun e w' => e = .returned (.int .i64 (lenT T.tr : Int)) ∧ Below w.heap.size w w' := by
  match T, h with
  | .nil, _ =>
    rw [show (Tv.nil).val = .pointer none from rfl, show lenT (Tv.nil).tr = 0 from rfl]
    have HC : Hid (Calls Tryd.prog 42 #[.pointer none] w fun e w' => e = .returned .nilIface ∧ w = w') := contents_nil w
    go_enter Tryd.func22, Tryd.ntmps22
    go_wp2_with fail
    refine HC.out.mono ?_
    rintro _ _ ⟨rfl, rfl⟩
    go_wp2_with fail
    go_ret
    exact ⟨rfl, Below.refl _ _⟩
  | .leaf v e, ⟨g, A, c, hv, hg, _, _⟩ =>
    rw [show (Tv.leaf v e).val = v from rfl, show lenT (Tv.leaf v e).tr = 1 from rfl, hv]
    obtain ⟨L, hL⟩ : ∃ L, L = flC (e.k ++ digL n (valL e.v)) A e.v c := ⟨_, rfl⟩
    rw [← hL] at hg
    have na := na_full L
    have HC : Hid (Calls Tryd.prog 42 #[.pointer (some ⟨g, 0, none⟩)] w fun e w' => e = .returned (.iface 71 (.agg L)) ∧ w = w') := contents_at hg (digT_len _ _)
    clear hg hv hL
    unfold ptr
    go_enter Tryd.func22, Tryd.ntmps22
    go_wp2_with fail
    refine HC.out.mono ?_
    rintro _ _ ⟨rfl, rfl⟩
    go_wp2_with fail
    refine (leavesfull_c L _).mono ?_
    rintro _ w1 ⟨rfl, hB⟩
    have HB := Lib.hid hB
    clear hB
    go_wp2_with fail
    go_ret
    exact ⟨rfl, HB.out⟩
  | .inner v a b, ⟨g, hv, hg, _, _⟩ =>
    rw [show (Tv.inner v a b).val = v from rfl, show lenT (Tv.inner v a b).tr = lenT a.tr + lenT b.tr from rfl, hv]
    have HL := Lib.hid (leavesinner_c a.val b.val ((lenT a.tr + lenT b.tr : Nat) : Int))
    change Hid (∀ w, Calls Tryd.prog 93 #[.agg (inC a.val b.val ((lenT a.tr + lenT b.tr : Nat) : Int))] w _) at HL
    obtain ⟨L, hL⟩ : ∃ L, L = inC a.val b.val ((lenT a.tr + lenT b.tr : Nat) : Int) := ⟨_, rfl⟩
    rw [← hL] at hg HL
    have na := na_inner L
    have HC : Hid (Calls Tryd.prog 42 #[.pointer (some ⟨g, 0, none⟩)] w fun e w' => e = .returned (.iface 75 (.agg L)) ∧ w = w') := contents_at hg (digT_len _ _)
    clear hg hv hL
    unfold ptr
    go_enter Tryd.func22, Tryd.ntmps22
    go_wp2_with fail
    refine HC.out.mono ?_
    rintro _ _ ⟨rfl, rfl⟩
    go_wp2_with fail
    refine (HL.out _).mono ?_
    rintro _ w1 ⟨rfl, hB⟩
    have HB := Lib.hid hB
    clear hB
    go_wp2_with fail
    go_ret
    exact ⟨rfl, HB.out⟩
end Go.Proofs.YtdoanibgcogejaaDoor
