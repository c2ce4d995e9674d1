import Derived.Test.YtmfbhohjpkmllaaGreatDoorIF
import Derived.Test.YtmfbhohjpkmllaaGreatDoorLM
import Derived.Shelf.Abstract
import Derived.LoopNIn
import Derived.Test.YtmfbhohjpkmllaaGreatDoorMR
namespace Go.Proofs.YtmfbhohjpkmllaaGreatDoor
set_option linter.unusedSimpArgs false
set_option linter.unusedVariables false
set_option maxHeartbeats 8000000
set_option maxRecDepth 100000
section
open Go.RowKit
theorem flat_uniq : ∀ (t u : Mt) (r s : List It), t.Shape → u.Shape → t.flat ++ r = u.flat ++ s → t = u ∧ r = s
 | .leaf x, .leaf y, r, s, _, _, h => by
  have h : x :: r = y :: s := h
  cases h
  exact ⟨rfl, rfl⟩
 | .leaf x, .node y a b, r, s, hx, hy, h => by
  have h : x :: r = y :: ((a.flat ++ b.flat) ++ s) := h
  cases h
  exact absurd hy.1 hx
 | .node y a b, .leaf x, r, s, hy, hx, h => by
  have h : y :: ((a.flat ++ b.flat) ++ r) = x :: s := h
  cases h
  exact absurd hy.1 hx
 | .node x a b, .node y c d, r, s, hx, hy, h => by
  have h : x :: ((a.flat ++ b.flat) ++ r) = y :: ((c.flat ++ d.flat) ++ s) := h
  rw [List.append_assoc, List.append_assoc] at h
  obtain ⟨rfl, h0⟩ := List.cons.inj h
  obtain ⟨rfl, h2⟩ := flat_uniq a c _ _ hx.2.1 hy.2.1 h0
  obtain ⟨rfl, h3⟩ := flat_uniq b d _ _ hx.2.2 hy.2.2 h2
  exact ⟨rfl, h3⟩
structure Mt.Tr (t : Mt) (f : Nat) : Prop where
 shape : t.Shape
 ht : t.ht ≤ f
 clean : ∀ x ∈ t.flat, x.clean
theorem tr_top {x : It} {r s : List It} {t : Mt} {f : Nat} (hx : x.k = 2) (h : x :: r = t.flat ++ s) (ht : t.Tr f) : ∃ (a b : Mt) (f' : Nat), f = f' + 1 ∧ r = a.flat ++ (b.flat ++ s) ∧ a.Tr f' ∧ b.Tr f' := by
 match t, h, ht with
 | .leaf y, h, ht =>
  have h : x :: r = y :: s := h
  cases h
  exact absurd hx ht.shape
 | .node y a b, h, ht =>
  have h : x :: r = y :: ((a.flat ++ b.flat) ++ s) := h
  obtain ⟨rfl, h0⟩ := List.cons.inj h
  have h2 : max a.ht b.ht + 1 ≤ f := ht.ht
  have hc : ∀ z ∈ x :: (a.flat ++ b.flat), z.clean := ht.clean
  refine ⟨a, b, f - 1, by omega, by rw [h0, List.append_assoc], ⟨ht.shape.2.1, by omega, fun z hz => hc z (by simp [hz])⟩, ⟨ht.shape.2.2, by omega, fun z hz => hc z (by simp [hz])⟩⟩
theorem tr_first {x : It} {r s : List It} {t : Mt} {f : Nat} (h : x :: r = t.flat ++ s) (ht : t.Tr f) : x.clean := by
 match t, h, ht with
 | .leaf y, h, ht =>
  have h : x :: r = y :: s := h
  cases h
  exact ht.clean x (by simp [Mt.flat])
 | .node y a b, h, ht =>
  have h : x :: r = y :: ((a.flat ++ b.flat) ++ s) := h
  cases h
  exact ht.clean x (by simp [Mt.flat])
theorem chk_whole {l : List It} (hk : ∀ x ∈ l, 0 ≤ x.k ∧ x.k ≤ 3) : chkI l = 0 ↔ ∃ t : Mt, t.Tr 256 ∧ l = t.flat := by
 rw [chkI_ok]
 exact ⟨fun ⟨t, h, e⟩ => ⟨t, ⟨h.1, h.2.1, fun x hx => (h.2.2 x hx).2⟩, e⟩, fun ⟨t, h, e⟩ => ⟨t, ⟨h.shape, h.ht, fun x hx => ⟨hk x (by rw [e]; exact hx), h.clean x hx⟩⟩, e⟩⟩
theorem chk_kinds {l : List It} (hk : ∀ x ∈ l, 0 ≤ x.k ∧ x.k ≤ 3) : chkI l = 5 ∨ chkI l = 0 := by
 rcases chkI_cases l with h | h | h
 ·unfold chkI at h
  split at h
  ·rename_i he
   obtain ⟨x, hx, h1⟩ := he
   have := hk x hx
   omega
  ·split at h <;> cases h
 ·exact .inl h
 ·exact .inr h
theorem chk_bad {l : List It} (hk : ∃ x ∈ l, x.k < 0 ∨ 3 < x.k) : chkI l = 7 := by
 unfold chkI
 rw [if_pos hk]
theorem good_tr {t : Mt} (h : t.Good) : t.Tr 256 := ⟨h.1, h.2.1, fun x hx => (h.2.2 x hx).2⟩
theorem elemI : Tryz.prog.elem 30 = 59 := by kernel_rfl
theorem slI : Tryz.prog.underlying 30 = some (.slice (Tryz.prog.elem 30)) := by rw [elemI]; exact Tryz.underlying30
theorem sizeI (w : World) : (sizeOf 59).run Tryz.prog w = .ok 97 w := by
 obtain ⟨i, hi, hs⟩ := Option.map_eq_some_iff.1 infoIt
 simp [sizeOf, typeInfo, hi, hs]
def cutI (A : Option Addr) (c n : Nat) : Option Addr := if c = n then A else A.map (·.add (n * 97))
theorem cutI_from (A : Option Addr) (len c n : Nat) (h : n ≤ len) (w : World) :
  (Instr.sliceAt 30 (.slice A len c) (some (.int .i64 (n : Int))) none none).run Tryz.prog w = .ok (.slice (cutI A c n) (len - n) (c - n)) w := by
 rw [run_sliceAt_slice w 30 _ _ _ _ slI, run_slice_l w 30 A len c slI .i64 n (by omega) (by omega), elemI, sizeI]
 simp [sliced, cutI]
theorem IA.cut {w : World} {A : Option Addr} {l : List It} (h : IA w A l) {c n : Nat} (hc : l.length ≤ c) : IA w (cutI A c n) (l.drop n) := fun i e hi => by
 rw [List.getElem?_drop] at hi
 have hlt := (List.getElem?_eq_some_iff.1 hi).1
 obtain ⟨h1, g, o, rfl, h2⟩ := h _ _ hi
 unfold cutI
 rw [if_neg (by omega)]
 exact ⟨h1, g, o + n * 97, by rw [Option.map_some, add_none], by rw [show o + n * 97 + i * 97 = o + (n + i) * 97 by omega]; exact h2⟩
def SubV (w : World) : Mt → Value → Prop
 | .leaf x, v => x.Ok ∧ ∃ g o, v = .iface 138 (.agg #[.pointer (some ⟨g, o, none⟩)]) ∧ w.rangeAt g o (itL x)
 | .node _ a b, v => ∃ u1 u2, v = .iface 141 (.agg #[u1, u2]) ∧ SubV w a u1 ∧ SubV w b u2
theorem SubV.keep {w w' : World} (hk : ∀ (x : It) (g o : Nat), x.Ok → w.rangeAt g o (itL x) → w'.rangeAt g o (itL x)) : ∀ {t : Mt} {v : Value}, SubV w t v → SubV w' t v
 | .leaf x, _, ⟨h1, g, o, h2, h3⟩ => ⟨h1, g, o, h2, hk x g o h1 h3⟩
 | .node _ _ _, _, ⟨u1, u2, h1, h2, h3⟩ => ⟨u1, u2, h1, h2.keep hk, h3.keep hk⟩
theorem SubV.below {w w' : World} {t : Mt} {v : Value} (h : SubV w t v) (hb : Below w.heap.size w w') : SubV w' t v := h.keep fun _ _ _ _ hr => range_below hr hb
theorem SubV.hs {w w' : World} {b : Nat} {n : Int} {c : Nat} {t : Mt} {v : Value} (h : SubV w t v) (hh : Hs w b n c) (k : Keep (fun i => i = b) w w') : SubV w' t v := h.keep fun x g o hx hr => by
 have hA : IA w (some ⟨g, o, none⟩) [x] := fun i y hi => by
  have : i = 0 := by have := (List.getElem?_eq_some_iff.1 hi).1; simp at this; omega
  subst this
  have e : x = y := by simpa using hi
  subst e
  exact ⟨hx, g, o, rfl, by simpa using hr⟩
 obtain ⟨_, g2, o2, e, h2⟩ := hA.hs hh k 0 x rfl
 cases e
 simpa using h2
theorem SubV.iface {w : World} {t : Mt} {v : Value} (h : SubV w t v) : ∃ s u, v = .iface s (.agg u) := by
 match t, h with
 | .leaf _, ⟨_, _, _, h, _⟩ => exact ⟨_, _, h⟩
 | .node _ _ _, ⟨_, _, h, _⟩ => exact ⟨_, _, h⟩
def RdP (w : World) (m : List It) (f : Nat) (pv rest : Value) : Prop :=
 (∃ (t : Mt) (r : List It) (A : Option Addr) (c : Nat), m = t.flat ++ r ∧ t.Tr f ∧ SubV w t pv ∧ rest = .slice A r.length c ∧ IA w A r ∧ r.length ≤ c) ∨ (pv = .nilIface ∧ rest = .slice none 0 0 ∧ ∀ (t : Mt) (r : List It), m = t.flat ++ r → ¬ t.Tr f)
theorem rd_nil (w : World) (f : Nat) : RdP w [] f .nilIface (.slice none 0 0) := .inr ⟨rfl, rfl, fun t r h _ => by
 have := t.flat_pos
 have h2 := congrArg List.length h
 rw [List.length_append] at h2
 simp at h2
 omega⟩
theorem rd_dirty {w : World} {x : It} {r : List It} (f : Nat) (h : ¬ x.clean) : RdP w (x :: r) f .nilIface (.slice none 0 0) := .inr ⟨rfl, rfl, fun _ _ e ht => h (tr_first e ht)⟩
theorem rd_end {w : World} {x : It} {r : List It} (f : Nat) (hx : x.k ≠ 2) (hc : x.clean) {g o : Nat} (hxo : x.Ok) (hr : w.rangeAt g o (itL x)) {A : Option Addr} {c : Nat} (hA : IA w A r) (hcc : r.length ≤ c) :
  RdP w (x :: r) f (.iface 138 (.agg #[.pointer (some ⟨g, o, none⟩)])) (.slice A r.length c) :=
 .inl ⟨.leaf x, r, A, c, rfl, ⟨hx, Nat.zero_le _, fun z hz => by rw [List.mem_singleton.1 hz]; exact hc⟩, ⟨hxo, g, o, rfl, hr⟩, rfl, hA, hcc⟩
theorem rd_deep {w : World} {x : It} {r : List It} (hx : x.k = 2) : RdP w (x :: r) 0 .nilIface (.slice none 0 0) := .inr ⟨rfl, rfl, fun t s h ht => by
 obtain ⟨_, _, f, hf, _⟩ := tr_top hx h ht
 omega⟩
theorem rd_no1 {w : World} {x : It} {r : List It} {f : Nat} (hx : x.k = 2) (h1 : ∀ (t : Mt) (s : List It), r = t.flat ++ s → ¬ t.Tr f) : RdP w (x :: r) (f + 1) .nilIface (.slice none 0 0) := .inr ⟨rfl, rfl, fun t s h ht => by
 obtain ⟨a, b, f', hf, h2, ha, _⟩ := tr_top hx h ht
 obtain rfl : f = f' := by omega
 exact h1 a _ h2 ha⟩
theorem rd_no2 {w : World} {x : It} {r r1 : List It} {t1 : Mt} {f : Nat} (hx : x.k = 2) (hr : r = t1.flat ++ r1) (hs1 : t1.Tr f) (h1 : ∀ (t : Mt) (s : List It), r1 = t.flat ++ s → ¬ t.Tr f) : RdP w (x :: r) (f + 1) .nilIface (.slice none 0 0) := .inr ⟨rfl, rfl, fun t s h ht => by
 obtain ⟨a, b, f', hf, h2, ha, hb⟩ := tr_top hx h ht
 obtain rfl : f = f' := by omega
 obtain ⟨_, h3⟩ := flat_uniq t1 a r1 _ hs1.shape ha.shape (hr.symm.trans h2)
 exact h1 b _ h3 hb⟩
theorem rd_yes {w : World} {x : It} {r r1 r2 : List It} {t1 t2 : Mt} {f : Nat} {u1 u2 : Value} (hx : x.k = 2) (hc : x.clean) (hr : r = t1.flat ++ r1) (hs1 : t1.Tr f) (h1 : SubV w t1 u1) (hr2 : r1 = t2.flat ++ r2) (hs2 : t2.Tr f) (h2 : SubV w t2 u2)
  {A : Option Addr} {c : Nat} (hA : IA w A r2) (hcc : r2.length ≤ c) :
  RdP w (x :: r) (f + 1) (.iface 141 (.agg #[u1, u2])) (.slice A r2.length c) :=
 .inl ⟨.node x t1 t2, r2, A, c, by rw [hr, hr2]; show _ = x :: ((t1.flat ++ t2.flat) ++ r2); rw [List.append_assoc], ⟨⟨hx, hs1.shape, hs2.shape⟩, by have := hs1.ht; have := hs2.ht; show max _ _ + 1 ≤ _; omega, fun z hz => by
  have hz : z ∈ x :: (t1.flat ++ t2.flat) := hz
  rcases List.mem_cons.1 hz with rfl | hz
  ·exact hc
  ·exact (List.mem_append.1 hz).elim (hs1.clean z) (hs2.clean z)⟩, ⟨u1, u2, rfl, h1, h2⟩, rfl, hA, hcc⟩
theorem wrap19v {z : Int} (h0 : -4611686018427387904 ≤ z) (h1 : z ≤ 4611686018427387904) : IntKind.i64.wrap z = z := by
 unfold IntKind.wrap
 simp [IntKind.signed, IntKind.bits]
 omega
end
section
open Go.RowKit
theorem infoEnd : (Tryz.prog.info? 138).map (·.size) = some 1 := by kernel_rfl
theorem infoInn : (Tryz.prog.info? 141).map (·.size) = some 2 := by kernel_rfl
theorem zeroEnd : ∀ w, (zeroValue 138).run Tryz.prog w = .ok (.agg #[.pointer none]) w := fun _ => by kernel_rfl
theorem zeroInn : ∀ w, (zeroValue 141).run Tryz.prog w = .ok (.agg #[.nilIface, .nilIface]) w := fun _ => by kernel_rfl
attribute [go_sem ↓] zeroEnd zeroInn
@[go_sem ↓] theorem execOp_loadEnd (ρ : Operand → Value) (dst : Option Tmp) (x : Operand) (type : TypeId) (pos : String) (after : Array Edge) (guard : Option (Nat × Bool)) (w : World) :
  Sem.run Tryz.prog (execOp ρ { dst, op := .load 138 x, type, pos, after, guard }) w = ldA 138 w (ρ x) := rfl
@[go_sem ↓] theorem execOp_storeEnd (ρ : Operand → Value) (dst : Option Tmp) (x y : Operand) (type : TypeId) (pos : String) (after : Array Edge) (guard : Option (Nat × Bool)) (w : World) :
  Sem.run Tryz.prog (execOp ρ { dst, op := .store 138 x y, type, pos, after, guard }) w = stA 138 w (ρ x) (ρ y) := rfl
@[go_sem ↓] theorem execOp_loadInn (ρ : Operand → Value) (dst : Option Tmp) (x : Operand) (type : TypeId) (pos : String) (after : Array Edge) (guard : Option (Nat × Bool)) (w : World) :
  Sem.run Tryz.prog (execOp ρ { dst, op := .load 141 x, type, pos, after, guard }) w = ldA 141 w (ρ x) := rfl
@[go_sem ↓] theorem execOp_storeInn (ρ : Operand → Value) (dst : Option Tmp) (x y : Operand) (type : TypeId) (pos : String) (after : Array Edge) (guard : Option (Nat × Bool)) (w : World) :
  Sem.run Tryz.prog (execOp ρ { dst, op := .store 141 x y, type, pos, after, guard }) w = stA 141 w (ρ x) (ρ y) := rfl
theorem range_of_cells {w : World} {g : Nat} {cs : Array Value} {t : TypeId} {fr : Nat × Nat} (h : w.heap[g]? = some (.cells cs t fr)) : w.rangeAt g 0 cs.toList := fun j v hv => by
 rw [Nat.zero_add, cell_of_cells h, ← Array.getElem?_toList]
 exact hv
theorem ldEnd {w : World} {g : Nat} {p : Value} {t : TypeId} {fr : Nat × Nat} (h : w.heap[g]? = some (.cells #[p] t fr)) : ldA 138 w (.pointer (some ⟨g, 0, none⟩)) = .ok (.value (.agg #[p])) w := by
 unfold ldA
 rw [Sem.run_bind, run_loadAt_mid (P := Tryz.prog) w g 0 138 [p] _ (range_of_cells h) Tryz.underlying138 rfl infoEnd]
 simp [Sem.run_pure, Result.andThen_ok]
theorem ldInn {w : World} {g : Nat} {u1 u2 : Value} {t : TypeId} {fr : Nat × Nat} (h : w.heap[g]? = some (.cells #[u1, u2] t fr)) : ldA 141 w (.pointer (some ⟨g, 0, none⟩)) = .ok (.value (.agg #[u1, u2])) w := by
 unfold ldA
 rw [Sem.run_bind, run_loadAt_mid (P := Tryz.prog) w g 0 141 [u1, u2] _ (range_of_cells h) Tryz.underlying141 rfl infoInn]
 simp [Sem.run_pure, Result.andThen_ok]
theorem stEnd (w : World) (p : Option Addr) : stA 138 (w.alloc (.cells #[.pointer none] 138)) (.pointer (some ⟨w.heap.size, 0, none⟩)) (.agg #[.pointer p]) = .ok .skip (w.alloc (.cells #[.pointer p] 138)) :=
 stA_new (t := 138) w #[.pointer none] #[.pointer p] infoEnd rfl (by simp [Value.oneCell'])
theorem stInn (w : World) (s1 s2 : TypeId) (c1 c2 : Array Value) : stA 141 (w.alloc (.cells #[.nilIface, .nilIface] 141)) (.pointer (some ⟨w.heap.size, 0, none⟩)) (.agg #[.iface s1 (.agg c1), .iface s2 (.agg c2)]) = .ok .skip (w.alloc (.cells #[.iface s1 (.agg c1), .iface s2 (.agg c2)] 141)) :=
 stA_new (t := 141) w #[.nilIface, .nilIface] #[.iface s1 (.agg c1), .iface s2 (.agg c2)] infoInn rfl (by simp [Value.oneCell'])
theorem eqSub_nil (w : World) : (binOp .eql 88 .nilIface .nilIface).run Tryz.prog w = .ok (.bool true) w := by kernel_rfl
theorem eqSub_some (t : TypeId) (x : Value) (w : World) : (binOp .eql 88 (.iface t x) .nilIface).run Tryz.prog w = .ok (.bool false) w := by kernel_rfl
theorem guSub_nil (x : Operand) (w : World) : (eqGuard .eql 88 x (.const .nilIface) .nilIface .nilIface).run Tryz.prog w = .ok () w := by cases x <;> rfl
theorem guSub_some (t : TypeId) (v : Value) (x : Operand) (w : World) : (eqGuard .eql 88 x (.const .nilIface) (.iface t v) .nilIface).run Tryz.prog w = .ok () w := by cases x <;> rfl
theorem ta_end_end (v : Value) (w : World) : (Instr.typeAssert (.iface 138 v) 88 138 true).run Tryz.prog w = .ok (.tuple #[v, .bool true]) w := by kernel_rfl
theorem ta_inn_end (v : Value) (w : World) : (Instr.typeAssert (.iface 141 v) 88 138 true).run Tryz.prog w = .ok (.tuple #[.agg #[.pointer none], .bool false]) w := by kernel_rfl
theorem ta_inn_inn (v : Value) (w : World) : (Instr.typeAssert (.iface 141 v) 88 141 true).run Tryz.prog w = .ok (.tuple #[v, .bool true]) w := by kernel_rfl
theorem m_end (h : Value) (w : World) : (Go.method 307 138 h "sparsetree/multi.sum").run Tryz.prog w = .ok (147, h) w := by kernel_rfl
theorem m_inn (h : Value) (w : World) : (Go.method 307 141 h "sparsetree/multi.sum").run Tryz.prog w = .ok (148, h) w := by kernel_rfl
theorem na_end (cs : Array Value) (w : World) : (nilAhead 307 138 (.agg cs) "sparsetree/multi.sum").run Tryz.prog w = .ok (some false) w := by kernel_rfl
theorem na_inn (cs : Array Value) (w : World) : (nilAhead 307 141 (.agg cs) "sparsetree/multi.sum").run Tryz.prog w = .ok (some false) w := by kernel_rfl
end
section
open Go.RowKit
def noKind (x : It) : Bool := decide (x.k < 0 ∨ 3 < x.k)
theorem hasno_c (x : It) (w : World) : Calls Tryz.prog 72 #[.agg (itC x)] w fun e w' => e = .returned (.bool (noKind x)) ∧ Below w.heap.size w w' := by
 obtain ⟨z, hz⟩ : ∃ z, z = noKind x := ⟨_, rfl⟩
 rw [← hz]
 have HZ := Lib.hid hz
 obtain ⟨X, hX⟩ : ∃ X, X = w.alloc (.cells (itC x) 59) := ⟨_, rfl⟩
 have HB : Hid (Below w.heap.size w X) := by show Below _ _ _; rw [hX]; exact Bt.one_below _ _
 have k0 : X.cell? ⟨w.heap.size, 0, none⟩ = some (.int .i64 x.k) := by rw [hX]; exact it_kind (it_made w x _)
 obtain ⟨k, hk⟩ : ∃ k, k = x.k := ⟨_, rfl⟩
 rw [← hk] at k0
 have HX := Lib.hid hX
 have HK := Lib.hid hk
 rw [hX] at k0
 clear hz hX hk
 by_cases h0 : k = 0
 ·have HZV : Hid (z = false) := HZ.out.trans (decide_eq_false (by rw [← HK.out]; omega))
  rw [h0] at k0
  clear h0
  go_enter Tryz.func72, Tryz.ntmps72
  go_wp2_with fail
  rw [← HX.out]
  go_ret
  exact ⟨b_ret HZV.out, HB.out⟩
 by_cases h1 : k = 1
 ·have HZV : Hid (z = false) := HZ.out.trans (decide_eq_false (by rw [← HK.out]; omega))
  rw [h1] at k0
  clear h0 h1
  go_enter Tryz.func72, Tryz.ntmps72
  go_wp2_with fail
  rw [← HX.out]
  go_ret
  exact ⟨b_ret HZV.out, HB.out⟩
 by_cases h2 : k = 2
 ·have HZV : Hid (z = false) := HZ.out.trans (decide_eq_false (by rw [← HK.out]; omega))
  rw [h2] at k0
  clear h0 h1 h2
  go_enter Tryz.func72, Tryz.ntmps72
  go_wp2_with fail
  rw [← HX.out]
  go_ret
  exact ⟨b_ret HZV.out, HB.out⟩
 by_cases h3 : k = 3
 ·have HZV : Hid (z = false) := HZ.out.trans (decide_eq_false (by rw [← HK.out]; omega))
  rw [h3] at k0
  clear h0 h1 h2 h3
  go_enter Tryz.func72, Tryz.ntmps72
  go_wp2_with fail
  rw [← HX.out]
  go_ret
  exact ⟨b_ret HZV.out, HB.out⟩
 ·have HZV : Hid (z = true) := HZ.out.trans (decide_eq_true (by rw [← HK.out]; omega))
  have e0 : (k == 0) = false := by simpa using h0
  have e1 : (k == 1) = false := by simpa using h1
  have e2 : (k == 2) = false := by simpa using h2
  have e3 : (k == 3) = false := by simpa using h3
  go_enter Tryz.func72, Tryz.ntmps72
  go_wp2_with fail
  rw [← HX.out]
  go_ret
  exact ⟨b_ret HZV.out, HB.out⟩
theorem eqDigZ {d : List UInt8} (hd : d.length = 32) (x y : Operand) (w : World) : eqA .eql 45 x y w (.agg (bA d)) (.agg (bA z26)) = .ok (.value (.bool (decide (d = z26)))) w := eqDig d z26 hd rfl x y w
theorem eqLeafZ {d : List UInt8} (hd : d.length = 64) (x y : Operand) (w : World) : eqA .eql 57 x y w (.agg (bA d)) (.agg (bA z64)) = .ok (.value (.bool (decide (d = z64)))) w := eqLeaf d z64 hd rfl x y w
theorem bldDig_none20 (w : World) : bldA 45 w #[] = .ok (.value (.agg (bA z26))) w := by kernel_rfl
theorem pure_of (x : It) (hx : x.Ok) (w : World) (b3 b1 bd bl z : Bool) (h3 : decide (x.k = 3) = b3) (h1 : decide (x.k = 1) = b1) (hd : decide (x.d = z26) = bd) (hl : decide (x.lf = z64) = bl) (hz : ((b3 || bd) && (b1 || bl)) = z) :
  Calls Tryz.prog 94 #[.agg (itC x)] w fun e w' => e = .returned (.bool z) ∧ Below w.heap.size w w' := by
 obtain ⟨X, hX⟩ : ∃ X, X = w.alloc (.cells (itC x) 59) := ⟨_, rfl⟩
 have HB : Hid (Below w.heap.size w X) := by show Below _ _ _; rw [hX]; exact Bt.one_below _ _
 have hr : X.rangeAt w.heap.size 0 (itL x) := by rw [hX]; exact it_made w x _
 have k0 := it_kind hr
 have l1 := it_dig hr hx
 have l2 := it_leaf hr hx
 have q1 := fun u v w => eqDigZ hx.d u v w
 have q2 := fun u v w => eqLeafZ hx.lf u v w
 rw [hd] at q1
 rw [hl] at q2
 have z1 := bldDig_none20
 have z2 := bldLeaf_none
 obtain ⟨k, hk⟩ : ∃ k, k = x.k := ⟨_, rfl⟩
 rw [← hk] at k0 h3 h1
 have e3 : (k == 3) = b3 := by rw [← h3]; rfl
 have e1 : (k == 1) = b1 := by rw [← h1]; rfl
 have HX := Lib.hid hX
 have HZ := Lib.hid hz
 rw [hX] at k0 l1 l2
 clear hX hr hx hd hl hk h3 h1 hz
 cases b3 <;> cases b1 <;> cases bd <;> cases bl <;> (
  go_enter Tryz.func94, Tryz.ntmps94
  go_wp2_with fail
  rw [← HX.out]
  go_ret
  exact ⟨b_ret HZ.out.symm, HB.out⟩)
theorem pure_c (x : It) (hx : x.Ok) (w : World) : Calls Tryz.prog 94 #[.agg (itC x)] w fun e w' => e = .returned (.bool (decide x.clean)) ∧ Below w.heap.size w w' := by
 refine pure_of x hx w _ _ _ _ _ rfl rfl rfl rfl ?_
 rw [Bool.eq_iff_iff]
 simp only [Bool.and_eq_true, Bool.or_eq_true, decide_eq_true_eq]
 constructor
 ·rintro ⟨h1, h2⟩
  exact ⟨fun h => h1.resolve_left h, fun h => h2.resolve_left h⟩
 ·rintro ⟨h1, h2⟩
  exact ⟨(Classical.em _).imp id h1, (Classical.em _).imp id h2⟩
theorem index19_c (A : Option Addr) (c : Nat) (l : List It) (w : World) (hA : IA w A l) (hl : l.length ≤ 1000000) :
  Calls Tryz.prog 93 #[.slice A l.length c, .func (.func 72) #[] #[]] w fun e w' => ∃ z : Int, e = .returned (.int .i64 z) ∧ decide (0 ≤ z) = l.any noKind ∧ Below w.heap.size w w' := by
 have HA := Lib.hid hA
 obtain ⟨N, hN⟩ : ∃ N, N = l.length := ⟨_, rfl⟩
 have HN := Lib.hid hN
 rw [← hN] at hl ⊢
 have he : ∀ args w, (callFunc 72 args).run Tryz.prog w = .ok (.enter 72 args) w := enters_of Tryz.func72 (by kernel_rfl) rfl
 clear hA hN
 go_enter Tryz.func93, Tryz.ntmps93
 go_wp2_with fail
 go_loopg [8] N (fun gg i wr => ∃ j : Nat, i = .int .i64 (j : Int) ∧ j ≤ N ∧ N - j = gg ∧ (∀ m x, m < j → l[m]? = some x → noKind x = false) ∧ Below w.heap.size w wr)
 case atStart => exact ⟨0, rfl, by omega, by omega, fun m x hm => absurd hm (Nat.not_lt_zero m), Below.refl _ _⟩
 case round =>
  obtain ⟨j, rfl, hj, rfl, hpre, hbr⟩ := hrel
  have HBR := Lib.hid hbr
  have HPRE := Lib.hid hpre
  clear hbr hpre
  by_cases hlt : j < N
  ·have hd : decide (j < N) = true := decide_eq_true hlt
   obtain ⟨x, hx⟩ : ∃ x, l[j]? = some x := ⟨_, List.getElem?_eq_getElem (by have := HN.out; omega)⟩
   obtain ⟨hxo, g, o, rfl, hr⟩ := (HA.out.below HBR.out) j x hx
   have HXK := Lib.hid hx
   have l1 := it_ld hr hxo
   have j0 : (0 : Int) ≤ (j : Int) := by omega
   have j1 : (j : Int) < (N : Int) := by omega
   have wi : IntKind.i64.wrap ((j : Int) + 1) = (j : Int) + 1 := wrap19v (by omega) (by omega)
   have HNC := Lib.hid (hasno_c x wr)
   clear hx hr hxo
   cases hb : noKind x with
   | true =>
    rw [hb] at HNC
    have HR : Hid (decide (0 ≤ (j : Int)) = l.any noKind) := by
     show _ = _
     rw [decide_eq_true j0, eq_comm, List.any_eq_true]
     exact ⟨x, List.mem_of_getElem? HXK.out, hb⟩
    clear hb
    go_wp2_with fail
    refine HNC.out.mono ?_
    rintro _ w1 ⟨rfl, hb1⟩
    have HB1 := Lib.hid (HBR.out.trans (hb1.mono HBR.out.size))
    clear hb1 l1 HNC
    go_wp2_with fail
    go_ret
    exact ⟨_, rfl, HR.out, HB1.out⟩
   | false =>
    rw [hb] at HNC
    have HNX := Lib.hid hb
    clear hb
    go_wp2_with fail
    refine HNC.out.mono ?_
    rintro _ w1 ⟨rfl, hb1⟩
    have HB1 := Lib.hid (HBR.out.trans (hb1.mono HBR.out.size))
    clear hb1 l1 HNC
    go_wp2_with fail
    go_roundg (N - (j + 1))
    case measure => omega
    case rel =>
     refine ⟨j + 1, by go_num, by omega, rfl, fun m y h1 h2 => ?_, HB1.out⟩
     rcases Nat.lt_or_ge m j with h | h
     ·exact HPRE.out m y h h2
     ·obtain rfl : m = j := by omega
      rw [HXK.out] at h2
      cases h2
      exact HNX.out
  ·have hd : decide (j < N) = false := decide_eq_false hlt
   have HR : Hid (decide (0 ≤ (-1 : Int)) = l.any noKind) := by
    show _ = _
    rw [eq_comm, show decide (0 ≤ (-1 : Int)) = false from rfl, List.any_eq_false]
    intro x hx
    obtain ⟨m, hm⟩ := List.getElem?_of_mem hx
    have hm2 := (List.getElem?_eq_some_iff.1 hm).1
    rw [HPRE.out m x (by have := HN.out; omega) hm]
    exact Bool.false_ne_true
   clear HPRE
   go_wp2_with fail
   go_ret
   exact ⟨_, rfl, HR.out, HBR.out⟩
theorem contains19_c (A : Option Addr) (c : Nat) (l : List It) (w : World) (hA : IA w A l) (hl : l.length ≤ 1000000) :
  Calls Tryz.prog 71 #[.slice A l.length c, .func (.func 72) #[] #[]] w fun e w' => e = .returned (.bool (l.any noKind)) ∧ Below w.heap.size w w' := by
 have HC := Lib.hid (index19_c A c l w hA hl)
 obtain ⟨b, hb⟩ : ∃ b, b = l.any noKind := ⟨_, rfl⟩
 obtain ⟨N, hN⟩ : ∃ N, N = l.length := ⟨_, rfl⟩
 rw [← hb] at HC ⊢
 rw [← hN] at HC ⊢
 clear hA hl hb hN
 go_enter Tryz.func71, Tryz.ntmps71
 go_wp2_with fail
 refine HC.out.mono ?_
 rintro _ w1 ⟨z, rfl, hz, hb1⟩
 have HB1 := Lib.hid hb1
 clear hb1 HC
 go_wp2_with fail
 go_ret
 exact ⟨rfl, HB1.out⟩
end
section
open Go.RowKit
def FstC (f d : Nat) : Prop := ∀ (m : List It) (A : Option Addr) (c : Nat) (w0 w : World), Below w0.heap.size w0 w → IA w0 A m → m.length ≤ c → m.length ≤ 1000000 →
 Calls Tryz.prog 73 #[.slice A m.length c, .int .i64 (d : Int)] w fun e w' => ∃ pv rest, e = .returned (.tuple #[pv, rest]) ∧ RdP w0 m f pv rest ∧ Below w.heap.size w w'
theorem first_nil (f d : Nat) (A : Option Addr) (c : Nat) (w0 w : World) :
  Calls Tryz.prog 73 #[.slice A 0 c, .int .i64 (d : Int)] w fun e w' => ∃ pv rest, e = .returned (.tuple #[pv, rest]) ∧ RdP w0 [] f pv rest ∧ Below w.heap.size w w' := by
 go_enter Tryz.func73, Tryz.ntmps73
 go_wp2_with fail
 go_ret2
 exact ⟨_, _, rfl, rd_nil _ f, Below.refl _ _⟩
theorem first_dirty (f d : Nat) (x : It) (r : List It) (A : Option Addr) (c : Nat) (w0 w : World) (hW : Below w0.heap.size w0 w) (hA0 : IA w0 A (x :: r)) (hl : r.length ≤ 1000000) (hx : ¬ x.clean) :
  Calls Tryz.prog 73 #[.slice A (r.length + 1) c, .int .i64 (d : Int)] w fun e w' => ∃ pv rest, e = .returned (.tuple #[pv, rest]) ∧ RdP w0 (x :: r) f pv rest ∧ Below w.heap.size w w' := by
 obtain ⟨hxo, g, o, rfl, hr0⟩ := hA0 0 x rfl
 rw [Nat.zero_mul, Nat.add_zero] at hr0
 have hr := range_below hr0 hW
 have l0 := it_ld hr hxo
 have HP := pure_c x hxo
 rw [decide_eq_false hx] at HP
 have HPP := Lib.hid HP
 have HR : Hid (RdP w0 (x :: r) f .nilIface (.slice none 0 0)) := rd_dirty f hx
 obtain ⟨L, hL⟩ : ∃ L, L = r.length + 1 := ⟨_, rfl⟩
 rw [← hL]
 have e0 : ((L : Int) == 0) = false := by simp; omega
 have p0 : (0 : Int) < (L : Int) := by omega
 have n0 : L ≤ 1000001 := by omega
 clear hA0 hr hr0 hW hxo hx hL hl HP
 go_enter Tryz.func73, Tryz.ntmps73
 go_wp2_with fail
 refine (HPP.out w).mono ?_
 rintro _ w1 ⟨rfl, hb1⟩
 have HB1 := Lib.hid hb1
 clear hb1 HPP l0
 go_wp2_with fail
 go_ret2
 exact ⟨_, _, rfl, HR.out, HB1.out⟩
theorem first_end (f d : Nat) (x : It) (r : List It) (A : Option Addr) (c : Nat) (w0 w : World) (hW : Below w0.heap.size w0 w) (hA0 : IA w0 A (x :: r)) (hc : r.length + 1 ≤ c) (hl : r.length ≤ 1000000) (hx : x.clean) (h2 : x.k ≠ 2) :
  Calls Tryz.prog 73 #[.slice A (r.length + 1) c, .int .i64 (d : Int)] w fun e w' => ∃ pv rest, e = .returned (.tuple #[pv, rest]) ∧ RdP w0 (x :: r) f pv rest ∧ Below w.heap.size w w' := by
 have hA2 := hA0.cut (c := c) (n := 1) (by rw [List.length_cons]; exact hc)
 have cu := cutI_from A (r.length + 1) c 1 (by omega)
 obtain ⟨B1, hB1⟩ : ∃ B1, B1 = cutI A c 1 := ⟨_, rfl⟩
 rw [← hB1] at cu hA2
 have cu1 : ∀ w, (Instr.sliceAt 30 (.slice A (r.length + 1) c) (some (.int .i64 1)) none none).run Tryz.prog w = .ok (.slice B1 r.length (c - 1)) w := fun w => cu w
 obtain ⟨hxo, g, o, rfl, hr0⟩ := hA0 0 x rfl
 rw [Nat.zero_mul, Nat.add_zero] at hr0
 have hr := range_below hr0 hW
 have l0 := it_ld hr hxo
 have HP := pure_c x hxo
 rw [decide_eq_true hx] at HP
 have HPP := Lib.hid HP
 have HR : Hid (RdP w0 (x :: r) f (.iface 138 (.agg #[.pointer (some ⟨g, o, none⟩)])) (.slice B1 r.length (c - 1))) := rd_end f h2 hx hxo hr0 hA2 (by omega)
 have HKK : Hid (∀ z, Below w.heap.size w z → z.cell? ⟨g, o, none⟩ = some (.int .i64 x.k)) := fun z hz => it_kind (range_below hr hz)
 have e1 : (x.k != 2) = true := by simpa using h2
 obtain ⟨L, hL⟩ : ∃ L, L = r.length + 1 := ⟨_, rfl⟩
 rw [← hL] at cu1 ⊢
 have e0 : ((L : Int) == 0) = false := by simp; omega
 have p0 : (0 : Int) < (L : Int) := by omega
 have n0 : L ≤ 1000001 := by omega
 clear hA0 hr hr0 hW hxo hx hL hl HP h2 hA2 cu hB1 hc
 go_enter Tryz.func73, Tryz.ntmps73
 go_wp2_with fail
 refine (HPP.out w).mono ?_
 rintro _ w1 ⟨rfl, hb1⟩
 have HB1 := Lib.hid hb1
 have k1 := HKK.out w1 hb1
 clear hb1 HPP l0
 go_wp2_with fail
 refine wp_region_later (by kernel_rfl) (by kernel_rfl) ?_
 repeat (go_big_quiet_step (fail))
 refine wpQuiet_nil ?_
 rintro _ ⟨q, rfl⟩
 have HB2 := Lib.hid (HB1.out.trans (q.h.mono HB1.out.size))
 clear k1 cu1
 go_wp2_with fail
 go_ret2
 exact ⟨_, _, rfl, HR.out, HB2.out⟩
theorem first_deep (x : It) (r : List It) (A : Option Addr) (c : Nat) (w0 w : World) (hW : Below w0.heap.size w0 w) (hA0 : IA w0 A (x :: r)) (hl : r.length ≤ 1000000) (hx : x.clean) (h2 : x.k = 2) :
  Calls Tryz.prog 73 #[.slice A (r.length + 1) c, .int .i64 ((256 : Nat) : Int)] w fun e w' => ∃ pv rest, e = .returned (.tuple #[pv, rest]) ∧ RdP w0 (x :: r) 0 pv rest ∧ Below w.heap.size w w' := by
 obtain ⟨hxo, g, o, rfl, hr0⟩ := hA0 0 x rfl
 rw [Nat.zero_mul, Nat.add_zero] at hr0
 have hr := range_below hr0 hW
 have l0 := it_ld hr hxo
 have HP := pure_c x hxo
 rw [decide_eq_true hx] at HP
 have HPP := Lib.hid HP
 have HR : Hid (RdP w0 (x :: r) 0 .nilIface (.slice none 0 0)) := rd_deep h2
 have HKK : Hid (∀ z, Below w.heap.size w z → z.cell? ⟨g, o, none⟩ = some (.int .i64 2)) := fun z hz => by have := it_kind (range_below hr hz); rwa [h2] at this
 obtain ⟨L, hL⟩ : ∃ L, L = r.length + 1 := ⟨_, rfl⟩
 rw [← hL, show ((256 : Nat) : Int) = 256 from rfl]
 have e0 : ((L : Int) == 0) = false := by simp; omega
 have p0 : (0 : Int) < (L : Int) := by omega
 have n0 : L ≤ 1000001 := by omega
 clear hA0 hr hr0 hW hxo hx hL hl HP h2
 go_enter Tryz.func73, Tryz.ntmps73
 go_wp2_with fail
 refine (HPP.out w).mono ?_
 rintro _ w1 ⟨rfl, hb1⟩
 have HB1 := Lib.hid hb1
 have k1 := HKK.out w1 hb1
 clear hb1 HPP l0
 go_wp2_with fail
 go_ret2
 exact ⟨_, _, rfl, HR.out, HB1.out⟩
theorem first_inner (f d : Nat) (x : It) (r : List It) (A : Option Addr) (c : Nat) (w0 w : World) (hW : Below w0.heap.size w0 w) (hd : d < 256) (hA0 : IA w0 A (x :: r)) (hc : r.length + 1 ≤ c) (hl : r.length ≤ 1000000) (hx : x.clean) (h2 : x.k = 2) (ih : FstC f (d + 1)) :
  Calls Tryz.prog 73 #[.slice A (r.length + 1) c, .int .i64 (d : Int)] w fun e w' => ∃ pv rest, e = .returned (.tuple #[pv, rest]) ∧ RdP w0 (x :: r) (f + 1) pv rest ∧ Below w.heap.size w w' := by
 have hA2 := hA0.cut (c := c) (n := 1) (by rw [List.length_cons]; exact hc)
 have cu := cutI_from A (r.length + 1) c 1 (by omega)
 obtain ⟨B1, hB1⟩ : ∃ B1, B1 = cutI A c 1 := ⟨_, rfl⟩
 rw [← hB1] at cu hA2
 have cu1 : ∀ w, (Instr.sliceAt 30 (.slice A (r.length + 1) c) (some (.int .i64 1)) none none).run Tryz.prog w = .ok (.slice B1 r.length (c - 1)) w := fun w => cu w
 obtain ⟨hxo, g, o, rfl, hr0⟩ := hA0 0 x rfl
 rw [Nat.zero_mul, Nat.add_zero] at hr0
 have hr := range_below hr0 hW
 have l0 := it_ld hr hxo
 have HP := pure_c x hxo
 rw [decide_eq_true hx] at HP
 have HPP := Lib.hid HP
 have HKK : Hid (∀ z, Below w.heap.size w z → z.cell? ⟨g, o, none⟩ = some (.int .i64 2)) := fun z hz => by have := it_kind (range_below hr hz); rwa [h2] at this
 have HA2 := Lib.hid hA2
 have HC := Lib.hid hc
 have HLR := Lib.hid hl
 have HX2 := Lib.hid h2
 have HXC := Lib.hid hx
 have HIH : Hid (∀ (m : List It) (A : Option Addr) (c : Nat) (w : World), Below w0.heap.size w0 w → IA w0 A m → m.length ≤ c → m.length ≤ 1000000 → Calls Tryz.prog 73 #[.slice A m.length c, .int .i64 ((d : Int) + 1)] w fun e w' => ∃ pv rest, e = .returned (.tuple #[pv, rest]) ∧ RdP w0 m f pv rest ∧ Below w.heap.size w w') := fun m A c w h0 h1 h2 h3 => by
  have := ih m A c w0 w h0 h1 h2 h3
  rwa [show ((d + 1 : Nat) : Int) = (d : Int) + 1 by omega] at this
 have HW0 := Lib.hid hW
 obtain ⟨L, hL⟩ : ∃ L, L = r.length + 1 := ⟨_, rfl⟩
 rw [← hL] at cu1 ⊢
 have e0 : ((L : Int) == 0) = false := by simp; omega
 have p0 : (0 : Int) < (L : Int) := by omega
 have n0 : L ≤ 1000001 := by omega
 have e2 : ((d : Int) == 256) = false := by simp; omega
 have wd : IntKind.i64.wrap ((d : Int) + 1) = (d : Int) + 1 := wrap19v (by omega) (by omega)
 have q1 := eqSub_nil
 have q2 := eqSub_some
 have q3 := guSub_nil
 have q4 := guSub_some
 clear hA0 hr hr0 hW hxo hx hL hl HP h2 hA2 cu hB1 hc ih hd
 go_enter Tryz.func73, Tryz.ntmps73
 go_wp2_with fail
 refine (HPP.out w).mono ?_
 rintro _ w1 ⟨rfl, hb1⟩
 have HB1 := Lib.hid hb1
 have k1 := HKK.out w1 hb1
 obtain ⟨X, hX⟩ : ∃ X, X = w1.alloc (.cells #[.nilIface, .nilIface] 141) := ⟨_, rfl⟩
 have HX := Lib.hid hX
 have hbX : Below w1.heap.size w1 X := by rw [hX]; exact Bt.one_below _ _
 have HBX := Lib.hid (hb1.trans (hbX.mono hb1.size))
 have HCX : Hid (X.heap[w1.heap.size]? = some (.cells #[.nilIface, .nilIface] 141 (0, 0))) := by show _ = _; rw [hX]; exact heap_alloc_new _ _
 have HI1 := Lib.hid (HIH.out r B1 (c - 1) X (HW0.out.trans (HBX.out.mono HW0.out.size)) HA2.out (by have := HC.out; omega) HLR.out)
 have HWS : Hid (w.heap.size ≤ w1.heap.size) := hb1.size
 clear hb1 HPP l0 hX hbX
 go_wp2_with fail
 refine wp_loop_rounds 3 ?_
 rw [rounds_succ]
 rw [← HX.out]
 go_wp2_with fail
 refine HI1.out.mono ?_
 rintro _ y1 ⟨pv1, rest1, rfl, hp1, hby1⟩
 have HBY1 := Lib.hid (HBX.out.trans (hby1.mono HBX.out.size))
 have hc1 : y1.heap[w1.heap.size]? = some (.cells #[.nilIface, .nilIface] 141 (0, 0)) := by rw [hby1.block _ (lt_of_heap HCX.out)]; exact HCX.out
 have c1 : y1.cell? ⟨w1.heap.size, 0, none⟩ = some .nilIface := by rw [cell_of_cells hc1]; rfl
 have f1 : y1.frozen? ⟨w1.heap.size, 0, none⟩ = false := frozen_of_row y1 _ _ _ _ hc1
 obtain ⟨Y, hY⟩ : ∃ Y, Y = y1.setCell ⟨w1.heap.size, 0, none⟩ pv1 := ⟨_, rfl⟩
 have hcY : Y.heap[w1.heap.size]? = some (.cells #[pv1, .nilIface] 141 (0, 0)) := by rw [hY]; exact set_row hc1
 have cY : Y.cell? ⟨w1.heap.size, 0, none⟩ = some pv1 := by rw [cell_of_cells hcY]; rfl
 have hkY : Keep (fun i => i = w1.heap.size) y1 Y := by rw [hY]; exact Keep.cell y1 ⟨w1.heap.size, 0, none⟩ pv1
 have hbY : Below w.heap.size w Y := HBY1.out.trans (hkY.below HBY1.out.size fun i hi => by have e : i = w1.heap.size := hi; have := HWS.out; omega)
 have HBY := Lib.hid hbY
 have HCY := Lib.hid hcY
 have HY := Lib.hid hY
 rw [hY] at cY
 clear hby1 hc1 hY hcY hkY hbY HI1 HCX
 rcases hp1 with ⟨t1, r1, A1, c1', hr1, ht1, hs1, rfl, hia1, hcc1⟩ | ⟨rfl, rfl, hno⟩
 ·obtain ⟨s1, u1, rfl⟩ := hs1.iface
  have HR1 := Lib.hid hr1
  have HT1 := Lib.hid ht1
  have HS1 := Lib.hid hs1
  have HLR1 : Hid (r1.length ≤ 1000000) := by show _ ≤ _; have := HLR.out; rw [hr1, List.length_append] at this; omega
  have HI2 := Lib.hid (HIH.out r1 A1 c1' Y (HW0.out.trans (HBY.out.mono HW0.out.size)) hia1 hcc1 HLR1.out)
  clear hr1 ht1 hs1 hia1 hcc1
  go_wp2_with fail
  rw [rounds_succ]
  rw [← HY.out]
  clear c1 f1 cY
  go_wp2_with fail
  refine HI2.out.mono ?_
  rintro _ y2 ⟨pv2, rest2, rfl, hp2, hby2⟩
  have HBY2 := Lib.hid (HBY.out.trans (hby2.mono HBY.out.size))
  have hc2 : y2.heap[w1.heap.size]? = some (.cells #[.iface s1 (.agg u1), .nilIface] 141 (0, 0)) := by rw [hby2.block _ (lt_of_heap HCY.out)]; exact HCY.out
  have c2 : y2.cell? ⟨w1.heap.size, 1, none⟩ = some .nilIface := by rw [cell_of_cells hc2]; rfl
  have f2 : y2.frozen? ⟨w1.heap.size, 1, none⟩ = false := frozen_of_row y2 _ _ _ _ hc2
  obtain ⟨Z, hZ⟩ : ∃ Z, Z = y2.setCell ⟨w1.heap.size, 1, none⟩ pv2 := ⟨_, rfl⟩
  have hcZ : Z.heap[w1.heap.size]? = some (.cells #[.iface s1 (.agg u1), pv2] 141 (0, 0)) := by rw [hZ]; exact set_row hc2
  have cZ : Z.cell? ⟨w1.heap.size, 1, none⟩ = some pv2 := by rw [cell_of_cells hcZ]; rfl
  have hkZ : Keep (fun i => i = w1.heap.size) y2 Z := by rw [hZ]; exact Keep.cell y2 ⟨w1.heap.size, 1, none⟩ pv2
  have HBZ : Hid (Below w.heap.size w Z) := HBY2.out.trans (hkZ.below HBY2.out.size fun i hi => by have e : i = w1.heap.size := hi; have := HWS.out; omega)
  have lZ := ldInn hcZ
  have HZ := Lib.hid hZ
  rw [hZ] at cZ lZ
  clear hby2 hc2 hZ hcZ hkZ HI2 HCY
  rcases hp2 with ⟨t2, r2, A2, c2', hr2, ht2, hs2, rfl, hia2, hcc2⟩ | ⟨rfl, rfl, hno⟩
  ·obtain ⟨s2, u2, rfl⟩ := hs2.iface
   have HYY := Lib.hid (rd_yes HX2.out HXC.out HR1.out HT1.out HS1.out hr2 ht2 hs2 hia2 hcc2)
   clear hr2 ht2 hs2 hia2 hcc2
   go_wp2_with fail
   rw [rounds_succ]
   go_wp2_with fail
   rw [← HZ.out]
   go_ret2
   exact ⟨_, _, rfl, HYY.out, HBZ.out⟩
  ·have HYY : Hid (RdP w0 (x :: r) (f + 1) .nilIface (.slice none 0 0)) := rd_no2 HX2.out HR1.out HT1.out hno
   clear hno
   go_wp2_with fail
   rw [← HZ.out]
   go_ret2
   exact ⟨_, _, rfl, HYY.out, HBZ.out⟩
 ·have HYY : Hid (RdP w0 (x :: r) (f + 1) .nilIface (.slice none 0 0)) := rd_no1 HX2.out hno
  clear hno
  go_wp2_with fail
  rw [← HY.out]
  go_ret2
  exact ⟨_, _, rfl, HYY.out, HBY.out⟩
theorem first19_c : ∀ (f d : Nat), d + f = 256 → FstC f d := by
 intro f
 induction f with
 | zero =>
  intro d hd m A c w0 w hW hA hc hl
  obtain rfl : d = 256 := by omega
  match m, hA, hc, hl with
  | [], _, _, _ => exact first_nil 0 256 A c w0 w
  | x :: r, hA, hc, hl =>
   rw [List.length_cons] at hc hl
   by_cases hx : x.clean
   ·by_cases h2 : x.k = 2
    ·exact first_deep x r A c w0 w hW hA (by omega) hx h2
    ·exact first_end 0 256 x r A c w0 w hW hA hc (by omega) hx h2
   ·exact first_dirty 0 256 x r A c w0 w hW hA (by omega) hx
 | succ f ih =>
  intro d hd m A c w0 w hW hA hc hl
  match m, hA, hc, hl with
  | [], _, _, _ => exact first_nil (f + 1) d A c w0 w
  | x :: r, hA, hc, hl =>
   rw [List.length_cons] at hc hl
   by_cases hx : x.clean
   ·by_cases h2 : x.k = 2
    ·exact first_inner f d x r A c w0 w hW (by omega) hA hc (by omega) hx h2 (ih (d + 1) (by omega))
    ·exact first_end (f + 1) d x r A c w0 w hW hA hc (by omega) hx h2
   ·exact first_dirty (f + 1) d x r A c w0 w hW hA (by omega) hx
theorem any_kind {l : List It} (h : l.any noKind = true) : chkI l = 7 := by
 obtain ⟨x, hx, h1⟩ := List.any_eq_true.1 h
 exact chk_bad ⟨x, hx, of_decide_eq_true h1⟩
theorem all_kind {l : List It} (h : l.any noKind = false) : ∀ x ∈ l, 0 ≤ x.k ∧ x.k ≤ 3 := fun x hx => by
 have h1 := List.any_eq_false.1 h x hx
 have h2 : ¬ (x.k < 0 ∨ 3 < x.k) := fun h => h1 (decide_eq_true h)
 omega
theorem read_7 (l : List It) (A : Option Addr) (c : Nat) (w : World) (hA : IA w A l) (hl : l.length ≤ 1000000) (h : l.any noKind = true) :
  Calls Tryz.prog 45 #[.slice A l.length c] w fun e w' => e = .returned (.tuple #[.nilIface, .int .i64 7]) ∧ Below w.heap.size w w' := by
 have HC := Lib.hid (contains19_c A c l w hA hl)
 rw [h] at HC
 clear hA hl h
 go_enter Tryz.func45, Tryz.ntmps45
 go_wp2_with fail
 refine HC.out.mono ?_
 rintro _ w1 ⟨rfl, hb1⟩
 have HB1 := Lib.hid hb1
 clear hb1 HC
 go_wp2_with fail
 go_ret2
 exact ⟨rfl, HB1.out⟩
theorem read_5 (l : List It) (A : Option Addr) (c : Nat) (w : World) (hA : IA w A l) (hc : l.length ≤ c) (hl : l.length ≤ 1000000) (h : l.any noKind = false) (h5 : chkI l = 5) :
  Calls Tryz.prog 45 #[.slice A l.length c] w fun e w' => e = .returned (.tuple #[.nilIface, .int .i64 5]) ∧ Below w.heap.size w w' := by
 have HC := Lib.hid (contains19_c A c l w hA hl)
 rw [h] at HC
 have HF : Hid (∀ z, Below w.heap.size w z → Calls Tryz.prog 73 #[.slice A l.length c, .int .i64 0] z fun e w' => ∃ pv rest, e = .returned (.tuple #[pv, rest]) ∧ ((∃ (s : TypeId) (u : Value) (B : Option Addr) (n c' : Nat), pv = .iface s u ∧ rest = .slice B (n + 1) c' ∧ n ≤ 1000000) ∨ (pv = .nilIface ∧ rest = .slice none 0 0)) ∧ Below z.heap.size z w') := fun z hz => by
  refine (first19_c 256 0 (by omega) l A c w z hz hA hc hl).mono ?_
  rintro e w' ⟨pv, rest, he, hp, hb⟩
  refine ⟨pv, rest, he, ?_, hb⟩
  rcases hp with ⟨t, r, B, c', e1, ht, hs, e2, _, _⟩ | ⟨e1, e2, _⟩
  ·obtain ⟨s, u, e3⟩ := hs.iface
   cases r with
   | nil =>
    exfalso
    rw [List.append_nil] at e1
    have := (chk_whole (all_kind h)).2 ⟨t, ht, e1⟩
    omega
   | cons y r =>
    refine .inl ⟨s, _, B, r.length, c', e3, e2, ?_⟩
    have := congrArg List.length e1
    rw [List.length_append, List.length_cons] at this
    omega
  ·exact .inr ⟨e1, e2⟩
 have q1 := eqSub_nil
 have q2 := eqSub_some
 have q3 := guSub_nil
 have q4 := guSub_some
 clear hA hl h h5 hc
 go_enter Tryz.func45, Tryz.ntmps45
 go_wp2_with fail
 refine HC.out.mono ?_
 rintro _ w1 ⟨rfl, hb1⟩
 have HB1 := Lib.hid hb1
 clear hb1 HC
 go_wp2_with fail
 refine (HF.out w1 HB1.out).mono ?_
 rintro _ w2 ⟨pv, rest, rfl, hp, hb2⟩
 have HB2 := Lib.hid (HB1.out.trans (hb2.mono HB1.out.size))
 clear hb2 HF
 rcases hp with ⟨s, u, B, n, c', rfl, rfl, hn⟩ | ⟨rfl, rfl⟩
 ·have e1 : decide ((0 : Int) < (n : Int) + 1) = true := decide_eq_true (by omega)
  go_wp2_with fail
  go_ret2
  exact ⟨rfl, HB2.out⟩
 ·go_wp2_with fail
  go_ret2
  exact ⟨rfl, HB2.out⟩
theorem read_ok (t : Mt) (A : Option Addr) (c : Nat) (w : World) (ht : t.Good) (hA : IA w A t.flat) (hc : t.flat.length ≤ c) (hl : t.flat.length ≤ 1000000) :
  Calls Tryz.prog 45 #[.slice A t.flat.length c] w fun e w' => ∃ s u, e = .returned (.tuple #[.iface s u, .int .i64 0]) ∧ SubV w t (.iface s u) ∧ Below w.heap.size w w' := by
 have hk : ∀ x ∈ t.flat, 0 ≤ x.k ∧ x.k ≤ 3 := fun x hx => (ht.2.2 x hx).1
 have hn : t.flat.any noKind = false := List.any_eq_false.2 fun x hx h => by
  have := hk x hx
  have h2 : x.k < 0 ∨ 3 < x.k := of_decide_eq_true h
  omega
 have HC := Lib.hid (contains19_c A c t.flat w hA hl)
 rw [hn] at HC
 have HF : Hid (∀ z, Below w.heap.size w z → Calls Tryz.prog 73 #[.slice A t.flat.length c, .int .i64 0] z fun e w' => ∃ s u B c', e = .returned (.tuple #[.iface s u, .slice B 0 c']) ∧ SubV w t (.iface s u) ∧ Below z.heap.size z w') := fun z hz => by
  refine (first19_c 256 0 (by omega) t.flat A c w z hz hA hc hl).mono ?_
  rintro e w' ⟨pv, rest, he, hp, hb⟩
  rcases hp with ⟨t2, r, B, c', e1, ht2, hs, e2, _, _⟩ | ⟨_, _, e1⟩
  ·obtain ⟨rfl, rfl⟩ := flat_uniq t t2 [] r ht.1 ht2.shape (by rw [List.append_nil]; exact e1)
   obtain ⟨s, u, rfl⟩ := hs.iface
   exact ⟨s, _, B, c', by rw [he, e2]; rfl, hs, hb⟩
  ·exact absurd (good_tr ht) (e1 t [] (by rw [List.append_nil]))
 obtain ⟨N, hN⟩ : ∃ N, N = t.flat.length := ⟨_, rfl⟩
 rw [← hN] at HC HF ⊢
 have q2 := eqSub_some
 have q4 := guSub_some
 clear hA hl hn hc hk ht hN
 go_enter Tryz.func45, Tryz.ntmps45
 go_wp2_with fail
 refine HC.out.mono ?_
 rintro _ w1 ⟨rfl, hb1⟩
 have HB1 := Lib.hid hb1
 clear hb1 HC
 go_wp2_with fail
 refine (HF.out w1 HB1.out).mono ?_
 rintro _ w2 ⟨s, u, B, c', rfl, hs, hb2⟩
 have HS := Lib.hid hs
 have HB2 := Lib.hid (HB1.out.trans (hb2.mono HB1.out.size))
 clear hb2 HF hs
 go_wp2_with fail
 go_ret2
 exact ⟨s, u, rfl, HS.out, HB2.out⟩
theorem read_bad (l : List It) (A : Option Addr) (c : Nat) (w : World) (hA : IA w A l) (hc : l.length ≤ c) (hl : l.length ≤ 1000000) (h : chkI l ≠ 0) :
  Calls Tryz.prog 45 #[.slice A l.length c] w fun e w' => e = .returned (.tuple #[.nilIface, .int .i64 (chkI l)]) ∧ Below w.heap.size w w' := by
 cases hb : l.any noKind with
 | true => rw [any_kind hb]; exact read_7 l A c w hA hl hb
 | false =>
  have h5 : chkI l = 5 := (chk_kinds (all_kind hb)).resolve_right h
  rw [h5]; exact read_5 l A c w hA hc hl hb h5
end
end Go.Proofs.YtmfbhohjpkmllaaGreatDoor
