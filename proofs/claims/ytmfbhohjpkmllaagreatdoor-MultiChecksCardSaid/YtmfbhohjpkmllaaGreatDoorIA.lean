import Derived.Test.YtmfbhohjpkmllaaGreatDoorAa
import Derived.Test.YtmfbhohjpkmllaaGreatDoorAb
namespace Go.Proofs.YtmfbhohjpkmllaaGreatDoor
set_option linter.unusedSimpArgs false
set_option linter.unusedVariables false
set_option maxRecDepth 100000
section
open Go.RowKit
structure It where
 k : Int
 d : List UInt8
 lf : List UInt8
structure It.Ok (x : It) : Prop where
 d : x.d.length = 32
 lf : x.lf.length = 64
def It.clean (x : It) : Prop := (x.k ≠ 3 → x.d = z26) ∧ (x.k ≠ 1 → x.lf = z64)
instance (x : It) : Decidable x.clean := inferInstanceAs (Decidable (_ ∧ _))
inductive Mt where
 | leaf (x : It)
 | node (x : It) (a b : Mt)
def Mt.top : Mt → It
 | .leaf x => x
 | .node x _ _ => x
def Mt.flat : Mt → List It
 | .leaf x => [x]
 | .node x a b => x :: (a.flat ++ b.flat)
def Mt.ht : Mt → Nat
 | .leaf _ => 0
 | .node _ a b => max a.ht b.ht + 1
def Mt.Shape : Mt → Prop
 | .leaf x => x.k ≠ 2
 | .node x a b => x.k = 2 ∧ a.Shape ∧ b.Shape
theorem Mt.flat_pos : ∀ t : Mt, 0 < t.flat.length
 | .leaf _ => Nat.one_pos
 | .node _ _ _ => by simp [Mt.flat]
def itAt (l : List It) (a : Int) : Option It := if 0 ≤ a then l[a.toNat]? else none
def skipI (l : List It) : Nat → Int → Int
 | 0, a => match itAt l a with
  | none => -1
  | some x => if x.k = 2 then -1 else a + 1
 | f + 1, a => match itAt l a with
  | none => -1
  | some x => if x.k = 2 then skipI l f (skipI l f (a + 1)) else a + 1
theorem itAt_drop {l : List It} {a : Nat} {x : It} {r : List It} (h : l.drop a = x :: r) : itAt l a = some x := by
 unfold itAt
 rw [if_pos (by omega), Int.toNat_natCast]
 have := List.getElem?_drop (xs := l) (i := a) (j := 0)
 rw [h] at this
 simpa using this.symm
theorem drop_next {l : List It} {a : Nat} {x : It} {r : List It} (h : l.drop a = x :: r) : l.drop (a + 1) = r := by
 rw [← List.drop_drop, h]; rfl
theorem drop_more {l : List It} {a : Nat} {s r : List It} (h : l.drop a = s ++ r) : l.drop (a + s.length) = r := by
 rw [← List.drop_drop, h, List.drop_left]
theorem skip_ok {l : List It} : ∀ (t : Mt) (f a : Nat) (r : List It), t.Shape → t.ht ≤ f → l.drop a = t.flat ++ r → skipI l f a = ((a + t.flat.length : Nat) : Int)
 | .leaf x, f, a, r, hs, _, h => by
  have hx : itAt l a = some x := itAt_drop (r := r) (by rw [h]; rfl)
  have hk : ¬ x.k = 2 := hs
  cases f with
  | zero => unfold skipI; rw [hx]; show (if x.k = 2 then (-1 : Int) else _) = _; rw [if_neg hk]; simp [Mt.flat]
  | succ f => unfold skipI; rw [hx]; show (if x.k = 2 then _ else _) = _; rw [if_neg hk]; simp [Mt.flat]
 | .node x u v, 0, a, r, _, hf, _ => by simp [Mt.ht] at hf
 | .node x u v, f + 1, a, r, hs, hf, h => by
  obtain ⟨hk, hu, hv⟩ := hs
  have hf2 : u.ht ≤ f ∧ v.ht ≤ f := by
   have : max u.ht v.ht + 1 ≤ f + 1 := hf
   omega
  have h' : l.drop a = x :: (u.flat ++ (v.flat ++ r)) := by rw [h]; simp [Mt.flat]
  have hx : itAt l a = some x := itAt_drop h'
  have h1 := drop_next h'
  have e1 := skip_ok u f (a + 1) _ hu hf2.1 h1
  have e2 := skip_ok v f (a + 1 + u.flat.length) r hv hf2.2 (drop_more h1)
  unfold skipI
  rw [hx]
  show (if x.k = 2 then skipI l f (skipI l f ((a : Int) + 1)) else _) = _
  rw [if_pos hk, show (a : Int) + 1 = ((a + 1 : Nat) : Int) by omega, e1, e2]
  simp [Mt.flat]
  omega
theorem skip_neg {l : List It} : ∀ (f : Nat), skipI l f (-1) = -1
 | 0 => rfl
 | _ + 1 => rfl
theorem skip_inv {l : List It} : ∀ (f : Nat) (a e : Int), skipI l f a = e → e ≠ -1 → ∃ (b : Nat) (t : Mt) (r : List It), a = b ∧ t.Shape ∧ t.ht ≤ f ∧ l.drop b = t.flat ++ r ∧ e = ((b + t.flat.length : Nat) : Int)
 | f, a, e, h, hne => by
  have hat : ∃ x, itAt l a = some x := by
   cases hx : itAt l a with
   | some x => exact ⟨x, rfl⟩
   | none =>
    cases f with
    | zero => unfold skipI at h; rw [hx] at h; exact absurd h.symm hne
    | succ f => unfold skipI at h; rw [hx] at h; exact absurd h.symm hne
  obtain ⟨x, hx⟩ := hat
  have hx' := hx
  unfold itAt at hx'
  split at hx'
  rotate_left 1
  ·cases hx'
  rename_i h0
  obtain ⟨b, rfl⟩ := Int.eq_ofNat_of_zero_le h0
  rw [Int.toNat_natCast] at hx'
  have hd : l.drop b = x :: l.drop (b + 1) := by
   have hb := (List.getElem?_eq_some_iff.1 hx').1
   rw [List.drop_eq_getElem_cons hb]
   congr 1
   exact (List.getElem?_eq_some_iff.1 hx').2
  by_cases hk : x.k = 2
  ·cases f with
   | zero =>
    unfold skipI at h
    rw [hx] at h
    have h' : (if x.k = 2 then (-1 : Int) else (b : Int) + 1) = e := h
    rw [if_pos hk] at h'
    exact absurd h'.symm hne
   | succ f =>
    unfold skipI at h
    rw [hx] at h
    have h' : (if x.k = 2 then skipI l f (skipI l f ((b : Int) + 1)) else (b : Int) + 1) = e := h
    rw [if_pos hk] at h'
    have hm : skipI l f ((b : Int) + 1) ≠ -1 := fun hm => by rw [hm, skip_neg] at h'; exact hne h'.symm
    obtain ⟨b1, t1, r1, e1, s1, g1, d1, m1⟩ := skip_inv f _ _ rfl hm
    obtain ⟨b2, t2, r2, e2, s2, g2, d2, m2⟩ := skip_inv f _ _ h' hne
    obtain rfl : b1 = b + 1 := by omega
    rw [m1] at e2
    obtain rfl : b2 = b + 1 + t1.flat.length := by omega
    refine ⟨b, .node x t1 t2, r2, rfl, ⟨hk, s1, s2⟩, ?_, ?_, ?_⟩
    ·show max t1.ht t2.ht + 1 ≤ f + 1; omega
    ·have h4 := drop_more d1
     rw [h4] at d2
     rw [hd, d1, d2]
     simp [Mt.flat]
    ·rw [m2]; simp [Mt.flat]; omega
  ·refine ⟨b, .leaf x, l.drop (b + 1), rfl, hk, Nat.zero_le _, hd, ?_⟩
   cases f with
   | zero =>
    unfold skipI at h
    rw [hx] at h
    have h' : (if x.k = 2 then (-1 : Int) else (b : Int) + 1) = e := h
    rw [if_neg hk] at h'
    rw [← h']; simp [Mt.flat]
   | succ f =>
    unfold skipI at h
    rw [hx] at h
    have h' : (if x.k = 2 then skipI l f (skipI l f ((b : Int) + 1)) else (b : Int) + 1) = e := h
    rw [if_neg hk] at h'
    rw [← h']; simp [Mt.flat]
def It.good (x : It) : Prop := (0 ≤ x.k ∧ x.k ≤ 3) ∧ x.clean
def Mt.Good (t : Mt) : Prop := t.Shape ∧ t.ht ≤ 256 ∧ ∀ x ∈ t.flat, x.good
noncomputable def chkI (l : List It) : Int := if ∃ x ∈ l, x.k < 0 ∨ 3 < x.k then 7 else if (∃ x ∈ l, ¬ x.clean) ∨ l = [] ∨ skipI l 256 0 ≠ l.length then 5 else 0
theorem chkI_ok {l : List It} : chkI l = 0 ↔ ∃ t : Mt, t.Good ∧ l = t.flat := by
 constructor
 ·intro h
  unfold chkI at h
  split at h
  ·cases h
  split at h
  ·cases h
  rename_i h1 h2
  have hs : skipI l 256 0 = l.length := by
   rcases Classical.em (skipI l 256 0 = l.length) with e | e
   ·exact e
   ·exact absurd (.inr (.inr e)) h2
  obtain ⟨b, t, r, e1, s1, g1, d1, m1⟩ := skip_inv 256 0 _ hs (by omega)
  obtain rfl : b = 0 := by omega
  have hr : r = [] := by
   rw [List.drop_zero] at d1
   rw [d1, List.length_append] at m1
   exact List.eq_nil_of_length_eq_zero (by omega)
  rw [hr, List.drop_zero, List.append_nil] at d1
  refine ⟨t, ⟨s1, g1, fun x hx => ?_⟩, d1⟩
  rw [← d1] at hx
  refine ⟨?_, ?_⟩
  ·rcases Classical.em (x.k < 0 ∨ 3 < x.k) with e | e
   ·exact absurd ⟨x, hx, e⟩ h1
   ·omega
  ·rcases Classical.em x.clean with e | e
   ·exact e
   ·exact absurd (.inl ⟨x, hx, e⟩) h2
 ·rintro ⟨t, ⟨h1, h2, h3⟩, rfl⟩
  unfold chkI
  rw [if_neg, if_neg]
  ·rintro (⟨x, hx, h⟩ | h | h)
   ·exact h (h3 x hx).2
   ·have := t.flat_pos; rw [h] at this; simp at this
   ·refine h ?_
    have := skip_ok (l := t.flat) t 256 0 [] h1 h2 (by simp)
    simpa using this
  ·rintro ⟨x, hx, h⟩
   have := (h3 x hx).1
   omega
theorem chkI_cases (l : List It) : chkI l = 7 ∨ chkI l = 5 ∨ chkI l = 0 := by
 unfold chkI
 split
 ·exact .inl rfl
 split
 ·exact .inr (.inl rfl)
 ·exact .inr (.inr rfl)
def preM (n : Int) : Mt → List UInt8
 | .leaf x => if x.k = 1 then 0 :: x.lf else emptyL
 | .node _ a b => nodeL (if a.top.k = 3 then a.top.d else digL n (preM n a)) (if b.top.k = 3 then b.top.d else digL n (preM n b))
def digM (n : Int) (t : Mt) : List UInt8 := if t.top.k = 3 then t.top.d else digL n (preM n t)
theorem digM_leaf (n : Int) (x : It) : digM n (.leaf x) = if x.k = 3 then x.d else digL n (if x.k = 1 then 0 :: x.lf else emptyL) := rfl
theorem preM_node (n : Int) (x : It) (a b : Mt) : preM n (.node x a b) = nodeL (digM n a) (digM n b) := rfl
theorem digM_node (n : Int) {x : It} (a b : Mt) (h : x.k = 2) : digM n (.node x a b) = digL n (nodeL (digM n a) (digM n b)) := by
 unfold digM
 rw [if_neg (by show ¬ x.k = 3; omega), preM_node]
 rfl
theorem digM_len (n : Int) (t : Mt) (h : t.top.Ok) : (digM n t).length = 32 := by
 unfold digM
 split
 ·exact h.d
 ·exact dig_len _ _
def wayM (k : List UInt8) : Mt → Nat → Nat → List (Nat × Mt)
 | .leaf x, _, a => [(a, .leaf x)]
 | .node x u v, d, a => (a, .node x u v) :: if bitK k d = 1 then wayM k v (d + 1) (a + 1 + u.flat.length) else wayM k u (d + 1) (a + 1)
def finM (k : List UInt8) : Mt → Nat → It
 | .leaf x, _ => x
 | .node _ u v, d => if bitK k d = 1 then finM k v (d + 1) else finM k u (d + 1)
def depM (k : List UInt8) : Mt → Nat → Nat
 | .leaf _, d => d
 | .node _ u v, d => if bitK k d = 1 then depM k v (d + 1) else depM k u (d + 1)
theorem wayM_len (k : List UInt8) : ∀ (t : Mt) (d a : Nat), (wayM k t d a).length + d = depM k t d + 1
 | .leaf _, d, a => by simp [wayM, depM]; omega
 | .node x u v, d, a => by
  unfold wayM depM
  split
  ·have := wayM_len k v (d + 1) (a + 1 + u.flat.length); simp; omega
  ·have := wayM_len k u (d + 1) (a + 1); simp; omega
theorem depM_le (k : List UInt8) : ∀ (t : Mt) (d : Nat), d ≤ depM k t d ∧ depM k t d ≤ d + t.ht
 | .leaf _, d => ⟨Nat.le_refl _, Nat.le_refl _⟩
 | .node _ u v, d => by
  have hu := depM_le k u (d + 1)
  have hv := depM_le k v (d + 1)
  have hh : (Mt.node ‹It› u v).ht = max u.ht v.ht + 1 := rfl
  unfold depM
  rw [hh]
  split <;> omega
end
section
open Go.RowKit
def itL (x : It) : List Value := .int .i64 x.k :: (x.d.map bv ++ x.lf.map bv)
def itC (x : It) : Array Value := (itL x).toArray
theorem itL_len {x : It} (h : x.Ok) : (itL x).length = 97 := by simp [itL, h.d, h.lf]
theorem itC_size {x : It} (h : x.Ok) : (itC x).size = 97 := by simp [itC, itL_len h]
theorem itL_one {x : It} {v : Value} (h : v ∈ itL x) : v.oneCell' = true := by
 unfold itL at h
 rcases List.mem_cons.1 h with rfl | h
 ·rfl
 rcases List.mem_append.1 h with h | h <;> obtain ⟨y, _, rfl⟩ := List.mem_map.1 h <;> exact bv_one y
theorem infoIt : (Tryz.prog.info? 59).map (·.size) = some 97 := by kernel_rfl
@[go_sem ↓] theorem execOp_loadIt (ρ : Operand → Value) (dst : Option Tmp) (x : Operand) (type : TypeId) (pos : String) (after : Array Edge) (guard : Option (Nat × Bool)) (w : World) :
  Sem.run Tryz.prog (execOp ρ { dst, op := .load 59 x, type, pos, after, guard }) w = ldA 59 w (ρ x) := rfl
@[go_sem ↓] theorem execOp_storeIt (ρ : Operand → Value) (dst : Option Tmp) (x y : Operand) (type : TypeId) (pos : String) (after : Array Edge) (guard : Option (Nat × Bool)) (w : World) :
  Sem.run Tryz.prog (execOp ρ { dst, op := .store 59 x y, type, pos, after, guard }) w = stA 59 w (ρ x) (ρ y) := rfl
@[go_sem ↓] theorem execOp_buildIt (ρ : Operand → Value) (dst : Option Tmp) (parts : Array (Nat × Operand)) (type : TypeId) (pos : String) (after : Array Edge) (guard : Option (Nat × Bool)) (w : World) :
  Sem.run Tryz.prog (execOp ρ { dst, op := .build 59 parts, type, pos, after, guard }) w = bldA 59 w (parts.map fun x => (x.1, ρ x.2)) := rfl
def zIt : It := ⟨0, z26, z64⟩
theorem zeroIt : ∀ w, (zeroValue 59).run Tryz.prog w = .ok (.agg (itC zIt)) w := fun _ => by kernel_rfl
attribute [go_sem ↓] zeroIt
theorem bldIt_k (k : Int) (w : World) : bldA 59 w #[(0, .int .i64 k)] = .ok (.value (.agg (itC ⟨k, z26, z64⟩))) w := by kernel_rfl
theorem bldIt_kd_f (k : Int) (f : Nat → UInt8) (w : World) : bldA 59 w #[(0, .int .i64 k), (1, .agg (bA ((List.range 32).map f)))] = .ok (.value (.agg (itC ⟨k, (List.range 32).map f, z64⟩))) w := by kernel_rfl
theorem bldIt_kd (k : Int) (d : List UInt8) (hd : d.length = 32) (w : World) : bldA 59 w #[(0, .int .i64 k), (1, .agg (bA d))] = .ok (.value (.agg (itC ⟨k, d, z64⟩))) w := by
 have := bldIt_kd_f k (fun j => d.getD j 0) w
 rwa [← list32 d hd] at this
theorem list64i (l : List UInt8) (h : l.length = 64) : l = (List.range 64).map fun j => l.getD j 0 := by
 refine List.ext_getElem (by simp [h]) fun j h1 h2 => ?_
 simp [List.getD_eq_getElem?_getD, h1]
theorem bldIt_kl_f (k : Int) (f : Nat → UInt8) (w : World) : bldA 59 w #[(0, .int .i64 k), (2, .agg (bA ((List.range 64).map f)))] = .ok (.value (.agg (itC ⟨k, z26, (List.range 64).map f⟩))) w := by kernel_rfl
theorem bldIt_kl (k : Int) (l : List UInt8) (hl : l.length = 64) (w : World) : bldA 59 w #[(0, .int .i64 k), (2, .agg (bA l))] = .ok (.value (.agg (itC ⟨k, z26, l⟩))) w := by
 have := bldIt_kl_f k (fun j => l.getD j 0) w
 rwa [← list64i l hl] at this
theorem it_kind {w : World} {g o : Nat} {x : It} (h : w.rangeAt g o (itL x)) : w.cell? ⟨g, o, none⟩ = some (.int .i64 x.k) := h 0 _ rfl
theorem it_dR {w : World} {g o : Nat} {x : It} (h : w.rangeAt g o (itL x)) (_hx : x.Ok) : w.rangeAt g (o + 1) (x.d.map bv) := fun j v hv => by
 have := h (1 + j) v (by
  unfold itL
  rw [Nat.add_comm, List.getElem?_cons_succ, List.getElem?_append_left (List.getElem?_eq_some_iff.1 hv).1]
  exact hv)
 rwa [← Nat.add_assoc] at this
theorem it_lfR {w : World} {g o : Nat} {x : It} (h : w.rangeAt g o (itL x)) (hx : x.Ok) : w.rangeAt g (o + 33) (x.lf.map bv) := fun j v hv => by
 have := h (33 + j) v (by
  unfold itL
  rw [show 33 + j = (32 + j) + 1 by omega, List.getElem?_cons_succ, List.getElem?_append_right (by rw [List.length_map, hx.d]; omega), List.length_map, hx.d, Nat.add_sub_cancel_left]
  exact hv)
 rwa [← Nat.add_assoc] at this
theorem it_dig {w : World} {g o : Nat} {x : It} (h : w.rangeAt g o (itL x)) (hx : x.Ok) : ldA 45 w (.pointer (some ⟨g, o + 1, none⟩)) = .ok (.value (.agg (bA x.d))) w := ldDig (it_dR h hx) hx.d
theorem it_leaf {w : World} {g o : Nat} {x : It} (h : w.rangeAt g o (itL x)) (hx : x.Ok) : ldA 57 w (.pointer (some ⟨g, o + 33, none⟩)) = .ok (.value (.agg (bA x.lf))) w := by
 unfold ldA
 rw [Sem.run_bind, run_loadAt_mid (P := Tryz.prog) w g (o + 33) 57 (x.lf.map bv) _ (it_lfR h hx) Tryz.underlying57 rfl (by rw [List.length_map, hx.lf]; exact infoLeaf)]
 simp [Sem.run_pure, Result.andThen_ok, bA]
theorem it_ld {w : World} {g o : Nat} {x : It} (h : w.rangeAt g o (itL x)) (hx : x.Ok) : ldA 59 w (.pointer (some ⟨g, o, none⟩)) = .ok (.value (.agg (itC x))) w := by
 unfold ldA
 rw [Sem.run_bind, run_loadAt_mid (P := Tryz.prog) w g o 59 (itL x) _ h Tryz.underlying59 rfl (by rw [itL_len hx]; exact infoIt)]
 simp [Sem.run_pure, Result.andThen_ok, itC]
def IA (w : World) (A : Option Addr) (l : List It) : Prop := ∀ i x, l[i]? = some x → x.Ok ∧ ∃ g o, A = some ⟨g, o, none⟩ ∧ w.rangeAt g (o + i * 97) (itL x)
theorem IA.nil (w : World) (A : Option Addr) : IA w A [] := fun i x h => by simp at h
theorem IA.below {w w' : World} {A : Option Addr} {l : List It} (h : IA w A l) (hb : Below w.heap.size w w') : IA w' A l := fun i x hi => by
 obtain ⟨h1, g, o, h2, h3⟩ := h i x hi
 exact ⟨h1, g, o, h2, range_below h3 hb⟩
theorem IA.ok {w : World} {A : Option Addr} {l : List It} (h : IA w A l) : ∀ x ∈ l, x.Ok := fun x hx => by
 obtain ⟨i, hi⟩ := List.getElem?_of_mem hx
 exact (h i x hi).1
theorem IA.addr {w : World} {A : Option Addr} {l : List It} (h : IA w A l) (hl : 0 < l.length) : ∃ g o, A = some ⟨g, o, none⟩ ∧ ∀ i x, l[i]? = some x → w.rangeAt g (o + i * 97) (itL x) := by
 obtain ⟨_, g, o, rfl, _⟩ := h 0 _ (List.getElem?_eq_getElem hl)
 refine ⟨g, o, rfl, fun i x hi => ?_⟩
 obtain ⟨_, g', o', e, h3⟩ := h i x hi
 cases e
 exact h3
theorem IA.hs {w w' : World} {b : Nat} {n : Int} {c : Nat} {A : Option Addr} {l : List It} (hA : IA w A l) (h : Hs w b n c) (k : Keep (fun i => i = b) w w') : IA w' A l := fun i x hi => by
 obtain ⟨h1, g, o, rfl, h3⟩ := hA i x hi
 refine ⟨h1, g, o, rfl, fun j v hv => k.cellAt (h3 j v hv) fun e => ?_⟩
 have e3 : g = b := e
 subst e3
 have h4 := h3 96 (bv (x.lf.getD 63 0)) (by
  unfold itL
  rw [show 96 = 95 + 1 from rfl, List.getElem?_cons_succ, List.getElem?_append_right (by rw [List.length_map, h1.d]; decide), List.length_map, h1.d, List.getElem?_map, List.getD_eq_getElem?_getD, List.getElem?_eq_getElem (by rw [h1.lf]; decide)]
  rfl)
 rw [cell_of_cells h] at h4
 obtain ⟨q, hq⟩ : ∃ q, q = o + i * 97 + 94 := ⟨_, rfl⟩
 rw [show o + i * 97 + 96 = q + 2 by omega] at h4
 simp at h4
def OwnIt (w : World) (B : Nat) (v : Value) (l : List It) : Prop := w.ownsRow B 59 97 v l.length (l.flatMap itL)
theorem OwnIt.nil (w : World) (B : Nat) : OwnIt w B (.slice none 0 0) [] := ⟨rfl, .inl ⟨rfl, rfl⟩⟩
theorem OwnIt.block {w w' : World} {B : Nat} {v : Value} {l : List It} (h : OwnIt w B v l) (hb : ∀ g, B ≤ g → g < w.heap.size → w'.heap[g]? = w.heap[g]?) : OwnIt w' B v l := by
 obtain ⟨h0, h | ⟨g, cap, cur, rfl, hg, hh, hr⟩⟩ := h
 ·exact ⟨h0, .inl h⟩
 ·exact ⟨h0, .inr ⟨g, cap, cur, rfl, hg, by rw [hb g hg (lt_of_heap hh)]; exact hh, hr⟩⟩
theorem OwnIt.below {w w' : World} {B : Nat} {v : Value} {l : List It} (h : OwnIt w B v l) (hb : Below w.heap.size w w') : OwnIt w' B v l := h.block fun g _ hg => hb.block g hg
theorem OwnIt.mono {w : World} {B B' : Nat} {v : Value} {l : List It} (h : OwnIt w B v l) (hB : B' ≤ B) : OwnIt w B' v l := by
 obtain ⟨h0, h | ⟨g, cap, cur, hv, hg, hr⟩⟩ := h
 ·exact ⟨h0, .inl h⟩
 ·exact ⟨h0, .inr ⟨g, cap, cur, hv, by omega, hr⟩⟩
theorem OwnIt.ge {w : World} {B : Nat} {v : Value} {l : List It} (h : OwnIt w B v l) : ∀ k, v.ownBlock = some k → B ≤ k := fun k hk => by
 obtain ⟨_, h | ⟨g, cap, cur, rfl, hg, _⟩⟩ := h
 ·obtain ⟨rfl, _⟩ := h; simp [Value.ownBlock] at hk
 ·simp [Value.ownBlock] at hk; omega
theorem flatI_at {l : List It} (hl : ∀ x ∈ l, x.Ok) {i : Nat} {x : It} (hi : l[i]? = some x) {j : Nat} {v : Value} (hv : (itL x)[j]? = some v) : (l.flatMap itL)[i * 97 + j]? = some v := by
 induction l generalizing i with
 | nil => simp at hi
 | cons y r ih =>
  have hy := itL_len (hl y (by simp))
  rw [List.flatMap_cons]
  cases i with
  | zero =>
   simp at hi
   subst hi
   rw [Nat.zero_mul, Nat.zero_add, List.getElem?_append_left (List.getElem?_eq_some_iff.1 hv).1]
   exact hv
  | succ i =>
   rw [List.getElem?_append_right (by rw [hy]; omega), hy, show (i + 1) * 97 + j - 97 = i * 97 + j by omega]
   exact ih (fun z hz => hl z (by simp [hz])) hi
theorem OwnIt.ia {w : World} {B : Nat} {v : Value} {l : List It} (h : OwnIt w B v l) (hl : ∀ x ∈ l, x.Ok) : ∃ A c, v = .slice A l.length c ∧ IA w A l ∧ l.length ≤ c := by
 obtain ⟨h0, ⟨rfl, h⟩ | ⟨g, cap, cur, rfl, hg, hh, hn, hc, hs, ht⟩⟩ := h
 ·exact ⟨none, 0, by rw [h], fun i e hi => by
   have : l = [] := List.length_eq_zero_iff.1 h
   subst this; simp at hi, by omega⟩
 ·refine ⟨_, cap, rfl, fun i k hi => ⟨hl k (List.mem_of_getElem? hi), g, 0, rfl, fun j x hx => ?_⟩, hn⟩
  have h1 := flatI_at hl hi (j := j) (v := x) hx
  have hlt := (List.getElem?_eq_some_iff.1 h1).1
  rw [h0] at hlt
  rw [Nat.zero_add, cell_of_cells hh, ← Array.getElem?_toList, ← h1, ← ht, List.getElem?_take, if_pos hlt]
theorem infoIt3 : (Tryz.prog.info? 59).map (fun i => (i.zero, i.size, i.bytes)) = some (some (.agg (itC zIt)), 97, 104) := by kernel_rfl
theorem it_made (w : World) (x : It) (t : TypeId) : (w.alloc (.cells (itC x) t)).rangeAt w.heap.size 0 (itL x) := fun j v hv => by
 rw [Nat.zero_add, cell_of_cells (heap_alloc_new w _)]
 unfold itC
 rw [List.getElem?_toArray]
 exact hv
@[go_sem ↓] theorem execOp_eqIt (ρ : Operand → Value) (dst : Option Tmp) (x y : Operand) (ty type : TypeId) (pos : String) (after : Array Edge) (guard : Option (Nat × Bool)) (w : World) :
  Sem.run Tryz.prog (execOp ρ { dst, op := .binOp .eql 59 x y ty, type, pos, after, guard }) w = eqA .eql 59 x y w (ρ x) (ρ y) := rfl
@[go_sem ↓] theorem execOp_neIt (ρ : Operand → Value) (dst : Option Tmp) (x y : Operand) (ty type : TypeId) (pos : String) (after : Array Edge) (guard : Option (Nat × Bool)) (w : World) :
  Sem.run Tryz.prog (execOp ρ { dst, op := .binOp .neq 59 x y ty, type, pos, after, guard }) w = eqA .neq 59 x y w (ρ x) (ρ y) := rfl
instance : DecidableEq It := fun x y => decidable_of_iff (x.k = y.k ∧ x.d = y.d ∧ x.lf = y.lf) ⟨fun ⟨a, b, c⟩ => by cases x; cases y; cases a; cases b; cases c; rfl, fun h => by subst h; exact ⟨rfl, rfl, rfl⟩⟩
theorem it_eq {x y : It} : x = y ↔ x.k = y.k ∧ x.d = y.d ∧ x.lf = y.lf := ⟨fun h => by subst h; exact ⟨rfl, rfl, rfl⟩, fun ⟨a, b, c⟩ => by cases x; cases y; cases a; cases b; cases c; rfl⟩
theorem itC_d {x : It} (h : x.Ok) : (itC x).extract 1 33 = bA x.d := by
 apply Array.toList_inj.1
 simp [itC, itL, bA, List.extract_eq_take_drop, h.d]
theorem itC_lf {x : It} (h : x.Ok) : (itC x).extract 33 97 = bA x.lf := by
 apply Array.toList_inj.1
 have e : ((x.d.map bv ++ x.lf.map bv).drop 32) = x.lf.map bv := by rw [List.drop_append_of_le_length (by simp [h.d]), List.drop_of_length_le (by simp [h.d]), List.nil_append]
 have e2 : List.take 64 (x.lf.map bv) = x.lf.map bv := List.take_of_length_le (by simp [h.lf])
 simp [itC, itL, bA, List.extract_eq_take_drop, e, e2]
theorem eq_item (d : Nat) (a b : It) (ha : a.Ok) (hb : b.Ok) (w : World) :
  (Op.equalIn (d + 5) 59 (.agg (itC a)) (.agg (itC b))).run Tryz.prog w = .ok (decide (a = b)) w := by
 rw [run_equalIn_struct w (d + 4) 59 _ _ (by kernel_rfl) (by kernel_rfl)]
 obtain ⟨f, g, h, hfg, f1, f2, f3, g1, g2, g3, h1, h2, h3⟩ : ∃ f g h, (Tryz.prog.fieldsOf 59).toList = [f, g, h] ∧ f.name = "Kind" ∧ f.type = 3 ∧ f.offset = 0 ∧ g.name = "Digest" ∧ g.type = 45 ∧ g.offset = 1 ∧ h.name = "Leaf" ∧ h.type = 57 ∧ h.offset = 33 :=
  ⟨_, _, _, rfl, rfl, rfl, rfl, rfl, rfl, rfl, rfl, rfl, rfl⟩
 have pk : ∀ (x : It) (w : World), (part 3 (itC x) 0).run Tryz.prog w = .ok (.int .i64 x.k) w := fun x w => by
  simp only [part, Sem.run_bind, Tryz.isAgg3, Result.andThen_ok]
  rfl
 have pd : ∀ (x : It) (w : World), x.Ok → (part 45 (itC x) 1).run Tryz.prog w = .ok (.agg (bA x.d)) w := fun x w h => by
  simp only [part, Sem.run_bind, Tryz.isAgg45, Result.andThen_ok]
  simp [itC_d h]
 have pl : ∀ (x : It) (w : World), x.Ok → (part 57 (itC x) 33).run Tryz.prog w = .ok (.agg (bA x.lf)) w := fun x w h => by
  simp only [part, Sem.run_bind, Tryz.isAgg57, Result.andThen_ok]
  simp [itC_lf h]
 have e0 := fun w => run_equalIn_int w (d + 3) 3 .i64 .i64 a.k b.k Tryz.underlying3
 have e1 := eq_arr Tryz.underlying45 (d + 2) a.d b.d ha.d hb.d
 have e2 := eq_leaf (d + 1) a.lf b.lf ha.lf hb.lf
 have hd : decide (a = b) = ((a.k == b.k) && (decide (a.d = b.d) && decide (a.lf = b.lf))) := by
  rw [Bool.eq_iff_iff, Bool.and_eq_true, Bool.and_eq_true, decide_eq_true_eq, decide_eq_true_eq, decide_eq_true_eq, beq_iff_eq]
  exact it_eq
 rw [hfg, hd]
 simp only [Op.eqFields, f1, f2, f3, g1, g2, g3, h1, h2, h3, Sem.run_bind, Sem.run_ite, pk, pd a _ ha, pd b _ hb, pl a _ ha, pl b _ hb, Result.andThen_ok, e0, e1, e2]
 cases (a.k == b.k) <;> cases decide (a.d = b.d) <;> cases decide (a.lf = b.lf) <;> rfl
theorem neIt (a b : It) (ha : a.Ok) (hb : b.Ok) (x y : Operand) (w : World) :
  eqA .neq 59 x y w (.agg (itC a)) (.agg (itC b)) = .ok (.value (.bool (!decide (a = b)))) w := by
 simp [eqA, eqGuard, binOp, Op.equal, Op.maxDepth, eq_item 9995 a b ha hb, Sem.run_bind, Sem.run_pure]
end
end Go.Proofs.YtmfbhohjpkmllaaGreatDoor
