import Derived.Test.YtkejfdgmdjfdoaaGreatDoorMX
import Derived.Test.YtkejfdgmdjfdoaaGreatDoorML
import Derived.Test.YtkejfdgmdjfdoaaGreatDoorM4
import Derived.Test.YtkejfdgmdjfdoaaGreatDoorM7
import Derived.BigQuiet
namespace Go.Proofs.YtkejfdgmdjfdoaaGreatDoor
set_option linter.unusedSimpArgs false
set_option linter.unusedVariables false
set_option maxRecDepth 100000
section
open Go.RowKit
theorem range_keyS {w : World} {g o : Nat} {k : List UInt8} (h : w.rangeAt g o (k.map bv)) (hk : k.length = 32) : ldA 40 w (.pointer (some ⟨g, o, none⟩)) = .ok (.value (.agg (bA k))) w :=
 ldA_of (t := 40) (w := w) (b := g) (o := o) (cs := k.map bv) h Tryz.underlying40 (by rw [List.length_map, hk]; exact infoKey)
noncomputable def bsS (w : World) (n : Nat) (parts : Array (Nat × Value)) : Result Next := Sem.run Tryz.prog (do pure (.value (← Instr.buildSlice 157 n parts))) w
@[go_sem ↓] theorem execOp_build_keyS (ρ : Operand → Value) (dst : Option Tmp) (n : Nat) (parts : Array (Nat × Operand)) (type : TypeId) (pos : String) (after : Array Edge) (guard : Option (Nat × Bool)) (w : World) :
  Sem.run Tryz.prog (execOp ρ { dst, op := .buildSlice 157 n parts, type, pos, after, guard }) w = bsS w n (parts.map fun x => (x.1, ρ x.2)) := rfl
def cS (k : List UInt8) : List Value := k.map bv
def OwnS (w : World) (B : Nat) (v : Value) (ks : List (List UInt8)) : Prop := w.ownsRow B 40 32 v ks.length (ks.flatMap cS)
theorem OwnS.nil (w : World) (B : Nat) : OwnS w B (.slice none 0 0) [] := ⟨rfl, .inl ⟨rfl, rfl⟩⟩
theorem OwnS.below {w w' : World} {B : Nat} {v : Value} {ks : List (List UInt8)} (h : OwnS w B v ks) (hb : Below w.heap.size w w') : OwnS w' B v ks := row11_keep h (Keep.of_below (L := fun _ => False) hb) fun _ _ h => h
theorem infoS3 : (Tryz.prog.info? 40).map (fun i => (i.zero, i.size, i.bytes)) = some (some (.agg (bA ((List.range 32).map fun _ => (0 : UInt8)))), 32, 32) := by kernel_rfl
end
section
open Go.RowKit
structure Chg where
 k : List UInt8
 v : List UInt8
 d : Bool
def chkK : List (List UInt8) → Int
 | [] => 0
 | [_] => 0
 | a :: b :: r => if cmpK a b = 0 then 9 else if 0 < cmpK a b then 8 else chkK (b :: r)
def AscS (ks : List (List UInt8)) : Prop := ks.Pairwise LtB
def K32 (ks : List (List UInt8)) : Prop := ∀ k ∈ ks, k.length = 32
theorem LtB.ne {a b : List UInt8} (h : LtB a b) : a ≠ b := fun e => by
 obtain ⟨i, _, _, h0, h1⟩ := h
 rw [e] at h0
 omega
theorem chk_asc : ∀ (ks : List (List UInt8)), K32 ks → chkK ks = 0 → AscS ks
 | [], _, _ => List.Pairwise.nil
 | [a], _, _ => List.pairwise_singleton _ _
 | a :: b :: r, hk, h => by
  unfold chkK at h
  by_cases h0 : cmpK a b = 0
  ·rw [if_pos h0] at h; exact absurd h (by decide)
  ·by_cases h1 : 0 < cmpK a b
   ·rw [if_neg h0, if_pos h1] at h; exact absurd h (by decide)
   ·rw [if_neg h0, if_neg h1] at h
    have ih := chk_asc (b :: r) (fun k hm => hk k (by simp [hm])) h
    have hab := LtB.of (hk a (by simp)) (hk b (by simp)) (by omega)
    obtain ⟨i1, _⟩ := List.pairwise_cons.1 ih
    refine List.pairwise_cons.2 ⟨fun x hx => ?_, ih⟩
    rcases List.mem_cons.1 hx with rfl | hx
    ·exact hab
    ·exact hab.trans (i1 x hx)
theorem asc_chk : ∀ (ks : List (List UInt8)), AscS ks → chkK ks = 0
 | [], _ => rfl
 | [a], _ => rfl
 | a :: b :: r, h => by
  obtain ⟨h1, h2⟩ := List.pairwise_cons.1 h
  have hc := (h1 b (by simp)).cmp
  unfold chkK
  rw [if_neg (by omega), if_neg (by omega)]
  exact asc_chk (b :: r) h2
def stepC (l : List Ent) (c : Chg) : List Ent := if c.d then rmK l c.k else putK l ⟨c.k, c.v⟩
def appC (l : List Ent) (cs : List Chg) : List Ent := cs.foldl stepC l
theorem appC_cons (l : List Ent) (c : Chg) (r : List Chg) : appC l (c :: r) = appC (stepC l c) r := rfl
def Len32 (l : List Ent) : Prop := ∀ e ∈ l, e.k.length = 32
theorem stepC_keeps {l : List Ent} {c : Chg} (h : Asc l) (hl : Len32 l) (hc : c.k.length = 32) : Asc (stepC l c) ∧ Len32 (stepC l c) := by
 unfold stepC
 split
 ·exact ⟨h.filter _, fun e he => hl e (List.mem_filter.1 he).1⟩
 ·refine ⟨putK_asc hc h hl, fun e he => ?_⟩
  rcases insK_mem10 he with rfl | he
  ·exact hc
  ·exact hl e (List.mem_filter.1 he).1
theorem appC_keeps : ∀ (cs : List Chg) {l : List Ent}, Asc l → Len32 l → (∀ c ∈ cs, c.k.length = 32) → Asc (appC l cs) ∧ Len32 (appC l cs)
 | [], _, h, hl, _ => ⟨h, hl⟩
 | c :: r, l, h, hl, hc => by
  obtain ⟨h1, h2⟩ := stepC_keeps h hl (hc c (by simp))
  rw [appC_cons]
  exact appC_keeps r h1 h2 fun x hx => hc x (by simp [hx])
theorem stepC_len (l : List Ent) (c : Chg) : (stepC l c).length ≤ l.length + 1 := by
 unfold stepC
 split
 ·have := List.length_filter_le (fun e : Ent => !decide (e.k = c.k)) l
  show (l.filter _).length ≤ _
  omega
 ·have h1 := (insK_perm ⟨c.k, c.v⟩ (rmK l c.k)).length_eq
  have h2 := List.length_filter_le (fun e : Ent => !decide (e.k = c.k)) l
  show (insK _ (rmK l c.k)).length ≤ _
  rw [h1, List.length_cons]
  show (l.filter _).length + 1 ≤ _
  omega
theorem appC_len : ∀ (cs : List Chg) (l : List Ent), (appC l cs).length ≤ l.length + cs.length
 | [], l => by simp [appC]
 | c :: r, l => by
  have h1 := appC_len r (stepC l c)
  have h2 := stepC_len l c
  rw [appC_cons, List.length_cons]
  omega
def valK (l : List Ent) (k : List UInt8) : Option (List UInt8) := (l.find? fun e => decide (e.k = k)).map Ent.v
theorem valK_cons (x : Ent) (r : List Ent) (k : List UInt8) : valK (x :: r) k = if x.k = k then some x.v else valK r k := by
 unfold valK
 by_cases h : x.k = k
 ·rw [List.find?_cons_of_pos (by simpa using h), if_pos h]; rfl
 ·rw [List.find?_cons_of_neg (by simpa using h), if_neg h]
theorem valK_none {l : List Ent} {k : List UInt8} (h : ∀ e ∈ l, e.k ≠ k) : valK l k = none := by
 unfold valK
 rw [List.find?_eq_none.2 fun e he => by simpa using h e he]
 rfl
theorem valK_key {l : List Ent} {k v : List UInt8} (h : valK l k = some v) : k ∈ l.map Ent.k := by
 unfold valK at h
 obtain ⟨e, he, _⟩ := Option.map_eq_some_iff.1 h
 exact List.mem_map.2 ⟨e, List.mem_of_find?_eq_some he, by simpa using List.find?_some he⟩
theorem valK_ins (e : Ent) (k : List UInt8) : ∀ (l : List Ent), (∀ x ∈ l, x.k ≠ e.k) → valK (insK e l) k = if e.k = k then some e.v else valK l k
 | [], _ => by
  show valK [e] k = _
  rw [valK_cons]
 | x :: r, h => by
  show valK (if cmpK e.k x.k < 0 then e :: x :: r else x :: insK e r) k = _
  split
  ·rw [valK_cons]
  ·rw [valK_cons, valK_ins e k r fun y hy => h y (by simp [hy]), valK_cons]
   by_cases h1 : e.k = k
   ·have hx := h x (by simp)
    rw [if_pos h1, if_neg (by rw [← h1]; exact hx), if_pos h1]
   ·rw [if_neg h1, if_neg h1]
theorem valK_rm (l : List Ent) (q k : List UInt8) : valK (rmK l q) k = if q = k then none else valK l k := by
 induction l with
 | nil => split <;> rfl
 | cons x r ih =>
  by_cases hx : x.k = q
  ·have e1 : rmK (x :: r) q = rmK r q := by simp [rmK, hx]
   rw [e1, ih, valK_cons]
   by_cases hq : q = k
   ·rw [if_pos hq, if_pos hq]
   ·rw [if_neg hq, if_neg hq, if_neg (by rw [hx]; exact hq)]
  ·have e1 : rmK (x :: r) q = x :: rmK r q := by simp [rmK, hx]
   rw [e1, valK_cons, ih, valK_cons]
   by_cases hq : q = k
   ·rw [if_pos hq, if_pos hq, if_neg (by rw [← hq]; exact hx)]
   ·rw [if_neg hq, if_neg hq]
theorem valK_step (l : List Ent) (c : Chg) (k : List UInt8) : valK (stepC l c) k = if c.k = k then (if c.d then none else some c.v) else valK l k := by
 unfold stepC
 cases hd : c.d with
 | true => simp only [if_true]; rw [valK_rm]
 | false =>
  simp only [Bool.false_eq_true, if_false]
  unfold putK
  rw [valK_ins _ _ _ fun x hx => by
   have := (List.mem_filter.1 hx).2
   simpa using this, valK_rm]
  by_cases h : c.k = k
  ·rw [if_pos h, if_pos h]
  ·rw [if_neg h, if_neg h, if_neg h]
def lastC : List Chg → List UInt8 → Option (List UInt8) → Option (List UInt8)
 | [], _, o => o
 | c :: r, k, o => lastC r k (if c.k = k then (if c.d then none else some c.v) else o)
theorem valK_app (k : List UInt8) : ∀ (cs : List Chg) (l : List Ent), valK (appC l cs) k = lastC cs k (valK l k)
 | [], _ => rfl
 | c :: r, l => by rw [appC_cons, valK_app k r, valK_step]; rfl
theorem lastC_no (k : List UInt8) : ∀ (cs : List Chg) (o : Option (List UInt8)), (∀ c ∈ cs, c.k ≠ k) → lastC cs k o = o
 | [], _, _ => rfl
 | c :: r, o, h => by
  unfold lastC
  rw [if_neg (h c (by simp))]
  exact lastC_no k r o fun x hx => h x (by simp [hx])
theorem asc_ext : ∀ {a b : List Ent}, Asc a → Asc b → (∀ k, valK a k = valK b k) → a = b
 | [], [], _, _, _ => rfl
 | [], y :: s, _, _, h => by have := h y.k; rw [valK_cons, if_pos rfl] at this; cases this
 | x :: r, [], _, _, h => by have := h x.k; rw [valK_cons, if_pos rfl] at this; cases this
 | x :: r, y :: s, ha, hb, h => by
  obtain ⟨a1, a2⟩ := List.pairwise_cons.1 ha
  obtain ⟨b1, b2⟩ := List.pairwise_cons.1 hb
  have hk : x.k = y.k := by
   refine Classical.byContradiction fun hne => ?_
   have h1 := h x.k
   rw [valK_cons, if_pos rfl, valK_cons, if_neg (Ne.symm hne)] at h1
   have h2 := h y.k
   rw [valK_cons, if_neg hne, valK_cons, if_pos rfl] at h2
   obtain ⟨u, hu, hu2⟩ := List.mem_map.1 (valK_key h1.symm)
   obtain ⟨v, hv, hv2⟩ := List.mem_map.1 (valK_key h2)
   have l1 := b1 u hu
   have l2 := a1 v hv
   rw [hu2] at l1
   rw [hv2] at l2
   exact (l1.trans l2).ne rfl
  have hv : x.v = y.v := by
   have h1 := h x.k
   rw [valK_cons, if_pos rfl, valK_cons, if_pos hk.symm] at h1
   exact Option.some.inj h1
  have hxy : x = y := by cases x; cases y; simp_all
  subst hxy
  rw [asc_ext a2 b2 fun k => by
   by_cases hq : x.k = k
   ·rw [valK_none fun e he => by rw [← hq]; exact (a1 e he).ne.symm, valK_none fun e he => by rw [← hq]; exact (b1 e he).ne.symm]
   ·have h1 := h k
    rwa [valK_cons, if_neg hq, valK_cons, if_neg hq] at h1]
def difC (a b : List Ent) (k : List UInt8) : List Chg :=
 match valK b k with
 | none => [⟨k, [], true⟩]
 | some y => match valK a k with
  | none => [⟨k, y, false⟩]
  | some x => if x = y then [] else [⟨k, y, false⟩]
theorem difC_len (a b : List Ent) (k : List UInt8) : (difC a b k).length ≤ 1 := by
 unfold difC
 split
 ·simp
 ·split
  ·simp
  ·split <;> simp
theorem flat_len (a b : List Ent) : ∀ ks : List (List UInt8), (ks.flatMap (difC a b)).length ≤ ks.length
 | [] => by simp
 | x :: r => by
  have h1 := flat_len a b r
  have h2 := difC_len a b x
  rw [List.flatMap_cons, List.length_append, List.length_cons]
  omega
end
section
open Go.RowKit
structure Cn where
 k : List UInt8
 A : Option Addr
 v : List UInt8
 c : Nat
 d : Bool
def Cn.chg (x : Cn) : Chg := ⟨x.k, x.v, x.d⟩
def cnC (x : Cn) : List Value := x.k.map bv ++ [.slice x.A x.v.length x.c, .bool x.d]
structure CnOk (w : World) (x : Cn) : Prop where
 key : x.k.length = 32
 cap : x.v.length ≤ x.c
 val : BA w x.A x.v
theorem CnOk.below {w w' : World} {x : Cn} (h : CnOk w x) (hb : Below w.heap.size w w') : CnOk w' x := ⟨h.key, h.cap, h.val.below hb⟩
theorem cnC_len {x : Cn} (h : x.k.length = 32) : (cnC x).length = 34 := by simp [cnC, h]
theorem cnC_one (x : Cn) : ∀ v ∈ cnC x, v.oneCell' = true := fun v hv => by
 rcases List.mem_append.1 hv with h | h
 ·obtain ⟨y, _, rfl⟩ := List.mem_map.1 h
  rfl
 ·rcases List.mem_cons.1 h with rfl | h
  ·rfl
  ·rw [List.mem_singleton.1 h]; rfl
def CA (w : World) (A : Option Addr) (xs : List Cn) : Prop := ∀ i x, xs[i]? = some x → CnOk w x ∧ ∃ g o, A = some ⟨g, o, none⟩ ∧ w.rangeAt g (o + i * 34) (cnC x)
theorem CA.below {w w' : World} {A : Option Addr} {xs : List Cn} (h : CA w A xs) (hb : Below w.heap.size w w') : CA w' A xs := fun i x hi => by
 obtain ⟨h1, g, o, rfl, h2⟩ := h i x hi
 exact ⟨h1.below hb, g, o, rfl, range_below h2 hb⟩
theorem CA.ok {w : World} {A : Option Addr} {xs : List Cn} (h : CA w A xs) : ∀ x ∈ xs, CnOk w x := fun x hx => by
 obtain ⟨i, hi⟩ := List.getElem?_of_mem hx
 exact (h i x hi).1
theorem range_ckey {w : World} {g o : Nat} {x : Cn} (h : w.rangeAt g o (cnC x)) (hk : x.k.length = 32) : ldA 40 w (.pointer (some ⟨g, o, none⟩)) = .ok (.value (.agg (bA x.k))) w := by
 have := ldA_of (t := 40) (w := w) (b := g) (o := o) (cs := x.k.map bv) (fun j v hv => h j v (by
  unfold cnC
  rw [List.getElem?_append_left (List.getElem?_eq_some_iff.1 hv).1]
  exact hv)) Tryz.underlying40 (by rw [List.length_map, hk]; exact infoKey)
 exact this
theorem range_cval {w : World} {g o : Nat} {x : Cn} (h : w.rangeAt g o (cnC x)) (hk : x.k.length = 32) : w.cell? ⟨g, o + 32, none⟩ = some (.slice x.A x.v.length x.c) :=
 h 32 _ (by
  unfold cnC
  rw [List.getElem?_append_right (by simp [hk])]
  simp [hk])
theorem range_cdel {w : World} {g o : Nat} {x : Cn} (h : w.rangeAt g o (cnC x)) (hk : x.k.length = 32) : w.cell? ⟨g, o + 33, none⟩ = some (.bool x.d) :=
 h 33 _ (by
  unfold cnC
  rw [List.getElem?_append_right (by simp [hk])]
  simp [hk])
theorem cn_made (w : World) (x : Cn) (t : TypeId) : (w.alloc (.cells (cnC x).toArray t)).rangeAt w.heap.size 0 (cnC x) := fun j u hu => by
 rw [Nat.zero_add, cell_of_cells (heap_alloc_new w _)]
 simpa using hu
def OwnC (t : TypeId) (w : World) (B : Nat) (v : Value) (xs : List Cn) : Prop := w.ownsRow B t 34 v xs.length (xs.flatMap cnC)
theorem OwnC.nil (t : TypeId) (w : World) (B : Nat) : OwnC t w B (.slice none 0 0) [] := ⟨rfl, .inl ⟨rfl, rfl⟩⟩
theorem OwnC.below {t : TypeId} {w w' : World} {B : Nat} {v : Value} {xs : List Cn} (h : OwnC t w B v xs) (hb : Below w.heap.size w w') : OwnC t w' B v xs := row11_keep h (Keep.of_below (L := fun _ => False) hb) fun _ _ h => h
theorem OwnC.mono {t : TypeId} {w : World} {B B' : Nat} {v : Value} {xs : List Cn} (h : OwnC t w B v xs) (hB : B' ≤ B) : OwnC t w B' v xs := by
 obtain ⟨h0, h | ⟨g, cap, cur, rfl, hg, hr⟩⟩ := h
 ·exact ⟨h0, .inl h⟩
 ·exact ⟨h0, .inr ⟨g, cap, cur, rfl, by omega, hr⟩⟩
theorem infoCb : (Tryz.prog.info? 164).map (fun i => (i.zero, i.size, i.bytes)) = some (some (.agg (((List.range 32).map fun _ => (0 : UInt8)).map bv ++ [Value.slice none 0 0, Value.bool false]).toArray), 34, 64) := by kernel_rfl
theorem infoCb1 : (Tryz.prog.info? 164).map (·.size) = some 34 := by kernel_rfl
@[go_sem ↓] theorem execOp_loadCb (ρ : Operand → Value) (dst : Option Tmp) (x : Operand) (type : TypeId) (pos : String) (after : Array Edge) (guard : Option (Nat × Bool)) (w : World) :
  Sem.run Tryz.prog (execOp ρ { dst, op := .load 164 x, type, pos, after, guard }) w = ldA 164 w (ρ x) := rfl
@[go_sem ↓] theorem execOp_storeCb (ρ : Operand → Value) (dst : Option Tmp) (x y : Operand) (type : TypeId) (pos : String) (after : Array Edge) (guard : Option (Nat × Bool)) (w : World) :
  Sem.run Tryz.prog (execOp ρ { dst, op := .store 164 x y, type, pos, after, guard }) w = stA 164 w (ρ x) (ρ y) := rfl
@[go_sem ↓] theorem execOp_buildCb (ρ : Operand → Value) (dst : Option Tmp) (parts : Array (Nat × Operand)) (type : TypeId) (pos : String) (after : Array Edge) (guard : Option (Nat × Bool)) (w : World) :
  Sem.run Tryz.prog (execOp ρ { dst, op := .build 164 parts, type, pos, after, guard }) w = bldA 164 w (parts.map fun x => (x.1, ρ x.2)) := rfl
noncomputable def bsC (t : TypeId) (w : World) (n : Nat) (parts : Array (Nat × Value)) : Result Next := Sem.run Tryz.prog (do pure (.value (← Instr.buildSlice t n parts))) w
@[go_sem ↓] theorem execOp_bsCb (ρ : Operand → Value) (dst : Option Tmp) (n : Nat) (parts : Array (Nat × Operand)) (type : TypeId) (pos : String) (after : Array Edge) (guard : Option (Nat × Bool)) (w : World) :
  Sem.run Tryz.prog (execOp ρ { dst, op := .buildSlice 115 n parts, type, pos, after, guard }) w = bsC 115 w n (parts.map fun x => (x.1, ρ x.2)) := rfl
theorem range_cb {w : World} {g o : Nat} {x : Cn} (h : w.rangeAt g o (cnC x)) (hk : x.k.length = 32) : ldA 164 w (.pointer (some ⟨g, o, none⟩)) = .ok (.value (.agg (cnC x).toArray)) w := by
 unfold ldA
 rw [Sem.run_bind, run_loadAt_mid (P := Tryz.prog) w g o 164 (cnC x) _ h Tryz.underlying164 rfl (by rw [cnC_len hk]; exact infoCb1)]
 simp [Sem.run_pure, Result.andThen_ok]
theorem stC_new {t : TypeId} (hin : (Tryz.prog.info? t).map (·.size) = some 34) {w : World} {x z : Cn} (hx : x.k.length = 32) (hz : z.k.length = 32) :
  stA t (w.alloc (.cells (cnC z).toArray t)) (.pointer (some ⟨w.heap.size, 0, none⟩)) (.agg (cnC x).toArray) = .ok .skip (w.alloc (.cells (cnC x).toArray t)) :=
 stA_new w _ _ (by rw [List.size_toArray, cnC_len hx]; exact hin) (by rw [List.size_toArray, List.size_toArray, cnC_len hx, cnC_len hz]) (by rw [List.all_toArray, List.all_eq_true]; exact cnC_one x)
end
section
open Go.RowKit
theorem drop_two {ks : List (List UInt8)} {j : Nat} {a b : List UInt8} (ha : ks[j]? = some a) (hb : ks[j + 1]? = some b) : ks.drop j = a :: b :: ks.drop (j + 2) := by
 obtain ⟨h1, rfl⟩ := List.getElem?_eq_some_iff.1 ha
 obtain ⟨h2, rfl⟩ := List.getElem?_eq_some_iff.1 hb
 rw [List.drop_eq_getElem_cons h1, List.drop_eq_getElem_cons h2]
theorem chk_few {ks : List (List UInt8)} {j : Nat} (h : ks.length ≤ j + 1) : chkK (ks.drop j) = 0 := by
 have hl : (ks.drop j).length ≤ 1 := by rw [List.length_drop]; omega
 match ks.drop j, hl with
 | [], _ => rfl
 | [a], _ => rfl
end
section
open Go.RowKit
end
section
open Go.RowKit
theorem appC_snoc (l : List Ent) (cs : List Chg) (c : Chg) : appC l (cs ++ [c]) = stepC (appC l cs) c := by unfold appC; rw [List.foldl_append]; rfl
end
section
open Go.RowKit
end
end Go.Proofs.YtkejfdgmdjfdoaaGreatDoor
