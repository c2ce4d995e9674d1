import Derived.Test.YtkejfdgmdjfdoaaGreatDoorMR
import Derived.Maps.AppendAt
import Derived.Test.YtkejfdgmdjfdoaaGreatDoorGn
import Derived.Test.YtkejfdgmdjfdoaaGreatDoorMT
import Derived.Test.YtkejfdgmdjfdoaaGreatDoorM4
import Derived.Test.YtkejfdgmdjfdoaaGreatDoorG6
import Derived.Test.YtkejfdgmdjfdoaaGreatDoorMO
import Derived.Test.YtkejfdgmdjfdoaaGreatDoorMP
import Derived.RangeFuncCalls
import Derived.Test.YtkejfdgmdjfdoaaGreatDoorMX
import Derived.Test.YtkejfdgmdjfdoaaGreatDoorMF
namespace Go.Proofs.YtkejfdgmdjfdoaaGreatDoor
set_option linter.unusedSimpArgs false
set_option linter.unusedVariables false
set_option maxHeartbeats 16000000
set_option maxRecDepth 100000
section
open Go.RowKit
def BearsW (J : (Nat → Prop) → World → Prop) : Prop := ∀ O X Y O', J O X → Keep O X Y → (∀ i, O' i → O i ∨ X.heap.size ≤ i) → J O' Y
def SeqO {α : Type} (P : Program) (g : FuncId) (lb : Array Value) (E : α → Array Value → World → Prop) (M : Nat → Prop) (xs : List α) (w : World) : Prop :=
 ∀ (n l : Nat) (J : Bool → List α → (Nat → Prop) → World → Prop) (W : World), Below w.heap.size w W → (∀ b s, BearsW (J b s)) →
  (∀ pre x O args X, J true pre O X → (∀ i, O i → W.heap.size ≤ i ∧ i < X.heap.size) → pre ++ [x] <+: xs → E x args X → YieldAt Fence.wide (n - 1) P l args X fun e Y => ∃ b, e = .returned (.bool b) ∧ J b (pre ++ [x]) O Y ∧ Keep (fun i => M i ∧ ¬ O i) X Y) →
  J true [] (fun _ => False) W →
  CallsIn Fence.wide n P g (#[.func (.yield l) #[] #[]] ++ lb) W fun e Y => (∃ v, e = .returned v) ∧ ∃ O, J true xs O Y ∨ ∃ pre, pre <+: xs ∧ J false pre O Y
def Keeps2 (B : Nat) (X Y : World) : Prop := ∀ (k : Nat) (o : Obj), B ≤ k → k ≤ B + 1 → X.heap[k]? = some o → o.isCells = false → Y.heap[k]? = some o
theorem Keeps2.refl (B : Nat) (X : World) : Keeps2 B X X := fun _ _ _ _ h _ => h
theorem keeps2_of {X Y : World} (h : KeepsOthers X Y) (B : Nat) : Keeps2 B X Y := fun k o _ _ h1 h2 => h.same k o h1 h2
theorem Keeps2.of_keep {B : Nat} {X Y : World} {L : Nat → Prop} (h : Keep L X Y) (h0 : ¬ L B) (h1 : ¬ L (B + 1)) : Keeps2 B X Y := fun k o hk hk2 ho _ => by
 rcases Nat.eq_or_lt_of_le hk with rfl | hlt
 ·exact h.heap ho h0
 ·have e : k = B + 1 := by omega
  subst e
  exact h.heap ho h1
theorem round_end2 {P : Program} {D : Nat} {X Y : World} {r r' : Loop} (jump : Option Code) (hX : X.heap[D + 1]? = some (.loop r)) (hd : X.heap[D]? = some (.deferred (some []))) (hk : Keeps2 D X Y)
  (hr : { r with state := if jump.isNone then .ready else .done, pending := jump } = r') :
  (Instr.endRound (D + 1) jump).run P Y = .ok (.bool jump.isNone) (Y.putObj (D + 1) (.loop r')) ∧ (Y.putObj (D + 1) (.loop r')).heap[D]? = some (.deferred (some [])) ∧ (Y.putObj (D + 1) (.loop r')).heap[D + 1]? = some (.loop r') ∧
   ∃ o, Y.heap[D + 1]? = some o ∧ o.isCells = false := by
 have h1 := hk _ _ (Nat.le_succ D) (Nat.le_refl _) hX rfl
 have h2 := hk _ _ (Nat.le_refl D) (Nat.le_succ _) hd rfl
 refine ⟨by rw [← hr]; exact run_endRound jump h1, (World.putObj_heap_other (by omega)).trans h2, World.putObj_heap_same (Array.getElem?_eq_some_iff.1 h1).1, _, h1, rfl⟩
def endO {α : Type} (B : Nat) (M O : Nat → Prop) (I : List α → (Nat → Prop) → World → Prop) (Ix : Code → List α → (Nat → Prop) → World → Prop) (s : List α) (X : World) : Exit → Act → World → Prop
 | .normal, _, Y => Keeps2 B X Y ∧ Keep (fun i => M i ∧ ¬ O i) X Y ∧ I s O Y
 | .ret, _, Y => Keeps2 B X Y ∧ Keep (fun i => M i ∧ ¬ O i) X Y ∧ Ix .ret s O Y
 | .exit i, _, Y => Keeps2 B X Y ∧ Keep (fun i => M i ∧ ¬ O i) X Y ∧ Ix (.exit i) s O Y
 | .goto t, _, Y => Keeps2 B X Y ∧ Keep (fun i => M i ∧ ¬ O i) X Y ∧ Ix (.goto t) s O Y
 | .panic _, _, _ => False
 | .outgrown, _, _ => False
def JO {α : Type} (D : Nat) (rc : LoopState → Option Code → Loop) (I : List α → (Nat → Prop) → World → Prop) (Ix : Code → List α → (Nat → Prop) → World → Prop) (b : Bool) (s : List α) (O : Nat → Prop) (X : World) : Prop :=
 (∀ i, O i → D + 2 ≤ i) ∧ X.heap[D]? = some (.deferred (some [])) ∧ match b with
  | true => I s O X ∧ X.heap[D + 1]? = some (.loop (rc .ready none))
  | false => ∃ c, Ix c s O X ∧ X.heap[D + 1]? = some (.loop (rc .done (some c)))
def BearsL (B : Nat) (J : World → Prop) : Prop := ∀ X l o o', J X → B ≤ l → l ≤ B + 1 → X.heap[l]? = some o → o.isCells = false → J (X.putObj l o')
def BearsB (B : Nat) (J : (Nat → Prop) → World → Prop) : Prop := ∀ O X Y O', J O X → (∀ i, O i → B + 2 ≤ i) → B + 2 ≤ X.heap.size → Keep O X Y → (∀ i, O' i → O i ∨ X.heap.size ≤ i) → J O' Y
theorem wpIn_rangeO {α : Type} {P : Program} {n : Nat} {g : Operand} {ps : Array Tmp} {assign body : Code} {Q : Exit → Act → World → Prop} {a : Act} {w : World}
  {gf : Nat} {lb : Array Value} (hg : a.eval g = .func (.func gf) #[] lb) (eg : ∀ args w, (callFunc gf args).run P w = .ok (.enter gf args) w)
  {E : α → Array Value → World → Prop} {M : Nat → Prop} {xs : List α} (hseq : SeqO P gf lb E M xs w) (hM : ∀ i, w.heap.size ≤ i → i ≤ w.heap.size + 1 → M i) (hps : ∀ x args X, E x args X → args.size = ps.size)
  (I : List α → (Nat → Prop) → World → Prop) (Ix : Code → List α → (Nat → Prop) → World → Prop) (hI : ∀ s, BearsB w.heap.size (I s)) (hIo : ∀ s O, BearsL w.heap.size (I s O)) (hX : ∀ c s, BearsB w.heap.size (Ix c s)) (hXo : ∀ c s O, BearsL w.heap.size (Ix c s O)) (h0 : ∀ X, Below w.heap.size w X → I [] (fun _ => False) X)
  (hround : ∀ (l : Nat) (pre : List α) (x : α) (O : Nat → Prop) (args : Array Value) (X : World), l = w.heap.size + 1 → (∃ r, X.heap[l]? = some (.loop r)) → I pre O X → (∀ i, O i → w.heap.size + 2 ≤ i ∧ i < X.heap.size) → pre ++ [x] <+: xs → E x args X →
   assign.wpIn (Fence.wide.inRound l) (n - 1 - 1) P (Exit.then (fun a' Y => Keeps2 w.heap.size X Y ∧ Keep (fun i => M i ∧ ¬ O i) X Y ∧ I pre O Y ∧ ∀ V, (∃ r, V.heap[l]? = some (.loop r)) → Keep (fun i => i = w.heap.size + 1) Y V → I pre O V →
    body.wpIn (Fence.wide.inRound l) (n - 1 - 1) P (endO w.heap.size M O I Ix (pre ++ [x]) V) a' V) (fun _ _ _ => False)) { tmps := (ps.zip args).foldl (fun t (p, v) => t.setIfInBounds p v) a.tmps, defers := [] } X)
  (hdone : ∀ (D : Nat) (O : Nat → Prop) (X : World), D = w.heap.size → I xs O X → X.heap[D]? = some (.deferred (some [])) → Q .normal { a with defers := { target := .collected D, args := #[] } :: a.defers } X)
  (hstop : ∀ (D : Nat) (c : Code) (pre : List α) (O : Nat → Prop) (X : World), D = w.heap.size → pre <+: xs → Ix c pre O X → X.heap[D]? = some (.deferred (some [])) →
   c.wpIn Fence.wide n P Q { a with defers := { target := .collected D, args := #[] } :: a.defers } X) :
  (Code.rangeFunc g ps assign body).wpIn Fence.wide n P Q a w := by
 refine wpIn_rangeFunc fun fn hfn => ?_
 obtain ⟨rc, hrc⟩ : ∃ rc : LoopState → Option Code → Loop, rc = fun st pe => { state := st, pending := pe, fn, tmps := a.tmps, params := ps, assign, body, defers := w.heap.size } := ⟨_, rfl⟩
 obtain ⟨Z, hZ⟩ : ∃ Z, Z = (w.alloc (.deferred (some []))).alloc (.loop (rc .ready none)) := ⟨_, rfl⟩
 have zl : Z.heap[w.heap.size + 1]? = some (.loop (rc .ready none)) := by
  have := World.alloc_heap_new (w.alloc (.deferred (some []))) (.loop (rc .ready none))
  rwa [World.size_alloc, ← hZ] at this
 have zd : Z.heap[w.heap.size]? = some (.deferred (some [])) := by
  rw [hZ]
  exact (Below.heap_alloc _ _ _ (by simp)).trans (World.alloc_heap_new w _)
 have zs : Z.heap.size = w.heap.size + 2 := by rw [hZ]; simp
 have zb : Below w.heap.size w Z := by rw [hZ]; exact ((Below.refl _ w).alloc (Nat.le_refl _) _).alloc (by simp) _
 have ent := run_enterLoop_outer (P := P) (w := w) fn a.tmps ps assign body
 have hZ2 : (w.alloc (.deferred (some []))).alloc (.loop { state := .ready, pending := none, fn, tmps := a.tmps, params := ps, assign, body, defers := w.heap.size }) = Z := by rw [hZ, hrc]
 rw [hZ2] at ent
 refine ⟨_, _, Z, { target := .fn (.func gf) lb, args := #[.func (.yield (w.heap.size + 1)) #[] #[]] }, Z, gf, _, Z, ent, ?_, fun _ _ => trivial, ?_, (fun h => by cases h), (hseq (n - 1) (w.heap.size + 1) (JO w.heap.size rc I Ix) Z zb ?_ ?_ ⟨fun _ h => h.elim, zd, h0 Z zb, zl⟩).mono ?_⟩
 ·simp only [resolve, hg]
  simp [go_sem]
 ·simp [invoke, go_sem, eg]
 ·rintro b s O X Y O' ⟨hO, hd, h⟩ hk ho
  have hnD : ¬ O w.heap.size := fun h => by have := hO _ h; omega
  have hnl : ¬ O (w.heap.size + 1) := fun h => by have := hO _ h; omega
  have hsz : w.heap.size + 2 ≤ X.heap.size := by
   cases b with
   | true => have := (Array.getElem?_eq_some_iff.1 h.2).1; omega
   | false => obtain ⟨c, _, h2⟩ := h; have := (Array.getElem?_eq_some_iff.1 h2).1; omega
  refine ⟨fun i hi => (ho i hi).elim (hO i) fun h => by omega, hk.heap hd hnD, ?_⟩
  cases b with
  | true => exact ⟨hI s O X Y O' h.1 hO hsz hk ho, hk.heap h.2 hnl⟩
  | false =>
   obtain ⟨c, h1, h2⟩ := h
   exact ⟨c, hX c s O X Y O' h1 hO hsz hk ho, hk.heap h2 hnl⟩
 ·rintro pre x O args X ⟨hO, hd, hi, hl⟩ hOX hp hE
  rw [zs] at hOX
  refine ⟨_, _, _, _, run_yield hl (by rw [hrc]; exact hps x args X hE), roundIn_of_wpIn (by rw [hrc]; exact hfn) ?_⟩
  rw [hrc]
  refine wpIn_mono (hround _ pre x O args X rfl ⟨_, hl⟩ hi hOX hp hE) fun e a' Y h => ?_
  cases e with
  | ret => exact h.elim
  | exit _ => exact h.elim
  | goto _ => exact h.elim
  | panic _ => exact h.elim
  | outgrown => exact h.elim
  | normal =>
  obtain ⟨hf, hm, hi2, hb⟩ := h
  have hl2 := hf _ _ (Nat.le_succ _) (Nat.le_refl _) hl rfl
  have hd2 := hf _ _ (Nat.le_refl _) (Nat.le_succ _) hd rfl
  refine ⟨_, run_beginRound hl2 (by rw [hrc]), ?_⟩
  obtain ⟨V, hV⟩ : ∃ V, V = Y.putObj (w.heap.size + 1) (.loop { rc .ready none with state := .busy }) := ⟨_, rfl⟩
  rw [← hV]
  have hnl : ¬ O (w.heap.size + 1) := fun h => by have := hO _ h; omega
  have vl : V.heap[w.heap.size + 1]? = some (.loop { rc .ready none with state := .busy }) := by rw [hV]; exact World.putObj_heap_same (Array.getElem?_eq_some_iff.1 hl2).1
  have vd : V.heap[w.heap.size]? = some (.deferred (some [])) := by rw [hV]; exact (World.putObj_heap_other (by omega)).trans hd2
  have vi : I pre O V := by rw [hV]; exact hIo pre O Y _ _ _ hi2 (Nat.le_succ _) (Nat.le_refl _) hl2 rfl
  have vk : Keep (fun i => i = w.heap.size + 1) Y V := by rw [hV]; exact keep_putObj _ _ _ rfl
  have vm : Keep (fun i => M i ∧ ¬ O i) Y V := by rw [hV]; exact keep_putObj _ _ _ ⟨hM _ (Nat.le_succ _) (Nat.le_refl _), hnl⟩
  refine wpIn_mono (hb V ⟨_, vl⟩ vk vi) fun e a3 U hu => ?_
  cases e with
  | normal =>
   obtain ⟨h1, h2, h3⟩ := hu
   obtain ⟨e1, e2, e3, o, e4, e5⟩ := round_end2 (P := P) (r' := rc .ready none) none vl vd h1 (by rw [hrc]; rfl)
   exact ⟨_, _, e1, true, rfl, ⟨hO, e2, hIo _ O U _ _ _ h3 (Nat.le_succ _) (Nat.le_refl _) e4 e5, by rw [hrc] at e3 ⊢; exact e3⟩, ((hm.trans vm).trans h2).trans (keep_putObj _ _ _ ⟨hM _ (Nat.le_succ _) (Nat.le_refl _), hnl⟩)⟩
  | ret =>
   obtain ⟨h1, h2, h3⟩ := hu
   obtain ⟨e1, e2, e3, o, e4, e5⟩ := round_end2 (P := P) (r' := rc .done (some .ret)) (some .ret) vl vd h1 (by rw [hrc]; rfl)
   exact ⟨_, _, e1, false, rfl, ⟨hO, e2, _, hXo _ _ O U _ _ _ h3 (Nat.le_succ _) (Nat.le_refl _) e4 e5, by rw [hrc] at e3 ⊢; exact e3⟩, ((hm.trans vm).trans h2).trans (keep_putObj _ _ _ ⟨hM _ (Nat.le_succ _) (Nat.le_refl _), hnl⟩)⟩
  | exit i =>
   obtain ⟨h1, h2, h3⟩ := hu
   obtain ⟨e1, e2, e3, o, e4, e5⟩ := round_end2 (P := P) (r' := rc .done (some (.exit i))) (some (.exit i)) vl vd h1 (by rw [hrc]; rfl)
   exact ⟨_, _, e1, false, rfl, ⟨hO, e2, _, hXo _ _ O U _ _ _ h3 (Nat.le_succ _) (Nat.le_refl _) e4 e5, by rw [hrc] at e3 ⊢; exact e3⟩, ((hm.trans vm).trans h2).trans (keep_putObj _ _ _ ⟨hM _ (Nat.le_succ _) (Nat.le_refl _), hnl⟩)⟩
  | goto t =>
   obtain ⟨h1, h2, h3⟩ := hu
   obtain ⟨e1, e2, e3, o, e4, e5⟩ := round_end2 (P := P) (r' := rc .done (some (.goto t))) (some (.goto t)) vl vd h1 (by rw [hrc]; rfl)
   exact ⟨_, _, e1, false, rfl, ⟨hO, e2, _, hXo _ _ O U _ _ _ h3 (Nat.le_succ _) (Nat.le_refl _) e4 e5, by rw [hrc] at e3 ⊢; exact e3⟩, ((hm.trans vm).trans h2).trans (keep_putObj _ _ _ ⟨hM _ (Nat.le_succ _) (Nat.le_refl _), hnl⟩)⟩
  | panic _ => exact hu.elim
  | outgrown => exact hu.elim
 ·rintro e Y ⟨⟨v, rfl⟩, O, ⟨_, hd, hi, hl⟩ | ⟨pre, hp, _, hd, c, hi, hl⟩⟩
  ·have := run_endLoop (P := P) hl (by rw [hrc]; simp)
   rw [show (rc .ready none).pending = none by rw [hrc]] at this
   exact ⟨_, _, this, hdone _ O _ rfl (hIo _ O Y _ _ _ hi (Nat.le_succ _) (Nat.le_refl _) hl rfl) ((World.putObj_heap_other (by omega)).trans hd)⟩
  ·have := run_endLoop (P := P) hl (by rw [hrc]; simp)
   rw [show (rc .done (some c)).pending = some c by rw [hrc]] at this
   exact ⟨_, _, this, hstop _ c pre O _ rfl hp (hXo c _ O Y _ _ _ hi (Nat.le_succ _) (Nat.le_refl _) hl rfl) ((World.putObj_heap_other (by omega)).trans hd)⟩
end
section
open Go.RowKit
def SeqH {α : Type} (P : Program) (g : FuncId) (lb : Array Value) (E : α → Array Value → (Nat → Prop) → (Nat → Prop) → World → Prop) (M : Nat → Prop) (xs : List α) (w : World) : Prop :=
 ∀ (n l : Nat) (J : Bool → List α → (Nat → Prop) → World → Prop) (W : World), Below w.heap.size w W → (∀ b s, BearsW (J b s)) →
  (∀ pre x O H args X, J true pre (fun i => O i ∨ H i) X → (∀ i, O i ∨ H i → W.heap.size ≤ i ∧ i < X.heap.size) → pre ++ [x] <+: xs → E x args O H X → YieldAt Fence.wide (n - 1) P l args X fun e Y => ∃ b, e = .returned (.bool b) ∧ J b (pre ++ [x]) O Y ∧ Keep (fun i => M i ∧ ¬ O i) X Y) →
  J true [] (fun _ => False) W →
  CallsIn Fence.wide n P g (#[.func (.yield l) #[] #[]] ++ lb) W fun e Y => (∃ v, e = .returned v) ∧ ∃ O, J true xs O Y ∨ ∃ pre, pre <+: xs ∧ J false pre O Y
theorem wpIn_rangeH {α : Type} {P : Program} {n : Nat} {g : Operand} {ps : Array Tmp} {assign body : Code} {Q : Exit → Act → World → Prop} {a : Act} {w : World}
  {gf : Nat} {lb : Array Value} (hg : a.eval g = .func (.func gf) #[] lb) (eg : ∀ args w, (callFunc gf args).run P w = .ok (.enter gf args) w)
  {E : α → Array Value → (Nat → Prop) → (Nat → Prop) → World → Prop} {M : Nat → Prop} {xs : List α} (hseq : SeqH P gf lb E M xs w) (hM : ∀ i, w.heap.size ≤ i → i ≤ w.heap.size + 1 → M i) (hps : ∀ x args O H X, E x args O H X → args.size = ps.size)
  (I : List α → (Nat → Prop) → World → Prop) (Ix : Code → List α → (Nat → Prop) → World → Prop) (hI : ∀ s, BearsB w.heap.size (I s)) (hIo : ∀ s O, BearsL w.heap.size (I s O)) (hX : ∀ c s, BearsB w.heap.size (Ix c s)) (hXo : ∀ c s O, BearsL w.heap.size (Ix c s O)) (h0 : ∀ X, Below w.heap.size w X → I [] (fun _ => False) X)
  (hround : ∀ (l : Nat) (pre : List α) (x : α) (O H : Nat → Prop) (args : Array Value) (X : World), l = w.heap.size + 1 → (∃ r, X.heap[l]? = some (.loop r)) → I pre (fun i => O i ∨ H i) X → (∀ i, O i ∨ H i → w.heap.size + 2 ≤ i ∧ i < X.heap.size) → pre ++ [x] <+: xs → E x args O H X →
   assign.wpIn (Fence.wide.inRound l) (n - 1 - 1) P (Exit.then (fun a' Y => Keeps2 w.heap.size X Y ∧ Keep (fun i => M i ∧ ¬ O i) X Y ∧ I pre (fun i => O i ∨ H i) Y ∧ ∀ V, (∃ r, V.heap[l]? = some (.loop r)) → Keep (fun i => i = w.heap.size + 1) Y V → I pre (fun i => O i ∨ H i) V →
    body.wpIn (Fence.wide.inRound l) (n - 1 - 1) P (endO w.heap.size M O I Ix (pre ++ [x]) V) a' V) (fun _ _ _ => False)) { tmps := (ps.zip args).foldl (fun t (p, v) => t.setIfInBounds p v) a.tmps, defers := [] } X)
  (hdone : ∀ (D : Nat) (O : Nat → Prop) (X : World), D = w.heap.size → I xs O X → X.heap[D]? = some (.deferred (some [])) → Q .normal { a with defers := { target := .collected D, args := #[] } :: a.defers } X)
  (hstop : ∀ (D : Nat) (c : Code) (pre : List α) (O : Nat → Prop) (X : World), D = w.heap.size → pre <+: xs → Ix c pre O X → X.heap[D]? = some (.deferred (some [])) →
   c.wpIn Fence.wide n P Q { a with defers := { target := .collected D, args := #[] } :: a.defers } X) :
  (Code.rangeFunc g ps assign body).wpIn Fence.wide n P Q a w := by
 refine wpIn_rangeFunc fun fn hfn => ?_
 obtain ⟨rc, hrc⟩ : ∃ rc : LoopState → Option Code → Loop, rc = fun st pe => { state := st, pending := pe, fn, tmps := a.tmps, params := ps, assign, body, defers := w.heap.size } := ⟨_, rfl⟩
 obtain ⟨Z, hZ⟩ : ∃ Z, Z = (w.alloc (.deferred (some []))).alloc (.loop (rc .ready none)) := ⟨_, rfl⟩
 have zl : Z.heap[w.heap.size + 1]? = some (.loop (rc .ready none)) := by
  have := World.alloc_heap_new (w.alloc (.deferred (some []))) (.loop (rc .ready none))
  rwa [World.size_alloc, ← hZ] at this
 have zd : Z.heap[w.heap.size]? = some (.deferred (some [])) := by
  rw [hZ]
  exact (Below.heap_alloc _ _ _ (by simp)).trans (World.alloc_heap_new w _)
 have zs : Z.heap.size = w.heap.size + 2 := by rw [hZ]; simp
 have zb : Below w.heap.size w Z := by rw [hZ]; exact ((Below.refl _ w).alloc (Nat.le_refl _) _).alloc (by simp) _
 have ent := run_enterLoop_outer (P := P) (w := w) fn a.tmps ps assign body
 have hZ2 : (w.alloc (.deferred (some []))).alloc (.loop { state := .ready, pending := none, fn, tmps := a.tmps, params := ps, assign, body, defers := w.heap.size }) = Z := by rw [hZ, hrc]
 rw [hZ2] at ent
 refine ⟨_, _, Z, { target := .fn (.func gf) lb, args := #[.func (.yield (w.heap.size + 1)) #[] #[]] }, Z, gf, _, Z, ent, ?_, fun _ _ => trivial, ?_, (fun h => by cases h), (hseq (n - 1) (w.heap.size + 1) (JO w.heap.size rc I Ix) Z zb ?_ ?_ ⟨fun _ h => h.elim, zd, h0 Z zb, zl⟩).mono ?_⟩
 ·simp only [resolve, hg]
  simp [go_sem]
 ·simp [invoke, go_sem, eg]
 ·rintro b s O X Y O' ⟨hO, hd, h⟩ hk ho
  have hnD : ¬ O w.heap.size := fun h => by have := hO _ h; omega
  have hnl : ¬ O (w.heap.size + 1) := fun h => by have := hO _ h; omega
  have hsz : w.heap.size + 2 ≤ X.heap.size := by
   cases b with
   | true => have := (Array.getElem?_eq_some_iff.1 h.2).1; omega
   | false => obtain ⟨c, _, h2⟩ := h; have := (Array.getElem?_eq_some_iff.1 h2).1; omega
  refine ⟨fun i hi => (ho i hi).elim (hO i) fun h => by omega, hk.heap hd hnD, ?_⟩
  cases b with
  | true => exact ⟨hI s O X Y O' h.1 hO hsz hk ho, hk.heap h.2 hnl⟩
  | false =>
   obtain ⟨c, h1, h2⟩ := h
   exact ⟨c, hX c s O X Y O' h1 hO hsz hk ho, hk.heap h2 hnl⟩
 ·rintro pre x O H args X ⟨hOH, hd, hi, hl⟩ hOX hp hE
  have hO : ∀ i, O i → w.heap.size + 2 ≤ i := fun i h => hOH i (.inl h)
  rw [zs] at hOX
  refine ⟨_, _, _, _, run_yield hl (by rw [hrc]; exact hps x args O H X hE), roundIn_of_wpIn (by rw [hrc]; exact hfn) ?_⟩
  rw [hrc]
  refine wpIn_mono (hround _ pre x O H args X rfl ⟨_, hl⟩ hi hOX hp hE) fun e a' Y h => ?_
  cases e with
  | ret => exact h.elim
  | exit _ => exact h.elim
  | goto _ => exact h.elim
  | panic _ => exact h.elim
  | outgrown => exact h.elim
  | normal =>
  obtain ⟨hf, hm, hi2, hb⟩ := h
  have hl2 := hf _ _ (Nat.le_succ _) (Nat.le_refl _) hl rfl
  have hd2 := hf _ _ (Nat.le_refl _) (Nat.le_succ _) hd rfl
  refine ⟨_, run_beginRound hl2 (by rw [hrc]), ?_⟩
  obtain ⟨V, hV⟩ : ∃ V, V = Y.putObj (w.heap.size + 1) (.loop { rc .ready none with state := .busy }) := ⟨_, rfl⟩
  rw [← hV]
  have hnl : ¬ O (w.heap.size + 1) := fun h => by have := hO _ h; omega
  have vl : V.heap[w.heap.size + 1]? = some (.loop { rc .ready none with state := .busy }) := by rw [hV]; exact World.putObj_heap_same (Array.getElem?_eq_some_iff.1 hl2).1
  have vd : V.heap[w.heap.size]? = some (.deferred (some [])) := by rw [hV]; exact (World.putObj_heap_other (by omega)).trans hd2
  have vi : I pre (fun i => O i ∨ H i) V := by rw [hV]; exact hIo pre _ Y _ _ _ hi2 (Nat.le_succ _) (Nat.le_refl _) hl2 rfl
  have vk : Keep (fun i => i = w.heap.size + 1) Y V := by rw [hV]; exact keep_putObj _ _ _ rfl
  have vm : Keep (fun i => M i ∧ ¬ O i) Y V := by rw [hV]; exact keep_putObj _ _ _ ⟨hM _ (Nat.le_succ _) (Nat.le_refl _), hnl⟩
  refine wpIn_mono (hb V ⟨_, vl⟩ vk vi) fun e a3 U hu => ?_
  cases e with
  | normal =>
   obtain ⟨h1, h2, h3⟩ := hu
   obtain ⟨e1, e2, e3, o, e4, e5⟩ := round_end2 (P := P) (r' := rc .ready none) none vl vd h1 (by rw [hrc]; rfl)
   exact ⟨_, _, e1, true, rfl, ⟨hO, e2, hIo _ O U _ _ _ h3 (Nat.le_succ _) (Nat.le_refl _) e4 e5, by rw [hrc] at e3 ⊢; exact e3⟩, ((hm.trans vm).trans h2).trans (keep_putObj _ _ _ ⟨hM _ (Nat.le_succ _) (Nat.le_refl _), hnl⟩)⟩
  | ret =>
   obtain ⟨h1, h2, h3⟩ := hu
   obtain ⟨e1, e2, e3, o, e4, e5⟩ := round_end2 (P := P) (r' := rc .done (some .ret)) (some .ret) vl vd h1 (by rw [hrc]; rfl)
   exact ⟨_, _, e1, false, rfl, ⟨hO, e2, _, hXo _ _ O U _ _ _ h3 (Nat.le_succ _) (Nat.le_refl _) e4 e5, by rw [hrc] at e3 ⊢; exact e3⟩, ((hm.trans vm).trans h2).trans (keep_putObj _ _ _ ⟨hM _ (Nat.le_succ _) (Nat.le_refl _), hnl⟩)⟩
  | exit i =>
   obtain ⟨h1, h2, h3⟩ := hu
   obtain ⟨e1, e2, e3, o, e4, e5⟩ := round_end2 (P := P) (r' := rc .done (some (.exit i))) (some (.exit i)) vl vd h1 (by rw [hrc]; rfl)
   exact ⟨_, _, e1, false, rfl, ⟨hO, e2, _, hXo _ _ O U _ _ _ h3 (Nat.le_succ _) (Nat.le_refl _) e4 e5, by rw [hrc] at e3 ⊢; exact e3⟩, ((hm.trans vm).trans h2).trans (keep_putObj _ _ _ ⟨hM _ (Nat.le_succ _) (Nat.le_refl _), hnl⟩)⟩
  | goto t =>
   obtain ⟨h1, h2, h3⟩ := hu
   obtain ⟨e1, e2, e3, o, e4, e5⟩ := round_end2 (P := P) (r' := rc .done (some (.goto t))) (some (.goto t)) vl vd h1 (by rw [hrc]; rfl)
   exact ⟨_, _, e1, false, rfl, ⟨hO, e2, _, hXo _ _ O U _ _ _ h3 (Nat.le_succ _) (Nat.le_refl _) e4 e5, by rw [hrc] at e3 ⊢; exact e3⟩, ((hm.trans vm).trans h2).trans (keep_putObj _ _ _ ⟨hM _ (Nat.le_succ _) (Nat.le_refl _), hnl⟩)⟩
  | panic _ => exact hu.elim
  | outgrown => exact hu.elim
 ·rintro e Y ⟨⟨v, rfl⟩, O, ⟨_, hd, hi, hl⟩ | ⟨pre, hp, _, hd, c, hi, hl⟩⟩
  ·have := run_endLoop (P := P) hl (by rw [hrc]; simp)
   rw [show (rc .ready none).pending = none by rw [hrc]] at this
   exact ⟨_, _, this, hdone _ O _ rfl (hIo _ O Y _ _ _ hi (Nat.le_succ _) (Nat.le_refl _) hl rfl) ((World.putObj_heap_other (by omega)).trans hd)⟩
  ·have := run_endLoop (P := P) hl (by rw [hrc]; simp)
   rw [show (rc .done (some c)).pending = some c by rw [hrc]] at this
   exact ⟨_, _, this, hstop _ c pre O _ rfl hp (hXo c _ O Y _ _ _ hi (Nat.le_succ _) (Nat.le_refl _) hl rfl) ((World.putObj_heap_other (by omega)).trans hd)⟩
end
section
open Go.RowKit
theorem row11_other {w w' : World} {B : Nat} {e : TypeId} {size : Nat} {v : Value} {n : Nat} {xs : List Value} (h : w.ownsRow B e size v n xs) (hb : ∀ g cs, v.ownBlock = some g → w.heap[g]? = some (.cells cs e (0, 0)) → w'.heap[g]? = some (.cells cs e (0, 0))) : w'.ownsRow B e size v n xs := by
 obtain ⟨h0, h | ⟨g, cap, cur, rfl, hg, hh, hr⟩⟩ := h
 ·exact ⟨h0, .inl h⟩
 ·exact ⟨h0, .inr ⟨g, cap, cur, rfl, hg, hb g cur rfl hh, hr⟩⟩
theorem row11_lt {w : World} {B : Nat} {e : TypeId} {size : Nat} {v : Value} {n : Nat} {xs : List Value} (h : w.ownsRow B e size v n xs) : ∀ g, v.ownBlock = some g → B ≤ g ∧ ∃ cs, w.heap[g]? = some (.cells cs e (0, 0)) := fun g hg => by
 obtain ⟨_, h | ⟨g', cap, cur, rfl, hg', hh, _⟩⟩ := h
 ·obtain ⟨rfl, _⟩ := h; simp [Value.ownBlock] at hg
 ·simp [Value.ownBlock] at hg; subst hg; exact ⟨hg', cur, hh⟩
theorem row11_keep {w w' : World} {B : Nat} {e : TypeId} {size : Nat} {v : Value} {n : Nat} {xs : List Value} {L : Nat → Prop} (h : w.ownsRow B e size v n xs) (hk : Keep L w w') (hL : ∀ g, v.ownBlock = some g → ¬ L g) : w'.ownsRow B e size v n xs := row11_other h fun g _ hg hh => hk.heap hh (hL g hg)
theorem row11_low {w : World} {B B' : Nat} {e : TypeId} {size : Nat} {v : Value} {n : Nat} {xs : List Value} (h : w.ownsRow B e size v n xs) (hB : B' ≤ B) : w.ownsRow B' e size v n xs := by
 obtain ⟨h0, h | ⟨g, cap, cur, rfl, hg, hr⟩⟩ := h
 ·exact ⟨h0, .inl h⟩
 ·exact ⟨h0, .inr ⟨g, cap, cur, rfl, by omega, hr⟩⟩
structure Grown11 (v v' : Value) (w w' : World) : Prop where
 by_ : w.grownBy w' v.ownBlock
 blk : v'.ownBlock = v.ownBlock ∨ v'.ownBlock = some w.heap.size
theorem Grown11.keep {v v' : Value} {w w' : World} (h : Grown11 v v' w w') : Keep (fun i => v.ownBlock = some i) w w' := ⟨h.by_.os, h.by_.tape, h.by_.output, h.by_.size, fun i hi hl => h.by_.block i hi fun e => hl e.symm⟩
end
section
open Go.RowKit
def LtB (a b : List UInt8) : Prop := ∃ i : Nat, i < 256 ∧ (∀ j : Nat, j < i → bitK a j = bitK b j) ∧ bitK a i = 0 ∧ bitK b i = 1
theorem LtB.com {a b : List UInt8} (h : LtB a b) : comK a b < 256 ∧ bitK a (comK a b : Nat) = 0 ∧ bitK b (comK a b : Nat) = 1 := by
 obtain ⟨i, hi, he, h0, h1⟩ := h
 have h2 := (com_bits (a := a) (b := b) (i := i) (by omega)).2 he
 have h3 : ¬ i + 1 ≤ comK a b := fun h => by
  have := (com_bits (a := a) (b := b) (i := i + 1) (by omega)).1 h i (by omega)
  omega
 have h4 : comK a b = i := by omega
 rw [h4]
 exact ⟨hi, h0, h1⟩
theorem cmpK_com {a b : List UInt8} (h : comK a b < 256) : cmpK a b = bitK a (comK a b : Nat) - bitK b (comK a b : Nat) := by
 rw [bitK_in a (by omega) (by omega), bitK_in b (by omega) (by omega), Int.toNat_natCast]
 exact Bt.cmp_bit (keyF_byt _) (keyF_byt _) h
theorem LtB.cmp {a b : List UInt8} (h : LtB a b) : cmpK a b < 0 := by
 obtain ⟨h1, h2, h3⟩ := h.com
 rw [cmpK_com h1, h2, h3]
 decide
theorem cmpK_self (a : List UInt8) : cmpK a a = 0 := Bt.cmp_eq fun _ _ => rfl
theorem LtB.of {a b : List UInt8} (ha : a.length = 32) (hb : b.length = 32) (h : cmpK a b < 0) : LtB a b := by
 have hne : a ≠ b := fun e => by rw [e, cmpK_self] at h; omega
 have hc := com_lt ha hb hne
 have h1 := cmpK_com hc
 have h2 := bitK_01 a (comK a b) hc
 have h3 := bitK_01 b (comK a b) hc
 exact ⟨comK a b, hc, (com_bits (a := a) (b := b) (i := comK a b) (by omega)).1 (Nat.le_refl _), by omega, by omega⟩
theorem LtB.or {a b : List UInt8} (ha : a.length = 32) (hb : b.length = 32) (hne : a ≠ b) (h : ¬ cmpK a b < 0) : LtB b a := by
 have hc := com_lt ha hb hne
 have h1 := cmpK_com hc
 have h2 := bitK_01 a (comK a b) hc
 have h3 := bitK_01 b (comK a b) hc
 have h4 := com_differ hc
 exact ⟨comK a b, hc, fun j hj => ((com_bits (a := a) (b := b) (i := comK a b) (by omega)).1 (Nat.le_refl _) j hj).symm, by omega, by omega⟩
theorem LtB.trans {a b c : List UInt8} (h : LtB a b) (k : LtB b c) : LtB a c := by
 obtain ⟨i, hi, he, h0, h1⟩ := h
 obtain ⟨j, hj, hf, k0, k1⟩ := k
 rcases Nat.lt_trichotomy i j with hlt | rfl | hlt
 ·exact ⟨i, hi, fun m hm => (he m hm).trans (hf m (by omega)), h0, by rw [← hf i hlt]; exact h1⟩
 ·omega
 ·exact ⟨j, hj, fun m hm => (he m (by omega)).trans (hf m hm), by rw [he j hlt]; exact k0, k1⟩
def Asc (l : List Ent) : Prop := l.Pairwise fun a b => LtB a.k b.k
theorem insK_mem10 {e x : Ent} {l : List Ent} (h : x ∈ insK e l) : x = e ∨ x ∈ l := by
 have := (insK_perm e l).mem_iff.1 h
 exact List.mem_cons.1 this
theorem insK_asc {e : Ent} (he : e.k.length = 32) : ∀ {l : List Ent}, Asc l → (∀ x ∈ l, x.k.length = 32 ∧ x.k ≠ e.k) → Asc (insK e l)
 | [], _, _ => List.pairwise_singleton _ _
 | x :: r, h, hx => by
  obtain ⟨h1, h2⟩ := List.pairwise_cons.1 h
  obtain ⟨hl, hne⟩ := hx x (by simp)
  show Asc (if cmpK e.k x.k < 0 then e :: x :: r else x :: insK e r)
  split
  ·rename_i hc
   have hlt := LtB.of he hl hc
   refine List.pairwise_cons.2 ⟨fun y hy => ?_, h⟩
   rcases List.mem_cons.1 hy with rfl | hy
   ·exact hlt
   ·exact hlt.trans (h1 y hy)
  ·rename_i hc
   refine List.pairwise_cons.2 ⟨fun y hy => ?_, insK_asc he h2 fun z hz => hx z (by simp [hz])⟩
   rcases insK_mem10 hy with rfl | hy
   ·exact LtB.or he hl (Ne.symm hne) hc
   ·exact h1 y hy
theorem putK_asc {l : List Ent} {e : Ent} (he : e.k.length = 32) (h : Asc l) (hl : ∀ x ∈ l, x.k.length = 32) : Asc (putK l e) :=
 insK_asc he (h.filter _) fun x hx => ⟨hl x (List.mem_filter.1 hx).1, fun hk => by
  have := (List.mem_filter.1 hx).2
  simp [hk] at this⟩
def entsT : Tr → List Ent
 | .nil => []
 | .leaf e => [e]
 | .inner a b => entsT a ++ entsT b
theorem entsT_join : ∀ (s t : Tr), entsT (joinT s t) = entsT s ++ entsT t
 | .nil, .nil => rfl
 | .nil, .leaf _ => rfl
 | .leaf _, .nil => rfl
 | .nil, .inner _ _ => rfl
 | .leaf _, .leaf _ => rfl
 | .leaf _, .inner _ _ => rfl
 | .inner _ _, .nil => rfl
 | .inner _ _, .leaf _ => rfl
 | .inner _ _, .inner _ _ => rfl
theorem part_app {d : Int} (h0 : 0 ≤ d) (h1 : d < 256) : ∀ {l : List Ent}, Sep d l → Asc l → partK l d 0 ++ partK l d 1 = l
 | [], _, _ => rfl
 | x :: r, hs, ha => by
  obtain ⟨a1, a2⟩ := List.pairwise_cons.1 ha
  have hs2 : Sep d r := ⟨fun a h => hs.len a (by simp [h]), (List.pairwise_cons.1 hs.ne).2, fun a ha b hb => hs.eq a (by simp [ha]) b (by simp [hb])⟩
  obtain ⟨q, rfl⟩ : ∃ q : Nat, d = (q : Int) := ⟨d.toNat, by omega⟩
  have hb := bitK_01 x.k q (by omega)
  by_cases hz : bitK x.k q = 0
  ·have ih := part_app h0 h1 hs2 a2
   rw [show partK (x :: r) q 0 = x :: partK r q 0 by simp [partK, hz], show partK (x :: r) q 1 = partK r q 1 by simp [partK, hz], List.cons_append, ih]
  ·have hz1 : bitK x.k q = 1 := by omega
   have hall : ∀ y ∈ r, bitK y.k q = 1 := fun y hy => by
    obtain ⟨i, hi, he, b0, b1⟩ := a1 y hy
    rcases Nat.lt_trichotomy i q with hlt | rfl | hlt
    ·have := hs.eq x (by simp) y (by simp [hy]) i (by omega) hi
     rw [bitK_in x.k (by omega) (by omega), Int.toNat_natCast] at b0
     rw [bitK_in y.k (by omega) (by omega), Int.toNat_natCast] at b1
     omega
    ·omega
    ·rw [← he q hlt]; exact hz1
   have e0 : partK (x :: r) q 0 = [] := List.filter_eq_nil_iff.2 fun y hy => by
    rcases List.mem_cons.1 hy with rfl | hy
    ·simp [hz1]
    ·simp [hall y hy]
   have e1 : partK (x :: r) q 1 = x :: r := List.filter_eq_self.2 fun y hy => by
    rcases List.mem_cons.1 hy with rfl | hy
    ·simp [hz1]
    ·simp [hall y hy]
   rw [e0, e1, List.nil_append]
theorem growT_ents : ∀ (f : Nat) (l : List Ent) (d : Int), Sep d l → Asc l → Deep f d l.length → entsT (growT f l d) = l := by
 have few : ∀ (f : Nat) (l : List Ent) (d : Int), l.length ≤ 1 → entsT (growT f l d) = l := by
  intro f l d hl
  match l, hl with
  | [], _ => rw [growT_none]; rfl
  | [e], _ => rw [growT_one]; rfl
 intro f
 induction f with
 | zero =>
  intro l d _ _ hd
  exact few 0 l d (by rcases hd with h | ⟨h0, h1, h2⟩ <;> omega)
 | succ f ih =>
  intro l d hs ha hd
  rcases Nat.lt_or_ge l.length 2 with hl | hl
  ·exact few (f + 1) l d (by omega)
  ·have h256 := hs.two hl
   obtain ⟨h0, h2⟩ : 0 ≤ d ∧ 256 < d + (f + 1 : Nat) := by
    rcases hd with h | ⟨h0, h1, h2⟩
    ·omega
    ·exact ⟨h0, h2⟩
   rw [growT_two f l d hl, entsT_join, ih _ _ (hs.part h0 h256 0) (ha.filter _) (.inr ⟨by omega, by omega, by omega⟩), ih _ _ (hs.part h0 h256 1) (ha.filter _) (.inr ⟨by omega, by omega, by omega⟩)]
   exact part_app h0 h256 hs ha
theorem IsMap.ents {l : List Ent} {T : Tv} (h : IsMap l T) (ha : Asc l) : entsT T.tr = l := by
 rw [h.tr]
 exact growT_ents 257 l 0 h.sep ha (.inr ⟨by omega, by omega, by omega⟩)
end
section
open Go.RowKit
def EntE (x : Ent) (args : Array Value) (X : World) : Prop := x.k.length = 32 ∧ ∃ (A : Option Addr) (c : Nat), args = #[.agg (bA x.k), .slice A x.v.length c] ∧ BA X A x.v ∧ x.v.length ≤ c
def IS (w : World) (A : Option Addr) (l : List Nat) : Prop := ∀ (i x : Nat), l[i]? = some x → ∃ g o, A = some ⟨g, o, none⟩ ∧ w.cell? ⟨g, o + i, none⟩ = some (.int .i64 (x : Int))
theorem IS.below {w w' : World} {A : Option Addr} {l : List Nat} (h : IS w A l) (hb : Below w.heap.size w w') : IS w' A l := fun i x hi => by
 obtain ⟨g, o, h1, h2⟩ := h i x hi
 exact ⟨g, o, h1, by rw [hb.cell (lt_of_cell h2)]; exact h2⟩
structure WkV (M : World → Int → Tv → Prop) : Prop where
 all : ∀ (w0 w : World) (n : Int) (T : Tv) (l : List Ent), M w0 n T → Below w0.heap.size w0 w → IsMap l T → Asc l → l.length ≤ 100 →
  Calls Tryz.prog 71 #[T.val] w fun e w' => ∃ (gf : Nat) (lb : Array Value) (O0 : Nat → Prop), e = .returned (.func (.func gf) #[] lb) ∧ Below w.heap.size w w' ∧ (∀ i, O0 i → w.heap.size ≤ i ∧ i < w'.heap.size) ∧
   (∀ args w, (callFunc gf args).run Tryz.prog w = .ok (.enter gf args) w) ∧ ∀ Z, Keep (fun i => w0.heap.size ≤ i ∧ ¬ O0 i) w' Z → SeqO Tryz.prog gf lb EntE (fun i => w0.heap.size ≤ i ∧ ¬ O0 i) l Z
 entries : ∀ (w : World) (n : Int) (T : Tv) (l : List Ent), M w n T → IsMap l T → Asc l → l.length ≤ 100 →
  Calls Tryz.prog 45 #[T.val] w fun e w' => ∃ (A : Option Addr) (c : Nat) (es : List En), e = .returned (.slice A es.length c) ∧ EA w' A es ∧ es.map En.ent = l ∧ Below w.heap.size w w'
end
section
open Go.RowKit
def leavesI : Tv → Nat → List (Nat × Tv)
 | .nil, _ => []
 | .leaf v e, d => [(d, .leaf v e)]
 | .inner _ a b, d => leavesI a (d + 1) ++ leavesI b (d + 1)
theorem leavesI_ents : ∀ (T : Tv) (d : Nat), (leavesI T d).map (fun x => entT x.2.tr) = entsT T.tr
 | .nil, _ => rfl
 | .leaf _ _, _ => rfl
 | .inner _ a b, d => by
  show ((leavesI a (d + 1) ++ leavesI b (d + 1)).map _) = entsT a.tr ++ entsT b.tr
  rw [List.map_append, leavesI_ents a, leavesI_ents b]
theorem leavesI_leaf : ∀ (T : Tv) (d : Nat) (x : Nat × Tv), x ∈ leavesI T d → ∃ v e, x.2 = .leaf v e
 | .nil, _, x, h => by cases h
 | .leaf v e, d, x, h => by rw [show x = (d, .leaf v e) from List.mem_singleton.1 h]; exact ⟨v, e, rfl⟩
 | .inner _ a b, d, x, h => (List.mem_append.1 h).elim (leavesI_leaf a (d + 1) x) (leavesI_leaf b (d + 1) x)
theorem leavesI_ms {M : World → Int → Tv → Prop} (nd : NdV M) {w : World} {n : Int} : ∀ (T : Tv) (d : Nat), M w n T → ∀ x ∈ leavesI T d, M w n x.2
 | .nil, _, _, x, h => by cases h
 | .leaf v e, d, hM, x, h => by rw [show x = (d, .leaf v e) from List.mem_singleton.1 h]; exact hM
 | .inner _ a b, d, hM, x, h => by
  obtain ⟨ha, hb⟩ := nd.kids hM
  exact (List.mem_append.1 h).elim (leavesI_ms nd a (d + 1) ha x) (leavesI_ms nd b (d + 1) hb x)
theorem leaves_ents {l : List Ent} {T : Tv} (h : IsMap l T) (ha : Asc l) : (leavesI T 0).map (fun x => entT x.2.tr) = l := (leavesI_ents T 0).trans (h.ents ha)
end
section
open Go.RowKit
theorem EA.take {w : World} {A : Option Addr} {es : List En} (h : EA w A es) (n : Nat) : EA w A (es.take n) := fun i e hi => h i e (by
 rw [List.getElem?_take] at hi
 split at hi
 ·exact hi
 ·cases hi)
theorem stK11 {w : World} {k : List UInt8} (hk : k.length = 32) :
  stA 40 (w.alloc (.cells (Bt.kc Bt.kz) 40)) (.pointer (some ⟨w.heap.size, 0, none⟩)) (.agg (bA k)) = .ok .skip (w.alloc (.cells (bA k) 40)) :=
 stA_new w _ _ (by rw [bA_size, hk]; exact infoKey) (by rw [show Bt.kc Bt.kz = bA z26 by kernel_rfl, bA_size, bA_size, hk]; rfl) (by
  unfold bA
  rw [List.all_toArray, List.all_eq_true]
  intro u hu
  obtain ⟨y, _, rfl⟩ := List.mem_map.1 hu
  exact bv_one y)
@[go_sem ↓] theorem semAt_storeKey (ro : Option Nat) (ρ : Operand → Value) (dst : Option Tmp) (x y : Operand) (type : TypeId) (pos : String) (after : Array Edge) (guard : Option (Nat × Bool)) (w : World) :
  Sem.run Tryz.prog (Oper.semAt ro ρ { dst, op := .store 40 x y, type, pos, after, guard }) w = stA 40 w (ρ x) (ρ y) := by cases ro <;> rfl
theorem BA.loop {X Y : World} {A : Option Addr} {l : List UInt8} {d : Nat} {r : Loop} (h : BA X A l) (hd : X.heap[d]? = some (.loop r)) (hk : Keep (fun i => i = d) X Y) : BA Y A l := fun j x hj => by
 obtain ⟨b, o, hA, hc⟩ := h j x hj
 refine ⟨b, o, hA, hk.cellAt hc fun e => ?_⟩
 have e2 : b = d := e
 subst e2
 simp [World.cell?, hd] at hc
end
section
open Go.RowKit
attribute [local go_sem] Oper.semAt_some
def EL (x : Nat × Tv) (args : Array Value) (_ : World) : Prop := args = #[.int .i64 (x.1 : Int), x.2.val]
theorem RoundIn.any {P : Program} {n m l l' : Nat} {f : FuncId} {tmps : Array Value} {assign body : Code} {w : World} {R : Ending → World → Prop} (h : RoundIn Fence.wide n P l f tmps assign body w R) : RoundIn (Fence.wide.inRound l') m P l f tmps assign body w R :=
 ⟨trivial, fun c cs _ => h.2 c cs (room_wide _)⟩
theorem leaves_c (p : Option Addr) (d : Int) (w : World) : Calls Tryz.prog 104 #[.pointer p, .int .i64 d] w fun e w' => e = .returned (.func (.func 140) #[] #[.pointer (some ⟨w.heap.size, 0, none⟩), .pointer (some ⟨w.heap.size + 1, 0, none⟩)]) ∧ w' = (w.alloc (.cells #[.pointer p] 62)).alloc (.cells #[.int .i64 d] 3) := by
 go_enter Tryz.func104, Tryz.ntmps104
 go_wp2_with fail
 go_ret
 exact ⟨rfl, rfl⟩
structure Lv (w0 : World) (s q : Nat) (T : Tv) (d : Nat) (X : World) : Prop where
 bel : Below w0.heap.size w0 X
 st : X.heap[s]? = some (.cells #[T.val] 62 (0, 0))
 dp : X.heap[q]? = some (.cells #[.int .i64 (d : Int)] 3 (0, 0))
theorem Lv.below {w0 : World} {s q : Nat} {T : Tv} {d : Nat} {X Y : World} (h : Lv w0 s q T d X) (hb : Below X.heap.size X Y) : Lv w0 s q T d Y :=
 ⟨h.bel.trans (hb.mono h.bel.size), by rw [hb.block _ (lt_of_heap h.st)]; exact h.st, by rw [hb.block _ (lt_of_heap h.dp)]; exact h.dp⟩
theorem Lv.keep {w0 : World} {s q : Nat} {T : Tv} {d : Nat} {X Y : World} {L : Nat → Prop} (h : Lv w0 s q T d X) (hk : Keep L X Y) (hL : ∀ i, L i → w0.heap.size ≤ i ∧ i ≠ s ∧ i ≠ q) : Lv w0 s q T d Y :=
 ⟨h.bel.trans (hk.below h.bel.size fun _ hi => (hL _ hi).1), hk.heap h.st fun h => (hL _ h).2.1 rfl, hk.heap h.dp fun h => (hL _ h).2.2 rfl⟩
def LvSeq (w0 : World) (T : Tv) : Prop := ∀ (d : Nat) (l : List Ent) (w : World) (s q : Nat), SubMap d l T → d ≤ 256 → Lv w0 s q T d w → SeqO Tryz.prog 140 #[.pointer (some ⟨s, 0, none⟩), .pointer (some ⟨q, 0, none⟩)] EL (fun i => w0.heap.size ≤ i ∧ i ≠ s ∧ i ≠ q) (leavesI T d) w
theorem lv_nil {M : World → Int → Tv → Prop} (nd : NdV M) (w0 : World) (n : Int) : LvSeq w0 .nil := by
 intro d l w s q hT hd hL n0 l0 J W hW hbear hround hJ0
 have hLW := hL.below hW
 have lc : W.cell? ⟨s, 0, none⟩ = some (.pointer none) := by rw [cell_of_cells hLW.st]; rfl
 obtain ⟨Y, hY⟩ : ∃ Y, Y = W.alloc (.cells #[.func (.yield l0) #[] #[]] 243) := ⟨_, rfl⟩
 have hbY : Below W.heap.size W Y := by rw [hY]; exact (Below.refl _ _).alloc (Nat.le_refl _) _
 have ly : Y.cell? ⟨s, 0, none⟩ = some (.pointer none) := by rw [cell_of_cells (hLW.below hbY).st]; rfl
 have HK := Lib.hid (nd.kind Y n .nil (nd.nil _ _))
 rw [show kindT Tv.nil.tr = 0 from rfl, show Tv.nil.val = .pointer none from rfl] at HK
 have HB := Lib.hid hbear
 have HJ := Lib.hid hJ0
 have HY := Lib.hid hY
 have HBY := Lib.hid hbY
 rw [hY] at ly
 clear hT hL hW hbear hround hJ0 hLW hY hbY
 refine callsIn_of_wp_marks Tryz.func140 rfl trivial ?_ rfl
 simp only [Tryz.ntmps140, List.size_toArray, List.length_cons, List.length_nil, Nat.reduceAdd, Nat.reduceSub, Array.replicate_succ, Array.replicate_zero, List.push_toArray, List.append_toArray, List.nil_append, List.cons_append]
 gi_wp2
 rw [← HY.out]
 refine ⟨trivial, fun h => (by cases h), (callsIn_wide.2 HK.out).mono ?_⟩
 rintro _ Y2 ⟨rfl, hB⟩
 have HB2 := Lib.hid (HBY.out.trans (hB.mono HBY.out.size))
 clear hB HK ly lc
 gi_wp2
 exact ⟨_, results_none rfl _ _ _, ⟨_, rfl⟩, fun _ => False, .inl (HB.out true [] _ W Y2 _ HJ.out (Keep.of_below HB2.out) fun i h => h.elim)⟩
theorem lv_leaf {M : World → Int → Tv → Prop} (nd : NdV M) (w0 : World) (n : Int) (v : Value) (x : Ent) (hM : M w0 n (.leaf v x)) : LvSeq w0 (.leaf v x) := by
 intro d l w s q hT hd hL n0 l0 J W hW hbear hround hJ0
 have hLW := hL.below hW
 obtain ⟨pT, hpT⟩ := val_ptr nd hM
 have lc : W.cell? ⟨s, 0, none⟩ = some (.pointer pT) := by rw [cell_of_cells hLW.st, hpT]; rfl
 obtain ⟨Y, hY⟩ : ∃ Y, Y = W.alloc (.cells #[.func (.yield l0) #[] #[]] 243) := ⟨_, rfl⟩
 have hbY : Below W.heap.size W Y := by rw [hY]; exact (Below.refl _ _).alloc (Nat.le_refl _) _
 have hyc : Y.heap[W.heap.size]? = some (.cells #[.func (.yield l0) #[] #[]] 243 (0, 0)) := by rw [hY]; exact heap_alloc_new W _
 have hLY := hLW.below hbY
 have ly : Y.cell? ⟨s, 0, none⟩ = some (.pointer pT) := by rw [cell_of_cells hLY.st, hpT]; rfl
 have HK := Lib.hid (nd.kind Y n _ (nd.below hM hLY.bel))
 rw [hpT, show kindT (Tv.leaf v x).tr = 1 from rfl] at HK
 have HB := Lib.hid hbear
 have HR := Lib.hid hround
 have HJ := Lib.hid hJ0
 have HY := Lib.hid hY
 have HBY := Lib.hid hbY
 have HYC := Lib.hid hyc
 have HLY := Lib.hid hLY
 have HPT := Lib.hid hpT
 rw [hY] at ly
 clear hT hL hW hbear hround hJ0 hLW hY hbY hyc hLY hpT
 refine callsIn_of_wp_marks Tryz.func140 rfl trivial ?_ rfl
 simp only [Tryz.ntmps140, List.size_toArray, List.length_cons, List.length_nil, Nat.reduceAdd, Nat.reduceSub, Array.replicate_succ, Array.replicate_zero, List.push_toArray, List.append_toArray, List.nil_append, List.cons_append]
 gi_wp2
 rw [← HY.out]
 refine ⟨trivial, fun h => (by cases h), (callsIn_wide.2 HK.out).mono ?_⟩
 rintro _ Y2 ⟨rfl, hB⟩
 have HB2 := Lib.hid (HBY.out.trans (hB.mono HBY.out.size))
 have hL2 := HLY.out.below hB
 have hy2 : Y2.heap[W.heap.size]? = some (.cells #[.func (.yield l0) #[] #[]] 243 (0, 0)) := by rw [hB.block _ (lt_of_heap HYC.out)]; exact HYC.out
 have l1 : Y2.cell? ⟨W.heap.size, 0, none⟩ = some (.func (.yield l0) #[] #[]) := by rw [cell_of_cells hy2]; rfl
 have l2 : Y2.cell? ⟨s, 0, none⟩ = some (.pointer pT) := by rw [cell_of_cells hL2.st, HPT.out]; rfl
 have l3 : Y2.cell? ⟨q, 0, none⟩ = some (.int .i64 (d : Int)) := by rw [cell_of_cells hL2.dp]; rfl
 have hJ2 := HB.out true [] (fun _ => False) W Y2 (fun i => W.heap.size ≤ i ∧ i < Y2.heap.size) HJ.out (Keep.of_below HB2.out) fun i h => .inr h.1
 obtain ⟨fn, tmps, assign, body, hy, hRD⟩ := HR.out [] (d, .leaf v x) _ _ Y2 hJ2 (fun i h => h) (by show [] ++ [_] <+: [_]; exact List.prefix_rfl) rfl
 dsimp only at hy
 rw [HPT.out] at hy
 have HRD := Lib.hid hRD
 clear hB HK ly lc hL2 hy2 hJ2 hRD
 gi_wp2
 refine ⟨fun h => (by cases h), HRD.out.mono ?_⟩
 rintro e W3 ⟨b, rfl, hJ3, _⟩
 have HJ3 := Lib.hid hJ3
 clear hJ3 HRD hy l1 l2 l3
 gi_wp2
 refine ⟨_, results_none rfl _ _ _, ⟨_, rfl⟩, fun i => W.heap.size ≤ i ∧ i < Y2.heap.size, ?_⟩
 cases b with
 | true => exact .inl HJ3.out
 | false => exact .inr ⟨_, List.prefix_rfl, HJ3.out⟩
end
section
open Go.RowKit
attribute [local go_sem] Oper.semAt_some
theorem lv_inner {M : World → Int → Tv → Prop} (nd : NdV M) (w0 : World) (n : Int) (v : Value) (a b : Tv) (hM : M w0 n (.inner v a b)) (iha : LvSeq w0 a) (ihb : LvSeq w0 b) : LvSeq w0 (.inner v a b) := by
 intro d l w s q hT hd hL n0 l0 J W hW hbear hround hJ0
 obtain ⟨h256, hTa, hTb⟩ := hT.inner hd
 obtain ⟨hMa, hMb⟩ := nd.kids hM
 have hLW := hL.below hW
 obtain ⟨pT, hpT⟩ := val_ptr nd hM
 obtain ⟨pa, hpa⟩ := val_ptr nd hMa
 obtain ⟨pb, hpb⟩ := val_ptr nd hMb
 have lc : W.cell? ⟨s, 0, none⟩ = some (.pointer pT) := by rw [cell_of_cells hLW.st, hpT]; rfl
 obtain ⟨Y, hY⟩ : ∃ Y, Y = W.alloc (.cells #[.func (.yield l0) #[] #[]] 243) := ⟨_, rfl⟩
 have hbY : Below W.heap.size W Y := by rw [hY]; exact (Below.refl _ _).alloc (Nat.le_refl _) _
 have hyc : Y.heap[W.heap.size]? = some (.cells #[.func (.yield l0) #[] #[]] 243 (0, 0)) := by rw [hY]; exact heap_alloc_new W _
 have hLY := hLW.below hbY
 have ly : Y.cell? ⟨s, 0, none⟩ = some (.pointer pT) := by rw [cell_of_cells hLY.st, hpT]; rfl
 have HK := Lib.hid (nd.kind Y n _ (nd.below hM hLY.bel))
 rw [hpT, show kindT (Tv.inner v a b).tr = 2 from rfl] at HK
 have HB := Lib.hid hbear
 have HR := Lib.hid hround
 have HJ := Lib.hid hJ0
 have HY := Lib.hid hY
 have HBY := Lib.hid hbY
 have HYC := Lib.hid hyc
 have HLY := Lib.hid hLY
 have HPT := Lib.hid hpT
 have HPA := Lib.hid hpa
 have HPB := Lib.hid hpb
 have HM := Lib.hid hM
 have HMA := Lib.hid hMa
 have HMB := Lib.hid hMb
 have HTA := Lib.hid hTa
 have HTB := Lib.hid hTb
 have HIA := Lib.hid iha
 have HIB := Lib.hid ihb
 have HXA := Lib.hid (leavesI_ms nd a (d + 1) hMa)
 have HXB := Lib.hid (leavesI_ms nd b (d + 1) hMb)
 have H256 := Lib.hid h256
 have HSW : Hid (s < W.heap.size ∧ q < W.heap.size ∧ w0.heap.size ≤ W.heap.size) := ⟨lt_of_heap hLW.st, lt_of_heap hLW.dp, hLW.bel.size⟩
 rw [hY] at ly
 clear hT hd hL hW hbear hround hJ0 hLW hY hbY hyc hLY hpT hpa hpb hM hMa hMb hTa hTb iha ihb h256
 refine callsIn_of_wp_marks Tryz.func140 rfl trivial ?_ rfl
 simp only [Tryz.ntmps140, List.size_toArray, List.length_cons, List.length_nil, Nat.reduceAdd, Nat.reduceSub, Array.replicate_succ, Array.replicate_zero, List.push_toArray, List.append_toArray, List.nil_append, List.cons_append]
 refine wpIn_wide.2 ?_
 go_wp2_with fail
 rw [← HY.out]
 refine HK.out.mono ?_
 rintro _ Y2 ⟨rfl, hB⟩
 have HB2 := Lib.hid (HBY.out.trans (hB.mono HBY.out.size))
 have HL2 := Lib.hid (HLY.out.below hB)
 have HY2 : Hid (Y2.heap[W.heap.size]? = some (.cells #[.func (.yield l0) #[] #[]] 243 (0, 0))) := by show _ = _; rw [hB.block _ (lt_of_heap HYC.out)]; exact HYC.out
 have ls : ∀ x : Later Y2, x.w.cell? ⟨s, 0, none⟩ = some (.pointer pT) := fun x => by rw [cell_of_cells (x.block HL2.out.st), HPT.out]; rfl
 have HLF : Hid (∀ x : Later Y2, Calls Tryz.prog 109 #[.pointer pT] x.w fun e w' => e = .returned (.pointer pa) ∧ Below x.w.heap.size x.w w') := fun x => by
  have := nd.left x.w n _ (nd.below HM.out (HL2.out.bel.trans (x.h.mono HL2.out.bel.size)))
  rw [HPT.out] at this
  rw [← HPA.out]
  exact this
 have HRT : Hid (∀ x : Later Y2, Calls Tryz.prog 110 #[.pointer pT] x.w fun e w' => e = .returned (.pointer pb) ∧ Below x.w.heap.size x.w w') := fun x => by
  have := nd.right x.w n _ (nd.below HM.out (HL2.out.bel.trans (x.h.mono HL2.out.bel.size)))
  rw [HPT.out] at this
  rw [← HPB.out]
  exact this
 clear hB HK ly lc HLY HYC HBY HY
 go_wp2_with fail
 refine wp_region_later (by kernel_rfl) (by kernel_rfl) ?_
 repeat (go_big_quiet_step ((first | (go_at_call 109; exact Later.call (HLF.out _)) | (go_at_call 110; exact Later.call (HRT.out _)))))
 refine wpQuiet_nil ?_
 rintro _ ⟨u, rfl⟩
 have HU1 : Hid (W.heap.size < u.w.heap.size) := Nat.lt_of_lt_of_le (lt_of_heap HY2.out) u.h.size
 have HLU1 := Lib.hid (HL2.out.below u.h)
 have HYU1 : Hid (u.w.heap[W.heap.size]? = some (.cells #[.func (.yield l0) #[] #[]] 243 (0, 0))) := by show _ = _; rw [u.h.block _ (lt_of_heap HY2.out)]; exact HY2.out
 have HJU1 : Hid (J true [] (fun i => W.heap.size ≤ i ∧ i < u.w.heap.size) u.w) := HB.out true [] _ W u.w _ HJ.out (Keep.of_below (HB2.out.trans (u.h.mono HB2.out.size))) fun i h => .inr h.1
 obtain ⟨U1, hU1⟩ : ∃ U1, U1 = u.w := ⟨_, rfl⟩
 rw [← hU1] at HU1 HLU1 HYU1 HJU1
 rw [← hU1]
 obtain ⟨Ob1, hO1⟩ : ∃ Ob1 : Nat → Prop, Ob1 = fun i => W.heap.size ≤ i ∧ i < U1.heap.size := ⟨_, rfl⟩
 have HOB1 : Hid (Ob1 W.heap.size ∧ ∀ i, Ob1 i → W.heap.size ≤ i ∧ i < U1.heap.size) := by rw [hO1]; exact ⟨⟨Nat.le_refl _, HU1.out⟩, fun _ h => h⟩
 rw [← hO1] at HJU1
 have HEX1 : Hid True := trivial
 clear hU1 hO1 ls HLF HRT HB2 HL2 HY2 HJ
 go_wp2_with fail
 refine wp_loop_rounds 3 ?_
 rw [rounds_succ]
 have lq : U1.cell? ⟨q, 0, none⟩ = some (.int .i64 (d : Int)) := by rw [cell_of_cells HLU1.out.dp]; rfl
 have h256 : d < 256 := H256.out
 obtain ⟨L1, hL1⟩ : ∃ L, L = (U1.alloc (.cells #[.pointer pa] 62)).alloc (.cells #[.int .i64 ((d : Int) + 1)] 3) := ⟨_, rfl⟩
 have hbL : Below U1.heap.size U1 L1 := by rw [hL1]; exact ((Below.refl _ U1).alloc (Nat.le_refl _) _).alloc (by simp) _
 have HZ1 : Hid (L1.heap.size = U1.heap.size + 2) := by show _ = _; rw [hL1]; simp
 have HBL1 := Lib.hid hbL
 have HLL1 : Hid (Lv w0 U1.heap.size (U1.heap.size + 1) a (d + 1) L1) := ⟨HLU1.out.bel.trans (hbL.mono HLU1.out.bel.size), by rw [hL1, HPA.out]; exact heap_alloc2_old U1 _ _, by rw [hL1]; exact heap_alloc2_new U1 _ _⟩
 have HSEQ1 := Lib.hid (HIA.out (d + 1) _ L1 U1.heap.size (U1.heap.size + 1) HTA.out (by omega) HLL1.out)
 have HL1 := Lib.hid hL1
 clear hL1 hbL
 have ix : ∀ w : World, (Instr.index 245 (.agg #[.pointer pa, .pointer pb]) (.int .i64 0)).run Tryz.prog w = .ok (.pointer pa) w := fun _ => by kernel_rfl
 go_wp2_with fail
 refine (leaves_c pa ((d : Int) + 1) U1).mono ?_
 rintro e L ⟨rfl, hLe⟩
 rw [hLe, ← HL1.out]
 clear hLe lq ix
 go_wp2_with fail
 have hsw := HSW.out
 have hz := HZ1.out
 have hu := HU1.out
 refine (wpIn_wide (n := n0)).1 ?_
 obtain ⟨Os1, hOs1⟩ : ∃ Os : Nat → Prop, Os = fun i => Ob1 i ∨ (U1.heap.size ≤ i ∧ i < U1.heap.size + 4) := ⟨_, rfl⟩
 have HOS1 : Hid (∀ i, Ob1 i ∨ (U1.heap.size ≤ i ∧ i < U1.heap.size + 4) → Os1 i) := fun i h => by rw [hOs1]; exact h
 have HOS1b : Hid (∀ i, Os1 i → W.heap.size ≤ i ∧ i < U1.heap.size + 4) := fun i h => by rw [hOs1] at h; exact h.elim (fun h => ⟨(HOB1.out.2 i h).1, by have := (HOB1.out.2 i h).2; omega⟩) fun h => ⟨by omega, h.2⟩
 have HPRE : Hid (∀ (pre : List (Nat × Tv)) (x : Nat × Tv), pre ++ [x] <+: leavesI a (d + 1) → ([] ++ pre) ++ [x] <+: leavesI a (d + 1) ++ leavesI b (d + 1)) := fun pre x h => by obtain ⟨r, hr⟩ := h; exact ⟨r ++ leavesI b (d + 1), by rw [List.nil_append, ← List.append_assoc, hr]⟩
 refine wpIn_rangeO (gf := 140) (lb := #[.pointer (some ⟨U1.heap.size, 0, none⟩), .pointer (some ⟨U1.heap.size + 1, 0, none⟩)]) rfl (enters_of Tryz.func140 (by kernel_rfl) rfl) HSEQ1.out
  (fun i h1 h2 => ⟨by omega, by omega, by omega⟩) (fun x args X h => by rw [h]; rfl)
  (fun pre O X => J true ([] ++ pre) (fun i => Os1 i ∨ O i) X ∧ Lv w0 s q (.inner v a b) d X ∧ X.heap[W.heap.size]? = some (.cells #[.func (.yield l0) #[] #[]] 243 (0, 0)) ∧ True)
  (fun c pre O X => c = .ret ∧ J false ([] ++ pre) (fun i => Os1 i ∨ O i) X ∧ True)
  (fun p O X Z O' ⟨h1, h2, h3, h4⟩ hO hs hk ho => ⟨HB.out true _ _ X Z _ h1 (hk.mono fun i h => .inr h) (fun i h => h.elim (fun h => .inl (.inl h)) fun h => (ho i h).elim (fun h => .inl (.inr h)) .inr), h2.keep hk fun i h => by have := hO _ h; exact ⟨by omega, by omega, by omega⟩, hk.heap h3 fun h => by have := hO _ h; omega, trivial⟩)
  (fun p O X m o o' ⟨h1, h2, h3, h4⟩ hm hm2 _ _ => ⟨HB.out true _ _ X _ _ h1 (keep_putObj X m o' (.inl (HOS1.out _ (.inr ⟨by omega, by omega⟩)))) fun i h => .inl h, h2.keep (keep_putObj (M := fun i => i = m) X m o' rfl) fun i h => by have e : i = m := h; exact ⟨by omega, by omega, by omega⟩, (World.putObj_heap_other (by omega)).trans h3, trivial⟩)
  (fun cc p O X Z O' ⟨h0, h1, h4⟩ hO hs hk ho => ⟨h0, HB.out false _ _ X Z _ h1 (hk.mono fun i h => .inr h) (fun i h => h.elim (fun h => .inl (.inl h)) fun h => (ho i h).elim (fun h => .inl (.inr h)) .inr), trivial⟩)
  (fun cc p O X m o o' ⟨h0, h1, h4⟩ hm hm2 _ _ => ⟨h0, HB.out false _ _ X _ _ h1 (keep_putObj X m o' (.inl (HOS1.out _ (.inr ⟨by omega, by omega⟩)))) fun i h => .inl h, trivial⟩)
  (fun X hX => ⟨by
   have hb := HBL1.out.trans (hX.mono HBL1.out.size)
   rw [List.append_nil]
   exact HB.out true _ _ U1 X _ HJU1.out (Keep.of_below hb) fun i h => h.elim (fun h => by rw [hOs1] at h; exact h.elim .inl fun h => .inr h.1) fun h => h.elim, (HLU1.out.below HBL1.out).below hX, by
   rw [hX.block _ (by omega), HBL1.out.block _ (lt_of_heap HYU1.out)]; exact HYU1.out, trivial⟩) ?round ?done ?stop
 case round =>
  rintro l pre x O args X rfl ⟨r, hr⟩ ⟨h1, h2, h3, h4⟩ hO hp rfl
  obtain ⟨px, hpx⟩ := val_ptr nd (HXA.out x (pre_mem hp))
  have HJX := Lib.hid h1
  have HLX := Lib.hid h2
  have HYX := Lib.hid h3
  have HEXX := Lib.hid h4
  have HPX := Lib.hid hpx
  have HO := Lib.hid hO
  have HP := Lib.hid hp
  rw [hpx]
  have HD3 : Hid (L1.heap.size + 1 < X.heap.size) := lt_of_heap hr
  clear hr h1 h2 h3 h4 hpx hO hp hsw hz hu hOs1
  gi_wp2
  refine ⟨Keeps2.refl _ _, Keep.refl _ _, ⟨HJX.out, HLX.out, HYX.out, HEXX.out⟩, fun V _ hkV hIV => ?_⟩
  obtain ⟨g1, g2, g3, g4⟩ := hIV
  have hsw := HSW.out
  have hz := HZ1.out
  have hu := HU1.out
  obtain ⟨fn, tmps, assign, body, hy, hRD⟩ := HR.out _ x _ _ V g1 (fun i h => h.elim (fun h => by have := HOS1b.out i h; have := HD3.out; have := hkV.size; exact ⟨by omega, by omega⟩) fun h => by have := HO.out i h; have := hkV.size; exact ⟨by omega, by omega⟩) (HPRE.out pre x HP.out) rfl
  rw [HPX.out] at hy
  have l1 : V.cell? ⟨W.heap.size, 0, none⟩ = some (.func (.yield l0) #[] #[]) := by rw [cell_of_cells g3]; rfl
  have HRD := Lib.hid hRD
  have HLV := Lib.hid g2
  have HYV := Lib.hid g3
  have HEXV := Lib.hid g4
  clear g1 g2 g3 g4 hkV hRD hsw hz hu
  gi_wp2
  refine ⟨fun h => (by cases h), RoundIn.mono (RoundIn.any HRD.out) ?_⟩
  rintro e V3 ⟨bb, rfl, hJ3, hk3⟩
  have HK3 := Lib.hid hk3
  have hb1 : Os1 L1.heap.size := HOS1.out _ (.inr ⟨by have := HZ1.out; omega, by have := HZ1.out; omega⟩)
  have hb2 : Os1 (L1.heap.size + 1) := HOS1.out _ (.inr ⟨by have := HZ1.out; omega, by have := HZ1.out; omega⟩)
  have HE1 : Hid (Keeps2 L1.heap.size V V3) := Keeps2.of_keep hk3 (fun h => h.2 (.inl hb1)) fun h => h.2 (.inl hb2)
  have HE2 : Hid (Keep (fun i => (w0.heap.size ≤ i ∧ i ≠ U1.heap.size ∧ i ≠ U1.heap.size + 1) ∧ ¬ O i) V V3) := hk3.mono fun i h => ⟨⟨h.1.1, fun e => h.2 (.inl (HOS1.out _ (.inr ⟨by omega, by omega⟩))), fun e => h.2 (.inl (HOS1.out _ (.inr ⟨by omega, by omega⟩)))⟩, fun h2 => h.2 (.inr h2)⟩
  have HE3 := Lib.hid (HLV.out.keep hk3 fun i h => h.1)
  have HE4 : Hid (V3.heap[W.heap.size]? = some (.cells #[.func (.yield l0) #[] #[]] 243 (0, 0))) := hk3.heap HYV.out fun h => h.2 (.inl (HOS1.out _ (.inl HOB1.out.1)))
  have HE5 : Hid (True) := trivial
  rw [List.append_assoc] at hJ3
  have HJ3 := Lib.hid hJ3
  clear hJ3 hk3 hb1 hb2 hy l1 HRD
  cases bb with
  | true =>
   gi_wp2
   exact ⟨HE1.out, HE2.out, HJ3.out, HE3.out, HE4.out, HE5.out⟩
  | false =>
   gi_wp2
   exact ⟨HE1.out, HE2.out, rfl, HJ3.out, HE5.out⟩
 case stop =>
  rintro D cc pre O X rfl hp ⟨rfl, h1, h4⟩ hd
  have HJX := Lib.hid h1
  have HD := Lib.hid hd
  have HP := Lib.hid hp
  clear h1 h4 hd hp hsw hz hu hOs1
  refine wpIn_wide.2 ?_
  go_wp2_with fail
  refine ⟨by simp, .inl ⟨_, _, rfl, run_takeDeferred HD.out, ?_⟩⟩
  refine ⟨_, results_none rfl _ _ _, ⟨_, rfl⟩, Os1, .inr ⟨[] ++ pre, ?_, HB.out false _ _ X _ _ HJX.out ((keep_putObj (M := Os1) X L1.heap.size _ (HOS1.out _ (.inr ⟨by have := HZ1.out; omega, by have := HZ1.out; omega⟩))).mono fun i h => .inl h) fun i h => .inl (.inl h)⟩⟩
  obtain ⟨r, hr⟩ := HP.out
  exact ⟨r ++ leavesI b (d + 1), by rw [List.nil_append, ← List.append_assoc, hr]; rfl⟩
 case done =>
  rintro D O X rfl ⟨h1, h2, h3, h4⟩ hd
  have HU2 : Hid (W.heap.size < X.heap.size) := lt_of_heap h3
  have HLU2 := Lib.hid h2
  have HYU2 := Lib.hid h3
  have HEX2 : Hid (X.heap[L1.heap.size]? = some (.deferred (some []))) := hd
  have HD1 : Hid (L1.heap.size < X.heap.size) := lt_of_heap hd
  obtain ⟨Ob2, hO2⟩ : ∃ Ob2 : Nat → Prop, Ob2 = fun i => Os1 i ∧ i < X.heap.size := ⟨_, rfl⟩
  have HOB2 : Hid (Ob2 W.heap.size ∧ ∀ i, Ob2 i → W.heap.size ≤ i ∧ i < X.heap.size) := by rw [hO2]; exact ⟨⟨HOS1.out _ (.inl HOB1.out.1), HU2.out⟩, fun i h => ⟨(HOS1b.out i h.1).1, h.2⟩⟩
  have HOD : Hid (Ob2 L1.heap.size) := by rw [hO2]; exact ⟨HOS1.out _ (.inr ⟨by omega, by omega⟩), HD1.out⟩
  have HJU2 : Hid (J true (leavesI a (d + 1)) Ob2 X) := HB.out true _ _ X X _ h1 (Keep.refl _ _) fun i h => by rw [hO2] at h; exact .inl (.inl h.1)
  obtain ⟨U2, hU2⟩ : ∃ U2, U2 = X := ⟨_, rfl⟩
  rw [← hU2] at HU2 HLU2 HYU2 HEX2 HD1 HOB2 HJU2
  rw [← hU2]
  clear hU2 hO2 h1 h2 h3 h4 hd hsw hz hu hOs1 HPRE
  go_wp2_with fail
  rw [rounds_succ]
  have lq : U2.cell? ⟨q, 0, none⟩ = some (.int .i64 (d : Int)) := by rw [cell_of_cells HLU2.out.dp]; rfl
  have h256 : d < 256 := H256.out
  obtain ⟨L2, hL2⟩ : ∃ L, L = (U2.alloc (.cells #[.pointer pb] 62)).alloc (.cells #[.int .i64 ((d : Int) + 1)] 3) := ⟨_, rfl⟩
  have hbL : Below U2.heap.size U2 L2 := by rw [hL2]; exact ((Below.refl _ U2).alloc (Nat.le_refl _) _).alloc (by simp) _
  have HZ2 : Hid (L2.heap.size = U2.heap.size + 2) := by show _ = _; rw [hL2]; simp
  have HBL2 := Lib.hid hbL
  have HLL2 : Hid (Lv w0 U2.heap.size (U2.heap.size + 1) b (d + 1) L2) := ⟨HLU2.out.bel.trans (hbL.mono HLU2.out.bel.size), by rw [hL2, HPB.out]; exact heap_alloc2_old U2 _ _, by rw [hL2]; exact heap_alloc2_new U2 _ _⟩
  have HSEQ2 := Lib.hid (HIB.out (d + 1) _ L2 U2.heap.size (U2.heap.size + 1) HTB.out (by omega) HLL2.out)
  have HL2 := Lib.hid hL2
  clear hL2 hbL
  have ix : ∀ w : World, (Instr.index 245 (.agg #[.pointer pa, .pointer pb]) (.int .i64 1)).run Tryz.prog w = .ok (.pointer pb) w := fun _ => by kernel_rfl
  go_wp2_with fail
  refine (leaves_c pb ((d : Int) + 1) U2).mono ?_
  rintro e L ⟨rfl, hLe⟩
  rw [hLe, ← HL2.out]
  clear hLe lq ix
  go_wp2_with fail
  have hsw := HSW.out
  have hz := HZ2.out
  have hu := HU2.out
  refine (wpIn_wide (n := n0)).1 ?_
  obtain ⟨Os2, hOs2⟩ : ∃ Os : Nat → Prop, Os = fun i => Ob2 i ∨ (U2.heap.size ≤ i ∧ i < U2.heap.size + 4) := ⟨_, rfl⟩
  have HOS2 : Hid (∀ i, Ob2 i ∨ (U2.heap.size ≤ i ∧ i < U2.heap.size + 4) → Os2 i) := fun i h => by rw [hOs2]; exact h
  have HOS2b : Hid (∀ i, Os2 i → W.heap.size ≤ i ∧ i < U2.heap.size + 4) := fun i h => by rw [hOs2] at h; exact h.elim (fun h => ⟨(HOB2.out.2 i h).1, by have := (HOB2.out.2 i h).2; omega⟩) fun h => ⟨by omega, h.2⟩
  have HPRE : Hid (∀ (pre : List (Nat × Tv)) (x : Nat × Tv), pre ++ [x] <+: leavesI b (d + 1) → ((leavesI a (d + 1)) ++ pre) ++ [x] <+: leavesI a (d + 1) ++ leavesI b (d + 1)) := fun pre x h => by rw [List.append_assoc]; obtain ⟨r, hr⟩ := h; exact ⟨r, by rw [List.append_assoc, hr]⟩
  refine wpIn_rangeO (gf := 140) (lb := #[.pointer (some ⟨U2.heap.size, 0, none⟩), .pointer (some ⟨U2.heap.size + 1, 0, none⟩)]) rfl (enters_of Tryz.func140 (by kernel_rfl) rfl) HSEQ2.out
   (fun i h1 h2 => ⟨by omega, by omega, by omega⟩) (fun x args X h => by rw [h]; rfl)
   (fun pre O X => J true ((leavesI a (d + 1)) ++ pre) (fun i => Os2 i ∨ O i) X ∧ Lv w0 s q (.inner v a b) d X ∧ X.heap[W.heap.size]? = some (.cells #[.func (.yield l0) #[] #[]] 243 (0, 0)) ∧ X.heap[L1.heap.size]? = some (.deferred (some [])))
   (fun c pre O X => c = .ret ∧ J false ((leavesI a (d + 1)) ++ pre) (fun i => Os2 i ∨ O i) X ∧ X.heap[L1.heap.size]? = some (.deferred (some [])))
   (fun p O X Z O' ⟨h1, h2, h3, h4⟩ hO hs hk ho => ⟨HB.out true _ _ X Z _ h1 (hk.mono fun i h => .inr h) (fun i h => h.elim (fun h => .inl (.inl h)) fun h => (ho i h).elim (fun h => .inl (.inr h)) .inr), h2.keep hk fun i h => by have := hO _ h; exact ⟨by omega, by omega, by omega⟩, hk.heap h3 fun h => by have := hO _ h; omega, hk.heap h4 fun h => by have := hO _ h; have := HD1.out; omega⟩)
   (fun p O X m o o' ⟨h1, h2, h3, h4⟩ hm hm2 _ _ => ⟨HB.out true _ _ X _ _ h1 (keep_putObj X m o' (.inl (HOS2.out _ (.inr ⟨by omega, by omega⟩)))) fun i h => .inl h, h2.keep (keep_putObj (M := fun i => i = m) X m o' rfl) fun i h => by have e : i = m := h; exact ⟨by omega, by omega, by omega⟩, (World.putObj_heap_other (by omega)).trans h3, (World.putObj_heap_other (by have := HD1.out; omega)).trans h4⟩)
   (fun cc p O X Z O' ⟨h0, h1, h4⟩ hO hs hk ho => ⟨h0, HB.out false _ _ X Z _ h1 (hk.mono fun i h => .inr h) (fun i h => h.elim (fun h => .inl (.inl h)) fun h => (ho i h).elim (fun h => .inl (.inr h)) .inr), hk.heap h4 fun h => by have := hO _ h; have := HD1.out; omega⟩)
   (fun cc p O X m o o' ⟨h0, h1, h4⟩ hm hm2 _ _ => ⟨h0, HB.out false _ _ X _ _ h1 (keep_putObj X m o' (.inl (HOS2.out _ (.inr ⟨by omega, by omega⟩)))) fun i h => .inl h, (World.putObj_heap_other (by have := HD1.out; omega)).trans h4⟩)
   (fun X hX => ⟨by
    have hb := HBL2.out.trans (hX.mono HBL2.out.size)
    rw [List.append_nil]
    exact HB.out true _ _ U2 X _ HJU2.out (Keep.of_below hb) fun i h => h.elim (fun h => by rw [hOs2] at h; exact h.elim .inl fun h => .inr h.1) fun h => h.elim, (HLU2.out.below HBL2.out).below hX, by
    rw [hX.block _ (by omega), HBL2.out.block _ (lt_of_heap HYU2.out)]; exact HYU2.out, by rw [hX.block _ (by have := HD1.out; omega)]; rw [HBL2.out.block _ (lt_of_heap HEX2.out)]; exact HEX2.out⟩) ?round ?done ?stop
  case round =>
   rintro l pre x O args X rfl ⟨r, hr⟩ ⟨h1, h2, h3, h4⟩ hO hp rfl
   obtain ⟨px, hpx⟩ := val_ptr nd (HXB.out x (pre_mem hp))
   have HJX := Lib.hid h1
   have HLX := Lib.hid h2
   have HYX := Lib.hid h3
   have HEXX := Lib.hid h4
   have HPX := Lib.hid hpx
   have HO := Lib.hid hO
   have HP := Lib.hid hp
   rw [hpx]
   have HD3 : Hid (L2.heap.size + 1 < X.heap.size) := lt_of_heap hr
   clear hr h1 h2 h3 h4 hpx hO hp hsw hz hu hOs2
   gi_wp2
   refine ⟨Keeps2.refl _ _, Keep.refl _ _, ⟨HJX.out, HLX.out, HYX.out, HEXX.out⟩, fun V _ hkV hIV => ?_⟩
   obtain ⟨g1, g2, g3, g4⟩ := hIV
   have hsw := HSW.out
   have hz := HZ2.out
   have hu := HU2.out
   obtain ⟨fn, tmps, assign, body, hy, hRD⟩ := HR.out _ x _ _ V g1 (fun i h => h.elim (fun h => by have := HOS2b.out i h; have := HD3.out; have := hkV.size; exact ⟨by omega, by omega⟩) fun h => by have := HO.out i h; have := hkV.size; exact ⟨by omega, by omega⟩) (HPRE.out pre x HP.out) rfl
   rw [HPX.out] at hy
   have l1 : V.cell? ⟨W.heap.size, 0, none⟩ = some (.func (.yield l0) #[] #[]) := by rw [cell_of_cells g3]; rfl
   have HRD := Lib.hid hRD
   have HLV := Lib.hid g2
   have HYV := Lib.hid g3
   have HEXV := Lib.hid g4
   clear g1 g2 g3 g4 hkV hRD hsw hz hu
   gi_wp2
   refine ⟨fun h => (by cases h), RoundIn.mono (RoundIn.any HRD.out) ?_⟩
   rintro e V3 ⟨bb, rfl, hJ3, hk3⟩
   have HK3 := Lib.hid hk3
   have hb1 : Os2 L2.heap.size := HOS2.out _ (.inr ⟨by have := HZ2.out; omega, by have := HZ2.out; omega⟩)
   have hb2 : Os2 (L2.heap.size + 1) := HOS2.out _ (.inr ⟨by have := HZ2.out; omega, by have := HZ2.out; omega⟩)
   have HE1 : Hid (Keeps2 L2.heap.size V V3) := Keeps2.of_keep hk3 (fun h => h.2 (.inl hb1)) fun h => h.2 (.inl hb2)
   have HE2 : Hid (Keep (fun i => (w0.heap.size ≤ i ∧ i ≠ U2.heap.size ∧ i ≠ U2.heap.size + 1) ∧ ¬ O i) V V3) := hk3.mono fun i h => ⟨⟨h.1.1, fun e => h.2 (.inl (HOS2.out _ (.inr ⟨by omega, by omega⟩))), fun e => h.2 (.inl (HOS2.out _ (.inr ⟨by omega, by omega⟩)))⟩, fun h2 => h.2 (.inr h2)⟩
   have HE3 := Lib.hid (HLV.out.keep hk3 fun i h => h.1)
   have HE4 : Hid (V3.heap[W.heap.size]? = some (.cells #[.func (.yield l0) #[] #[]] 243 (0, 0))) := hk3.heap HYV.out fun h => h.2 (.inl (HOS2.out _ (.inl HOB2.out.1)))
   have HE5 : Hid (V3.heap[L1.heap.size]? = some (.deferred (some []))) := hk3.heap HEXV.out fun h => h.2 (.inl (HOS2.out _ (.inl HOD.out)))
   rw [List.append_assoc] at hJ3
   have HJ3 := Lib.hid hJ3
   clear hJ3 hk3 hb1 hb2 hy l1 HRD
   cases bb with
   | true =>
    gi_wp2
    exact ⟨HE1.out, HE2.out, HJ3.out, HE3.out, HE4.out, HE5.out⟩
   | false =>
    gi_wp2
    exact ⟨HE1.out, HE2.out, rfl, HJ3.out, HE5.out⟩
  case stop =>
   rintro D cc pre O X rfl hp ⟨rfl, h1, h4⟩ hd
   have HJX := Lib.hid h1
   have HD := Lib.hid hd
   have HP := Lib.hid hp
   have HDA := Lib.hid h4
   clear h1 h4 hd hp hsw hz hu hOs2
   refine wpIn_wide.2 ?_
   go_wp2_with fail
   refine ⟨by simp, .inl ⟨_, _, rfl, run_takeDeferred HD.out, ⟨by simp, .inl ⟨_, _, rfl, run_takeDeferred ((World.putObj_heap_other (by have := HD1.out; have := HZ2.out; omega)).trans HDA.out), ?_⟩⟩⟩⟩
   refine ⟨_, results_none rfl _ _ _, ⟨_, rfl⟩, Os2, .inr ⟨(leavesI a (d + 1)) ++ pre, ?_, HB.out false _ _ X _ _ HJX.out (((keep_putObj (M := Os2) X L2.heap.size _ (HOS2.out _ (.inr ⟨by have := HZ2.out; omega, by have := HZ2.out; omega⟩))).trans (keep_putObj (M := Os2) _ L1.heap.size _ (HOS2.out _ (.inl HOD.out)))).mono fun i h => .inl h) fun i h => .inl (.inl h)⟩⟩
   obtain ⟨r, hr⟩ := HP.out
   exact ⟨r, by rw [List.append_assoc, hr]; rfl⟩
  case done =>
   rintro D O X rfl ⟨h1, h2, h3, h4⟩ hd
   have HJX := Lib.hid h1
   have HD := Lib.hid hd
   have HDA := Lib.hid h4
   clear h1 h2 h3 h4 hd hsw hz hu hOs2
   go_wp2_with fail
   rw [rounds_succ]
   go_wp2_with fail
   refine ⟨by simp, .inl ⟨_, _, rfl, run_takeDeferred HD.out, ⟨by simp, .inl ⟨_, _, rfl, run_takeDeferred ((World.putObj_heap_other (by have := HD1.out; have := HZ2.out; omega)).trans HDA.out), ?_⟩⟩⟩⟩
   refine ⟨_, results_none rfl _ _ _, ⟨_, rfl⟩, Os2, .inl (HB.out true _ _ X _ _ HJX.out (((keep_putObj (M := Os2) X L2.heap.size _ (HOS2.out _ (.inr ⟨by have := HZ2.out; omega, by have := HZ2.out; omega⟩))).trans (keep_putObj (M := Os2) _ L1.heap.size _ (HOS2.out _ (.inl HOD.out)))).mono fun i h => .inl h) fun i h => .inl (.inl h))⟩
end
section
open Go.RowKit
attribute [local go_sem] Oper.semAt_some
theorem leaves_seq {M : World → Int → Tv → Prop} (nd : NdV M) (w0 : World) (n : Int) : ∀ (T : Tv), M w0 n T → LvSeq w0 T
 | .nil, _ => lv_nil nd w0 n
 | .leaf v x, h => lv_leaf nd w0 n v x h
 | .inner v a b, h => lv_inner nd w0 n v a b h (leaves_seq nd w0 n a (nd.kids h).1) (leaves_seq nd w0 n b (nd.kids h).2)
def CellsAt (X : World) (g : Nat) : Prop := ∃ cs t, X.heap[g]? = some (.cells cs t (0, 0))
theorem CellsAt.keep {L : Nat → Prop} {X Y : World} {g : Nat} (h : CellsAt X g) (k : Keep L X Y) (hl : ¬ L g) : CellsAt Y g := by
 obtain ⟨cs, t, h⟩ := h
 exact ⟨cs, t, k.heap h hl⟩
theorem CellsAt.below {X Y : World} {g : Nat} (h : CellsAt X g) (k : Below X.heap.size X Y) : CellsAt Y g := h.keep (Keep.of_below (L := fun _ => False) k) fun h => h
theorem CellsAt.loop {X Y : World} {g d : Nat} {r : Loop} (h : CellsAt X g) (hd : X.heap[d]? = some (.loop r)) (k : Keep (fun i => i = d) X Y) : CellsAt Y g := by
 obtain ⟨cs, t, h⟩ := h
 exact ⟨cs, t, k.heap h fun e => by
  have e2 : g = d := e
  subst e2
  rw [hd] at h
  cases h⟩
theorem NewB.blk2 {w : World} {B : Nat} {A : Option Addr} {c : Nat} {l : List UInt8} (h : NewB w B A c l) : l = [] ∨ ∃ g, A = some ⟨g, 0, none⟩ ∧ B ≤ g ∧ g < w.heap.size ∧ CellsAt w g := by
 rcases h.2 with h | ⟨_, ⟨h1, h2⟩ | ⟨g, cap, cur, h1, h2, h3, _⟩⟩
 ·exact .inl h
 ·exact .inl (List.length_eq_zero_iff.1 h2)
 ·injection h1 with h4
  exact .inr ⟨g, h4, h2, lt_of_heap h3, _, _, h3⟩
def EntH (x : Ent) (args : Array Value) (O H : Nat → Prop) (X : World) : Prop := x.k.length = 32 ∧ ∃ (A : Option Addr) (c : Nat), args = #[.agg (bA x.k), .slice A x.v.length c] ∧ BA X A x.v ∧ x.v.length ≤ c ∧ (x.v = [] ∨ ∃ g, A = some ⟨g, 0, none⟩ ∧ H g ∧ ¬ O g ∧ CellsAt X g)
theorem EntH.e {x : Ent} {args : Array Value} {O H : Nat → Prop} {X : World} (h : EntH x args O H X) : EntE x args X := by
 obtain ⟨h1, A, c, h2, h3, h4, _⟩ := h
 exact ⟨h1, A, c, h2, h3, h4⟩
@[go_sem ↓] theorem semAt_storeEntry (ro : Option Nat) (ρ : Operand → Value) (dst : Option Tmp) (x y : Operand) (type : TypeId) (pos : String) (after : Array Edge) (guard : Option (Nat × Bool)) (w : World) :
  Sem.run Tryz.prog (Oper.semAt ro ρ { dst, op := .store 42 x y, type, pos, after, guard }) w = stA 42 w (ρ x) (ρ y) := by cases ro <;> rfl
def entI (x : Nat × Tv) : Ent := entT x.2.tr
theorem all_seq {M : World → Int → Tv → Prop} (nd : NdV M) (w0 : World) (n : Int) (T : Tv) (l : List Ent) (w : World) (s : Nat) (hM : M w0 n T) (hT : IsMap l T) (ha : Asc l) (hbel : Below w0.heap.size w0 w) (hst : w.heap[s]? = some (.cells #[T.val] 62 (0, 0))) :
  SeqH Tryz.prog 103 #[.pointer (some ⟨s, 0, none⟩)] EntH (fun i => w0.heap.size ≤ i ∧ i ≠ s) l w := by
 intro n0 l0 J W hW hbear hround hJ0
 have hbW := hbel.trans (hW.mono hbel.size)
 have hsW : W.heap[s]? = some (.cells #[T.val] 62 (0, 0)) := by rw [hW.block _ (lt_of_heap hst)]; exact hst
 obtain ⟨pT, hpT⟩ := val_ptr nd hM
 obtain ⟨Y, hY⟩ : ∃ Y, Y = W.alloc (.cells #[.func (.yield l0) #[] #[]] 197) := ⟨_, rfl⟩
 have hbY : Below W.heap.size W Y := by rw [hY]; exact (Below.refl _ _).alloc (Nat.le_refl _) _
 have hyc : Y.heap[W.heap.size]? = some (.cells #[.func (.yield l0) #[] #[]] 197 (0, 0)) := by rw [hY]; exact heap_alloc_new W _
 have hsY : Y.heap.size = W.heap.size + 1 := by rw [hY]; simp
 have ly : Y.cell? ⟨s, 0, none⟩ = some (.pointer pT) := by rw [cell_of_cells (show Y.heap[s]? = _ by rw [hbY.block _ (lt_of_heap hsW)]; exact hsW), hpT]; rfl
 obtain ⟨L, hL⟩ : ∃ L, L = (Y.alloc (.cells #[.pointer pT] 62)).alloc (.cells #[.int .i64 0] 3) := ⟨_, rfl⟩
 have hbL : Below Y.heap.size Y L := by rw [hL]; exact ((Below.refl _ Y).alloc (Nat.le_refl _) _).alloc (by simp) _
 have HZ : Hid (L.heap.size = W.heap.size + 3) := by show _ = _; rw [hL]; simp [hsY]
 have hWL : Below W.heap.size W L := hbY.trans (hbL.mono hbY.size)
 have h0L : Below w0.heap.size w0 L := hbW.trans (hWL.mono hbW.size)
 have hLL : Lv w0 Y.heap.size (Y.heap.size + 1) T 0 L := ⟨h0L, by rw [hL, hpT]; exact heap_alloc2_old Y _ _, by rw [hL]; exact heap_alloc2_new Y _ _⟩
 have HSEQ := Lib.hid (leaves_seq nd w0 n T hM 0 l L Y.heap.size (Y.heap.size + 1) hT.sub (by decide) hLL)
 have HSY := Lib.hid hsY
 have HB := Lib.hid hbear
 have HR := Lib.hid hround
 have HJL : Hid (J true [] (fun i => W.heap.size ≤ i ∧ i < L.heap.size + 2) L) := hbear true [] _ W L _ hJ0 (Keep.of_below hWL) fun i h => .inr h.1
 have HY := Lib.hid hY
 have HL := Lib.hid hL
 have H0L := Lib.hid h0L
 have HYL : Hid (L.heap[W.heap.size]? = some (.cells #[.func (.yield l0) #[] #[]] 197 (0, 0))) := by show _ = _; rw [hbL.block _ (lt_of_heap hyc)]; exact hyc
 have HSW : Hid (s < W.heap.size ∧ w0.heap.size ≤ W.heap.size) := ⟨lt_of_heap hsW, hbW.size⟩
 have HMS := Lib.hid (leavesI_ms nd T 0 hM)
 have HLF := Lib.hid (leavesI_leaf T 0)
 have HENTS : Hid ((leavesI T 0).map entI = l) := leaves_ents hT ha
 have HPT := Lib.hid hpT
 rw [hY] at ly
 clear hM hT ha hbel hst hW hbear hround hJ0 hbW hsW hpT hY hbY hyc hsY hL hbL hWL h0L hLL
 refine callsIn_of_wp_marks Tryz.func103 rfl trivial ?_ rfl
 simp only [Tryz.ntmps103, List.size_toArray, List.length_cons, List.length_nil, Nat.reduceAdd, Nat.reduceSub, Array.replicate_succ, Array.replicate_zero, List.push_toArray, List.append_toArray, List.nil_append, List.cons_append]
 refine wpIn_wide.2 ?_
 go_wp2_with fail
 rw [← HY.out]
 refine (leaves_c pT 0 Y).mono ?_
 rintro e L' ⟨rfl, hLe⟩
 rw [hLe, ← HL.out]
 clear hLe ly HY HL
 go_wp2_with fail
 have hsw := HSW.out
 have hsy := HSY.out
 have hz := HZ.out
 refine (wpIn_wide (n := n0)).1 ?_
 obtain ⟨Os, hOs⟩ : ∃ Os : Nat → Prop, Os = fun i => W.heap.size ≤ i ∧ i < L.heap.size + 2 := ⟨_, rfl⟩
 have HOS : Hid (∀ i, Os i ↔ W.heap.size ≤ i ∧ i < L.heap.size + 2) := fun i => by rw [hOs]
 rw [← hOs] at HJL
 clear hOs
 have hos := HOS.out
 refine wpIn_rangeO (gf := 140) (lb := #[.pointer (some ⟨Y.heap.size, 0, none⟩), .pointer (some ⟨Y.heap.size + 1, 0, none⟩)]) rfl (enters_of Tryz.func140 (by kernel_rfl) rfl) HSEQ.out
  (fun i h1 h2 => ⟨by omega, by omega, by omega⟩) (fun x args X h => by rw [h]; rfl)
  (fun pre O X => J true (pre.map entI) (fun i => Os i ∨ O i) X ∧ X.heap[W.heap.size]? = some (.cells #[.func (.yield l0) #[] #[]] 197 (0, 0)) ∧ Below w0.heap.size w0 X)
  (fun c pre O X => c = .ret ∧ J false (pre.map entI) (fun i => Os i ∨ O i) X)
  (fun p O X Z O' ⟨h1, h2, h3⟩ hO hs hk ho => ⟨HB.out true _ _ X Z _ h1 (hk.mono fun i h => .inr h) (fun i h => h.elim (fun h => .inl (.inl h)) fun h => (ho i h).elim (fun h => .inl (.inr h)) .inr), hk.heap h2 fun h => by have := hO _ h; omega, h3.trans (hk.below h3.size fun i hi => by have := hO i hi; omega)⟩)
  (fun p O X m o o' ⟨h1, h2, h3⟩ hm hm2 _ _ => ⟨HB.out true _ _ X _ _ h1 (keep_putObj X m o' (.inl ((hos m).2 ⟨by omega, by omega⟩))) fun i h => .inl h, (World.putObj_heap_other (by omega)).trans h2, h3.trans ((keep_putObj (M := fun i => i = m) X m o' rfl).below h3.size fun i hi => by have e : i = m := hi; omega)⟩)
  (fun cc p O X Z O' ⟨h0, h1⟩ hO hs hk ho => ⟨h0, HB.out false _ _ X Z _ h1 (hk.mono fun i h => .inr h) (fun i h => h.elim (fun h => .inl (.inl h)) fun h => (ho i h).elim (fun h => .inl (.inr h)) .inr)⟩)
  (fun cc p O X m o o' ⟨h0, h1⟩ hm hm2 _ _ => ⟨h0, HB.out false _ _ X _ _ h1 (keep_putObj X m o' (.inl ((hos m).2 ⟨by omega, by omega⟩))) fun i h => .inl h⟩)
  (fun X hX => ⟨HB.out true [] _ L X _ HJL.out (Keep.of_below hX) fun i h => h.elim .inl fun h => h.elim, by rw [hX.block _ (by omega)]; exact HYL.out, H0L.out.trans (hX.mono H0L.out.size)⟩) ?round ?done ?stop
 case round =>
  rintro m pre x O args X rfl ⟨r, hr⟩ ⟨h1, h2, h3⟩ hO hp rfl
  obtain ⟨px, hpx⟩ := val_ptr nd (HMS.out x (pre_mem hp))
  have HJX := Lib.hid h1
  have HYX := Lib.hid h2
  have HBX := Lib.hid h3
  have HPX := Lib.hid hpx
  have HO := Lib.hid hO
  have HP := Lib.hid hp
  rw [hpx]
  have HD3 : Hid (L.heap.size + 1 < X.heap.size) := lt_of_heap hr
  clear hr h1 h2 h3 hpx hO hp hsw hz hsy hos
  gi_wp2
  refine ⟨Keeps2.refl _ _, Keep.refl _ _, ⟨HJX.out, HYX.out, HBX.out⟩, fun V _ hkV hIV => ?_⟩
  obtain ⟨g1, g2, g3⟩ := hIV
  have hen := nd.entry V n x.2 (nd.below (HMS.out x (pre_mem HP.out)) g3)
  obtain ⟨v, e, hxe⟩ := HLF.out x (pre_mem HP.out)
  have hkey := (nd.key (by have := HMS.out x (pre_mem HP.out); rw [hxe] at this; exact this)).1
  have hei : entI x = e := by unfold entI; rw [hxe]; rfl
  rw [HPX.out, hxe, show entT (Tv.leaf v e).tr = e from rfl] at hen
  have HEN := Lib.hid hen
  have HKEY := Lib.hid hkey
  have HEI := Lib.hid hei
  have HXV : Hid (X.heap.size ≤ V.heap.size) := hkV.size
  have HJV := Lib.hid g1
  have HYV := Lib.hid g2
  have HBV := Lib.hid g3
  clear g1 g2 g3 hen hkV hxe hkey hei
  gi_wp2
  refine ⟨trivial, fun h => (by cases h), (CallsIn.inRound _ (callsIn_wide.2 HEN.out)).mono ?_⟩
  rintro _ y1 ⟨A, c, rfl, hN, hb⟩
  obtain ⟨en, hen⟩ : ∃ en : En, en = ⟨e.k, A, e.v, c⟩ := ⟨_, rfl⟩
  have hek : en.k = e.k := by rw [hen]
  have hek32 : en.k.length = 32 := by rw [hek]; exact HKEY.out
  obtain ⟨y2, hy2⟩ : ∃ y2, y2 = y1.alloc (.cells (enC en).toArray 42) := ⟨_, rfl⟩
  have hb2 : Below y1.heap.size y1 y2 := by rw [hy2]; exact (Below.refl _ _).alloc (Nat.le_refl _) _
  have hbV : Below V.heap.size V y2 := hb.trans (hb2.mono hb.size)
  have st : stA 42 (y1.alloc (.cells (enC ⟨z26, none, [], 0⟩).toArray 42)) (.pointer (some ⟨y1.heap.size, 0, none⟩)) (.agg (enC en).toArray) = .ok .skip y2 := by rw [hy2]; exact stE_new hek32 rfl
  have hrow : y2.heap[y1.heap.size]? = some (.cells (enC en).toArray 42 (0, 0)) := by rw [hy2]; exact heap_alloc_new y1 _
  have hrg : y2.rangeAt y1.heap.size 0 (enC en) := fun j u hu => by rw [Nat.zero_add, cell_of_cells hrow]; simpa using hu
  have lk : ldA 40 y2 (.pointer (some ⟨y1.heap.size, 0, none⟩)) = .ok (.value (.agg (bA e.k))) y2 := by rw [← hek]; exact range_key hrg hek32
  have lv : y2.cell? ⟨y1.heap.size, 32, none⟩ = some (.slice A e.v.length c) := by have := range_val hrg hek32; rw [hen] at this; exact this
  have hyc2 : y2.heap[W.heap.size]? = some (.cells #[.func (.yield l0) #[] #[]] 197 (0, 0)) := by rw [hbV.block _ (lt_of_heap HYV.out)]; exact HYV.out
  have lc : y2.cell? ⟨W.heap.size, 0, none⟩ = some (.func (.yield l0) #[] #[]) := by rw [cell_of_cells hyc2]; rfl
  have hos := HOS.out
  have hd3 := HD3.out
  have hxv := HXV.out
  have hO := HO.out
  have hbs := hbV.size
  have hbs1 := hb.size
  have hbs2 := hb2.size
  have hz := HZ.out
  obtain ⟨fn, tmps, assign, body, hy, hRD⟩ := HR.out (pre.map entI) e (fun i => Os i ∨ O i) (fun i => V.heap.size ≤ i ∧ i < y2.heap.size) #[.agg (bA e.k), .slice A e.v.length c] y2
   (HB.out true _ _ V y2 _ HJV.out (Keep.of_below hbV) fun i h => h.elim .inl fun h => .inr h.1)
   (fun i h => h.elim (fun h => h.elim (fun h => by have := (hos i).1 h; omega) fun h => by have := hO i h; omega) fun h => by omega)
   (by rw [← HENTS.out, ← HEI.out]; have := HP.out.map entI; rwa [List.map_append] at this)
   ⟨HKEY.out, A, c, rfl, (NewB.ba hN).below hb2, hN.1, (NewB.blk2 hN).imp id fun ⟨g, h1, h2, h3, h4⟩ => ⟨g, h1, ⟨h2, by omega⟩, fun h => h.elim (fun h => by have := (hos g).1 h; omega) fun h => by have := hO g h; omega, h4.below hb2⟩⟩
  have HRD := Lib.hid hRD
  have HBV2 := Lib.hid hbV
  have HYC2 := Lib.hid hyc2
  have HEN2 := Lib.hid hen
  rw [← hen]
  clear hy2 hb2 hbV hrow hrg hyc2 hos hd3 hxv hO hbs hbs1 hbs2 hz hRD HEN hb hek hek32 hen hN
  gi_wp2
  refine ⟨fun h => (by cases h), RoundIn.mono (RoundIn.any HRD.out) ?_⟩
  rintro _ V3 ⟨bb, rfl, hJ3, hk3⟩
  have hos := HOS.out
  have hsw := HSW.out
  have hsy := HSY.out
  have hz := HZ.out
  have HE1 : Hid (Keeps2 L.heap.size V V3) := fun k o h1 h2 h3 h4 => Keeps2.of_keep (B := L.heap.size) hk3 (fun h => h.2 (.inl ((hos _).2 ⟨by omega, by omega⟩))) (fun h => h.2 (.inl ((hos _).2 ⟨by omega, by omega⟩))) k o h1 h2 (by rw [HBV2.out.block _ (lt_of_heap h3)]; exact h3) h4
  have HE2 : Hid (Keep (fun i => (w0.heap.size ≤ i ∧ i ≠ Y.heap.size ∧ i ≠ Y.heap.size + 1) ∧ ¬ O i) V V3) := (Keep.of_below HBV2.out).trans (hk3.mono fun i h => ⟨⟨h.1.1, fun e => h.2 (.inl ((hos _).2 ⟨by omega, by omega⟩)), fun e => h.2 (.inl ((hos _).2 ⟨by omega, by omega⟩))⟩, fun h2 => h.2 (.inr h2)⟩)
  have HE4 : Hid (V3.heap[W.heap.size]? = some (.cells #[.func (.yield l0) #[] #[]] 197 (0, 0))) := hk3.heap HYC2.out fun h => h.2 (.inl ((hos _).2 ⟨by omega, by omega⟩))
  have HE5 : Hid (Below w0.heap.size w0 V3) := (HBV.out.trans (HBV2.out.mono HBV.out.size)).trans (hk3.below (Nat.le_trans HBV.out.size HBV2.out.size) fun i hi => hi.1.1)
  have HJ3 : Hid (J bb ((pre ++ [x]).map entI) (fun i => Os i ∨ O i) V3) := by show J _ _ _ _; rw [List.map_append, List.map_singleton, HEI.out]; exact hJ3
  clear hJ3 hk3 hy lk lv lc st HRD hos hsw hsy hz
  cases bb with
  | true =>
   gi_wp2
   exact ⟨HE1.out, HE2.out, HJ3.out, HE4.out, HE5.out⟩
  | false =>
   gi_wp2
   exact ⟨HE1.out, HE2.out, rfl, HJ3.out⟩
 case stop =>
  rintro D cc pre O X rfl hp ⟨rfl, h1⟩ hd
  have HJX := Lib.hid h1
  have HD := Lib.hid hd
  have HP := Lib.hid hp
  clear h1 hd hp hsw hz hsy hos
  refine wpIn_wide.2 ?_
  go_wp2_with fail
  refine ⟨by simp, .inl ⟨_, _, rfl, run_takeDeferred HD.out, ?_⟩⟩
  refine ⟨_, results_none rfl _ _ _, ⟨_, rfl⟩, Os, .inr ⟨pre.map entI, ?_, HB.out false _ _ X _ _ HJX.out (keep_putObj X _ _ (.inl ((HOS.out _).2 ⟨by have := HZ.out; omega, by omega⟩))) fun i h => .inl (.inl h)⟩⟩
  rw [← HENTS.out]
  exact HP.out.map _
 case done =>
  rintro D O X rfl ⟨h1, h2, h3⟩ hd
  rw [HENTS.out] at h1
  have HJX := Lib.hid h1
  have HD := Lib.hid hd
  clear h1 h2 h3 hd hsw hz hsy hos
  go_wp2_with fail
  refine ⟨by simp, .inl ⟨_, _, rfl, run_takeDeferred HD.out, ?_⟩⟩
  exact ⟨_, results_none rfl _ _ _, ⟨_, rfl⟩, Os, .inl (HB.out true _ _ X _ _ HJX.out (keep_putObj X _ _ (.inl ((HOS.out _).2 ⟨by have := HZ.out; omega, by omega⟩))) fun i h => .inl (.inl h))⟩
theorem all_call (p : Option Addr) (w : World) : Calls Tryz.prog 71 #[.pointer p] w fun e w' => e = .returned (.func (.func 103) #[] #[.pointer (some ⟨w.heap.size, 0, none⟩)]) ∧ w' = w.alloc (.cells #[.pointer p] 62) := by
 go_enter Tryz.func71, Tryz.ntmps71
 go_wp2_with fail
 go_ret
 exact ⟨rfl, rfl⟩
theorem all_h {M : World → Int → Tv → Prop} (nd : NdV M) (w0 w : World) (n : Int) (T : Tv) (l : List Ent) (hM : M w0 n T) (hb : Below w0.heap.size w0 w) (hT : IsMap l T) (ha : Asc l) (p : Option Addr) (hp : T.val = .pointer p) :
  Calls Tryz.prog 71 #[.pointer p] w fun e w' => e = .returned (.func (.func 103) #[] #[.pointer (some ⟨w.heap.size, 0, none⟩)]) ∧ Below w.heap.size w w' ∧ w'.heap.size = w.heap.size + 1 ∧
   ∀ Z, Keep (fun i => w0.heap.size ≤ i ∧ i ≠ w.heap.size) w' Z → SeqH Tryz.prog 103 #[.pointer (some ⟨w.heap.size, 0, none⟩)] EntH (fun i => w0.heap.size ≤ i ∧ i ≠ w.heap.size) l Z := by
 refine (all_call p w).mono ?_
 rintro _ w' ⟨rfl, hw⟩
 have hb' : Below w.heap.size w w' := by rw [hw]; exact (Below.refl _ _).alloc (Nat.le_refl _) _
 have hs : w'.heap[w.heap.size]? = some (.cells #[T.val] 62 (0, 0)) := by rw [hw, hp]; exact heap_alloc_new w _
 have h0 : Below w0.heap.size w0 w' := hb.trans (hb'.mono hb.size)
 exact ⟨rfl, hb', by rw [hw]; simp, fun Z hZ => all_seq nd w0 n T l Z w.heap.size hM hT ha (h0.trans (hZ.below h0.size fun i hi => hi.1)) (hZ.heap hs fun h => h.2 rfl)⟩
end
section
open Go.RowKit
theorem row11_obj {w : World} {B : Nat} {e : TypeId} {size : Nat} {v : Value} {n : Nat} {xs : List Value} {m : Nat} {o o' : Obj} (h : w.ownsRow B e size v n xs) (hm : w.heap[m]? = some o) (hc : o.isCells = false) : (w.putObj m o').ownsRow B e size v n xs := row11_other h fun g cs hg hh => by
 by_cases e : g = m
 ·subst e; rw [hh] at hm; cases hm; cases hc
 ·exact (World.putObj_heap_other e).trans hh
def mE (n : Nat) : Array Value := madeCells (Value.agg (((List.range 32).map fun _ => (0 : UInt8)).map bv ++ [Value.slice none 0 0]).toArray).cells (n * 33)
theorem make_ents (n : Nat) (hn : n ≤ 1000000) (w : World) : (Instr.makeSlice 30 (.int .i64 0) (.int .i64 (n : Int))).run Tryz.prog w = .ok (.slice (some ⟨w.heap.size, 0, none⟩) 0 n) (w.alloc (.cells (mE n) 42)) := by
 obtain ⟨i, hi, hz, hs, hb⟩ := info_parts infoE3
 have hr := run_make (P := Tryz.prog) w 30 42 i _ Tryz.underlying30 hi hz .i64 .i64 0 (n : Int) (by omega) (by omega) (by rw [hb]; omega) (by omega)
 rw [Int.toNat_natCast, hs] at hr
 exact hr
theorem own_ents (w : World) (n : Nat) (hn : n ≤ 1000000) : OwnE (w.alloc (.cells (mE n) 42)) w.heap.size (.slice (some ⟨w.heap.size, 0, none⟩) 0 n) [] :=
 ⟨rfl, .inr ⟨w.heap.size, n, mE n, rfl, Nat.le_refl _, heap_alloc_new w _, Nat.zero_le _, by unfold maxLen; omega, by unfold mE; rw [size_madeCells], by simp⟩⟩
theorem wpList_pushE11 {ops : Array Oper} {rest : List Oper} {o : Oper} {a : Act} {w : World} {Q : Exit → Act → World → Prop} (hgd : o.guard = none) (s x : Operand)
  (ho : o.op = .call { callee := .builtin .append, args := #[s, x], argTypes := #[30, 30] }) (B : Nat) (v : Value) (es : List En) (hs : a.eval s = v) (hown : OwnE w B v es) (g : Nat) (e : En) (hk : e.k.length = 32)
  (hx : a.eval x = .slice (some ⟨g, 0, none⟩) 1 1) (hr : w.rangeAt g 0 (enC e)) (hl : es.length ≤ 1000000) (hB : B ≤ w.heap.size)
  (h : ∀ v' w', OwnE w' B v' (es ++ [e]) → Grown11 v v' w w' → wpList Tryz.prog ops Q rest (a.put o.dst v') w') : wpList Tryz.prog ops Q (o :: rest) a w := by
 obtain ⟨i0, hi, hz0, hz1, hz2⟩ := info_parts infoE3
 refine wpList_append_own_at (w := w) hgd s x 30 ho B 42 i0 _ 33 56 Tryz.underlying30 hi hz0 hz1 hz2 rfl (by decide) v es.length (es.flatMap enC) hs hown ⟨g, 0, none⟩ 1 1 (enC e) hx (by rw [enC_len hk])
  (fun j u hj => ?_) (fun u hu => enC_one e u hu) (by unfold maxLen; omega) (by omega) hB fun v' w' h1 h2 _ h4 => h v' w' ?_ ⟨h2, h4⟩
 ·have := hr j u hj
  rwa [show (⟨g, 0, none⟩ : Addr).add j = ⟨g, 0 + j, none⟩ from add_none g 0 j]
 ·unfold OwnE
  rw [List.flatMap_append, List.length_append]
  simpa using h1
def mI (n : Nat) : Array Value := madeCells (Value.int .i64 0).cells (n * 1)
end
section
open Go.RowKit
attribute [local go_sem] Oper.semAt_some
theorem ba11_keep {V F : World} {g : Nat} {l : List UInt8} {L : Nat → Prop} (h : BA V (some ⟨g, 0, none⟩) l) (hk : Keep L V F) (hL : ¬ L g) : BA F (some ⟨g, 0, none⟩) l := fun j x hj => by
 obtain ⟨b, o, hA, hc⟩ := h j x hj
 cases hA
 exact ⟨_, _, rfl, hk.cellAt hc hL⟩
theorem ba11_nil (F : World) (A : Option Addr) {l : List UInt8} (h : l = []) : BA F A l := fun j x hj => by rw [h] at hj; simp at hj
def EnE (B : Nat) (O : Nat → Prop) (v : Value) (X : World) (e : En) : Prop := EnOk X e ∧ (e.v = [] ∨ ∃ g, e.A = some ⟨g, 0, none⟩ ∧ B + 2 ≤ g ∧ g < X.heap.size ∧ ¬ O g ∧ v.ownBlock ≠ some g ∧ CellsAt X g)
theorem EnE.keep {B : Nat} {O O' L : Nat → Prop} {v v' : Value} {X Y : World} {e : En} (h : EnE B O v X e) (hk : Keep L X Y) (hL : ∀ g, B + 2 ≤ g → ¬ O g → v.ownBlock ≠ some g → ¬ L g) (hO : ∀ i, O' i → O i ∨ X.heap.size ≤ i) (hv : ∀ g, v'.ownBlock = some g → v.ownBlock = some g ∨ X.heap.size ≤ g) : EnE B O' v' Y e := by
 obtain ⟨⟨h1, h2, h3⟩, h4⟩ := h
 rcases h4 with h4 | ⟨g, hA, hB, hlt, hg, hvg, hcl⟩
 ·exact ⟨⟨h1, h2, ba11_nil _ _ h4⟩, .inl h4⟩
 ·rw [hA] at h3
  refine ⟨⟨h1, h2, by rw [hA]; exact ba11_keep h3 hk (hL g hB hg hvg)⟩, .inr ⟨g, hA, hB, Nat.lt_of_lt_of_le hlt hk.size, fun h => (hO g h).elim hg fun h => by omega, fun h => (hv g h).elim hvg fun h => by omega, hcl.keep hk (hL g hB hg hvg)⟩⟩
structure EnI (w : World) (b1 lc sc B : Nat) (pre : List Ent) (O : Nat → Prop) (X : World) : Prop where
 bel : Below w.heap.size w X
 row : ∃ v es, X.heap[lc]? = some (.cells #[v] 30 (0, 0)) ∧ OwnE X b1 v es ∧ es.map En.ent = pre ∧ (∀ e ∈ es, EnE B O v X e) ∧ ∀ g, v.ownBlock = some g → g ≠ lc ∧ g ≠ sc ∧ ¬ O g
theorem EnI.keep {w : World} {b1 lc sc B : Nat} {pre : List Ent} {O O' L : Nat → Prop} {X Y : World} (h : EnI w b1 lc sc B pre O X) (hk : Keep L X Y) (hL : ∀ i, L i → O i) (hB : ∀ i, O i → B + 2 ≤ i) (hlc : lc < B) (hw : w.heap.size ≤ B) (hO : ∀ i, O' i → O i ∨ X.heap.size ≤ i) : EnI w b1 lc sc B pre O' Y := by
 obtain ⟨h0, v, es, h1, h2, h3, h4, h5⟩ := h
 refine ⟨h0.trans (hk.below h0.size fun i hi => by have := hB i (hL i hi); omega), v, es, hk.heap h1 fun h => by have := hB _ (hL _ h); omega, row11_keep h2 hk fun g hg h => (h5 g hg).2.2 (hL g h), h3, fun e he => (h4 e he).keep hk (fun g _ hg _ h => hg (hL g h)) hO fun g h => .inl h, fun g hg => ?_⟩
 obtain ⟨e1, e2, e3⟩ := h5 g hg
 exact ⟨e1, e2, fun h => (hO g h).elim e3 fun h => by
  obtain ⟨_, cs, hcs⟩ := row11_lt h2 g hg
  have := lt_of_heap hcs
  omega⟩
theorem EnI.obj {w : World} {b1 lc sc B : Nat} {pre : List Ent} {O : Nat → Prop} {X : World} {m : Nat} {o o' : Obj} (h : EnI w b1 lc sc B pre O X) (h1 : B ≤ m) (h2 : m ≤ B + 1) (hm : X.heap[m]? = some o) (hc : o.isCells = false) (hlc : lc < B) (hw : w.heap.size ≤ B) : EnI w b1 lc sc B pre O (X.putObj m o') := by
 obtain ⟨h0, v, es, g1, g2, g3, g4, g5⟩ := h
 have hk : Keep (fun i => i = m) X (X.putObj m o') := keep_putObj X m o' rfl
 exact ⟨h0.trans (hk.below h0.size fun i hi => by have e : i = m := hi; omega), v, es, (World.putObj_heap_other (by omega)).trans g1, row11_obj g2 hm hc, g3, fun e he => (g4 e he).keep hk (fun g hg _ _ h => by have e : g = m := h; omega) (fun i h => .inl h) fun g h => .inl h, g5⟩
theorem en_push {w V Z w1 : World} {b1 lc sc B : Nat} {pre : List Ent} {O H : Nat → Prop} {v v' : Value} {es : List En} {en : En} {x : Ent} (hlc : lc < B) (hw : w.heap.size ≤ lc) (hls : lc ≠ sc) (hsc : sc < B) (hwb : w.heap.size ≤ b1)
  (hbel : Below w.heap.size w V) (hc : V.heap[lc]? = some (.cells #[v] 30 (0, 0))) (hown : OwnE V b1 v es) (hmap : es.map En.ent = pre) (hes : ∀ e ∈ es, EnE B (fun i => O i ∨ H i) v V e) (hrow : ∀ g, v.ownBlock = some g → g ≠ lc ∧ g ≠ sc ∧ ¬ (O g ∨ H g))
  (hen : EnOk V en) (hx : en.ent = x) (hblk : en.v = [] ∨ ∃ g, en.A = some ⟨g, 0, none⟩ ∧ H g ∧ ¬ O g ∧ CellsAt V g) (hOB : ∀ i, O i ∨ H i → B + 2 ≤ i ∧ i < V.heap.size) (hBV : B < V.heap.size)
  (hZ : Below V.heap.size V Z) (hO' : OwnE w1 b1 v' (es ++ [en])) (hG : Grown11 v v' Z w1) :
  w1.cell? ⟨lc, 0, none⟩ = some v ∧ w1.frozen? ⟨lc, 0, none⟩ = false ∧ Hid (Keeps2 B V (w1.setCell ⟨lc, 0, none⟩ v') ∧ Keep (fun i => (w.heap.size ≤ i ∧ i ≠ sc) ∧ ¬ O i) V (w1.setCell ⟨lc, 0, none⟩ v') ∧ EnI w b1 lc sc B (pre ++ [x]) O (w1.setCell ⟨lc, 0, none⟩ v')) := by
 have hz1 : Z.heap[lc]? = some (.cells #[v] 30 (0, 0)) := by rw [hZ.block _ (lt_of_heap hc)]; exact hc
 have h1 : w1.heap[lc]? = some (.cells #[v] 30 (0, 0)) := hG.keep.heap hz1 fun e => (hrow lc e).1 rfl
 have k1 : Keep (fun i => i = lc) w1 (w1.setCell ⟨lc, 0, none⟩ v') := Keep.cell w1 ⟨lc, 0, none⟩ v'
 have hk : Keep (fun i => i = lc ∨ v.ownBlock = some i) V (w1.setCell ⟨lc, 0, none⟩ v') := ((Keep.of_below hZ).trans (hG.keep.mono fun _ h => .inr h)).trans (k1.mono fun _ h => .inl h)
 have hZs := hZ.size
 have hv' : ∀ g, v'.ownBlock = some g → v.ownBlock = some g ∨ g = Z.heap.size := fun g hg => hG.blk.imp (fun e => by rw [← e]; exact hg) fun e => by rw [e] at hg; cases hg; rfl
 have hlV := lt_of_heap hc
 have hL : ∀ i, (i = lc ∨ v.ownBlock = some i) → w.heap.size ≤ i ∧ i ≠ sc ∧ ¬ O i ∧ (V.heap[i]?.map Obj.isCells = some true) := fun i hi => by
  rcases hi with rfl | hi
  ·exact ⟨hw, hls, fun h => by have := hOB _ (.inl h); omega, by rw [hc]; rfl⟩
  ·obtain ⟨e1, e2, e3⟩ := hrow i hi
   obtain ⟨f1, cs, f2⟩ := row11_lt hown i hi
   exact ⟨by omega, e2, fun h => e3 (.inl h), by rw [f2]; rfl⟩
 refine ⟨by rw [cell_of_cells h1]; rfl, frozen_of_row w1 _ _ _ _ h1, fun k o hk1 hk2 ho hcl => ?_, hk.mono fun i hi => ⟨⟨(hL i hi).1, (hL i hi).2.1⟩, (hL i hi).2.2.1⟩, ?_⟩
 ·refine hk.heap ho fun h => ?_
  have := (hL k h).2.2.2
  rw [ho] at this
  simp [hcl] at this
 ·refine ⟨hbel.trans (hk.below hbel.size fun i hi => (hL i hi).1), v', es ++ [en], set_row h1, row11_keep hO' k1 fun g hg e => ?_, by rw [List.map_append, hmap]; show pre ++ [en.ent] = _; rw [hx], fun e he => ?_, fun g hg => ?_⟩
  ·have e : g = lc := e
   rcases hv' g hg with h | h
   ·exact (hrow g h).1 e
   ·omega
  ·have hOO : ∀ i, O i → (O i ∨ H i) ∨ V.heap.size ≤ i := fun i h => .inl (.inl h)
   have hvv : ∀ g, v'.ownBlock = some g → v.ownBlock = some g ∨ V.heap.size ≤ g := fun g hg => (hv' g hg).imp id fun h => by omega
   rcases List.mem_append.1 he with he | he
   ·exact (hes e he).keep hk (fun g hg _ hvg h => h.elim (fun h => by omega) hvg) hOO hvv
   ·rw [List.mem_singleton.1 he]
    obtain ⟨q1, q2, q3⟩ := hen
    rcases hblk with hb | ⟨g, hA, hH, hnO, hcl⟩
    ·exact ⟨⟨q1, q2, ba11_nil _ _ hb⟩, .inl hb⟩
    ·have hg := hOB g (.inr hH)
     rw [hA] at q3
     exact ⟨⟨q1, q2, by rw [hA]; exact ba11_keep q3 hk fun h => h.elim (fun h => by omega) fun h => (hrow g h).2.2 (.inr hH)⟩, .inr ⟨g, hA, hg.1, Nat.lt_of_lt_of_le hg.2 hk.size, hnO, fun h => (hv' g h).elim (fun h => (hrow g h).2.2 (.inr hH)) fun h => by omega, hcl.keep hk fun h => h.elim (fun h => by omega) fun h => (hrow g h).2.2 (.inr hH)⟩⟩
  ·rcases hv' g hg with h | h
   ·exact ⟨(hrow g h).1, (hrow g h).2.1, fun ho => (hrow g h).2.2 (.inl ho)⟩
   ·exact ⟨by omega, by omega, fun ho => by have := hOB g (.inl ho); omega⟩
end
section
open Go.RowKit
attribute [local go_sem] Oper.semAt_some
def FreshV (B : Nat) (A : Option Addr) (X : World) (e : En) : Prop := e.v = [] ∨ ∃ g, e.A = some ⟨g, 0, none⟩ ∧ B ≤ g ∧ (∀ a, A = some a → a.block ≠ g) ∧ CellsAt X g
theorem entries_cf {M : World → Int → Tv → Prop} (nd : NdV M) (w : World) (n : Int) (T : Tv) (l : List Ent) (hM : M w n T) (hT : IsMap l T) (ha : Asc l) (hl : l.length ≤ 1000) :
  Calls Tryz.prog 45 #[T.val] w fun e w' => ∃ (A : Option Addr) (c : Nat) (es : List En), e = .returned (.slice A es.length c) ∧ EA w' A es ∧ es.map En.ent = l ∧ Below w.heap.size w w' ∧ es.length ≤ c ∧ ∀ e ∈ es, FreshV w.heap.size A w' e := by
 obtain ⟨p, hp⟩ := val_ptr nd hM
 have hlen := hT.len
 have HLN := Lib.hid (nd.len w n T hM (by omega))
 rw [hp, hlen] at HLN
 have HM := Lib.hid hM
 have HT := Lib.hid hT
 have HAS := Lib.hid ha
 have HL := Lib.hid hl
 have HP := Lib.hid hp
 rw [hp]
 clear hM hT ha hl hp hlen
 refine (callsIn_wide (n := 10)).1 ?_
 refine callsIn_of_wp_marks Tryz.func45 rfl trivial ?_ rfl
 simp only [Tryz.ntmps45, List.size_toArray, List.length_cons, List.length_nil, Nat.reduceAdd, Nat.reduceSub, Array.replicate_succ, Array.replicate_zero, List.push_toArray, List.append_toArray, List.nil_append, List.cons_append]
 refine wpIn_wide.2 ?_
 go_wp2_with fail
 refine HLN.out.mono ?_
 rintro _ w1 ⟨rfl, hB1⟩
 have mk := make_ents l.length (by have := HL.out; omega) w1
 obtain ⟨Z1, hZ1⟩ : ∃ Z1, Z1 = w1.alloc (.cells (mE l.length) 42) := ⟨_, rfl⟩
 have hbZ : Below w1.heap.size w1 Z1 := by rw [hZ1]; exact (Below.refl _ _).alloc (Nat.le_refl _) _
 have hzs : Z1.heap.size = w1.heap.size + 1 := by rw [hZ1]; simp
 have hoZ : OwnE Z1 w1.heap.size (.slice (some ⟨w1.heap.size, 0, none⟩) 0 l.length) [] := by rw [hZ1]; exact own_ents w1 l.length (by have := HL.out; omega)
 rw [← hZ1] at mk
 obtain ⟨w2, hw2⟩ : ∃ w2, w2 = Z1.alloc (.cells #[.slice (some ⟨w1.heap.size, 0, none⟩) 0 l.length] 30) := ⟨_, rfl⟩
 have hb2 : Below Z1.heap.size Z1 w2 := by rw [hw2]; exact (Below.refl _ _).alloc (Nat.le_refl _) _
 have hs2 : w2.heap.size = w1.heap.size + 2 := by rw [hw2]; simp [hzs]
 have hlc : w2.heap[w1.heap.size + 1]? = some (.cells #[.slice (some ⟨w1.heap.size, 0, none⟩) 0 l.length] 30 (0, 0)) := by rw [hw2, ← hzs]; exact heap_alloc_new Z1 _
 have HO2 := Lib.hid (OwnE.below hoZ hb2)
 have hbw2 : Below w.heap.size w w2 := (hB1.trans (hbZ.mono hB1.size)).trans (hb2.mono (Nat.le_trans hB1.size hbZ.size))
 have HZS := Lib.hid hzs
 have HW2 := Lib.hid hw2
 have HB1 := Lib.hid hB1
 have HBW2 := Lib.hid hbw2
 have HS2 := Lib.hid hs2
 have HLC := Lib.hid hlc
 clear hZ1 hbZ hoZ hw2 hb2 hs2 hlc hbw2 hB1 HLN
 go_wp2_with fail
 rw [← HW2.out]
 refine (all_h nd w w2 n T l HM.out HBW2.out HT.out HAS.out p HP.out).mono ?_
 rintro _ w3 ⟨rfl, hb3, hs3, hseq⟩
 have HSEQ := Lib.hid (hseq w3 (Keep.refl _ _))
 have HE0 : Hid (EnI w w1.heap.size (w1.heap.size + 1) w2.heap.size w3.heap.size [] (fun _ => False) w3) := by
  have hs2 := HS2.out
  have hg : ∀ g, (Value.slice (some ⟨w1.heap.size, 0, none⟩) 0 l.length).ownBlock = some g → g ≠ w1.heap.size + 1 ∧ g ≠ w2.heap.size ∧ ¬ (fun _ : Nat => False) g := fun g hg => by
   have e : w1.heap.size = g := by simpa [Value.ownBlock] using hg
   exact ⟨by omega, by omega, fun h => h⟩
  exact ⟨HBW2.out.trans (hb3.mono HBW2.out.size), _, [], by rw [hb3.block _ (lt_of_heap HLC.out)]; exact HLC.out, OwnE.below HO2.out hb3, rfl, fun e he => absurd he (List.not_mem_nil), hg⟩
 have HS3 := Lib.hid hs3
 clear mk hb3 hs3 hseq
 go_wp2_with fail
 have hs2 := HS2.out
 have hs3 := HS3.out
 have hw1 := HB1.out.size
 refine (wpIn_wide (n := 10)).1 ?_
 refine wpIn_rangeH (gf := 103) (lb := #[.pointer (some ⟨w2.heap.size, 0, none⟩)]) rfl (enters_of Tryz.func103 (by kernel_rfl) rfl) HSEQ.out
  (fun i h1 h2 => ⟨by omega, by omega⟩) (fun x args O H X h => by obtain ⟨_, A, c, rfl, _⟩ := h; rfl)
  (EnI w w1.heap.size (w1.heap.size + 1) w2.heap.size w3.heap.size) (fun _ _ _ _ => False)
  (fun s O X Y O' h hO hs hk ho => h.keep hk (fun _ h => h) hO (by omega) (by omega) ho)
  (fun s O X m o o' h h1 h2 hm hc => h.obj h1 h2 hm hc (by omega) (by omega))
  (fun _ _ _ _ _ _ h => h.elim) (fun _ _ _ _ _ _ _ h => h.elim)
  (fun X hX => HE0.out.keep (Keep.of_below (L := fun _ => False) hX) (fun _ h => h) (fun _ h => h.elim) (by omega) (by omega) fun _ h => h.elim) ?round ?done ?stop
 case stop =>
  rintro D cc pre O X _ _ h _
  exact h.elim
 case round =>
  rintro m pre x O H args X rfl ⟨r, hr⟩ hI hO hp ⟨hxk, A, c, rfl, hba, hac, hblk⟩
  have st := stK11 (w := X) hxk
  have hD3 := lt_of_heap hr
  obtain ⟨Y3, hY3⟩ : ∃ Y3, Y3 = X.alloc (.cells (bA x.k) 40) := ⟨_, rfl⟩
  have hb3 : Below X.heap.size X Y3 := by rw [hY3]; exact (Below.refl _ _).alloc (Nat.le_refl _) _
  have hk3 : Y3.heap[X.heap.size]? = some (.cells (bA x.k) 40 (0, 0)) := by rw [hY3]; exact heap_alloc_new X _
  have hry : Y3.heap[w3.heap.size + 1]? = some (.loop r) := by rw [hb3.block _ hD3]; exact hr
  have hIY : EnI w w1.heap.size (w1.heap.size + 1) w2.heap.size w3.heap.size pre (fun i => O i ∨ H i) Y3 := hI.keep (Keep.of_below hb3) (fun _ h => h) (fun i h => (hO i h).1) (by omega) (by omega) fun i h => .inl h
  have HIY := Lib.hid hIY
  have HRY := Lib.hid hry
  have HBA3 := Lib.hid (hba.below hb3)
  have HAC := Lib.hid hac
  have HO := Lib.hid hO
  have HP2 := Lib.hid hp
  have HXK := Lib.hid hxk
  have HB3 := Lib.hid hb3
  have HK3 := Lib.hid hk3
  have HY3 := Lib.hid hY3
  have HBK := Lib.hid hblk
  have HD3 : Hid (w3.heap.size + 1 < X.heap.size) := hD3
  clear hr hI hO hp hxk hY3 hb3 hk3 hD3 hry hba hac hblk hIY hs2 hs3 hw1
  gi_wp2
  rw [← HY3.out]
  clear HY3 st
  refine ⟨keeps2_of (keepsO_below HB3.out) _, Keep.of_below HB3.out, HIY.out, fun V _ hkV hIV => ?_⟩
  obtain ⟨g0, v, es, g1, g2, g3, g4, g5⟩ := hIV
  have hd3 := HD3.out
  have hkb : V.heap[X.heap.size]? = some (.cells (bA x.k) 40 (0, 0)) := hkV.heap HK3.out (by omega)
  have hbaV : BA V A x.v := HBA3.out.loop HRY.out hkV
  have lk : ldA 40 V (.pointer (some ⟨X.heap.size, 0, none⟩)) = .ok (.value (.agg (bA x.k))) V := ldA_row (t' := 40) (fr := (0, 0)) hkb Tryz.underlying40 (by rw [bA_size, HXK.out]; exact infoKey)
  have lc : V.cell? ⟨w1.heap.size + 1, 0, none⟩ = some v := by rw [cell_of_cells g1]; rfl
  obtain ⟨en, hen⟩ : ∃ en : En, en = ⟨x.k, A, x.v, c⟩ := ⟨_, rfl⟩
  have hek : en.k.length = 32 := by rw [hen]; exact HXK.out
  have bl : ∀ w, bldA 42 w #[(0, .agg (bA x.k)), (1, .slice A x.v.length c)] = .ok (.value (.agg (enC en).toArray)) w := fun w => by rw [hen]; exact bldEntry ⟨x.k, A, x.v, c⟩ HXK.out w
  have bs := bsE_one en hek
  obtain ⟨Z, hZ⟩ : ∃ Z, Z = V.alloc (.cells (enC en).toArray 42) := ⟨_, rfl⟩
  have hbZ : Below V.heap.size V Z := by rw [hZ]; exact (Below.refl _ _).alloc (Nat.le_refl _) _
  have hrg : Z.rangeAt V.heap.size 0 (enC en) := fun j u hu => by rw [Nat.zero_add, cell_of_cells (show Z.heap[V.heap.size]? = _ by rw [hZ]; exact heap_alloc_new V _)]; simpa using hu
  have hVX : X.heap.size ≤ V.heap.size := Nat.le_trans HB3.out.size hkV.size
  have HVX : Hid (X.heap.size ≤ V.heap.size) := hVX
  have HZ := Lib.hid hZ
  have HBZ := Lib.hid hbZ
  have HRG := Lib.hid hrg
  have HEN := Lib.hid hen
  have HEK := Lib.hid hek
  have HBV := Lib.hid hbaV
  have G0 := Lib.hid g0
  have G1 := Lib.hid g1
  have G2 := Lib.hid g2
  have G3 := Lib.hid g3
  have G4 := Lib.hid g4
  have G5 := Lib.hid g5
  have HOZ := Lib.hid (OwnE.below g2 hbZ)
  have HEL : Hid (es.length ≤ 1000000) := by
   show _ ≤ _
   have h1 := congrArg List.length g3
   have h2 := pre_len HP2.out
   have h3 := HL.out
   rw [List.length_map] at h1
   omega
  have HBB : Hid (w1.heap.size ≤ Z.heap.size) := by show _ ≤ _; have h1 := hbZ.size; have h2 := HS2.out; have h3 := HS3.out; omega
  have HEO : Hid (EnOk V en) := by rw [hen]; exact ⟨HXK.out, HAC.out, hbaV⟩
  have HEX : Hid (en.ent = x) := by rw [hen]; rfl
  have HEB : Hid (en.v = [] ∨ ∃ g, en.A = some ⟨g, 0, none⟩ ∧ H g ∧ ¬ O g ∧ CellsAt V g) := by rw [hen]; exact HBK.out.imp id fun ⟨g, h1, h2, h3, h4⟩ => ⟨g, h1, h2, h3, (h4.below HB3.out).loop HRY.out hkV⟩
  have HOV : Hid (∀ i, O i ∨ H i → w3.heap.size + 2 ≤ i ∧ i < V.heap.size) := fun i h => by have := HO.out i h; omega
  have HSZ : Hid (w1.heap.size + 1 < w3.heap.size ∧ w.heap.size ≤ w1.heap.size ∧ w2.heap.size = w1.heap.size + 2 ∧ w2.heap.size < w3.heap.size ∧ w3.heap.size < V.heap.size) := by
   have h1 := HB1.out.size
   have h2 := HS2.out
   have h3 := HS3.out
   exact ⟨by omega, h1, h2, by omega, by omega⟩
  clear g0 g1 g2 g3 g4 g5 hen hek hZ hbZ hrg hVX hkb hbaV hkV hd3
  refine wpIn_block (round_region (fun ⟨_, _, h⟩ => h) (by rfl) ?_)
  go_wp2_with (at_builtin; rw [← HZ.out]; refine wpList_pushE11 rfl _ _ rfl w1.heap.size v es rfl HOZ.out V.heap.size en HEK.out rfl HRG.out HEL.out HBB.out ?_; intro v' w9 hO9 hG9; obtain ⟨hcell, hfroz, HFIN⟩ := en_push (B := w3.heap.size) (lc := w1.heap.size + 1) (sc := w2.heap.size) HSZ.out.1 (Nat.le_succ_of_le HSZ.out.2.1) (by have := HSZ.out.2.2.1; omega) HSZ.out.2.2.2.1 HSZ.out.2.1 G0.out G1.out G2.out G3.out G4.out G5.out HEO.out HEX.out HEB.out HOV.out HSZ.out.2.2.2.2 HBZ.out hO9 hG9; obtain ⟨A9, c9, rfl, _⟩ := OwnE.len hO9; obtain ⟨N, hN⟩ : ∃ N, N = (es ++ [en]).length := ⟨_, rfl⟩; rw [← hN] at HFIN ⊢; clear hO9 hG9 hN)
  exact HFIN.out
 case done =>
  rintro D O X rfl hI hd
  have hI2 := hI.obj (o' := .deferred none) (Nat.le_refl _) (Nat.le_succ _) hd rfl (by omega) (by omega)
  obtain ⟨_, v, es, g1, g2, g3, g4, _⟩ := hI
  have c1 : X.cell? ⟨w1.heap.size + 1, 0, none⟩ = some v := by rw [cell_of_cells g1]; rfl
  obtain ⟨q0, v', es', q1, q2, q3, q4, _⟩ := hI2
  have e1 : v' = v := by
   rw [World.putObj_heap_other (by omega), g1] at q1
   cases q1
   rfl
  subst e1
  obtain ⟨A, c, rfl, hc, hea⟩ := OwnE.ea q2 fun e he => (q4 e he).1
  have hsz3 : w.heap.size ≤ w3.heap.size := by have h1 := HB1.out.size; have h2 := HS2.out; have h3 := HS3.out; omega
  have hfr : ∀ e ∈ es', FreshV w.heap.size A (X.putObj w3.heap.size (.deferred none)) e := fun e he => (q4 e he).2.imp id fun ⟨g, h1, h2, _, _, h5, h6⟩ => ⟨g, h1, by omega, fun a ha hb => h5 (by rw [ha]; show some a.block = _; rw [hb]), h6⟩
  have HF : Hid (EA (X.putObj w3.heap.size (.deferred none)) A es' ∧ es'.map En.ent = l ∧ Below w.heap.size w (X.putObj w3.heap.size (.deferred none)) ∧ es'.length ≤ c ∧ ∀ e ∈ es', FreshV w.heap.size A (X.putObj w3.heap.size (.deferred none)) e) := ⟨hea, q3, q0, hc, hfr⟩
  have HD := Lib.hid hd
  clear hd g1 g2 g3 g4 q0 q1 q2 q3 q4 hea hs2 hs3 hw1 hfr hsz3
  go_wp2_with fail
  refine ⟨by simp, .inl ⟨_, _, rfl, run_takeDeferred HD.out, ?_⟩⟩
  exact ⟨_, results_tmp rfl _ _ _, A, c, es', rfl, HF.out⟩
theorem entries_cl {M : World → Int → Tv → Prop} (nd : NdV M) (w : World) (n : Int) (T : Tv) (l : List Ent) (hM : M w n T) (hT : IsMap l T) (ha : Asc l) (hl : l.length ≤ 1000) :
  Calls Tryz.prog 45 #[T.val] w fun e w' => ∃ (A : Option Addr) (c : Nat) (es : List En), e = .returned (.slice A es.length c) ∧ EA w' A es ∧ es.map En.ent = l ∧ Below w.heap.size w w' ∧ es.length ≤ c :=
 (entries_cf nd w n T l hM hT ha hl).mono fun _ _ ⟨A, c, es, h1, h2, h3, h4, h5, _⟩ => ⟨A, c, es, h1, h2, h3, h4, h5⟩
theorem entries_c {M : World → Int → Tv → Prop} (nd : NdV M) (w : World) (n : Int) (T : Tv) (l : List Ent) (hM : M w n T) (hT : IsMap l T) (ha : Asc l) (hl : l.length ≤ 1000) :
  Calls Tryz.prog 45 #[T.val] w fun e w' => ∃ (A : Option Addr) (c : Nat) (es : List En), e = .returned (.slice A es.length c) ∧ EA w' A es ∧ es.map En.ent = l ∧ Below w.heap.size w w' :=
 (entries_cl nd w n T l hM hT ha hl).mono fun _ _ ⟨A, c, es, h1, h2, h3, h4, _⟩ => ⟨A, c, es, h1, h2, h3, h4⟩
end
end Go.Proofs.YtkejfdgmdjfdoaaGreatDoor
