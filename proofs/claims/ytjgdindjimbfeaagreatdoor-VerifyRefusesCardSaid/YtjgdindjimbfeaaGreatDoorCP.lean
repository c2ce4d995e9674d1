import Derived.Test.YtjgdindjimbfeaaGreatDoorMR
import Derived.Test.YtjgdindjimbfeaaGreatDoorCA
import Derived.Test.YtjgdindjimbfeaaGreatDoorMP
import Derived.RangeFuncBound
import Derived.RangeFuncLeaves
import Derived.RangeFuncCalls
import Derived.Shelf.Abstract
import Derived.Shelf.RegionOpen
import Derived.OwnWalkIn
import Derived.TacticsInMore
import Derived.LoopNIn
import Derived.LoopIn
import Derived.Test.YtjgdindjimbfeaaGreatDoorMF
import Derived.Test.YtjgdindjimbfeaaGreatDoorMM
import Derived.Test.YtjgdindjimbfeaaGreatDoorBD
namespace Go.Proofs.YtjgdindjimbfeaaGreatDoor
set_option linter.unusedSimpArgs false
set_option linter.unusedVariables false
set_option maxHeartbeats 8000000
set_option maxRecDepth 100000
section
open Go.RowKit
def BearsW (J : (Nat → Prop) → World → Prop) : Prop := ∀ O X Y O', J O X → Keep O X Y → (∀ i, O' i → O i ∨ X.heap.size ≤ i) → J O' Y
def SeqO {α : Type} (P : Program) (g : FuncId) (lb : Array Value) (E : α → Array Value → World → Prop) (M : Nat → Prop) (xs : List α) (w : World) : Prop :=
 ∀ (n l : Nat) (J : Bool → List α → (Nat → Prop) → World → Prop) (W : World), Below w.heap.size w W → (∀ b s, BearsW (J b s)) →
  (∀ pre x O args X, J true pre O X → (∀ i, O i → W.heap.size ≤ i ∧ i < X.heap.size) → pre ++ [x] <+: xs → E x args X → YieldAt Fence.wide (n - 1) P l args X fun e Y => ∃ b, e = .returned (.bool b) ∧ J b (pre ++ [x]) O Y ∧ Keep (fun i => M i ∧ ¬ O i) X Y) →
  J true [] (fun _ => False) W →
  CallsIn Fence.wide n P g (#[.func (.yield l) #[] #[]] ++ lb) W fun e Y => (∃ v, e = .returned v) ∧ ∃ O, J true xs O Y ∨ ∃ pre, pre <+: xs ∧ J false pre O Y
def Keeps2 (B : Nat) (X Y : World) : Prop := ∀ (k : Nat) (o : Obj), B ≤ k → k ≤ B + 1 → X.heap[k]? = some o → o.isCells = false → Y.heap[k]? = some o
theorem Keeps2.refl (B : Nat) (X : World) : Keeps2 B X X := fun _ _ _ _ h _ => h
theorem Keeps2.of_keep {B : Nat} {X Y : World} {L : Nat → Prop} (h : Keep L X Y) (h0 : ¬ L B) (h1 : ¬ L (B + 1)) : Keeps2 B X Y := fun k o hk hk2 ho _ => by
 rcases Nat.eq_or_lt_of_le hk with rfl | hlt
 ·exact h.heap ho h0
 ·have e : k = B + 1 := by omega
  subst e
  exact h.heap ho h1
theorem round_end2 {P : Program} {D : Nat} {X Y : World} {r r' : Loop} (jump : Option Code) (hX : X.heap[D + 1]? = some (.loop r)) (hd : X.heap[D]? = some (.deferred (some []))) (hk : Keeps2 D X Y)
  (hr : { r with state := if jump.isNone then .ready else .done, pending := jump } = r') :
  (Instr.endRound (D + 1) jump).run P Y = .ok (.bool jump.isNone) (Y.putObj (D + 1) (.loop r')) ∧ (Y.putObj (D + 1) (.loop r')).heap[D]? = some (.deferred (some [])) ∧ (Y.putObj (D + 1) (.loop r')).heap[D + 1]? = some (.loop r') ∧
   ∃ o, Y.heap[D + 1]? = some o ∧ o.isCells = false := by
 have h1 := hk _ _ (Nat.le_succ D) (Nat.le_refl _) hX rfl
 have h2 := hk _ _ (Nat.le_refl D) (Nat.le_succ _) hd rfl
 refine ⟨by rw [← hr]; exact run_endRound jump h1, (World.putObj_heap_other (by omega)).trans h2, World.putObj_heap_same (Array.getElem?_eq_some_iff.1 h1).1, _, h1, rfl⟩
def endO {α : Type} (B : Nat) (M O : Nat → Prop) (I : List α → (Nat → Prop) → World → Prop) (Ix : Code → List α → (Nat → Prop) → World → Prop) (s : List α) (X : World) : Exit → Act → World → Prop
 | .normal, _, Y => Keeps2 B X Y ∧ Keep (fun i => M i ∧ ¬ O i) X Y ∧ I s O Y
 | .ret, _, Y => Keeps2 B X Y ∧ Keep (fun i => M i ∧ ¬ O i) X Y ∧ Ix .ret s O Y
 | .exit i, _, Y => Keeps2 B X Y ∧ Keep (fun i => M i ∧ ¬ O i) X Y ∧ Ix (.exit i) s O Y
 | .goto t, _, Y => Keeps2 B X Y ∧ Keep (fun i => M i ∧ ¬ O i) X Y ∧ Ix (.goto t) s O Y
 | .panic _, _, _ => False
 | .outgrown, _, _ => False
def JO {α : Type} (D : Nat) (rc : LoopState → Option Code → Loop) (I : List α → (Nat → Prop) → World → Prop) (Ix : Code → List α → (Nat → Prop) → World → Prop) (b : Bool) (s : List α) (O : Nat → Prop) (X : World) : Prop :=
 (∀ i, O i → D + 2 ≤ i) ∧ X.heap[D]? = some (.deferred (some [])) ∧ match b with
  | true => I s O X ∧ X.heap[D + 1]? = some (.loop (rc .ready none))
  | false => ∃ c, Ix c s O X ∧ X.heap[D + 1]? = some (.loop (rc .done (some c)))
def BearsL (B : Nat) (J : World → Prop) : Prop := ∀ X l o o', J X → B ≤ l → l ≤ B + 1 → X.heap[l]? = some o → o.isCells = false → J (X.putObj l o')
def BearsB (B : Nat) (J : (Nat → Prop) → World → Prop) : Prop := ∀ O X Y O', J O X → (∀ i, O i → B + 2 ≤ i) → B + 2 ≤ X.heap.size → Keep O X Y → (∀ i, O' i → O i ∨ X.heap.size ≤ i) → J O' Y
theorem wpIn_rangeO {α : Type} {P : Program} {n : Nat} {g : Operand} {ps : Array Tmp} {assign body : Code} {Q : Exit → Act → World → Prop} {a : Act} {w : World}
  {gf : Nat} {lb : Array Value} (hg : a.eval g = .func (.func gf) #[] lb) (eg : ∀ args w, (callFunc gf args).run P w = .ok (.enter gf args) w)
  {E : α → Array Value → World → Prop} {M : Nat → Prop} {xs : List α} (hseq : SeqO P gf lb E M xs w) (hM : ∀ i, w.heap.size ≤ i → i ≤ w.heap.size + 1 → M i) (hps : ∀ x args X, E x args X → args.size = ps.size)
  (I : List α → (Nat → Prop) → World → Prop) (Ix : Code → List α → (Nat → Prop) → World → Prop) (hI : ∀ s, BearsB w.heap.size (I s)) (hIo : ∀ s O, BearsL w.heap.size (I s O)) (hX : ∀ c s, BearsB w.heap.size (Ix c s)) (hXo : ∀ c s O, BearsL w.heap.size (Ix c s O)) (h0 : ∀ X, Below w.heap.size w X → I [] (fun _ => False) X)
  (hround : ∀ (l : Nat) (pre : List α) (x : α) (O : Nat → Prop) (args : Array Value) (X : World), l = w.heap.size + 1 → (∃ r, X.heap[l]? = some (.loop r)) → I pre O X → (∀ i, O i → w.heap.size + 2 ≤ i ∧ i < X.heap.size) → pre ++ [x] <+: xs → E x args X →
   assign.wpIn (Fence.wide.inRound l) (n - 1 - 1) P (Exit.then (fun a' Y => Keeps2 w.heap.size X Y ∧ Keep (fun i => M i ∧ ¬ O i) X Y ∧ I pre O Y ∧ ∀ V, (∃ r, V.heap[l]? = some (.loop r)) → Keep (fun i => i = w.heap.size + 1) Y V → I pre O V →
    body.wpIn (Fence.wide.inRound l) (n - 1 - 1) P (endO w.heap.size M O I Ix (pre ++ [x]) V) a' V) (fun _ _ _ => False)) { tmps := (ps.zip args).foldl (fun t (p, v) => t.setIfInBounds p v) a.tmps, defers := [] } X)
  (hdone : ∀ (D : Nat) (O : Nat → Prop) (X : World), D = w.heap.size → I xs O X → X.heap[D]? = some (.deferred (some [])) → Q .normal { a with defers := { target := .collected D, args := #[] } :: a.defers } X)
  (hstop : ∀ (D : Nat) (c : Code) (pre : List α) (O : Nat → Prop) (X : World), D = w.heap.size → pre <+: xs → Ix c pre O X → X.heap[D]? = some (.deferred (some [])) →
   c.wpIn Fence.wide n P Q { a with defers := { target := .collected D, args := #[] } :: a.defers } X) :
  (Code.rangeFunc g ps assign body).wpIn Fence.wide n P Q a w := by
 refine wpIn_rangeFunc fun fn hfn => ?_
 obtain ⟨rc, hrc⟩ : ∃ rc : LoopState → Option Code → Loop, rc = fun st pe => { state := st, pending := pe, fn, tmps := a.tmps, params := ps, assign, body, defers := w.heap.size } := ⟨_, rfl⟩
 obtain ⟨Z, hZ⟩ : ∃ Z, Z = (w.alloc (.deferred (some []))).alloc (.loop (rc .ready none)) := ⟨_, rfl⟩
 have zl : Z.heap[w.heap.size + 1]? = some (.loop (rc .ready none)) := by
  have := World.alloc_heap_new (w.alloc (.deferred (some []))) (.loop (rc .ready none))
  rwa [World.size_alloc, ← hZ] at this
 have zd : Z.heap[w.heap.size]? = some (.deferred (some [])) := by
  rw [hZ]
  exact (Below.heap_alloc _ _ _ (by simp)).trans (World.alloc_heap_new w _)
 have zs : Z.heap.size = w.heap.size + 2 := by rw [hZ]; simp
 have zb : Below w.heap.size w Z := by rw [hZ]; exact ((Below.refl _ w).alloc (Nat.le_refl _) _).alloc (by simp) _
 have ent := run_enterLoop_outer (P := P) (w := w) fn a.tmps ps assign body
 have hZ2 : (w.alloc (.deferred (some []))).alloc (.loop { state := .ready, pending := none, fn, tmps := a.tmps, params := ps, assign, body, defers := w.heap.size }) = Z := by rw [hZ, hrc]
 rw [hZ2] at ent
 refine ⟨_, _, Z, { target := .fn (.func gf) lb, args := #[.func (.yield (w.heap.size + 1)) #[] #[]] }, Z, gf, _, Z, ent, ?_, fun _ _ => trivial, ?_, (fun h => by cases h), (hseq (n - 1) (w.heap.size + 1) (JO w.heap.size rc I Ix) Z zb ?_ ?_ ⟨fun _ h => h.elim, zd, h0 Z zb, zl⟩).mono ?_⟩
 ·simp only [resolve, hg]
  simp [go_sem]
 ·simp [invoke, go_sem, eg]
 ·rintro b s O X Y O' ⟨hO, hd, h⟩ hk ho
  have hnD : ¬ O w.heap.size := fun h => by have := hO _ h; omega
  have hnl : ¬ O (w.heap.size + 1) := fun h => by have := hO _ h; omega
  have hsz : w.heap.size + 2 ≤ X.heap.size := by
   cases b with
   | true => have := (Array.getElem?_eq_some_iff.1 h.2).1; omega
   | false => obtain ⟨c, _, h2⟩ := h; have := (Array.getElem?_eq_some_iff.1 h2).1; omega
  refine ⟨fun i hi => (ho i hi).elim (hO i) fun h => by omega, hk.heap hd hnD, ?_⟩
  cases b with
  | true => exact ⟨hI s O X Y O' h.1 hO hsz hk ho, hk.heap h.2 hnl⟩
  | false =>
   obtain ⟨c, h1, h2⟩ := h
   exact ⟨c, hX c s O X Y O' h1 hO hsz hk ho, hk.heap h2 hnl⟩
 ·rintro pre x O args X ⟨hO, hd, hi, hl⟩ hOX hp hE
  rw [zs] at hOX
  refine ⟨_, _, _, _, run_yield hl (by rw [hrc]; exact hps x args X hE), roundIn_of_wpIn (by rw [hrc]; exact hfn) ?_⟩
  rw [hrc]
  refine wpIn_mono (hround _ pre x O args X rfl ⟨_, hl⟩ hi hOX hp hE) fun e a' Y h => ?_
  cases e with
  | ret => exact h.elim
  | exit _ => exact h.elim
  | goto _ => exact h.elim
  | panic _ => exact h.elim
  | outgrown => exact h.elim
  | normal =>
  obtain ⟨hf, hm, hi2, hb⟩ := h
  have hl2 := hf _ _ (Nat.le_succ _) (Nat.le_refl _) hl rfl
  have hd2 := hf _ _ (Nat.le_refl _) (Nat.le_succ _) hd rfl
  refine ⟨_, run_beginRound hl2 (by rw [hrc]), ?_⟩
  obtain ⟨V, hV⟩ : ∃ V, V = Y.putObj (w.heap.size + 1) (.loop { rc .ready none with state := .busy }) := ⟨_, rfl⟩
  rw [← hV]
  have hnl : ¬ O (w.heap.size + 1) := fun h => by have := hO _ h; omega
  have vl : V.heap[w.heap.size + 1]? = some (.loop { rc .ready none with state := .busy }) := by rw [hV]; exact World.putObj_heap_same (Array.getElem?_eq_some_iff.1 hl2).1
  have vd : V.heap[w.heap.size]? = some (.deferred (some [])) := by rw [hV]; exact (World.putObj_heap_other (by omega)).trans hd2
  have vi : I pre O V := by rw [hV]; exact hIo pre O Y _ _ _ hi2 (Nat.le_succ _) (Nat.le_refl _) hl2 rfl
  have vk : Keep (fun i => i = w.heap.size + 1) Y V := by rw [hV]; exact keep_putObj _ _ _ rfl
  have vm : Keep (fun i => M i ∧ ¬ O i) Y V := by rw [hV]; exact keep_putObj _ _ _ ⟨hM _ (Nat.le_succ _) (Nat.le_refl _), hnl⟩
  refine wpIn_mono (hb V ⟨_, vl⟩ vk vi) fun e a3 U hu => ?_
  cases e with
  | normal =>
   obtain ⟨h1, h2, h3⟩ := hu
   obtain ⟨e1, e2, e3, o, e4, e5⟩ := round_end2 (P := P) (r' := rc .ready none) none vl vd h1 (by rw [hrc]; rfl)
   exact ⟨_, _, e1, true, rfl, ⟨hO, e2, hIo _ O U _ _ _ h3 (Nat.le_succ _) (Nat.le_refl _) e4 e5, by rw [hrc] at e3 ⊢; exact e3⟩, ((hm.trans vm).trans h2).trans (keep_putObj _ _ _ ⟨hM _ (Nat.le_succ _) (Nat.le_refl _), hnl⟩)⟩
  | ret =>
   obtain ⟨h1, h2, h3⟩ := hu
   obtain ⟨e1, e2, e3, o, e4, e5⟩ := round_end2 (P := P) (r' := rc .done (some .ret)) (some .ret) vl vd h1 (by rw [hrc]; rfl)
   exact ⟨_, _, e1, false, rfl, ⟨hO, e2, _, hXo _ _ O U _ _ _ h3 (Nat.le_succ _) (Nat.le_refl _) e4 e5, by rw [hrc] at e3 ⊢; exact e3⟩, ((hm.trans vm).trans h2).trans (keep_putObj _ _ _ ⟨hM _ (Nat.le_succ _) (Nat.le_refl _), hnl⟩)⟩
  | exit i =>
   obtain ⟨h1, h2, h3⟩ := hu
   obtain ⟨e1, e2, e3, o, e4, e5⟩ := round_end2 (P := P) (r' := rc .done (some (.exit i))) (some (.exit i)) vl vd h1 (by rw [hrc]; rfl)
   exact ⟨_, _, e1, false, rfl, ⟨hO, e2, _, hXo _ _ O U _ _ _ h3 (Nat.le_succ _) (Nat.le_refl _) e4 e5, by rw [hrc] at e3 ⊢; exact e3⟩, ((hm.trans vm).trans h2).trans (keep_putObj _ _ _ ⟨hM _ (Nat.le_succ _) (Nat.le_refl _), hnl⟩)⟩
  | goto t =>
   obtain ⟨h1, h2, h3⟩ := hu
   obtain ⟨e1, e2, e3, o, e4, e5⟩ := round_end2 (P := P) (r' := rc .done (some (.goto t))) (some (.goto t)) vl vd h1 (by rw [hrc]; rfl)
   exact ⟨_, _, e1, false, rfl, ⟨hO, e2, _, hXo _ _ O U _ _ _ h3 (Nat.le_succ _) (Nat.le_refl _) e4 e5, by rw [hrc] at e3 ⊢; exact e3⟩, ((hm.trans vm).trans h2).trans (keep_putObj _ _ _ ⟨hM _ (Nat.le_succ _) (Nat.le_refl _), hnl⟩)⟩
  | panic _ => exact hu.elim
  | outgrown => exact hu.elim
 ·rintro e Y ⟨⟨v, rfl⟩, O, ⟨_, hd, hi, hl⟩ | ⟨pre, hp, _, hd, c, hi, hl⟩⟩
  ·have := run_endLoop (P := P) hl (by rw [hrc]; simp)
   rw [show (rc .ready none).pending = none by rw [hrc]] at this
   exact ⟨_, _, this, hdone _ O _ rfl (hIo _ O Y _ _ _ hi (Nat.le_succ _) (Nat.le_refl _) hl rfl) ((World.putObj_heap_other (by omega)).trans hd)⟩
  ·have := run_endLoop (P := P) hl (by rw [hrc]; simp)
   rw [show (rc .done (some c)).pending = some c by rw [hrc]] at this
   exact ⟨_, _, this, hstop _ c pre O _ rfl hp (hXo c _ O Y _ _ _ hi (Nat.le_succ _) (Nat.le_refl _) hl rfl) ((World.putObj_heap_other (by omega)).trans hd)⟩
end
section
open Go.RowKit
def SeqS {α : Type} (P : Program) (g : FuncId) (lb : Array Value) (E : α → Array Value → (Nat → Prop) → (Nat → Prop) → World → Prop) (M L : Nat → Prop) (S : List α → World → Prop) (xs : List α) (w : World) : Prop :=
 ∀ (n l : Nat) (J : Bool → List α → (Nat → Prop) → World → Prop) (W : World), Below w.heap.size w W → (∀ b s, BearsW (J b s)) →
  (∀ pre x O H args X, J true pre (fun i => O i ∨ H i) X → (∀ i, L i → O i) → (∀ i, O i ∨ H i → (L i ∨ W.heap.size ≤ i) ∧ i < X.heap.size) → pre ++ [x] <+: xs → E x args O H X → S (pre ++ [x]) X →
   YieldAt Fence.wide (n - 1) P l args X fun e Y => ∃ b, e = .returned (.bool b) ∧ J b (pre ++ [x]) O Y ∧ Keep (fun i => M i ∧ ¬ O i) X Y) →
  J true [] L W →
  CallsIn Fence.wide n P g (#[.func (.yield l) #[] #[]] ++ lb) W fun e Y => (∃ v, e = .returned v) ∧ ∃ O, (J true xs O Y ∧ S xs Y) ∨ ∃ pre, pre <+: xs ∧ J false pre O Y ∧ S pre Y
def JS {α : Type} (L : Nat → Prop) (D : Nat) (rc : LoopState → Option Code → Loop) (I : List α → (Nat → Prop) → World → Prop) (Ix : Code → List α → (Nat → Prop) → World → Prop) (b : Bool) (s : List α) (O : Nat → Prop) (X : World) : Prop :=
 (∀ i, O i → L i ∨ D + 2 ≤ i) ∧ X.heap[D]? = some (.deferred (some [])) ∧ match b with
  | true => I s O X ∧ X.heap[D + 1]? = some (.loop (rc .ready none))
  | false => ∃ c, Ix c s O X ∧ X.heap[D + 1]? = some (.loop (rc .done (some c)))
def BearsS (L : Nat → Prop) (B : Nat) (J : (Nat → Prop) → World → Prop) : Prop := ∀ O X Y O', J O X → (∀ i, O i → L i ∨ B + 2 ≤ i) → B + 2 ≤ X.heap.size → Keep O X Y → (∀ i, O' i → O i ∨ X.heap.size ≤ i) → J O' Y
theorem wpIn_rangeS {α : Type} {P : Program} {n : Nat} {g : Operand} {ps : Array Tmp} {assign body : Code} {Q : Exit → Act → World → Prop} {a : Act} {w : World}
  {gf : Nat} {lb : Array Value} (hg : a.eval g = .func (.func gf) #[] lb) (eg : ∀ args w, (callFunc gf args).run P w = .ok (.enter gf args) w)
  {E : α → Array Value → (Nat → Prop) → (Nat → Prop) → World → Prop} {M L : Nat → Prop} {S : List α → World → Prop} {xs : List α} (hseq : SeqS P gf lb E M L S xs w) (hL : ∀ i, L i → i < w.heap.size) (hS : ∀ s, BearsL w.heap.size (S s)) (hM : ∀ i, w.heap.size ≤ i → i ≤ w.heap.size + 1 → M i) (hps : ∀ x args O H X, E x args O H X → args.size = ps.size)
  (I : List α → (Nat → Prop) → World → Prop) (Ix : Code → List α → (Nat → Prop) → World → Prop) (hI : ∀ s, BearsS L w.heap.size (I s)) (hIo : ∀ s O, BearsL w.heap.size (I s O)) (hX : ∀ c s, BearsS L w.heap.size (Ix c s)) (hXo : ∀ c s O, BearsL w.heap.size (Ix c s O)) (h0 : ∀ X, Below w.heap.size w X → I [] L X)
  (hround : ∀ (l : Nat) (pre : List α) (x : α) (O H : Nat → Prop) (args : Array Value) (X : World), l = w.heap.size + 1 → (∃ r, X.heap[l]? = some (.loop r)) → I pre (fun i => O i ∨ H i) X → (∀ i, L i → O i) → (∀ i, O i ∨ H i → (L i ∨ w.heap.size + 2 ≤ i) ∧ i < X.heap.size) → pre ++ [x] <+: xs → E x args O H X → S (pre ++ [x]) X →
   assign.wpIn (Fence.wide.inRound l) (n - 1 - 1) P (Exit.then (fun a' Y => Keeps2 w.heap.size X Y ∧ Keep (fun i => M i ∧ ¬ O i) X Y ∧ I pre (fun i => O i ∨ H i) Y ∧ ∀ V, (∃ r, V.heap[l]? = some (.loop r)) → Keep (fun i => i = w.heap.size + 1) Y V → I pre (fun i => O i ∨ H i) V →
    body.wpIn (Fence.wide.inRound l) (n - 1 - 1) P (endO w.heap.size M O I Ix (pre ++ [x]) V) a' V) (fun _ _ _ => False)) { tmps := (ps.zip args).foldl (fun t (p, v) => t.setIfInBounds p v) a.tmps, defers := [] } X)
  (hdone : ∀ (D : Nat) (O : Nat → Prop) (X : World), D = w.heap.size → I xs O X → S xs X → X.heap[D]? = some (.deferred (some [])) → Q .normal { a with defers := { target := .collected D, args := #[] } :: a.defers } X)
  (hstop : ∀ (D : Nat) (c : Code) (pre : List α) (O : Nat → Prop) (X : World), D = w.heap.size → pre <+: xs → Ix c pre O X → S pre X → X.heap[D]? = some (.deferred (some [])) →
   c.wpIn Fence.wide n P Q { a with defers := { target := .collected D, args := #[] } :: a.defers } X) :
  (Code.rangeFunc g ps assign body).wpIn Fence.wide n P Q a w := by
 refine wpIn_rangeFunc fun fn hfn => ?_
 obtain ⟨rc, hrc⟩ : ∃ rc : LoopState → Option Code → Loop, rc = fun st pe => { state := st, pending := pe, fn, tmps := a.tmps, params := ps, assign, body, defers := w.heap.size } := ⟨_, rfl⟩
 obtain ⟨Z, hZ⟩ : ∃ Z, Z = (w.alloc (.deferred (some []))).alloc (.loop (rc .ready none)) := ⟨_, rfl⟩
 have zl : Z.heap[w.heap.size + 1]? = some (.loop (rc .ready none)) := by
  have := World.alloc_heap_new (w.alloc (.deferred (some []))) (.loop (rc .ready none))
  rwa [World.size_alloc, ← hZ] at this
 have zd : Z.heap[w.heap.size]? = some (.deferred (some [])) := by
  rw [hZ]
  exact (Below.heap_alloc _ _ _ (by simp)).trans (World.alloc_heap_new w _)
 have zs : Z.heap.size = w.heap.size + 2 := by rw [hZ]; simp
 have zb : Below w.heap.size w Z := by rw [hZ]; exact ((Below.refl _ w).alloc (Nat.le_refl _) _).alloc (by simp) _
 have ent := run_enterLoop_outer (P := P) (w := w) fn a.tmps ps assign body
 have hZ2 : (w.alloc (.deferred (some []))).alloc (.loop { state := .ready, pending := none, fn, tmps := a.tmps, params := ps, assign, body, defers := w.heap.size }) = Z := by rw [hZ, hrc]
 rw [hZ2] at ent
 refine ⟨_, _, Z, { target := .fn (.func gf) lb, args := #[.func (.yield (w.heap.size + 1)) #[] #[]] }, Z, gf, _, Z, ent, ?_, fun _ _ => trivial, ?_, (fun h => by cases h), (hseq (n - 1) (w.heap.size + 1) (JS L w.heap.size rc I Ix) Z zb ?_ ?_ ⟨fun _ h => .inl h, zd, h0 Z zb, zl⟩).mono ?_⟩
 ·simp only [resolve, hg]
  simp [go_sem]
 ·simp [invoke, go_sem, eg]
 ·rintro b s O X Y O' ⟨hO, hd, h⟩ hk ho
  have hnD : ¬ O w.heap.size := fun h => by rcases hO _ h with h | h; have := hL _ h; all_goals omega
  have hnl : ¬ O (w.heap.size + 1) := fun h => by rcases hO _ h with h | h; have := hL _ h; all_goals omega
  have hsz : w.heap.size + 2 ≤ X.heap.size := by
   cases b with
   | true => have := (Array.getElem?_eq_some_iff.1 h.2).1; omega
   | false => obtain ⟨c, _, h2⟩ := h; have := (Array.getElem?_eq_some_iff.1 h2).1; omega
  refine ⟨fun i hi => (ho i hi).elim (hO i) fun h => .inr (by omega), hk.heap hd hnD, ?_⟩
  cases b with
  | true => exact ⟨hI s O X Y O' h.1 hO hsz hk ho, hk.heap h.2 hnl⟩
  | false =>
   obtain ⟨c, h1, h2⟩ := h
   exact ⟨c, hX c s O X Y O' h1 hO hsz hk ho, hk.heap h2 hnl⟩
 ·rintro pre x O H args X ⟨hOH, hd, hi, hl⟩ hLO hOX hp hE hSx
  have hO : ∀ i, O i → L i ∨ w.heap.size + 2 ≤ i := fun i h => hOH i (.inl h)
  rw [zs] at hOX
  refine ⟨_, _, _, _, run_yield hl (by rw [hrc]; exact hps x args O H X hE), roundIn_of_wpIn (by rw [hrc]; exact hfn) ?_⟩
  rw [hrc]
  refine wpIn_mono (hround _ pre x O H args X rfl ⟨_, hl⟩ hi hLO hOX hp hE hSx) fun e a' Y h => ?_
  cases e with
  | ret => exact h.elim
  | exit _ => exact h.elim
  | goto _ => exact h.elim
  | panic _ => exact h.elim
  | outgrown => exact h.elim
  | normal =>
  obtain ⟨hf, hm, hi2, hb⟩ := h
  have hl2 := hf _ _ (Nat.le_succ _) (Nat.le_refl _) hl rfl
  have hd2 := hf _ _ (Nat.le_refl _) (Nat.le_succ _) hd rfl
  refine ⟨_, run_beginRound hl2 (by rw [hrc]), ?_⟩
  obtain ⟨V, hV⟩ : ∃ V, V = Y.putObj (w.heap.size + 1) (.loop { rc .ready none with state := .busy }) := ⟨_, rfl⟩
  rw [← hV]
  have hnl : ¬ O (w.heap.size + 1) := fun h => by rcases hO _ h with h | h; have := hL _ h; all_goals omega
  have vl : V.heap[w.heap.size + 1]? = some (.loop { rc .ready none with state := .busy }) := by rw [hV]; exact World.putObj_heap_same (Array.getElem?_eq_some_iff.1 hl2).1
  have vd : V.heap[w.heap.size]? = some (.deferred (some [])) := by rw [hV]; exact (World.putObj_heap_other (by omega)).trans hd2
  have vi : I pre (fun i => O i ∨ H i) V := by rw [hV]; exact hIo pre _ Y _ _ _ hi2 (Nat.le_succ _) (Nat.le_refl _) hl2 rfl
  have vk : Keep (fun i => i = w.heap.size + 1) Y V := by rw [hV]; exact keep_putObj _ _ _ rfl
  have vm : Keep (fun i => M i ∧ ¬ O i) Y V := by rw [hV]; exact keep_putObj _ _ _ ⟨hM _ (Nat.le_succ _) (Nat.le_refl _), hnl⟩
  refine wpIn_mono (hb V ⟨_, vl⟩ vk vi) fun e a3 U hu => ?_
  cases e with
  | normal =>
   obtain ⟨h1, h2, h3⟩ := hu
   obtain ⟨e1, e2, e3, o, e4, e5⟩ := round_end2 (P := P) (r' := rc .ready none) none vl vd h1 (by rw [hrc]; rfl)
   exact ⟨_, _, e1, true, rfl, ⟨hO, e2, hIo _ O U _ _ _ h3 (Nat.le_succ _) (Nat.le_refl _) e4 e5, by rw [hrc] at e3 ⊢; exact e3⟩, ((hm.trans vm).trans h2).trans (keep_putObj _ _ _ ⟨hM _ (Nat.le_succ _) (Nat.le_refl _), hnl⟩)⟩
  | ret =>
   obtain ⟨h1, h2, h3⟩ := hu
   obtain ⟨e1, e2, e3, o, e4, e5⟩ := round_end2 (P := P) (r' := rc .done (some .ret)) (some .ret) vl vd h1 (by rw [hrc]; rfl)
   exact ⟨_, _, e1, false, rfl, ⟨hO, e2, _, hXo _ _ O U _ _ _ h3 (Nat.le_succ _) (Nat.le_refl _) e4 e5, by rw [hrc] at e3 ⊢; exact e3⟩, ((hm.trans vm).trans h2).trans (keep_putObj _ _ _ ⟨hM _ (Nat.le_succ _) (Nat.le_refl _), hnl⟩)⟩
  | exit i =>
   obtain ⟨h1, h2, h3⟩ := hu
   obtain ⟨e1, e2, e3, o, e4, e5⟩ := round_end2 (P := P) (r' := rc .done (some (.exit i))) (some (.exit i)) vl vd h1 (by rw [hrc]; rfl)
   exact ⟨_, _, e1, false, rfl, ⟨hO, e2, _, hXo _ _ O U _ _ _ h3 (Nat.le_succ _) (Nat.le_refl _) e4 e5, by rw [hrc] at e3 ⊢; exact e3⟩, ((hm.trans vm).trans h2).trans (keep_putObj _ _ _ ⟨hM _ (Nat.le_succ _) (Nat.le_refl _), hnl⟩)⟩
  | goto t =>
   obtain ⟨h1, h2, h3⟩ := hu
   obtain ⟨e1, e2, e3, o, e4, e5⟩ := round_end2 (P := P) (r' := rc .done (some (.goto t))) (some (.goto t)) vl vd h1 (by rw [hrc]; rfl)
   exact ⟨_, _, e1, false, rfl, ⟨hO, e2, _, hXo _ _ O U _ _ _ h3 (Nat.le_succ _) (Nat.le_refl _) e4 e5, by rw [hrc] at e3 ⊢; exact e3⟩, ((hm.trans vm).trans h2).trans (keep_putObj _ _ _ ⟨hM _ (Nat.le_succ _) (Nat.le_refl _), hnl⟩)⟩
  | panic _ => exact hu.elim
  | outgrown => exact hu.elim
 ·rintro e Y ⟨⟨v, rfl⟩, O, ⟨⟨_, hd, hi, hl⟩, hs⟩ | ⟨pre, hp, ⟨_, hd, c, hi, hl⟩, hs⟩⟩
  ·have := run_endLoop (P := P) hl (by rw [hrc]; simp)
   rw [show (rc .ready none).pending = none by rw [hrc]] at this
   exact ⟨_, _, this, hdone _ O _ rfl (hIo _ O Y _ _ _ hi (Nat.le_succ _) (Nat.le_refl _) hl rfl) (hS _ Y _ _ _ hs (Nat.le_succ _) (Nat.le_refl _) hl rfl) ((World.putObj_heap_other (by omega)).trans hd)⟩
  ·have := run_endLoop (P := P) hl (by rw [hrc]; simp)
   rw [show (rc .done (some c)).pending = some c by rw [hrc]] at this
   exact ⟨_, _, this, hstop _ c pre O _ rfl hp (hXo c _ O Y _ _ _ hi (Nat.le_succ _) (Nat.le_refl _) hl rfl) (hS _ Y _ _ _ hs (Nat.le_succ _) (Nat.le_refl _) hl rfl) ((World.putObj_heap_other (by omega)).trans hd)⟩
end
section
open Go.RowKit
theorem OwnB.opened {w : World} {B : Nat} {v : Value} {l : List UInt8} (h : OwnB w B v l) : ∃ A c, v = .slice A l.length c ∧ l.length ≤ c ∧ BA w A l ∧ (∀ a, A = some a → B ≤ a.block ∧ a.block < w.heap.size ∧ ∃ cs, w.heap[a.block]? = some (.cells cs 5 (0, 0))) := by
 obtain ⟨A, c, rfl, hc, hA⟩ := h.any
 refine ⟨A, c, rfl, hc, hA, fun a ha => ?_⟩
 subst ha
 obtain ⟨_, ⟨e, _⟩ | ⟨g, cap, cur, e, hg, hh, _⟩⟩ := h
 ·cases e
 ·cases e
  exact ⟨hg, lt_of_heap hh, _, hh⟩
theorem pend_o (p : Pf) (s : Value) (W : World) (hp : p.Ok) (hk : p.kind = 0 ∨ p.kind = 1) : Calls Tryz.prog 156 #[.agg (pfC p s)] W (RetO W (endP p)) := by
 obtain ⟨X, hX⟩ : ∃ X, X = W.alloc (.cells (pfC p s) 53) := ⟨_, rfl⟩
 have hB : Below W.heap.size W X := by rw [hX]; exact Bt.one_below _ _
 have hP : PfAt X W.heap.size p s := by rw [hX]; exact PfAt.one _ _ _
 have HX := Lib.hid hX
 have HB := Lib.hid hB
 have HP := Lib.hid hP
 have hc0 := hP.kind
 have ll := hP.leaf hp
 have HPO := Lib.hid hp
 rcases hk with hk | hk
 ·have HE : Hid (endP p = emptyL) := by show _ = _; unfold endP; rw [hk]; rfl
  rw [hk, hX] at hc0
  rw [hX] at ll
  clear hB hP hp hX hk
  go_enter Tryz.func156, Tryz.ntmps156
  go_wp2_with fail
  rw [← HX.out]
  refine (pempty_o _).mono ?_
  rintro e w2 ⟨v, rfl, hO, hb⟩
  have HO := Lib.hid (hO.mono HB.out.size)
  have HB2 := Lib.hid (keeps HB.out hb)
  clear hO hb
  go_wp2_with fail
  go_ret
  exact ⟨_, rfl, by rw [HE.out]; exact HO.out, HB2.out⟩
 ·have HE : Hid (endP p = leafL (p.lf.take 32) (p.lf.drop 32)) := by show _ = _; unfold endP; rw [hk, leaf_lf]; rfl
  rw [hk, hX] at hc0
  rw [hX] at ll
  clear hB hP hp hX hk
  go_enter Tryz.func156, Tryz.ntmps156
  go_wp2_with fail
  rw [← HX.out]
  have HC := pleaf_o (p.lf.take 32) (p.lf.drop 32) X (by rw [List.length_take, HPO.out.lf]; rfl) (by rw [List.length_drop, HPO.out.lf])
  rw [List.take_append_drop] at HC
  refine HC.mono ?_
  rintro e w2 ⟨v, rfl, hO, hb⟩
  have HO := Lib.hid (hO.mono HB.out.size)
  have HB2 := Lib.hid (keeps HB.out hb)
  clear hO hb HC
  go_wp2_with fail
  go_ret
  exact ⟨_, rfl, by rw [HE.out]; exact HO.out, HB2.out⟩
end
section
open Go.RowKit Go.Shelf
attribute [local go_sem] Oper.semAt_some
@[go_sem ↓] theorem semAt_loadPf (ro : Option Nat) (ρ : Operand → Value) (dst : Option Tmp) (x : Operand) (type : TypeId) (pos : String) (after : Array Edge) (guard : Option (Nat × Bool)) (w : World) :
  Sem.run Tryz.prog (Oper.semAt ro ρ { dst, op := .load 53 x, type, pos, after, guard }) w = ldA 53 w (ρ x) := by cases ro <;> rfl
@[go_sem ↓] theorem semAt_loadDig (ro : Option Nat) (ρ : Operand → Value) (dst : Option Tmp) (x : Operand) (type : TypeId) (pos : String) (after : Array Edge) (guard : Option (Nat × Bool)) (w : World) :
  Sem.run Tryz.prog (Oper.semAt ro ρ { dst, op := .load 47 x, type, pos, after, guard }) w = ldA 47 w (ρ x) := by cases ro <;> rfl
@[go_sem ↓] theorem semAt_storeDig (ro : Option Nat) (ρ : Operand → Value) (dst : Option Tmp) (x y : Operand) (type : TypeId) (pos : String) (after : Array Edge) (guard : Option (Nat × Bool)) (w : World) :
  Sem.run Tryz.prog (Oper.semAt ro ρ { dst, op := .store 47 x y, type, pos, after, guard }) w = stA 47 w (ρ x) (ρ y) := by cases ro <;> rfl
theorem RoundIn.any16 {P : Program} {n m l l' : Nat} {f : FuncId} {tmps : Array Value} {assign body : Code} {w : World} {R : Ending → World → Prop} (h : RoundIn Fence.wide n P l f tmps assign body w R) : RoundIn (Fence.wide.inRound l') m P l f tmps assign body w R :=
 ⟨trivial, fun c cs _ => h.2 c cs (room_wide _)⟩
theorem SeqC.seqO {α : Type} {P : Program} {g : FuncId} {lb : Array Value} {encs : α → Array Value} {M : Nat → Prop} {xs : List α} {w : World} (h : SeqC P g lb encs M (fun _ => False) xs w) : SeqO P g lb (fun x args _ => args = encs x) M xs w := fun n l J W hW hb hY h0 => by
 refine (h n l (fun b s X => J b s (fun _ => False) X) W hW (fun b s X Y hx hk => hb b s _ X Y _ hx hk fun i h => h.elim) (fun pre x X hj hp => ?_) h0).mono ?_
 ·obtain ⟨fn, tmps, assign, body, hy, hR⟩ := hY pre x (fun _ => False) (encs x) X hj (fun i h => h.elim) hp rfl
  exact ⟨fn, tmps, assign, body, hy, hR.mono fun e Y ⟨b, e1, h1, h2⟩ => ⟨b, e1, h1, fun _ => h2.mono fun _ hi => hi.1⟩⟩
 ·rintro e Y ⟨hv, h | ⟨pre, hp, h⟩⟩
  ·exact ⟨hv, _, .inl h⟩
  ·exact ⟨hv, _, .inr ⟨pre, hp, h⟩⟩
abbrev encB16 (x : List UInt8 × Nat) : Array Value := #[.int .i64 (x.2 : Int), .agg (bA x.1)]
def backs16 (ts : List (List UInt8)) : List (List UInt8 × Nat) := ts.zipIdx.reverse
theorem backs16_len (ts : List (List UInt8)) : (backs16 ts).length = ts.length := by simp [backs16]
theorem backs16_at {ts : List (List UInt8)} {j : Nat} {x : List UInt8 × Nat} (h : (backs16 ts)[j]? = some x) : j < ts.length ∧ x.2 = ts.length - 1 - j ∧ ts[x.2]? = some x.1 := by
 have hj : j < ts.length := by have := (List.getElem?_eq_some_iff.1 h).1; rwa [backs16_len] at this
 unfold backs16 at h
 rw [List.getElem?_reverse (by simpa using hj), List.getElem?_zipIdx, List.length_zipIdx, Nat.zero_add] at h
 obtain ⟨T, hT, rfl⟩ := Option.map_eq_some_iff.1 h
 exact ⟨hj, rfl, hT⟩
theorem backs16_pre {ts : List (List UInt8)} {pre : List (List UInt8 × Nat)} {x : List UInt8 × Nat} (h : pre ++ [x] <+: backs16 ts) : pre.length < ts.length ∧ x.2 = ts.length - 1 - pre.length ∧ ts[x.2]? = some x.1 := by
 obtain ⟨r, hr⟩ := h
 exact backs16_at (by rw [← hr]; simp)
theorem backs16_next {ts : List (List UInt8)} {pre : List (List UInt8 × Nat)} {k : Nat} {T : List UInt8} (h : pre <+: backs16 ts) (hk : pre.length + (k + 1) = ts.length) (hT : ts[k]? = some T) : pre ++ [(T, k)] <+: backs16 ts := by
 obtain ⟨r, hr⟩ := h
 have hl := congrArg List.length hr
 rw [backs16_len, List.length_append] at hl
 match r, hr, hl with
 | [], _, hl => simp at hl; omega
 | y :: s, hr, _ =>
  have hy : (backs16 ts)[pre.length]? = some y := by rw [← hr]; simp
  obtain ⟨_, h2, h3⟩ := backs16_at hy
  have e2 : y.2 = k := by omega
  rw [e2, hT] at h3
  have e : y = (T, k) := by cases y; simp at e2 h3; rw [h3, e2]
  exact ⟨s, by rw [← hr, e]; simp⟩
def idxV16 : Nat → Value
 | 0 => .int .i64 (-1)
 | k + 1 => .int .i64 (k : Int)
theorem idxV16_sub (k : Nat) : Value.int .i64 ((k : Int) - 1) = idxV16 k := by
 cases k with
 | zero => rfl
 | succ k => unfold idxV16; congr 1; omega
def idxN16 (v : Value) : Nat := (intOf v + 1).toNat
structure Bk16 (b rb q : Nat) (A : Option Addr) (c : Nat) (X : List (List UInt8)) (w0 Y : World) : Prop where
 st : Y.heap[q]? = some (.cells #[.slice A X.length c] 51 (0, 0))
 kp : Keep (fun i => i = b ∨ i = rb) w0 Y
theorem Bk16.keep {b rb q : Nat} {A : Option Addr} {c : Nat} {X : List (List UInt8)} {w0 Y Z : World} (h : Bk16 b rb q A c X w0 Y) (hk : Keep (fun i => (i = b ∨ i = rb ∨ w0.heap.size ≤ i) ∧ i ≠ q) Y Z) : Bk16 b rb q A c X w0 Z :=
 ⟨hk.heap h.st fun h => h.2 rfl, h.kp.step hk fun _ hi => hi.1.elim (fun h => .inl (.inl h)) fun h => h.elim (fun h => .inl (.inr h)) .inr⟩
theorem back16_seq (w0 : World) (b rb : Nat) (A : Option Addr) (c : Nat) (X : List (List UInt8)) (hds : ∀ Y, Keep (fun i => i = b ∨ i = rb) w0 Y → DS Y A X) (hl : X.length ≤ 1000) (w : World) (q : Nat) (hw : Bk16 b rb q A c X w0 w) :
  SeqC Tryz.prog 165 #[.pointer (some ⟨q, 0, none⟩)] encB16 (fun i => (i = b ∨ i = rb ∨ w0.heap.size ≤ i) ∧ i ≠ q) (fun _ => False) (backs16 X) w := by
 intro n0 l0 J W hW hJ hY h0
 obtain ⟨m, hm⟩ : ∃ m, m = X.length := ⟨_, rfl⟩
 have hbW := hw.keep (Keep.of_below hW)
 have hc0 : W.cell? ⟨q, 0, none⟩ = some (.slice A m c) := by rw [hm, cell_of_cells hbW.st]; rfl
 have HW0 := Lib.hid hbW
 have HDS := Lib.hid hds
 have HM := Lib.hid hm
 have HML : Hid (m ≤ 1000) := by show _ ≤ _; omega
 have HY := Lib.hid hY
 have HJ0 := Lib.hid h0
 have m0 : m ≤ 1000 := HML.out
 clear hw hW hds hl hJ hY h0 hm hbW
 refine callsIn_of_wp Tryz.func165 rfl trivial ?_ rfl
 simp only [Tryz.ntmps165, List.size_toArray, List.length_cons, List.length_nil, Nat.reduceAdd, Nat.reduceSub, Array.replicate_succ, Array.replicate_zero, List.push_toArray, List.append_toArray, List.nil_append, List.cons_append]
 gi_wp2
 clear hc0
 gi_loopw [3] (fun v wr => ∃ (pre : List (List UInt8 × Nat)) (k : Nat), v = idxV16 k ∧ pre.length + k = m ∧ Hid (pre <+: backs16 X ∧ Bk16 b rb q A c X w0 wr ∧ J true pre wr)) (fun v _ => idxN16 v)
 case atStart => exact ⟨[], m, idxV16_sub m, by simp, List.nil_prefix, HW0.out, HJ0.out⟩
 case round =>
  obtain ⟨pre, k, rfl, hk, HR⟩ := hrel
  obtain ⟨hpre, hb, hj⟩ := HR.out
  cases k with
  | zero =>
   have hall : pre = backs16 X := hpre.eq_of_length (by rw [backs16_len, ← HM.out]; omega)
   subst hall
   have HJF := Lib.hid hj
   unfold idxV16
   clear hj hb hpre HR hk
   gi_wp2
   go_end0
   exact ⟨⟨_, rfl⟩, .inl HJF.out⟩
  | succ k =>
   have hkm : k < X.length := by have := HM.out; omega
   obtain ⟨T, hT⟩ : ∃ T, X[k]? = some T := ⟨_, List.getElem?_eq_getElem hkm⟩
   have hpn := backs16_next hpre (by rw [← HM.out]; exact hk) hT
   obtain ⟨fn, tmps, assign, body, hy, hR⟩ := HY.out pre (T, k) wr hj hpn
   dsimp only [encB16] at hy
   have hc : wr.cell? ⟨q, 0, none⟩ = some (.slice A m c) := by rw [HM.out, cell_of_cells hb.st]; rfl
   obtain ⟨hxl, g, o, rfl, hcell⟩ := HDS.out wr hb.kp k T hT
   have lx : ldA 47 wr (.pointer (some ⟨g, o + k * 32, none⟩)) = .ok (.value (.agg (bA T))) wr := ldDig hcell hxl
   have p0 : (0 : Int) ≤ (k : Int) := by omega
   have p1 : (k : Int) < (m : Int) := by omega
   have HKM : Hid (pre.length + (k + 1) = m) := hk
   have HPN := Lib.hid hpn
   have HB := Lib.hid hb
   have HRD := Lib.hid hR
   unfold idxV16
   clear hpre hb hj HR hT hkm hpn hR hk hcell hxl
   gi_wp2
   refine ⟨fun h => (by cases h), HRD.out.mono ?_⟩
   rintro e W3 ⟨bb, rfl, hJ3, hk3⟩
   have HJ3 := Lib.hid hJ3
   have HK3 := Lib.hid hk3
   clear hJ3 hk3 HRD hy hc lx p0 p1
   cases bb with
   | false =>
    gi_wp2
    refine bodyPost_ret (results_none rfl _ _ _) rfl ?_
    exact ⟨⟨_, rfl⟩, .inr ⟨_, HPN.out, HJ3.out⟩⟩
   | true =>
    have HB3 := Lib.hid (HB.out.keep (HK3.out rfl))
    have HKL : Hid (k ≤ 1000) := by show _ ≤ _; have := HKM.out; have := HML.out; omega
    have k0 : k ≤ 1000 := HKL.out
    gi_wp2
    go_roundw
    case rel => exact ⟨pre ++ [(T, k)], k, idxV16_sub k, by have := HKM.out; simp; omega, HPN.out, HB3.out, HJ3.out⟩
    case measure =>
     rw [show ∀ v, idxN16 (.int .i64 v) = (v + 1).toNat from fun _ => rfl]
     show _ < ((k : Int) + 1).toNat
     omega
theorem backward16_c (A : Option Addr) (n c : Nat) (w : World) : Calls Tryz.prog 157 #[.slice A n c] w fun e w' => e = .returned (.func (.func 165) #[] #[.pointer (some ⟨w.heap.size, 0, none⟩)]) ∧ w' = w.alloc (.cells #[.slice A n c] 51) := by
 go_enter Tryz.func157, Tryz.ntmps157
 go_wp2_with fail
 go_ret
 exact ⟨rfl, rfl⟩
end
section
open Go.RowKit Go.Shelf
theorem zeroD2 : ∀ w, (zeroValue 250).run Tryz.prog w = .ok (.agg (bA z64)) w := fun _ => by kernel_rfl
attribute [go_sem ↓] zeroD2
theorem stD2 {w : World} {u : Nat} {t : TypeId} {a m z x : List UInt8} (h : w.heap[u]? = some (.cells (bA (a ++ (m ++ z))) t (0, 0))) (hm : m.length = 32) (hx : x.length = 32) (i : Nat) (hi : a.length = i) :
  stA 47 w (.pointer (some ⟨u, i, none⟩)) (.agg (bA x)) = .ok .skip (w.setCells u i (x.map bv)) ∧ (w.setCells u i (x.map bv)).heap[u]? = some (.cells (bA (a ++ (x ++ z))) t (0, 0)) := by
 subst hi
 have e : ∀ y, bA (a ++ (y ++ z)) = (a.map bv ++ (y.map bv ++ z.map bv)).toArray := fun y => by simp [bA]
 rw [e] at h
 rw [e]
 have hr := range_mid h
 refine ⟨?_, ?_⟩
 ·unfold stA
  have ht : w.there u a.length 32 := fun j hj => ⟨by
   have := hr j ((m.map bv)[j]'(by rw [List.length_map, hm]; exact hj)) (List.getElem?_eq_getElem _)
   rw [List.length_map] at this
   rw [this]; rfl, frozen_of_row w u _ _ _ h⟩
  rw [Sem.run_bind, run_storeAt_mid (P := Tryz.prog) w u a.length 47 (bA x) (by rw [bA_size, hx]; exact ht) (by rw [bA_size, hx]; exact info26) (bA_one x)]
  simp [Sem.run_pure, Result.andThen_ok, bA]
 ·have := heap_setA u t (x.map bv) a.length w _ h
  have e2 := setA_mid (m.map bv) (x.map bv) (a.map bv) (z.map bv) (by rw [List.length_map, List.length_map, hm, hx])
  rw [List.length_map] at e2
  rw [this, e2]
theorem ldD2 {w : World} {u : Nat} {t : TypeId} {a z : List UInt8} (h : w.heap[u]? = some (.cells (bA (a ++ z)) t (0, 0))) (ha : a.length = 32) (hz : z.length = 32) :
  ldA 47 w (.pointer (some ⟨u, 0, none⟩)) = .ok (.value (.agg (bA a))) w ∧ ldA 47 w (.pointer (some ⟨u, 32, none⟩)) = .ok (.value (.agg (bA z))) w :=
 ⟨ldDig (range_mid (pre := []) (mid := a.map bv) (post := z.map bv) (t := t) (fr := (0, 0)) (by rw [h]; simp [bA])) ha, ldDig (by
  have := range_mid (w := w) (b := u) (pre := a.map bv) (mid := z.map bv) (post := []) (t := t) (fr := (0, 0)) (by rw [h]; simp [bA])
  rwa [List.length_map, ha] at this) hz⟩
theorem pjoin_o (dg x : List UInt8) (bt : Int) (W : World) (hd : dg.length = 32) (hx : x.length = 32) (hb : bt = 0 ∨ bt = 1) : Calls Tryz.prog 158 #[.agg (bA dg), .agg (bA x), .int .i64 bt] W (RetO W (if bt = 0 then nodeL dg x else nodeL x dg)) := by
 obtain ⟨X, hX⟩ : ∃ X, X = (W.alloc (.cells (bA dg) 47)).alloc (.cells (bA x) 47) := ⟨_, rfl⟩
 obtain ⟨w6, hw6⟩ : ∃ w6, w6 = X.alloc (.cells (bA z64) 250) := ⟨_, rfl⟩
 have hz : X.heap.size = W.heap.size + 2 := by rw [hX]; simp
 have hbX : Below W.heap.size W X := by rw [hX]; exact ((Below.refl _ _).alloc (Nat.le_refl _) _).alloc (by simp) _
 have hb6 : Below X.heap.size X w6 := by rw [hw6]; exact Bt.one_below _ _
 have h1 : w6.heap[W.heap.size]? = some (.cells (bA dg) 47 (0, 0)) := by rw [hb6.block _ (by omega), hX]; exact heap_alloc2_old W _ _
 have h2 : w6.heap[W.heap.size + 1]? = some (.cells (bA x) 47 (0, 0)) := by rw [hb6.block _ (by omega), hX]; exact heap_alloc2_new W _ _
 obtain ⟨u, hu⟩ : ∃ u, u = W.heap.size + 1 + 1 := ⟨_, rfl⟩
 have h3 : w6.heap[u]? = some (.cells (bA (z26 ++ z26)) 250 (0, 0)) := by rw [hu, show W.heap.size + 1 + 1 = X.heap.size by omega, hw6]; exact heap_alloc_new _ _
 have HU6 := Lib.hid h3
 have HUE := Lib.hid hu
 have HXE := Lib.hid hX
 have HWE := Lib.hid hw6
 have HZ := Lib.hid hz
 have HB6 : Hid (Below W.heap.size W w6) := hbX.trans (hb6.mono hbX.size)
 have L3 : Hid (∀ v, Keep (fun i => i = u) w6 v → ldA 47 v (.pointer (some ⟨W.heap.size, 0, none⟩)) = .ok (.value (.agg (bA dg))) v) := fun v h => RowB.ldDig (h.heap h1 (by omega)) hd
 have L4 : Hid (∀ v, Keep (fun i => i = u) w6 v → ldA 47 v (.pointer (some ⟨W.heap.size + 1, 0, none⟩)) = .ok (.value (.agg (bA x))) v) := fun v h => RowB.ldDig (h.heap h2 (by omega)) hx
 have HDL := Lib.hid hd
 have HXL2 := Lib.hid hx
 clear hX hw6 hz hbX hb6 h1 h2 h3 hu hd hx
 have wz1 : IntKind.i64.wrap (1 : Int) = 1 := by decide
 have wz0 : IntKind.i64.wrap (0 : Int) = 0 := by decide
 rcases hb with hbt | hbt
 ·subst hbt
  rw [if_pos rfl]
  go_enter Tryz.func158, Tryz.ntmps158
  go_wp2_with fail
  rw [← HXE.out, ← HWE.out, ← HUE.out]
  refine wp_region_held_drew (S := fun w' => Keep (fun i => i = u) w6 w') (by kernel_rfl) ((Keep.refl _ _).drew) (fun hHeld => ?_)
  have hb0 : Keep (fun i => i = u) w6 w6.drew := (Keep.refl _ _).drew
  refine x_t (i := 0) (oi := { dst := some 8, op := .move (.tmp 2), .. }) (v := ?_) rfl (Or.inl ⟨by rfl, ?_⟩) ?_
  rotate_left 1
  ·intro v hSv
   clear hSv
   go_simp
   try with_reducible rfl
  try simp only [Act.put, x_A, x_0, x_1]
  refine x_t (i := 1) (oi := { dst := some 9, op := .move (.tmp 2), .. }) (v := ?_) rfl (Or.inl ⟨by rfl, ?_⟩) ?_
  rotate_left 1
  ·intro v hSv
   clear hSv
   go_simp
   try with_reducible rfl
  try simp only [Act.put, x_A, x_0, x_1]
  refine x_t (i := 2) (oi := { dst := some 10, op := .binOp .sub _ (.const (.int .i64 1)) (.tmp 9) _, .. }) (v := ?_) rfl (Or.inl ⟨by rfl, ?_⟩) ?_
  rotate_left 1
  ·intro v hSv
   clear hSv
   go_simp
   try with_reducible rfl
  try simp only [Act.put, x_A, x_0, x_1]
  refine x_t (i := 3) (oi := { dst := some 11, op := .load _ (.tmp 3), .. }) (v := ?_) rfl (Or.inl ⟨by rfl, ?_⟩) ?_
  rotate_left 1
  ·intro v hSv
   have hv1 := L3.out v hSv
   clear hSv
   go_simp
   try with_reducible rfl
  try simp only [Act.put, x_A, x_0, x_1]
  refine x_t (i := 4) (oi := { dst := some 12, op := .load _ (.tmp 4), .. }) (v := ?_) rfl (Or.inl ⟨by rfl, ?_⟩) ?_
  rotate_left 1
  ·intro v hSv
   have hv1 := L4.out v hSv
   clear hSv
   go_simp
   try with_reducible rfl
  try simp only [Act.put, x_A, x_0, x_1]
  refine x_t (i := 5) (oi := { dst := some 13, op := .indexAddr _ (.tmp 7) (.tmp 8), .. }) (v := ?_) rfl (Or.inl ⟨by rfl, ?_⟩) ?_
  rotate_left 1
  ·intro v hSv
   clear hSv
   go_simp
   try with_reducible rfl
  try simp only [Act.put, x_A, x_0, x_1]
  refine wpAnyH_ready (rs := [6]) (by kernel_rfl) (by simp) ?_
  refine AllReadyH.cons (o := { dst := none, op := .store _ (.tmp 13) (.tmp 11), .. }) rfl (fun K hK => ?_) AllReadyH.nil
  obtain ⟨s9, r9⟩ := stD2 (t := 250) (w := w6.drew) (u := u) (a := []) (m := z26) (z := z26) (x := dg) (by exact HU6.out) rfl HDL.out 0 rfl
  go_simp
  refine hK.out _ _ ((hb0).trans (keep_setCells u _ _ _)) (fun hHeld => ?_)
  clear hK K
  try simp only [Act.put, x_A, x_0, x_1]
  refine x_t (i := 7) (oi := { dst := some 14, op := .indexAddr _ (.tmp 7) (.tmp 10), .. }) (v := ?_) rfl (Or.inl ⟨by rfl, ?_⟩) ?_
  rotate_left 1
  ·intro v hSv
   clear hSv
   go_simp
   try with_reducible rfl
  try simp only [Act.put, x_A, x_0, x_1]
  refine wpAnyH_ready (rs := [8]) (by kernel_rfl) (by simp) ?_
  refine AllReadyH.cons (o := { dst := none, op := .store _ (.tmp 14) (.tmp 12), .. }) rfl (fun K hK => ?_) AllReadyH.nil
  obtain ⟨s11, r11⟩ := stD2 (t := 250) (u := u) (a := dg) (m := z26) (z := []) (x := x) (by simpa using r9) rfl HXL2.out 32 HDL.out
  go_simp
  refine hK.out _ _ ((((hb0).trans (keep_setCells u _ _ _))).trans (keep_setCells u _ _ _)) (fun hHeld => ?_)
  clear hK K
  try simp only [Act.put, x_A, x_0, x_1]
  refine wpAnyH_done (by kernel_rfl) ?_ _
  obtain ⟨w7, hw7⟩ : ∃ w7, w7 = (w6.drew.setCells u 0 (dg.map bv)).setCells u 32 (x.map bv) := ⟨_, rfl⟩
  rw [← hw7] at r11
  have hk7 : Keep (fun i => i = u) w6 w7 := by rw [hw7]; exact ((((hb0).trans (keep_setCells u _ _ _))).trans (keep_setCells u _ _ _))
  have HR7 : Hid (w7.heap[u]? = some (.cells (bA (dg ++ x)) 250 (0, 0))) := by have h := r11; rw [List.append_nil] at h; exact h
  have HB7 : Hid (Below W.heap.size W w7) := HB6.out.trans (hk7.below HB6.out.size fun i hi => by have := HUE.out; omega)
  rw [← hw7]
  obtain ⟨l0, l1⟩ := ldD2 HR7.out HDL.out HXL2.out
  clear hHeld hb0 s9 s11 r9 r11 hw7 hk7
  go_wp2_with fail
  refine (pnode_o dg x w7 HDL.out HXL2.out).mono ?_
  rintro e w8 ⟨v, rfl, hO, hb8⟩
  have HF : Hid (OwnB w8 W.heap.size v (nodeL dg x) ∧ Below W.heap.size W w8) := ⟨hO.mono HB7.out.size, HB7.out.trans (hb8.mono HB7.out.size)⟩
  clear hO hb8 l0 l1
  go_wp2_with fail
  go_ret
  exact ⟨v, rfl, HF.out.1, HF.out.2⟩
 ·subst hbt
  rw [if_neg (by decide)]
  go_enter Tryz.func158, Tryz.ntmps158
  go_wp2_with fail
  rw [← HXE.out, ← HWE.out, ← HUE.out]
  refine wp_region_held_drew (S := fun w' => Keep (fun i => i = u) w6 w') (by kernel_rfl) ((Keep.refl _ _).drew) (fun hHeld => ?_)
  have hb0 : Keep (fun i => i = u) w6 w6.drew := (Keep.refl _ _).drew
  refine x_t (i := 0) (oi := { dst := some 8, op := .move (.tmp 2), .. }) (v := ?_) rfl (Or.inl ⟨by rfl, ?_⟩) ?_
  rotate_left 1
  ·intro v hSv
   clear hSv
   go_simp
   try with_reducible rfl
  try simp only [Act.put, x_A, x_0, x_1]
  refine x_t (i := 1) (oi := { dst := some 9, op := .move (.tmp 2), .. }) (v := ?_) rfl (Or.inl ⟨by rfl, ?_⟩) ?_
  rotate_left 1
  ·intro v hSv
   clear hSv
   go_simp
   try with_reducible rfl
  try simp only [Act.put, x_A, x_0, x_1]
  refine x_t (i := 2) (oi := { dst := some 10, op := .binOp .sub _ (.const (.int .i64 1)) (.tmp 9) _, .. }) (v := ?_) rfl (Or.inl ⟨by rfl, ?_⟩) ?_
  rotate_left 1
  ·intro v hSv
   clear hSv
   go_simp
   try with_reducible rfl
  try simp only [Act.put, x_A, x_0, x_1]
  refine x_t (i := 3) (oi := { dst := some 11, op := .load _ (.tmp 3), .. }) (v := ?_) rfl (Or.inl ⟨by rfl, ?_⟩) ?_
  rotate_left 1
  ·intro v hSv
   have hv1 := L3.out v hSv
   clear hSv
   go_simp
   try with_reducible rfl
  try simp only [Act.put, x_A, x_0, x_1]
  refine x_t (i := 4) (oi := { dst := some 12, op := .load _ (.tmp 4), .. }) (v := ?_) rfl (Or.inl ⟨by rfl, ?_⟩) ?_
  rotate_left 1
  ·intro v hSv
   have hv1 := L4.out v hSv
   clear hSv
   go_simp
   try with_reducible rfl
  try simp only [Act.put, x_A, x_0, x_1]
  refine x_t (i := 5) (oi := { dst := some 13, op := .indexAddr _ (.tmp 7) (.tmp 8), .. }) (v := ?_) rfl (Or.inl ⟨by rfl, ?_⟩) ?_
  rotate_left 1
  ·intro v hSv
   clear hSv
   go_simp
   try with_reducible rfl
  try simp only [Act.put, x_A, x_0, x_1]
  refine wpAnyH_ready (rs := [6]) (by kernel_rfl) (by simp) ?_
  refine AllReadyH.cons (o := { dst := none, op := .store _ (.tmp 13) (.tmp 11), .. }) rfl (fun K hK => ?_) AllReadyH.nil
  obtain ⟨s9, r9⟩ := stD2 (t := 250) (w := w6.drew) (u := u) (a := z26) (m := z26) (z := []) (x := dg) (by exact HU6.out) rfl HDL.out 32 rfl
  go_simp
  refine hK.out _ _ ((hb0).trans (keep_setCells u _ _ _)) (fun hHeld => ?_)
  clear hK K
  try simp only [Act.put, x_A, x_0, x_1]
  refine x_t (i := 7) (oi := { dst := some 14, op := .indexAddr _ (.tmp 7) (.tmp 10), .. }) (v := ?_) rfl (Or.inl ⟨by rfl, ?_⟩) ?_
  rotate_left 1
  ·intro v hSv
   clear hSv
   go_simp
   try with_reducible rfl
  try simp only [Act.put, x_A, x_0, x_1]
  refine wpAnyH_ready (rs := [8]) (by kernel_rfl) (by simp) ?_
  refine AllReadyH.cons (o := { dst := none, op := .store _ (.tmp 14) (.tmp 12), .. }) rfl (fun K hK => ?_) AllReadyH.nil
  obtain ⟨s11, r11⟩ := stD2 (t := 250) (u := u) (a := []) (m := z26) (z := dg) (x := x) (by simpa using r9) rfl HXL2.out 0 rfl
  go_simp
  refine hK.out _ _ ((((hb0).trans (keep_setCells u _ _ _))).trans (keep_setCells u _ _ _)) (fun hHeld => ?_)
  clear hK K
  try simp only [Act.put, x_A, x_0, x_1]
  refine wpAnyH_done (by kernel_rfl) ?_ _
  obtain ⟨w7, hw7⟩ : ∃ w7, w7 = (w6.drew.setCells u 32 (dg.map bv)).setCells u 0 (x.map bv) := ⟨_, rfl⟩
  rw [← hw7] at r11
  have hk7 : Keep (fun i => i = u) w6 w7 := by rw [hw7]; exact ((((hb0).trans (keep_setCells u _ _ _))).trans (keep_setCells u _ _ _))
  have HR7 : Hid (w7.heap[u]? = some (.cells (bA (x ++ dg)) 250 (0, 0))) := r11
  have HB7 : Hid (Below W.heap.size W w7) := HB6.out.trans (hk7.below HB6.out.size fun i hi => by have := HUE.out; omega)
  rw [← hw7]
  obtain ⟨l0, l1⟩ := ldD2 HR7.out HXL2.out HDL.out
  clear hHeld hb0 s9 s11 r9 r11 hw7 hk7
  go_wp2_with fail
  refine (pnode_o x dg w7 HXL2.out HDL.out).mono ?_
  rintro e w8 ⟨v, rfl, hO, hb8⟩
  have HF : Hid (OwnB w8 W.heap.size v (nodeL x dg) ∧ Below W.heap.size W w8) := ⟨hO.mono HB7.out.size, HB7.out.trans (hb8.mono HB7.out.size)⟩
  clear hO hb8 l0 l1
  go_wp2_with fail
  go_ret
  exact ⟨v, rfl, HF.out.1, HF.out.2⟩
end
end Go.Proofs.YtjgdindjimbfeaaGreatDoor
