/- Several texts in one: Rk Yk Ka Kb Kc Kd Kw. -/
import Derived.Test.YtjnhhcbplhmemaaDoorMR
import Derived.Test.YtjnhhcbplhmemaaDoorMT
import Derived.Test.YtjnhhcbplhmemaaDoorM4
import Derived.Test.YtjnhhcbplhmemaaDoorMU
import Derived.BigQuiet
import Derived.Test.YtjnhhcbplhmemaaDoorMO
import Derived.Test.YtjnhhcbplhmemaaDoorMF
import Derived.RangeFuncCalls
import Derived.LaidEqlPtr
import Derived.Test.YtjnhhcbplhmemaaDoorMP
/- A loop over a range function whose iterator owns blocks that it makes while it runs (loops of its own, variables): the contract over the list that comes, each element in memory where it comes; the loop's law. Own work over any program. -/
namespace Go.Proofs.YtjnhhcbplhmemaaDoor
open Go.RowKit

/-- A word over the blocks O that the iterator owns outlives what it does: it writes those, and may own what is new. -/
def BearsW (J : (Nat → Prop) → World → Prop) : Prop := ∀ O X Y O', J O X → Keep O X Y → (∀ i, O' i → O i ∨ X.heap.size ≤ i) → J O' Y
/-- An iterator's word: handed a loop whose rounds keep M, it gives it the elements of xs in their order (E: an element's arguments in memory); between rounds it writes blocks of its own alone (O: made since it began); it stops where a round says so. -/
def SeqO {α : Type} (P : Program) (g : FuncId) (lb : Array Value) (E : α → Array Value → World → Prop) (M : Nat → Prop) (xs : List α) (w : World) : Prop :=
  ∀ (n l : Nat) (J : Bool → List α → (Nat → Prop) → World → Prop) (W : World), Below w.heap.size w W → (∀ b s, BearsW (J b s)) →
    (∀ pre x O args X, J true pre O X → (∀ i, O i → W.heap.size ≤ i ∧ i < X.heap.size) → pre ++ [x] <+: xs → E x args X → YieldAt Fence.wide (n - 1) P l args X fun e Y => ∃ b, e = .returned (.bool b) ∧ J b (pre ++ [x]) O Y ∧ Keep (fun i => M i ∧ ¬ O i) X Y) →
    J true [] (fun _ => False) W →
    CallsIn Fence.wide n P g (#[.func (.yield l) #[] #[]] ++ lb) W fun e Y => (∃ v, e = .returned v) ∧ ∃ O, J true xs O Y ∨ ∃ pre, pre <+: xs ∧ J false pre O Y

/-- The loop's own two blocks are kept. -/
def Keeps2 (B : Nat) (X Y : World) : Prop := ∀ (k : Nat) (o : Obj), B ≤ k → k ≤ B + 1 → X.heap[k]? = some o → o.isCells = false → Y.heap[k]? = some o
theorem Keeps2.refl (B : Nat) (X : World) : Keeps2 B X X := fun _ _ _ _ h _ => h
theorem keeps2_of {X Y : World} (h : KeepsOthers X Y) (B : Nat) : Keeps2 B X Y := fun k o _ _ h1 h2 => h.same k o h1 h2
theorem Keeps2.of_keep {B : Nat} {X Y : World} {L : Nat → Prop} (h : Keep L X Y) (h0 : ¬ L B) (h1 : ¬ L (B + 1)) : Keeps2 B X Y := fun k o hk hk2 ho _ => by
  rcases Nat.eq_or_lt_of_le hk with rfl | hlt
  · exact h.heap ho h0
  · have e : k = B + 1 := by omega
    subst e
    exact h.heap ho h1
/-- .. behind a round: the record turned as the jump wants. -/
theorem round_end2 {P : Program} {D : Nat} {X Y : World} {r r' : Loop} (jump : Option Code) (hX : X.heap[D + 1]? = some (.loop r)) (hd : X.heap[D]? = some (.deferred (some []))) (hk : Keeps2 D X Y)
    (hr : { r with state := if jump.isNone then .ready else .done, pending := jump } = r') :
    (Instr.endRound (D + 1) jump).run P Y = .ok (.bool jump.isNone) (Y.putObj (D + 1) (.loop r')) ∧ (Y.putObj (D + 1) (.loop r')).heap[D]? = some (.deferred (some [])) ∧ (Y.putObj (D + 1) (.loop r')).heap[D + 1]? = some (.loop r') ∧
      ∃ o, Y.heap[D + 1]? = some o ∧ o.isCells = false := by
  have h1 := hk _ _ (Nat.le_succ D) (Nat.le_refl _) hX rfl
  have h2 := hk _ _ (Nat.le_refl D) (Nat.le_succ _) hd rfl
  refine ⟨by rw [← hr]; exact run_endRound jump h1, (World.putObj_heap_other (by omega)).trans h2, World.putObj_heap_same (Array.getElem?_eq_some_iff.1 h1).1, _, h1, rfl⟩

/-- How a round may be left: it goes on, or it leaves by a jump; what the iterator wants kept is kept. -/
def endO {α : Type} (B : Nat) (M O : Nat → Prop) (I : List α → (Nat → Prop) → World → Prop) (Ix : Code → List α → (Nat → Prop) → World → Prop) (s : List α) (X : World) : Exit → Act → World → Prop
  | .normal, _, Y => Keeps2 B X Y ∧ Keep (fun i => M i ∧ ¬ O i) X Y ∧ I s O Y
  | .ret, _, Y => Keeps2 B X Y ∧ Keep (fun i => M i ∧ ¬ O i) X Y ∧ Ix .ret s O Y
  | .exit i, _, Y => Keeps2 B X Y ∧ Keep (fun i => M i ∧ ¬ O i) X Y ∧ Ix (.exit i) s O Y
  | .goto t, _, Y => Keeps2 B X Y ∧ Keep (fun i => M i ∧ ¬ O i) X Y ∧ Ix (.goto t) s O Y
  | .panic _, _, _ => False
  | .outgrown, _, _ => False

/-- The caller's word with the loop's two blocks beside it. -/
def JO {α : Type} (D : Nat) (rc : LoopState → Option Code → Loop) (I : List α → (Nat → Prop) → World → Prop) (Ix : Code → List α → (Nat → Prop) → World → Prop) (b : Bool) (s : List α) (O : Nat → Prop) (X : World) : Prop :=
  (∀ i, O i → D + 2 ≤ i) ∧ X.heap[D]? = some (.deferred (some [])) ∧ match b with
    | true => I s O X ∧ X.heap[D + 1]? = some (.loop (rc .ready none))
    | false => ∃ c, Ix c s O X ∧ X.heap[D + 1]? = some (.loop (rc .done (some c)))

/-- What outlives the turn of one of the loop's own two blocks. -/
def BearsL (B : Nat) (J : World → Prop) : Prop := ∀ X l o o', J X → B ≤ l → l ≤ B + 1 → X.heap[l]? = some o → o.isCells = false → J (X.putObj l o')
/-- What outlives the iterator's doings, where its blocks lie behind the loop's. -/
def BearsB (B : Nat) (J : (Nat → Prop) → World → Prop) : Prop := ∀ O X Y O', J O X → (∀ i, O i → B + 2 ≤ i) → B + 2 ≤ X.heap.size → Keep O X Y → (∀ i, O' i → O i ∨ X.heap.size ≤ i) → J O' Y
/-- The statement 'for .. := range g { .. }' at an outermost loop. -/
theorem wpIn_rangeO {α : Type} {P : Program} {n : Nat} {g : Operand} {ps : Array Tmp} {assign body : Code} {Q : Exit → Act → World → Prop} {a : Act} {w : World}
    {gf : Nat} {lb : Array Value} (hg : a.eval g = .func (.func gf) #[] lb) (eg : ∀ args w, (callFunc gf args).run P w = .ok (.enter gf args) w)
    {E : α → Array Value → World → Prop} {M : Nat → Prop} {xs : List α} (hseq : SeqO P gf lb E M xs w) (hM : ∀ i, w.heap.size ≤ i → i ≤ w.heap.size + 1 → M i) (hps : ∀ x args X, E x args X → args.size = ps.size)
    (I : List α → (Nat → Prop) → World → Prop) (Ix : Code → List α → (Nat → Prop) → World → Prop) (hI : ∀ s, BearsB w.heap.size (I s)) (hIo : ∀ s O, BearsL w.heap.size (I s O)) (hX : ∀ c s, BearsB w.heap.size (Ix c s)) (hXo : ∀ c s O, BearsL w.heap.size (Ix c s O)) (h0 : ∀ X, Below w.heap.size w X → I [] (fun _ => False) X)
    (hround : ∀ (l : Nat) (pre : List α) (x : α) (O : Nat → Prop) (args : Array Value) (X : World), l = w.heap.size + 1 → (∃ r, X.heap[l]? = some (.loop r)) → I pre O X → (∀ i, O i → w.heap.size + 2 ≤ i ∧ i < X.heap.size) → pre ++ [x] <+: xs → E x args X →
      assign.wpIn (Fence.wide.inRound l) (n - 1 - 1) P (Exit.then (fun a' Y => Keeps2 w.heap.size X Y ∧ Keep (fun i => M i ∧ ¬ O i) X Y ∧ I pre O Y ∧ ∀ V, (∃ r, V.heap[l]? = some (.loop r)) → Keep (fun i => i = w.heap.size + 1) Y V → I pre O V →
        body.wpIn (Fence.wide.inRound l) (n - 1 - 1) P (endO w.heap.size M O I Ix (pre ++ [x]) V) a' V) (fun _ _ _ => False)) { tmps := (ps.zip args).foldl (fun t (p, v) => t.setIfInBounds p v) a.tmps, defers := [] } X)
    (hdone : ∀ (D : Nat) (O : Nat → Prop) (X : World), D = w.heap.size → I xs O X → X.heap[D]? = some (.deferred (some [])) → Q .normal { a with defers := { target := .collected D, args := #[] } :: a.defers } X)
    (hstop : ∀ (D : Nat) (c : Code) (pre : List α) (O : Nat → Prop) (X : World), D = w.heap.size → pre <+: xs → Ix c pre O X → X.heap[D]? = some (.deferred (some [])) →
      c.wpIn Fence.wide n P Q { a with defers := { target := .collected D, args := #[] } :: a.defers } X) :
    (Code.rangeFunc g ps assign body).wpIn Fence.wide n P Q a w := by
  refine wpIn_rangeFunc fun fn hfn => ?_
  obtain ⟨rc, hrc⟩ : ∃ rc : LoopState → Option Code → Loop, rc = fun st pe => { state := st, pending := pe, fn, tmps := a.tmps, params := ps, assign, body, defers := w.heap.size } := ⟨_, rfl⟩
  obtain ⟨Z, hZ⟩ : ∃ Z, Z = (w.alloc (.deferred (some []))).alloc (.loop (rc .ready none)) := ⟨_, rfl⟩
  have zl : Z.heap[w.heap.size + 1]? = some (.loop (rc .ready none)) := by
    have := World.alloc_heap_new (w.alloc (.deferred (some []))) (.loop (rc .ready none))
    rwa [World.size_alloc, ← hZ] at this
  have zd : Z.heap[w.heap.size]? = some (.deferred (some [])) := by
    rw [hZ]
    exact (Below.heap_alloc _ _ _ (by simp)).trans (World.alloc_heap_new w _)
  have zs : Z.heap.size = w.heap.size + 2 := by rw [hZ]; simp
  have zb : Below w.heap.size w Z := by rw [hZ]; exact ((Below.refl _ w).alloc (Nat.le_refl _) _).alloc (by simp) _
  have ent := run_enterLoop_outer (P := P) (w := w) fn a.tmps ps assign body
  have hZ2 : (w.alloc (.deferred (some []))).alloc (.loop { state := .ready, pending := none, fn, tmps := a.tmps, params := ps, assign, body, defers := w.heap.size }) = Z := by rw [hZ, hrc]
  rw [hZ2] at ent
  refine ⟨_, _, Z, { target := .fn (.func gf) lb, args := #[.func (.yield (w.heap.size + 1)) #[] #[]] }, Z, gf, _, Z, ent, ?_, fun _ _ => trivial, ?_, (fun h => by cases h), (hseq (n - 1) (w.heap.size + 1) (JO w.heap.size rc I Ix) Z zb ?_ ?_ ⟨fun _ h => h.elim, zd, h0 Z zb, zl⟩).mono ?_⟩
  · simp only [resolve, hg]
    simp [go_sem]
  · simp [invoke, go_sem, eg]
  · rintro b s O X Y O' ⟨hO, hd, h⟩ hk ho
    have hnD : ¬ O w.heap.size := fun h => by have := hO _ h; omega
    have hnl : ¬ O (w.heap.size + 1) := fun h => by have := hO _ h; omega
    have hsz : w.heap.size + 2 ≤ X.heap.size := by
      cases b with
      | true => have := (Array.getElem?_eq_some_iff.1 h.2).1; omega
      | false => obtain ⟨c, _, h2⟩ := h; have := (Array.getElem?_eq_some_iff.1 h2).1; omega
    refine ⟨fun i hi => (ho i hi).elim (hO i) fun h => by omega, hk.heap hd hnD, ?_⟩
    cases b with
    | true => exact ⟨hI s O X Y O' h.1 hO hsz hk ho, hk.heap h.2 hnl⟩
    | false =>
      obtain ⟨c, h1, h2⟩ := h
      exact ⟨c, hX c s O X Y O' h1 hO hsz hk ho, hk.heap h2 hnl⟩
  · rintro pre x O args X ⟨hO, hd, hi, hl⟩ hOX hp hE
    rw [zs] at hOX
    refine ⟨_, _, _, _, run_yield hl (by rw [hrc]; exact hps x args X hE), roundIn_of_wpIn (by rw [hrc]; exact hfn) ?_⟩
    rw [hrc]
    refine wpIn_mono (hround _ pre x O args X rfl ⟨_, hl⟩ hi hOX hp hE) fun e a' Y h => ?_
    cases e with
    | ret => exact h.elim
    | exit _ => exact h.elim
    | goto _ => exact h.elim
    | panic _ => exact h.elim
    | outgrown => exact h.elim
    | normal =>
    obtain ⟨hf, hm, hi2, hb⟩ := h
    have hl2 := hf _ _ (Nat.le_succ _) (Nat.le_refl _) hl rfl
    have hd2 := hf _ _ (Nat.le_refl _) (Nat.le_succ _) hd rfl
    refine ⟨_, run_beginRound hl2 (by rw [hrc]), ?_⟩
    obtain ⟨V, hV⟩ : ∃ V, V = Y.putObj (w.heap.size + 1) (.loop { rc .ready none with state := .busy }) := ⟨_, rfl⟩
    rw [← hV]
    have hnl : ¬ O (w.heap.size + 1) := fun h => by have := hO _ h; omega
    have vl : V.heap[w.heap.size + 1]? = some (.loop { rc .ready none with state := .busy }) := by rw [hV]; exact World.putObj_heap_same (Array.getElem?_eq_some_iff.1 hl2).1
    have vd : V.heap[w.heap.size]? = some (.deferred (some [])) := by rw [hV]; exact (World.putObj_heap_other (by omega)).trans hd2
    have vi : I pre O V := by rw [hV]; exact hIo pre O Y _ _ _ hi2 (Nat.le_succ _) (Nat.le_refl _) hl2 rfl
    have vk : Keep (fun i => i = w.heap.size + 1) Y V := by rw [hV]; exact keep_putObj _ _ _ rfl
    have vm : Keep (fun i => M i ∧ ¬ O i) Y V := by rw [hV]; exact keep_putObj _ _ _ ⟨hM _ (Nat.le_succ _) (Nat.le_refl _), hnl⟩
    refine wpIn_mono (hb V ⟨_, vl⟩ vk vi) fun e a3 U hu => ?_
    cases e with
    | normal =>
      obtain ⟨h1, h2, h3⟩ := hu
      obtain ⟨e1, e2, e3, o, e4, e5⟩ := round_end2 (P := P) (r' := rc .ready none) none vl vd h1 (by rw [hrc]; rfl)
      exact ⟨_, _, e1, true, rfl, ⟨hO, e2, hIo _ O U _ _ _ h3 (Nat.le_succ _) (Nat.le_refl _) e4 e5, by rw [hrc] at e3 ⊢; exact e3⟩, ((hm.trans vm).trans h2).trans (keep_putObj _ _ _ ⟨hM _ (Nat.le_succ _) (Nat.le_refl _), hnl⟩)⟩
    | ret =>
      obtain ⟨h1, h2, h3⟩ := hu
      obtain ⟨e1, e2, e3, o, e4, e5⟩ := round_end2 (P := P) (r' := rc .done (some .ret)) (some .ret) vl vd h1 (by rw [hrc]; rfl)
      exact ⟨_, _, e1, false, rfl, ⟨hO, e2, _, hXo _ _ O U _ _ _ h3 (Nat.le_succ _) (Nat.le_refl _) e4 e5, by rw [hrc] at e3 ⊢; exact e3⟩, ((hm.trans vm).trans h2).trans (keep_putObj _ _ _ ⟨hM _ (Nat.le_succ _) (Nat.le_refl _), hnl⟩)⟩
    | exit i =>
      obtain ⟨h1, h2, h3⟩ := hu
      obtain ⟨e1, e2, e3, o, e4, e5⟩ := round_end2 (P := P) (r' := rc .done (some (.exit i))) (some (.exit i)) vl vd h1 (by rw [hrc]; rfl)
      exact ⟨_, _, e1, false, rfl, ⟨hO, e2, _, hXo _ _ O U _ _ _ h3 (Nat.le_succ _) (Nat.le_refl _) e4 e5, by rw [hrc] at e3 ⊢; exact e3⟩, ((hm.trans vm).trans h2).trans (keep_putObj _ _ _ ⟨hM _ (Nat.le_succ _) (Nat.le_refl _), hnl⟩)⟩
    | goto t =>
      obtain ⟨h1, h2, h3⟩ := hu
      obtain ⟨e1, e2, e3, o, e4, e5⟩ := round_end2 (P := P) (r' := rc .done (some (.goto t))) (some (.goto t)) vl vd h1 (by rw [hrc]; rfl)
      exact ⟨_, _, e1, false, rfl, ⟨hO, e2, _, hXo _ _ O U _ _ _ h3 (Nat.le_succ _) (Nat.le_refl _) e4 e5, by rw [hrc] at e3 ⊢; exact e3⟩, ((hm.trans vm).trans h2).trans (keep_putObj _ _ _ ⟨hM _ (Nat.le_succ _) (Nat.le_refl _), hnl⟩)⟩
    | panic _ => exact hu.elim
    | outgrown => exact hu.elim
  · rintro e Y ⟨⟨v, rfl⟩, O, ⟨_, hd, hi, hl⟩ | ⟨pre, hp, _, hd, c, hi, hl⟩⟩
    · have := run_endLoop (P := P) hl (by rw [hrc]; simp)
      rw [show (rc .ready none).pending = none by rw [hrc]] at this
      exact ⟨_, _, this, hdone _ O _ rfl (hIo _ O Y _ _ _ hi (Nat.le_succ _) (Nat.le_refl _) hl rfl) ((World.putObj_heap_other (by omega)).trans hd)⟩
    · have := run_endLoop (P := P) hl (by rw [hrc]; simp)
      rw [show (rc .done (some c)).pending = some c by rw [hrc]] at this
      exact ⟨_, _, this, hstop _ c pre O _ rfl hp (hXo c _ O Y _ _ _ hi (Nat.le_succ _) (Nat.le_refl _) hl rfl) ((World.putObj_heap_other (by omega)).trans hd)⟩
end Go.Proofs.YtjnhhcbplhmemaaDoor

/- Maps in ascending order of keys; the leaves of what Grow makes, in order: plain facts (layers 10 and 11). -/
namespace Go.Proofs.YtjnhhcbplhmemaaDoor
open Go.RowKit

/-- The first bit that tells two keys apart is 0 in the first one. -/
def LtB (a b : List UInt8) : Prop := ∃ i : Nat, i < 256 ∧ (∀ j : Nat, j < i → bitK a j = bitK b j) ∧ bitK a i = 0 ∧ bitK b i = 1
theorem LtB.com {a b : List UInt8} (h : LtB a b) : comK a b < 256 ∧ bitK a (comK a b : Nat) = 0 ∧ bitK b (comK a b : Nat) = 1 := by
  obtain ⟨i, hi, he, h0, h1⟩ := h
  have h2 := (com_bits (a := a) (b := b) (i := i) (by omega)).2 he
  have h3 : ¬ i + 1 ≤ comK a b := fun h => by
    have := (com_bits (a := a) (b := b) (i := i + 1) (by omega)).1 h i (by omega)
    omega
  have h4 : comK a b = i := by omega
  rw [h4]
  exact ⟨hi, h0, h1⟩
theorem cmpK_com {a b : List UInt8} (h : comK a b < 256) : cmpK a b = bitK a (comK a b : Nat) - bitK b (comK a b : Nat) := by
  rw [bitK_in a (by omega) (by omega), bitK_in b (by omega) (by omega), Int.toNat_natCast]
  exact Bt.cmp_bit (keyF_byt _) (keyF_byt _) h
theorem LtB.cmp {a b : List UInt8} (h : LtB a b) : cmpK a b < 0 := by
  obtain ⟨h1, h2, h3⟩ := h.com
  rw [cmpK_com h1, h2, h3]
  decide
theorem cmpK_self (a : List UInt8) : cmpK a a = 0 := Bt.cmp_eq fun _ _ => rfl
theorem LtB.of {a b : List UInt8} (ha : a.length = 32) (hb : b.length = 32) (h : cmpK a b < 0) : LtB a b := by
  have hne : a ≠ b := fun e => by rw [e, cmpK_self] at h; omega
  have hc := com_lt ha hb hne
  have h1 := cmpK_com hc
  have h2 := bitK_01 a (comK a b) hc
  have h3 := bitK_01 b (comK a b) hc
  exact ⟨comK a b, hc, (com_bits (a := a) (b := b) (i := comK a b) (by omega)).1 (Nat.le_refl _), by omega, by omega⟩
theorem LtB.or {a b : List UInt8} (ha : a.length = 32) (hb : b.length = 32) (hne : a ≠ b) (h : ¬ cmpK a b < 0) : LtB b a := by
  have hc := com_lt ha hb hne
  have h1 := cmpK_com hc
  have h2 := bitK_01 a (comK a b) hc
  have h3 := bitK_01 b (comK a b) hc
  have h4 := com_differ hc
  exact ⟨comK a b, hc, fun j hj => ((com_bits (a := a) (b := b) (i := comK a b) (by omega)).1 (Nat.le_refl _) j hj).symm, by omega, by omega⟩
theorem LtB.trans {a b c : List UInt8} (h : LtB a b) (k : LtB b c) : LtB a c := by
  obtain ⟨i, hi, he, h0, h1⟩ := h
  obtain ⟨j, hj, hf, k0, k1⟩ := k
  rcases Nat.lt_trichotomy i j with hlt | rfl | hlt
  · exact ⟨i, hi, fun m hm => (he m hm).trans (hf m (by omega)), h0, by rw [← hf i hlt]; exact h1⟩
  · omega
  · exact ⟨j, hj, fun m hm => (he m (by omega)).trans (hf m hm), by rw [he j hlt]; exact k0, k1⟩
def Asc (l : List Ent) : Prop := l.Pairwise fun a b => LtB a.k b.k
theorem insK_mem10 {e x : Ent} {l : List Ent} (h : x ∈ insK e l) : x = e ∨ x ∈ l := by
  have := (insK_perm e l).mem_iff.1 h
  exact List.mem_cons.1 this
theorem insK_asc {e : Ent} (he : e.k.length = 32) : ∀ {l : List Ent}, Asc l → (∀ x ∈ l, x.k.length = 32 ∧ x.k ≠ e.k) → Asc (insK e l)
  | [], _, _ => List.pairwise_singleton _ _
  | x :: r, h, hx => by
    obtain ⟨h1, h2⟩ := List.pairwise_cons.1 h
    obtain ⟨hl, hne⟩ := hx x (by simp)
    show Asc (if cmpK e.k x.k < 0 then e :: x :: r else x :: insK e r)
    split
    · rename_i hc
      have hlt := LtB.of he hl hc
      refine List.pairwise_cons.2 ⟨fun y hy => ?_, h⟩
      rcases List.mem_cons.1 hy with rfl | hy
      · exact hlt
      · exact hlt.trans (h1 y hy)
    · rename_i hc
      refine List.pairwise_cons.2 ⟨fun y hy => ?_, insK_asc he h2 fun z hz => hx z (by simp [hz])⟩
      rcases insK_mem10 hy with rfl | hy
      · exact LtB.or he hl (Ne.symm hne) hc
      · exact h1 y hy
theorem putK_asc {l : List Ent} {e : Ent} (he : e.k.length = 32) (h : Asc l) (hl : ∀ x ∈ l, x.k.length = 32) : Asc (putK l e) :=
  insK_asc he (h.filter _) fun x hx => ⟨hl x (List.mem_filter.1 hx).1, fun hk => by
    have := (List.mem_filter.1 hx).2
    simp [hk] at this⟩
theorem foldK_asc : ∀ (es l : List Ent), (∀ e ∈ es, e.k.length = 32) → Asc l → (∀ x ∈ l, x.k.length = 32) → Asc (es.foldl putK l)
  | [], _, _, h, _ => h
  | e :: r, l, he, h, hl => by
    rw [List.foldl_cons]
    refine foldK_asc r _ (fun x hx => he x (by simp [hx])) (putK_asc (he e (by simp)) h hl) fun x hx => ?_
    rcases insK_mem10 hx with rfl | hx
    · exact he x (by simp)
    · exact hl x (List.mem_filter.1 hx).1
theorem ofK_asc {es : List Ent} (h : ∀ e ∈ es, e.k.length = 32) : Asc (ofK es) := foldK_asc es [] h List.Pairwise.nil fun _ hx => by cases hx
/-- The leaves, from left to right. -/
def entsT : Tr → List Ent
  | .nil => []
  | .leaf e => [e]
  | .inner a b => entsT a ++ entsT b
theorem entsT_join : ∀ (s t : Tr), entsT (joinT s t) = entsT s ++ entsT t
  | .nil, .nil => rfl
  | .nil, .leaf _ => rfl
  | .leaf _, .nil => rfl
  | .nil, .inner _ _ => rfl
  | .leaf _, .leaf _ => rfl
  | .leaf _, .inner _ _ => rfl
  | .inner _ _, .nil => rfl
  | .inner _ _, .leaf _ => rfl
  | .inner _ _, .inner _ _ => rfl
theorem part_app {d : Int} (h0 : 0 ≤ d) (h1 : d < 256) : ∀ {l : List Ent}, Sep d l → Asc l → partK l d 0 ++ partK l d 1 = l
  | [], _, _ => rfl
  | x :: r, hs, ha => by
    obtain ⟨a1, a2⟩ := List.pairwise_cons.1 ha
    have hs2 : Sep d r := ⟨fun a h => hs.len a (by simp [h]), (List.pairwise_cons.1 hs.ne).2, fun a ha b hb => hs.eq a (by simp [ha]) b (by simp [hb])⟩
    obtain ⟨q, rfl⟩ : ∃ q : Nat, d = (q : Int) := ⟨d.toNat, by omega⟩
    have hb := bitK_01 x.k q (by omega)
    by_cases hz : bitK x.k q = 0
    · have ih := part_app h0 h1 hs2 a2
      rw [show partK (x :: r) q 0 = x :: partK r q 0 by simp [partK, hz], show partK (x :: r) q 1 = partK r q 1 by simp [partK, hz], List.cons_append, ih]
    · have hz1 : bitK x.k q = 1 := by omega
      have hall : ∀ y ∈ r, bitK y.k q = 1 := fun y hy => by
        obtain ⟨i, hi, he, b0, b1⟩ := a1 y hy
        rcases Nat.lt_trichotomy i q with hlt | rfl | hlt
        · have := hs.eq x (by simp) y (by simp [hy]) i (by omega) hi
          rw [bitK_in x.k (by omega) (by omega), Int.toNat_natCast] at b0
          rw [bitK_in y.k (by omega) (by omega), Int.toNat_natCast] at b1
          omega
        · omega
        · rw [← he q hlt]; exact hz1
      have e0 : partK (x :: r) q 0 = [] := List.filter_eq_nil_iff.2 fun y hy => by
        rcases List.mem_cons.1 hy with rfl | hy
        · simp [hz1]
        · simp [hall y hy]
      have e1 : partK (x :: r) q 1 = x :: r := List.filter_eq_self.2 fun y hy => by
        rcases List.mem_cons.1 hy with rfl | hy
        · simp [hz1]
        · simp [hall y hy]
      rw [e0, e1, List.nil_append]
/-- The leaves of what Grow makes of an ascending map are the map. -/
theorem growT_ents : ∀ (f : Nat) (l : List Ent) (d : Int), Sep d l → Asc l → Deep f d l.length → entsT (growT f l d) = l := by
  have few : ∀ (f : Nat) (l : List Ent) (d : Int), l.length ≤ 1 → entsT (growT f l d) = l := by
    intro f l d hl
    match l, hl with
    | [], _ => rw [growT_none]; rfl
    | [e], _ => rw [growT_one]; rfl
  intro f
  induction f with
  | zero =>
    intro l d _ _ hd
    exact few 0 l d (by rcases hd with h | ⟨h0, h1, h2⟩ <;> omega)
  | succ f ih =>
    intro l d hs ha hd
    rcases Nat.lt_or_ge l.length 2 with hl | hl
    · exact few (f + 1) l d (by omega)
    · have h256 := hs.two hl
      obtain ⟨h0, h2⟩ : 0 ≤ d ∧ 256 < d + (f + 1 : Nat) := by
        rcases hd with h | ⟨h0, h1, h2⟩
        · omega
        · exact ⟨h0, h2⟩
      rw [growT_two f l d hl, entsT_join, ih _ _ (hs.part h0 h256 0) (ha.filter _) (.inr ⟨by omega, by omega, by omega⟩), ih _ _ (hs.part h0 h256 1) (ha.filter _) (.inr ⟨by omega, by omega, by omega⟩)]
      exact part_app h0 h256 hs ha
theorem IsMap.ents {l : List Ent} {T : Tv} (h : IsMap l T) (ha : Asc l) : entsT T.tr = l := by
  rw [h.tr]
  exact growT_ents 257 l 0 h.sep ha (.inr ⟨by omega, by omega, by omega⟩)
end Go.Proofs.YtjnhhcbplhmemaaDoor

/- Numbers of entries in a map, depths of ways: plain facts of layer 11; what the program of layer 11 keeps, as a contract. -/
namespace Go.Proofs.YtjnhhcbplhmemaaDoor
open Go.RowKit

def rankK (l : List Ent) (k : List UInt8) : Nat := (l.filter fun x => decide (cmpK x.k k < 0)).length
theorem rankK_le (l : List Ent) (k : List UInt8) : rankK l k ≤ l.length := List.length_filter_le _ _
theorem rankK_take {l : List Ent} {i : Nat} {x : Ent} (k : List UInt8) (h : l[i]? = some x) : rankK (l.take (i + 1)) k = rankK (l.take i) k + if cmpK x.k k < 0 then 1 else 0 := by
  obtain ⟨hi, rfl⟩ := List.getElem?_eq_some_iff.1 h
  unfold rankK
  rw [List.take_succ_eq_append_getElem hi, List.filter_append, List.length_append]
  by_cases hc : cmpK l[i].k k < 0
  · simp [hc]
  · simp [hc]
theorem LtB.irrefl {a : List UInt8} (h : LtB a a) : False := by
  obtain ⟨i, _, _, h0, h1⟩ := h
  omega
theorem LtB.not {a b : List UInt8} (ha : a.length = 32) (hb : b.length = 32) (h : LtB a b) : ¬ cmpK b a < 0 := fun hc => ((LtB.of hb ha hc).trans h).irrefl
/-- The number of an entry is the rank of its key. -/
theorem rank_nth : ∀ {l : List Ent}, Asc l → (∀ x ∈ l, x.k.length = 32) → ∀ {i : Nat} {x : Ent}, l[i]? = some x → rankK l x.k = i
  | [], _, _, i, x, h => by simp at h
  | y :: r, ha, hl, 0, x, h => by
    obtain rfl : y = x := by simpa using h
    obtain ⟨h1, _⟩ := List.pairwise_cons.1 ha
    unfold rankK
    have h0 : (y :: r).filter (fun z => decide (cmpK z.k y.k < 0)) = [] := List.filter_eq_nil_iff.2 fun z hz => by
      rcases List.mem_cons.1 hz with rfl | hz
      · rw [cmpK_self]; decide
      · have := (h1 z hz).not (hl y (by simp)) (hl z (by simp [hz]))
        simpa using this
    rw [h0]; rfl
  | y :: r, ha, hl, i + 1, x, h => by
    obtain ⟨h1, h2⟩ := List.pairwise_cons.1 ha
    have hx : r[i]? = some x := by simpa using h
    have ih := rank_nth h2 (fun z hz => hl z (by simp [hz])) hx
    have hlt := (h1 x (List.mem_of_getElem? hx)).cmp
    unfold rankK at ih ⊢
    rw [List.filter_cons, if_pos (decide_eq_true hlt), List.length_cons, ih]
/-! ### Depths -/
def stepD (k : List UInt8) (d : Nat) (x : Ent) : Nat := if x.k = k then d else max d (comK x.k k + 1)
/-- One more than the greatest number of bits in common with another key. -/
def depK (l : List Ent) (k : List UInt8) : Nat := l.foldl (stepD k) 0
theorem foldD_le (k : List UInt8) (D : Nat) : ∀ (l : List Ent) (d : Nat), l.foldl (stepD k) d ≤ D ↔ d ≤ D ∧ ∀ x ∈ l, x.k ≠ k → comK x.k k + 1 ≤ D
  | [], d => by simp
  | y :: r, d => by
    rw [List.foldl_cons, foldD_le k D r]
    unfold stepD
    by_cases hy : y.k = k
    · rw [if_pos hy]
      refine and_congr_right fun _ => ⟨fun h x hx hn => ?_, fun h x hx => h x (by simp [hx])⟩
      rcases List.mem_cons.1 hx with rfl | hx
      · exact absurd hy hn
      · exact h x hx hn
    · rw [if_neg hy]
      constructor
      · rintro ⟨h1, h2⟩
        refine ⟨by omega, fun x hx hn => ?_⟩
        rcases List.mem_cons.1 hx with rfl | hx
        · omega
        · exact h2 x hx hn
      · rintro ⟨h1, h2⟩
        have := h2 y (by simp) hy
        exact ⟨by omega, fun x hx => h2 x (by simp [hx])⟩
theorem depK_le (l : List Ent) (k : List UInt8) (D : Nat) : depK l k ≤ D ↔ ∀ x ∈ l, x.k ≠ k → comK x.k k + 1 ≤ D := by
  unfold depK
  rw [foldD_le]
  simp
theorem depK_256 {l : List Ent} {k : List UInt8} (hl : ∀ x ∈ l, x.k.length = 32) (hk : k.length = 32) : depK l k ≤ 256 := (depK_le l k 256).2 fun x hx hn => com_lt (hl x hx) hk hn
theorem depK_take {l : List Ent} {i : Nat} {x : Ent} (k : List UInt8) (h : l[i]? = some x) : depK (l.take (i + 1)) k = stepD k (depK (l.take i) k) x := by
  obtain ⟨hi, rfl⟩ := List.getElem?_eq_some_iff.1 h
  unfold depK
  rw [List.take_succ_eq_append_getElem hi, List.foldl_append]
  rfl
/-- The depth at which the way of a key of the map ends. -/
theorem dep_is {l : List Ent} {T : Tv} (h : IsMap l T) {e : Ent} (he : e ∈ l) : T.dep e.k 0 = depK l e.k := by
  have hs := h.sep
  have hk := hs.len e he
  have h256 : depK l e.k ≤ 256 := depK_256 hs.len hk
  have hmem : ∀ j, j ≤ 256 → ∀ x, x ∈ dK l e.k j ↔ x ∈ l ∧ j ≤ comK x.k e.k := fun j hj x => by rw [dK_mem, com_bits hj]
  have hself : ∀ j, j ≤ 256 → e ∈ dK l e.k j := fun j _ => dK_mem.2 ⟨he, fun _ _ => rfl⟩
  refine dep_eq hs (h.at e.k) (fun j hj => ?_) ?_
  · have hn : ¬ depK l e.k ≤ j := by omega
    rw [depK_le] at hn
    obtain ⟨x, hx, hne, hc⟩ : ∃ x, x ∈ l ∧ x.k ≠ e.k ∧ ¬ comK x.k e.k + 1 ≤ j := by
      refine Classical.byContradiction fun hno => hn fun x hx hne => Classical.byContradiction fun hc => hno ⟨x, hx, hne, hc⟩
    have hxj := (hmem j (by omega) x).2 ⟨hx, by omega⟩
    have hej := hself j (by omega)
    refine Classical.byContradiction fun hlt => ?_
    generalize dK l e.k j = L at hxj hej hlt
    match L, hxj, hej, hlt with
    | [], hxj, _, _ => cases hxj
    | [y], hxj, hej, _ =>
      have e1 : x = y := by simpa using hxj
      have e2 : e = y := by simpa using hej
      exact hne (by rw [e1, e2])
    | y :: z :: r, _, _, hlt => exact hlt (by simp)
  · have hall : ∀ x ∈ dK l e.k (depK l e.k), x.k = e.k := fun x hx => by
      obtain ⟨hx1, hx2⟩ := (hmem _ h256 x).1 hx
      refine Classical.byContradiction fun hne => ?_
      have := (depK_le l e.k (depK l e.k)).1 (Nat.le_refl _) x hx1 hne
      omega
    have hpw : (dK l e.k (depK l e.k)).Pairwise fun a b => a.k ≠ b.k := by rw [dK_filter l e.k _ h256]; exact hs.ne.filter _
    generalize dK l e.k (depK l e.k) = L at hall hpw
    match L, hall, hpw with
    | [], _, _ => simp
    | [y], _, _ => simp
    | y :: z :: r, hall, hpw =>
      have := (List.pairwise_cons.1 hpw).1 z (by simp)
      exact absurd ((hall y (by simp)).trans (hall z (by simp)).symm) this
/-! ### What the program of layer 11 keeps -/
/-- An entry that an iterator yields, in memory: the key, a slice with the value. -/
def EntE (x : Ent) (args : Array Value) (X : World) : Prop := x.k.length = 32 ∧ ∃ (A : Option Addr) (c : Nat), args = #[.agg (bA x.k), .slice A x.v.length c] ∧ BA X A x.v ∧ x.v.length ≤ c
/-- A slice of numbers. -/
def IS (w : World) (A : Option Addr) (l : List Nat) : Prop := ∀ (i x : Nat), l[i]? = some x → ∃ g o, A = some ⟨g, o, none⟩ ∧ w.cell? ⟨g, o + i, none⟩ = some (.int .i64 (x : Int))
theorem IS.below {w w' : World} {A : Option Addr} {l : List Nat} (h : IS w A l) (hb : Below w.heap.size w w') : IS w' A l := fun i x hi => by
  obtain ⟨g, o, h1, h2⟩ := h i x hi
  exact ⟨g, o, h1, by rw [hb.cell (lt_of_cell h2)]; exact h2⟩
structure WkV (M : World → Int → Tv → Prop) : Prop where
  all : ∀ (w0 w : World) (n : Int) (T : Tv) (l : List Ent), M w0 n T → Below w0.heap.size w0 w → IsMap l T → Asc l → l.length ≤ 100 →
    Calls Tryd.prog 11 #[T.val] w fun e w' => ∃ (gf : Nat) (lb : Array Value) (O0 : Nat → Prop), e = .returned (.func (.func gf) #[] lb) ∧ Below w.heap.size w w' ∧ (∀ i, O0 i → w.heap.size ≤ i ∧ i < w'.heap.size) ∧
      (∀ args w, (callFunc gf args).run Tryd.prog w = .ok (.enter gf args) w) ∧ ∀ Z, Keep (fun i => w0.heap.size ≤ i ∧ ¬ O0 i) w' Z → SeqO Tryd.prog gf lb EntE (fun i => w0.heap.size ≤ i ∧ ¬ O0 i) l Z
  entries : ∀ (w : World) (n : Int) (T : Tv) (l : List Ent), M w n T → IsMap l T → Asc l → l.length ≤ 100 →
    Calls Tryd.prog 14 #[T.val] w fun e w' => ∃ (A : Option Addr) (c : Nat) (es : List En), e = .returned (.slice A es.length c) ∧ EA w' A es ∧ es.map En.ent = l ∧ Below w.heap.size w w'
  from_ : ∀ (w : World) (n : Int) (T : Tv) (l : List Ent) (k : List UInt8) (m : Int), M w n T → IsMap l T → Asc l → l.length ≤ 100 → k.length = 32 → -9223372036854775808 ≤ m → m ≤ 9223372036854775807 →
    Calls Tryd.prog 16 #[T.val, .agg (bA k), .int .i64 m] w fun e w' => ∃ (A : Option Addr) (c : Nat) (es : List En), e = .returned (.slice A es.length c) ∧ EA w' A es ∧ es.map En.ent = (l.drop (rankK l k)).take m.toNat ∧ Below w.heap.size w w'
  rank : ∀ (w : World) (n : Int) (T : Tv) (l : List Ent) (k : List UInt8), M w n T → IsMap l T → Asc l → l.length ≤ 100 → k.length = 32 →
    Calls Tryd.prog 17 #[T.val, .agg (bA k)] w fun e w' => e = .returned (.int .i64 (rankK l k : Int)) ∧ Below w.heap.size w w'
  nth : ∀ (w : World) (n : Int) (T : Tv) (l : List Ent) (i : Int), M w n T → IsMap l T → Asc l → l.length ≤ 100 → -9223372036854775808 ≤ i → i ≤ 9223372036854775807 →
    Calls Tryd.prog 18 #[T.val, .int .i64 i] w fun e w' => ∃ x : En, e = .returned (.tuple #[.agg (enC x).toArray, .bool (decide (0 ≤ i ∧ i < (l.length : Int)))]) ∧ EnOk w' x ∧ (0 ≤ i → i < (l.length : Int) → l[i.toNat]? = some x.ent) ∧ (¬ (0 ≤ i ∧ i < (l.length : Int)) → x.k = z26 ∧ x.v = []) ∧ Below w.heap.size w w'
  depths : ∀ (w : World) (n : Int) (T : Tv) (l : List Ent), M w n T → IsMap l T → Asc l → l.length ≤ 100 →
    Calls Tryd.prog 19 #[T.val] w fun e w' => ∃ (A : Option Addr) (c : Nat), e = .returned (.slice A l.length c) ∧ IS w' A (l.map fun x => depK l x.k) ∧ Below w.heap.size w w'
end Go.Proofs.YtjnhhcbplhmemaaDoor

/- The references of layer 11: Rank and Depth. -/
namespace Go.Proofs.YtjnhhcbplhmemaaDoor
open Go.RowKit

set_option maxHeartbeats 8000000 in
set_option maxRecDepth 100000 in
theorem rank11_c (A : Option Addr) (c : Nat) (es : List En) (k : List UInt8) (w : World) (hA : EA w A es) (hn : es.length ≤ 100000) (hk : k.length = 32) :
    Calls Tryd.prog 15 #[.slice A es.length c, .agg (bA k)] w fun e w' => e = .returned (.int .i64 (rankK (es.map En.ent) k : Int)) ∧ Below w.heap.size w w' := by
  obtain ⟨X, hX⟩ : ∃ X, X = w.alloc (.cells (bA k) 31) := ⟨_, rfl⟩
  have hb0 : Below w.heap.size w X := by rw [hX]; exact (Below.refl _ _).alloc (Nat.le_refl _) _
  have hr0 : RowB X w.heap.size 31 k := by rw [hX]; exact RowB.alloc w k _
  have HX := Lib.hid hX
  have HB0 := Lib.hid hb0
  have HR0 := Lib.hid hr0
  have HA := Lib.hid (hA.below hb0)
  have HK := Lib.hid hk
  have oL := hn
  clear hA hX hb0 hr0 hn
  go_enter Tryd.func15, Tryd.ntmps15
  go_wp2_with fail
  rw [← HX.out]
  clear HX
  go_loopg [5, 6] es.length (fun gg nv i wr => ∃ m N : Nat, nv = .int .i64 (N : Int) ∧ i = .int .i64 (m : Int) ∧ m ≤ es.length ∧ N ≤ m ∧ es.length - m = gg ∧ Hid (N = rankK ((es.map En.ent).take m) k) ∧ Below X.heap.size X wr)
  case atStart => exact ⟨0, 0, rfl, rfl, by omega, by omega, by omega, rfl, Below.refl _ _⟩
  case round =>
    obtain ⟨m, N, rfl, rfl, hm, hNm, rfl, HN, hB⟩ := hrel
    have HB := Lib.hid hB
    clear hB
    by_cases hlt : m < es.length
    · have hd : decide (m < es.length) = true := decide_eq_true hlt
      obtain ⟨e, he⟩ : ∃ e, es[m]? = some e := ⟨_, List.getElem?_eq_getElem hlt⟩
      obtain ⟨hok, g, o, rfl, hr⟩ := HA.out m e he
      have HR := Lib.hid (range_below hr HB.out)
      have HKL := Lib.hid hok.key
      have p0 : (0 : Int) ≤ (m : Int) := by omega
      have p1 : (m : Int) < (es.length : Int) := by omega
      have l1 : ∀ q : Later wr, ldA 31 q.w (.pointer (some ⟨g, o + m * 33, none⟩)) = .ok (.value (.agg (bA e.k))) q.w := fun q => range_key (range_below HR.out q.h) HKL.out
      have l2 : ∀ q : Later wr, ldA 31 q.w (.pointer (some ⟨w.heap.size, 0, none⟩)) = .ok (.value (.agg (bA k))) q.w := fun q => ((HR0.out.below HB.out).below q.h).ldKey HK.out
      have HST : Hid (rankK ((es.map En.ent).take (m + 1)) k = N + if cmpK e.k k < 0 then 1 else 0) := by
        show _ = _
        rw [rankK_take (x := e.ent) k (by rw [List.getElem?_map, he]; rfl), ← HN.out]
        rfl
      clear he hok hr HN
      by_cases hq : cmpK e.k k < 0
      · have e1 : decide (cmpK e.k k < 0) = true := decide_eq_true hq
        have HF : Hid (N + 1 = rankK ((es.map En.ent).take (m + 1)) k) := by show _ = _; rw [HST.out, if_pos hq]
        clear hq HST
        go_wp2_with fail
        refine wp_region_later (by kernel_rfl) (by kernel_rfl) ?_
        repeat (go_big_quiet_step ((go_at_call 32; exact Later.call (cmpK_c _ _ HKL.out HK.out _))))
        refine wpQuiet_nil ?_
        rintro _ ⟨x, rfl⟩
        have HB2 := Lib.hid (HB.out.trans (x.h.mono HB.out.size))
        clear l1 l2
        go_wp2_with fail
        go_roundg (es.length - (m + 1))
        case measure => omega
        case rel => exact ⟨m + 1, N + 1, by go_num, by go_num, by omega, by omega, rfl, HF.out, HB2.out⟩
      · have e1 : decide (cmpK e.k k < 0) = false := decide_eq_false hq
        have HF : Hid (N = rankK ((es.map En.ent).take (m + 1)) k) := by show _ = _; rw [HST.out, if_neg hq]; rfl
        clear hq HST
        go_wp2_with fail
        refine wp_region_later (by kernel_rfl) (by kernel_rfl) ?_
        repeat (go_big_quiet_step ((go_at_call 32; exact Later.call (cmpK_c _ _ HKL.out HK.out _))))
        refine wpQuiet_nil ?_
        rintro _ ⟨x, rfl⟩
        have HB2 := Lib.hid (HB.out.trans (x.h.mono HB.out.size))
        clear l1 l2
        go_wp2_with fail
        go_roundg (es.length - (m + 1))
        case measure => omega
        case rel => exact ⟨m + 1, N, rfl, by go_num, by omega, by omega, rfl, HF.out, HB2.out⟩
    · obtain rfl : m = es.length := by omega
      have hd : decide (es.length < es.length) = false := decide_eq_false (by omega)
      have HF : Hid (N = rankK (es.map En.ent) k) := by
        have h := HN.out
        have h2 : (es.map En.ent).take es.length = es.map En.ent := List.take_of_length_le (by simp)
        rw [h2] at h
        exact h
      clear HN
      go_wp2_with fail
      go_ret
      exact ⟨by rw [← HF.out]; rfl, HB0.out.trans (HB.out.mono HB0.out.size)⟩
set_option maxHeartbeats 8000000 in
set_option maxRecDepth 100000 in
theorem depth11_c (A : Option Addr) (c : Nat) (es : List En) (k : List UInt8) (w : World) (hA : EA w A es) (hn : es.length ≤ 100000) (hk : k.length = 32) :
    Calls Tryd.prog 21 #[.slice A es.length c, .agg (bA k)] w fun e w' => e = .returned (.int .i64 (depK (es.map En.ent) k : Int)) ∧ Below w.heap.size w w' := by
  obtain ⟨X, hX⟩ : ∃ X, X = w.alloc (.cells (bA k) 31) := ⟨_, rfl⟩
  have hb0 : Below w.heap.size w X := by rw [hX]; exact (Below.refl _ _).alloc (Nat.le_refl _) _
  have hr0 : RowB X w.heap.size 31 k := by rw [hX]; exact RowB.alloc w k _
  have HX := Lib.hid hX
  have HB0 := Lib.hid hb0
  have HR0 := Lib.hid hr0
  have HA := Lib.hid (hA.below hb0)
  have HK := Lib.hid hk
  have oL := hn
  clear hA hX hb0 hr0 hn
  go_enter Tryd.func21, Tryd.ntmps21
  go_wp2_with fail
  rw [← HX.out]
  clear HX
  go_loopg [5, 6] es.length (fun gg nv i wr => ∃ m N : Nat, nv = .int .i64 (N : Int) ∧ i = .int .i64 (m : Int) ∧ m ≤ es.length ∧ N ≤ 256 ∧ es.length - m = gg ∧ Hid (N = depK ((es.map En.ent).take m) k) ∧ Below X.heap.size X wr)
  case atStart => exact ⟨0, 0, rfl, rfl, by omega, by omega, by omega, rfl, Below.refl _ _⟩
  case round =>
    obtain ⟨m, N, rfl, rfl, hm, hN6, rfl, HN, hB⟩ := hrel
    have HB := Lib.hid hB
    clear hB
    by_cases hlt : m < es.length
    · have hd : decide (m < es.length) = true := decide_eq_true hlt
      obtain ⟨e, he⟩ : ∃ e, es[m]? = some e := ⟨_, List.getElem?_eq_getElem hlt⟩
      obtain ⟨hok, g, o, rfl, hr⟩ := HA.out m e he
      have HR := Lib.hid (range_below hr HB.out)
      have HKL := Lib.hid hok.key
      have p0 : (0 : Int) ≤ (m : Int) := by omega
      have p1 : (m : Int) < (es.length : Int) := by omega
      have l1 : ∀ q : Later wr, ldA 31 q.w (.pointer (some ⟨g, o + m * 33, none⟩)) = .ok (.value (.agg (bA e.k))) q.w := fun q => range_key (range_below HR.out q.h) HKL.out
      have l2 : ∀ q : Later wr, ldA 31 q.w (.pointer (some ⟨w.heap.size, 0, none⟩)) = .ok (.value (.agg (bA k))) q.w := fun q => ((HR0.out.below HB.out).below q.h).ldKey HK.out
      have HST : Hid (depK ((es.map En.ent).take (m + 1)) k = if e.k = k then N else max N (comK e.k k + 1)) := by
        show _ = _
        rw [depK_take (x := e.ent) k (by rw [List.getElem?_map, he]; rfl), ← HN.out]
        rfl
      clear he hok hr HN
      by_cases hq : e.k = k
      · have ne : ∀ x y w, eqA .neq 31 x y w (.agg (bA e.k)) (.agg (bA k)) = .ok (.value (.bool false)) w := fun x y w => by rw [neKey8 _ _ HKL.out HK.out, decide_eq_true hq]; rfl
        have HF : Hid (N = depK ((es.map En.ent).take (m + 1)) k) := by show _ = _; rw [HST.out, if_pos hq]
        clear hq HST
        go_wp2_with fail
        refine wp_region_later (by kernel_rfl) (by kernel_rfl) ?_
        repeat (go_big_quiet_step (fail))
        refine wpQuiet_nil ?_
        rintro _ ⟨x, rfl⟩
        have HB2 := Lib.hid (HB.out.trans (x.h.mono HB.out.size))
        clear l1 l2 ne
        go_wp2_with fail
        go_roundg (es.length - (m + 1))
        case measure => omega
        case rel => exact ⟨m + 1, N, rfl, by go_num, by omega, by omega, rfl, HF.out, HB2.out⟩
      · have ne : ∀ x y w, eqA .neq 31 x y w (.agg (bA e.k)) (.agg (bA k)) = .ok (.value (.bool true)) w := fun x y w => by rw [neKey8 _ _ HKL.out HK.out, decide_eq_false hq]; rfl
        obtain ⟨q, hqq⟩ : ∃ q, q = comK e.k k := ⟨_, rfl⟩
        have q6 : q < 256 := by rw [hqq]; exact com_lt HKL.out HK.out hq
        obtain ⟨N2, hN2⟩ : ∃ N2, N2 = max N (q + 1) := ⟨_, rfl⟩
        have HF : Hid (N2 = depK ((es.map En.ent).take (m + 1)) k) := by show _ = _; rw [HST.out, if_neg hq, hN2, hqq]
        have N26 : N2 ≤ 256 := by omega
        have HC : Hid (∀ w, Calls Tryd.prog 40 #[.agg (bA e.k), .agg (bA k)] w fun x w' => x = .returned (.int .i64 (q : Int)) ∧ Below w.heap.size w w') := fun w => by rw [hqq]; exact comK_c e.k k HKL.out HK.out w
        have f2 : ∀ (ts : Array TypeId) (t : TypeId) (W : World), (Builtin.max_ ts t #[.int .i64 (N : Int), .int .i64 ((q : Int) + 1)]).run Tryd.prog W = .ok (.int .i64 (N2 : Int)) W := fun ts t W => by
          rw [run_max_int2]
          congr 2
          omega
        clear hq HST hqq hN2
        go_wp2_with fail
        refine wp_region_later (by kernel_rfl) (by kernel_rfl) ?_
        repeat (go_big_quiet_step (fail))
        refine wpQuiet_nil ?_
        rintro _ ⟨x, rfl⟩
        have HB2 := Lib.hid (HB.out.trans (x.h.mono HB.out.size))
        have l3 : ∀ q : Later x.w, ldA 31 q.w (.pointer (some ⟨g, o + m * 33, none⟩)) = .ok (.value (.agg (bA e.k))) q.w := fun q => range_key (range_below (range_below HR.out x.h) q.h) HKL.out
        have l4 : ∀ q : Later x.w, ldA 31 q.w (.pointer (some ⟨w.heap.size, 0, none⟩)) = .ok (.value (.agg (bA k))) q.w := fun q => ((HR0.out.below HB2.out).below q.h).ldKey HK.out
        clear l1 l2 ne
        go_wp2_with fail
        refine wp_region_later (by kernel_rfl) (by kernel_rfl) ?_
        repeat (go_big_quiet_step ((go_at_call 40; exact Later.call (HC.out _))))
        refine wpQuiet_nil ?_
        rintro _ ⟨y, rfl⟩
        have HB3 := Lib.hid (HB2.out.trans (y.h.mono HB2.out.size))
        clear l3 l4 f2 HC
        go_wp2_with fail
        go_roundg (es.length - (m + 1))
        case measure => omega
        case rel => exact ⟨m + 1, N2, by go_num, by go_num, by omega, by omega, rfl, HF.out, HB3.out⟩
    · obtain rfl : m = es.length := by omega
      have hd : decide (es.length < es.length) = false := decide_eq_false (by omega)
      have HF : Hid (N = depK (es.map En.ent) k) := by
        have h := HN.out
        have h2 : (es.map En.ent).take es.length = es.map En.ent := List.take_of_length_le (by simp)
        rw [h2] at h
        exact h
      clear HN
      go_wp2_with fail
      go_ret
      exact ⟨by rw [← HF.out]; rfl, HB0.out.trans (HB.out.mono HB0.out.size)⟩
end Go.Proofs.YtjnhhcbplhmemaaDoor

/- alive of layer 11 over contracts: constants; the call of All and what follows up to the loop. -/
namespace Go.Proofs.YtjnhhcbplhmemaaDoor
open Go.RowKit

theorem flat_get : ∀ (es : List En), (∀ e ∈ es, e.k.length = 32) → ∀ (i : Nat) (e : En) (j : Nat) (v : Value), es[i]? = some e → (enC e)[j]? = some v → (es.flatMap enC)[i * 33 + j]? = some v
  | [], _, i, e, j, v, h, _ => by simp at h
  | y :: r, hk, 0, e, j, v, h, hv => by
    obtain rfl : y = e := by simpa using h
    rw [List.flatMap_cons, Nat.zero_mul, Nat.zero_add, List.getElem?_append_left (List.getElem?_eq_some_iff.1 hv).1]
    exact hv
  | y :: r, hk, i + 1, e, j, v, h, hv => by
    have h1 := flat_get r (fun e he => hk e (by simp [he])) i e j v (by simpa using h) hv
    have h2 := enC_len (hk y (by simp))
    rw [List.flatMap_cons, List.getElem?_append_right (by rw [h2]; omega), h2, show (i + 1) * 33 + j - 33 = i * 33 + j by omega]
    exact h1
theorem flat_ea (w : World) (es : List En) (h : ∀ e ∈ es, EnOk w e) (t : TypeId) : EA (w.alloc (.cells (es.flatMap enC).toArray t)) (some ⟨w.heap.size, 0, none⟩) es := fun i e hi => by
  have hb : Below w.heap.size w (w.alloc (.cells (es.flatMap enC).toArray t)) := (Below.refl _ _).alloc (Nat.le_refl _) _
  refine ⟨(h e (List.mem_of_getElem? hi)).below hb, _, _, rfl, fun j v hv => ?_⟩
  rw [Nat.zero_add, cell_of_cells (heap_alloc_new w _)]
  simp only [List.getElem?_toArray]
  exact flat_get es (fun e he => (h e he).key) i e j v hi hv
def k255 : List UInt8 := 255 :: List.replicate 31 0
def k65 : List UInt8 := 65 :: List.replicate 31 0
def k01 : List UInt8 := 1 :: List.replicate 31 0
def e11a : En := ⟨k255, none, [], 0⟩
def e11b : En := ⟨z26, none, [], 0⟩
def e11c (A : Option Addr) : En := ⟨k64, A, [5], 1⟩
def E11a : Ent := ⟨k255, []⟩
def E11b : Ent := ⟨z26, []⟩
def E11c : Ent := ⟨k64, [5]⟩
theorem bldKey_255 (w : World) : bldA 31 w #[(0, .int .u8 255)] = .ok (.value (.agg (bA k255))) w := by kernel_rfl
theorem bldKey_65 (w : World) : bldA 31 w #[(0, .int .u8 65)] = .ok (.value (.agg (bA k65))) w := by kernel_rfl
theorem bldKey_01 (w : World) : bldA 31 w #[(0, .int .u8 1)] = .ok (.value (.agg (bA k01))) w := by kernel_rfl
theorem bldEnt_255 (w : World) : bldA 34 w #[(0, .agg (bA k255))] = .ok (.value (.agg (enC e11a).toArray)) w := by kernel_rfl
theorem bldEnt_0 (w : World) : bldA 34 w #[] = .ok (.value (.agg (enC e11b).toArray)) w := by kernel_rfl
theorem bldEnt_64 (A : Option Addr) (w : World) : bldA 34 w #[(0, .agg (bA k64)), (1, .slice A 1 1)] = .ok (.value (.agg (enC (e11c A)).toArray)) w := bldEntry (e11c A) rfl w
theorem bsE_three (A : Option Addr) (w : World) : bsE w 3 #[(0, .agg (enC e11a).toArray), (1, .agg (enC e11b).toArray), (2, .agg (enC (e11c A)).toArray)] = .ok (.value (.slice (some ⟨w.heap.size, 0, none⟩) 3 3)) (w.alloc (.cells ([e11a, e11b, e11c A].flatMap enC).toArray 34)) := by kernel_rfl
theorem cmp_0_255 : cmpK z26 k255 = -1 := by decide +kernel
theorem cmp_64_0 : cmpK k64 z26 = 1 := by decide +kernel
theorem cmp_64_255 : cmpK k64 k255 = -1 := by decide +kernel
theorem cmp_65 : cmpK z26 k65 = -1 ∧ cmpK k64 k65 = -1 ∧ cmpK k255 k65 = 1 := by decide +kernel
theorem cmp_01 : cmpK z26 k01 = -1 ∧ cmpK k64 k01 = 1 ∧ cmpK k255 k01 = 1 := by decide +kernel
theorem com_11 : comK k64 z26 = 1 ∧ comK k255 z26 = 0 ∧ comK z26 k64 = 1 ∧ comK k255 k64 = 0 ∧ comK z26 k255 = 0 ∧ comK k64 k255 = 0 := by decide +kernel
theorem ne_11 : k64 ≠ z26 ∧ k255 ≠ z26 ∧ k255 ≠ k64 := by decide
def L11 : List Ent := [E11b, E11c, E11a]
theorem fold_11 : [E11a, E11b, E11c].foldl putK [] = L11 := by
  obtain ⟨h1, h2, h3⟩ := ne_11
  have e1 : putK [] E11a = [E11a] := rfl
  have e2 : putK [E11a] E11b = [E11b, E11a] := by
    unfold putK
    rw [show rmK [E11a] E11b.k = [E11a] by simp [rmK, E11a, E11b, h2]]
    simp [insK, E11a, E11b, cmp_0_255]
  have e3 : putK [E11b, E11a] E11c = [E11b, E11c, E11a] := by
    unfold putK
    rw [show rmK [E11b, E11a] E11c.k = [E11b, E11a] by simp [rmK, E11a, E11b, E11c, h3, Ne.symm h1]]
    simp [insK, E11a, E11b, E11c, cmp_64_0, cmp_64_255]
  rw [List.foldl_cons, List.foldl_cons, List.foldl_cons, List.foldl_nil, e1, e2, e3]
  rfl
theorem asc_11 : Asc L11 := by
  rw [← fold_11]
  refine foldK_asc _ [] (fun e he => ?_) List.Pairwise.nil fun _ h => by cases h
  rcases List.mem_cons.1 he with rfl | he
  · rfl
  · rcases List.mem_cons.1 he with rfl | he
    · rfl
    · rw [List.mem_singleton.1 he]; rfl
theorem rank_65 : rankK L11 k65 = 2 := by
  obtain ⟨h1, h2, h3⟩ := cmp_65
  simp [rankK, L11, E11a, E11b, E11c, h1, h2, h3]
theorem rank_01 : rankK L11 k01 = 1 := by
  obtain ⟨h1, h2, h3⟩ := cmp_01
  simp [rankK, L11, E11a, E11b, E11c, h1, h2, h3]
theorem dep_11 : (L11.map fun x => depK L11 x.k) = [2, 2, 1] := by
  obtain ⟨h1, h2, h3⟩ := ne_11
  obtain ⟨c1, c2, c3, c4, c5, c6⟩ := com_11
  simp [depK, stepD, L11, E11a, E11b, E11c, h1, h2, h3, Ne.symm h1, Ne.symm h2, Ne.symm h3, c1, c2, c3, c4, c5, c6]
end Go.Proofs.YtjnhhcbplhmemaaDoor

/- alive of layer 11 over contracts. -/
namespace Go.Proofs.YtjnhhcbplhmemaaDoor
open Go.RowKit
attribute [local go_sem] Oper.semAt_some

set_option maxHeartbeats 8000000 in
set_option maxRecDepth 100000 in
theorem alive11_c {M : World → Int → Tv → Prop} (nd : NdV M) (pv : PtV M) (wk : WkV M) (w : World) (hvx : Vars w) : Calls Tryd.prog 10 #[] w (Aye w) := by
  have HVX := Lib.hid hvx
  have HH := Lib.hid (hash_in 8 w (by decide) (by decide))
  clear hvx
  refine (callsIn_wide (n := 10)).1 ?_
  refine callsIn_of_wp_marks Tryd.func10 rfl trivial ?_ rfl
  simp only [Tryd.ntmps10, List.size_toArray, List.length_nil, Nat.reduceSub, Array.replicate_succ, Array.replicate_zero, List.push_toArray, List.append_toArray, List.nil_append, List.cons_append]
  refine wpIn_wide.2 ?_
  go_wp2_with fail
  refine HH.out.mono ?_
  rintro _ w1 ⟨b, rfl, hb, hH, hB⟩
  have HN1 := Lib.hid hb
  have b1 := bldKey_255
  have b2 := bldEnt_255
  have b3 := bldEnt_0
  have b4 := bldKey_64
  have b5 := bldEnt_64
  have bs : ∀ w : World, bsE w 3 #[(0, .agg (enC e11a).toArray), (1, .agg (enC e11b).toArray), (2, .agg (enC (e11c (some ⟨w1.heap.size, 0, none⟩))).toArray)] = .ok (.value (.slice (some ⟨w.heap.size, 0, none⟩) 3 3)) (w.alloc (.cells ([e11a, e11b, e11c (some ⟨w1.heap.size, 0, none⟩)].flatMap enC).toArray 34)) := fun w => bsE_three _ w
  obtain ⟨ec, hec⟩ : ∃ e, e = e11c (some ⟨w1.heap.size, 0, none⟩) := ⟨_, rfl⟩
  obtain ⟨Y1, hY1⟩ : ∃ Y, Y = w1.alloc (.cells #[Value.int .u8 5] 5) := ⟨_, rfl⟩
  obtain ⟨es, hes⟩ : ∃ es, es = [e11a, e11b, ec] := ⟨_, rfl⟩
  obtain ⟨Y, hY⟩ : ∃ Y, Y = Y1.alloc (.cells (es.flatMap enC).toArray 34) := ⟨_, rfl⟩
  have hb1 : Below w1.heap.size w1 Y1 := by rw [hY1]; exact (Below.refl _ _).alloc (Nat.le_refl _) _
  have hb2 : Below Y1.heap.size Y1 Y := by rw [hY]; exact (Below.refl _ _).alloc (Nat.le_refl _) _
  have hs1 : Y1.heap.size = w1.heap.size + 1 := by rw [hY1]; simp
  have hok : ∀ e ∈ es, EnOk Y1 e := fun e he => by
    rw [hes] at he
    rcases List.mem_cons.1 he with rfl | he
    · exact ⟨rfl, Nat.le_refl 0, fun j x h => by simp [e11a] at h⟩
    · rcases List.mem_cons.1 he with rfl | he
      · exact ⟨rfl, Nat.le_refl 0, fun j x h => by simp [e11b] at h⟩
      · rw [List.mem_singleton.1 he, hec, hY1]
        exact ⟨rfl, Nat.le_refl 1, BA_row (l := [5]) (heap_alloc_new w1 _)⟩
  have hEA : EA Y (some ⟨w1.heap.size + 1, 0, none⟩) es := by
    rw [← hs1, hY]
    exact flat_ea Y1 es hok _
  have hbY : Below w1.heap.size w1 Y := hb1.trans (hb2.mono hb1.size)
  have hev : ∀ e ∈ es, e.v.length ≤ 1000 := fun e he => by
    rw [hes] at he
    rcases List.mem_cons.1 he with rfl | he
    · exact (show 0 ≤ 1000 by decide)
    · rcases List.mem_cons.1 he with rfl | he
      · exact (show 0 ≤ 1000 by decide)
      · rw [List.mem_singleton.1 he, hec]; exact (show 1 ≤ 1000 by decide)
  have hfold : (es.map En.ent).foldl putK [] = L11 := by rw [hes, hec]; exact fold_11
  have hln : es.length = 3 := by rw [hes]; rfl
  have HHY := Lib.hid (hH.keep (Keep.of_below (L := fun _ => False) hbY) fun h => h)
  have HVY := Lib.hid ((HVX.out.below hB).below hbY)
  have HBY := Lib.hid (hB.trans (hbY.mono hB.size))
  have HPA := Lib.hid (pv.all Y b 8 0 [] .nil (some ⟨w1.heap.size + 1, 0, none⟩) 3 es HHY.out (by decide) HVY.out (nd.nil _ _) map_none (by decide) hEA (by rw [hln]; decide) hev)
  rw [hfold, hln, show (Tv.nil).val = .pointer none from rfl] at HPA
  have HY : Hid (Y = (w1.alloc (.cells #[Value.int .u8 5] 5)).alloc (.cells (enC e11a ++ (enC e11b ++ enC (e11c (some ⟨w1.heap.size, 0, none⟩)))).toArray 34)) := by show _ = _; rw [hY, hY1, hes, hec]; simp
  clear hb hH hB HH HVX hec hY1 hY hes hb1 hb2 hs1 hok hEA hbY hev hfold hln
  unfold ptr at HPA ⊢
  go_wp2_with fail
  rw [← HY.out]
  clear HY bs b1 b2 b3 b4 b5
  refine HPA.out.mono ?_
  rintro _ w2 ⟨T, rfl, hI, hm⟩
  obtain ⟨pT, hpT⟩ := val_ptr nd hm.ms
  have HPT := Lib.hid hpT
  have HI := Lib.hid hI
  have HM := Lib.hid hm.ms
  have HB2 := Lib.hid (keep_new HBY.out HN1.out hm.keep)
  rw [hpT]
  have HD := Lib.hid (wk.depths w2 8 T L11 hm.ms hI asc_11 (show 3 ≤ 100 by decide))
  rw [hpT, dep_11, show L11.length = 3 from rfl] at HD
  clear hI hm hpT HPA HBY HHY HVY HN1
  go_wp2_with fail
  refine HD.out.mono ?_
  rintro _ w3 ⟨A3, c3, rfl, hIS, hB⟩
  have HB3 := Lib.hid hB
  have HIS3 := Lib.hid hIS
  have HN := Lib.hid (wk.nth w3 8 T L11 1 (nd.below HM.out hB) HI.out asc_11 (show 3 ≤ 100 by decide) (by decide) (by decide))
  rw [HPT.out, show decide (0 ≤ (1 : Int) ∧ (1 : Int) < (L11.length : Int)) = true by decide] at HN
  clear hB hIS HD
  go_wp2_with fail
  refine HN.out.mono ?_
  rintro _ w4 ⟨x, rfl, hok, hx, _, hB⟩
  have hx1 := hx (by decide) (by decide)
  rw [show L11[(1 : Int).toNat]? = some E11c from rfl] at hx1
  have hxe : x.ent = E11c := (Option.some.inj hx1).symm
  have hxk : x.k = k64 := congrArg Ent.k hxe
  have HXK := Lib.hid hxk
  have st := stE_new (w := w4) (e := x) (z := ⟨z26, none, [], 0⟩) hok.key rfl
  obtain ⟨X5, hX5⟩ : ∃ X5, X5 = (w4.alloc (.cells (enC x).toArray 34)).alloc (.cells #[.int .i64 0] 3) := ⟨_, rfl⟩
  have hb5 : Below w4.heap.size w4 X5 := by rw [hX5]; exact ((Below.refl _ _).alloc (Nat.le_refl _) _).alloc (by simp) _
  have h5e : X5.heap[w4.heap.size]? = some (.cells (enC x).toArray 34 (0, 0)) := by rw [hX5]; exact heap_alloc2_old w4 _ _
  have h5c : X5.heap[w4.heap.size + 1]? = some (.cells #[.int .i64 0] 3 (0, 0)) := by rw [hX5]; exact heap_alloc2_new w4 _ _
  have HB4 := Lib.hid (HB3.out.trans (hB.mono HB3.out.size))
  have HIS4 := Lib.hid (HIS3.out.below hB)
  have HB5 := Lib.hid (HB4.out.trans (hb5.mono HB4.out.size))
  have HIS5 := Lib.hid (HIS4.out.below hb5)
  have HS5 : Hid (X5.heap.size = w4.heap.size + 2) := by show _ = _; rw [hX5]; simp
  have HX5 := Lib.hid hX5
  have HE5 := Lib.hid h5e
  have HC5 := Lib.hid h5c
  have HKX := Lib.hid hok.key
  have HAL := Lib.hid (wk.all w2 X5 8 T L11 HM.out HB5.out HI.out asc_11 (show 3 ≤ 100 by decide))
  rw [HPT.out] at HAL
  clear hok hx hx1 hxe hxk hB hX5 hb5 h5e h5c HN HB3 HIS3
  go_wp2_with fail
  rw [← HX5.out]
  clear HX5 st
  refine HAL.out.mono ?_
  rintro _ W0 ⟨gf, lb, O0, rfl, hB, hO0, hent, hseq⟩
  have HB6 := Lib.hid hB
  have HO0 := Lib.hid hO0
  have HENT := Lib.hid hent
  have HSEQ := Lib.hid (hseq W0 (Keep.refl _ _))
  clear hB hO0 hent hseq HAL
  go_wp2_with fail
  have h24 : w2.heap.size ≤ w4.heap.size := HB4.out.size
  have h5s : X5.heap.size = w4.heap.size + 2 := HS5.out
  have h06 := HB6.out.size
  refine (wpIn_wide (n := 10)).1 ?_
  refine wpIn_rangeO (gf := gf) (lb := lb) rfl HENT.out HSEQ.out (fun i hi _ => ⟨by omega, fun h => by have := (HO0.out i h).2; omega⟩) (fun x args X h => by obtain ⟨_, A, c, rfl, _⟩ := h; rfl)
    (fun pre O X => X.heap[w4.heap.size + 1]? = some (.cells #[.int .i64 (pre.length : Int)] 3 (0, 0)) ∧ Keep (fun i => i = w4.heap.size + 1) W0 X) (fun _ _ _ _ => False)
    (fun s O X Y O' ⟨h1, h2⟩ hO hs hk _ => ⟨hk.heap h1 fun h => by have := hO _ h; omega, h2.step hk fun i hi => .inr (by have := hO _ hi; omega)⟩)
    (fun s O X l o o' ⟨h1, h2⟩ hl _ _ _ => ⟨(World.putObj_heap_other (by omega)).trans h1, h2.step (keep_putObj (M := fun i => i = l) X l o' rfl) fun i hi => .inr (by have e : i = l := hi; omega)⟩)
    (fun _ _ _ _ _ _ h => h.elim) (fun _ _ _ _ _ _ _ h => h.elim)
    (fun X hX => ⟨by rw [hX.block _ (by omega), HB6.out.block _ (by omega)]; exact HC5.out, Keep.of_below hX⟩) ?round ?done ?stop
  case stop =>
    rintro D c pre O X _ _ h _
    exact h.elim
  case round =>
    rintro l pre x1 O args X rfl hr ⟨h1, h2⟩ hO hp ⟨_, A, c, rfl, _, _⟩
    have hpl := hp.length_le
    rw [List.length_append, show L11.length = 3 from rfl] at hpl
    have hp3 : pre.length ≤ 2 := by simpa using hpl
    clear hpl hp hr
    gi_wp2
    refine ⟨Keeps2.refl _ _, Keep.refl _ _, ⟨h1, h2⟩, fun V hV hkV hIV => ?_⟩
    obtain ⟨g1, g2⟩ := hIV
    have lc : V.cell? ⟨w4.heap.size + 1, 0, none⟩ = some (.int .i64 (pre.length : Int)) := by rw [cell_of_cells g1]; rfl
    have lz : V.frozen? ⟨w4.heap.size + 1, 0, none⟩ = false := frozen_of_row V _ _ _ _ g1
    have HG1 := Lib.hid g1
    have HG2 := Lib.hid g2
    have HO := Lib.hid hO
    clear g1 g2 hO hkV hV h1 h2
    gi_wp2
    have hk1 : Keep (fun i => i = w4.heap.size + 1) V (V.setCell ⟨w4.heap.size + 1, 0, none⟩ (.int .i64 ((pre.length : Int) + 1))) := Keep.cell V ⟨w4.heap.size + 1, 0, none⟩ _
    refine ⟨keeps2_of (KeepsOthers.setCell _ _ _) _, hk1.mono fun i hi => ?_, ?_, HG2.out.trans hk1⟩
    · have e : i = w4.heap.size + 1 := hi
      exact ⟨⟨by omega, fun h => by have := (HO0.out i h).1; omega⟩, fun h => by have := (HO.out i h).1; omega⟩
    · rw [List.length_append, set_row HG1.out]
      rfl
  case done =>
    rintro D O X rfl ⟨h1, h2⟩ hd
    rw [show L11.length = 3 from rfl] at h1
    have hbX : Below w2.heap.size w2 X := (HB5.out.trans (HB6.out.mono (by omega))).trans (h2.below (by omega) fun i hi => by have e : i = w4.heap.size + 1 := hi; omega)
    have HBX := Lib.hid hbX
    have HX1 := Lib.hid h1
    have HDX := Lib.hid hd
    have HMX := Lib.hid (nd.below HM.out hbX)
    have HISX : Hid (IS X A3 [2, 2, 1]) := fun i y hi => by
      obtain ⟨g, o, e, hc⟩ := HIS5.out i y hi
      refine ⟨g, o, e, h2.cellAt (by rw [HB6.out.cell (lt_of_cell hc)]; exact hc) ?_⟩
      obtain ⟨g', o', e', hc'⟩ := HIS4.out i y hi
      rw [e] at e'
      injection e' with e1
      injection e1 with e2
      subst e2
      have := lt_of_cell hc'
      show ¬ g = w4.heap.size + 1
      have h4 : g < w4.heap.size := this
      omega
    have HEX : Hid (X.heap[w4.heap.size]? = some (.cells (enC x).toArray 34 (0, 0))) := h2.heap (by rw [HB6.out.block _ (by omega)]; exact HE5.out) (by omega)
    have HEN := Lib.hid (wk.entries X 8 T L11 HMX.out HI.out asc_11 (show 3 ≤ 100 by decide))
    rw [HPT.out] at HEN
    clear h1 h2 hd hbX h24 h5s h06 HIS4 HIS5
    go_wp2_with fail
    refine HEN.out.mono ?_
    rintro _ wA ⟨AA, cA, es2, rfl, _, hes, hB⟩
    have hl2 : es2.length = 3 := by
      have := congrArg List.length hes
      rw [List.length_map] at this
      exact this
    rw [hl2]
    have HBA := Lib.hid hB
    have b65 := bldKey_65
    have HRK := Lib.hid (wk.rank wA 8 T L11 k65 (nd.below HMX.out hB) HI.out asc_11 (show 3 ≤ 100 by decide) rfl)
    rw [HPT.out, rank_65] at HRK
    clear hes hB hl2 HEN
    go_wp2_with fail
    refine HRK.out.mono ?_
    rintro _ wB ⟨rfl, hB⟩
    have HBB := Lib.hid (HBA.out.trans (hB.mono HBA.out.size))
    have hisB := HISX.out.below HBB.out
    obtain ⟨g, o, hA3, c0⟩ := hisB 0 2 rfl
    subst hA3
    obtain ⟨g', o', e', c1⟩ := hisB 1 2 rfl
    cases e'
    obtain ⟨g', o', e', c2⟩ := hisB 2 1 rfl
    cases e'
    rw [Nat.add_zero] at c0
    have hEB : wB.heap[w4.heap.size]? = some (.cells (enC x).toArray 34 (0, 0)) := by rw [HBB.out.block _ (lt_of_heap HEX.out)]; exact HEX.out
    have le := range_key (w := wB) (g := w4.heap.size) (o := 0) (e := x) (fun j v hv => by
      rw [Nat.zero_add, cell_of_cells hEB]
      simpa using hv) HKX.out
    rw [HXK.out] at le
    have b64 := bldKey_64
    have b01 := bldKey_01
    have qk : ∀ x y w, eqA .eql 31 x y w (.agg (bA k64)) (.agg (bA k64)) = .ok (.value (.bool true)) w := fun x y w => by rw [eqKey k64 k64 rfl rfl, decide_eq_true rfl]
    have HFR := Lib.hid (wk.from_ wB 8 T L11 k01 9 (nd.below HMX.out HBB.out) HI.out asc_11 (show 3 ≤ 100 by decide) rfl (by decide) (by decide))
    rw [HPT.out, rank_01] at HFR
    clear hB hisB hEB b65 HRK
    go_wp2_with fail
    refine HFR.out.mono ?_
    rintro _ wC ⟨AC, cC, es3, rfl, _, hes, hB⟩
    have hl3 : es3.length = 2 := by
      have := congrArg List.length hes
      rw [List.length_map] at this
      exact this
    rw [hl3]
    have HBC := Lib.hid (HBB.out.trans (hB.mono HBB.out.size))
    have hXC : wC.heap[w4.heap.size + 1]? = some (.cells #[.int .i64 3] 3 (0, 0)) := by rw [HBC.out.block _ (lt_of_heap HX1.out)]; exact HX1.out
    have lc : wC.cell? ⟨w4.heap.size + 1, 0, none⟩ = some (.int .i64 3) := by rw [cell_of_cells hXC]; rfl
    have hDC : wC.heap[W0.heap.size]? = some (.deferred (some [])) := by rw [HBC.out.block _ (lt_of_heap HDX.out)]; exact HDX.out
    have HDC := Lib.hid hDC
    clear hes hB hl3 hXC hDC HFR le qk b64 b01 c0 c1 c2
    go_wp2_with fail
    refine ⟨by simp, .inl ⟨_, _, rfl, run_takeDeferred HDC.out, ?_⟩⟩
    refine ⟨_, results_tmp rfl _ _ _, rfl, ?_⟩
    have h1 : Below w.heap.size w wC := (HB2.out.trans (HBX.out.mono HB2.out.size)).trans (HBC.out.mono (Nat.le_trans HB2.out.size HBX.out.size))
    exact h1.trans ((keep_putObj (M := fun i => i = W0.heap.size) wC _ _ rfl).below h1.size fun i hi => by
      have e : i = W0.heap.size := hi
      have h2 := HB2.out.size
      have h3 := HB5.out.size
      have h4 := HB6.out.size
      omega)
end Go.Proofs.YtjnhhcbplhmemaaDoor

/- Slices of entries cut. -/
namespace Go.Proofs.YtjnhhcbplhmemaaDoor
open Go.RowKit

theorem elemE : Tryd.prog.elem 22 = 34 := by kernel_rfl
theorem slE : Tryd.prog.underlying 22 = some (.slice (Tryd.prog.elem 22)) := by rw [elemE]; exact Tryd.underlying22
theorem sizeE (w : World) : (sizeOf 34).run Tryd.prog w = .ok 33 w := by
  obtain ⟨i, hi, hs⟩ := Option.map_eq_some_iff.1 (show (Tryd.prog.info? 34).map (·.size) = some 33 by kernel_rfl)
  simp [sizeOf, typeInfo, hi, hs]
/-- The address behind n entries. -/
def cutA (A : Option Addr) (c n : Nat) : Option Addr := if c = n then A else A.map (·.add (n * 33))
theorem cutE_from (A : Option Addr) (len c n : Nat) (h : n ≤ len) (w : World) :
    (Instr.sliceAt 22 (.slice A len c) (some (.int .i64 (n : Int))) none none).run Tryd.prog w = .ok (.slice (cutA A c n) (len - n) (c - n)) w := by
  rw [run_sliceAt_slice w 22 _ _ _ _ slE, run_slice_l w 22 A len c slE .i64 n (by omega) (by omega), elemE, sizeE]
  simp [sliced, cutA]
theorem cutE_lh (A : Option Addr) (len c n : Nat) (h : n + 1 ≤ c) (w : World) :
    (Instr.sliceAt 22 (.slice A len c) (some (.int .i64 (n : Int))) (some (.int .i64 ((n : Int) + 1))) none).run Tryd.prog w = .ok (.slice (cutA A c n) 1 (c - n)) w := by
  rw [run_sliceAt_slice w 22 _ _ _ _ slE, run_slice_lh w 22 A len c slE .i64 .i64 n ((n : Int) + 1) (by omega) (by omega) (by omega), elemE, sizeE]
  simp [sliced, cutA]
theorem cutE_to (A : Option Addr) (len c n : Nat) (h : n ≤ c) (w : World) :
    (Instr.sliceAt 22 (.slice A len c) none (some (.int .i64 (n : Int))) none).run Tryd.prog w = .ok (.slice (cutA A c 0) n c) w := by
  rw [run_sliceAt_slice w 22 _ _ _ _ slE, run_slice_h w 22 A len c slE .i64 n (by omega) (by omega), elemE, sizeE]
  simp [sliced, cutA]
theorem EA.cut {w : World} {A : Option Addr} {es : List En} (h : EA w A es) {c n : Nat} (hc : es.length ≤ c) : EA w (cutA A c n) (es.drop n) := fun i e hi => by
  rw [List.getElem?_drop] at hi
  have hlt := (List.getElem?_eq_some_iff.1 hi).1
  obtain ⟨h1, g, o, rfl, h2⟩ := h _ _ hi
  unfold cutA
  rw [if_neg (by omega)]
  exact ⟨h1, g, o + n * 33, by rw [Option.map_some, add_none], by rw [show o + n * 33 + i * 33 = o + (n + i) * 33 by omega]; exact h2⟩
theorem EA.take {w : World} {A : Option Addr} {es : List En} (h : EA w A es) (n : Nat) : EA w A (es.take n) := fun i e hi => h i e (by
  rw [List.getElem?_take] at hi
  split at hi
  · exact hi
  · cases hi)
theorem EA.one {w : World} {A : Option Addr} {es : List En} (h : EA w A es) {c n : Nat} {e : En} (hc : es.length ≤ c) (he : es[n]? = some e) : EA w (cutA A c n) [e] := by
  have h1 := (h.cut (n := n) hc).take 1
  obtain ⟨hlt, rfl⟩ := List.getElem?_eq_some_iff.1 he
  rwa [List.drop_eq_getElem_cons hlt, List.take_succ_cons, List.take_zero] at h1
theorem stK11 {w : World} {k : List UInt8} (hk : k.length = 32) :
    stA 31 (w.alloc (.cells (Bt.kc Bt.kz) 31)) (.pointer (some ⟨w.heap.size, 0, none⟩)) (.agg (bA k)) = .ok .skip (w.alloc (.cells (bA k) 31)) :=
  stA_new w _ _ (by rw [bA_size, hk]; exact infoKey) (by rw [show Bt.kc Bt.kz = bA z26 by kernel_rfl, bA_size, bA_size, hk]; rfl) (by
    unfold bA
    rw [List.all_toArray, List.all_eq_true]
    intro u hu
    obtain ⟨y, _, rfl⟩ := List.mem_map.1 hu
    exact bv_one y)
@[go_sem ↓] theorem semAt_storeKey (ro : Option Nat) (ρ : Operand → Value) (dst : Option Tmp) (x y : Operand) (type : TypeId) (pos : String) (after : Array Edge) (guard : Option (Nat × Bool)) (w : World) :
    Sem.run Tryd.prog (Oper.semAt ro ρ { dst, op := .store 31 x y, type, pos, after, guard }) w = stA 31 w (ρ x) (ρ y) := by cases ro <;> rfl
/-- The same fact with no way out by a panic. -/
def Quiet11 (Q : Exit → Act → World → Prop) : Exit → Act → World → Prop := fun e a w => match e with
  | .panic _ => False
  | e => Q e a w
theorem wp_quiet11 {P : Program} {c : Code} {Q : Exit → Act → World → Prop} {a : Act} {w : World} (h : c.wp P (Quiet11 Q) a w) : c.wp P Q a w :=
  Code.wp_mono (fun e a w h => by cases e <;> first | exact h.elim | exact h) h
theorem Quiet11.normal {Q : Exit → Act → World → Prop} {a : Act} {w : World} (h : Q .normal a w) : Quiet11 Q .normal a w := h
theorem BA.loop {X Y : World} {A : Option Addr} {l : List UInt8} {d : Nat} {r : Loop} (h : BA X A l) (hd : X.heap[d]? = some (.loop r)) (hk : Keep (fun i => i = d) X Y) : BA Y A l := fun j x hj => by
  obtain ⟨b, o, hA, hc⟩ := h j x hj
  refine ⟨b, o, hA, hk.cellAt hc fun e => ?_⟩
  have e2 : b = d := e
  subst e2
  simp [World.cell?, hd] at hc
theorem pre_get {α : Type} {pre xs : List α} {x : α} (h : pre ++ [x] <+: xs) : xs[pre.length]? = some x := by
  obtain ⟨r, rfl⟩ := h
  simp
theorem resB {fn : Func} {p : Tmp} (hf : fn.results = #[.cell p 4]) {X : World} {g : Nat} {v : Value} (h : X.heap[g]? = some (.cells #[v] 4 (0, 0))) (tmps : Array Value) (hp : tmps.getD p undef = .pointer (some ⟨g, 0, none⟩)) : (results fn tmps).run Tryd.prog X = .ok v X := by
  have c1 : X.cell? ⟨g, 0, none⟩ = some v := by rw [cell_of_cells h]; rfl
  have hp' : tmps[p]?.getD undef = .pointer (some ⟨g, 0, none⟩) := by simpa using hp
  simp [results, hf, hp', asAddr, loadVar, isAgg, go_sem, c1]
end Go.Proofs.YtjnhhcbplhmemaaDoor
