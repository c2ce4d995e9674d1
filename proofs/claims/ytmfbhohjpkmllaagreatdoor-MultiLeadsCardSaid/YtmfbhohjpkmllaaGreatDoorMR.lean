import Derived.RangeFuncNested
import Derived.Test.YtmfbhohjpkmllaaGreatDoorTG
import Derived.Deep.RegionHeld
import Derived.RangeFuncBox
import Derived.Maps.AppendAt
import Derived.Test.YtmfbhohjpkmllaaGreatDoorMO
namespace Go.Proofs.YtmfbhohjpkmllaaGreatDoor
set_option linter.unusedSimpArgs false
set_option linter.unusedVariables false
section
open Go.RowKit
def Bears (L : Nat → Prop) (J : World → Prop) : Prop := ∀ X Y, J X → Keep L X Y → J Y
def BearsO (B : Nat) (J : World → Prop) : Prop := ∀ X l o o', J X → B ≤ l → X.heap[l]? = some o → o.isCells = false → J (X.putObj l o')
def BearsD (B : Nat) (J : World → Prop) : Prop := ∀ X l o o', J X → B ≤ l → l ≤ B + 1 → X.heap[l]? = some o → o.isCells = false → J (X.putObj l o')
theorem BearsO.d {B : Nat} {J : World → Prop} (h : BearsO B J) : BearsD B J := fun X l o o' hx hl _ ho hc => h X l o o' hx hl ho hc
theorem keep_putObj {M : Nat → Prop} (X : World) (l : Nat) (o : Obj) (h : M l) : Keep M X (X.putObj l o) := ⟨rfl, rfl, rfl, by simp, fun k _ hk => World.putObj_heap_other fun e => hk (e ▸ h)⟩
def SeqC {α : Type} (P : Program) (g : FuncId) (lb : Array Value) (encs : α → Array Value) (M L : Nat → Prop) (xs : List α) (w : World) : Prop :=
 ∀ (n l : Nat) (J : Bool → List α → World → Prop) (W : World), Below w.heap.size w W → (∀ b s, Bears L (J b s)) →
  (∀ pre x X, J true pre X → pre ++ [x] <+: xs → YieldAt Fence.wide (n - 1) P l (encs x) X fun e Y => ∃ b, e = .returned (.bool b) ∧ J b (pre ++ [x]) Y ∧ (b = true → Keep M X Y)) →
  J true [] W →
  CallsIn Fence.wide n P g (#[.func (.yield l) #[] #[]] ++ lb) W fun e Y => (∃ v, e = .returned v) ∧ (J true xs Y ∨ ∃ pre, pre <+: xs ∧ J false pre Y)
def endC {α : Type} (B : Nat) (M : Nat → Prop) (I : List α → World → Prop) (Ix : Code → List α → World → Prop) (s : List α) (X : World) : Exit → Act → World → Prop
 | .normal, _, Y => KeepsFrom B X Y ∧ Keep M X Y ∧ I s Y
 | .ret, _, Y => KeepsFrom B X Y ∧ Ix .ret s Y
 | .exit i, _, Y => KeepsFrom B X Y ∧ Ix (.exit i) s Y
 | .goto t, _, Y => KeepsFrom B X Y ∧ Ix (.goto t) s Y
 | .panic _, _, _ => False
 | .outgrown, _, _ => False
def JC {α : Type} (D : Nat) (rc : LoopState → Option Code → Loop) (I : List α → World → Prop) (Ix : Code → List α → World → Prop) (b : Bool) (s : List α) (X : World) : Prop :=
 X.heap[D]? = some (.deferred (some [])) ∧ match b with
  | true => I s X ∧ X.heap[D + 1]? = some (.loop (rc .ready none))
  | false => ∃ c, Ix c s X ∧ X.heap[D + 1]? = some (.loop (rc .done (some c)))
theorem round_end {P : Program} {D : Nat} {X Y : World} {r r' : Loop} (jump : Option Code) (hX : X.heap[D + 1]? = some (.loop r)) (hd : X.heap[D]? = some (.deferred (some []))) (hk : KeepsFrom D X Y)
  (hr : { r with state := if jump.isNone then .ready else .done, pending := jump } = r') :
  (Instr.endRound (D + 1) jump).run P Y = .ok (.bool jump.isNone) (Y.putObj (D + 1) (.loop r')) ∧ (Y.putObj (D + 1) (.loop r')).heap[D]? = some (.deferred (some [])) ∧ (Y.putObj (D + 1) (.loop r')).heap[D + 1]? = some (.loop r') ∧
   ∃ o, Y.heap[D + 1]? = some o ∧ o.isCells = false := by
 have h1 := hk.same _ _ (Nat.le_succ D) hX rfl
 have h2 := hk.same _ _ (Nat.le_refl D) hd rfl
 refine ⟨by rw [← hr]; exact run_endRound jump h1, (World.putObj_heap_other (by omega)).trans h2, World.putObj_heap_same (Array.getElem?_eq_some_iff.1 h1).1, _, h1, rfl⟩
theorem wpIn_rangeD {α : Type} {P : Program} {n : Nat} {g : Operand} {ps : Array Tmp} {assign body : Code} {Q : Exit → Act → World → Prop} {a : Act} {w : World}
  {gf : Nat} {lb : Array Value} (hg : a.eval g = .func (.func gf) #[] lb) (eg : ∀ args w, (callFunc gf args).run P w = .ok (.enter gf args) w)
  {encs : α → Array Value} {M L : Nat → Prop} {xs : List α} (hseq : SeqC P gf lb encs M L xs w) (hM : ∀ i, w.heap.size ≤ i → M i) (hL : ∀ i, L i → i < w.heap.size) (hps : ∀ x, (encs x).size = ps.size)
  (I : List α → World → Prop) (Ix : Code → List α → World → Prop) (hI : ∀ s, Bears L (I s)) (hIo : ∀ s, BearsD w.heap.size (I s)) (hX : ∀ c s, Bears L (Ix c s)) (hXo : ∀ c s, BearsD w.heap.size (Ix c s)) (h0 : ∀ X, Below w.heap.size w X → I [] X)
  (Ax : α → Act → World → Prop) (hA : ∀ x a', BearsD w.heap.size (Ax x a'))
  (hassign : ∀ (l : Nat) (pre : List α) (x : α) (X : World) (K : Act → World → Prop), I pre X → pre ++ [x] <+: xs → (∀ a' Y, KeepsFrom w.heap.size X Y → Keep M X Y → I pre Y → Ax x a' Y → K a' Y) →
   assign.wpIn (Fence.wide.inRound l) (n - 1 - 1) P (Exit.then K (fun _ _ _ => False)) { tmps := (ps.zip (encs x)).foldl (fun t (p, v) => t.setIfInBounds p v) a.tmps, defers := [] } X)
  (hbody : ∀ (l : Nat) (pre : List α) (x : α) (a' : Act) (X : World), l = w.heap.size + 1 → (∃ r, X.heap[l]? = some (.loop r)) → I pre X → Ax x a' X → pre ++ [x] <+: xs →
   body.wpIn (Fence.wide.inRound l) (n - 1 - 1) P (endC w.heap.size M I Ix (pre ++ [x]) X) a' X)
  (hdone : ∀ (D : Nat) (X : World), D = w.heap.size → I xs X → X.heap[D]? = some (.deferred (some [])) → Q .normal { a with defers := { target := .collected D, args := #[] } :: a.defers } X)
  (hstop : ∀ (D : Nat) (c : Code) (pre : List α) (X : World), D = w.heap.size → pre <+: xs → Ix c pre X → X.heap[D]? = some (.deferred (some [])) →
   c.wpIn Fence.wide n P Q { a with defers := { target := .collected D, args := #[] } :: a.defers } X) :
  (Code.rangeFunc g ps assign body).wpIn Fence.wide n P Q a w := by
 refine wpIn_rangeFunc fun fn hfn => ?_
 obtain ⟨rc, hrc⟩ : ∃ rc : LoopState → Option Code → Loop, rc = fun st pe => { state := st, pending := pe, fn, tmps := a.tmps, params := ps, assign, body, defers := w.heap.size } := ⟨_, rfl⟩
 obtain ⟨Z, hZ⟩ : ∃ Z, Z = (w.alloc (.deferred (some []))).alloc (.loop (rc .ready none)) := ⟨_, rfl⟩
 have zl : Z.heap[w.heap.size + 1]? = some (.loop (rc .ready none)) := by
  have := World.alloc_heap_new (w.alloc (.deferred (some []))) (.loop (rc .ready none))
  rwa [World.size_alloc, ← hZ] at this
 have zd : Z.heap[w.heap.size]? = some (.deferred (some [])) := by
  rw [hZ]
  exact (Below.heap_alloc _ _ _ (by simp)).trans (World.alloc_heap_new w _)
 have zb : Below w.heap.size w Z := by rw [hZ]; exact ((Below.refl _ w).alloc (Nat.le_refl _) _).alloc (by simp) _
 have ent := run_enterLoop_outer (P := P) (w := w) fn a.tmps ps assign body
 have hZ2 : (w.alloc (.deferred (some []))).alloc (.loop { state := .ready, pending := none, fn, tmps := a.tmps, params := ps, assign, body, defers := w.heap.size }) = Z := by rw [hZ, hrc]
 rw [hZ2] at ent
 refine ⟨_, _, Z, { target := .fn (.func gf) lb, args := #[.func (.yield (w.heap.size + 1)) #[] #[]] }, Z, gf, _, Z, ent, ?_, fun _ _ => trivial, ?_, (fun h => by cases h), (hseq (n - 1) (w.heap.size + 1) (JC w.heap.size rc I Ix) Z zb ?_ ?_ ⟨zd, h0 Z zb, zl⟩).mono ?_⟩
 ·simp only [resolve, hg]
  simp [go_sem]
 ·simp [invoke, go_sem, eg]
 ·rintro b s X Y ⟨hd, h⟩ hk
  have hnD : ¬ L w.heap.size := fun h => by have := hL _ h; omega
  have hnl : ¬ L (w.heap.size + 1) := fun h => by have := hL _ h; omega
  cases b with
  | true => exact ⟨hk.heap hd hnD, hI s X Y h.1 hk, hk.heap h.2 hnl⟩
  | false =>
   obtain ⟨c, h1, h2⟩ := h
   exact ⟨hk.heap hd hnD, c, hX c s X Y h1 hk, hk.heap h2 hnl⟩
 ·rintro pre x X ⟨hd, hi, hl⟩ hp
  refine ⟨_, _, _, _, run_yield hl (by rw [hrc]; exact hps x), roundIn_of_wpIn (by rw [hrc]; exact hfn) ?_⟩
  rw [hrc]
  refine hassign _ pre x X _ hi hp fun a' Y hf hm hi2 ha => ?_
  have hl2 := hf.same _ _ (Nat.le_succ _) hl rfl
  have hd2 := hf.same _ _ (Nat.le_refl _) hd rfl
  refine ⟨_, run_beginRound hl2 (by rw [hrc]), ?_⟩
  obtain ⟨V, hV⟩ : ∃ V, V = Y.putObj (w.heap.size + 1) (.loop { rc .ready none with state := .busy }) := ⟨_, rfl⟩
  rw [← hV]
  have vl : V.heap[w.heap.size + 1]? = some (.loop { rc .ready none with state := .busy }) := by rw [hV]; exact World.putObj_heap_same (Array.getElem?_eq_some_iff.1 hl2).1
  have vd : V.heap[w.heap.size]? = some (.deferred (some [])) := by rw [hV]; exact (World.putObj_heap_other (by omega)).trans hd2
  have vi : I pre V := by rw [hV]; exact hIo pre Y _ _ _ hi2 (Nat.le_succ _) (Nat.le_refl _) hl2 rfl
  have va : Ax x a' V := by rw [hV]; exact hA x a' Y _ _ _ ha (Nat.le_succ _) (Nat.le_refl _) hl2 rfl
  have vm : Keep M Y V := by rw [hV]; exact keep_putObj _ _ _ (hM _ (Nat.le_succ _))
  refine wpIn_mono (hbody _ pre x a' V rfl ⟨_, vl⟩ vi va hp) fun e a3 U hu => ?_
  cases e with
  | normal =>
   obtain ⟨h1, h2, h3⟩ := hu
   obtain ⟨e1, e2, e3, o, e4, e5⟩ := round_end (P := P) (r' := rc .ready none) none vl vd h1 (by rw [hrc]; rfl)
   exact ⟨_, _, e1, true, rfl, ⟨e2, hIo _ U _ _ _ h3 (Nat.le_succ _) (Nat.le_refl _) e4 e5, by rw [hrc] at e3 ⊢; exact e3⟩, fun _ => ((hm.trans vm).trans h2).trans (keep_putObj _ _ _ (hM _ (Nat.le_succ _)))⟩
  | ret =>
   obtain ⟨h1, h3⟩ := hu
   obtain ⟨e1, e2, e3, o, e4, e5⟩ := round_end (P := P) (r' := rc .done (some .ret)) (some .ret) vl vd h1 (by rw [hrc]; rfl)
   exact ⟨_, _, e1, false, rfl, ⟨e2, _, hXo _ _ U _ _ _ h3 (Nat.le_succ _) (Nat.le_refl _) e4 e5, by rw [hrc] at e3 ⊢; exact e3⟩, fun h => by cases h⟩
  | exit i =>
   obtain ⟨h1, h3⟩ := hu
   obtain ⟨e1, e2, e3, o, e4, e5⟩ := round_end (P := P) (r' := rc .done (some (.exit i))) (some (.exit i)) vl vd h1 (by rw [hrc]; rfl)
   exact ⟨_, _, e1, false, rfl, ⟨e2, _, hXo _ _ U _ _ _ h3 (Nat.le_succ _) (Nat.le_refl _) e4 e5, by rw [hrc] at e3 ⊢; exact e3⟩, fun h => by cases h⟩
  | goto t =>
   obtain ⟨h1, h3⟩ := hu
   obtain ⟨e1, e2, e3, o, e4, e5⟩ := round_end (P := P) (r' := rc .done (some (.goto t))) (some (.goto t)) vl vd h1 (by rw [hrc]; rfl)
   exact ⟨_, _, e1, false, rfl, ⟨e2, _, hXo _ _ U _ _ _ h3 (Nat.le_succ _) (Nat.le_refl _) e4 e5, by rw [hrc] at e3 ⊢; exact e3⟩, fun h => by cases h⟩
  | panic _ => exact hu.elim
  | outgrown => exact hu.elim
 ·rintro e Y ⟨⟨v, rfl⟩, ⟨hd, hi, hl⟩ | ⟨pre, hp, hd, c, hi, hl⟩⟩
  ·have := run_endLoop (P := P) hl (by rw [hrc]; simp)
   rw [show (rc .ready none).pending = none by rw [hrc]] at this
   exact ⟨_, _, this, hdone _ _ rfl (hIo _ Y _ _ _ hi (Nat.le_succ _) (Nat.le_refl _) hl rfl) ((World.putObj_heap_other (by omega)).trans hd)⟩
  ·have := run_endLoop (P := P) hl (by rw [hrc]; simp)
   rw [show (rc .done (some c)).pending = some c by rw [hrc]] at this
   exact ⟨_, _, this, hstop _ c pre _ rfl hp (hXo c _ Y _ _ _ hi (Nat.le_succ _) (Nat.le_refl _) hl rfl) ((World.putObj_heap_other (by omega)).trans hd)⟩
theorem wpIn_rangeC {α : Type} {P : Program} {n : Nat} {g : Operand} {ps : Array Tmp} {assign body : Code} {Q : Exit → Act → World → Prop} {a : Act} {w : World}
  {gf : Nat} {lb : Array Value} (hg : a.eval g = .func (.func gf) #[] lb) (eg : ∀ args w, (callFunc gf args).run P w = .ok (.enter gf args) w)
  {encs : α → Array Value} {M L : Nat → Prop} {xs : List α} (hseq : SeqC P gf lb encs M L xs w) (hM : ∀ i, w.heap.size ≤ i → M i) (hL : ∀ i, L i → i < w.heap.size) (hps : ∀ x, (encs x).size = ps.size)
  (I : List α → World → Prop) (Ix : Code → List α → World → Prop) (hI : ∀ s, Bears L (I s)) (hIo : ∀ s, BearsO w.heap.size (I s)) (hX : ∀ c s, Bears L (Ix c s)) (hXo : ∀ c s, BearsO w.heap.size (Ix c s)) (h0 : ∀ X, Below w.heap.size w X → I [] X)
  (Ax : α → Act → World → Prop) (hA : ∀ x a', BearsO w.heap.size (Ax x a'))
  (hassign : ∀ (l : Nat) (pre : List α) (x : α) (X : World) (K : Act → World → Prop), I pre X → pre ++ [x] <+: xs → (∀ a' Y, KeepsFrom w.heap.size X Y → Keep M X Y → I pre Y → Ax x a' Y → K a' Y) →
   assign.wpIn (Fence.wide.inRound l) (n - 1 - 1) P (Exit.then K (fun _ _ _ => False)) { tmps := (ps.zip (encs x)).foldl (fun t (p, v) => t.setIfInBounds p v) a.tmps, defers := [] } X)
  (hbody : ∀ (l : Nat) (pre : List α) (x : α) (a' : Act) (X : World), w.heap.size ≤ l → (∃ r, X.heap[l]? = some (.loop r)) → I pre X → Ax x a' X → pre ++ [x] <+: xs →
   body.wpIn (Fence.wide.inRound l) (n - 1 - 1) P (endC w.heap.size M I Ix (pre ++ [x]) X) a' X)
  (hdone : ∀ (D : Nat) (X : World), w.heap.size ≤ D → I xs X → X.heap[D]? = some (.deferred (some [])) → Q .normal { a with defers := { target := .collected D, args := #[] } :: a.defers } X)
  (hstop : ∀ (D : Nat) (c : Code) (pre : List α) (X : World), w.heap.size ≤ D → pre <+: xs → Ix c pre X → X.heap[D]? = some (.deferred (some [])) →
   c.wpIn Fence.wide n P Q { a with defers := { target := .collected D, args := #[] } :: a.defers } X) :
  (Code.rangeFunc g ps assign body).wpIn Fence.wide n P Q a w :=
 wpIn_rangeD hg eg hseq hM hL hps I Ix hI (fun s => (hIo s).d) hX (fun c s => (hXo c s).d) h0 Ax (fun x a' => (hA x a').d) hassign (fun l pre x a' X hl => hbody l pre x a' X (by omega)) (fun D X hD => hdone D X (by omega)) (fun D c pre X hD => hstop D c pre X (by omega))
end
section
open Go.RowKit
def noDefer (ops : Array Oper) : Bool := ops.toList.all fun o => match o.op with
 | .defer _ => false
 | _ => true
theorem noDefer_at {ops : Array Oper} (h : noDefer ops = true) {i : Nat} {o : Oper} (ho : ops[i]? = some o) : ∀ c, o.op ≠ .defer c := fun c hc => by
 have h1 := List.all_eq_true.1 h o (List.mem_of_getElem? (by rw [← Array.getElem?_toList] at ho; exact ho))
 rw [hc] at h1
 cases h1
theorem upon_in {P : Program} {n r : Nat} {o : Oper} {a : Act} {w : World} {next next' : Act → World → Prop} {Q : Exit → Act → World → Prop} (hd : ∀ c, o.op ≠ .defer c) (hn : ∀ a w, next a w → next' a w)
  (h : o.upon P a next Q ((execOp a.eval o).run P w)) : o.uponIn (Fence.wide.inRound r) n P a next' Q ((o.semAt (some r) a.eval).run P w) := by
 rw [Oper.semAt_eq _ _ _ hd]
 generalize (execOp a.eval o).run P w = res at h ⊢
 match res, h with
 | .ok (.value v) w', h => exact hn _ _ h
 | .ok .skip w', h => exact hn _ _ h
 | .ok (.defer d) w', h => exact hn _ _ h
 | .ok (.enter f args) w', h =>
  refine ⟨fun hc => (by cases hc), CallsIn.inRound r (callsIn_wide.2 (Calls.mono h fun e w'' he => ?_))⟩
  cases e with
  | returned v => exact hn _ _ he
  | panicked c => exact he
  | outgrown => exact he
 | .ok (.row row args) w', h =>
  refine ⟨fun hc => (by cases hc), fun c cs _ => ?_⟩
  obtain ⟨v, w'', h1, h2⟩ := h c cs
  exact ⟨v, w'', hn _ _ h1, stepsIn_wide.2 h2⟩
 | .halt (.panic v) w', h => exact h
theorem opsIn_of_ops {P : Program} {n r : Nat} {ops : Array Oper} {Q : Exit → Act → World → Prop} (hQ : ¬ LetsOut Q) (hd : noDefer ops = true) : ∀ (l : List Nat) (a : Act) (w : World), wpOps P ops Q l a w → wpOpsIn (Fence.wide.inRound r) n P ops Q l a w
 | [], _, _, h => h
 | i :: rest, a, w, h => by
  unfold wpOps at h
  unfold wpOpsIn
  cases ho : ops[i]? with
  | none =>
   simp only [ho] at h ⊢
   exact opsIn_of_ops hQ hd rest a w h
  | some o =>
   simp only [ho] at h ⊢
   by_cases hw : Region.wanted o (yielded ops a.tmps) = true
   ·simp only [hw, if_true] at h ⊢
    rcases h with h | ⟨_, h⟩
    ·exact ⟨fun _ _ => trivial, upon_in (noDefer_at hd ho) (fun a w h => opsIn_of_ops hQ hd rest a w h) h⟩
    ·exact absurd h hQ
   ·simp only [hw, if_false, Bool.false_eq_true] at h ⊢
    exact ⟨fun _ _ => trivial, opsIn_of_ops hQ hd rest _ w h⟩
variable {P : Program} {n r : Nat} {ops : Array Oper} {Q : Exit → Act → World → Prop} {id : Nat} {a : Act} {w : World}
theorem round_region {l : List Oper} (hQ : ¬ LetsOut Q) (hd : noDefer l.toArray = true) (h : wpList P l.toArray Q l a w) : (Code.region id l.toArray false).wpIn (Fence.wide.inRound r) n P Q a w :=
 wpIn_region (opsIn_of_ops hQ hd _ _ _ (by
  have := wpOps_eq_wpList (P := P) (ops := l.toArray) (Q := Q) l 0 (by simp)
  rw [List.range_eq_range', List.size_toArray, this]
  exact h))
end
section
open Go.RowKit
theorem infoPn : (Tryz.prog.info? 24).map (fun i => (i.zero, i.size, i.bytes)) = some (some (.pointer none), 1, 8) := by kernel_rfl
def OwnT (w : World) (B : Nat) (v : Value) (ts : List Tv) : Prop := w.ownsRow B 24 1 v ts.length (ts.map Tv.val)
theorem OwnT.nil (w : World) (B : Nat) : OwnT w B (.slice none 0 0) [] := ⟨rfl, .inl ⟨rfl, rfl⟩⟩
theorem OwnT.block {w w' : World} {B : Nat} {v : Value} {ts : List Tv} (h : OwnT w B v ts) (hb : ∀ g cs t, B ≤ g → w.heap[g]? = some (.cells cs t (0, 0)) → w'.heap[g]? = some (.cells cs t (0, 0))) : OwnT w' B v ts := by
 obtain ⟨h0, h | ⟨g, cap, cur, rfl, hg, hh, hr⟩⟩ := h
 ·exact ⟨h0, .inl h⟩
 ·exact ⟨h0, .inr ⟨g, cap, cur, rfl, hg, hb _ _ _ hg hh, hr⟩⟩
theorem OwnT.below {w w' : World} {B : Nat} {v : Value} {ts : List Tv} (h : OwnT w B v ts) (hb : Below w.heap.size w w') : OwnT w' B v ts := h.block fun g _ _ _ hg => by rw [hb.block g (lt_of_heap hg)]; exact hg
theorem OwnT.ge {w : World} {B : Nat} {v : Value} {ts : List Tv} (h : OwnT w B v ts) : ∀ k, v.ownBlock = some k → B ≤ k := fun k hk => by
 obtain ⟨_, h | ⟨g, cap, cur, rfl, hg, _⟩⟩ := h
 ·obtain ⟨rfl, _⟩ := h; simp [Value.ownBlock] at hk
 ·simp [Value.ownBlock] at hk; omega
theorem OwnT.cells {w : World} {B : Nat} {v : Value} {ts : List Tv} (h : OwnT w B v ts) : ∀ k o, v.ownBlock = some k → w.heap[k]? = some o → o.isCells = true := fun k o hk ho => by
 obtain ⟨_, h | ⟨g, cap, cur, rfl, hg, hh, _⟩⟩ := h
 ·obtain ⟨rfl, _⟩ := h; simp [Value.ownBlock] at hk
 ·simp [Value.ownBlock] at hk; subst hk; rw [hh] at ho; cases ho; rfl
theorem OwnT.pa {w : World} {B : Nat} {v : Value} {ts : List Tv} (h : OwnT w B v ts) : ∃ A c, v = .slice A ts.length c ∧ PA w A ts := by
 obtain ⟨h0, ⟨rfl, h⟩ | ⟨g, cap, cur, rfl, hg, hh, hn, hc, hs, ht⟩⟩ := h
 ·refine ⟨none, 0, by rw [h], fun j f hj => ?_⟩
  have : ts = [] := List.length_eq_zero_iff.1 h
  subst this; simp at hj
 ·refine ⟨_, _, rfl, fun j T hj => ⟨g, 0, rfl, ?_⟩⟩
  rw [Nat.zero_add, cell_of_cells hh, ← Array.getElem?_toList]
  have hlt : j < ts.length := (List.getElem?_eq_some_iff.1 hj).1
  have : (cur.toList.take (ts.length * 1))[j]? = some T.val := by rw [ht]; simp [hj]
  rw [List.getElem?_take_of_lt (by omega)] at this
  exact this
structure Pushed (B : Nat) (v' : Value) (ts : List Tv) (w w' : World) : Prop where
 own : OwnT w' B v' ts
 bel : Below B w w'
 oth : KeepsOthers w w'
theorem wpList_pushT {ops : Array Oper} {rest : List Oper} {o : Oper} {a : Act} {w : World} {Q : Exit → Act → World → Prop} (hgd : o.guard = none) (s x : Operand)
  (ho : o.op = .call { callee := .builtin .append, args := #[s, x], argTypes := #[165, 165] }) (B : Nat) (v : Value) (ts : List Tv) (hs : a.eval s = v) (hown : OwnT w B v ts) (g : Nat) (S : Tv) (p : Option Addr) (hp : S.val = .pointer p)
  (hx : a.eval x = .slice (some ⟨g, 0, none⟩) 1 1) (hk : w.cell? ⟨g, 0, none⟩ = some (.pointer p)) (hl : ts.length ≤ 400000) (hB : B ≤ w.heap.size)
  (h : ∀ A n c w', Pushed B (.slice A n c) (ts ++ [S]) w w' → wpList Tryz.prog ops Q rest (a.put o.dst (.slice A n c)) w') : wpList Tryz.prog ops Q (o :: rest) a w := by
 obtain ⟨i0, hi, hz0, hz1, hz2⟩ := info_parts infoPn
 refine wpList_append_own (w := w) hgd s x 165 ho B 24 i0 (.pointer none) 1 8 Tryz.underlying165 hi hz0 hz1 hz2 rfl (by decide) v ts.length (ts.map Tv.val) hs hown ⟨g, 0, none⟩ 1 1 [S.val] hx rfl
  (fun j u hj => ?_) (fun u hu => ?_) (by unfold maxLen; omega) (by omega) hB fun v' w' h1 h2 _ => ?_
 ·match j, hj with
  | 0, hj =>
   simp at hj
   rw [← hj, hp]
   simpa [Addr.add] using hk
 ·simp at hu; subst hu; rw [hp]; rfl
 ·have ho' : OwnT w' B v' (ts ++ [S]) := by
   unfold OwnT
   rw [List.map_append, List.length_append]
   simpa using h1
  obtain ⟨A, c, rfl, _⟩ := ho'.pa
  exact h _ _ _ _ ⟨ho', (Below.refl _ _).grown h2 hB hown.ge, ⟨h2.size, fun k ob hk2 hc => (h2.block k (lt_of_heap hk2) fun e => by
   have := OwnT.cells hown k ob e.symm hk2
   rw [hc] at this
   cases this).trans hk2⟩⟩
end
section
open Go.RowKit
variable {P : Program} {md : Region.Mode} {ops : Array Oper} {Q : Exit → Act → World → Prop} {S : World → Prop} {t : Nat}
def HeldT (P : Program) (md : Region.Mode) (ops : Array Oper) (Q : Exit → Act → World → Prop) (S : World → Prop) (t : Nat) : Nat → Array Bool → Act → World → Prop
 | 0, m, a, w => Region.ready md ops m = [] ∧ Q .normal a w
 | f + 1, m, a, w => (Region.ready md ops m = [] → Q .normal a w) ∧ ∀ j, j ∈ Region.ready md ops m → wpOp P ops Q j (fun b x => (j ≠ t → S x) ∧ HeldT P md ops Q S t f (m.setIfInBounds j true) b x) a w
theorem HeldT.any : ∀ (f : Nat) (m : Array Bool) (a : Act) (w : World), HeldT P md ops Q S t f m a w → wpAny P md ops Q f m a w
 | 0, _, _, _, h => h
 | f + 1, _, _, _, h => ⟨h.1, fun j hj => wpOp_mono (fun b x hb => HeldT.any f _ b x hb.2) (h.2 j hj)⟩
def waitsB (md : Region.Mode) (ops : Array Oper) (t i : Nat) : Bool :=
 match ops[t]? with
 | some o => o.after.toList.any fun e => Region.binds md e && decide (e.on = i)
 | none => false
theorem waits_ready {i : Nat} {m : Array Bool} (h : waitsB md ops t i = true) (ht : t ∈ Region.ready md ops m) : m.getD i false = true := by
 obtain ⟨_, o, ho, hall⟩ := mem_ready.1 ht
 unfold waitsB at h
 rw [ho] at h
 obtain ⟨e, he, h2⟩ := List.any_eq_true.1 h
 rw [Bool.and_eq_true, decide_eq_true_eq] at h2
 rw [← h2.2]
 exact hall e (by simpa using he) h2.1
theorem listed_not {i : Nat} {m : Array Bool} (h : m.getD i true = false) : m.getD i false = false := by
 rcases Nat.lt_or_ge i m.size with hlt | hge
 ·simpa [Array.getD, hlt] using h
 ·simp [Array.getD, Nat.not_lt.2 hge] at h
theorem HeldT.early {i : Nat} {oi : Oper} {v : Value} (hi : ops[i]? = some oi) (hsel : Region.noSelect ops = true) (hw : waitsB md ops t i = true) (hQ : ∀ c a w, Q (.panic c) (a.put oi.dst v) w → Q (.panic c) a w) :
  ∀ (f : Nat) (m : Array Bool) (a : Act) (w : World), (∀ j oj, ops[j]? = some oj → j ≠ i → m.getD j true = false → (∀ e ∈ oj.after, Region.binds md e = true → e.on ≠ i) → oi.apart ops oj = true) → i ∈ Region.ready md ops m →
   YieldsIf P ops S oi v a → S w → HeldT P md ops Q S t f (m.setIfInBounds i true) (a.put oi.dst v) w → HeldT P md ops Q S t (f + 1) m a w := by
 intro f
 induction f with
 | zero =>
  intro m a w _ hr hy hS h
  refine ⟨fun e => absurd (e ▸ hr) (by simp), fun j hj => ?_⟩
  rcases Classical.em (j = i) with rfl | hne
  ·exact hy.wpOp hi hS ⟨fun _ => hS, h⟩
  ·exact absurd (h.1 ▸ ready_mono hj hne) (by simp)
 | succ f ih =>
  intro m a w hap hr hy hS h
  have hmi := (mem_ready.1 hr).1
  refine ⟨fun e => absurd (e ▸ hr) (by simp), fun j hj => ?_⟩
  rcases Classical.em (j = i) with rfl | hne
  ·exact hy.wpOp hi hS ⟨fun _ => hS, h⟩
  ·have hjt : j ≠ t := fun e => by
    have := waits_ready hw (e ▸ hj)
    rw [listed_not hmi] at this
    cases this
   obtain ⟨hmj, oj, hoj, hall⟩ := mem_ready.1 hj
   have hfar : ∀ e ∈ oj.after, Region.binds md e = true → e.on ≠ i := fun e he hb heq => by
    have := hall e he hb
    rw [heq, listed_not hmi] at this
    cases this
   have hstep := wpOp_putIf hoj (hap j oj hoj hne hmj hfar) (fun cs b => Region.noSelect_spec hsel i oi cs b hi) (fun cs b => Region.noSelect_spec hsel j oj cs b hoj) hQ hy (h.2 j (ready_mono hj hne))
   refine wpOp_mono (fun b x ⟨hyb, hsx, hrest⟩ => ⟨hsx, ih _ b x ?_ (ready_mono hr (Ne.symm hne)) hyb (hsx hjt) (Array.setIfInBounds_comm true true (Ne.symm hne) ▸ hrest)⟩) hstep
   intro k ok hok hki hk hno
   refine hap k ok hok hki ?_ hno
   rcases Classical.em (j = k) with rfl | hjk
   ·exact hmj
   ·rwa [getD_set_ne true hjk] at hk
theorem HeldT.take {i : Nat} {oi : Oper} {v : Value} {f : Nat} {m : Array Bool} {a : Act} {w : World} (hi : ops[i]? = some oi) (hsel : Region.noSelect ops = true) (hw : waitsB md ops t i = true) (hfree : Region.free md ops m i = true) (hr : (Region.ready md ops m).contains i = true)
  (hQ : ∀ c a w, Q (.panic c) (a.put oi.dst v) w → Q (.panic c) a w) (hy : YieldsIf P ops S oi v a) (hS : S w) (h : HeldT P md ops Q S t f (m.setIfInBounds i true) (a.put oi.dst v) w) : HeldT P md ops Q S t (f + 1) m a w :=
 HeldT.early hi hsel hw hQ f m a w (Region.free_spec hi hfree) (by simpa using hr) hy hS h
theorem wpOp_alone {i : Nat} {o : Oper} {K : Act → World → Prop} {a : Act} {w : World} (ho : ops[i]? = some o) (hg : o.guard = none) (h : wpList P #[o] (Exit.then K Q) [o] a w) : wpOp P ops Q i K a w := by
 unfold wpOp
 rw [ho]
 have e1 : ∀ ys, Region.wanted o ys = true := fun ys => by simp [Region.wanted, hg]
 simp only [wpList, e1, if_true] at h ⊢
 rcases h with h | ⟨h1, h2⟩
 ·refine .inl ?_
  unfold Oper.wp at h ⊢
  generalize (execOp a.eval o).run P w = res at h ⊢
  match res, h with
  | .ok (.value v) w', h => exact h
  | .ok .skip w', h => exact h
  | .ok (.defer d) w', h => exact h
  | .ok (.enter g args) w', h =>
   refine Calls.mono h fun e x he => ?_
   cases e with
   | returned v => exact he
   | panicked c => exact he
   | outgrown => exact he
  | .ok (.row row args) w', h => exact Rows.mono h fun _ _ hx => hx
  | .halt (.panic v) w', h => exact h
 ·exact .inr ⟨h1, h2⟩
theorem HeldT.one {i : Nat} {o : Oper} {f : Nat} {m : Array Bool} {a : Act} {w : World} (hr : Region.ready md ops m = [i]) (ho : ops[i]? = some o) (hg : o.guard = none)
  (h : ∀ K : Act → World → Prop, Hid (∀ b x, (i ≠ t → S x) → ((i ≠ t → S x) → HeldT P md ops Q S t f (m.setIfInBounds i true) b x) → K b x) → wpList P #[o] (Exit.then K Q) [o] a w) : HeldT P md ops Q S t (f + 1) m a w :=
 ⟨fun e => absurd (hr ▸ e) (by simp), fun j hj => by
  obtain rfl : j = i := by rw [hr] at hj; simpa using hj
  exact wpOp_alone ho hg (h _ fun b x hS hH => ⟨hS, hH hS⟩)⟩
theorem HeldT.done {m : Array Bool} {a : Act} {w : World} (hr : Region.ready md ops m = []) (h : Q .normal a w) : ∀ f, HeldT P md ops Q S t f m a w
 | 0 => ⟨hr, h⟩
 | _ + 1 => ⟨fun _ => h, by rw [hr]; simp⟩
theorem region_heldT {id : Nat} {a : Act} {w : World} (t : Nat) (S : World → Prop) (hm : P.follows .mixedOrders = true) (h : HeldT P .any ops Q S t ops.size (Array.replicate ops.size false) a w.drew) : (Code.region id ops true).wp P Q a w := wp_region_any hm (HeldT.any _ _ _ _ h)
end
end Go.Proofs.YtmfbhohjpkmllaaGreatDoor
