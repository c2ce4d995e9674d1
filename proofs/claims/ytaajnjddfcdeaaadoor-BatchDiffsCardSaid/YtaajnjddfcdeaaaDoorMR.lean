/- Several texts in one: Rf Rg Rp Rh. -/
import Derived.RangeFuncNested
import Derived.Test.YtaajnjddfcdeaaaDoorGn
import Derived.Test.YtaajnjddfcdeaaaDoorTail
import Derived.Deep.RegionHeld
import Derived.RangeFuncBox
import Derived.Maps.AppendAt
import Derived.Test.YtaajnjddfcdeaaaDoorMO
/- A loop over a range function whose iterator may write cells of its own (a captured variable): a contract over the very list that comes, and the loop's law out of the statement's step. Own work over any program. -/
namespace Go.Proofs.YtaajnjddfcdeaaaDoor
open Go.RowKit

/-- A word of memory that outlives whatever writes blocks of L alone. -/
def Bears (L : Nat → Prop) (J : World → Prop) : Prop := ∀ X Y, J X → Keep L X Y → J Y
/-- .. and that outlives the turn of a block from B on that holds no cells. -/
def BearsO (B : Nat) (J : World → Prop) : Prop := ∀ X l o o', J X → B ≤ l → X.heap[l]? = some o → o.isCells = false → J (X.putObj l o')
/-- .. of one of the loop's own two blocks. -/
def BearsD (B : Nat) (J : World → Prop) : Prop := ∀ X l o o', J X → B ≤ l → l ≤ B + 1 → X.heap[l]? = some o → o.isCells = false → J (X.putObj l o')
theorem BearsO.d {B : Nat} {J : World → Prop} (h : BearsO B J) : BearsD B J := fun X l o o' hx hl _ ho hc => h X l o o' hx hl ho hc
theorem keep_putObj {M : Nat → Prop} (X : World) (l : Nat) (o : Obj) (h : M l) : Keep M X (X.putObj l o) := ⟨rfl, rfl, rfl, by simp, fun k _ hk => World.putObj_heap_other fun e => hk (e ▸ h)⟩
theorem Bears.and {L : Nat → Prop} {J K : World → Prop} (h : Bears L J) (k : Bears L K) : Bears L (fun X => J X ∧ K X) := fun X Y hx hk => ⟨h X Y hx.1 hk, k X Y hx.2 hk⟩
theorem BearsO.and {B : Nat} {J K : World → Prop} (h : BearsO B J) (k : BearsO B K) : BearsO B (fun X => J X ∧ K X) := fun X l o o' hx hl ho hc => ⟨h X l o o' hx.1 hl ho hc, k X l o o' hx.2 hl ho hc⟩
end Go.Proofs.YtaajnjddfcdeaaaDoor

/- Within a round of a loop over a range function: a region's plain walk serves (no defer statement in it; the round's end lets nothing out). Own work over any program. -/
namespace Go.Proofs.YtaajnjddfcdeaaaDoor
open Go.RowKit

def noDefer (ops : Array Oper) : Bool := ops.toList.all fun o => match o.op with
  | .defer _ => false
  | _ => true
theorem noDefer_at {ops : Array Oper} (h : noDefer ops = true) {i : Nat} {o : Oper} (ho : ops[i]? = some o) : ∀ c, o.op ≠ .defer c := fun c hc => by
  have h1 := List.all_eq_true.1 h o (List.mem_of_getElem? (by rw [← Array.getElem?_toList] at ho; exact ho))
  rw [hc] at h1
  cases h1
theorem upon_in {P : Program} {n r : Nat} {o : Oper} {a : Act} {w : World} {next next' : Act → World → Prop} {Q : Exit → Act → World → Prop} (hd : ∀ c, o.op ≠ .defer c) (hn : ∀ a w, next a w → next' a w)
    (h : o.upon P a next Q ((execOp a.eval o).run P w)) : o.uponIn (Fence.wide.inRound r) n P a next' Q ((o.semAt (some r) a.eval).run P w) := by
  rw [Oper.semAt_eq _ _ _ hd]
  generalize (execOp a.eval o).run P w = res at h ⊢
  match res, h with
  | .ok (.value v) w', h => exact hn _ _ h
  | .ok .skip w', h => exact hn _ _ h
  | .ok (.defer d) w', h => exact hn _ _ h
  | .ok (.enter f args) w', h =>
    refine ⟨fun hc => (by cases hc), CallsIn.inRound r (callsIn_wide.2 (Calls.mono h fun e w'' he => ?_))⟩
    cases e with
    | returned v => exact hn _ _ he
    | panicked c => exact he
    | outgrown => exact he
  | .ok (.row row args) w', h =>
    refine ⟨fun hc => (by cases hc), fun c cs _ => ?_⟩
    obtain ⟨v, w'', h1, h2⟩ := h c cs
    exact ⟨v, w'', hn _ _ h1, stepsIn_wide.2 h2⟩
  | .halt (.panic v) w', h => exact h
theorem opsIn_of_ops {P : Program} {n r : Nat} {ops : Array Oper} {Q : Exit → Act → World → Prop} (hQ : ¬ LetsOut Q) (hd : noDefer ops = true) : ∀ (l : List Nat) (a : Act) (w : World), wpOps P ops Q l a w → wpOpsIn (Fence.wide.inRound r) n P ops Q l a w
  | [], _, _, h => h
  | i :: rest, a, w, h => by
    unfold wpOps at h
    unfold wpOpsIn
    cases ho : ops[i]? with
    | none =>
      simp only [ho] at h ⊢
      exact opsIn_of_ops hQ hd rest a w h
    | some o =>
      simp only [ho] at h ⊢
      by_cases hw : Region.wanted o (yielded ops a.tmps) = true
      · simp only [hw, if_true] at h ⊢
        rcases h with h | ⟨_, h⟩
        · exact ⟨fun _ _ => trivial, upon_in (noDefer_at hd ho) (fun a w h => opsIn_of_ops hQ hd rest a w h) h⟩
        · exact absurd h hQ
      · simp only [hw, if_false, Bool.false_eq_true] at h ⊢
        exact ⟨fun _ _ => trivial, opsIn_of_ops hQ hd rest _ w h⟩
variable {P : Program} {n r : Nat} {ops : Array Oper} {Q : Exit → Act → World → Prop} {id : Nat} {a : Act} {w : World}
theorem round_region {l : List Oper} (hQ : ¬ LetsOut Q) (hd : noDefer l.toArray = true) (h : wpList P l.toArray Q l a w) : (Code.region id l.toArray false).wpIn (Fence.wide.inRound r) n P Q a w :=
  wpIn_region (opsIn_of_ops hQ hd _ _ _ (by
    have := wpOps_eq_wpList (P := P) (ops := l.toArray) (Q := Q) l 0 (by simp)
    rw [List.range_eq_range', List.size_toArray, this]
    exact h))
end Go.Proofs.YtaajnjddfcdeaaaDoor

/- A row of subtrees that the call owns. -/
namespace Go.Proofs.YtaajnjddfcdeaaaDoor
open Go.RowKit

def OwnT (w : World) (B : Nat) (v : Value) (ts : List Tv) : Prop := w.ownsRow B 23 1 v ts.length (ts.map Tv.val)
theorem OwnT.nil (w : World) (B : Nat) : OwnT w B (.slice none 0 0) [] := ⟨rfl, .inl ⟨rfl, rfl⟩⟩
theorem OwnT.block {w w' : World} {B : Nat} {v : Value} {ts : List Tv} (h : OwnT w B v ts) (hb : ∀ g cs t, B ≤ g → w.heap[g]? = some (.cells cs t (0, 0)) → w'.heap[g]? = some (.cells cs t (0, 0))) : OwnT w' B v ts := by
  obtain ⟨h0, h | ⟨g, cap, cur, rfl, hg, hh, hr⟩⟩ := h
  · exact ⟨h0, .inl h⟩
  · exact ⟨h0, .inr ⟨g, cap, cur, rfl, hg, hb _ _ _ hg hh, hr⟩⟩
theorem OwnT.below {w w' : World} {B : Nat} {v : Value} {ts : List Tv} (h : OwnT w B v ts) (hb : Below w.heap.size w w') : OwnT w' B v ts := h.block fun g _ _ _ hg => by rw [hb.block g (lt_of_heap hg)]; exact hg
theorem OwnT.keep {w w' : World} {B : Nat} {v : Value} {ts : List Tv} {L : Nat → Prop} (h : OwnT w B v ts) (hk : Keep L w w') (hL : ∀ i, L i → i < B) : OwnT w' B v ts := h.block fun g _ _ hB hg => hk.heap hg fun hl => by have := hL _ hl; omega
theorem OwnT.putObj {w : World} {B : Nat} {v : Value} {ts : List Tv} {l : Nat} {o o' : Obj} (h : OwnT w B v ts) (hl : w.heap[l]? = some o) (hc : o.isCells = false) : OwnT (w.putObj l o') B v ts := h.block fun g _ _ _ hg => by
  by_cases e : g = l
  · subst e; rw [hg] at hl; cases hl; cases hc
  · exact (World.putObj_heap_other e).trans hg
theorem OwnT.ge {w : World} {B : Nat} {v : Value} {ts : List Tv} (h : OwnT w B v ts) : ∀ k, v.ownBlock = some k → B ≤ k := fun k hk => by
  obtain ⟨_, h | ⟨g, cap, cur, rfl, hg, _⟩⟩ := h
  · obtain ⟨rfl, _⟩ := h; simp [Value.ownBlock] at hk
  · simp [Value.ownBlock] at hk; omega
theorem OwnT.cells {w : World} {B : Nat} {v : Value} {ts : List Tv} (h : OwnT w B v ts) : ∀ k o, v.ownBlock = some k → w.heap[k]? = some o → o.isCells = true := fun k o hk ho => by
  obtain ⟨_, h | ⟨g, cap, cur, rfl, hg, hh, _⟩⟩ := h
  · obtain ⟨rfl, _⟩ := h; simp [Value.ownBlock] at hk
  · simp [Value.ownBlock] at hk; subst hk; rw [hh] at ho; cases ho; rfl
/-- What one more subtree in the row leaves. -/
structure Pushed (B : Nat) (v' : Value) (ts : List Tv) (w w' : World) : Prop where
  own : OwnT w' B v' ts
  bel : Below B w w'
  oth : KeepsOthers w w'
end Go.Proofs.YtaajnjddfcdeaaaDoor

/- A region that draws its order and whose last operation (number t, which waits for all others) may undo what the loads rest on: S is asked behind every operation but that one. Own work over any program. -/
namespace Go.Proofs.YtaajnjddfcdeaaaDoor
open Go.RowKit
variable {P : Program} {md : Region.Mode} {ops : Array Oper} {Q : Exit → Act → World → Prop} {S : World → Prop} {t : Nat}

def HeldT (P : Program) (md : Region.Mode) (ops : Array Oper) (Q : Exit → Act → World → Prop) (S : World → Prop) (t : Nat) : Nat → Array Bool → Act → World → Prop
  | 0, m, a, w => Region.ready md ops m = [] ∧ Q .normal a w
  | f + 1, m, a, w => (Region.ready md ops m = [] → Q .normal a w) ∧ ∀ j, j ∈ Region.ready md ops m → wpOp P ops Q j (fun b x => (j ≠ t → S x) ∧ HeldT P md ops Q S t f (m.setIfInBounds j true) b x) a w
theorem HeldT.any : ∀ (f : Nat) (m : Array Bool) (a : Act) (w : World), HeldT P md ops Q S t f m a w → wpAny P md ops Q f m a w
  | 0, _, _, _, h => h
  | f + 1, _, _, _, h => ⟨h.1, fun j hj => wpOp_mono (fun b x hb => HeldT.any f _ b x hb.2) (h.2 j hj)⟩
/-- Number t waits for number i. -/
def waitsB (md : Region.Mode) (ops : Array Oper) (t i : Nat) : Bool :=
  match ops[t]? with
  | some o => o.after.toList.any fun e => Region.binds md e && decide (e.on = i)
  | none => false
theorem waits_ready {i : Nat} {m : Array Bool} (h : waitsB md ops t i = true) (ht : t ∈ Region.ready md ops m) : m.getD i false = true := by
  obtain ⟨_, o, ho, hall⟩ := mem_ready.1 ht
  unfold waitsB at h
  rw [ho] at h
  obtain ⟨e, he, h2⟩ := List.any_eq_true.1 h
  rw [Bool.and_eq_true, decide_eq_true_eq] at h2
  rw [← h2.2]
  exact hall e (by simpa using he) h2.1
theorem listed_not {i : Nat} {m : Array Bool} (h : m.getD i true = false) : m.getD i false = false := by
  rcases Nat.lt_or_ge i m.size with hlt | hge
  · simpa [Array.getD, hlt] using h
  · simp [Array.getD, Nat.not_lt.2 hge] at h
/-- A load (or whatever yields in every world of S) comes first, if the last operation waits for it. -/
theorem HeldT.early {i : Nat} {oi : Oper} {v : Value} (hi : ops[i]? = some oi) (hsel : Region.noSelect ops = true) (hw : waitsB md ops t i = true) (hQ : ∀ c a w, Q (.panic c) (a.put oi.dst v) w → Q (.panic c) a w) :
    ∀ (f : Nat) (m : Array Bool) (a : Act) (w : World), (∀ j oj, ops[j]? = some oj → j ≠ i → m.getD j true = false → (∀ e ∈ oj.after, Region.binds md e = true → e.on ≠ i) → oi.apart ops oj = true) → i ∈ Region.ready md ops m →
      YieldsIf P ops S oi v a → S w → HeldT P md ops Q S t f (m.setIfInBounds i true) (a.put oi.dst v) w → HeldT P md ops Q S t (f + 1) m a w := by
  intro f
  induction f with
  | zero =>
    intro m a w _ hr hy hS h
    refine ⟨fun e => absurd (e ▸ hr) (by simp), fun j hj => ?_⟩
    rcases Classical.em (j = i) with rfl | hne
    · exact hy.wpOp hi hS ⟨fun _ => hS, h⟩
    · exact absurd (h.1 ▸ ready_mono hj hne) (by simp)
  | succ f ih =>
    intro m a w hap hr hy hS h
    have hmi := (mem_ready.1 hr).1
    refine ⟨fun e => absurd (e ▸ hr) (by simp), fun j hj => ?_⟩
    rcases Classical.em (j = i) with rfl | hne
    · exact hy.wpOp hi hS ⟨fun _ => hS, h⟩
    · have hjt : j ≠ t := fun e => by
        have := waits_ready hw (e ▸ hj)
        rw [listed_not hmi] at this
        cases this
      obtain ⟨hmj, oj, hoj, hall⟩ := mem_ready.1 hj
      have hfar : ∀ e ∈ oj.after, Region.binds md e = true → e.on ≠ i := fun e he hb heq => by
        have := hall e he hb
        rw [heq, listed_not hmi] at this
        cases this
      have hstep := wpOp_putIf hoj (hap j oj hoj hne hmj hfar) (fun cs b => Region.noSelect_spec hsel i oi cs b hi) (fun cs b => Region.noSelect_spec hsel j oj cs b hoj) hQ hy (h.2 j (ready_mono hj hne))
      refine wpOp_mono (fun b x ⟨hyb, hsx, hrest⟩ => ⟨hsx, ih _ b x ?_ (ready_mono hr (Ne.symm hne)) hyb (hsx hjt) (Array.setIfInBounds_comm true true (Ne.symm hne) ▸ hrest)⟩) hstep
      intro k ok hok hki hk hno
      refine hap k ok hok hki ?_ hno
      rcases Classical.em (j = k) with rfl | hjk
      · exact hmj
      · rwa [getD_set_ne true hjk] at hk
theorem HeldT.take {i : Nat} {oi : Oper} {v : Value} {f : Nat} {m : Array Bool} {a : Act} {w : World} (hi : ops[i]? = some oi) (hsel : Region.noSelect ops = true) (hw : waitsB md ops t i = true) (hfree : Region.free md ops m i = true) (hr : (Region.ready md ops m).contains i = true)
    (hQ : ∀ c a w, Q (.panic c) (a.put oi.dst v) w → Q (.panic c) a w) (hy : YieldsIf P ops S oi v a) (hS : S w) (h : HeldT P md ops Q S t f (m.setIfInBounds i true) (a.put oi.dst v) w) : HeldT P md ops Q S t (f + 1) m a w :=
  HeldT.early hi hsel hw hQ f m a w (Region.free_spec hi hfree) (by simpa using hr) hy hS h
/-- One operation alone, walked as a list of its own. -/
theorem wpOp_alone {i : Nat} {o : Oper} {K : Act → World → Prop} {a : Act} {w : World} (ho : ops[i]? = some o) (hg : o.guard = none) (h : wpList P #[o] (Exit.then K Q) [o] a w) : wpOp P ops Q i K a w := by
  unfold wpOp
  rw [ho]
  have e1 : ∀ ys, Region.wanted o ys = true := fun ys => by simp [Region.wanted, hg]
  simp only [wpList, e1, if_true] at h ⊢
  rcases h with h | ⟨h1, h2⟩
  · refine .inl ?_
    unfold Oper.wp at h ⊢
    generalize (execOp a.eval o).run P w = res at h ⊢
    match res, h with
    | .ok (.value v) w', h => exact h
    | .ok .skip w', h => exact h
    | .ok (.defer d) w', h => exact h
    | .ok (.enter g args) w', h =>
      refine Calls.mono h fun e x he => ?_
      cases e with
      | returned v => exact he
      | panicked c => exact he
      | outgrown => exact he
    | .ok (.row row args) w', h => exact Rows.mono h fun _ _ hx => hx
    | .halt (.panic v) w', h => exact h
  · exact .inr ⟨h1, h2⟩
/-- Only one can come up: it is walked; behind it S is shown (not behind the last). -/
theorem HeldT.one {i : Nat} {o : Oper} {f : Nat} {m : Array Bool} {a : Act} {w : World} (hr : Region.ready md ops m = [i]) (ho : ops[i]? = some o) (hg : o.guard = none)
    (h : ∀ K : Act → World → Prop, Hid (∀ b x, (i ≠ t → S x) → ((i ≠ t → S x) → HeldT P md ops Q S t f (m.setIfInBounds i true) b x) → K b x) → wpList P #[o] (Exit.then K Q) [o] a w) : HeldT P md ops Q S t (f + 1) m a w :=
  ⟨fun e => absurd (hr ▸ e) (by simp), fun j hj => by
    obtain rfl : j = i := by rw [hr] at hj; simpa using hj
    exact wpOp_alone ho hg (h _ fun b x hS hH => ⟨hS, hH hS⟩)⟩
theorem HeldT.done {m : Array Bool} {a : Act} {w : World} (hr : Region.ready md ops m = []) (h : Q .normal a w) : ∀ f, HeldT P md ops Q S t f m a w
  | 0 => ⟨hr, h⟩
  | _ + 1 => ⟨fun _ => h, by rw [hr]; simp⟩
theorem region_heldT {id : Nat} {a : Act} {w : World} (t : Nat) (S : World → Prop) (hm : P.follows .mixedOrders = true) (h : HeldT P .any ops Q S t ops.size (Array.replicate ops.size false) a w.drew) : (Code.region id ops true).wp P Q a w := wp_region_any hm (HeldT.any _ _ _ _ h)
end Go.Proofs.YtaajnjddfcdeaaaDoor
