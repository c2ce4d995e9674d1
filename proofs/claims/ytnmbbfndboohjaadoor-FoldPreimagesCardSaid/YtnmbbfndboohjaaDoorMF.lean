/- Several texts in one: Fa Fb Fc Fd Fe Ff Fg. -/
import Derived.RangeFuncBound
import Derived.RangeFuncLeaves
import Derived.Shelf.Abstract
import Derived.Shelf.RegionOpen
import Derived.OwnWalkIn
import Derived.TacticsInMore
import Derived.LoopNIn
import Derived.LoopIn
import Derived.Test.YtnmbbfndboohjaaDoorMO
import Derived.Test.YtnmbbfndboohjaaDoorM3
import Derived.Test.YtnmbbfndboohjaaDoorMR
import Derived.RangeFuncCalls
import Derived.BigQuiet
import Derived.Test.YtnmbbfndboohjaaDoorMQ
import Derived.WalkMore
/- The program's Child, and its iterator over a way. -/
namespace Go.Proofs.YtnmbbfndboohjaaDoor
open Go.RowKit Go.Shelf

theorem pbitK_c (k : List UInt8) (hk : k.length = 32) (d : Int) (w : World) : Calls Tryd.prog 55 #[.agg (bA k), .int .i64 d] w fun e w' => e = .returned (.int .i64 (bitK k d)) ∧ Below w.heap.size w w' := by
  rw [bA_key k hk]
  exact Bt.bit_c (keyF k) (keyF_byt k) d w
/-- The subtrees on a way with their depths. -/
def Tv.wayI (k : List UInt8) : Tv → Nat → List (Nat × Tv)
  | .inner v a b, d => (d, .inner v a b) :: (if bitK k d = 0 then wayI k a (d + 1) else wayI k b (d + 1))
  | t, d => [(d, t)]
abbrev encW (x : Nat × Tv) : Array Value := #[.int .i64 (x.1 : Int), x.2.val]
theorem wayI_cons (k : List UInt8) (T : Tv) (d : Nat) : ∃ r, T.wayI k d = (d, T) :: r ∧ (kindT T.tr ≠ 2 → r = []) ∧ (kindT T.tr = 2 → r = (T.child (bitK k d)).wayI k (d + 1)) := by
  cases T with
  | nil => exact ⟨[], rfl, fun _ => rfl, fun h => absurd h (show ¬ (0 : Int) = 2 by decide)⟩
  | leaf v e => exact ⟨[], rfl, fun _ => rfl, fun h => absurd h (show ¬ (1 : Int) = 2 by decide)⟩
  | inner v a b =>
    refine ⟨_, rfl, fun h => absurd rfl h, fun _ => ?_⟩
    unfold Tv.child
    split <;> rfl
theorem kind_inner {T : Tv} (h : kindT T.tr = 2) : ∃ v a b, T = .inner v a b := by
  cases T with
  | nil => exact absurd h (show ¬ (0 : Int) = 2 by decide)
  | leaf v e => exact absurd h (show ¬ (1 : Int) = 2 by decide)
  | inner v a b => exact ⟨v, a, b, rfl⟩
theorem At.child {l : List Ent} {k : List UInt8} {d : Nat} {T : Tv} (hs : Sep 0 l) (h : At l k d T) (hk : kindT T.tr = 2) : d < 256 ∧ At l k (d + 1) (T.child (bitK k d)) := by
  obtain ⟨v, a, b, rfl⟩ := kind_inner hk
  obtain ⟨h1, _, h3, _⟩ := At.inner hs h
  refine ⟨h1, ?_⟩
  unfold Tv.child
  split at h3 <;> rename_i hb
  · rw [if_pos hb]; exact h3
  · rw [if_neg hb]; exact h3
/-- What the iterator knows between two rounds. -/
structure Wy (M : World → Int → Tv → Prop) (w0 : World) (n : Int) (k : List UInt8) (s q : Nat) (S : Tv) (X : World) : Prop where
  bel : Below w0.heap.size w0 X
  st : X.heap[s]? = some (.cells #[S.val] 109 (0, 0))
  ky : X.heap[q]? = some (.cells (bA k) 23 (0, 0))
theorem Wy.below {M : World → Int → Tv → Prop} {w0 : World} {n : Int} {k : List UInt8} {s q : Nat} {S : Tv} {X Y : World} (h : Wy M w0 n k s q S X) (hb : Below X.heap.size X Y) : Wy M w0 n k s q S Y :=
  ⟨h.bel.trans (hb.mono h.bel.size), by rw [hb.block _ (lt_of_heap h.st)]; exact h.st, by rw [hb.block _ (lt_of_heap h.ky)]; exact h.ky⟩
theorem Wy.keep {M : World → Int → Tv → Prop} {w0 : World} {n : Int} {k : List UInt8} {s q : Nat} {S : Tv} {X Y : World} (h : Wy M w0 n k s q S X) (hk : Keep (fun i => w0.heap.size ≤ i ∧ i ≠ s ∧ i ≠ q) X Y) : Wy M w0 n k s q S Y :=
  ⟨h.bel.trans (hk.below h.bel.size fun _ hi => hi.1), hk.heap h.st fun h => h.2.1 rfl, hk.heap h.ky fun h => h.2.2 rfl⟩
/-- A fold that holds in the fenced walk. -/
@[go_sem ↓] theorem semAt_loadKey (ro : Option Nat) (ρ : Operand → Value) (dst : Option Tmp) (x : Operand) (type : TypeId) (pos : String) (after : Array Edge) (guard : Option (Nat × Bool)) (w : World) :
    Sem.run Tryd.prog (Oper.semAt ro ρ { dst, op := .load 23 x, type, pos, after, guard }) w = ldA 23 w (ρ x) := by cases ro <;> rfl
end Go.Proofs.YtnmbbfndboohjaaDoor

/- The program's Way: a loop over the iterator that collects. -/
namespace Go.Proofs.YtnmbbfndboohjaaDoor
open Go.RowKit Go.Shelf
attribute [local go_sem] Oper.semAt_some
theorem wayI_way (k : List UInt8) : ∀ (T : Tv) (d : Nat), (T.wayI k d).map (·.2) = T.way k d
  | .nil, _ => rfl
  | .leaf _ _, _ => rfl
  | .inner v a b, d => by
    unfold Tv.wayI Tv.way
    rw [List.map_cons]
    split
    · rw [wayI_way k a (d + 1)]
    · rw [wayI_way k b (d + 1)]
theorem quietEnd {α : Type} {B : Nat} {M : Nat → Prop} {I : List α → World → Prop} {Ix : Code → List α → World → Prop} {s : List α} {X : World} {K : Act → World → Prop} : ¬ LetsOut (Exit.then K (endC B M I Ix s X)) := fun ⟨_, _, h⟩ => h
def subs (s : List (Nat × Tv)) : List Tv := s.map (·.2)
theorem pre_mem {α : Type} {pre xs : List α} {x : α} (h : pre ++ [x] <+: xs) : x ∈ xs := h.subset (by simp)
theorem pre_len {α : Type} {pre xs : List α} {x : α} (h : pre ++ [x] <+: xs) : pre.length < xs.length := by have := h.length_le; simp at this; omega
theorem wayI_len {l : List Ent} {T : Tv} (h : IsMap l T) (k : List UInt8) : (T.wayI k 0).length ≤ 257 := by
  have h1 := congrArg List.length (wayI_way k T 0)
  rw [List.length_map, way_len] at h1
  have h2 := sibs_len k T 0
  have h3 := dep_le h.sep (h.at k)
  omega
theorem subs_snoc (pre : List (Nat × Tv)) (x : Nat × Tv) : subs (pre ++ [x]) = subs pre ++ [x.2] := by simp [subs]
theorem quietEndB {α : Type} {B j : Nat} {M : Nat → Prop} {I : List α → World → Prop} {Ix : Code → List α → World → Prop} {s : List α} {X : World} : ¬ LetsOut (Exit.inBlock j (endC B M I Ix s X)) := fun ⟨_, _, h⟩ => h
end Go.Proofs.YtnmbbfndboohjaaDoor

/- The program's Siblings: a loop over the iterator that collects what calls return (its round's drawn region by program: gen-tplr-sibs.py). -/
namespace Go.Proofs.YtnmbbfndboohjaaDoor
open Go.RowKit Go.Shelf
attribute [local go_sem] Oper.semAt_some
theorem keepsO_below {X Y : World} (h : Below X.heap.size X Y) : KeepsOthers X Y := ⟨h.size, fun k o hk _ => by rw [h.block _ (lt_of_heap hk)]; exact hk⟩
/-- The siblings of the inner nodes among the subtrees of a way. -/
def sibsI (k : List UInt8) (s : List (Nat × Tv)) : List Tv := (s.filter fun x => decide (kindT x.2.tr = 2)).map fun x => x.2.child (1 - bitK k x.1)
theorem sibsI_len (k : List UInt8) (s : List (Nat × Tv)) : (sibsI k s).length ≤ s.length := by
  unfold sibsI
  rw [List.length_map]
  exact List.length_filter_le _ _
theorem sibsI_yes (k : List UInt8) (s : List (Nat × Tv)) (x : Nat × Tv) (h : kindT x.2.tr = 2) : sibsI k (s ++ [x]) = sibsI k s ++ [x.2.child (1 - bitK k x.1)] := by simp [sibsI, h]
theorem sibsI_no (k : List UInt8) (s : List (Nat × Tv)) (x : Nat × Tv) (h : kindT x.2.tr ≠ 2) : sibsI k (s ++ [x]) = sibsI k s := by simp [sibsI, h]
theorem sibsI_app (k : List UInt8) (s r : List (Nat × Tv)) : sibsI k (s ++ r) = sibsI k s ++ sibsI k r := by simp [sibsI]
theorem sibsI_way {l : List Ent} (k : List UInt8) (hs : Sep 0 l) : ∀ (T : Tv) (d : Nat), At l k d T → sibsI k (T.wayI k d) = T.sibs k d
  | .nil, _, _ => rfl
  | .leaf _ _, _, _ => rfl
  | .inner v a b, d, h => by
    obtain ⟨h1, h2⟩ := At.child hs h rfl
    obtain ⟨r, hr, _, hr2⟩ := wayI_cons k (.inner v a b) d
    have e : sibsI k ((Tv.inner v a b).wayI k d) = (Tv.child (.inner v a b) (1 - bitK k d)) :: sibsI k ((Tv.child (.inner v a b) (bitK k d)).wayI k (d + 1)) := by
      rw [hr, hr2 rfl, ← List.singleton_append, sibsI_app, ← List.nil_append [(d, Tv.inner v a b)], sibsI_yes k [] _ (show kindT (Tv.inner v a b).tr = 2 from rfl), ← List.singleton_append]
      unfold sibsI
      rfl
    rw [e]
    rcases bitK_01 k d h1 with hb | hb
    · rw [hb] at h2 ⊢
      unfold Tv.sibs
      rw [if_pos hb, ← sibsI_way k hs a (d + 1) h2]
      rfl
    · rw [hb] at h2 ⊢
      unfold Tv.sibs
      rw [if_neg (by rw [hb]; decide), ← sibsI_way k hs b (d + 1) h2]
      rfl
theorem bitK_small (k : List UInt8) (d : Int) : -1 ≤ bitK k d ∧ bitK k d ≤ 1 := by
  unfold bitK Bt.bitI
  split
  · have := Bt.bit_lt (keyF k) d.toNat
    omega
  · omega
end Go.Proofs.YtnmbbfndboohjaaDoor

/- The program's Locate: a loop over the iterator that keeps what came last. -/
namespace Go.Proofs.YtnmbbfndboohjaaDoor
open Go.RowKit Go.Shelf
attribute [local go_sem] Oper.semAt_some
/-- The subtree that came last, and its depth. -/
def lastV (s : List (Nat × Tv)) : Value :=
  match s.getLast? with
  | some x => x.2.val
  | none => .pointer none
def lastD (s : List (Nat × Tv)) : Int :=
  match s.getLast? with
  | some x => (x.1 : Int)
  | none => 0
theorem lastV_snoc (s : List (Nat × Tv)) (x : Nat × Tv) : lastV (s ++ [x]) = x.2.val := by simp [lastV]
theorem lastD_snoc (s : List (Nat × Tv)) (x : Nat × Tv) : lastD (s ++ [x]) = (x.1 : Int) := by simp [lastD]
theorem wayI_last (k : List UInt8) : ∀ (T : Tv) (d : Nat), (T.wayI k d).getLast? = some (T.dep k d, T.fin k d)
  | .nil, _ => rfl
  | .leaf _ _, _ => rfl
  | .inner v a b, d => by
    unfold Tv.wayI Tv.dep Tv.fin
    split
    · rw [List.getLast?_cons, wayI_last k a (d + 1)]; rfl
    · rw [List.getLast?_cons, wayI_last k b (d + 1)]; rfl
theorem lastV_way (k : List UInt8) (T : Tv) : lastV (T.wayI k 0) = (T.fin k 0).val := by unfold lastV; rw [wayI_last]
theorem lastD_way (k : List UInt8) (T : Tv) : lastD (T.wayI k 0) = ((T.dep k 0 : Nat) : Int) := by unfold lastD; rw [wayI_last]
end Go.Proofs.YtnmbbfndboohjaaDoor

/- The program's Get; whether two keys agree. -/
namespace Go.Proofs.YtnmbbfndboohjaaDoor
open Go.RowKit Go.Shelf

theorem field_leafKey_f (f : Nat → UInt8) (w : World) : (Instr.field 26 (.agg (bA ((List.range 64).map f))) 0).run Tryd.prog w = .ok (.agg (bA ((List.range 32).map f))) w := by kernel_rfl
theorem field_leafKey (l : List UInt8) (h : l.length = 64) (w : World) : (Instr.field 26 (.agg (bA l)) 0).run Tryd.prog w = .ok (.agg (bA (l.take 32))) w := by
  have h1 := field_leafKey_f (fun j => l.getD j 0) w
  rw [← list64 l h] at h1
  have e : (List.range 32).map (fun j => l.getD j 0) = l.take 32 := by
    refine List.ext_getElem (by simp [h]) fun j h2 h3 => ?_
    have hj : j < l.length := by have : j < 32 := by simpa using h2
                                 omega
    simp [List.getD_eq_getElem?_getD, hj]
  rw [h1, e]
theorem kindT_leaf {T : Tv} (h : kindT T.tr = 1) : ∃ v e, T = .leaf v e := by
  cases T with
  | nil => exact absurd h (show ¬ (0 : Int) = 1 by decide)
  | leaf v e => exact ⟨v, e, rfl⟩
  | inner v a b => exact absurd h (show ¬ (2 : Int) = 1 by decide)
theorem neKey8 (l m : List UInt8) (hl : l.length = 32) (hm : m.length = 32) (x y : Operand) (w : World) :
    eqA .neq 23 x y w (.agg (bA l)) (.agg (bA m)) = .ok (.value (.bool (!decide (l = m)))) w := (eqA_of guardKey (eq_arr Tryd.underlying23 9998 l m hl hm) x y w).2
end Go.Proofs.YtnmbbfndboohjaaDoor

/- The program's Under: a loop over the iterator that is left by a label. -/
namespace Go.Proofs.YtnmbbfndboohjaaDoor
open Go.RowKit Go.Shelf
attribute [local go_sem] Oper.semAt_some
/-- A round's region that draws its order and whose calls make memory only. -/
theorem round_later {P : Program} {n r id : Nat} {Q : Exit → Act → World → Prop} {a : Act} {w : World} {l : List Oper} (hQ : ¬ LetsOut Q) (hd : noDefer l.toArray = true) (hm : P.follows .mixedOrders = true) (hB : Region.lexB .any l.toArray = true)
    (h : wpQuiet P l.toArray (fun w' => ∃ x : Later w, w' = x.w) (fun a' => ∀ w', (∃ x : Later w, w' = x.w) → Q .normal a' w') l a) : (Code.region id l.toArray true).wpIn (Fence.wide.inRound r) n P Q a w :=
  haveI : Nonempty {w' // ∃ x : Later w, w' = x.w} := ⟨⟨w, ⟨w, Below.refl _ _⟩, rfl⟩⟩
  round_quiet (C := fun w' => ∃ x : Later w, w' = x.w) hQ hd hm hB ⟨⟨w.drew, (Below.refl _ _).drew⟩, rfl⟩ (by simpa using h)
/-- What the loop has found behind the subtrees s, none of them at depth b. -/
def fndF (k : List UInt8) (b : Nat) (f : Tv) (x : Nat × Tv) : Tv :=
  match x.2 with
  | .leaf v e => if b ≤ comK e.k k then .leaf v e else f
  | _ => f
def fndI (k : List UInt8) (b : Nat) (s : List (Nat × Tv)) : Tv := s.foldl (fndF k b) .nil
theorem fndI_snoc (k : List UInt8) (b : Nat) (s : List (Nat × Tv)) (x : Nat × Tv) : fndI k b (s ++ [x]) = fndF k b (fndI k b s) x := by simp [fndI]
theorem fndF_yes {k : List UInt8} {b d : Nat} {f : Tv} {v : Value} {e : Ent} (h : b ≤ comK e.k k) : fndF k b f (d, .leaf v e) = .leaf v e := if_pos h
theorem fndF_no {k : List UInt8} {b d : Nat} {f : Tv} {v : Value} {e : Ent} (h : ¬ b ≤ comK e.k k) : fndF k b f (d, .leaf v e) = f := if_neg h
theorem fndF_else {k : List UInt8} {b : Nat} {f : Tv} {x : Nat × Tv} (h : kindT x.2.tr ≠ 1) : fndF k b f x = f := by
  obtain ⟨d, T⟩ := x
  cases T with
  | nil => rfl
  | leaf v e => exact absurd rfl h
  | inner v a b => rfl
def noneAt (b : Nat) (s : List (Nat × Tv)) : Prop := ∀ x ∈ s, x.1 ≠ b
theorem noneAt_snoc {b : Nat} {s : List (Nat × Tv)} {x : Nat × Tv} (h : noneAt b s) (hx : x.1 ≠ b) : noneAt b (s ++ [x]) := fun y hy => by
  rcases List.mem_append.1 hy with hy | hy
  · exact h y hy
  · rw [List.mem_singleton.1 hy]; exact hx
theorem fnd_fin (k : List UInt8) (b : Nat) : ∀ (T : Tv) (d : Nat), (T.wayI k d).foldl (fndF k b) .nil = match T.fin k d with
    | .leaf v e => if b ≤ comK e.k k then .leaf v e else .nil
    | _ => .nil
  | .nil, _ => rfl
  | .leaf _ _, _ => rfl
  | .inner v x y, d => by
    unfold Tv.wayI Tv.fin
    rw [List.foldl_cons]
    show List.foldl (fndF k b) .nil _ = _
    split
    · exact fnd_fin k b x (d + 1)
    · exact fnd_fin k b y (d + 1)
theorem wayI_depth (k : List UInt8) : ∀ (T : Tv) (d i : Nat) (x : Nat × Tv), (T.wayI k d)[i]? = some x → x.1 = d + i
  | .nil, d, i, x, h => by
    cases i with
    | zero => cases h; rfl
    | succ i => cases h
  | .leaf _ _, d, i, x, h => by
    cases i with
    | zero => cases h; rfl
    | succ i => cases h
  | .inner v a b, d, i, x, h => by
    unfold Tv.wayI at h
    cases i with
    | zero => cases h; rfl
    | succ i =>
      rw [List.getElem?_cons_succ] at h
      split at h
      · have := wayI_depth k a (d + 1) i x h; omega
      · have := wayI_depth k b (d + 1) i x h; omega
theorem wayI_at (k : List UInt8) (T : Tv) (i : Nat) (S : Tv) : (T.way k 0)[i]? = some S ↔ (T.wayI k 0)[i]? = some (i, S) := by
  rw [← wayI_way k T 0, List.getElem?_map]
  constructor
  · intro h
    obtain ⟨x, hx, rfl⟩ := Option.map_eq_some_iff.1 h
    have := wayI_depth k T 0 i x hx
    rw [hx, show i = x.1 by omega]
  · intro h; rw [h]; rfl
theorem under_done (k : List UInt8) (b : Nat) (T : Tv) (h : noneAt b (T.wayI k 0)) : fndI k b (T.wayI k 0) = T.under k b := by
  have hn : (T.way k 0)[b]? = none := by
    cases hw : (T.way k 0)[b]? with
    | none => rfl
    | some S => exact absurd rfl (h _ (List.mem_of_getElem? ((wayI_at k T b S).1 hw)))
  unfold fndI Tv.under
  rw [hn]
  exact fnd_fin k b T 0
theorem under_stop (k : List UInt8) (b : Nat) (T : Tv) (pre : List (Nat × Tv)) (S : Tv) (h : pre ++ [(b, S)] <+: T.wayI k 0) : T.under k b = S := by
  have hx : (T.wayI k 0)[pre.length]? = some (b, S) := by
    obtain ⟨r, hr⟩ := h
    rw [← hr]
    simp
  have hb : b = pre.length := by have := wayI_depth k T 0 _ _ hx; omega
  rw [← hb] at hx
  unfold Tv.under
  rw [(wayI_at k T b S).2 hx]
end Go.Proofs.YtnmbbfndboohjaaDoor

/- The program of layer 8 keeps its contract. -/
namespace Go.Proofs.YtnmbbfndboohjaaDoor
open Go.RowKit

end Go.Proofs.YtnmbbfndboohjaaDoor
