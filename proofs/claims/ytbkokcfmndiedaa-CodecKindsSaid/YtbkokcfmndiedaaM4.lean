/- Several texts in one: Mk Mq Mr Ms Mt Mu. -/
import Derived.Test.YtbkokcfmndiedaaEt
import Derived.Test.YtbkokcfmndiedaaMp
import Derived.Test.YtbkokcfmndiedaaM3
/- Entries in memory: a slice of entries, a row of them that the call owns. -/
namespace Go.Proofs.Ytbkokcfmndiedaa
open Go.RowKit

/-- An entry in memory: its key, where its value lies, the value, the capacity. -/
structure En where
  k : List UInt8
  A : Option Addr
  v : List UInt8
  c : Nat
def En.ent (e : En) : Ent := ⟨e.k, e.v⟩
instance : Inhabited En := ⟨⟨[], none, [], 0⟩⟩
/-- Its cells. -/
def enC (e : En) : List Value := e.k.map bv ++ [.slice e.A e.v.length e.c]
structure EnOk (w : World) (e : En) : Prop where
  key : e.k.length = 32
  cap : e.v.length ≤ e.c
  val : BA w e.A e.v
theorem EnOk.below {w w' : World} {e : En} (h : EnOk w e) (hb : Below w.heap.size w w') : EnOk w' e := ⟨h.key, h.cap, h.val.below hb⟩
theorem enC_len {e : En} (h : e.k.length = 32) : (enC e).length = 33 := by simp [enC, h]
theorem enC_one (e : En) : ∀ v ∈ enC e, v.oneCell' = true := fun v hv => by
  rcases List.mem_append.1 hv with h | h
  · obtain ⟨x, _, rfl⟩ := List.mem_map.1 h
    rfl
  · rw [List.mem_singleton.1 h]
    rfl
/-- The entries at A. -/
def EA (w : World) (A : Option Addr) (es : List En) : Prop := ∀ i e, es[i]? = some e → EnOk w e ∧ ∃ g o, A = some ⟨g, o, none⟩ ∧ w.rangeAt g (o + i * 33) (enC e)
theorem range_below {w w' : World} {g o : Nat} {cs : List Value} (h : w.rangeAt g o cs) (hb : Below w.heap.size w w') : w'.rangeAt g o cs := fun j v hv => by
  have h1 := h j v hv
  rw [hb.cell (lt_of_cell h1)]
  exact h1
theorem EA.below {w w' : World} {A : Option Addr} {es : List En} (h : EA w A es) (hb : Below w.heap.size w w') : EA w' A es := fun i e hi => by
  obtain ⟨h1, g, o, rfl, h2⟩ := h i e hi
  exact ⟨h1.below hb, g, o, rfl, range_below h2 hb⟩
/-- The key, the value's slice of an entry that lies in memory. -/
theorem range_key {w : World} {g o : Nat} {e : En} (h : w.rangeAt g o (enC e)) (hk : e.k.length = 32) : ldA 23 w (.pointer (some ⟨g, o, none⟩)) = .ok (.value (.agg (bA e.k))) w := by
  have := ldA_of (t := 23) (w := w) (b := g) (o := o) (cs := e.k.map bv) (fun j v hv => h j v (by
    unfold enC
    rw [List.getElem?_append_left (List.getElem?_eq_some_iff.1 hv).1]
    exact hv)) Try.underlying23 (by rw [List.length_map, hk]; exact infoKey)
  exact this
theorem range_val {w : World} {g o : Nat} {e : En} (h : w.rangeAt g o (enC e)) (hk : e.k.length = 32) : w.cell? ⟨g, o + 32, none⟩ = some (.slice e.A e.v.length e.c) :=
  h 32 _ (by
    unfold enC
    rw [List.getElem?_append_right (by simp [hk])]
    simp [hk])
/-! ### Rows of entries that the call owns -/
theorem flat_at {es : List En} (hes : ∀ e ∈ es, e.k.length = 32) {i : Nat} {e : En} (hi : es[i]? = some e) {j : Nat} {v : Value} (hv : (enC e)[j]? = some v) : (es.flatMap enC)[i * 33 + j]? = some v := by
  induction es generalizing i with
  | nil => simp at hi
  | cons x r ih =>
    have hx : (enC x).length = 33 := enC_len (hes x (by simp))
    rw [List.flatMap_cons]
    cases i with
    | zero =>
      simp at hi
      subst hi
      rw [Nat.zero_mul, Nat.zero_add, List.getElem?_append_left (List.getElem?_eq_some_iff.1 hv).1]
      exact hv
    | succ i =>
      rw [List.getElem?_append_right (by rw [hx]; omega), hx, show (i + 1) * 33 + j - 33 = i * 33 + j by omega]
      exact ih (fun y hy => hes y (by simp [hy])) hi
end Go.Proofs.Ytbkokcfmndiedaa

/- The reference's Bit and Compare at keys that are lists of bytes. -/
namespace Go.Proofs.Ytbkokcfmndiedaa
open Go.RowKit

theorem bA_key (l : List UInt8) (h : l.length = 32) : bA l = Bt.kc (keyF l) := by
  apply Array.toList_inj.1
  refine List.ext_getElem (by simp [bA, Bt.kc, h]) fun j h1 h2 => ?_
  have h3 : j < l.length := by simpa [bA] using h1
  simp [bA, Bt.kc, keyF, bv, List.getD_eq_getElem?_getD, h3]
theorem bitK_c (k : List UInt8) (hk : k.length = 32) (d : Int) (w : World) : Calls Try.prog 34 #[.agg (bA k), .int .i64 d] w fun e w' => e = .returned (.int .i64 (bitK k d)) ∧ Below w.heap.size w w' := by
  rw [bA_key k hk]
  exact Bt.rbit_c (keyF k) (keyF_byt k) d w
theorem cmpK_range (a b : List UInt8) : cmpK a b = -1 ∨ cmpK a b = 0 ∨ cmpK a b = 1 := by
  unfold cmpK
  rcases Bt.first_byte (a := keyF a) (b := keyF b) with h | ⟨m, h1, h2, h3⟩
  · rw [Bt.cmp_eq h]; omega
  · rw [Bt.cmp_at h1 h2 h3]; split <;> omega
end Go.Proofs.Ytbkokcfmndiedaa

/- The reference of layer 7: Part, Remove, Few. -/
namespace Go.Proofs.Ytbkokcfmndiedaa
open Go.RowKit

theorem take_some {α : Type} {l : List α} {k : Nat} {x : α} (h : l[k]? = some x) : l.take (k + 1) = l.take k ++ [x] := by
  rw [List.take_add_one, h]
  rfl
theorem filter_yes {l : List En} {p : En → Bool} {k : Nat} {x : En} (h : l[k]? = some x) (hp : p x = true) : (l.take (k + 1)).filter p = (l.take k).filter p ++ [x] := by
  rw [take_some h, List.filter_append]
  simp [hp]
theorem filter_no {l : List En} {p : En → Bool} {k : Nat} {x : En} (h : l[k]? = some x) (hp : p x = false) : (l.take (k + 1)).filter p = (l.take k).filter p := by
  rw [take_some h, List.filter_append]
  simp [hp]
theorem filter_le (l : List En) (p : En → Bool) (k : Nat) : ((l.take k).filter p).length ≤ l.length := Nat.le_trans (List.length_filter_le _ _) (by rw [List.length_take]; omega)
theorem ent_made (w : World) (e : En) (t : TypeId) : (w.alloc (.cells (enC e).toArray t)).rangeAt w.heap.size 0 (enC e) := fun j v hv => by
  rw [Nat.zero_add, cell_of_cells (heap_alloc_new w _)]
  simpa using hv
/-- The entries whose keys have a bit. -/
def partE (es : List En) (d b : Int) : List En := es.filter fun e => decide (bitK e.k d = b)
end Go.Proofs.Ytbkokcfmndiedaa

/- The reference of layer 7: Remove, Few. -/
namespace Go.Proofs.Ytbkokcfmndiedaa
open Go.RowKit

def rmE (es : List En) (k : List UInt8) : List En := es.filter fun e => !decide (e.k = k)
theorem few_no_len {es : List En} (h : 12 < es.length) : fewK (es.map En.ent) = false := by
  unfold fewK
  rw [List.length_map, decide_eq_false (by omega)]
  rfl
theorem few_no_at {es : List En} {k : Nat} {e : En} (he : es[k]? = some e) (h : 200 < e.v.length) : fewK (es.map En.ent) = false := by
  unfold fewK
  rw [Bool.and_eq_false_iff]
  right
  rw [List.all_eq_false]
  refine ⟨e.ent, List.mem_map.2 ⟨e, List.mem_of_getElem? he, rfl⟩, fun hh => ?_⟩
  have h2 : e.v.length ≤ 200 := of_decide_eq_true hh
  omega
theorem few_yes {es : List En} (h : es.length ≤ 12) (hv : ∀ j e, j < es.length → es[j]? = some e → e.v.length ≤ 200) : fewK (es.map En.ent) = true := by
  unfold fewK
  rw [List.length_map, decide_eq_true h, Bool.true_and, List.all_eq_true]
  intro x hx
  obtain ⟨e, he, rfl⟩ := List.mem_map.1 hx
  obtain ⟨j, hj, rfl⟩ := List.getElem_of_mem he
  exact decide_eq_true (hv j _ hj (List.getElem?_eq_getElem hj))
end Go.Proofs.Ytbkokcfmndiedaa

/- The reference of layer 7: Put. -/
namespace Go.Proofs.Ytbkokcfmndiedaa
open Go.RowKit

def insE (e : En) : List En → List En
  | [] => [e]
  | x :: r => if cmpK e.k x.k < 0 then e :: x :: r else x :: insE e r
def putE (l : List En) (e : En) : List En := insE e (rmE l e.k)
theorem insE_split (e : En) : ∀ l, (∀ x ∈ l, ¬ cmpK e.k x.k < 0) → insE e l = l ++ [e]
  | [], _ => rfl
  | x :: r, h => by
    show (if _ then _ else _) = _
    rw [if_neg (h x (by simp)), insE_split e r fun y hy => h y (by simp [hy])]
    rfl
theorem insE_at (e : En) : ∀ (l : List En) (x : En) (r : List En), (∀ y ∈ l, ¬ cmpK e.k y.k < 0) → cmpK e.k x.k < 0 → insE e (l ++ x :: r) = l ++ e :: x :: r
  | [], x, r, _, hx => by
    show (if _ then _ else _) = _
    rw [if_pos hx]
    rfl
  | y :: l, x, r, h, hx => by
    show (if _ then _ else _) = _
    rw [if_neg (h y (by simp))]
    show y :: insE e (l ++ x :: r) = _
    rw [insE_at e l x r (fun z hz => h z (by simp [hz])) hx]
    rfl
theorem insE_snoc (e x : En) : ∀ l : List En, (∃ y ∈ l, cmpK e.k y.k < 0) → insE e (l ++ [x]) = insE e l ++ [x]
  | [], ⟨y, hy, _⟩ => by simp at hy
  | z :: r, ⟨y, hy, hl⟩ => by
    show (if _ then _ else _) = (if _ then _ else _ : List En) ++ [x]
    by_cases hz : cmpK e.k z.k < 0
    · rw [if_pos hz, if_pos hz]; rfl
    · rw [if_neg hz, if_neg hz]
      show z :: insE e (r ++ [x]) = _
      rw [insE_snoc e x r ⟨y, by
        rcases List.mem_cons.1 hy with rfl | h
        · exact absurd hl hz
        · exact h, hl⟩]
      rfl
theorem insE_len (e : En) : ∀ l, (insE e l).length = l.length + 1
  | [] => rfl
  | x :: r => by
    show (if _ then _ else _ : List En).length = _
    split
    · rfl
    · rw [List.length_cons, insE_len e r, List.length_cons]
theorem insE_mem (e y : En) : ∀ l, y ∈ insE e l ↔ y = e ∨ y ∈ l
  | [] => by simp [insE]
  | x :: r => by
    show y ∈ (if _ then _ else _ : List En) ↔ _
    split
    · simp
    · rw [List.mem_cons, insE_mem e y r, List.mem_cons]
      constructor
      · rintro (h | h | h)
        · exact .inr (.inl h)
        · exact .inl h
        · exact .inr (.inr h)
      · rintro (h | h | h)
        · exact .inr (.inl h)
        · exact .inl h
        · exact .inr (.inr h)
theorem insE_ent (e : En) : ∀ l : List En, (insE e l).map En.ent = insK e.ent (l.map En.ent)
  | [] => rfl
  | x :: r => by
    show (if _ then _ else _ : List En).map En.ent = (if cmpK e.k x.k < 0 then _ else _ : List Ent)
    split
    · rfl
    · rw [List.map_cons, insE_ent e r]
theorem rmE_ent (l : List En) (k : List UInt8) : (rmE l k).map En.ent = rmK (l.map En.ent) k := by
  unfold rmE rmK
  rw [List.filter_map]
  rfl
theorem putE_ent (l : List En) (e : En) : (putE l e).map En.ent = putK (l.map En.ent) e.ent := by
  unfold putE putK
  rw [insE_ent, rmE_ent]
  rfl
theorem rmE_len (l : List En) (k : List UInt8) : (rmE l k).length ≤ l.length := List.length_filter_le _ _
theorem putE_len (l : List En) (e : En) : (putE l e).length ≤ l.length + 1 := by
  unfold putE
  rw [insE_len]
  have := rmE_len l e.k
  omega
theorem putE_mem {l : List En} {e y : En} (h : y ∈ putE l e) : y = e ∨ y ∈ l := by
  rcases (insE_mem e y _).1 h with h | h
  · exact .inl h
  · exact .inr (List.mem_filter.1 h).1
theorem EA.mem {w : World} {A : Option Addr} {es : List En} (h : EA w A es) : ∀ e ∈ es, EnOk w e := fun e he => by
  obtain ⟨j, hj, rfl⟩ := List.getElem_of_mem he
  exact (h j _ (List.getElem?_eq_getElem hj)).1
theorem rmE_ok {w : World} {es : List En} {k : List UInt8} (h : ∀ e ∈ es, EnOk w e) : ∀ e ∈ rmE es k, EnOk w e := fun e he => h e (List.mem_filter.1 he).1
/-- What the loop holds: the flag, the entries written so far. -/
def PutSt (done : Value) (e : En) (l out : List En) : Prop :=
  (done = .bool false ∧ out = l ∧ ∀ x ∈ l, ¬ cmpK e.k x.k < 0) ∨ (done = .bool true ∧ out = insE e l ∧ ∃ y ∈ l, cmpK e.k y.k < 0)
theorem PutSt.len {d : Value} {e : En} {l out : List En} (h : PutSt d e l out) : out.length ≤ l.length + 1 := by
  rcases h with ⟨_, rfl, _⟩ | ⟨_, rfl, _⟩
  · omega
  · rw [insE_len]; omega
end Go.Proofs.Ytbkokcfmndiedaa

/- The reference of layer 7: Of. -/
namespace Go.Proofs.Ytbkokcfmndiedaa
open Go.RowKit

def ofE (es : List En) : List En := es.foldl putE []
theorem ofE_snoc (l : List En) (e : En) : ofE (l ++ [e]) = putE (ofE l) e := by
  unfold ofE
  rw [List.foldl_append]
  rfl
theorem foldE_mem : ∀ (l m : List En) (y : En), y ∈ l.foldl putE m → y ∈ m ∨ y ∈ l
  | [], m, y, h => .inl h
  | x :: r, m, y, h => by
    rcases foldE_mem r (putE m x) y h with h | h
    · rcases putE_mem h with h | h
      · exact .inr (by simp [h])
      · exact .inl h
    · exact .inr (by simp [h])
theorem foldE_len : ∀ (l m : List En), (l.foldl putE m).length ≤ m.length + l.length
  | [], m => by simp
  | x :: r, m => by
    have h1 := foldE_len r (putE m x)
    have h2 := putE_len m x
    rw [List.foldl_cons, List.length_cons]
    omega
theorem foldE_ent : ∀ (l m : List En), (l.foldl putE m).map En.ent = (l.map En.ent).foldl putK (m.map En.ent)
  | [], m => rfl
  | x :: r, m => by
    rw [List.foldl_cons, foldE_ent r, putE_ent]
    rfl
theorem ofE_mem {l : List En} {y : En} (h : y ∈ ofE l) : y ∈ l := by
  rcases foldE_mem l [] y h with h | h
  · simp at h
  · exact h
theorem ofE_len (l : List En) : (ofE l).length ≤ l.length := by
  have h := foldE_len l []
  rw [List.length_nil, Nat.zero_add] at h
  exact h
theorem ofE_ent (l : List En) : (ofE l).map En.ent = ofK (l.map En.ent) := foldE_ent l []
end Go.Proofs.Ytbkokcfmndiedaa
