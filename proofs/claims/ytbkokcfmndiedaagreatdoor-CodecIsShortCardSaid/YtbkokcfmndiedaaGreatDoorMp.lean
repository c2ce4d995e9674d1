/- Maps as lists of entries: plain facts (the reference of layer 7). -/
import Derived.Test.YtbkokcfmndiedaaGreatDoorM3
namespace Go.Proofs.YtbkokcfmndiedaaGreatDoor

/-- A row of 32 bytes as a key: a function of the place. -/
def keyF (l : List UInt8) : Nat → Nat := fun j => (l.getD j 0).toNat
theorem keyF_byt (l : List UInt8) : Bt.Byt (keyF l) := fun _ => UInt8.toNat_lt _
theorem keyF_inj {a b : List UInt8} (ha : a.length = 32) (hb : b.length = 32) (h : ∀ j, j < 32 → keyF a j = keyF b j) : a = b := by
  refine List.ext_getElem (by omega) fun j h1 h2 => ?_
  have := h j (by omega)
  simp [keyF, List.getD_eq_getElem?_getD, h1, h2] at this
  exact UInt8.toNat_inj.1 this
/-- An entry as data: its key, its value. -/
structure Ent where
  k : List UInt8
  v : List UInt8
/-- The order of two keys. -/
def cmpK (a b : List UInt8) : Int := Bt.cmp (keyF a) (keyF b)
def rmK (l : List Ent) (k : List UInt8) : List Ent := l.filter fun e => !decide (e.k = k)
/-- Put, as the reference does it: into the rest, before the first greater key. -/
def insK (e : Ent) : List Ent → List Ent
  | [] => [e]
  | x :: r => if cmpK e.k x.k < 0 then e :: x :: r else x :: insK e r
def putK (l : List Ent) (e : Ent) : List Ent := insK e (rmK l e.k)
def ofK (l : List Ent) : List Ent := l.foldl putK []
def bitK (k : List UInt8) (d : Int) : Int := Bt.bitI (keyF k) d
def partK (l : List Ent) (d b : Int) : List Ent := l.filter fun e => decide (bitK e.k d = b)
def fewK (l : List Ent) : Bool := decide (l.length ≤ 12) && l.all fun e => decide (e.v.length ≤ 200)
/-- The loop of Put: what lies before is kept, the entry laid once. -/
theorem insK_split (e : Ent) : ∀ l, (∀ x ∈ l, ¬ cmpK e.k x.k < 0) → insK e l = l ++ [e]
  | [], _ => rfl
  | x :: r, h => by
    show (if _ then _ else _) = _
    rw [if_neg (h x (by simp)), insK_split e r fun y hy => h y (by simp [hy])]
    rfl
theorem insK_at (e : Ent) : ∀ (l : List Ent) (x : Ent) (r : List Ent), (∀ y ∈ l, ¬ cmpK e.k y.k < 0) → cmpK e.k x.k < 0 → insK e (l ++ x :: r) = l ++ e :: x :: r
  | [], x, r, _, hx => by
    show (if _ then _ else _) = _
    rw [if_pos hx]
    rfl
  | y :: l, x, r, h, hx => by
    show (if _ then _ else _) = _
    rw [if_neg (h y (by simp))]
    show y :: insK e (l ++ x :: r) = _
    rw [insK_at e l x r (fun z hz => h z (by simp [hz])) hx]
    rfl
theorem rmK_len (l : List Ent) (k : List UInt8) : (rmK l k).length ≤ l.length := List.length_filter_le _ _
theorem insK_len (e : Ent) : ∀ l, (insK e l).length = l.length + 1
  | [] => rfl
  | x :: r => by
    show (if _ then _ else _ : List Ent).length = _
    split
    · rfl
    · rw [List.length_cons, insK_len e r, List.length_cons]
theorem putK_len (l : List Ent) (e : Ent) : (putK l e).length ≤ l.length + 1 := by
  unfold putK
  rw [insK_len]
  have := rmK_len l e.k
  omega
theorem insK_mem (e y : Ent) : ∀ l, y ∈ insK e l ↔ y = e ∨ y ∈ l
  | [] => by simp [insK]
  | x :: r => by
    show y ∈ (if _ then _ else _ : List Ent) ↔ _
    split
    · simp
    · rw [List.mem_cons, insK_mem e y r, List.mem_cons]
      constructor
      · rintro (h | h | h)
        · exact .inr (.inl h)
        · exact .inl h
        · exact .inr (.inr h)
      · rintro (h | h | h)
        · exact .inr (.inl h)
        · exact .inl h
        · exact .inr (.inr h)
theorem putK_mem {l : List Ent} {e y : Ent} (h : y ∈ putK l e) : y = e ∨ y ∈ l := by
  rcases (insK_mem e y _).1 h with h | h
  · exact .inl h
  · exact .inr (List.mem_filter.1 h).1
theorem ofK_mem : ∀ (l m : List Ent) (y : Ent), y ∈ l.foldl putK m → y ∈ m ∨ y ∈ l
  | [], m, y, h => .inl h
  | x :: r, m, y, h => by
    rcases ofK_mem r (putK m x) y h with h | h
    · rcases putK_mem h with h | h
      · exact .inr (by simp [h])
      · exact .inl h
    · exact .inr (by simp [h])
theorem ofK_len : ∀ (l m : List Ent), (l.foldl putK m).length ≤ m.length + l.length
  | [], m => by simp
  | x :: r, m => by
    have h1 := ofK_len r (putK m x)
    have h2 := putK_len m x
    rw [List.foldl_cons, List.length_cons]
    omega
theorem partK_len (l : List Ent) (d b : Int) : (partK l d b).length ≤ l.length := List.length_filter_le _ _
end Go.Proofs.YtbkokcfmndiedaaGreatDoor
