import Derived.Test.YtkejfdgmdjfdoaaGreatDoorM3
namespace Go.Proofs.YtkejfdgmdjfdoaaGreatDoor
set_option linter.unusedSimpArgs false
set_option linter.unusedVariables false
def keyF (l : List UInt8) : Nat → Nat := fun j => (l.getD j 0).toNat
theorem keyF_byt (l : List UInt8) : Bt.Byt (keyF l) := fun _ => UInt8.toNat_lt _
theorem keyF_inj {a b : List UInt8} (ha : a.length = 32) (hb : b.length = 32) (h : ∀ j, j < 32 → keyF a j = keyF b j) : a = b := by
 refine List.ext_getElem (by omega) fun j h1 h2 => ?_
 have := h j (by omega)
 simp [keyF, List.getD_eq_getElem?_getD, h1, h2] at this
 exact UInt8.toNat_inj.1 this
structure Ent where
 k : List UInt8
 v : List UInt8
def cmpK (a b : List UInt8) : Int := Bt.cmp (keyF a) (keyF b)
def rmK (l : List Ent) (k : List UInt8) : List Ent := l.filter fun e => !decide (e.k = k)
def insK (e : Ent) : List Ent → List Ent
 | [] => [e]
 | x :: r => if cmpK e.k x.k < 0 then e :: x :: r else x :: insK e r
def putK (l : List Ent) (e : Ent) : List Ent := insK e (rmK l e.k)
def bitK (k : List UInt8) (d : Int) : Int := Bt.bitI (keyF k) d
def partK (l : List Ent) (d b : Int) : List Ent := l.filter fun e => decide (bitK e.k d = b)
theorem insK_len (e : Ent) : ∀ l, (insK e l).length = l.length + 1
 | [] => rfl
 | x :: r => by
  show (if _ then _ else _ : List Ent).length = _
  split
  ·rfl
  ·rw [List.length_cons, insK_len e r, List.length_cons]
theorem insK_mem (e y : Ent) : ∀ l, y ∈ insK e l ↔ y = e ∨ y ∈ l
 | [] => by simp [insK]
 | x :: r => by
  show y ∈ (if _ then _ else _ : List Ent) ↔ _
  split
  ·simp
  ·rw [List.mem_cons, insK_mem e y r, List.mem_cons]
   constructor
   ·rintro (h | h | h)
    ·exact .inr (.inl h)
    ·exact .inl h
    ·exact .inr (.inr h)
   ·rintro (h | h | h)
    ·exact .inr (.inl h)
    ·exact .inl h
    ·exact .inr (.inr h)
theorem putK_mem {l : List Ent} {e y : Ent} (h : y ∈ putK l e) : y = e ∨ y ∈ l := by
 rcases (insK_mem e y _).1 h with h | h
 ·exact .inl h
 ·exact .inr (List.mem_filter.1 h).1
theorem partK_len (l : List Ent) (d b : Int) : (partK l d b).length ≤ l.length := List.length_filter_le _ _
end Go.Proofs.YtkejfdgmdjfdoaaGreatDoor
