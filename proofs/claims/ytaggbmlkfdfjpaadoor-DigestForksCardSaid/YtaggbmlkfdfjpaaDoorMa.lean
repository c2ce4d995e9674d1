/- The listed variables; laws for laws' walks. -/
import Derived.Test.YtaggbmlkfdfjpaaDoorLa
import Derived.Deep.RegionHeld3
import Derived.Lib.SlBytesConst
namespace Go.Proofs.YtaggbmlkfdfjpaaDoor
open Go.RowKit

/-- The listed variables hold what the program's text lays. -/
structure Vars (w : World) : Prop where
  kt : KT w
  it : IT w
theorem Vars.keep {L : Nat → Prop} {a b : World} (h : Vars a) (k : Keep L a b) (h1 : ¬ L 1) (h0 : ¬ L 0) : Vars b := ⟨h.kt.keep k h1, h.it.keep k h0⟩
theorem Vars.below {a b : World} (h : Vars a) (k : Below a.heap.size a b) : Vars b := h.keep (Keep.of_below (L := fun _ => False) k) (fun h => h) (fun h => h)
theorem BA_nil (w : World) (A : Option Addr) : BA w A [] := fun j x h => by simp at h
theorem setRow_two (w : World) (o : Obj) (c c' : Array Value) (t : TypeId) : ((w.alloc (.cells c t)).alloc o).setRow w.heap.size c' = (w.alloc (.cells c' t)).alloc o := by
  have hx : (((w.alloc (.cells c t)).alloc o).setRow w.heap.size c').heap = ((w.alloc (.cells c' t)).alloc o).heap := by
    apply Array.ext_getElem?
    intro i
    by_cases h : i = w.heap.size
    · subst h
      rw [setRow_heap _ _ _ _ _ _ (heap_alloc2_old w _ _), heap_alloc2_old w _ _]
    · rw [setRow_other _ _ _ _ h]
      rcases Nat.lt_or_ge i w.heap.size with h' | h'
      · rw [Below.heap_alloc _ _ _ (by simp; omega), Below.heap_alloc _ _ _ h', Below.heap_alloc _ _ _ (by simp; omega), Below.heap_alloc _ _ _ h']
      · by_cases e : i = w.heap.size + 1
        · subst e; rw [heap_alloc2_new w _ _, heap_alloc2_new w _ _]
        · rw [Array.getElem?_eq_none (by simp; omega), Array.getElem?_eq_none (by simp; omega)]
  show ({ ((w.alloc (.cells c t)).alloc o) with heap := (((w.alloc (.cells c t)).alloc o).setRow w.heap.size c').heap } : World) = _
  rw [hx]
  rfl
theorem stA_old {t : TypeId} (w : World) (o : Obj) (z v : Array Value) (hi : (Tryd.prog.info? t).map (·.size) = some v.size) (hz : z.size = v.size) (h1 : v.all (·.oneCell') = true) :
    stA t ((w.alloc (.cells z t)).alloc o) (.pointer (some ⟨w.heap.size, 0, none⟩)) (.agg v) = .ok .skip ((w.alloc (.cells v t)).alloc o) := by
  rw [stA_row (heap_alloc2_old w _ _) hi hz h1, setRow_two]
/-- A conversion of a slice of bytes to its own type marks the place behind the row. -/
theorem run_convert_old (w : World) (o : Obj) (C : Array Value) (n c : Nat) : (convert 34 34 (.slice (some ⟨w.heap.size, 0, none⟩) n c)).run Tryd.prog ((w.alloc (.cells C 5)).alloc o) = .ok (.slice (some ⟨w.heap.size, 0, none⟩) n c) ((w.alloc (.cells C 5 (C.size, C.size + 1))).alloc o) := by
  have hsh : ((w.alloc (.cells C 5)).alloc o).shape? w.heap.size = some (5, C.size) := by
    unfold World.shape?
    rw [heap_alloc2_old w _ _]
  have hfr : ((w.alloc (.cells C 5)).alloc o).freeze ⟨w.heap.size, C.size, none⟩ 1 = (w.alloc (.cells C 5 (C.size, C.size + 1))).alloc o := by
    have hm : ∀ (a : Array Obj) (x y : Obj) (f : Obj → Obj), ((a.push x).push y).modify a.size f = (a.push (f x)).push y := by
      intro a x y f
      apply Array.ext
      · simp
      · intro i h1 h2
        simp only [Array.getElem_modify, Array.getElem_push]
        by_cases h : a.size = i
        · subst h
          simp
        · by_cases h3 : i < a.size
          · simp [h, h3, show i < a.size + 1 by omega]
          · have : i = a.size + 1 := by simp at h1; omega
            subst this
            simp
    unfold World.freeze
    rw [if_neg (by decide)]
    show ({ (w.alloc (.cells C 5)).alloc o with heap := ((w.heap.push (.cells C 5)).push o).modify w.heap.size _ } : World) = _
    rw [hm]
    rfl
  simp [convert, run_underlying Tryd.underlying34, run_underlying Tryd.underlying5, markStringish, hsh]
  exact hfr
theorem ba {W w : World} (h : Below W.heap.size W w) (o : Obj) : Below W.heap.size W (w.alloc o) := h.alloc h.size o
theorem run_eqItems_b (w : World) (d : Nat) (l : List UInt8) : ∀ is : List Nat, (∀ j ∈ is, j < l.length) → (Op.eqItems (d + 1) 5 1 (bA l) (bA l) is).run Tryd.prog w = .ok true w
  | [], _ => rfl
  | j :: is, h => by
    have hj : j < l.length := h j (by simp)
    have ih := run_eqItems_b w d l is (fun i hi => h i (by simp [hi]))
    have pa : (part 5 (bA l) (j * 1)).run Tryd.prog w = .ok (.int .u8 ((l.getD j 0).toNat : Int)) w := by
      have := bA_at l j hj
      unfold bv at this
      simp only [part, Sem.run_bind, Tryd.isAgg5, Result.andThen_ok, Nat.mul_one, this]
      rfl
    simp only [Op.eqItems, Sem.run_bind, pa, Result.andThen_ok, run_equalIn_int w d 5 .u8 .u8 _ _ Tryd.underlying5]
    simp [ih]
theorem eq26 (l : List UInt8) (hl : l.length = 32) (w : World) : (Op.equalIn 10000 30 (.agg (bA l)) (.agg (bA l))).run Tryd.prog w = .ok true w := by
  obtain ⟨i, hi⟩ : ∃ i, Tryd.prog.info? 5 = some i := ⟨_, rfl⟩
  rw [show (10000 : Nat) = 9999 + 1 from rfl, run_equalIn_array w 9999 (bA l) (bA l) Tryd.underlying30 hi]
  have : Tryd.prog.cellsOf 5 = 1 := by kernel_rfl
  rw [this]
  exact run_eqItems_b w 9998 l _ (by rw [hl]; simp)
theorem sl_three {w : World} {A B : Option Addr} {l m : List UInt8} {c d : Nat} (hA : BA w A l) (hB : BA w B m) (hc : l.length ≤ c) (hd : m.length ≤ d) (t : TypeId) :
    SL (w.alloc (.cells #[.slice A l.length c, .slice none 0 0, .slice B m.length d] t)) (some ⟨w.heap.size, 0, none⟩) [⟨A, l, c⟩, ⟨none, [], 0⟩, ⟨B, m, d⟩] :=
  sl_made w [⟨A, l, c⟩, ⟨none, [], 0⟩, ⟨B, m, d⟩] t fun x hx => by
    simp only [List.mem_cons, List.not_mem_nil, or_false] at hx
    rcases hx with rfl | rfl | rfl
    · exact ⟨hc, hA⟩
    · exact ⟨Nat.le_refl _, BA_nil _ _⟩
    · exact ⟨hd, hB⟩
theorem useL {P Q R : Prop} (h : P ∧ Q) (f : P → R) : R := f h.1
theorem nxt {W X w' : World} {Q : Prop} (h : Below W.heap.size W X ∧ Q) (hb : Below X.heap.size X w') : Below W.heap.size W w' := h.1.trans (hb.mono h.1.size)
theorem BA.take {w : World} {b : Nat} {l : List UInt8} (h : BA w (some ⟨b, 0, none⟩) l) (n : Nat) : BA w (some ⟨b, 0, none⟩) (l.take n) := fun j x hx => by
  rw [List.getElem?_take] at hx
  split at hx
  · exact h j x hx
  · cases hx
end Go.Proofs.YtaggbmlkfdfjpaaDoor
