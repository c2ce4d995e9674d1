/- Operations in memory; the contracts of long and build. -/
import Derived.Test.YtnmjcfpmljahcaaDoorC
import Derived.Test.YtnmjcfpmljahcaaDoorPure
namespace Go.Proofs.YtnmjcfpmljahcaaDoor
open Go.RowKit

/-- The elements at A are the operations l. -/
def SA (w : World) (A : Option Addr) (l : List St) : Prop := ∀ j s, l[j]? = some s → ∃ b o, A = some ⟨b, o, none⟩ ∧ w.cell? ⟨b, o + j * 2, none⟩ = some (.string s.op) ∧ w.cell? ⟨b, o + j * 2 + 1, none⟩ = some (.int .i64 s.n)
theorem SA.below {w w' : World} {A : Option Addr} {l : List St} (h : SA w A l) (hb : Below w.heap.size w w') : SA w' A l := fun j s hj => by
  obtain ⟨b, o, rfl, h1, h2⟩ := h j s hj
  exact ⟨b, o, rfl, by rw [hb.cell (lt_of_cell h1)]; exact h1, by rw [hb.cell (lt_of_cell h2)]; exact h2⟩

set_option maxHeartbeats 4000000 in
set_option maxRecDepth 100000 in
theorem long_c (A : Option Addr) (c : Nat) (l : List St) (w : World) (hA : SA w A l) (hl : l.length ≤ 9223372036854775807) :
    Calls Tryd.prog 9 #[.slice A l.length c] w fun e w' => e = .returned (.bool (longB l)) ∧ Below w.heap.size w w' := by
  have HA := Lib.hid hA
  clear hA
  go_enter Tryd.func9, Tryd.ntmps9
  go_wp2
  go_loopg [3, 8] l.length (fun gg n i wr => ∃ k : Nat, i = .int .i64 k ∧ k ≤ l.length ∧ l.length - k = gg ∧ n = .int .i64 (nsum (l.take k) : Nat) ∧ nsum (l.take k) ≤ 5000 ∧ Below w.heap.size w wr)
  case atStart => exact ⟨0, rfl, by omega, by omega, by simp [nsum], by simp [nsum], Below.refl _ _⟩
  case round =>
    obtain ⟨k, rfl, hk, rfl, rfl, hn, hB⟩ := hrel
    by_cases hlt : k < l.length
    · obtain ⟨s, hs⟩ : ∃ s, l[k]? = some s := ⟨_, List.getElem?_eq_getElem hlt⟩
      have ht : nsum (l.take (k + 1)) = nsum (l.take k) + (1 + min s.op.size 5000) := by rw [List.take_add_one, hs]; exact nsum_snoc _ _
      obtain ⟨b, o, rfl, h1, h2⟩ := HA.out k s hs
      have c1 : wr.cell? ⟨b, o + k * 2, none⟩ = some (.string s.op) := by rw [hB.cell (lt_of_cell h1)]; exact h1
      have c2 : wr.cell? ⟨b, o + k * 2 + 1, none⟩ = some (.int .i64 s.n) := by rw [hB.cell (lt_of_cell h2)]; exact h2
      have HT := Lib.hid ht
      have HB := Lib.hid hB
      have HS := Lib.hid hs
      obtain ⟨N, hN⟩ : ∃ N, N = nsum (l.take k) := ⟨_, rfl⟩
      rw [← hN] at hn ⊢
      have HN := Lib.hid hN
      clear ht hB hs h1 h2 hN
      by_cases h5 : 5000 < s.op.size
      · have d1 : (5000 : Int) < (s.op.size : Int) := by omega
        go_wp2
        go_ret
        exact ⟨ret_bool (longB_true_of l (k + 1) (by have h1 := HT.out; have h2 := HN.out; omega)).symm, HB.out.trans ((Below.refl _ _).alloc HB.out.size _)⟩
      · have d1 : ¬ (5000 : Int) < (s.op.size : Int) := by omega
        by_cases h6 : 5000 < N + (1 + s.op.size)
        · have d2 : (5000 : Int) < (N : Int) + (1 + (s.op.size : Int)) := by omega
          go_wp2
          go_ret
          exact ⟨ret_bool (longB_true_of l (k + 1) (by have h1 := HT.out; have h2 := HN.out; omega)).symm, HB.out.trans ((Below.refl _ _).alloc HB.out.size _)⟩
        · have d2 : ¬ (5000 : Int) < (N : Int) + (1 + (s.op.size : Int)) := by omega
          go_wp2
          have h1 := HT.out
          have h2 := HN.out
          go_roundg (l.length - (k + 1))
          case measure => omega
          case rel =>
            refine ⟨k + 1, by go_num, by omega, rfl, ?_, by omega, HB.out.trans ((Below.refl _ _).alloc HB.out.size _)⟩
            rw [h1]; congr 1; omega
    · have hkk : k = l.length := by omega
      subst hkk
      have HB := Lib.hid hB
      have hn' : ¬ 5000 < nsum l := by rw [List.take_length] at hn; omega
      have HN := Lib.hid hn'
      clear hB hn'
      by_cases h3 : 300 < l.length
      all_goals
        go_wp2
        go_ret
        exact ⟨ret_bool (by rw [longB_end l HN.out]; simp [h3]; omega), HB.out⟩

def Fr.st (f : Fr) : St := ⟨f.op, f.n⟩
/-- What build leaves: the error of the operations l, the last one outermost, around leaf. -/
def BuildPost (w : World) (leaf : Value) (l : List St) (e : Ending) (w' : World) : Prop :=
  ∃ v fs, e = .returned v ∧ fs.map Fr.st = l.reverse ∧ Chain w' leaf fs v ∧ Below w.heap.size w w'
theorem chain_new {w : World} {leaf v : Value} {fs : List Fr} (h : Chain w leaf fs v) (o : Obj) (s : St) :
    Chain ((w.alloc o).alloc (.cells #[.string s.op, .int .i64 s.n, v] 42)) leaf (⟨w.heap.size + 1, s.op, s.n⟩ :: fs) (.iface 44 (.pointer (some ⟨w.heap.size + 1, 0, none⟩))) := by
  refine ⟨rfl, v, ?_, h.below (((Below.refl _ _).alloc (Nat.le_refl _) _).alloc (by simp) _)⟩
  have := heap_alloc_new (w.alloc o) (.cells #[.string s.op, .int .i64 s.n, v] 42)
  rwa [show (w.alloc o).heap.size = w.heap.size + 1 by simp] at this
theorem rev_take {l : List St} {k : Nat} {s : St} (h : l[k]? = some s) : (l.take (k + 1)).reverse = s :: (l.take k).reverse := by
  rw [List.take_add_one, h]; simp

set_option maxHeartbeats 4000000 in
set_option maxRecDepth 100000 in
theorem build_c (A : Option Addr) (c : Nat) (l : List St) (code : Int) (w : World) (hA : SA w A l) (hl : l.length ≤ 400000) :
    Calls Tryd.prog 11 #[.slice A l.length c, .int .i64 code] w (BuildPost w (.iface 31 (.int .i64 code)) l) := by
  have HA := Lib.hid hA
  clear hA
  go_enter Tryd.func11, Tryd.ntmps11
  go_wp2
  go_loopg [5, 12] l.length (fun gg err i wr => ∃ (k : Nat) (fs : List Fr), i = .int .i64 k ∧ k ≤ l.length ∧ l.length - k = gg ∧ fs.map Fr.st = (l.take k).reverse ∧ Chain wr (.iface 31 (.int .i64 code)) fs err ∧ Below w.heap.size w wr)
  case atStart => exact ⟨0, [], rfl, by omega, by omega, by simp, rfl, Below.refl _ _⟩
  case round =>
    obtain ⟨k, fs, rfl, hk, rfl, hf, hC, hB⟩ := hrel
    by_cases hlt : k < l.length
    · obtain ⟨s, hs⟩ : ∃ s, l[k]? = some s := ⟨_, List.getElem?_eq_getElem hlt⟩
      obtain ⟨b, o, rfl, h1, h2⟩ := HA.out k s hs
      have c1 : wr.cell? ⟨b, o + k * 2, none⟩ = some (.string s.op) := by rw [hB.cell (lt_of_cell h1)]; exact h1
      have c2 : wr.cell? ⟨b, o + k * 2 + 1, none⟩ = some (.int .i64 s.n) := by rw [hB.cell (lt_of_cell h2)]; exact h2
      obtain ⟨t, x, rfl⟩ := hC.iface
      have HC := Lib.hid hC
      have HB := Lib.hid hB
      have HS := Lib.hid hs
      have HF := Lib.hid hf
      clear hB hs h1 h2 hC hf
      go_wp2_with (go_at_call 19; refine (new_c s.op s.n t x _).mono ?_; rintro e w' ⟨rfl, rfl⟩)
      go_roundg (l.length - (k + 1))
      case measure => omega
      case rel =>
        have hn := chain_new HC.out (.cells #[.string s.op, .int .i64 s.n] 40) s
        refine ⟨k + 1, _, by go_num, by omega, rfl, ?_, by simpa using hn, (HB.out.alloc HB.out.size _).alloc (by have := HB.out.size; simp; omega) _⟩
        rw [List.map_cons, HF.out, rev_take HS.out]
        rfl
    · have hkk : k = l.length := by omega
      subst hkk
      rw [List.take_length] at hf
      have HC := Lib.hid hC
      have HB := Lib.hid hB
      have HF := Lib.hid hf
      clear hB hC hf
      go_wp2
      go_ret
      exact ⟨_, fs, rfl, HF.out, HC.out, HB.out⟩
end Go.Proofs.YtnmjcfpmljahcaaDoor
