/- Operations, their texts and decimals: plain lists and numbers. -/
import Derived.Lib.ItoaNum
namespace Go.Proofs.YtnmjcfpmljahcaaDoor

/-- An operation with its index. -/
structure St where
  op : ByteArray
  n : Int

/-- How long a list of operations is, to the test of its length. -/
def nsum (l : List St) : Nat := (l.map fun s => 1 + min s.op.size 5000).sum
theorem nsum_snoc (l : List St) (s : St) : nsum (l ++ [s]) = nsum l + (1 + min s.op.size 5000) := by simp [nsum]
theorem nsum_append (l r : List St) : nsum (l ++ r) = nsum l + nsum r := by simp [nsum]
theorem nsum_take_le (l : List St) (k : Nat) : nsum (l.take k) ≤ nsum l := by
  have := nsum_append (l.take k) (l.drop k)
  rw [List.take_append_drop] at this
  omega
def longB (l : List St) : Bool := decide (5000 < nsum l) || decide (300 < l.length)
theorem longB_true_of (l : List St) (k : Nat) (h : 5000 < nsum (l.take k)) : longB l = true := by
  have := nsum_take_le l k
  simp [longB]; omega
theorem longB_end (l : List St) (h : ¬ 5000 < nsum l) : longB l = decide (300 < l.length) := by simp [longB, h]
theorem short_facts {l : List St} (h : longB l = false) : l.length ≤ 300 ∧ nsum l ≤ 5000 := by
  simp [longB] at h; omega
theorem short_op {l : List St} (h : longB l = false) {s : St} (hs : s ∈ l) : s.op.size ≤ 5000 := by
  obtain ⟨_, h2⟩ := short_facts h
  obtain ⟨a, b, rfl⟩ := List.append_of_mem hs
  have : nsum (a ++ s :: b) = nsum a + ((1 + min s.op.size 5000) + nsum b) := by rw [nsum_append]; simp [nsum]
  omega

/-- The piece of a text that an operation lays. -/
def frag (s : St) : List UInt8 := s.op.data.toList ++ ([32] ++ (Lib.itoa s.n ++ [58, 32]))
/-- The text of the operations l, the outermost first, around a text. -/
def textL : List St → List UInt8 → List UInt8
  | [], t => t
  | s :: r, t => frag s ++ textL r t
theorem textL_append (a b : List St) (t : List UInt8) : textL (a ++ b) t = textL a (textL b t) := by
  induction a with
  | nil => rfl
  | cons s r ih => simp [textL, ih]
theorem textL_flat (a : List St) (t : List UInt8) : textL a t = a.flatMap frag ++ t := by
  induction a with
  | nil => rfl
  | cons s r ih => simp [textL, ih]
/-- "error " and a number. -/
def errText (c : Int) : List UInt8 := [101, 114, 114, 111, 114, 32] ++ Lib.itoa c

theorem decDigits_len (u : Nat) : (Lib.decDigits u).length = Lib.nDigits u := by rw [Lib.decDigits_eq]; simp
theorem nDigits_le : ∀ (k u : Nat), u < 10 ^ (k + 1) → Lib.nDigits u ≤ k + 1
  | 0, u, h => by rw [Lib.nDigits_small (by simpa using h)]; omega
  | k + 1, u, h => by
    by_cases hu : u < 10
    · rw [Lib.nDigits_small hu]; omega
    · rw [Lib.nDigits_big hu]
      have := nDigits_le k (u / 10) (by rw [Nat.pow_succ] at h; omega)
      omega
theorem itoa_len (n : Int) (h0 : -9223372036854775808 ≤ n) (h1 : n ≤ 9223372036854775807) : (Lib.itoa n).length ≤ 21 := by
  unfold Lib.itoa
  split
  · rw [List.length_cons, decDigits_len]
    have := nDigits_le 19 n.natAbs (by have : (10 : Nat) ^ (19 + 1) = 100000000000000000000 := by decide
                                       omega)
    omega
  · rw [decDigits_len]
    have := nDigits_le 19 n.toNat (by have : (10 : Nat) ^ (19 + 1) = 100000000000000000000 := by decide
                                      omega)
    omega
def Fits (l : List St) : Prop := ∀ s ∈ l, -9223372036854775808 ≤ s.n ∧ s.n ≤ 9223372036854775807 ∧ s.op.size ≤ 5000
theorem frag_len {l : List St} (h : Fits l) {s : St} (hs : s ∈ l) : (frag s).length ≤ 5030 := by
  obtain ⟨h0, h1, h2⟩ := h s hs
  have := itoa_len s.n h0 h1
  have h3 : s.op.data.toList.length = s.op.size := Array.length_toList
  unfold frag
  rw [List.length_append, List.length_append, List.length_append, h3]
  simp only [List.length_cons, List.length_nil]
  omega
theorem flat_len : ∀ (l : List St), Fits l → (l.flatMap frag).length ≤ 5030 * l.length
  | [], _ => by simp
  | s :: r, h => by
    have h1 := frag_len h (s := s) (by simp)
    have h2 := flat_len r (fun x hx => h x (by simp [hx]))
    simp only [List.flatMap_cons, List.length_append, List.length_cons]
    omega
end Go.Proofs.YtnmjcfpmljahcaaDoor
