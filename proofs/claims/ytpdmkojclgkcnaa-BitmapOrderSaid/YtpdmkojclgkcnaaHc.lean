/- Sets of depths as functions: with and without a depth, of a list, the list of a set, the greatest depth. Nothing of the program. -/
import Derived.Test.YtpdmkojclgkcnaaBtKit
namespace Go.Proofs.Ytpdmkojclgkcnaa.Bt
open Go.RowKit

def hasK (k : Nat → Nat) (i : Int) : Bool := bitI k i == 1
def insK (k : Nat → Nat) (i : Int) : Nat → Nat := if hasK k i = true then k else flipI k i
def delK (k : Nat → Nat) (i : Int) : Nat → Nat := if hasK k i = true then flipI k i else k
def ofFrom (k : Nat → Nat) (l : List Int) : Nat → Nat := l.foldl insK k
def ofK (l : List Int) : Nat → Nat := ofFrom kz l
/-- The depths below n that are in the set, in ascending order. -/
def setZ (k : Nat → Nat) : Nat → List Int
  | 0 => []
  | n + 1 => if bit k n = 1 then setZ k n ++ [(n : Int)] else setZ k n
/-- The greatest depth below n that is in the set, or -1. -/
def lastTo (k : Nat → Nat) : Nat → Int
  | 0 => -1
  | n + 1 => if bit k n = 1 then (n : Int) else lastTo k n

theorem kz_byt : Byt kz := fun _ => by unfold kz; omega
theorem bit_kz (j : Nat) : bit kz j = 0 := by unfold bit kz; simp
theorem bitI_in (k : Nat → Nat) (i : Nat) (h : i < 256) : bitI k (i : Int) = (bit k i : Int) := by
  unfold bitI; rw [if_pos (by omega), Int.toNat_natCast]
theorem bitI_out (k : Nat → Nat) (i : Int) (h : i < 0 ∨ 256 ≤ i) : bitI k i = -1 := by
  unfold bitI; rw [if_neg (by omega)]
theorem hasK_in (k : Nat → Nat) (i : Nat) (h : i < 256) : hasK k (i : Int) = decide (bit k i = 1) := by
  unfold hasK; rw [bitI_in k i h]
  have := bit_lt k i
  by_cases e : bit k i = 1
  · rw [e]; rfl
  · rw [show bit k i = 0 by omega]; rfl
theorem hasK_out (k : Nat → Nat) (i : Int) (h : i < 0 ∨ 256 ≤ i) : hasK k i = false := by unfold hasK; rw [bitI_out k i h]; rfl
theorem flipI_out (k : Nat → Nat) (i : Int) (h : i < 0 ∨ 256 ≤ i) : flipI k i = k := by unfold flipI; rw [if_neg (by omega)]
theorem flipI_in (k : Nat → Nat) (i : Nat) (h : i < 256) : flipI k (i : Int) = flip k i := by unfold flipI; rw [if_pos (by omega), Int.toNat_natCast]
theorem insK_byt {k : Nat → Nat} (h : Byt k) (i : Int) : Byt (insK k i) := by
  unfold insK; split
  · exact h
  · exact flipI_byt h i
theorem delK_byt {k : Nat → Nat} (h : Byt k) (i : Int) : Byt (delK k i) := by
  unfold delK; split
  · exact flipI_byt h i
  · exact h
theorem ofFrom_byt : ∀ (l : List Int) {k : Nat → Nat}, Byt k → Byt (ofFrom k l)
  | [], _, h => h
  | x :: l, _, h => ofFrom_byt l (insK_byt h x)
theorem ofK_byt (l : List Int) : Byt (ofK l) := ofFrom_byt l kz_byt
theorem ofFrom_snoc (k : Nat → Nat) (l : List Int) (x : Int) : ofFrom k (l ++ [x]) = insK (ofFrom k l) x := by unfold ofFrom; rw [List.foldl_append]; rfl
theorem insK_out (k : Nat → Nat) (i : Int) (h : i < 0 ∨ 256 ≤ i) : insK k i = k := by unfold insK; rw [hasK_out k i h, if_neg (by simp), flipI_out k i h]
theorem delK_out (k : Nat → Nat) (i : Int) (h : i < 0 ∨ 256 ≤ i) : delK k i = k := by unfold delK; rw [hasK_out k i h, if_neg (by simp)]
theorem insK_yes (k : Nat → Nat) (i : Nat) (h : i < 256) (hb : bit k i = 1) : insK k i = k := by unfold insK; rw [hasK_in k i h, if_pos (by simpa using hb)]
theorem insK_no (k : Nat → Nat) (i : Nat) (h : i < 256) (hb : bit k i = 0) : insK k i = flip k i := by unfold insK; rw [hasK_in k i h, if_neg (by simp [hb]), flipI_in k i h]
theorem delK_yes (k : Nat → Nat) (i : Nat) (h : i < 256) (hb : bit k i = 1) : delK k i = flip k i := by unfold delK; rw [hasK_in k i h, if_pos (by simpa using hb), flipI_in k i h]
theorem delK_no (k : Nat → Nat) (i : Nat) (h : i < 256) (hb : bit k i = 0) : delK k i = k := by unfold delK; rw [hasK_in k i h, if_neg (by simp [hb])]
theorem bit_01 (k : Nat → Nat) (i : Nat) : bit k i = 0 ∨ bit k i = 1 := by have := bit_lt k i; omega
theorem nat_of (i : Int) : (i < 0 ∨ 256 ≤ i) ∨ ∃ n : Nat, i = n ∧ n < 256 := by
  by_cases h : i < 0 ∨ 256 ≤ i
  · exact .inl h
  · exact .inr ⟨i.toNat, by omega, by omega⟩
theorem bit_insK (k : Nat → Nat) (i : Int) (j : Nat) (hj : j < 256) : bit (insK k i) j = if (j : Int) = i then 1 else bit k j := by
  rcases nat_of i with h | ⟨n, rfl, h⟩
  · rw [insK_out k i h, if_neg (by omega)]
  · rcases bit_01 k n with hb | hb
    · rw [insK_no k n h hb, bit_flip, hb]
      by_cases e : j = n
      · subst e; simp
      · rw [if_neg e, if_neg (by omega)]
    · rw [insK_yes k n h hb]
      by_cases e : j = n
      · subst e; simp [hb]
      · rw [if_neg (by omega)]
theorem bit_delK (k : Nat → Nat) (i : Int) (j : Nat) (hj : j < 256) : bit (delK k i) j = if (j : Int) = i then 0 else bit k j := by
  rcases nat_of i with h | ⟨n, rfl, h⟩
  · rw [delK_out k i h, if_neg (by omega)]
  · rcases bit_01 k n with hb | hb
    · rw [delK_no k n h hb]
      by_cases e : j = n
      · subst e; simp [hb]
      · rw [if_neg (by omega)]
    · rw [delK_yes k n h hb, bit_flip, hb]
      by_cases e : j = n
      · subst e; simp
      · rw [if_neg e, if_neg (by omega)]
theorem bit_ofFrom (j : Nat) (hj : j < 256) : ∀ (l : List Int) (k : Nat → Nat), bit (ofFrom k l) j = if (j : Int) ∈ l then 1 else bit k j
  | [], k => by simp [ofFrom]
  | x :: l, k => by
    show bit (ofFrom (insK k x) l) j = _
    rw [bit_ofFrom j hj l, bit_insK k x j hj]
    by_cases h : (j : Int) ∈ l
    · rw [if_pos h, if_pos (by simp [h])]
    · rw [if_neg h]
      by_cases e : (j : Int) = x
      · rw [if_pos e, if_pos (by simp [e])]
      · rw [if_neg e, if_neg (by simp [h, e])]
theorem bit_ofK (l : List Int) (j : Nat) (hj : j < 256) : bit (ofK l) j = if (j : Int) ∈ l then 1 else 0 := by
  unfold ofK; rw [bit_ofFrom j hj, bit_kz]

/-! ### The list -/
theorem setZ_len (k : Nat → Nat) : ∀ n, (setZ k n).length ≤ n
  | 0 => Nat.le_refl _
  | n + 1 => by
    have := setZ_len k n
    unfold setZ
    split
    · simp; omega
    · omega
theorem mem_setZ (k : Nat → Nat) (x : Int) : ∀ n, x ∈ setZ k n ↔ ∃ j : Nat, j < n ∧ bit k j = 1 ∧ x = j
  | 0 => by simp [setZ]
  | n + 1 => by
    have ih := mem_setZ k x n
    unfold setZ
    split
    · rename_i h
      rw [List.mem_append, ih]
      constructor
      · rintro (⟨j, h1, h2, h3⟩ | h1)
        · exact ⟨j, by omega, h2, h3⟩
        · exact ⟨n, by omega, h, by simpa using h1⟩
      · rintro ⟨j, h1, h2, h3⟩
        by_cases e : j = n
        · subst e; exact .inr (by simpa using h3)
        · exact .inl ⟨j, by omega, h2, h3⟩
    · rename_i h
      rw [ih]
      constructor
      · rintro ⟨j, h1, h2, h3⟩; exact ⟨j, by omega, h2, h3⟩
      · rintro ⟨j, h1, h2, h3⟩
        by_cases e : j = n
        · subst e; exact absurd h2 h
        · exact ⟨j, by omega, h2, h3⟩
theorem setZ_congr {a b : Nat → Nat} : ∀ n, (∀ j, j < n → bit a j = bit b j) → setZ a n = setZ b n
  | 0, _ => rfl
  | n + 1, h => by
    unfold setZ
    rw [h n (by omega), setZ_congr n fun j hj => h j (by omega)]
theorem setZ_nodup (k : Nat → Nat) : ∀ n, (setZ k n).Nodup
  | 0 => List.nodup_nil
  | n + 1 => by
    unfold setZ
    split
    · refine List.nodup_append.2 ⟨setZ_nodup k n, by simp, fun a ha b hb => ?_⟩
      obtain ⟨j, h1, _, rfl⟩ := (mem_setZ k a n).1 ha
      have : b = n := by simpa using hb
      omega
    · exact setZ_nodup k n
theorem setZ_range (k : Nat → Nat) (n : Nat) {x : Int} (h : x ∈ setZ k n) : 0 ≤ x ∧ x < n := by
  obtain ⟨j, h1, _, rfl⟩ := (mem_setZ k x n).1 h
  omega
theorem ofK_setZ {k : Nat → Nat} (hk : Byt k) : ∀ j, j < 32 → ofK (setZ k 256) j = k j :=
  key_ext (ofK_byt _) hk fun i hi => by
    rw [bit_ofK _ i hi]
    rcases bit_01 k i with h | h
    · rw [if_neg, h]
      intro hm
      obtain ⟨j, _, h2, h3⟩ := (mem_setZ k _ 256).1 hm
      rw [show i = j by omega] at h; omega
    · rw [if_pos ((mem_setZ k _ 256).2 ⟨i, hi, h, rfl⟩), h]
theorem ofK_congr {l m : List Int} (h : ∀ x, x ∈ l ↔ x ∈ m) : (∀ i, i < 256 → bit (ofK l) i = bit (ofK m) i) ∧ ∀ j, j < 32 → ofK l j = ofK m j := by
  have hb : ∀ i, i < 256 → bit (ofK l) i = bit (ofK m) i := fun i hi => by rw [bit_ofK _ i hi, bit_ofK _ i hi]; simp only [h]
  exact ⟨hb, key_ext (ofK_byt _) (ofK_byt _) hb⟩

/-! ### The greatest depth -/
theorem lastTo_congr {a b : Nat → Nat} : ∀ n, (∀ j, j < n → bit a j = bit b j) → lastTo a n = lastTo b n
  | 0, _ => rfl
  | n + 1, h => by
    unfold lastTo
    rw [h n (by omega), lastTo_congr n fun j hj => h j (by omega)]
theorem lastTo_range (k : Nat → Nat) : ∀ n, -1 ≤ lastTo k n ∧ lastTo k n < n
  | 0 => by simp [lastTo]
  | n + 1 => by
    have := lastTo_range k n
    unfold lastTo
    split <;> omega
theorem lastTo_none {k : Nat → Nat} : ∀ n, lastTo k n = -1 → ∀ j, j < n → bit k j = 0
  | 0, _, j, hj => by omega
  | n + 1, h, j, hj => by
    unfold lastTo at h
    split at h
    · omega
    · rename_i hb
      by_cases e : j = n
      · subst e; have := bit_lt k j; omega
      · exact lastTo_none n h j (by omega)
theorem lastTo_some {k : Nat → Nat} (hk : Byt k) (h : keq k kz = false) : lastTo k 256 ≠ -1 := fun hl => by
  have h0 := lastTo_none 256 hl
  have : keq k kz = true := (keq_iff _ _).2 (key_ext hk kz_byt fun i hi => by rw [h0 i hi, bit_kz])
  rw [this] at h; cases h
theorem lastTo_kz {k : Nat → Nat} (h : keq k kz = true) : lastTo k 256 = -1 := by
  have h1 := (keq_iff _ _).1 h
  have : ∀ n, n ≤ 256 → lastTo k n = -1 := fun n => by
    induction n with
    | zero => intro _; rfl
    | succ n ih =>
      intro hn
      unfold lastTo
      have : bit k n = 0 := by
        unfold bit
        rw [h1 _ (by omega)]; simp [kz]
      rw [if_neg (by omega)]
      exact ih (by omega)
  exact this 256 (Nat.le_refl _)
theorem lastTo_or {a b c : Nat → Nat} : ∀ n, (∀ j, j < n → (bit c j = 1 ↔ bit a j = 1 ∨ bit b j = 1)) → lastTo c n = max (lastTo a n) (lastTo b n)
  | 0, _ => by simp [lastTo]
  | n + 1, h => by
    have ih := lastTo_or n fun j hj => h j (by omega)
    have hn := h n (by omega)
    have ra := lastTo_range a n
    have rb := lastTo_range b n
    unfold lastTo
    by_cases ha : bit a n = 1
    · rw [if_pos (hn.2 (.inl ha)), if_pos ha]; split <;> omega
    · by_cases hb : bit b n = 1
      · rw [if_pos (hn.2 (.inr hb)), if_neg ha, if_pos hb]; omega
      · rw [if_neg (fun h => (hn.1 h).elim ha hb), if_neg ha, if_neg hb, ih]

/-! ### One depth changed -/
theorem len_changes (k : Nat → Nat) (i : Nat) : ∀ n, n ≤ 256 → (setZ (insK k i) n).length = (setZ (delK k i) n).length + if i < n then 1 else 0
  | 0, _ => by simp [setZ]
  | n + 1, hn => by
    have ih := len_changes k i n (by omega)
    unfold setZ
    rw [bit_insK k i n (by omega), bit_delK k i n (by omega)]
    by_cases e : (n : Int) = i
    · rw [if_pos e, if_pos e, if_pos rfl, if_neg (by omega), if_pos (by omega)]
      rw [if_neg (by omega)] at ih
      simp; omega
    · rw [if_neg e, if_neg e]
      by_cases hb : bit k n = 1
      · rw [if_pos hb, if_pos hb]
        simp only [List.length_append, List.length_singleton]
        rw [ih]
        by_cases hi : i < n
        · rw [if_pos hi, if_pos (by omega)]
        · rw [if_neg hi, if_neg (by omega)]
      · rw [if_neg hb, if_neg hb, ih]
        by_cases hi : i < n
        · rw [if_pos hi, if_pos (by omega)]
        · rw [if_neg hi, if_neg (by omega)]
theorem del_ins (k : Nat → Nat) (i : Nat) (h : i < 256) : delK (insK k i) i = delK k i := by
  rcases bit_01 k i with hb | hb
  · have h1 := bit_insK k i i h
    rw [if_pos rfl] at h1
    rw [delK_yes _ i h h1, insK_no k i h hb, flip_flip, delK_no k i h hb]
  · rw [insK_yes k i h hb]
theorem ins_del (k : Nat → Nat) (i : Nat) (h : i < 256) : insK (delK k i) i = insK k i := by
  rcases bit_01 k i with hb | hb
  · rw [delK_no k i h hb]
  · have h1 := bit_delK k i i h
    rw [if_pos rfl] at h1
    rw [insK_no _ i h h1, delK_yes k i h hb, flip_flip, insK_yes k i h hb]
theorem hasK_ins (k : Nat → Nat) (i : Nat) (h : i < 256) : hasK (insK k i) i = true := by
  rw [hasK_in _ i h, bit_insK k i i h, if_pos rfl]; rfl
theorem hasK_del (k : Nat → Nat) (i : Nat) (h : i < 256) : hasK (delK k i) i = false := by
  rw [hasK_in _ i h, bit_delK k i i h, if_pos rfl]; rfl
theorem hasK_ins_other (k : Nat → Nat) (i j : Int) (h : i ≠ j) : hasK (insK k i) j = hasK k j := by
  rcases nat_of j with hj | ⟨n, rfl, hn⟩
  · rw [hasK_out _ j hj, hasK_out _ j hj]
  · rw [hasK_in _ n hn, hasK_in _ n hn, bit_insK k i n hn, if_neg (by omega)]
theorem hasK_del_other (k : Nat → Nat) (i j : Int) (h : i ≠ j) : hasK (delK k i) j = hasK k j := by
  rcases nat_of j with hj | ⟨n, rfl, hn⟩
  · rw [hasK_out _ j hj, hasK_out _ j hj]
  · rw [hasK_in _ n hn, hasK_in _ n hn, bit_delK k i n hn, if_neg (by omega)]

/-! ### Two lists -/
theorem bit_or (l m : List Int) (j : Nat) (hj : j < 256) : bit (ofK (l ++ m)) j = 1 ↔ bit (ofK l) j = 1 ∨ bit (ofK m) j = 1 := by
  rw [bit_ofK _ j hj, bit_ofK _ j hj, bit_ofK _ j hj]
  by_cases h1 : (j : Int) ∈ l <;> by_cases h2 : (j : Int) ∈ m <;> simp [List.mem_append, h1, h2]
theorem hasK_or (l m : List Int) (i : Int) : hasK (ofK (l ++ m)) i = (hasK (ofK l) i || hasK (ofK m) i) := by
  rcases nat_of i with hj | ⟨n, rfl, hn⟩
  · rw [hasK_out _ i hj, hasK_out _ i hj, hasK_out _ i hj]; rfl
  · rw [hasK_in _ n hn, hasK_in _ n hn, hasK_in _ n hn, Bool.eq_iff_iff]
    simp only [Bool.or_eq_true, decide_eq_true_eq]
    exact bit_or l m n hn
theorem last_or (l m : List Int) : lastTo (ofK (l ++ m)) 256 = max (lastTo (ofK l) 256) (lastTo (ofK m) 256) := lastTo_or 256 fun j hj => bit_or l m j hj

/-! ### The reference -/
/-- The numbers below n that are in a list. -/
def refZ (l : List Int) : Nat → List Int
  | 0 => []
  | n + 1 => if (n : Int) ∈ l then refZ l n ++ [(n : Int)] else refZ l n
theorem refZ_eq (l : List Int) : ∀ n, n ≤ 256 → refZ l n = setZ (ofK l) n
  | 0, _ => rfl
  | n + 1, hn => by
    unfold refZ setZ
    rw [refZ_eq l n (by omega), bit_ofK l n (by omega)]
    by_cases h : (n : Int) ∈ l
    · rw [if_pos h, if_pos h, if_pos rfl]
    · rw [if_neg h, if_neg h, if_neg (by omega)]
theorem not_in_take {l : List Int} (h : l.Nodup) {m : Nat} {x : Int} (hx : l[m]? = some x) : x ∉ l.take m := fun hm => by
  obtain ⟨i, hi, e⟩ := List.mem_iff_getElem.1 hm
  have hlm := (List.getElem?_eq_some_iff.1 hx).1
  have hil : i < m := by simp at hi; omega
  rw [List.getElem_take] at e
  have e2 : l[m] = x := (List.getElem?_eq_some_iff.1 hx).2
  have := (List.getElem_inj (h₀ := by omega) (h₁ := hlm) h).1 (e.trans e2.symm)
  omega
theorem take_snoc {l : List Int} {m : Nat} {x : Int} (hx : l[m]? = some x) : l.take (m + 1) = l.take m ++ [x] := by rw [List.take_add_one, hx]; rfl
/-- The bytes behind m of a list's numbers are those of the set of these. -/
theorem bytes_step (k : Nat → Nat) {m : Nat} {n : Nat} (hn : n < 256) (hx : (setZ k 256)[m]? = some (n : Int)) :
    bit (ofK ((setZ k 256).take m)) n = 0 ∧ upd (ofK ((setZ k 256).take m)) (n / 8) (ofK ((setZ k 256).take m) (n / 8) + msk n) = ofK ((setZ k 256).take (m + 1)) ∧ ofK ((setZ k 256).take m) (n / 8) + msk n < 256 := by
  have hb : bit (ofK ((setZ k 256).take m)) n = 0 := by rw [bit_ofK _ n hn, if_neg (not_in_take (setZ_nodup k 256) hx)]
  have hf := flip_zero (ofK_byt ((setZ k 256).take m)) hb
  refine ⟨hb, ?_, ?_⟩
  · rw [hf, take_snoc hx]
    show _ = ofFrom kz _
    rw [ofFrom_snoc]
    exact (insK_no _ n hn hb).symm
  · have h1 := flip_byt (ofK_byt ((setZ k 256).take m)) n (n / 8)
    rw [← hf] at h1
    simpa [upd] using h1

/-! ### Each number twice -/
def ord (l : List Int) : Nat → List Int
  | 0 => []
  | n + 1 => ord l n ++ [l.getD (l.length - 1 - n) 0, l.getD n 0]
theorem ord_len (l : List Int) : ∀ n, (ord l n).length = 2 * n
  | 0 => rfl
  | n + 1 => by unfold ord; rw [List.length_append, ord_len l n]; simp; omega
theorem getD_mem {l : List Int} {n : Nat} (h : n < l.length) : l.getD n 0 ∈ l := by
  rw [List.getD_eq_getElem?_getD, List.getElem?_eq_getElem h]
  exact List.getElem_mem h
theorem ord_sub (l : List Int) (x : Int) : ∀ n, n ≤ l.length → x ∈ ord l n → x ∈ l
  | 0, _, h => by simp [ord] at h
  | n + 1, hn, h => by
    unfold ord at h
    rcases List.mem_append.1 h with h | h
    · exact ord_sub l x n (by omega) h
    · have : x = l.getD (l.length - 1 - n) 0 ∨ x = l.getD n 0 := by simpa using h
      rcases this with rfl | rfl
      · exact getD_mem (by omega)
      · exact getD_mem (by omega)
theorem ord_has (l : List Int) : ∀ n j, j < n → l.getD j 0 ∈ ord l n
  | 0, _, h => by omega
  | n + 1, j, h => by
    unfold ord
    by_cases e : j = n
    · subst e; simp
    · exact List.mem_append.2 (.inl (ord_has l n j (by omega)))
theorem mem_ord (l : List Int) (x : Int) : x ∈ ord l l.length ↔ x ∈ l := by
  refine ⟨ord_sub l x _ (Nat.le_refl _), fun h => ?_⟩
  obtain ⟨i, hi, e⟩ := List.mem_iff_getElem.1 h
  have := ord_has l l.length i hi
  rwa [List.getD_eq_getElem?_getD, List.getElem?_eq_getElem hi, show (some l[i]).getD 0 = l[i] from rfl, e] at this
end Go.Proofs.Ytpdmkojclgkcnaa.Bt
