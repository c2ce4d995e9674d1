/- Keys as values: their order as that of numbers; ascending lists, the check, the reference's insertion, the compaction: plain mathematics. -/
import Derived.Test.YthpbfmjogecbmaaPure
namespace Go.Proofs.Ythpbfmjogecbmaa

structure K where
  f : Nat → Nat
  byt : Byt f
  out : ∀ j, 32 ≤ j → f j = 0
theorem K.ext_at {a b : K} (h : ∀ j, j < 32 → a.f j = b.f j) : a = b := by
  obtain ⟨f, hf, of⟩ := a
  obtain ⟨g, hg, og⟩ := b
  have : f = g := funext fun j => by
    rcases Nat.lt_or_ge j 32 with hj | hj
    · exact h j hj
    · rw [of j hj, og j hj]
  subst this
  rfl
def kzero : K := ⟨fun _ => 0, fun _ => Nat.zero_lt_succ _, fun _ _ => rfl⟩
instance : Inhabited K := ⟨kzero⟩

/-- The number that n bytes from place i on make. -/
def num (k : Nat → Nat) : Nat → Nat → Nat
  | 0, _ => 0
  | n + 1, i => k i * 256 ^ n + num k n (i + 1)
theorem num_lt {k : Nat → Nat} (hk : Byt k) : ∀ n i, num k n i < 256 ^ n
  | 0, _ => by simp [num]
  | n + 1, i => by
    have h1 := num_lt hk n (i + 1)
    have h2 := hk i
    have h3 : k i * 256 ^ n ≤ 255 * 256 ^ n := Nat.mul_le_mul_right _ (by omega)
    simp only [num, Nat.pow_succ]
    omega
theorem cmpFrom_num {a b : Nat → Nat} (ha : Byt a) (hb : Byt b) : ∀ n i, cmpFrom a b n i = if num a n i < num b n i then -1 else if num b n i < num a n i then 1 else 0
  | 0, _ => by simp [cmpFrom, num]
  | n + 1, i => by
    have h1 := num_lt ha n (i + 1)
    have h2 := num_lt hb n (i + 1)
    have ih := cmpFrom_num ha hb n (i + 1)
    have ea : num a (n + 1) i = a i * 256 ^ n + num a n (i + 1) := rfl
    have eb : num b (n + 1) i = b i * 256 ^ n + num b n (i + 1) := rfl
    rw [cmpFrom]
    by_cases hlt : a i < b i
    · have : a i * 256 ^ n + 256 ^ n ≤ b i * 256 ^ n := by rw [← Nat.succ_mul]; exact Nat.mul_le_mul_right _ hlt
      rw [if_pos hlt, if_pos (by omega)]
    · rw [if_neg hlt]
      by_cases hgt : b i < a i
      · have : b i * 256 ^ n + 256 ^ n ≤ a i * 256 ^ n := by rw [← Nat.succ_mul]; exact Nat.mul_le_mul_right _ hgt
        rw [if_pos hgt, if_neg (by omega), if_pos (by omega)]
      · have e : a i * 256 ^ n = b i * 256 ^ n := by rw [show a i = b i by omega]
        have c1 : num a (n + 1) i < num b (n + 1) i ↔ num a n (i + 1) < num b n (i + 1) := by omega
        have c2 : num b (n + 1) i < num a (n + 1) i ↔ num b n (i + 1) < num a n (i + 1) := by omega
        rw [if_neg hgt, ih]
        simp only [c1, c2]
def K.n (k : K) : Nat := num k.f 32 0
theorem K.cmp_n (a b : K) : cmp a.f b.f = if a.n < b.n then -1 else if b.n < a.n then 1 else 0 := cmpFrom_num a.byt b.byt 32 0
theorem K.inj {a b : K} (h : a.n = b.n) : a = b := by
  have hc := K.cmp_n a b
  rw [h, if_neg (Nat.lt_irrefl _), if_neg (Nat.lt_irrefl _)] at hc
  rcases first_byte (a := a.f) (b := b.f) with h' | ⟨m, hm, h', hne⟩
  · exact K.ext_at h'
  · rw [cmp_at hm h' hne] at hc
    split at hc <;> cases hc
theorem K.eq_iff {a b : K} : a = b ↔ a.n = b.n := ⟨fun h => by rw [h], K.inj⟩
instance : DecidableEq K := fun a b => decidable_of_iff (a.n = b.n) K.eq_iff.symm
theorem K.cmp_zero {a b : K} : cmp a.f b.f = 0 ↔ a.n = b.n := by
  rw [K.cmp_n]
  split
  · constructor
    · intro h; cases h
    · omega
  · split
    · constructor
      · intro h; cases h
      · omega
    · constructor
      · omega
      · intro; rfl
theorem K.cmp_lt {a b : K} : cmp a.f b.f < 0 ↔ a.n < b.n := by
  rw [K.cmp_n]
  split
  · simp; omega
  · split <;> simp <;> omega
theorem K.cmp_gt {a b : K} : 0 < cmp a.f b.f ↔ b.n < a.n := by
  rw [K.cmp_n]
  split
  · simp; omega
  · split <;> simp <;> omega

/-! ### Ascending lists -/
def Asc (l : List K) : Prop := l.Pairwise fun a b => a.n < b.n
theorem asc_unique : ∀ {l m : List K}, Asc l → Asc m → (∀ x, x ∈ l ↔ x ∈ m) → l = m
  | [], [], _, _, _ => rfl
  | [], y :: m, _, _, h => by have := (h y).2 (by simp); simp at this
  | x :: l, [], _, _, h => by have := (h x).1 (by simp); simp at this
  | x :: l, y :: m, hl, hm, h => by
    obtain ⟨hx, hl'⟩ := List.pairwise_cons.1 hl
    obtain ⟨hy, hm'⟩ := List.pairwise_cons.1 hm
    have exy : x = y := by
      have h1 := (h x).1 (by simp)
      have h2 := (h y).2 (by simp)
      rcases List.mem_cons.1 h1 with e | h1
      · exact e
      · rcases List.mem_cons.1 h2 with e | h2
        · exact e.symm
        · have := hx y h2; have := hy x h1; omega
    subst exy
    rw [asc_unique hl' hm' fun z => by
      have hz := h z
      simp only [List.mem_cons] at hz
      constructor
      · intro hzl
        rcases hz.1 (.inr hzl) with e | e
        · subst e; have := hx z hzl; omega
        · exact e
      · intro hzm
        rcases hz.2 (.inr hzm) with e | e
        · subst e; have := hy z hzm; omega
        · exact e]

/-- The check of a list: 9, 8 or 0. -/
def chk : List K → Int
  | a :: b :: r => if a.n < b.n then chk (b :: r) else if a.n = b.n then 9 else 8
  | _ => 0
theorem chk_asc : ∀ {l : List K}, Asc l → chk l = 0
  | [], _ => rfl
  | [_], _ => rfl
  | a :: b :: r, h => by
    obtain ⟨ha, h'⟩ := List.pairwise_cons.1 h
    rw [chk, if_pos (ha b (by simp))]
    exact chk_asc h'
theorem chk_drop {l : List K} {m : Nat} {a b : K} (ha : l[m]? = some a) (hb : l[m + 1]? = some b) : chk (l.drop m) = if a.n < b.n then chk (l.drop (m + 1)) else if a.n = b.n then 9 else 8 := by
  obtain ⟨h1, e1⟩ := List.getElem?_eq_some_iff.1 ha
  obtain ⟨h2, e2⟩ := List.getElem?_eq_some_iff.1 hb
  rw [List.drop_eq_getElem_cons h1, List.drop_eq_getElem_cons h2, e1, e2, chk]
theorem chk_end {l : List K} {m : Nat} (h : l.length ≤ m + 1) : chk (l.drop m) = 0 := by
  rcases Nat.lt_or_ge m l.length with h1 | h1
  · rw [List.drop_eq_getElem_cons h1, List.drop_eq_nil_of_le (by omega)]; rfl
  · rw [List.drop_eq_nil_of_le h1]; rfl

/-! ### The reference's insertion -/
/-- One step of the inner loop: what has been collected, and whether the key is placed. -/
def insStep (x : K) (s : List K × Bool) (y : K) : List K × Bool :=
  if (s.2 || y.n == x.n) = false ∧ x.n < y.n then (s.1 ++ [x, y], true) else (s.1 ++ [y], s.2 || y.n == x.n)
def insAll (x : K) (o : List K) : List K × Bool := o.foldl (insStep x) ([], false)
def rins (o : List K) (x : K) : List K := if (insAll x o).2 then (insAll x o).1 else (insAll x o).1 ++ [x]
def rsort (l : List K) : List K := l.foldl rins []
theorem insAll_snoc (x : K) (o : List K) (y : K) : insAll x (o ++ [y]) = insStep x (insAll x o) y := by simp [insAll]
theorem rsort_snoc (l : List K) (y : K) : rsort (l ++ [y]) = rins (rsort l) y := by simp [rsort]

theorem asc_snoc {l : List K} {y : K} (h : Asc l) (hy : ∀ z ∈ l, z.n < y.n) : Asc (l ++ [y]) := by
  unfold Asc
  rw [List.pairwise_append]
  exact ⟨h, by simp, fun a ha b hb => by simp at hb; subst hb; exact hy a ha⟩
theorem asc_init {l : List K} {y : K} (h : Asc (l ++ [y])) : Asc l ∧ ∀ z ∈ l, z.n < y.n := by
  unfold Asc at h
  rw [List.pairwise_append] at h
  exact ⟨h.1, fun z hz => h.2.2 z hz y (by simp)⟩

theorem snoc_ind {α : Type} {P : List α → Prop} (h0 : P []) (h1 : ∀ l x, P l → P (l ++ [x])) (l : List α) : P l := by
  have : ∀ l : List α, P l.reverse := fun l => by
    induction l with
    | nil => exact h0
    | cons a l ih => rw [List.reverse_cons]; exact h1 _ _ ih
  have := this l.reverse
  rwa [List.reverse_reverse] at this

theorem insAll_spec (x : K) (p : List K) : Asc p → Asc (insAll x p).1 ∧ (∀ z, z ∈ (insAll x p).1 ↔ z ∈ p ∨ ((insAll x p).2 = true ∧ z = x)) ∧
    ((insAll x p).2 = false → ∀ z ∈ p, z.n < x.n) ∧ ((insAll x p).2 = true → ∃ y ∈ p, x.n ≤ y.n) := by
  refine snoc_ind (P := fun p => Asc p → Asc (insAll x p).1 ∧ (∀ z, z ∈ (insAll x p).1 ↔ z ∈ p ∨ ((insAll x p).2 = true ∧ z = x)) ∧
    ((insAll x p).2 = false → ∀ z ∈ p, z.n < x.n) ∧ ((insAll x p).2 = true → ∃ y ∈ p, x.n ≤ y.n)) ?_ ?_ p
  · intro _
    refine ⟨List.Pairwise.nil, fun z => by simp [insAll], fun _ z hz => (by cases hz), fun h => by simp [insAll] at h⟩
  · intro p y ih hp
    obtain ⟨hp, hy⟩ := asc_init hp
    obtain ⟨i1, i2, i3, i4⟩ := ih hp
    rw [insAll_snoc]
    obtain ⟨⟨nx, d⟩, hs⟩ : ∃ s, insAll x p = s := ⟨_, rfl⟩
    rw [hs] at i1 i2 i3 i4 ⊢
    simp only at i1 i2 i3 i4
    unfold insStep
    by_cases hc : (d || y.n == x.n) = false ∧ x.n < y.n
    · rw [if_pos hc]
      obtain ⟨hd, hlt⟩ := hc
      have hdf : d = false := by cases d <;> simp_all
      subst hdf
      have hnx : ∀ z ∈ nx, z.n < x.n := fun z hz => i3 rfl z (by simpa using (i2 z).1 hz)
      refine ⟨?_, fun z => ?_, fun h => by simp at h, fun _ => ⟨y, by simp, by omega⟩⟩
      · have : nx ++ [x, y] = (nx ++ [x]) ++ [y] := by simp
        show Asc (nx ++ [x, y])
        rw [this]
        refine asc_snoc (asc_snoc i1 hnx) fun z hz => ?_
        rcases List.mem_append.1 hz with h | h
        · have := hnx z h; omega
        · simp at h; subst h; exact hlt
      · have := i2 z
        simp only [List.mem_append, List.mem_cons, List.not_mem_nil, or_false] at this ⊢
        simp only [this]
        simp
        constructor
        · rintro (h | rfl | rfl)
          · exact .inl (.inl h)
          · exact .inr rfl
          · exact .inl (.inr rfl)
        · rintro ((h | rfl) | rfl)
          · exact .inl h
          · exact .inr (.inr rfl)
          · exact .inr (.inl rfl)
    · rw [if_neg hc]
      refine ⟨?_, fun z => ?_, fun h => ?_, fun h => ?_⟩
      · refine asc_snoc i1 fun z hz => ?_
        rcases (i2 z).1 hz with h | ⟨hd, rfl⟩
        · exact hy z h
        · obtain ⟨y', hy', hle⟩ := i4 hd
          have := hy y' hy'
          omega
      · have h2 := i2 z
        simp only [List.mem_append, List.mem_cons, List.not_mem_nil, or_false, h2]
        by_cases e : y.n = x.n
        · have e' : y = x := K.inj e
          subst e'
          constructor
          · rintro ((h | ⟨_, h⟩) | h)
            · exact .inl (.inl h)
            · exact .inl (.inr h)
            · exact .inl (.inr h)
          · rintro ((h | h) | ⟨_, h⟩)
            · exact .inl (.inl h)
            · exact .inr h
            · exact .inr h
        · have : (y.n == x.n) = false := by simpa using e
          rw [this, Bool.or_false]
          constructor
          · rintro ((h | h) | h)
            · exact .inl (.inl h)
            · exact .inr h
            · exact .inl (.inr h)
          · rintro ((h | h) | h)
            · exact .inl (.inl h)
            · exact .inr h
            · exact .inl (.inr h)
      · have h' : d = false ∧ ¬ y.n = x.n := by simpa using h
        intro z hz
        rcases List.mem_append.1 hz with hz | hz
        · exact i3 h'.1 z hz
        · simp at hz; subst hz
          have : ¬ x.n < z.n := fun hlt => hc ⟨h, hlt⟩
          omega
      · have h' : d = true ∨ y.n = x.n := by simpa using h
        rcases h' with h' | h'
        · obtain ⟨y', hy', hle⟩ := i4 h'
          exact ⟨y', by simp [hy'], hle⟩
        · exact ⟨y, by simp, by omega⟩
theorem rins_asc {o : List K} (x : K) (h : Asc o) : Asc (rins o x) ∧ ∀ z, z ∈ rins o x ↔ z ∈ o ∨ z = x := by
  obtain ⟨i1, i2, i3, i4⟩ := insAll_spec x o h
  unfold rins
  cases hd : (insAll x o).2 with
  | true =>
    simp only [hd] at i2
    simp only [if_true]
    exact ⟨i1, fun z => by rw [i2]; simp⟩
  | false =>
    simp only [hd] at i2
    simp only [Bool.false_eq_true, if_false]
    refine ⟨asc_snoc i1 fun z hz => i3 hd z (by simpa using (i2 z).1 hz), fun z => ?_⟩
    rw [List.mem_append, i2]
    simp
theorem rsort_spec (l : List K) : Asc (rsort l) ∧ ∀ z, z ∈ rsort l ↔ z ∈ l := by
  refine snoc_ind (P := fun l => Asc (rsort l) ∧ ∀ z, z ∈ rsort l ↔ z ∈ l) ?_ ?_ l
  · exact ⟨List.Pairwise.nil, fun z => by simp [rsort]⟩
  · intro l x ⟨h1, h2⟩
    rw [rsort_snoc]
    obtain ⟨h3, h4⟩ := rins_asc x h1
    exact ⟨h3, fun z => by rw [h4, h2]; simp⟩
theorem insAll_len (x : K) (o : List K) : (insAll x o).1.length ≤ o.length + 1 ∧ ((insAll x o).2 = false → (insAll x o).1.length = o.length) := by
  refine snoc_ind (P := fun o => (insAll x o).1.length ≤ o.length + 1 ∧ ((insAll x o).2 = false → (insAll x o).1.length = o.length)) ?_ ?_ o
  · exact ⟨by simp [insAll], fun _ => by simp [insAll]⟩
  · intro o y ⟨h1, h2⟩
    rw [insAll_snoc]
    unfold insStep
    split
    · rename_i hc
      have hd : (insAll x o).2 = false := by
        have := hc.1
        cases h : (insAll x o).2 <;> simp_all
      have := h2 hd
      simp
      omega
    · simp
      constructor
      · omega
      · intro hd _
        exact h2 hd
theorem rins_len (o : List K) (x : K) : (rins o x).length ≤ o.length + 1 := by
  obtain ⟨h1, h2⟩ := insAll_len x o
  unfold rins
  cases hd : (insAll x o).2 with
  | true => simpa using h1
  | false => have := h2 hd; simp; omega
theorem rsort_len (l : List K) : (rsort l).length ≤ l.length := by
  refine snoc_ind (P := fun l => (rsort l).length ≤ l.length) ?_ ?_ l
  · simp [rsort]
  · intro l x h
    rw [rsort_snoc]
    have := rins_len (rsort l) x
    simp
    omega

/-! ### The compaction -/
def ddStep (acc : List K) (y : K) : List K := if acc.getLast? = some y then acc else acc ++ [y]
def dd (l : List K) : List K := l.foldl ddStep []
theorem dd_snoc (l : List K) (y : K) : dd (l ++ [y]) = ddStep (dd l) y := by simp [dd]
theorem dd_last (l : List K) : (dd l).getLast? = l.getLast? := by
  refine snoc_ind (P := fun l => (dd l).getLast? = l.getLast?) rfl ?_ l
  intro l y _
  rw [dd_snoc]
  unfold ddStep
  split
  · rename_i h; rw [h]; simp
  · simp
theorem dd_mem (l : List K) : ∀ z, z ∈ dd l ↔ z ∈ l := by
  refine snoc_ind (P := fun l => ∀ z, z ∈ dd l ↔ z ∈ l) (fun z => by simp [dd]) ?_ l
  intro l y ih z
  rw [dd_snoc]
  unfold ddStep
  split
  · rename_i h
    rw [ih, List.mem_append]
    constructor
    · exact .inl
    · rintro (h' | h')
      · exact h'
      · simp at h'; subst h'
        rw [← ih]
        exact List.mem_of_getLast? h
  · rw [List.mem_append, ih, List.mem_append]
theorem dd_len (l : List K) : (dd l).length ≤ l.length := by
  refine snoc_ind (P := fun l => (dd l).length ≤ l.length) (by simp [dd]) ?_ l
  intro l y ih
  rw [dd_snoc]
  unfold ddStep
  split <;> simp <;> omega
/-- Of a list that does not descend, the compaction ascends. -/
theorem dd_asc {l : List K} (h : l.Pairwise fun a b => a.n ≤ b.n) : Asc (dd l) := by
  refine (snoc_ind (P := fun l => l.Pairwise (fun a b : K => a.n ≤ b.n) → Asc (dd l)) (fun _ => List.Pairwise.nil) ?_ l) h
  intro l y ih hp
  rw [List.pairwise_append] at hp
  have i := ih hp.1
  have hle : ∀ z ∈ dd l, z.n ≤ y.n := fun z hz => hp.2.2 z ((dd_mem l z).1 hz) y (by simp)
  rw [dd_snoc]
  unfold ddStep
  split
  · exact i
  · rename_i hne
    refine asc_snoc i fun z hz => ?_
    rcases Nat.lt_or_ge z.n y.n with hlt | hge
    · exact hlt
    · exfalso
      have e : z = y := K.inj (by have := hle z hz; omega)
      subst e
      -- z is among them and none is above it: it is the last
      cases hd : dd l with
      | nil => rw [hd] at hz; cases hz
      | cons a r =>
        obtain ⟨u, v, huv⟩ : ∃ u v, dd l = u ++ [v] := ⟨(dd l).dropLast, (dd l).getLast (by rw [hd]; simp), (List.dropLast_concat_getLast _).symm⟩
        rw [huv] at hz hne i hle
        obtain ⟨_, hu⟩ := asc_init i
        rcases List.mem_append.1 hz with hz' | hz'
        · have := hu z hz'; have := hle v (by simp); omega
        · simp at hz'; subst hz'; simp at hne
/-- A sorted arrangement of l, compacted, is the reference's list. -/
theorem dd_rsort {l m : List K} (hm : m.Pairwise fun a b => a.n ≤ b.n) (h : ∀ z, z ∈ m ↔ z ∈ l) : dd m = rsort l :=
  asc_unique (dd_asc hm) (rsort_spec l).1 fun z => by rw [dd_mem, h, (rsort_spec l).2]
end Go.Proofs.Ythpbfmjogecbmaa
