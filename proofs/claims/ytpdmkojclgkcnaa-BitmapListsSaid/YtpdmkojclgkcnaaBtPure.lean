/- Plain facts on the bits of keys: a key is a function from places to bytes. -/
namespace Go.Proofs.Ytpdmkojclgkcnaa.Bt

/-- Every place holds a byte. -/
def Byt (k : Nat → Nat) : Prop := ∀ j, k j < 256
/-- The mask of a bit within its byte. -/
def msk (i : Nat) : Nat := 2 ^ (7 - i % 8)
/-- A bit of a key. -/
def bit (k : Nat → Nat) (i : Nat) : Nat := k (i / 8) / msk i % 2
def bitI (k : Nat → Nat) (i : Int) : Int := if 0 ≤ i ∧ i < 256 then (bit k i.toNat : Int) else -1
/-- The number of the first bit of a byte that is 1. -/
def lz (d : Nat) : Nat := ((List.range 8).find? fun i => d / msk i % 2 == 1).getD 8
/-- How many leading bits two keys have in common. -/
def common (a b : Nat → Nat) : Nat := ((List.range 256).find? fun i => bit a i != bit b i).getD 256
/-- A key with a byte set. -/
def upd (k : Nat → Nat) (j x : Nat) : Nat → Nat := fun i => if i = j then x else k i
/-- A key with a bit inverted. -/
def flip (k : Nat → Nat) (i : Nat) : Nat → Nat := upd k (i / 8) (k (i / 8) ^^^ msk i)
def flipI (k : Nat → Nat) (i : Int) : Nat → Nat := if 0 ≤ i ∧ i < 256 then flip k i.toNat else k
/-- The first n bits of a key. -/
def pre (k : Nat → Nat) (n : Nat) : Nat → Nat := fun j => if j < n / 8 then k j else if j = n / 8 then k j / 2 ^ (8 - n % 8) * 2 ^ (8 - n % 8) else 0
/-- Two keys in the order of their bytes: from place i on. -/
def cmpFrom (a b : Nat → Nat) : Nat → Nat → Int
  | 0, _ => 0
  | n + 1, i => if a i < b i then -1 else if b i < a i then 1 else cmpFrom a b n (i + 1)
def cmp (a b : Nat → Nat) : Int := cmpFrom a b 32 0

theorem pow_mask (r : Nat) (h : r < 8) : 128 / 2 ^ r = 2 ^ (7 - r) := by
  have : r = 0 ∨ r = 1 ∨ r = 2 ∨ r = 3 ∨ r = 4 ∨ r = 5 ∨ r = 6 ∨ r = 7 := by omega
  rcases this with rfl | rfl | rfl | rfl | rfl | rfl | rfl | rfl <;> rfl
theorem msk_cases (i : Nat) : (i % 8 = 0 ∧ msk i = 128) ∨ (i % 8 = 1 ∧ msk i = 64) ∨ (i % 8 = 2 ∧ msk i = 32) ∨ (i % 8 = 3 ∧ msk i = 16) ∨ (i % 8 = 4 ∧ msk i = 8) ∨ (i % 8 = 5 ∧ msk i = 4) ∨ (i % 8 = 6 ∧ msk i = 2) ∨ (i % 8 = 7 ∧ msk i = 1) := by
  unfold msk
  have : i % 8 = 0 ∨ i % 8 = 1 ∨ i % 8 = 2 ∨ i % 8 = 3 ∨ i % 8 = 4 ∨ i % 8 = 5 ∨ i % 8 = 6 ∨ i % 8 = 7 := by omega
  rcases this with h | h | h | h | h | h | h | h <;> simp [h]
theorem msk_lt (i : Nat) : msk i < 256 := by have := msk_cases i; omega
theorem msk_pos (i : Nat) : 0 < msk i := by have := msk_cases i; omega
theorem bit_lt (k : Nat → Nat) (i : Nat) : bit k i < 2 := Nat.mod_lt _ (by decide)

/-- A byte and a mask. -/
theorem and_msk (x : Nat) (i : Nat) (hx : x < 256) : x &&& msk i = x / msk i % 2 * msk i := by
  have key : ∀ r < 8, ∀ x < 256, x &&& 2 ^ (7 - r) = x / 2 ^ (7 - r) % 2 * 2 ^ (7 - r) := by decide +kernel
  exact key (i % 8) (by omega) x hx
theorem and_msk_zero (x i : Nat) (hx : x < 256) : (x &&& msk i = 0) ↔ x / msk i % 2 = 0 := by
  rw [and_msk x i hx, Nat.mul_eq_zero]
  have := msk_pos i
  omega
theorem xor_msk (x i : Nat) (hx : x < 256) : x ^^^ msk i = if x / msk i % 2 = 0 then x + msk i else x - msk i := by
  have key : ∀ r < 8, ∀ x < 256, x ^^^ 2 ^ (7 - r) = if x / 2 ^ (7 - r) % 2 = 0 then x + 2 ^ (7 - r) else x - 2 ^ (7 - r) := by decide +kernel
  exact key (i % 8) (by omega) x hx
theorem bit_xor (x y i : Nat) : (x ^^^ y) / msk i % 2 = (x / msk i % 2 + y / msk i % 2) % 2 := by
  unfold msk
  have h : ∀ z : Nat, z / 2 ^ (7 - i % 8) % 2 = (z.testBit (7 - i % 8)).toNat := fun z => by
    rw [Nat.testBit_eq_decide_div_mod_eq]
    by_cases h : z / 2 ^ (7 - i % 8) % 2 = 1
    · simp [h]
    · have : z / 2 ^ (7 - i % 8) % 2 = 0 := by omega
      simp [this]
  rw [h, h, h, Nat.testBit_xor]
  cases x.testBit (7 - i % 8) <;> cases y.testBit (7 - i % 8) <;> rfl
theorem andNot_rest (x r : Nat) (hx : x < 256) (hr : r < 8) : x &&& (255 - 255 / 2 ^ r) = x / 2 ^ (8 - r) * 2 ^ (8 - r) := by
  have key : ∀ r < 8, ∀ x < 256, x &&& (255 - 255 / 2 ^ r) = x / 2 ^ (8 - r) * 2 ^ (8 - r) := by decide +kernel
  exact key r hr x hx

/-! ### The first place at which something holds -/
theorem find_first {p : Nat → Bool} {n N : Nat} (hn : n ≤ N) (h0 : ∀ j, j < n → p j = false) (h1 : n < N → p n = true) : ((List.range N).find? p).getD N = n := by
  rcases Nat.lt_or_ge n N with h | h
  · have : (List.range N).find? p = some n := by
      rw [List.find?_range_eq_some]
      exact ⟨h1 h, by simpa using h, fun j hj => by simp [h0 j hj]⟩
    rw [this]; rfl
  · have e : n = N := by omega
    have : (List.range N).find? p = none := by
      rw [List.find?_eq_none]
      intro j hj
      rw [h0 j (by have := List.mem_range.1 hj; omega)]
      simp
    rw [this, e]; rfl
theorem find_spec {p : Nat → Bool} {N : Nat} : ((List.range N).find? p).getD N ≤ N ∧ (∀ j, j < ((List.range N).find? p).getD N → p j = false) ∧ (((List.range N).find? p).getD N < N → p (((List.range N).find? p).getD N) = true) := by
  cases h : (List.range N).find? p with
  | none =>
    rw [List.find?_eq_none] at h
    simp only [Option.getD_none]
    exact ⟨Nat.le_refl _, fun j hj => by simpa using h j (by simpa using hj), fun hh => absurd hh (Nat.lt_irrefl _)⟩
  | some n =>
    rw [List.find?_range_eq_some] at h
    simp only [Option.getD_some]
    obtain ⟨h1, h2, h3⟩ := h
    exact ⟨Nat.le_of_lt (by simpa using h2), fun j hj => by simpa using h3 j hj, fun _ => h1⟩

theorem lz_eq {d n : Nat} (hn : n ≤ 8) (h0 : ∀ j, j < n → d / msk j % 2 = 0) (h1 : n < 8 → d / msk n % 2 = 1) : lz d = n :=
  find_first hn (fun j hj => by simp [h0 j hj]) (fun h => by simp [h1 h])
theorem lz_spec (d : Nat) : lz d ≤ 8 ∧ (∀ j, j < lz d → d / msk j % 2 = 0) ∧ (lz d < 8 → d / msk (lz d) % 2 = 1) := by
  obtain ⟨h1, h2, h3⟩ := find_spec (p := fun i => d / msk i % 2 == 1) (N := 8)
  refine ⟨h1, fun j hj => ?_, fun h => eq_of_beq (h3 h)⟩
  have := h2 j hj
  simp at this
  omega
theorem common_eq {a b : Nat → Nat} {n : Nat} (hn : n ≤ 256) (h0 : ∀ j, j < n → bit a j = bit b j) (h1 : n < 256 → bit a n ≠ bit b n) : common a b = n :=
  find_first hn (fun j hj => by simp [h0 j hj]) (fun h => by simpa using h1 h)
theorem common_spec (a b : Nat → Nat) : common a b ≤ 256 ∧ (∀ j, j < common a b → bit a j = bit b j) ∧ (common a b < 256 → bit a (common a b) ≠ bit b (common a b)) := by
  obtain ⟨h1, h2, h3⟩ := find_spec (p := fun i => bit a i != bit b i) (N := 256)
  exact ⟨h1, fun j hj => by simpa using h2 j hj, fun h => bne_iff_ne.1 (h3 h)⟩

/-- A byte whose bits are all 0 is 0. -/
theorem byte_zero {d : Nat} (hd : d < 256) (h : ∀ j, j < 8 → d / msk j % 2 = 0) : d = 0 := by
  have h0 := h 0 (by decide); have h1 := h 1 (by decide); have h2 := h 2 (by decide); have h3 := h 3 (by decide)
  have h4 := h 4 (by decide); have h5 := h 5 (by decide); have h6 := h 6 (by decide); have h7 := h 7 (by decide)
  simp [msk] at h0 h1 h2 h3 h4 h5 h6 h7
  omega
theorem byte_eq {x y : Nat} (hx : x < 256) (hy : y < 256) (h : ∀ j, j < 8 → x / msk j % 2 = y / msk j % 2) : x = y := by
  have h0 := h 0 (by decide); have h1 := h 1 (by decide); have h2 := h 2 (by decide); have h3 := h 3 (by decide)
  have h4 := h 4 (by decide); have h5 := h 5 (by decide); have h6 := h 6 (by decide); have h7 := h 7 (by decide)
  simp [msk] at h0 h1 h2 h3 h4 h5 h6 h7
  omega
theorem lz_lt {d : Nat} (hd : d < 256) (h : d ≠ 0) : lz d < 8 := by
  obtain ⟨h1, h2, _⟩ := lz_spec d
  rcases Nat.lt_or_ge (lz d) 8 with h' | h'
  · exact h'
  · exact absurd (byte_zero hd fun j hj => h2 j (by omega)) h
theorem msk_add (i r : Nat) : msk (8 * i + r) = msk r := by unfold msk; rw [show (8 * i + r) % 8 = r % 8 from by omega]
theorem bit_at (k : Nat → Nat) (i r : Nat) (hr : r < 8) : bit k (8 * i + r) = k i / msk r % 2 := by
  unfold bit
  rw [msk_add i r, show (8 * i + r) / 8 = i by omega]
theorem bit_split (k : Nat → Nat) (j : Nat) : bit k j = k (j / 8) / msk (j % 8) % 2 := by
  unfold bit
  rw [show msk j = msk (j % 8) by unfold msk; simp]

/-- The first byte that differs tells how many bits are in common. -/
theorem common_byte {a b : Nat → Nat} (ha : Byt a) (hb : Byt b) {i : Nat} (hi : i < 32) (h0 : ∀ j, j < i → a j = b j) (hne : a i ≠ b i) : common a b = 8 * i + lz (a i ^^^ b i) := by
  have hx : a i ^^^ b i < 256 := Nat.xor_lt_two_pow (n := 8) (ha i) (hb i)
  have hxz : a i ^^^ b i ≠ 0 := fun h => hne (by have := congrArg (· ^^^ b i) h; simpa [Nat.xor_assoc] using this)
  have hl := lz_lt hx hxz
  obtain ⟨_, h2, h3⟩ := lz_spec (a i ^^^ b i)
  refine common_eq (by omega) (fun j hj => ?_) (fun _ => ?_)
  · rw [bit_split, bit_split b]
    rcases Nat.lt_or_ge (j / 8) i with h | h
    · rw [h0 _ h]
    · have e : j / 8 = i := by omega
      rw [e]
      have := h2 (j % 8) (by omega)
      rw [bit_xor] at this
      omega
  · rw [bit_at _ _ _ hl, bit_at _ _ _ hl]
    have := h3 hl
    rw [bit_xor] at this
    omega
theorem common_all {a b : Nat → Nat} (h0 : ∀ j, j < 32 → a j = b j) : common a b = 256 :=
  common_eq (Nat.le_refl _) (fun j hj => by rw [bit_split, bit_split b, h0 _ (by omega)]) (fun h => absurd h (by decide))
theorem common_comm (a b : Nat → Nat) : common b a = common a b := by
  obtain ⟨h1, h2, h3⟩ := common_spec a b
  exact common_eq h1 (fun j hj => (h2 j hj).symm) (fun h => (h3 h).symm)
theorem common_full {a b : Nat → Nat} (ha : Byt a) (hb : Byt b) (h : common a b = 256) : ∀ j, j < 32 → a j = b j := by
  obtain ⟨_, h2, _⟩ := common_spec a b
  intro j hj
  refine byte_eq (ha j) (hb j) fun r hr => ?_
  rw [← bit_at _ _ _ hr, ← bit_at _ _ _ hr]
  exact h2 _ (by omega)
/-- The two smaller ones of three common lengths are equal. -/
theorem common_three (a b c : Nat → Nat) : (common a b ≤ common b c → common a b ≤ common a c) ∧ (common a b < common b c → common a c = common a b) := by
  obtain ⟨x1, x2, x3⟩ := common_spec a b
  obtain ⟨y1, y2, y3⟩ := common_spec b c
  obtain ⟨z1, z2, z3⟩ := common_spec a c
  constructor
  · intro h
    rcases Nat.lt_or_ge (common a c) (common a b) with h' | h'
    · exact absurd ((x2 _ h').trans (y2 _ (by omega))) (z3 (by omega))
    · exact h'
  · intro h
    refine common_eq x1 (fun j hj => (x2 j hj).trans (y2 j (by omega))) (fun hh => ?_)
    rw [← y2 _ h]
    exact x3 hh

/-! ### The order of two keys -/
theorem cmpFrom_eq {a b : Nat → Nat} : ∀ n i, (∀ j, i ≤ j → j < i + n → a j = b j) → cmpFrom a b n i = 0
  | 0, _, _ => rfl
  | n + 1, i, h => by
    have := h i (Nat.le_refl _) (by omega)
    simp only [cmpFrom, this, Nat.lt_irrefl, if_false]
    exact cmpFrom_eq n (i + 1) fun j h1 h2 => h j (by omega) (by omega)
theorem cmpFrom_at {a b : Nat → Nat} : ∀ n i m, i ≤ m → m < i + n → (∀ j, i ≤ j → j < m → a j = b j) → a m ≠ b m → cmpFrom a b n i = if a m < b m then -1 else 1
  | 0, _, _, h1, h2, _, _ => by omega
  | n + 1, i, m, h1, h2, h3, h4 => by
    rcases Nat.lt_or_ge i m with h | h
    · have := h3 i (Nat.le_refl _) h
      simp only [cmpFrom, this, Nat.lt_irrefl, if_false]
      exact cmpFrom_at n (i + 1) m (by omega) (by omega) (fun j a b => h3 j (by omega) b) h4
    · have e : i = m := by omega
      subst e
      simp only [cmpFrom]
      by_cases hlt : a i < b i
      · simp [hlt]
      · have : b i < a i := by omega
        simp [hlt, this]
theorem cmp_eq {a b : Nat → Nat} (h : ∀ j, j < 32 → a j = b j) : cmp a b = 0 := cmpFrom_eq 32 0 fun j _ hj => h j (by omega)
theorem cmp_at {a b : Nat → Nat} {m : Nat} (hm : m < 32) (h : ∀ j, j < m → a j = b j) (hne : a m ≠ b m) : cmp a b = if a m < b m then -1 else 1 :=
  cmpFrom_at 32 0 m (Nat.zero_le _) (by omega) (fun j _ hj => h j hj) hne
/-- The first byte that differs. -/
theorem first_byte {a b : Nat → Nat} : (∀ j, j < 32 → a j = b j) ∨ ∃ m, m < 32 ∧ (∀ j, j < m → a j = b j) ∧ a m ≠ b m := by
  obtain ⟨h1, h2, h3⟩ := find_spec (p := fun i => a i != b i) (N := 32)
  rcases Nat.lt_or_ge (((List.range 32).find? fun i => a i != b i).getD 32) 32 with h | h
  · exact .inr ⟨_, h, fun j hj => by simpa using h2 j hj, by simpa using h3 h⟩
  · exact .inl fun j hj => by simpa using h2 j (by omega)
theorem cmp_neg (a b : Nat → Nat) : cmp b a = -cmp a b := by
  rcases first_byte (a := a) (b := b) with h | ⟨m, hm, h, hne⟩
  · rw [cmp_eq h, cmp_eq fun j hj => (h j hj).symm]; rfl
  · rw [cmp_at hm h hne, cmp_at hm (fun j hj => (h j hj).symm) (Ne.symm hne)]
    by_cases hlt : a m < b m
    · have : ¬ b m < a m := by omega
      simp [hlt, this]
    · have : b m < a m := by omega
      simp [hlt, this]
/-- The order of two bytes by the first bit that differs. -/
theorem byte_order {x y r : Nat} (hx : x < 256) (hy : y < 256) (hr : r < 8) (h : ∀ j, j < r → x / msk j % 2 = y / msk j % 2) (hne : x / msk r % 2 ≠ y / msk r % 2) : x < y ↔ x / msk r % 2 = 0 := by
  have h' : ∀ j, j < r → j < 8 → x / 2 ^ (7 - j) % 2 = y / 2 ^ (7 - j) % 2 := fun j hj h8 => by
    have := h j hj
    unfold msk at this
    rwa [Nat.mod_eq_of_lt h8] at this
  unfold msk at hne ⊢
  rw [Nat.mod_eq_of_lt hr] at hne ⊢
  have : r = 0 ∨ r = 1 ∨ r = 2 ∨ r = 3 ∨ r = 4 ∨ r = 5 ∨ r = 6 ∨ r = 7 := by omega
  rcases this with rfl | rfl | rfl | rfl | rfl | rfl | rfl | rfl
  · simp at hne ⊢; omega
  · have h0 := h' 0 (by decide) (by decide); simp at hne h0 ⊢; omega
  · have h0 := h' 0 (by decide) (by decide); have h1 := h' 1 (by decide) (by decide); simp at hne h0 h1 ⊢; omega
  · have h0 := h' 0 (by decide) (by decide); have h1 := h' 1 (by decide) (by decide); have h2 := h' 2 (by decide) (by decide); simp at hne h0 h1 h2 ⊢; omega
  · have h0 := h' 0 (by decide) (by decide); have h1 := h' 1 (by decide) (by decide); have h2 := h' 2 (by decide) (by decide); have h3 := h' 3 (by decide) (by decide); simp at hne h0 h1 h2 h3 ⊢; omega
  · have h0 := h' 0 (by decide) (by decide); have h1 := h' 1 (by decide) (by decide); have h2 := h' 2 (by decide) (by decide); have h3 := h' 3 (by decide) (by decide); have h4 := h' 4 (by decide) (by decide); simp at hne h0 h1 h2 h3 h4 ⊢; omega
  · have h0 := h' 0 (by decide) (by decide); have h1 := h' 1 (by decide) (by decide); have h2 := h' 2 (by decide) (by decide); have h3 := h' 3 (by decide) (by decide); have h4 := h' 4 (by decide) (by decide); have h5 := h' 5 (by decide) (by decide); simp at hne h0 h1 h2 h3 h4 h5 ⊢; omega
  · have h0 := h' 0 (by decide) (by decide); have h1 := h' 1 (by decide) (by decide); have h2 := h' 2 (by decide) (by decide); have h3 := h' 3 (by decide) (by decide); have h4 := h' 4 (by decide) (by decide); have h5 := h' 5 (by decide) (by decide); have h6 := h' 6 (by decide) (by decide); simp at hne h0 h1 h2 h3 h4 h5 h6 ⊢; omega
/-- The order of two keys by the first bit that differs. -/
theorem cmp_bit {a b : Nat → Nat} (ha : Byt a) (hb : Byt b) (h : common a b < 256) : cmp a b = (bit a (common a b) : Int) - bit b (common a b) := by
  obtain ⟨_, h2, h3⟩ := common_spec a b
  have h3 := h3 h
  have e : common a b = 8 * (common a b / 8) + common a b % 8 := by omega
  have hr : common a b % 8 < 8 := by omega
  have heq : ∀ j, j < common a b / 8 → a j = b j := fun j hj => byte_eq (ha j) (hb j) fun r hr => by
    rw [← bit_at _ _ _ hr, ← bit_at _ _ _ hr]; exact h2 _ (by omega)
  have hpre : ∀ j, j < common a b % 8 → a (common a b / 8) / msk j % 2 = b (common a b / 8) / msk j % 2 := fun j hj => by
    rw [← bit_at _ _ _ (by omega), ← bit_at _ _ _ (by omega)]; exact h2 _ (by omega)
  have ea : bit a (common a b) = a (common a b / 8) / msk (common a b % 8) % 2 := bit_split _ _
  have eb : bit b (common a b) = b (common a b / 8) / msk (common a b % 8) % 2 := bit_split _ _
  have hne : a (common a b / 8) / msk (common a b % 8) % 2 ≠ b (common a b / 8) / msk (common a b % 8) % 2 := by rw [← ea, ← eb]; exact h3
  have ho := byte_order (ha _) (hb _) hr hpre hne
  have hbne : a (common a b / 8) ≠ b (common a b / 8) := fun hh => hne (by rw [hh])
  rw [cmp_at (m := common a b / 8) (by omega) heq hbne]
  have la := bit_lt a (common a b)
  have lb := bit_lt b (common a b)
  by_cases hlt : a (common a b / 8) < b (common a b / 8)
  · have := ho.1 hlt
    rw [if_pos hlt]
    omega
  · have : ¬ a (common a b / 8) / msk (common a b % 8) % 2 = 0 := fun hh => hlt (ho.2 hh)
    rw [if_neg hlt]
    omega

/-! ### Flip and Prefix -/
theorem flip_byt {k : Nat → Nat} (h : Byt k) (i : Nat) : Byt (flip k i) := fun j => by
  unfold flip upd
  split
  · exact Nat.xor_lt_two_pow (n := 8) (h _) (msk_lt i)
  · exact h j
theorem flipI_byt {k : Nat → Nat} (h : Byt k) (i : Int) : Byt (flipI k i) := by
  unfold flipI
  split
  · exact flip_byt h _
  · exact h
theorem flip_flip (k : Nat → Nat) (i : Nat) : flip (flip k i) i = k := by
  funext j
  unfold flip upd
  by_cases h : j = i / 8
  · simp [h, Nat.xor_assoc]
  · simp [h]
theorem flipI_flipI (k : Nat → Nat) (i : Int) : flipI (flipI k i) i = k := by
  unfold flipI
  split
  · exact flip_flip k _
  · rfl
theorem flip_zero {k : Nat → Nat} (hk : Byt k) {i : Nat} (h : bit k i = 0) : upd k (i / 8) (k (i / 8) + msk i) = flip k i := by
  unfold flip
  rw [xor_msk _ _ (hk _), if_pos (show k (i / 8) / msk i % 2 = 0 from h)]
theorem flip_one {k : Nat → Nat} (hk : Byt k) {i : Nat} (h : bit k i = 1) : upd k (i / 8) (k (i / 8) - msk i) = flip k i := by
  unfold flip
  rw [xor_msk _ _ (hk _), if_neg (by unfold bit at h; omega)]
theorem pre_byt {k : Nat → Nat} (hk : Byt k) (n : Nat) : Byt (pre k n) := fun j => by
  unfold pre
  split
  · exact hk j
  · split
    · exact Nat.lt_of_le_of_lt (Nat.div_mul_le_self _ _) (hk j)
    · decide
theorem pre_256 (k : Nat → Nat) : ∀ j, j < 32 → pre k 256 j = k j := fun j hj => by
  unfold pre
  rw [if_pos (by omega)]
/-- A bit of the key of the first n bits. -/
theorem bit_pre {k : Nat → Nat} (hk : Byt k) (n i : Nat) : bit (pre k n) i = if i < n then bit k i else 0 := by
  have h1 := hk (i / 8)
  unfold bit pre
  by_cases h : i / 8 < n / 8
  · rw [if_pos h, if_pos (by omega)]
  · rw [if_neg h]
    by_cases e : i / 8 = n / 8
    · rw [if_pos e]
      have hm : msk i = 2 ^ (7 - i % 8) := rfl
      rw [hm]
      obtain ⟨x, hx⟩ : ∃ x, x = k (i / 8) := ⟨_, rfl⟩
      rw [← hx] at h1 ⊢
      have key : ∀ r < 8, ∀ s < 8, ∀ x < 256, x / 2 ^ (8 - r) * 2 ^ (8 - r) / 2 ^ (7 - s) % 2 = if s < r then x / 2 ^ (7 - s) % 2 else 0 := by decide +kernel
      rw [key (n % 8) (by omega) (i % 8) (by omega) x h1]
      by_cases hlt : i % 8 < n % 8
      · rw [if_pos hlt, if_pos (by omega)]
      · rw [if_neg hlt, if_neg (by omega)]
    · rw [if_neg e, if_neg (by omega)]
      simp
/-- Two keys with the same bits are the same. -/
theorem key_ext {a b : Nat → Nat} (ha : Byt a) (hb : Byt b) (h : ∀ i, i < 256 → bit a i = bit b i) : ∀ j, j < 32 → a j = b j := fun j hj =>
  byte_eq (ha j) (hb j) fun r hr => by rw [← bit_at _ _ _ hr, ← bit_at _ _ _ hr]; exact h _ (by omega)
theorem bit_flip {k : Nat → Nat} (i j : Nat) : bit (flip k i) j = if j = i then 1 - bit k i else bit k j := by
  unfold bit flip upd
  by_cases h : j / 8 = i / 8
  · rw [if_pos h, bit_xor, h]
    have hm : msk i / msk j % 2 = if j = i then 1 else 0 := by
      unfold msk
      have key : ∀ r < 8, ∀ s < 8, 2 ^ (7 - r) / 2 ^ (7 - s) % 2 = if s = r then 1 else 0 := by decide
      rw [key (i % 8) (by omega) (j % 8) (by omega)]
      by_cases e : j = i
      · simp [e]
      · rw [if_neg (by omega), if_neg e]
    rw [hm]
    by_cases e : j = i
    · subst e; simp only [if_true]; omega
    · rw [if_neg e, if_neg e]; omega
  · rw [if_neg h, if_neg (by intro e; subst e; exact h rfl)]
theorem pre_step_zero {k : Nat → Nat} (hk : Byt k) {m : Nat} (h : bit (pre k (m + 1)) m = 0) : ∀ j, j < 32 → pre k (m + 1) j = pre k m j :=
  key_ext (pre_byt hk _) (pre_byt hk _) fun i _ => by
    rw [bit_pre hk] at h ⊢
    rw [bit_pre hk]
    rw [if_pos (by omega)] at h
    by_cases e : i = m
    · subst e; rw [if_pos (by omega), if_neg (by omega), h]
    · by_cases h2 : i < m
      · rw [if_pos (by omega), if_pos h2]
      · rw [if_neg (by omega), if_neg h2]
theorem pre_step_one {k : Nat → Nat} (hk : Byt k) {m : Nat} (h : bit (pre k (m + 1)) m = 1) : ∀ j, j < 32 → flip (pre k (m + 1)) m j = pre k m j :=
  key_ext (flip_byt (pre_byt hk _) _) (pre_byt hk _) fun i _ => by
    rw [bit_flip, h, bit_pre hk, bit_pre hk]
    by_cases e : i = m
    · subst e; rw [if_pos rfl, if_neg (by omega)]
    · rw [if_neg e]
      by_cases h2 : i < m
      · rw [if_pos (by omega), if_pos h2]
      · rw [if_neg (by omega), if_neg h2]
theorem pre_pre {k : Nat → Nat} (hk : Byt k) (n : Nat) : ∀ j, j < 32 → pre (pre k n) n j = pre k n j :=
  key_ext (pre_byt (pre_byt hk _) _) (pre_byt hk _) fun i _ => by
    rw [bit_pre (pre_byt hk _), bit_pre hk]
    split <;> rfl
theorem common_pre {k : Nat → Nat} (hk : Byt k) {n : Nat} (hn : n ≤ 256) : n ≤ common (pre k n) k := by
  obtain ⟨h1, _, h3⟩ := common_spec (pre k n) k
  rcases Nat.lt_or_ge (common (pre k n) k) n with h | h
  · exact absurd (by rw [bit_pre hk, if_pos h]) (h3 (by omega))
  · exact h

end Go.Proofs.Ytpdmkojclgkcnaa.Bt
