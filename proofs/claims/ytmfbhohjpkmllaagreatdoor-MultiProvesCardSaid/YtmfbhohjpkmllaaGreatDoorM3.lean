import Derived.Test.YtmfbhohjpkmllaaGreatDoorRows
import Derived.WalkKit
import Derived.Lib.Hide
import Derived.WalkLawsBesides
import Derived.BigQuiet
import Derived.Deep.WholeRow
import Derived.ChangeKeysEq
import Derived.Test.YtmfbhohjpkmllaaGreatDoorTG
set_option linter.unusedSimpArgs false
set_option linter.unusedVariables false
set_option maxHeartbeats 400000
set_option maxRecDepth 100000
namespace Go.Proofs.YtmfbhohjpkmllaaGreatDoor.Bt
def Byt (k : Nat → Nat) : Prop := ∀ j, k j < 256
def msk (i : Nat) : Nat := 2 ^ (7 - i % 8)
def bit (k : Nat → Nat) (i : Nat) : Nat := k (i / 8) / msk i % 2
def bitI (k : Nat → Nat) (i : Int) : Int := if 0 ≤ i ∧ i < 256 then (bit k i.toNat : Int) else -1
def lz (d : Nat) : Nat := ((List.range 8).find? fun i => d / msk i % 2 == 1).getD 8
def common (a b : Nat → Nat) : Nat := ((List.range 256).find? fun i => bit a i != bit b i).getD 256
def upd (k : Nat → Nat) (j x : Nat) : Nat → Nat := fun i => if i = j then x else k i
def flip (k : Nat → Nat) (i : Nat) : Nat → Nat := upd k (i / 8) (k (i / 8) ^^^ msk i)
def flipI (k : Nat → Nat) (i : Int) : Nat → Nat := if 0 ≤ i ∧ i < 256 then flip k i.toNat else k
def pre (k : Nat → Nat) (n : Nat) : Nat → Nat := fun j => if j < n / 8 then k j else if j = n / 8 then k j / 2 ^ (8 - n % 8) * 2 ^ (8 - n % 8) else 0
def cmpFrom (a b : Nat → Nat) : Nat → Nat → Int
 | 0, _ => 0
 | n + 1, i => if a i < b i then -1 else if b i < a i then 1 else cmpFrom a b n (i + 1)
def cmp (a b : Nat → Nat) : Int := cmpFrom a b 32 0
theorem pow_mask (r : Nat) (h : r < 8) : 128 / 2 ^ r = 2 ^ (7 - r) := by
 have : r = 0 ∨ r = 1 ∨ r = 2 ∨ r = 3 ∨ r = 4 ∨ r = 5 ∨ r = 6 ∨ r = 7 := by omega
 rcases this with rfl | rfl | rfl | rfl | rfl | rfl | rfl | rfl <;> rfl
theorem msk_cases (i : Nat) : (i % 8 = 0 ∧ msk i = 128) ∨ (i % 8 = 1 ∧ msk i = 64) ∨ (i % 8 = 2 ∧ msk i = 32) ∨ (i % 8 = 3 ∧ msk i = 16) ∨ (i % 8 = 4 ∧ msk i = 8) ∨ (i % 8 = 5 ∧ msk i = 4) ∨ (i % 8 = 6 ∧ msk i = 2) ∨ (i % 8 = 7 ∧ msk i = 1) := by
 unfold msk
 have : i % 8 = 0 ∨ i % 8 = 1 ∨ i % 8 = 2 ∨ i % 8 = 3 ∨ i % 8 = 4 ∨ i % 8 = 5 ∨ i % 8 = 6 ∨ i % 8 = 7 := by omega
 rcases this with h | h | h | h | h | h | h | h <;> simp [h]
theorem msk_lt (i : Nat) : msk i < 256 := by have := msk_cases i; omega
theorem msk_pos (i : Nat) : 0 < msk i := by have := msk_cases i; omega
theorem bit_lt (k : Nat → Nat) (i : Nat) : bit k i < 2 := Nat.mod_lt _ (by decide)
theorem and_msk (x : Nat) (i : Nat) (hx : x < 256) : x &&& msk i = x / msk i % 2 * msk i := by
 have key : ∀ r < 8, ∀ x < 256, x &&& 2 ^ (7 - r) = x / 2 ^ (7 - r) % 2 * 2 ^ (7 - r) := by decide +kernel
 exact key (i % 8) (by omega) x hx
theorem and_msk_zero (x i : Nat) (hx : x < 256) : (x &&& msk i = 0) ↔ x / msk i % 2 = 0 := by
 rw [and_msk x i hx, Nat.mul_eq_zero]
 have := msk_pos i
 omega
theorem xor_msk (x i : Nat) (hx : x < 256) : x ^^^ msk i = if x / msk i % 2 = 0 then x + msk i else x - msk i := by
 have key : ∀ r < 8, ∀ x < 256, x ^^^ 2 ^ (7 - r) = if x / 2 ^ (7 - r) % 2 = 0 then x + 2 ^ (7 - r) else x - 2 ^ (7 - r) := by decide +kernel
 exact key (i % 8) (by omega) x hx
theorem bit_xor (x y i : Nat) : (x ^^^ y) / msk i % 2 = (x / msk i % 2 + y / msk i % 2) % 2 := by
 unfold msk
 have h : ∀ z : Nat, z / 2 ^ (7 - i % 8) % 2 = (z.testBit (7 - i % 8)).toNat := fun z => by
  rw [Nat.testBit_eq_decide_div_mod_eq]
  by_cases h : z / 2 ^ (7 - i % 8) % 2 = 1
  ·simp [h]
  ·have : z / 2 ^ (7 - i % 8) % 2 = 0 := by omega
   simp [this]
 rw [h, h, h, Nat.testBit_xor]
 cases x.testBit (7 - i % 8) <;> cases y.testBit (7 - i % 8) <;> rfl
theorem andNot_rest (x r : Nat) (hx : x < 256) (hr : r < 8) : x &&& (255 - 255 / 2 ^ r) = x / 2 ^ (8 - r) * 2 ^ (8 - r) := by
 have key : ∀ r < 8, ∀ x < 256, x &&& (255 - 255 / 2 ^ r) = x / 2 ^ (8 - r) * 2 ^ (8 - r) := by decide +kernel
 exact key r hr x hx
theorem find_first {p : Nat → Bool} {n N : Nat} (hn : n ≤ N) (h0 : ∀ j, j < n → p j = false) (h1 : n < N → p n = true) : ((List.range N).find? p).getD N = n := by
 rcases Nat.lt_or_ge n N with h | h
 ·have : (List.range N).find? p = some n := by
   rw [List.find?_range_eq_some]
   exact ⟨h1 h, by simpa using h, fun j hj => by simp [h0 j hj]⟩
  rw [this]; rfl
 ·have e : n = N := by omega
  have : (List.range N).find? p = none := by
   rw [List.find?_eq_none]
   intro j hj
   rw [h0 j (by have := List.mem_range.1 hj; omega)]
   simp
  rw [this, e]; rfl
theorem find_spec {p : Nat → Bool} {N : Nat} : ((List.range N).find? p).getD N ≤ N ∧ (∀ j, j < ((List.range N).find? p).getD N → p j = false) ∧ (((List.range N).find? p).getD N < N → p (((List.range N).find? p).getD N) = true) := by
 cases h : (List.range N).find? p with
 | none =>
  rw [List.find?_eq_none] at h
  simp only [Option.getD_none]
  exact ⟨Nat.le_refl _, fun j hj => by simpa using h j (by simpa using hj), fun hh => absurd hh (Nat.lt_irrefl _)⟩
 | some n =>
  rw [List.find?_range_eq_some] at h
  simp only [Option.getD_some]
  obtain ⟨h1, h2, h3⟩ := h
  exact ⟨Nat.le_of_lt (by simpa using h2), fun j hj => by simpa using h3 j hj, fun _ => h1⟩
theorem lz_eq {d n : Nat} (hn : n ≤ 8) (h0 : ∀ j, j < n → d / msk j % 2 = 0) (h1 : n < 8 → d / msk n % 2 = 1) : lz d = n :=
 find_first hn (fun j hj => by simp [h0 j hj]) (fun h => by simp [h1 h])
theorem lz_spec (d : Nat) : lz d ≤ 8 ∧ (∀ j, j < lz d → d / msk j % 2 = 0) ∧ (lz d < 8 → d / msk (lz d) % 2 = 1) := by
 obtain ⟨h1, h2, h3⟩ := find_spec (p := fun i => d / msk i % 2 == 1) (N := 8)
 refine ⟨h1, fun j hj => ?_, fun h => eq_of_beq (h3 h)⟩
 have := h2 j hj
 simp at this
 omega
theorem common_eq {a b : Nat → Nat} {n : Nat} (hn : n ≤ 256) (h0 : ∀ j, j < n → bit a j = bit b j) (h1 : n < 256 → bit a n ≠ bit b n) : common a b = n :=
 find_first hn (fun j hj => by simp [h0 j hj]) (fun h => by simpa using h1 h)
theorem common_spec (a b : Nat → Nat) : common a b ≤ 256 ∧ (∀ j, j < common a b → bit a j = bit b j) ∧ (common a b < 256 → bit a (common a b) ≠ bit b (common a b)) := by
 obtain ⟨h1, h2, h3⟩ := find_spec (p := fun i => bit a i != bit b i) (N := 256)
 exact ⟨h1, fun j hj => by simpa using h2 j hj, fun h => bne_iff_ne.1 (h3 h)⟩
theorem byte_zero {d : Nat} (hd : d < 256) (h : ∀ j, j < 8 → d / msk j % 2 = 0) : d = 0 := by
 have h0 := h 0 (by decide); have h1 := h 1 (by decide); have h2 := h 2 (by decide); have h3 := h 3 (by decide)
 have h4 := h 4 (by decide); have h5 := h 5 (by decide); have h6 := h 6 (by decide); have h7 := h 7 (by decide)
 simp [msk] at h0 h1 h2 h3 h4 h5 h6 h7
 omega
theorem byte_eq {x y : Nat} (hx : x < 256) (hy : y < 256) (h : ∀ j, j < 8 → x / msk j % 2 = y / msk j % 2) : x = y := by
 have h0 := h 0 (by decide); have h1 := h 1 (by decide); have h2 := h 2 (by decide); have h3 := h 3 (by decide)
 have h4 := h 4 (by decide); have h5 := h 5 (by decide); have h6 := h 6 (by decide); have h7 := h 7 (by decide)
 simp [msk] at h0 h1 h2 h3 h4 h5 h6 h7
 omega
theorem lz_lt {d : Nat} (hd : d < 256) (h : d ≠ 0) : lz d < 8 := by
 obtain ⟨h1, h2, _⟩ := lz_spec d
 rcases Nat.lt_or_ge (lz d) 8 with h' | h'
 ·exact h'
 ·exact absurd (byte_zero hd fun j hj => h2 j (by omega)) h
theorem msk_add (i r : Nat) : msk (8 * i + r) = msk r := by unfold msk; rw [show (8 * i + r) % 8 = r % 8 from by omega]
theorem bit_at (k : Nat → Nat) (i r : Nat) (hr : r < 8) : bit k (8 * i + r) = k i / msk r % 2 := by
 unfold bit
 rw [msk_add i r, show (8 * i + r) / 8 = i by omega]
theorem bit_split (k : Nat → Nat) (j : Nat) : bit k j = k (j / 8) / msk (j % 8) % 2 := by
 unfold bit
 rw [show msk j = msk (j % 8) by unfold msk; simp]
theorem common_byte {a b : Nat → Nat} (ha : Byt a) (hb : Byt b) {i : Nat} (hi : i < 32) (h0 : ∀ j, j < i → a j = b j) (hne : a i ≠ b i) : common a b = 8 * i + lz (a i ^^^ b i) := by
 have hx : a i ^^^ b i < 256 := Nat.xor_lt_two_pow (n := 8) (ha i) (hb i)
 have hxz : a i ^^^ b i ≠ 0 := fun h => hne (by have := congrArg (· ^^^ b i) h; simpa [Nat.xor_assoc] using this)
 have hl := lz_lt hx hxz
 obtain ⟨_, h2, h3⟩ := lz_spec (a i ^^^ b i)
 refine common_eq (by omega) (fun j hj => ?_) (fun _ => ?_)
 ·rw [bit_split, bit_split b]
  rcases Nat.lt_or_ge (j / 8) i with h | h
  ·rw [h0 _ h]
  ·have e : j / 8 = i := by omega
   rw [e]
   have := h2 (j % 8) (by omega)
   rw [bit_xor] at this
   omega
 ·rw [bit_at _ _ _ hl, bit_at _ _ _ hl]
  have := h3 hl
  rw [bit_xor] at this
  omega
theorem common_all {a b : Nat → Nat} (h0 : ∀ j, j < 32 → a j = b j) : common a b = 256 :=
 common_eq (Nat.le_refl _) (fun j hj => by rw [bit_split, bit_split b, h0 _ (by omega)]) (fun h => absurd h (by decide))
theorem common_full {a b : Nat → Nat} (ha : Byt a) (hb : Byt b) (h : common a b = 256) : ∀ j, j < 32 → a j = b j := by
 obtain ⟨_, h2, _⟩ := common_spec a b
 intro j hj
 refine byte_eq (ha j) (hb j) fun r hr => ?_
 rw [← bit_at _ _ _ hr, ← bit_at _ _ _ hr]
 exact h2 _ (by omega)
theorem cmpFrom_eq {a b : Nat → Nat} : ∀ n i, (∀ j, i ≤ j → j < i + n → a j = b j) → cmpFrom a b n i = 0
 | 0, _, _ => rfl
 | n + 1, i, h => by
  have := h i (Nat.le_refl _) (by omega)
  simp only [cmpFrom, this, Nat.lt_irrefl, if_false]
  exact cmpFrom_eq n (i + 1) fun j h1 h2 => h j (by omega) (by omega)
theorem cmpFrom_at {a b : Nat → Nat} : ∀ n i m, i ≤ m → m < i + n → (∀ j, i ≤ j → j < m → a j = b j) → a m ≠ b m → cmpFrom a b n i = if a m < b m then -1 else 1
 | 0, _, _, h1, h2, _, _ => by omega
 | n + 1, i, m, h1, h2, h3, h4 => by
  rcases Nat.lt_or_ge i m with h | h
  ·have := h3 i (Nat.le_refl _) h
   simp only [cmpFrom, this, Nat.lt_irrefl, if_false]
   exact cmpFrom_at n (i + 1) m (by omega) (by omega) (fun j a b => h3 j (by omega) b) h4
  ·have e : i = m := by omega
   subst e
   simp only [cmpFrom]
   by_cases hlt : a i < b i
   ·simp [hlt]
   ·have : b i < a i := by omega
    simp [hlt, this]
theorem cmp_eq {a b : Nat → Nat} (h : ∀ j, j < 32 → a j = b j) : cmp a b = 0 := cmpFrom_eq 32 0 fun j _ hj => h j (by omega)
theorem cmp_at {a b : Nat → Nat} {m : Nat} (hm : m < 32) (h : ∀ j, j < m → a j = b j) (hne : a m ≠ b m) : cmp a b = if a m < b m then -1 else 1 :=
 cmpFrom_at 32 0 m (Nat.zero_le _) (by omega) (fun j _ hj => h j hj) hne
theorem first_byte {a b : Nat → Nat} : (∀ j, j < 32 → a j = b j) ∨ ∃ m, m < 32 ∧ (∀ j, j < m → a j = b j) ∧ a m ≠ b m := by
 obtain ⟨h1, h2, h3⟩ := find_spec (p := fun i => a i != b i) (N := 32)
 rcases Nat.lt_or_ge (((List.range 32).find? fun i => a i != b i).getD 32) 32 with h | h
 ·exact .inr ⟨_, h, fun j hj => by simpa using h2 j hj, by simpa using h3 h⟩
 ·exact .inl fun j hj => by simpa using h2 j (by omega)
theorem byte_order {x y r : Nat} (hx : x < 256) (hy : y < 256) (hr : r < 8) (h : ∀ j, j < r → x / msk j % 2 = y / msk j % 2) (hne : x / msk r % 2 ≠ y / msk r % 2) : x < y ↔ x / msk r % 2 = 0 := by
 have h' : ∀ j, j < r → j < 8 → x / 2 ^ (7 - j) % 2 = y / 2 ^ (7 - j) % 2 := fun j hj h8 => by
  have := h j hj
  unfold msk at this
  rwa [Nat.mod_eq_of_lt h8] at this
 unfold msk at hne ⊢
 rw [Nat.mod_eq_of_lt hr] at hne ⊢
 have : r = 0 ∨ r = 1 ∨ r = 2 ∨ r = 3 ∨ r = 4 ∨ r = 5 ∨ r = 6 ∨ r = 7 := by omega
 rcases this with rfl | rfl | rfl | rfl | rfl | rfl | rfl | rfl
 ·simp at hne ⊢; omega
 ·have h0 := h' 0 (by decide) (by decide); simp at hne h0 ⊢; omega
 ·have h0 := h' 0 (by decide) (by decide); have h1 := h' 1 (by decide) (by decide); simp at hne h0 h1 ⊢; omega
 ·have h0 := h' 0 (by decide) (by decide); have h1 := h' 1 (by decide) (by decide); have h2 := h' 2 (by decide) (by decide); simp at hne h0 h1 h2 ⊢; omega
 ·have h0 := h' 0 (by decide) (by decide); have h1 := h' 1 (by decide) (by decide); have h2 := h' 2 (by decide) (by decide); have h3 := h' 3 (by decide) (by decide); simp at hne h0 h1 h2 h3 ⊢; omega
 ·have h0 := h' 0 (by decide) (by decide); have h1 := h' 1 (by decide) (by decide); have h2 := h' 2 (by decide) (by decide); have h3 := h' 3 (by decide) (by decide); have h4 := h' 4 (by decide) (by decide); simp at hne h0 h1 h2 h3 h4 ⊢; omega
 ·have h0 := h' 0 (by decide) (by decide); have h1 := h' 1 (by decide) (by decide); have h2 := h' 2 (by decide) (by decide); have h3 := h' 3 (by decide) (by decide); have h4 := h' 4 (by decide) (by decide); have h5 := h' 5 (by decide) (by decide); simp at hne h0 h1 h2 h3 h4 h5 ⊢; omega
 ·have h0 := h' 0 (by decide) (by decide); have h1 := h' 1 (by decide) (by decide); have h2 := h' 2 (by decide) (by decide); have h3 := h' 3 (by decide) (by decide); have h4 := h' 4 (by decide) (by decide); have h5 := h' 5 (by decide) (by decide); have h6 := h' 6 (by decide) (by decide); simp at hne h0 h1 h2 h3 h4 h5 h6 ⊢; omega
theorem cmp_bit {a b : Nat → Nat} (ha : Byt a) (hb : Byt b) (h : common a b < 256) : cmp a b = (bit a (common a b) : Int) - bit b (common a b) := by
 obtain ⟨_, h2, h3⟩ := common_spec a b
 have h3 := h3 h
 have e : common a b = 8 * (common a b / 8) + common a b % 8 := by omega
 have hr : common a b % 8 < 8 := by omega
 have heq : ∀ j, j < common a b / 8 → a j = b j := fun j hj => byte_eq (ha j) (hb j) fun r hr => by
  rw [← bit_at _ _ _ hr, ← bit_at _ _ _ hr]; exact h2 _ (by omega)
 have hpre : ∀ j, j < common a b % 8 → a (common a b / 8) / msk j % 2 = b (common a b / 8) / msk j % 2 := fun j hj => by
  rw [← bit_at _ _ _ (by omega), ← bit_at _ _ _ (by omega)]; exact h2 _ (by omega)
 have ea : bit a (common a b) = a (common a b / 8) / msk (common a b % 8) % 2 := bit_split _ _
 have eb : bit b (common a b) = b (common a b / 8) / msk (common a b % 8) % 2 := bit_split _ _
 have hne : a (common a b / 8) / msk (common a b % 8) % 2 ≠ b (common a b / 8) / msk (common a b % 8) % 2 := by rw [← ea, ← eb]; exact h3
 have ho := byte_order (ha _) (hb _) hr hpre hne
 have hbne : a (common a b / 8) ≠ b (common a b / 8) := fun hh => hne (by rw [hh])
 rw [cmp_at (m := common a b / 8) (by omega) heq hbne]
 have la := bit_lt a (common a b)
 have lb := bit_lt b (common a b)
 by_cases hlt : a (common a b / 8) < b (common a b / 8)
 ·have := ho.1 hlt
  rw [if_pos hlt]
  omega
 ·have : ¬ a (common a b / 8) / msk (common a b % 8) % 2 = 0 := fun hh => hlt (ho.2 hh)
  rw [if_neg hlt]
  omega
theorem flip_byt {k : Nat → Nat} (h : Byt k) (i : Nat) : Byt (flip k i) := fun j => by
 unfold flip upd
 split
 ·exact Nat.xor_lt_two_pow (n := 8) (h _) (msk_lt i)
 ·exact h j
theorem flipI_byt {k : Nat → Nat} (h : Byt k) (i : Int) : Byt (flipI k i) := by
 unfold flipI
 split
 ·exact flip_byt h _
 ·exact h
theorem flip_zero {k : Nat → Nat} (hk : Byt k) {i : Nat} (h : bit k i = 0) : upd k (i / 8) (k (i / 8) + msk i) = flip k i := by
 unfold flip
 rw [xor_msk _ _ (hk _), if_pos (show k (i / 8) / msk i % 2 = 0 from h)]
theorem flip_one {k : Nat → Nat} (hk : Byt k) {i : Nat} (h : bit k i = 1) : upd k (i / 8) (k (i / 8) - msk i) = flip k i := by
 unfold flip
 rw [xor_msk _ _ (hk _), if_neg (by unfold bit at h; omega)]
theorem pre_byt {k : Nat → Nat} (hk : Byt k) (n : Nat) : Byt (pre k n) := fun j => by
 unfold pre
 split
 ·exact hk j
 ·split
  ·exact Nat.lt_of_le_of_lt (Nat.div_mul_le_self _ _) (hk j)
  ·decide
theorem pre_256 (k : Nat → Nat) : ∀ j, j < 32 → pre k 256 j = k j := fun j hj => by
 unfold pre
 rw [if_pos (by omega)]
theorem bit_pre {k : Nat → Nat} (hk : Byt k) (n i : Nat) : bit (pre k n) i = if i < n then bit k i else 0 := by
 have h1 := hk (i / 8)
 unfold bit pre
 by_cases h : i / 8 < n / 8
 ·rw [if_pos h, if_pos (by omega)]
 ·rw [if_neg h]
  by_cases e : i / 8 = n / 8
  ·rw [if_pos e]
   have hm : msk i = 2 ^ (7 - i % 8) := rfl
   rw [hm]
   obtain ⟨x, hx⟩ : ∃ x, x = k (i / 8) := ⟨_, rfl⟩
   rw [← hx] at h1 ⊢
   have key : ∀ r < 8, ∀ s < 8, ∀ x < 256, x / 2 ^ (8 - r) * 2 ^ (8 - r) / 2 ^ (7 - s) % 2 = if s < r then x / 2 ^ (7 - s) % 2 else 0 := by decide +kernel
   rw [key (n % 8) (by omega) (i % 8) (by omega) x h1]
   by_cases hlt : i % 8 < n % 8
   ·rw [if_pos hlt, if_pos (by omega)]
   ·rw [if_neg hlt, if_neg (by omega)]
  ·rw [if_neg e, if_neg (by omega)]
   simp
theorem key_ext {a b : Nat → Nat} (ha : Byt a) (hb : Byt b) (h : ∀ i, i < 256 → bit a i = bit b i) : ∀ j, j < 32 → a j = b j := fun j hj =>
 byte_eq (ha j) (hb j) fun r hr => by rw [← bit_at _ _ _ hr, ← bit_at _ _ _ hr]; exact h _ (by omega)
theorem bit_flip {k : Nat → Nat} (i j : Nat) : bit (flip k i) j = if j = i then 1 - bit k i else bit k j := by
 unfold bit flip upd
 by_cases h : j / 8 = i / 8
 ·rw [if_pos h, bit_xor, h]
  have hm : msk i / msk j % 2 = if j = i then 1 else 0 := by
   unfold msk
   have key : ∀ r < 8, ∀ s < 8, 2 ^ (7 - r) / 2 ^ (7 - s) % 2 = if s = r then 1 else 0 := by decide
   rw [key (i % 8) (by omega) (j % 8) (by omega)]
   by_cases e : j = i
   ·simp [e]
   ·rw [if_neg (by omega), if_neg e]
  rw [hm]
  by_cases e : j = i
  ·subst e; simp only [if_true]; omega
  ·rw [if_neg e, if_neg e]; omega
 ·rw [if_neg h, if_neg (by intro e; subst e; exact h rfl)]
theorem pre_step_zero {k : Nat → Nat} (hk : Byt k) {m : Nat} (h : bit (pre k (m + 1)) m = 0) : ∀ j, j < 32 → pre k (m + 1) j = pre k m j :=
 key_ext (pre_byt hk _) (pre_byt hk _) fun i _ => by
  rw [bit_pre hk] at h ⊢
  rw [bit_pre hk]
  rw [if_pos (by omega)] at h
  by_cases e : i = m
  ·subst e; rw [if_pos (by omega), if_neg (by omega), h]
  ·by_cases h2 : i < m
   ·rw [if_pos (by omega), if_pos h2]
   ·rw [if_neg (by omega), if_neg h2]
theorem pre_step_one {k : Nat → Nat} (hk : Byt k) {m : Nat} (h : bit (pre k (m + 1)) m = 1) : ∀ j, j < 32 → flip (pre k (m + 1)) m j = pre k m j :=
 key_ext (flip_byt (pre_byt hk _) _) (pre_byt hk _) fun i _ => by
  rw [bit_flip, h, bit_pre hk, bit_pre hk]
  by_cases e : i = m
  ·subst e; rw [if_pos rfl, if_neg (by omega)]
  ·rw [if_neg e]
   by_cases h2 : i < m
   ·rw [if_pos (by omega), if_pos h2]
   ·rw [if_neg (by omega), if_neg h2]
end Go.Proofs.YtmfbhohjpkmllaaGreatDoor.Bt
namespace Go.Proofs.YtmfbhohjpkmllaaGreatDoor.Bt
open Go.RowKit
def kc (k : Nat → Nat) : Array Value := ((List.range 32).map fun j => Value.int .u8 (k j)).toArray
theorem kc_size (k : Nat → Nat) : (kc k).size = 32 := by simp [kc]
theorem kc_at (k : Nat → Nat) (j : Nat) (h : j < 32) : (kc k)[j]? = some (.int .u8 (k j)) := by
 simp [kc, h]
theorem kc_congr {a b : Nat → Nat} (h : ∀ j, j < 32 → a j = b j) : kc a = kc b := by
 unfold kc
 congr 1
 exact List.map_congr_left fun j hj => by rw [h j (by simpa using hj)]
def kz : Nat → Nat := fun _ => 0
def keq (a b : Nat → Nat) : Bool := (List.range 32).all fun j => a j == b j
theorem keq_iff (a b : Nat → Nat) : keq a b = true ↔ ∀ j, j < 32 → a j = b j := by simp [keq]
theorem info23 : (Tryz.prog.info? 39).map (·.size) = some 32 := by kernel_rfl
noncomputable def ldKey (w : World) (v : Value) : Result Next := Sem.run Tryz.prog (do pure (.value (← Instr.loadAt 39 v))) w
noncomputable def stKey (w : World) (p v : Value) : Result Next := Sem.run Tryz.prog (do Instr.storeAt 39 p v; pure .skip) w
@[go_sem ↓] theorem execOp_load_key (ρ : Operand → Value) (dst : Option Tmp) (x : Operand) (type : TypeId) (pos : String) (after : Array Edge) (guard : Option (Nat × Bool)) (w : World) :
  Sem.run Tryz.prog (execOp ρ { dst, op := .load 39 x, type, pos, after, guard }) w = ldKey w (ρ x) := rfl
@[go_sem ↓] theorem execOp_store_key (ρ : Operand → Value) (dst : Option Tmp) (x y : Operand) (type : TypeId) (pos : String) (after : Array Edge) (guard : Option (Nat × Bool)) (w : World) :
  Sem.run Tryz.prog (execOp ρ { dst, op := .store 39 x y, type, pos, after, guard }) w = stKey w (ρ x) (ρ y) := rfl
theorem ldKey_of {w : World} {b : Nat} {k : Nat → Nat} {t : TypeId} {fr : Nat × Nat} (h : w.heap[b]? = some (.cells (kc k) t fr)) :
  ldKey w (.pointer (some ⟨b, 0, none⟩)) = .ok (.value (.agg (kc k))) w := by
 unfold ldKey
 simp only [Instr.loadAt, Instr.sureAddr, Sem.run_bind, Sem.run_pure, Result.andThen_ok]
 rw [run_loadVar_row (P := Tryz.prog) w b t 39 (kc k) fr (.array 32 5) h Tryz.underlying39 rfl (by rw [kc_size]; exact info23)]
 rfl
@[go_sem] theorem ldKey_new (w : World) (k : Nat → Nat) : ldKey (w.alloc (.cells (kc k) 39)) (.pointer (some ⟨w.heap.size, 0, none⟩)) = .ok (.value (.agg (kc k))) (w.alloc (.cells (kc k) 39)) :=
 ldKey_of (heap_alloc_last w _)
theorem oneCell_key (k : Nat → Nat) : (kc k).all (·.oneCell') = true := by
 simp [kc, Value.oneCell']
theorem stKey_of {w : World} {b : Nat} {k k' : Nat → Nat} {t : TypeId} (h : w.heap[b]? = some (.cells (kc k) t (0, 0))) :
  stKey w (.pointer (some ⟨b, 0, none⟩)) (.agg (kc k')) = .ok .skip (w.setRow b (kc k')) := by
 unfold stKey
 simp only [Instr.storeAt, Instr.sureAddr, Sem.run_bind, Sem.run_pure, Result.andThen_ok]
 rw [run_storeVar_row (P := Tryz.prog) w b t 39 (kc k) (kc k') h (by rw [kc_size]; exact info23) (by rw [kc_size, kc_size]) (oneCell_key k')]
 rfl
@[go_sem] theorem stKey_new (w : World) (k k' : Nat → Nat) : stKey (w.alloc (.cells (kc k) 39)) (.pointer (some ⟨w.heap.size, 0, none⟩)) (.agg (kc k')) = .ok .skip (w.alloc (.cells (kc k') 39)) := by
 rw [stKey_of (heap_alloc_last w _), World.setRow_alloc_new]
@[go_sem] theorem stKey_two (w : World) (o : Obj) (k k' : Nat → Nat) : stKey ((w.alloc o).alloc (.cells (kc k) 39)) (.pointer (some ⟨w.heap.size + 1, 0, none⟩)) (.agg (kc k')) = .ok .skip ((w.alloc o).alloc (.cells (kc k') 39)) := by
 have := stKey_new (w.alloc o) k k'
 rwa [show (w.alloc o).heap.size = w.heap.size + 1 by simp] at this
theorem setRow_two (w : World) (o : Obj) (c c' : Array Value) (t : TypeId) : ((w.alloc (.cells c t)).alloc o).setRow w.heap.size c' = (w.alloc (.cells c' t)).alloc o := by
 have hx : (((w.alloc (.cells c t)).alloc o).setRow w.heap.size c').heap = ((w.alloc (.cells c' t)).alloc o).heap := by
  apply Array.ext_getElem?
  intro i
  by_cases h : i = w.heap.size
  ·subst h
   rw [setRow_heap _ _ _ _ _ _ (heap_alloc2_old w _ _), heap_alloc2_old w _ _]
  ·rw [setRow_other _ _ _ _ h]
   rcases Nat.lt_or_ge i w.heap.size with h' | h'
   ·rw [Below.heap_alloc _ _ _ (by simp; omega), Below.heap_alloc _ _ _ h', Below.heap_alloc _ _ _ (by simp; omega), Below.heap_alloc _ _ _ h']
   ·by_cases e : i = w.heap.size + 1
    ·subst e; rw [heap_alloc2_new w _ _, heap_alloc2_new w _ _]
    ·rw [Array.getElem?_eq_none (by simp; omega), Array.getElem?_eq_none (by simp; omega)]
 show ({ ((w.alloc (.cells c t)).alloc o) with heap := (((w.alloc (.cells c t)).alloc o).setRow w.heap.size c').heap } : World) = _
 rw [hx]
 rfl
@[go_sem] theorem stKey_two_old (w : World) (o : Obj) (k k' : Nat → Nat) : stKey ((w.alloc (.cells (kc k) 39)).alloc o) (.pointer (some ⟨w.heap.size, 0, none⟩)) (.agg (kc k')) = .ok .skip ((w.alloc (.cells (kc k') 39)).alloc o) := by
 rw [stKey_of (heap_alloc2_old w _ _), setRow_two]
@[go_sem] theorem kc_set (k : Nat → Nat) (j : Nat) (x : Nat) : (kc k).setIfInBounds j (.int .u8 x) = kc (upd k j x) := by
 apply Array.ext_getElem?
 intro i
 rw [Array.getElem?_setIfInBounds]
 rcases Nat.lt_or_ge i 32 with h | h
 ·rw [kc_at _ i h, kc_at _ i h, kc_size]
  unfold upd
  by_cases e : j = i
  ·subst e; simp [h]
  ·have e' : ¬ i = j := fun h => e h.symm
   simp [e, e']
 ·have hs : ∀ q : Nat → Nat, (kc q)[i]? = none := fun q => Array.getElem?_eq_none (by rw [kc_size]; exact h)
  rw [hs, hs, kc_size]
  by_cases e : j = i
  ·subst e; simp [h]
  ·simp [e]
@[go_sem] theorem setCell_drewN (w : World) (n : Nat) (a : Addr) (v : Value) : (w.drewN n).setCell a v = (w.setCell a v).drewN n := rfl
@[go_sem] theorem ldKey_new_d (w : World) (k : Nat → Nat) (n : Nat) : ldKey ((w.alloc (.cells (kc k) 39)).drewN n) (.pointer (some ⟨w.heap.size, 0, none⟩)) = .ok (.value (.agg (kc k))) ((w.alloc (.cells (kc k) 39)).drewN n) :=
 ldKey_of (heap_alloc_last w _)
@[go_sem] theorem stKey_two_d (w : World) (o : Obj) (k k' : Nat → Nat) (n : Nat) : stKey (((w.alloc o).alloc (.cells (kc k) 39)).drewN n) (.pointer (some ⟨w.heap.size + 1, 0, none⟩)) (.agg (kc k')) = .ok .skip (((w.alloc o).alloc (.cells (kc k') 39)).drewN n) := by
 rw [stKey_of (w := ((w.alloc o).alloc (.cells (kc k) 39)).drewN n) (heap_alloc2_new w _ _)]
 have := World.setRow_alloc_new (w.alloc o) (kc k) (kc k') 39
 rw [show (w.alloc o).heap.size = w.heap.size + 1 by simp] at this
 rw [← this]
 rfl
def KeyAt (w : World) (b : Nat) (k : Nat → Nat) : Prop := w.heap[b]? = some (.cells (kc k) 39 (0, 0))
theorem KeyAt.cell {w : World} {b : Nat} {k : Nat → Nat} (h : KeyAt w b k) {j : Nat} (hj : j < 32) : w.cell? ⟨b, j, none⟩ = some (.int .u8 (k j)) := by
 rw [cell_of_row _ _ _ _ _ _ h]; exact kc_at k _ hj
theorem KeyAt.free {w : World} {b : Nat} {k : Nat → Nat} (h : KeyAt w b k) (j : Nat) : w.frozen? ⟨b, j, none⟩ = false := frozen_of_row w b j _ _ h
theorem KeyAt.ld {w : World} {b : Nat} {k : Nat → Nat} (h : KeyAt w b k) : ldKey w (.pointer (some ⟨b, 0, none⟩)) = .ok (.value (.agg (kc k))) w := ldKey_of h
theorem KeyAt.st {w : World} {b : Nat} {k : Nat → Nat} (h : KeyAt w b k) (k' : Nat → Nat) : stKey w (.pointer (some ⟨b, 0, none⟩)) (.agg (kc k')) = .ok .skip (w.setRow b (kc k')) := stKey_of h
theorem KeyAt.set {w : World} {b : Nat} {k : Nat → Nat} (h : KeyAt w b k) (j x : Nat) : KeyAt (w.setCell ⟨b, j, none⟩ (.int .u8 x)) b (upd k j x) := by
 have := heap_setCell_same w b j (kc k) 39 (.int .u8 x) h
 rwa [kc_set] at this
theorem KeyAt.set_other {w : World} {b c : Nat} {k : Nat → Nat} (h : KeyAt w b k) (hne : b ≠ c) (j : Nat) (v : Value) : KeyAt (w.setCell ⟨c, j, none⟩ v) b k := by
 unfold KeyAt
 rw [heap_setCell_other _ _ _ _ hne]
 exact h
theorem KeyAt.row {w : World} {b : Nat} {k : Nat → Nat} (h : KeyAt w b k) (k' : Nat → Nat) : KeyAt (w.setRow b (kc k')) b k' := setRow_heap w b _ _ 39 _ h
theorem KeyAt.row_other {w : World} {b c : Nat} {k : Nat → Nat} (h : KeyAt w b k) (hne : b ≠ c) (x : Array Value) : KeyAt (w.setRow c x) b k := by
 unfold KeyAt
 rw [setRow_other _ _ _ _ hne]
 exact h
theorem KeyAt.drewN {w : World} {b : Nat} {k : Nat → Nat} (h : KeyAt w b k) (n : Nat) : KeyAt (w.drewN n) b k := h
theorem KeyAt.lt {w : World} {b : Nat} {k : Nat → Nat} (h : KeyAt w b k) : b < w.heap.size := by
 rcases Nat.lt_or_ge b w.heap.size with h' | h'
 ·exact h'
 ·unfold KeyAt at h; rw [Array.getElem?_eq_none h'] at h; cases h
theorem KeyAt.below {w w' : World} {b B : Nat} {k : Nat → Nat} (h : KeyAt w b k) (hb : Below B w w') (hB : b < B) : KeyAt w' b k := by
 unfold KeyAt
 rw [hb.block b hB]
 exact h
theorem KeyAt.congr {w : World} {b : Nat} {k k' : Nat → Nat} (h : KeyAt w b k) (e : ∀ j, j < 32 → k j = k' j) : KeyAt w b k' := by
 unfold KeyAt
 rw [← kc_congr e]
 exact h
theorem KeyAt.two (w : World) (k : Nat → Nat) (o : Obj) : KeyAt ((w.alloc (.cells (kc k) 39)).alloc o) w.heap.size k := heap_alloc2_old w _ _
theorem KeyAt.two' (w : World) (k : Nat → Nat) (o : Obj) : KeyAt ((w.alloc o).alloc (.cells (kc k) 39)) (w.heap.size + 1) k := heap_alloc2_new w _ _
theorem below_row {B g : Nat} {a w : World} (h : Below B a w) (hg : B ≤ g) (c : Array Value) : Below B a (w.setRow g c) :=
 ⟨h.os, h.tape, h.output, by rw [setRow_size]; exact h.size, fun i hi => by rw [setRow_other _ _ _ _ (by omega)]; exact h.block i hi⟩
theorem run_eqItems_keys (w : World) (d : Nat) (a b : Nat → Nat) : ∀ is : List Nat, (∀ j ∈ is, j < 32) →
  (Op.eqItems (d + 1) 5 1 (kc a) (kc b) is).run Tryz.prog w = .ok (is.all fun j => a j == b j) w
 | [], _ => rfl
 | j :: is, h => by
  have hj : j < 32 := h j (by simp)
  have ih := run_eqItems_keys w d a b is (fun i hi => h i (by simp [hi]))
  have pa : (part 5 (kc a) (j * 1)).run Tryz.prog w = .ok (.int .u8 (a j)) w := by
   simp [part, Sem.run_bind, Tryz.isAgg5, kc_at a j hj]
  have pb : (part 5 (kc b) (j * 1)).run Tryz.prog w = .ok (.int .u8 (b j)) w := by
   simp [part, Sem.run_bind, Tryz.isAgg5, kc_at b j hj]
  simp only [Op.eqItems, Sem.run_bind, pa, pb, Result.andThen_ok, run_equalIn_int w d 5 .u8 .u8 (a j) (b j) Tryz.underlying5]
  by_cases e : a j = b j
  ·simp [e, ih]
  ·have : ((a j : Int) == (b j : Int)) = false := by simp; omega
   simp [this, e]
@[go_sem] theorem run_equalIn_keys (w : World) (a b : Nat → Nat) : (Op.equalIn 10000 39 (.agg (kc a)) (.agg (kc b))).run Tryz.prog w = .ok (keq a b) w := by
 obtain ⟨i, hi⟩ : ∃ i, Tryz.prog.info? 5 = some i := ⟨_, rfl⟩
 rw [show (10000 : Nat) = 9999 + 1 from rfl, run_equalIn_array w 9999 (kc a) (kc b) Tryz.underlying39 hi]
 have : Tryz.prog.cellsOf 5 = 1 := by kernel_rfl
 rw [this]
 exact run_eqItems_keys w 9998 a b _ (by simp)
@[go_sem ↓] theorem zero23 (w : World) : (zeroValue 39).run Tryz.prog w = .ok (.agg (kc kz)) w := by
 rw [Tryz.zeroValue39]; rfl
theorem below_drewN {B : Nat} {a w : World} (h : Below B a w) (n : Nat) : Below B a (w.drewN n) := ⟨h.os, h.tape, h.output, h.size, h.block⟩
theorem key_cell (w : World) (k : Nat → Nat) (j : Nat) (h : j < 32) : ((w.alloc (.cells (kc k) 39)).cell? ⟨w.heap.size, j, none⟩) = some (.int .u8 (k j)) := by
 rw [cell_of_row _ _ _ _ _ _ (heap_alloc_last w _)]; exact kc_at k _ h
theorem key_cell2 (w : World) (o : Obj) (k : Nat → Nat) (j : Nat) (h : j < 32) : (((w.alloc (.cells (kc k) 39)).alloc o).cell? ⟨w.heap.size, j, none⟩) = some (.int .u8 (k j)) := by
 rw [cell_of_row _ _ _ _ _ _ (heap_alloc2_old w _ _)]; exact kc_at k _ h
theorem key_cell1 (w : World) (o : Obj) (k : Nat → Nat) (j : Nat) (h : j < 32) : (((w.alloc o).alloc (.cells (kc k) 39)).cell? ⟨w.heap.size + 1, j, none⟩) = some (.int .u8 (k j)) := by
 rw [cell_of_row _ _ _ _ _ _ (heap_alloc2_new w _ _)]; exact kc_at k _ h
@[go_sem] theorem ldKey_two (w : World) (k : Nat → Nat) (o : Obj) : ldKey ((w.alloc (.cells (kc k) 39)).alloc o) (.pointer (some ⟨w.heap.size, 0, none⟩)) = .ok (.value (.agg (kc k))) ((w.alloc (.cells (kc k) 39)).alloc o) :=
 ldKey_of (heap_alloc2_old w _ _)
@[go_sem] theorem ldKey_two' (w : World) (k : Nat → Nat) (o : Obj) : ldKey ((w.alloc o).alloc (.cells (kc k) 39)) (.pointer (some ⟨w.heap.size + 1, 0, none⟩)) = .ok (.value (.agg (kc k))) ((w.alloc o).alloc (.cells (kc k) 39)) :=
 ldKey_of (heap_alloc2_new w _ _)
@[go_sem] theorem ldKey_two_d (w : World) (k : Nat → Nat) (o : Obj) (n : Nat) : ldKey (((w.alloc (.cells (kc k) 39)).alloc o).drewN n) (.pointer (some ⟨w.heap.size, 0, none⟩)) = .ok (.value (.agg (kc k))) (((w.alloc (.cells (kc k) 39)).alloc o).drewN n) :=
 ldKey_of (heap_alloc2_old w _ _)
@[go_sem] theorem ldKey_two_d' (w : World) (k : Nat → Nat) (o : Obj) (n : Nat) : ldKey (((w.alloc o).alloc (.cells (kc k) 39)).drewN n) (.pointer (some ⟨w.heap.size + 1, 0, none⟩)) = .ok (.value (.agg (kc k))) (((w.alloc o).alloc (.cells (kc k) 39)).drewN n) :=
 ldKey_of (heap_alloc2_new w _ _)
structure Later (W : World) where
 w : World
 h : Below W.heap.size W w
instance (W : World) : Nonempty (Later W) := ⟨⟨W, Below.refl _ _⟩⟩
theorem Later.block {W : World} (x : Later W) {b : Nat} {o : Obj} (h : W.heap[b]? = some o) : x.w.heap[b]? = some o := by
 rw [x.h.block b (by
  rcases Nat.lt_or_ge b W.heap.size with h' | h'
  ·exact h'
  ·rw [Array.getElem?_eq_none h'] at h; cases h)]
 exact h
theorem Later.call {P : Program} {W : World} {x : Later W} {f : FuncId} {args : Array Value} {v : Value}
  (h : Calls P f args x.w fun e w' => e = .returned v ∧ Below x.w.heap.size x.w w') : Calls P f args x.w fun e w'' => e = .returned v ∧ ∃ y : Later W, w'' = y.w :=
 h.mono fun _ w' ⟨he, hb⟩ => ⟨he, ⟨w', x.h.trans (hb.mono x.h.size)⟩, rfl⟩
theorem wp_region_later {P : Program} {id : Nat} {Q : Exit → Act → World → Prop} {a : Act} {w : World} {l : List Oper} (hm : P.follows .mixedOrders = true) (hB : Region.lexB .any l.toArray = true)
  (h : wpQuiet P l.toArray (fun w' => ∃ x : Later w, w' = x.w) (fun a' => ∀ w', (∃ x : Later w, w' = x.w) → Q .normal a' w') l a) : (Code.region id l.toArray true).wp P Q a w :=
 wp_region_quiet (C := fun w' => ∃ x : Later w, w' = x.w) hm hB ⟨⟨w.drew, (Below.refl _ _).drew⟩, rfl⟩ (by simpa using h)
theorem wp_region_drawn_tail {P : Program} {id : Nat} {Q : Exit → Act → World → Prop} {a : Act} {w : World} {l : List Oper} (n : Nat) (hm : P.follows .mixedOrders = true) (hB : Region.lexTailB .any l.toArray n = true)
  (h : wpQuiet P l.toArray (fun w' => ∃ n, w' = w.drewN n) (fun a' => ∀ w', (∃ n, w' = w.drewN n) → wpList P l.toArray Q (l.drop n) a' w') (l.take n) a) : (Code.region id l.toArray true).wp P Q a w :=
 wp_region_quiet_tail (C := fun w' => ∃ n, w' = w.drewN n) n hm hB ⟨1, rfl⟩ h
theorem one_below (w : World) (o : Obj) : Below w.heap.size w (w.alloc o) := (Below.refl _ _).alloc (Nat.le_refl _) _
theorem two_below (w : World) (o p : Obj) : Below w.heap.size w ((w.alloc o).alloc p) :=
 ((Below.refl _ _).alloc (Nat.le_refl _) _).alloc (by simp) _
theorem Later.two {w : World} {o p : Obj} (x : Later ((w.alloc o).alloc p)) : Below w.heap.size w x.w := (two_below w o p).trans (x.h.mono (by simp; omega))
theorem Later.ld_two {w : World} {k : Nat → Nat} {o : Obj} (x : Later ((w.alloc (.cells (kc k) 39)).alloc o)) : ldKey x.w (.pointer (some ⟨w.heap.size, 0, none⟩)) = .ok (.value (.agg (kc k))) x.w :=
 ldKey_of (x.block (heap_alloc2_old w _ _))
theorem Later.ld_two' {w : World} {k : Nat → Nat} {o : Obj} (x : Later ((w.alloc o).alloc (.cells (kc k) 39))) : ldKey x.w (.pointer (some ⟨w.heap.size + 1, 0, none⟩)) = .ok (.value (.agg (kc k))) x.w :=
 ldKey_of (x.block (heap_alloc2_new w _ _))
end Go.Proofs.YtmfbhohjpkmllaaGreatDoor.Bt
namespace Go.Proofs.YtmfbhohjpkmllaaGreatDoor.Bt
open Go.RowKit
theorem ret_int {k : IntKind} {a b : Int} (h : a = b) : Ending.returned (.int k a) = .returned (.int k b) := by rw [h]
def lim (i : Int) : Nat := (max 0 (min i 256)).toNat
theorem lim_le (i : Int) : lim i ≤ 256 := by unfold lim; omega
end Go.Proofs.YtmfbhohjpkmllaaGreatDoor.Bt
namespace Go.Proofs.YtmfbhohjpkmllaaGreatDoor.Bt
open Go.RowKit
theorem isNumber_yes (i : Int) (w : World) (h : 0 ≤ i) (h2 : i < 256) :
  Calls Tryz.prog 100 #[.int .i64 i] w fun e w' => e = .returned (.bool true) ∧ w = w' := by
 go_enter Tryz.func100, Tryz.ntmps100
 go_wp2
 go_ret
 exact ⟨rfl, rfl⟩
theorem isNumber_no (i : Int) (w : World) (h : i < 0 ∨ 256 ≤ i) :
  Calls Tryz.prog 100 #[.int .i64 i] w fun e w' => e = .returned (.bool false) ∧ w = w' := by
 by_cases h1 : i < 0
 ·go_enter Tryz.func100, Tryz.ntmps100
  go_wp2
  go_ret
  exact ⟨rfl, rfl⟩
 ·have h2 : ¬ i < 256 := by omega
  clear h
  go_enter Tryz.func100, Tryz.ntmps100
  go_wp2
  go_ret
  exact ⟨rfl, rfl⟩
theorem mask_c (i : Nat) (w : World) :
  Calls Tryz.prog 101 #[.int .i64 i] w fun e w' => e = .returned (.int .u8 (msk i)) ∧ w = w' := by
 go_enter Tryz.func101, Tryz.ntmps101
 go_wp2
 go_ret
 refine ⟨?_, rfl⟩
 have := pow_mask (i % 8) (by omega)
 simp [msk, ← this]
end Go.Proofs.YtmfbhohjpkmllaaGreatDoor.Bt
namespace Go.Proofs.YtmfbhohjpkmllaaGreatDoor.Bt
open Go.RowKit
theorem value_c (i : Nat) (w : World) :
  Calls Tryz.prog 70 #[.int .i64 i] w fun e w' => e = .returned (.int .i64 (msk i)) ∧ w = w' := by
 go_enter Tryz.func70, Tryz.ntmps70
 go_wp2
 go_loop [3, 4] (fun v j => ∃ m : Nat, i % 8 ≤ m ∧ m ≤ 7 ∧ j = .int .i64 m ∧ v = .int .i64 (2 ^ (m - i % 8) : Nat)) (fun _ j => 7 - (intOf j).toNat)
 case atStart => exact ⟨i % 8, by omega, by omega, by simp, by simp⟩
 case round =>
  obtain ⟨m, h1, h2, rfl, rfl⟩ := hrel
  have hp : (2 ^ (m - i % 8) : Nat) ≤ 128 := by
   have : 2 ^ (m - i % 8) ≤ 2 ^ 7 := Nat.pow_le_pow_right (by decide) (by omega)
   simpa using this
  obtain ⟨v, hv⟩ : ∃ v : Nat, v = 2 ^ (m - i % 8) := ⟨_, rfl⟩
  rw [← hv] at hp ⊢
  have HV := Lib.hid hv
  clear hv
  by_cases hlt : m < 7
  ·go_wp2
   go_round
   case rel =>
    refine ⟨m + 1, by omega, by omega, by go_num, ?_⟩
    have : (2 ^ (m + 1 - i % 8) : Nat) = v * 2 := by rw [HV.out, show m + 1 - i % 8 = (m - i % 8) + 1 by omega, Nat.pow_succ]
    rw [this]; go_num
   case measure => simp [intOf]; omega
  ·go_wp2
   go_ret
   exact ⟨ret_int (by rw [HV.out]; unfold msk; rw [show m = 7 by omega]), rfl⟩
theorem rbit_no (k : Nat → Nat) (i : Int) (w : World) (h : i < 0 ∨ 256 ≤ i) :
  Calls Tryz.prog 49 #[.agg (kc k), .int .i64 i] w fun e w' => e = .returned (.int .i64 (-1)) ∧ Below w.heap.size w w' := by
 by_cases h1 : i < 0
 ·go_enter Tryz.func49, Tryz.ntmps49
  go_wp2
  go_ret
  exact ⟨rfl, (Below.refl _ _).alloc (Nat.le_refl _) _⟩
 ·have h2 : 255 < i := by omega
  clear h
  go_enter Tryz.func49, Tryz.ntmps49
  go_wp2
  go_ret
  exact ⟨rfl, (Below.refl _ _).alloc (Nat.le_refl _) _⟩
theorem rbit_yes (k : Nat → Nat) (hk : Byt k) (i : Nat) (w : World) (h : i < 256) :
  Calls Tryz.prog 49 #[.agg (kc k), .int .i64 i] w fun e w' => e = .returned (.int .i64 (bit k i)) ∧ Below w.heap.size w w' := by
 have hc := key_cell w k (i / 8) (by omega)
 obtain ⟨x, hx⟩ : ∃ x, x = k (i / 8) := ⟨_, rfl⟩
 have hx256 : x < 256 := hx ▸ hk _
 rw [← hx] at hc
 have HX := Lib.hid hx
 have hns : ¬ (255 : Int) < i := by omega
 clear hx hk
 go_enter Tryz.func49, Tryz.ntmps49
 go_wp2
 go_loop [5, 6] (fun v j => ∃ m : Nat, i % 8 ≤ m ∧ m ≤ 7 ∧ j = .int .i64 m ∧ v = .int .i64 (x / 2 ^ (m - i % 8) : Nat)) (fun _ j => 7 - (intOf j).toNat)
 case atStart => exact ⟨i % 8, by omega, by omega, by simp, by simp⟩
 case round =>
  obtain ⟨m, h1, h2, rfl, rfl⟩ := hrel
  obtain ⟨v, hv⟩ : ∃ v : Nat, v = x / 2 ^ (m - i % 8) := ⟨_, rfl⟩
  have hp : v ≤ 255 := by rw [hv]; exact Nat.le_trans (Nat.div_le_self _ _) (by omega)
  rw [← hv]
  have HV := Lib.hid hv
  clear hv
  by_cases hlt : m < 7
  ·go_wp2
   go_round
   case rel =>
    refine ⟨m + 1, by omega, by omega, by go_num, ?_⟩
    have : x / 2 ^ (m + 1 - i % 8) = v / 2 := by rw [HV.out, show m + 1 - i % 8 = (m - i % 8) + 1 by omega, Nat.pow_succ, Nat.div_div_eq_div_mul]
    rw [this]; go_num
   case measure => simp [intOf]; omega
  ·go_wp2
   go_ret
   refine ⟨ret_int ?_, (Below.refl _ _).alloc (Nat.le_refl _) _⟩
   have : bit k i = v % 2 := by
    unfold bit msk; rw [← HX.out, HV.out, show m = 7 by omega]
   rw [this]
   simp
theorem rbit_c (k : Nat → Nat) (hk : Byt k) (i : Int) (w : World) :
  Calls Tryz.prog 49 #[.agg (kc k), .int .i64 i] w fun e w' => e = .returned (.int .i64 (bitI k i)) ∧ Below w.heap.size w w' := by
 unfold bitI
 by_cases h : 0 ≤ i ∧ i < 256
 ·rw [if_pos h]
  obtain ⟨n, rfl⟩ := Int.eq_ofNat_of_zero_le h.1
  rw [Int.toNat_natCast]
  exact rbit_yes k hk n w (by omega)
 ·rw [if_neg h]
  exact rbit_no k i w (by omega)
end Go.Proofs.YtmfbhohjpkmllaaGreatDoor.Bt
namespace Go.Proofs.YtmfbhohjpkmllaaGreatDoor.Bt
open Go.RowKit
theorem rflip_no (k : Nat → Nat) (i : Int) (w : World) (h : i < 0 ∨ 256 ≤ i) :
  Calls Tryz.prog 44 #[.agg (kc k), .int .i64 i] w fun e w' => e = .returned (.agg (kc k)) ∧ Below w.heap.size w w' := by
 go_enter Tryz.func44, Tryz.ntmps44
 go_wp2_with fail
 refine (rbit_no k i _ h).mono ?_
 rintro e w1 ⟨rfl, hb⟩
 have KA := (KeyAt.two w k (.cells (kc kz) 39)).below hb (by simp; omega)
 have KB := (KeyAt.two' w kz (.cells (kc k) 39)).below hb (by simp)
 have la := KA.ld
 have sb := KB.st k
 have Hb := Lib.hid hb
 clear hb
 go_wp2
 refine bodyPost_ret (v := .agg (kc k)) ?_ rfl ⟨rfl, below_row ((two_below _ _ _).trans (Hb.out.mono (by simp; omega))) (by omega) _⟩
 exact results_cell_row Tryz.results44 _ _ (w.heap.size + 1) 39 _ (0, 0) _ rfl (KB.row k) Tryz.underlying39 rfl (by rw [kc_size]; exact info23)
theorem rflip_yes (k : Nat → Nat) (hk : Byt k) (i : Nat) (w : World) (h : i < 256) :
  Calls Tryz.prog 44 #[.agg (kc k), .int .i64 i] w fun e w' => e = .returned (.agg (kc (flip k i))) ∧ Below w.heap.size w w' := by
 have hl := bit_lt k i
 have hx := hk (i / 8)
 have hm := msk_lt i
 have hm0 := msk_pos i
 by_cases hb0 : bit k i = 0
 ·have e : (((bit k i : Nat) : Int) == 0) = true := by rw [hb0]; rfl
  have HF : Hid (upd k (i / 8) (k (i / 8) + msk i) = flip k i) := flip_zero hk hb0
  have hsum : k (i / 8) + msk i < 256 := by
   have h1 := xor_msk (k (i / 8)) i hx
   rw [if_pos (show k (i / 8) / msk i % 2 = 0 from hb0)] at h1
   rw [← h1]
   exact Nat.xor_lt_two_pow (n := 8) hx hm
  clear hl hb0
  go_enter Tryz.func44, Tryz.ntmps44
  go_wp2_with fail
  refine (rbit_yes k hk i _ h).mono ?_
  rintro e w1 ⟨rfl, hb⟩
  have KA := (KeyAt.two w k (.cells (kc kz) 39)).below hb (by simp; omega)
  have KB := (KeyAt.two' w kz (.cells (kc k) 39)).below hb (by simp)
  have ca := KA.cell (j := i / 8) (by omega)
  have fa := KA.free (i / 8)
  have Hb := Lib.hid hb
  clear hb
  have KS : KeyAt (w1.setCell ⟨w.heap.size, i / 8, none⟩ (.int .u8 ((k (i / 8) : Int) + msk i))) w.heap.size (flip k i) := by
   have := KA.set (i / 8) (k (i / 8) + msk i)
   rw [HF.out] at this
   simpa using this
  have KT : KeyAt (w1.setCell ⟨w.heap.size, i / 8, none⟩ (.int .u8 ((k (i / 8) : Int) + msk i))) (w.heap.size + 1) kz := KB.set_other (by omega) _ _
  have ls := fun n => (KS.drewN n).ld
  have st := fun n => (KT.drewN n).st (flip k i)
  go_wp2_with fail
  refine wp_region_drawn_tail 12 (by kernel_rfl) (by kernel_rfl) ?_
  simp only [List.take_succ_cons, List.take_zero, List.drop_succ_cons, List.drop_zero]
  repeat (go_big_quiet_step ((go_at_call 70; exact Calls.quiet_of_same ((value_c _ _).mono fun _ _ ⟨a, b⟩ => ⟨a, b.symm⟩))))
  refine wpQuiet_nil ?_
  rintro _ ⟨nq, rfl⟩
  go_wp2
  refine bodyPost_ret (v := .agg (kc (flip k i))) ?_ rfl ⟨rfl, below_row (below_drewN (((two_below _ _ _).trans (Hb.out.mono (by simp; omega))).setCell (Nat.le_refl _) _) _) (by omega) _⟩
  exact results_cell_row Tryz.results44 _ _ (w.heap.size + 1) 39 _ (0, 0) _ rfl ((KT.drewN nq).row _) Tryz.underlying39 rfl (by rw [kc_size]; exact info23)
 ·have hb1 : bit k i = 1 := by omega
  have e : (((bit k i : Nat) : Int) == 0) = false := by rw [hb1]; rfl
  have e1 : (((bit k i : Nat) : Int) == 1) = true := by rw [hb1]; rfl
  have HF : Hid (upd k (i / 8) (k (i / 8) - msk i) = flip k i) := flip_one hk hb1
  have hsum : msk i ≤ k (i / 8) := by
   have h1 : k (i / 8) / msk i % 2 = 1 := hb1
   exact Nat.le_of_not_lt fun h => by rw [Nat.div_eq_of_lt h] at h1; cases h1
  clear hl hb0 hb1
  go_enter Tryz.func44, Tryz.ntmps44
  go_wp2_with fail
  refine (rbit_yes k hk i _ h).mono ?_
  rintro e w1 ⟨rfl, hb⟩
  have KA := (KeyAt.two w k (.cells (kc kz) 39)).below hb (by simp; omega)
  have KB := (KeyAt.two' w kz (.cells (kc k) 39)).below hb (by simp)
  have ca := KA.cell (j := i / 8) (by omega)
  have fa := KA.free (i / 8)
  have Hb := Lib.hid hb
  clear hb
  have KS : KeyAt (w1.setCell ⟨w.heap.size, i / 8, none⟩ (.int .u8 ((k (i / 8) : Int) - msk i))) w.heap.size (flip k i) := by
   have := KA.set (i / 8) (k (i / 8) - msk i)
   rw [HF.out] at this
   rwa [Int.ofNat_sub hsum] at this
  have KT : KeyAt (w1.setCell ⟨w.heap.size, i / 8, none⟩ (.int .u8 ((k (i / 8) : Int) - msk i))) (w.heap.size + 1) kz := KB.set_other (by omega) _ _
  have ls := fun n => (KS.drewN n).ld
  have st := fun n => (KT.drewN n).st (flip k i)
  go_wp2_with fail
  refine wp_region_drawn_tail 12 (by kernel_rfl) (by kernel_rfl) ?_
  simp only [List.take_succ_cons, List.take_zero, List.drop_succ_cons, List.drop_zero]
  repeat (go_big_quiet_step ((go_at_call 70; exact Calls.quiet_of_same ((value_c _ _).mono fun _ _ ⟨a, b⟩ => ⟨a, b.symm⟩))))
  refine wpQuiet_nil ?_
  rintro _ ⟨nq, rfl⟩
  go_wp2
  refine bodyPost_ret (v := .agg (kc (flip k i))) ?_ rfl ⟨rfl, below_row (below_drewN (((two_below _ _ _).trans (Hb.out.mono (by simp; omega))).setCell (Nat.le_refl _) _) _) (by omega) _⟩
  exact results_cell_row Tryz.results44 _ _ (w.heap.size + 1) 39 _ (0, 0) _ rfl ((KT.drewN nq).row _) Tryz.underlying39 rfl (by rw [kc_size]; exact info23)
theorem rflip_c (k : Nat → Nat) (hk : Byt k) (i : Int) (w : World) :
  Calls Tryz.prog 44 #[.agg (kc k), .int .i64 i] w fun e w' => e = .returned (.agg (kc (flipI k i))) ∧ Below w.heap.size w w' := by
 unfold flipI
 by_cases h : 0 ≤ i ∧ i < 256
 ·rw [if_pos h]
  obtain ⟨n, rfl⟩ := Int.eq_ofNat_of_zero_le h.1
  rw [Int.toNat_natCast]
  exact rflip_yes k hk n w (by omega)
 ·rw [if_neg h]
  exact rflip_no k i w (by omega)
theorem rprefix_neg (k : Nat → Nat) (hk : Byt k) (i : Int) (w : World) (hneg : i < 0) :
  Calls Tryz.prog 95 #[.agg (kc k), .int .i64 i] w fun e w' => e = .returned (.agg (kc (pre k (0)))) ∧ Below w.heap.size w w' := by
 go_enter Tryz.func95, Tryz.ntmps95
 go_wp2
 go_loopw [5] (fun j wr => ∃ m : Nat, 0 ≤ m ∧ m ≤ 256 ∧ j = .int .i64 ((m : Int) - 1) ∧ KeyAt wr w.heap.size (pre k m) ∧ KeyAt wr (w.heap.size + 1) kz ∧ Below w.heap.size w wr) (fun j _ => (intOf j + 1).toNat)
 case atStart => exact ⟨256, by omega, by omega, rfl, (KeyAt.two w k _).congr (fun j hj => (pre_256 k j hj).symm), KeyAt.two' w kz _, two_below _ _ _⟩
 case round =>
  obtain ⟨m, h1, h2, rfl, KA, KB, hB⟩ := hrel
  have HB := Lib.hid hB
  clear hB
  by_cases hlt : 0 < m
  ·obtain ⟨q, rfl⟩ : ∃ q, m = q + 1 := ⟨m - 1, by omega⟩
   rw [show (((q + 1 : Nat) : Int) - 1) = (q : Int) by omega]
   obtain ⟨p, hp⟩ : ∃ p, p = pre k (q + 1) := ⟨_, rfl⟩
   have hpb : Byt p := hp ▸ pre_byt hk _
   rw [← hp] at KA
   have HP := Lib.hid hp
   clear hp
   have la := KA.ld
   have hl := bit_lt p q
   by_cases hb1 : bit p q = 1
   ·have e : (((bit p q : Nat) : Int) == 1) = true := by rw [hb1]; rfl
    have HBit := Lib.hid hb1
    clear hb1 hl
    go_wp2_with fail
    refine (rbit_yes p hpb q _ (by omega)).mono ?_
    rintro e w2 ⟨rfl, hb⟩
    have KA2 := KA.below hb KA.lt
    have KB2 := KB.below hb KB.lt
    have la2 := KA2.ld
    have H2 := Lib.hid hb
    clear hb
    go_wp2_with fail
    refine (rflip_yes p hpb q _ (by omega)).mono ?_
    rintro e w3 ⟨rfl, hb⟩
    have KA3 := KA2.below hb KA2.lt
    have KB3 := KB2.below hb KB2.lt
    have sa := KA3.st (flip p q)
    have H3 := Lib.hid hb
    clear hb
    have hs : w.heap.size ≤ _ := HB.out.size
    go_wp2
    go_roundw
    case rel =>
     refine ⟨q, by omega, by omega, rfl, ?_, KB3.row_other (by omega) _, ?_⟩
     ·refine (KA3.row _).congr fun j hj => ?_
      have hbit := HBit.out
      rw [HP.out] at hbit ⊢
      exact pre_step_one hk hbit j hj
     ·exact below_row ((HB.out.trans (H2.out.mono hs)).trans (H3.out.mono (Nat.le_trans hs H2.out.size))) (Nat.le_refl _) _
    case measure => simp [intOf]
   ·have e : (((bit p q : Nat) : Int) == 1) = false := by rw [show bit p q = 0 by omega]; rfl
    have HBit : Hid (bit p q = 0) := by show bit p q = 0; omega
    clear hb1 hl
    go_wp2_with fail
    refine (rbit_yes p hpb q _ (by omega)).mono ?_
    rintro e w2 ⟨rfl, hb⟩
    have KA2 := KA.below hb KA.lt
    have KB2 := KB.below hb KB.lt
    have H2 := Lib.hid hb
    clear hb
    have hs : w.heap.size ≤ _ := HB.out.size
    go_wp2
    go_roundw
    case rel =>
     refine ⟨q, by omega, by omega, rfl, ?_, KB2, HB.out.trans (H2.out.mono hs)⟩
     refine KA2.congr fun j hj => ?_
     have hbit := HBit.out
     rw [HP.out] at hbit ⊢
     exact pre_step_zero hk hbit j hj
    case measure => simp [intOf]
  ·have hm : Hid (m = 0) := by show m = 0; omega
   have la := KA.ld
   have sb := KB.st (pre k m)
   go_wp2
   refine bodyPost_ret (v := .agg (kc (pre k m))) ?_ rfl ⟨by rw [hm.out], below_row HB.out (by omega) _⟩
   exact results_cell_row Tryz.results95 _ _ (w.heap.size + 1) 39 _ (0, 0) _ rfl (KB.row _) Tryz.underlying39 rfl (by rw [kc_size]; exact info23)
theorem rprefix_in (k : Nat → Nat) (hk : Byt k) (n : Nat) (w : World) (hn : n ≤ 256) :
  Calls Tryz.prog 95 #[.agg (kc k), .int .i64 n] w fun e w' => e = .returned (.agg (kc (pre k (n)))) ∧ Below w.heap.size w w' := by
 go_enter Tryz.func95, Tryz.ntmps95
 go_wp2
 go_loopw [5] (fun j wr => ∃ m : Nat, n ≤ m ∧ m ≤ 256 ∧ j = .int .i64 ((m : Int) - 1) ∧ KeyAt wr w.heap.size (pre k m) ∧ KeyAt wr (w.heap.size + 1) kz ∧ Below w.heap.size w wr) (fun j _ => (intOf j + 1).toNat)
 case atStart => exact ⟨256, hn, by omega, rfl, (KeyAt.two w k _).congr (fun j hj => (pre_256 k j hj).symm), KeyAt.two' w kz _, two_below _ _ _⟩
 case round =>
  obtain ⟨m, h1, h2, rfl, KA, KB, hB⟩ := hrel
  have HB := Lib.hid hB
  clear hB
  by_cases hlt : n < m
  ·obtain ⟨q, rfl⟩ : ∃ q, m = q + 1 := ⟨m - 1, by omega⟩
   rw [show (((q + 1 : Nat) : Int) - 1) = (q : Int) by omega]
   obtain ⟨p, hp⟩ : ∃ p, p = pre k (q + 1) := ⟨_, rfl⟩
   have hpb : Byt p := hp ▸ pre_byt hk _
   rw [← hp] at KA
   have HP := Lib.hid hp
   clear hp
   have la := KA.ld
   have hl := bit_lt p q
   by_cases hb1 : bit p q = 1
   ·have e : (((bit p q : Nat) : Int) == 1) = true := by rw [hb1]; rfl
    have HBit := Lib.hid hb1
    clear hb1 hl
    go_wp2_with fail
    refine (rbit_yes p hpb q _ (by omega)).mono ?_
    rintro e w2 ⟨rfl, hb⟩
    have KA2 := KA.below hb KA.lt
    have KB2 := KB.below hb KB.lt
    have la2 := KA2.ld
    have H2 := Lib.hid hb
    clear hb
    go_wp2_with fail
    refine (rflip_yes p hpb q _ (by omega)).mono ?_
    rintro e w3 ⟨rfl, hb⟩
    have KA3 := KA2.below hb KA2.lt
    have KB3 := KB2.below hb KB2.lt
    have sa := KA3.st (flip p q)
    have H3 := Lib.hid hb
    clear hb
    have hs : w.heap.size ≤ _ := HB.out.size
    go_wp2
    go_roundw
    case rel =>
     refine ⟨q, by omega, by omega, rfl, ?_, KB3.row_other (by omega) _, ?_⟩
     ·refine (KA3.row _).congr fun j hj => ?_
      have hbit := HBit.out
      rw [HP.out] at hbit ⊢
      exact pre_step_one hk hbit j hj
     ·exact below_row ((HB.out.trans (H2.out.mono hs)).trans (H3.out.mono (Nat.le_trans hs H2.out.size))) (Nat.le_refl _) _
    case measure => simp [intOf]
   ·have e : (((bit p q : Nat) : Int) == 1) = false := by rw [show bit p q = 0 by omega]; rfl
    have HBit : Hid (bit p q = 0) := by show bit p q = 0; omega
    clear hb1 hl
    go_wp2_with fail
    refine (rbit_yes p hpb q _ (by omega)).mono ?_
    rintro e w2 ⟨rfl, hb⟩
    have KA2 := KA.below hb KA.lt
    have KB2 := KB.below hb KB.lt
    have H2 := Lib.hid hb
    clear hb
    have hs : w.heap.size ≤ _ := HB.out.size
    go_wp2
    go_roundw
    case rel =>
     refine ⟨q, by omega, by omega, rfl, ?_, KB2, HB.out.trans (H2.out.mono hs)⟩
     refine KA2.congr fun j hj => ?_
     have hbit := HBit.out
     rw [HP.out] at hbit ⊢
     exact pre_step_zero hk hbit j hj
    case measure => simp [intOf]
  ·have hm : Hid (m = n) := by show m = n; omega
   have la := KA.ld
   have sb := KB.st (pre k m)
   go_wp2
   refine bodyPost_ret (v := .agg (kc (pre k m))) ?_ rfl ⟨by rw [hm.out], below_row HB.out (by omega) _⟩
   exact results_cell_row Tryz.results95 _ _ (w.heap.size + 1) 39 _ (0, 0) _ rfl (KB.row _) Tryz.underlying39 rfl (by rw [kc_size]; exact info23)
theorem rprefix_far (k : Nat → Nat) (i : Int) (w : World) (hi : 256 ≤ i) :
  Calls Tryz.prog 95 #[.agg (kc k), .int .i64 i] w fun e w' => e = .returned (.agg (kc (pre k 256))) ∧ Below w.heap.size w w' := by
 have hn : ¬ i < 0 := by omega
 go_enter Tryz.func95, Tryz.ntmps95
 go_wp2
 go_loopw [5] (fun j wr => j = .int .i64 255 ∧ wr = (w.alloc (.cells (kc k) 39)).alloc (.cells (kc kz) 39)) (fun _ _ => 0)
 case atStart => exact ⟨rfl, rfl⟩
 case round =>
  obtain ⟨rfl, rfl⟩ := hrel
  have h5 : ¬ i ≤ 255 := by omega
  go_wp2
  refine bodyPost_ret (v := .agg (kc k)) ?_ rfl ⟨by rw [kc_congr (pre_256 k)], two_below _ _ _⟩
  exact results_cell_row Tryz.results95 _ _ (w.heap.size + 1) 39 _ (0, 0) _ rfl (heap_alloc2_new w _ _) Tryz.underlying39 rfl (by rw [kc_size]; exact info23)
theorem rprefix_c (k : Nat → Nat) (hk : Byt k) (i : Int) (w : World) :
  Calls Tryz.prog 95 #[.agg (kc k), .int .i64 i] w fun e w' => e = .returned (.agg (kc (pre k (lim i)))) ∧ Below w.heap.size w w' := by
 by_cases h : i < 0
 ·rw [show lim i = 0 by unfold lim; omega]
  exact rprefix_neg k hk i w h
 ·by_cases h2 : 256 ≤ i
  ·rw [show lim i = 256 by unfold lim; omega]
   exact rprefix_far k i w h2
  ·obtain ⟨n, rfl⟩ := Int.eq_ofNat_of_zero_le (show 0 ≤ i by omega)
   rw [show lim n = n by unfold lim; omega]
   exact rprefix_in k hk n w (by omega)
end Go.Proofs.YtmfbhohjpkmllaaGreatDoor.Bt
namespace Go.Proofs.YtmfbhohjpkmllaaGreatDoor.Bt
open Go.RowKit
theorem rcompare_c (a b : Nat → Nat) (w : World) :
  Calls Tryz.prog 66 #[.agg (kc a), .agg (kc b)] w fun e w' => e = .returned (.int .i64 (cmp a b)) ∧ Below w.heap.size w w' := by
 go_enter Tryz.func66, Tryz.ntmps66
 go_wp2
 go_loopw [5] (fun i wr => ∃ m n : Nat, m ≤ 32 ∧ i = .int .i64 m ∧ Hid (∀ j, j < m → a j = b j) ∧ wr = ((w.alloc (.cells (kc a) 39)).alloc (.cells (kc b) 39)).drewN n) (fun i _ => 32 - (intOf i).toNat)
 case atStart => exact ⟨0, 0, by omega, rfl, fun j hj => absurd hj (Nat.not_lt_zero j), rfl⟩
 case round =>
  obtain ⟨m, n, h1, rfl, HM, rfl⟩ := hrel
  by_cases hlt : m < 32
  ·have ca := key_cell2 w (.cells (kc b) 39) a m hlt
   have cb := key_cell1 w (.cells (kc a) 39) b m hlt
   by_cases hl : a m < b m
   ·have HE : Hid (cmp a b = -1) := by show cmp a b = -1; rw [cmp_at hlt HM.out (by omega), if_pos hl]
    have hd : decide ((a m : Int) < b m) = true := by simp; omega
    go_wp2_with fail
    go_quiet (fail)
    go_wp2
    go_ret
    exact ⟨ret_int (by rw [HE.out]), below_drewN (below_drewN (two_below _ _ _) _) _⟩
   ·have hd : decide ((a m : Int) < b m) = false := by simp; omega
    by_cases hg : b m < a m
    ·have HE : Hid (cmp a b = 1) := by show cmp a b = 1; rw [cmp_at hlt HM.out (by omega), if_neg hl]
     have hd' : decide ((b m : Int) < a m) = true := by simp; omega
     go_wp2_with fail
     go_quiet (fail)
     go_wp2_with fail
     go_quiet (fail)
     go_wp2
     go_ret
     exact ⟨ret_int (by rw [HE.out]), below_drewN (below_drewN (below_drewN (two_below _ _ _) _) _) _⟩
    ·have hd' : decide ((b m : Int) < a m) = false := by simp; omega
     have HE : Hid (a m = b m) := by show a m = b m; omega
     go_wp2_with fail
     go_quiet (fail)
     go_wp2_with fail
     go_quiet (fail)
     go_wp2
     go_roundw
     case rel =>
      refine ⟨m + 1, _, by omega, by go_num, fun j hj => ?_, rfl⟩
      rcases Nat.lt_or_ge j m with h | h
      ·exact HM.out j h
      ·rw [show j = m by omega]; exact HE.out
     case measure => simp [intOf]; omega
  ·go_wp2
   go_ret
   exact ⟨ret_int (by rw [cmp_eq fun j hj => HM.out j (by omega)]), below_drewN (two_below _ _ _) _⟩
end Go.Proofs.YtmfbhohjpkmllaaGreatDoor.Bt
namespace Go.Proofs.YtmfbhohjpkmllaaGreatDoor.Bt
open Go.RowKit
theorem rcommon_c (a b : Nat → Nat) (ha : Byt a) (hb : Byt b) (w : World) :
  Calls Tryz.prog 68 #[.agg (kc a), .agg (kc b)] w fun e w' => e = .returned (.int .i64 (common a b)) ∧ Below w.heap.size w w' := by
 go_enter Tryz.func68, Tryz.ntmps68
 go_wp2
 go_loopw [5] (fun i wr => ∃ m : Nat, m ≤ 256 ∧ i = .int .i64 m ∧ Hid (∀ j, j < m → bit a j = bit b j) ∧ ∃ x : Later ((w.alloc (.cells (kc a) 39)).alloc (.cells (kc b) 39)), wr = x.w) (fun i _ => 256 - (intOf i).toNat)
 case atStart => exact ⟨0, by omega, rfl, fun j hj => absurd hj (Nat.not_lt_zero j), ⟨_, Below.refl _ _⟩, rfl⟩
 case round =>
  obtain ⟨m, h1, rfl, HM, x, rfl⟩ := hrel
  have la : ∀ y : Later x.w, ldKey y.w (.pointer (some ⟨w.heap.size, 0, none⟩)) = .ok (.value (.agg (kc a))) y.w := fun y => ldKey_of (y.block (x.block (heap_alloc2_old w _ _)))
  have lb : ∀ y : Later x.w, ldKey y.w (.pointer (some ⟨w.heap.size + 1, 0, none⟩)) = .ok (.value (.agg (kc b))) y.w := fun y => ldKey_of (y.block (x.block (heap_alloc2_new w _ _)))
  by_cases hlt : m < 256
  ·have ea : bitI a m = bit a m := by unfold bitI; rw [if_pos ⟨by omega, by omega⟩]; simp
   have eb : bitI b m = bit b m := by unfold bitI; rw [if_pos ⟨by omega, by omega⟩]; simp
   have hd : decide ((m : Int) < 256) = true := by simp; omega
   by_cases hab : bit a m = bit b m
   ·have e : (bitI a m == bitI b m) = true := by rw [ea, eb, hab]; simp
    have HE := Lib.hid hab
    clear hab ea eb
    go_wp2_with fail
    refine wp_region_later (by kernel_rfl) (by kernel_rfl) ?_
    repeat (go_big_quiet_step ((go_at_call 49; exact Later.call (rbit_c _ (by assumption) _ _))))
    refine wpQuiet_nil ?_
    rintro _ ⟨y, rfl⟩
    clear la lb
    go_wp2
    go_roundw
    case rel =>
     refine ⟨m + 1, by omega, by go_num, fun j hj => ?_, ⟨_, x.h.trans (y.h.mono x.h.size)⟩, rfl⟩
     rcases Nat.lt_or_ge j m with h | h
     ·exact HM.out j h
     ·rw [show j = m by omega]; exact HE.out
    case measure => simp [intOf]; omega
   ·have e : (bitI a m == bitI b m) = false := by rw [ea, eb]; simp; omega
    have HE := Lib.hid hab
    clear hab ea eb
    go_wp2_with fail
    refine wp_region_later (by kernel_rfl) (by kernel_rfl) ?_
    repeat (go_big_quiet_step ((go_at_call 49; exact Later.call (rbit_c _ (by assumption) _ _))))
    refine wpQuiet_nil ?_
    rintro _ ⟨y, rfl⟩
    clear la lb
    go_wp2
    go_ret
    exact ⟨ret_int (by rw [common_eq h1 HM.out fun _ => HE.out]), x.two.trans (y.h.mono (Nat.le_trans (by simp; omega) x.h.size))⟩
  ·have hd : decide ((m : Int) < 256) = false := by simp; omega
   go_wp2_with fail
   refine wp_region_later (by kernel_rfl) (by kernel_rfl) ?_
   repeat (go_big_quiet_step (fail))
   refine wpQuiet_nil ?_
   rintro _ ⟨y, rfl⟩
   clear la lb
   go_wp2
   go_ret
   exact ⟨ret_int (by rw [common_eq h1 HM.out fun h => absurd h hlt]), x.two.trans (y.h.mono (Nat.le_trans (by simp; omega) x.h.size))⟩
end Go.Proofs.YtmfbhohjpkmllaaGreatDoor.Bt
namespace Go.Proofs.YtmfbhohjpkmllaaGreatDoor.Bt
open Go.RowKit
theorem bit_no (k : Nat → Nat) (i : Int) (w : World) (h : i < 0 ∨ 256 ≤ i) :
  Calls Tryz.prog 77 #[.agg (kc k), .int .i64 i] w fun e w' => e = .returned (.int .i64 (-1)) ∧ Below w.heap.size w w' := by
 go_enter Tryz.func77, Tryz.ntmps77
 go_wp2_with fail
 refine (isNumber_no i _ h).mono ?_
 rintro e w' ⟨rfl, rfl⟩
 go_wp2
 go_ret
 exact ⟨rfl, (Below.refl _ _).alloc (Nat.le_refl _) _⟩
theorem bit_yes (k : Nat → Nat) (hk : Byt k) (i : Nat) (w : World) (h : i < 256) :
  Calls Tryz.prog 77 #[.agg (kc k), .int .i64 i] w fun e w' => e = .returned (.int .i64 (bit k i)) ∧ Below w.heap.size w w' := by
 have hc := key_cell w k (i / 8) (by omega)
 have ha := u8_and_nat (k (i / 8)) (msk i) (hk _) (msk_lt i)
 have hz := and_msk_zero (k (i / 8)) i (hk _)
 have hl := bit_lt k i
 clear hk
 by_cases hb : bit k i = 0
 ·have e : (((k (i / 8) &&& msk i : Nat) : Int) == 0) = true := by
   have := hz.2 hb
   simp [this]
  have HB : Hid (bit k i = 0) := hb
  clear hz hb hl
  go_enter Tryz.func77, Tryz.ntmps77
  go_wp2_with fail
  refine (isNumber_yes i _ (by omega) (by omega)).mono ?_
  rintro e w' ⟨rfl, rfl⟩
  go_wp2_with fail
  go_quiet ((go_at_call 101; exact Calls.quiet_of_same ((mask_c _ _).mono fun _ _ ⟨a, b⟩ => ⟨a, b.symm⟩)))
  go_wp2
  go_ret
  exact ⟨ret_int (by rw [HB.out]; rfl), below_drewN ((Below.refl _ _).alloc (Nat.le_refl _) _) _⟩
 ·have e : (((k (i / 8) &&& msk i : Nat) : Int) == 0) = false := by
   have : ¬ (k (i / 8) &&& msk i = 0) := fun hh => hb (hz.1 hh)
   simpa using this
  have HB : Hid (bit k i = 1) := by show bit k i = 1; omega
  clear hz hb hl
  go_enter Tryz.func77, Tryz.ntmps77
  go_wp2_with fail
  refine (isNumber_yes i _ (by omega) (by omega)).mono ?_
  rintro e w' ⟨rfl, rfl⟩
  go_wp2_with fail
  go_quiet ((go_at_call 101; exact Calls.quiet_of_same ((mask_c _ _).mono fun _ _ ⟨a, b⟩ => ⟨a, b.symm⟩)))
  go_wp2
  go_ret
  exact ⟨ret_int (by rw [HB.out]; rfl), below_drewN ((Below.refl _ _).alloc (Nat.le_refl _) _) _⟩
theorem bit_c (k : Nat → Nat) (hk : Byt k) (i : Int) (w : World) :
  Calls Tryz.prog 77 #[.agg (kc k), .int .i64 i] w fun e w' => e = .returned (.int .i64 (bitI k i)) ∧ Below w.heap.size w w' := by
 unfold bitI
 by_cases h : 0 ≤ i ∧ i < 256
 ·rw [if_pos h]
  obtain ⟨n, rfl⟩ := Int.eq_ofNat_of_zero_le h.1
  rw [Int.toNat_natCast]
  exact bit_yes k hk n w (by omega)
 ·rw [if_neg h]
  exact bit_no k i w (by omega)
end Go.Proofs.YtmfbhohjpkmllaaGreatDoor.Bt
namespace Go.Proofs.YtmfbhohjpkmllaaGreatDoor.Bt
open Go.RowKit
theorem leadingZeros_c (d : Nat) (hd : d < 256) (w : World) :
  Calls Tryz.prog 112 #[.int .u8 d] w fun e w' => e = .returned (.int .i64 (lz d)) ∧ w = w' := by
 go_enter Tryz.func112, Tryz.ntmps112
 go_wp2
 go_loop [3, 4] (fun _ i => ∃ m : Nat, m ≤ 8 ∧ i = .int .i64 m ∧ Hid (∀ j, j < m → d / msk j % 2 = 0)) (fun _ i => 8 - (intOf i).toNat)
 case atStart => exact ⟨0, by omega, rfl, fun j hj => absurd hj (Nat.not_lt_zero j)⟩
 case round =>
  obtain ⟨m, h1, rfl, HM⟩ := hrel
  have ha := u8_and_nat d (msk m) hd (msk_lt m)
  have hz := and_msk_zero d m hd
  by_cases hlt : m < 8
  ·by_cases hb : d / msk m % 2 = 0
   ·have e : (((d &&& msk m : Nat) : Int) != 0) = false := by
     have := hz.2 hb
     simp [this]
    have HB := Lib.hid hb
    clear hz hb
    go_wp2_with ((go_at_call 101; refine (mask_c _ _).mono ?_; rintro e w' ⟨rfl, rfl⟩))
    go_round
    case rel =>
     refine ⟨m + 1, by omega, by go_num, fun j hj => ?_⟩
     rcases Nat.lt_or_ge j m with h | h
     ·exact HM.out j h
     ·rw [show j = m by omega]; exact HB.out
    case measure => simp [intOf]; omega
   ·have e : (((d &&& msk m : Nat) : Int) != 0) = true := by
     have : ¬ (d &&& msk m = 0) := fun hh => hb (hz.1 hh)
     simpa using this
    have HB : Hid (d / msk m % 2 = 1) := by show d / msk m % 2 = 1; omega
    clear hz hb
    go_wp2_with ((go_at_call 101; refine (mask_c _ _).mono ?_; rintro e w' ⟨rfl, rfl⟩))
    go_ret
    exact ⟨ret_int (by rw [lz_eq h1 HM.out fun _ => HB.out]), rfl⟩
  ·clear hz ha
   go_wp2
   go_ret
   exact ⟨ret_int (by rw [lz_eq (n := 8) (by omega) (fun j hj => HM.out j (by omega)) (fun h => absurd h (by decide))]; rfl), rfl⟩
theorem common_c (a b : Nat → Nat) (ha : Byt a) (hb : Byt b) (w : World) :
  Calls Tryz.prog 92 #[.agg (kc a), .agg (kc b)] w fun e w' => e = .returned (.int .i64 (common a b)) ∧ Below w.heap.size w w' := by
 go_enter Tryz.func92, Tryz.ntmps92
 go_wp2
 go_loopw [5, 6, 7] (fun _ _ i wr => ∃ m n : Nat, m ≤ 32 ∧ i = .int .i64 m ∧ Hid (∀ j, j < m → a j = b j) ∧ wr = ((w.alloc (.cells (kc a) 39)).alloc (.cells (kc b) 39)).drewN n) (fun _ _ i _ => 32 - (intOf i).toNat)
 case atStart => exact ⟨0, 0, by omega, rfl, fun j hj => absurd hj (Nat.not_lt_zero j), rfl⟩
 case round =>
  obtain ⟨m, n, h1, rfl, HM, rfl⟩ := hrel
  by_cases hlt : m < 32
  ·have ca := key_cell2 w (.cells (kc b) 39) a m hlt
   have cb := key_cell1 w (.cells (kc a) 39) b m hlt
   have hx := u8_xor_nat (a m) (b m) (ha m) (hb m)
   have hd : a m ^^^ b m < 256 := Nat.xor_lt_two_pow (n := 8) (ha m) (hb m)
   by_cases hab : a m = b m
   ·have e : (((a m ^^^ b m : Nat) : Int) != 0) = false := by rw [hab]; simp
    have HE := Lib.hid hab
    clear hab
    go_wp2_with fail
    go_quiet (fail)
    go_wp2
    go_roundw
    case rel =>
     refine ⟨m + 1, _, by omega, by go_num, fun j hj => ?_, rfl⟩
     rcases Nat.lt_or_ge j m with h | h
     ·exact HM.out j h
     ·rw [show j = m by omega]; exact HE.out
    case measure => simp [intOf]; omega
   ·have e : (((a m ^^^ b m : Nat) : Int) != 0) = true := by
     have : ¬ (a m ^^^ b m = 0) := fun h => hab (by have := congrArg (· ^^^ b m) h; simpa [Nat.xor_assoc] using this)
     simpa using this
    have HE := Lib.hid hab
    have hl : lz (a m ^^^ b m) ≤ 8 := (lz_spec _).1
    clear hab
    go_wp2_with fail
    go_quiet (fail)
    go_wp2_with ((go_at_call 112; refine (leadingZeros_c _ (by assumption) _).mono ?_; rintro e w' ⟨rfl, rfl⟩))
    go_ret
    exact ⟨ret_int (by rw [common_byte ha hb hlt HM.out HE.out]; simp), below_drewN (two_below _ _ _) _⟩
  ·go_wp2
   go_ret
   exact ⟨ret_int (by rw [common_all fun j hj => HM.out j (by omega)]; rfl), below_drewN (two_below _ _ _) _⟩
end Go.Proofs.YtmfbhohjpkmllaaGreatDoor.Bt
