import Derived.Test.YtkejfdgmdjfdoaaGreatDoorM1
namespace Go.Proofs.YtkejfdgmdjfdoaaGreatDoor
set_option linter.unusedSimpArgs false
set_option linter.unusedVariables false
def acc (b : Nat → UInt8) (t : Nat) : Nat → UInt32
 | 0 => 0
 | k + 1 => (acc b t k <<< 8) ||| (b (4 * t + k)).toUInt32
def accw (b : Nat → UInt8) (n t : Nat) : UInt32 := acc b t (min 4 (n - 4 * t))
theorem accw_zero (b : Nat → UInt8) (t : Nat) : accw b 0 t = 0 := by simp [accw, acc]
theorem accw_here (b : Nat → UInt8) (n : Nat) : accw b (n + 1) (n / 4) = (accw b n (n / 4) <<< 8) ||| (b n).toUInt32 := by
 unfold accw
 rw [show min 4 (n + 1 - 4 * (n / 4)) = n % 4 + 1 by omega, show min 4 (n - 4 * (n / 4)) = n % 4 by omega, acc, show 4 * (n / 4) + n % 4 = n by omega]
theorem accw_other (b : Nat → UInt8) (n t : Nat) (h : t ≠ n / 4) : accw b (n + 1) t = accw b n t := by
 unfold accw
 congr 1
 omega
theorem word_bits (a b c d : UInt32) : (((((((0 : UInt32) <<< 8) ||| a) <<< 8) ||| b) <<< 8 ||| c) <<< 8) ||| d = (a <<< 24) ||| (b <<< 16) ||| (c <<< 8) ||| d := by
 apply UInt32.eq_of_toBitVec_eq
 simp only [UInt32.toBitVec_or, UInt32.toBitVec_shiftLeft]
 apply BitVec.eq_of_getLsbD_eq
 intro i hi
 simp [BitVec.getLsbD_or, BitVec.getLsbD_shiftLeft]
 by_cases h1 : i < 8
 ·simp [h1, show i < 16 by omega, show i < 24 by omega]
 ·by_cases h2 : i < 16
  ·simp [h1, h2, show i < 24 by omega, show i - 8 < 8 by omega]
  ·by_cases h3 : i < 24
   ·simp [h1, h2, h3, show ¬ i - 8 < 8 by omega, show i - 16 < 8 by omega, show i - 8 - 8 = i - 16 by omega, hi, show i - 8 < 32 by omega]
   ·simp [h1, h2, h3, show ¬ i - 8 < 8 by omega, show ¬ i - 16 < 8 by omega, show i - 8 - 8 = i - 16 by omega, show i - 16 - 8 = i - 24 by omega, hi, show i - 8 < 32 by omega, show i - 16 < 32 by omega]
theorem accw_end (b : Nat → UInt8) (t : Nat) (h : t < 16) : accw b 64 t = word b t := by
 unfold accw
 rw [show min 4 (64 - 4 * t) = 4 by omega]
 simp only [acc, word, be32]
 exact word_bits _ _ _ _
def sw (b : Nat → UInt8) (t : Nat) : UInt32 := (sched b).getD t 0
theorem grow_get (w : List UInt32) (k t : Nat) (h : t < w.length) : (grow w k).getD t 0 = w.getD t 0 := by
 induction k with
 | zero => rfl
 | succ k ih =>
  rw [grow]
  have := grow_len w k
  simp only [List.getD_eq_getElem?_getD] at ih ⊢
  rw [List.getElem?_append_left (by omega)]; exact ih
theorem grow_add (w : List UInt32) (j k : Nat) : grow w (j + k) = grow (grow w j) k := by
 induction k with
 | zero => rfl
 | succ k ih => rw [Nat.add_succ, grow, grow, ih]
theorem sw_early (b : Nat → UInt8) (k t : Nat) (hk : k ≤ 48) (h : t < 16 + k) : (grow (words b 16) k).getD t 0 = sw b t := by
 unfold sw sched
 rw [show 48 = k + (48 - k) by omega, grow_add, grow_get _ (48 - k) t (by rw [grow_len, words_len]; omega)]
theorem sw_word (b : Nat → UInt8) (t : Nat) (h : t < 16) : sw b t = word b t := by
 rw [← sw_early b 0 t (by omega) (by omega)]
 simp [grow, words, List.getD_eq_getElem?_getD, h]
theorem sw_step (b : Nat → UInt8) (i : Nat) (h : 16 ≤ i) (h2 : i < 64) : sw b i = sw b (i - 16) + sg0 (sw b (i - 15)) + sw b (i - 7) + sg1 (sw b (i - 2)) := by
 have hl : (grow (words b 16) (i - 16)).length = i := by rw [grow_len, words_len]; omega
 rw [← sw_early b (i - 16 + 1) i (by omega) (by omega), grow, List.getD_eq_getElem?_getD, List.getElem?_append_right (by omega), hl]
 simp only [Nat.sub_self, List.getElem?_cons_zero, Option.getD_some, ext, hl]
 rw [sw_early b _ _ (by omega) (by omega), sw_early b _ _ (by omega) (by omega), sw_early b _ _ (by omega) (by omega), sw_early b _ _ (by omega) (by omega)]
def beN (n X : Nat) : List UInt8 := (List.range n).map fun j => UInt8.ofNat (X / 2 ^ (8 * (n - 1 - j)))
theorem beN_len (n X : Nat) : (beN n X).length = n := by simp [beN]
theorem beN_at (n X j : Nat) (h : j < n) : (beN n X).getD j 0 = UInt8.ofNat (X / 2 ^ (8 * (n - 1 - j))) := by simp [beN, List.getD_eq_getElem?_getD, h]
theorem be64_eq (n : Nat) : be64 n = beN 8 n := by
 unfold be64 beN
 refine List.map_congr_left fun j hj => ?_
 have : j < 8 := by simpa using hj
 rw [show 56 - 8 * j = 8 * (8 - 1 - j) by omega]
theorem words_congr (f g : Nat → UInt8) (h : ∀ t, t < 64 → f t = g t) : words f 16 = words g 16 := by
 unfold words
 refine List.map_congr_left fun i hi => ?_
 have : i < 16 := by simpa using hi
 unfold word
 rw [h (4 * i) (by omega), h (4 * i + 1) (by omega), h (4 * i + 2) (by omega), h (4 * i + 3) (by omega)]
theorem blk_congr (s : S8) (f g : Nat → UInt8) (h : ∀ t, t < 64 → f t = g t) : blk s f = blk s g := by
 unfold blk sched
 rw [words_congr f g h]
theorem blks_congr (p q : List UInt8) (m : Nat) (h : ∀ t, t < 64 * m → p.getD t 0 = q.getD t 0) : blks p m = blks q m := by
 induction m with
 | zero => rfl
 | succ m ih =>
  rw [blks, blks, ih (fun t ht => h t (by omega))]
  exact blk_congr _ _ _ fun t ht => h _ (by omega)
def stOf (T : List UInt8) : S8 := blks T (T.length / 64)
def left (T : List UInt8) : List UInt8 := T.drop (64 * (T.length / 64))
theorem left_len (T : List UInt8) : (left T).length = T.length % 64 := by simp [left]; omega
theorem getD_app (T r : List UInt8) (t : Nat) (h : t < T.length) : (T ++ r).getD t 0 = T.getD t 0 := by
 simp only [List.getD_eq_getElem?_getD]
 rw [List.getElem?_append_left h]
theorem st_part (T r : List UInt8) (h : T.length % 64 + r.length < 64) : stOf (T ++ r) = stOf T ∧ left (T ++ r) = left T ++ r := by
 have e : (T ++ r).length / 64 = T.length / 64 := by rw [List.length_append]; omega
 unfold stOf left
 rw [e]
 refine ⟨blks_congr _ _ _ fun t ht => getD_app T r t (by omega), ?_⟩
 rw [List.drop_append_of_le_length (by omega)]
theorem st_full (T r : List UInt8) (h : T.length % 64 + r.length = 64) : stOf (T ++ r) = blk (stOf T) (fun t => (left T ++ r).getD t 0) ∧ left (T ++ r) = [] := by
 have e : (T ++ r).length / 64 = T.length / 64 + 1 := by rw [List.length_append]; omega
 unfold stOf
 constructor
 ·rw [e, blks, blks_congr (T ++ r) T _ fun t ht => getD_app T r t (by omega)]
  refine blk_congr _ _ _ fun t _ => ?_
  unfold left
  rw [← List.drop_append_of_le_length (by omega : 64 * (T.length / 64) ≤ T.length)]
  simp [List.getD_eq_getElem?_getD, List.getElem?_drop]
 ·unfold left
  rw [e]
  apply List.drop_eq_nil_of_le
  rw [List.length_append]; omega
def padTail (n : Nat) : List UInt8 := 128 :: (List.replicate (zeros n) 0 ++ beN 8 (8 * n))
theorem padL_eq (b : List UInt8) : padL b = b ++ padTail b.length := by unfold padL padTail; rw [be64_eq]
theorem padTail_len (n : Nat) : (padTail n).length = 64 * ((n + 72) / 64) - n := by
 unfold padTail zeros
 simp [beN_len]; omega
theorem sumL_eq (b : List UInt8) : sumL b = outB (stOf (padL b)) := rfl
end Go.Proofs.YtkejfdgmdjfdoaaGreatDoor
