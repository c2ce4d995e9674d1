import Derived.Test.YtmfbhohjpkmllaaGreatDoorIC
import Derived.Test.YtmfbhohjpkmllaaGreatDoorMM
import Derived.Test.YtmfbhohjpkmllaaGreatDoorIF
import Derived.Test.YtmfbhohjpkmllaaGreatDoorAhk
namespace Go.Proofs.YtmfbhohjpkmllaaGreatDoor
set_option linter.unusedSimpArgs false
set_option linter.unusedVariables false
section
open Go.RowKit
theorem prvM_fit (n : Int) : ∀ (f : Nat) (m : List Ent) (ks : List (List UInt8)) (d : Nat), fitR (prvM n f m ks d) ks d
 | f, [], ks, d => by
  rw [prvM_none]
  intro h
  exact absurd h (by show ¬ (0 : Int) = 3; decide)
 | f, e :: r, ks, d => by
  by_cases hk : ks = []
  ·subst hk
   rw [prvM_side n f (by simp)]
   exact fun _ => rfl
  ·match f, r with
   | 0, r =>
    rw [show prvM n 0 (e :: r) ks d = .leaf (itF n e) by show (if ks = [] then _ else _) = _; rw [if_neg hk]]
    intro h
    exact absurd h (by show ¬ (1 : Int) = 3; decide)
   | f + 1, [] =>
    rw [prvM_one n _ e hk]
    intro h
    exact absurd h (by show ¬ (1 : Int) = 3; decide)
   | f + 1, e2 :: r =>
    rw [prvM_two n f (by simp) hk]
    exact ⟨hk, prvM_fit n f _ _ _, prvM_fit n f _ _ _⟩
def Mt.inn : Mt → Nat
 | .leaf _ => 0
 | .node _ u v => u.inn + v.inn + 1
theorem Mt.flat_inn : ∀ t : Mt, t.flat.length = 2 * t.inn + 1
 | .leaf _ => rfl
 | .node x u v => by
  have hu := u.flat_inn
  have hv := v.flat_inn
  show (x :: (u.flat ++ v.flat)).length = 2 * (u.inn + v.inn + 1) + 1
  rw [List.length_cons, List.length_append]
  omega
def sumD (t : Mt) (d : Nat) : List (List UInt8) → Nat
 | [] => 0
 | k :: r => (depM k t d - d) + sumD t d r
theorem sumD_cons (t : Mt) (d : Nat) (k : List UInt8) (r : List (List UInt8)) : sumD t d (k :: r) = (depM k t d - d) + sumD t d r := rfl
theorem sumD_node (x : It) (u v : Mt) (d : Nat) : ∀ ks : List (List UInt8), sumD (.node x u v) d ks = ks.length + sumD u (d + 1) (side0 ks d) + sumD v (d + 1) (side1 ks d)
 | [] => rfl
 | k :: r => by
  have ih := sumD_node x u v d r
  have hu := depM_le k u (d + 1)
  have hv := depM_le k v (d + 1)
  rw [sumD_cons, ih]
  by_cases h : bitK k d = 1
  ·have e1 : depM k (.node x u v) d = depM k v (d + 1) := by rw [depM, if_pos h]
   have s0 : side0 (k :: r) d = side0 r d := by unfold side0; rw [List.filter_cons_of_neg (by simpa using h)]
   have s1 : side1 (k :: r) d = k :: side1 r d := by unfold side1; rw [List.filter_cons_of_pos (by simpa using h)]
   rw [e1, s0, s1, List.length_cons, sumD_cons v]
   omega
  ·have e1 : depM k (.node x u v) d = depM k u (d + 1) := by rw [depM, if_neg h]
   have s0 : side0 (k :: r) d = k :: side0 r d := by unfold side0; rw [List.filter_cons_of_pos (by simpa using h)]
   have s1 : side1 (k :: r) d = side1 r d := by unfold side1; rw [List.filter_cons_of_neg (by simpa using h)]
   rw [e1, s0, s1, List.length_cons, sumD_cons u]
   omega
theorem inn_le : ∀ (t : Mt) (ks : List (List UInt8)) (d : Nat), fitR t ks d → t.inn ≤ sumD t d ks
 | .leaf _, ks, d, _ => Nat.zero_le _
 | .node x u v, ks, d, h => by
  obtain ⟨h0, hu, hv⟩ := h
  have iu := inn_le u _ _ hu
  have iv := inn_le v _ _ hv
  rw [sumD_node]
  have : 0 < ks.length := List.length_pos_iff.2 h0
  show u.inn + v.inn + 1 ≤ _
  omega
def endI (n : Int) : List Ent → It
 | [] => itN
 | e :: _ => itF n e
theorem prvM_end (n : Int) (l : List Ent) (hs : Sep 0 l) (k : List UInt8) : ∀ (f : Nat) (ks : List (List UInt8)) (d : Nat), d + f = 256 → k ∈ ks →
  ∃ D, depM k (prvM n f (dK l k d) ks d) d = D ∧ d ≤ D ∧ D ≤ 256 ∧ (∀ j, d ≤ j → j < D → 2 ≤ (dK l k j).length) ∧ (dK l k D).length ≤ 1 ∧ finM k (prvM n f (dK l k d) ks d) d = endI n (dK l k D)
 | f, ks, d, hf, hk => by
  have hne : ks ≠ [] := fun h => by rw [h] at hk; cases hk
  match hm : dK l k d with
  | [] =>
   refine ⟨d, by rw [prvM_none]; rfl, Nat.le_refl _, by omega, fun j h1 h2 => by omega, by rw [hm]; exact Nat.zero_le _, by rw [prvM_none, hm]; rfl⟩
  | [e] =>
   refine ⟨d, by rw [prvM_one n f e hne]; rfl, Nat.le_refl _, by omega, fun j h1 h2 => by omega, by rw [hm]; exact Nat.le_refl _, by rw [prvM_one n f e hne, hm]; rfl⟩
  | e :: e2 :: r =>
   have hsd := dK_sep hs k d (by omega)
   have h2 : 2 ≤ (dK l k d).length := by rw [hm]; simp
   have hlt := hsd.two h2
   obtain ⟨f, rfl⟩ : ∃ f', f = f' + 1 := ⟨f - 1, by omega⟩
   rw [← hm, prvM_two n f h2 hne]
   by_cases hb : bitK k d = 1
   ·obtain ⟨D, h3, h4, h5, h6, h7, h8⟩ := prvM_end n l hs k f (side1 ks d) (d + 1) (by omega) (mem_side1.2 ⟨hk, hb⟩)
    have e1 : dK l k (d + 1) = partK (dK l k d) d 1 := by show partK (dK l k d) d (bitK k d) = _; rw [hb]
    rw [e1] at h3 h8
    refine ⟨D, by rw [depM, if_pos hb]; exact h3, by omega, h5, fun j h9 h10 => ?_, h7, by rw [finM, if_pos hb]; exact h8⟩
    rcases Nat.eq_or_lt_of_le h9 with rfl | h9
    ·exact h2
    ·exact h6 j h9 h10
   ·have hb0 : bitK k d = 0 := by
     have h := bitK_in k (d := (d : Int)) (by omega) (by omega)
     have := Bt.bit_lt (keyF k) ((d : Int)).toNat
     omega
    obtain ⟨D, h3, h4, h5, h6, h7, h8⟩ := prvM_end n l hs k f (side0 ks d) (d + 1) (by omega) (mem_side0.2 ⟨hk, hb⟩)
    have e1 : dK l k (d + 1) = partK (dK l k d) d 0 := by show partK (dK l k d) d (bitK k d) = _; rw [hb0]
    rw [e1] at h3 h8
    refine ⟨D, by rw [depM, if_neg hb]; exact h3, by omega, h5, fun j h9 h10 => ?_, h7, by rw [finM, if_neg hb]; exact h8⟩
    rcases Nat.eq_or_lt_of_le h9 with rfl | h9
    ·exact h2
    ·exact h6 j h9 h10
end
section
open Go.RowKit
theorem leads_at {n : Int} {l : List Ent} {T : Tv} {k : List UInt8} {ks : List (List UInt8)} (hI : IsMap l T) (hk : k ∈ ks) :
  depM k (prvM n 256 l ks 0) 0 = T.dep k 0 ∧ (finM k (prvM n 256 l ks 0) 0).k = kindT (T.fin k 0).tr ∧ (finM k (prvM n 256 l ks 0) 0).lf = leafV n (T.fin k 0).tr ∧ T.dep k 0 ≤ 256 := by
 obtain ⟨D, h1, _, h3, h4, h5, h6⟩ := prvM_end n l hI.sep k 256 ks 0 rfl hk
 have hd : T.dep k 0 = D := dep_eq hI.sep (hI.at k) (fun j hj => h4 j (Nat.zero_le _) hj) h5
 have i1 := (At.fin hI.sep T 0 (hI.at k)).1
 rw [hd] at i1
 have h1 : depM k (prvM n 256 l ks 0) 0 = D := h1
 have h6 : finM k (prvM n 256 l ks 0) 0 = endI n (dK l k D) := h6
 rw [h1, h6, hd]
 refine ⟨rfl, ?_⟩
 match hm : dK l k D with
 | [] => rw [i1.nil hm]; exact ⟨rfl, rfl, h3⟩
 | [e] => rw [i1.one hm]; exact ⟨rfl, rfl, h3⟩
 | _ :: _ :: _ => rw [hm] at h5; simp at h5
theorem sumD_append (t : Mt) (a b : List (List UInt8)) : sumD t 0 (a ++ b) = sumD t 0 a + sumD t 0 b := by
 induction a with
 | nil => exact (Nat.zero_add _).symm
 | cons k r ih =>
  show sumD t 0 (k :: (r ++ b)) = _
  rw [sumD_cons, sumD_cons, ih]
  omega
theorem sumD_take (t : Mt) (ks : List (List UInt8)) {j : Nat} {k : List UInt8} (h : ks[j]? = some k) : sumD t 0 (ks.take (j + 1)) = sumD t 0 (ks.take j) + depM k t 0 := by
 rw [List.take_add_one, h, sumD_append]
 show _ + sumD t 0 [k] = _
 rw [sumD_cons]
 show _ + (depM k t 0 - 0 + 0) = _
 omega
theorem leads_len (n : Int) (l : List Ent) (ks : List (List UInt8)) : (prvM n 256 l ks 0).flat.length ≤ 2 * sumD (prvM n 256 l ks 0) 0 ks + 1 := by
 rw [Mt.flat_inn]
 have := inn_le (prvM n 256 l ks 0) ks 0 (prvM_fit n 256 l ks 0)
 omega
theorem sumD_le (t : Mt) (B : Nat) : ∀ ks : List (List UInt8), (∀ k ∈ ks, depM k t 0 ≤ B) → sumD t 0 ks ≤ B * ks.length
 | [], _ => Nat.zero_le _
 | k :: r, h => by
  have h1 := h k (by simp)
  have h2 := sumD_le t B r fun x hx => h x (by simp [hx])
  rw [sumD_cons, List.length_cons, Nat.mul_add]
  omega
end
section
open Go.RowKit
def k9 : List UInt8 := 9 :: List.replicate 31 0
theorem bldKey_9 (w : World) : bldA 39 w #[(0, .int .u8 9)] = .ok (.value (.agg (bA k9))) w := by kernel_rfl
theorem bldKey_z19 (w : World) : bldA 39 w #[] = .ok (.value (.agg (bA z26))) w := by kernel_rfl
def one19 : List It := [itF 256 E0]
def tt19 : Mt := .node itI (.leaf (itF 256 E0)) (.leaf (itF 256 EF))
def two19 : List It := [itI, itF 256 E0, itF 256 EF]
theorem tt_flat : tt19.flat = two19 := rfl
theorem prv_one19 : (prvM 256 256 [E0] [k7, k9] 0).flat = one19 := by rw [prvM_one 256 256 E0 (by simp)]; rfl
theorem bit_z19 : bitK z26 0 = 0 := by decide
theorem prv_two19 : prvM 256 256 [E0, EF] [z26, k255] 0 = tt19 := by
 rw [prvM_two 256 255 (by simp) (by simp)]
 have p0 : partK [E0, EF] ((0 : Nat) : Int) 0 = [E0] := by simp [partK, E0, EF, bit_z19, bit_ff]
 have p1 : partK [E0, EF] ((0 : Nat) : Int) 1 = [EF] := by simp [partK, E0, EF, bit_z19, bit_ff]
 have s0 : side0 [z26, k255] 0 = [z26] := by simp [side0, bit_z19, bit_ff]
 have s1 : side1 [z26, k255] 0 = [k255] := by simp [side1, bit_z19, bit_ff]
 rw [p0, p1, s0, s1, prvM_one 256 255 E0 (by simp), prvM_one 256 255 EF (by simp)]
 rfl
theorem keys_79 : keysI [k7, k9] = 0 := by
 unfold keysI
 rw [if_neg (by simp), if_neg (by decide)]
 decide
theorem keys_0F : keysI [z26, k255] = 0 := by
 unfold keysI
 rw [if_neg (by simp), if_neg (by decide)]
 decide
theorem keys_nil19 : keysI [] = 10 := rfl
theorem tt_good : tt19.Good := by
 have := prvM_good 256 256 [E0, EF] [z26, k255] 0
 rwa [prv_two19] at this
theorem fit_19 : FitD tt19 [z26, k255] 0 0 := by
 have := prvM_fit 256 256 [E0, EF] [z26, k255] 0
 rw [prv_two19] at this
 exact (fit_iff tt19 _ 0 0 tt_good.1).2 this
theorem chk_two19 : chkI two19 = 0 := chkI_ok.2 ⟨tt19, tt_good, rfl⟩
theorem chk_take19 : chkI (two19.take 2) = 5 := by
 rcases chkI_cases (two19.take 2) with h | h | h
 ·unfold chkI at h
  rw [if_neg (by rintro ⟨x, hx, hk⟩; simp only [two19, List.take, List.mem_cons, List.not_mem_nil, or_false] at hx; rcases hx with rfl | rfl <;> revert hk <;> decide)] at h
  split at h <;> cases h
 ·exact h
 ·obtain ⟨t, _, ht⟩ := chkI_ok.1 h
  have h2 := t.flat_inn
  rw [← ht] at h2
  have h3 : (two19.take 2).length = 2 := rfl
  omega
theorem ends_19 : endsM tt19 [z26, k255] = [(itF 256 E0, 1), (itF 256 EF, 1)] := by
 unfold endsM
 simp [tt19, finM, depM, bit_z19, bit_ff]
theorem dig_19 (hs : Sep 0 [E0, EF]) : digM 256 tt19 = rootK 257 256 [E0, EF] 0 := by
 have := prvM_dig 256 256 [E0, EF] [z26, k255] 0 (.inr rfl) (fun e he => by
  simp only [List.mem_cons, List.not_mem_nil, or_false] at he
  rcases he with rfl | rfl <;> rfl) hs
 rwa [prv_two19] at this
end
end Go.Proofs.YtmfbhohjpkmllaaGreatDoor
