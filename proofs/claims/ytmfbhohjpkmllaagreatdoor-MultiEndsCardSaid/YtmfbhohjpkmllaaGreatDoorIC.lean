import Derived.Test.YtmfbhohjpkmllaaGreatDoorIA
import Derived.Test.YtmfbhohjpkmllaaGreatDoorMM
import Derived.Test.YtmfbhohjpkmllaaGreatDoorLM
namespace Go.Proofs.YtmfbhohjpkmllaaGreatDoor
set_option linter.unusedSimpArgs false
set_option linter.unusedVariables false
set_option maxHeartbeats 8000000
set_option maxRecDepth 100000
section
open Go.RowKit
def side1 (ks : List (List UInt8)) (d : Nat) : List (List UInt8) := ks.filter fun k => decide (bitK k d = 1)
def side0 (ks : List (List UInt8)) (d : Nat) : List (List UInt8) := ks.filter fun k => !decide (bitK k d = 1)
theorem mem_side1 {ks : List (List UInt8)} {d : Nat} {k : List UInt8} : k ∈ side1 ks d ↔ k ∈ ks ∧ bitK k d = 1 := by simp [side1]
theorem mem_side0 {ks : List (List UInt8)} {d : Nat} {k : List UInt8} : k ∈ side0 ks d ↔ k ∈ ks ∧ ¬ bitK k d = 1 := by simp [side0]
def FitD (t : Mt) (ks : List (List UInt8)) (d a : Nat) : Prop := (∀ k ∈ ks, (finM k t d).k ≠ 3) ∧ ∀ i x, t.flat[i]? = some x → x.k = 2 → ∃ k ∈ ks, a + i ∈ (wayM k t d a).map (·.1)
def fitR : Mt → List (List UInt8) → Nat → Prop
 | .leaf x, ks, _ => x.k = 3 → ks = []
 | .node _ u v, ks, d => ks ≠ [] ∧ fitR u (side0 ks d) (d + 1) ∧ fitR v (side1 ks d) (d + 1)
theorem wayM_range (k : List UInt8) : ∀ (t : Mt) (d a : Nat), ∀ p ∈ wayM k t d a, a ≤ p.1 ∧ p.1 < a + t.flat.length
 | .leaf x, d, a, p, hp => by
  obtain rfl := List.mem_singleton.1 hp
  exact ⟨Nat.le_refl _, by simp [Mt.flat]⟩
 | .node x u v, d, a, p, hp => by
  have hl : (Mt.node x u v).flat.length = 1 + u.flat.length + v.flat.length := by simp [Mt.flat]; omega
  rw [hl]
  unfold wayM at hp
  rcases List.mem_cons.1 hp with rfl | hp
  ·exact ⟨Nat.le_refl _, by show a < _; omega⟩
  split at hp
  ·have := wayM_range k v _ _ p hp; omega
  ·have := wayM_range k u _ _ p hp; omega
theorem fit_iff : ∀ (t : Mt) (ks : List (List UInt8)) (d a : Nat), t.Shape → (FitD t ks d a ↔ fitR t ks d)
 | .leaf x, ks, d, a, hs => by
  constructor
  ·intro ⟨h1, _⟩ h3
   cases ks with
   | nil => rfl
   | cons k r => exact absurd h3 (h1 k (by simp))
  ·intro h
   refine ⟨fun k hk h3 => ?_, fun i y hi hy => ?_⟩
   ·have := h h3
    rw [this] at hk
    cases hk
   ·have : y = x := by
     cases i with
     | zero => simpa [Mt.flat] using hi.symm
     | succ i => simp [Mt.flat] at hi
    subst this
    exact absurd hy hs
 | .node x u v, ks, d, a, hs => by
  obtain ⟨hk2, hu, hv⟩ := hs
  have iu := fit_iff u (side0 ks d) (d + 1) (a + 1) hu
  have iv := fit_iff v (side1 ks d) (d + 1) (a + 1 + u.flat.length) hv
  have hw1 : ∀ k, bitK k d = 1 → wayM k (.node x u v) d a = (a, .node x u v) :: wayM k v (d + 1) (a + 1 + u.flat.length) := fun k h => by show (a, Mt.node x u v) :: (if bitK k d = 1 then _ else _) = _; rw [if_pos h]
  have hw0 : ∀ k, ¬ bitK k d = 1 → wayM k (.node x u v) d a = (a, .node x u v) :: wayM k u (d + 1) (a + 1) := fun k h => by show (a, Mt.node x u v) :: (if bitK k d = 1 then _ else _) = _; rw [if_neg h]
  have hf1 : ∀ k, bitK k d = 1 → finM k (.node x u v) d = finM k v (d + 1) := fun k h => by show (if bitK k d = 1 then _ else _) = _; rw [if_pos h]
  have hf0 : ∀ k, ¬ bitK k d = 1 → finM k (.node x u v) d = finM k u (d + 1) := fun k h => by show (if bitK k d = 1 then _ else _) = _; rw [if_neg h]
  have hfl : (Mt.node x u v).flat = x :: (u.flat ++ v.flat) := rfl
  show _ ↔ ks ≠ [] ∧ fitR u (side0 ks d) (d + 1) ∧ fitR v (side1 ks d) (d + 1)
  rw [← iu, ← iv]
  constructor
  ·intro ⟨h1, h2⟩
   refine ⟨?_, ⟨fun k hk => ?_, fun i y hi hy => ?_⟩, ⟨fun k hk => ?_, fun i y hi hy => ?_⟩⟩
   ·obtain ⟨k, hk, _⟩ := h2 0 x rfl hk2
    exact fun e => by rw [e] at hk; cases hk
   ·obtain ⟨h3, h4⟩ := mem_side0.1 hk
    have := h1 k h3
    rwa [hf0 k h4] at this
   ·have hi' : (Mt.node x u v).flat[i + 1]? = some y := by
     rw [hfl, List.getElem?_cons_succ, List.getElem?_append_left (List.getElem?_eq_some_iff.1 hi).1]; exact hi
    obtain ⟨k, hk, hm⟩ := h2 _ y hi' hy
    have hil := (List.getElem?_eq_some_iff.1 hi).1
    obtain ⟨p, hp, he⟩ := List.mem_map.1 hm
    by_cases hb : bitK k d = 1
    ·rw [hw1 k hb] at hp
     rcases List.mem_cons.1 hp with rfl | hp
     ·have : a = a + (i + 1) := he; omega
     ·have := wayM_range k v _ _ p hp; omega
    ·refine ⟨k, mem_side0.2 ⟨hk, hb⟩, ?_⟩
     rw [hw0 k hb] at hp
     rcases List.mem_cons.1 hp with rfl | hp
     ·have : a = a + (i + 1) := he; omega
     ·exact List.mem_map.2 ⟨p, hp, by omega⟩
   ·obtain ⟨h3, h4⟩ := mem_side1.1 hk
    have := h1 k h3
    rwa [hf1 k h4] at this
   ·have hi' : (Mt.node x u v).flat[u.flat.length + i + 1]? = some y := by
     rw [hfl, List.getElem?_cons_succ, List.getElem?_append_right (by omega), Nat.add_sub_cancel_left]; exact hi
    obtain ⟨k, hk, hm⟩ := h2 _ y hi' hy
    obtain ⟨p, hp, he⟩ := List.mem_map.1 hm
    by_cases hb : bitK k d = 1
    ·refine ⟨k, mem_side1.2 ⟨hk, hb⟩, ?_⟩
     rw [hw1 k hb] at hp
     rcases List.mem_cons.1 hp with rfl | hp
     ·have : a = a + (u.flat.length + i + 1) := he; omega
     ·exact List.mem_map.2 ⟨p, hp, by omega⟩
    ·rw [hw0 k hb] at hp
     rcases List.mem_cons.1 hp with rfl | hp
     ·have : a = a + (u.flat.length + i + 1) := he; omega
     ·have := wayM_range k u _ _ p hp; omega
  ·rintro ⟨h0, ⟨hu1, hu2⟩, hv1, hv2⟩
   refine ⟨fun k hk => ?_, fun i y hi hy => ?_⟩
   ·by_cases hb : bitK k d = 1
    ·rw [hf1 k hb]; exact hv1 k (mem_side1.2 ⟨hk, hb⟩)
    ·rw [hf0 k hb]; exact hu1 k (mem_side0.2 ⟨hk, hb⟩)
   ·cases i with
    | zero =>
     obtain ⟨k, hk⟩ := List.exists_mem_of_ne_nil _ h0
     refine ⟨k, hk, ?_⟩
     unfold wayM
     simp
    | succ i =>
     rw [hfl, List.getElem?_cons_succ] at hi
     rcases Nat.lt_or_ge i u.flat.length with hlt | hge
     ·rw [List.getElem?_append_left hlt] at hi
      obtain ⟨k, hk, hm⟩ := hu2 i y hi hy
      obtain ⟨h3, h4⟩ := mem_side0.1 hk
      refine ⟨k, h3, ?_⟩
      rw [hw0 k h4, List.map_cons]
      obtain ⟨p, hp, he⟩ := List.mem_map.1 hm
      exact List.mem_cons_of_mem _ (List.mem_map.2 ⟨p, hp, by omega⟩)
     ·rw [List.getElem?_append_right hge] at hi
      obtain ⟨k, hk, hm⟩ := hv2 _ y hi hy
      obtain ⟨h3, h4⟩ := mem_side1.1 hk
      refine ⟨k, h3, ?_⟩
      rw [hw1 k h4, List.map_cons]
      obtain ⟨p, hp, he⟩ := List.mem_map.1 hm
      exact List.mem_cons_of_mem _ (List.mem_map.2 ⟨p, hp, by omega⟩)
def itN : It := ⟨0, z26, z64⟩
def itI : It := ⟨2, z26, z64⟩
def itF (n : Int) (e : Ent) : It := ⟨1, z26, e.k ++ digL n (valL e.v)⟩
def itS (g : List UInt8) : It := ⟨3, g, z64⟩
def prvM (n : Int) : Nat → List Ent → List (List UInt8) → Nat → Mt
 | 0, m, ks, d => match m with
  | [] => .leaf itN
  | e :: _ => if ks = [] then .leaf (itS (rootK (257 - d) n m d)) else .leaf (itF n e)
 | f + 1, m, ks, d => match m with
  | [] => .leaf itN
  | [e] => if ks = [] then .leaf (itS (rootK (257 - d) n [e] d)) else .leaf (itF n e)
  | e :: e2 :: r => if ks = [] then .leaf (itS (rootK (257 - d) n (e :: e2 :: r) d)) else .node itI (prvM n f (partK (e :: e2 :: r) d 0) (side0 ks d) (d + 1)) (prvM n f (partK (e :: e2 :: r) d 1) (side1 ks d) (d + 1))
theorem prvM_none (n : Int) (f : Nat) (ks : List (List UInt8)) (d : Nat) : prvM n f [] ks d = .leaf itN := by cases f <;> rfl
theorem prvM_side (n : Int) (f : Nat) {m : List Ent} (hm : m ≠ []) (d : Nat) : prvM n f m [] d = .leaf (itS (rootK (257 - d) n m d)) := by
 match f, m, hm with
 | 0, e :: r, _ => rfl
 | f + 1, [e], _ => rfl
 | f + 1, e :: e2 :: r, _ => rfl
theorem prvM_one (n : Int) (f : Nat) (e : Ent) {ks : List (List UInt8)} (hk : ks ≠ []) (d : Nat) : prvM n f [e] ks d = .leaf (itF n e) := by
 cases f with
 | zero => show (if ks = [] then _ else _) = _; rw [if_neg hk]
 | succ f => show (if ks = [] then _ else _) = _; rw [if_neg hk]
theorem prvM_two (n : Int) (f : Nat) {m : List Ent} (hm : 2 ≤ m.length) {ks : List (List UInt8)} (hk : ks ≠ []) (d : Nat) :
  prvM n (f + 1) m ks d = .node itI (prvM n f (partK m d 0) (side0 ks d) (d + 1)) (prvM n f (partK m d 1) (side1 ks d) (d + 1)) := by
 match m, hm with
 | e :: e2 :: r, _ => show (if ks = [] then _ else _) = _; rw [if_neg hk]
theorem itS_good {g : List UInt8} : (itS g).good := ⟨⟨by show (0 : Int) ≤ 3; decide, by show (3 : Int) ≤ 3; decide⟩, ⟨fun h => absurd rfl h, fun _ => rfl⟩⟩
theorem itF_good {n : Int} {e : Ent} : (itF n e).good := ⟨⟨by show (0 : Int) ≤ 1; decide, by show (1 : Int) ≤ 3; decide⟩, ⟨fun _ => rfl, fun h => absurd rfl h⟩⟩
theorem itN_good : itN.good := ⟨by decide, ⟨fun _ => rfl, fun _ => rfl⟩⟩
theorem itI_good : itI.good := ⟨by decide, ⟨fun _ => rfl, fun _ => rfl⟩⟩
theorem prvM_good (n : Int) : ∀ (f : Nat) (m : List Ent) (ks : List (List UInt8)) (d : Nat), (prvM n f m ks d).Shape ∧ (prvM n f m ks d).ht ≤ f ∧ ∀ x ∈ (prvM n f m ks d).flat, x.good
 | f, [], ks, d => by
  rw [prvM_none]
  exact ⟨by show (0 : Int) ≠ 2; decide, Nat.zero_le _, fun x hx => by rw [List.mem_singleton.1 hx]; exact itN_good⟩
 | f, e :: r, ks, d => by
  by_cases hk : ks = []
  ·subst hk
   rw [prvM_side n f (by simp)]
   exact ⟨by show (3 : Int) ≠ 2; decide, Nat.zero_le _, fun x hx => by rw [List.mem_singleton.1 hx]; exact itS_good⟩
  ·match f, r with
   | 0, r =>
    have : prvM n 0 (e :: r) ks d = .leaf (itF n e) := by show (if ks = [] then _ else _) = _; rw [if_neg hk]
    rw [this]
    exact ⟨by show (1 : Int) ≠ 2; decide, Nat.zero_le _, fun x hx => by rw [List.mem_singleton.1 hx]; exact itF_good⟩
   | f + 1, [] =>
    rw [prvM_one n _ e hk]
    exact ⟨by show (1 : Int) ≠ 2; decide, Nat.zero_le _, fun x hx => by rw [List.mem_singleton.1 hx]; exact itF_good⟩
   | f + 1, e2 :: r =>
    rw [prvM_two n f (by simp) hk]
    have h0 := prvM_good n f (partK (e :: e2 :: r) d 0) (side0 ks d) (d + 1)
    have h1 := prvM_good n f (partK (e :: e2 :: r) d 1) (side1 ks d) (d + 1)
    refine ⟨⟨rfl, h0.1, h1.1⟩, by show max _ _ + 1 ≤ f + 1; omega, fun x hx => ?_⟩
    rcases List.mem_cons.1 hx with rfl | hx
    ·exact itI_good
    rcases List.mem_append.1 hx with hx | hx
    ·exact h0.2.2 x hx
    ·exact h1.2.2 x hx
theorem prvM_dig (n : Int) : ∀ (f : Nat) (m : List Ent) (ks : List (List UInt8)) (d : Nat), (m.length ≤ 1 ∨ d + f = 256) → (∀ e ∈ m, e.k.length = 32) → Sep (d : Int) m → digM n (prvM n f m ks d) = rootK (257 - d) n m d
 | f, [], ks, d, _, _, _ => by rw [prvM_none, rootK_none]; rfl
 | f, e :: r, ks, d, hf, hl, hs => by
  by_cases hk : ks = []
  ·subst hk
   rw [prvM_side n f (by simp)]; rfl
  ·match f, r, hf, hl, hs with
   | 0, [], _, _, _ => rw [prvM_one n 0 e hk, rootK_one]; rfl
   | 0, e2 :: r, hf, hl, hs =>
    exfalso
    have h256 : d = 256 := by
     rcases hf with h | h
     ·simp at h
     ·omega
    subst h256
    have := hs.two (by simp)
    omega
   | f + 1, [], _, _, _ => rw [prvM_one n _ e hk, rootK_one]; rfl
   | f + 1, e2 :: r, hf, hl, hs =>
    have hd : d + (f + 1) = 256 := by
     rcases hf with h | h
     ·simp at h
     ·exact h
    rw [prvM_two n f (by simp) hk, digM_node n _ _ rfl, show 257 - d = (257 - (d + 1)) + 1 by omega, rootK_two _ _ _ _ (by simp)]
    have p0 := hs.part (by omega) (by omega) 0
    have p1 := hs.part (by omega) (by omega) 1
    rw [prvM_dig n f (partK (e :: e2 :: r) d 0) (side0 ks d) (d + 1) (.inr (by omega)) (fun x hx => hl x (List.mem_filter.1 hx).1) (by exact_mod_cast p0), prvM_dig n f (partK (e :: e2 :: r) d 1) (side1 ks d) (d + 1) (.inr (by omega)) (fun x hx => hl x (List.mem_filter.1 hx).1) (by exact_mod_cast p1)]
    rfl
end
section
open Go.RowKit
theorem wrap19 {z : Int} (h0 : -4611686018427387904 ≤ z) (h1 : z ≤ 4611686018427387904) : IntKind.i64.wrap z = z := by
 unfold IntKind.wrap
 simp [IntKind.signed, IntKind.bits]
 omega
theorem skip_bound {l : List It} : ∀ (f : Nat) (a : Int), -1 ≤ a → a ≤ l.length → -1 ≤ skipI l f a ∧ skipI l f a ≤ l.length
 | 0, a, h0, h1 => by
  unfold skipI
  cases hx : itAt l a with
  | none => exact ⟨by show (-1 : Int) ≤ -1; decide, by show (-1 : Int) ≤ _; omega⟩
  | some x =>
   have : a < l.length := by
    unfold itAt at hx
    split at hx
    ·have := (List.getElem?_eq_some_iff.1 hx).1; omega
    ·cases hx
   show -1 ≤ (if x.k = 2 then (-1 : Int) else a + 1) ∧ (if x.k = 2 then (-1 : Int) else a + 1) ≤ l.length
   split <;> omega
 | f + 1, a, h0, h1 => by
  unfold skipI
  cases hx : itAt l a with
  | none => exact ⟨by show (-1 : Int) ≤ -1; decide, by show (-1 : Int) ≤ _; omega⟩
  | some x =>
   have : a < l.length := by
    unfold itAt at hx
    split at hx
    ·have := (List.getElem?_eq_some_iff.1 hx).1; omega
    ·cases hx
   show -1 ≤ (if x.k = 2 then skipI l f (skipI l f (a + 1)) else a + 1) ∧ (if x.k = 2 then skipI l f (skipI l f (a + 1)) else a + 1) ≤ l.length
   split
   ·have h2 := skip_bound (l := l) f (a + 1) (by omega) (by omega)
    exact skip_bound f _ h2.1 h2.2
   ·omega
theorem skip_out {l : List It} {f : Nat} {a : Int} (h : itAt l a = none) : skipI l f a = -1 := by
 cases f <;> (unfold skipI; rw [h])
theorem skip_end {l : List It} {f : Nat} {a : Int} {x : It} (h : itAt l a = some x) (hk : ¬ x.k = 2) : skipI l f a = a + 1 := by
 cases f with
 | zero => unfold skipI; rw [h]; exact if_neg hk
 | succ f => unfold skipI; rw [h]; exact if_neg hk
theorem rskip_low (A : Option Addr) (c : Nat) (l : List It) (d : Nat) (a : Int) (w : World) (hn : a < 0) :
  Calls Tryz.prog 46 #[.slice A l.length c, .int .i64 a, .int .i64 d] w fun e w' => e = .returned (.int .i64 (-1)) ∧ Below w.heap.size w w' := by
 have d1 : decide (a < 0) = true := decide_eq_true hn
 clear hn
 go_enter Tryz.func46, Tryz.ntmps46
 go_wp2
 go_ret
 exact ⟨rfl, Below.refl _ _⟩
theorem rskip_high (A : Option Addr) (c : Nat) (l : List It) (d n : Nat) (w : World) (hn : l.length ≤ n) :
  Calls Tryz.prog 46 #[.slice A l.length c, .int .i64 n, .int .i64 d] w fun e w' => e = .returned (.int .i64 (-1)) ∧ Below w.heap.size w w' := by
 have d1 : decide ((n : Int) < 0) = false := decide_eq_false (by omega)
 have d2 : decide (l.length ≤ n) = true := decide_eq_true hn
 clear hn
 go_enter Tryz.func46, Tryz.ntmps46
 go_wp2
 go_ret
 exact ⟨rfl, Below.refl _ _⟩
theorem rskip_leaf (A : Option Addr) (c : Nat) (l : List It) (d n : Nat) (w : World) (hA : IA w A l) (hl : l.length ≤ 1000000) {x : It} (hx : l[n]? = some x) (hk : ¬ x.k = 2) :
  Calls Tryz.prog 46 #[.slice A l.length c, .int .i64 n, .int .i64 d] w fun e w' => e = .returned (.int .i64 ((n : Int) + 1)) ∧ Below w.heap.size w w' := by
 have hlt := (List.getElem?_eq_some_iff.1 hx).1
 obtain ⟨_, g, o, rfl, hr⟩ := hA n x hx
 have d1 : decide ((n : Int) < 0) = false := decide_eq_false (by omega)
 have d2 : decide (l.length ≤ n) = false := decide_eq_false (by omega)
 have j0 : (0 : Int) ≤ (n : Int) := by omega
 have j1 : (n : Int) < (l.length : Int) := by omega
 have n0 : n ≤ 1000000 := by omega
 have ck := it_kind hr
 have b2 : (x.k == 2) = false := by simpa using hk
 have w1 : IntKind.i64.wrap ((n : Int) + 1) = (n : Int) + 1 := wrap19 (by omega) (by omega)
 clear hA hl hx hk hlt hr
 go_enter Tryz.func46, Tryz.ntmps46
 go_wp2
 go_ret
 exact ⟨rfl, Below.refl _ _⟩
theorem rskip_deep (A : Option Addr) (c : Nat) (l : List It) (n : Nat) (w : World) (hA : IA w A l) (hl : l.length ≤ 1000000) {x : It} (hx : l[n]? = some x) (hk : x.k = 2) :
  Calls Tryz.prog 46 #[.slice A l.length c, .int .i64 n, .int .i64 256] w fun e w' => e = .returned (.int .i64 (-1)) ∧ Below w.heap.size w w' := by
 have hlt := (List.getElem?_eq_some_iff.1 hx).1
 obtain ⟨_, g, o, rfl, hr⟩ := hA n x hx
 have d1 : decide ((n : Int) < 0) = false := decide_eq_false (by omega)
 have d2 : decide (l.length ≤ n) = false := decide_eq_false (by omega)
 have j0 : (0 : Int) ≤ (n : Int) := by omega
 have j1 : (n : Int) < (l.length : Int) := by omega
 have n0 : n ≤ 1000000 := by omega
 have ck := it_kind hr
 rw [hk] at ck
 clear hA hl hx hk hlt hr
 go_enter Tryz.func46, Tryz.ntmps46
 go_wp2
 go_ret
 exact ⟨rfl, Below.refl _ _⟩
theorem rskip_c (A : Option Addr) (c : Nat) (l : List It) (hl : l.length ≤ 1000000) : ∀ (f d : Nat), d + f = 256 → ∀ (a : Int), -1 ≤ a → a ≤ l.length → ∀ (w : World), IA w A l →
  Calls Tryz.prog 46 #[.slice A l.length c, .int .i64 a, .int .i64 d] w fun e w' => e = .returned (.int .i64 (skipI l f a)) ∧ Below w.heap.size w w' := by
 intro f
 induction f with
 | zero =>
  intro d hd a h0 h1 w hA
  obtain rfl : d = 256 := by omega
  by_cases hn : a < 0
  ·rw [skip_out (by unfold itAt; rw [if_neg (by omega)])]
   exact rskip_low A c l 256 a w hn
  obtain ⟨n, rfl⟩ := Int.eq_ofNat_of_zero_le (Int.not_lt.1 hn)
  cases hx : l[n]? with
  | none =>
   rw [skip_out (by unfold itAt; rw [if_pos (by omega), Int.toNat_natCast, hx])]
   exact rskip_high A c l 256 n w (List.getElem?_eq_none_iff.1 hx)
  | some x =>
   have hi : itAt l n = some x := by unfold itAt; rw [if_pos (by omega), Int.toNat_natCast, hx]
   by_cases hk : x.k = 2
   ·rw [show skipI l 0 n = -1 by unfold skipI; rw [hi]; exact if_pos hk]
    exact rskip_deep A c l n w hA hl hx hk
   ·rw [skip_end hi hk]
    exact rskip_leaf A c l 256 n w hA hl hx hk
 | succ f ih =>
  intro d hd a h0 h1 w hA
  by_cases hn : a < 0
  ·rw [skip_out (by unfold itAt; rw [if_neg (by omega)])]
   exact rskip_low A c l d a w hn
  obtain ⟨n, rfl⟩ := Int.eq_ofNat_of_zero_le (Int.not_lt.1 hn)
  cases hx : l[n]? with
  | none =>
   rw [skip_out (by unfold itAt; rw [if_pos (by omega), Int.toNat_natCast, hx])]
   exact rskip_high A c l d n w (List.getElem?_eq_none_iff.1 hx)
  | some x =>
   have hi : itAt l n = some x := by unfold itAt; rw [if_pos (by omega), Int.toNat_natCast, hx]
   by_cases hk : x.k = 2
   ·rw [show skipI l (f + 1) n = skipI l f (skipI l f ((n : Int) + 1)) by show (match itAt l n with | none => _ | some x => _) = _; rw [hi]; exact if_pos hk]
    have hlt := (List.getElem?_eq_some_iff.1 hx).1
    have hA' := hA
    obtain ⟨_, g, o, rfl, hr⟩ := hA n x hx
    have d1 : decide ((n : Int) < 0) = false := decide_eq_false (by omega)
    have d2 : decide (l.length ≤ n) = false := decide_eq_false (by omega)
    have d3 : decide ((255 : Int) < (d : Int)) = false := decide_eq_false (by omega)
    have j0 : (0 : Int) ≤ (n : Int) := by omega
    have j1 : (n : Int) < (l.length : Int) := by omega
    have n0 : n ≤ 1000000 := by omega
    have n1 : d ≤ 255 := by omega
    have ck := it_kind hr
    rw [hk] at ck
    obtain ⟨a1, ha1⟩ : ∃ a1, a1 = (n : Int) + 1 := ⟨_, rfl⟩
    have w1 : IntKind.i64.wrap ((n : Int) + 1) = a1 := by rw [ha1]; exact wrap19 (by omega) (by omega)
    obtain ⟨D, hD⟩ : ∃ D, D = d + 1 := ⟨_, rfl⟩
    have w2 : IntKind.i64.wrap ((d : Int) + 1) = (D : Int) := by rw [hD, wrap19 (by omega) (by omega)]; omega
    have hb := skip_bound (l := l) f a1 (by omega) (by omega)
    have H1 := Lib.hid (ih D (by omega) a1 (by omega) (by omega) w hA')
    have HA := Lib.hid hA'
    have H2 := Lib.hid (fun w hA => ih D (by omega) (skipI l f a1) hb.1 hb.2 w hA)
    rw [← ha1]
    obtain ⟨a2, ha2⟩ : ∃ a2, a2 = skipI l f a1 := ⟨_, rfl⟩
    rw [← ha2] at H1 H2 ⊢
    clear ih hA hA' hx hk hlt hr hi hn h0 h1 hd hl hb ha1 ha2 hD
    go_enter Tryz.func46, Tryz.ntmps46
    go_wp2_with fail
    refine H1.out.mono ?_
    rintro _ w3 ⟨rfl, hb3⟩
    have HA3 := Lib.hid (HA.out.below hb3)
    have HB3 := Lib.hid hb3
    clear hb3 ck
    go_wp2_with fail
    refine (H2.out w3 HA3.out).mono ?_
    rintro _ w4 ⟨rfl, hb4⟩
    have HB4 := Lib.hid (HB3.out.trans (hb4.mono HB3.out.size))
    clear hb4
    go_wp2_with fail
    go_ret
    exact ⟨rfl, HB4.out⟩
   ·rw [skip_end hi hk]
    exact rskip_leaf A c l d n w hA hl hx hk
end
section
open Go.RowKit
theorem chkI_kind {l : List It} {x : It} (hx : x ∈ l) (h : x.k < 0 ∨ 3 < x.k) : chkI l = 7 := by unfold chkI; rw [if_pos ⟨x, hx, h⟩]
theorem chkI_unclean {l : List It} (ha : ∀ x ∈ l, 0 ≤ x.k ∧ x.k ≤ 3) {x : It} (hx : x ∈ l) (h : ¬ x.clean) : chkI l = 5 := by
 unfold chkI
 rw [if_neg, if_pos (.inl ⟨x, hx, h⟩)]
 rintro ⟨y, hy, h2⟩
 have := ha y hy
 omega
theorem chkI_rest {l : List It} (ha : ∀ x ∈ l, 0 ≤ x.k ∧ x.k ≤ 3) (hc : ∀ x ∈ l, x.clean) : chkI l = if l = [] ∨ skipI l 256 0 ≠ l.length then 5 else 0 := by
 unfold chkI
 rw [if_neg]
 ·by_cases h : l = [] ∨ skipI l 256 0 ≠ l.length
  ·rw [if_pos (.inr h), if_pos h]
  ·rw [if_neg, if_neg h]
   rintro (⟨x, hx, h2⟩ | h2)
   ·exact h2 (hc x hx)
   ·exact h h2
 ·rintro ⟨y, hy, h2⟩
  have := ha y hy
  omega
theorem neDigZ {d : List UInt8} (hd : d.length = 32) (x y : Operand) (w : World) : eqA .neq 45 x y w (.agg (bA d)) (.agg (bA z26)) = .ok (.value (.bool (!decide (d = z26)))) w := neDig d z26 hd rfl x y w
theorem neLeafZ {d : List UInt8} (hd : d.length = 64) (x y : Operand) (w : World) : eqA .neq 57 x y w (.agg (bA d)) (.agg (bA z64)) = .ok (.value (.bool (!decide (d = z64)))) w := neLeaf d z64 hd rfl x y w
theorem rcheck19_c (A : Option Addr) (c : Nat) (l : List It) (w : World) (hA : IA w A l) (hl : l.length ≤ 1000000) :
  Calls Tryz.prog 19 #[.slice A l.length c] w fun e w' => e = .returned (.int .i64 (chkI l)) ∧ Below w.heap.size w w' := by
 obtain ⟨X, hX⟩ : ∃ X, X = (w.alloc (.cells (bA z26) 45)).alloc (.cells (bA z64) 57) := ⟨_, rfl⟩
 have hB : Below w.heap.size w X := by rw [hX]; exact Bt.two_below _ _ _
 have HZD : Hid (X.heap[w.heap.size]? = some (.cells (bA z26) 45 (0, 0))) := by show _ = _; rw [hX]; exact heap_alloc2_old w _ _
 have HZL : Hid (X.heap[w.heap.size + 1]? = some (.cells (bA z64) 57 (0, 0))) := by show _ = _; rw [hX]; exact heap_alloc2_new w _ _
 obtain ⟨z, hz⟩ : ∃ z, z = chkI l := ⟨_, rfl⟩
 rw [← hz]
 have HZ := Lib.hid hz
 have HX := Lib.hid hX
 have HB := Lib.hid hB
 have HA := Lib.hid (hA.below hB)
 have HLE := Lib.hid hl
 clear hX hB hA hl hz
 go_enter Tryz.func19, Tryz.ntmps19
 go_wp2_with fail
 rw [← HX.out]
 go_loopg [5] l.length (fun gg i wr => ∃ k : Nat, i = .int .i64 k ∧ k ≤ l.length ∧ l.length - k = gg ∧ (∀ j x, j < k → l[j]? = some x → 0 ≤ x.k ∧ x.k ≤ 3) ∧ Below X.heap.size X wr)
 case atStart => exact ⟨0, rfl, by omega, by omega, fun j x hj => absurd hj (Nat.not_lt_zero j), Below.refl _ _⟩
 case round =>
  obtain ⟨k, rfl, hk, rfl, hpre, hbr⟩ := hrel
  have HBR := Lib.hid hbr
  have HPRE := Lib.hid hpre
  have HKN := Lib.hid hk
  clear hbr hpre hk
  by_cases hlt : k < l.length
  ·have hd : decide (k < l.length) = true := decide_eq_true hlt
   obtain ⟨x, hx⟩ : ∃ x, l[k]? = some x := ⟨_, List.getElem?_eq_getElem hlt⟩
   obtain ⟨hxo, g, o, rfl, hr⟩ := (HA.out.below HBR.out) k x hx
   have HXK := Lib.hid hx
   have ck := it_kind hr
   have j0 : (0 : Int) ≤ (k : Int) := by omega
   have j1 : (k : Int) < (l.length : Int) := by omega
   have n0 : k ≤ 1000000 := by have := HLE.out; omega
   have wi : IntKind.i64.wrap ((k : Int) + 1) = (k : Int) + 1 := wrap19 (by omega) (by omega)
   clear hx hxo hr
   by_cases h0 : x.k < 0
   ·have b0 : decide (x.k < 0) = true := decide_eq_true h0
    have HZV : Hid (z = 7) := HZ.out.trans (chkI_kind (List.mem_of_getElem? HXK.out) (.inl h0))
    clear h0 hlt
    go_wp2_with fail
    go_ret
    exact ⟨(congrArg (fun z => Ending.returned (Value.int .i64 z)) HZV.out).symm, HB.out.trans (HBR.out.mono HB.out.size)⟩
   have b0 : decide (x.k < 0) = false := decide_eq_false h0
   by_cases h3 : 3 < x.k
   ·have b3 : decide (3 < x.k) = true := decide_eq_true h3
    have HZV : Hid (z = 7) := HZ.out.trans (chkI_kind (List.mem_of_getElem? HXK.out) (.inr h3))
    clear h0 h3 hlt
    go_wp2_with fail
    go_ret
    exact ⟨(congrArg (fun z => Ending.returned (Value.int .i64 z)) HZV.out).symm, HB.out.trans (HBR.out.mono HB.out.size)⟩
   have b3 : decide (3 < x.k) = false := decide_eq_false h3
   have HXG : Hid (0 ≤ x.k ∧ x.k ≤ 3) := ⟨by omega, by omega⟩
   clear h0 h3
   go_wp2_with fail
   go_roundg (l.length - (k + 1))
   case measure => omega
   case rel =>
    refine ⟨k + 1, by go_num, by omega, rfl, fun j y hj hy => ?_, HBR.out⟩
    rcases Nat.lt_or_ge j k with h | h
    ·exact HPRE.out j y h hy
    ·obtain rfl : j = k := by omega
     rw [HXK.out] at hy
     cases hy
     exact HXG.out
  ·obtain rfl : k = l.length := by have := HKN.out; omega
   have hd : decide (l.length < l.length) = false := by simp
   have HALL : Hid (∀ x ∈ l, 0 ≤ x.k ∧ x.k ≤ 3) := fun x hx => by
    obtain ⟨j, hj⟩ := List.getElem?_of_mem hx
    exact HPRE.out j x (List.getElem?_eq_some_iff.1 hj).1 hj
   obtain ⟨Y, hY⟩ : ∃ Y, Y = wr := ⟨_, rfl⟩
   rw [← hY] at HBR ⊢
   have HBY0 := Lib.hid HBR.out
   clear hY HPRE HKN hlt HBR
   go_wp2_with fail
   go_loopg [6] l.length (fun gg i wr => ∃ k : Nat, i = .int .i64 k ∧ k ≤ l.length ∧ l.length - k = gg ∧ (∀ j x, j < k → l[j]? = some x → x.clean) ∧ Below X.heap.size X wr)
   case atStart => exact ⟨0, rfl, by omega, by omega, fun j x hj => absurd hj (Nat.not_lt_zero j), HBY0.out⟩
   case round =>
    obtain ⟨k, rfl, hk, rfl, hpre, hbr⟩ := hrel
    have HBR := Lib.hid hbr
    have HPRE := Lib.hid hpre
    have HKN := Lib.hid hk
    clear hbr hpre hk hd
    by_cases hlt : k < l.length
    ·have hd : decide (k < l.length) = true := decide_eq_true hlt
     obtain ⟨x, hx⟩ : ∃ x, l[k]? = some x := ⟨_, List.getElem?_eq_getElem hlt⟩
     obtain ⟨hxo, g, o, rfl, hr⟩ := (HA.out.below HBR.out) k x hx
     have HXK := Lib.hid hx
     have ck : ∀ y : Later wr, y.w.cell? ⟨g, o + k * 97, none⟩ = some (.int .i64 x.k) := fun y => it_kind (range_below hr y.h)
     have cd : ∀ y : Later wr, ldA 45 y.w (.pointer (some ⟨g, o + k * 97 + 1, none⟩)) = .ok (.value (.agg (bA x.d))) y.w := fun y => it_dig (range_below hr y.h) hxo
     have cl : ∀ y : Later wr, ldA 57 y.w (.pointer (some ⟨g, o + k * 97 + 33, none⟩)) = .ok (.value (.agg (bA x.lf))) y.w := fun y => it_leaf (range_below hr y.h) hxo
     have zd : ∀ y : Later wr, ldA 45 y.w (.pointer (some ⟨w.heap.size, 0, none⟩)) = .ok (.value (.agg (bA z26))) y.w := fun y => ldA_row (by rw [(HBR.out.trans (y.h.mono HBR.out.size)).block _ (lt_of_heap HZD.out)]; exact HZD.out) Tryz.underlying45 (by rw [bA_size]; exact info26)
     have zl : ∀ y : Later wr, ldA 57 y.w (.pointer (some ⟨w.heap.size + 1, 0, none⟩)) = .ok (.value (.agg (bA z64))) y.w := fun y => RowB.ldLeaf (l := z64) (by unfold RowB; rw [(HBR.out.trans (y.h.mono HBR.out.size)).block _ (lt_of_heap HZL.out)]; exact HZL.out) rfl
     have ed := fun x1 x2 w => neDigZ hxo.d x1 x2 w
     have el := fun x1 x2 w => neLeafZ hxo.lf x1 x2 w
     have j0 : (0 : Int) ≤ (k : Int) := by omega
     have j1 : (k : Int) < (l.length : Int) := by omega
     have n0 : k ≤ 1000000 := by have := HLE.out; omega
     have wi : IntKind.i64.wrap ((k : Int) + 1) = (k : Int) + 1 := wrap19 (by omega) (by omega)
     clear hx hxo hr
     by_cases hk3 : x.k = 3
     ·by_cases hlf : x.lf = z64
      ·have b3 : (x.k != 3) = false := by rw [hk3]; rfl
       have b1 : (x.k != 1) = true := by rw [hk3]; rfl
       have bl : (!decide (x.lf = z64)) = false := by rw [decide_eq_true hlf]; rfl
       have HCLN : Hid x.clean := ⟨fun h => absurd hk3 h, fun _ => hlf⟩
       clear hk3 hlf
       go_wp2_with fail
       refine wp_region_later (by kernel_rfl) (by kernel_rfl) ?_
       repeat (go_big_quiet_step (fail))
       refine wpQuiet_nil ?_
       rintro _ ⟨y, rfl⟩
       have HBY := Lib.hid (HBR.out.trans (y.h.mono HBR.out.size))
       clear HBR ck cd cl zd zl
       go_wp2_with fail
       go_roundg (l.length - (k + 1))
       case measure => omega
       case rel =>
        refine ⟨k + 1, by go_num, by omega, rfl, fun j y2 hj hy2 => ?_, HBY.out⟩
        rcases Nat.lt_or_ge j k with h | h
        ·exact HPRE.out j y2 h hy2
        ·obtain rfl : j = k := by omega
         rw [HXK.out] at hy2
         cases hy2
         exact HCLN.out
      ·have b3 : (x.k != 3) = false := by rw [hk3]; rfl
       have b1 : (x.k != 1) = true := by rw [hk3]; rfl
       have bl : (!decide (x.lf = z64)) = true := by rw [decide_eq_false hlf]; rfl
       have HNC : Hid (¬ x.clean) := fun h => hlf (h.2 (by omega))
       clear hk3 hlf
       go_wp2_with fail
       refine wp_region_later (by kernel_rfl) (by kernel_rfl) ?_
       repeat (go_big_quiet_step (fail))
       refine wpQuiet_nil ?_
       rintro _ ⟨y, rfl⟩
       have HBY := Lib.hid (HBR.out.trans (y.h.mono HBR.out.size))
       clear HBR ck cd cl zd zl
       go_wp2_with fail
       have HZV : Hid (z = 5) := HZ.out.trans (chkI_unclean HALL.out (List.mem_of_getElem? HXK.out) HNC.out)
       go_ret
       exact ⟨(congrArg (fun z => Ending.returned (Value.int .i64 z)) HZV.out).symm, HB.out.trans (HBY.out.mono HB.out.size)⟩
     ·by_cases hd : x.d = z26
      ·by_cases hk1 : x.k = 1
       ·have b3 : (x.k != 3) = true := by simpa using hk3
        have b1 : (x.k != 1) = false := by rw [hk1]; rfl
        have bd : (!decide (x.d = z26)) = false := by rw [decide_eq_true hd]; rfl
        have HCLN : Hid x.clean := ⟨fun _ => hd, fun h => absurd hk1 h⟩
        clear hk3 hk1 hd
        go_wp2_with fail
        refine wp_region_later (by kernel_rfl) (by kernel_rfl) ?_
        repeat (go_big_quiet_step (fail))
        refine wpQuiet_nil ?_
        rintro _ ⟨y, rfl⟩
        have HBY := Lib.hid (HBR.out.trans (y.h.mono HBR.out.size))
        clear HBR ck cd cl zd zl
        go_wp2_with fail
        go_roundg (l.length - (k + 1))
        case measure => omega
        case rel =>
         refine ⟨k + 1, by go_num, by omega, rfl, fun j y2 hj hy2 => ?_, HBY.out⟩
         rcases Nat.lt_or_ge j k with h | h
         ·exact HPRE.out j y2 h hy2
         ·obtain rfl : j = k := by omega
          rw [HXK.out] at hy2
          cases hy2
          exact HCLN.out
       ·by_cases hlf : x.lf = z64
        ·have b3 : (x.k != 3) = true := by simpa using hk3
         have b1 : (x.k != 1) = true := by simpa using hk1
         have bd : (!decide (x.d = z26)) = false := by rw [decide_eq_true hd]; rfl
         have bl : (!decide (x.lf = z64)) = false := by rw [decide_eq_true hlf]; rfl
         have HCLN : Hid x.clean := ⟨fun _ => hd, fun _ => hlf⟩
         clear hk3 hk1 hd hlf
         go_wp2_with fail
         refine wp_region_later (by kernel_rfl) (by kernel_rfl) ?_
         repeat (go_big_quiet_step (fail))
         refine wpQuiet_nil ?_
         rintro _ ⟨y, rfl⟩
         have HBY := Lib.hid (HBR.out.trans (y.h.mono HBR.out.size))
         clear HBR ck cd cl zd zl
         go_wp2_with fail
         go_roundg (l.length - (k + 1))
         case measure => omega
         case rel =>
          refine ⟨k + 1, by go_num, by omega, rfl, fun j y2 hj hy2 => ?_, HBY.out⟩
          rcases Nat.lt_or_ge j k with h | h
          ·exact HPRE.out j y2 h hy2
          ·obtain rfl : j = k := by omega
           rw [HXK.out] at hy2
           cases hy2
           exact HCLN.out
        ·have b3 : (x.k != 3) = true := by simpa using hk3
         have b1 : (x.k != 1) = true := by simpa using hk1
         have bd : (!decide (x.d = z26)) = false := by rw [decide_eq_true hd]; rfl
         have bl : (!decide (x.lf = z64)) = true := by rw [decide_eq_false hlf]; rfl
         have HNC : Hid (¬ x.clean) := fun h => hlf (h.2 hk1)
         clear hk3 hk1 hd hlf
         go_wp2_with fail
         refine wp_region_later (by kernel_rfl) (by kernel_rfl) ?_
         repeat (go_big_quiet_step (fail))
         refine wpQuiet_nil ?_
         rintro _ ⟨y, rfl⟩
         have HBY := Lib.hid (HBR.out.trans (y.h.mono HBR.out.size))
         clear HBR ck cd cl zd zl
         go_wp2_with fail
         have HZV : Hid (z = 5) := HZ.out.trans (chkI_unclean HALL.out (List.mem_of_getElem? HXK.out) HNC.out)
         go_ret
         exact ⟨(congrArg (fun z => Ending.returned (Value.int .i64 z)) HZV.out).symm, HB.out.trans (HBY.out.mono HB.out.size)⟩
      ·have b3 : (x.k != 3) = true := by simpa using hk3
       have bd : (!decide (x.d = z26)) = true := by rw [decide_eq_false hd]; rfl
       have HNC : Hid (¬ x.clean) := fun h => hd (h.1 hk3)
       clear hk3 hd
       go_wp2_with fail
       refine wp_region_later (by kernel_rfl) (by kernel_rfl) ?_
       repeat (go_big_quiet_step (fail))
       refine wpQuiet_nil ?_
       rintro _ ⟨y, rfl⟩
       have HBY := Lib.hid (HBR.out.trans (y.h.mono HBR.out.size))
       clear HBR ck cd cl zd zl
       go_wp2_with fail
       have HZV : Hid (z = 5) := HZ.out.trans (chkI_unclean HALL.out (List.mem_of_getElem? HXK.out) HNC.out)
       go_ret
       exact ⟨(congrArg (fun z => Ending.returned (Value.int .i64 z)) HZV.out).symm, HB.out.trans (HBY.out.mono HB.out.size)⟩
    ·obtain rfl : k = l.length := by have := HKN.out; omega
     have hd : decide (l.length < l.length) = false := by simp
     have HCA : Hid (∀ x ∈ l, x.clean) := fun x hx => by
      obtain ⟨j, hj⟩ := List.getElem?_of_mem hx
      exact HPRE.out j x (List.getElem?_eq_some_iff.1 hj).1 hj
     have HZR := Lib.hid (HZ.out.trans (chkI_rest HALL.out HCA.out))
     by_cases hn : l = []
     ·have HZV : Hid (z = 5) := HZR.out.trans (if_pos (.inl hn))
      subst hn
      clear HPRE HKN hlt
      go_wp2_with fail
      go_ret
      exact ⟨(congrArg (fun z => Ending.returned (Value.int .i64 z)) HZV.out).symm, HB.out.trans (HBR.out.mono HB.out.size)⟩
     have hne : ¬ l.length = 0 := fun h => hn (List.length_eq_zero_iff.1 h)
     have HS := Lib.hid (rskip_c A c l HLE.out 256 0 rfl 0 (by omega) (by omega) wr (HA.out.below HBR.out))
     by_cases hs : skipI l 256 0 = l.length
     ·have HZV : Hid (z = 0) := HZR.out.trans (if_neg (fun h => h.elim hn fun h => h hs))
      rw [hs] at HS
      clear HPRE HKN hlt hn hs
      go_wp2_with fail
      refine HS.out.mono ?_
      rintro _ w9 ⟨rfl, hb9⟩
      have HB9 := Lib.hid (HBR.out.trans (hb9.mono HBR.out.size))
      clear hb9
      go_wp2_with fail
      go_ret
      exact ⟨(congrArg (fun z => Ending.returned (Value.int .i64 z)) HZV.out).symm, HB.out.trans (HB9.out.mono HB.out.size)⟩
     ·have HZV : Hid (z = 5) := HZR.out.trans (if_pos (.inr hs))
      obtain ⟨s, hs2⟩ : ∃ s, s = skipI l 256 0 := ⟨_, rfl⟩
      rw [← hs2] at HS hs
      have bs : (s != (l.length : Int)) = true := by simpa using hs
      clear HPRE HKN hlt hn hs hs2
      go_wp2_with fail
      refine HS.out.mono ?_
      rintro _ w9 ⟨rfl, hb9⟩
      have HB9 := Lib.hid (HBR.out.trans (hb9.mono HBR.out.size))
      clear hb9
      go_wp2_with fail
      go_ret
      exact ⟨(congrArg (fun z => Ending.returned (Value.int .i64 z)) HZV.out).symm, HB.out.trans (HB9.out.mono HB.out.size)⟩
end
end Go.Proofs.YtmfbhohjpkmllaaGreatDoor
