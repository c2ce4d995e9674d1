/- Several texts in one: Ro Jp Ja Jc Jd Je Jf. -/
import Derived.Test.YtaajnjddfcdeaaaDoorMX
import Derived.Test.YtaajnjddfcdeaaaDoorML
import Derived.Test.YtaajnjddfcdeaaaDoorM4
import Derived.Test.YtaajnjddfcdeaaaDoorM7
import Derived.BigQuiet
/- Rows of keys that the call owns, told by the one block that an append changes. -/
namespace Go.Proofs.YtaajnjddfcdeaaaDoor
open Go.RowKit


theorem range_keyS {w : World} {g o : Nat} {k : List UInt8} (h : w.rangeAt g o (k.map bv)) (hk : k.length = 32) : ldA 44 w (.pointer (some ⟨g, o, none⟩)) = .ok (.value (.agg (bA k))) w :=
  ldA_of (t := 44) (w := w) (b := g) (o := o) (cs := k.map bv) h Tryd.underlying44 (by rw [List.length_map, hk]; exact infoKey)
noncomputable def bsS (w : World) (n : Nat) (parts : Array (Nat × Value)) : Result Next := Sem.run Tryd.prog (do pure (.value (← Instr.buildSlice 56 n parts))) w
@[go_sem ↓] theorem execOp_build_keyS (ρ : Operand → Value) (dst : Option Tmp) (n : Nat) (parts : Array (Nat × Operand)) (type : TypeId) (pos : String) (after : Array Edge) (guard : Option (Nat × Bool)) (w : World) :
    Sem.run Tryd.prog (execOp ρ { dst, op := .buildSlice 56 n parts, type, pos, after, guard }) w = bsS w n (parts.map fun x => (x.1, ρ x.2)) := rfl
theorem bsS_f (f : Nat → UInt8) (w : World) : bsS w 1 #[(0, .agg (bA ((List.range 32).map f)))] = .ok (.value (.slice (some ⟨w.heap.size, 0, none⟩) 1 1)) (w.alloc (.cells (bA ((List.range 32).map f)) 44)) := by kernel_rfl
theorem bsS_one (k : List UInt8) (hk : k.length = 32) (w : World) : bsS w 1 #[(0, .agg (bA k))] = .ok (.value (.slice (some ⟨w.heap.size, 0, none⟩) 1 1)) (w.alloc (.cells (bA k) 44)) := by
  have := bsS_f (fun j => k.getD j 0) w
  rw [← list32 k hk] at this
  exact this
theorem kS_made (w : World) (k : List UInt8) (t : TypeId) : (w.alloc (.cells (bA k) t)).rangeAt w.heap.size 0 (k.map bv) := fun j z hz => by
  rw [Nat.zero_add, cell_of_cells (heap_alloc_new w _)]
  unfold bA
  rw [List.getElem?_toArray]
  exact hz
def cS (k : List UInt8) : List Value := k.map bv
def OwnS (w : World) (B : Nat) (v : Value) (ks : List (List UInt8)) : Prop := w.ownsRow B 44 32 v ks.length (ks.flatMap cS)
theorem OwnS.nil (w : World) (B : Nat) : OwnS w B (.slice none 0 0) [] := ⟨rfl, .inl ⟨rfl, rfl⟩⟩
theorem OwnS.below {w w' : World} {B : Nat} {v : Value} {ks : List (List UInt8)} (h : OwnS w B v ks) (hb : Below w.heap.size w w') : OwnS w' B v ks := row11_keep h (Keep.of_below (L := fun _ => False) hb) fun _ _ h => h
theorem OwnS.len {w : World} {B : Nat} {v : Value} {ks : List (List UInt8)} (h : OwnS w B v ks) : ∃ A c, v = .slice A ks.length c ∧ ks.length ≤ c := by
  obtain ⟨_, ⟨rfl, h⟩ | ⟨g, cap, cur, rfl, _, _, h, _⟩⟩ := h
  · exact ⟨none, 0, by rw [h], by omega⟩
  · exact ⟨_, _, rfl, h⟩
theorem flatS_at {ks : List (List UInt8)} (hes : ∀ k ∈ ks, k.length = 32) {i : Nat} {k : List UInt8} (hi : ks[i]? = some k) {j : Nat} {v : Value} (hv : (cS k)[j]? = some v) : (ks.flatMap cS)[i * 32 + j]? = some v := by
  induction ks generalizing i with
  | nil => simp at hi
  | cons x r ih =>
    have hx : (cS x).length = 32 := by unfold cS; rw [List.length_map, hes x (by simp)]
    rw [List.flatMap_cons]
    cases i with
    | zero =>
      simp at hi
      subst hi
      rw [Nat.zero_mul, Nat.zero_add, List.getElem?_append_left (List.getElem?_eq_some_iff.1 hv).1]
      exact hv
    | succ i =>
      rw [List.getElem?_append_right (by rw [hx]; omega), hx, show (i + 1) * 32 + j - 32 = i * 32 + j by omega]
      exact ih (fun y hy => hes y (by simp [hy])) hi
theorem OwnS.ks {w : World} {B : Nat} {v : Value} {ks : List (List UInt8)} (h : OwnS w B v ks) (hes : ∀ k ∈ ks, k.length = 32) : ∃ A c, v = .slice A ks.length c ∧ KS w A ks := by
  obtain ⟨h0, ⟨rfl, h⟩ | ⟨g, cap, cur, rfl, hg, hh, hn, hc, hs, ht⟩⟩ := h
  · exact ⟨none, 0, by rw [h], fun i e hi => by
      have : ks = [] := List.length_eq_zero_iff.1 h
      subst this; simp at hi⟩
  · refine ⟨_, cap, rfl, fun i k hi => ⟨hes k (List.mem_of_getElem? hi), g, 0, rfl, fun j x hx => ?_⟩⟩
    have h1 := flatS_at hes hi (j := j) (v := x) hx
    have hlt := (List.getElem?_eq_some_iff.1 h1).1
    rw [h0] at hlt
    rw [Nat.zero_add, cell_of_cells hh, ← Array.getElem?_toList, ← h1, ← ht, List.getElem?_take, if_pos hlt]
theorem infoS3 : (Tryd.prog.info? 44).map (fun i => (i.zero, i.size, i.bytes)) = some (some (.agg (bA ((List.range 32).map fun _ => (0 : UInt8)))), 32, 32) := by kernel_rfl
theorem wpList_pushS {ops : Array Oper} {rest : List Oper} {o : Oper} {a : Act} {w : World} {Q : Exit → Act → World → Prop} (hgd : o.guard = none) (s x : Operand)
    (ho : o.op = .call { callee := .builtin .append, args := #[s, x], argTypes := #[56, 56] }) (B : Nat) (v : Value) (ks : List (List UInt8)) (hs : a.eval s = v) (hown : OwnS w B v ks) (g : Nat) (k : List UInt8) (hk : k.length = 32)
    (hx : a.eval x = .slice (some ⟨g, 0, none⟩) 1 1) (hr : w.rangeAt g 0 (k.map bv)) (hl : ks.length ≤ 1000000) (hB : B ≤ w.heap.size)
    (h : ∀ v' w', OwnS w' B v' (ks ++ [k]) → Below B w w' → Grown11 v v' w w' → wpList Tryd.prog ops Q rest (a.put o.dst v') w') : wpList Tryd.prog ops Q (o :: rest) a w := by
  obtain ⟨i0, hi, hz0, hz1, hz2⟩ := info_parts infoS3
  refine wpList_append_own_at (w := w) hgd s x 56 ho B 44 i0 _ 32 32 Tryd.underlying56 hi hz0 hz1 hz2 rfl (by decide) v ks.length (ks.flatMap cS) hs hown ⟨g, 0, none⟩ 1 1 (cS k) hx (by unfold cS; rw [List.length_map, hk])
    (fun j u hj => ?_) (fun u hu => ?_) (by unfold maxLen; omega) (by omega) hB fun v' w' h1 h2 _ h4 => h v' w' ?_ ((Below.refl _ _).grown h2 hB fun k hk => (row11_lt hown k hk).1) ⟨h2, h4⟩
  · have := hr j u hj
    rwa [show (⟨g, 0, none⟩ : Addr).add j = ⟨g, 0 + j, none⟩ from add_none g 0 j]
  · obtain ⟨y, _, rfl⟩ := List.mem_map.1 hu
    exact bv_one y
  · unfold OwnS
    rw [List.flatMap_append, List.length_append]
    simpa using h1
/-- One key is appended behind its own slice's making. -/
theorem wpList_pushS2 {ops : Array Oper} {rest : List Oper} {o : Oper} {a : Act} {w : World} {Q : Exit → Act → World → Prop} (hgd : o.guard = none) (s x : Operand)
    (ho : o.op = .call { callee := .builtin .append, args := #[s, x], argTypes := #[56, 56] }) (B : Nat) (v : Value) (ks : List (List UInt8)) (hs : a.eval s = v) (hown : OwnS w B v ks) (k : List UInt8) (hk : k.length = 32)
    (hx : a.eval x = .slice (some ⟨w.heap.size, 0, none⟩) 1 1) (hl : ks.length ≤ 1000000) (hB : B ≤ w.heap.size)
    (h : ∀ A n c w', OwnS w' B (.slice A n c) (ks ++ [k]) → n = ks.length + 1 → Below B w w' → wpList Tryd.prog ops Q rest (a.put o.dst (.slice A n c)) w') : wpList Tryd.prog ops Q (o :: rest) a (w.alloc (.cells (bA k) 44)) := by
  have hb : Below w.heap.size w (w.alloc (.cells (bA k) 44)) := (Below.refl _ _).alloc (Nat.le_refl _) _
  refine wpList_pushS hgd s x ho B v ks hs (hown.below hb) w.heap.size k hk hx (kS_made w k _) hl (Nat.le_trans hB hb.size) fun v' w' h1 h2 _ => ?_
  obtain ⟨A, c, rfl, _⟩ := h1.len
  exact h A _ c w' h1 (by rw [List.length_append]; rfl) ((hb.mono hB).trans h2)
end Go.Proofs.YtaajnjddfcdeaaaDoor

/- Changes as data; the error of keys that are not sorted; the map after changes; the difference of two maps: plain facts of layer 12. -/
namespace Go.Proofs.YtaajnjddfcdeaaaDoor
open Go.RowKit

structure Chg where
  k : List UInt8
  v : List UInt8
  d : Bool
/-- The error of a list of keys: 9 for two equal ones, 8 for two in the wrong order, whichever comes first. -/
def chkK : List (List UInt8) → Int
  | [] => 0
  | [_] => 0
  | a :: b :: r => if cmpK a b = 0 then 9 else if 0 < cmpK a b then 8 else chkK (b :: r)
def AscS (ks : List (List UInt8)) : Prop := ks.Pairwise LtB
def K32 (ks : List (List UInt8)) : Prop := ∀ k ∈ ks, k.length = 32
theorem LtB.ne {a b : List UInt8} (h : LtB a b) : a ≠ b := fun e => by
  obtain ⟨i, _, _, h0, h1⟩ := h
  rw [e] at h0
  omega
theorem chk_asc : ∀ (ks : List (List UInt8)), K32 ks → chkK ks = 0 → AscS ks
  | [], _, _ => List.Pairwise.nil
  | [a], _, _ => List.pairwise_singleton _ _
  | a :: b :: r, hk, h => by
    unfold chkK at h
    by_cases h0 : cmpK a b = 0
    · rw [if_pos h0] at h; exact absurd h (by decide)
    · by_cases h1 : 0 < cmpK a b
      · rw [if_neg h0, if_pos h1] at h; exact absurd h (by decide)
      · rw [if_neg h0, if_neg h1] at h
        have ih := chk_asc (b :: r) (fun k hm => hk k (by simp [hm])) h
        have hab := LtB.of (hk a (by simp)) (hk b (by simp)) (by omega)
        obtain ⟨i1, _⟩ := List.pairwise_cons.1 ih
        refine List.pairwise_cons.2 ⟨fun x hx => ?_, ih⟩
        rcases List.mem_cons.1 hx with rfl | hx
        · exact hab
        · exact hab.trans (i1 x hx)
/-! ### The map after changes -/
def stepC (l : List Ent) (c : Chg) : List Ent := if c.d then rmK l c.k else putK l ⟨c.k, c.v⟩
def appC (l : List Ent) (cs : List Chg) : List Ent := cs.foldl stepC l
theorem appC_cons (l : List Ent) (c : Chg) (r : List Chg) : appC l (c :: r) = appC (stepC l c) r := rfl
def Len32 (l : List Ent) : Prop := ∀ e ∈ l, e.k.length = 32
theorem stepC_len (l : List Ent) (c : Chg) : (stepC l c).length ≤ l.length + 1 := by
  unfold stepC
  split
  · have := List.length_filter_le (fun e : Ent => !decide (e.k = c.k)) l
    show (l.filter _).length ≤ _
    omega
  · have h1 := (insK_perm ⟨c.k, c.v⟩ (rmK l c.k)).length_eq
    have h2 := List.length_filter_le (fun e : Ent => !decide (e.k = c.k)) l
    show (insK _ (rmK l c.k)).length ≤ _
    rw [h1, List.length_cons]
    show (l.filter _).length + 1 ≤ _
    omega
theorem appC_len : ∀ (cs : List Chg) (l : List Ent), (appC l cs).length ≤ l.length + cs.length
  | [], l => by simp [appC]
  | c :: r, l => by
    have h1 := appC_len r (stepC l c)
    have h2 := stepC_len l c
    rw [appC_cons, List.length_cons]
    omega
/-- The value of a key. -/
def valK (l : List Ent) (k : List UInt8) : Option (List UInt8) := (l.find? fun e => decide (e.k = k)).map Ent.v
theorem valK_cons (x : Ent) (r : List Ent) (k : List UInt8) : valK (x :: r) k = if x.k = k then some x.v else valK r k := by
  unfold valK
  by_cases h : x.k = k
  · rw [List.find?_cons_of_pos (by simpa using h), if_pos h]; rfl
  · rw [List.find?_cons_of_neg (by simpa using h), if_neg h]
theorem valK_none {l : List Ent} {k : List UInt8} (h : ∀ e ∈ l, e.k ≠ k) : valK l k = none := by
  unfold valK
  rw [List.find?_eq_none.2 fun e he => by simpa using h e he]
  rfl
/-! ### Keys sorted, the difference -/
def insS (k : List UInt8) : List (List UInt8) → List (List UInt8)
  | [] => [k]
  | x :: r => if cmpK x k = 0 then x :: r else if 0 < cmpK x k then k :: x :: r else x :: insS k r
def sortS (l : List (List UInt8)) : List (List UInt8) := l.foldl (fun o k => insS k o) []
theorem cmp_eq_key {a b : List UInt8} (ha : a.length = 32) (hb : b.length = 32) (h : cmpK a b = 0) : a = b := by
  refine Classical.byContradiction fun hne => ?_
  rcases Classical.em (cmpK a b < 0) with h1 | h1
  · omega
  · have := (LtB.or ha hb hne h1).cmp
    have h3 : cmpK b a = - cmpK a b := Bt.cmp_neg _ _
    omega
theorem insS_mem {k x : List UInt8} (hk : k.length = 32) : ∀ {l : List (List UInt8)}, K32 l → (x ∈ insS k l ↔ x = k ∨ x ∈ l)
  | [], _ => by simp [insS]
  | y :: r, hl => by
    unfold insS
    by_cases h0 : cmpK y k = 0
    · have e := cmp_eq_key (hl y (by simp)) hk h0
      rw [if_pos h0]
      constructor
      · exact .inr
      · rintro (rfl | h)
        · rw [e]; simp
        · exact h
    · by_cases h1 : 0 < cmpK y k
      · rw [if_neg h0, if_pos h1]; simp
      · rw [if_neg h0, if_neg h1, List.mem_cons, insS_mem hk fun z hz => hl z (by simp [hz]), List.mem_cons]
        constructor
        · rintro (h | h | h)
          · exact .inr (.inl h)
          · exact .inl h
          · exact .inr (.inr h)
        · rintro (h | h | h)
          · exact .inr (.inl h)
          · exact .inl h
          · exact .inr (.inr h)
theorem insS_asc {k : List UInt8} (hk : k.length = 32) : ∀ {l : List (List UInt8)}, K32 l → AscS l → AscS (insS k l)
  | [], _, _ => List.pairwise_singleton _ _
  | y :: r, hl, h => by
    obtain ⟨h1, h2⟩ := List.pairwise_cons.1 h
    unfold insS
    by_cases h0 : cmpK y k = 0
    · rw [if_pos h0]; exact h
    · by_cases hp : 0 < cmpK y k
      · rw [if_neg h0, if_pos hp]
        have hlt : LtB k y := LtB.of hk (hl y (by simp)) (by have : cmpK k y = - cmpK y k := Bt.cmp_neg _ _; omega)
        refine List.pairwise_cons.2 ⟨fun z hz => ?_, h⟩
        rcases List.mem_cons.1 hz with rfl | hz
        · exact hlt
        · exact hlt.trans (h1 z hz)
      · rw [if_neg h0, if_neg hp]
        have hlt : LtB y k := LtB.of (hl y (by simp)) hk (by omega)
        have hr : K32 r := fun z hz => hl z (by simp [hz])
        refine List.pairwise_cons.2 ⟨fun z hz => ?_, insS_asc hk hr h2⟩
        rcases (insS_mem hk hr).1 hz with rfl | hz
        · exact hlt
        · exact h1 z hz
theorem foldS : ∀ (l o : List (List UInt8)), K32 l → K32 o → AscS o → AscS (l.foldl (fun o k => insS k o) o) ∧ (∀ x, x ∈ l.foldl (fun o k => insS k o) o ↔ x ∈ l ∨ x ∈ o)
  | [], o, _, _, h => ⟨h, fun x => by simp⟩
  | k :: r, o, hl, ho, h => by
    have hk := hl k (by simp)
    have h1 : K32 (insS k o) := fun z hz => by
      rcases (insS_mem hk ho).1 hz with rfl | hz
      · exact hk
      · exact ho z hz
    obtain ⟨i1, i2⟩ := foldS r (insS k o) (fun z hz => hl z (by simp [hz])) h1 (insS_asc hk ho h)
    refine ⟨i1, fun x => ?_⟩
    rw [List.foldl_cons, i2 x, insS_mem hk ho, List.mem_cons]
    constructor
    · rintro (h | h | h)
      · exact .inl (.inr h)
      · exact .inl (.inl h)
      · exact .inr h
    · rintro ((h | h) | h)
      · exact .inr (.inl h)
      · exact .inl h
      · exact .inr (.inr h)
theorem sortS_asc {l : List (List UInt8)} (h : K32 l) : AscS (sortS l) := (foldS l [] h (fun _ h => by cases h) List.Pairwise.nil).1
theorem sortS_mem {l : List (List UInt8)} (h : K32 l) (x : List UInt8) : x ∈ sortS l ↔ x ∈ l := by
  have := (foldS l [] h (fun _ h => by cases h) List.Pairwise.nil).2 x
  simpa [sortS] using this
/-- What changes a key from one map to another. -/
def difC (a b : List Ent) (k : List UInt8) : List Chg :=
  match valK b k with
  | none => [⟨k, [], true⟩]
  | some y => match valK a k with
    | none => [⟨k, y, false⟩]
    | some x => if x = y then [] else [⟨k, y, false⟩]
def diffC (a b : List Ent) : List Chg := (sortS (a.map Ent.k ++ b.map Ent.k)).flatMap (difC a b)
theorem keys32 {a b : List Ent} (ha : Len32 a) (hb : Len32 b) : K32 (a.map Ent.k ++ b.map Ent.k) := fun k hk => by
  rcases List.mem_append.1 hk with hk | hk
  · obtain ⟨e, he, rfl⟩ := List.mem_map.1 hk; exact ha e he
  · obtain ⟨e, he, rfl⟩ := List.mem_map.1 hk; exact hb e he
theorem difC_len (a b : List Ent) (k : List UInt8) : (difC a b k).length ≤ 1 := by
  unfold difC
  split
  · simp
  · split
    · simp
    · split <;> simp
theorem insS_len (k : List UInt8) : ∀ l : List (List UInt8), (insS k l).length ≤ l.length + 1
  | [] => by simp [insS]
  | x :: r => by
    unfold insS
    split
    · simp
    · split
      · simp
      · have := insS_len k r; simp; omega
theorem foldS_len : ∀ (l o : List (List UInt8)), (l.foldl (fun o k => insS k o) o).length ≤ o.length + l.length
  | [], o => by simp
  | k :: r, o => by
    have h1 := foldS_len r (insS k o)
    have h2 := insS_len k o
    rw [List.foldl_cons, List.length_cons]
    omega
theorem flat_len (a b : List Ent) : ∀ ks : List (List UInt8), (ks.flatMap (difC a b)).length ≤ ks.length
  | [] => by simp
  | x :: r => by
    have h1 := flat_len a b r
    have h2 := difC_len a b x
    rw [List.flatMap_cons, List.length_append, List.length_cons]
    omega
theorem diffC_len (a b : List Ent) : (diffC a b).length ≤ a.length + b.length := by
  have h1 := flat_len a b (sortS (a.map Ent.k ++ b.map Ent.k))
  have h2 := foldS_len (a.map Ent.k ++ b.map Ent.k) []
  rw [List.length_append, List.length_map, List.length_map, List.length_nil] at h2
  unfold diffC
  unfold sortS at h1 ⊢
  omega
theorem diff_self {a : List Ent} (ka : Len32 a) : diffC a a = [] := by
  unfold diffC
  refine List.flatMap_eq_nil_iff.2 fun k hk => ?_
  rw [sortS_mem (keys32 ka ka)] at hk
  have hk2 : k ∈ a.map Ent.k := by
    rcases List.mem_append.1 hk with h | h <;> exact h
  unfold difC
  cases h1 : valK a k with
  | none =>
    obtain ⟨e, he, hek⟩ := List.mem_map.1 hk2
    exfalso
    unfold valK at h1
    have h2 := Option.map_eq_none_iff.1 h1
    have h3 := List.find?_eq_none.1 h2 e he
    simp [hek] at h3
  | some x => simp
/-- Ascending entries are their own map. -/
theorem foldK_sorted : ∀ (es acc : List Ent), Asc (acc ++ es) → es.foldl putK acc = acc ++ es
  | [], acc, _ => by simp
  | e :: r, acc, h => by
    have hlt : ∀ x ∈ acc, LtB x.k e.k := fun x hx => (List.pairwise_append.1 h).2.2 x hx e (by simp)
    have h1 : rmK acc e.k = acc := List.filter_eq_self.2 fun x hx => by
      have := (hlt x hx).ne
      simp [this]
    have h2 : putK acc e = acc ++ [e] := by
      unfold putK
      rw [h1]
      refine insK_split e acc fun x hx hc => ?_
      have h3 := (hlt x hx).cmp
      have h4 : cmpK x.k e.k = - cmpK e.k x.k := Bt.cmp_neg _ _
      omega
    rw [List.foldl_cons, h2, foldK_sorted r (acc ++ [e]) (by rw [List.append_assoc]; exact h), List.append_assoc]
    rfl
theorem ofK_sorted {es : List Ent} (h : Asc es) : ofK es = es := by
  have := foldK_sorted es [] (by simpa using h)
  simpa [ofK] using this
theorem asc_keys {es : List Ent} (h : AscS (es.map Ent.k)) : Asc es := List.pairwise_map.1 h
end Go.Proofs.YtaajnjddfcdeaaaDoor

/- Changes in memory: a slice of changes (of either type), a row of them that the call owns. -/
namespace Go.Proofs.YtaajnjddfcdeaaaDoor
open Go.RowKit

/-- A change in memory: its key, where its value lies, the value, the capacity, whether it removes. -/
structure Cn where
  k : List UInt8
  A : Option Addr
  v : List UInt8
  c : Nat
  d : Bool
def Cn.chg (x : Cn) : Chg := ⟨x.k, x.v, x.d⟩
def cnC (x : Cn) : List Value := x.k.map bv ++ [.slice x.A x.v.length x.c, .bool x.d]
structure CnOk (w : World) (x : Cn) : Prop where
  key : x.k.length = 32
  cap : x.v.length ≤ x.c
  val : BA w x.A x.v
theorem CnOk.below {w w' : World} {x : Cn} (h : CnOk w x) (hb : Below w.heap.size w w') : CnOk w' x := ⟨h.key, h.cap, h.val.below hb⟩
theorem cnC_len {x : Cn} (h : x.k.length = 32) : (cnC x).length = 34 := by simp [cnC, h]
theorem cnC_one (x : Cn) : ∀ v ∈ cnC x, v.oneCell' = true := fun v hv => by
  rcases List.mem_append.1 hv with h | h
  · obtain ⟨y, _, rfl⟩ := List.mem_map.1 h
    rfl
  · rcases List.mem_cons.1 h with rfl | h
    · rfl
    · rw [List.mem_singleton.1 h]; rfl
/-- The changes at A. -/
def CA (w : World) (A : Option Addr) (xs : List Cn) : Prop := ∀ i x, xs[i]? = some x → CnOk w x ∧ ∃ g o, A = some ⟨g, o, none⟩ ∧ w.rangeAt g (o + i * 34) (cnC x)
theorem CA.below {w w' : World} {A : Option Addr} {xs : List Cn} (h : CA w A xs) (hb : Below w.heap.size w w') : CA w' A xs := fun i x hi => by
  obtain ⟨h1, g, o, rfl, h2⟩ := h i x hi
  exact ⟨h1.below hb, g, o, rfl, range_below h2 hb⟩
theorem CA.ok {w : World} {A : Option Addr} {xs : List Cn} (h : CA w A xs) : ∀ x ∈ xs, CnOk w x := fun x hx => by
  obtain ⟨i, hi⟩ := List.getElem?_of_mem hx
  exact (h i x hi).1
set_option maxRecDepth 100000 in
theorem range_ckey {w : World} {g o : Nat} {x : Cn} (h : w.rangeAt g o (cnC x)) (hk : x.k.length = 32) : ldA 44 w (.pointer (some ⟨g, o, none⟩)) = .ok (.value (.agg (bA x.k))) w := by
  have := ldA_of (t := 44) (w := w) (b := g) (o := o) (cs := x.k.map bv) (fun j v hv => h j v (by
    unfold cnC
    rw [List.getElem?_append_left (List.getElem?_eq_some_iff.1 hv).1]
    exact hv)) Tryd.underlying44 (by rw [List.length_map, hk]; exact infoKey)
  exact this
theorem range_cval {w : World} {g o : Nat} {x : Cn} (h : w.rangeAt g o (cnC x)) (hk : x.k.length = 32) : w.cell? ⟨g, o + 32, none⟩ = some (.slice x.A x.v.length x.c) :=
  h 32 _ (by
    unfold cnC
    rw [List.getElem?_append_right (by simp [hk])]
    simp [hk])
theorem range_cdel {w : World} {g o : Nat} {x : Cn} (h : w.rangeAt g o (cnC x)) (hk : x.k.length = 32) : w.cell? ⟨g, o + 33, none⟩ = some (.bool x.d) :=
  h 33 _ (by
    unfold cnC
    rw [List.getElem?_append_right (by simp [hk])]
    simp [hk])
theorem cn_made (w : World) (x : Cn) (t : TypeId) : (w.alloc (.cells (cnC x).toArray t)).rangeAt w.heap.size 0 (cnC x) := fun j u hu => by
  rw [Nat.zero_add, cell_of_cells (heap_alloc_new w _)]
  simpa using hu
/-! ### Rows of changes that the call owns -/
def OwnC (t : TypeId) (w : World) (B : Nat) (v : Value) (xs : List Cn) : Prop := w.ownsRow B t 34 v xs.length (xs.flatMap cnC)
theorem OwnC.nil (t : TypeId) (w : World) (B : Nat) : OwnC t w B (.slice none 0 0) [] := ⟨rfl, .inl ⟨rfl, rfl⟩⟩
theorem OwnC.below {t : TypeId} {w w' : World} {B : Nat} {v : Value} {xs : List Cn} (h : OwnC t w B v xs) (hb : Below w.heap.size w w') : OwnC t w' B v xs := row11_keep h (Keep.of_below (L := fun _ => False) hb) fun _ _ h => h
theorem OwnC.ge {t : TypeId} {w : World} {B : Nat} {v : Value} {xs : List Cn} (h : OwnC t w B v xs) : ∀ k, v.ownBlock = some k → B ≤ k := fun k hk => (row11_lt h k hk).1
theorem OwnC.mono {t : TypeId} {w : World} {B B' : Nat} {v : Value} {xs : List Cn} (h : OwnC t w B v xs) (hB : B' ≤ B) : OwnC t w B' v xs := by
  obtain ⟨h0, h | ⟨g, cap, cur, rfl, hg, hr⟩⟩ := h
  · exact ⟨h0, .inl h⟩
  · exact ⟨h0, .inr ⟨g, cap, cur, rfl, by omega, hr⟩⟩
theorem OwnC.len {t : TypeId} {w : World} {B : Nat} {v : Value} {xs : List Cn} (h : OwnC t w B v xs) : ∃ A c, v = .slice A xs.length c ∧ xs.length ≤ c := by
  obtain ⟨_, ⟨rfl, h⟩ | ⟨g, cap, cur, rfl, _, _, h, _⟩⟩ := h
  · exact ⟨none, 0, by rw [h], by omega⟩
  · exact ⟨_, _, rfl, h⟩
theorem flatC_at {xs : List Cn} (hxs : ∀ x ∈ xs, x.k.length = 32) {i : Nat} {x : Cn} (hi : xs[i]? = some x) {j : Nat} {v : Value} (hv : (cnC x)[j]? = some v) : (xs.flatMap cnC)[i * 34 + j]? = some v := by
  induction xs generalizing i with
  | nil => simp at hi
  | cons y r ih =>
    have hy : (cnC y).length = 34 := cnC_len (hxs y (by simp))
    rw [List.flatMap_cons]
    cases i with
    | zero =>
      simp at hi
      subst hi
      rw [Nat.zero_mul, Nat.zero_add, List.getElem?_append_left (List.getElem?_eq_some_iff.1 hv).1]
      exact hv
    | succ i =>
      rw [List.getElem?_append_right (by rw [hy]; omega), hy, show (i + 1) * 34 + j - 34 = i * 34 + j by omega]
      exact ih (fun z hz => hxs z (by simp [hz])) hi
theorem OwnC.ca {t : TypeId} {w : World} {B : Nat} {v : Value} {xs : List Cn} (h : OwnC t w B v xs) (hxs : ∀ x ∈ xs, CnOk w x) : ∃ A c, v = .slice A xs.length c ∧ xs.length ≤ c ∧ CA w A xs := by
  obtain ⟨h0, ⟨rfl, h⟩ | ⟨g, cap, cur, rfl, hg, hh, hn, hc, hs, ht⟩⟩ := h
  · exact ⟨none, 0, by rw [h], by omega, fun i x hi => by
      have : xs = [] := List.length_eq_zero_iff.1 h
      subst this; simp at hi⟩
  · refine ⟨_, cap, rfl, hn, fun i x hi => ⟨hxs x (List.mem_of_getElem? hi), g, 0, rfl, fun j y hy => ?_⟩⟩
    have h1 := flatC_at (fun x hx => (hxs x hx).key) hi hy
    have hlt := (List.getElem?_eq_some_iff.1 h1).1
    rw [h0] at hlt
    rw [Nat.zero_add, cell_of_cells hh, ← Array.getElem?_toList, ← h1, ← ht, List.getElem?_take, if_pos hlt]
/-- One change is appended. -/
theorem wpList_pushC {t st : TypeId} (hu : Tryd.prog.underlying st = some (.slice t)) (hin : (Tryd.prog.info? t).map (fun i => (i.zero, i.size, i.bytes)) = some (some (.agg (((List.range 32).map fun _ => (0 : UInt8)).map bv ++ [Value.slice none 0 0, Value.bool false]).toArray), 34, 64))
    {ops : Array Oper} {rest : List Oper} {o : Oper} {a : Act} {w : World} {Q : Exit → Act → World → Prop} (hgd : o.guard = none) (s x : Operand)
    (ho : o.op = .call { callee := .builtin .append, args := #[s, x], argTypes := #[st, st] }) (B : Nat) (v : Value) (xs : List Cn) (hs : a.eval s = v) (hown : OwnC t w B v xs) (g : Nat) (e : Cn) (hk : e.k.length = 32)
    (hx : a.eval x = .slice (some ⟨g, 0, none⟩) 1 1) (hr : w.rangeAt g 0 (cnC e)) (hl : xs.length ≤ 1000000) (hB : B ≤ w.heap.size)
    (h : ∀ v' w', OwnC t w' B v' (xs ++ [e]) → Grown11 v v' w w' → wpList Tryd.prog ops Q rest (a.put o.dst v') w') : wpList Tryd.prog ops Q (o :: rest) a w := by
  obtain ⟨i0, hi, hz0, hz1, hz2⟩ := info_parts hin
  refine wpList_append_own_at (w := w) hgd s x st ho B t i0 _ 34 64 hu hi hz0 hz1 hz2 rfl (by decide) v xs.length (xs.flatMap cnC) hs hown ⟨g, 0, none⟩ 1 1 (cnC e) hx (by rw [cnC_len hk])
    (fun j u hj => ?_) (fun u hu => cnC_one e u hu) (by unfold maxLen; omega) (by omega) hB fun v' w' h1 h2 _ h4 => h v' w' ?_ ⟨h2, h4⟩
  · have := hr j u hj
    rwa [show (⟨g, 0, none⟩ : Addr).add j = ⟨g, 0 + j, none⟩ from add_none g 0 j]
  · unfold OwnC
    rw [List.flatMap_append, List.length_append]
    simpa using h1
theorem wpList_pushC2 {t st : TypeId} (hu : Tryd.prog.underlying st = some (.slice t)) (hin : (Tryd.prog.info? t).map (fun i => (i.zero, i.size, i.bytes)) = some (some (.agg (((List.range 32).map fun _ => (0 : UInt8)).map bv ++ [Value.slice none 0 0, Value.bool false]).toArray), 34, 64))
    {ops : Array Oper} {rest : List Oper} {o : Oper} {a : Act} {w : World} {Q : Exit → Act → World → Prop} (hgd : o.guard = none) (s x : Operand)
    (ho : o.op = .call { callee := .builtin .append, args := #[s, x], argTypes := #[st, st] }) (B : Nat) (v : Value) (xs : List Cn) (hs : a.eval s = v) (hown : OwnC t w B v xs) (e : Cn) (hk : e.k.length = 32)
    (hx : a.eval x = .slice (some ⟨w.heap.size, 0, none⟩) 1 1) (hl : xs.length ≤ 1000000) (hB : B ≤ w.heap.size)
    (h : ∀ A n c w', OwnC t w' B (.slice A n c) (xs ++ [e]) → n = xs.length + 1 → Below B w w' → wpList Tryd.prog ops Q rest (a.put o.dst (.slice A n c)) w') : wpList Tryd.prog ops Q (o :: rest) a (w.alloc (.cells (cnC e).toArray t)) := by
  have hb : Below w.heap.size w (w.alloc (.cells (cnC e).toArray t)) := (Below.refl _ _).alloc (Nat.le_refl _) _
  refine wpList_pushC hu hin hgd s x ho B v xs hs (hown.below hb) w.heap.size e hk hx (cn_made w e t) hl (Nat.le_trans hB hb.size) fun v' w' h1 h2 => ?_
  have h3 : Below B w w' := (hb.mono hB).trans ((Below.refl _ _).grown h2.by_ (Nat.le_trans hB hb.size) fun k hk => (hown.below hb).ge k hk)
  obtain ⟨A, c, rfl, _⟩ := h1.len
  exact h A _ c w' h1 (by rw [List.length_append]; rfl) h3
/-! ### The two types -/
theorem infoCb : (Tryd.prog.info? 50).map (fun i => (i.zero, i.size, i.bytes)) = some (some (.agg (((List.range 32).map fun _ => (0 : UInt8)).map bv ++ [Value.slice none 0 0, Value.bool false]).toArray), 34, 64) := by kernel_rfl
theorem infoCr : (Tryd.prog.info? 52).map (fun i => (i.zero, i.size, i.bytes)) = some (some (.agg (((List.range 32).map fun _ => (0 : UInt8)).map bv ++ [Value.slice none 0 0, Value.bool false]).toArray), 34, 64) := by kernel_rfl
theorem infoCb1 : (Tryd.prog.info? 50).map (·.size) = some 34 := by kernel_rfl
@[go_sem ↓] theorem execOp_loadCb (ρ : Operand → Value) (dst : Option Tmp) (x : Operand) (type : TypeId) (pos : String) (after : Array Edge) (guard : Option (Nat × Bool)) (w : World) :
    Sem.run Tryd.prog (execOp ρ { dst, op := .load 50 x, type, pos, after, guard }) w = ldA 50 w (ρ x) := rfl
@[go_sem ↓] theorem execOp_loadCr (ρ : Operand → Value) (dst : Option Tmp) (x : Operand) (type : TypeId) (pos : String) (after : Array Edge) (guard : Option (Nat × Bool)) (w : World) :
    Sem.run Tryd.prog (execOp ρ { dst, op := .load 52 x, type, pos, after, guard }) w = ldA 52 w (ρ x) := rfl
@[go_sem ↓] theorem execOp_storeCb (ρ : Operand → Value) (dst : Option Tmp) (x y : Operand) (type : TypeId) (pos : String) (after : Array Edge) (guard : Option (Nat × Bool)) (w : World) :
    Sem.run Tryd.prog (execOp ρ { dst, op := .store 50 x y, type, pos, after, guard }) w = stA 50 w (ρ x) (ρ y) := rfl
@[go_sem ↓] theorem execOp_storeCr (ρ : Operand → Value) (dst : Option Tmp) (x y : Operand) (type : TypeId) (pos : String) (after : Array Edge) (guard : Option (Nat × Bool)) (w : World) :
    Sem.run Tryd.prog (execOp ρ { dst, op := .store 52 x y, type, pos, after, guard }) w = stA 52 w (ρ x) (ρ y) := rfl
@[go_sem ↓] theorem execOp_buildCb (ρ : Operand → Value) (dst : Option Tmp) (parts : Array (Nat × Operand)) (type : TypeId) (pos : String) (after : Array Edge) (guard : Option (Nat × Bool)) (w : World) :
    Sem.run Tryd.prog (execOp ρ { dst, op := .build 50 parts, type, pos, after, guard }) w = bldA 50 w (parts.map fun x => (x.1, ρ x.2)) := rfl
@[go_sem ↓] theorem execOp_buildCr (ρ : Operand → Value) (dst : Option Tmp) (parts : Array (Nat × Operand)) (type : TypeId) (pos : String) (after : Array Edge) (guard : Option (Nat × Bool)) (w : World) :
    Sem.run Tryd.prog (execOp ρ { dst, op := .build 52 parts, type, pos, after, guard }) w = bldA 52 w (parts.map fun x => (x.1, ρ x.2)) := rfl
noncomputable def bsC (t : TypeId) (w : World) (n : Nat) (parts : Array (Nat × Value)) : Result Next := Sem.run Tryd.prog (do pure (.value (← Instr.buildSlice t n parts))) w
@[go_sem ↓] theorem execOp_bsCb (ρ : Operand → Value) (dst : Option Tmp) (n : Nat) (parts : Array (Nat × Operand)) (type : TypeId) (pos : String) (after : Array Edge) (guard : Option (Nat × Bool)) (w : World) :
    Sem.run Tryd.prog (execOp ρ { dst, op := .buildSlice 30 n parts, type, pos, after, guard }) w = bsC 30 w n (parts.map fun x => (x.1, ρ x.2)) := rfl
@[go_sem ↓] theorem execOp_bsCr (ρ : Operand → Value) (dst : Option Tmp) (n : Nat) (parts : Array (Nat × Operand)) (type : TypeId) (pos : String) (after : Array Edge) (guard : Option (Nat × Bool)) (w : World) :
    Sem.run Tryd.prog (execOp ρ { dst, op := .buildSlice 28 n parts, type, pos, after, guard }) w = bsC 28 w n (parts.map fun x => (x.1, ρ x.2)) := rfl
theorem bsCb_f (f : Nat → UInt8) (A : Option Addr) (n c : Nat) (d : Bool) (w : World) : bsC 30 w 1 #[(0, .agg (((List.range 32).map f).map bv ++ [Value.slice A n c, Value.bool d]).toArray)] = .ok (.value (.slice (some ⟨w.heap.size, 0, none⟩) 1 1)) (w.alloc (.cells (((List.range 32).map f).map bv ++ [Value.slice A n c, Value.bool d]).toArray 50)) := by kernel_rfl
theorem bsCb_one (x : Cn) (hk : x.k.length = 32) (w : World) : bsC 30 w 1 #[(0, .agg (cnC x).toArray)] = .ok (.value (.slice (some ⟨w.heap.size, 0, none⟩) 1 1)) (w.alloc (.cells (cnC x).toArray 50)) := by
  have := bsCb_f (fun j => x.k.getD j 0) x.A x.v.length x.c x.d w
  rw [← list32 x.k hk] at this
  exact this
theorem bsCr_f (f : Nat → UInt8) (A : Option Addr) (n c : Nat) (d : Bool) (w : World) : bsC 28 w 1 #[(0, .agg (((List.range 32).map f).map bv ++ [Value.slice A n c, Value.bool d]).toArray)] = .ok (.value (.slice (some ⟨w.heap.size, 0, none⟩) 1 1)) (w.alloc (.cells (((List.range 32).map f).map bv ++ [Value.slice A n c, Value.bool d]).toArray 52)) := by kernel_rfl
theorem bsCr_one (x : Cn) (hk : x.k.length = 32) (w : World) : bsC 28 w 1 #[(0, .agg (cnC x).toArray)] = .ok (.value (.slice (some ⟨w.heap.size, 0, none⟩) 1 1)) (w.alloc (.cells (cnC x).toArray 52)) := by
  have := bsCr_f (fun j => x.k.getD j 0) x.A x.v.length x.c x.d w
  rw [← list32 x.k hk] at this
  exact this
theorem range_cb {w : World} {g o : Nat} {x : Cn} (h : w.rangeAt g o (cnC x)) (hk : x.k.length = 32) : ldA 50 w (.pointer (some ⟨g, o, none⟩)) = .ok (.value (.agg (cnC x).toArray)) w := by
  unfold ldA
  rw [Sem.run_bind, run_loadAt_mid (P := Tryd.prog) w g o 50 (cnC x) _ h Tryd.underlying50 rfl (by rw [cnC_len hk]; exact infoCb1)]
  simp [Sem.run_pure, Result.andThen_ok]
theorem stC_new {t : TypeId} (hin : (Tryd.prog.info? t).map (·.size) = some 34) {w : World} {x z : Cn} (hx : x.k.length = 32) (hz : z.k.length = 32) :
    stA t (w.alloc (.cells (cnC z).toArray t)) (.pointer (some ⟨w.heap.size, 0, none⟩)) (.agg (cnC x).toArray) = .ok .skip (w.alloc (.cells (cnC x).toArray t)) :=
  stA_new w _ _ (by rw [List.size_toArray, cnC_len hx]; exact hin) (by rw [List.size_toArray, List.size_toArray, cnC_len hx, cnC_len hz]) (by rw [List.all_toArray, List.all_eq_true]; exact cnC_one x)
end Go.Proofs.YtaajnjddfcdeaaaDoor

/- The reference's Check of keys. -/
namespace Go.Proofs.YtaajnjddfcdeaaaDoor
open Go.RowKit

theorem drop_two {ks : List (List UInt8)} {j : Nat} {a b : List UInt8} (ha : ks[j]? = some a) (hb : ks[j + 1]? = some b) : ks.drop j = a :: b :: ks.drop (j + 2) := by
  obtain ⟨h1, rfl⟩ := List.getElem?_eq_some_iff.1 ha
  obtain ⟨h2, rfl⟩ := List.getElem?_eq_some_iff.1 hb
  rw [List.drop_eq_getElem_cons h1, List.drop_eq_getElem_cons h2]
theorem chk_few {ks : List (List UInt8)} {j : Nat} (h : ks.length ≤ j + 1) : chkK (ks.drop j) = 0 := by
  have hl : (ks.drop j).length ≤ 1 := by rw [List.length_drop]; omega
  match ks.drop j, hl with
  | [], _ => rfl
  | [a], _ => rfl
end Go.Proofs.YtaajnjddfcdeaaaDoor

/- The reference's Check and Few of changes. -/
namespace Go.Proofs.YtaajnjddfcdeaaaDoor
open Go.RowKit

end Go.Proofs.YtaajnjddfcdeaaaDoor

/- The reference's Apply of changes. -/
namespace Go.Proofs.YtaajnjddfcdeaaaDoor
open Go.RowKit

end Go.Proofs.YtaajnjddfcdeaaaDoor

/- The reference's Sort of keys. -/
namespace Go.Proofs.YtaajnjddfcdeaaaDoor
open Go.RowKit

theorem take_ins {ks : List (List UInt8)} {i : Nat} {k : List UInt8} (h : ks[i]? = some k) : sortS (ks.take (i + 1)) = insS k (sortS (ks.take i)) := by
  obtain ⟨hi, rfl⟩ := List.getElem?_eq_some_iff.1 h
  unfold sortS
  rw [List.take_succ_eq_append_getElem hi, List.foldl_append]
  rfl
theorem sortS_len (l : List (List UInt8)) : (sortS l).length ≤ l.length := by
  have := foldS_len l []
  simpa [sortS] using this
theorem sortS_32 {l : List (List UInt8)} (h : K32 l) : K32 (sortS l) := fun k hk => h k ((sortS_mem h k).1 hk)
set_option maxHeartbeats 16000000 in
set_option maxRecDepth 100000 in
theorem sort2_c (A : Option Addr) (c : Nat) (ks : List (List UInt8)) (w : World) (hA : KS w A ks) (hn : ks.length ≤ 1000) :
    Calls Tryd.prog 21 #[.slice A ks.length c] w fun e w' => ∃ (A' : Option Addr) (c' : Nat), e = .returned (.slice A' (sortS ks).length c') ∧ KS w' A' (sortS ks) ∧ Below w.heap.size w w' := by
  have HA := Lib.hid hA
  have H32 : Hid (K32 ks) := fun k hk => by
    obtain ⟨i, hi⟩ := List.getElem?_of_mem hk
    exact (hA i k hi).1
  have hn9 : ks.length ≤ 1000 := hn
  clear hA hn
  go_enter Tryd.func21, Tryd.ntmps21
  go_wp2_with fail
  go_loopg [3, 4, 5, 6, 7, 8] ks.length (fun gg ov iv _ _ _ _ wr => ∃ (i : Nat) (v : Value) (os : List (List UInt8)), v = ov ∧ iv = .int .i64 (i : Int) ∧ i ≤ ks.length ∧ ks.length - i = gg ∧ Hid (OwnS wr w.heap.size v os ∧ os = sortS (ks.take i)) ∧ Below w.heap.size w wr)
  case atStart => exact ⟨0, _, [], rfl, rfl, by omega, by omega, ⟨OwnS.nil _ _, rfl⟩, Below.refl _ _⟩
  case round =>
    obtain ⟨i, v, os, rfl, rfl, hi, rfl, HRR, hB⟩ := hrel
    obtain ⟨wo, rfl⟩ : ∃ wo : World, wo = wr := ⟨_, rfl⟩
    have HB := Lib.hid hB
    clear hB
    have hos : os.length ≤ 1000 := by
      have h1 := sortS_len (ks.take i)
      rw [← HRR.out.2, List.length_take] at h1
      omega
    have HO32 : Hid (K32 os) := by
      show K32 os
      rw [HRR.out.2]
      exact sortS_32 fun k hk => H32.out k (List.mem_of_mem_take hk)
    obtain ⟨Ao, co, hv, hks⟩ := OwnS.ks HRR.out.1 HO32.out
    have HRV : Hid (OwnS wo w.heap.size (.slice Ao os.length co) os) := by show OwnS _ _ _ _; rw [← hv]; exact HRR.out.1
    have HOE := Lib.hid HRR.out.2
    subst hv
    have HKS := Lib.hid hks
    clear hks HRR
    by_cases hlt : i < ks.length
    · have hd : decide (i < ks.length) = true := decide_eq_true hlt
      obtain ⟨k, hk⟩ : ∃ k, ks[i]? = some k := ⟨_, List.getElem?_eq_getElem hlt⟩
      obtain ⟨hkk, g, o, rfl, hr⟩ := HA.out i k hk
      have HKK := Lib.hid hkk
      have LKK : Hid (∀ y, Below wo.heap.size wo y → ldA 44 y (.pointer (some ⟨g, o + i * 32, none⟩)) = .ok (.value (.agg (bA k))) y) := fun y hy => range_keyS (range_below (range_below hr HB.out) hy) hkk
      have HTK : Hid (sortS (ks.take (i + 1)) = insS k os) := by show _ = _; rw [take_ins hk, ← HOE.out]
      have p0 : (0 : Int) ≤ (i : Int) := by omega
      have p1 : (i : Int) < (ks.length : Int) := by omega
      clear hk hr hkk
      go_wp2_with fail
      go_loopg [5, 6, 7, 8] os.length (fun gg nv dv jv _ wr => ∃ (j : Nat) (ns : List (List UInt8)) (dn : Bool) (v : Value), v = nv ∧ dv = .bool dn ∧ jv = .int .i64 (j : Int) ∧ j ≤ os.length ∧ os.length - j = gg ∧ Hid (OwnS wr wo.heap.size v ns ∧ ns ++ (if dn then os.drop j else insS k (os.drop j)) = insS k os ∧ ns.length ≤ 2 * j) ∧ Below wo.heap.size wo wr)
      case atStart => exact ⟨0, [], false, _, rfl, rfl, rfl, by omega, by omega, ⟨OwnS.nil _ _, by simp, by simp⟩, Below.refl _ _⟩
      case round =>
        obtain ⟨j, ns, dn, v, rfl, rfl, rfl, hj, rfl, HRI, hBi⟩ := hrel
        have HBi := Lib.hid hBi
        have HNX := Lib.hid HRI.out.1
        have HEL9 := Lib.hid HRI.out.2.2
        have HEL : Hid (ns.length ≤ 1000000) := by show _ ≤ _; have := HRI.out.2.2; omega
        clear hBi
        by_cases hlt2 : j < os.length
        · have hd2 : decide (j < os.length) = true := decide_eq_true hlt2
          obtain ⟨x, hx⟩ : ∃ x, os[j]? = some x := ⟨_, List.getElem?_eq_getElem hlt2⟩
          obtain ⟨hxk, g2, o2, rfl, hr2⟩ := HKS.out j x hx
          have HXK := Lib.hid hxk
          have LX : Hid (∀ y, Below wo.heap.size wo y → ldA 44 y (.pointer (some ⟨g2, o2 + j * 32, none⟩)) = .ok (.value (.agg (bA x))) y) := fun y hy => range_keyS (range_below hr2 hy) hxk
          have HDR : Hid (os.drop j = x :: os.drop (j + 1)) := by
            obtain ⟨h1, rfl⟩ := List.getElem?_eq_some_iff.1 hx
            exact List.drop_eq_getElem_cons h1
          have la : ∀ z : Later wr, ldA 44 z.w (.pointer (some ⟨g2, o2 + j * 32, none⟩)) = .ok (.value (.agg (bA x))) z.w := fun z => LX.out _ (HBi.out.trans (z.h.mono HBi.out.size))
          have lb : ∀ z : Later wr, ldA 44 z.w (.pointer (some ⟨g, o + i * 32, none⟩)) = .ok (.value (.agg (bA k))) z.w := fun z => LKK.out _ (HBi.out.trans (z.h.mono HBi.out.size))
          have q0 : (0 : Int) ≤ (j : Int) := by omega
          have q1 : (j : Int) < (os.length : Int) := by omega
          have bx := bsS_one x hxk
          have bk := bsS_one k HKK.out
          have HST := Lib.hid HRI.out.2.1
          clear hx hr2 hxk HRI
          cases dn with
          | true =>
            rcases cmpK_range x k with hc | hc | hc
            · skip
              have HF : Hid (ns ++ [x] ++ os.drop (j + 1) = insS k os) := by
                show _ = _
                have h1 := HST.out
                rw [HDR.out] at h1
                rw [← h1]
                simp
              have HCMP : Hid (∀ y : World, Calls Tryd.prog 39 #[.agg (bA x), .agg (bA k)] y fun e w' => e = .returned (.int .i64 (-1)) ∧ Below y.heap.size y w') := fun y => by
                have := cmpK_c x k HXK.out HKK.out y
                rwa [hc] at this
              clear hc
              go_wp2_with fail
              refine wp_region_later (by kernel_rfl) (by kernel_rfl) ?_
              repeat (go_big_quiet_step ((go_at_call 39; exact Later.call (HCMP.out _))))
              refine wpQuiet_nil ?_
              rintro _ ⟨z, rfl⟩
              have HZ : Hid (Below wo.heap.size wo z.w) := HBi.out.trans (z.h.mono HBi.out.size)
              have HNZ := Lib.hid (HNX.out.below z.h)
              have lx := LX.out z.w HZ.out
              have lkk := LKK.out z.w HZ.out
              clear la lb
              go_wp2_with (at_builtin; refine wpList_pushS2 rfl _ _ rfl wo.heap.size v ns rfl HNZ.out x HXK.out rfl HEL.out HZ.out.size ?_; intro A8 n8 c8 w8 hO hN hB; have HO8 := Lib.hid hO; have HN8 := Lib.hid hN; have HB8 := Lib.hid (HZ.out.trans hB); clear hO hN hB)
              go_roundg (os.length - (j + 1))
              case measure => omega
              case rel => exact ⟨j + 1, ns ++ [x], true, _, rfl, rfl, by go_num, by omega, rfl, ⟨HO8.out, HF.out, by have := HEL9.out; simp; omega⟩, HB8.out⟩
            · skip
              have HF : Hid (ns ++ [x] ++ os.drop (j + 1) = insS k os) := by
                show _ = _
                have h1 := HST.out
                rw [HDR.out] at h1
                rw [← h1]
                simp
              have HCMP : Hid (∀ y : World, Calls Tryd.prog 39 #[.agg (bA x), .agg (bA k)] y fun e w' => e = .returned (.int .i64 (0)) ∧ Below y.heap.size y w') := fun y => by
                have := cmpK_c x k HXK.out HKK.out y
                rwa [hc] at this
              clear hc
              go_wp2_with fail
              refine wp_region_later (by kernel_rfl) (by kernel_rfl) ?_
              repeat (go_big_quiet_step ((go_at_call 39; exact Later.call (HCMP.out _))))
              refine wpQuiet_nil ?_
              rintro _ ⟨z, rfl⟩
              have HZ : Hid (Below wo.heap.size wo z.w) := HBi.out.trans (z.h.mono HBi.out.size)
              have HNZ := Lib.hid (HNX.out.below z.h)
              have lx := LX.out z.w HZ.out
              have lkk := LKK.out z.w HZ.out
              clear la lb
              go_wp2_with (at_builtin; refine wpList_pushS2 rfl _ _ rfl wo.heap.size v ns rfl HNZ.out x HXK.out rfl HEL.out HZ.out.size ?_; intro A8 n8 c8 w8 hO hN hB; have HO8 := Lib.hid hO; have HN8 := Lib.hid hN; have HB8 := Lib.hid (HZ.out.trans hB); clear hO hN hB)
              go_roundg (os.length - (j + 1))
              case measure => omega
              case rel => exact ⟨j + 1, ns ++ [x], true, _, rfl, rfl, by go_num, by omega, rfl, ⟨HO8.out, HF.out, by have := HEL9.out; simp; omega⟩, HB8.out⟩
            · skip
              have HF : Hid (ns ++ [x] ++ os.drop (j + 1) = insS k os) := by
                show _ = _
                have h1 := HST.out
                rw [HDR.out] at h1
                rw [← h1]
                simp
              have HCMP : Hid (∀ y : World, Calls Tryd.prog 39 #[.agg (bA x), .agg (bA k)] y fun e w' => e = .returned (.int .i64 (1)) ∧ Below y.heap.size y w') := fun y => by
                have := cmpK_c x k HXK.out HKK.out y
                rwa [hc] at this
              clear hc
              go_wp2_with fail
              refine wp_region_later (by kernel_rfl) (by kernel_rfl) ?_
              repeat (go_big_quiet_step ((go_at_call 39; exact Later.call (HCMP.out _))))
              refine wpQuiet_nil ?_
              rintro _ ⟨z, rfl⟩
              have HZ : Hid (Below wo.heap.size wo z.w) := HBi.out.trans (z.h.mono HBi.out.size)
              have HNZ := Lib.hid (HNX.out.below z.h)
              have lx := LX.out z.w HZ.out
              have lkk := LKK.out z.w HZ.out
              clear la lb
              go_wp2_with (at_builtin; refine wpList_pushS2 rfl _ _ rfl wo.heap.size v ns rfl HNZ.out x HXK.out rfl HEL.out HZ.out.size ?_; intro A8 n8 c8 w8 hO hN hB; have HO8 := Lib.hid hO; have HN8 := Lib.hid hN; have HB8 := Lib.hid (HZ.out.trans hB); clear hO hN hB)
              go_roundg (os.length - (j + 1))
              case measure => omega
              case rel => exact ⟨j + 1, ns ++ [x], true, _, rfl, rfl, by go_num, by omega, rfl, ⟨HO8.out, HF.out, by have := HEL9.out; simp; omega⟩, HB8.out⟩
          | false =>
            rcases cmpK_range x k with hc | hc | hc
            · skip
              have HF : Hid (ns ++ [x] ++ insS k (os.drop (j + 1)) = insS k os) := by
                show _ = _
                have h1 := HST.out
                rw [HDR.out] at h1
                rw [← h1]
                rw [show insS k (x :: os.drop (j + 1)) = x :: insS k (os.drop (j + 1)) by rw [insS, if_neg (show ¬ cmpK x k = 0 by omega), if_neg (show ¬ 0 < cmpK x k by omega)]]; simp
              have HCMP : Hid (∀ y : World, Calls Tryd.prog 39 #[.agg (bA x), .agg (bA k)] y fun e w' => e = .returned (.int .i64 (-1)) ∧ Below y.heap.size y w') := fun y => by
                have := cmpK_c x k HXK.out HKK.out y
                rwa [hc] at this
              clear hc
              go_wp2_with fail
              refine wp_region_later (by kernel_rfl) (by kernel_rfl) ?_
              repeat (go_big_quiet_step ((go_at_call 39; exact Later.call (HCMP.out _))))
              refine wpQuiet_nil ?_
              rintro _ ⟨z, rfl⟩
              have HZ : Hid (Below wo.heap.size wo z.w) := HBi.out.trans (z.h.mono HBi.out.size)
              have HNZ := Lib.hid (HNX.out.below z.h)
              have lx := LX.out z.w HZ.out
              have lkk := LKK.out z.w HZ.out
              clear la lb
              go_wp2_with (at_builtin; refine wpList_pushS2 rfl _ _ rfl wo.heap.size v ns rfl HNZ.out x HXK.out rfl HEL.out HZ.out.size ?_; intro A8 n8 c8 w8 hO hN hB; have HO8 := Lib.hid hO; have HN8 := Lib.hid hN; have HB8 := Lib.hid (HZ.out.trans hB); clear hO hN hB)
              go_roundg (os.length - (j + 1))
              case measure => omega
              case rel => exact ⟨j + 1, ns ++ [x], false, _, rfl, rfl, by go_num, by omega, rfl, ⟨HO8.out, HF.out, by have := HEL9.out; simp; omega⟩, HB8.out⟩
            · skip
              have HF : Hid (ns ++ [x] ++ os.drop (j + 1) = insS k os) := by
                show _ = _
                have h1 := HST.out
                rw [HDR.out] at h1
                rw [← h1]
                rw [show insS k (x :: os.drop (j + 1)) = x :: os.drop (j + 1) by rw [insS, if_pos hc]]; simp
              have HCMP : Hid (∀ y : World, Calls Tryd.prog 39 #[.agg (bA x), .agg (bA k)] y fun e w' => e = .returned (.int .i64 (0)) ∧ Below y.heap.size y w') := fun y => by
                have := cmpK_c x k HXK.out HKK.out y
                rwa [hc] at this
              clear hc
              go_wp2_with fail
              refine wp_region_later (by kernel_rfl) (by kernel_rfl) ?_
              repeat (go_big_quiet_step ((go_at_call 39; exact Later.call (HCMP.out _))))
              refine wpQuiet_nil ?_
              rintro _ ⟨z, rfl⟩
              have HZ : Hid (Below wo.heap.size wo z.w) := HBi.out.trans (z.h.mono HBi.out.size)
              have HNZ := Lib.hid (HNX.out.below z.h)
              have lx := LX.out z.w HZ.out
              have lkk := LKK.out z.w HZ.out
              clear la lb
              go_wp2_with (at_builtin; refine wpList_pushS2 rfl _ _ rfl wo.heap.size v ns rfl HNZ.out x HXK.out rfl HEL.out HZ.out.size ?_; intro A8 n8 c8 w8 hO hN hB; have HO8 := Lib.hid hO; have HN8 := Lib.hid hN; have HB8 := Lib.hid (HZ.out.trans hB); clear hO hN hB)
              go_roundg (os.length - (j + 1))
              case measure => omega
              case rel => exact ⟨j + 1, ns ++ [x], true, _, rfl, rfl, by go_num, by omega, rfl, ⟨HO8.out, HF.out, by have := HEL9.out; simp; omega⟩, HB8.out⟩
            · skip
              have HF : Hid (ns ++ [k] ++ [x] ++ os.drop (j + 1) = insS k os) := by
                show _ = _
                have h1 := HST.out
                rw [HDR.out] at h1
                rw [← h1]
                rw [show insS k (x :: os.drop (j + 1)) = k :: x :: os.drop (j + 1) by rw [insS, if_neg (show ¬ cmpK x k = 0 by omega), if_pos (show 0 < cmpK x k by omega)]]; simp
              have HCMP : Hid (∀ y : World, Calls Tryd.prog 39 #[.agg (bA x), .agg (bA k)] y fun e w' => e = .returned (.int .i64 (1)) ∧ Below y.heap.size y w') := fun y => by
                have := cmpK_c x k HXK.out HKK.out y
                rwa [hc] at this
              clear hc
              go_wp2_with fail
              refine wp_region_later (by kernel_rfl) (by kernel_rfl) ?_
              repeat (go_big_quiet_step ((go_at_call 39; exact Later.call (HCMP.out _))))
              refine wpQuiet_nil ?_
              rintro _ ⟨z, rfl⟩
              have HZ : Hid (Below wo.heap.size wo z.w) := HBi.out.trans (z.h.mono HBi.out.size)
              have HNZ := Lib.hid (HNX.out.below z.h)
              have lx := LX.out z.w HZ.out
              have lkk := LKK.out z.w HZ.out
              clear la lb
              go_wp2_with (at_builtin; first | (refine wpList_pushS2 rfl _ _ rfl wo.heap.size v ns rfl HNZ.out k HKK.out rfl HEL.out HZ.out.size ?_; intro A7 n7 c7 w7 hO hN hB; have HO7 := Lib.hid hO; have HN7 := Lib.hid hN; have HB7 := Lib.hid (HZ.out.trans hB); clear hO hN hB; have lx7 := LX.out w7 HB7.out; have HEL7 : Hid ((ns ++ [k]).length ≤ 1000000) := (by show _ ≤ _; rw [List.length_append]; have := HEL9.out; simp; omega); clear lx lkk) | (refine wpList_pushS2 rfl _ _ rfl wo.heap.size (.slice A7 n7 c7) (ns ++ [k]) rfl HO7.out x HXK.out rfl HEL7.out HB7.out.size ?_; intro A8 n8 c8 w8 hO hN hB; have HO8 := Lib.hid hO; have HN8 := Lib.hid hN; have HB8 := Lib.hid (HB7.out.trans hB); clear hO hN hB))
              go_roundg (os.length - (j + 1))
              case measure => omega
              case rel => exact ⟨j + 1, ns ++ [k] ++ [x], true, _, rfl, rfl, by go_num, by omega, rfl, ⟨HO8.out, HF.out, by have := HEL9.out; simp; omega⟩, HB8.out⟩
        · obtain rfl : j = os.length := by omega
          have hd2 : decide (os.length < os.length) = false := decide_eq_false (by omega)
          have lkk := LKK.out wr HBi.out
          have bk := bsS_one k HKK.out
          have HST := Lib.hid HRI.out.2.1
          have HBB : Hid (w.heap.size ≤ wo.heap.size) := HB.out.size
          clear HRI
          cases dn with
          | true =>
            have HF : Hid (ns = sortS (ks.take (i + 1))) := by
              show _ = _
              rw [HTK.out, ← HST.out]
              simp
            go_wp2_with fail
            go_roundg (ks.length - (i + 1))
            case measure => omega
            case rel => exact ⟨i + 1, v, ns, rfl, by go_num, by omega, rfl, ⟨row11_low HNX.out HBB.out, HF.out⟩, HB.out.trans (HBi.out.mono HBB.out)⟩
          | false =>
            have HF : Hid (ns ++ [k] = sortS (ks.take (i + 1))) := by
              show _ = _
              rw [HTK.out, ← HST.out]
              simp [insS]
            go_wp2_with (at_builtin; refine wpList_pushS2 rfl _ _ rfl wo.heap.size v ns rfl HNX.out k HKK.out rfl HEL.out HBi.out.size ?_; intro A8 n8 c8 w8 hO hN hB; have HO8 := Lib.hid hO; have HN8 := Lib.hid hN; have HB8 := Lib.hid (HBi.out.trans hB); clear hO hN hB)
            go_roundg (ks.length - (i + 1))
            case measure => omega
            case rel => exact ⟨i + 1, _, ns ++ [k], rfl, by go_num, by omega, rfl, ⟨row11_low HO8.out HBB.out, HF.out⟩, HB.out.trans (HB8.out.mono HBB.out)⟩
    · obtain rfl : i = ks.length := by omega
      have hd : decide (ks.length < ks.length) = false := decide_eq_false (by omega)
      have hoe := HOE.out
      rw [List.take_length] at hoe
      subst hoe
      go_wp2_with fail
      go_ret
      exact ⟨Ao, co, rfl, HKS.out, HB.out⟩
end Go.Proofs.YtaajnjddfcdeaaaDoor
