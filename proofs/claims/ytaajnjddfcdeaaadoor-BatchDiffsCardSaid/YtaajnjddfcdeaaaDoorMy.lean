/- Maps and subtrees: plain facts (digest and length of what Grow makes). -/
import Derived.Test.YtaajnjddfcdeaaaDoorMx
namespace Go.Proofs.YtaajnjddfcdeaaaDoor

def digT (n : Int) : Tr → List UInt8
  | .nil => digL n emptyL
  | .leaf e => digL n (leafL e.k (digL n (valL e.v)))
  | .inner a b => digL n (nodeL (digT n a) (digT n b))
theorem digT_len (n : Int) (t : Tr) : (digT n t).length = 32 := by cases t <;> exact dig_len _ _
theorem joinT_inner : ∀ (s t : Tr), 2 ≤ lenT s + lenT t → joinT s t = .inner s t
  | .nil, .nil, h => absurd h (by decide)
  | .nil, .leaf _, h => absurd h (by simp [lenT])
  | .leaf _, .nil, h => absurd h (by simp [lenT])
  | .nil, .inner _ _, _ => rfl
  | .leaf _, .leaf _, _ => rfl
  | .leaf _, .inner _ _, _ => rfl
  | .inner _ _, .nil, _ => rfl
  | .inner _ _, .leaf _, _ => rfl
  | .inner _ _, .inner _ _, _ => rfl
/-- Keys of 32 bytes, no two alike, the same in the first bits. -/
structure Sep (d : Int) (l : List Ent) : Prop where
  len : ∀ a ∈ l, a.k.length = 32
  ne : l.Pairwise (fun a b => a.k ≠ b.k)
  eq : ∀ a ∈ l, ∀ b ∈ l, ∀ i : Nat, (i : Int) < d → i < 256 → Bt.bit (keyF a.k) i = Bt.bit (keyF b.k) i
theorem Sep.two {d : Int} {l : List Ent} (h : Sep d l) (hl : 2 ≤ l.length) : d < 256 := by
  refine Classical.byContradiction fun hd => ?_
  match l, h, hl with
  | a :: b :: r, h, _ =>
    have h1 : a.k ≠ b.k := (List.pairwise_cons.1 h.ne).1 b (by simp)
    exact h1 (keyF_inj (h.len a (by simp)) (h.len b (by simp)) (Bt.key_ext (keyF_byt _) (keyF_byt _) fun i hi => h.eq a (by simp) b (by simp) i (by omega) hi))
theorem bitK_in (k : List UInt8) {d : Int} (h0 : 0 ≤ d) (h1 : d < 256) : bitK k d = (Bt.bit (keyF k) d.toNat : Int) := by unfold bitK Bt.bitI; rw [if_pos ⟨h0, h1⟩]
theorem Sep.part {d : Int} {l : List Ent} (h : Sep d l) (h0 : 0 ≤ d) (h1 : d < 256) (b : Int) : Sep (d + 1) (partK l d b) where
  len := fun a ha => h.len a (List.mem_filter.1 ha).1
  ne := h.ne.filter _
  eq := fun x hx y hy i hi h2 => by
    obtain ⟨hx1, hx2⟩ := List.mem_filter.1 hx
    obtain ⟨hy1, hy2⟩ := List.mem_filter.1 hy
    by_cases hd : (i : Int) < d
    · exact h.eq x hx1 y hy1 i hd h2
    · have e1 := of_decide_eq_true hx2
      have e2 := of_decide_eq_true hy2
      rw [bitK_in _ h0 h1, show d.toNat = i by omega] at e1 e2
      omega
theorem parts_sum (l : List Ent) {d : Int} (h0 : 0 ≤ d) (h1 : d < 256) : (partK l d 0).length + (partK l d 1).length = l.length := by
  induction l with
  | nil => rfl
  | cons x r ih =>
    unfold partK at *
    rw [List.filter_cons, List.filter_cons]
    have hb := Bt.bit_lt (keyF x.k) d.toNat
    have hk := bitK_in x.k h0 h1
    by_cases hz : bitK x.k d = 0
    · rw [if_pos (decide_eq_true hz), if_neg (by rw [decide_eq_false (by omega)]; simp)]
      rw [List.length_cons, List.length_cons]
      omega
    · rw [if_neg (by rw [decide_eq_false hz]; simp), if_pos (decide_eq_true (by omega))]
      rw [List.length_cons, List.length_cons]
      omega
/-- What Grow makes of a map has the map's length and the root's digest. -/
theorem grow_both (n : Int) : ∀ (f : Nat) (l : List Ent) (d : Int), Sep d l → Deep f d l.length → lenT (growT f l d) = l.length ∧ digT n (growT f l d) = rootK f n l d := by
  have few : ∀ (f : Nat) (l : List Ent) (d : Int), l.length ≤ 1 → lenT (growT f l d) = l.length ∧ digT n (growT f l d) = rootK f n l d := by
    intro f l d hl
    match l, hl with
    | [], _ => rw [growT_none, rootK_none]; exact ⟨rfl, rfl⟩
    | [e], _ => rw [growT_one, rootK_one]; exact ⟨rfl, rfl⟩
  intro f
  induction f with
  | zero =>
    intro l d _ hd
    exact few 0 l d (by rcases hd with h | ⟨h0, h1, h2⟩ <;> omega)
  | succ f ih =>
    intro l d hs hd
    rcases Nat.lt_or_ge l.length 2 with hl | hl
    · exact few (f + 1) l d (by omega)
    have h256 := hs.two hl
    have hd2 : 0 ≤ d ∧ 256 < d + (f + 1 : Nat) := by
      rcases hd with h | ⟨h0, h1, h2⟩
      · omega
      · exact ⟨h0, h2⟩
    obtain ⟨h0, h2⟩ := hd2
    have a := ih (partK l d 0) (d + 1) (hs.part h0 h256 0) (.inr ⟨by omega, by omega, by omega⟩)
    have b := ih (partK l d 1) (d + 1) (hs.part h0 h256 1) (.inr ⟨by omega, by omega, by omega⟩)
    have hsum := parts_sum l h0 h256
    rw [growT_two f l d hl, rootK_two f n l d hl, joinT_inner _ _ (by rw [a.1, b.1, hsum]; exact hl)]
    refine ⟨?_, ?_⟩
    · show lenT _ + lenT _ = _
      rw [a.1, b.1, hsum]
    · show digL n (nodeL (digT n _) (digT n _)) = _
      rw [a.2, b.2]
theorem insK_pair (e : Ent) : ∀ l : List Ent, l.Pairwise (fun a b => a.k ≠ b.k) → (∀ x ∈ l, e.k ≠ x.k) → (insK e l).Pairwise (fun a b => a.k ≠ b.k)
  | [], _, _ => List.pairwise_singleton _ _
  | x :: r, hp, hx => by
    show List.Pairwise _ (if _ then _ else _ : List Ent)
    split
    · exact List.pairwise_cons.2 ⟨hx, hp⟩
    · refine List.pairwise_cons.2 ⟨fun y hy => ?_, insK_pair e r (List.pairwise_cons.1 hp).2 fun y hy => hx y (by simp [hy])⟩
      rcases (insK_mem e y r).1 hy with rfl | h
      · exact (hx x (by simp)).symm
      · exact (List.pairwise_cons.1 hp).1 y h
theorem putK_pair {l : List Ent} (e : Ent) (h : l.Pairwise (fun a b => a.k ≠ b.k)) : (putK l e).Pairwise (fun a b => a.k ≠ b.k) :=
  insK_pair e _ (h.filter _) fun x hx he => by
    have := (List.mem_filter.1 hx).2
    rw [decide_eq_true he.symm] at this
    cases this
theorem foldK_pair : ∀ (l m : List Ent), m.Pairwise (fun a b => a.k ≠ b.k) → (l.foldl putK m).Pairwise (fun a b => a.k ≠ b.k)
  | [], _, h => h
  | x :: r, m, h => foldK_pair r (putK m x) (putK_pair x h)
theorem ofK_sep (l : List Ent) (h : ∀ e ∈ l, e.k.length = 32) : Sep 0 (ofK l) where
  len := fun a ha => by
    rcases ofK_mem l [] a ha with h1 | h1
    · simp at h1
    · exact h a h1
  ne := foldK_pair l [] List.Pairwise.nil
  eq := fun a _ b _ i hi => by omega
end Go.Proofs.YtaajnjddfcdeaaaDoor
