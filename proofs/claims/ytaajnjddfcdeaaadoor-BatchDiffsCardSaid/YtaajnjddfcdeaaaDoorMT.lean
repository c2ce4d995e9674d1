/- Several texts in one: Pa Ta Xa. -/
import Derived.Test.YtaajnjddfcdeaaaDoorM9
import Derived.Test.YtaajnjddfcdeaaaDoorMO
/- What Grow makes of a map with an entry, without a key: plain facts (layers 9 and 10). -/
namespace Go.Proofs.YtaajnjddfcdeaaaDoor
open Go.RowKit

theorem partK_perm {l m : List Ent} (h : l.Perm m) (d b : Int) : (partK l d b).Perm (partK m d b) := h.filter _
theorem Sep.perm {d : Int} {l m : List Ent} (h : Sep d l) (p : l.Perm m) : Sep d m where
  len := fun a ha => h.len a (p.mem_iff.2 ha)
  ne := (p.pairwise_iff (fun h => Ne.symm h)).1 h.ne
  eq := fun a ha b hb => h.eq a (p.mem_iff.2 ha) b (p.mem_iff.2 hb)
/-- What Grow makes depends on the entries, not on their order. -/
theorem growT_perm : ∀ (f : Nat) (l m : List Ent) (d : Int), Sep d l → Deep f d l.length → l.Perm m → growT f l d = growT f m d := by
  have few : ∀ (f : Nat) (l m : List Ent) (d : Int), l.Perm m → l.length ≤ 1 → growT f l d = growT f m d := by
    intro f l m d h hl
    match l, hl, h with
    | [], _, h => rw [List.Perm.nil_eq h]
    | [e], _, h => rw [List.singleton_perm.1 h]
  intro f
  induction f with
  | zero =>
    intro l m d _ hd h
    exact few 0 l m d h (by rcases hd with h | ⟨h0, h1, h2⟩ <;> omega)
  | succ f ih =>
    intro l m d hs hd h
    rcases Nat.lt_or_ge l.length 2 with hl | hl
    · exact few (f + 1) l m d h (by omega)
    · have h256 := hs.two hl
      have hd2 : 0 ≤ d ∧ 256 < d + (f + 1 : Nat) := by
        rcases hd with h | ⟨h0, h1, h2⟩
        · omega
        · exact ⟨h0, h2⟩
      obtain ⟨h0, h2⟩ := hd2
      rw [growT_two f l d hl, growT_two f m d (by rw [← h.length_eq]; exact hl),
        ih _ _ _ (hs.part h0 h256 0) (.inr ⟨by omega, by omega, by omega⟩) (partK_perm h d 0), ih _ _ _ (hs.part h0 h256 1) (.inr ⟨by omega, by omega, by omega⟩) (partK_perm h d 1)]
/-- Below depth 256 Grow is the join of its parts, whatever the number of entries. -/
theorem growT_join (f : Nat) (l : List Ent) {d : Int} (h0 : 0 ≤ d) (h1 : d < 256) : growT (f + 1) l d = joinT (growT f (partK l d 0) (d + 1)) (growT f (partK l d 1) (d + 1)) := by
  rcases Nat.lt_or_ge l.length 2 with hl | hl
  · match l, hl with
    | [], _ =>
      rw [growT_none]
      show _ = joinT (growT f [] (d + 1)) (growT f [] (d + 1))
      rw [growT_none]
      rfl
    | [e], _ =>
      rw [growT_one]
      have hb := Bt.bit_lt (keyF e.k) d.toNat
      have hk := bitK_in e.k h0 h1
      by_cases hz : bitK e.k d = 0
      · have e0 : partK [e] d 0 = [e] := by simp [partK, hz]
        have e1 : partK [e] d 1 = [] := by simp [partK, hz]
        rw [e0, e1, growT_one, growT_none]
        rfl
      · have hz1 : bitK e.k d = 1 := by omega
        have e0 : partK [e] d 0 = [] := by simp [partK, hz1]
        have e1 : partK [e] d 1 = [e] := by simp [partK, hz1]
        rw [e0, e1, growT_one, growT_none]
        rfl
  · exact growT_two f l d hl
/-! ### A key taken out -/
theorem rmK_sep {d : Int} {l : List Ent} (h : Sep d l) (k : List UInt8) : Sep d (rmK l k) where
  len := fun a ha => h.len a (List.mem_filter.1 ha).1
  ne := h.ne.filter _
  eq := fun a ha b hb => h.eq a (List.mem_filter.1 ha).1 b (List.mem_filter.1 hb).1
/-! ### An entry put -/
theorem insK_perm (e : Ent) : ∀ l : List Ent, (insK e l).Perm (e :: l)
  | [] => List.Perm.refl _
  | x :: r => by
    show (if _ then _ else _ : List Ent).Perm _
    split
    · exact List.Perm.refl _
    · exact ((insK_perm e r).cons x).trans (List.Perm.swap e x r)
theorem putK_perm (l : List Ent) (e : Ent) : (putK l e).Perm (e :: rmK l e.k) := insK_perm e _
/-- The entry's key agrees with the others in the first bits. -/
def Apt (d : Int) (l : List Ent) (e : Ent) : Prop := e.k.length = 32 ∧ ∀ a ∈ l, ∀ i : Nat, (i : Int) < d → i < 256 → Bt.bit (keyF a.k) i = Bt.bit (keyF e.k) i
theorem cons_sep {d : Int} {l : List Ent} {e : Ent} (h : Sep d l) (hf : Apt d l e) : Sep d (e :: rmK l e.k) where
  len := fun a ha => by
    rcases List.mem_cons.1 ha with rfl | ha
    · exact hf.1
    · exact h.len a (List.mem_filter.1 ha).1
  ne := List.pairwise_cons.2 ⟨fun b hb => by
    have := (List.mem_filter.1 hb).2
    intro h2
    rw [← h2] at this
    simp at this, h.ne.filter _⟩
  eq := fun a ha b hb i hi h2 => by
    rcases List.mem_cons.1 ha with rfl | ha
    · rcases List.mem_cons.1 hb with rfl | hb
      · rfl
      · exact (hf.2 b (List.mem_filter.1 hb).1 i hi h2).symm
    · rcases List.mem_cons.1 hb with rfl | hb
      · exact hf.2 a (List.mem_filter.1 ha).1 i hi h2
      · exact h.eq a (List.mem_filter.1 ha).1 b (List.mem_filter.1 hb).1 i hi h2
theorem put_sep {d : Int} {l : List Ent} {e : Ent} (h : Sep d l) (hf : Apt d l e) : Sep d (putK l e) := (cons_sep h hf).perm (putK_perm l e).symm
theorem Apt.part {d b : Int} {l : List Ent} {e : Ent} (h : Apt d l e) (h0 : 0 ≤ d) (h1 : d < 256) (hb : bitK e.k d = b) : Apt (d + 1) (partK l d b) e := ⟨h.1, fun a ha i hi h2 => by
  obtain ⟨ha1, ha2⟩ := List.mem_filter.1 ha
  by_cases hd : (i : Int) < d
  · exact h.2 a ha1 i hd h2
  · have e1 := of_decide_eq_true ha2
    rw [← hb, bitK_in _ h0 h1, bitK_in _ h0 h1, show d.toNat = i by omega] at e1
    exact Int.ofNat.inj e1⟩
end Go.Proofs.YtaajnjddfcdeaaaDoor

/- What the program of layer 9 keeps, as a contract over subtrees of maps. -/
namespace Go.Proofs.YtaajnjddfcdeaaaDoor
open Go.RowKit

/-- T is the subtree at depth d of the map l, whose keys have the first d bits in common. -/
structure SubMap (d : Nat) (l : List Ent) (T : Tv) : Prop where
  sep : Sep d l
  tr : T.tr = growT (257 - d) l d
theorem IsMap.sub {l : List Ent} {T : Tv} (h : IsMap l T) : SubMap 0 l T := ⟨h.sep, h.tr⟩
theorem SubMap.map {l : List Ent} {T : Tv} (h : SubMap 0 l T) : IsMap l T := ⟨h.sep, h.tr⟩
/-- What a call that makes a tree of an old one leaves: the new one lies in memory, also behind writes into old blocks that leave the old one. -/
structure Made (M : World → Int → Tv → Prop) (w : World) (b : Nat) (n : Int) (T T' : Tv) (m : Nat) (w' : World) : Prop where
  ms : M w' n T'
  hs : ∃ c', c' ≤ m ∧ Hs w' b n c'
  keep : Keep (fun i => i = b) w w'
  aft : ∀ w2, Keep (fun i => i < w.heap.size) w' w2 → M w2 n T → M w2 n T'
/-- What the program of layer 9 keeps. -/
structure PtV (M : World → Int → Tv → Prop) : Prop where
theorem IsMap.len {l : List Ent} {T : Tv} (h : IsMap l T) : lenT T.tr = l.length := by
  have := (At.both h.sep (h.at []) 0).1
  exact this
theorem IsMap.dig {l : List Ent} {T : Tv} (h : IsMap l T) (n : Int) : digT n T.tr = rootK 257 n l 0 := (At.both h.sep (h.at []) n).2
theorem pair_ne {l : List Ent} (h : l.Pairwise (fun a b => a.k ≠ b.k)) : ∀ {x e : Ent}, x ∈ l → e ∈ l → x ≠ e → x.k ≠ e.k := by
  induction h with
  | nil => intro x e hx; cases hx
  | cons ha _ ih =>
    intro x e hx he hne
    rcases List.mem_cons.1 hx with rfl | hx2 <;> rcases List.mem_cons.1 he with rfl | he2
    · exact absurd rfl hne
    · exact ha _ he2
    · exact fun h => ha _ hx2 h.symm
    · exact ih hx2 he2 hne
theorem get_map {l : List Ent} {T : Tv} (h : IsMap l T) {e : Ent} (he : e ∈ l) : getT (T.fin e.k 0).tr e.k = some e := by
  rw [get_is h.sep (h.at e.k)]
  cases hq : l.find? fun x => decide (x.k = e.k) with
  | none =>
    have := List.find?_eq_none.1 hq e he
    simp at this
  | some x =>
    have h1 := List.mem_of_find?_eq_some hq
    have h2 : x.k = e.k := by simpa using List.find?_some hq
    rcases Classical.em (x = e) with rfl | hne
    · rfl
    · exact absurd h2 (pair_ne h.sep.ne h1 he hne)
end Go.Proofs.YtaajnjddfcdeaaaDoor

/- Ways in subtrees at any depth; what joining their siblings again makes: plain facts of layer 9. -/
namespace Go.Proofs.YtaajnjddfcdeaaaDoor
open Go.RowKit

theorem SubMap.inner {d : Nat} {l : List Ent} {v : Value} {a b : Tv} (h : SubMap d l (.inner v a b)) (hd : d ≤ 256) : d < 256 ∧ SubMap (d + 1) (partK l d 0) a ∧ SubMap (d + 1) (partK l d 1) b := by
  have ht := h.tr
  have hl : 2 ≤ l.length := by
    rcases Nat.lt_or_ge l.length 2 with hl | hl
    · match l, hl, ht with
      | [], _, ht => rw [growT_none] at ht; cases ht
      | [e], _, ht => rw [growT_one] at ht; cases ht
    · exact hl
  have h256 : d < 256 := by have := h.sep.two hl; omega
  have s0 := h.sep.part (by omega) (by omega) 0
  have s1 := h.sep.part (by omega) (by omega) 1
  have g0 := grow_both 0 (256 - d) (partK l d 0) (d + 1) s0 (.inr ⟨by omega, by omega, by omega⟩)
  have g1 := grow_both 0 (256 - d) (partK l d 1) (d + 1) s1 (.inr ⟨by omega, by omega, by omega⟩)
  have hsum := parts_sum l (d := d) (by omega) (by omega)
  rw [show 257 - d = (256 - d) + 1 by omega, growT_two _ _ _ hl, joinT_inner _ _ (by rw [g0.1, g1.1]; omega)] at ht
  injection ht with hta htb
  exact ⟨h256, ⟨s0, by rw [hta, show 257 - (d + 1) = 256 - d by omega]; rfl⟩, ⟨s1, by rw [htb, show 257 - (d + 1) = 256 - d by omega]; rfl⟩⟩
/-- No inner node: one entry at most. -/
theorem SubMap.few {d : Nat} {l : List Ent} {T : Tv} (h : SubMap d l T) (hd : d ≤ 256) (hk : kindT T.tr ≠ 2) : l.length ≤ 1 := by
  refine Classical.byContradiction fun hl => hk ?_
  have hl2 : 2 ≤ l.length := by omega
  have h256 : d < 256 := by have := h.sep.two hl2; omega
  have s0 := h.sep.part (by omega) (by omega) 0
  have s1 := h.sep.part (by omega) (by omega) 1
  have g0 := grow_both 0 (256 - d) (partK l d 0) (d + 1) s0 (.inr ⟨by omega, by omega, by omega⟩)
  have g1 := grow_both 0 (256 - d) (partK l d 1) (d + 1) s1 (.inr ⟨by omega, by omega, by omega⟩)
  have hsum := parts_sum l (d := d) (by omega) (by omega)
  have ht := h.tr
  rw [show 257 - d = (256 - d) + 1 by omega, growT_two _ _ _ hl2, joinT_inner _ _ (by rw [g0.1, g1.1]; omega)] at ht
  rw [ht]
  rfl
theorem com_lt {a b : List UInt8} (ha : a.length = 32) (hb : b.length = 32) (h : a ≠ b) : comK a b < 256 := by
  refine Classical.byContradiction fun hn => h ?_
  have h1 := (com_bits (a := a) (b := b) (i := 256) (Nat.le_refl _)).1 (by omega)
  exact keyF_inj ha hb (Bt.key_ext (keyF_byt _) (keyF_byt _) fun i hi => by
    have h2 := h1 i hi
    rw [bitK_in a (by omega) (by omega), bitK_in b (by omega) (by omega), Int.toNat_natCast] at h2
    exact Int.ofNat.inj h2)
theorem com_differ {a b : List UInt8} (h : comK a b < 256) : bitK a (comK a b : Nat) ≠ bitK b (comK a b : Nat) := fun he => by
  have h1 := (com_bits (a := a) (b := b) (i := comK a b) (by omega)).1 (Nat.le_refl _)
  have h2 := (com_bits (a := a) (b := b) (i := comK a b + 1) (by omega)).2 fun j hj => by
    rcases Nat.eq_or_lt_of_le (Nat.lt_succ_iff.1 hj) with rfl | hj
    · exact he
    · exact h1 j hj
  omega
theorem Apt.com {d : Nat} {l : List Ent} {e x : Ent} (h : Apt d l e) (hx : x ∈ l) (hd : d ≤ 256) : d ≤ comK e.k x.k := (com_bits hd).2 fun j hj => by
  rw [bitK_in _ (by omega) (by omega), bitK_in _ (by omega) (by omega), Int.toNat_natCast, h.2 x hx j (by omega) (by omega)]
end Go.Proofs.YtaajnjddfcdeaaaDoor
