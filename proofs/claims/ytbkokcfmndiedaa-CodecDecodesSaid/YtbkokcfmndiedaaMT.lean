/- Several texts in one: Pa Ta Tb Tc Cs Td Tf. -/
import Derived.Test.YtbkokcfmndiedaaMM
import Derived.Test.YtbkokcfmndiedaaMO
import Derived.Test.YtbkokcfmndiedaaMD
import Derived.Test.YtbkokcfmndiedaaM2
import Derived.Test.YtbkokcfmndiedaaM6
import Derived.Lib.AppendZeros
import Derived.Test.YtbkokcfmndiedaaNg
/- What Grow makes of a map with an entry, without a key: plain facts (layers 9 and 10). -/
namespace Go.Proofs.Ytbkokcfmndiedaa
open Go.RowKit

theorem partK_perm {l m : List Ent} (h : l.Perm m) (d b : Int) : (partK l d b).Perm (partK m d b) := h.filter _
theorem Sep.perm {d : Int} {l m : List Ent} (h : Sep d l) (p : l.Perm m) : Sep d m where
  len := fun a ha => h.len a (p.mem_iff.2 ha)
  ne := (p.pairwise_iff (fun h => Ne.symm h)).1 h.ne
  eq := fun a ha b hb => h.eq a (p.mem_iff.2 ha) b (p.mem_iff.2 hb)
/-- What Grow makes depends on the entries, not on their order. -/
theorem growT_perm : ∀ (f : Nat) (l m : List Ent) (d : Int), Sep d l → Deep f d l.length → l.Perm m → growT f l d = growT f m d := by
  have few : ∀ (f : Nat) (l m : List Ent) (d : Int), l.Perm m → l.length ≤ 1 → growT f l d = growT f m d := by
    intro f l m d h hl
    match l, hl, h with
    | [], _, h => rw [List.Perm.nil_eq h]
    | [e], _, h => rw [List.singleton_perm.1 h]
  intro f
  induction f with
  | zero =>
    intro l m d _ hd h
    exact few 0 l m d h (by rcases hd with h | ⟨h0, h1, h2⟩ <;> omega)
  | succ f ih =>
    intro l m d hs hd h
    rcases Nat.lt_or_ge l.length 2 with hl | hl
    · exact few (f + 1) l m d h (by omega)
    · have h256 := hs.two hl
      have hd2 : 0 ≤ d ∧ 256 < d + (f + 1 : Nat) := by
        rcases hd with h | ⟨h0, h1, h2⟩
        · omega
        · exact ⟨h0, h2⟩
      obtain ⟨h0, h2⟩ := hd2
      rw [growT_two f l d hl, growT_two f m d (by rw [← h.length_eq]; exact hl),
        ih _ _ _ (hs.part h0 h256 0) (.inr ⟨by omega, by omega, by omega⟩) (partK_perm h d 0), ih _ _ _ (hs.part h0 h256 1) (.inr ⟨by omega, by omega, by omega⟩) (partK_perm h d 1)]
/-- Below depth 256 Grow is the join of its parts, whatever the number of entries. -/
theorem growT_join (f : Nat) (l : List Ent) {d : Int} (h0 : 0 ≤ d) (h1 : d < 256) : growT (f + 1) l d = joinT (growT f (partK l d 0) (d + 1)) (growT f (partK l d 1) (d + 1)) := by
  rcases Nat.lt_or_ge l.length 2 with hl | hl
  · match l, hl with
    | [], _ =>
      rw [growT_none]
      show _ = joinT (growT f [] (d + 1)) (growT f [] (d + 1))
      rw [growT_none]
      rfl
    | [e], _ =>
      rw [growT_one]
      have hb := Bt.bit_lt (keyF e.k) d.toNat
      have hk := bitK_in e.k h0 h1
      by_cases hz : bitK e.k d = 0
      · have e0 : partK [e] d 0 = [e] := by simp [partK, hz]
        have e1 : partK [e] d 1 = [] := by simp [partK, hz]
        rw [e0, e1, growT_one, growT_none]
        rfl
      · have hz1 : bitK e.k d = 1 := by omega
        have e0 : partK [e] d 0 = [] := by simp [partK, hz1]
        have e1 : partK [e] d 1 = [e] := by simp [partK, hz1]
        rw [e0, e1, growT_one, growT_none]
        rfl
  · exact growT_two f l d hl
/-! ### A key taken out -/
theorem rmK_part (l : List Ent) (k : List UInt8) (d b : Int) : partK (rmK l k) d b = rmK (partK l d b) k := by
  unfold partK rmK
  rw [List.filter_filter, List.filter_filter]
  exact List.filter_congr fun e _ => Bool.and_comm _ _
theorem rmK_other (l : List Ent) (k : List UInt8) {d b : Int} (h : bitK k d ≠ b) : rmK (partK l d b) k = partK l d b := by
  unfold rmK
  refine List.filter_eq_self.2 fun e he => ?_
  have h1 := of_decide_eq_true (List.mem_filter.1 he).2
  have : e.k ≠ k := fun h2 => h (by rw [← h2]; exact h1)
  simp [this]
theorem rmK_sep {d : Int} {l : List Ent} (h : Sep d l) (k : List UInt8) : Sep d (rmK l k) where
  len := fun a ha => h.len a (List.mem_filter.1 ha).1
  ne := h.ne.filter _
  eq := fun a ha b hb => h.eq a (List.mem_filter.1 ha).1 b (List.mem_filter.1 hb).1
/-- Removing a key, one level down. -/
theorem rm_step (f : Nat) (l : List Ent) (k : List UInt8) {d : Int} (h0 : 0 ≤ d) (h1 : d < 256) :
    growT (f + 1) (rmK l k) d = if bitK k d = 0 then joinT (growT f (rmK (partK l d 0) k) (d + 1)) (growT f (partK l d 1) (d + 1)) else joinT (growT f (partK l d 0) (d + 1)) (growT f (rmK (partK l d 1) k) (d + 1)) := by
  rw [growT_join f _ h0 h1, rmK_part, rmK_part]
  have hb := Bt.bit_lt (keyF k) d.toNat
  have hk := bitK_in k h0 h1
  by_cases hz : bitK k d = 0
  · rw [if_pos hz, rmK_other l k (show bitK k d ≠ 1 by omega)]
  · rw [if_neg hz, rmK_other l k hz]
/-! ### An entry put -/
theorem insK_perm (e : Ent) : ∀ l : List Ent, (insK e l).Perm (e :: l)
  | [] => List.Perm.refl _
  | x :: r => by
    show (if _ then _ else _ : List Ent).Perm _
    split
    · exact List.Perm.refl _
    · exact ((insK_perm e r).cons x).trans (List.Perm.swap e x r)
theorem putK_perm (l : List Ent) (e : Ent) : (putK l e).Perm (e :: rmK l e.k) := insK_perm e _
/-- The entry's key agrees with the others in the first bits. -/
def Apt (d : Int) (l : List Ent) (e : Ent) : Prop := e.k.length = 32 ∧ ∀ a ∈ l, ∀ i : Nat, (i : Int) < d → i < 256 → Bt.bit (keyF a.k) i = Bt.bit (keyF e.k) i
theorem cons_sep {d : Int} {l : List Ent} {e : Ent} (h : Sep d l) (hf : Apt d l e) : Sep d (e :: rmK l e.k) where
  len := fun a ha => by
    rcases List.mem_cons.1 ha with rfl | ha
    · exact hf.1
    · exact h.len a (List.mem_filter.1 ha).1
  ne := List.pairwise_cons.2 ⟨fun b hb => by
    have := (List.mem_filter.1 hb).2
    intro h2
    rw [← h2] at this
    simp at this, h.ne.filter _⟩
  eq := fun a ha b hb i hi h2 => by
    rcases List.mem_cons.1 ha with rfl | ha
    · rcases List.mem_cons.1 hb with rfl | hb
      · rfl
      · exact (hf.2 b (List.mem_filter.1 hb).1 i hi h2).symm
    · rcases List.mem_cons.1 hb with rfl | hb
      · exact hf.2 a (List.mem_filter.1 ha).1 i hi h2
      · exact h.eq a (List.mem_filter.1 ha).1 b (List.mem_filter.1 hb).1 i hi h2
theorem put_sep {d : Int} {l : List Ent} {e : Ent} (h : Sep d l) (hf : Apt d l e) : Sep d (putK l e) := (cons_sep h hf).perm (putK_perm l e).symm
theorem Apt.part {d b : Int} {l : List Ent} {e : Ent} (h : Apt d l e) (h0 : 0 ≤ d) (h1 : d < 256) (hb : bitK e.k d = b) : Apt (d + 1) (partK l d b) e := ⟨h.1, fun a ha i hi h2 => by
  obtain ⟨ha1, ha2⟩ := List.mem_filter.1 ha
  by_cases hd : (i : Int) < d
  · exact h.2 a ha1 i hd h2
  · have e1 := of_decide_eq_true ha2
    rw [← hb, bitK_in _ h0 h1, bitK_in _ h0 h1, show d.toNat = i by omega] at e1
    exact Int.ofNat.inj e1⟩
/-- Putting an entry, one level down. -/
theorem put_step (f : Nat) (l : List Ent) (e : Ent) {d : Int} (hs : Sep d l) (hf : Apt d l e) (h0 : 0 ≤ d) (h1 : d < 256) (hd : 256 < d + (f + 1 : Nat)) :
    growT (f + 1) (putK l e) d = if bitK e.k d = 0 then joinT (growT f (putK (partK l d 0) e) (d + 1)) (growT f (partK l d 1) (d + 1)) else joinT (growT f (partK l d 0) (d + 1)) (growT f (putK (partK l d 1) e) (d + 1)) := by
  have hdeep : ∀ n, Deep (f + 1) d n := fun n => .inr ⟨h0, by omega, by omega⟩
  have hdeep1 : ∀ n, Deep f (d + 1) n := fun n => .inr ⟨by omega, by omega, by omega⟩
  rw [growT_perm (f + 1) _ _ d (put_sep hs hf) (hdeep _) (putK_perm l e), growT_join f _ h0 h1]
  have hb := Bt.bit_lt (keyF e.k) d.toNat
  have hk := bitK_in e.k h0 h1
  have hin : ∀ b, bitK e.k d = b → growT f (partK (e :: rmK l e.k) d b) (d + 1) = growT f (putK (partK l d b) e) (d + 1) := fun b hb => by
    have e1 : partK (e :: rmK l e.k) d b = e :: rmK (partK l d b) e.k := by
      show (e :: rmK l e.k).filter _ = _
      rw [List.filter_cons, if_pos (decide_eq_true hb)]
      exact congrArg _ (rmK_part l e.k d b)
    rw [e1]
    exact (growT_perm f _ _ _ (put_sep (hs.part h0 h1 b) (hf.part h0 h1 hb)) (hdeep1 _) (putK_perm _ e)).symm
  have hout : ∀ b, bitK e.k d ≠ b → partK (e :: rmK l e.k) d b = partK l d b := fun b hb => by
    show (e :: rmK l e.k).filter _ = _
    rw [List.filter_cons, if_neg (by rw [decide_eq_false hb]; simp)]
    exact (rmK_part l e.k d b).trans (rmK_other l e.k hb)
  by_cases hz : bitK e.k d = 0
  · rw [if_pos hz, hin 0 hz, hout 1 (by omega)]
  · rw [if_neg hz, hin 1 (by omega), hout 0 hz]
end Go.Proofs.Ytbkokcfmndiedaa

/- What the program of layer 9 keeps, as a contract over subtrees of maps. -/
namespace Go.Proofs.Ytbkokcfmndiedaa
open Go.RowKit

/-- T is the subtree at depth d of the map l, whose keys have the first d bits in common. -/
structure SubMap (d : Nat) (l : List Ent) (T : Tv) : Prop where
  sep : Sep d l
  tr : T.tr = growT (257 - d) l d
theorem IsMap.sub {l : List Ent} {T : Tv} (h : IsMap l T) : SubMap 0 l T := ⟨h.sep, h.tr⟩
theorem SubMap.map {l : List Ent} {T : Tv} (h : SubMap 0 l T) : IsMap l T := ⟨h.sep, h.tr⟩
/-- What the program of layer 9 keeps. -/
structure PtV (M : World → Int → Tv → Prop) : Prop where
theorem IsMap.len {l : List Ent} {T : Tv} (h : IsMap l T) : lenT T.tr = l.length := by
  have := (At.both h.sep (h.at []) 0).1
  exact this
theorem IsMap.dig {l : List Ent} {T : Tv} (h : IsMap l T) (n : Int) : digT n T.tr = rootK 257 n l 0 := (At.both h.sep (h.at []) n).2
theorem pair_ne {l : List Ent} (h : l.Pairwise (fun a b => a.k ≠ b.k)) : ∀ {x e : Ent}, x ∈ l → e ∈ l → x ≠ e → x.k ≠ e.k := by
  induction h with
  | nil => intro x e hx; cases hx
  | cons ha _ ih =>
    intro x e hx he hne
    rcases List.mem_cons.1 hx with rfl | hx2 <;> rcases List.mem_cons.1 he with rfl | he2
    · exact absurd rfl hne
    · exact ha _ he2
    · exact fun h => ha _ hx2 h.symm
    · exact ih hx2 he2 hne
theorem get_map {l : List Ent} {T : Tv} (h : IsMap l T) {e : Ent} (he : e ∈ l) : getT (T.fin e.k 0).tr e.k = some e := by
  rw [get_is h.sep (h.at e.k)]
  cases hq : l.find? fun x => decide (x.k = e.k) with
  | none =>
    have := List.find?_eq_none.1 hq e he
    simp at this
  | some x =>
    have h1 := List.mem_of_find?_eq_some hq
    have h2 : x.k = e.k := by simpa using List.find?_some hq
    rcases Classical.em (x = e) with rfl | hne
    · rfl
    · exact absurd h2 (pair_ne h.sep.ne h1 he hne)
end Go.Proofs.Ytbkokcfmndiedaa

/- The law's Is: a tree that is the map's. -/
namespace Go.Proofs.Ytbkokcfmndiedaa
open Go.RowKit
end Go.Proofs.Ytbkokcfmndiedaa

/- alive of layer 9 over contracts. -/
namespace Go.Proofs.Ytbkokcfmndiedaa
open Go.RowKit

def k64 : List UInt8 := 64 :: List.replicate 31 0
def e9b (A : Option Addr) : En := ⟨k64, A, [2], 1⟩
def E9b : Ent := ⟨k64, [2]⟩
theorem bldKey_64 (w : World) : bldA 23 w #[(0, .int .u8 64)] = .ok (.value (.agg (bA k64))) w := by kernel_rfl
theorem bit_64 : bitK k64 0 = 0 := by decide
theorem bit_64b : bitK k64 1 = 1 := by decide
theorem bit_a1 : bitK z26 1 = 0 := by decide
theorem cmp_64 : cmpK k64 z26 = 1 := by decide
theorem put_64 : putK [E8a] E9b = [E8a, E9b] := by
  have h : z26 ≠ k64 := by decide
  unfold putK
  rw [show rmK [E8a] E9b.k = [E8a] by simp [rmK, E8a, E9b, h]]
  simp [insK, E8a, E9b, cmp_64]
theorem grow_64 : growT 257 [E8a, E9b] 0 = .inner (.inner (.leaf E8a) (.leaf E9b)) .nil := by
  rw [show (257 : Nat) = 256 + 1 from rfl, growT_two 256 _ 0 (by decide)]
  have h0 : partK [E8a, E9b] 0 0 = [E8a, E9b] := by simp [partK, E8a, E9b, bit_a, bit_64]
  have h1 : partK [E8a, E9b] 0 1 = [] := by simp [partK, E8a, E9b, bit_a, bit_64]
  rw [h0, h1, growT_none, show (256 : Nat) = 255 + 1 from rfl, growT_two 255 _ (0 + 1) (by decide)]
  have h2 : partK [E8a, E9b] (0 + 1) 0 = [E8a] := by simp [partK, E8a, E9b, bit_a1, bit_64b]
  have h3 : partK [E8a, E9b] (0 + 1) 1 = [E9b] := by simp [partK, E8a, E9b, bit_a1, bit_64b]
  rw [h2, h3, growT_one, growT_one]
  rfl
theorem sep_none : Sep 0 [] := ⟨fun _ h => by simp at h, List.Pairwise.nil, fun _ h => by simp at h⟩
theorem map_none : IsMap [] .nil := ⟨sep_none, by rw [growT_none]; rfl⟩
theorem three_of {T : Tv} (h : T.tr = growT 257 [E8a, E9b] 0) : ∃ v v1 va vb, T = .inner v (.inner v1 (.leaf va E8a) (.leaf vb E9b)) .nil := by
  rw [grow_64] at h
  match T, h with
  | .inner v (.inner v1 (.leaf va a) (.leaf vb b)) .nil, h =>
    injection h with h1 h2
    injection h1 with h1 h2
    injection h1 with h1
    injection h2 with h2
    subst h1 h2
    exact ⟨v, v1, va, vb, rfl⟩
end Go.Proofs.Ytbkokcfmndiedaa

/- The library's slices.Clone at bytes: new memory. -/
namespace Go.Proofs.Ytbkokcfmndiedaa
open Go.RowKit

set_option maxHeartbeats 4000000 in
set_option maxRecDepth 100000 in
theorem clone_newS (A : Option Addr) (l : List UInt8) (c : Nat) (w : World) (hA : BA w A l) (hl : l.length ≤ 900000) :
    Calls Try.prog 13 #[.slice A l.length c] w fun e w' => ∃ A2 c2, e = .returned (.slice A2 l.length c2) ∧ NewB w' w.heap.size A2 c2 l ∧ Below w.heap.size w w' := by
  have q22 : ∀ (w : World) (a : Option Addr) (n c n' c' : Nat), (binOp .eql 31 (.slice a n c) (.slice none n' c')).run Try.prog w = .ok (.bool a.isNone) w := fun w a n c n' c' => Lib.run_eql_slice_nil w _ _ a n c n' c' Try.underlying31
  have hO0 : OwnB (w.alloc (.cells #[] 5)) w.heap.size (.slice (some ⟨w.heap.size, 0, none⟩) 0 0) [] := World.ownsRow_made w #[] 0 (Nat.le_refl _) (by unfold maxLen; omega) rfl
  have hB0 : Below w.heap.size w (w.alloc (.cells #[] 5)) := (Below.refl _ _).alloc (Nat.le_refl _) _
  have HO0 := Lib.hid hO0
  have HB0 := Lib.hid hB0
  have HA := Lib.hid hA
  clear hO0 hB0 hA
  cases A with
  | none =>
    have hl0 : l = [] := by
      match l, HA.out with
      | [], _ => rfl
      | x :: r, h =>
        obtain ⟨b, o, e, _⟩ := h 0 x rfl
        cases e
    subst hl0
    go_enter Try.func13, Try.ntmps13
    go_wp2
    go_ret
    exact ⟨none, 0, rfl, ⟨Nat.zero_le _, .inl rfl⟩, Below.refl _ _⟩
  | some ad =>
    go_enter Try.func13, Try.ntmps13
    go_wp2_with (at_builtin; refine wpList_catB0 rfl _ _ rfl w.heap.size w.heap.size 0 [] rfl (Nat.le_refl _) HO0.out (some ad) c l rfl (HA.out.below HB0.out) (by simp; omega) (by simp) ?_; intro v1 w1 hO1 hB1; have HO1 := Lib.hid hO1; have HB1 := Lib.hid (HB0.out.trans hB1); clear hO1 hB1)
    go_ret
    have h1 := HO1.out
    rw [List.nil_append] at h1
    obtain ⟨A2, c2, he, hc, _⟩ := h1.any
    subst he
    exact ⟨A2, c2, rfl, ⟨hc, .inr h1⟩, HB1.out⟩
end Go.Proofs.Ytbkokcfmndiedaa

/- What all the laws of layer 9 begin with. -/
namespace Go.Proofs.Ytbkokcfmndiedaa
open Go.RowKit

theorem NewB.keep2 {w w' : World} {B : Nat} {A : Option Addr} {c : Nat} {l : List UInt8} {L : Nat → Prop} (h : NewB w B A c l) (k : Keep L w w') (hL : ∀ i, L i → i < B) : NewB w' B A c l :=
  ⟨h.1, h.2.imp id fun ⟨e0, h⟩ => ⟨e0, h.imp id fun ⟨g, cap, cur, e, hg, hh, hr⟩ => ⟨g, cap, cur, e, hg, k.heap hh fun hl => by have := hL _ hl; omega, hr⟩⟩⟩
end Go.Proofs.Ytbkokcfmndiedaa

/- The walk of PutAll over contracts. -/
namespace Go.Proofs.Ytbkokcfmndiedaa
open Go.RowKit

theorem foldE_take {es : List En} {k : Nat} {y : En} (m : List En) (h : es[k]? = some y) : (es.take (k + 1)).foldl putE m = putE ((es.take k).foldl putE m) y := by
  rw [take_some h, List.foldl_append]
  rfl
end Go.Proofs.Ytbkokcfmndiedaa
