import Derived.Test.YtmfbhohjpkmllaaGreatDoorMM
import Derived.Test.YtmfbhohjpkmllaaGreatDoorMO
import Derived.Test.YtmfbhohjpkmllaaGreatDoorMD
import Derived.Test.YtmfbhohjpkmllaaGreatDoorM2
import Derived.Test.YtmfbhohjpkmllaaGreatDoorM6
import Derived.Lib.AppendZeros
namespace Go.Proofs.YtmfbhohjpkmllaaGreatDoor
set_option linter.unusedSimpArgs false
set_option linter.unusedVariables false
section
open Go.RowKit
theorem partK_perm {l m : List Ent} (h : l.Perm m) (d b : Int) : (partK l d b).Perm (partK m d b) := h.filter _
theorem Sep.perm {d : Int} {l m : List Ent} (h : Sep d l) (p : l.Perm m) : Sep d m where
 len := fun a ha => h.len a (p.mem_iff.2 ha)
 ne := (p.pairwise_iff (fun h => Ne.symm h)).1 h.ne
 eq := fun a ha b hb => h.eq a (p.mem_iff.2 ha) b (p.mem_iff.2 hb)
theorem growT_perm : ∀ (f : Nat) (l m : List Ent) (d : Int), Sep d l → Deep f d l.length → l.Perm m → growT f l d = growT f m d := by
 have few : ∀ (f : Nat) (l m : List Ent) (d : Int), l.Perm m → l.length ≤ 1 → growT f l d = growT f m d := by
  intro f l m d h hl
  match l, hl, h with
  | [], _, h => rw [List.Perm.nil_eq h]
  | [e], _, h => rw [List.singleton_perm.1 h]
 intro f
 induction f with
 | zero =>
  intro l m d _ hd h
  exact few 0 l m d h (by rcases hd with h | ⟨h0, h1, h2⟩ <;> omega)
 | succ f ih =>
  intro l m d hs hd h
  rcases Nat.lt_or_ge l.length 2 with hl | hl
  ·exact few (f + 1) l m d h (by omega)
  ·have h256 := hs.two hl
   have hd2 : 0 ≤ d ∧ 256 < d + (f + 1 : Nat) := by
    rcases hd with h | ⟨h0, h1, h2⟩
    ·omega
    ·exact ⟨h0, h2⟩
   obtain ⟨h0, h2⟩ := hd2
   rw [growT_two f l d hl, growT_two f m d (by rw [← h.length_eq]; exact hl),
    ih _ _ _ (hs.part h0 h256 0) (.inr ⟨by omega, by omega, by omega⟩) (partK_perm h d 0), ih _ _ _ (hs.part h0 h256 1) (.inr ⟨by omega, by omega, by omega⟩) (partK_perm h d 1)]
theorem growT_join (f : Nat) (l : List Ent) {d : Int} (h0 : 0 ≤ d) (h1 : d < 256) : growT (f + 1) l d = joinT (growT f (partK l d 0) (d + 1)) (growT f (partK l d 1) (d + 1)) := by
 rcases Nat.lt_or_ge l.length 2 with hl | hl
 ·match l, hl with
  | [], _ =>
   rw [growT_none]
   show _ = joinT (growT f [] (d + 1)) (growT f [] (d + 1))
   rw [growT_none]
   rfl
  | [e], _ =>
   rw [growT_one]
   have hb := Bt.bit_lt (keyF e.k) d.toNat
   have hk := bitK_in e.k h0 h1
   by_cases hz : bitK e.k d = 0
   ·have e0 : partK [e] d 0 = [e] := by simp [partK, hz]
    have e1 : partK [e] d 1 = [] := by simp [partK, hz]
    rw [e0, e1, growT_one, growT_none]
    rfl
   ·have hz1 : bitK e.k d = 1 := by omega
    have e0 : partK [e] d 0 = [] := by simp [partK, hz1]
    have e1 : partK [e] d 1 = [e] := by simp [partK, hz1]
    rw [e0, e1, growT_one, growT_none]
    rfl
 ·exact growT_two f l d hl
theorem rmK_part (l : List Ent) (k : List UInt8) (d b : Int) : partK (rmK l k) d b = rmK (partK l d b) k := by
 unfold partK rmK
 rw [List.filter_filter, List.filter_filter]
 exact List.filter_congr fun e _ => Bool.and_comm _ _
theorem rmK_other (l : List Ent) (k : List UInt8) {d b : Int} (h : bitK k d ≠ b) : rmK (partK l d b) k = partK l d b := by
 unfold rmK
 refine List.filter_eq_self.2 fun e he => ?_
 have h1 := of_decide_eq_true (List.mem_filter.1 he).2
 have : e.k ≠ k := fun h2 => h (by rw [← h2]; exact h1)
 simp [this]
theorem insK_perm (e : Ent) : ∀ l : List Ent, (insK e l).Perm (e :: l)
 | [] => List.Perm.refl _
 | x :: r => by
  show (if _ then _ else _ : List Ent).Perm _
  split
  ·exact List.Perm.refl _
  ·exact ((insK_perm e r).cons x).trans (List.Perm.swap e x r)
theorem putK_perm (l : List Ent) (e : Ent) : (putK l e).Perm (e :: rmK l e.k) := insK_perm e _
def Apt (d : Int) (l : List Ent) (e : Ent) : Prop := e.k.length = 32 ∧ ∀ a ∈ l, ∀ i : Nat, (i : Int) < d → i < 256 → Bt.bit (keyF a.k) i = Bt.bit (keyF e.k) i
theorem cons_sep {d : Int} {l : List Ent} {e : Ent} (h : Sep d l) (hf : Apt d l e) : Sep d (e :: rmK l e.k) where
 len := fun a ha => by
  rcases List.mem_cons.1 ha with rfl | ha
  ·exact hf.1
  ·exact h.len a (List.mem_filter.1 ha).1
 ne := List.pairwise_cons.2 ⟨fun b hb => by
  have := (List.mem_filter.1 hb).2
  intro h2
  rw [← h2] at this
  simp at this, h.ne.filter _⟩
 eq := fun a ha b hb i hi h2 => by
  rcases List.mem_cons.1 ha with rfl | ha
  ·rcases List.mem_cons.1 hb with rfl | hb
   ·rfl
   ·exact (hf.2 b (List.mem_filter.1 hb).1 i hi h2).symm
  ·rcases List.mem_cons.1 hb with rfl | hb
   ·exact hf.2 a (List.mem_filter.1 ha).1 i hi h2
   ·exact h.eq a (List.mem_filter.1 ha).1 b (List.mem_filter.1 hb).1 i hi h2
theorem put_sep {d : Int} {l : List Ent} {e : Ent} (h : Sep d l) (hf : Apt d l e) : Sep d (putK l e) := (cons_sep h hf).perm (putK_perm l e).symm
theorem Apt.part {d b : Int} {l : List Ent} {e : Ent} (h : Apt d l e) (h0 : 0 ≤ d) (h1 : d < 256) (hb : bitK e.k d = b) : Apt (d + 1) (partK l d b) e := ⟨h.1, fun a ha i hi h2 => by
 obtain ⟨ha1, ha2⟩ := List.mem_filter.1 ha
 by_cases hd : (i : Int) < d
 ·exact h.2 a ha1 i hd h2
 ·have e1 := of_decide_eq_true ha2
  rw [← hb, bitK_in _ h0 h1, bitK_in _ h0 h1, show d.toNat = i by omega] at e1
  exact Int.ofNat.inj e1⟩
theorem put_step (f : Nat) (l : List Ent) (e : Ent) {d : Int} (hs : Sep d l) (hf : Apt d l e) (h0 : 0 ≤ d) (h1 : d < 256) (hd : 256 < d + (f + 1 : Nat)) :
  growT (f + 1) (putK l e) d = if bitK e.k d = 0 then joinT (growT f (putK (partK l d 0) e) (d + 1)) (growT f (partK l d 1) (d + 1)) else joinT (growT f (partK l d 0) (d + 1)) (growT f (putK (partK l d 1) e) (d + 1)) := by
 have hdeep : ∀ n, Deep (f + 1) d n := fun n => .inr ⟨h0, by omega, by omega⟩
 have hdeep1 : ∀ n, Deep f (d + 1) n := fun n => .inr ⟨by omega, by omega, by omega⟩
 rw [growT_perm (f + 1) _ _ d (put_sep hs hf) (hdeep _) (putK_perm l e), growT_join f _ h0 h1]
 have hb := Bt.bit_lt (keyF e.k) d.toNat
 have hk := bitK_in e.k h0 h1
 have hin : ∀ b, bitK e.k d = b → growT f (partK (e :: rmK l e.k) d b) (d + 1) = growT f (putK (partK l d b) e) (d + 1) := fun b hb => by
  have e1 : partK (e :: rmK l e.k) d b = e :: rmK (partK l d b) e.k := by
   show (e :: rmK l e.k).filter _ = _
   rw [List.filter_cons, if_pos (decide_eq_true hb)]
   exact congrArg _ (rmK_part l e.k d b)
  rw [e1]
  exact (growT_perm f _ _ _ (put_sep (hs.part h0 h1 b) (hf.part h0 h1 hb)) (hdeep1 _) (putK_perm _ e)).symm
 have hout : ∀ b, bitK e.k d ≠ b → partK (e :: rmK l e.k) d b = partK l d b := fun b hb => by
  show (e :: rmK l e.k).filter _ = _
  rw [List.filter_cons, if_neg (by rw [decide_eq_false hb]; simp)]
  exact (rmK_part l e.k d b).trans (rmK_other l e.k hb)
 by_cases hz : bitK e.k d = 0
 ·rw [if_pos hz, hin 0 hz, hout 1 (by omega)]
 ·rw [if_neg hz, hin 1 (by omega), hout 0 hz]
end
section
open Go.RowKit
structure SubMap (d : Nat) (l : List Ent) (T : Tv) : Prop where
 sep : Sep d l
 tr : T.tr = growT (257 - d) l d
theorem IsMap.sub {l : List Ent} {T : Tv} (h : IsMap l T) : SubMap 0 l T := ⟨h.sep, h.tr⟩
theorem SubMap.map {l : List Ent} {T : Tv} (h : SubMap 0 l T) : IsMap l T := ⟨h.sep, h.tr⟩
structure Made (M : World → Int → Tv → Prop) (w : World) (b : Nat) (n : Int) (T T' : Tv) (m : Nat) (w' : World) : Prop where
 ms : M w' n T'
 hs : ∃ c', c' ≤ m ∧ Hs w' b n c'
 keep : Keep (fun i => i = b) w w'
 aft : ∀ w2, Keep (fun i => i < w.heap.size) w' w2 → M w2 n T → M w2 n T'
structure PtV (M : World → Int → Tv → Prop) : Prop where
 put : ∀ (w : World) (b : Nat) (n : Int) (c : Nat) (l : List Ent) (T : Tv) (e : En), Hs w b n c → c ≤ 500000 → Vars w → M w n T → IsMap l T → l.length ≤ 100000 → EnOk w e → e.v.length ≤ 1000 →
  Calls Tryz.prog 61 #[ptr b, T.val, .agg (enC e).toArray] w fun x w' => ∃ T', x = .returned T'.val ∧ IsMap (putK l e.ent) T' ∧ Made M w b n T T' (c + 1000) w'
 atd : ∀ (w : World) (b : Nat) (n : Int) (c d : Nat) (l : List Ent) (T : Tv) (e : En), Hs w b n c → c ≤ 500000 → Vars w → M w n T → SubMap d l T → d ≤ 256 → Apt d l e.ent → l.length ≤ 100000 → EnOk w e → e.v.length ≤ 1000 →
  Calls Tryz.prog 88 #[ptr b, T.val, .agg (enC e).toArray, .int .i64 (d : Int)] w fun x w' => ∃ T', x = .returned T'.val ∧ SubMap d (putK l e.ent) T' ∧ Made M w b n T T' (c + 1000) w'
 pair : ∀ (w : World) (b : Nat) (n : Int) (c d : Nat) (u v : Value) (x y : Ent), Hs w b n c → c ≤ 500000 → Vars w → M w n (.leaf u x) → M w n (.leaf v y) → x.k ≠ y.k → d ≤ comK x.k y.k →
  Calls Tryz.prog 109 #[ptr b, u, v, .int .i64 (d : Int)] w fun e w' => ∃ T' c', e = .returned T'.val ∧ T'.tr = growT (257 - d) [x, y] d ∧ M w' n T' ∧ c' ≤ c + 1000 ∧ Hs w' b n c' ∧ Keep (fun i => i = b) w w'
 all : ∀ (w : World) (b : Nat) (n : Int) (c : Nat) (l : List Ent) (T : Tv) (A : Option Addr) (cA : Nat) (es : List En), Hs w b n c → c ≤ 100000 → Vars w → M w n T → IsMap l T → l.length ≤ 10000 → EA w A es → es.length ≤ 20 → (∀ e ∈ es, e.v.length ≤ 1000) →
  Calls Tryz.prog 37 #[ptr b, T.val, .slice A es.length cA] w fun x w' => ∃ T', x = .returned T'.val ∧ IsMap ((es.map En.ent).foldl putK l) T' ∧ Made M w b n T T' (c + 1000 * es.length) w'
end
section
open Go.RowKit
theorem SubMap.inner {d : Nat} {l : List Ent} {v : Value} {a b : Tv} (h : SubMap d l (.inner v a b)) (hd : d ≤ 256) : d < 256 ∧ SubMap (d + 1) (partK l d 0) a ∧ SubMap (d + 1) (partK l d 1) b := by
 have ht := h.tr
 have hl : 2 ≤ l.length := by
  rcases Nat.lt_or_ge l.length 2 with hl | hl
  ·match l, hl, ht with
   | [], _, ht => rw [growT_none] at ht; cases ht
   | [e], _, ht => rw [growT_one] at ht; cases ht
  ·exact hl
 have h256 : d < 256 := by have := h.sep.two hl; omega
 have s0 := h.sep.part (by omega) (by omega) 0
 have s1 := h.sep.part (by omega) (by omega) 1
 have g0 := grow_both 0 (256 - d) (partK l d 0) (d + 1) s0 (.inr ⟨by omega, by omega, by omega⟩)
 have g1 := grow_both 0 (256 - d) (partK l d 1) (d + 1) s1 (.inr ⟨by omega, by omega, by omega⟩)
 have hsum := parts_sum l (d := d) (by omega) (by omega)
 rw [show 257 - d = (256 - d) + 1 by omega, growT_two _ _ _ hl, joinT_inner _ _ (by rw [g0.1, g1.1]; omega)] at ht
 injection ht with hta htb
 exact ⟨h256, ⟨s0, by rw [hta, show 257 - (d + 1) = 256 - d by omega]; rfl⟩, ⟨s1, by rw [htb, show 257 - (d + 1) = 256 - d by omega]; rfl⟩⟩
def foldT (k : List UInt8) : List Tr → Nat → Tr → Tr
 | [], _, t => t
 | s :: r, d, t => if bitK k d = 0 then joinT (foldT k r (d + 1) t) s else joinT s (foldT k r (d + 1) t)
def lensT (ss : List Tr) : Nat := (ss.map lenT).sum
theorem foldT_len (k : List UInt8) : ∀ (ss : List Tr) (d : Nat) (t : Tr), lenT (foldT k ss d t) = lenT t + lensT ss
 | [], _, _ => rfl
 | s :: r, d, t => by
  unfold foldT
  have ih := foldT_len k r (d + 1) t
  have e : lensT (s :: r) = lenT s + lensT r := by simp [lensT]
  split
  ·rw [lenT_join, ih]; omega
  ·rw [lenT_join, ih]; omega
theorem foldT_drop (k : List UInt8) (ss : List Tr) (d : Nat) (t : Tr) {i : Nat} {s : Tr} (h : ss[i]? = some s) :
  foldT k (ss.drop i) (d + i) t = if bitK k ((d + i : Nat) : Int) = 0 then joinT (foldT k (ss.drop (i + 1)) (d + (i + 1)) t) s else joinT s (foldT k (ss.drop (i + 1)) (d + (i + 1)) t) := by
 obtain ⟨hi, hs⟩ := List.getElem?_eq_some_iff.1 h
 rw [List.drop_eq_getElem_cons hi, hs]
 rfl
theorem lensT_mem {ss : List Tr} {i : Nat} {s : Tr} (h : ss[i]? = some s) : lenT s + lensT (ss.drop (i + 1)) ≤ lensT ss := by
 obtain ⟨hi, hs⟩ := List.getElem?_eq_some_iff.1 h
 have h1 : lensT ss = lensT (ss.take i) + lensT (ss.drop i) := by
  have := List.take_append_drop i ss
  unfold lensT
  rw [← List.sum_append, ← List.map_append, this]
 rw [h1, List.drop_eq_getElem_cons hi, hs]
 have e : lensT (s :: ss.drop (i + 1)) = lenT s + lensT (ss.drop (i + 1)) := by simp [lensT]
 omega
theorem put_way {e : Ent} : ∀ (T : Tv) (d : Nat) (l : List Ent), SubMap d l T → d ≤ 256 → Apt d l e → ∃ l', SubMap (T.dep e.k d) l' (T.fin e.k d) ∧ Apt (T.dep e.k d) l' e ∧ T.dep e.k d ≤ 256 ∧ kindT (T.fin e.k d).tr ≠ 2 ∧
  growT (257 - d) (putK l e) d = foldT e.k ((T.sibs e.k d).map Tv.tr) d (growT (257 - T.dep e.k d) (putK l' e) (T.dep e.k d))
 | .nil, d, l, h, hd, hf => ⟨l, h, hf, hd, by show (0 : Int) ≠ 2; decide, rfl⟩
 | .leaf v x, d, l, h, hd, hf => ⟨l, h, hf, hd, by show (1 : Int) ≠ 2; decide, rfl⟩
 | .inner v a b, d, l, h, hd, hf => by
  obtain ⟨h256, ha, hb⟩ := h.inner hd
  have ps := put_step (256 - d) l e h.sep hf (by omega) (by omega) (by omega)
  rw [← show 257 - d = 256 - d + 1 by omega] at ps
  rw [ps]
  unfold Tv.dep Tv.fin Tv.sibs
  by_cases hz : bitK e.k d = 0
  ·obtain ⟨l', i1, i2, i3, i4, i5⟩ := put_way a (d + 1) (partK l d 0) ha (by omega) (hf.part (by omega) (by omega) hz)
   rw [if_pos hz, if_pos hz, if_pos hz, if_pos hz]
   refine ⟨l', i1, i2, i3, i4, ?_⟩
   rw [List.map_cons]
   unfold foldT
   rw [if_pos hz, ← i5, hb.tr, show 257 - (d + 1) = 256 - d by omega]
   rfl
  ·have hz1 : bitK e.k d = 1 := by rcases bitK_01 e.k d h256 with h | h <;> omega
   obtain ⟨l', i1, i2, i3, i4, i5⟩ := put_way b (d + 1) (partK l d 1) hb (by omega) (hf.part (by omega) (by omega) hz1)
   rw [if_neg hz, if_neg hz, if_neg hz, if_neg hz]
   refine ⟨l', i1, i2, i3, i4, ?_⟩
   rw [List.map_cons]
   unfold foldT
   rw [if_neg hz, ← i5, ha.tr, show 257 - (d + 1) = 256 - d by omega]
   rfl
theorem SubMap.few {d : Nat} {l : List Ent} {T : Tv} (h : SubMap d l T) (hd : d ≤ 256) (hk : kindT T.tr ≠ 2) : l.length ≤ 1 := by
 refine Classical.byContradiction fun hl => hk ?_
 have hl2 : 2 ≤ l.length := by omega
 have h256 : d < 256 := by have := h.sep.two hl2; omega
 have s0 := h.sep.part (by omega) (by omega) 0
 have s1 := h.sep.part (by omega) (by omega) 1
 have g0 := grow_both 0 (256 - d) (partK l d 0) (d + 1) s0 (.inr ⟨by omega, by omega, by omega⟩)
 have g1 := grow_both 0 (256 - d) (partK l d 1) (d + 1) s1 (.inr ⟨by omega, by omega, by omega⟩)
 have hsum := parts_sum l (d := d) (by omega) (by omega)
 have ht := h.tr
 rw [show 257 - d = (256 - d) + 1 by omega, growT_two _ _ _ hl2, joinT_inner _ _ (by rw [g0.1, g1.1]; omega)] at ht
 rw [ht]
 rfl
theorem com_lt {a b : List UInt8} (ha : a.length = 32) (hb : b.length = 32) (h : a ≠ b) : comK a b < 256 := by
 refine Classical.byContradiction fun hn => h ?_
 have h1 := (com_bits (a := a) (b := b) (i := 256) (Nat.le_refl _)).1 (by omega)
 exact keyF_inj ha hb (Bt.key_ext (keyF_byt _) (keyF_byt _) fun i hi => by
  have h2 := h1 i hi
  rw [bitK_in a (by omega) (by omega), bitK_in b (by omega) (by omega), Int.toNat_natCast] at h2
  exact Int.ofNat.inj h2)
theorem com_differ {a b : List UInt8} (h : comK a b < 256) : bitK a (comK a b : Nat) ≠ bitK b (comK a b : Nat) := fun he => by
 have h1 := (com_bits (a := a) (b := b) (i := comK a b) (by omega)).1 (Nat.le_refl _)
 have h2 := (com_bits (a := a) (b := b) (i := comK a b + 1) (by omega)).2 fun j hj => by
  rcases Nat.eq_or_lt_of_le (Nat.lt_succ_iff.1 hj) with rfl | hj
  ·exact he
  ·exact h1 j hj
 omega
theorem pair_grow {x y : Ent} (hx : x.k.length = 32) (hy : y.k.length = 32) (hne : x.k ≠ y.k) : ∀ (j d : Nat), d + j = comK x.k y.k →
  growT (257 - d) [x, y] d = foldT x.k (List.replicate j .nil ++ [.leaf y]) d (.leaf x) := by
 have hc := com_lt hx hy hne
 intro j
 induction j with
 | zero =>
  intro d hd
  have hdf := com_differ hc
  rw [← hd] at hdf
  rw [show 257 - d = (256 - d) + 1 by omega, growT_two _ [x, y] _ (Nat.le_refl 2)]
  have b1 := bitK_01 x.k d (by omega)
  have b2 := bitK_01 y.k d (by omega)
  have hdf2 : bitK x.k (d : Int) ≠ bitK y.k (d : Int) := hdf
  show _ = foldT x.k [.leaf y] d (.leaf x)
  unfold foldT foldT
  by_cases hz : bitK x.k d = 0
  ·have hz2 : bitK y.k d = 1 := by omega
   rw [if_pos hz, show partK [x, y] d 0 = [x] by simp [partK, hz, hz2], show partK [x, y] d 1 = [y] by simp [partK, hz, hz2], growT_one, growT_one]
  ·have hz1 : bitK x.k d = 1 := by omega
   have hz2 : bitK y.k d = 0 := by omega
   rw [if_neg hz, show partK [x, y] d 0 = [y] by simp [partK, hz1, hz2], show partK [x, y] d 1 = [x] by simp [partK, hz1, hz2], growT_one, growT_one]
 | succ j ih =>
  intro d hd
  have he := (com_bits (a := x.k) (b := y.k) (i := comK x.k y.k) (by omega)).1 (Nat.le_refl _) d (by omega)
  rw [show 257 - d = (256 - d) + 1 by omega, growT_two _ [x, y] _ (Nat.le_refl 2), List.replicate_succ, List.cons_append]
  have i1 := ih (d + 1) (by omega)
  rw [show 257 - (d + 1) = 256 - d by omega] at i1
  have b1 := bitK_01 x.k d (by omega)
  unfold foldT
  rw [← i1]
  by_cases hz : bitK x.k d = 0
  ·have hz2 : bitK y.k d = 0 := by omega
   rw [if_pos hz, show partK [x, y] d 0 = [x, y] by simp [partK, hz, hz2], show partK [x, y] d 1 = [] by simp [partK, hz, hz2], growT_none]
   rfl
  ·have hz1 : bitK x.k d = 1 := by omega
   have hz2 : bitK y.k d = 1 := by omega
   rw [if_neg hz, show partK [x, y] d 0 = [] by simp [partK, hz1, hz2], show partK [x, y] d 1 = [x, y] by simp [partK, hz1, hz2], growT_none]
   rfl
theorem Apt.com {d : Nat} {l : List Ent} {e x : Ent} (h : Apt d l e) (hx : x ∈ l) (hd : d ≤ 256) : d ≤ comK e.k x.k := (com_bits hd).2 fun j hj => by
 rw [bitK_in _ (by omega) (by omega), bitK_in _ (by omega) (by omega), Int.toNat_natCast, h.2 x hx j (by omega) (by omega)]
theorem put_end {d : Nat} {l : List Ent} {e : Ent} {S : Tv} (h : SubMap d l S) (hf : Apt d l e) (hd : d ≤ 256) (hk : kindT S.tr ≠ 2) :
  (∃ v x, S = .leaf v x ∧ x.k ≠ e.k ∧ x.k.length = 32 ∧ d ≤ comK e.k x.k ∧ growT (257 - d) (putK l e) d = growT (257 - d) [e, x] d) ∨ ((∀ v x, S = .leaf v x → x.k = e.k) ∧ growT (257 - d) (putK l e) d = .leaf e) := by
 have hl := h.few hd hk
 have ht := h.tr
 match l, hl with
 | [], _ =>
  rw [growT_none] at ht
  refine .inr ⟨fun v x hS => (by subst hS; cases ht), ?_⟩
  show growT _ [e] d = _
  rw [growT_one]
 | [x], _ =>
  rw [growT_one] at ht
  cases S with
  | nil => cases ht
  | inner v a b => cases ht
  | leaf v y =>
   have hy : y = x := by injection ht
   subst hy
   by_cases hq : y.k = e.k
   ·refine .inr ⟨fun v x hS => (by injection hS with _ h2; rw [← h2]; exact hq), ?_⟩
    have : putK [y] e = [e] := by simp [putK, rmK, insK, hq]
    rw [this, growT_one]
   ·have hp : (putK [y] e).Perm [e, y] := by
     have := putK_perm [y] e
     rwa [show rmK [y] e.k = [y] by simp [rmK, hq]] at this
    exact .inl ⟨v, y, rfl, hq, h.sep.len y (by simp), hf.com (by simp) hd, growT_perm (257 - d) _ _ d (put_sep h.sep hf) (.inr ⟨by omega, by omega, by omega⟩) hp⟩
end
section
open Go.RowKit
end
section
open Go.RowKit
theorem sep_none : Sep 0 [] := ⟨fun _ h => by simp at h, List.Pairwise.nil, fun _ h => by simp at h⟩
theorem map_none : IsMap [] .nil := ⟨sep_none, by rw [growT_none]; rfl⟩
end
section
open Go.RowKit
end
section
open Go.RowKit
theorem hash_any (n : Int) (w : World) : Calls Tryz.prog 10 #[.int .i64 n] w fun e w' => ∃ p, e = .returned (.pointer p) ∧ Below w.heap.size w w' := by
 rcases Classical.em (n < 0 ∨ 256 < n) with h | h
 ·exact (hash_out n w h).mono fun e w' ⟨he, hb⟩ => ⟨none, he, hb⟩
 ·exact (hash_in n w (by omega) (by omega)).mono fun e w' ⟨b, he, _, _, hb⟩ => ⟨some ⟨b, 0, none⟩, he, hb⟩
structure Tf (M : World → Int → Tv → Prop) (W : World) (n : Int) (A : Option Addr) (m : List En) (T : Tv) (b c : Nat) (w : World) : Prop where
 fs : Fs M W n A m T w
 hs : ∃ c', c' ≤ c ∧ Hs w b n c'
 new : W.heap.size ≤ b
end
section
open Go.RowKit
end
end Go.Proofs.YtmfbhohjpkmllaaGreatDoor
