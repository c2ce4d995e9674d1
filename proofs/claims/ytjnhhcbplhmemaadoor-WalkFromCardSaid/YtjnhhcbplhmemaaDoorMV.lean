/- Several texts in one: Te Tf Tg Th Ti Xj. -/
import Derived.Test.YtjnhhcbplhmemaaDoorMU
/- The walk of PutPuts over contracts. -/
namespace Go.Proofs.YtjnhhcbplhmemaaDoor
open Go.RowKit
end Go.Proofs.YtjnhhcbplhmemaaDoor

/- The walk of PutAll over contracts. -/
namespace Go.Proofs.YtjnhhcbplhmemaaDoor
open Go.RowKit

theorem foldE_take {es : List En} {k : Nat} {y : En} (m : List En) (h : es[k]? = some y) : (es.take (k + 1)).foldl putE m = putE ((es.take k).foldl putE m) y := by
  rw [take_some h, List.foldl_append]
  rfl
end Go.Proofs.YtjnhhcbplhmemaaDoor

/- Ways and siblings where an entry is put in: plain facts. -/
namespace Go.Proofs.YtjnhhcbplhmemaaDoor
open Go.RowKit

theorem dK_perm {l m : List Ent} (h : l.Perm m) (k : List UInt8) : ∀ i, (dK l k i).Perm (dK m k i)
  | 0 => h
  | i + 1 => partK_perm (dK_perm h k i) _ _
theorem dK_put (l : List Ent) (e : Ent) : ∀ i, dK (e :: rmK l e.k) e.k i = e :: rmK (dK l e.k i) e.k
  | 0 => rfl
  | i + 1 => by
    show partK (dK (e :: rmK l e.k) e.k i) i (bitK e.k i) = e :: rmK (partK (dK l e.k i) i (bitK e.k i)) e.k
    rw [dK_put l e i, ← rmK_part]
    simp [partK]
theorem dK_putK (l : List Ent) (e : Ent) (i : Nat) : (dK (putK l e) e.k i).Perm (e :: rmK (dK l e.k i) e.k) := by
  have := dK_perm (putK_perm l e) e.k i
  rwa [dK_put] at this
theorem rmK_one {l : List Ent} (h : l.Pairwise (fun a b => a.k ≠ b.k)) (k : List UInt8) : l.length ≤ (rmK l k).length + 1 := by
  induction h with
  | nil => simp
  | @cons a r ha _ ih =>
    by_cases hk : a.k = k
    · have e : rmK r k = r := by
        refine List.filter_eq_self.2 fun x hx => ?_
        have := ha x hx
        have : x.k ≠ k := fun h => this (by rw [hk, h])
        simp [this]
      have e2 : rmK (a :: r) k = rmK r k := by simp [rmK, hk]
      rw [e2, e]
      simp
    · have e2 : rmK (a :: r) k = a :: rmK r k := by simp [rmK, hk]
      rw [e2]
      simp
      exact ih
theorem dK_more {l : List Ent} (hs : Sep 0 l) (e : Ent) {i : Nat} (hi : i ≤ 256) : (dK l e.k i).length ≤ (dK (putK l e) e.k i).length := by
  rw [(dK_putK l e i).length_eq, List.length_cons]
  exact rmK_one (dK_sep hs e.k i hi).ne e.k
theorem sibK_put (l : List Ent) (e : Ent) {i : Nat} (hi : i < 256) : (sibK (putK l e) e.k i).Perm (sibK l e.k i) := by
  have hb : bitK e.k i ≠ 1 - bitK e.k i := by rcases bitK_01 e.k i hi with h | h <;> rw [h] <;> decide
  have h1 := partK_perm (dK_putK l e i) i (1 - bitK e.k i)
  have h2 : partK (e :: rmK (dK l e.k i) e.k) i (1 - bitK e.k i) = partK (rmK (dK l e.k i) e.k) i (1 - bitK e.k i) := by simp [partK, hb]
  rw [h2, rmK_part, rmK_other _ _ hb] at h1
  exact h1
/-- The siblings on the way of a key that is put in: no fewer, and above the old end the same. -/
theorem sibs_put {l : List Ent} {e : Ent} {T T' : Tv} (h : IsMap l T) (h' : IsMap (putK l e) T') : (T.sibs e.k 0).length ≤ (T'.sibs e.k 0).length ∧ ∀ (i : Nat) (S S' : Tv), (T.sibs e.k 0)[i]? = some S → (T'.sibs e.k 0)[i]? = some S' → S.tr = S'.tr := by
  have a := h.at e.k
  have a' := h'.at e.k
  obtain ⟨_, _, f3⟩ := At.fin h.sep T 0 a
  obtain ⟨g1, g2, _⟩ := At.fin h'.sep T' 0 a'
  have hd := sibs_len e.k T 0
  have hd' := sibs_len e.k T' 0
  have hle := dep_le h.sep a
  constructor
  · rcases Nat.lt_or_ge (T'.dep e.k 0) (T.dep e.k 0) with hlt | hge
    · have h2 := f3 _ (Nat.zero_le _) hlt
      have h1 := At.few h'.sep g1 g2
      have h3 := dK_more h.sep e (i := T'.dep e.k 0) (by omega)
      omega
    · omega
  · intro i S S' hS hS'
    obtain ⟨h1, h2⟩ := At.sib h.sep T 0 a i S hS
    obtain ⟨_, h4⟩ := At.sib h'.sep T' 0 a' i S' hS'
    rw [Nat.zero_add] at h1 h2 h4
    rw [h2, h4]
    refine (growT_perm _ _ _ _ (sibK_sep h'.sep e.k i h1) ?_ (sibK_put l e h1)).symm
    exact .inr ⟨by omega, by omega, by omega⟩
theorem putK_lenT {l : List Ent} {e : Ent} {T T' : Tv} (h : IsMap l T) (h' : IsMap (putK l e) T') : lenT T.tr ≤ lenT T'.tr ∧ lenT T'.tr ≤ lenT T.tr + 1 := by
  rw [h.len, h'.len, (putK_perm l e).length_eq, List.length_cons]
  have := rmK_one h.sep.ne e.k
  have := rmK_len l e.k
  omega
end Go.Proofs.YtjnhhcbplhmemaaDoor

/- The walk of PutShares over contracts (its drawn regions by program). -/
namespace Go.Proofs.YtjnhhcbplhmemaaDoor
open Go.RowKit
end Go.Proofs.YtjnhhcbplhmemaaDoor

/- The walk of PutCommutes over contracts (its drawn regions by program). -/
namespace Go.Proofs.YtjnhhcbplhmemaaDoor
open Go.RowKit

theorem rmK_comm (l : List Ent) (a b : List UInt8) : rmK (rmK l a) b = rmK (rmK l b) a := by
  unfold rmK
  rw [List.filter_filter, List.filter_filter]
  exact List.filter_congr fun e _ => Bool.and_comm _ _
theorem rmK_idem (l : List Ent) (a : List UInt8) : rmK (rmK l a) a = rmK l a := by
  unfold rmK
  rw [List.filter_filter]
  exact List.filter_congr fun e _ => Bool.and_self _
theorem rmK_perm {l m : List Ent} (h : l.Perm m) (k : List UInt8) : (rmK l k).Perm (rmK m k) := h.filter _
theorem putK_two (l : List Ent) {x z : Ent} (h : x.k ≠ z.k) : (putK (putK l x) z).Perm (z :: x :: rmK (rmK l x.k) z.k) := by
  refine (putK_perm _ z).trans (List.Perm.cons z ?_)
  refine (rmK_perm (putK_perm l x) z.k).trans ?_
  rw [show rmK (x :: rmK l x.k) z.k = x :: rmK (rmK l x.k) z.k by simp [rmK, h]]
theorem putK_swap (l : List Ent) {x z : Ent} (h : x.k ≠ z.k) : (putK (putK l x) z).Perm (putK (putK l z) x) := by
  refine (putK_two l h).trans (((List.Perm.swap x z _).trans ?_).trans (putK_two l (Ne.symm h)).symm)
  rw [rmK_comm]
theorem putK_again (l : List Ent) (z : Ent) : (putK (putK l z) z).Perm (putK l z) := by
  refine (putK_perm _ z).trans ((List.Perm.cons z ?_).trans (putK_perm l z).symm)
  refine (rmK_perm (putK_perm l z) z.k).trans ?_
  rw [show rmK (z :: rmK l z.k) z.k = rmK (rmK l z.k) z.k by simp [rmK], rmK_idem]
theorem IsMap.perm {l m : List Ent} {T S : Tv} (h : IsMap l T) (h' : IsMap m S) (p : l.Perm m) : T.tr = S.tr := by
  rw [h.tr, h'.tr]
  exact growT_perm 257 l m 0 h.sep (.inr ⟨by omega, by omega, by omega⟩) p
/-- Put, Digest, Len where a law's walk stands. -/
theorem put_tf {M : World → Int → Tv → Prop} (nd : NdV M) (pv : PtV M) {W q : World} {n : Int} {A : Option Addr} {m : List En} {T S : Tv} {b c : Nat} {l : List Ent} {e : En} {p : Option Addr} (h : Tf M W n A m T b c q) (hc : c ≤ 500000) (hS : M q n S) (hp : S.val = .pointer p) (hI : IsMap l S) (hl : l.length ≤ 1000) (he : EnOk q e) (hv : e.v.length ≤ 1000) :
    Calls Tryd.prog 46 #[.pointer (some ⟨b, 0, none⟩), .pointer p, .agg (enC e).toArray] q fun x w' => ∃ S' p', x = .returned (.pointer p') ∧ S'.val = .pointer p' ∧ IsMap (putK l e.ent) S' ∧ M w' n S' ∧ Tf M W n A m T b (c + 1000) w' ∧ Keep (fun i => i = b) q w' := by
  obtain ⟨c', hc', hh⟩ := h.hs
  have := pv.put q b n c' l S e hh (by omega) h.fs.vars hS hI (by omega) he hv
  rw [hp] at this
  refine this.mono fun x w' ⟨S', hx, hI', hm⟩ => ?_
  obtain ⟨p', hp'⟩ := val_ptr nd hm.ms
  obtain ⟨d, hd, hhd⟩ := hm.hs
  exact ⟨S', p', by rw [hx, hp'], hp', hI', hm.ms, h.made nd hm.keep ⟨d, by omega, hhd⟩, hm.keep⟩
theorem dig_tf {M : World → Int → Tv → Prop} (nd : NdV M) {W q : World} {n : Int} {A : Option Addr} {m : List En} {T S : Tv} {b c : Nat} {p : Option Addr} (h : Tf M W n A m T b c q) (hc : c ≤ 500000) (hS : M q n S) (hp : S.val = .pointer p) :
    Calls Tryd.prog 63 #[.pointer (some ⟨b, 0, none⟩), .pointer p] q fun x w' => x = .returned (.agg (bA (digT n S.tr))) ∧ Tf M W n A m T b (c + 1) w' ∧ Keep (fun i => i = b) q w' := by
  obtain ⟨c', hc', hh⟩ := h.hs
  have := nd.digest q b n c' S hh (by omega) h.fs.vars hS
  rw [hp] at this
  exact this.mono fun x w' ⟨d, hx, hd, _, hhd, hk⟩ => ⟨hx, h.made nd hk ⟨d, by omega, hhd⟩, hk⟩
theorem len_tf {M : World → Int → Tv → Prop} (nd : NdV M) {W q : World} {n : Int} {A : Option Addr} {m : List En} {T S : Tv} {b c : Nat} {p : Option Addr} (h : Tf M W n A m T b c q) (hS : M q n S) (hp : S.val = .pointer p) (hl : lenT S.tr ≤ 1000000000) :
    Calls Tryd.prog 31 #[.pointer p] q fun x w' => x = .returned (.int .i64 (lenT S.tr : Int)) ∧ Tf M W n A m T b c w' ∧ Below q.heap.size q w' := by
  have := nd.len q n S hS hl
  rw [hp] at this
  exact this.mono fun x w' ⟨hx, hb⟩ => ⟨hx, h.below nd hb, hb⟩
theorem Tf.msK {M : World → Int → Tv → Prop} (nd : NdV M) {W w w' : World} {n : Int} {A : Option Addr} {m : List En} {T S : Tv} {b c : Nat} (h : Tf M W n A m T b c w) (hS : M w n S) (hk : Keep (fun i => i = b) w w') : M w' n S := by
  obtain ⟨c', _, hh⟩ := h.hs
  exact nd.hs hS hh hk
end Go.Proofs.YtjnhhcbplhmemaaDoor

/- The laws of layer 9, their cases together. -/
namespace Go.Proofs.YtjnhhcbplhmemaaDoor
open Go.RowKit

/-- The entries are few, the number of bits right; or one of both is not so. -/
theorem few_cases (n : Int) (es : List En) : ((n < 0 ∨ 256 < n) ∨ fewK (es.map En.ent) = false) ∨ (0 ≤ n ∧ n ≤ 256 ∧ fewK (es.map En.ent) = true ∧ es.length ≤ 12 ∧ ∀ e ∈ es, e.v.length ≤ 1000) := by
  rcases Classical.em ((n < 0 ∨ 256 < n) ∨ fewK (es.map En.ent) = false) with h | h
  · exact .inl h
  · have hf : fewK (es.map En.ent) = true := by
      cases hq : fewK (es.map En.ent) with
      | true => rfl
      | false => exact absurd (.inr hq) h
    have hl := few_len hf
    rw [List.length_map] at hl
    exact .inr ⟨by omega, by omega, hf, hl, fun e he => Nat.le_trans (few_val hf e.ent (List.mem_map.2 ⟨e, he, rfl⟩)) (by decide)⟩
end Go.Proofs.YtjnhhcbplhmemaaDoor
