/- Several texts in one: Za Zb Zc Zd Ze Zg. -/
import Derived.Test.YtjhpnlnghaljaaaGreatDoorMY
import Derived.Test.YtjhpnlnghaljaaaGreatDoorMT
import Derived.Test.YtjhpnlnghaljaaaGreatDoorMQ
import Derived.Defers
import Derived.Test.YtjhpnlnghaljaaaGreatDoorMX
/- Plain facts for the program of layer 10: a key taken out one level down, keys kept by a word, subtrees at one address. -/
namespace Go.Proofs.YtjhpnlnghaljaaaGreatDoor
open Go.RowKit

theorem hasK_part (l : List Ent) (k : List UInt8) (d : Int) : hasK (partK l d (bitK k d)) k = hasK l k := by
  cases h : hasK l k with
  | true =>
    obtain ⟨e, he, hk⟩ := hasK_yes h
    exact List.any_eq_true.2 ⟨e, List.mem_filter.2 ⟨he, by rw [hk]; exact decide_eq_true rfl⟩, decide_eq_true hk⟩
  | false =>
    refine List.any_eq_false.2 fun e he => ?_
    have := hasK_no h e (List.mem_filter.1 he).1
    simp [this]
theorem AptK.part {d b : Int} {l : List Ent} {k : List UInt8} (h : AptK d l k) (h0 : 0 ≤ d) (h1 : d < 256) (hb : bitK k d = b) : AptK (d + 1) (partK l d b) k := ⟨h.1, fun a ha i hi h2 => by
  obtain ⟨ha1, ha2⟩ := List.mem_filter.1 ha
  by_cases hd : (i : Int) < d
  · exact h.2 a ha1 i hd h2
  · have e1 := of_decide_eq_true ha2
    rw [← hb, bitK_in _ h0 h1, bitK_in _ h0 h1, show d.toNat = i by omega] at e1
    exact Int.ofNat.inj e1⟩
set_option maxRecDepth 10000 in
/-- The key taken out of the subtree on its way, both joined again. -/
theorem rm_join {d : Nat} {l : List Ent} {v x : Value} {a b a' b' : Tv} {k : List UInt8} (h : SubMap d l (.inner v a b)) (hd : d ≤ 256)
    (hz : if bitK k d = 0 then SubMap (d + 1) (rmK (partK l d 0) k) a' ∧ b' = b else a' = a ∧ SubMap (d + 1) (rmK (partK l d 1) k) b') : SubMap d (rmK l k) (joinV x a' b') := by
  obtain ⟨h256, ha, hb⟩ := h.inner hd
  refine ⟨rmK_sep h.sep k, ?_⟩
  have hs := rm_step (256 - d) l k (d := d) (by omega) (by omega)
  rw [show 256 - d + 1 = 257 - d by omega] at hs
  rw [joinV_tr, hs]
  by_cases h0 : bitK k d = 0
  · rw [if_pos h0] at hz ⊢
    obtain ⟨h1, rfl⟩ := hz
    rw [h1.tr, hb.tr, show 257 - (d + 1) = 256 - d by omega]
    rfl
  · rw [if_neg h0] at hz ⊢
    obtain ⟨rfl, h1⟩ := hz
    rw [h1.tr, ha.tr, show 257 - (d + 1) = 256 - d by omega]
    rfl
/-- The end of a way without the key. -/
def endV (k : List UInt8) : Tv → Tv
  | .leaf v x => if x.k = k then .nil else .leaf v x
  | t => t
def endB (k : List UInt8) : Tv → Bool
  | .leaf _ x => decide (x.k = k)
  | _ => false
theorem end_sub {d : Nat} {l : List Ent} {T : Tv} {k : List UInt8} (h : SubMap d l T) (hd : d ≤ 256) (hk : kindT T.tr ≠ 2) : SubMap d (rmK l k) (endV k T) ∧ endB k T = hasK l k ∧ (hasK l k = false → endV k T = T) := by
  have hl := h.few hd hk
  have ht := h.tr
  match l, hl with
  | [], _ =>
    rw [growT_none] at ht
    cases T with
    | nil => exact ⟨h, rfl, fun _ => rfl⟩
    | leaf v x => cases ht
    | inner v a b => cases ht
  | [x], _ =>
    rw [growT_one] at ht
    cases T with
    | nil => cases ht
    | inner v a b => cases ht
    | leaf v y =>
      have hy : y = x := by injection ht
      subst hy
      by_cases hq : y.k = k
      · have e1 : rmK [y] k = [] := by simp [rmK, hq]
        have e2 : endV k (.leaf v y) = .nil := by simp [endV, hq]
        have e3 : hasK [y] k = true := by simp [hasK, hq]
        have e4 : endB k (.leaf v y) = true := by simp [endB, hq]
        rw [e1, e2, e3, e4]
        refine ⟨⟨?_, by rw [growT_none]; rfl⟩, rfl, fun h => by cases h⟩
        have := rmK_sep h.sep k
        rwa [e1] at this
      · have e1 : rmK [y] k = [y] := by simp [rmK, hq]
        have e2 : endV k (.leaf v y) = .leaf v y := by simp [endV, hq]
        have e3 : hasK [y] k = false := by simp [hasK, hq]
        have e4 : endB k (.leaf v y) = false := by simp [endB, hq]
        rw [e1, e2, e3, e4]
        exact ⟨h, rfl, fun _ => rfl⟩
theorem lenT_joinV (x : Value) (a b : Tv) : lenT (joinV x a b).tr = lenT a.tr + lenT b.tr := by rw [joinV_tr, lenT_join]
theorem SubMap.len_le {d : Nat} {l : List Ent} {T : Tv} (h : SubMap d l T) : lenT T.tr ≤ l.length := by
  rw [h.tr]
  exact growT_len _ _ _
/-! ### Keys kept by a word -/
theorem keep_sep {d : Int} {l : List Ent} (h : Sep d l) (p : Ent → Bool) : Sep d (l.filter p) := ⟨fun a ha => h.len a (List.mem_filter.1 ha).1, h.ne.filter _, fun a ha b hb => h.eq a (List.mem_filter.1 ha).1 b (List.mem_filter.1 hb).1⟩
theorem keep_part (l : List Ent) (p : Ent → Bool) (d b : Int) : partK (l.filter p) d b = (partK l d b).filter p := by
  unfold partK
  rw [List.filter_filter, List.filter_filter]
  exact List.filter_congr fun e _ => Bool.and_comm _ _
theorem keep_join {d : Nat} {l : List Ent} {v x : Value} {a b a' b' : Tv} {p : Ent → Bool} (h : SubMap d l (.inner v a b)) (hd : d ≤ 256) (ha : SubMap (d + 1) ((partK l d 0).filter p) a') (hb : SubMap (d + 1) ((partK l d 1).filter p) b') : SubMap d (l.filter p) (joinV x a' b') := by
  obtain ⟨h256, _, _⟩ := h.inner hd
  refine ⟨keep_sep h.sep p, ?_⟩
  rw [joinV_tr, ha.tr, hb.tr, show 257 - d = (256 - d) + 1 by omega, growT_join (256 - d) (l.filter p) (d := d) (by omega) (by omega), keep_part, keep_part, show 257 - (d + 1) = 256 - d by omega]
  rfl
set_option maxRecDepth 10000 in
theorem keep_same {d : Nat} {l : List Ent} {v : Value} {a b a' b' : Tv} {p : Ent → Bool} (h : SubMap d l (.inner v a b)) (hd : d ≤ 256) (ha : SubMap (d + 1) ((partK l d 0).filter p) a') (hb : SubMap (d + 1) ((partK l d 1).filter p) b') (ea : a'.tr = a.tr) (eb : b'.tr = b.tr) : SubMap d (l.filter p) (.inner v a b) := by
  have h1 := keep_join (x := v) h hd ha hb
  refine ⟨h1.sep, ?_⟩
  rw [← h1.tr, joinV_tr, ea, eb]
  obtain ⟨h256, h2, h3⟩ := h.inner hd
  have ht := h.tr
  rw [show 257 - d = (256 - d) + 1 by omega, growT_join (256 - d) l (d := d) (by omega) (by omega)] at ht
  rw [ht, h2.tr, h3.tr, show 257 - (d + 1) = 256 - d by omega]
  rfl
/-- The inner nodes of a subtree. -/
def innT : Tv → Nat
  | .inner _ a b => innT a + innT b + 1
  | _ => 0
set_option maxRecDepth 10000 in
theorem inn_le {l : List Ent} : ∀ {T : Tv} {d : Nat}, SubMap d l T → d ≤ 256 → innT T ≤ l.length * (257 - d) := by
  intro T d h hd
  induction T generalizing l d with
  | nil => exact Nat.zero_le _
  | leaf v x => exact Nat.zero_le _
  | inner v a b iha ihb =>
    obtain ⟨h256, h1, h2⟩ := h.inner hd
    have ia := iha h1 (by omega)
    have ib := ihb h2 (by omega)
    have hsum := parts_sum l (d := d) (by omega) (by omega)
    have hl : 1 ≤ l.length := by
      have ht := h.tr
      match l, ht with
      | [], ht => rw [growT_none] at ht; cases ht
      | _ :: _, _ => simp
    show innT a + innT b + 1 ≤ _
    rw [show 257 - d = (257 - (d + 1)) + 1 by omega, Nat.mul_add, Nat.mul_one, ← hsum, Nat.add_mul]
    omega
end Go.Proofs.YtjhpnlnghaljaaaGreatDoor

/- Two subtrees in memory at one address are one. -/
namespace Go.Proofs.YtjhpnlnghaljaaaGreatDoor
open Go.RowKit

theorem ptr_inj10 {g g' : Nat} (h : ptr g = ptr g') : g = g' := by cases h; rfl
theorem bv_inj : ∀ {x y : UInt8}, bv x = bv y → x = y := fun {x y} h => by
  have h1 : (Value.int .u8 (x.toNat : Int)) = .int .u8 (y.toNat : Int) := h
  injection h1 with _ h2
  exact UInt8.toNat_inj.1 (Int.ofNat.inj h2)
theorem map_bv_inj : ∀ {l m : List UInt8}, l.map bv = m.map bv → l = m := fun h => (List.map_inj_right fun _ _ h => bv_inj h).1 h
theorem BA.inj {w : World} {A : Option Addr} {l m : List UInt8} (h : BA w A l) (h' : BA w A m) (hl : l.length = m.length) : l = m := by
  refine List.ext_getElem hl fun i h1 h2 => ?_
  obtain ⟨g, o, rfl, e1⟩ := h i _ (List.getElem?_eq_getElem h1)
  obtain ⟨g', o', hA, e2⟩ := h' i _ (List.getElem?_eq_getElem h2)
  cases hA
  rw [e1] at e2
  exact bv_inj (Option.some.inj e2)
theorem NodeAt.inj {w : World} {g : Nat} {d d' : List UInt8} {c c' : Value} (h : NodeAt w g d c) (h' : NodeAt w g d' c') (hd : d.length = 32) (hd' : d'.length = 32) : c = c' := by
  have h1 := h.cell hd
  rw [h'.cell hd'] at h1
  exact (Option.some.inj h1).symm
theorem Mn.same {w : World} {n : Int} : ∀ {S T : Tv}, Mn w n S → Mn w n T → S.val = T.val → S = T
  | .nil, .nil, _, _, _ => rfl
  | .nil, .leaf v e, _, ⟨g, _, _, hv, _⟩, h => by
    have h1 : Value.pointer none = v := h
    rw [hv] at h1; cases h1
  | .nil, .inner v a b, _, ⟨g, hv, _⟩, h => by
    have h1 : Value.pointer none = v := h
    rw [hv] at h1; cases h1
  | .leaf v e, .nil, ⟨g, _, _, hv, _⟩, _, h => by
    have h1 : v = Value.pointer none := h
    rw [hv] at h1; cases h1
  | .inner v a b, .nil, ⟨g, hv, _⟩, _, h => by
    have h1 : v = Value.pointer none := h
    rw [hv] at h1; cases h1
  | .leaf v e, .leaf v' e', ⟨g, A, c, hv, hg, he, _⟩, ⟨g', A', c', hv', hg', he', _⟩, h => by
    have h1 : v = v' := h
    subst h1
    rw [hv] at hv'
    obtain rfl : g = g' := ptr_inj10 hv'
    have h3 := hg.inj hg' (digT_len _ _) (digT_len _ _)
    injection h3 with _ h3
    injection h3 with h3
    unfold flC at h3
    have h4 := congrArg Array.toList h3
    obtain ⟨h5, h6⟩ := List.append_inj' h4 rfl
    have h7 := map_bv_inj h5
    injection h6 with h6 _
    injection h6 with hA hl hc
    subst hA
    have hk : e.k = e'.k := (List.append_inj h7 (by rw [he.key, he'.key])).1
    have hvv : e.v = e'.v := he.val.inj he'.val (by exact_mod_cast hl)
    cases e; cases e'
    simp_all
  | .leaf v e, .inner v' a b, ⟨g, A, c, hv, hg, he, _⟩, ⟨g', hv', hg', _⟩, h => by
    have h1 : v = v' := h
    subst h1
    rw [hv] at hv'
    obtain rfl : g = g' := ptr_inj10 hv'
    have h3 := hg.inj hg' (digT_len _ _) (digT_len _ _)
    injection h3 with h3 _
    exact absurd h3 (by decide)
  | .inner v a b, .leaf v' e, ⟨g, hv, hg, _⟩, ⟨g', A, c, hv', hg', _⟩, h => by
    have h1 : v = v' := h
    subst h1
    rw [hv] at hv'
    obtain rfl : g = g' := ptr_inj10 hv'
    have h3 := hg.inj hg' (digT_len _ _) (digT_len _ _)
    injection h3 with h3 _
    exact absurd h3 (by decide)
  | .inner v a b, .inner v' a' b', ⟨g, hv, hg, ha, hb⟩, ⟨g', hv', hg', ha', hb'⟩, h => by
    have h1 : v = v' := h
    subst h1
    rw [hv] at hv'
    obtain rfl : g = g' := ptr_inj10 hv'
    have h3 := hg.inj hg' (digT_len _ _) (digT_len _ _)
    injection h3 with _ h3
    injection h3 with h3
    unfold inC at h3
    have h4 := congrArg Array.toList h3
    simp only [List.cons.injEq] at h4
    have ea : a = a' := Mn.same ha ha' h4.1
    have eb : b = b' := Mn.same hb hb' h4.2.1
    rw [ea, eb]
end Go.Proofs.YtjhpnlnghaljaaaGreatDoor

/- The program's remove: the end of a way, what At lays first, its deferred closure. -/
namespace Go.Proofs.YtjhpnlnghaljaaaGreatDoor
open Go.RowKit

set_option maxHeartbeats 4000000 in
set_option maxRecDepth 100000 in
theorem end10_c {M : World → Int → Tv → Prop} (nd : NdV M) (w : World) (n : Int) (T : Tv) (k : List UInt8) (hM : M w n T) (hk : k.length = 32) (hkd : kindT T.tr ≠ 2) :
    Calls Tryz.prog 58 #[T.val, .agg (bA k)] w fun e w' => e = .returned (.tuple #[(endV k T).val, .bool (endB k T)]) ∧ Below w.heap.size w w' := by
  obtain ⟨pT, hpT⟩ := val_ptr nd hM
  obtain ⟨X, hX⟩ : ∃ X, X = w.alloc (.cells (bA k) 32) := ⟨_, rfl⟩
  have hbX : Below w.heap.size w X := by rw [hX]; exact (Below.refl _ _).alloc (Nat.le_refl _) _
  have hrX : RowB X w.heap.size 32 k := by rw [hX]; exact RowB.alloc w k _
  have lk : ∀ q : Later X, ldA 32 q.w (.pointer (some ⟨w.heap.size, 0, none⟩)) = .ok (.value (.agg (bA k))) q.w := fun q => (hrX.below q.h).ldKey hk
  have HMX := Lib.hid (nd.below hM hbX)
  have HKD : Hid (∀ q : Later X, Calls Tryz.prog 20 #[.pointer pT] q.w fun e w'' => e = .returned (.int .i64 (kindT T.tr)) ∧ ∃ y : Later X, w'' = y.w) := fun q => by
    have := nd.kind q.w n T (nd.below HMX.out q.h)
    rw [hpT] at this
    exact Later.call this
  have HX := Lib.hid hX
  have HBX := Lib.hid hbX
  rw [hpT]
  clear hX hbX hrX
  go_enter Tryz.func58, Tryz.ntmps58
  go_wp2_with fail
  rw [← HX.out]
  clear HX
  cases T with
  | inner v a b => exact absurd rfl hkd
  | nil =>
    rw [show kindT Tv.nil.tr = 0 from rfl] at HKD
    have hp : Value.pointer none = .pointer pT := hpT
    injection hp with hp
    subst hp
    clear hM hkd hpT
    refine wp_region_later (by kernel_rfl) (by kernel_rfl) ?_
    repeat (go_big_quiet_step ((go_at_call 20; exact HKD.out _)))
    refine wpQuiet_nil ?_
    rintro _ ⟨x5, rfl⟩
    have HF := Lib.hid (HBX.out.trans (x5.h.mono HBX.out.size))
    clear lk HKD
    go_wp2_with fail
    go_ret2
    exact ⟨rfl, HF.out⟩
  | leaf v x =>
    have hpv : v = .pointer pT := hpT
    subst hpv
    have hxk := (nd.key hM).1
    rw [show kindT (Tv.leaf (.pointer pT) x).tr = 1 from rfl] at HKD
    obtain ⟨g, hg⟩ : ∃ g, g = x.k ++ digL n (valL x.v) := ⟨_, rfl⟩
    have fx : ∀ w, (Instr.field 60 (.agg (bA g)) 0).run Tryz.prog w = .ok (.agg (bA x.k)) w := fun w => by
      rw [hg, field_leafKey _ (by rw [List.length_append, hxk, dig_len]) w, List.take_append_of_le_length (by omega), List.take_of_length_le (by omega)]
    have HLF : Hid (∀ q : Later X, Calls Tryz.prog 23 #[.pointer pT] q.w fun y w'' => y = .returned (.agg (bA g)) ∧ ∃ z : Later X, w'' = z.w) := fun q => by
      have := nd.leafOf q.w n (.leaf (.pointer pT) x) (nd.below HMX.out q.h)
      rw [hg]
      exact Later.call this
    by_cases hq : x.k = k
    · have ne : ∀ x' y' w, eqA .eql 32 x' y' w (.agg (bA x.k)) (.agg (bA k)) = .ok (.value (.bool true)) w := fun x' y' w => by rw [eqKey _ _ hxk hk, decide_eq_true hq]
      have HE : Hid ((endV k (.leaf (.pointer pT) x)).val = .pointer none ∧ endB k (.leaf (.pointer pT) x) = true) := ⟨by simp [endV, hq, Tv.val], by simp [endB, hq]⟩
      clear hM hkd hpT hxk hg hq hk
      refine wp_region_later (by kernel_rfl) (by kernel_rfl) ?_
      repeat (go_big_quiet_step ((first | (go_at_call 20; exact HKD.out _) | (go_at_call 23; exact HLF.out _))))
      refine wpQuiet_nil ?_
      rintro _ ⟨x5, rfl⟩
      have HF := Lib.hid (HBX.out.trans (x5.h.mono HBX.out.size))
      clear lk HKD HLF fx ne
      go_wp2_with fail
      go_ret2
      exact ⟨by rw [HE.out.1, HE.out.2]; rfl, HF.out⟩
    · have ne : ∀ x' y' w, eqA .eql 32 x' y' w (.agg (bA x.k)) (.agg (bA k)) = .ok (.value (.bool false)) w := fun x' y' w => by rw [eqKey _ _ hxk hk, decide_eq_false hq]
      have HE : Hid ((endV k (.leaf (.pointer pT) x)).val = .pointer pT ∧ endB k (.leaf (.pointer pT) x) = false) := ⟨by simp [endV, hq, Tv.val], by simp [endB, hq]⟩
      clear hM hkd hpT hxk hg hq hk
      refine wp_region_later (by kernel_rfl) (by kernel_rfl) ?_
      repeat (go_big_quiet_step ((first | (go_at_call 20; exact HKD.out _) | (go_at_call 23; exact HLF.out _))))
      refine wpQuiet_nil ?_
      rintro _ ⟨x5, rfl⟩
      have HF := Lib.hid (HBX.out.trans (x5.h.mono HBX.out.size))
      clear lk HKD HLF fx ne
      go_wp2_with fail
      go_ret2
      exact ⟨by rw [HE.out.1, HE.out.2]; rfl, HF.out⟩
/-- What At lays first, from block j on: the hasher, the key, its two results. -/
structure Bx (b : Nat) (k : List UInt8) (r : Value) (f : Bool) (j : Nat) (X : World) : Prop where
  h : X.heap[j]? = some (.cells #[ptr b] 27 (0, 0))
  k : X.heap[j + 1]? = some (.cells (bA k) 32 (0, 0))
  r : X.heap[j + 2]? = some (.cells #[r] 24 (0, 0))
  f : X.heap[j + 3]? = some (.cells #[.bool f] 4 (0, 0))
theorem Bx.keep {b : Nat} {k : List UInt8} {r : Value} {f : Bool} {j : Nat} {X Y : World} {L : Nat → Prop} (h : Bx b k r f j X) (hk : Keep L X Y) (hL : ∀ i, j ≤ i → i ≤ j + 3 → ¬ L i) : Bx b k r f j Y :=
  ⟨hk.heap h.h (hL _ (by omega) (by omega)), hk.heap h.k (hL _ (by omega) (by omega)), hk.heap h.r (hL _ (by omega) (by omega)), hk.heap h.f (hL _ (by omega) (by omega))⟩
theorem Bx.below {b : Nat} {k : List UInt8} {r : Value} {f : Bool} {j : Nat} {X Y : World} (h : Bx b k r f j X) (hb : Below X.heap.size X Y) : Bx b k r f j Y := h.keep (Keep.of_below (L := fun _ => False) hb) fun _ _ _ h => h
theorem Bx.drew {b : Nat} {k : List UInt8} {r : Value} {f : Bool} {j : Nat} {X : World} (h : Bx b k r f j X) : Bx b k r f j X.drew := ⟨h.h, h.k, h.r, h.f⟩
theorem Bx.lk {b : Nat} {k : List UInt8} {r : Value} {f : Bool} {j : Nat} {X : World} (h : Bx b k r f j X) (hk : k.length = 32) : ldA 32 X (.pointer (some ⟨j + 1, 0, none⟩)) = .ok (.value (.agg (bA k))) X :=
  ldA_row (t' := 32) (fr := (0, 0)) h.k Tryz.underlying32 (by rw [bA_size, hk]; exact infoKey)
theorem boxes10 (b : Nat) (k : List UInt8) (w X : World) (hX : X = (((w.alloc (.cells #[ptr b] 27)).alloc (.cells (bA k) 32)).alloc (.cells #[.pointer none] 24)).alloc (.cells #[.bool false] 4)) :
    Bx b k (.pointer none) false w.heap.size X ∧ Below w.heap.size w X ∧ X.heap.size = w.heap.size + 4 := by
  obtain ⟨w1, hw1⟩ : ∃ w1, w1 = w.alloc (.cells #[ptr b] 27) := ⟨_, rfl⟩
  obtain ⟨w2, hw2⟩ : ∃ w2, w2 = w1.alloc (.cells (bA k) 32) := ⟨_, rfl⟩
  obtain ⟨w3, hw3⟩ : ∃ w3, w3 = w2.alloc (.cells #[.pointer none] 24) := ⟨_, rfl⟩
  rw [← hw1, ← hw2, ← hw3] at hX
  have s1 : w1.heap.size = w.heap.size + 1 := by rw [hw1]; simp
  have s2 : w2.heap.size = w.heap.size + 2 := by rw [hw2]; simp [s1]
  have s3 : w3.heap.size = w.heap.size + 3 := by rw [hw3]; simp [s2]
  have b1 : Below w.heap.size w w1 := by rw [hw1]; exact (Below.refl _ _).alloc (Nat.le_refl _) _
  have b2 : Below w1.heap.size w1 w2 := by rw [hw2]; exact (Below.refl _ _).alloc (Nat.le_refl _) _
  have b3 : Below w2.heap.size w2 w3 := by rw [hw3]; exact (Below.refl _ _).alloc (Nat.le_refl _) _
  have b4 : Below w3.heap.size w3 X := by rw [hX]; exact (Below.refl _ _).alloc (Nat.le_refl _) _
  have h1 : w1.heap[w.heap.size]? = some (.cells #[ptr b] 27 (0, 0)) := by rw [hw1]; exact heap_alloc_new w _
  have h2 : w2.heap[w.heap.size + 1]? = some (.cells (bA k) 32 (0, 0)) := by rw [hw2, ← s1]; exact heap_alloc_new w1 _
  have h3 : w3.heap[w.heap.size + 2]? = some (.cells #[.pointer none] 24 (0, 0)) := by rw [hw3, ← s2]; exact heap_alloc_new w2 _
  have h4 : X.heap[w.heap.size + 3]? = some (.cells #[.bool false] 4 (0, 0)) := by rw [hX, ← s3]; exact heap_alloc_new w3 _
  exact ⟨⟨by rw [b4.block _ (by omega), b3.block _ (by omega), b2.block _ (by omega)]; exact h1, by rw [b4.block _ (by omega), b3.block _ (by omega)]; exact h2, by rw [b4.block _ (by omega)]; exact h3, h4⟩,
    ((b1.trans (b2.mono b1.size)).trans (b3.mono (by omega))).trans (b4.mono (by omega)), by rw [hX]; simp [s3]⟩
theorem res10 {b : Nat} {k : List UInt8} {r : Value} {f : Bool} {j : Nat} {X : World} (h : Bx b k r f j X) (tmps : Array Value) (h8 : tmps.getD 8 undef = .pointer (some ⟨j + 2, 0, none⟩)) (h9 : tmps.getD 9 undef = .pointer (some ⟨j + 3, 0, none⟩)) :
    (results Tryz.f37 tmps).run Tryz.prog X = .ok (.tuple #[r, .bool f]) X := by
  have c1 : X.cell? ⟨j + 2, 0, none⟩ = some r := by rw [cell_of_cells h.r]; rfl
  have c2 : X.cell? ⟨j + 3, 0, none⟩ = some (.bool f) := by rw [cell_of_cells h.f]; rfl
  have h8' : tmps[8]?.getD undef = .pointer (some ⟨j + 2, 0, none⟩) := by simpa using h8
  have h9' : tmps[9]?.getD undef = .pointer (some ⟨j + 3, 0, none⟩) := by simpa using h9
  simp [results, Tryz.results37, h8', h9', asAddr, loadVar, isAgg, go_sem, c1, c2]
set_option maxRecDepth 100000 in
/-- The closure where the key was not found. -/
theorem at1_idle (t f h : Nat) (l r : Nat) (u : FrameMode) (w : World) (hf : w.cell? ⟨f, 0, none⟩ = some (.bool false)) :
    CallsD Tryz.prog 60 #[ptr f, ptr h, ptr l, ptr r, ptr t] u w fun e u' w' => u' = u ∧ (e = .returned (.tuple #[]) ∧ w' = w) := by
  unfold ptr
  go_enter_d Tryz.func60, Tryz.ntmps60
  go_wp2_with fail
  go_end0
  exact ⟨rfl, rfl⟩
set_option maxHeartbeats 2000000 in
set_option maxRecDepth 100000 in
/-- The closure where it was: both subtrees are joined. -/
theorem at1_join {M : World → Int → Tv → Prop} (nd : NdV M) (t f h : Nat) (l r : Nat) (u : FrameMode) (w : World) (b : Nat) (n : Int) (c : Nat) (S T : Tv) (z : Value) (hf : w.cell? ⟨f, 0, none⟩ = some (.bool true)) (hh : w.cell? ⟨h, 0, none⟩ = some (ptr b)) (hl : w.cell? ⟨l, 0, none⟩ = some S.val) (hr : w.cell? ⟨r, 0, none⟩ = some T.val)
    (ht : w.heap[t]? = some (.cells #[z] 24 (0, 0))) (htb : t ≠ b) (hH : Hs w b n c) (hc : c ≤ 1000000) (hv : Vars w) (hS : M w n S) (hT : M w n T) (hln : lenT S.tr + lenT T.tr ≤ 1000000000) :
    CallsD Tryz.prog 60 #[ptr f, ptr h, ptr l, ptr r, ptr t] u w fun e u' w' => u' = u ∧ (e = .returned (.tuple #[]) ∧ ∃ y v c', w' = y.setCell ⟨t, 0, none⟩ (joinV v S T).val ∧ M y n (joinV v S T) ∧ c' ≤ c + 3 ∧ Hs y b n c' ∧ Keep (fun i => i = b) w y ∧
      ∀ w2, Keep (fun i => i < w.heap.size) y w2 → M w2 n S → M w2 n T → M w2 n (joinV v S T)) := by
  obtain ⟨pS, hpS⟩ := val_ptr nd hS
  obtain ⟨pT, hpT⟩ := val_ptr nd hT
  have HJ := Lib.hid (nd.join w b n c S T hH hc hv hS hT hln)
  rw [hpS, hpT] at HJ
  rw [hpS] at hl
  rw [hpT] at hr
  have HT := Lib.hid ht
  have HTB := Lib.hid htb
  unfold ptr at HJ hh ⊢
  clear hpS hpT ht htb hH hc hv hS hT hln
  go_enter_d Tryz.func60, Tryz.ntmps60
  go_wp2_with fail
  refine HJ.out.mono ?_
  rintro _ y ⟨v, c', rfl, hm, hc', hh', hk, ha⟩
  obtain ⟨p, hp⟩ := val_ptr nd hm
  rw [hp]
  have hty : y.heap[t]? = some (.cells #[z] 24 (0, 0)) := hk.heap HT.out HTB.out
  have lc : y.cell? ⟨t, 0, none⟩ = some z := by rw [cell_of_cells hty]; rfl
  have lz : y.frozen? ⟨t, 0, none⟩ = false := frozen_of_row y _ _ _ _ hty
  have HF : Hid (∃ v c', y.setCell ⟨t, 0, none⟩ (.pointer p) = y.setCell ⟨t, 0, none⟩ (joinV v S T).val ∧ M y n (joinV v S T) ∧ c' ≤ c + 3 ∧ Hs y b n c' ∧ Keep (fun i => i = b) w y ∧
      ∀ w2, Keep (fun i => i < w.heap.size) y w2 → M w2 n S → M w2 n T → M w2 n (joinV v S T)) := ⟨v, c', by rw [hp], hm, hc', hh', hk, ha⟩
  clear hm hc' hh' hk ha hp hty HJ hf hl hr hh
  go_wp2_with fail
  go_end0
  obtain ⟨v, c', h1, h2⟩ := HF.out
  exact ⟨rfl, y, v, c', h1, h2⟩
end Go.Proofs.YtjhpnlnghaljaaaGreatDoor

/- The program's At: the end of a way; an inner node. -/
namespace Go.Proofs.YtjhpnlnghaljaaaGreatDoor
open Go.RowKit

/-- The same fact with no way out by a panic. -/
def Quiet10 (Q : Exit → Act → World → Prop) : Exit → Act → World → Prop := fun e a w => match e with
  | .panic _ => False
  | e => Q e a w
theorem wp_quiet10 {P : Program} {c : Code} {Q : Exit → Act → World → Prop} {a : Act} {w : World} (h : c.wp P (Quiet10 Q) a w) : c.wp P Q a w :=
  Code.wp_mono (fun e a w h => by cases e <;> first | exact h.elim | exact h) h
theorem Quiet10.normal {Q : Exit → Act → World → Prop} {a : Act} {w : World} (h : Q .normal a w) : Quiet10 Q .normal a w := h
def At10 (M : World → Int → Tv → Prop) (b : Nat) (n : Int) (k : List UInt8) (T : Tv) : Prop := ∀ (w : World) (c d : Nat) (l : List Ent), Hs w b n c → c ≤ 500000 → Vars w → M w n T → SubMap d l T → d ≤ 256 → l.length ≤ 100000 →
  Calls Tryz.prog 37 #[ptr b, T.val, .agg (bA k), .int .i64 (d : Int)] w fun x w' => ∃ T', x = .returned (.tuple #[T'.val, .bool (hasK l k)]) ∧ SubMap d (rmK l k) T' ∧ Made M w b n T T' (c + 3 * (257 - d)) w' ∧ (hasK l k = false → T' = T ∧ Hs w' b n c)
theorem endV_or (k : List UInt8) (T : Tv) : endV k T = .nil ∨ endV k T = T := by
  cases T with
  | nil => exact .inl rfl
  | inner v a b => exact .inr rfl
  | leaf v x =>
    by_cases h : x.k = k
    · exact .inl (by simp [endV, h])
    · exact .inr (by simp [endV, h])
theorem Bx.set2 {b : Nat} {k : List UInt8} {r : Value} {f : Bool} {j : Nat} {X : World} (h : Bx b k r f j X) (r' : Value) (f' : Bool) : Bx b k r' f' j ((X.setCell ⟨j + 2, 0, none⟩ r').setCell ⟨j + 3, 0, none⟩ (.bool f')) :=
  ⟨set_keep (set_keep h.h (by omega)) (by omega), set_keep (set_keep h.k (by omega)) (by omega), set_keep (set_row h.r) (by omega), set_row (set_keep h.f (by omega))⟩
theorem Bx.cells {b : Nat} {k : List UInt8} {r : Value} {f : Bool} {j : Nat} {X : World} (h : Bx b k r f j X) (r' : Value) :
    X.cell? ⟨j + 2, 0, none⟩ = some r ∧ X.frozen? ⟨j + 2, 0, none⟩ = false ∧ (X.setCell ⟨j + 2, 0, none⟩ r').cell? ⟨j + 3, 0, none⟩ = some (.bool f) ∧ (X.setCell ⟨j + 2, 0, none⟩ r').frozen? ⟨j + 3, 0, none⟩ = false := by
  have h3 : (X.setCell ⟨j + 2, 0, none⟩ r').heap[j + 3]? = some (.cells #[.bool f] 4 (0, 0)) := set_keep h.f (by omega)
  exact ⟨by rw [cell_of_cells h.r]; rfl, frozen_of_row X _ _ _ _ h.r, by rw [cell_of_cells h3]; rfl, frozen_of_row _ _ _ _ _ h3⟩
theorem set2_below {w X : World} {j : Nat} (h : Below w.heap.size w X) (hj : w.heap.size ≤ j) (r : Value) (f : Value) : Below w.heap.size w ((X.setCell ⟨j + 2, 0, none⟩ r).setCell ⟨j + 3, 0, none⟩ f) :=
  (h.setCell (by show _ ≤ j + 2; omega) _).setCell (by show _ ≤ j + 3; omega) _
/-- The key was not found: the subtree is what it was. -/
theorem at10_idle {M : World → Int → Tv → Prop} (nd : NdV M) {w Wd : World} {b : Nat} {n : Int} {c d : Nat} {l : List Ent} {T : Tv} {k : List UInt8} {p : Option Addr} (hp : T.val = .pointer p) (hh : Hs w b n c) (hM : M w n T) (hT : SubMap d l T) (hkW : Keep (fun i => i = b) w Wd) (hH : Hs Wd b n c) (hf : hasK l k = false) :
    ∃ T' : Tv, (Ending.returned (.tuple #[.pointer p, .bool false])) = .returned (.tuple #[T'.val, .bool false]) ∧ SubMap d (rmK l k) T' ∧ Made M w b n T T' (c + 3 * (257 - d)) Wd ∧ (false = false → T' = T ∧ Hs Wd b n c) :=
  ⟨T, by rw [hp], by rw [rmK_no hf]; exact hT, ⟨nd.hs hM hh hkW, ⟨c, by omega, hH⟩, hkW, fun _ _ h => h⟩, fun _ => ⟨rfl, hH⟩⟩
/-- The key was found below: both subtrees have been joined. -/
theorem at10_found {M : World → Int → Tv → Prop} (nd : NdV M) {w Wd yj : World} {b : Nat} {n : Int} {c c' d : Nat} {l : List Ent} {v u r : Value} {x y S T : Tv} {k : List UInt8} (hh : Hs w b n c) (hM : M w n (.inner v x y)) (hkW : Keep (fun i => i = b) w Wd) (hkj : Keep (fun i => i = b) Wd yj)
    (hbx : Bx b k r true w.heap.size Wd) (hc : c' ≤ c + 3 * (257 - d)) (hH : Hs yj b n c') (hz : SubMap d (rmK l k) (joinV u S T)) (haft : ∀ w2, Keep (fun i => i < Wd.heap.size) yj w2 → M w2 n S → M w2 n T → M w2 n (joinV u S T))
    (hST : ∀ w2, Keep (fun i => i < w.heap.size ∨ i = w.heap.size + 2) Wd w2 → M w2 n (.inner v x y) → M w2 n S ∧ M w2 n T) :
    Bx b k (joinV u S T).val true w.heap.size (yj.setCell ⟨w.heap.size + 2, 0, none⟩ (joinV u S T).val) ∧
    ∃ T' : Tv, (Ending.returned (.tuple #[(joinV u S T).val, .bool true])) = .returned (.tuple #[T'.val, .bool true]) ∧ SubMap d (rmK l k) T' ∧ Made M w b n (.inner v x y) T' (c + 3 * (257 - d)) (yj.setCell ⟨w.heap.size + 2, 0, none⟩ (joinV u S T).val) ∧ (true = false → T' = .inner v x y ∧ Hs (yj.setCell ⟨w.heap.size + 2, 0, none⟩ (joinV u S T).val) b n c) := by
  have hb := lt_of_heap hh
  have hk1 : Keep (fun i => i = w.heap.size + 2) yj (yj.setCell ⟨w.heap.size + 2, 0, none⟩ (joinV u S T).val) := Keep.cell yj ⟨w.heap.size + 2, 0, none⟩ _
  have hxj := hbx.keep hkj fun i _ _ => by show i ≠ b; omega
  have hWd : w.heap.size + 2 < Wd.heap.size := lt_of_heap hbx.r
  have hkF : Keep (fun i => i = b) w (yj.setCell ⟨w.heap.size + 2, 0, none⟩ (joinV u S T).val) := (hkW.trans hkj).step hk1 fun i hi => .inr (by have e : i = w.heap.size + 2 := hi; omega)
  have hA : ∀ w2, Keep (fun i => i < w.heap.size) (yj.setCell ⟨w.heap.size + 2, 0, none⟩ (joinV u S T).val) w2 → M w2 n (.inner v x y) → M w2 n (joinV u S T) := fun w2 h2 hm => by
    have h3 : Keep (fun i => i < w.heap.size ∨ i = w.heap.size + 2) yj w2 := (hk1.mono fun _ h => .inr h).trans (h2.mono fun _ h => .inl h)
    obtain ⟨h4, h5⟩ := hST w2 ((hkj.mono fun i hi => .inl (by have e : i = b := hi; omega)).trans h3) hm
    exact haft w2 (h3.mono fun i hi => by rcases hi with h | h <;> omega) h4 h5
  refine ⟨⟨set_keep hxj.h (by omega), set_keep hxj.k (by omega), set_row hxj.r, set_keep hxj.f (by omega)⟩, joinV u S T, rfl, hz, ⟨hA _ (Keep.refl _ _) (nd.hs hM hh hkF), ⟨c', hc, hH.keep hk1 (by show b ≠ _; omega)⟩, hkF, hA⟩, fun h => by cases h⟩
set_option maxHeartbeats 4000000 in
set_option maxRecDepth 100000 in
theorem at10_end {M : World → Int → Tv → Prop} (nd : NdV M) (b : Nat) (n : Int) (k : List UInt8) (hk : k.length = 32) (T : Tv) (hkd : kindT T.tr ≠ 2) : At10 M b n k T := by
  intro w c d l hh hc hv hM hT hd hl
  obtain ⟨hs, he, hs'⟩ := end_sub hT hd hkd
  obtain ⟨pT, hpT⟩ := val_ptr nd hM
  obtain ⟨X, hX⟩ : ∃ X, X = (((w.alloc (.cells #[ptr b] 27)).alloc (.cells (bA k) 32)).alloc (.cells #[.pointer none] 24)).alloc (.cells #[.bool false] 4) := ⟨_, rfl⟩
  obtain ⟨hbx, hbX, hsX⟩ := boxes10 b k w X hX
  have HME : Hid (∀ y, M y n T → M y n (endV k T)) := fun y h => by
    rcases endV_or k T with e | e
    · rw [e]; exact nd.nil _ _
    · rw [e]; exact h
  have HKD := Lib.hid (nd.kind X n T (nd.below hM hbX))
  have HEN : Hid (∀ y, Below X.heap.size X y → Calls Tryz.prog 58 #[.pointer pT, .agg (bA k)] y fun e w' => e = .returned (.tuple #[(endV k T).val, .bool (endB k T)]) ∧ Below y.heap.size y w') := fun y hy => by
    have := end10_c nd y n T k (nd.below (nd.below hM hbX) hy) hk hkd
    rwa [hpT] at this
  obtain ⟨q, hq⟩ : ∃ q, q = kindT T.tr := ⟨_, rfl⟩
  have hq2 : (q == 2) = false := by rw [hq]; simpa using hkd
  obtain ⟨pE, hpE⟩ := val_ptr nd (HME.out w hM)
  rw [hpT, ← hq] at HKD
  rw [hpE, he] at HEN
  have HX := Lib.hid hX
  have HBX := Lib.hid hbx
  have HBB := Lib.hid hbX
  have HFIN : Hid (∀ y, Below w.heap.size w y → ∃ T', (Ending.returned (.tuple #[.pointer pE, .bool (hasK l k)])) = .returned (.tuple #[T'.val, .bool (hasK l k)]) ∧ SubMap d (rmK l k) T' ∧ Made M w b n T T' (c + 3 * (257 - d)) y ∧ (hasK l k = false → T' = T ∧ Hs y b n c)) := fun y hy => by
    have hhy : Hs y b n c := hh.keep (Keep.of_below (L := fun _ => False) hy) fun h => h
    exact ⟨endV k T, by rw [hpE], hs, ⟨HME.out y (nd.below hM hy), ⟨c, by omega, hhy⟩, Keep.of_below hy, fun w2 _ h => HME.out w2 h⟩, fun h => ⟨hs' h, hhy⟩⟩
  have HKL := Lib.hid hk
  obtain ⟨fb, hfb⟩ : ∃ fb, fb = hasK l k := ⟨_, rfl⟩
  rw [← hfb] at HEN HFIN ⊢
  rw [hpT]
  unfold ptr at HX ⊢
  clear hX hbx hbX hsX hh hc hv hM hT hd hl hs he hs' hpT hk hkd hq hpE hfb HME
  go_enter_defers Tryz.func37, Tryz.ntmps37
  go_wp2_with fail
  rw [← HX.out]
  clear HX
  refine HKD.out.mono ?_
  rintro _ X1 ⟨rfl, hB⟩
  have HB1 := Lib.hid hB
  have lk := (HBX.out.below hB).lk HKL.out
  clear hB HKD
  go_wp2_with fail
  refine (HEN.out X1 HB1.out).mono ?_
  rintro _ X2 ⟨rfl, hB⟩
  have HB2 := Lib.hid (HB1.out.trans (hB.mono HB1.out.size))
  have HBX2 := Lib.hid (HBX.out.below HB2.out)
  obtain ⟨c1, c2, c3, c4⟩ := HBX2.out.cells (.pointer pE)
  clear hB lk HEN hq2
  go_wp2_with fail
  exact ⟨_, res10 (HBX2.out.set2 (.pointer pE) fb) _ rfl rfl, HFIN.out _ (set2_below (HBB.out.trans (HB2.out.mono HBB.out.size)) (Nat.le_refl _) _ _)⟩
end Go.Proofs.YtjhpnlnghaljaaaGreatDoor

/- The program's At at an inner node. -/
namespace Go.Proofs.YtjhpnlnghaljaaaGreatDoor
open Go.RowKit

set_option maxHeartbeats 8000000 in
set_option maxRecDepth 100000 in
theorem at10_inner {M : World → Int → Tv → Prop} (nd : NdV M) (b : Nat) (n : Int) (k : List UInt8) (hk : k.length = 32) (v : Value) (x y : Tv) (hx : At10 M b n k x) (hy : At10 M b n k y) : At10 M b n k (.inner v x y) := by
  intro w c d l hh hc hv hM hT hd hl
  obtain ⟨hMx, hMy⟩ := nd.kids hM
  obtain ⟨h256, hTx, hTy⟩ := hT.inner hd
  obtain ⟨pT, hpT⟩ := val_ptr nd hM
  obtain ⟨px, hpx⟩ := val_ptr nd hMx
  obtain ⟨py, hpy⟩ := val_ptr nd hMy
  obtain ⟨X, hX⟩ : ∃ X, X = (((w.alloc (.cells #[ptr b] 27)).alloc (.cells (bA k) 32)).alloc (.cells #[.pointer none] 24)).alloc (.cells #[.bool false] 4) := ⟨_, rfl⟩
  obtain ⟨hbx, hbX, hsX⟩ := boxes10 b k w X hX
  have HKD := Lib.hid (nd.kind X n _ (nd.below hM hbX))
  have HL : Hid (∀ z, Below w.heap.size w z → Calls Tryz.prog 24 #[.pointer pT] z fun e w' => e = .returned (.pointer px) ∧ Below z.heap.size z w') := fun z hz => by
    have := nd.left z n _ (nd.below hM hz)
    rw [hpT] at this
    rw [← hpx]
    exact this
  have HR : Hid (∀ z, Below w.heap.size w z → Calls Tryz.prog 25 #[.pointer pT] z fun e w' => e = .returned (.pointer py) ∧ Below z.heap.size z w') := fun z hz => by
    have := nd.right z n _ (nd.below hM hz)
    rw [hpT] at this
    rw [← hpy]
    exact this
  rw [hpT, show kindT (Tv.inner v x y).tr = 2 from rfl] at HKD
  have HX := Lib.hid hX
  have HBX := Lib.hid hbx
  have HBB := Lib.hid hbX
  have HSX := Lib.hid hsX
  have HKL := Lib.hid hk
  have HH := Lib.hid hh
  have HC := Lib.hid hc
  have HV := Lib.hid hv
  have HM := Lib.hid hM
  have HMX := Lib.hid hMx
  have HMY := Lib.hid hMy
  have HT := Lib.hid hT
  have HTX := Lib.hid hTx
  have HTY := Lib.hid hTy
  have HD := Lib.hid hd
  have HLN := Lib.hid hl
  have H256 := Lib.hid h256
  have HIX := Lib.hid hx
  have HIY := Lib.hid hy
  have HPX := Lib.hid hpx
  have HPY := Lib.hid hpy
  have HPT := Lib.hid hpT
  obtain ⟨fb, hfb⟩ : ∃ fb, fb = hasK l k := ⟨_, rfl⟩
  have HFB := Lib.hid hfb
  rw [← hfb]
  rw [hpT]
  unfold ptr at HX ⊢
  clear hfb hX hbx hbX hsX hk hh hc hv hM hMx hMy hT hTx hTy hd hl h256 hx hy hpx hpy hpT
  go_enter_defers Tryz.func37, Tryz.ntmps37
  go_wp2_with fail
  rw [← HX.out]
  clear HX
  refine HKD.out.mono ?_
  rintro _ X1 ⟨rfl, hB⟩
  have HB1 := Lib.hid (HBB.out.trans (hB.mono HBB.out.size))
  have HX1 := Lib.hid hB
  clear hB HKD
  go_wp2_with fail
  refine (HL.out X1 HB1.out).mono ?_
  rintro _ X2 ⟨rfl, hB⟩
  have HB2 := Lib.hid (HB1.out.trans (hB.mono HB1.out.size))
  have HX2 := Lib.hid (HX1.out.trans (hB.mono HX1.out.size))
  clear hB HL HB1 HX1
  go_wp2_with fail
  refine (HR.out X2 HB2.out).mono ?_
  rintro _ X3 ⟨rfl, hB⟩
  have HB3 := Lib.hid (HB2.out.trans (hB.mono HB2.out.size))
  have HX3 := Lib.hid (HX2.out.trans (hB.mono HX2.out.size))
  have HBX3 := Lib.hid (HBX.out.below HX3.out)
  clear hB HR HB2 HX2
  obtain ⟨Y4, hY4⟩ : ∃ Y4, Y4 = (X3.alloc (.cells #[.pointer px] 24)).alloc (.cells #[.pointer py] 24) := ⟨_, rfl⟩
  have hb4 : Below X3.heap.size X3 Y4 := by rw [hY4]; exact ((Below.refl _ _).alloc (Nat.le_refl _) _).alloc (by simp) _
  have hl4 : Y4.heap[X3.heap.size]? = some (.cells #[.pointer px] 24 (0, 0)) := by rw [hY4]; exact heap_alloc2_old X3 _ _
  have hr4 : Y4.heap[X3.heap.size + 1]? = some (.cells #[.pointer py] 24 (0, 0)) := by rw [hY4]; exact heap_alloc2_new X3 _ _
  have lk := (HBX3.out.below hb4).lk HKL.out
  have HY4 := Lib.hid hY4
  have HB4 := Lib.hid hb4
  have HL4 := Lib.hid hl4
  have HR4 := Lib.hid hr4
  rw [hY4] at lk
  clear hY4 hb4 hl4 hr4
  go_wp2_with fail
  rw [← HY4.out]
  clear HY4 lk
  refine (pbitK_c k HKL.out (d : Int) Y4).mono ?_
  rintro _ Y5 ⟨rfl, hB⟩
  have HBX5 := Lib.hid ((HBX3.out.below HB4.out).below hB)
  have HL5 : Hid (Y5.heap[X3.heap.size]? = some (.cells #[.pointer px] 24 (0, 0))) := (hB.block _ (lt_of_heap HL4.out)).trans HL4.out
  have HR5 : Hid (Y5.heap[X3.heap.size + 1]? = some (.cells #[.pointer py] 24 (0, 0))) := (hB.block _ (lt_of_heap HR4.out)).trans HR4.out
  have HB5 : Hid (Below w.heap.size w Y5) := (HB3.out.trans (HB4.out.mono HB3.out.size)).trans (hB.mono (Nat.le_trans HB3.out.size HB4.out.size))
  have HK5 : Hid (Keep (fun i => i = b) w Y5) := Keep.of_below HB5.out
  have HH5 : Hid (Hs Y5.drew b n c) := HH.out.keep (Keep.of_below (L := fun _ => False) HB5.out).drew fun h => h
  have HV5 : Hid (Vars Y5.drew) := HV.out.hs HH.out HK5.out.drew
  have HS3 : Hid (w.heap.size + 4 ≤ X3.heap.size) := by show _ ≤ _; have := HX3.out.size; have := HSX.out; omega
  obtain ⟨bt, hbt⟩ : ∃ bt, bt = bitK k d := ⟨_, rfl⟩
  rw [← hbt]
  clear hB HB4 HL4 HR4 HBX3 HX3
  by_cases hz : bitK k d = 0
  · have HZB := Lib.hid hz
    have hb0 : (bt == 0) = true := by rw [hbt, hz]; rfl
    clear hz hbt
    go_wp2_with fail
    have lw : Y5.drew.cell? ⟨X3.heap.size, 0, none⟩ = some (.pointer px) := by
      have h1 : Y5.drew.heap[X3.heap.size]? = some (.cells #[.pointer px] 24 (0, 0)) := HL5.out
      rw [cell_of_cells h1]; rfl
    have HCA : Hid (Calls Tryz.prog 37 #[.pointer (some ⟨b, 0, none⟩), .pointer px, .agg (bA k), .int .i64 ((d : Int) + 1)] Y5.drew fun e w' => ∃ p1, e = .returned (.tuple #[.pointer p1, .bool fb]) ∧ Hid (∃ T1 : Tv, T1.val = .pointer p1 ∧ SubMap (d + 1) (rmK (partK l d 0) k) T1 ∧ Made M Y5.drew b n x T1 (c + 3 * (256 - d)) w' ∧ (fb = false → T1 = x ∧ Hs w' b n c)) ∧ Keep (fun i => i = b) Y5.drew w') := by
      have h1 := HIX.out Y5.drew c (d + 1) (partK l d 0) HH5.out HC.out HV5.out (nd.hs HMX.out HH.out HK5.out.drew) HTX.out (by have := H256.out; omega) (Nat.le_trans (partK_len _ _ _) HLN.out)
      rw [HPX.out, show ((d + 1 : Nat) : Int) = (d : Int) + 1 by omega] at h1
      refine h1.mono ?_
      rintro _ w' ⟨T1, rfl, g1, g2, g3⟩
      obtain ⟨p1, hp1⟩ := val_ptr nd g2.ms
      have hfp : hasK (partK l d 0) k = fb := by rw [HFB.out, ← hasK_part l k d, HZB.out]
      rw [hfp] at g3 ⊢
      rw [show 257 - (d + 1) = 256 - d by omega] at g2
      exact ⟨p1, by rw [hp1], ⟨T1, hp1, g1, g2, g3⟩, g2.keep⟩
    have HLD : Hid (∀ v, Keep (fun i => i = b ∨ i = X3.heap.size ∨ i = w.heap.size + 3) Y5 v → v.cell? ⟨w.heap.size, 0, none⟩ = some (.pointer (some ⟨b, 0, none⟩)) ∧ ldA 32 v (.pointer (some ⟨w.heap.size + 1, 0, none⟩)) = .ok (.value (.agg (bA k))) v) := fun v hv => by
      have hb := lt_of_heap HH.out
      have h3 := HS3.out
      have h1 : v.heap[w.heap.size]? = some (.cells #[ptr b] 27 (0, 0)) := hv.heap HBX5.out.h (by omega)
      have h2 : v.heap[w.heap.size + 1]? = some (.cells (bA k) 32 (0, 0)) := hv.heap HBX5.out.k (by omega)
      exact ⟨by rw [cell_of_cells h1]; rfl, ldA_row (t' := 32) (fr := (0, 0)) h2 Tryz.underlying32 (by rw [bA_size, HKL.out]; exact infoKey)⟩
    have HST : Hid (∀ v, Keep (fun i => i = b) Y5.drew v → ∀ q, v.cell? ⟨X3.heap.size, 0, none⟩ = some (.pointer px) ∧ v.frozen? ⟨X3.heap.size, 0, none⟩ = false ∧ (v.setCell ⟨X3.heap.size, 0, none⟩ q).cell? ⟨w.heap.size + 3, 0, none⟩ = some (.bool false) ∧ (v.setCell ⟨X3.heap.size, 0, none⟩ q).frozen? ⟨w.heap.size + 3, 0, none⟩ = false) := fun v hv q => by
      have hb := lt_of_heap HH.out
      have h3 := HS3.out
      have h1 : v.heap[X3.heap.size]? = some (.cells #[.pointer px] 24 (0, 0)) := hv.heap (a := Y5.drew) HL5.out (by omega)
      have h2 : (v.setCell ⟨X3.heap.size, 0, none⟩ q).heap[w.heap.size + 3]? = some (.cells #[.bool false] 4 (0, 0)) := set_keep (hv.heap (a := Y5.drew) HBX5.out.f (by omega)) (by omega)
      exact ⟨by rw [cell_of_cells h1]; rfl, frozen_of_row v _ _ _ _ h1, by rw [cell_of_cells h2]; rfl, frozen_of_row _ _ _ _ _ h2⟩
    have wd : IntKind.i64.wrap ((d : Int) + 1) = (d : Int) + 1 := IntWalk.i64_in _ (by have := HD.out; omega)
    refine wp_quiet10 ?_
    refine wp_region_held_drew (S := fun w' => Keep (fun i => i = b ∨ i = X3.heap.size ∨ i = w.heap.size + 3) Y5 w') (by kernel_rfl) ((Keep.refl _ _).drew) (fun hHeld => ?_)
    have hb0 : Keep (fun i => i = b ∨ i = X3.heap.size ∨ i = w.heap.size + 3) Y5 Y5.drew := (Keep.refl _ _).drew
    refine wpAnyH_take (i := 0) (oi := { dst := some 31, op := .move (.tmp 12), type := _, pos := _, after := _, guard := _ }) (v := ?_) rfl (by kernel_rfl) (by kernel_rfl) (by kernel_rfl) (fun _ _ _ h => h) (Or.inl ⟨by rfl, ?_⟩) (by assumption) ?_
    rotate_left 1
    · intro v hSv
      clear hSv
      go_simp
      try with_reducible rfl
    try simp only [Act.put, List.setIfInBounds_toArray, List.set_cons_zero, List.set_cons_succ]
    refine wpAnyH_take (i := 1) (oi := { dst := some 32, op := .load _ (.tmp 4), type := _, pos := _, after := _, guard := _ }) (v := ?_) rfl (by kernel_rfl) (by kernel_rfl) (by kernel_rfl) (fun _ _ _ h => h) (Or.inl ⟨by rfl, ?_⟩) (by assumption) ?_
    rotate_left 1
    · intro v hSv
      have hv1 := HLD.out v hSv |>.1
      clear hSv
      go_simp
      try with_reducible rfl
    try simp only [Act.put, List.setIfInBounds_toArray, List.set_cons_zero, List.set_cons_succ]
    refine wpAnyH_take (i := 2) (oi := { dst := some 33, op := .move (.tmp 12), type := _, pos := _, after := _, guard := _ }) (v := ?_) rfl (by kernel_rfl) (by kernel_rfl) (by kernel_rfl) (fun _ _ _ h => h) (Or.inl ⟨by rfl, ?_⟩) (by assumption) ?_
    rotate_left 1
    · intro v hSv
      clear hSv
      go_simp
      try with_reducible rfl
    try simp only [Act.put, List.setIfInBounds_toArray, List.set_cons_zero, List.set_cons_succ]
    refine wpAnyH_take (i := 3) (oi := { dst := some 34, op := .nilCheck (.tmp 33), type := _, pos := _, after := _, guard := _ }) (v := ?_) rfl (by kernel_rfl) (by kernel_rfl) (by kernel_rfl) (fun _ _ _ h => h) (Or.inl ⟨by rfl, ?_⟩) (by assumption) ?_
    rotate_left 1
    · intro v hSv
      clear hSv
      go_simp
      try with_reducible rfl
    try simp only [Act.put, List.setIfInBounds_toArray, List.set_cons_zero, List.set_cons_succ]
    refine wpAnyH_take (i := 5) (oi := { dst := some 36, op := .load _ (.tmp 6), type := _, pos := _, after := _, guard := _ }) (v := ?_) rfl (by kernel_rfl) (by kernel_rfl) (by kernel_rfl) (fun _ _ _ h => h) (Or.inl ⟨by rfl, ?_⟩) (by assumption) ?_
    rotate_left 1
    · intro v hSv
      have hv1 := HLD.out v hSv |>.2
      clear hSv
      go_simp
      try with_reducible rfl
    try simp only [Act.put, List.setIfInBounds_toArray, List.set_cons_zero, List.set_cons_succ]
    refine wpAnyH_take (i := 6) (oi := { dst := some 37, op := .move (.tmp 3), type := _, pos := _, after := _, guard := _ }) (v := ?_) rfl (by kernel_rfl) (by kernel_rfl) (by kernel_rfl) (fun _ _ _ h => h) (Or.inl ⟨by rfl, ?_⟩) (by assumption) ?_
    rotate_left 1
    · intro v hSv
      clear hSv
      go_simp
      try with_reducible rfl
    try simp only [Act.put, List.setIfInBounds_toArray, List.set_cons_zero, List.set_cons_succ]
    refine wpAnyH_take (i := 7) (oi := { dst := some 38, op := .binOp .add _ (.tmp 37) (.const (.int .i64 1)) _, type := _, pos := _, after := _, guard := _ }) (v := ?_) rfl (by kernel_rfl) (by kernel_rfl) (by kernel_rfl) (fun _ _ _ h => h) (Or.inl ⟨by rfl, ?_⟩) (by assumption) ?_
    rotate_left 1
    · intro v hSv
      have hv1 := wd
      clear hSv
      go_simp
      try with_reducible rfl
    try simp only [Act.put, List.setIfInBounds_toArray, List.set_cons_zero, List.set_cons_succ]
    refine wpAnyH_ready (rs := [4]) (by kernel_rfl) (by simp) ?_
    refine AllReadyH.cons (o := { dst := some 35, op := .load _ (.tmp 34), type := _, pos := _, after := _, guard := _ }) rfl (fun K hK => ?_) AllReadyH.nil
    have lw4 := lw
    go_simp
    refine hK.out _ _ (hb0) (fun hHeld => ?_)
    clear hK K
    try simp only [Act.put, List.setIfInBounds_toArray, List.set_cons_zero, List.set_cons_succ]
    refine wpAnyH_ready (rs := [8]) (by kernel_rfl) (by simp) ?_
    refine AllReadyH.cons (o := { dst := some 39, op := .call _, type := _, pos := _, after := _, guard := _ }) rfl (fun K hK => ?_) AllReadyH.nil
    go_simp
    refine (HCA.out).mono ?_
    rintro e y1 ⟨p1, rfl, HR1, hb⟩
    have hb1 : Keep (fun i => i = b ∨ i = X3.heap.size ∨ i = w.heap.size + 3) Y5 y1 := (hb0).trans (hb.mono fun _ h => .inl h)
    have HK1 := Lib.hid hb
    obtain ⟨s1, s2, s3, s4⟩ := HST.out y1 hb (.pointer p1)
    clear lw lw4 wd
    clear hb
    go_wp2_with fail
    refine hK.out _ _ (hb1) (fun hHeld => ?_)
    clear hK K
    try simp only [Act.put, List.setIfInBounds_toArray, List.set_cons_zero, List.set_cons_succ]
    refine wpAnyH_take (i := 9) (oi := { dst := some 30, op := .move (.tmp 39), type := _, pos := _, after := _, guard := _ }) (v := ?_) rfl (by kernel_rfl) (by kernel_rfl) (by kernel_rfl) (fun _ _ _ h => h) (Or.inl ⟨by rfl, ?_⟩) (by assumption) ?_
    rotate_left 1
    · intro v hSv
      clear hSv
      go_simp
      try with_reducible rfl
    try simp only [Act.put, List.setIfInBounds_toArray, List.set_cons_zero, List.set_cons_succ]
    refine wpAnyH_take (i := 10) (oi := { dst := some 40, op := .extract (.tmp 30) 0, type := _, pos := _, after := _, guard := _ }) (v := ?_) rfl (by kernel_rfl) (by kernel_rfl) (by kernel_rfl) (fun _ _ _ h => h) (Or.inl ⟨by rfl, ?_⟩) (by assumption) ?_
    rotate_left 1
    · intro v hSv
      clear hSv
      go_simp
      try with_reducible rfl
    try simp only [Act.put, List.setIfInBounds_toArray, List.set_cons_zero, List.set_cons_succ]
    refine wpAnyH_take (i := 11) (oi := { dst := some 41, op := .extract (.tmp 30) 1, type := _, pos := _, after := _, guard := _ }) (v := ?_) rfl (by kernel_rfl) (by kernel_rfl) (by kernel_rfl) (fun _ _ _ h => h) (Or.inl ⟨by rfl, ?_⟩) (by assumption) ?_
    rotate_left 1
    · intro v hSv
      clear hSv
      go_simp
      try with_reducible rfl
    try simp only [Act.put, List.setIfInBounds_toArray, List.set_cons_zero, List.set_cons_succ]
    refine wpAnyH_take (i := 12) (oi := { dst := some 42, op := .nilCheck (.tmp 31), type := _, pos := _, after := _, guard := _ }) (v := ?_) rfl (by kernel_rfl) (by kernel_rfl) (by kernel_rfl) (fun _ _ _ h => h) (Or.inl ⟨by rfl, ?_⟩) (by assumption) ?_
    rotate_left 1
    · intro v hSv
      clear hSv
      go_simp
      try with_reducible rfl
    try simp only [Act.put, List.setIfInBounds_toArray, List.set_cons_zero, List.set_cons_succ]
    refine wpAnyH_ready (rs := [13]) (by kernel_rfl) (by simp) ?_
    refine AllReadyH.cons (o := { dst := none, op := .store _ (.tmp 42) (.tmp 40), type := _, pos := _, after := _, guard := _ }) rfl (fun K hK => ?_) AllReadyH.nil
    go_simp
    refine hK.out _ _ ((hb1).trans ((Keep.cell _ ⟨X3.heap.size, 0, none⟩ _).mono fun _ h => .inr (.inl h))) (fun hHeld => ?_)
    clear hK K
    try simp only [Act.put, List.setIfInBounds_toArray, List.set_cons_zero, List.set_cons_succ]
    refine wpAnyH_ready (rs := [14]) (by kernel_rfl) (by simp) ?_
    refine AllReadyH.cons (o := { dst := none, op := .store _ (.tmp 9) (.tmp 41), type := _, pos := _, after := _, guard := _ }) rfl (fun K hK => ?_) AllReadyH.nil
    go_simp
    refine hK.out _ _ (((hb1).trans ((Keep.cell _ ⟨X3.heap.size, 0, none⟩ _).mono fun _ h => .inr (.inl h))).trans ((Keep.cell _ ⟨w.heap.size + 3, 0, none⟩ _).mono fun _ h => .inr (.inr h))) (fun hHeld => ?_)
    clear hK K
    try simp only [Act.put, List.setIfInBounds_toArray, List.set_cons_zero, List.set_cons_succ]
    refine wpAnyH_done (by kernel_rfl) ?_ _
    refine Quiet10.normal ?_
    clear s1 s2 s3 s4
    go_wp2_with fail
    obtain ⟨Z, hZ⟩ : ∃ Z, Z = (y1.setCell ⟨X3.heap.size, 0, none⟩ (.pointer p1)).setCell ⟨w.heap.size + 3, 0, none⟩ (.bool fb) := ⟨_, rfl⟩
    have HKZ : Hid (Keep (fun i => i = X3.heap.size ∨ i = w.heap.size + 3) y1 Z ∧ Bx b k (.pointer none) fb w.heap.size Z ∧ Z.heap[X3.heap.size]? = some (.cells #[.pointer p1] 24 (0, 0)) ∧ Z.heap[X3.heap.size + 1]? = some (.cells #[.pointer py] 24 (0, 0))) := by
      have hb := lt_of_heap HH.out
      have h3 := HS3.out
      have hx1 := HBX5.out.drew.keep (HK1.out) (fun i _ _ => by show i ≠ b; omega)
      have hl1 : y1.heap[X3.heap.size]? = _ := HK1.out.heap (a := Y5.drew) HL5.out (by omega)
      have hr1 : y1.heap[X3.heap.size + 1]? = _ := HK1.out.heap (a := Y5.drew) HR5.out (by omega)
      rw [hZ]
      refine ⟨((Keep.cell _ _ _).mono fun _ h => .inl h).trans ((Keep.cell _ _ _).mono fun _ h => .inr h), ⟨set_keep (set_keep hx1.h (by omega)) (by omega), set_keep (set_keep hx1.k (by omega)) (by omega), set_keep (set_keep hx1.r (by omega)) (by omega), set_row (set_keep hx1.f (by omega))⟩, ?_, ?_⟩
      · exact set_keep (set_row hl1) (by omega)
      · exact set_keep (set_keep hr1 (by omega)) (by omega)
    rw [← hZ]
    clear hZ HCA HLD HST
    have lf : Z.drew.cell? ⟨w.heap.size + 3, 0, none⟩ = some (.bool fb) := by
      have h1 : Z.drew.heap[w.heap.size + 3]? = some (.cells #[.bool fb] 4 (0, 0)) := HKZ.out.2.1.f
      rw [cell_of_cells h1]; rfl
    obtain ⟨s1, s2, s3, s4⟩ := HKZ.out.2.1.drew.cells (.pointer pT)
    have s6 : Z.frozen? ⟨w.heap.size + 3, 0, none⟩ = false := frozen_of_row Z _ _ _ _ HKZ.out.2.1.f
    have s5 : ((Z.drew.setCell ⟨w.heap.size + 2, 0, none⟩ (.pointer pT)).setCell ⟨w.heap.size + 3, 0, none⟩ (.bool fb)).cell? ⟨w.heap.size + 3, 0, none⟩ = some (.bool fb) := by rw [cell_of_cells (HKZ.out.2.1.drew.set2 (.pointer pT) fb).f]; rfl
    refine wp_quiet10 ?_
    refine wp_region_held_drew (S := fun w' => Keep (fun i => i = w.heap.size + 2 ∨ i = w.heap.size + 3) Z w' ∧ w'.cell? ⟨w.heap.size + 3, 0, none⟩ = some (.bool fb)) (by kernel_rfl) (⟨(Keep.refl _ _).drew, lf⟩) (fun hHeld => ?_)
    have hb0 : Keep (fun i => i = w.heap.size + 2 ∨ i = w.heap.size + 3) Z Z.drew ∧ Z.drew.cell? ⟨w.heap.size + 3, 0, none⟩ = some (.bool fb) := ⟨(Keep.refl _ _).drew, lf⟩
    refine wpAnyH_take (i := 0) (oi := { dst := some 43, op := .move (.tmp 1), type := _, pos := _, after := _, guard := _ }) (v := ?_) rfl (by kernel_rfl) (by kernel_rfl) (by kernel_rfl) (fun _ _ _ h => h) (Or.inl ⟨by rfl, ?_⟩) (by assumption) ?_
    rotate_left 1
    · intro v hSv
      clear hSv
      go_simp
      try with_reducible rfl
    try simp only [Act.put, List.setIfInBounds_toArray, List.set_cons_zero, List.set_cons_succ]
    refine wpAnyH_take (i := 1) (oi := { dst := some 44, op := .load _ (.tmp 9), type := _, pos := _, after := _, guard := _ }) (v := ?_) rfl (by kernel_rfl) (by kernel_rfl) (by kernel_rfl) (fun _ _ _ h => h) (Or.inl ⟨by rfl, ?_⟩) (by assumption) ?_
    rotate_left 1
    · intro v hSv
      have hv1 := hSv.2
      clear hSv
      go_simp
      try with_reducible rfl
    try simp only [Act.put, List.setIfInBounds_toArray, List.set_cons_zero, List.set_cons_succ]
    refine wpAnyH_ready (rs := [2]) (by kernel_rfl) (by simp) ?_
    refine AllReadyH.cons (o := { dst := none, op := .store _ (.tmp 8) (.tmp 43), type := _, pos := _, after := _, guard := _ }) rfl (fun K hK => ?_) AllReadyH.nil
    go_simp
    refine hK.out _ _ (⟨hb0.1.trans ((Keep.cell _ ⟨w.heap.size + 2, 0, none⟩ _).mono fun _ h => .inl h), s3⟩) (fun hHeld => ?_)
    clear hK K
    try simp only [Act.put, List.setIfInBounds_toArray, List.set_cons_zero, List.set_cons_succ]
    refine wpAnyH_ready (rs := [3]) (by kernel_rfl) (by simp) ?_
    refine AllReadyH.cons (o := { dst := none, op := .store _ (.tmp 9) (.tmp 44), type := _, pos := _, after := _, guard := _ }) rfl (fun K hK => ?_) AllReadyH.nil
    go_simp
    refine hK.out _ _ (⟨(hb0.1.trans ((Keep.cell _ ⟨w.heap.size + 2, 0, none⟩ _).mono fun _ h => .inl h)).trans ((Keep.cell _ ⟨w.heap.size + 3, 0, none⟩ _).mono fun _ h => .inr h), s5⟩) (fun hHeld => ?_)
    clear hK K
    try simp only [Act.put, List.setIfInBounds_toArray, List.set_cons_zero, List.set_cons_succ]
    refine wpAnyH_done (by kernel_rfl) ?_ _
    refine Quiet10.normal ?_
    go_wp2_with fail
    obtain ⟨Wd, hWd⟩ : ∃ Wd, Wd = ((Z.setCell ⟨w.heap.size + 2, 0, none⟩ (.pointer pT)).setCell ⟨w.heap.size + 3, 0, none⟩ (.bool fb)).drew := ⟨_, rfl⟩
    have HBW : Hid (Bx b k (.pointer pT) fb w.heap.size Wd) := by show Bx _ _ _ _ _ _; rw [hWd]; exact (HKZ.out.2.1.set2 _ _).drew
    have hkz : Keep (fun i => i = w.heap.size + 2 ∨ i = w.heap.size + 3) Z Wd := by rw [hWd]; exact (((Keep.cell _ _ _).mono fun _ h => .inl h).trans ((Keep.cell _ _ _).mono fun _ h => .inr h)).drew
    have HCL : Hid (Wd.heap[X3.heap.size]? = some (.cells #[.pointer p1] 24 (0, 0)) ∧ Wd.heap[X3.heap.size + 1]? = some (.cells #[.pointer py] 24 (0, 0))) := by
      have h3 := HS3.out
      exact ⟨hkz.heap HKZ.out.2.2.1 (by omega), hkz.heap HKZ.out.2.2.2 (by omega)⟩
    have HK1W : Hid (Keep (fun i => i = X3.heap.size ∨ i = w.heap.size + 2 ∨ i = w.heap.size + 3) y1 Wd) := (HKZ.out.1.mono fun i hi => by omega).trans (hkz.mono fun i hi => by omega)
    have HKW : Hid (Keep (fun i => i = b) w Wd) := ((HK5.out.drew).trans HK1.out).step HK1W.out fun i hi => .inr (by have h3 := HS3.out; omega)
    have hwd : ((Z.setCell ⟨w.heap.size + 1 + 1, 0, none⟩ (.pointer pT)).setCell ⟨w.heap.size + 1 + 1 + 1, 0, none⟩ (.bool fb)).drew = Wd := hWd.symm
    rw [hwd]
    obtain ⟨T1, hp1, hT1, hm1, hno⟩ := HR1.out
    clear hWd hwd hkz s1 s2 s3 s4 s5 s6 lf HKZ
    have lfd : Wd.cell? ⟨w.heap.size + 3, 0, none⟩ = some (.bool fb) := by rw [cell_of_cells HBW.out.f]; rfl
    have hbw := lt_of_heap HH.out
    have hs3 := HS3.out
    refine leaves_cons (f := 60) (args := #[ptr (w.heap.size + 3), ptr w.heap.size, ptr X3.heap.size, ptr (X3.heap.size + 1), ptr (w.heap.size + 2)]) (by simp) (by simp [go_sem, ptr]) ?_
    cases hfb : fb with
    | false =>
      rw [hfb] at lfd hno HBW HFB
      obtain ⟨_, hs1⟩ := hno rfl
      refine (at1_idle _ _ _ _ _ .returning Wd lfd).mono ?_
      rintro e u' w'' ⟨rfl, rfl, rfl⟩
      exact ⟨_, res10 HBW.out _ rfl rfl, at10_idle nd HPT.out HH.out HM.out HT.out HKW.out (hs1.keep HK1W.out (by omega)) HFB.out.symm⟩
    | true =>
      rw [hfb] at lfd HBW HFB
      obtain ⟨c1, hc1, hh1⟩ := hm1.hs
      have hST : ∀ w2, Keep (fun i => i < w.heap.size ∨ i = w.heap.size + 2) Wd w2 → M w2 n (.inner v x y) → M w2 n T1 ∧ M w2 n y := fun w2 h2 hm2 => by
        obtain ⟨h4, h5⟩ := nd.kids hm2
        have h6 := hm1.aft w2 ((HK1W.out.mono fun i hi => by show i < Y5.heap.size; have := lt_of_heap HR5.out; omega).trans (h2.mono fun i hi => by show i < Y5.heap.size; have := lt_of_heap HR5.out; omega)) h4
        exact ⟨h6, h5⟩
      obtain ⟨hS, hT2⟩ := hST Wd (Keep.refl _ _) (nd.hs HM.out HH.out HKW.out)
      have hl1 := hT1.len_le
      have hl2 := HTY.out.len_le
      have hl3 := HLN.out
      have hl4 : (rmK (partK l d 0) k).length ≤ (partK l d 0).length := List.length_filter_le _ _
      have hl5 := partK_len l d 0
      have hl6 := partK_len l d 1
      have hcc := HC.out
      have hdd := HD.out
      have h25 := H256.out
      refine (at1_join nd (w.heap.size + 2) (w.heap.size + 3) w.heap.size X3.heap.size (X3.heap.size + 1) .returning Wd b n c1 T1 y (.pointer pT) lfd (by rw [cell_of_cells HBW.out.h]; rfl) (by rw [cell_of_cells HCL.out.1, hp1]; rfl) (by rw [cell_of_cells HCL.out.2, HPY.out]; rfl) HBW.out.r (by omega) (hh1.keep HK1W.out (by omega)) (by omega) (HV.out.hs HH.out HKW.out) hS hT2 (by omega)).mono ?_
      rintro e u' w'' ⟨rfl, rfl, yj, u, c2, rfl, hmj, hc2, hhj, hkj, haj⟩
      obtain ⟨g1, g2⟩ := at10_found nd (d := d) (l := l) HH.out HM.out HKW.out hkj HBW.out (by omega) hhj (rm_join HT.out HD.out (by rw [if_pos HZB.out]; exact ⟨hT1, rfl⟩)) haj hST
      exact ⟨_, res10 g1 _ rfl rfl, g2⟩
  · have hz1 : bitK k d = 1 := by rcases bitK_01 k d H256.out with h | h <;> omega
    have HZB := Lib.hid hz1
    have hb0 : (bt == 0) = false := by rw [hbt]; simpa using hz
    clear hz hz1 hbt
    go_wp2_with fail
    have lw : Y5.drew.cell? ⟨X3.heap.size + 1, 0, none⟩ = some (.pointer py) := by
      have h1 : Y5.drew.heap[X3.heap.size + 1]? = some (.cells #[.pointer py] 24 (0, 0)) := HR5.out
      rw [cell_of_cells h1]; rfl
    have HCA : Hid (Calls Tryz.prog 37 #[.pointer (some ⟨b, 0, none⟩), .pointer py, .agg (bA k), .int .i64 ((d : Int) + 1)] Y5.drew fun e w' => ∃ p1, e = .returned (.tuple #[.pointer p1, .bool fb]) ∧ Hid (∃ T1 : Tv, T1.val = .pointer p1 ∧ SubMap (d + 1) (rmK (partK l d 1) k) T1 ∧ Made M Y5.drew b n y T1 (c + 3 * (256 - d)) w' ∧ (fb = false → T1 = y ∧ Hs w' b n c)) ∧ Keep (fun i => i = b) Y5.drew w') := by
      have h1 := HIY.out Y5.drew c (d + 1) (partK l d 1) HH5.out HC.out HV5.out (nd.hs HMY.out HH.out HK5.out.drew) HTY.out (by have := H256.out; omega) (Nat.le_trans (partK_len _ _ _) HLN.out)
      rw [HPY.out, show ((d + 1 : Nat) : Int) = (d : Int) + 1 by omega] at h1
      refine h1.mono ?_
      rintro _ w' ⟨T1, rfl, g1, g2, g3⟩
      obtain ⟨p1, hp1⟩ := val_ptr nd g2.ms
      have hfp : hasK (partK l d 1) k = fb := by rw [HFB.out, ← hasK_part l k d, HZB.out]
      rw [hfp] at g3 ⊢
      rw [show 257 - (d + 1) = 256 - d by omega] at g2
      exact ⟨p1, by rw [hp1], ⟨T1, hp1, g1, g2, g3⟩, g2.keep⟩
    have HLD : Hid (∀ v, Keep (fun i => i = b ∨ i = X3.heap.size + 1 ∨ i = w.heap.size + 3) Y5 v → v.cell? ⟨w.heap.size, 0, none⟩ = some (.pointer (some ⟨b, 0, none⟩)) ∧ ldA 32 v (.pointer (some ⟨w.heap.size + 1, 0, none⟩)) = .ok (.value (.agg (bA k))) v) := fun v hv => by
      have hb := lt_of_heap HH.out
      have h3 := HS3.out
      have h1 : v.heap[w.heap.size]? = some (.cells #[ptr b] 27 (0, 0)) := hv.heap HBX5.out.h (by omega)
      have h2 : v.heap[w.heap.size + 1]? = some (.cells (bA k) 32 (0, 0)) := hv.heap HBX5.out.k (by omega)
      exact ⟨by rw [cell_of_cells h1]; rfl, ldA_row (t' := 32) (fr := (0, 0)) h2 Tryz.underlying32 (by rw [bA_size, HKL.out]; exact infoKey)⟩
    have HST : Hid (∀ v, Keep (fun i => i = b) Y5.drew v → ∀ q, v.cell? ⟨X3.heap.size + 1, 0, none⟩ = some (.pointer py) ∧ v.frozen? ⟨X3.heap.size + 1, 0, none⟩ = false ∧ (v.setCell ⟨X3.heap.size + 1, 0, none⟩ q).cell? ⟨w.heap.size + 3, 0, none⟩ = some (.bool false) ∧ (v.setCell ⟨X3.heap.size + 1, 0, none⟩ q).frozen? ⟨w.heap.size + 3, 0, none⟩ = false) := fun v hv q => by
      have hb := lt_of_heap HH.out
      have h3 := HS3.out
      have h1 : v.heap[X3.heap.size + 1]? = some (.cells #[.pointer py] 24 (0, 0)) := hv.heap (a := Y5.drew) HR5.out (by omega)
      have h2 : (v.setCell ⟨X3.heap.size + 1, 0, none⟩ q).heap[w.heap.size + 3]? = some (.cells #[.bool false] 4 (0, 0)) := set_keep (hv.heap (a := Y5.drew) HBX5.out.f (by omega)) (by omega)
      exact ⟨by rw [cell_of_cells h1]; rfl, frozen_of_row v _ _ _ _ h1, by rw [cell_of_cells h2]; rfl, frozen_of_row _ _ _ _ _ h2⟩
    have wd : IntKind.i64.wrap ((d : Int) + 1) = (d : Int) + 1 := IntWalk.i64_in _ (by have := HD.out; omega)
    refine wp_quiet10 ?_
    refine wp_region_held_drew (S := fun w' => Keep (fun i => i = b ∨ i = X3.heap.size + 1 ∨ i = w.heap.size + 3) Y5 w') (by kernel_rfl) ((Keep.refl _ _).drew) (fun hHeld => ?_)
    have hb0 : Keep (fun i => i = b ∨ i = X3.heap.size + 1 ∨ i = w.heap.size + 3) Y5 Y5.drew := (Keep.refl _ _).drew
    refine wpAnyH_take (i := 0) (oi := { dst := some 31, op := .move (.tmp 12), type := _, pos := _, after := _, guard := _ }) (v := ?_) rfl (by kernel_rfl) (by kernel_rfl) (by kernel_rfl) (fun _ _ _ h => h) (Or.inl ⟨by rfl, ?_⟩) (by assumption) ?_
    rotate_left 1
    · intro v hSv
      clear hSv
      go_simp
      try with_reducible rfl
    try simp only [Act.put, List.setIfInBounds_toArray, List.set_cons_zero, List.set_cons_succ]
    refine wpAnyH_take (i := 1) (oi := { dst := some 32, op := .load _ (.tmp 4), type := _, pos := _, after := _, guard := _ }) (v := ?_) rfl (by kernel_rfl) (by kernel_rfl) (by kernel_rfl) (fun _ _ _ h => h) (Or.inl ⟨by rfl, ?_⟩) (by assumption) ?_
    rotate_left 1
    · intro v hSv
      have hv1 := HLD.out v hSv |>.1
      clear hSv
      go_simp
      try with_reducible rfl
    try simp only [Act.put, List.setIfInBounds_toArray, List.set_cons_zero, List.set_cons_succ]
    refine wpAnyH_take (i := 2) (oi := { dst := some 33, op := .move (.tmp 12), type := _, pos := _, after := _, guard := _ }) (v := ?_) rfl (by kernel_rfl) (by kernel_rfl) (by kernel_rfl) (fun _ _ _ h => h) (Or.inl ⟨by rfl, ?_⟩) (by assumption) ?_
    rotate_left 1
    · intro v hSv
      clear hSv
      go_simp
      try with_reducible rfl
    try simp only [Act.put, List.setIfInBounds_toArray, List.set_cons_zero, List.set_cons_succ]
    refine wpAnyH_take (i := 3) (oi := { dst := some 34, op := .nilCheck (.tmp 33), type := _, pos := _, after := _, guard := _ }) (v := ?_) rfl (by kernel_rfl) (by kernel_rfl) (by kernel_rfl) (fun _ _ _ h => h) (Or.inl ⟨by rfl, ?_⟩) (by assumption) ?_
    rotate_left 1
    · intro v hSv
      clear hSv
      go_simp
      try with_reducible rfl
    try simp only [Act.put, List.setIfInBounds_toArray, List.set_cons_zero, List.set_cons_succ]
    refine wpAnyH_take (i := 5) (oi := { dst := some 36, op := .load _ (.tmp 6), type := _, pos := _, after := _, guard := _ }) (v := ?_) rfl (by kernel_rfl) (by kernel_rfl) (by kernel_rfl) (fun _ _ _ h => h) (Or.inl ⟨by rfl, ?_⟩) (by assumption) ?_
    rotate_left 1
    · intro v hSv
      have hv1 := HLD.out v hSv |>.2
      clear hSv
      go_simp
      try with_reducible rfl
    try simp only [Act.put, List.setIfInBounds_toArray, List.set_cons_zero, List.set_cons_succ]
    refine wpAnyH_take (i := 6) (oi := { dst := some 37, op := .move (.tmp 3), type := _, pos := _, after := _, guard := _ }) (v := ?_) rfl (by kernel_rfl) (by kernel_rfl) (by kernel_rfl) (fun _ _ _ h => h) (Or.inl ⟨by rfl, ?_⟩) (by assumption) ?_
    rotate_left 1
    · intro v hSv
      clear hSv
      go_simp
      try with_reducible rfl
    try simp only [Act.put, List.setIfInBounds_toArray, List.set_cons_zero, List.set_cons_succ]
    refine wpAnyH_take (i := 7) (oi := { dst := some 38, op := .binOp .add _ (.tmp 37) (.const (.int .i64 1)) _, type := _, pos := _, after := _, guard := _ }) (v := ?_) rfl (by kernel_rfl) (by kernel_rfl) (by kernel_rfl) (fun _ _ _ h => h) (Or.inl ⟨by rfl, ?_⟩) (by assumption) ?_
    rotate_left 1
    · intro v hSv
      have hv1 := wd
      clear hSv
      go_simp
      try with_reducible rfl
    try simp only [Act.put, List.setIfInBounds_toArray, List.set_cons_zero, List.set_cons_succ]
    refine wpAnyH_ready (rs := [4]) (by kernel_rfl) (by simp) ?_
    refine AllReadyH.cons (o := { dst := some 35, op := .load _ (.tmp 34), type := _, pos := _, after := _, guard := _ }) rfl (fun K hK => ?_) AllReadyH.nil
    have lw4 := lw
    go_simp
    refine hK.out _ _ (hb0) (fun hHeld => ?_)
    clear hK K
    try simp only [Act.put, List.setIfInBounds_toArray, List.set_cons_zero, List.set_cons_succ]
    refine wpAnyH_ready (rs := [8]) (by kernel_rfl) (by simp) ?_
    refine AllReadyH.cons (o := { dst := some 39, op := .call _, type := _, pos := _, after := _, guard := _ }) rfl (fun K hK => ?_) AllReadyH.nil
    go_simp
    refine (HCA.out).mono ?_
    rintro e y1 ⟨p1, rfl, HR1, hb⟩
    have hb1 : Keep (fun i => i = b ∨ i = X3.heap.size + 1 ∨ i = w.heap.size + 3) Y5 y1 := (hb0).trans (hb.mono fun _ h => .inl h)
    have HK1 := Lib.hid hb
    obtain ⟨s1, s2, s3, s4⟩ := HST.out y1 hb (.pointer p1)
    clear lw lw4 wd
    clear hb
    go_wp2_with fail
    refine hK.out _ _ (hb1) (fun hHeld => ?_)
    clear hK K
    try simp only [Act.put, List.setIfInBounds_toArray, List.set_cons_zero, List.set_cons_succ]
    refine wpAnyH_take (i := 9) (oi := { dst := some 30, op := .move (.tmp 39), type := _, pos := _, after := _, guard := _ }) (v := ?_) rfl (by kernel_rfl) (by kernel_rfl) (by kernel_rfl) (fun _ _ _ h => h) (Or.inl ⟨by rfl, ?_⟩) (by assumption) ?_
    rotate_left 1
    · intro v hSv
      clear hSv
      go_simp
      try with_reducible rfl
    try simp only [Act.put, List.setIfInBounds_toArray, List.set_cons_zero, List.set_cons_succ]
    refine wpAnyH_take (i := 10) (oi := { dst := some 40, op := .extract (.tmp 30) 0, type := _, pos := _, after := _, guard := _ }) (v := ?_) rfl (by kernel_rfl) (by kernel_rfl) (by kernel_rfl) (fun _ _ _ h => h) (Or.inl ⟨by rfl, ?_⟩) (by assumption) ?_
    rotate_left 1
    · intro v hSv
      clear hSv
      go_simp
      try with_reducible rfl
    try simp only [Act.put, List.setIfInBounds_toArray, List.set_cons_zero, List.set_cons_succ]
    refine wpAnyH_take (i := 11) (oi := { dst := some 41, op := .extract (.tmp 30) 1, type := _, pos := _, after := _, guard := _ }) (v := ?_) rfl (by kernel_rfl) (by kernel_rfl) (by kernel_rfl) (fun _ _ _ h => h) (Or.inl ⟨by rfl, ?_⟩) (by assumption) ?_
    rotate_left 1
    · intro v hSv
      clear hSv
      go_simp
      try with_reducible rfl
    try simp only [Act.put, List.setIfInBounds_toArray, List.set_cons_zero, List.set_cons_succ]
    refine wpAnyH_take (i := 12) (oi := { dst := some 42, op := .nilCheck (.tmp 31), type := _, pos := _, after := _, guard := _ }) (v := ?_) rfl (by kernel_rfl) (by kernel_rfl) (by kernel_rfl) (fun _ _ _ h => h) (Or.inl ⟨by rfl, ?_⟩) (by assumption) ?_
    rotate_left 1
    · intro v hSv
      clear hSv
      go_simp
      try with_reducible rfl
    try simp only [Act.put, List.setIfInBounds_toArray, List.set_cons_zero, List.set_cons_succ]
    refine wpAnyH_ready (rs := [13]) (by kernel_rfl) (by simp) ?_
    refine AllReadyH.cons (o := { dst := none, op := .store _ (.tmp 42) (.tmp 40), type := _, pos := _, after := _, guard := _ }) rfl (fun K hK => ?_) AllReadyH.nil
    go_simp
    refine hK.out _ _ ((hb1).trans ((Keep.cell _ ⟨X3.heap.size + 1, 0, none⟩ _).mono fun _ h => .inr (.inl h))) (fun hHeld => ?_)
    clear hK K
    try simp only [Act.put, List.setIfInBounds_toArray, List.set_cons_zero, List.set_cons_succ]
    refine wpAnyH_ready (rs := [14]) (by kernel_rfl) (by simp) ?_
    refine AllReadyH.cons (o := { dst := none, op := .store _ (.tmp 9) (.tmp 41), type := _, pos := _, after := _, guard := _ }) rfl (fun K hK => ?_) AllReadyH.nil
    go_simp
    refine hK.out _ _ (((hb1).trans ((Keep.cell _ ⟨X3.heap.size + 1, 0, none⟩ _).mono fun _ h => .inr (.inl h))).trans ((Keep.cell _ ⟨w.heap.size + 3, 0, none⟩ _).mono fun _ h => .inr (.inr h))) (fun hHeld => ?_)
    clear hK K
    try simp only [Act.put, List.setIfInBounds_toArray, List.set_cons_zero, List.set_cons_succ]
    refine wpAnyH_done (by kernel_rfl) ?_ _
    refine Quiet10.normal ?_
    clear s1 s2 s3 s4
    go_wp2_with fail
    obtain ⟨Z, hZ⟩ : ∃ Z, Z = (y1.setCell ⟨X3.heap.size + 1, 0, none⟩ (.pointer p1)).setCell ⟨w.heap.size + 3, 0, none⟩ (.bool fb) := ⟨_, rfl⟩
    have HKZ : Hid (Keep (fun i => i = X3.heap.size + 1 ∨ i = w.heap.size + 3) y1 Z ∧ Bx b k (.pointer none) fb w.heap.size Z ∧ Z.heap[X3.heap.size]? = some (.cells #[.pointer px] 24 (0, 0)) ∧ Z.heap[X3.heap.size + 1]? = some (.cells #[.pointer p1] 24 (0, 0))) := by
      have hb := lt_of_heap HH.out
      have h3 := HS3.out
      have hx1 := HBX5.out.drew.keep (HK1.out) (fun i _ _ => by show i ≠ b; omega)
      have hl1 : y1.heap[X3.heap.size]? = _ := HK1.out.heap (a := Y5.drew) HL5.out (by omega)
      have hr1 : y1.heap[X3.heap.size + 1]? = _ := HK1.out.heap (a := Y5.drew) HR5.out (by omega)
      rw [hZ]
      refine ⟨((Keep.cell _ _ _).mono fun _ h => .inl h).trans ((Keep.cell _ _ _).mono fun _ h => .inr h), ⟨set_keep (set_keep hx1.h (by omega)) (by omega), set_keep (set_keep hx1.k (by omega)) (by omega), set_keep (set_keep hx1.r (by omega)) (by omega), set_row (set_keep hx1.f (by omega))⟩, ?_, ?_⟩
      · exact set_keep (set_keep hl1 (by omega)) (by omega)
      · exact set_keep (set_row hr1) (by omega)
    rw [← hZ]
    clear hZ HCA HLD HST
    have lf : Z.drew.cell? ⟨w.heap.size + 3, 0, none⟩ = some (.bool fb) := by
      have h1 : Z.drew.heap[w.heap.size + 3]? = some (.cells #[.bool fb] 4 (0, 0)) := HKZ.out.2.1.f
      rw [cell_of_cells h1]; rfl
    obtain ⟨s1, s2, s3, s4⟩ := HKZ.out.2.1.drew.cells (.pointer pT)
    have s6 : Z.frozen? ⟨w.heap.size + 3, 0, none⟩ = false := frozen_of_row Z _ _ _ _ HKZ.out.2.1.f
    have s5 : ((Z.drew.setCell ⟨w.heap.size + 2, 0, none⟩ (.pointer pT)).setCell ⟨w.heap.size + 3, 0, none⟩ (.bool fb)).cell? ⟨w.heap.size + 3, 0, none⟩ = some (.bool fb) := by rw [cell_of_cells (HKZ.out.2.1.drew.set2 (.pointer pT) fb).f]; rfl
    refine wp_quiet10 ?_
    refine wp_region_held_drew (S := fun w' => Keep (fun i => i = w.heap.size + 2 ∨ i = w.heap.size + 3) Z w' ∧ w'.cell? ⟨w.heap.size + 3, 0, none⟩ = some (.bool fb)) (by kernel_rfl) (⟨(Keep.refl _ _).drew, lf⟩) (fun hHeld => ?_)
    have hb0 : Keep (fun i => i = w.heap.size + 2 ∨ i = w.heap.size + 3) Z Z.drew ∧ Z.drew.cell? ⟨w.heap.size + 3, 0, none⟩ = some (.bool fb) := ⟨(Keep.refl _ _).drew, lf⟩
    refine wpAnyH_take (i := 0) (oi := { dst := some 43, op := .move (.tmp 1), type := _, pos := _, after := _, guard := _ }) (v := ?_) rfl (by kernel_rfl) (by kernel_rfl) (by kernel_rfl) (fun _ _ _ h => h) (Or.inl ⟨by rfl, ?_⟩) (by assumption) ?_
    rotate_left 1
    · intro v hSv
      clear hSv
      go_simp
      try with_reducible rfl
    try simp only [Act.put, List.setIfInBounds_toArray, List.set_cons_zero, List.set_cons_succ]
    refine wpAnyH_take (i := 1) (oi := { dst := some 44, op := .load _ (.tmp 9), type := _, pos := _, after := _, guard := _ }) (v := ?_) rfl (by kernel_rfl) (by kernel_rfl) (by kernel_rfl) (fun _ _ _ h => h) (Or.inl ⟨by rfl, ?_⟩) (by assumption) ?_
    rotate_left 1
    · intro v hSv
      have hv1 := hSv.2
      clear hSv
      go_simp
      try with_reducible rfl
    try simp only [Act.put, List.setIfInBounds_toArray, List.set_cons_zero, List.set_cons_succ]
    refine wpAnyH_ready (rs := [2]) (by kernel_rfl) (by simp) ?_
    refine AllReadyH.cons (o := { dst := none, op := .store _ (.tmp 8) (.tmp 43), type := _, pos := _, after := _, guard := _ }) rfl (fun K hK => ?_) AllReadyH.nil
    go_simp
    refine hK.out _ _ (⟨hb0.1.trans ((Keep.cell _ ⟨w.heap.size + 2, 0, none⟩ _).mono fun _ h => .inl h), s3⟩) (fun hHeld => ?_)
    clear hK K
    try simp only [Act.put, List.setIfInBounds_toArray, List.set_cons_zero, List.set_cons_succ]
    refine wpAnyH_ready (rs := [3]) (by kernel_rfl) (by simp) ?_
    refine AllReadyH.cons (o := { dst := none, op := .store _ (.tmp 9) (.tmp 44), type := _, pos := _, after := _, guard := _ }) rfl (fun K hK => ?_) AllReadyH.nil
    go_simp
    refine hK.out _ _ (⟨(hb0.1.trans ((Keep.cell _ ⟨w.heap.size + 2, 0, none⟩ _).mono fun _ h => .inl h)).trans ((Keep.cell _ ⟨w.heap.size + 3, 0, none⟩ _).mono fun _ h => .inr h), s5⟩) (fun hHeld => ?_)
    clear hK K
    try simp only [Act.put, List.setIfInBounds_toArray, List.set_cons_zero, List.set_cons_succ]
    refine wpAnyH_done (by kernel_rfl) ?_ _
    refine Quiet10.normal ?_
    go_wp2_with fail
    obtain ⟨Wd, hWd⟩ : ∃ Wd, Wd = ((Z.setCell ⟨w.heap.size + 2, 0, none⟩ (.pointer pT)).setCell ⟨w.heap.size + 3, 0, none⟩ (.bool fb)).drew := ⟨_, rfl⟩
    have HBW : Hid (Bx b k (.pointer pT) fb w.heap.size Wd) := by show Bx _ _ _ _ _ _; rw [hWd]; exact (HKZ.out.2.1.set2 _ _).drew
    have hkz : Keep (fun i => i = w.heap.size + 2 ∨ i = w.heap.size + 3) Z Wd := by rw [hWd]; exact (((Keep.cell _ _ _).mono fun _ h => .inl h).trans ((Keep.cell _ _ _).mono fun _ h => .inr h)).drew
    have HCL : Hid (Wd.heap[X3.heap.size]? = some (.cells #[.pointer px] 24 (0, 0)) ∧ Wd.heap[X3.heap.size + 1]? = some (.cells #[.pointer p1] 24 (0, 0))) := by
      have h3 := HS3.out
      exact ⟨hkz.heap HKZ.out.2.2.1 (by omega), hkz.heap HKZ.out.2.2.2 (by omega)⟩
    have HK1W : Hid (Keep (fun i => i = X3.heap.size + 1 ∨ i = w.heap.size + 2 ∨ i = w.heap.size + 3) y1 Wd) := (HKZ.out.1.mono fun i hi => by omega).trans (hkz.mono fun i hi => by omega)
    have HKW : Hid (Keep (fun i => i = b) w Wd) := ((HK5.out.drew).trans HK1.out).step HK1W.out fun i hi => .inr (by have h3 := HS3.out; omega)
    have hwd : ((Z.setCell ⟨w.heap.size + 1 + 1, 0, none⟩ (.pointer pT)).setCell ⟨w.heap.size + 1 + 1 + 1, 0, none⟩ (.bool fb)).drew = Wd := hWd.symm
    rw [hwd]
    obtain ⟨T1, hp1, hT1, hm1, hno⟩ := HR1.out
    clear hWd hwd hkz s1 s2 s3 s4 s5 s6 lf HKZ
    have lfd : Wd.cell? ⟨w.heap.size + 3, 0, none⟩ = some (.bool fb) := by rw [cell_of_cells HBW.out.f]; rfl
    have hbw := lt_of_heap HH.out
    have hs3 := HS3.out
    refine leaves_cons (f := 60) (args := #[ptr (w.heap.size + 3), ptr w.heap.size, ptr X3.heap.size, ptr (X3.heap.size + 1), ptr (w.heap.size + 2)]) (by simp) (by simp [go_sem, ptr]) ?_
    cases hfb : fb with
    | false =>
      rw [hfb] at lfd hno HBW HFB
      obtain ⟨_, hs1⟩ := hno rfl
      refine (at1_idle _ _ _ _ _ .returning Wd lfd).mono ?_
      rintro e u' w'' ⟨rfl, rfl, rfl⟩
      exact ⟨_, res10 HBW.out _ rfl rfl, at10_idle nd HPT.out HH.out HM.out HT.out HKW.out (hs1.keep HK1W.out (by omega)) HFB.out.symm⟩
    | true =>
      rw [hfb] at lfd HBW HFB
      obtain ⟨c1, hc1, hh1⟩ := hm1.hs
      have hST : ∀ w2, Keep (fun i => i < w.heap.size ∨ i = w.heap.size + 2) Wd w2 → M w2 n (.inner v x y) → M w2 n x ∧ M w2 n T1 := fun w2 h2 hm2 => by
        obtain ⟨h4, h5⟩ := nd.kids hm2
        have h6 := hm1.aft w2 ((HK1W.out.mono fun i hi => by show i < Y5.heap.size; have := lt_of_heap HR5.out; omega).trans (h2.mono fun i hi => by show i < Y5.heap.size; have := lt_of_heap HR5.out; omega)) h5
        exact ⟨h4, h6⟩
      obtain ⟨hS, hT2⟩ := hST Wd (Keep.refl _ _) (nd.hs HM.out HH.out HKW.out)
      have hl1 := hT1.len_le
      have hl2 := HTX.out.len_le
      have hl3 := HLN.out
      have hl4 : (rmK (partK l d 1) k).length ≤ (partK l d 1).length := List.length_filter_le _ _
      have hl5 := partK_len l d 0
      have hl6 := partK_len l d 1
      have hcc := HC.out
      have hdd := HD.out
      have h25 := H256.out
      refine (at1_join nd (w.heap.size + 2) (w.heap.size + 3) w.heap.size X3.heap.size (X3.heap.size + 1) .returning Wd b n c1 x T1 (.pointer pT) lfd (by rw [cell_of_cells HBW.out.h]; rfl) (by rw [cell_of_cells HCL.out.1, HPX.out]; rfl) (by rw [cell_of_cells HCL.out.2, hp1]; rfl) HBW.out.r (by omega) (hh1.keep HK1W.out (by omega)) (by omega) (HV.out.hs HH.out HKW.out) hS hT2 (by omega)).mono ?_
      rintro e u' w'' ⟨rfl, rfl, yj, u, c2, rfl, hmj, hc2, hhj, hkj, haj⟩
      obtain ⟨g1, g2⟩ := at10_found nd (d := d) (l := l) HH.out HM.out HKW.out hkj HBW.out (by omega) hhj (rm_join HT.out HD.out (by rw [if_neg (by rw [HZB.out]; decide)]; exact ⟨rfl, hT1⟩)) haj hST
      exact ⟨_, res10 g1 _ rfl rfl, g2⟩
end Go.Proofs.YtjhpnlnghaljaaaGreatDoor

/- The program's Remove and All; the program of layer 10 keeps its contract. -/
namespace Go.Proofs.YtjhpnlnghaljaaaGreatDoor
open Go.RowKit

theorem at10_c {M : World → Int → Tv → Prop} (nd : NdV M) (b : Nat) (n : Int) (k : List UInt8) (hk : k.length = 32) : ∀ T : Tv, At10 M b n k T
  | .nil => at10_end nd b n k hk .nil (by show (0 : Int) ≠ 2; decide)
  | .leaf v x => at10_end nd b n k hk (.leaf v x) (by show (1 : Int) ≠ 2; decide)
  | .inner v x y => at10_inner nd b n k hk v x y (at10_c nd b n k hk x) (at10_c nd b n k hk y)
set_option maxHeartbeats 4000000 in
set_option maxRecDepth 100000 in
theorem remove10_c {M : World → Int → Tv → Prop} (nd : NdV M) (w : World) (b : Nat) (n : Int) (c : Nat) (l : List Ent) (T : Tv) (k : List UInt8) (hh : Hs w b n c) (hc : c ≤ 500000) (hv : Vars w) (hM : M w n T) (hT : IsMap l T) (hl : l.length ≤ 100000) (hk : k.length = 32) :
    Calls Tryz.prog 18 #[ptr b, T.val, .agg (bA k)] w fun x w' => ∃ T', x = .returned (.tuple #[T'.val, .bool (hasK l k)]) ∧ IsMap (rmK l k) T' ∧ Made M w b n T T' (c + 1000) w' ∧ (hasK l k = false → T' = T ∧ Hs w' b n c) := by
  obtain ⟨pT, hpT⟩ := val_ptr nd hM
  obtain ⟨X, hX⟩ : ∃ X, X = w.alloc (.cells (bA k) 32) := ⟨_, rfl⟩
  have hb0 : Below w.heap.size w X := by rw [hX]; exact (Below.refl _ _).alloc (Nat.le_refl _) _
  have hr0 : RowB X w.heap.size 32 k := by rw [hX]; exact RowB.alloc w k _
  have lk := hr0.ldKey hk
  have HAT := Lib.hid (at10_c nd b n k hk T X c 0 l (hh.keep (Keep.of_below (L := fun _ => False) hb0) fun h => h) hc (hv.below hb0) (nd.below hM hb0) hT.sub (Nat.zero_le _) hl)
  rw [hpT] at HAT
  unfold ptr at HAT
  rw [hX] at lk
  have HX := Lib.hid hX
  have HB0 := Lib.hid hb0
  obtain ⟨fb, hfb⟩ : ∃ fb, fb = hasK l k := ⟨_, rfl⟩
  rw [← hfb] at HAT ⊢
  rw [hpT]
  unfold ptr
  clear hX hb0 hr0 hpT hh hc hv hM hT hl hk hfb
  go_enter Tryz.func18, Tryz.ntmps18
  go_wp2_with fail
  rw [← HX.out]
  clear HX lk
  refine HAT.out.mono ?_
  rintro _ w2 ⟨T', rfl, hI, hm, hno⟩
  obtain ⟨p', hp'⟩ := val_ptr nd hm.ms
  rw [hp']
  have HF : Hid (T'.val = .pointer p' ∧ IsMap (rmK l k) T' ∧ Made M w b n T T' (c + 1000) w2 ∧ (fb = false → T' = T ∧ Hs w2 b n c)) := by
    obtain ⟨c', hc', hh'⟩ := hm.hs
    exact ⟨hp', hI.map, ⟨hm.ms, ⟨c', by omega, hh'⟩, (Keep.of_below HB0.out).trans hm.keep, fun w3 h3 h4 => hm.aft w3 (h3.mono fun i hi => by have := HB0.out.size; omega) h4⟩, hno⟩
  clear hI hm hno hp' HAT
  go_wp2_with fail
  go_ret2
  exact ⟨T', by rw [HF.out.1]; rfl, HF.out.2⟩
theorem foldl_rm_len (ks : List (List UInt8)) : ∀ l : List Ent, (ks.foldl rmK l).length ≤ l.length := by
  induction ks with
  | nil => exact fun l => Nat.le_refl _
  | cons x r ih => exact fun l => Nat.le_trans (ih (rmK l x)) (List.length_filter_le _ _)
theorem take_rm {ks : List (List UInt8)} {i : Nat} {k : List UInt8} (l : List Ent) (h : ks[i]? = some k) : (ks.take (i + 1)).foldl rmK l = rmK ((ks.take i).foldl rmK l) k := by
  obtain ⟨hi, rfl⟩ := List.getElem?_eq_some_iff.1 h
  rw [List.take_succ_eq_append_getElem hi, List.foldl_append]
  rfl
theorem kz_bA : Bt.kc Bt.kz = bA z26 := by kernel_rfl
theorem stK_new {w : World} {k : List UInt8} (hk : k.length = 32) :
    stA 32 (w.alloc (.cells (Bt.kc Bt.kz) 32)) (.pointer (some ⟨w.heap.size, 0, none⟩)) (.agg (bA k)) = .ok .skip (w.alloc (.cells (bA k) 32)) :=
  stA_new w _ _ (by rw [bA_size, hk]; exact infoKey) (by rw [kz_bA, bA_size, bA_size, hk]; rfl) (by
    unfold bA
    rw [List.all_toArray, List.all_eq_true]
    intro u hu
    obtain ⟨y, _, rfl⟩ := List.mem_map.1 hu
    exact bv_one y)
set_option maxHeartbeats 8000000 in
set_option maxRecDepth 100000 in
theorem all10_c {M : World → Int → Tv → Prop} (nd : NdV M) (w : World) (b : Nat) (n : Int) (c : Nat) (l : List Ent) (T : Tv) (A : Option Addr) (cA : Nat) (ks : List (List UInt8)) (hh : Hs w b n c) (hc : c ≤ 100000) (hv : Vars w) (hM : M w n T) (hT : IsMap l T) (hl : l.length ≤ 10000) (hA : KS w A ks) (hks : ks.length ≤ 20) :
    Calls Tryz.prog 19 #[ptr b, T.val, .slice A ks.length cA] w fun x w' => ∃ T', x = .returned (.tuple #[T'.val, .int .i64 (cntK l ks : Int)]) ∧ IsMap (ks.foldl rmK l) T' ∧ Made M w b n T T' (c + 1000 * ks.length) w' := by
  obtain ⟨pT, hpT⟩ := val_ptr nd hM
  have HST : Hid (T.val = .pointer pT ∧ IsMap ((ks.take 0).foldl rmK l) T ∧ Made M w b n T T (c + 1000 * 0) w ∧ 0 + cntK ((ks.take 0).foldl rmK l) (ks.drop 0) = cntK l ks) := ⟨hpT, hT, ⟨hM, ⟨c, Nat.le_refl _, hh⟩, Keep.refl _ _, fun _ _ h => h⟩, Nat.zero_add _⟩
  have HH := Lib.hid hh
  have HC := Lib.hid hc
  have HV := Lib.hid hv
  have HL := Lib.hid hl
  have HA := Lib.hid hA
  have hks2 : ks.length ≤ 20 := hks
  rw [hpT]
  unfold ptr
  clear hpT hh hc hv hM hT hl hA hks
  go_enter Tryz.func19, Tryz.ntmps19
  go_wp2_with fail
  go_loopg [1, 8, 15] ks.length (fun gg nv cv iv wr => ∃ (i N : Nat) (S : Tv) (pS : Option Addr), nv = .pointer pS ∧ cv = .int .i64 (N : Int) ∧ iv = .int .i64 (i : Int) ∧ i ≤ ks.length ∧ N ≤ i ∧ ks.length - i = gg ∧
    Hid (S.val = .pointer pS ∧ IsMap ((ks.take i).foldl rmK l) S ∧ Made M w b n T S (c + 1000 * i) wr ∧ N + cntK ((ks.take i).foldl rmK l) (ks.drop i) = cntK l ks))
  case atStart => exact ⟨0, 0, T, pT, rfl, rfl, rfl, by omega, by omega, by omega, HST.out⟩
  case round =>
    obtain ⟨i, N, S, pS, rfl, rfl, rfl, hi, hN, rfl, HR⟩ := hrel
    obtain ⟨hpS, hI, hm, hcn⟩ := HR.out
    by_cases hlt : i < ks.length
    · have hd : decide (i < ks.length) = true := decide_eq_true hlt
      obtain ⟨k, he⟩ : ∃ k, ks[i]? = some k := ⟨_, List.getElem?_eq_getElem hlt⟩
      obtain ⟨hkl, g, o, rfl, hr⟩ := (HH.out.ks HA.out hm.keep) i k he
      obtain ⟨ck, hck, hhk⟩ := hm.hs
      have le := KS.ld hr hkl
      have st := stK_new (w := wr) (k := k) hkl
      obtain ⟨X, hX⟩ : ∃ X, X = wr.alloc (.cells (bA k) 32) := ⟨_, rfl⟩
      have hbX : Below wr.heap.size wr X := by rw [hX]; exact (Below.refl _ _).alloc (Nat.le_refl _) _
      have hr0 : RowB X wr.heap.size 32 k := by rw [hX]; exact RowB.alloc wr k _
      have le2 := hr0.ldKey hkl
      have hlen := foldl_rm_len (ks.take i) l
      have HPU := Lib.hid (remove10_c nd X b n ck _ S k (hhk.keep (Keep.of_below (L := fun _ => False) hbX) fun h => h) (by have := HC.out; omega) ((HV.out.hs HH.out hm.keep).below hbX) (nd.below hm.ms hbX) hI (by have := HL.out; omega) hkl)
      rw [hpS] at HPU
      unfold ptr at HPU
      have HNX : Hid ((ks.take (i + 1)).foldl rmK l = rmK ((ks.take i).foldl rmK l) k) := take_rm l he
      have hcd := cntK_drop ((ks.take i).foldl rmK l) he
      obtain ⟨fb, hfb⟩ : ∃ fb, fb = hasK ((ks.take i).foldl rmK l) k := ⟨_, rfl⟩
      rw [← hfb] at HPU hcd
      have HCD : Hid (N + (if fb then 1 else 0) + cntK ((ks.take (i + 1)).foldl rmK l) (ks.drop (i + 1)) = cntK l ks) := by show _ = _; rw [HNX.out]; omega
      have HX := Lib.hid hX
      have HBX := Lib.hid hbX
      have HM := Lib.hid hm
      have HCK := Lib.hid hck
      have p0 : (0 : Int) ≤ (i : Int) := by omega
      have p1 : (i : Int) < (ks.length : Int) := by omega
      rw [hX] at le2
      clear hpS hI hm he hkl hr hck hhk hX hbX hr0 hlen HR hcn hcd hfb
      go_wp2_with fail
      rw [← HX.out]
      clear HX le2 st le
      refine HPU.out.mono ?_
      rintro _ w5 ⟨S', rfl, hI5, hm5, _⟩
      obtain ⟨p5, hp5⟩ := val_ptr nd hm5.ms
      rw [hp5]
      have HF : Hid (S'.val = .pointer p5 ∧ IsMap ((ks.take (i + 1)).foldl rmK l) S' ∧ Made M w b n T S' (c + 1000 * (i + 1)) w5) := by
        obtain ⟨c5, hc5, hh5⟩ := hm5.hs
        refine ⟨hp5, by rw [HNX.out]; exact hI5, hm5.ms, ⟨c5, by have := HCK.out; omega, hh5⟩, (HM.out.keep.trans (Keep.of_below HBX.out)).trans hm5.keep, fun w3 h3 h4 => ?_⟩
        have hb := lt_of_heap HH.out
        exact hm5.aft w3 (h3.mono fun i hi => by have := HM.out.keep.size; have := HBX.out.size; omega) (HM.out.aft w3 (((Keep.of_below HBX.out).trans (hm5.keep.mono fun i hi => by have e2 : i = b := hi; omega)).trans h3) h4)
      clear hI5 hm5 hp5 HPU HM
      cases fb with
      | true =>
        have HC2 : Hid (N + 1 + cntK ((ks.take (i + 1)).foldl rmK l) (ks.drop (i + 1)) = cntK l ks) := HCD.out
        clear HCD
        go_wp2_with fail
        go_roundg (ks.length - (i + 1))
        case measure => omega
        case rel => exact ⟨i + 1, N + 1, S', p5, rfl, by go_num, by go_num, by omega, by omega, rfl, HF.out.1, HF.out.2.1, HF.out.2.2, HC2.out⟩
      | false =>
        have HC2 : Hid (N + cntK ((ks.take (i + 1)).foldl rmK l) (ks.drop (i + 1)) = cntK l ks) := HCD.out
        clear HCD
        go_wp2_with fail
        go_roundg (ks.length - (i + 1))
        case measure => omega
        case rel => exact ⟨i + 1, N, S', p5, rfl, rfl, by go_num, by omega, by omega, rfl, HF.out.1, HF.out.2.1, HF.out.2.2, HC2.out⟩
    · obtain rfl : i = ks.length := by omega
      have hd : decide (ks.length < ks.length) = false := decide_eq_false (by omega)
      have hN2 : N = cntK l ks := by
        rw [List.drop_length] at hcn
        exact hcn
      have HF : Hid (S.val = .pointer pS ∧ IsMap (ks.foldl rmK l) S ∧ Made M w b n T S (c + 1000 * ks.length) wr) := by
        rw [List.take_length] at hI
        exact ⟨hpS, hI, hm⟩
      have HN2 := Lib.hid hN2
      clear hpS hI hm HR hcn hN2
      go_wp2_with fail
      go_ret2
      exact ⟨S, by rw [HF.out.1, ← HN2.out]; rfl, HF.out.2⟩
theorem rm_c : RmV Mn where
  remove := remove10_c nd_c
  atd := fun w b n c d l T k hh hc hv hM hT hd hk hl => (at10_c nd_c b n k hk.1 T w c d l hh hc hv hM hT hd hl).mono fun _ _ ⟨T', h1, h2, h3, h4⟩ =>
    ⟨T', h1, h2, ⟨h3.ms, let ⟨c', hc', hh'⟩ := h3.hs; ⟨c', by omega, hh'⟩, h3.keep, h3.aft⟩, h4⟩
  all := all10_c nd_c
end Go.Proofs.YtjhpnlnghaljaaaGreatDoor
