/- Several texts in one: Yk Yl Ym Yn Yp. -/
import Derived.Test.YtjhpnlnghaljaaaGreatDoorMT
import Derived.Test.YtjhpnlnghaljaaaGreatDoorM4
import Derived.BigQuiet
import Derived.Test.YtjhpnlnghaljaaaGreatDoorMY
import Derived.Maps.AppendAt
import Derived.Test.YtjhpnlnghaljaaaGreatDoorMV
/- Maps in ascending order of keys; the leaves of what Grow makes, in order: plain facts (layers 10 and 11). -/
namespace Go.Proofs.YtjhpnlnghaljaaaGreatDoor
open Go.RowKit

/-- The first bit that tells two keys apart is 0 in the first one. -/
def LtB (a b : List UInt8) : Prop := ∃ i : Nat, i < 256 ∧ (∀ j : Nat, j < i → bitK a j = bitK b j) ∧ bitK a i = 0 ∧ bitK b i = 1
theorem LtB.com {a b : List UInt8} (h : LtB a b) : comK a b < 256 ∧ bitK a (comK a b : Nat) = 0 ∧ bitK b (comK a b : Nat) = 1 := by
  obtain ⟨i, hi, he, h0, h1⟩ := h
  have h2 := (com_bits (a := a) (b := b) (i := i) (by omega)).2 he
  have h3 : ¬ i + 1 ≤ comK a b := fun h => by
    have := (com_bits (a := a) (b := b) (i := i + 1) (by omega)).1 h i (by omega)
    omega
  have h4 : comK a b = i := by omega
  rw [h4]
  exact ⟨hi, h0, h1⟩
theorem cmpK_com {a b : List UInt8} (h : comK a b < 256) : cmpK a b = bitK a (comK a b : Nat) - bitK b (comK a b : Nat) := by
  rw [bitK_in a (by omega) (by omega), bitK_in b (by omega) (by omega), Int.toNat_natCast]
  exact Bt.cmp_bit (keyF_byt _) (keyF_byt _) h
theorem LtB.cmp {a b : List UInt8} (h : LtB a b) : cmpK a b < 0 := by
  obtain ⟨h1, h2, h3⟩ := h.com
  rw [cmpK_com h1, h2, h3]
  decide
theorem cmpK_self (a : List UInt8) : cmpK a a = 0 := Bt.cmp_eq fun _ _ => rfl
theorem LtB.of {a b : List UInt8} (ha : a.length = 32) (hb : b.length = 32) (h : cmpK a b < 0) : LtB a b := by
  have hne : a ≠ b := fun e => by rw [e, cmpK_self] at h; omega
  have hc := com_lt ha hb hne
  have h1 := cmpK_com hc
  have h2 := bitK_01 a (comK a b) hc
  have h3 := bitK_01 b (comK a b) hc
  exact ⟨comK a b, hc, (com_bits (a := a) (b := b) (i := comK a b) (by omega)).1 (Nat.le_refl _), by omega, by omega⟩
theorem LtB.or {a b : List UInt8} (ha : a.length = 32) (hb : b.length = 32) (hne : a ≠ b) (h : ¬ cmpK a b < 0) : LtB b a := by
  have hc := com_lt ha hb hne
  have h1 := cmpK_com hc
  have h2 := bitK_01 a (comK a b) hc
  have h3 := bitK_01 b (comK a b) hc
  have h4 := com_differ hc
  exact ⟨comK a b, hc, fun j hj => ((com_bits (a := a) (b := b) (i := comK a b) (by omega)).1 (Nat.le_refl _) j hj).symm, by omega, by omega⟩
theorem LtB.trans {a b c : List UInt8} (h : LtB a b) (k : LtB b c) : LtB a c := by
  obtain ⟨i, hi, he, h0, h1⟩ := h
  obtain ⟨j, hj, hf, k0, k1⟩ := k
  rcases Nat.lt_trichotomy i j with hlt | rfl | hlt
  · exact ⟨i, hi, fun m hm => (he m hm).trans (hf m (by omega)), h0, by rw [← hf i hlt]; exact h1⟩
  · omega
  · exact ⟨j, hj, fun m hm => (he m (by omega)).trans (hf m hm), by rw [he j hlt]; exact k0, k1⟩
def Asc (l : List Ent) : Prop := l.Pairwise fun a b => LtB a.k b.k
theorem insK_mem10 {e x : Ent} {l : List Ent} (h : x ∈ insK e l) : x = e ∨ x ∈ l := by
  have := (insK_perm e l).mem_iff.1 h
  exact List.mem_cons.1 this
theorem insK_asc {e : Ent} (he : e.k.length = 32) : ∀ {l : List Ent}, Asc l → (∀ x ∈ l, x.k.length = 32 ∧ x.k ≠ e.k) → Asc (insK e l)
  | [], _, _ => List.pairwise_singleton _ _
  | x :: r, h, hx => by
    obtain ⟨h1, h2⟩ := List.pairwise_cons.1 h
    obtain ⟨hl, hne⟩ := hx x (by simp)
    show Asc (if cmpK e.k x.k < 0 then e :: x :: r else x :: insK e r)
    split
    · rename_i hc
      have hlt := LtB.of he hl hc
      refine List.pairwise_cons.2 ⟨fun y hy => ?_, h⟩
      rcases List.mem_cons.1 hy with rfl | hy
      · exact hlt
      · exact hlt.trans (h1 y hy)
    · rename_i hc
      refine List.pairwise_cons.2 ⟨fun y hy => ?_, insK_asc he h2 fun z hz => hx z (by simp [hz])⟩
      rcases insK_mem10 hy with rfl | hy
      · exact LtB.or he hl (Ne.symm hne) hc
      · exact h1 y hy
theorem putK_asc {l : List Ent} {e : Ent} (he : e.k.length = 32) (h : Asc l) (hl : ∀ x ∈ l, x.k.length = 32) : Asc (putK l e) :=
  insK_asc he (h.filter _) fun x hx => ⟨hl x (List.mem_filter.1 hx).1, fun hk => by
    have := (List.mem_filter.1 hx).2
    simp [hk] at this⟩
theorem foldK_asc : ∀ (es l : List Ent), (∀ e ∈ es, e.k.length = 32) → Asc l → (∀ x ∈ l, x.k.length = 32) → Asc (es.foldl putK l)
  | [], _, _, h, _ => h
  | e :: r, l, he, h, hl => by
    rw [List.foldl_cons]
    refine foldK_asc r _ (fun x hx => he x (by simp [hx])) (putK_asc (he e (by simp)) h hl) fun x hx => ?_
    rcases insK_mem10 hx with rfl | hx
    · exact he x (by simp)
    · exact hl x (List.mem_filter.1 hx).1
theorem ofK_asc {es : List Ent} (h : ∀ e ∈ es, e.k.length = 32) : Asc (ofK es) := foldK_asc es [] h List.Pairwise.nil fun _ hx => by cases hx
/-- The leaves, from left to right. -/
def entsT : Tr → List Ent
  | .nil => []
  | .leaf e => [e]
  | .inner a b => entsT a ++ entsT b
theorem entsT_join : ∀ (s t : Tr), entsT (joinT s t) = entsT s ++ entsT t
  | .nil, .nil => rfl
  | .nil, .leaf _ => rfl
  | .leaf _, .nil => rfl
  | .nil, .inner _ _ => rfl
  | .leaf _, .leaf _ => rfl
  | .leaf _, .inner _ _ => rfl
  | .inner _ _, .nil => rfl
  | .inner _ _, .leaf _ => rfl
  | .inner _ _, .inner _ _ => rfl
theorem part_app {d : Int} (h0 : 0 ≤ d) (h1 : d < 256) : ∀ {l : List Ent}, Sep d l → Asc l → partK l d 0 ++ partK l d 1 = l
  | [], _, _ => rfl
  | x :: r, hs, ha => by
    obtain ⟨a1, a2⟩ := List.pairwise_cons.1 ha
    have hs2 : Sep d r := ⟨fun a h => hs.len a (by simp [h]), (List.pairwise_cons.1 hs.ne).2, fun a ha b hb => hs.eq a (by simp [ha]) b (by simp [hb])⟩
    obtain ⟨q, rfl⟩ : ∃ q : Nat, d = (q : Int) := ⟨d.toNat, by omega⟩
    have hb := bitK_01 x.k q (by omega)
    by_cases hz : bitK x.k q = 0
    · have ih := part_app h0 h1 hs2 a2
      rw [show partK (x :: r) q 0 = x :: partK r q 0 by simp [partK, hz], show partK (x :: r) q 1 = partK r q 1 by simp [partK, hz], List.cons_append, ih]
    · have hz1 : bitK x.k q = 1 := by omega
      have hall : ∀ y ∈ r, bitK y.k q = 1 := fun y hy => by
        obtain ⟨i, hi, he, b0, b1⟩ := a1 y hy
        rcases Nat.lt_trichotomy i q with hlt | rfl | hlt
        · have := hs.eq x (by simp) y (by simp [hy]) i (by omega) hi
          rw [bitK_in x.k (by omega) (by omega), Int.toNat_natCast] at b0
          rw [bitK_in y.k (by omega) (by omega), Int.toNat_natCast] at b1
          omega
        · omega
        · rw [← he q hlt]; exact hz1
      have e0 : partK (x :: r) q 0 = [] := List.filter_eq_nil_iff.2 fun y hy => by
        rcases List.mem_cons.1 hy with rfl | hy
        · simp [hz1]
        · simp [hall y hy]
      have e1 : partK (x :: r) q 1 = x :: r := List.filter_eq_self.2 fun y hy => by
        rcases List.mem_cons.1 hy with rfl | hy
        · simp [hz1]
        · simp [hall y hy]
      rw [e0, e1, List.nil_append]
/-- The leaves of what Grow makes of an ascending map are the map. -/
theorem growT_ents : ∀ (f : Nat) (l : List Ent) (d : Int), Sep d l → Asc l → Deep f d l.length → entsT (growT f l d) = l := by
  have few : ∀ (f : Nat) (l : List Ent) (d : Int), l.length ≤ 1 → entsT (growT f l d) = l := by
    intro f l d hl
    match l, hl with
    | [], _ => rw [growT_none]; rfl
    | [e], _ => rw [growT_one]; rfl
  intro f
  induction f with
  | zero =>
    intro l d _ _ hd
    exact few 0 l d (by rcases hd with h | ⟨h0, h1, h2⟩ <;> omega)
  | succ f ih =>
    intro l d hs ha hd
    rcases Nat.lt_or_ge l.length 2 with hl | hl
    · exact few (f + 1) l d (by omega)
    · have h256 := hs.two hl
      obtain ⟨h0, h2⟩ : 0 ≤ d ∧ 256 < d + (f + 1 : Nat) := by
        rcases hd with h | ⟨h0, h1, h2⟩
        · omega
        · exact ⟨h0, h2⟩
      rw [growT_two f l d hl, entsT_join, ih _ _ (hs.part h0 h256 0) (ha.filter _) (.inr ⟨by omega, by omega, by omega⟩), ih _ _ (hs.part h0 h256 1) (ha.filter _) (.inr ⟨by omega, by omega, by omega⟩)]
      exact part_app h0 h256 hs ha
theorem IsMap.ents {l : List Ent} {T : Tv} (h : IsMap l T) (ha : Asc l) : entsT T.tr = l := by
  rw [h.tr]
  exact growT_ents 257 l 0 h.sep ha (.inr ⟨by omega, by omega, by omega⟩)
end Go.Proofs.YtjhpnlnghaljaaaGreatDoor

/- Rows of keys that the call owns; the library's slices.Equal at two slices of the same keys. -/
namespace Go.Proofs.YtjhpnlnghaljaaaGreatDoor
open Go.RowKit

theorem bsK_f (f : Nat → UInt8) (w : World) : bsK w 1 #[(0, .agg (bA ((List.range 32).map f)))] = .ok (.value (.slice (some ⟨w.heap.size, 0, none⟩) 1 1)) (w.alloc (.cells (bA ((List.range 32).map f)) 32)) := by kernel_rfl
theorem bsK_one (k : List UInt8) (hk : k.length = 32) (w : World) : bsK w 1 #[(0, .agg (bA k))] = .ok (.value (.slice (some ⟨w.heap.size, 0, none⟩) 1 1)) (w.alloc (.cells (bA k) 32)) := by
  have := bsK_f (fun j => k.getD j 0) w
  rw [← list32 k hk] at this
  exact this
def kC (k : List UInt8) : List Value := k.map bv
def OwnK (w : World) (B : Nat) (v : Value) (ks : List (List UInt8)) : Prop := w.ownsRow B 32 32 v ks.length (ks.flatMap kC)
theorem OwnK.nil (w : World) (B : Nat) : OwnK w B (.slice none 0 0) [] := ⟨rfl, .inl ⟨rfl, rfl⟩⟩
theorem OwnK.block {w w' : World} {B : Nat} {v : Value} {ks : List (List UInt8)} (h : OwnK w B v ks) (hb : ∀ g, B ≤ g → g < w.heap.size → w'.heap[g]? = w.heap[g]?) : OwnK w' B v ks := by
  obtain ⟨h0, h | ⟨g, cap, cur, rfl, hg, hh, hr⟩⟩ := h
  · exact ⟨h0, .inl h⟩
  · exact ⟨h0, .inr ⟨g, cap, cur, rfl, hg, by rw [hb g hg (lt_of_heap hh)]; exact hh, hr⟩⟩
theorem OwnK.below {w w' : World} {B : Nat} {v : Value} {ks : List (List UInt8)} (h : OwnK w B v ks) (hb : Below w.heap.size w w') : OwnK w' B v ks := h.block fun g _ hg => hb.block g hg
theorem OwnK.ge {w : World} {B : Nat} {v : Value} {ks : List (List UInt8)} (h : OwnK w B v ks) : ∀ k, v.ownBlock = some k → B ≤ k := fun k hk => by
  obtain ⟨_, h | ⟨g, cap, cur, rfl, hg, _⟩⟩ := h
  · obtain ⟨rfl, _⟩ := h; simp [Value.ownBlock] at hk
  · simp [Value.ownBlock] at hk; omega
theorem flatK_at {ks : List (List UInt8)} (hes : ∀ k ∈ ks, k.length = 32) {i : Nat} {k : List UInt8} (hi : ks[i]? = some k) {j : Nat} {v : Value} (hv : (kC k)[j]? = some v) : (ks.flatMap kC)[i * 32 + j]? = some v := by
  induction ks generalizing i with
  | nil => simp at hi
  | cons x r ih =>
    have hx : (kC x).length = 32 := by unfold kC; rw [List.length_map, hes x (by simp)]
    rw [List.flatMap_cons]
    cases i with
    | zero =>
      simp at hi
      subst hi
      rw [Nat.zero_mul, Nat.zero_add, List.getElem?_append_left (List.getElem?_eq_some_iff.1 hv).1]
      exact hv
    | succ i =>
      rw [List.getElem?_append_right (by rw [hx]; omega), hx, show (i + 1) * 32 + j - 32 = i * 32 + j by omega]
      exact ih (fun y hy => hes y (by simp [hy])) hi
/-- A row of keys, as a slice of keys. -/
theorem OwnK.ks {w : World} {B : Nat} {v : Value} {ks : List (List UInt8)} (h : OwnK w B v ks) (hes : ∀ k ∈ ks, k.length = 32) : ∃ A c, v = .slice A ks.length c ∧ KS w A ks := by
  obtain ⟨h0, ⟨rfl, h⟩ | ⟨g, cap, cur, rfl, hg, hh, hn, hc, hs, ht⟩⟩ := h
  · exact ⟨none, 0, by rw [h], fun i e hi => by
      have : ks = [] := List.length_eq_zero_iff.1 h
      subst this; simp at hi⟩
  · refine ⟨_, cap, rfl, fun i k hi => ⟨hes k (List.mem_of_getElem? hi), g, 0, rfl, fun j x hx => ?_⟩⟩
    have h1 := flatK_at hes hi (j := j) (v := x) hx
    have hlt := (List.getElem?_eq_some_iff.1 h1).1
    rw [h0] at hlt
    rw [Nat.zero_add, cell_of_cells hh, ← Array.getElem?_toList, ← h1, ← ht, List.getElem?_take, if_pos hlt]
theorem infoK3 : (Tryz.prog.info? 32).map (fun i => (i.zero, i.size, i.bytes)) = some (some (.agg (bA ((List.range 32).map fun _ => (0 : UInt8)))), 32, 32) := by kernel_rfl
/-- One key is appended. -/
theorem wpList_pushK {ops : Array Oper} {rest : List Oper} {o : Oper} {a : Act} {w : World} {Q : Exit → Act → World → Prop} (hgd : o.guard = none) (s x : Operand)
    (ho : o.op = .call { callee := .builtin .append, args := #[s, x], argTypes := #[30, 30] }) (B : Nat) (v : Value) (ks : List (List UInt8)) (hs : a.eval s = v) (hown : OwnK w B v ks) (g : Nat) (k : List UInt8) (hk : k.length = 32)
    (hx : a.eval x = .slice (some ⟨g, 0, none⟩) 1 1) (hr : w.rangeAt g 0 (kC k)) (hl : ks.length ≤ 1000000) (hB : B ≤ w.heap.size)
    (h : ∀ v' w', OwnK w' B v' (ks ++ [k]) → Below B w w' → wpList Tryz.prog ops Q rest (a.put o.dst v') w') : wpList Tryz.prog ops Q (o :: rest) a w := by
  obtain ⟨i0, hi, hz0, hz1, hz2⟩ := info_parts infoK3
  refine wpList_append_own (w := w) hgd s x 30 ho B 32 i0 _ 32 32 Tryz.underlying30 hi hz0 hz1 hz2 rfl (by decide) v ks.length (ks.flatMap kC) hs hown ⟨g, 0, none⟩ 1 1 (kC k) hx (by unfold kC; rw [List.length_map, hk])
    (fun j u hj => ?_) (fun u hu => ?_) (by unfold maxLen; omega) (by omega) hB fun v' w' h1 h2 _ => h v' w' ?_ ?_
  · have := hr j u hj
    rwa [show (⟨g, 0, none⟩ : Addr).add j = ⟨g, 0 + j, none⟩ from add_none g 0 j]
  · obtain ⟨y, _, rfl⟩ := List.mem_map.1 hu
    exact bv_one y
  · unfold OwnK
    rw [List.flatMap_append, List.length_append]
    simpa using h1
  · exact (Below.refl _ _).grown h2 hB hown.ge
set_option maxHeartbeats 4000000 in
set_option maxRecDepth 100000 in
theorem equal_yes (A B : Option Addr) (c d : Nat) (l : List (List UInt8)) (w : World) (hA : KS w A l) (hB : KS w B l) (hl : l.length ≤ 1000000) :
    Calls Tryz.prog 10 #[.slice A l.length c, .slice B l.length d] w fun e w' => e = .returned (.bool true) ∧ Below w.heap.size w w' := by
  have HA := Lib.hid hA
  have HB := Lib.hid hB
  have dn : ((l.length : Int) != (l.length : Int)) = false := by simp
  clear hA hB
  go_enter Tryz.func10, Tryz.ntmps10
  go_wp2_with fail
  go_loopg [5, 13] l.length (fun gg _ i wr => ∃ k : Nat, i = .int .i64 (k : Int) ∧ k ≤ l.length ∧ l.length - k = gg ∧ Below w.heap.size w wr)
  case atStart => exact ⟨0, rfl, by omega, by omega, Below.refl _ _⟩
  case round =>
    obtain ⟨k, rfl, hk, rfl, hb⟩ := hrel
    have HBW := Lib.hid hb
    clear hb
    by_cases hlt : k < l.length
    · have hd : decide (k < l.length) = true := decide_eq_true hlt
      obtain ⟨x, hx⟩ : ∃ x, l[k]? = some x := ⟨_, List.getElem?_eq_getElem hlt⟩
      obtain ⟨hxl, b1, o1, rfl, h1⟩ := HA.out k x hx
      obtain ⟨_, b2, o2, rfl, h2⟩ := HB.out k x hx
      have la : ∀ z : Later wr, ldA 32 z.w (.pointer (some ⟨b1, o1 + k * 32, none⟩)) = .ok (.value (.agg (bA x))) z.w := fun z => KS.ld (range_below (range_below h1 HBW.out) z.h) hxl
      have lb : ∀ z : Later wr, ldA 32 z.w (.pointer (some ⟨b2, o2 + k * 32, none⟩)) = .ok (.value (.agg (bA x))) z.w := fun z => KS.ld (range_below (range_below h2 HBW.out) z.h) hxl
      have nq : ∀ p q w, eqA .neq 32 p q w (.agg (bA x)) (.agg (bA x)) = .ok (.value (.bool false)) w := fun p q w => by rw [neKey x x hxl hxl, decide_eq_true rfl]; rfl
      have p0 : (0 : Int) ≤ (k : Int) := by omega
      have p1 : (k : Int) < (l.length : Int) := by omega
      clear hx h1 h2 hxl
      go_wp2_with fail
      refine wp_region_later (by kernel_rfl) (by kernel_rfl) ?_
      repeat (go_big_quiet_step (fail))
      refine wpQuiet_nil ?_
      rintro _ ⟨y, rfl⟩
      have HB2 := Lib.hid (HBW.out.trans (y.h.mono HBW.out.size))
      clear la lb nq
      go_wp2_with fail
      go_roundg (l.length - (k + 1))
      case measure => omega
      case rel => exact ⟨k + 1, by go_num, by omega, rfl, HB2.out⟩
    · obtain rfl : k = l.length := by omega
      have hd : decide (l.length < l.length) = false := decide_eq_false (by omega)
      go_wp2_with fail
      go_ret
      exact ⟨rfl, HBW.out⟩
end Go.Proofs.YtjhpnlnghaljaaaGreatDoor

/- What the program's Prune keeps; the closure of RemovePrunes; two rows that grow side by side. -/
namespace Go.Proofs.YtjhpnlnghaljaaaGreatDoor
open Go.RowKit

/-- What the program's Prune keeps: it calls the closure for each key in order; J is kept by it (R: what the closure may write), and by what writes the hasher's block alone. -/
structure PrV (M : World → Int → Tv → Prop) : Prop where
  prune : ∀ (w : World) (b : Nat) (n : Int) (c : Nat) (l : List Ent) (T : Tv) (s t : Nat) (p : List UInt8 → Bool) (J : List (List UInt8) → (Nat → Prop) → World → Prop) (R : Nat → Prop),
    Hs w b n c → c ≤ 500000 → IsMap l T → l.length ≤ 100 → J [] R w →
    (∀ pre R X Y, J pre R X → Keep (fun i => i = b) X Y → J pre R Y) →
    (∀ pre R X, J pre R X → M X n T ∧ Vars X ∧ ¬ R b ∧ ∀ i, R i → i < X.heap.size) →
    (∀ pre R X k, J pre R X → pre ++ [k] <+: (entsT T.tr).map Ent.k → Calls Tryz.prog 8 #[.agg (bA k), ptr s, ptr t] X fun e Y => ∃ R', e = .returned (.bool (p k)) ∧ J (pre ++ [k]) R' Y ∧ Keep R X Y ∧ ∀ i, R' i → R i ∨ X.heap.size ≤ i) →
    Calls Tryz.prog 7 #[ptr b, T.val, .func (.func 8) #[] #[ptr s, ptr t]] w fun x w' => ∃ (T' : Tv) (R' : Nat → Prop) (c' : Nat), x = .returned T'.val ∧ IsMap (l.filter fun e => p e.k) T' ∧ M w' n T' ∧ c' ≤ c + 100000 ∧ Hs w' b n c' ∧ J ((entsT T.tr).map Ent.k) R' w'
/-! ### Rows side by side -/
theorem OwnK.other {w w' : World} {B : Nat} {v : Value} {ks : List (List UInt8)} (h : OwnK w B v ks) (hb : ∀ g, v.ownBlock = some g → g < w.heap.size → w'.heap[g]? = w.heap[g]?) : OwnK w' B v ks := by
  obtain ⟨h0, h | ⟨g, cap, cur, rfl, hg, hh, hr⟩⟩ := h
  · exact ⟨h0, .inl h⟩
  · exact ⟨h0, .inr ⟨g, cap, cur, rfl, hg, by rw [hb g rfl (lt_of_heap hh)]; exact hh, hr⟩⟩
theorem OwnE.other {w w' : World} {B : Nat} {v : Value} {es : List En} (h : OwnE w B v es) (hb : ∀ g, v.ownBlock = some g → g < w.heap.size → w'.heap[g]? = w.heap[g]?) : OwnE w' B v es := by
  obtain ⟨h0, h | ⟨g, cap, cur, rfl, hg, hh, hr⟩⟩ := h
  · exact ⟨h0, .inl h⟩
  · exact ⟨h0, .inr ⟨g, cap, cur, rfl, hg, by rw [hb g rfl (lt_of_heap hh)]; exact hh, hr⟩⟩
theorem OwnK.lt {w : World} {B : Nat} {v : Value} {ks : List (List UInt8)} (h : OwnK w B v ks) : ∀ g, v.ownBlock = some g → B ≤ g ∧ g < w.heap.size := fun g hg => by
  obtain ⟨_, h | ⟨g', cap, cur, rfl, hg', hh, _⟩⟩ := h
  · obtain ⟨rfl, _⟩ := h; simp [Value.ownBlock] at hg
  · simp [Value.ownBlock] at hg; subst hg; exact ⟨hg', lt_of_heap hh⟩
theorem OwnE.lt {w : World} {B : Nat} {v : Value} {es : List En} (h : OwnE w B v es) : ∀ g, v.ownBlock = some g → B ≤ g ∧ g < w.heap.size := fun g hg => by
  obtain ⟨_, h | ⟨g', cap, cur, rfl, hg', hh, _⟩⟩ := h
  · obtain ⟨rfl, _⟩ := h; simp [Value.ownBlock] at hg
  · simp [Value.ownBlock] at hg; subst hg; exact ⟨hg', lt_of_heap hh⟩
theorem OwnK.form {w : World} {B : Nat} {v : Value} {ks : List (List UInt8)} (h : OwnK w B v ks) : ∃ A c, v = .slice A ks.length c := by
  obtain ⟨_, ⟨rfl, h⟩ | ⟨g, cap, cur, rfl, _⟩⟩ := h
  · exact ⟨none, 0, by rw [h]⟩
  · exact ⟨_, _, rfl⟩
theorem OwnE.addr {w : World} {B : Nat} {A : Option Addr} {n c : Nat} {es : List En} (h : OwnE w B (.slice A n c) es) : ∀ a, A = some a → B ≤ a.block := fun a ha => by
  obtain ⟨_, ⟨hv, _⟩ | ⟨g, cap, cur, hv, hg, _⟩⟩ := h
  · injection hv with h1; rw [h1] at ha; cases ha
  · injection hv with h1; rw [h1] at ha; cases ha; exact hg
theorem OwnK.addr {w : World} {B : Nat} {A : Option Addr} {n c : Nat} {ks : List (List UInt8)} (h : OwnK w B (.slice A n c) ks) : ∀ a, A = some a → B ≤ a.block := fun a ha => by
  obtain ⟨_, ⟨hv, _⟩ | ⟨g, cap, cur, hv, hg, _⟩⟩ := h
  · injection hv with h1; rw [h1] at ha; cases ha
  · injection hv with h1; rw [h1] at ha; cases ha; exact hg
/-- What an append to one row leaves. -/
structure GrownR (v v' : Value) (w w' : World) : Prop where
  by_ : w.grownBy w' v.ownBlock
  blk : v'.ownBlock = v.ownBlock ∨ v'.ownBlock = some w.heap.size
theorem wpList_pushKa {ops : Array Oper} {rest : List Oper} {o : Oper} {a : Act} {w : World} {Q : Exit → Act → World → Prop} (hgd : o.guard = none) (s x : Operand)
    (ho : o.op = .call { callee := .builtin .append, args := #[s, x], argTypes := #[30, 30] }) (B : Nat) (v : Value) (ks : List (List UInt8)) (hs : a.eval s = v) (hown : OwnK w B v ks) (g : Nat) (k : List UInt8) (hk : k.length = 32)
    (hx : a.eval x = .slice (some ⟨g, 0, none⟩) 1 1) (hr : w.rangeAt g 0 (kC k)) (hl : ks.length ≤ 1000000) (hB : B ≤ w.heap.size)
    (h : ∀ v' w', OwnK w' B v' (ks ++ [k]) → GrownR v v' w w' → wpList Tryz.prog ops Q rest (a.put o.dst v') w') : wpList Tryz.prog ops Q (o :: rest) a w := by
  obtain ⟨i0, hi, hz0, hz1, hz2⟩ := info_parts infoK3
  refine wpList_append_own_at (w := w) hgd s x 30 ho B 32 i0 _ 32 32 Tryz.underlying30 hi hz0 hz1 hz2 rfl (by decide) v ks.length (ks.flatMap kC) hs hown ⟨g, 0, none⟩ 1 1 (kC k) hx (by unfold kC; rw [List.length_map, hk])
    (fun j u hj => ?_) (fun u hu => ?_) (by unfold maxLen; omega) (by omega) hB fun v' w' h1 h2 _ h4 => h v' w' ?_ ⟨h2, h4⟩
  · have := hr j u hj
    rwa [show (⟨g, 0, none⟩ : Addr).add j = ⟨g, 0 + j, none⟩ from add_none g 0 j]
  · obtain ⟨y, _, rfl⟩ := List.mem_map.1 hu
    exact bv_one y
  · unfold OwnK
    rw [List.flatMap_append, List.length_append]
    simpa using h1
theorem wpList_pushEa {ops : Array Oper} {rest : List Oper} {o : Oper} {a : Act} {w : World} {Q : Exit → Act → World → Prop} (hgd : o.guard = none) (s x : Operand)
    (ho : o.op = .call { callee := .builtin .append, args := #[s, x], argTypes := #[22, 22] }) (B : Nat) (v : Value) (es : List En) (hs : a.eval s = v) (hown : OwnE w B v es) (g : Nat) (e : En) (hk : e.k.length = 32)
    (hx : a.eval x = .slice (some ⟨g, 0, none⟩) 1 1) (hr : w.rangeAt g 0 (enC e)) (hl : es.length ≤ 1000000) (hB : B ≤ w.heap.size)
    (h : ∀ v' w', OwnE w' B v' (es ++ [e]) → GrownR v v' w w' → wpList Tryz.prog ops Q rest (a.put o.dst v') w') : wpList Tryz.prog ops Q (o :: rest) a w := by
  obtain ⟨i0, hi, hz0, hz1, hz2⟩ := info_parts infoE3
  refine wpList_append_own_at (w := w) hgd s x 22 ho B 35 i0 _ 33 56 Tryz.underlying22 hi hz0 hz1 hz2 rfl (by decide) v es.length (es.flatMap enC) hs hown ⟨g, 0, none⟩ 1 1 (enC e) hx (by rw [enC_len hk])
    (fun j u hj => ?_) (fun u hu => enC_one e u hu) (by unfold maxLen; omega) (by omega) hB fun v' w' h1 h2 _ h4 => h v' w' ?_ ⟨h2, h4⟩
  · have := hr j u hj
    rwa [show (⟨g, 0, none⟩ : Addr).add j = ⟨g, 0 + j, none⟩ from add_none g 0 j]
  · unfold OwnE
    rw [List.flatMap_append, List.length_append]
    simpa using h1
theorem GrownR.keep {v v' : Value} {w w' : World} (h : GrownR v v' w w') : Keep (fun i => v.ownBlock = some i) w w' := ⟨h.by_.os, h.by_.tape, h.by_.output, h.by_.size, fun i hi hl => h.by_.block i hi fun e => hl e.symm⟩
/-! ### The closure -/
/-- What holds between two calls of the closure, since the world Z. -/
structure Pj (Z : World) (b s : Nat) (pre : List (List UInt8)) (R : Nat → Prop) (X : World) : Prop where
  bx : ∃ v, X.heap[s]? = some (.cells #[v] 30 (0, 0)) ∧ OwnK X Z.heap.size v pre ∧ ∀ i, R i ↔ (i = s ∨ v.ownBlock = some i)
  kx : Keep (fun i => i = b ∨ i = s) Z X
theorem Pj.keep {Z X Y : World} {b s : Nat} {pre : List (List UInt8)} {R : Nat → Prop} (h : Pj Z b s pre R X) (hk : Keep (fun i => i = b) X Y) (hbs : b ≠ s) (hbZ : b < Z.heap.size) : Pj Z b s pre R Y := by
  obtain ⟨v, h1, h2, h3⟩ := h.bx
  exact ⟨⟨v, hk.heap h1 (fun e => hbs (by have e2 : s = b := e; exact e2.symm)), h2.block fun g hg hl => hk.block g hl (by show g ≠ b; omega), h3⟩, h.kx.trans (hk.mono fun _ h => .inl h)⟩
theorem Pj.own {Z X : World} {b s : Nat} {pre : List (List UInt8)} {R : Nat → Prop} (h : Pj Z b s pre R X) (hbs : b ≠ s) (hbZ : b < Z.heap.size) : ¬ R b ∧ ∀ i, R i → i < X.heap.size := by
  obtain ⟨v, h1, h2, h3⟩ := h.bx
  refine ⟨fun hR => ?_, fun i hi => ?_⟩
  · rcases (h3 b).1 hR with e | e
    · exact hbs e
    · have := (h2.lt b e).1; omega
  · rcases (h3 i).1 hi with rfl | e
    · exact lt_of_heap h1
    · exact (h2.lt i e).2
theorem EA.other {w w' : World} {A : Option Addr} {es : List En} {L : Nat → Prop} (h : EA w A es) (hk : Keep L w w') (hL : ∀ a, A = some a → ¬ L a.block) (hok : ∀ e ∈ es, EnOk w' e) : EA w' A es := fun i e hi => by
  obtain ⟨_, g, o, rfl, h3⟩ := h i e hi
  exact ⟨hok e (List.mem_of_getElem? hi), g, o, rfl, fun j v hv => hk.cellAt (h3 j v hv) (hL ⟨g, o, none⟩ rfl)⟩
theorem KS.other {w w' : World} {A : Option Addr} {ks : List (List UInt8)} {L : Nat → Prop} (h : KS w A ks) (hk : Keep L w w') (hL : ∀ a, A = some a → ¬ L a.block) : KS w' A ks := fun i k hi => by
  obtain ⟨h1, g, o, rfl, h3⟩ := h i k hi
  exact ⟨h1, g, o, rfl, fun j v hv => hk.cellAt (h3 j v hv) (hL ⟨g, o, none⟩ rfl)⟩
/-- Behind the append: the box is there to be written, and what the write leaves. -/
theorem asks_end {U w' : World} {B s : Nat} {v v' : Value} {pre : List (List UInt8)} {k : List UInt8} (hs : U.heap[s]? = some (.cells #[v] 30 (0, 0))) (hO : OwnK U B v pre) (hO' : OwnK w' B v' (pre ++ [k])) (hG : GrownR v v' U w') (hsB : s < B) :
    w'.cell? ⟨s, 0, none⟩ = some v ∧ w'.frozen? ⟨s, 0, none⟩ = false ∧ Hid ((w'.setCell ⟨s, 0, none⟩ v').heap[s]? = some (.cells #[v'] 30 (0, 0)) ∧ OwnK (w'.setCell ⟨s, 0, none⟩ v') B v' (pre ++ [k]) ∧ Keep (fun i => i = s ∨ v.ownBlock = some i) U (w'.setCell ⟨s, 0, none⟩ v') ∧ (∀ i, v'.ownBlock = some i → v.ownBlock = some i ∨ U.heap.size ≤ i)) := by
  have h1 : w'.heap[s]? = some (.cells #[v] 30 (0, 0)) := hG.keep.heap hs fun e => by have := (hO.lt s e).1; omega
  have hc : Keep (fun i => i = s) w' (w'.setCell ⟨s, 0, none⟩ v') := Keep.cell w' ⟨s, 0, none⟩ v'
  refine ⟨by rw [cell_of_cells h1]; rfl, frozen_of_row w' _ _ _ _ h1, set_row h1, hO'.block fun g hg hl => hc.block g hl (by show g ≠ s; omega), (hG.keep.mono fun _ h => .inr h).trans (hc.mono fun _ h => .inl h), fun i hi => ?_⟩
  rcases hG.blk with e | e
  · rw [e] at hi; exact .inl hi
  · rw [e] at hi; cases hi; exact .inr (Nat.le_refl _)
set_option maxHeartbeats 8000000 in
set_option maxRecDepth 100000 in
theorem asks_c (Z : World) (b s t : Nat) (pre : List (List UInt8)) (R : Nat → Prop) (X : World) (k : List UInt8) (A : Option Addr) (c : Nat) (es : List En) (hj : Pj Z b s pre R X) (hk : k.length = 32) (ht : X.heap[t]? = some (.cells #[.slice A es.length c] 22 (0, 0))) (htZ : t < Z.heap.size) (hts : t ≠ s) (hbs : b ≠ s) (hsZ : s < Z.heap.size)
    (hA : EA X A es) (hAb : ∀ a, A = some a → a.block < Z.heap.size ∧ a.block ≠ s) (hok : ∀ Y, Keep (fun i => i = b ∨ i = s) Z Y → ∀ e ∈ es, EnOk Y e) (hn : es.length ≤ 100000) (hp : pre.length ≤ 1000) :
    Calls Tryz.prog 8 #[.agg (bA k), ptr s, ptr t] X fun e Y => ∃ R', e = .returned (.bool (hasK (es.map En.ent) k)) ∧ Pj Z b s (pre ++ [k]) R' Y ∧ Keep R X Y ∧ ∀ i, R' i → R i ∨ X.heap.size ≤ i := by
  obtain ⟨v, h1, h2, h3⟩ := hj.bx
  obtain ⟨V, hV⟩ : ∃ V, V = X.alloc (.cells (bA k) 32) := ⟨_, rfl⟩
  have hbV : Below X.heap.size X V := by rw [hV]; exact (Below.refl _ _).alloc (Nat.le_refl _) _
  have hrV : RowB V X.heap.size 32 k := by rw [hV]; exact RowB.alloc X k _
  obtain ⟨U, hU⟩ : ∃ U, U = V.alloc (.cells (bA k) 32) := ⟨_, rfl⟩
  have hbU : Below V.heap.size V U := by rw [hU]; exact (Below.refl _ _).alloc (Nat.le_refl _) _
  have hrU : U.rangeAt V.heap.size 0 (kC k) := by
    rw [hU]
    intro j z hz
    rw [Nat.zero_add, cell_of_cells (heap_alloc_new V _)]
    unfold bA
    rw [List.getElem?_toArray]
    exact hz
  have hXU : Below X.heap.size X U := hbV.trans (hbU.mono hbV.size)
  have lb : V.cell? ⟨s, 0, none⟩ = some v := by rw [cell_of_cells (show V.heap[s]? = _ by rw [hbV.block _ (lt_of_heap h1)]; exact h1)]; rfl
  have lk := hrV.ldKey hk
  have bs := bsK_one k hk
  have hsU : U.heap[s]? = some (.cells #[v] 30 (0, 0)) := by rw [hXU.block _ (lt_of_heap h1)]; exact h1
  have hXZ : Z.heap.size ≤ X.heap.size := hj.kx.size
  have HOU := Lib.hid (h2.below hXU)
  have HSU := Lib.hid hsU
  have HRU := Lib.hid hrU
  have HRV := Lib.hid hrV
  have HXU := Lib.hid hXU
  have HBU := Lib.hid hbU
  have HV := Lib.hid hV
  have HU := Lib.hid hU
  have HK := Lib.hid hk
  have HJX := Lib.hid hj.kx
  have H1 := Lib.hid h1
  have H2 := Lib.hid h2
  have H3 := Lib.hid h3
  have HT := Lib.hid ht
  have HA := Lib.hid hA
  have HAB := Lib.hid hAb
  have HOK := Lib.hid hok
  have HN := Lib.hid hn
  have HP := Lib.hid hp
  have HTZ := Lib.hid htZ
  have HTS := Lib.hid hts
  have HBS := Lib.hid hbs
  have HSZ := Lib.hid hsZ
  have HXZ := Lib.hid hXZ
  have HSS : Hid (U.heap.size = V.heap.size + 1 ∧ V.heap.size = X.heap.size + 1) := by rw [hU, hV]; exact ⟨by simp, by simp⟩
  rw [hV] at lb lk
  unfold ptr
  clear hV hU hbV hrV hbU hrU hXU hsU h1 h2 h3 hj hk ht hA hAb hok hn hp htZ hts hbs hsZ hXZ
  go_enter Tryz.func8, Tryz.ntmps8
  have HLT : Hid (∀ Y, Keep (fun i => i = s ∨ v.ownBlock = some i) U Y → Y.cell? ⟨t, 0, none⟩ = some (.slice A es.length c) ∧ ldA 32 Y (.pointer (some ⟨X.heap.size, 0, none⟩)) = .ok (.value (.agg (bA k))) Y ∧ EA Y A es ∧ Keep (fun i => i = b ∨ i = s) Z Y ∧ Keep R X Y) := fun Y hY => by
    have hlt := fun i h => (H2.out.lt i h)
    have hZX := HXZ.out
    have hXY : Keep (fun i => i = s ∨ v.ownBlock = some i) X Y := (Keep.of_below HXU.out).trans hY
    have hkZ : Keep (fun i => i = b ∨ i = s) Z Y := HJX.out.step hXY fun i hi => by
      rcases hi with e | e
      · exact .inl (.inr e)
      · exact .inr (hlt i e).1
    have h1 : Y.heap[t]? = some (.cells #[.slice A es.length c] 22 (0, 0)) := hXY.heap HT.out fun h => by
      rcases h with e | e
      · exact HTS.out e
      · have := (hlt t e).1; have := HTZ.out; omega
    have h2 : RowB Y X.heap.size 32 k := hY.heap (HRV.out.below HBU.out) fun h => by
      rcases h with e | e
      · have := lt_of_heap H1.out; omega
      · have := (hlt _ e).2; omega
    refine ⟨by rw [cell_of_cells h1]; rfl, h2.ldKey HK.out, HA.out.other hXY (fun a ha h => ?_) (HOK.out Y hkZ), hkZ, hXY.mono fun i hi => (H3.out i).2 hi⟩
    obtain ⟨h3, h4⟩ := HAB.out a ha
    rcases h with e | e
    · exact h4 e
    · have := (hlt _ e).1; omega
  go_wp2_with (at_builtin; rw [← HV.out, show X.heap.size + 1 = V.heap.size from HSS.out.2.symm, ← HU.out]; refine wpList_pushKa rfl _ _ rfl Z.heap.size v pre rfl HOU.out V.heap.size k HK.out rfl HRU.out (by have := HP.out; omega) (Nat.le_trans HXZ.out HXU.out.size) ?_; intro v' w' hO hG; obtain ⟨hcell, hfroz, HFIN⟩ := asks_end HSU.out HOU.out hO hG HSZ.out; obtain ⟨A', c', rfl⟩ := hO.form; obtain ⟨N, hN⟩ : ∃ N, N = (pre ++ [k]).length := ⟨_, rfl⟩; rw [← hN] at HFIN ⊢; have HNN := Lib.hid hN; obtain ⟨lt, lk2, hE, hkZ, hkR⟩ := HLT.out _ HFIN.out.2.2.1; have HE := Lib.hid hE; have HKZ := Lib.hid hkZ; have HKR := Lib.hid hkR; clear hO hG hN hE hkZ hkR)
  clear hcell hfroz lb bs lt lk2 lk
  obtain ⟨Y, hY⟩ : ∃ Y, Y = w'.setCell ⟨s, 0, none⟩ (.slice A' N c') := ⟨_, rfl⟩
  rw [← hY] at HFIN HE HKZ HKR ⊢
  clear hY
  have HG := Lib.hid (get7_c A c es k Y HE.out HN.out HK.out)
  rw [has_get] at HG
  obtain ⟨gv, hgv⟩ : ∃ gv, gv = getVal (getE es k) := ⟨_, rfl⟩
  obtain ⟨q, hq⟩ : ∃ q, q = hasK (es.map En.ent) k := ⟨_, rfl⟩
  rw [← hgv, ← hq] at HG
  have HQ := Lib.hid hq
  clear hgv hq
  refine HG.out.mono ?_
  rintro _ Y2 ⟨rfl, hB⟩
  have HB2 := Lib.hid hB
  clear hB HG
  go_wp2_with fail
  go_ret
  obtain ⟨f1, f2, _, f4⟩ := HFIN.out
  refine ⟨fun i => i = s ∨ (Value.slice A' N c').ownBlock = some i, by rw [← HQ.out]; rfl, ⟨⟨_, by rw [HB2.out.block _ (lt_of_heap f1)]; exact f1, f2.below HB2.out, fun i => Iff.rfl⟩, HKZ.out.trans (Keep.of_below HB2.out)⟩, HKR.out.trans (Keep.of_below HB2.out), fun i hi => ?_⟩
  rcases hi with e | e
  · exact .inl ((H3.out i).2 (.inl e))
  · rcases f4 i e with h | h
    · exact .inl ((H3.out i).2 (.inr h))
    · exact .inr (Nat.le_trans HXU.out.size h)
end Go.Proofs.YtjhpnlnghaljaaaGreatDoor

/- The walk of RemovePrunes over contracts. -/
namespace Go.Proofs.YtjhpnlnghaljaaaGreatDoor
open Go.RowKit

def sel (q : Nat → Bool) : List En → Nat → List En
  | [], _ => []
  | e :: r, i => if q i then e :: sel q r (i + 1) else sel q r (i + 1)
theorem sel_snoc (q : Nat → Bool) (e : En) : ∀ (l : List En) (i : Nat), sel q (l ++ [e]) i = sel q l i ++ (if q (i + l.length) then [e] else [])
  | [], i => by show (if q i then e :: [] else []) = _; simp [sel]
  | x :: r, i => by
    have ih := sel_snoc q e r (i + 1)
    rw [show i + 1 + r.length = i + (x :: r).length by simp; omega] at ih
    show (if q i then x :: sel q (r ++ [e]) (i + 1) else sel q (r ++ [e]) (i + 1)) = (if q i then x :: sel q r (i + 1) else sel q r (i + 1)) ++ _
    split
    · rw [ih, List.cons_append]
    · exact ih
theorem sel_sub (q : Nat → Bool) : ∀ (l : List En) (i : Nat), (sel q l i).Sublist l
  | [], _ => List.Sublist.slnil
  | x :: r, i => by
    show (if q i then x :: sel q r (i + 1) else sel q r (i + 1)).Sublist _
    split
    · exact (sel_sub q r (i + 1)).cons_cons x
    · exact (sel_sub q r (i + 1)).cons x
theorem sub_filter : ∀ {S L : List Ent}, S.Sublist L → L.Pairwise (fun a b => a.k ≠ b.k) → L.filter (fun e => hasK S e.k) = S := by
  intro S L h
  induction h with
  | slnil => intro _; rfl
  | cons x h ih =>
    rename_i S' L'
    intro hp
    obtain ⟨h1, h2⟩ := List.pairwise_cons.1 hp
    have hno : hasK S' x.k = false := List.any_eq_false.2 fun e he => by
      have := h1 e (h.subset he)
      simp [Ne.symm this]
    rw [List.filter_cons, if_neg (by rw [hno]; simp)]
    exact ih h2
  | cons_cons x h ih =>
    rename_i S' L'
    intro hp
    obtain ⟨h1, h2⟩ := List.pairwise_cons.1 hp
    have hyes : hasK (x :: S') x.k = true := by simp [hasK]
    rw [List.filter_cons, if_pos hyes]
    have hsame : L'.filter (fun e => hasK (x :: S') e.k) = L'.filter (fun e => hasK S' e.k) := List.filter_congr fun e he => by
      have h3 : x.k ≠ e.k := h1 e he
      show (decide (x.k = e.k) || hasK S' e.k) = hasK S' e.k
      rw [decide_eq_false h3, Bool.false_or]
    rw [hsame, ih h2]
theorem filter_sep {d : Int} {l : List Ent} (h : Sep d l) (p : Ent → Bool) : Sep d (l.filter p) := ⟨fun a ha => h.len a (List.mem_filter.1 ha).1, h.ne.filter _, fun a ha b hb => h.eq a (List.mem_filter.1 ha).1 b (List.mem_filter.1 hb).1⟩
/-- The two rows that the law builds, with their boxes. -/
structure Pr (w3 : World) (B : Nat) (va vw : Value) (ks : List (List UInt8)) (es : List En) (w : World) : Prop where
  ak : OwnK w B va ks
  tx : w.heap[w3.heap.size + 1]? = some (.cells #[vw] 22 (0, 0))
  ew : OwnE w B vw es
  dj : ∀ g, va.ownBlock = some g → vw.ownBlock ≠ some g
  sx : w.heap[w3.heap.size]? = some (.cells #[.slice none 0 0] 30 (0, 0))
  bl : Below w3.heap.size w3 w
  sz : B ≤ w.heap.size
theorem Pr.below {w3 w w' : World} {B : Nat} {va vw : Value} {ks : List (List UInt8)} {es : List En} (h : Pr w3 B va vw ks es w) (hb : Below w.heap.size w w') : Pr w3 B va vw ks es w' :=
  ⟨h.ak.below hb, by rw [hb.block _ (lt_of_heap h.tx)]; exact h.tx, h.ew.below hb, h.dj, by rw [hb.block _ (lt_of_heap h.sx)]; exact h.sx, h.bl.trans (hb.mono h.bl.size), Nat.le_trans h.sz hb.size⟩
theorem Pr.key {w3 w w' : World} {B : Nat} {va va' vw : Value} {ks : List (List UInt8)} {k : List UInt8} {es : List En} (h : Pr w3 B va vw ks es w) (hB : w3.heap.size + 2 ≤ B) (hO : OwnK w' B va' (ks ++ [k])) (hG : GrownR va va' w w') : Pr w3 B va' vw (ks ++ [k]) es w' := by
  have hv := fun g hg => h.ak.lt g hg
  refine ⟨hO, hG.keep.heap h.tx fun e => by have := (hv _ e).1; omega, h.ew.other fun g hg hl => hG.by_.block g hl fun e => h.dj g e.symm hg, fun g hg hw => ?_, hG.keep.heap h.sx fun e => by have := (hv _ e).1; omega, h.bl.trans (hG.keep.below h.bl.size fun i hi => by have := (hv i hi).1; omega), Nat.le_trans h.sz hG.by_.size⟩
  rcases hG.blk with e | e
  · exact h.dj g (e ▸ hg) hw
  · rw [e] at hg
    cases hg
    exact absurd (h.ew.lt _ hw).2 (Nat.lt_irrefl _)
theorem Pr.ent {w3 w w' : World} {B : Nat} {va vw vw' : Value} {ks : List (List UInt8)} {e : En} {es : List En} (h : Pr w3 B va vw ks es w) (hB : w3.heap.size + 2 ≤ B) (hO : OwnE w' B vw' (es ++ [e])) (hG : GrownR vw vw' w w') :
    w'.cell? ⟨w3.heap.size + 1, 0, none⟩ = some vw ∧ w'.frozen? ⟨w3.heap.size + 1, 0, none⟩ = false ∧ Hid (Pr w3 B va vw' ks (es ++ [e]) (w'.setCell ⟨w3.heap.size + 1, 0, none⟩ vw')) := by
  have hv := fun g hg => h.ew.lt g hg
  have ht : w'.heap[w3.heap.size + 1]? = some (.cells #[vw] 22 (0, 0)) := hG.keep.heap h.tx fun e => by have := (hv _ e).1; omega
  have hs : w'.heap[w3.heap.size]? = some (.cells #[.slice none 0 0] 30 (0, 0)) := hG.keep.heap h.sx fun e => by have := (hv _ e).1; omega
  have hc : Keep (fun i => i = w3.heap.size + 1) w' (w'.setCell ⟨w3.heap.size + 1, 0, none⟩ vw') := Keep.cell w' ⟨w3.heap.size + 1, 0, none⟩ vw'
  have hb : Below w3.heap.size w3 w' := h.bl.trans (hG.keep.below h.bl.size fun i hi => by have := (hv i hi).1; omega)
  have hk : OwnK w' B va ks := h.ak.other fun g hg hl => hG.by_.block g hl fun e => h.dj g hg e.symm
  refine ⟨by rw [cell_of_cells ht]; rfl, frozen_of_row w' _ _ _ _ ht, hk.block fun g hg hl => hc.block g hl (by show g ≠ _; omega), set_row ht, hO.other fun g hg hl => hc.block g hl (by have := (hO.lt g hg).1; show g ≠ _; omega), fun g hg hw => ?_, set_keep hs (by omega), hb.setCell (by show w3.heap.size ≤ w3.heap.size + 1; omega) _, ?_⟩
  · rcases hG.blk with e | e
    · exact h.dj g hg (e ▸ hw)
    · rw [e] at hw
      cases hw
      exact absurd (h.ak.lt _ hg).2 (Nat.lt_irrefl _)
  · have := hc.size
    have := hG.by_.size
    have := h.sz
    omega
theorem OwnE.form {w : World} {B : Nat} {v : Value} {es : List En} (h : OwnE w B v es) : ∃ A c, v = .slice A es.length c := by
  obtain ⟨A, c, h, _⟩ := h.len
  exact ⟨A, c, h⟩

theorem OwnE.blk {w : World} {B : Nat} {A : Option Addr} {n c : Nat} {es : List En} (h : OwnE w B (.slice A n c) es) : ∀ a, A = some a → B ≤ a.block ∧ a.block < w.heap.size := fun a ha => by
  obtain ⟨_, ⟨hv, _⟩ | ⟨g, cap, cur, hv, hg, hh, _⟩⟩ := h
  · injection hv with h1; rw [h1] at ha; cases ha
  · injection hv with h1; rw [h1] at ha; cases ha; exact ⟨hg, lt_of_heap hh⟩
/-- What touches one block and what is new: first the one, then the other. -/
theorem keep_split {w X : World} {b : Nat} (hb : b < w.heap.size) (h : Keep (fun i => i = b ∨ w.heap.size ≤ i) w X) : ∃ Y, Keep (fun i => i = b) w Y ∧ Below Y.heap.size Y X := by
  have hx : b < X.heap.size := Nat.lt_of_lt_of_le hb h.size
  refine ⟨{ w with heap := w.heap.setIfInBounds b X.heap[b] }, ⟨rfl, rfl, rfl, by simp, fun i hi hl => ?_⟩, ⟨h.os, h.tape, h.output, by simpa using h.size, fun i hi => ?_⟩⟩
  · show (w.heap.setIfInBounds b _)[i]? = _
    rw [Array.getElem?_setIfInBounds_ne (fun e => hl e.symm)]
  · have hi' : i < w.heap.size := by simpa using hi
    show X.heap[i]? = (w.heap.setIfInBounds b _)[i]?
    by_cases e : b = i
    · subst e
      rw [Array.getElem?_setIfInBounds_self_of_lt hb]
      exact Array.getElem?_eq_getElem hx
    · rw [Array.getElem?_setIfInBounds_ne e]
      exact h.block i hi' fun h => by
        rcases h with h | h
        · exact e h.symm
        · omega
theorem Tf.wide {M : World → Int → Tv → Prop} (nd : NdV M) {W w w' : World} {n : Int} {A : Option Addr} {m : List En} {T : Tv} {b c : Nat} (h : Tf M W n A m T b c w) (hk : Keep (fun i => i = b ∨ w.heap.size ≤ i) w w') : Fs M W n A m T w' := by
  obtain ⟨c', _, hh⟩ := h.hs
  obtain ⟨Y, h1, h2⟩ := keep_split (lt_of_heap hh) hk
  exact (h.fs.hs nd hh h.new h1).below nd h2
/-- The call of Prune with the law's closure. -/
theorem prune_pr {M : World → Int → Tv → Prop} (nd : NdV M) (pr : PrV M) {X w3 wr : World} {n : Int} {A2 : Option Addr} {O es : List En} {T : Tv} {b B : Nat} {va : Value} {A : Option Addr} {c : Nat} (hQ : Tf M X n A2 O T b 0 w3) (hI : IsMap (O.map En.ent) T) (ha : Asc (O.map En.ent)) (hl : O.length ≤ 12) (hsub : es.Sublist O)
    (hR : Pr w3 B va (.slice A es.length c) (O.map En.k) es wr) (hB : w3.heap.size + 2 ≤ B) :
    Calls Tryz.prog 7 #[ptr b, T.val, .func (.func 8) #[] #[ptr w3.heap.size, ptr (w3.heap.size + 1)]] wr fun x w' => ∃ (T' : Tv) (As : Option Addr) (cs : Nat) (Al : Option Addr) (cl : Nat), x = .returned T'.val ∧ IsMap (es.map En.ent) T' ∧ M w' n T' ∧ Tf M X n A2 O T b 100000 w' ∧
      w'.heap[w3.heap.size]? = some (.cells #[.slice As O.length cs] 30 (0, 0)) ∧ w'.heap[w3.heap.size + 1]? = some (.cells #[.slice A es.length c] 22 (0, 0)) ∧ KS w' As (O.map En.k) ∧ EA w' A es ∧ va = .slice Al O.length cl ∧ KS w' Al (O.map En.k) := by
  obtain ⟨c0, hc0, hh⟩ := hQ.hs
  have hbl : b < w3.heap.size := lt_of_heap hh
  have hsz : w3.heap.size + 1 < wr.heap.size := lt_of_heap hR.tx
  have hbs : b ≠ w3.heap.size := by omega
  have hhr : Hs wr b n c0 := hh.keep (Keep.of_below (L := fun _ => False) hR.bl) fun h => h
  have hw : ∀ Y, Keep (fun i => i = b ∨ i = w3.heap.size) wr Y → Fs M X n A2 O T Y := fun Y hY => hQ.wide nd ((Keep.of_below hR.bl).trans (hY.mono fun i hi => by
    rcases hi with e | e
    · exact .inl e
    · exact .inr (by omega)))
  have hok : ∀ Y, Keep (fun i => i = b ∨ i = w3.heap.size) wr Y → ∀ e ∈ es, EnOk Y e := fun Y hY e he => by
    obtain ⟨i, hi⟩ := List.getElem?_of_mem (hsub.subset he)
    exact ((hw Y hY).ea i e hi).1
  have hkO : ∀ k ∈ O.map En.k, k.length = 32 := fun k hk => by
    obtain ⟨e, he, rfl⟩ := List.mem_map.1 hk
    obtain ⟨i, hi⟩ := List.getElem?_of_mem he
    exact (hQ.fs.ea i e hi).1.key
  have hEA : EA wr A es := by
    obtain ⟨A', c', hv, _, h⟩ := hR.ew.ea (hok wr (Keep.refl _ _))
    injection hv with h1
    rw [h1]
    exact h
  have hAb : ∀ a, A = some a → a.block < wr.heap.size ∧ a.block ≠ w3.heap.size := fun a ha => by
    have := hR.ew.blk a ha
    omega
  have hea : ∀ Y, Keep (fun i => i = b ∨ i = w3.heap.size) wr Y → EA Y A es := fun Y hY => hEA.other hY (fun a ha h => by
    have h1 := hR.ew.blk a ha
    rcases h with e | e <;> omega) (hok Y hY)
  have htx : ∀ Y, Keep (fun i => i = b ∨ i = w3.heap.size) wr Y → Y.heap[w3.heap.size + 1]? = some (.cells #[.slice A es.length c] 22 (0, 0)) := fun Y hY => hY.heap hR.tx fun h => by
    rcases h with e | e <;> omega
  have hme : (entsT T.tr).map Ent.k = O.map En.k := by rw [hI.ents ha, List.map_map]; rfl
  refine (pr.prune wr b n c0 (O.map En.ent) T w3.heap.size (w3.heap.size + 1) (hasK (es.map En.ent)) (Pj wr b w3.heap.size) (fun i => i = w3.heap.size) hhr (by omega) hI (by rw [List.length_map]; omega) ⟨⟨.slice none 0 0, hR.sx, OwnK.nil _ _, fun i => ⟨.inl, fun h => h.elim id fun e => by simp [Value.ownBlock] at e⟩⟩, Keep.refl _ _⟩ ?_ ?_ ?_).mono ?_
  · exact fun pre R X' Y' hj hk => hj.keep hk hbs (by omega)
  · exact fun pre R X' hj => ⟨(hw _ hj.kx).ms, (hw _ hj.kx).vars, hj.own hbs (by omega)⟩
  · intro pre R X' k hj hp
    rw [hme] at hp
    have hk : k.length = 32 := hkO k (hp.subset (by simp))
    have hpl : pre.length ≤ 1000 := by
      have := hp.length_le
      simp at this
      omega
    exact asks_c wr b w3.heap.size (w3.heap.size + 1) pre R X' k A c es hj hk (htx X' hj.kx) hsz (by omega) hbs (by omega) (hea X' hj.kx) hAb hok (by have := hsub.length_le; omega) hpl
  · rintro _ w' ⟨T', R', c', rfl, hI', hM', hc', hh', hj⟩
    obtain ⟨v, h1, h2, _⟩ := hj.bx
    rw [hme] at h2
    obtain ⟨As, cs, rfl, hks⟩ := h2.ks hkO
    have hak : OwnK w' B va (O.map En.k) := hR.ak.other fun g hg hlt => hj.kx.block g hlt fun h => by
      have := (hR.ak.lt g hg).1
      rcases h with e | e <;> omega
    obtain ⟨Al, cl, rfl, hal⟩ := hak.ks hkO
    rw [List.length_map] at h1
    rw [sub_filter (hsub.map En.ent) hI.sep.ne] at hI'
    exact ⟨T', As, cs, Al, cl, rfl, hI', hM', ⟨hw w' hj.kx, ⟨c', by omega, hh'⟩, hQ.new⟩, h1, htx w' hj.kx, hks, hea w' hj.kx, by rw [List.length_map], hal⟩
set_option maxHeartbeats 16000000 in
set_option maxRecDepth 100000 in
theorem prunes_in {M : World → Int → Tv → Prop} (nd : NdV M) (fv : FnV M) (pv : PtV M) (rm : RmV M) (pr : PrV M) (n : Int) (A : Option Addr) (c : Nat) (es : List En) (mu : Int) (hm0 : 0 ≤ mu) (hm1 : mu < 65536) (W : World) (hA : EA W A es) (hl : es.length ≤ 12) (hvl : ∀ e ∈ es, e.v.length ≤ 1000) (hf : fewK (es.map En.ent) = true) (hvx : Vars W) (h0 : 0 ≤ n) (h1 : n ≤ 256) :
    Calls Tryz.prog 3 #[.int .i64 n, .slice A es.length c, .int .u16 mu] W (Aye W) := by
  obtain ⟨X, hX⟩ : ∃ X, X = W := ⟨_, rfl⟩
  have hb0 : Below W.heap.size W X := by rw [hX]; exact Below.refl _ _
  have HX := Lib.hid hX
  have HB0 := Lib.hid hb0
  have HT := Lib.hid (tree_in nd n A c es X (hA.below hb0) hl hvl hf (hvx.below hb0) h0 h1)
  have HVE : Hid (∀ e ∈ ofE es, e.v.length ≤ 1000) := fun e he => hvl e (ofE_mem he)
  have HLE : Hid ((ofE es).length ≤ 12) := Nat.le_trans (ofE_len es) hl
  have HAS : Hid (Asc ((ofE es).map En.ent)) := by
    show _
    rw [ofE_ent]
    exact ofK_asc fun x hx => by
      obtain ⟨e, he, rfl⟩ := List.mem_map.1 hx
      obtain ⟨i, hi⟩ := List.getElem?_of_mem he
      exact (hA i e hi).1.key
  clear hA hvl hf hvx hX hb0
  go_enter Tryz.func3, Tryz.ntmps3
  go_wp2_with fail
  rw [← HX.out]
  clear HX
  refine HT.out.mono ?_
  rintro _ w2 ⟨A2, c2, T, rfl, hc2, hI, hF⟩
  have HI := Lib.hid hI
  have HF2 := Lib.hid hF
  obtain ⟨O, hO⟩ : ∃ O, O = ofE es := ⟨_, rfl⟩
  rw [← hO] at HI HF2 HVE HLE HAS ⊢
  obtain ⟨pT, hpT⟩ := val_ptr nd hF.ms
  have HPT := Lib.hid hpT
  rw [hpT]
  have HH := Lib.hid (hash_in n w2 h0 h1)
  clear hc2 hI hF HT hO hpT
  go_wp2_with fail
  refine HH.out.mono ?_
  rintro _ w3 ⟨b, rfl, hbn, hH, hB⟩
  have HQ3 : Hid (Tf M X n A2 O T b 0 w3) := ⟨HF2.out.below nd hB, ⟨0, Nat.le_refl _, hH⟩, Nat.le_trans HF2.out.bel.size hbn⟩
  clear hH hbn hB HH HF2
  unfold ptr
  have HMU : Hid (0 ≤ mu ∧ mu < 65536) := ⟨hm0, hm1⟩
  obtain ⟨Y, hY⟩ : ∃ Y, Y = (w3.alloc (.cells #[.slice none 0 0] 30)).alloc (.cells #[.slice none 0 0] 22) := ⟨_, rfl⟩
  have hbY : Below w3.heap.size w3 Y := by rw [hY]; exact ((Below.refl _ _).alloc (Nat.le_refl _) _).alloc (by simp) _
  have hs0 : Y.heap[w3.heap.size]? = some (.cells #[.slice none 0 0] 30 (0, 0)) := by rw [hY]; exact heap_alloc2_old w3 _ _
  have ht0 : Y.heap[w3.heap.size + 1]? = some (.cells #[.slice none 0 0] 22 (0, 0)) := by rw [hY]; exact heap_alloc2_new w3 _ _
  have hsz : Y.heap.size = w3.heap.size + 1 + 1 := by rw [hY]; simp
  have HY := Lib.hid hY
  have HBY := Lib.hid hbY
  have HS0 := Lib.hid hs0
  have HT0 := Lib.hid ht0
  have HSZ := Lib.hid hsz
  have oL := HLE.out
  clear hY hbY hs0 ht0 hsz
  go_wp2_with fail
  rw [← HY.out]
  clear HY
  obtain ⟨kb, hkb⟩ : ∃ kb : Nat → Bool, kb = fun i => (bits BinOp.and IntKind.u16 (mu / 2 ^ (i % 16)) 1 == 1) := ⟨_, rfl⟩
  have HKB := Lib.hid hkb
  have HB2 : Hid (w3.heap.size + 2 ≤ Y.heap.size) := Nat.le_of_eq HSZ.out.symm
  clear hkb
  go_loopg [12, 31] O.length (fun gg va i wr => ∃ (k : Nat) (vw v0 : Value), v0 = va ∧ i = .int .i64 (k : Int) ∧ k ≤ O.length ∧ O.length - k = gg ∧ Hid (Pr w3 Y.heap.size v0 vw ((O.take k).map En.k) (sel kb (O.take k) 0) wr))
  case atStart => exact ⟨0, _, _, rfl, rfl, by omega, by omega, OwnK.nil _ _, HT0.out, OwnE.nil _ _, fun g h => by simp [Value.ownBlock] at h, HS0.out, HBY.out, Nat.le_refl _⟩
  case round =>
    obtain ⟨k, vw, va, rfl, rfl, hk, rfl, HR⟩ := hrel
    by_cases hlt : k < O.length
    · have hd : decide (k < O.length) = true := decide_eq_true hlt
      obtain ⟨e, he⟩ : ∃ e, O[k]? = some e := ⟨_, List.getElem?_eq_getElem hlt⟩
      obtain ⟨hok, g, o, rfl, hr⟩ := (HQ3.out.fs.ea.below HR.out.bl) k e he
      have le := range_ent hr hok.key
      have st := stE_new (w := wr) (e := e) (z := ⟨z26, none, [], 0⟩) hok.key rfl
      obtain ⟨V, hV⟩ : ∃ V, V = wr.alloc (.cells (enC e).toArray 35) := ⟨_, rfl⟩
      have hbV : Below wr.heap.size wr V := by rw [hV]; exact (Below.refl _ _).alloc (Nat.le_refl _) _
      have hr0 : V.rangeAt wr.heap.size 0 (enC e) := by rw [hV]; exact ent_made wr e _
      obtain ⟨U, hU⟩ : ∃ U, U = V.alloc (.cells (bA e.k) 32) := ⟨_, rfl⟩
      have hbU : Below V.heap.size V U := by rw [hU]; exact (Below.refl _ _).alloc (Nat.le_refl _) _
      have hrU : U.rangeAt V.heap.size 0 (kC e.k) := by
        rw [hU]
        intro j z hz
        rw [Nat.zero_add, cell_of_cells (heap_alloc_new V _)]
        unfold bA
        rw [List.getElem?_toArray]
        exact hz
      have lk := range_key hr0 hok.key
      have bs := bsK_one e.k hok.key
      have be := bsE_one e hok.key
      have hWU : Below wr.heap.size wr U := hbV.trans (hbU.mono hbV.size)
      have HKL := Lib.hid hok.key
      have HRU := Lib.hid hrU
      have HRE := Lib.hid (range_below hr0 hbU)
      have HPU := Lib.hid (HR.out.below hWU)
      have HSS : Hid (V.heap.size = wr.heap.size + 1 ∧ wr.heap.size < U.heap.size) := by
        show _ ∧ _
        rw [hU, hV]
        exact ⟨by simp, by simp; omega⟩
      have HV := Lib.hid hV
      have HU := Lib.hid hU
      have HKK : Hid (((O.take k).map En.k).length ≤ 12 ∧ (sel kb (O.take k) 0).length ≤ 12) := by
        have h1 : (O.take k).length ≤ 12 := by rw [List.length_take]; have := HLE.out; omega
        exact ⟨by rw [List.length_map]; exact h1, Nat.le_trans (sel_sub kb _ 0).length_le h1⟩
      have HTK : Hid ((O.take (k + 1)).map En.k = (O.take k).map En.k ++ [e.k] ∧ sel kb (O.take (k + 1)) 0 = sel kb (O.take k) 0 ++ (if kb k then [e] else [])) := by
        have h2 : (O.take k).length = k := by rw [List.length_take]; omega
        rw [take_some he]
        refine ⟨by simp, ?_⟩
        rw [sel_snoc, h2, Nat.zero_add]
      have p0 : (0 : Int) ≤ (k : Int) := by omega
      have p1 : (k : Int) < (O.length : Int) := by omega
      rw [hV] at lk
      have m0 := HMU.out.1
      have m1 := HMU.out.2
      have HLD : Hid (∀ v' w', GrownR va v' U w' → w'.rangeAt wr.heap.size 0 (enC e)) := fun v' w' hG j z hz => hG.keep.cellAt (HRE.out j z hz) fun h => by
        have h1 := (HR.out.ak.lt _ h).2
        exact Nat.lt_irrefl _ h1
      clear he hok hr hbV hr0 hbU hrU hWU hV hU
      cases hq : kb k with
      | true =>
        have fq : (bits BinOp.and IntKind.u16 (mu / 2 ^ (k % 16)) 1 == 1) = true := by rw [HKB.out] at hq; exact hq
        have HSEL : Hid (sel kb (O.take (k + 1)) 0 = sel kb (O.take k) 0 ++ [e]) := by show _ = _; rw [HTK.out.2, hq]; rfl
        clear hq
        go_wp2_with (first
          | (at_builtin; rw [← HV.out, show wr.heap.size + 1 = V.heap.size from HSS.out.1.symm, ← HU.out]; refine wpList_pushKa rfl _ _ rfl Y.heap.size va ((O.take k).map En.k) rfl HPU.out.ak V.heap.size e.k HKL.out rfl HRU.out (by have := HKK.out.1; omega) HPU.out.sz ?_; intro va' w' hO hG; have HP2 := Lib.hid (HPU.out.key HB2.out hO hG); have lt : w'.cell? ⟨w3.heap.size + 1, 0, none⟩ = some vw := (by rw [cell_of_cells HP2.out.tx]; rfl); have le2 := range_ent (HLD.out _ _ hG) HKL.out; clear hO hG)
          | (at_builtin; refine wpList_pushEa rfl _ _ rfl Y.heap.size vw (sel kb (O.take k) 0) rfl (HP2.out.below ((Below.refl _ _).alloc (Nat.le_refl _) _)).ew _ e HKL.out rfl (ent_made _ e _) (by have := HKK.out.2; omega) (HP2.out.below ((Below.refl _ _).alloc (Nat.le_refl _) _)).sz ?_; intro vw' w2 hO hG; obtain ⟨hcell, hfroz, HFIN⟩ := (HP2.out.below ((Below.refl _ _).alloc (Nat.le_refl _) _)).ent HB2.out hO hG; obtain ⟨A', c', rfl⟩ := hO.form; obtain ⟨N, hN⟩ : ∃ N, N = (sel kb (O.take k) 0 ++ [e]).length := ⟨_, rfl⟩; rw [← hN] at HFIN hO ⊢; clear hO hG hN))
        go_roundg (O.length - (k + 1))
        case measure => omega
        case rel => exact ⟨k + 1, _, va', rfl, by go_num, by omega, rfl, by show Pr _ _ _ _ _ _ _; rw [HTK.out.1, HSEL.out]; exact HFIN.out⟩
      | false =>
        have fq : (bits BinOp.and IntKind.u16 (mu / 2 ^ (k % 16)) 1 == 1) = false := by rw [HKB.out] at hq; exact hq
        have HSEL : Hid (sel kb (O.take (k + 1)) 0 = sel kb (O.take k) 0) := by show _ = _; rw [HTK.out.2, hq]; simp
        clear hq
        go_wp2_with (at_builtin; rw [← HV.out, show wr.heap.size + 1 = V.heap.size from HSS.out.1.symm, ← HU.out]; refine wpList_pushKa rfl _ _ rfl Y.heap.size va ((O.take k).map En.k) rfl HPU.out.ak V.heap.size e.k HKL.out rfl HRU.out (by have := HKK.out.1; omega) HPU.out.sz ?_; intro va' w' hO hG; have HP2 := Lib.hid (HPU.out.key HB2.out hO hG); clear hO hG)
        go_roundg (O.length - (k + 1))
        case measure => omega
        case rel => exact ⟨k + 1, vw, va', rfl, by go_num, by omega, rfl, by show Pr _ _ _ _ _ _ _; rw [HTK.out.1, HSEL.out]; exact HP2.out⟩
    · have hkO : k = O.length := by omega
      subst hkO
      have HR2 : Hid (Pr w3 Y.heap.size va vw (O.map En.k) (sel kb O 0) wr) := by
        have := HR.out
        rw [List.take_length] at this
        exact this
      obtain ⟨E9, hE9⟩ : ∃ E9, E9 = sel kb O 0 := ⟨_, rfl⟩
      have HSUB : Hid (E9.Sublist O) := by
        show _
        rw [hE9]
        exact sel_sub kb O 0
      rw [← hE9] at HR2
      clear hE9 HR hk hlt
      obtain ⟨A6, c6, hv6⟩ := HR2.out.ew.form
      obtain ⟨A7, c7, hv7⟩ := HR2.out.ak.form
      rw [List.length_map] at hv7
      subst hv6
      subst hv7
      have HPC := Lib.hid (prune_pr nd pr HQ3.out HI.out HAS.out HLE.out HSUB.out HR2.out HB2.out)
      rw [HPT.out] at HPC
      unfold ptr at HPC
      go_wp2_with fail
      refine HPC.out.mono ?_
      rintro _ w4 ⟨T', As, cs, Al, cl, rfl, hI4, hM4, hF4, hs4, ht4, hks4, hea4, hv, hal4⟩
      injection hv with hv1 hv2 hv3
      subst hv1
      subst hv3
      obtain ⟨pN, hpN⟩ := val_ptr nd hM4
      rw [hpN]
      have HPN := Lib.hid hpN
      have HI4 := Lib.hid hI4
      have HM4 := Lib.hid hM4
      have HF4 := Lib.hid hF4
      have HS4 := Lib.hid hs4
      have HT4 := Lib.hid ht4
      have HKS4 := Lib.hid hks4
      have HEA4 := Lib.hid hea4
      have HAL4 := Lib.hid hal4
      have HAL := Lib.hid (alive10_c nd pv rm w4 hF4.fs.vars)
      clear hpN hI4 hM4 hF4 hs4 ht4 hks4 hea4 hal4 hv2 HPC HR2 HQ3
      go_wp2_with fail
      refine HAL.out.mono ?_
      rintro _ w5 ⟨rfl, hB⟩
      have HF5 := Lib.hid (HF4.out.below nd hB)
      have HM5 := Lib.hid (nd.below HM4.out hB)
      have HEA5 := Lib.hid (HEA4.out.below hB)
      have HT5 : Hid (w5.heap[w3.heap.size + 1]? = _) := (hB.block _ (lt_of_heap HT4.out)).trans HT4.out
      have ls : w5.cell? ⟨w3.heap.size, 0, none⟩ = some (.slice As O.length cs) := by
        rw [cell_of_cells ((hB.block _ (lt_of_heap HS4.out)).trans HS4.out)]
        rfl
      have HEQ := Lib.hid (equal_yes As A7 cs c7 (O.map En.k) w5 (HKS4.out.below hB) (HAL4.out.below hB) (by rw [List.length_map]; have := HLE.out; omega))
      rw [List.length_map] at HEQ
      clear hB HAL HF4 HM4 HEA4 HT4 HS4 HKS4 HAL4
      go_wp2_with fail
      refine HEQ.out.mono ?_
      rintro _ w6 ⟨rfl, hB⟩
      have HF6 := Lib.hid (HF5.out.below nd hB)
      have HM6 := Lib.hid (nd.below HM5.out hB)
      have HEA6 := Lib.hid (HEA5.out.below hB)
      have lw : w6.cell? ⟨w3.heap.size + 1, 0, none⟩ = some (.slice A6 E9.length c6) := by
        rw [cell_of_cells ((hB.block _ (lt_of_heap HT5.out)).trans HT5.out)]
        rfl
      obtain ⟨m6, hm6, hh6⟩ := HF6.out.hs
      have HIS := Lib.hid (is_c nd fv w6 b n m6 T' A6 c6 E9 hh6 (by omega) HF6.out.fs.vars HM6.out HI4.out HEA6.out (by have := HSUB.out.length_le; have := HLE.out; omega) (fun e he => HVE.out e (HSUB.out.subset he)))
      rw [HPN.out] at HIS
      unfold ptr at HIS
      clear hB HEQ HF5 HM5 HEA5 HT5 ls hm6 hh6
      go_wp2_with fail
      refine HIS.out.mono ?_
      rintro _ w7 ⟨rfl, c9, hc9, hh9, hk9⟩
      have HF7 := Lib.hid (HF6.out.made nd hk9 ⟨c9, Nat.le_refl _, hh9⟩)
      clear hc9 hh9 hk9 HIS HF6 HM6 lw
      go_wp2_with fail
      go_ret
      exact ⟨rfl, HB0.out.trans (HF7.out.fs.bel.mono HB0.out.size)⟩
set_option maxHeartbeats 16000000 in
set_option maxRecDepth 100000 in
/-- Other bits, or entries that are not few: alive. -/
theorem prunes_out {M : World → Int → Tv → Prop} (nd : NdV M) (pv : PtV M) (rm : RmV M) (n : Int) (A : Option Addr) (c : Nat) (es : List En) (mu : Int) (W : World) (hA : EA W A es) (hvx : Vars W) (h : (n < 0 ∨ 256 < n) ∨ fewK (es.map En.ent) = false) :
    Calls Tryz.prog 3 #[.int .i64 n, .slice A es.length c, .int .u16 mu] W (Aye W) := by
  obtain ⟨X, hX⟩ : ∃ X, X = W := ⟨_, rfl⟩
  have hb0 : Below W.heap.size W X := by rw [hX]; exact Below.refl _ _
  have HX := Lib.hid hX
  have HB0 := Lib.hid hb0
  have HVX := Lib.hid (hvx.below hb0)
  have HT := Lib.hid (tree_out n A c es X (hA.below hb0) h)
  have HAL := Lib.hid (fun w h => alive10_c nd pv rm w h)
  clear hA hvx h hX hb0
  go_enter Tryz.func3, Tryz.ntmps3
  go_wp2_with fail
  rw [← HX.out]
  clear HX
  refine HT.out.mono ?_
  rintro _ w2 ⟨rfl, hB⟩
  have HB := Lib.hid hB
  clear hB HT
  go_wp2_with fail
  refine (hash_any n w2).mono ?_
  rintro _ w3 ⟨p, rfl, hB⟩
  have HB3 := Lib.hid (HB.out.trans (hB.mono HB.out.size))
  clear hB HB
  go_wp2_with fail
  refine (HAL.out w3 (HVX.out.below HB3.out)).mono ?_
  rintro _ w4 ⟨rfl, hB⟩
  have HB4 := Lib.hid (HB3.out.trans (hB.mono HB3.out.size))
  clear hB
  go_wp2_with fail
  go_ret
  exact ⟨rfl, HB0.out.trans (HB4.out.mono HB0.out.size)⟩
end Go.Proofs.YtjhpnlnghaljaaaGreatDoor

/- RemovePrunes, its cases together. -/
namespace Go.Proofs.YtjhpnlnghaljaaaGreatDoor
open Go.RowKit

theorem prunes_w {M : World → Int → Tv → Prop} (nd : NdV M) (fv : FnV M) (pv : PtV M) (rm : RmV M) (pr : PrV M) (n : Int) (A : Option Addr) (c : Nat) (es : List En) (mu : Int) (hm0 : 0 ≤ mu) (hm1 : mu < 65536) (W : World) (hA : EA W A es) (hvx : Vars W) :
    Calls Tryz.prog 3 #[.int .i64 n, .slice A es.length c, .int .u16 mu] W (Aye W) := by
  rcases few_cases n es with h | ⟨h0, h1, hf, hl, hvl⟩
  · exact prunes_out nd pv rm n A c es mu W hA hvx h
  · exact prunes_in nd fv pv rm pr n A c es mu hm0 hm1 W hA hl hvl hf hvx h0 h1
end Go.Proofs.YtjhpnlnghaljaaaGreatDoor
