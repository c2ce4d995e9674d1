import Derived.Test.YtkejfdgmdjfdoaaGreatDoorMF
import Derived.Test.YtkejfdgmdjfdoaaGreatDoorMT
import Derived.Test.YtkejfdgmdjfdoaaGreatDoorG6
import Derived.Test.YtkejfdgmdjfdoaaGreatDoorMQ
import Derived.Defers
namespace Go.Proofs.YtkejfdgmdjfdoaaGreatDoor
set_option linter.unusedSimpArgs false
set_option linter.unusedVariables false
set_option maxHeartbeats 8000000
set_option maxRecDepth 100000
section
open Go.RowKit Go.Shelf
attribute [local go_sem] Oper.semAt_some
abbrev encB (x : Tv × Nat) : Array Value := #[.int .i64 (x.2 : Int), x.1.val]
def backs (ts : List Tv) : List (Tv × Nat) := ts.zipIdx.reverse
theorem backs_len (ts : List Tv) : (backs ts).length = ts.length := by simp [backs]
theorem backs_at {ts : List Tv} {j : Nat} {x : Tv × Nat} (h : (backs ts)[j]? = some x) : j < ts.length ∧ x.2 = ts.length - 1 - j ∧ ts[x.2]? = some x.1 := by
 have hj : j < ts.length := by have := (List.getElem?_eq_some_iff.1 h).1; rwa [backs_len] at this
 unfold backs at h
 rw [List.getElem?_reverse (by simpa using hj), List.getElem?_zipIdx, List.length_zipIdx, Nat.zero_add] at h
 obtain ⟨T, hT, rfl⟩ := Option.map_eq_some_iff.1 h
 exact ⟨hj, rfl, hT⟩
theorem backs_pre {ts : List Tv} {pre : List (Tv × Nat)} {x : Tv × Nat} (h : pre ++ [x] <+: backs ts) : pre.length < ts.length ∧ x.2 = ts.length - 1 - pre.length ∧ ts[x.2]? = some x.1 := by
 obtain ⟨r, hr⟩ := h
 exact backs_at (by rw [← hr]; simp)
theorem backs_next {ts : List Tv} {pre : List (Tv × Nat)} {k : Nat} {T : Tv} (h : pre <+: backs ts) (hk : pre.length + (k + 1) = ts.length) (hT : ts[k]? = some T) : pre ++ [(T, k)] <+: backs ts := by
 obtain ⟨r, hr⟩ := h
 have hl := congrArg List.length hr
 rw [backs_len, List.length_append] at hl
 match r, hr, hl with
 | [], _, hl => simp at hl; omega
 | y :: s, hr, _ =>
  have hy : (backs ts)[pre.length]? = some y := by rw [← hr]; simp
  obtain ⟨_, h2, h3⟩ := backs_at hy
  have e2 : y.2 = k := by omega
  rw [e2, hT] at h3
  have e : y = (T, k) := by cases y; simp at e2 h3; rw [h3, e2]
  exact ⟨s, by rw [← hr, e]; simp⟩
structure Bk (q : Nat) (A : Option Addr) (c : Nat) (ts : List Tv) (X : World) : Prop where
 st : X.heap[q]? = some (.cells #[.slice A ts.length c] 182 (0, 0))
 pa : PA X A ts
theorem Bk.keep {q : Nat} {A : Option Addr} {c : Nat} {ts : List Tv} {X Y : World} (h : Bk q A c ts X) (hk : Keep (fun i => i ≠ q ∧ ∀ a, A = some a → i ≠ a.block) X Y) : Bk q A c ts Y :=
 ⟨hk.heap h.st fun h => h.1 rfl, fun i T hi => by
  obtain ⟨g, o, rfl, h1⟩ := h.pa i T hi
  exact ⟨g, o, rfl, hk.cellAt h1 fun h => h.2 _ rfl rfl⟩⟩
theorem Bk.below {q : Nat} {A : Option Addr} {c : Nat} {ts : List Tv} {X Y : World} (h : Bk q A c ts X) (hb : Below X.heap.size X Y) : Bk q A c ts Y := h.keep (Keep.of_below hb)
def idxV : Nat → Value
 | 0 => .int .i64 (-1)
 | k + 1 => .int .i64 (k : Int)
theorem idxV_sub (k : Nat) : Value.int .i64 ((k : Int) - 1) = idxV k := by
 cases k with
 | zero => rfl
 | succ k => unfold idxV; congr 1; omega
def idxN (v : Value) : Nat := (intOf v + 1).toNat
theorem back_seq (w : World) (q : Nat) (A : Option Addr) (c : Nat) (ts : List Tv) (hv : ∀ T ∈ ts, ∃ p, T.val = .pointer p) (hl : ts.length ≤ 1000000) (hw : Bk q A c ts w) :
  SeqC Tryz.prog 162 #[.pointer (some ⟨q, 0, none⟩)] encB (fun i => i ≠ q ∧ ∀ a, A = some a → i ≠ a.block) (fun _ => False) (backs ts) w := by
 intro n0 l0 J W hW hJ hY h0
 obtain ⟨m, hm⟩ : ∃ m, m = ts.length := ⟨_, rfl⟩
 have hc0 : W.cell? ⟨q, 0, none⟩ = some (.slice A m c) := by rw [hm, cell_of_cells (hw.below hW).st]; rfl
 have HW0 := Lib.hid (hw.below hW)
 have HV := Lib.hid hv
 have HM := Lib.hid hm
 have HML : Hid (m ≤ 1000000) := by show _ ≤ _; omega
 have HY := Lib.hid hY
 have HJ0 := Lib.hid h0
 have m0 : m ≤ 1000000 := HML.out
 clear hw hW hv hl hJ hY h0 hm
 refine callsIn_of_wp Tryz.func162 rfl trivial ?_ rfl
 simp only [Tryz.ntmps162, List.size_toArray, List.length_cons, List.length_nil, Nat.reduceAdd, Nat.reduceSub, Array.replicate_succ, Array.replicate_zero, List.push_toArray, List.append_toArray, List.nil_append, List.cons_append]
 gi_wp2
 clear hc0
 gi_loopw [3] (fun v wr => ∃ (pre : List (Tv × Nat)) (k : Nat), v = idxV k ∧ pre.length + k = m ∧ Hid (pre <+: backs ts ∧ Bk q A c ts wr ∧ J true pre wr)) (fun v _ => idxN v)
 case atStart => exact ⟨[], m, idxV_sub m, by simp, List.nil_prefix, HW0.out, HJ0.out⟩
 case round =>
  obtain ⟨pre, k, rfl, hk, HR⟩ := hrel
  obtain ⟨hpre, hb, hj⟩ := HR.out
  cases k with
  | zero =>
   have hall : pre = backs ts := hpre.eq_of_length (by rw [backs_len, ← HM.out]; omega)
   subst hall
   have HJF := Lib.hid hj
   unfold idxV
   clear hj hb hpre HR hk
   gi_wp2
   go_end0
   exact ⟨⟨_, rfl⟩, .inl HJF.out⟩
  | succ k =>
   have hkm : k < ts.length := by have := HM.out; omega
   obtain ⟨T, hT⟩ : ∃ T, ts[k]? = some T := ⟨_, List.getElem?_eq_getElem hkm⟩
   have hpn := backs_next hpre (by rw [← HM.out]; exact hk) hT
   obtain ⟨fn, tmps, assign, body, hy, hR⟩ := HY.out pre (T, k) wr hj hpn
   obtain ⟨pT, hpT⟩ := HV.out T (List.mem_of_getElem? hT)
   dsimp only [encB] at hy
   rw [hpT] at hy
   have hc : wr.cell? ⟨q, 0, none⟩ = some (.slice A m c) := by rw [HM.out, cell_of_cells hb.st]; rfl
   obtain ⟨g, o, rfl, hcell⟩ := hb.pa k T hT
   rw [hpT] at hcell
   have p0 : (0 : Int) ≤ (k : Int) := by omega
   have p1 : (k : Int) < (m : Int) := by omega
   have HKM : Hid (pre.length + (k + 1) = m) := hk
   have HPN := Lib.hid hpn
   have HB := Lib.hid hb
   have HRD := Lib.hid hR
   unfold idxV
   clear hpre hb hj HR hT hpT hkm hpn hR hk
   gi_wp2
   refine ⟨fun h => (by cases h), HRD.out.mono ?_⟩
   rintro e W3 ⟨b, rfl, hJ3, hk3⟩
   have HJ3 := Lib.hid hJ3
   have HK3 := Lib.hid hk3
   clear hJ3 hk3 HRD hy hc hcell p0 p1
   cases b with
   | false =>
    gi_wp2
    refine bodyPost_ret (results_none rfl _ _ _) rfl ?_
    exact ⟨⟨_, rfl⟩, .inr ⟨_, HPN.out, HJ3.out⟩⟩
   | true =>
    have HB3 := Lib.hid (HB.out.keep (HK3.out rfl))
    have HKL : Hid (k ≤ 1000000) := by show _ ≤ _; have := HKM.out; have := HML.out; omega
    have k0 : k ≤ 1000000 := HKL.out
    gi_wp2
    go_roundw
    case rel => exact ⟨pre ++ [(T, k)], k, idxV_sub k, by have := HKM.out; simp; omega, HPN.out, HB3.out, HJ3.out⟩
    case measure =>
     rw [show ∀ v, idxN (.int .i64 v) = (v + 1).toNat from fun _ => rfl]
     show _ < ((k : Int) + 1).toNat
     omega
end
section
open Go.RowKit Go.Shelf
attribute [local go_sem] Oper.semAt_some
theorem backward_c (A : Option Addr) (n c : Nat) (w : World) : Calls Tryz.prog 136 #[.slice A n c] w fun e w' => e = .returned (.func (.func 162) #[] #[.pointer (some ⟨w.heap.size, 0, none⟩)]) ∧ w' = w.alloc (.cells #[.slice A n c] 182) := by
 go_enter Tryz.func136, Tryz.ntmps136
 go_wp2_with fail
 go_ret
 exact ⟨rfl, rfl⟩
structure Jn (b : Nat) (k : List UInt8) (d : Nat) (A : Option Addr) (n c : Nat) (j : Nat) (X : World) : Prop where
 h : X.heap[j]? = some (.cells #[ptr b] 59 (0, 0))
 k : X.heap[j + 1]? = some (.cells (bA k) 40 (0, 0))
 d : X.heap[j + 2]? = some (.cells #[.int .i64 (d : Int)] 3 (0, 0))
 s : X.heap[j + 3]? = some (.cells #[.slice A n c] 182 (0, 0))
theorem Jn.keep {b : Nat} {k : List UInt8} {d : Nat} {A : Option Addr} {n c j : Nat} {X Y : World} {L : Nat → Prop} (h : Jn b k d A n c j X) (hk : Keep L X Y) (hL : ∀ i, j ≤ i → i ≤ j + 3 → ¬ L i) : Jn b k d A n c j Y :=
 ⟨hk.heap h.h (hL _ (by omega) (by omega)), hk.heap h.k (hL _ (by omega) (by omega)), hk.heap h.d (hL _ (by omega) (by omega)), hk.heap h.s (hL _ (by omega) (by omega))⟩
theorem Jn.below {b : Nat} {k : List UInt8} {d : Nat} {A : Option Addr} {n c j : Nat} {X Y : World} (h : Jn b k d A n c j X) (hb : Below X.heap.size X Y) : Jn b k d A n c j Y := h.keep (Keep.of_below (L := fun _ => False) hb) fun _ _ _ h => h
def cloV (j : Nat) : Value := .func (.func 135) #[] #[ptr (j + 3), ptr (j + 1), ptr (j + 2), ptr j]
theorem joining_c (b : Nat) (k : List UInt8) (d : Nat) (A : Option Addr) (n c : Nat) (w : World) : Calls Tryz.prog 97 #[ptr b, .agg (bA k), .int .i64 (d : Int), .slice A n c] w fun e w' => e = .returned (cloV w.heap.size) ∧ Jn b k d A n c w.heap.size w' ∧ Below w.heap.size w w' := by
 obtain ⟨w1, hw1⟩ : ∃ w1, w1 = w.alloc (.cells #[ptr b] 59) := ⟨_, rfl⟩
 obtain ⟨w2, hw2⟩ : ∃ w2, w2 = w1.alloc (.cells (bA k) 40) := ⟨_, rfl⟩
 obtain ⟨w3, hw3⟩ : ∃ w3, w3 = w2.alloc (.cells #[.int .i64 (d : Int)] 3) := ⟨_, rfl⟩
 obtain ⟨w4, hw4⟩ : ∃ w4, w4 = w3.alloc (.cells #[.slice A n c] 182) := ⟨_, rfl⟩
 have s1 : w1.heap.size = w.heap.size + 1 := by rw [hw1]; simp
 have s2 : w2.heap.size = w.heap.size + 2 := by rw [hw2]; simp [s1]
 have s3 : w3.heap.size = w.heap.size + 3 := by rw [hw3]; simp [s2]
 have b1 : Below w.heap.size w w1 := by rw [hw1]; exact (Below.refl _ _).alloc (Nat.le_refl _) _
 have b2 : Below w1.heap.size w1 w2 := by rw [hw2]; exact (Below.refl _ _).alloc (Nat.le_refl _) _
 have b3 : Below w2.heap.size w2 w3 := by rw [hw3]; exact (Below.refl _ _).alloc (Nat.le_refl _) _
 have b4 : Below w3.heap.size w3 w4 := by rw [hw4]; exact (Below.refl _ _).alloc (Nat.le_refl _) _
 have h1 : w1.heap[w.heap.size]? = some (.cells #[ptr b] 59 (0, 0)) := by rw [hw1]; exact heap_alloc_new w _
 have h2 : w2.heap[w.heap.size + 1]? = some (.cells (bA k) 40 (0, 0)) := by rw [hw2, ← s1]; exact heap_alloc_new w1 _
 have h3 : w3.heap[w.heap.size + 2]? = some (.cells #[.int .i64 (d : Int)] 3 (0, 0)) := by rw [hw3, ← s2]; exact heap_alloc_new w2 _
 have h4 : w4.heap[w.heap.size + 3]? = some (.cells #[.slice A n c] 182 (0, 0)) := by rw [hw4, ← s3]; exact heap_alloc_new w3 _
 have HF : Hid (Jn b k d A n c w.heap.size w4 ∧ Below w.heap.size w w4) := ⟨⟨by rw [b4.block _ (by omega), b3.block _ (by omega), b2.block _ (by omega)]; exact h1, by rw [b4.block _ (by omega), b3.block _ (by omega)]; exact h2, by rw [b4.block _ (by omega)]; exact h3, h4⟩,
  ((b1.trans (b2.mono b1.size)).trans (b3.mono (by omega))).trans (b4.mono (by omega))⟩
 have HW : Hid (w4 = (((w.alloc (.cells #[ptr b] 59)).alloc (.cells (bA k) 40)).alloc (.cells #[.int .i64 (d : Int)] 3)).alloc (.cells #[.slice A n c] 182)) := by show _ = _; rw [hw4, hw3, hw2, hw1]
 clear hw1 hw2 hw3 hw4 s1 s2 s3 b1 b2 b3 b4 h1 h2 h3 h4
 unfold cloV
 unfold ptr at HW ⊢
 go_enter Tryz.func97, Tryz.ntmps97
 go_wp2_with fail
 go_ret
 rw [← HW.out]
 exact ⟨rfl, HF.out.1, HF.out.2⟩
structure Ji (M : World → Int → Tv → Prop) (w : World) (b : Nat) (n : Int) (c : Nat) (k : List UInt8) (d : Nat) (ts : List Tv) (S : Tv) (B p : Nat) (T : Tv) (Y : World) : Prop where
 tr : T.tr = foldT k ((ts.map Tv.tr).drop (ts.length - p)) (d + (ts.length - p)) S.tr
 hs : ∃ c', c' ≤ c + 3 * p ∧ Hs Y b n c'
 kp : Keep (fun i => i = b) w Y
 aft : ∀ w2, Keep (fun i => i < B + 2) Y w2 → M w2 n S → (∀ T' ∈ ts, M w2 n T') → M w2 n T
section
variable {M : World → Int → Tv → Prop} {w : World} {b : Nat} {n : Int} {c : Nat} {k : List UInt8} {d : Nat} {ts : List Tv} {S : Tv} {B p : Nat} {T : Tv} {Y Z : World}
theorem Ji.below (h : Ji M w b n c k d ts S B p T Y) (hb : Below Y.heap.size Y Z) : Ji M w b n c k d ts S B p T Z := by
 obtain ⟨c', hc, hh⟩ := h.hs
 exact ⟨h.tr, ⟨c', hc, hh.keep (Keep.of_below (L := fun _ => False) hb) fun h => h⟩, h.kp.trans (Keep.of_below hb), fun w2 hk => h.aft w2 ((Keep.of_below hb).trans hk)⟩
theorem Ji.put (h : Ji M w b n c k d ts S B p T Y) {l : Nat} {o o' : Obj} (hB : w.heap.size ≤ B) (h0 : B ≤ l) (h1 : l ≤ B + 1) (ho : Y.heap[l]? = some o) (hc : o.isCells = false) : Ji M w b n c k d ts S B p T (Y.putObj l o') := by
 obtain ⟨c', hc', hh⟩ := h.hs
 have hk : Keep (fun i => i = l) Y (Y.putObj l o') := keep_putObj Y l o' rfl
 have hne : b ≠ l := fun e => by
  subst e
  rw [hh] at ho
  cases ho
  cases hc
 exact ⟨h.tr, ⟨c', hc', hh.keep hk hne⟩, h.kp.step hk fun i hi => .inr (by have e : i = l := hi; omega), fun w2 h2 => h.aft w2 ((hk.mono fun i hi => by have e : i = l := hi; omega).trans h2)⟩
theorem Ji.ms (nd : NdV M) (h : Ji M w b n c k d ts S B p T Y) {cw : Nat} (hw : Hs w b n cw) (hS : M w n S) (hT : ∀ T' ∈ ts, M w n T') : M Y n T :=
 h.aft Y (Keep.refl _ _) (nd.hs hS hw h.kp) fun T' h' => nd.hs (hT T' h') hw h.kp
theorem Ji.start (hw : Hs w b n c) (hb : Below w.heap.size w Y) : Ji M w b n c k d ts S B 0 S Y :=
 ⟨by rw [List.drop_of_length_le (by simp)]; rfl, ⟨c, by omega, hw.keep (Keep.of_below (L := fun _ => False) hb) fun h => h⟩, Keep.of_below hb, fun _ _ h _ => h⟩
theorem Ji.step {q : World} {x : Tv} {i cn e : Nat} {val : Value} (h : Ji M w b n c k d ts S B p T Y) (hi : i + 1 + p = ts.length) (hx : ts[i]? = some x) (hY : B + 2 ≤ Y.heap.size) (he : e < B) (hbe : b < e) (hwe : w.heap.size ≤ e) (hYq : Below Y.heap.size Y q) (hqZ : Keep (fun i => i = b) q Z) (hcn : cn ≤ c + 3 * (p + 1)) (hh : Hs Z b n cn) (T2 : Tv)
  (htr : T2.tr = if bitK k ((d + i : Nat) : Int) = 0 then joinT T.tr x.tr else joinT x.tr T.tr) (haft : ∀ w2, Keep (fun i => i < q.heap.size) Z w2 → M w2 n T → M w2 n x → M w2 n T2) :
  Ji M w b n c k d ts S B (p + 1) T2 (Z.setCell ⟨e, 0, none⟩ val) := by
 have hc : Keep (fun i => i = e) Z (Z.setCell ⟨e, 0, none⟩ val) := Keep.cell Z ⟨e, 0, none⟩ val
 have hYs := hYq.size
 refine ⟨?_, ⟨cn, hcn, hh.keep hc (by show b ≠ e; omega)⟩, ((h.kp.trans (Keep.of_below hYq)).trans hqZ).step hc fun j hj => .inr (by have e2 : j = e := hj; omega), fun w2 h2 hS hT => ?_⟩
 ·rw [htr, h.tr, show ts.length - p = i + 1 by omega, show ts.length - (p + 1) = i by omega, foldT_drop k _ d S.tr (i := i) (s := x.tr) (by rw [List.getElem?_map, hx]; rfl)]
 ·have hZ2 : Keep (fun i => i < B + 2) Z w2 := (hc.mono fun j hj => by have e2 : j = e := hj; omega).trans h2
  refine haft w2 (hZ2.mono fun j hj => by omega) (h.aft w2 (((Keep.of_below hYq).trans (hqZ.mono fun j hj => by have e2 : j = b := hj; omega)).trans hZ2) hS hT) (hT x (List.mem_of_getElem? hx))
end
theorem round_keep {Y Y1 Y2 : World} {b : Nat} (h1 : Below Y.heap.size Y Y1) (h2 : Keep (fun i => i = b) Y1 Y2) (e : Nat) (v : Value) : Keep (fun i => i = b ∨ i = e) Y (Y2.setCell ⟨e, 0, none⟩ v) :=
 ((Keep.of_below (L := fun i => i = b ∨ i = e) h1).trans (h2.mono fun _ h => .inl h)).trans ((Keep.cell Y2 ⟨e, 0, none⟩ v).mono fun _ h => .inr h)
theorem keepsF {L : Nat → Prop} {X Y : World} {B : Nat} (h : Keep L X Y) (hL : ∀ i, L i → i < B) : KeepsFrom B X Y := ⟨h.size, fun i o hB hi _ => h.heap hi fun hl => by have := hL i hl; omega⟩
theorem joined_c {M : World → Int → Tv → Prop} (nd : NdV M) (w : World) (b : Nat) (n : Int) (c : Nat) (k : List UInt8) (d : Nat) (A : Option Addr) (cA : Nat) (ts : List Tv) (S : Tv) (j : Nat)
  (hh : Hs w b n c) (hc : c ≤ 90000000) (hv : Vars w) (hS : M w n S) (hT : ∀ T ∈ ts, M w n T) (hj : Jn b k d A ts.length cA j w) (hbj : b < j) (hpa : PA w A ts) (hA : ∀ a, A = some a → a.block < w.heap.size ∧ a.block ≠ b)
  (hk : k.length = 32) (hd : d + ts.length ≤ 1000) (hl : lenT S.tr + lensT (ts.map Tv.tr) ≤ 1000000000) :
  Calls Tryz.prog 135 #[S.val, ptr (j + 3), ptr (j + 1), ptr (j + 2), ptr j] w fun e w' => ∃ T' c', e = .returned T'.val ∧ T'.tr = foldT k (ts.map Tv.tr) d S.tr ∧ M w' n T' ∧ c' ≤ c + 3 * ts.length ∧ Hs w' b n c' ∧ Keep (fun i => i = b) w w' ∧
   ∀ w2, Keep (fun i => i < w.heap.size) w' w2 → M w2 n S → (∀ T ∈ ts, M w2 n T) → M w2 n T' := by
 obtain ⟨pS, hpS⟩ := val_ptr nd hS
 have hjs := lt_of_heap hj.s
 have lS : w.cell? ⟨j + 3, 0, none⟩ = some (.slice A ts.length cA) := by rw [cell_of_cells hj.s]; rfl
 obtain ⟨X, hX⟩ : ∃ X, X = w.alloc (.cells #[.pointer pS] 62) := ⟨_, rfl⟩
 have hbX : Below w.heap.size w X := by rw [hX]; exact (Below.refl _ _).alloc (Nat.le_refl _) _
 have hXe : X.heap[w.heap.size]? = some (.cells #[.pointer pS] 62 (0, 0)) := by rw [hX]; exact heap_alloc_new w _
 have hsX : X.heap.size = w.heap.size + 1 := by rw [hX]; simp
 have lX : X.cell? ⟨j + 3, 0, none⟩ = some (.slice A ts.length cA) := by rw [hbX.cell (by show j + 3 < _; omega)]; exact lS
 have HX := Lib.hid hX
 have HBX := Lib.hid hbX
 have HXE := Lib.hid hXe
 have HSX := Lib.hid hsX
 have HPS := Lib.hid hpS
 have HH := Lib.hid hh
 have HC := Lib.hid hc
 have HV := Lib.hid hv
 have HMS := Lib.hid hS
 have HMT := Lib.hid hT
 have HJ := Lib.hid hj
 have HBJ := Lib.hid hbj
 have HJS : Hid (j + 3 < w.heap.size) := hjs
 have HPA := Lib.hid hpa
 have HA := Lib.hid hA
 have HK := Lib.hid hk
 have HD := Lib.hid hd
 have HL := Lib.hid hl
 rw [hpS]
 unfold ptr
 rw [hX] at lX
 clear hX hbX hXe hsX hpS hh hc hv hS hT hj hbj hjs hpa hA hk hd hl lS
 refine (callsIn_wide (n := 10)).1 ?_
 refine callsIn_of_wp_marks Tryz.func135 rfl trivial ?_ rfl
 simp only [Tryz.ntmps135, List.size_toArray, List.length_cons, List.length_nil, Nat.reduceAdd, Nat.reduceSub, Array.replicate_succ, Array.replicate_zero, List.push_toArray, List.append_toArray, List.nil_append, List.cons_append]
 refine wpIn_wide.2 ?_
 go_wp2_with fail
 rw [← HX.out]
 refine (backward_c A ts.length cA X).mono ?_
 rintro e W0 ⟨rfl, hW0⟩
 have hbW : Below X.heap.size X W0 := by rw [hW0]; exact (Below.refl _ X).alloc (Nat.le_refl _) _
 have hB0 : Below w.heap.size w W0 := HBX.out.trans (hbW.mono HBX.out.size)
 have hs0 : W0.heap.size = w.heap.size + 2 := by rw [hW0]; simp [HSX.out]
 have hbk : Bk X.heap.size A cA ts W0 := ⟨by rw [hW0]; exact heap_alloc_new X _, HPA.out.below hB0⟩
 have hE0 : W0.heap[w.heap.size]? = some (.cells #[.pointer pS] 62 (0, 0)) := by rw [hbW.block _ (lt_of_heap HXE.out)]; exact HXE.out
 have HSEQ := Lib.hid (back_seq W0 X.heap.size A cA ts (fun T h => val_ptr nd (HMT.out T h)) (by have := HD.out; omega) hbk)
 have HB0 := Lib.hid hB0
 have HS0 := Lib.hid hs0
 have HE0 := Lib.hid hE0
 clear lX hW0 hbW hB0 hs0 hbk hE0 HXE HX
 go_wp2_with fail
 have hbx := HBX.out.size
 have hsx := HSX.out
 have hs0 := HS0.out
 have hjs := HJS.out
 have hbj := HBJ.out
 refine (wpIn_wide (n := 10)).1 ?_
 refine wpIn_rangeD (gf := 162) (lb := #[.pointer (some ⟨X.heap.size, 0, none⟩)]) rfl (enters_of Tryz.func162 (by kernel_rfl) rfl) HSEQ.out
  (fun i hi => ⟨by omega, fun a ha => by have := (HA.out a ha).1; omega⟩) (fun i hi => hi.elim) (fun _ => rfl)
  (fun pre Y => ∃ T : Tv, Y.heap[w.heap.size]? = some (.cells #[T.val] 62 (0, 0)) ∧ Ji M w b n c k d ts S W0.heap.size pre.length T Y) (fun _ _ _ => False)
  (fun s Y Z ⟨T, h1, h2⟩ hk => ⟨T, hk.heap h1 (fun h => h), h2.below (hk.below (Nat.le_refl _) fun _ h => h.elim)⟩)
  (fun s Y l o o' ⟨T, h1, h2⟩ hl hl2 ho hc => ⟨T, (World.putObj_heap_other (by omega)).trans h1, h2.put (by omega) hl hl2 ho hc⟩)
  (fun _ _ _ _ h _ => h) (fun _ _ _ _ _ _ h _ _ _ _ => h)
  (fun Y hY => ⟨S, by rw [HPS.out, hY.block _ (lt_of_heap HE0.out)]; exact HE0.out, Ji.start HH.out (HB0.out.trans (hY.mono (by omega)))⟩)
  (fun x a' _ => a' = { tmps := #[.pointer pS, .pointer (some ⟨j + 3, 0, none⟩), .pointer (some ⟨j + 1, 0, none⟩), .pointer (some ⟨j + 2, 0, none⟩), .pointer (some ⟨j, 0, none⟩), .pointer (some ⟨w.heap.size, 0, none⟩), .pointer none, .int .i64 (x.2 : Int), x.1.val, .slice A ts.length cA,
   .func (.func 162) #[] #[.pointer (some ⟨X.heap.size, 0, none⟩)], .int .i64 (x.2 : Int), x.1.val, undef, undef, undef, undef, undef, undef, undef, undef, undef, undef, undef, undef, undef, undef, undef], defers := [] })
  (fun _ _ _ _ _ _ h _ _ _ _ => h) ?assign ?body ?done ?stop
 case assign =>
  intro l pre x Y K hi hp hK
  clear hbx hsx hs0 hjs hbj
  gi_wp2
  exact hK _ _ (KeepsFrom.refl _ _) (Keep.refl _ _) hi rfl
 case body =>
  rintro l pre ⟨x, i⟩ a' Y rfl ⟨r, hr⟩ ⟨T, h1, h2⟩ rfl hp
  obtain ⟨hp1, hp2, hp3⟩ := backs_pre hp
  dsimp only at hp2 hp3 ⊢
  have HYS : Hid (W0.heap.size + 2 ≤ Y.heap.size) := by show _ ≤ _; have := lt_of_heap hr; omega
  have HI : Hid (i + 1 + pre.length = ts.length) := by show _ = _; omega
  have hMT := h2.ms nd HH.out HMS.out HMT.out
  have hMx := nd.hs (HMT.out x (List.mem_of_getElem? hp3)) HH.out h2.kp
  obtain ⟨pT, hpT⟩ := val_ptr nd hMT
  obtain ⟨px, hpx⟩ := val_ptr nd hMx
  obtain ⟨cy, hcy, hhy⟩ := h2.hs
  have hjy := HJ.out.keep h2.kp fun q hq _ => by show q ≠ b; omega
  rw [hpT] at h1
  rw [hpx]
  have lk : ldA 40 Y (.pointer (some ⟨j + 1, 0, none⟩)) = .ok (.value (.agg (bA k))) Y :=
   ldA_row (t' := 40) (fr := (0, 0)) hjy.k Tryz.underlying40 (by rw [bA_size, HK.out]; exact infoKey)
  have ld : Y.cell? ⟨j + 2, 0, none⟩ = some (.int .i64 (d : Int)) := by rw [cell_of_cells hjy.d]; rfl
  have d0 : d ≤ 1000 := by have := HD.out; omega
  have i0 : i ≤ 1000 := by have := HD.out; have := HI.out; omega
  have H1 := Lib.hid h1
  have H2 := Lib.hid h2
  have HX3 := Lib.hid hp3
  have HT := Lib.hid hMT
  have HMX := Lib.hid hMx
  have HPT := Lib.hid hpT
  have HPX := Lib.hid hpx
  have HCY := Lib.hid hcy
  have HHY := Lib.hid hhy
  have HJY := Lib.hid hjy
  have HPL : Hid (pre.length < ts.length) := hp1
  clear hbx hsx hs0 hjs hbj hr h1 h2 hp hp1 hp2 hp3 hMT hMx hpT hpx hcy hhy hjy
  gi_wp2
  refine ⟨trivial, (CallsIn.inRound _ (callsIn_wide.2 (pbitK_c k HK.out ((d : Int) + (i : Int)) Y))).mono ?_⟩
  rintro _ Y1 ⟨rfl, hB1⟩
  obtain ⟨bt, hbt⟩ : ∃ bt, bt = bitK k ((d : Int) + (i : Int)) := ⟨_, rfl⟩
  rw [← hbt]
  have HBT := Lib.hid hbt
  have HB1 := Lib.hid hB1
  have hjy := HJY.out.below hB1
  have lh : Y1.cell? ⟨j, 0, none⟩ = some (.pointer (some ⟨b, 0, none⟩)) := by rw [cell_of_cells hjy.h]; rfl
  have he1 : Y1.heap[w.heap.size]? = some (.cells #[.pointer pT] 62 (0, 0)) := by rw [hB1.block _ (lt_of_heap H1.out)]; exact H1.out
  have le : Y1.cell? ⟨w.heap.size, 0, none⟩ = some (.pointer pT) := by rw [cell_of_cells he1]; rfl
  have HE1 := Lib.hid he1
  have HTI := Lib.hid (nd.below HT.out hB1)
  have HXI := Lib.hid (nd.below HMX.out hB1)
  have HHI : Hid (Hs Y1 b n cy) := HHY.out.keep (Keep.of_below (L := fun _ => False) hB1) fun h => h
  have HVI : Hid (Vars Y1) := (HV.out.hs HH.out H2.out.kp).below hB1
  have HLN : Hid (lenT T.tr + lenT x.tr ≤ 1000000000 ∧ cy ≤ 100000000) := by
   have h1 := lensT_mem (ss := ts.map Tv.tr) (i := i) (s := x.tr) (by rw [List.getElem?_map, HX3.out]; rfl)
   have h2 := congrArg lenT H2.out.tr
   rw [foldT_len, show ts.length - pre.length = i + 1 by have := HI.out; omega] at h2
   have := HL.out
   have := HCY.out
   have := HC.out
   have := HD.out
   have := HI.out
   exact ⟨by omega, by omega⟩
  clear lk ld hbt hB1 hjy he1
  by_cases hb0 : bt = 0
  ·subst hb0
   have HJN := Lib.hid (nd.join Y1 b n cy T x HHI.out HLN.out.2 HVI.out HTI.out HXI.out HLN.out.1)
   rw [HPT.out, HPX.out] at HJN
   unfold ptr at HJN
   gi_wp2
   refine ⟨trivial, (CallsIn.inRound _ (callsIn_wide.2 HJN.out)).mono ?_⟩
   rintro _ Y2 ⟨v2, c2, rfl, hm2, hc2', hh2, hk2, haft⟩
   obtain ⟨p2, hp2v⟩ := val_ptr nd hm2
   rw [hp2v]
   have HST : Hid (Ji M w b n c k d ts S W0.heap.size (pre.length + 1) (joinV v2 T x) (Y2.setCell ⟨w.heap.size, 0, none⟩ (.pointer p2))) :=
    H2.out.step HI.out HX3.out HYS.out (by have := HS0.out; omega) (by have := HBJ.out; have := HJS.out; omega) (Nat.le_refl _) HB1.out hk2 (by have := HCY.out; omega) hh2 _ (by rw [joinV_tr]; rw [if_pos (show bitK k ((d + i : Nat) : Int) = 0 from HBT.out.symm)]) haft
   have he2 : Y2.heap[w.heap.size]? = some (.cells #[.pointer pT] 62 (0, 0)) := hk2.heap HE1.out (by show w.heap.size ≠ b; have := HBJ.out; have := HJS.out; omega)
   have hc2 : Y2.cell? ⟨w.heap.size, 0, none⟩ = some (.pointer pT) := by rw [cell_of_cells he2]; rfl
   have hf2 : Y2.frozen? ⟨w.heap.size, 0, none⟩ = false := frozen_of_row Y2 _ _ _ _ he2
   have HF : Hid (KeepsFrom W0.heap.size Y (Y2.setCell ⟨w.heap.size, 0, none⟩ (.pointer p2)) ∧ Keep (fun q => q ≠ X.heap.size ∧ ∀ a, A = some a → q ≠ a.block) Y (Y2.setCell ⟨w.heap.size, 0, none⟩ (.pointer p2)) ∧
     (Y2.setCell ⟨w.heap.size, 0, none⟩ (.pointer p2)).heap[w.heap.size]? = some (.cells #[.pointer p2] 62 (0, 0))) := by
    have hks := round_keep HB1.out hk2 w.heap.size (.pointer p2)
    have := HBJ.out
    have := HJS.out
    have := HS0.out
    have := HSX.out
    refine ⟨keepsF hks fun q hq => by rcases hq with e | e <;> omega, hks.mono fun q hq => ?_, set_row he2⟩
    rcases hq with e | e
    ·exact ⟨by omega, fun a ha => by rw [e]; exact fun h => (HA.out a ha).2 h.symm⟩
    ·exact ⟨by omega, fun a ha => by have := (HA.out a ha).1; omega⟩
   clear hm2 hc2' hh2 hk2 haft he2 HJN
   gi_wp2
   refine ⟨HF.out.1, HF.out.2.1, joinV v2 T x, by rw [hp2v]; exact HF.out.2.2, ?_⟩
   rw [List.length_append]
   exact HST.out
  ·have HB0N := Lib.hid hb0
   have HJN := Lib.hid (nd.join Y1 b n cy x T HHI.out HLN.out.2 HVI.out HXI.out HTI.out (by have := HLN.out.1; omega))
   rw [HPT.out, HPX.out] at HJN
   unfold ptr at HJN
   have hb2 : (bt == 0) = false := by simpa using hb0
   clear hb0
   gi_wp2
   refine ⟨trivial, (CallsIn.inRound _ (callsIn_wide.2 HJN.out)).mono ?_⟩
   rintro _ Y2 ⟨v2, c2, rfl, hm2, hc2', hh2, hk2, haft⟩
   obtain ⟨p2, hp2v⟩ := val_ptr nd hm2
   rw [hp2v]
   have HST : Hid (Ji M w b n c k d ts S W0.heap.size (pre.length + 1) (joinV v2 x T) (Y2.setCell ⟨w.heap.size, 0, none⟩ (.pointer p2))) :=
    H2.out.step HI.out HX3.out HYS.out (by have := HS0.out; omega) (by have := HBJ.out; have := HJS.out; omega) (Nat.le_refl _) HB1.out hk2 (by have := HCY.out; omega) hh2 _ (by rw [joinV_tr]; rw [if_neg (show ¬ bitK k ((d + i : Nat) : Int) = 0 from fun h => HB0N.out (HBT.out.trans h))]) fun w2 a b c => haft w2 a c b
   have he2 : Y2.heap[w.heap.size]? = some (.cells #[.pointer pT] 62 (0, 0)) := hk2.heap HE1.out (by show w.heap.size ≠ b; have := HBJ.out; have := HJS.out; omega)
   have hc2 : Y2.cell? ⟨w.heap.size, 0, none⟩ = some (.pointer pT) := by rw [cell_of_cells he2]; rfl
   have hf2 : Y2.frozen? ⟨w.heap.size, 0, none⟩ = false := frozen_of_row Y2 _ _ _ _ he2
   have HF : Hid (KeepsFrom W0.heap.size Y (Y2.setCell ⟨w.heap.size, 0, none⟩ (.pointer p2)) ∧ Keep (fun q => q ≠ X.heap.size ∧ ∀ a, A = some a → q ≠ a.block) Y (Y2.setCell ⟨w.heap.size, 0, none⟩ (.pointer p2)) ∧
     (Y2.setCell ⟨w.heap.size, 0, none⟩ (.pointer p2)).heap[w.heap.size]? = some (.cells #[.pointer p2] 62 (0, 0))) := by
    have hks := round_keep HB1.out hk2 w.heap.size (.pointer p2)
    have := HBJ.out
    have := HJS.out
    have := HS0.out
    have := HSX.out
    refine ⟨keepsF hks fun q hq => by rcases hq with e | e <;> omega, hks.mono fun q hq => ?_, set_row he2⟩
    rcases hq with e | e
    ·exact ⟨by omega, fun a ha => by rw [e]; exact fun h => (HA.out a ha).2 h.symm⟩
    ·exact ⟨by omega, fun a ha => by have := (HA.out a ha).1; omega⟩
   clear hm2 hc2' hh2 hk2 haft he2 HJN
   gi_wp2
   refine ⟨HF.out.1, HF.out.2.1, joinV v2 x T, by rw [hp2v]; exact HF.out.2.2, ?_⟩
   rw [List.length_append]
   exact HST.out
 case done =>
  rintro D Y rfl ⟨T, h1, h2⟩ hd
  rw [backs_len] at h2
  have h3 := h2.put (o' := .deferred none) (by omega) (Nat.le_refl _) (Nat.le_succ _) hd rfl
  have hmT := h3.ms nd HH.out HMS.out HMT.out
  obtain ⟨pT, hpT⟩ := val_ptr nd hmT
  rw [hpT] at h1
  have lT : Y.cell? ⟨w.heap.size, 0, none⟩ = some (.pointer pT) := by rw [cell_of_cells h1]; rfl
  have HF : Hid (∃ T' : Tv, ∃ c', T'.val = .pointer pT ∧ T'.tr = foldT k (ts.map Tv.tr) d S.tr ∧ M (Y.putObj W0.heap.size (.deferred none)) n T' ∧ c' ≤ c + 3 * ts.length ∧ Hs (Y.putObj W0.heap.size (.deferred none)) b n c' ∧ Keep (fun i => i = b) w (Y.putObj W0.heap.size (.deferred none)) ∧
   ∀ w2, Keep (fun i => i < w.heap.size) (Y.putObj W0.heap.size (.deferred none)) w2 → M w2 n S → (∀ T ∈ ts, M w2 n T) → M w2 n T') := by
   obtain ⟨c', hc', hh'⟩ := h3.hs
   refine ⟨T, c', hpT, ?_, hmT, hc', hh', h3.kp, fun w2 hk => h3.aft w2 (hk.mono fun i hi => by omega)⟩
   have := h3.tr
   rwa [Nat.sub_self, List.drop_zero, Nat.add_zero] at this
  have HDD := Lib.hid hd
  clear hbx hsx hs0 hjs hbj h1 h2 h3 hmT hpT hd
  go_wp2_with fail
  refine ⟨by simp, .inl ⟨_, _, rfl, run_takeDeferred HDD.out, ?_⟩⟩
  obtain ⟨T', c', he, hrest⟩ := HF.out
  exact ⟨_, results_tmp rfl _ _ _, T', c', by rw [he]; rfl, hrest⟩
 case stop =>
  rintro D c pre Y _ _ h _
  exact h.elim
end
section
open Go.RowKit Go.Shelf
theorem OwnT.slice {w : World} {B : Nat} {A : Option Addr} {n c : Nat} {ts : List Tv} (h : OwnT w B (.slice A n c) ts) : n = ts.length ∧ PA w A ts ∧ ∀ a, A = some a → B ≤ a.block ∧ a.block < w.heap.size := by
 obtain ⟨A', c', he, hp⟩ := h.pa
 injection he with h1 h2 h3
 subst h1
 refine ⟨h2, hp, fun a ha => ?_⟩
 obtain ⟨_, ⟨hv, _⟩ | ⟨g, cap, cur, hv, hg, hh, _⟩⟩ := h
 ·injection hv with h1
  rw [h1] at ha
  cases ha
 ·injection hv with h1
  rw [h1] at ha
  cases ha
  exact ⟨hg, lt_of_heap hh⟩
theorem OwnT.lower {w : World} {B B' : Nat} {v : Value} {ts : List Tv} (h : OwnT w B v ts) (hb : B' ≤ B) : OwnT w B' v ts := by
 obtain ⟨h0, h | ⟨g, cap, cur, hv, hg, hr⟩⟩ := h
 ·exact ⟨h0, .inl h⟩
 ·exact ⟨h0, .inr ⟨g, cap, cur, hv, Nat.le_trans hb hg, hr⟩⟩
theorem sibs_stop (k : List UInt8) {T : Tv} (d : Nat) (h : kindT T.tr ≠ 2) : T.sibs k d = [] ∧ T.fin k d = T := by
 cases T with
 | nil => exact ⟨rfl, rfl⟩
 | leaf v e => exact ⟨rfl, rfl⟩
 | inner v a b => exact absurd rfl h
theorem sibs_go (k : List UInt8) {T : Tv} {d : Nat} (h : kindT T.tr = 2) (hd : d < 256) : T.sibs k d = T.child (1 - bitK k d) :: (T.child (bitK k d)).sibs k (d + 1) ∧ T.fin k d = (T.child (bitK k d)).fin k (d + 1) := by
 obtain ⟨v, a, b, rfl⟩ := kind_inner h
 unfold Tv.child
 rcases bitK_01 k d hd with hb | hb
 ·rw [hb]
  exact ⟨by rw [show (Tv.inner v a b).sibs k d = if bitK k d = 0 then b :: a.sibs k (d + 1) else a :: b.sibs k (d + 1) from rfl, if_pos hb]; rfl, by rw [show (Tv.inner v a b).fin k d = if bitK k d = 0 then a.fin k (d + 1) else b.fin k (d + 1) from rfl, if_pos hb]; rfl⟩
 ·rw [hb]
  exact ⟨by rw [show (Tv.inner v a b).sibs k d = if bitK k d = 0 then b :: a.sibs k (d + 1) else a :: b.sibs k (d + 1) from rfl, if_neg (by omega)]; rfl, by rw [show (Tv.inner v a b).fin k d = if bitK k d = 0 then a.fin k (d + 1) else b.fin k (d + 1) from rfl, if_neg (by omega)]; rfl⟩
theorem SubMap.child {d : Nat} {l : List Ent} {T : Tv} (h : SubMap d l T) (hd : d ≤ 256) (hk : kindT T.tr = 2) (k : List UInt8) : d < 256 ∧ ∃ l', SubMap (d + 1) l' (T.child (bitK k d)) := by
 obtain ⟨v, a, b, rfl⟩ := kind_inner hk
 obtain ⟨h1, ha, hb⟩ := h.inner hd
 refine ⟨h1, ?_⟩
 unfold Tv.child
 split
 ·exact ⟨_, ha⟩
 ·exact ⟨_, hb⟩
structure Fo (M : World → Int → Tv → Prop) (X : World) (n : Int) (d : Nat) (k : List UInt8) (T S : Tv) (pre : List Tv) (v : Value) (wr : World) : Prop where
 sub : ∃ l, SubMap (d + pre.length) l S
 sib : T.sibs k d = pre ++ S.sibs k (d + pre.length)
 fin : T.fin k d = S.fin k (d + pre.length)
 ms : M X n S
 own : OwnT wr X.heap.size v pre
 bel : Below X.heap.size X wr
theorem follow_c {M : World → Int → Tv → Prop} (nd : NdV M) (w : World) (n : Int) (d : Nat) (l : List Ent) (T : Tv) (k : List UInt8) (hM : M w n T) (hT : SubMap d l T) (hd : d ≤ 256) (hk : k.length = 32) :
  Calls Tryz.prog 96 #[T.val, .agg (bA k), .int .i64 (d : Int)] w fun e w' => ∃ A c, e = .returned (.tuple #[(T.fin k d).val, .slice A (T.sibs k d).length c]) ∧ OwnT w' w.heap.size (.slice A (T.sibs k d).length c) (T.sibs k d) ∧ Below w.heap.size w w' := by
 obtain ⟨pT, hpT⟩ := val_ptr nd hM
 obtain ⟨X, hX⟩ : ∃ X, X = w.alloc (.cells (bA k) 40) := ⟨_, rfl⟩
 have hb0 : Below w.heap.size w X := by rw [hX]; exact (Below.refl _ _).alloc (Nat.le_refl _) _
 have hr0 : RowB X w.heap.size 40 k := by rw [hX]; exact RowB.alloc w k _
 have hs0 : w.heap.size < X.heap.size := by rw [hX]; simp
 have HST : Hid (Fo M X n d k T T [] (.slice none 0 0) X) := ⟨⟨l, hT⟩, rfl, rfl, nd.below hM hb0, OwnT.nil _ _, Below.refl _ _⟩
 have HX := Lib.hid hX
 have HB0 := Lib.hid hb0
 have HR0 := Lib.hid hr0
 have HS0 := Lib.hid hs0
 have HPT := Lib.hid hpT
 have HK := Lib.hid hk
 rw [hpT]
 clear hX hb0 hr0 hs0 hpT hM hT hk
 go_enter Tryz.func96, Tryz.ntmps96
 go_wp2_with fail
 rw [← HX.out]
 clear HX
 go_loopg [0, 7] 257 (fun gg v u wr => ∃ (S : Tv) (pS : Option Addr) (pre : List Tv) (A : Option Addr) (c : Nat), v = .pointer pS ∧ u = .slice A pre.length c ∧ d + pre.length ≤ 256 ∧ 257 - pre.length = gg ∧ Hid (S.val = .pointer pS ∧ Fo M X n d k T S pre (.slice A pre.length c) wr))
 case atStart => exact ⟨T, pT, [], none, 0, rfl, rfl, hd, by simp, HPT.out, HST.out⟩
 case round =>
  obtain ⟨S, pS, pre, A, c, rfl, rfl, hp, rfl, HR⟩ := hrel
  obtain ⟨hpS, hF⟩ := HR.out
  have HKD := Lib.hid (nd.kind wr n S (nd.below hF.ms hF.bel))
  rw [hpS] at HKD
  have HF := Lib.hid hF
  have HPS := Lib.hid hpS
  clear hF hpS HR
  go_wp2_with fail
  refine HKD.out.mono ?_
  rintro _ w1 ⟨rfl, hB1⟩
  have HB1 := Lib.hid hB1
  clear hB1 HKD
  by_cases hk2 : kindT S.tr = 2
  ·obtain ⟨l', hl'⟩ := HF.out.sub
   obtain ⟨hd2, hch⟩ := hl'.child hp hk2 k
   have HGO := Lib.hid (sibs_go k hk2 hd2)
   have HCH := Lib.hid hch
   have HD2 := Lib.hid hd2
   rw [hk2]
   have HBX := Lib.hid (HF.out.bel.trans (HB1.out.mono HF.out.bel.size))
   have HO1 := Lib.hid (HF.out.own.below HB1.out)
   have lk := (HR0.out.below HBX.out).ldKey HK.out
   obtain ⟨p, hpl⟩ : ∃ p, p = pre.length := ⟨_, rfl⟩
   have HPL := Lib.hid hpl
   have hp1 : (d : Int) + (p : Int) ≤ 1000 := by rw [hpl]; omega
   rw [← hpl]
   clear hk2 hl' hch hd2 hpl
   go_wp2_with fail
   refine (pbitK_c k HK.out ((d : Int) + (p : Int)) w1).mono ?_
   rintro _ w2 ⟨rfl, hB2⟩
   obtain ⟨bt, hbt⟩ : ∃ bt, bt = bitK k ((d : Int) + (p : Int)) := ⟨_, rfl⟩
   rw [← hbt]
   have hbt2 : bt = bitK k ((d + pre.length : Nat) : Int) := by rw [hbt, HPL.out]; rfl
   have h01 := bitK_01 k (d + pre.length) HD2.out
   rw [← hbt2] at h01
   have hb1 : 0 ≤ bt := by omega
   have hb2 : bt ≤ 1 := by omega
   have HBT := Lib.hid hbt2
   have HBX2 := Lib.hid (HBX.out.trans (hB2.mono HBX.out.size))
   have HO2 := Lib.hid (OwnT.below HO1.out hB2)
   obtain ⟨pa, hpa⟩ := val_ptr nd (ms_child nd (b := 1 - bt) HF.out.ms)
   obtain ⟨pb, hpb⟩ := val_ptr nd (ms_child nd (b := bt) HF.out.ms)
   have HPA := Lib.hid hpa
   have HPB := Lib.hid hpb
   have HC := Lib.hid (child_c nd w2 n S (1 - bt) (nd.below HF.out.ms HBX2.out))
   rw [HPS.out, HPA.out] at HC
   clear hbt hbt2 h01 hB2 hpa hpb lk HO1 HBX HB1
   go_wp2_with fail
   refine HC.out.mono ?_
   rintro _ w3 ⟨rfl, hB3⟩
   obtain ⟨Z, hZ⟩ : ∃ Z, Z = w3.alloc (.cells #[.pointer pa] 62) := ⟨_, rfl⟩
   have hBZ : Below w2.heap.size w2 Z := by rw [hZ]; exact hB3.alloc hB3.size _
   have hcz : Z.cell? ⟨w3.heap.size, 0, none⟩ = some (.pointer pa) := by rw [hZ, cell_of_cells (heap_alloc_new w3 _)]; rfl
   have HBZ := Lib.hid (HBX2.out.trans (hBZ.mono HBX2.out.size))
   have HOZ := Lib.hid (OwnT.below HO2.out hBZ)
   have HZ := Lib.hid hZ
   have HCZ := Lib.hid hcz
   have HL : Hid (pre.length ≤ 400000) := by show _ ≤ _; omega
   rw [HPL.out]
   clear hZ hBZ hcz hB3 HC HO2
   go_wp2_with (at_builtin; rw [← HZ.out]; refine wpList_pushT rfl _ _ rfl X.heap.size (.slice A pre.length c) pre rfl HOZ.out w3.heap.size (S.child (1 - bt)) pa HPA.out rfl HCZ.out HL.out HBZ.out.size ?_; intro A4 n4 c4 w4 hP; obtain ⟨hn4, _, _⟩ := OwnT.slice hP.own; have HP4 := Lib.hid hP; rw [List.length_append, List.length_singleton] at hn4; subst hn4; clear hP)
   have HBX4 := Lib.hid (HBZ.out.trans HP4.out.bel)
   have HC := Lib.hid (child_c nd w4 n S bt (nd.below HF.out.ms HBX4.out))
   rw [HPS.out, HPB.out] at HC
   refine HC.out.mono ?_
   rintro _ w5 ⟨rfl, hB5⟩
   have HB5 := Lib.hid hB5
   clear hB5 HC
   go_wp2_with fail
   go_roundg (257 - (pre.length + 1))
   case measure => omega
   case rel =>
    refine ⟨S.child bt, pb, pre ++ [S.child (1 - bt)], A4, c4, rfl, by simp, by have := HD2.out; simp; omega, by simp, HPB.out, ?_⟩
    have hg := HGO.out
    rw [← HBT.out] at hg
    have hl : (pre ++ [S.child (1 - bt)]).length = pre.length + 1 := by simp
    refine ⟨by rw [hl, HBT.out]; exact HCH.out, by rw [hl, HF.out.sib, hg.1, List.append_assoc]; rfl, by rw [hl, HF.out.fin, hg.2]; rfl, ms_child nd HF.out.ms, ?_, HBX4.out.trans (HB5.out.mono HBX4.out.size)⟩
    rw [hl]
    exact OwnT.below HP4.out.own HB5.out
  ·have HST := Lib.hid (sibs_stop k (d + pre.length) hk2)
   obtain ⟨kd, hkd⟩ : ∃ kd, kd = kindT S.tr := ⟨_, rfl⟩
   rw [← hkd] at hk2 ⊢
   have kb : (kd == 2) = false := by simpa using hk2
   clear hkd hk2
   go_wp2_with fail
   go_ret2
   have hs : T.sibs k d = pre := by rw [HF.out.sib, HST.out.1, List.append_nil]
   refine ⟨A, c, by rw [HF.out.fin, HST.out.2, HPS.out, hs]; rfl, ?_, HB0.out.trans ((HF.out.bel.trans (HB1.out.mono HF.out.bel.size)).mono HB0.out.size)⟩
   rw [hs]
   have := HF.out.own.below HB1.out
   exact OwnT.lower this (Nat.le_of_lt HS0.out)
end
section
open Go.RowKit Go.Shelf
def nilC (j : Nat) : Array Value := (List.replicate j (Value.pointer none)).toArray
theorem make_nils (j : Nat) (hj : j ≤ 1000) (m d : Int) (h : m - d = (j : Int)) (w : World) : (Instr.makeSlice 182 (.int .i64 (m - d)) (.int .i64 (m - d + 1))).run Tryz.prog w = .ok (.slice (some ⟨w.heap.size, 0, none⟩) j (j + 1)) (w.alloc (.cells (nilC (j + 1)) 62)) := by
 obtain ⟨i, hi, hzz⟩ := Option.map_eq_some_iff.1 infoPn
 simp only [Prod.mk.injEq] at hzz
 obtain ⟨hz, hs, hb⟩ := hzz
 rw [h, show ((j : Int) + 1) = ((j + 1 : Nat) : Int) from rfl]
 have hr := run_make (P := Tryz.prog) w 182 62 i (.pointer none) Tryz.underlying182 hi hz .i64 .i64 j (j + 1 : Nat) (by omega) (by omega) (by rw [hb]; omega) (by omega)
 rw [Int.toNat_natCast, Int.toNat_natCast, hs, Nat.mul_one] at hr
 rw [hr]
 have : madeCells (Value.pointer none).cells (j + 1) = nilC (j + 1) := by
  apply Array.toList_inj.1
  rw [show (Value.pointer none).cells = #[Value.pointer none] from rfl, toList_madeCells_one]
  rfl
 rw [this]
theorem own_nils (w : World) (j : Nat) (hj : j ≤ 1000) : OwnT (w.alloc (.cells (nilC (j + 1)) 62)) w.heap.size (.slice (some ⟨w.heap.size, 0, none⟩) j (j + 1)) (List.replicate j .nil) := by
 have hl : (List.replicate j Tv.nil).length = j := List.length_replicate
 refine ⟨by simp, .inr ⟨w.heap.size, j + 1, nilC (j + 1), by rw [hl], Nat.le_refl _, heap_alloc_new w _, by omega, by unfold maxLen; omega, by simp [nilC], ?_⟩⟩
 rw [hl, Nat.mul_one, List.map_replicate]
 show (List.replicate (j + 1) (Value.pointer none)).take j = List.replicate j (Value.pointer none)
 rw [List.take_replicate, Nat.min_eq_left (Nat.le_succ j)]
theorem below_keep {B : Nat} {a b : World} (h : Below B a b) : Keep (fun i => B ≤ i) a b := ⟨h.os, h.tape, h.output, h.size, fun i _ hl => h.block i (by omega)⟩
theorem pair_c {M : World → Int → Tv → Prop} (nd : NdV M) (w : World) (b : Nat) (n : Int) (c d : Nat) (u v : Value) (x y : Ent) (hh : Hs w b n c) (hc : c ≤ 80000000) (hv : Vars w) (hMu : M w n (.leaf u x)) (hMv : M w n (.leaf v y)) (hne : x.k ≠ y.k) (hd : d ≤ comK x.k y.k) :
  Calls Tryz.prog 99 #[ptr b, u, v, .int .i64 (d : Int)] w fun e w' => ∃ (T' : Tv) (c' : Nat), e = .returned T'.val ∧ T'.tr = growT (257 - d) [x, y] d ∧ M w' n T' ∧ c' ≤ c + 3 * (comK x.k y.k - d + 1) ∧ Hs w' b n c' ∧ Keep (fun i => i = b) w w' ∧
   ∀ w2, Keep (fun i => i < w.heap.size) w' w2 → M w2 n (.leaf u x) → M w2 n (.leaf v y) → M w2 n T' := by
 obtain ⟨pu, hpu'⟩ : ∃ p, u = .pointer p := val_ptr nd hMu
 obtain ⟨pv, hpv'⟩ : ∃ p, v = .pointer p := val_ptr nd hMv
 subst hpu' hpv'
 have hpu : (Tv.leaf (.pointer pu) x).val = .pointer pu := rfl
 have hpv : (Tv.leaf (.pointer pv) y).val = .pointer pv := rfl
 obtain ⟨hxk, _⟩ := nd.key hMu
 obtain ⟨hyk, _⟩ := nd.key hMv
 have hlt := com_lt hxk hyk hne
 obtain ⟨g, hg⟩ : ∃ g, g = x.k ++ digL n (valL x.v) := ⟨_, rfl⟩
 obtain ⟨f, hf⟩ : ∃ f, f = y.k ++ digL n (valL y.v) := ⟨_, rfl⟩
 have fx : ∀ w, (Instr.field 125 (.agg (bA g)) 0).run Tryz.prog w = .ok (.agg (bA x.k)) w := fun w => by
  rw [hg, field_leafKey _ (by rw [List.length_append, hxk, dig_len]) w, List.take_append_of_le_length (by omega), List.take_of_length_le (by omega)]
 have fy : ∀ w, (Instr.field 125 (.agg (bA f)) 0).run Tryz.prog w = .ok (.agg (bA y.k)) w := fun w => by
  rw [hf, field_leafKey _ (by rw [List.length_append, hyk, dig_len]) w, List.take_append_of_le_length (by omega), List.take_of_length_le (by omega)]
 have HLX : Hid (Calls Tryz.prog 69 #[.pointer pu] w fun e w' => e = .returned (.agg (bA g)) ∧ Below w.heap.size w w') := by
  have := nd.leafOf w n (.leaf (.pointer pu) x) hMu
  rw [hpu] at this
  rw [hg]
  exact this
 have HLY : Hid (∀ q, Below w.heap.size w q → Calls Tryz.prog 69 #[.pointer pv] q fun e w' => e = .returned (.agg (bA f)) ∧ Below q.heap.size q w') := fun q hq => by
  have := nd.leafOf q n (.leaf (.pointer pv) y) (nd.below hMv hq)
  rw [hpv] at this
  rw [hf]
  exact this
 have HCM : Hid (∀ q, Calls Tryz.prog 119 #[.agg (bA x.k), .agg (bA y.k)] q fun e w' => e = .returned (.int .i64 (comK x.k y.k : Int)) ∧ Below q.heap.size q w') := fun q => by
  have := Bt.common_c (keyF x.k) (keyF y.k) (keyF_byt _) (keyF_byt _) q
  rwa [← bA_key x.k hxk, ← bA_key y.k hyk] at this
 have st : ∀ w : World, stA 40 (w.alloc (.cells (Bt.kc Bt.kz) 40)) (.pointer (some ⟨w.heap.size, 0, none⟩)) (.agg (bA x.k)) = .ok .skip (w.alloc (.cells (bA x.k) 40)) := fun w =>
  stA_new (t := 40) w (Bt.kc Bt.kz) (bA x.k) (by rw [bA_size, hxk]; exact infoKey) (by rw [bA_size, hxk]; rfl) (bA_one _)
 have HXK := Lib.hid hxk
 have HYK := Lib.hid hyk
 have HLT := Lib.hid hlt
 have HH := Lib.hid hh
 have HC := Lib.hid hc
 have HV := Lib.hid hv
 have HMU := Lib.hid hMu
 have HMV := Lib.hid hMv
 have HNE := Lib.hid hne
 have HD := Lib.hid hd
 have HPU := Lib.hid hpu
 have HPV := Lib.hid hpv
 unfold ptr
 clear hpu hpv hxk hyk hlt hg hf hh hc hv hMu hMv hne hd
 go_enter Tryz.func99, Tryz.ntmps99
 go_wp2_with fail
 refine HLX.out.mono ?_
 rintro _ w1 ⟨rfl, hB1⟩
 have HB1 := Lib.hid hB1
 clear hB1 HLX
 obtain ⟨X, hX⟩ : ∃ X, X = w1.alloc (.cells (bA x.k) 40) := ⟨_, rfl⟩
 have hbX : Below w1.heap.size w1 X := by rw [hX]; exact (Below.refl _ _).alloc (Nat.le_refl _) _
 have hr0 : RowB X w1.heap.size 40 x.k := by rw [hX]; exact RowB.alloc w1 x.k _
 have hsX : w1.heap.size < X.heap.size := by rw [hX]; simp
 have HX := Lib.hid hX
 have HBX := Lib.hid (HB1.out.trans (hbX.mono HB1.out.size))
 have HR0 := Lib.hid hr0
 have HSX := Lib.hid hsX
 clear hX hbX hr0 hsX
 go_wp2_with fail
 rw [← HX.out]
 clear HX st
 have la : ∀ q : Later X, ldA 40 q.w (.pointer (some ⟨w1.heap.size, 0, none⟩)) = .ok (.value (.agg (bA x.k))) q.w := fun q => (HR0.out.below q.h).ldKey HXK.out
 have HL2 : Hid (∀ q : Later X, Calls Tryz.prog 69 #[.pointer pv] q.w fun e w'' => e = .returned (.agg (bA f)) ∧ ∃ z : Later X, w'' = z.w) := fun q => Later.call (HLY.out q.w (HBX.out.trans (q.h.mono HBX.out.size)))
 refine wp_region_later (by kernel_rfl) (by kernel_rfl) ?_
 repeat (go_big_quiet_step ((first | (go_at_call 69; exact HL2.out _) | (go_at_call 119; exact Later.call (HCM.out _)))))
 refine wpQuiet_nil ?_
 rintro _ ⟨X2, rfl⟩
 obtain ⟨j, hj⟩ : ∃ j, d + j = comK x.k y.k := ⟨comK x.k y.k - d, by have := HD.out; omega⟩
 obtain ⟨m, hm⟩ : ∃ m : Int, m = (comK x.k y.k : Int) := ⟨_, rfl⟩
 rw [← hm]
 have hj0 : j ≤ 256 := by have := HLT.out; omega
 have f1 : ∀ (ts : Array TypeId) (t : TypeId) (W : World), (Builtin.min_ ts t #[.int .i64 (d : Int), .int .i64 m]).run Tryz.prog W = .ok (.int .i64 (d : Int)) W := fun ts t W => by
  rw [run_min_int2]
  congr 2
  omega
 have f2 : ∀ (ts : Array TypeId) (t : TypeId) (W : World), (Builtin.max_ ts t #[.int .i64 0, .int .i64 (d : Int)]).run Tryz.prog W = .ok (.int .i64 (d : Int)) W := fun ts t W => by
  rw [run_max_int2]
  congr 2
  omega
 have m0 : m ≤ 1000 := by have := HLT.out; omega
 have m1 : (d : Int) ≤ m := by omega
 have HJ := Lib.hid hj
 have HJ0 := Lib.hid hj0
 obtain ⟨W1, hW1⟩ : ∃ W1, W1 = X2.w := ⟨_, rfl⟩
 have HB1W : Hid (Below w.heap.size w W1) := by show Below _ _ _; rw [hW1]; exact HBX.out.trans (X2.h.mono HBX.out.size)
 have HRK : Hid (RowB W1 w1.heap.size 40 x.k) := by show RowB _ _ _ _; rw [hW1]; exact HR0.out.below X2.h
 rw [← hW1]
 have hmk := make_nils j (by omega) m (d : Int) (by omega) W1
 obtain ⟨sv, hsv⟩ : ∃ sv, sv = Value.slice (some ⟨W1.heap.size, 0, none⟩) j (j + 1) := ⟨_, rfl⟩
 rw [← hsv] at hmk
 obtain ⟨Y, hY⟩ : ∃ Y, Y = W1.alloc (.cells (nilC (j + 1)) 62) := ⟨_, rfl⟩
 have HOY : Hid (OwnT Y W1.heap.size sv (List.replicate j .nil)) := by show OwnT _ _ _ _; rw [hY, hsv]; exact own_nils W1 j (by omega)
 have HYB : Hid (Below W1.heap.size W1 Y) := by show Below _ _ _; rw [hY]; exact (Below.refl _ _).alloc (Nat.le_refl _) _
 have HY := Lib.hid hY
 have LK : Hid (∀ q, Keep (fun i => i = b) W1 q → ldA 40 q (.pointer (some ⟨w1.heap.size, 0, none⟩)) = .ok (.value (.agg (bA x.k))) q) := fun q hq => by
  have hb := lt_of_heap HH.out
  have := HB1.out.size
  have h1 : RowB q w1.heap.size 40 x.k := hq.heap HRK.out (by show w1.heap.size ≠ b; omega)
  exact h1.ldKey HXK.out
 clear la HL2 hY hW1 hm hj hj0 hsv
 go_wp2_with fail
 rw [← HY.out]
 clear hmk f1 f2 m0 m1
 have hb0 : Keep (fun i => i = b) W1 Y.drew := (Keep.of_below HYB.out).drew
 have HB0 := Lib.hid hb0
 refine region_heldT 10 (fun w' => Keep (fun i => i = b) W1 w') (by kernel_rfl) ?_
 have hHeld := hb0
 refine HeldT.take (i := 0) (oi := { dst := some 32, op := .move (.tmp 0), .. }) (v := ?_) rfl (by kernel_rfl) (by kernel_rfl) (by kernel_rfl) (by kernel_rfl) (fun _ _ _ h => h) (Or.inl ⟨by rfl, ?_⟩) (by assumption) ?_
 rotate_left 1
 ·intro v hSv
  clear hSv
  go_simp
  try with_reducible rfl
 try simp only [Act.put, x_A, x_0, x_1]
 refine HeldT.take (i := 1) (oi := { dst := some 33, op := .load _ (.tmp 9), .. }) (v := ?_) rfl (by kernel_rfl) (by kernel_rfl) (by kernel_rfl) (by kernel_rfl) (fun _ _ _ h => h) (Or.inl ⟨by rfl, ?_⟩) (by assumption) ?_
 rotate_left 1
 ·intro v hSv
  have hv1 := LK.out v hSv
  clear hSv
  go_simp
  try with_reducible rfl
 try simp only [Act.put, x_A, x_0, x_1]
 refine HeldT.take (i := 2) (oi := { dst := some 34, op := .move (.tmp 3), .. }) (v := ?_) rfl (by kernel_rfl) (by kernel_rfl) (by kernel_rfl) (by kernel_rfl) (fun _ _ _ h => h) (Or.inl ⟨by rfl, ?_⟩) (by assumption) ?_
 rotate_left 1
 ·intro v hSv
  clear hSv
  go_simp
  try with_reducible rfl
 try simp only [Act.put, x_A, x_0, x_1]
 refine HeldT.take (i := 3) (oi := { dst := some 35, op := .move (.tmp 11), .. }) (v := ?_) rfl (by kernel_rfl) (by kernel_rfl) (by kernel_rfl) (by kernel_rfl) (fun _ _ _ h => h) (Or.inl ⟨by rfl, ?_⟩) (by assumption) ?_
 rotate_left 1
 ·intro v hSv
  clear hSv
  go_simp
  try with_reducible rfl
 try simp only [Act.put, x_A, x_0, x_1]
 refine HeldT.take (i := 4) (oi := { dst := some 36, op := .move (.tmp 2), .. }) (v := ?_) rfl (by kernel_rfl) (by kernel_rfl) (by kernel_rfl) (by kernel_rfl) (fun _ _ _ h => h) (Or.inl ⟨by rfl, ?_⟩) (by assumption) ?_
 rotate_left 1
 ·intro v hSv
  clear hSv
  go_simp
  try with_reducible rfl
 try simp only [Act.put, x_A, x_0, x_1]
 refine HeldT.take (i := 8) (oi := { dst := some 40, op := .move (.tmp 1), .. }) (v := ?_) rfl (by kernel_rfl) (by kernel_rfl) (by kernel_rfl) (by kernel_rfl) (fun _ _ _ h => h) (Or.inl ⟨by rfl, ?_⟩) (by assumption) ?_
 rotate_left 1
 ·intro v hSv
  clear hSv
  go_simp
  try with_reducible rfl
 try simp only [Act.put, x_A, x_0, x_1]
 refine HeldT.one (i := 5) (o := { dst := some 37, op := .buildSlice _ _ _, .. }) (by kernel_rfl) rfl rfl (fun K hK => ?_)
 obtain ⟨Z, hZ⟩ : ∃ Z, Z = (Y.alloc (.cells #[.pointer pv] 62)).drew := ⟨_, rfl⟩
 have hYZ : Below Y.heap.size Y Z := by rw [hZ]; exact ((Below.refl _ _).alloc (Nat.le_refl _) _).drew
 have hzn : Z.cell? ⟨Y.heap.size, 0, none⟩ = some (.pointer pv) := by rw [hZ, cell_of_cells (show (Y.alloc (.cells #[.pointer pv] 62)).drew.heap[Y.heap.size]? = _ from heap_alloc_new Y _)]; rfl
 have hb1 : Keep (fun i => i = b) W1 Z := (Keep.of_below HYB.out).trans (Keep.of_below hYZ)
 have HZ := Lib.hid hZ
 have HYZ := Lib.hid hYZ
 have HZN := Lib.hid hzn
 have HB1Z := Lib.hid hb1
 clear hZ hYZ hzn
 go_wp2_with fail
 rw [← HZ.out]
 refine hK.out _ _ (fun _ => hb1) (fun hS => ?_)
 have hHeld := hS (by decide)
 clear hS hK K
 try simp only [Act.put, x_A, x_0, x_1]
 refine HeldT.one (i := 6) (o := { dst := some 38, op := .call _, .. }) (by kernel_rfl) rfl rfl (fun K hK => ?_)
 clear hb1 hb0
 have HOZ := Lib.hid (HOY.out.below HYZ.out)
 have hzs : W1.heap.size ≤ Z.heap.size := Nat.le_trans HYB.out.size HYZ.out.size
 have hzn := HZN.out
 have HLL : Hid ((List.replicate j Tv.nil).length ≤ 400000) := by show _ ≤ _; rw [List.length_replicate]; have := HJ0.out; omega
 go_wp2_with (at_builtin; refine wpList_pushT rfl _ _ rfl W1.heap.size sv (List.replicate j .nil) rfl HOZ.out Y.heap.size (.leaf (.pointer pv) y) pv HPV.out rfl hzn HLL.out hzs ?_; intro A nn cc w3 hP)
 obtain ⟨hnn, hpa3, hblk⟩ := OwnT.slice hP.own
 have hb3 : Keep (fun i => i = b) W1 w3 := HB1Z.out.step (below_keep hP.bel) fun i hi => .inr hi
 have HB3 := Lib.hid hb3
 have HBW3 := Lib.hid (((HYB.out.trans (HYZ.out.mono HYB.out.size))).trans hP.bel)
 have HPA3 := Lib.hid hpa3
 have HBLK := Lib.hid hblk
 have hnl : nn = j + 1 := by rw [hnn]; simp
 have HNN := Lib.hid hnn
 clear hP hnn hpa3 hblk hnl hzn hzs HOZ
 refine hK.out _ _ (fun _ => hb3) (fun hS => ?_)
 have hHeld := hS (by decide)
 clear hS hK K
 try simp only [Act.put, x_A, x_0, x_1]
 refine HeldT.one (i := 7) (o := { dst := some 39, op := .call _, .. }) (by kernel_rfl) rfl rfl (fun K hK => ?_)
 clear hb3
 have HJC := Lib.hid (joining_c b x.k d A nn cc w3)
 unfold ptr cloV at HJC
 go_wp2_with fail
 refine HJC.out.mono ?_
 rintro e w4 ⟨rfl, hjn, hB4⟩
 have hb4 : Keep (fun i => i = b) W1 w4 := HB3.out.trans (Keep.of_below hB4)
 have HB4 := Lib.hid hb4
 have HJN := Lib.hid hjn
 have HPA4 := Lib.hid (HPA3.out.below hB4)
 have HB34 := Lib.hid hB4
 clear hjn hB4 HJC
 go_wp2_with fail
 refine hK.out _ _ (fun _ => hb4) (fun hS => ?_)
 have hHeld := hS (by decide)
 clear hS hK K
 try simp only [Act.put, x_A, x_0, x_1]
 clear hb4
 refine HeldT.one (i := 9) (o := { dst := some 41, op := .call _, .. }) (by kernel_rfl) rfl rfl (fun K hK => ?_)
 have HJD : Hid (Calls Tryz.prog 135 #[.pointer pu, ptr (w3.heap.size + 3), ptr (w3.heap.size + 1), ptr (w3.heap.size + 2), ptr w3.heap.size] w4 fun e w' => ∃ (T' : Tv) (c' : Nat) (p' : Option Addr), e = .returned (.pointer p') ∧ T'.val = .pointer p' ∧ T'.tr = growT (257 - d) [x, y] d ∧ M w' n T' ∧ c' ≤ c + 3 * (comK x.k y.k - d + 1) ∧ Hs w' b n c' ∧ Keep (fun i => i = b) w4 w' ∧
   ∀ w2, Keep (fun i => i < w.heap.size) w' w2 → M w2 n (.leaf (.pointer pu) x) → M w2 n (.leaf (.pointer pv) y) → M w2 n T') := by
  have hbw4 : Below w.heap.size w w4 := (HB1W.out.trans (HBW3.out.mono HB1W.out.size)).trans (HB34.out.mono (Nat.le_trans HB1W.out.size HBW3.out.size))
  have hhb := lt_of_heap HH.out
  have hs1 := HB1W.out.size
  have hs3 := HBW3.out.size
  have hm : ∀ T ∈ List.replicate j Tv.nil ++ [Tv.leaf (.pointer pv) y], T = .nil ∨ T = .leaf (.pointer pv) y := fun T h => by
   rcases List.mem_append.1 h with h | h
   ·exact .inl (List.mem_replicate.1 h).2
   ·exact .inr (List.mem_singleton.1 h)
  have htr : (List.replicate j Tv.nil ++ [Tv.leaf (.pointer pv) y]).map Tv.tr = List.replicate j .nil ++ [.leaf y] := by simp [Tv.tr]
  have hlen : (List.replicate j Tv.nil ++ [Tv.leaf (.pointer pv) y]).length = j + 1 := by simp
  have hjd := HJ.out
  have h1 := joined_c nd w4 b n c x.k d A cc (List.replicate j Tv.nil ++ [Tv.leaf (.pointer pv) y]) (.leaf (.pointer pu) x) w3.heap.size (HH.out.keep (Keep.of_below (L := fun i => False) hbw4) (fun h => h)) (by have := HC.out; omega) (HV.out.below hbw4) (nd.below HMU.out hbw4)
   (fun T h => by
    rcases hm T h with rfl | rfl
    ·exact nd.nil _ _
    ·exact nd.below HMV.out hbw4) (by rw [← HNN.out]; exact HJN.out) (by omega) HPA4.out
   (fun a ha => by have h1 := HBLK.out a ha; have := HB34.out.size; exact ⟨by omega, by omega⟩) HXK.out (by rw [hlen]; have := HLT.out; omega)
   (by rw [htr]
       have : lensT (List.replicate j .nil ++ [.leaf y]) = 1 := by simp [lensT, lenT]
       rw [this]; show 1 + 1 ≤ _; omega)
  rw [htr, hlen, show (Tv.leaf (.pointer pu) x).tr = .leaf x from rfl, ← pair_grow HXK.out HYK.out HNE.out j d HJ.out, HPU.out] at h1
  refine h1.mono fun e w' ⟨T', c', h2, h3, h4, h5, h6, h7, h8⟩ => ?_
  obtain ⟨p', hp'⟩ := val_ptr nd h4
  exact ⟨T', c', p', by rw [h2, hp'], hp', h3, h4, by omega, h6, h7, fun w2 hk hu hv => h8 w2 (hk.mono fun i hi => by have := hbw4.size; omega) hu fun T h => by
   rcases hm T h with rfl | rfl
   ·exact nd.nil _ _
   ·exact hv⟩
 unfold ptr at HJD
 go_wp2_with fail
 refine HJD.out.mono ?_
 rintro e w5 ⟨T', c', p', rfl, hp', htr, hms, hc', hh', hk', haft⟩
 have HF : Hid (T'.val = .pointer p' ∧ T'.tr = growT (257 - d) [x, y] d ∧ M w5 n T' ∧ c' ≤ c + 3 * (comK x.k y.k - d + 1) ∧ Hs w5 b n c' ∧ Keep (fun i => i = b) w w5 ∧ ∀ w2, Keep (fun i => i < w.heap.size) w5 w2 → M w2 n (.leaf (.pointer pu) x) → M w2 n (.leaf (.pointer pv) y) → M w2 n T') :=
  ⟨hp', htr, hms, hc', hh', ((Keep.of_below HB1W.out).trans ((HB4.out.step hk' fun i hi => .inl hi).mono fun i hi => hi)), haft⟩
 have hb5 : Keep (fun i => i = b) W1 w5 := HB4.out.trans hk'
 clear hp' htr hms hc' hh' hk' haft HJD
 go_wp2_with fail
 refine hK.out _ _ (fun _ => hb5) (fun hS => ?_)
 have hHeld := hS (by decide)
 clear hS hK K
 try simp only [Act.put, x_A, x_0, x_1]
 refine HeldT.one (i := 10) (o := { dst := some 8, op := .assign _, .. }) (by kernel_rfl) rfl rfl (fun K hK => ?_)
 go_wp2_with fail
 refine hK.out _ _ (fun h => absurd rfl h) (fun _ => ?_)
 clear hK K
 try simp only [Act.put, x_A, x_0, x_1]
 refine HeldT.done (by kernel_rfl) ?_ _
 go_wp2_with fail
 go_ret
 obtain ⟨e1, e2⟩ := HF.out
 exact ⟨T', c', by rw [e1]; rfl, e2⟩
end
section
open Go.RowKit Go.Shelf
theorem at_end {M : World → Int → Tv → Prop} (nd : NdV M) (w q : World) (b : Nat) (n : Int) (c cq d : Nat) (l : List Ent) (T : Tv) (e : Ent) (j : Nat) (A : Option Addr) (cA : Nat)
  (hw : Hs w b n c) (hc : c ≤ 50000000) (hv : Vars w) (hM : M w n T) (hT : SubMap d l T) (hd : d ≤ 256) (hf : Apt d l e) (hl : l.length ≤ 100000) (hk : Keep (fun i => i = b) w q) (hq : Hs q b n cq) (hcq : cq + 3 * (T.sibs e.k d).length ≤ c + 1000)
  (hj : Jn b e.k d A (T.sibs e.k d).length cA j q) (hbj : b < j) (hpa : PA q A (T.sibs e.k d)) (hA : ∀ a, A = some a → a.block < q.heap.size ∧ a.block ≠ b)
  (E : Tv) (hE : M q n E) (haft : ∀ w2, Keep (fun i => i < w.heap.size) q w2 → M w2 n T → M w2 n E) (htr : growT (257 - d) (putK l e) d = foldT e.k ((T.sibs e.k d).map Tv.tr) d E.tr) :
  Calls Tryz.prog 135 #[E.val, ptr (j + 3), ptr (j + 1), ptr (j + 2), ptr j] q fun x w' => ∃ (T' : Tv) (p' : Option Addr), x = .returned (.pointer p') ∧ T'.val = .pointer p' ∧ SubMap d (putK l e) T' ∧ Made M w b n T T' (c + 1000) w' := by
 have hdep := sibs_len e.k T d
 obtain ⟨_, _, _, hd2, _, _⟩ := put_way T d l hT hd hf
 have hlen := congrArg lenT htr
 rw [foldT_len] at hlen
 have h1 := growT_len (257 - d) (putK l e) d
 have h2 := (putK_perm l e).length_eq
 have h3 : (rmK l e.k).length ≤ l.length := List.length_filter_le _ _
 rw [List.length_cons] at h2
 have hb := lt_of_heap hw
 refine (joined_c nd q b n cq e.k d A cA (T.sibs e.k d) E j hq (by omega) (hv.hs hw hk) hE (fun S hS => nd.hs (ms_sibs nd e.k T d hM S hS) hw hk) hj hbj hpa hA hf.1 (by omega) (by omega)).mono fun x w' ⟨T', c', hx, ht, hm, hc', hh', hk', ha'⟩ => ?_
 obtain ⟨p', hp'⟩ := val_ptr nd hm
 refine ⟨T', p', by rw [hx, hp'], hp', ⟨put_sep hT.sep hf, by rw [ht, htr]⟩, hm, ⟨c', by omega, hh'⟩, hk.trans hk', fun w2 h2 hT2 => ?_⟩
 exact ha' w2 (h2.mono fun i hi => by have := hk.size; omega) (haft w2 ((hk'.mono fun i hi => by have e : i = b := hi; omega).trans h2) hT2) (ms_sibs nd e.k T d hT2)
theorem at_c {M : World → Int → Tv → Prop} (nd : NdV M) (w : World) (b : Nat) (n : Int) (c d : Nat) (l : List Ent) (T : Tv) (e : En) (hh : Hs w b n c) (hc : c ≤ 50000000) (hv : Vars w) (hM : M w n T) (hT : SubMap d l T) (hd : d ≤ 256) (hf : Apt d l e.ent) (hl : l.length ≤ 100000) (he : EnOk w e) (hev : e.v.length ≤ 70000) :
  Calls Tryz.prog 66 #[ptr b, T.val, .agg (enC e).toArray, .int .i64 (d : Int)] w fun x w' => ∃ T', x = .returned T'.val ∧ SubMap d (putK l e.ent) T' ∧ Made M w b n T T' (c + 1000) w' := by
 obtain ⟨pT, hpT⟩ := val_ptr nd hM
 obtain ⟨l', hS', hf', hD', hkS, htr⟩ := put_way T d l hT hd hf
 obtain ⟨S, hS⟩ : ∃ S, S = T.fin e.k d := ⟨_, rfl⟩
 have hS2 : S = T.fin e.ent.k d := hS
 rw [← hS2] at hS' hkS
 have hmS : M w n S := by rw [hS]; exact ms_fin nd e.k hM
 have hmSa : ∀ w2, M w2 n T → M w2 n S := fun w2 h => by rw [hS]; exact ms_fin nd e.k h
 obtain ⟨pS, hpS⟩ := val_ptr nd hmS
 obtain ⟨p, hp⟩ : ∃ p, p = (T.sibs e.k d).length := ⟨_, rfl⟩
 have hdp : d + p = T.dep e.ent.k d := by rw [hp]; exact sibs_len e.k T d
 have hend := put_end hS' hf' hD' hkS
 have hFO := follow_c nd
 obtain ⟨X, hX⟩ : ∃ X, X = w.alloc (.cells (enC e).toArray 42) := ⟨_, rfl⟩
 have hb0 : Below w.heap.size w X := by rw [hX]; exact (Below.refl _ _).alloc (Nat.le_refl _) _
 have hr0 : X.rangeAt w.heap.size 0 (enC e) := by rw [hX]; exact ent_made w e _
 have lk0 := range_key hr0 he.key
 have HFO := Lib.hid (follow_c nd X n d l T e.k (nd.below hM hb0) hT hd he.key)
 rw [← hS, hpS, hpT, ← hp] at HFO
 rw [hX] at lk0
 have HX := Lib.hid hX
 have HB0 := Lib.hid hb0
 have HR0 := Lib.hid hr0
 have HM := Lib.hid hM
 have HT := Lib.hid hT
 have HD := Lib.hid hd
 have HF := Lib.hid hf
 have HL := Lib.hid hl
 have HE := Lib.hid he
 have HEV := Lib.hid hev
 have HH := Lib.hid hh
 have HC := Lib.hid hc
 have HV := Lib.hid hv
 have HMS := Lib.hid hmS
 have HMA := Lib.hid hmSa
 have HPS := Lib.hid hpS
 have HS := Lib.hid hS
 have HP := Lib.hid hp
 have HDP := Lib.hid hdp
 have HD2 := Lib.hid hD'
 have HTR := Lib.hid htr
 have HEND := Lib.hid hend
 have HKS := Lib.hid hkS
 rw [hpT]
 unfold ptr
 clear hX hb0 hr0 hM hT hd hf hl he hev hh hc hv hmS hmSa hpS hS hp hdp hD' htr hend hkS hS' hf' hpT hFO hS2
 go_enter Tryz.func66, Tryz.ntmps66
 go_wp2_with fail
 rw [← HX.out]
 clear HX lk0
 refine HFO.out.mono ?_
 rintro _ w2 ⟨A, cA, rfl, hO, hB2⟩
 obtain ⟨hpl, hpa, hblk⟩ := OwnT.slice hO
 have HPA := Lib.hid hpa
 have HBK := Lib.hid hblk
 have HB2 := Lib.hid (HB0.out.trans (hB2.mono HB0.out.size))
 have HR2 := Lib.hid (range_below HR0.out hB2)
 have lk := range_key HR2.out HE.out.key
 have HJC := Lib.hid (joining_c b e.k d A p cA w2)
 unfold ptr cloV at HJC
 clear hO hB2 hpa hblk hpl HFO
 go_wp2_with fail
 refine HJC.out.mono ?_
 rintro _ w3 ⟨rfl, hjn, hB3⟩
 have HJN := Lib.hid hjn
 have HPA3 := Lib.hid (HPA.out.below hB3)
 have HW23 := Lib.hid hB3
 have HB3 := Lib.hid (HB2.out.trans (hB3.mono HB2.out.size))
 have HR3 := Lib.hid (range_below HR2.out hB3)
 have le := range_ent HR3.out HE.out.key
 have HNL := Lib.hid (nd.leaf w3 b n c e (HH.out.keep (Keep.of_below (L := fun _ => False) HB3.out) fun h => h) (by have := HC.out; omega) (HV.out.below HB3.out) (HE.out.below HB3.out) HEV.out)
 unfold ptr at HNL
 clear hjn hB3 HJC lk
 go_wp2_with fail
 refine HNL.out.mono ?_
 rintro _ w4 ⟨vl, c4, rfl, hml, hc4, hh4, hk4, haft4⟩
 obtain ⟨pl, hpl⟩ : ∃ p, vl = .pointer p := val_ptr nd hml
 subst hpl
 have HML := Lib.hid hml
 have HC4 := Lib.hid hc4
 have HH4 := Lib.hid hh4
 have HK4 := Lib.hid ((Keep.of_below (L := fun i => i = b) HB3.out).trans hk4)
 have HA4 := Lib.hid haft4
 have HBLT := Lib.hid (lt_of_heap HH.out)
 have HJ4 := Lib.hid (HJN.out.keep hk4 fun i hi _ => by show i ≠ b; have := HBLT.out; have := HB2.out.size; omega)
 have HPA4 := Lib.hid ((HH.out.keep (Keep.of_below (L := fun _ => False) HB3.out) fun h => h).pa HPA3.out (fun T h => val_ptr nd (ms_sibs nd e.k _ d HM.out T h)) hk4)
 have HR4 := Lib.hid ((HH.out.keep (Keep.of_below (L := fun _ => False) HB3.out) fun h => h).range HR3.out HE.out.key hk4)
 have HBK4 : Hid (∀ a, A = some a → a.block < w4.heap.size ∧ a.block ≠ b) := fun a ha => by
  have h1 := HBK.out a ha
  have := HW23.out.size
  have := hk4.size
  have := HBLT.out
  have := HB0.out.size
  exact ⟨by omega, by omega⟩
 clear hml hc4 hh4 hk4 haft4 HNL le HPA HJN HPA3 HR3
 go_wp2_with fail
 have HS4 := Lib.hid (nd.hs HMS.out HH.out HK4.out)
 have lk : ∀ q : Later w4, ldA 40 q.w (.pointer (some ⟨w.heap.size, 0, none⟩)) = .ok (.value (.agg (bA e.k))) q.w := fun q => range_key (range_below HR4.out q.h) HE.out.key
 have HKD : Hid (∀ q : Later w4, Calls Tryz.prog 68 #[.pointer pS] q.w fun e w'' => e = .returned (.int .i64 (kindT S.tr)) ∧ ∃ y : Later w4, w'' = y.w) := fun q => by
  have := nd.kind q.w n S (nd.below HS4.out q.h)
  rw [HPS.out] at this
  exact Later.call this
 have HAE : Hid (∀ (q : World) (cq : Nat) (E : Tv), Keep (fun i => i = b) w4 q → Hs q b n cq → cq + 3 * p ≤ c + 1000 → M q n E → (∀ w2, Keep (fun i => i < w.heap.size) q w2 → M w2 n T → M w2 n E) →
   growT (257 - (d + p)) (putK l' e.ent) (d + p : Nat) = E.tr → Calls Tryz.prog 135 #[E.val, ptr (w2.heap.size + 3), ptr (w2.heap.size + 1), ptr (w2.heap.size + 2), ptr w2.heap.size] q fun x w' => ∃ (T' : Tv) (p' : Option Addr), x = .returned (.pointer p') ∧ T'.val = .pointer p' ∧ SubMap d (putK l e.ent) T' ∧ Made M w b n T T' (c + 1000) w') := fun q cq E hk hq hcq hE haft hg => by
  have hb := HBLT.out
  have h2 := HB2.out.size
  have h0 := HB0.out.size
  have hjq : Jn b e.k d A (T.sibs e.k d).length cA w2.heap.size q := by rw [← HP.out]; exact HJ4.out.keep hk fun i hi _ => by show i ≠ b; omega
  have hlq : cq + 3 * (T.sibs e.k d).length ≤ c + 1000 := by rw [← HP.out]; exact hcq
  have htq : growT (257 - d) (putK l e.ent) d = foldT e.k ((T.sibs e.k d).map Tv.tr) d E.tr := by rw [← hg, HDP.out]; exact HTR.out
  exact at_end nd w q b n c cq d l T e.ent w2.heap.size A cA HH.out HC.out HV.out HM.out HT.out HD.out HF.out HL.out (HK4.out.trans hk) hq hlq hjq (by omega) (HH4.out.pa HPA4.out (fun T h => val_ptr nd (ms_sibs nd e.k _ d HM.out T h)) hk)
   (fun a ha => by have h := HBK4.out a ha; have := hk.size; exact ⟨by omega, h.2⟩) E hE haft htq
 have HLA : Hid (∀ q w2, Keep (fun i => i = b) w4 q → Keep (fun i => i < w.heap.size) q w2 → M w2 n (.leaf (.pointer pl) e.ent)) := fun q w2 hk h2 => HA4.out w2 (((hk.mono fun i hi => by have e2 : i = b := hi; have := HBLT.out; have := HB3.out.size; omega)).trans (h2.mono fun i hi => by have := HB3.out.size; omega))
 rcases HEND.out with ⟨v, x, hSl, hne, hxk, hcd, hgr⟩ | ⟨hno, hgr⟩
 ·subst hSl
  have hpv : v = .pointer pS := HPS.out
  subst hpv
  have HG := Lib.hid hgr
  have HXK := Lib.hid hxk
  have HCD := Lib.hid hcd
  have HNE := Lib.hid hne
  rw [show kindT (Tv.leaf (.pointer pS) x).tr = 1 from rfl] at HKD
  obtain ⟨g, hg⟩ : ∃ g, g = x.k ++ digL n (valL x.v) := ⟨_, rfl⟩
  have fx : ∀ w, (Instr.field 125 (.agg (bA g)) 0).run Tryz.prog w = .ok (.agg (bA x.k)) w := fun w => by
   rw [hg, field_leafKey _ (by rw [List.length_append, hxk, dig_len]) w, List.take_append_of_le_length (by omega), List.take_of_length_le (by omega)]
  have HLF : Hid (∀ q : Later w4, Calls Tryz.prog 69 #[.pointer pS] q.w fun y w'' => y = .returned (.agg (bA g)) ∧ ∃ z : Later w4, w'' = z.w) := fun q => by
   have := nd.leafOf q.w n (.leaf (.pointer pS) x) (nd.below HS4.out q.h)
   rw [hg]
   exact Later.call this
  have ne : ∀ x' y' w, eqA .neq 40 x' y' w (.agg (bA x.k)) (.agg (bA e.k)) = .ok (.value (.bool true)) w := fun x' y' w => by rw [neKey8 _ _ hxk HE.out.key, decide_eq_false (show ¬ x.k = e.k from hne)]; rfl
  clear hgr hxk hcd hne hg HEND
  refine wp_region_later (by kernel_rfl) (by kernel_rfl) ?_
  repeat (go_big_quiet_step ((first | (go_at_call 68; exact HKD.out _) | (go_at_call 69; exact HLF.out _))))
  refine wpQuiet_nil ?_
  rintro _ ⟨x5, rfl⟩
  have HPR := Lib.hid (pair_c nd x5.w b n c4 (d + p) (.pointer pl) (.pointer pS) e.ent x (HH4.out.keep (Keep.of_below (L := fun _ => False) x5.h) fun h => h) (by have := HC.out; have := HC4.out; omega) ((HV.out.hs HH.out HK4.out).below x5.h) (nd.below HML.out x5.h) (nd.below HS4.out x5.h) (fun h => HNE.out h.symm) (by rw [HDP.out]; exact HCD.out))
  unfold ptr at HPR
  have hp0 : d + p ≤ 1000 := by rw [HDP.out]; have := HD2.out; omega
  have hp1 : (d : Int) + (p : Int) ≤ 1000 := by omega
  clear lk HKD HLF fx ne hp0
  go_wp2_with fail
  refine HPR.out.mono ?_
  rintro _ w6 ⟨T6, c6, rfl, htr6, hm6, hc6, hh6, hk6, haft6⟩
  obtain ⟨p6, hp6⟩ := val_ptr nd hm6
  rw [hp6]
  have HJ6 : Hid (Calls Tryz.prog 135 #[.pointer p6, ptr (w2.heap.size + 3), ptr (w2.heap.size + 1), ptr (w2.heap.size + 2), ptr w2.heap.size] w6 fun x w' => ∃ (T' : Tv) (p' : Option Addr), x = .returned (.pointer p') ∧ T'.val = .pointer p' ∧ SubMap d (putK l e.ent) T' ∧ Made M w b n T T' (c + 1000) w') := by
   have hk46 : Keep (fun i => i = b) w4 w6 := (Keep.of_below x5.h).trans hk6
   have h1 := HAE.out w6 c6 T6 hk46 hh6 (by have := HC4.out; have := HCD.out; have := HDP.out; have := com_lt HE.out.key HXK.out (fun h => HNE.out h.symm); have e : comK e.ent.k x.k = comK e.k x.k := rfl; rw [e] at hc6; omega) hm6
    (fun w2 h2 hT2 => haft6 w2 (h2.mono fun i hi => by have := HK4.out.size; have := x5.h.size; omega) (HLA.out w6 w2 hk46 h2) (HMA.out w2 hT2)) (by rw [htr6, HDP.out]; exact HG.out)
   rwa [hp6] at h1
  unfold ptr at HJ6
  clear htr6 hm6 hc6 hh6 hk6 haft6 hp6 HPR hp1
  go_wp2_with fail
  refine HJ6.out.mono ?_
  rintro _ w7 ⟨T', p', rfl, hp', hI, hm⟩
  have HQ : Hid (T'.val = .pointer p' ∧ SubMap d (putK l e.ent) T' ∧ Made M w b n T T' (c + 1000) w7) := ⟨hp', hI, hm⟩
  clear hp' hI hm HJ6
  go_wp2_with fail
  go_ret
  exact ⟨T', by rw [HQ.out.1]; rfl, HQ.out.2⟩
 ·have HJL : Hid (∀ q, Below w4.heap.size w4 q → Calls Tryz.prog 135 #[.pointer pl, ptr (w2.heap.size + 3), ptr (w2.heap.size + 1), ptr (w2.heap.size + 2), ptr w2.heap.size] q fun x w' => ∃ (T' : Tv) (p' : Option Addr), x = .returned (.pointer p') ∧ T'.val = .pointer p' ∧ SubMap d (putK l e.ent) T' ∧ Made M w b n T T' (c + 1000) w') := fun q hq =>
   HAE.out q c4 (.leaf (.pointer pl) e.ent) (Keep.of_below hq) (HH4.out.keep (Keep.of_below (L := fun _ => False) hq) fun h => h) (by have := HC4.out; have := HDP.out; have := HD2.out; omega) (nd.below HML.out hq) (fun w2 h2 _ => HLA.out q w2 (Keep.of_below hq) h2) (by rw [HDP.out, hgr]; rfl)
  have hks := HKS.out
  clear hgr HEND
  cases S with
  | inner v a b => exact absurd rfl hks
  | nil =>
   rw [show kindT Tv.nil.tr = 0 from rfl] at HKD
   clear hno hks
   refine wp_region_later (by kernel_rfl) (by kernel_rfl) ?_
   repeat (go_big_quiet_step ((go_at_call 68; exact HKD.out _)))
   refine wpQuiet_nil ?_
   rintro _ ⟨x5, rfl⟩
   have HJ5 := Lib.hid (HJL.out x5.w x5.h)
   unfold ptr at HJ5
   clear lk HKD
   go_wp2_with fail
   refine HJ5.out.mono ?_
   rintro _ w7 ⟨T', p', rfl, hp', hI, hm⟩
   have HQ : Hid (T'.val = .pointer p' ∧ SubMap d (putK l e.ent) T' ∧ Made M w b n T T' (c + 1000) w7) := ⟨hp', hI, hm⟩
   clear hp' hI hm HJ5
   go_wp2_with fail
   go_ret
   exact ⟨T', by rw [HQ.out.1]; rfl, HQ.out.2⟩
  | leaf v x =>
   have hpv : v = .pointer pS := HPS.out
   subst hpv
   have hxe := hno _ _ rfl
   have hxk := (nd.key HS4.out).1
   rw [show kindT (Tv.leaf (.pointer pS) x).tr = 1 from rfl] at HKD
   obtain ⟨g, hg⟩ : ∃ g, g = x.k ++ digL n (valL x.v) := ⟨_, rfl⟩
   have fx : ∀ w, (Instr.field 125 (.agg (bA g)) 0).run Tryz.prog w = .ok (.agg (bA x.k)) w := fun w => by
    rw [hg, field_leafKey _ (by rw [List.length_append, hxk, dig_len]) w, List.take_append_of_le_length (by omega), List.take_of_length_le (by omega)]
   have HLF : Hid (∀ q : Later w4, Calls Tryz.prog 69 #[.pointer pS] q.w fun y w'' => y = .returned (.agg (bA g)) ∧ ∃ z : Later w4, w'' = z.w) := fun q => by
    have := nd.leafOf q.w n (.leaf (.pointer pS) x) (nd.below HS4.out q.h)
    rw [hg]
    exact Later.call this
   have ne : ∀ x' y' w, eqA .neq 40 x' y' w (.agg (bA x.k)) (.agg (bA e.k)) = .ok (.value (.bool false)) w := fun x' y' w => by rw [neKey8 _ _ hxk HE.out.key, decide_eq_true (show x.k = e.k from hxe)]; rfl
   clear hno hks hxe hxk hg
   refine wp_region_later (by kernel_rfl) (by kernel_rfl) ?_
   repeat (go_big_quiet_step ((first | (go_at_call 68; exact HKD.out _) | (go_at_call 69; exact HLF.out _))))
   clear HLF fx ne
   refine wpQuiet_nil ?_
   rintro _ ⟨x5, rfl⟩
   have HJ5 := Lib.hid (HJL.out x5.w x5.h)
   unfold ptr at HJ5
   clear lk HKD
   go_wp2_with fail
   refine HJ5.out.mono ?_
   rintro _ w7 ⟨T', p', rfl, hp', hI, hm⟩
   have HQ : Hid (T'.val = .pointer p' ∧ SubMap d (putK l e.ent) T' ∧ Made M w b n T T' (c + 1000) w7) := ⟨hp', hI, hm⟩
   clear hp' hI hm HJ5
   go_wp2_with fail
   go_ret
   exact ⟨T', by rw [HQ.out.1]; rfl, HQ.out.2⟩
end
section
open Go.RowKit Go.Shelf
theorem put9_c {M : World → Int → Tv → Prop} (nd : NdV M) (w : World) (b : Nat) (n : Int) (c : Nat) (l : List Ent) (T : Tv) (e : En) (hh : Hs w b n c) (hc : c ≤ 50000000) (hv : Vars w) (hM : M w n T) (hT : IsMap l T) (hl : l.length ≤ 100000) (he : EnOk w e) (hev : e.v.length ≤ 70000) :
  Calls Tryz.prog 43 #[ptr b, T.val, .agg (enC e).toArray] w fun x w' => ∃ T', x = .returned T'.val ∧ IsMap (putK l e.ent) T' ∧ Made M w b n T T' (c + 1000) w' := by
 obtain ⟨pT, hpT⟩ := val_ptr nd hM
 obtain ⟨X, hX⟩ : ∃ X, X = w.alloc (.cells (enC e).toArray 42) := ⟨_, rfl⟩
 have hb0 : Below w.heap.size w X := by rw [hX]; exact (Below.refl _ _).alloc (Nat.le_refl _) _
 have hr0 : X.rangeAt w.heap.size 0 (enC e) := by rw [hX]; exact ent_made w e _
 have le := range_ent hr0 he.key
 have HAT : Hid (Calls Tryz.prog 66 #[ptr b, T.val, .agg (enC e).toArray, .int .i64 0] X fun x w' => ∃ T', x = .returned T'.val ∧ SubMap 0 (putK l e.ent) T' ∧ Made M X b n T T' (c + 1000) w') :=
  at_c nd X b n c 0 l T e (hh.keep (Keep.of_below (L := fun _ => False) hb0) fun h => h) hc (hv.below hb0) (nd.below hM hb0) hT.sub (Nat.zero_le _) ⟨he.key, fun a _ i hi _ => absurd hi (by omega)⟩ hl (he.below hb0) hev
 rw [hpT] at HAT
 unfold ptr at HAT
 rw [hX] at le
 have HX := Lib.hid hX
 have HB0 := Lib.hid hb0
 rw [hpT]
 unfold ptr
 clear hX hb0 hr0 hpT hh hc hv hM hT hl he hev
 go_enter Tryz.func43, Tryz.ntmps43
 go_wp2_with fail
 rw [← HX.out]
 clear HX le
 refine HAT.out.mono ?_
 rintro _ w2 ⟨T', rfl, hI, hm⟩
 obtain ⟨p', hp'⟩ := val_ptr nd hm.ms
 rw [hp']
 have HF : Hid (T'.val = .pointer p' ∧ IsMap (putK l e.ent) T' ∧ Made M w b n T T' (c + 1000) w2) := ⟨hp', hI.map, hm.ms, hm.hs, (Keep.of_below HB0.out).trans hm.keep, fun w3 h3 h4 => hm.aft w3 (h3.mono fun i hi => by have := HB0.out.size; omega) h4⟩
 clear hI hm hp' HAT
 go_wp2_with fail
 go_ret
 exact ⟨T', by rw [HF.out.1]; rfl, HF.out.2⟩
theorem pt_c : PtV Mn where
 put := put9_c nd_c
 atd := at_c nd_c
 pair := fun w b n c d u v x y hh hc hv hu hy hne hd => (pair_c nd_c w b n c d u v x y hh (by omega) hv hu hy hne hd).mono fun _ _ ⟨T', c', h1, h2, h3, h4, h5, h6, _⟩ =>
  ⟨T', c', h1, h2, h3, by have := com_lt (nd_c.key hu).1 (nd_c.key hy).1 hne; omega, h5, h6⟩
end
section
open Go.RowKit
def hasK (l : List Ent) (k : List UInt8) : Bool := l.any fun e => decide (e.k = k)
def AptK (d : Int) (l : List Ent) (k : List UInt8) : Prop := k.length = 32 ∧ ∀ a ∈ l, ∀ i : Nat, (i : Int) < d → i < 256 → Bt.bit (keyF a.k) i = Bt.bit (keyF k) i
theorem hasK_no {l : List Ent} {k : List UInt8} (h : hasK l k = false) : ∀ e ∈ l, e.k ≠ k := fun e he hk => by
 have := List.any_eq_false.1 h e he
 simp [hk] at this
theorem hasK_yes {l : List Ent} {k : List UInt8} (h : hasK l k = true) : ∃ e ∈ l, e.k = k := by
 obtain ⟨e, he, h1⟩ := List.any_eq_true.1 h
 exact ⟨e, he, of_decide_eq_true h1⟩
theorem rmK_no {l : List Ent} {k : List UInt8} (h : hasK l k = false) : rmK l k = l := List.filter_eq_self.2 fun e he => by
 have := hasK_no h e he
 simp [this]
def KS (w : World) (A : Option Addr) (ks : List (List UInt8)) : Prop := ∀ i k, ks[i]? = some k → k.length = 32 ∧ ∃ g o, A = some ⟨g, o, none⟩ ∧ w.rangeAt g (o + i * 32) (k.map bv)
theorem KS.below {w w' : World} {A : Option Addr} {ks : List (List UInt8)} (h : KS w A ks) (hb : Below w.heap.size w w') : KS w' A ks := fun i k hi => by
 obtain ⟨h1, g, o, h2, h3⟩ := h i k hi
 exact ⟨h1, g, o, h2, range_below h3 hb⟩
structure RmV (M : World → Int → Tv → Prop) : Prop where
 remove : ∀ (w : World) (b : Nat) (n : Int) (c : Nat) (l : List Ent) (T : Tv) (k : List UInt8), Hs w b n c → c ≤ 50000000 → Vars w → M w n T → IsMap l T → l.length ≤ 100000 → k.length = 32 →
  Calls Tryz.prog 49 #[ptr b, T.val, .agg (bA k)] w fun x w' => ∃ T', x = .returned (.tuple #[T'.val, .bool (hasK l k)]) ∧ IsMap (rmK l k) T' ∧ Made M w b n T T' (c + 1000) w' ∧ (hasK l k = false → T' = T ∧ Hs w' b n c)
 atd : ∀ (w : World) (b : Nat) (n : Int) (c d : Nat) (l : List Ent) (T : Tv) (k : List UInt8), Hs w b n c → c ≤ 50000000 → Vars w → M w n T → SubMap d l T → d ≤ 256 → AptK d l k → l.length ≤ 100000 →
  Calls Tryz.prog 76 #[ptr b, T.val, .agg (bA k), .int .i64 (d : Int)] w fun x w' => ∃ T', x = .returned (.tuple #[T'.val, .bool (hasK l k)]) ∧ SubMap d (rmK l k) T' ∧ Made M w b n T T' (c + 1000) w' ∧ (hasK l k = false → T' = T ∧ Hs w' b n c)
end
section
open Go.RowKit
theorem hasK_part (l : List Ent) (k : List UInt8) (d : Int) : hasK (partK l d (bitK k d)) k = hasK l k := by
 cases h : hasK l k with
 | true =>
  obtain ⟨e, he, hk⟩ := hasK_yes h
  exact List.any_eq_true.2 ⟨e, List.mem_filter.2 ⟨he, by rw [hk]; exact decide_eq_true rfl⟩, decide_eq_true hk⟩
 | false =>
  refine List.any_eq_false.2 fun e he => ?_
  have := hasK_no h e (List.mem_filter.1 he).1
  simp [this]
theorem rm_join {d : Nat} {l : List Ent} {v x : Value} {a b a' b' : Tv} {k : List UInt8} (h : SubMap d l (.inner v a b)) (hd : d ≤ 256)
  (hz : if bitK k d = 0 then SubMap (d + 1) (rmK (partK l d 0) k) a' ∧ b' = b else a' = a ∧ SubMap (d + 1) (rmK (partK l d 1) k) b') : SubMap d (rmK l k) (joinV x a' b') := by
 obtain ⟨h256, ha, hb⟩ := h.inner hd
 refine ⟨rmK_sep h.sep k, ?_⟩
 have hs := rm_step (256 - d) l k (d := d) (by omega) (by omega)
 rw [show 256 - d + 1 = 257 - d by omega] at hs
 rw [joinV_tr, hs]
 by_cases h0 : bitK k d = 0
 ·rw [if_pos h0] at hz ⊢
  obtain ⟨h1, rfl⟩ := hz
  rw [h1.tr, hb.tr, show 257 - (d + 1) = 256 - d by omega]
  rfl
 ·rw [if_neg h0] at hz ⊢
  obtain ⟨rfl, h1⟩ := hz
  rw [h1.tr, ha.tr, show 257 - (d + 1) = 256 - d by omega]
  rfl
def endV (k : List UInt8) : Tv → Tv
 | .leaf v x => if x.k = k then .nil else .leaf v x
 | t => t
def endB (k : List UInt8) : Tv → Bool
 | .leaf _ x => decide (x.k = k)
 | _ => false
theorem end_sub {d : Nat} {l : List Ent} {T : Tv} {k : List UInt8} (h : SubMap d l T) (hd : d ≤ 256) (hk : kindT T.tr ≠ 2) : SubMap d (rmK l k) (endV k T) ∧ endB k T = hasK l k ∧ (hasK l k = false → endV k T = T) := by
 have hl := h.few hd hk
 have ht := h.tr
 match l, hl with
 | [], _ =>
  rw [growT_none] at ht
  cases T with
  | nil => exact ⟨h, rfl, fun _ => rfl⟩
  | leaf v x => cases ht
  | inner v a b => cases ht
 | [x], _ =>
  rw [growT_one] at ht
  cases T with
  | nil => cases ht
  | inner v a b => cases ht
  | leaf v y =>
   have hy : y = x := by injection ht
   subst hy
   by_cases hq : y.k = k
   ·have e1 : rmK [y] k = [] := by simp [rmK, hq]
    have e2 : endV k (.leaf v y) = .nil := by simp [endV, hq]
    have e3 : hasK [y] k = true := by simp [hasK, hq]
    have e4 : endB k (.leaf v y) = true := by simp [endB, hq]
    rw [e1, e2, e3, e4]
    refine ⟨⟨?_, by rw [growT_none]; rfl⟩, rfl, fun h => by cases h⟩
    have := rmK_sep h.sep k
    rwa [e1] at this
   ·have e1 : rmK [y] k = [y] := by simp [rmK, hq]
    have e2 : endV k (.leaf v y) = .leaf v y := by simp [endV, hq]
    have e3 : hasK [y] k = false := by simp [hasK, hq]
    have e4 : endB k (.leaf v y) = false := by simp [endB, hq]
    rw [e1, e2, e3, e4]
    exact ⟨h, rfl, fun _ => rfl⟩
theorem SubMap.len_le {d : Nat} {l : List Ent} {T : Tv} (h : SubMap d l T) : lenT T.tr ≤ l.length := by
 rw [h.tr]
 exact growT_len _ _ _
end
section
open Go.RowKit
theorem ptr_inj10 {g g' : Nat} (h : ptr g = ptr g') : g = g' := by cases h; rfl
theorem bv_inj : ∀ {x y : UInt8}, bv x = bv y → x = y := fun {x y} h => by
 have h1 : (Value.int .u8 (x.toNat : Int)) = .int .u8 (y.toNat : Int) := h
 injection h1 with _ h2
 exact UInt8.toNat_inj.1 (Int.ofNat.inj h2)
theorem map_bv_inj : ∀ {l m : List UInt8}, l.map bv = m.map bv → l = m := fun h => (List.map_inj_right fun _ _ h => bv_inj h).1 h
theorem BA.inj {w : World} {A : Option Addr} {l m : List UInt8} (h : BA w A l) (h' : BA w A m) (hl : l.length = m.length) : l = m := by
 refine List.ext_getElem hl fun i h1 h2 => ?_
 obtain ⟨g, o, rfl, e1⟩ := h i _ (List.getElem?_eq_getElem h1)
 obtain ⟨g', o', hA, e2⟩ := h' i _ (List.getElem?_eq_getElem h2)
 cases hA
 rw [e1] at e2
 exact bv_inj (Option.some.inj e2)
theorem NodeAt.inj {w : World} {g : Nat} {d d' : List UInt8} {c c' : Value} (h : NodeAt w g d c) (h' : NodeAt w g d' c') (hd : d.length = 32) (hd' : d'.length = 32) : c = c' := by
 have h1 := h.cell hd
 rw [h'.cell hd'] at h1
 exact (Option.some.inj h1).symm
theorem Mn.same {w : World} {n : Int} : ∀ {S T : Tv}, Mn w n S → Mn w n T → S.val = T.val → S = T
 | .nil, .nil, _, _, _ => rfl
 | .nil, .leaf v e, _, ⟨g, _, _, hv, _⟩, h => by
  have h1 : Value.pointer none = v := h
  rw [hv] at h1; cases h1
 | .nil, .inner v a b, _, ⟨g, hv, _⟩, h => by
  have h1 : Value.pointer none = v := h
  rw [hv] at h1; cases h1
 | .leaf v e, .nil, ⟨g, _, _, hv, _⟩, _, h => by
  have h1 : v = Value.pointer none := h
  rw [hv] at h1; cases h1
 | .inner v a b, .nil, ⟨g, hv, _⟩, _, h => by
  have h1 : v = Value.pointer none := h
  rw [hv] at h1; cases h1
 | .leaf v e, .leaf v' e', ⟨g, A, c, hv, hg, he, _⟩, ⟨g', A', c', hv', hg', he', _⟩, h => by
  have h1 : v = v' := h
  subst h1
  rw [hv] at hv'
  obtain rfl : g = g' := ptr_inj10 hv'
  have h3 := hg.inj hg' (digT_len _ _) (digT_len _ _)
  injection h3 with _ h3
  injection h3 with h3
  unfold flC at h3
  have h4 := congrArg Array.toList h3
  obtain ⟨h5, h6⟩ := List.append_inj' h4 rfl
  have h7 := map_bv_inj h5
  injection h6 with h6 _
  injection h6 with hA hl hc
  subst hA
  have hk : e.k = e'.k := (List.append_inj h7 (by rw [he.key, he'.key])).1
  have hvv : e.v = e'.v := he.val.inj he'.val (by exact_mod_cast hl)
  cases e; cases e'
  simp_all
 | .leaf v e, .inner v' a b, ⟨g, A, c, hv, hg, he, _⟩, ⟨g', hv', hg', _⟩, h => by
  have h1 : v = v' := h
  subst h1
  rw [hv] at hv'
  obtain rfl : g = g' := ptr_inj10 hv'
  have h3 := hg.inj hg' (digT_len _ _) (digT_len _ _)
  injection h3 with h3 _
  exact absurd h3 (by decide)
 | .inner v a b, .leaf v' e, ⟨g, hv, hg, _⟩, ⟨g', A, c, hv', hg', _⟩, h => by
  have h1 : v = v' := h
  subst h1
  rw [hv] at hv'
  obtain rfl : g = g' := ptr_inj10 hv'
  have h3 := hg.inj hg' (digT_len _ _) (digT_len _ _)
  injection h3 with h3 _
  exact absurd h3 (by decide)
 | .inner v a b, .inner v' a' b', ⟨g, hv, hg, ha, hb⟩, ⟨g', hv', hg', ha', hb'⟩, h => by
  have h1 : v = v' := h
  subst h1
  rw [hv] at hv'
  obtain rfl : g = g' := ptr_inj10 hv'
  have h3 := hg.inj hg' (digT_len _ _) (digT_len _ _)
  injection h3 with _ h3
  injection h3 with h3
  unfold inC at h3
  have h4 := congrArg Array.toList h3
  simp only [List.cons.injEq] at h4
  have ea : a = a' := Mn.same ha ha' h4.1
  have eb : b = b' := Mn.same hb hb' h4.2.1
  rw [ea, eb]
end
section
open Go.RowKit
theorem end10_c {M : World → Int → Tv → Prop} (nd : NdV M) (w : World) (n : Int) (T : Tv) (k : List UInt8) (hM : M w n T) (hk : k.length = 32) (hkd : kindT T.tr ≠ 2) :
  Calls Tryz.prog 108 #[T.val, .agg (bA k)] w fun e w' => e = .returned (.tuple #[(endV k T).val, .bool (endB k T)]) ∧ Below w.heap.size w w' := by
 obtain ⟨pT, hpT⟩ := val_ptr nd hM
 obtain ⟨X, hX⟩ : ∃ X, X = w.alloc (.cells (bA k) 40) := ⟨_, rfl⟩
 have hbX : Below w.heap.size w X := by rw [hX]; exact (Below.refl _ _).alloc (Nat.le_refl _) _
 have hrX : RowB X w.heap.size 40 k := by rw [hX]; exact RowB.alloc w k _
 have lk : ∀ q : Later X, ldA 40 q.w (.pointer (some ⟨w.heap.size, 0, none⟩)) = .ok (.value (.agg (bA k))) q.w := fun q => (hrX.below q.h).ldKey hk
 have HMX := Lib.hid (nd.below hM hbX)
 have HKD : Hid (∀ q : Later X, Calls Tryz.prog 68 #[.pointer pT] q.w fun e w'' => e = .returned (.int .i64 (kindT T.tr)) ∧ ∃ y : Later X, w'' = y.w) := fun q => by
  have := nd.kind q.w n T (nd.below HMX.out q.h)
  rw [hpT] at this
  exact Later.call this
 have HX := Lib.hid hX
 have HBX := Lib.hid hbX
 rw [hpT]
 clear hX hbX hrX
 go_enter Tryz.func108, Tryz.ntmps108
 go_wp2_with fail
 rw [← HX.out]
 clear HX
 cases T with
 | inner v a b => exact absurd rfl hkd
 | nil =>
  rw [show kindT Tv.nil.tr = 0 from rfl] at HKD
  have hp : Value.pointer none = .pointer pT := hpT
  injection hp with hp
  subst hp
  clear hM hkd hpT
  refine wp_region_later (by kernel_rfl) (by kernel_rfl) ?_
  repeat (go_big_quiet_step ((go_at_call 68; exact HKD.out _)))
  refine wpQuiet_nil ?_
  rintro _ ⟨x5, rfl⟩
  have HF := Lib.hid (HBX.out.trans (x5.h.mono HBX.out.size))
  clear lk HKD
  go_wp2_with fail
  go_ret2
  exact ⟨rfl, HF.out⟩
 | leaf v x =>
  have hpv : v = .pointer pT := hpT
  subst hpv
  have hxk := (nd.key hM).1
  rw [show kindT (Tv.leaf (.pointer pT) x).tr = 1 from rfl] at HKD
  obtain ⟨g, hg⟩ : ∃ g, g = x.k ++ digL n (valL x.v) := ⟨_, rfl⟩
  have fx : ∀ w, (Instr.field 125 (.agg (bA g)) 0).run Tryz.prog w = .ok (.agg (bA x.k)) w := fun w => by
   rw [hg, field_leafKey _ (by rw [List.length_append, hxk, dig_len]) w, List.take_append_of_le_length (by omega), List.take_of_length_le (by omega)]
  have HLF : Hid (∀ q : Later X, Calls Tryz.prog 69 #[.pointer pT] q.w fun y w'' => y = .returned (.agg (bA g)) ∧ ∃ z : Later X, w'' = z.w) := fun q => by
   have := nd.leafOf q.w n (.leaf (.pointer pT) x) (nd.below HMX.out q.h)
   rw [hg]
   exact Later.call this
  by_cases hq : x.k = k
  ·have ne : ∀ x' y' w, eqA .eql 40 x' y' w (.agg (bA x.k)) (.agg (bA k)) = .ok (.value (.bool true)) w := fun x' y' w => by rw [eqKey _ _ hxk hk, decide_eq_true hq]
   have HE : Hid ((endV k (.leaf (.pointer pT) x)).val = .pointer none ∧ endB k (.leaf (.pointer pT) x) = true) := ⟨by simp [endV, hq, Tv.val], by simp [endB, hq]⟩
   clear hM hkd hpT hxk hg hq hk
   refine wp_region_later (by kernel_rfl) (by kernel_rfl) ?_
   repeat (go_big_quiet_step ((first | (go_at_call 68; exact HKD.out _) | (go_at_call 69; exact HLF.out _))))
   refine wpQuiet_nil ?_
   rintro _ ⟨x5, rfl⟩
   have HF := Lib.hid (HBX.out.trans (x5.h.mono HBX.out.size))
   clear lk HKD HLF fx ne
   go_wp2_with fail
   go_ret2
   exact ⟨by rw [HE.out.1, HE.out.2]; rfl, HF.out⟩
  ·have ne : ∀ x' y' w, eqA .eql 40 x' y' w (.agg (bA x.k)) (.agg (bA k)) = .ok (.value (.bool false)) w := fun x' y' w => by rw [eqKey _ _ hxk hk, decide_eq_false hq]
   have HE : Hid ((endV k (.leaf (.pointer pT) x)).val = .pointer pT ∧ endB k (.leaf (.pointer pT) x) = false) := ⟨by simp [endV, hq, Tv.val], by simp [endB, hq]⟩
   clear hM hkd hpT hxk hg hq hk
   refine wp_region_later (by kernel_rfl) (by kernel_rfl) ?_
   repeat (go_big_quiet_step ((first | (go_at_call 68; exact HKD.out _) | (go_at_call 69; exact HLF.out _))))
   refine wpQuiet_nil ?_
   rintro _ ⟨x5, rfl⟩
   have HF := Lib.hid (HBX.out.trans (x5.h.mono HBX.out.size))
   clear lk HKD HLF fx ne
   go_wp2_with fail
   go_ret2
   exact ⟨by rw [HE.out.1, HE.out.2]; rfl, HF.out⟩
structure Bx (b : Nat) (k : List UInt8) (r : Value) (f : Bool) (j : Nat) (X : World) : Prop where
 h : X.heap[j]? = some (.cells #[ptr b] 59 (0, 0))
 k : X.heap[j + 1]? = some (.cells (bA k) 40 (0, 0))
 r : X.heap[j + 2]? = some (.cells #[r] 62 (0, 0))
 f : X.heap[j + 3]? = some (.cells #[.bool f] 4 (0, 0))
theorem Bx.keep {b : Nat} {k : List UInt8} {r : Value} {f : Bool} {j : Nat} {X Y : World} {L : Nat → Prop} (h : Bx b k r f j X) (hk : Keep L X Y) (hL : ∀ i, j ≤ i → i ≤ j + 3 → ¬ L i) : Bx b k r f j Y :=
 ⟨hk.heap h.h (hL _ (by omega) (by omega)), hk.heap h.k (hL _ (by omega) (by omega)), hk.heap h.r (hL _ (by omega) (by omega)), hk.heap h.f (hL _ (by omega) (by omega))⟩
theorem Bx.below {b : Nat} {k : List UInt8} {r : Value} {f : Bool} {j : Nat} {X Y : World} (h : Bx b k r f j X) (hb : Below X.heap.size X Y) : Bx b k r f j Y := h.keep (Keep.of_below (L := fun _ => False) hb) fun _ _ _ h => h
theorem Bx.drew {b : Nat} {k : List UInt8} {r : Value} {f : Bool} {j : Nat} {X : World} (h : Bx b k r f j X) : Bx b k r f j X.drew := ⟨h.h, h.k, h.r, h.f⟩
theorem Bx.lk {b : Nat} {k : List UInt8} {r : Value} {f : Bool} {j : Nat} {X : World} (h : Bx b k r f j X) (hk : k.length = 32) : ldA 40 X (.pointer (some ⟨j + 1, 0, none⟩)) = .ok (.value (.agg (bA k))) X :=
 ldA_row (t' := 40) (fr := (0, 0)) h.k Tryz.underlying40 (by rw [bA_size, hk]; exact infoKey)
theorem boxes10 (b : Nat) (k : List UInt8) (w X : World) (hX : X = (((w.alloc (.cells #[ptr b] 59)).alloc (.cells (bA k) 40)).alloc (.cells #[.pointer none] 62)).alloc (.cells #[.bool false] 4)) :
  Bx b k (.pointer none) false w.heap.size X ∧ Below w.heap.size w X ∧ X.heap.size = w.heap.size + 4 := by
 obtain ⟨w1, hw1⟩ : ∃ w1, w1 = w.alloc (.cells #[ptr b] 59) := ⟨_, rfl⟩
 obtain ⟨w2, hw2⟩ : ∃ w2, w2 = w1.alloc (.cells (bA k) 40) := ⟨_, rfl⟩
 obtain ⟨w3, hw3⟩ : ∃ w3, w3 = w2.alloc (.cells #[.pointer none] 62) := ⟨_, rfl⟩
 rw [← hw1, ← hw2, ← hw3] at hX
 have s1 : w1.heap.size = w.heap.size + 1 := by rw [hw1]; simp
 have s2 : w2.heap.size = w.heap.size + 2 := by rw [hw2]; simp [s1]
 have s3 : w3.heap.size = w.heap.size + 3 := by rw [hw3]; simp [s2]
 have b1 : Below w.heap.size w w1 := by rw [hw1]; exact (Below.refl _ _).alloc (Nat.le_refl _) _
 have b2 : Below w1.heap.size w1 w2 := by rw [hw2]; exact (Below.refl _ _).alloc (Nat.le_refl _) _
 have b3 : Below w2.heap.size w2 w3 := by rw [hw3]; exact (Below.refl _ _).alloc (Nat.le_refl _) _
 have b4 : Below w3.heap.size w3 X := by rw [hX]; exact (Below.refl _ _).alloc (Nat.le_refl _) _
 have h1 : w1.heap[w.heap.size]? = some (.cells #[ptr b] 59 (0, 0)) := by rw [hw1]; exact heap_alloc_new w _
 have h2 : w2.heap[w.heap.size + 1]? = some (.cells (bA k) 40 (0, 0)) := by rw [hw2, ← s1]; exact heap_alloc_new w1 _
 have h3 : w3.heap[w.heap.size + 2]? = some (.cells #[.pointer none] 62 (0, 0)) := by rw [hw3, ← s2]; exact heap_alloc_new w2 _
 have h4 : X.heap[w.heap.size + 3]? = some (.cells #[.bool false] 4 (0, 0)) := by rw [hX, ← s3]; exact heap_alloc_new w3 _
 exact ⟨⟨by rw [b4.block _ (by omega), b3.block _ (by omega), b2.block _ (by omega)]; exact h1, by rw [b4.block _ (by omega), b3.block _ (by omega)]; exact h2, by rw [b4.block _ (by omega)]; exact h3, h4⟩,
  ((b1.trans (b2.mono b1.size)).trans (b3.mono (by omega))).trans (b4.mono (by omega)), by rw [hX]; simp [s3]⟩
theorem res10 {b : Nat} {k : List UInt8} {r : Value} {f : Bool} {j : Nat} {X : World} (h : Bx b k r f j X) (tmps : Array Value) (h8 : tmps.getD 8 undef = .pointer (some ⟨j + 2, 0, none⟩)) (h9 : tmps.getD 9 undef = .pointer (some ⟨j + 3, 0, none⟩)) :
  (results Tryz.f76 tmps).run Tryz.prog X = .ok (.tuple #[r, .bool f]) X := by
 have c1 : X.cell? ⟨j + 2, 0, none⟩ = some r := by rw [cell_of_cells h.r]; rfl
 have c2 : X.cell? ⟨j + 3, 0, none⟩ = some (.bool f) := by rw [cell_of_cells h.f]; rfl
 have h8' : tmps[8]?.getD undef = .pointer (some ⟨j + 2, 0, none⟩) := by simpa using h8
 have h9' : tmps[9]?.getD undef = .pointer (some ⟨j + 3, 0, none⟩) := by simpa using h9
 simp [results, Tryz.results76, h8', h9', asAddr, loadVar, isAgg, go_sem, c1, c2]
theorem at1_idle (t f h : Nat) (l r : Nat) (u : FrameMode) (w : World) (hf : w.cell? ⟨f, 0, none⟩ = some (.bool false)) :
  CallsD Tryz.prog 112 #[ptr f, ptr h, ptr l, ptr r, ptr t] u w fun e u' w' => u' = u ∧ (e = .returned (.tuple #[]) ∧ w' = w) := by
 unfold ptr
 go_enter_d Tryz.func112, Tryz.ntmps112
 go_wp2_with fail
 go_end0
 exact ⟨rfl, rfl⟩
theorem at1_join {M : World → Int → Tv → Prop} (nd : NdV M) (t f h : Nat) (l r : Nat) (u : FrameMode) (w : World) (b : Nat) (n : Int) (c : Nat) (S T : Tv) (z : Value) (hf : w.cell? ⟨f, 0, none⟩ = some (.bool true)) (hh : w.cell? ⟨h, 0, none⟩ = some (ptr b)) (hl : w.cell? ⟨l, 0, none⟩ = some S.val) (hr : w.cell? ⟨r, 0, none⟩ = some T.val)
  (ht : w.heap[t]? = some (.cells #[z] 62 (0, 0))) (htb : t ≠ b) (hH : Hs w b n c) (hc : c ≤ 100000000) (hv : Vars w) (hS : M w n S) (hT : M w n T) (hln : lenT S.tr + lenT T.tr ≤ 1000000000) :
  CallsD Tryz.prog 112 #[ptr f, ptr h, ptr l, ptr r, ptr t] u w fun e u' w' => u' = u ∧ (e = .returned (.tuple #[]) ∧ ∃ y v c', w' = y.setCell ⟨t, 0, none⟩ (joinV v S T).val ∧ M y n (joinV v S T) ∧ c' ≤ c + 3 ∧ Hs y b n c' ∧ Keep (fun i => i = b) w y ∧
   ∀ w2, Keep (fun i => i < w.heap.size) y w2 → M w2 n S → M w2 n T → M w2 n (joinV v S T)) := by
 obtain ⟨pS, hpS⟩ := val_ptr nd hS
 obtain ⟨pT, hpT⟩ := val_ptr nd hT
 have HJ := Lib.hid (nd.join w b n c S T hH hc hv hS hT hln)
 rw [hpS, hpT] at HJ
 rw [hpS] at hl
 rw [hpT] at hr
 have HT := Lib.hid ht
 have HTB := Lib.hid htb
 unfold ptr at HJ hh ⊢
 clear hpS hpT ht htb hH hc hv hS hT hln
 go_enter_d Tryz.func112, Tryz.ntmps112
 go_wp2_with fail
 refine HJ.out.mono ?_
 rintro _ y ⟨v, c', rfl, hm, hc', hh', hk, ha⟩
 obtain ⟨p, hp⟩ := val_ptr nd hm
 rw [hp]
 have hty : y.heap[t]? = some (.cells #[z] 62 (0, 0)) := hk.heap HT.out HTB.out
 have lc : y.cell? ⟨t, 0, none⟩ = some z := by rw [cell_of_cells hty]; rfl
 have lz : y.frozen? ⟨t, 0, none⟩ = false := frozen_of_row y _ _ _ _ hty
 have HF : Hid (∃ v c', y.setCell ⟨t, 0, none⟩ (.pointer p) = y.setCell ⟨t, 0, none⟩ (joinV v S T).val ∧ M y n (joinV v S T) ∧ c' ≤ c + 3 ∧ Hs y b n c' ∧ Keep (fun i => i = b) w y ∧
   ∀ w2, Keep (fun i => i < w.heap.size) y w2 → M w2 n S → M w2 n T → M w2 n (joinV v S T)) := ⟨v, c', by rw [hp], hm, hc', hh', hk, ha⟩
 clear hm hc' hh' hk ha hp hty HJ hf hl hr hh
 go_wp2_with fail
 go_end0
 obtain ⟨v, c', h1, h2⟩ := HF.out
 exact ⟨rfl, y, v, c', h1, h2⟩
end
section
open Go.RowKit
def Quiet10 (Q : Exit → Act → World → Prop) : Exit → Act → World → Prop := fun e a w => match e with
 | .panic _ => False
 | e => Q e a w
theorem wp_quiet10 {P : Program} {c : Code} {Q : Exit → Act → World → Prop} {a : Act} {w : World} (h : c.wp P (Quiet10 Q) a w) : c.wp P Q a w :=
 Code.wp_mono (fun e a w h => by cases e <;> first | exact h.elim | exact h) h
theorem Quiet10.normal {Q : Exit → Act → World → Prop} {a : Act} {w : World} (h : Q .normal a w) : Quiet10 Q .normal a w := h
def At10 (M : World → Int → Tv → Prop) (b : Nat) (n : Int) (k : List UInt8) (T : Tv) : Prop := ∀ (w : World) (c d : Nat) (l : List Ent), Hs w b n c → c ≤ 50000000 → Vars w → M w n T → SubMap d l T → d ≤ 256 → l.length ≤ 100000 →
 Calls Tryz.prog 76 #[ptr b, T.val, .agg (bA k), .int .i64 (d : Int)] w fun x w' => ∃ T', x = .returned (.tuple #[T'.val, .bool (hasK l k)]) ∧ SubMap d (rmK l k) T' ∧ Made M w b n T T' (c + 3 * (257 - d)) w' ∧ (hasK l k = false → T' = T ∧ Hs w' b n c)
theorem endV_or (k : List UInt8) (T : Tv) : endV k T = .nil ∨ endV k T = T := by
 cases T with
 | nil => exact .inl rfl
 | inner v a b => exact .inr rfl
 | leaf v x =>
  by_cases h : x.k = k
  ·exact .inl (by simp [endV, h])
  ·exact .inr (by simp [endV, h])
theorem Bx.set2 {b : Nat} {k : List UInt8} {r : Value} {f : Bool} {j : Nat} {X : World} (h : Bx b k r f j X) (r' : Value) (f' : Bool) : Bx b k r' f' j ((X.setCell ⟨j + 2, 0, none⟩ r').setCell ⟨j + 3, 0, none⟩ (.bool f')) :=
 ⟨set_keep (set_keep h.h (by omega)) (by omega), set_keep (set_keep h.k (by omega)) (by omega), set_keep (set_row h.r) (by omega), set_row (set_keep h.f (by omega))⟩
theorem Bx.cells {b : Nat} {k : List UInt8} {r : Value} {f : Bool} {j : Nat} {X : World} (h : Bx b k r f j X) (r' : Value) :
  X.cell? ⟨j + 2, 0, none⟩ = some r ∧ X.frozen? ⟨j + 2, 0, none⟩ = false ∧ (X.setCell ⟨j + 2, 0, none⟩ r').cell? ⟨j + 3, 0, none⟩ = some (.bool f) ∧ (X.setCell ⟨j + 2, 0, none⟩ r').frozen? ⟨j + 3, 0, none⟩ = false := by
 have h3 : (X.setCell ⟨j + 2, 0, none⟩ r').heap[j + 3]? = some (.cells #[.bool f] 4 (0, 0)) := set_keep h.f (by omega)
 exact ⟨by rw [cell_of_cells h.r]; rfl, frozen_of_row X _ _ _ _ h.r, by rw [cell_of_cells h3]; rfl, frozen_of_row _ _ _ _ _ h3⟩
theorem set2_below {w X : World} {j : Nat} (h : Below w.heap.size w X) (hj : w.heap.size ≤ j) (r : Value) (f : Value) : Below w.heap.size w ((X.setCell ⟨j + 2, 0, none⟩ r).setCell ⟨j + 3, 0, none⟩ f) :=
 (h.setCell (by show _ ≤ j + 2; omega) _).setCell (by show _ ≤ j + 3; omega) _
theorem at10_idle {M : World → Int → Tv → Prop} (nd : NdV M) {w Wd : World} {b : Nat} {n : Int} {c d : Nat} {l : List Ent} {T : Tv} {k : List UInt8} {p : Option Addr} (hp : T.val = .pointer p) (hh : Hs w b n c) (hM : M w n T) (hT : SubMap d l T) (hkW : Keep (fun i => i = b) w Wd) (hH : Hs Wd b n c) (hf : hasK l k = false) :
  ∃ T' : Tv, (Ending.returned (.tuple #[.pointer p, .bool false])) = .returned (.tuple #[T'.val, .bool false]) ∧ SubMap d (rmK l k) T' ∧ Made M w b n T T' (c + 3 * (257 - d)) Wd ∧ (false = false → T' = T ∧ Hs Wd b n c) :=
 ⟨T, by rw [hp], by rw [rmK_no hf]; exact hT, ⟨nd.hs hM hh hkW, ⟨c, by omega, hH⟩, hkW, fun _ _ h => h⟩, fun _ => ⟨rfl, hH⟩⟩
theorem at10_found {M : World → Int → Tv → Prop} (nd : NdV M) {w Wd yj : World} {b : Nat} {n : Int} {c c' d : Nat} {l : List Ent} {v u r : Value} {x y S T : Tv} {k : List UInt8} (hh : Hs w b n c) (hM : M w n (.inner v x y)) (hkW : Keep (fun i => i = b) w Wd) (hkj : Keep (fun i => i = b) Wd yj)
  (hbx : Bx b k r true w.heap.size Wd) (hc : c' ≤ c + 3 * (257 - d)) (hH : Hs yj b n c') (hz : SubMap d (rmK l k) (joinV u S T)) (haft : ∀ w2, Keep (fun i => i < Wd.heap.size) yj w2 → M w2 n S → M w2 n T → M w2 n (joinV u S T))
  (hST : ∀ w2, Keep (fun i => i < w.heap.size ∨ i = w.heap.size + 2) Wd w2 → M w2 n (.inner v x y) → M w2 n S ∧ M w2 n T) :
  Bx b k (joinV u S T).val true w.heap.size (yj.setCell ⟨w.heap.size + 2, 0, none⟩ (joinV u S T).val) ∧
  ∃ T' : Tv, (Ending.returned (.tuple #[(joinV u S T).val, .bool true])) = .returned (.tuple #[T'.val, .bool true]) ∧ SubMap d (rmK l k) T' ∧ Made M w b n (.inner v x y) T' (c + 3 * (257 - d)) (yj.setCell ⟨w.heap.size + 2, 0, none⟩ (joinV u S T).val) ∧ (true = false → T' = .inner v x y ∧ Hs (yj.setCell ⟨w.heap.size + 2, 0, none⟩ (joinV u S T).val) b n c) := by
 have hb := lt_of_heap hh
 have hk1 : Keep (fun i => i = w.heap.size + 2) yj (yj.setCell ⟨w.heap.size + 2, 0, none⟩ (joinV u S T).val) := Keep.cell yj ⟨w.heap.size + 2, 0, none⟩ _
 have hxj := hbx.keep hkj fun i _ _ => by show i ≠ b; omega
 have hWd : w.heap.size + 2 < Wd.heap.size := lt_of_heap hbx.r
 have hkF : Keep (fun i => i = b) w (yj.setCell ⟨w.heap.size + 2, 0, none⟩ (joinV u S T).val) := (hkW.trans hkj).step hk1 fun i hi => .inr (by have e : i = w.heap.size + 2 := hi; omega)
 have hA : ∀ w2, Keep (fun i => i < w.heap.size) (yj.setCell ⟨w.heap.size + 2, 0, none⟩ (joinV u S T).val) w2 → M w2 n (.inner v x y) → M w2 n (joinV u S T) := fun w2 h2 hm => by
  have h3 : Keep (fun i => i < w.heap.size ∨ i = w.heap.size + 2) yj w2 := (hk1.mono fun _ h => .inr h).trans (h2.mono fun _ h => .inl h)
  obtain ⟨h4, h5⟩ := hST w2 ((hkj.mono fun i hi => .inl (by have e : i = b := hi; omega)).trans h3) hm
  exact haft w2 (h3.mono fun i hi => by rcases hi with h | h <;> omega) h4 h5
 refine ⟨⟨set_keep hxj.h (by omega), set_keep hxj.k (by omega), set_row hxj.r, set_keep hxj.f (by omega)⟩, joinV u S T, rfl, hz, ⟨hA _ (Keep.refl _ _) (nd.hs hM hh hkF), ⟨c', hc, hH.keep hk1 (by show b ≠ _; omega)⟩, hkF, hA⟩, fun h => by cases h⟩
theorem at10_end {M : World → Int → Tv → Prop} (nd : NdV M) (b : Nat) (n : Int) (k : List UInt8) (hk : k.length = 32) (T : Tv) (hkd : kindT T.tr ≠ 2) : At10 M b n k T := by
 intro w c d l hh hc hv hM hT hd hl
 obtain ⟨hs, he, hs'⟩ := end_sub hT hd hkd
 obtain ⟨pT, hpT⟩ := val_ptr nd hM
 obtain ⟨X, hX⟩ : ∃ X, X = (((w.alloc (.cells #[ptr b] 59)).alloc (.cells (bA k) 40)).alloc (.cells #[.pointer none] 62)).alloc (.cells #[.bool false] 4) := ⟨_, rfl⟩
 obtain ⟨hbx, hbX, hsX⟩ := boxes10 b k w X hX
 have HME : Hid (∀ y, M y n T → M y n (endV k T)) := fun y h => by
  rcases endV_or k T with e | e
  ·rw [e]; exact nd.nil _ _
  ·rw [e]; exact h
 have HKD := Lib.hid (nd.kind X n T (nd.below hM hbX))
 have HEN : Hid (∀ y, Below X.heap.size X y → Calls Tryz.prog 108 #[.pointer pT, .agg (bA k)] y fun e w' => e = .returned (.tuple #[(endV k T).val, .bool (endB k T)]) ∧ Below y.heap.size y w') := fun y hy => by
  have := end10_c nd y n T k (nd.below (nd.below hM hbX) hy) hk hkd
  rwa [hpT] at this
 obtain ⟨q, hq⟩ : ∃ q, q = kindT T.tr := ⟨_, rfl⟩
 have hq2 : (q == 2) = false := by rw [hq]; simpa using hkd
 obtain ⟨pE, hpE⟩ := val_ptr nd (HME.out w hM)
 rw [hpT, ← hq] at HKD
 rw [hpE, he] at HEN
 have HX := Lib.hid hX
 have HBX := Lib.hid hbx
 have HBB := Lib.hid hbX
 have HFIN : Hid (∀ y, Below w.heap.size w y → ∃ T', (Ending.returned (.tuple #[.pointer pE, .bool (hasK l k)])) = .returned (.tuple #[T'.val, .bool (hasK l k)]) ∧ SubMap d (rmK l k) T' ∧ Made M w b n T T' (c + 3 * (257 - d)) y ∧ (hasK l k = false → T' = T ∧ Hs y b n c)) := fun y hy => by
  have hhy : Hs y b n c := hh.keep (Keep.of_below (L := fun _ => False) hy) fun h => h
  exact ⟨endV k T, by rw [hpE], hs, ⟨HME.out y (nd.below hM hy), ⟨c, by omega, hhy⟩, Keep.of_below hy, fun w2 _ h => HME.out w2 h⟩, fun h => ⟨hs' h, hhy⟩⟩
 have HKL := Lib.hid hk
 obtain ⟨fb, hfb⟩ : ∃ fb, fb = hasK l k := ⟨_, rfl⟩
 rw [← hfb] at HEN HFIN ⊢
 rw [hpT]
 unfold ptr at HX ⊢
 clear hX hbx hbX hsX hh hc hv hM hT hd hl hs he hs' hpT hk hkd hq hpE hfb HME
 go_enter_defers Tryz.func76, Tryz.ntmps76
 go_wp2_with fail
 rw [← HX.out]
 clear HX
 refine HKD.out.mono ?_
 rintro _ X1 ⟨rfl, hB⟩
 have HB1 := Lib.hid hB
 have lk := (HBX.out.below hB).lk HKL.out
 clear hB HKD
 go_wp2_with fail
 refine (HEN.out X1 HB1.out).mono ?_
 rintro _ X2 ⟨rfl, hB⟩
 have HB2 := Lib.hid (HB1.out.trans (hB.mono HB1.out.size))
 have HBX2 := Lib.hid (HBX.out.below HB2.out)
 obtain ⟨c1, c2, c3, c4⟩ := HBX2.out.cells (.pointer pE)
 clear hB lk HEN hq2
 go_wp2_with fail
 exact ⟨_, res10 (HBX2.out.set2 (.pointer pE) fb) _ rfl rfl, HFIN.out _ (set2_below (HBB.out.trans (HB2.out.mono HBB.out.size)) (Nat.le_refl _) _ _)⟩
end
section
open Go.RowKit
theorem at10_inner {M : World → Int → Tv → Prop} (nd : NdV M) (b : Nat) (n : Int) (k : List UInt8) (hk : k.length = 32) (v : Value) (x y : Tv) (hx : At10 M b n k x) (hy : At10 M b n k y) : At10 M b n k (.inner v x y) := by
 intro w c d l hh hc hv hM hT hd hl
 obtain ⟨hMx, hMy⟩ := nd.kids hM
 obtain ⟨h256, hTx, hTy⟩ := hT.inner hd
 obtain ⟨pT, hpT⟩ := val_ptr nd hM
 obtain ⟨px, hpx⟩ := val_ptr nd hMx
 obtain ⟨py, hpy⟩ := val_ptr nd hMy
 obtain ⟨X, hX⟩ : ∃ X, X = (((w.alloc (.cells #[ptr b] 59)).alloc (.cells (bA k) 40)).alloc (.cells #[.pointer none] 62)).alloc (.cells #[.bool false] 4) := ⟨_, rfl⟩
 obtain ⟨hbx, hbX, hsX⟩ := boxes10 b k w X hX
 have HKD := Lib.hid (nd.kind X n _ (nd.below hM hbX))
 have HL : Hid (∀ z, Below w.heap.size w z → Calls Tryz.prog 109 #[.pointer pT] z fun e w' => e = .returned (.pointer px) ∧ Below z.heap.size z w') := fun z hz => by
  have := nd.left z n _ (nd.below hM hz)
  rw [hpT] at this
  rw [← hpx]
  exact this
 have HR : Hid (∀ z, Below w.heap.size w z → Calls Tryz.prog 110 #[.pointer pT] z fun e w' => e = .returned (.pointer py) ∧ Below z.heap.size z w') := fun z hz => by
  have := nd.right z n _ (nd.below hM hz)
  rw [hpT] at this
  rw [← hpy]
  exact this
 rw [hpT, show kindT (Tv.inner v x y).tr = 2 from rfl] at HKD
 have HX := Lib.hid hX
 have HBX := Lib.hid hbx
 have HBB := Lib.hid hbX
 have HSX := Lib.hid hsX
 have HKL := Lib.hid hk
 have HH := Lib.hid hh
 have HC := Lib.hid hc
 have HV := Lib.hid hv
 have HM := Lib.hid hM
 have HMX := Lib.hid hMx
 have HMY := Lib.hid hMy
 have HT := Lib.hid hT
 have HTX := Lib.hid hTx
 have HTY := Lib.hid hTy
 have HD := Lib.hid hd
 have HLN := Lib.hid hl
 have H256 := Lib.hid h256
 have HIX := Lib.hid hx
 have HIY := Lib.hid hy
 have HPX := Lib.hid hpx
 have HPY := Lib.hid hpy
 have HPT := Lib.hid hpT
 obtain ⟨fb, hfb⟩ : ∃ fb, fb = hasK l k := ⟨_, rfl⟩
 have HFB := Lib.hid hfb
 rw [← hfb]
 rw [hpT]
 unfold ptr at HX ⊢
 clear hfb hX hbx hbX hsX hk hh hc hv hM hMx hMy hT hTx hTy hd hl h256 hx hy hpx hpy hpT
 go_enter_defers Tryz.func76, Tryz.ntmps76
 go_wp2_with fail
 rw [← HX.out]
 clear HX
 refine HKD.out.mono ?_
 rintro _ X1 ⟨rfl, hB⟩
 have HB1 := Lib.hid (HBB.out.trans (hB.mono HBB.out.size))
 have HX1 := Lib.hid hB
 clear hB HKD
 go_wp2_with fail
 refine (HL.out X1 HB1.out).mono ?_
 rintro _ X2 ⟨rfl, hB⟩
 have HB2 := Lib.hid (HB1.out.trans (hB.mono HB1.out.size))
 have HX2 := Lib.hid (HX1.out.trans (hB.mono HX1.out.size))
 clear hB HL HB1 HX1
 go_wp2_with fail
 refine (HR.out X2 HB2.out).mono ?_
 rintro _ X3 ⟨rfl, hB⟩
 have HB3 := Lib.hid (HB2.out.trans (hB.mono HB2.out.size))
 have HX3 := Lib.hid (HX2.out.trans (hB.mono HX2.out.size))
 have HBX3 := Lib.hid (HBX.out.below HX3.out)
 clear hB HR HB2 HX2
 obtain ⟨Y4, hY4⟩ : ∃ Y4, Y4 = (X3.alloc (.cells #[.pointer px] 62)).alloc (.cells #[.pointer py] 62) := ⟨_, rfl⟩
 have hb4 : Below X3.heap.size X3 Y4 := by rw [hY4]; exact ((Below.refl _ _).alloc (Nat.le_refl _) _).alloc (by simp) _
 have hl4 : Y4.heap[X3.heap.size]? = some (.cells #[.pointer px] 62 (0, 0)) := by rw [hY4]; exact heap_alloc2_old X3 _ _
 have hr4 : Y4.heap[X3.heap.size + 1]? = some (.cells #[.pointer py] 62 (0, 0)) := by rw [hY4]; exact heap_alloc2_new X3 _ _
 have lk := (HBX3.out.below hb4).lk HKL.out
 have HY4 := Lib.hid hY4
 have HB4 := Lib.hid hb4
 have HL4 := Lib.hid hl4
 have HR4 := Lib.hid hr4
 rw [hY4] at lk
 clear hY4 hb4 hl4 hr4
 go_wp2_with fail
 rw [← HY4.out]
 clear HY4 lk
 refine (pbitK_c k HKL.out (d : Int) Y4).mono ?_
 rintro _ Y5 ⟨rfl, hB⟩
 have HBX5 := Lib.hid ((HBX3.out.below HB4.out).below hB)
 have HL5 : Hid (Y5.heap[X3.heap.size]? = some (.cells #[.pointer px] 62 (0, 0))) := (hB.block _ (lt_of_heap HL4.out)).trans HL4.out
 have HR5 : Hid (Y5.heap[X3.heap.size + 1]? = some (.cells #[.pointer py] 62 (0, 0))) := (hB.block _ (lt_of_heap HR4.out)).trans HR4.out
 have HB5 : Hid (Below w.heap.size w Y5) := (HB3.out.trans (HB4.out.mono HB3.out.size)).trans (hB.mono (Nat.le_trans HB3.out.size HB4.out.size))
 have HK5 : Hid (Keep (fun i => i = b) w Y5) := Keep.of_below HB5.out
 have HH5 : Hid (Hs Y5.drew b n c) := HH.out.keep (Keep.of_below (L := fun _ => False) HB5.out).drew fun h => h
 have HV5 : Hid (Vars Y5.drew) := HV.out.hs HH.out HK5.out.drew
 have HS3 : Hid (w.heap.size + 4 ≤ X3.heap.size) := by show _ ≤ _; have := HX3.out.size; have := HSX.out; omega
 obtain ⟨bt, hbt⟩ : ∃ bt, bt = bitK k d := ⟨_, rfl⟩
 rw [← hbt]
 clear hB HB4 HL4 HR4 HBX3 HX3
 by_cases hz : bitK k d = 0
 ·have HZB := Lib.hid hz
  have hb0 : (bt == 0) = true := by rw [hbt, hz]; rfl
  clear hz hbt
  go_wp2_with fail
  have lw : Y5.drew.cell? ⟨X3.heap.size, 0, none⟩ = some (.pointer px) := by
   have h1 : Y5.drew.heap[X3.heap.size]? = some (.cells #[.pointer px] 62 (0, 0)) := HL5.out
   rw [cell_of_cells h1]; rfl
  have HCA : Hid (Calls Tryz.prog 76 #[.pointer (some ⟨b, 0, none⟩), .pointer px, .agg (bA k), .int .i64 ((d : Int) + 1)] Y5.drew fun e w' => ∃ p1, e = .returned (.tuple #[.pointer p1, .bool fb]) ∧ Hid (∃ T1 : Tv, T1.val = .pointer p1 ∧ SubMap (d + 1) (rmK (partK l d 0) k) T1 ∧ Made M Y5.drew b n x T1 (c + 3 * (256 - d)) w' ∧ (fb = false → T1 = x ∧ Hs w' b n c)) ∧ Keep (fun i => i = b) Y5.drew w') := by
   have h1 := HIX.out Y5.drew c (d + 1) (partK l d 0) HH5.out HC.out HV5.out (nd.hs HMX.out HH.out HK5.out.drew) HTX.out (by have := H256.out; omega) (Nat.le_trans (partK_len _ _ _) HLN.out)
   rw [HPX.out, show ((d + 1 : Nat) : Int) = (d : Int) + 1 by omega] at h1
   refine h1.mono ?_
   rintro _ w' ⟨T1, rfl, g1, g2, g3⟩
   obtain ⟨p1, hp1⟩ := val_ptr nd g2.ms
   have hfp : hasK (partK l d 0) k = fb := by rw [HFB.out, ← hasK_part l k d, HZB.out]
   rw [hfp] at g3 ⊢
   rw [show 257 - (d + 1) = 256 - d by omega] at g2
   exact ⟨p1, by rw [hp1], ⟨T1, hp1, g1, g2, g3⟩, g2.keep⟩
  have HLD : Hid (∀ v, Keep (fun i => i = b ∨ i = X3.heap.size ∨ i = w.heap.size + 3) Y5 v → v.cell? ⟨w.heap.size, 0, none⟩ = some (.pointer (some ⟨b, 0, none⟩)) ∧ ldA 40 v (.pointer (some ⟨w.heap.size + 1, 0, none⟩)) = .ok (.value (.agg (bA k))) v) := fun v hv => by
   have hb := lt_of_heap HH.out
   have h3 := HS3.out
   have h1 : v.heap[w.heap.size]? = some (.cells #[ptr b] 59 (0, 0)) := hv.heap HBX5.out.h (by omega)
   have h2 : v.heap[w.heap.size + 1]? = some (.cells (bA k) 40 (0, 0)) := hv.heap HBX5.out.k (by omega)
   exact ⟨by rw [cell_of_cells h1]; rfl, ldA_row (t' := 40) (fr := (0, 0)) h2 Tryz.underlying40 (by rw [bA_size, HKL.out]; exact infoKey)⟩
  have HST : Hid (∀ v, Keep (fun i => i = b) Y5.drew v → ∀ q, v.cell? ⟨X3.heap.size, 0, none⟩ = some (.pointer px) ∧ v.frozen? ⟨X3.heap.size, 0, none⟩ = false ∧ (v.setCell ⟨X3.heap.size, 0, none⟩ q).cell? ⟨w.heap.size + 3, 0, none⟩ = some (.bool false) ∧ (v.setCell ⟨X3.heap.size, 0, none⟩ q).frozen? ⟨w.heap.size + 3, 0, none⟩ = false) := fun v hv q => by
   have hb := lt_of_heap HH.out
   have h3 := HS3.out
   have h1 : v.heap[X3.heap.size]? = some (.cells #[.pointer px] 62 (0, 0)) := hv.heap (a := Y5.drew) HL5.out (by omega)
   have h2 : (v.setCell ⟨X3.heap.size, 0, none⟩ q).heap[w.heap.size + 3]? = some (.cells #[.bool false] 4 (0, 0)) := set_keep (hv.heap (a := Y5.drew) HBX5.out.f (by omega)) (by omega)
   exact ⟨by rw [cell_of_cells h1]; rfl, frozen_of_row v _ _ _ _ h1, by rw [cell_of_cells h2]; rfl, frozen_of_row _ _ _ _ _ h2⟩
  have wd : IntKind.i64.wrap ((d : Int) + 1) = (d : Int) + 1 := IntWalk.i64_in _ (by have := HD.out; omega)
  refine wp_quiet10 ?_
  refine wp_region_held_drew (S := fun w' => Keep (fun i => i = b ∨ i = X3.heap.size ∨ i = w.heap.size + 3) Y5 w') (by kernel_rfl) ((Keep.refl _ _).drew) (fun hHeld => ?_)
  have hb0 : Keep (fun i => i = b ∨ i = X3.heap.size ∨ i = w.heap.size + 3) Y5 Y5.drew := (Keep.refl _ _).drew
  refine x_t (i := 0) (oi := { dst := some 31, op := .move (.tmp 12), .. }) (v := ?_) rfl (Or.inl ⟨by rfl, ?_⟩) ?_
  rotate_left 1
  ·intro v hSv
   clear hSv
   go_simp
   try with_reducible rfl
  try simp only [Act.put, x_A, x_0, x_1]
  refine x_t (i := 1) (oi := { dst := some 32, op := .load _ (.tmp 4), .. }) (v := ?_) rfl (Or.inl ⟨by rfl, ?_⟩) ?_
  rotate_left 1
  ·intro v hSv
   have hv1 := HLD.out v hSv |>.1
   clear hSv
   go_simp
   try with_reducible rfl
  try simp only [Act.put, x_A, x_0, x_1]
  refine x_t (i := 2) (oi := { dst := some 33, op := .move (.tmp 12), .. }) (v := ?_) rfl (Or.inl ⟨by rfl, ?_⟩) ?_
  rotate_left 1
  ·intro v hSv
   clear hSv
   go_simp
   try with_reducible rfl
  try simp only [Act.put, x_A, x_0, x_1]
  refine x_t (i := 3) (oi := { dst := some 34, op := .nilCheck (.tmp 33), .. }) (v := ?_) rfl (Or.inl ⟨by rfl, ?_⟩) ?_
  rotate_left 1
  ·intro v hSv
   clear hSv
   go_simp
   try with_reducible rfl
  try simp only [Act.put, x_A, x_0, x_1]
  refine x_t (i := 5) (oi := { dst := some 36, op := .load _ (.tmp 6), .. }) (v := ?_) rfl (Or.inl ⟨by rfl, ?_⟩) ?_
  rotate_left 1
  ·intro v hSv
   have hv1 := HLD.out v hSv |>.2
   clear hSv
   go_simp
   try with_reducible rfl
  try simp only [Act.put, x_A, x_0, x_1]
  refine x_t (i := 6) (oi := { dst := some 37, op := .move (.tmp 3), .. }) (v := ?_) rfl (Or.inl ⟨by rfl, ?_⟩) ?_
  rotate_left 1
  ·intro v hSv
   clear hSv
   go_simp
   try with_reducible rfl
  try simp only [Act.put, x_A, x_0, x_1]
  refine x_t (i := 7) (oi := { dst := some 38, op := .binOp .add _ (.tmp 37) (.const (.int .i64 1)) _, .. }) (v := ?_) rfl (Or.inl ⟨by rfl, ?_⟩) ?_
  rotate_left 1
  ·intro v hSv
   have hv1 := wd
   clear hSv
   go_simp
   try with_reducible rfl
  try simp only [Act.put, x_A, x_0, x_1]
  refine wpAnyH_ready (rs := [4]) (by kernel_rfl) (by simp) ?_
  refine AllReadyH.cons (o := { dst := some 35, op := .load _ (.tmp 34), .. }) rfl (fun K hK => ?_) AllReadyH.nil
  have lw4 := lw
  go_simp
  refine hK.out _ _ (hb0) (fun hHeld => ?_)
  clear hK K
  try simp only [Act.put, x_A, x_0, x_1]
  refine wpAnyH_ready (rs := [8]) (by kernel_rfl) (by simp) ?_
  refine AllReadyH.cons (o := { dst := some 39, op := .call _, .. }) rfl (fun K hK => ?_) AllReadyH.nil
  go_simp
  refine (HCA.out).mono ?_
  rintro e y1 ⟨p1, rfl, HR1, hb⟩
  have hb1 : Keep (fun i => i = b ∨ i = X3.heap.size ∨ i = w.heap.size + 3) Y5 y1 := (hb0).trans (hb.mono fun _ h => .inl h)
  have HK1 := Lib.hid hb
  obtain ⟨s1, s2, s3, s4⟩ := HST.out y1 hb (.pointer p1)
  clear lw lw4 wd
  clear hb
  go_wp2_with fail
  refine hK.out _ _ (hb1) (fun hHeld => ?_)
  clear hK K
  try simp only [Act.put, x_A, x_0, x_1]
  refine x_t (i := 9) (oi := { dst := some 30, op := .move (.tmp 39), .. }) (v := ?_) rfl (Or.inl ⟨by rfl, ?_⟩) ?_
  rotate_left 1
  ·intro v hSv
   clear hSv
   go_simp
   try with_reducible rfl
  try simp only [Act.put, x_A, x_0, x_1]
  refine x_t (i := 10) (oi := { dst := some 40, op := .extract (.tmp 30) 0, .. }) (v := ?_) rfl (Or.inl ⟨by rfl, ?_⟩) ?_
  rotate_left 1
  ·intro v hSv
   clear hSv
   go_simp
   try with_reducible rfl
  try simp only [Act.put, x_A, x_0, x_1]
  refine x_t (i := 11) (oi := { dst := some 41, op := .extract (.tmp 30) 1, .. }) (v := ?_) rfl (Or.inl ⟨by rfl, ?_⟩) ?_
  rotate_left 1
  ·intro v hSv
   clear hSv
   go_simp
   try with_reducible rfl
  try simp only [Act.put, x_A, x_0, x_1]
  refine x_t (i := 12) (oi := { dst := some 42, op := .nilCheck (.tmp 31), .. }) (v := ?_) rfl (Or.inl ⟨by rfl, ?_⟩) ?_
  rotate_left 1
  ·intro v hSv
   clear hSv
   go_simp
   try with_reducible rfl
  try simp only [Act.put, x_A, x_0, x_1]
  refine wpAnyH_ready (rs := [13]) (by kernel_rfl) (by simp) ?_
  refine AllReadyH.cons (o := { dst := none, op := .store _ (.tmp 42) (.tmp 40), .. }) rfl (fun K hK => ?_) AllReadyH.nil
  go_simp
  refine hK.out _ _ ((hb1).trans ((Keep.cell _ ⟨X3.heap.size, 0, none⟩ _).mono fun _ h => .inr (.inl h))) (fun hHeld => ?_)
  clear hK K
  try simp only [Act.put, x_A, x_0, x_1]
  refine wpAnyH_ready (rs := [14]) (by kernel_rfl) (by simp) ?_
  refine AllReadyH.cons (o := { dst := none, op := .store _ (.tmp 9) (.tmp 41), .. }) rfl (fun K hK => ?_) AllReadyH.nil
  go_simp
  refine hK.out _ _ (((hb1).trans ((Keep.cell _ ⟨X3.heap.size, 0, none⟩ _).mono fun _ h => .inr (.inl h))).trans ((Keep.cell _ ⟨w.heap.size + 3, 0, none⟩ _).mono fun _ h => .inr (.inr h))) (fun hHeld => ?_)
  clear hK K
  try simp only [Act.put, x_A, x_0, x_1]
  refine wpAnyH_done (by kernel_rfl) ?_ _
  refine Quiet10.normal ?_
  clear s1 s2 s3 s4
  go_wp2_with fail
  obtain ⟨Z, hZ⟩ : ∃ Z, Z = (y1.setCell ⟨X3.heap.size, 0, none⟩ (.pointer p1)).setCell ⟨w.heap.size + 3, 0, none⟩ (.bool fb) := ⟨_, rfl⟩
  have HKZ : Hid (Keep (fun i => i = X3.heap.size ∨ i = w.heap.size + 3) y1 Z ∧ Bx b k (.pointer none) fb w.heap.size Z ∧ Z.heap[X3.heap.size]? = some (.cells #[.pointer p1] 62 (0, 0)) ∧ Z.heap[X3.heap.size + 1]? = some (.cells #[.pointer py] 62 (0, 0))) := by
   have hb := lt_of_heap HH.out
   have h3 := HS3.out
   have hx1 := HBX5.out.drew.keep (HK1.out) (fun i _ _ => by show i ≠ b; omega)
   have hl1 : y1.heap[X3.heap.size]? = _ := HK1.out.heap (a := Y5.drew) HL5.out (by omega)
   have hr1 : y1.heap[X3.heap.size + 1]? = _ := HK1.out.heap (a := Y5.drew) HR5.out (by omega)
   rw [hZ]
   refine ⟨((Keep.cell _ _ _).mono fun _ h => .inl h).trans ((Keep.cell _ _ _).mono fun _ h => .inr h), ⟨set_keep (set_keep hx1.h (by omega)) (by omega), set_keep (set_keep hx1.k (by omega)) (by omega), set_keep (set_keep hx1.r (by omega)) (by omega), set_row (set_keep hx1.f (by omega))⟩, ?_, ?_⟩
   ·exact set_keep (set_row hl1) (by omega)
   ·exact set_keep (set_keep hr1 (by omega)) (by omega)
  rw [← hZ]
  clear hZ HCA HLD HST
  have lf : Z.drew.cell? ⟨w.heap.size + 3, 0, none⟩ = some (.bool fb) := by
   have h1 : Z.drew.heap[w.heap.size + 3]? = some (.cells #[.bool fb] 4 (0, 0)) := HKZ.out.2.1.f
   rw [cell_of_cells h1]; rfl
  obtain ⟨s1, s2, s3, s4⟩ := HKZ.out.2.1.drew.cells (.pointer pT)
  have s6 : Z.frozen? ⟨w.heap.size + 3, 0, none⟩ = false := frozen_of_row Z _ _ _ _ HKZ.out.2.1.f
  have s5 : ((Z.drew.setCell ⟨w.heap.size + 2, 0, none⟩ (.pointer pT)).setCell ⟨w.heap.size + 3, 0, none⟩ (.bool fb)).cell? ⟨w.heap.size + 3, 0, none⟩ = some (.bool fb) := by rw [cell_of_cells (HKZ.out.2.1.drew.set2 (.pointer pT) fb).f]; rfl
  refine wp_quiet10 ?_
  refine wp_region_held_drew (S := fun w' => Keep (fun i => i = w.heap.size + 2 ∨ i = w.heap.size + 3) Z w' ∧ w'.cell? ⟨w.heap.size + 3, 0, none⟩ = some (.bool fb)) (by kernel_rfl) (⟨(Keep.refl _ _).drew, lf⟩) (fun hHeld => ?_)
  have hb0 : Keep (fun i => i = w.heap.size + 2 ∨ i = w.heap.size + 3) Z Z.drew ∧ Z.drew.cell? ⟨w.heap.size + 3, 0, none⟩ = some (.bool fb) := ⟨(Keep.refl _ _).drew, lf⟩
  refine x_t (i := 0) (oi := { dst := some 43, op := .move (.tmp 1), .. }) (v := ?_) rfl (Or.inl ⟨by rfl, ?_⟩) ?_
  rotate_left 1
  ·intro v hSv
   clear hSv
   go_simp
   try with_reducible rfl
  try simp only [Act.put, x_A, x_0, x_1]
  refine x_t (i := 1) (oi := { dst := some 44, op := .load _ (.tmp 9), .. }) (v := ?_) rfl (Or.inl ⟨by rfl, ?_⟩) ?_
  rotate_left 1
  ·intro v hSv
   have hv1 := hSv.2
   clear hSv
   go_simp
   try with_reducible rfl
  try simp only [Act.put, x_A, x_0, x_1]
  refine wpAnyH_ready (rs := [2]) (by kernel_rfl) (by simp) ?_
  refine AllReadyH.cons (o := { dst := none, op := .store _ (.tmp 8) (.tmp 43), .. }) rfl (fun K hK => ?_) AllReadyH.nil
  go_simp
  refine hK.out _ _ (⟨hb0.1.trans ((Keep.cell _ ⟨w.heap.size + 2, 0, none⟩ _).mono fun _ h => .inl h), s3⟩) (fun hHeld => ?_)
  clear hK K
  try simp only [Act.put, x_A, x_0, x_1]
  refine wpAnyH_ready (rs := [3]) (by kernel_rfl) (by simp) ?_
  refine AllReadyH.cons (o := { dst := none, op := .store _ (.tmp 9) (.tmp 44), .. }) rfl (fun K hK => ?_) AllReadyH.nil
  go_simp
  refine hK.out _ _ (⟨(hb0.1.trans ((Keep.cell _ ⟨w.heap.size + 2, 0, none⟩ _).mono fun _ h => .inl h)).trans ((Keep.cell _ ⟨w.heap.size + 3, 0, none⟩ _).mono fun _ h => .inr h), s5⟩) (fun hHeld => ?_)
  clear hK K
  try simp only [Act.put, x_A, x_0, x_1]
  refine wpAnyH_done (by kernel_rfl) ?_ _
  refine Quiet10.normal ?_
  go_wp2_with fail
  obtain ⟨Wd, hWd⟩ : ∃ Wd, Wd = ((Z.setCell ⟨w.heap.size + 2, 0, none⟩ (.pointer pT)).setCell ⟨w.heap.size + 3, 0, none⟩ (.bool fb)).drew := ⟨_, rfl⟩
  have HBW : Hid (Bx b k (.pointer pT) fb w.heap.size Wd) := by show Bx _ _ _ _ _ _; rw [hWd]; exact (HKZ.out.2.1.set2 _ _).drew
  have hkz : Keep (fun i => i = w.heap.size + 2 ∨ i = w.heap.size + 3) Z Wd := by rw [hWd]; exact (((Keep.cell _ _ _).mono fun _ h => .inl h).trans ((Keep.cell _ _ _).mono fun _ h => .inr h)).drew
  have HCL : Hid (Wd.heap[X3.heap.size]? = some (.cells #[.pointer p1] 62 (0, 0)) ∧ Wd.heap[X3.heap.size + 1]? = some (.cells #[.pointer py] 62 (0, 0))) := by
   have h3 := HS3.out
   exact ⟨hkz.heap HKZ.out.2.2.1 (by omega), hkz.heap HKZ.out.2.2.2 (by omega)⟩
  have HK1W : Hid (Keep (fun i => i = X3.heap.size ∨ i = w.heap.size + 2 ∨ i = w.heap.size + 3) y1 Wd) := (HKZ.out.1.mono fun i hi => by omega).trans (hkz.mono fun i hi => by omega)
  have HKW : Hid (Keep (fun i => i = b) w Wd) := ((HK5.out.drew).trans HK1.out).step HK1W.out fun i hi => .inr (by have h3 := HS3.out; omega)
  have hwd : ((Z.setCell ⟨w.heap.size + 1 + 1, 0, none⟩ (.pointer pT)).setCell ⟨w.heap.size + 1 + 1 + 1, 0, none⟩ (.bool fb)).drew = Wd := hWd.symm
  rw [hwd]
  obtain ⟨T1, hp1, hT1, hm1, hno⟩ := HR1.out
  clear hWd hwd hkz s1 s2 s3 s4 s5 s6 lf HKZ
  have lfd : Wd.cell? ⟨w.heap.size + 3, 0, none⟩ = some (.bool fb) := by rw [cell_of_cells HBW.out.f]; rfl
  have hbw := lt_of_heap HH.out
  have hs3 := HS3.out
  refine leaves_cons (f := 112) (args := #[ptr (w.heap.size + 3), ptr w.heap.size, ptr X3.heap.size, ptr (X3.heap.size + 1), ptr (w.heap.size + 2)]) (by simp) (by simp [go_sem, ptr]) ?_
  cases hfb : fb with
  | false =>
   rw [hfb] at lfd hno HBW HFB
   obtain ⟨_, hs1⟩ := hno rfl
   refine (at1_idle _ _ _ _ _ .returning Wd lfd).mono ?_
   rintro e u' w'' ⟨rfl, rfl, rfl⟩
   exact ⟨_, res10 HBW.out _ rfl rfl, at10_idle nd HPT.out HH.out HM.out HT.out HKW.out (hs1.keep HK1W.out (by omega)) HFB.out.symm⟩
  | true =>
   rw [hfb] at lfd HBW HFB
   obtain ⟨c1, hc1, hh1⟩ := hm1.hs
   have hST : ∀ w2, Keep (fun i => i < w.heap.size ∨ i = w.heap.size + 2) Wd w2 → M w2 n (.inner v x y) → M w2 n T1 ∧ M w2 n y := fun w2 h2 hm2 => by
    obtain ⟨h4, h5⟩ := nd.kids hm2
    have h6 := hm1.aft w2 ((HK1W.out.mono fun i hi => by show i < Y5.heap.size; have := lt_of_heap HR5.out; omega).trans (h2.mono fun i hi => by show i < Y5.heap.size; have := lt_of_heap HR5.out; omega)) h4
    exact ⟨h6, h5⟩
   obtain ⟨hS, hT2⟩ := hST Wd (Keep.refl _ _) (nd.hs HM.out HH.out HKW.out)
   have hl1 := hT1.len_le
   have hl2 := HTY.out.len_le
   have hl3 := HLN.out
   have hl4 : (rmK (partK l d 0) k).length ≤ (partK l d 0).length := List.length_filter_le _ _
   have hl5 := partK_len l d 0
   have hl6 := partK_len l d 1
   have hcc := HC.out
   have hdd := HD.out
   have h25 := H256.out
   refine (at1_join nd (w.heap.size + 2) (w.heap.size + 3) w.heap.size X3.heap.size (X3.heap.size + 1) .returning Wd b n c1 T1 y (.pointer pT) lfd (by rw [cell_of_cells HBW.out.h]; rfl) (by rw [cell_of_cells HCL.out.1, hp1]; rfl) (by rw [cell_of_cells HCL.out.2, HPY.out]; rfl) HBW.out.r (by omega) (hh1.keep HK1W.out (by omega)) (by omega) (HV.out.hs HH.out HKW.out) hS hT2 (by omega)).mono ?_
   rintro e u' w'' ⟨rfl, rfl, yj, u, c2, rfl, hmj, hc2, hhj, hkj, haj⟩
   obtain ⟨g1, g2⟩ := at10_found nd (d := d) (l := l) HH.out HM.out HKW.out hkj HBW.out (by omega) hhj (rm_join HT.out HD.out (by rw [if_pos HZB.out]; exact ⟨hT1, rfl⟩)) haj hST
   exact ⟨_, res10 g1 _ rfl rfl, g2⟩
 ·have hz1 : bitK k d = 1 := by rcases bitK_01 k d H256.out with h | h <;> omega
  have HZB := Lib.hid hz1
  have hb0 : (bt == 0) = false := by rw [hbt]; simpa using hz
  clear hz hz1 hbt
  go_wp2_with fail
  have lw : Y5.drew.cell? ⟨X3.heap.size + 1, 0, none⟩ = some (.pointer py) := by
   have h1 : Y5.drew.heap[X3.heap.size + 1]? = some (.cells #[.pointer py] 62 (0, 0)) := HR5.out
   rw [cell_of_cells h1]; rfl
  have HCA : Hid (Calls Tryz.prog 76 #[.pointer (some ⟨b, 0, none⟩), .pointer py, .agg (bA k), .int .i64 ((d : Int) + 1)] Y5.drew fun e w' => ∃ p1, e = .returned (.tuple #[.pointer p1, .bool fb]) ∧ Hid (∃ T1 : Tv, T1.val = .pointer p1 ∧ SubMap (d + 1) (rmK (partK l d 1) k) T1 ∧ Made M Y5.drew b n y T1 (c + 3 * (256 - d)) w' ∧ (fb = false → T1 = y ∧ Hs w' b n c)) ∧ Keep (fun i => i = b) Y5.drew w') := by
   have h1 := HIY.out Y5.drew c (d + 1) (partK l d 1) HH5.out HC.out HV5.out (nd.hs HMY.out HH.out HK5.out.drew) HTY.out (by have := H256.out; omega) (Nat.le_trans (partK_len _ _ _) HLN.out)
   rw [HPY.out, show ((d + 1 : Nat) : Int) = (d : Int) + 1 by omega] at h1
   refine h1.mono ?_
   rintro _ w' ⟨T1, rfl, g1, g2, g3⟩
   obtain ⟨p1, hp1⟩ := val_ptr nd g2.ms
   have hfp : hasK (partK l d 1) k = fb := by rw [HFB.out, ← hasK_part l k d, HZB.out]
   rw [hfp] at g3 ⊢
   rw [show 257 - (d + 1) = 256 - d by omega] at g2
   exact ⟨p1, by rw [hp1], ⟨T1, hp1, g1, g2, g3⟩, g2.keep⟩
  have HLD : Hid (∀ v, Keep (fun i => i = b ∨ i = X3.heap.size + 1 ∨ i = w.heap.size + 3) Y5 v → v.cell? ⟨w.heap.size, 0, none⟩ = some (.pointer (some ⟨b, 0, none⟩)) ∧ ldA 40 v (.pointer (some ⟨w.heap.size + 1, 0, none⟩)) = .ok (.value (.agg (bA k))) v) := fun v hv => by
   have hb := lt_of_heap HH.out
   have h3 := HS3.out
   have h1 : v.heap[w.heap.size]? = some (.cells #[ptr b] 59 (0, 0)) := hv.heap HBX5.out.h (by omega)
   have h2 : v.heap[w.heap.size + 1]? = some (.cells (bA k) 40 (0, 0)) := hv.heap HBX5.out.k (by omega)
   exact ⟨by rw [cell_of_cells h1]; rfl, ldA_row (t' := 40) (fr := (0, 0)) h2 Tryz.underlying40 (by rw [bA_size, HKL.out]; exact infoKey)⟩
  have HST : Hid (∀ v, Keep (fun i => i = b) Y5.drew v → ∀ q, v.cell? ⟨X3.heap.size + 1, 0, none⟩ = some (.pointer py) ∧ v.frozen? ⟨X3.heap.size + 1, 0, none⟩ = false ∧ (v.setCell ⟨X3.heap.size + 1, 0, none⟩ q).cell? ⟨w.heap.size + 3, 0, none⟩ = some (.bool false) ∧ (v.setCell ⟨X3.heap.size + 1, 0, none⟩ q).frozen? ⟨w.heap.size + 3, 0, none⟩ = false) := fun v hv q => by
   have hb := lt_of_heap HH.out
   have h3 := HS3.out
   have h1 : v.heap[X3.heap.size + 1]? = some (.cells #[.pointer py] 62 (0, 0)) := hv.heap (a := Y5.drew) HR5.out (by omega)
   have h2 : (v.setCell ⟨X3.heap.size + 1, 0, none⟩ q).heap[w.heap.size + 3]? = some (.cells #[.bool false] 4 (0, 0)) := set_keep (hv.heap (a := Y5.drew) HBX5.out.f (by omega)) (by omega)
   exact ⟨by rw [cell_of_cells h1]; rfl, frozen_of_row v _ _ _ _ h1, by rw [cell_of_cells h2]; rfl, frozen_of_row _ _ _ _ _ h2⟩
  have wd : IntKind.i64.wrap ((d : Int) + 1) = (d : Int) + 1 := IntWalk.i64_in _ (by have := HD.out; omega)
  refine wp_quiet10 ?_
  refine wp_region_held_drew (S := fun w' => Keep (fun i => i = b ∨ i = X3.heap.size + 1 ∨ i = w.heap.size + 3) Y5 w') (by kernel_rfl) ((Keep.refl _ _).drew) (fun hHeld => ?_)
  have hb0 : Keep (fun i => i = b ∨ i = X3.heap.size + 1 ∨ i = w.heap.size + 3) Y5 Y5.drew := (Keep.refl _ _).drew
  refine x_t (i := 0) (oi := { dst := some 31, op := .move (.tmp 12), .. }) (v := ?_) rfl (Or.inl ⟨by rfl, ?_⟩) ?_
  rotate_left 1
  ·intro v hSv
   clear hSv
   go_simp
   try with_reducible rfl
  try simp only [Act.put, x_A, x_0, x_1]
  refine x_t (i := 1) (oi := { dst := some 32, op := .load _ (.tmp 4), .. }) (v := ?_) rfl (Or.inl ⟨by rfl, ?_⟩) ?_
  rotate_left 1
  ·intro v hSv
   have hv1 := HLD.out v hSv |>.1
   clear hSv
   go_simp
   try with_reducible rfl
  try simp only [Act.put, x_A, x_0, x_1]
  refine x_t (i := 2) (oi := { dst := some 33, op := .move (.tmp 12), .. }) (v := ?_) rfl (Or.inl ⟨by rfl, ?_⟩) ?_
  rotate_left 1
  ·intro v hSv
   clear hSv
   go_simp
   try with_reducible rfl
  try simp only [Act.put, x_A, x_0, x_1]
  refine x_t (i := 3) (oi := { dst := some 34, op := .nilCheck (.tmp 33), .. }) (v := ?_) rfl (Or.inl ⟨by rfl, ?_⟩) ?_
  rotate_left 1
  ·intro v hSv
   clear hSv
   go_simp
   try with_reducible rfl
  try simp only [Act.put, x_A, x_0, x_1]
  refine x_t (i := 5) (oi := { dst := some 36, op := .load _ (.tmp 6), .. }) (v := ?_) rfl (Or.inl ⟨by rfl, ?_⟩) ?_
  rotate_left 1
  ·intro v hSv
   have hv1 := HLD.out v hSv |>.2
   clear hSv
   go_simp
   try with_reducible rfl
  try simp only [Act.put, x_A, x_0, x_1]
  refine x_t (i := 6) (oi := { dst := some 37, op := .move (.tmp 3), .. }) (v := ?_) rfl (Or.inl ⟨by rfl, ?_⟩) ?_
  rotate_left 1
  ·intro v hSv
   clear hSv
   go_simp
   try with_reducible rfl
  try simp only [Act.put, x_A, x_0, x_1]
  refine x_t (i := 7) (oi := { dst := some 38, op := .binOp .add _ (.tmp 37) (.const (.int .i64 1)) _, .. }) (v := ?_) rfl (Or.inl ⟨by rfl, ?_⟩) ?_
  rotate_left 1
  ·intro v hSv
   have hv1 := wd
   clear hSv
   go_simp
   try with_reducible rfl
  try simp only [Act.put, x_A, x_0, x_1]
  refine wpAnyH_ready (rs := [4]) (by kernel_rfl) (by simp) ?_
  refine AllReadyH.cons (o := { dst := some 35, op := .load _ (.tmp 34), .. }) rfl (fun K hK => ?_) AllReadyH.nil
  have lw4 := lw
  go_simp
  refine hK.out _ _ (hb0) (fun hHeld => ?_)
  clear hK K
  try simp only [Act.put, x_A, x_0, x_1]
  refine wpAnyH_ready (rs := [8]) (by kernel_rfl) (by simp) ?_
  refine AllReadyH.cons (o := { dst := some 39, op := .call _, .. }) rfl (fun K hK => ?_) AllReadyH.nil
  go_simp
  refine (HCA.out).mono ?_
  rintro e y1 ⟨p1, rfl, HR1, hb⟩
  have hb1 : Keep (fun i => i = b ∨ i = X3.heap.size + 1 ∨ i = w.heap.size + 3) Y5 y1 := (hb0).trans (hb.mono fun _ h => .inl h)
  have HK1 := Lib.hid hb
  obtain ⟨s1, s2, s3, s4⟩ := HST.out y1 hb (.pointer p1)
  clear lw lw4 wd
  clear hb
  go_wp2_with fail
  refine hK.out _ _ (hb1) (fun hHeld => ?_)
  clear hK K
  try simp only [Act.put, x_A, x_0, x_1]
  refine x_t (i := 9) (oi := { dst := some 30, op := .move (.tmp 39), .. }) (v := ?_) rfl (Or.inl ⟨by rfl, ?_⟩) ?_
  rotate_left 1
  ·intro v hSv
   clear hSv
   go_simp
   try with_reducible rfl
  try simp only [Act.put, x_A, x_0, x_1]
  refine x_t (i := 10) (oi := { dst := some 40, op := .extract (.tmp 30) 0, .. }) (v := ?_) rfl (Or.inl ⟨by rfl, ?_⟩) ?_
  rotate_left 1
  ·intro v hSv
   clear hSv
   go_simp
   try with_reducible rfl
  try simp only [Act.put, x_A, x_0, x_1]
  refine x_t (i := 11) (oi := { dst := some 41, op := .extract (.tmp 30) 1, .. }) (v := ?_) rfl (Or.inl ⟨by rfl, ?_⟩) ?_
  rotate_left 1
  ·intro v hSv
   clear hSv
   go_simp
   try with_reducible rfl
  try simp only [Act.put, x_A, x_0, x_1]
  refine x_t (i := 12) (oi := { dst := some 42, op := .nilCheck (.tmp 31), .. }) (v := ?_) rfl (Or.inl ⟨by rfl, ?_⟩) ?_
  rotate_left 1
  ·intro v hSv
   clear hSv
   go_simp
   try with_reducible rfl
  try simp only [Act.put, x_A, x_0, x_1]
  refine wpAnyH_ready (rs := [13]) (by kernel_rfl) (by simp) ?_
  refine AllReadyH.cons (o := { dst := none, op := .store _ (.tmp 42) (.tmp 40), .. }) rfl (fun K hK => ?_) AllReadyH.nil
  go_simp
  refine hK.out _ _ ((hb1).trans ((Keep.cell _ ⟨X3.heap.size + 1, 0, none⟩ _).mono fun _ h => .inr (.inl h))) (fun hHeld => ?_)
  clear hK K
  try simp only [Act.put, x_A, x_0, x_1]
  refine wpAnyH_ready (rs := [14]) (by kernel_rfl) (by simp) ?_
  refine AllReadyH.cons (o := { dst := none, op := .store _ (.tmp 9) (.tmp 41), .. }) rfl (fun K hK => ?_) AllReadyH.nil
  go_simp
  refine hK.out _ _ (((hb1).trans ((Keep.cell _ ⟨X3.heap.size + 1, 0, none⟩ _).mono fun _ h => .inr (.inl h))).trans ((Keep.cell _ ⟨w.heap.size + 3, 0, none⟩ _).mono fun _ h => .inr (.inr h))) (fun hHeld => ?_)
  clear hK K
  try simp only [Act.put, x_A, x_0, x_1]
  refine wpAnyH_done (by kernel_rfl) ?_ _
  refine Quiet10.normal ?_
  clear s1 s2 s3 s4
  go_wp2_with fail
  obtain ⟨Z, hZ⟩ : ∃ Z, Z = (y1.setCell ⟨X3.heap.size + 1, 0, none⟩ (.pointer p1)).setCell ⟨w.heap.size + 3, 0, none⟩ (.bool fb) := ⟨_, rfl⟩
  have HKZ : Hid (Keep (fun i => i = X3.heap.size + 1 ∨ i = w.heap.size + 3) y1 Z ∧ Bx b k (.pointer none) fb w.heap.size Z ∧ Z.heap[X3.heap.size]? = some (.cells #[.pointer px] 62 (0, 0)) ∧ Z.heap[X3.heap.size + 1]? = some (.cells #[.pointer p1] 62 (0, 0))) := by
   have hb := lt_of_heap HH.out
   have h3 := HS3.out
   have hx1 := HBX5.out.drew.keep (HK1.out) (fun i _ _ => by show i ≠ b; omega)
   have hl1 : y1.heap[X3.heap.size]? = _ := HK1.out.heap (a := Y5.drew) HL5.out (by omega)
   have hr1 : y1.heap[X3.heap.size + 1]? = _ := HK1.out.heap (a := Y5.drew) HR5.out (by omega)
   rw [hZ]
   refine ⟨((Keep.cell _ _ _).mono fun _ h => .inl h).trans ((Keep.cell _ _ _).mono fun _ h => .inr h), ⟨set_keep (set_keep hx1.h (by omega)) (by omega), set_keep (set_keep hx1.k (by omega)) (by omega), set_keep (set_keep hx1.r (by omega)) (by omega), set_row (set_keep hx1.f (by omega))⟩, ?_, ?_⟩
   ·exact set_keep (set_keep hl1 (by omega)) (by omega)
   ·exact set_keep (set_row hr1) (by omega)
  rw [← hZ]
  clear hZ HCA HLD HST
  have lf : Z.drew.cell? ⟨w.heap.size + 3, 0, none⟩ = some (.bool fb) := by
   have h1 : Z.drew.heap[w.heap.size + 3]? = some (.cells #[.bool fb] 4 (0, 0)) := HKZ.out.2.1.f
   rw [cell_of_cells h1]; rfl
  obtain ⟨s1, s2, s3, s4⟩ := HKZ.out.2.1.drew.cells (.pointer pT)
  have s6 : Z.frozen? ⟨w.heap.size + 3, 0, none⟩ = false := frozen_of_row Z _ _ _ _ HKZ.out.2.1.f
  have s5 : ((Z.drew.setCell ⟨w.heap.size + 2, 0, none⟩ (.pointer pT)).setCell ⟨w.heap.size + 3, 0, none⟩ (.bool fb)).cell? ⟨w.heap.size + 3, 0, none⟩ = some (.bool fb) := by rw [cell_of_cells (HKZ.out.2.1.drew.set2 (.pointer pT) fb).f]; rfl
  refine wp_quiet10 ?_
  refine wp_region_held_drew (S := fun w' => Keep (fun i => i = w.heap.size + 2 ∨ i = w.heap.size + 3) Z w' ∧ w'.cell? ⟨w.heap.size + 3, 0, none⟩ = some (.bool fb)) (by kernel_rfl) (⟨(Keep.refl _ _).drew, lf⟩) (fun hHeld => ?_)
  have hb0 : Keep (fun i => i = w.heap.size + 2 ∨ i = w.heap.size + 3) Z Z.drew ∧ Z.drew.cell? ⟨w.heap.size + 3, 0, none⟩ = some (.bool fb) := ⟨(Keep.refl _ _).drew, lf⟩
  refine x_t (i := 0) (oi := { dst := some 43, op := .move (.tmp 1), .. }) (v := ?_) rfl (Or.inl ⟨by rfl, ?_⟩) ?_
  rotate_left 1
  ·intro v hSv
   clear hSv
   go_simp
   try with_reducible rfl
  try simp only [Act.put, x_A, x_0, x_1]
  refine x_t (i := 1) (oi := { dst := some 44, op := .load _ (.tmp 9), .. }) (v := ?_) rfl (Or.inl ⟨by rfl, ?_⟩) ?_
  rotate_left 1
  ·intro v hSv
   have hv1 := hSv.2
   clear hSv
   go_simp
   try with_reducible rfl
  try simp only [Act.put, x_A, x_0, x_1]
  refine wpAnyH_ready (rs := [2]) (by kernel_rfl) (by simp) ?_
  refine AllReadyH.cons (o := { dst := none, op := .store _ (.tmp 8) (.tmp 43), .. }) rfl (fun K hK => ?_) AllReadyH.nil
  go_simp
  refine hK.out _ _ (⟨hb0.1.trans ((Keep.cell _ ⟨w.heap.size + 2, 0, none⟩ _).mono fun _ h => .inl h), s3⟩) (fun hHeld => ?_)
  clear hK K
  try simp only [Act.put, x_A, x_0, x_1]
  refine wpAnyH_ready (rs := [3]) (by kernel_rfl) (by simp) ?_
  refine AllReadyH.cons (o := { dst := none, op := .store _ (.tmp 9) (.tmp 44), .. }) rfl (fun K hK => ?_) AllReadyH.nil
  go_simp
  refine hK.out _ _ (⟨(hb0.1.trans ((Keep.cell _ ⟨w.heap.size + 2, 0, none⟩ _).mono fun _ h => .inl h)).trans ((Keep.cell _ ⟨w.heap.size + 3, 0, none⟩ _).mono fun _ h => .inr h), s5⟩) (fun hHeld => ?_)
  clear hK K
  try simp only [Act.put, x_A, x_0, x_1]
  refine wpAnyH_done (by kernel_rfl) ?_ _
  refine Quiet10.normal ?_
  go_wp2_with fail
  obtain ⟨Wd, hWd⟩ : ∃ Wd, Wd = ((Z.setCell ⟨w.heap.size + 2, 0, none⟩ (.pointer pT)).setCell ⟨w.heap.size + 3, 0, none⟩ (.bool fb)).drew := ⟨_, rfl⟩
  have HBW : Hid (Bx b k (.pointer pT) fb w.heap.size Wd) := by show Bx _ _ _ _ _ _; rw [hWd]; exact (HKZ.out.2.1.set2 _ _).drew
  have hkz : Keep (fun i => i = w.heap.size + 2 ∨ i = w.heap.size + 3) Z Wd := by rw [hWd]; exact (((Keep.cell _ _ _).mono fun _ h => .inl h).trans ((Keep.cell _ _ _).mono fun _ h => .inr h)).drew
  have HCL : Hid (Wd.heap[X3.heap.size]? = some (.cells #[.pointer px] 62 (0, 0)) ∧ Wd.heap[X3.heap.size + 1]? = some (.cells #[.pointer p1] 62 (0, 0))) := by
   have h3 := HS3.out
   exact ⟨hkz.heap HKZ.out.2.2.1 (by omega), hkz.heap HKZ.out.2.2.2 (by omega)⟩
  have HK1W : Hid (Keep (fun i => i = X3.heap.size + 1 ∨ i = w.heap.size + 2 ∨ i = w.heap.size + 3) y1 Wd) := (HKZ.out.1.mono fun i hi => by omega).trans (hkz.mono fun i hi => by omega)
  have HKW : Hid (Keep (fun i => i = b) w Wd) := ((HK5.out.drew).trans HK1.out).step HK1W.out fun i hi => .inr (by have h3 := HS3.out; omega)
  have hwd : ((Z.setCell ⟨w.heap.size + 1 + 1, 0, none⟩ (.pointer pT)).setCell ⟨w.heap.size + 1 + 1 + 1, 0, none⟩ (.bool fb)).drew = Wd := hWd.symm
  rw [hwd]
  obtain ⟨T1, hp1, hT1, hm1, hno⟩ := HR1.out
  clear hWd hwd hkz s1 s2 s3 s4 s5 s6 lf HKZ
  have lfd : Wd.cell? ⟨w.heap.size + 3, 0, none⟩ = some (.bool fb) := by rw [cell_of_cells HBW.out.f]; rfl
  have hbw := lt_of_heap HH.out
  have hs3 := HS3.out
  refine leaves_cons (f := 112) (args := #[ptr (w.heap.size + 3), ptr w.heap.size, ptr X3.heap.size, ptr (X3.heap.size + 1), ptr (w.heap.size + 2)]) (by simp) (by simp [go_sem, ptr]) ?_
  cases hfb : fb with
  | false =>
   rw [hfb] at lfd hno HBW HFB
   obtain ⟨_, hs1⟩ := hno rfl
   refine (at1_idle _ _ _ _ _ .returning Wd lfd).mono ?_
   rintro e u' w'' ⟨rfl, rfl, rfl⟩
   exact ⟨_, res10 HBW.out _ rfl rfl, at10_idle nd HPT.out HH.out HM.out HT.out HKW.out (hs1.keep HK1W.out (by omega)) HFB.out.symm⟩
  | true =>
   rw [hfb] at lfd HBW HFB
   obtain ⟨c1, hc1, hh1⟩ := hm1.hs
   have hST : ∀ w2, Keep (fun i => i < w.heap.size ∨ i = w.heap.size + 2) Wd w2 → M w2 n (.inner v x y) → M w2 n x ∧ M w2 n T1 := fun w2 h2 hm2 => by
    obtain ⟨h4, h5⟩ := nd.kids hm2
    have h6 := hm1.aft w2 ((HK1W.out.mono fun i hi => by show i < Y5.heap.size; have := lt_of_heap HR5.out; omega).trans (h2.mono fun i hi => by show i < Y5.heap.size; have := lt_of_heap HR5.out; omega)) h5
    exact ⟨h4, h6⟩
   obtain ⟨hS, hT2⟩ := hST Wd (Keep.refl _ _) (nd.hs HM.out HH.out HKW.out)
   have hl1 := hT1.len_le
   have hl2 := HTX.out.len_le
   have hl3 := HLN.out
   have hl4 : (rmK (partK l d 1) k).length ≤ (partK l d 1).length := List.length_filter_le _ _
   have hl5 := partK_len l d 0
   have hl6 := partK_len l d 1
   have hcc := HC.out
   have hdd := HD.out
   have h25 := H256.out
   refine (at1_join nd (w.heap.size + 2) (w.heap.size + 3) w.heap.size X3.heap.size (X3.heap.size + 1) .returning Wd b n c1 x T1 (.pointer pT) lfd (by rw [cell_of_cells HBW.out.h]; rfl) (by rw [cell_of_cells HCL.out.1, HPX.out]; rfl) (by rw [cell_of_cells HCL.out.2, hp1]; rfl) HBW.out.r (by omega) (hh1.keep HK1W.out (by omega)) (by omega) (HV.out.hs HH.out HKW.out) hS hT2 (by omega)).mono ?_
   rintro e u' w'' ⟨rfl, rfl, yj, u, c2, rfl, hmj, hc2, hhj, hkj, haj⟩
   obtain ⟨g1, g2⟩ := at10_found nd (d := d) (l := l) HH.out HM.out HKW.out hkj HBW.out (by omega) hhj (rm_join HT.out HD.out (by rw [if_neg (by rw [HZB.out]; decide)]; exact ⟨rfl, hT1⟩)) haj hST
   exact ⟨_, res10 g1 _ rfl rfl, g2⟩
end
section
open Go.RowKit
theorem at10_c {M : World → Int → Tv → Prop} (nd : NdV M) (b : Nat) (n : Int) (k : List UInt8) (hk : k.length = 32) : ∀ T : Tv, At10 M b n k T
 | .nil => at10_end nd b n k hk .nil (by show (0 : Int) ≠ 2; decide)
 | .leaf v x => at10_end nd b n k hk (.leaf v x) (by show (1 : Int) ≠ 2; decide)
 | .inner v x y => at10_inner nd b n k hk v x y (at10_c nd b n k hk x) (at10_c nd b n k hk y)
theorem remove10_c {M : World → Int → Tv → Prop} (nd : NdV M) (w : World) (b : Nat) (n : Int) (c : Nat) (l : List Ent) (T : Tv) (k : List UInt8) (hh : Hs w b n c) (hc : c ≤ 50000000) (hv : Vars w) (hM : M w n T) (hT : IsMap l T) (hl : l.length ≤ 100000) (hk : k.length = 32) :
  Calls Tryz.prog 49 #[ptr b, T.val, .agg (bA k)] w fun x w' => ∃ T', x = .returned (.tuple #[T'.val, .bool (hasK l k)]) ∧ IsMap (rmK l k) T' ∧ Made M w b n T T' (c + 1000) w' ∧ (hasK l k = false → T' = T ∧ Hs w' b n c) := by
 obtain ⟨pT, hpT⟩ := val_ptr nd hM
 obtain ⟨X, hX⟩ : ∃ X, X = w.alloc (.cells (bA k) 40) := ⟨_, rfl⟩
 have hb0 : Below w.heap.size w X := by rw [hX]; exact (Below.refl _ _).alloc (Nat.le_refl _) _
 have hr0 : RowB X w.heap.size 40 k := by rw [hX]; exact RowB.alloc w k _
 have lk := hr0.ldKey hk
 have HAT := Lib.hid (at10_c nd b n k hk T X c 0 l (hh.keep (Keep.of_below (L := fun _ => False) hb0) fun h => h) hc (hv.below hb0) (nd.below hM hb0) hT.sub (Nat.zero_le _) hl)
 rw [hpT] at HAT
 unfold ptr at HAT
 rw [hX] at lk
 have HX := Lib.hid hX
 have HB0 := Lib.hid hb0
 obtain ⟨fb, hfb⟩ : ∃ fb, fb = hasK l k := ⟨_, rfl⟩
 rw [← hfb] at HAT ⊢
 rw [hpT]
 unfold ptr
 clear hX hb0 hr0 hpT hh hc hv hM hT hl hk hfb
 go_enter Tryz.func49, Tryz.ntmps49
 go_wp2_with fail
 rw [← HX.out]
 clear HX lk
 refine HAT.out.mono ?_
 rintro _ w2 ⟨T', rfl, hI, hm, hno⟩
 obtain ⟨p', hp'⟩ := val_ptr nd hm.ms
 rw [hp']
 have HF : Hid (T'.val = .pointer p' ∧ IsMap (rmK l k) T' ∧ Made M w b n T T' (c + 1000) w2 ∧ (fb = false → T' = T ∧ Hs w2 b n c)) := by
  obtain ⟨c', hc', hh'⟩ := hm.hs
  exact ⟨hp', hI.map, ⟨hm.ms, ⟨c', by omega, hh'⟩, (Keep.of_below HB0.out).trans hm.keep, fun w3 h3 h4 => hm.aft w3 (h3.mono fun i hi => by have := HB0.out.size; omega) h4⟩, hno⟩
 clear hI hm hno hp' HAT
 go_wp2_with fail
 go_ret2
 exact ⟨T', by rw [HF.out.1]; rfl, HF.out.2⟩
theorem rm_c : RmV Mn where
 remove := remove10_c nd_c
 atd := fun w b n c d l T k hh hc hv hM hT hd hk hl => (at10_c nd_c b n k hk.1 T w c d l hh hc hv hM hT hd hl).mono fun _ _ ⟨T', h1, h2, h3, h4⟩ =>
  ⟨T', h1, h2, ⟨h3.ms, let ⟨c', hc', hh'⟩ := h3.hs; ⟨c', by omega, hh'⟩, h3.keep, h3.aft⟩, h4⟩
end
end Go.Proofs.YtkejfdgmdjfdoaaGreatDoor
