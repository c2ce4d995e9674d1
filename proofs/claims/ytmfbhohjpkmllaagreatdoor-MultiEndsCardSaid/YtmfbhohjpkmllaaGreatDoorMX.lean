import Derived.Test.YtmfbhohjpkmllaaGreatDoorMF
import Derived.Test.YtmfbhohjpkmllaaGreatDoorMT
import Derived.Test.YtmfbhohjpkmllaaGreatDoorM3
namespace Go.Proofs.YtmfbhohjpkmllaaGreatDoor
set_option linter.unusedSimpArgs false
set_option linter.unusedVariables false
set_option maxHeartbeats 8000000
set_option maxRecDepth 100000
section
open Go.RowKit Go.Shelf
attribute [local go_sem] Oper.semAt_some
abbrev encB (x : Tv × Nat) : Array Value := #[.int .i64 (x.2 : Int), x.1.val]
def backs (ts : List Tv) : List (Tv × Nat) := ts.zipIdx.reverse
theorem backs_len (ts : List Tv) : (backs ts).length = ts.length := by simp [backs]
theorem backs_at {ts : List Tv} {j : Nat} {x : Tv × Nat} (h : (backs ts)[j]? = some x) : j < ts.length ∧ x.2 = ts.length - 1 - j ∧ ts[x.2]? = some x.1 := by
 have hj : j < ts.length := by have := (List.getElem?_eq_some_iff.1 h).1; rwa [backs_len] at this
 unfold backs at h
 rw [List.getElem?_reverse (by simpa using hj), List.getElem?_zipIdx, List.length_zipIdx, Nat.zero_add] at h
 obtain ⟨T, hT, rfl⟩ := Option.map_eq_some_iff.1 h
 exact ⟨hj, rfl, hT⟩
theorem backs_pre {ts : List Tv} {pre : List (Tv × Nat)} {x : Tv × Nat} (h : pre ++ [x] <+: backs ts) : pre.length < ts.length ∧ x.2 = ts.length - 1 - pre.length ∧ ts[x.2]? = some x.1 := by
 obtain ⟨r, hr⟩ := h
 exact backs_at (by rw [← hr]; simp)
theorem backs_next {ts : List Tv} {pre : List (Tv × Nat)} {k : Nat} {T : Tv} (h : pre <+: backs ts) (hk : pre.length + (k + 1) = ts.length) (hT : ts[k]? = some T) : pre ++ [(T, k)] <+: backs ts := by
 obtain ⟨r, hr⟩ := h
 have hl := congrArg List.length hr
 rw [backs_len, List.length_append] at hl
 match r, hr, hl with
 | [], _, hl => simp at hl; omega
 | y :: s, hr, _ =>
  have hy : (backs ts)[pre.length]? = some y := by rw [← hr]; simp
  obtain ⟨_, h2, h3⟩ := backs_at hy
  have e2 : y.2 = k := by omega
  rw [e2, hT] at h3
  have e : y = (T, k) := by cases y; simp at e2 h3; rw [h3, e2]
  exact ⟨s, by rw [← hr, e]; simp⟩
structure Bk (q : Nat) (A : Option Addr) (c : Nat) (ts : List Tv) (X : World) : Prop where
 st : X.heap[q]? = some (.cells #[.slice A ts.length c] 165 (0, 0))
 pa : PA X A ts
theorem Bk.keep {q : Nat} {A : Option Addr} {c : Nat} {ts : List Tv} {X Y : World} (h : Bk q A c ts X) (hk : Keep (fun i => i ≠ q ∧ ∀ a, A = some a → i ≠ a.block) X Y) : Bk q A c ts Y :=
 ⟨hk.heap h.st fun h => h.1 rfl, fun i T hi => by
  obtain ⟨g, o, rfl, h1⟩ := h.pa i T hi
  exact ⟨g, o, rfl, hk.cellAt h1 fun h => h.2 _ rfl rfl⟩⟩
theorem Bk.below {q : Nat} {A : Option Addr} {c : Nat} {ts : List Tv} {X Y : World} (h : Bk q A c ts X) (hb : Below X.heap.size X Y) : Bk q A c ts Y := h.keep (Keep.of_below hb)
def idxV : Nat → Value
 | 0 => .int .i64 (-1)
 | k + 1 => .int .i64 (k : Int)
theorem idxV_sub (k : Nat) : Value.int .i64 ((k : Int) - 1) = idxV k := by
 cases k with
 | zero => rfl
 | succ k => unfold idxV; congr 1; omega
def idxN (v : Value) : Nat := (intOf v + 1).toNat
theorem back_seq (w : World) (q : Nat) (A : Option Addr) (c : Nat) (ts : List Tv) (hv : ∀ T ∈ ts, ∃ p, T.val = .pointer p) (hl : ts.length ≤ 1000000) (hw : Bk q A c ts w) :
  SeqC Tryz.prog 122 #[.pointer (some ⟨q, 0, none⟩)] encB (fun i => i ≠ q ∧ ∀ a, A = some a → i ≠ a.block) (fun _ => False) (backs ts) w := by
 intro n0 l0 J W hW hJ hY h0
 obtain ⟨m, hm⟩ : ∃ m, m = ts.length := ⟨_, rfl⟩
 have hc0 : W.cell? ⟨q, 0, none⟩ = some (.slice A m c) := by rw [hm, cell_of_cells (hw.below hW).st]; rfl
 have HW0 := Lib.hid (hw.below hW)
 have HV := Lib.hid hv
 have HM := Lib.hid hm
 have HML : Hid (m ≤ 1000000) := by show _ ≤ _; omega
 have HY := Lib.hid hY
 have HJ0 := Lib.hid h0
 have m0 : m ≤ 1000000 := HML.out
 clear hw hW hv hl hJ hY h0 hm
 refine callsIn_of_wp Tryz.func122 rfl trivial ?_ rfl
 simp only [Tryz.ntmps122, List.size_toArray, List.length_cons, List.length_nil, Nat.reduceAdd, Nat.reduceSub, Array.replicate_succ, Array.replicate_zero, List.push_toArray, List.append_toArray, List.nil_append, List.cons_append]
 gi_wp2
 clear hc0
 gi_loopw [3] (fun v wr => ∃ (pre : List (Tv × Nat)) (k : Nat), v = idxV k ∧ pre.length + k = m ∧ Hid (pre <+: backs ts ∧ Bk q A c ts wr ∧ J true pre wr)) (fun v _ => idxN v)
 case atStart => exact ⟨[], m, idxV_sub m, by simp, List.nil_prefix, HW0.out, HJ0.out⟩
 case round =>
  obtain ⟨pre, k, rfl, hk, HR⟩ := hrel
  obtain ⟨hpre, hb, hj⟩ := HR.out
  cases k with
  | zero =>
   have hall : pre = backs ts := hpre.eq_of_length (by rw [backs_len, ← HM.out]; omega)
   subst hall
   have HJF := Lib.hid hj
   unfold idxV
   clear hj hb hpre HR hk
   gi_wp2
   go_end0
   exact ⟨⟨_, rfl⟩, .inl HJF.out⟩
  | succ k =>
   have hkm : k < ts.length := by have := HM.out; omega
   obtain ⟨T, hT⟩ : ∃ T, ts[k]? = some T := ⟨_, List.getElem?_eq_getElem hkm⟩
   have hpn := backs_next hpre (by rw [← HM.out]; exact hk) hT
   obtain ⟨fn, tmps, assign, body, hy, hR⟩ := HY.out pre (T, k) wr hj hpn
   obtain ⟨pT, hpT⟩ := HV.out T (List.mem_of_getElem? hT)
   dsimp only [encB] at hy
   rw [hpT] at hy
   have hc : wr.cell? ⟨q, 0, none⟩ = some (.slice A m c) := by rw [HM.out, cell_of_cells hb.st]; rfl
   obtain ⟨g, o, rfl, hcell⟩ := hb.pa k T hT
   rw [hpT] at hcell
   have p0 : (0 : Int) ≤ (k : Int) := by omega
   have p1 : (k : Int) < (m : Int) := by omega
   have HKM : Hid (pre.length + (k + 1) = m) := hk
   have HPN := Lib.hid hpn
   have HB := Lib.hid hb
   have HRD := Lib.hid hR
   unfold idxV
   clear hpre hb hj HR hT hpT hkm hpn hR hk
   gi_wp2
   refine ⟨fun h => (by cases h), HRD.out.mono ?_⟩
   rintro e W3 ⟨b, rfl, hJ3, hk3⟩
   have HJ3 := Lib.hid hJ3
   have HK3 := Lib.hid hk3
   clear hJ3 hk3 HRD hy hc hcell p0 p1
   cases b with
   | false =>
    gi_wp2
    refine bodyPost_ret (results_none rfl _ _ _) rfl ?_
    exact ⟨⟨_, rfl⟩, .inr ⟨_, HPN.out, HJ3.out⟩⟩
   | true =>
    have HB3 := Lib.hid (HB.out.keep (HK3.out rfl))
    have HKL : Hid (k ≤ 1000000) := by show _ ≤ _; have := HKM.out; have := HML.out; omega
    have k0 : k ≤ 1000000 := HKL.out
    gi_wp2
    go_roundw
    case rel => exact ⟨pre ++ [(T, k)], k, idxV_sub k, by have := HKM.out; simp; omega, HPN.out, HB3.out, HJ3.out⟩
    case measure =>
     rw [show ∀ v, idxN (.int .i64 v) = (v + 1).toNat from fun _ => rfl]
     show _ < ((k : Int) + 1).toNat
     omega
end
section
open Go.RowKit Go.Shelf
attribute [local go_sem] Oper.semAt_some
theorem backward_c (A : Option Addr) (n c : Nat) (w : World) : Calls Tryz.prog 117 #[.slice A n c] w fun e w' => e = .returned (.func (.func 122) #[] #[.pointer (some ⟨w.heap.size, 0, none⟩)]) ∧ w' = w.alloc (.cells #[.slice A n c] 165) := by
 go_enter Tryz.func117, Tryz.ntmps117
 go_wp2_with fail
 go_ret
 exact ⟨rfl, rfl⟩
structure Jn (b : Nat) (k : List UInt8) (d : Nat) (A : Option Addr) (n c : Nat) (j : Nat) (X : World) : Prop where
 h : X.heap[j]? = some (.cells #[ptr b] 27 (0, 0))
 k : X.heap[j + 1]? = some (.cells (bA k) 39 (0, 0))
 d : X.heap[j + 2]? = some (.cells #[.int .i64 (d : Int)] 3 (0, 0))
 s : X.heap[j + 3]? = some (.cells #[.slice A n c] 165 (0, 0))
theorem Jn.keep {b : Nat} {k : List UInt8} {d : Nat} {A : Option Addr} {n c j : Nat} {X Y : World} {L : Nat → Prop} (h : Jn b k d A n c j X) (hk : Keep L X Y) (hL : ∀ i, j ≤ i → i ≤ j + 3 → ¬ L i) : Jn b k d A n c j Y :=
 ⟨hk.heap h.h (hL _ (by omega) (by omega)), hk.heap h.k (hL _ (by omega) (by omega)), hk.heap h.d (hL _ (by omega) (by omega)), hk.heap h.s (hL _ (by omega) (by omega))⟩
theorem Jn.below {b : Nat} {k : List UInt8} {d : Nat} {A : Option Addr} {n c j : Nat} {X Y : World} (h : Jn b k d A n c j X) (hb : Below X.heap.size X Y) : Jn b k d A n c j Y := h.keep (Keep.of_below (L := fun _ => False) hb) fun _ _ _ h => h
def cloV (j : Nat) : Value := .func (.func 116) #[] #[ptr (j + 3), ptr (j + 1), ptr (j + 2), ptr j]
theorem joining_c (b : Nat) (k : List UInt8) (d : Nat) (A : Option Addr) (n c : Nat) (w : World) : Calls Tryz.prog 108 #[ptr b, .agg (bA k), .int .i64 (d : Int), .slice A n c] w fun e w' => e = .returned (cloV w.heap.size) ∧ Jn b k d A n c w.heap.size w' ∧ Below w.heap.size w w' := by
 obtain ⟨w1, hw1⟩ : ∃ w1, w1 = w.alloc (.cells #[ptr b] 27) := ⟨_, rfl⟩
 obtain ⟨w2, hw2⟩ : ∃ w2, w2 = w1.alloc (.cells (bA k) 39) := ⟨_, rfl⟩
 obtain ⟨w3, hw3⟩ : ∃ w3, w3 = w2.alloc (.cells #[.int .i64 (d : Int)] 3) := ⟨_, rfl⟩
 obtain ⟨w4, hw4⟩ : ∃ w4, w4 = w3.alloc (.cells #[.slice A n c] 165) := ⟨_, rfl⟩
 have s1 : w1.heap.size = w.heap.size + 1 := by rw [hw1]; simp
 have s2 : w2.heap.size = w.heap.size + 2 := by rw [hw2]; simp [s1]
 have s3 : w3.heap.size = w.heap.size + 3 := by rw [hw3]; simp [s2]
 have b1 : Below w.heap.size w w1 := by rw [hw1]; exact (Below.refl _ _).alloc (Nat.le_refl _) _
 have b2 : Below w1.heap.size w1 w2 := by rw [hw2]; exact (Below.refl _ _).alloc (Nat.le_refl _) _
 have b3 : Below w2.heap.size w2 w3 := by rw [hw3]; exact (Below.refl _ _).alloc (Nat.le_refl _) _
 have b4 : Below w3.heap.size w3 w4 := by rw [hw4]; exact (Below.refl _ _).alloc (Nat.le_refl _) _
 have h1 : w1.heap[w.heap.size]? = some (.cells #[ptr b] 27 (0, 0)) := by rw [hw1]; exact heap_alloc_new w _
 have h2 : w2.heap[w.heap.size + 1]? = some (.cells (bA k) 39 (0, 0)) := by rw [hw2, ← s1]; exact heap_alloc_new w1 _
 have h3 : w3.heap[w.heap.size + 2]? = some (.cells #[.int .i64 (d : Int)] 3 (0, 0)) := by rw [hw3, ← s2]; exact heap_alloc_new w2 _
 have h4 : w4.heap[w.heap.size + 3]? = some (.cells #[.slice A n c] 165 (0, 0)) := by rw [hw4, ← s3]; exact heap_alloc_new w3 _
 have HF : Hid (Jn b k d A n c w.heap.size w4 ∧ Below w.heap.size w w4) := ⟨⟨by rw [b4.block _ (by omega), b3.block _ (by omega), b2.block _ (by omega)]; exact h1, by rw [b4.block _ (by omega), b3.block _ (by omega)]; exact h2, by rw [b4.block _ (by omega)]; exact h3, h4⟩,
  ((b1.trans (b2.mono b1.size)).trans (b3.mono (by omega))).trans (b4.mono (by omega))⟩
 have HW : Hid (w4 = (((w.alloc (.cells #[ptr b] 27)).alloc (.cells (bA k) 39)).alloc (.cells #[.int .i64 (d : Int)] 3)).alloc (.cells #[.slice A n c] 165)) := by show _ = _; rw [hw4, hw3, hw2, hw1]
 clear hw1 hw2 hw3 hw4 s1 s2 s3 b1 b2 b3 b4 h1 h2 h3 h4
 unfold cloV
 unfold ptr at HW ⊢
 go_enter Tryz.func108, Tryz.ntmps108
 go_wp2_with fail
 go_ret
 rw [← HW.out]
 exact ⟨rfl, HF.out.1, HF.out.2⟩
structure Ji (M : World → Int → Tv → Prop) (w : World) (b : Nat) (n : Int) (c : Nat) (k : List UInt8) (d : Nat) (ts : List Tv) (S : Tv) (B p : Nat) (T : Tv) (Y : World) : Prop where
 tr : T.tr = foldT k ((ts.map Tv.tr).drop (ts.length - p)) (d + (ts.length - p)) S.tr
 hs : ∃ c', c' ≤ c + 3 * p ∧ Hs Y b n c'
 kp : Keep (fun i => i = b) w Y
 aft : ∀ w2, Keep (fun i => i < B + 2) Y w2 → M w2 n S → (∀ T' ∈ ts, M w2 n T') → M w2 n T
section
variable {M : World → Int → Tv → Prop} {w : World} {b : Nat} {n : Int} {c : Nat} {k : List UInt8} {d : Nat} {ts : List Tv} {S : Tv} {B p : Nat} {T : Tv} {Y Z : World}
theorem Ji.below (h : Ji M w b n c k d ts S B p T Y) (hb : Below Y.heap.size Y Z) : Ji M w b n c k d ts S B p T Z := by
 obtain ⟨c', hc, hh⟩ := h.hs
 exact ⟨h.tr, ⟨c', hc, hh.keep (Keep.of_below (L := fun _ => False) hb) fun h => h⟩, h.kp.trans (Keep.of_below hb), fun w2 hk => h.aft w2 ((Keep.of_below hb).trans hk)⟩
theorem Ji.put (h : Ji M w b n c k d ts S B p T Y) {l : Nat} {o o' : Obj} (hB : w.heap.size ≤ B) (h0 : B ≤ l) (h1 : l ≤ B + 1) (ho : Y.heap[l]? = some o) (hc : o.isCells = false) : Ji M w b n c k d ts S B p T (Y.putObj l o') := by
 obtain ⟨c', hc', hh⟩ := h.hs
 have hk : Keep (fun i => i = l) Y (Y.putObj l o') := keep_putObj Y l o' rfl
 have hne : b ≠ l := fun e => by
  subst e
  rw [hh] at ho
  cases ho
  cases hc
 exact ⟨h.tr, ⟨c', hc', hh.keep hk hne⟩, h.kp.step hk fun i hi => .inr (by have e : i = l := hi; omega), fun w2 h2 => h.aft w2 ((hk.mono fun i hi => by have e : i = l := hi; omega).trans h2)⟩
theorem Ji.ms (nd : NdV M) (h : Ji M w b n c k d ts S B p T Y) {cw : Nat} (hw : Hs w b n cw) (hS : M w n S) (hT : ∀ T' ∈ ts, M w n T') : M Y n T :=
 h.aft Y (Keep.refl _ _) (nd.hs hS hw h.kp) fun T' h' => nd.hs (hT T' h') hw h.kp
theorem Ji.start (hw : Hs w b n c) (hb : Below w.heap.size w Y) : Ji M w b n c k d ts S B 0 S Y :=
 ⟨by rw [List.drop_of_length_le (by simp)]; rfl, ⟨c, by omega, hw.keep (Keep.of_below (L := fun _ => False) hb) fun h => h⟩, Keep.of_below hb, fun _ _ h _ => h⟩
theorem Ji.step {q : World} {x : Tv} {i cn e : Nat} {val : Value} (h : Ji M w b n c k d ts S B p T Y) (hi : i + 1 + p = ts.length) (hx : ts[i]? = some x) (hY : B + 2 ≤ Y.heap.size) (he : e < B) (hbe : b < e) (hwe : w.heap.size ≤ e) (hYq : Below Y.heap.size Y q) (hqZ : Keep (fun i => i = b) q Z) (hcn : cn ≤ c + 3 * (p + 1)) (hh : Hs Z b n cn) (T2 : Tv)
  (htr : T2.tr = if bitK k ((d + i : Nat) : Int) = 0 then joinT T.tr x.tr else joinT x.tr T.tr) (haft : ∀ w2, Keep (fun i => i < q.heap.size) Z w2 → M w2 n T → M w2 n x → M w2 n T2) :
  Ji M w b n c k d ts S B (p + 1) T2 (Z.setCell ⟨e, 0, none⟩ val) := by
 have hc : Keep (fun i => i = e) Z (Z.setCell ⟨e, 0, none⟩ val) := Keep.cell Z ⟨e, 0, none⟩ val
 have hYs := hYq.size
 refine ⟨?_, ⟨cn, hcn, hh.keep hc (by show b ≠ e; omega)⟩, ((h.kp.trans (Keep.of_below hYq)).trans hqZ).step hc fun j hj => .inr (by have e2 : j = e := hj; omega), fun w2 h2 hS hT => ?_⟩
 ·rw [htr, h.tr, show ts.length - p = i + 1 by omega, show ts.length - (p + 1) = i by omega, foldT_drop k _ d S.tr (i := i) (s := x.tr) (by rw [List.getElem?_map, hx]; rfl)]
 ·have hZ2 : Keep (fun i => i < B + 2) Z w2 := (hc.mono fun j hj => by have e2 : j = e := hj; omega).trans h2
  refine haft w2 (hZ2.mono fun j hj => by omega) (h.aft w2 (((Keep.of_below hYq).trans (hqZ.mono fun j hj => by have e2 : j = b := hj; omega)).trans hZ2) hS hT) (hT x (List.mem_of_getElem? hx))
end
theorem round_keep {Y Y1 Y2 : World} {b : Nat} (h1 : Below Y.heap.size Y Y1) (h2 : Keep (fun i => i = b) Y1 Y2) (e : Nat) (v : Value) : Keep (fun i => i = b ∨ i = e) Y (Y2.setCell ⟨e, 0, none⟩ v) :=
 ((Keep.of_below (L := fun i => i = b ∨ i = e) h1).trans (h2.mono fun _ h => .inl h)).trans ((Keep.cell Y2 ⟨e, 0, none⟩ v).mono fun _ h => .inr h)
theorem keepsF {L : Nat → Prop} {X Y : World} {B : Nat} (h : Keep L X Y) (hL : ∀ i, L i → i < B) : KeepsFrom B X Y := ⟨h.size, fun i o hB hi _ => h.heap hi fun hl => by have := hL i hl; omega⟩
theorem joined_c {M : World → Int → Tv → Prop} (nd : NdV M) (w : World) (b : Nat) (n : Int) (c : Nat) (k : List UInt8) (d : Nat) (A : Option Addr) (cA : Nat) (ts : List Tv) (S : Tv) (j : Nat)
  (hh : Hs w b n c) (hc : c ≤ 900000) (hv : Vars w) (hS : M w n S) (hT : ∀ T ∈ ts, M w n T) (hj : Jn b k d A ts.length cA j w) (hbj : b < j) (hpa : PA w A ts) (hA : ∀ a, A = some a → a.block < w.heap.size ∧ a.block ≠ b)
  (hk : k.length = 32) (hd : d + ts.length ≤ 1000) (hl : lenT S.tr + lensT (ts.map Tv.tr) ≤ 1000000000) :
  Calls Tryz.prog 116 #[S.val, ptr (j + 3), ptr (j + 1), ptr (j + 2), ptr j] w fun e w' => ∃ T' c', e = .returned T'.val ∧ T'.tr = foldT k (ts.map Tv.tr) d S.tr ∧ M w' n T' ∧ c' ≤ c + 3 * ts.length ∧ Hs w' b n c' ∧ Keep (fun i => i = b) w w' ∧
   ∀ w2, Keep (fun i => i < w.heap.size) w' w2 → M w2 n S → (∀ T ∈ ts, M w2 n T) → M w2 n T' := by
 obtain ⟨pS, hpS⟩ := val_ptr nd hS
 have hjs := lt_of_heap hj.s
 have lS : w.cell? ⟨j + 3, 0, none⟩ = some (.slice A ts.length cA) := by rw [cell_of_cells hj.s]; rfl
 obtain ⟨X, hX⟩ : ∃ X, X = w.alloc (.cells #[.pointer pS] 24) := ⟨_, rfl⟩
 have hbX : Below w.heap.size w X := by rw [hX]; exact (Below.refl _ _).alloc (Nat.le_refl _) _
 have hXe : X.heap[w.heap.size]? = some (.cells #[.pointer pS] 24 (0, 0)) := by rw [hX]; exact heap_alloc_new w _
 have hsX : X.heap.size = w.heap.size + 1 := by rw [hX]; simp
 have lX : X.cell? ⟨j + 3, 0, none⟩ = some (.slice A ts.length cA) := by rw [hbX.cell (by show j + 3 < _; omega)]; exact lS
 have HX := Lib.hid hX
 have HBX := Lib.hid hbX
 have HXE := Lib.hid hXe
 have HSX := Lib.hid hsX
 have HPS := Lib.hid hpS
 have HH := Lib.hid hh
 have HC := Lib.hid hc
 have HV := Lib.hid hv
 have HMS := Lib.hid hS
 have HMT := Lib.hid hT
 have HJ := Lib.hid hj
 have HBJ := Lib.hid hbj
 have HJS : Hid (j + 3 < w.heap.size) := hjs
 have HPA := Lib.hid hpa
 have HA := Lib.hid hA
 have HK := Lib.hid hk
 have HD := Lib.hid hd
 have HL := Lib.hid hl
 rw [hpS]
 unfold ptr
 rw [hX] at lX
 clear hX hbX hXe hsX hpS hh hc hv hS hT hj hbj hjs hpa hA hk hd hl lS
 refine (callsIn_wide (n := 10)).1 ?_
 refine callsIn_of_wp_marks Tryz.func116 rfl trivial ?_ rfl
 simp only [Tryz.ntmps116, List.size_toArray, List.length_cons, List.length_nil, Nat.reduceAdd, Nat.reduceSub, Array.replicate_succ, Array.replicate_zero, List.push_toArray, List.append_toArray, List.nil_append, List.cons_append]
 refine wpIn_wide.2 ?_
 go_wp2_with fail
 rw [← HX.out]
 refine (backward_c A ts.length cA X).mono ?_
 rintro e W0 ⟨rfl, hW0⟩
 have hbW : Below X.heap.size X W0 := by rw [hW0]; exact (Below.refl _ X).alloc (Nat.le_refl _) _
 have hB0 : Below w.heap.size w W0 := HBX.out.trans (hbW.mono HBX.out.size)
 have hs0 : W0.heap.size = w.heap.size + 2 := by rw [hW0]; simp [HSX.out]
 have hbk : Bk X.heap.size A cA ts W0 := ⟨by rw [hW0]; exact heap_alloc_new X _, HPA.out.below hB0⟩
 have hE0 : W0.heap[w.heap.size]? = some (.cells #[.pointer pS] 24 (0, 0)) := by rw [hbW.block _ (lt_of_heap HXE.out)]; exact HXE.out
 have HSEQ := Lib.hid (back_seq W0 X.heap.size A cA ts (fun T h => val_ptr nd (HMT.out T h)) (by have := HD.out; omega) hbk)
 have HB0 := Lib.hid hB0
 have HS0 := Lib.hid hs0
 have HE0 := Lib.hid hE0
 clear lX hW0 hbW hB0 hs0 hbk hE0 HXE HX
 go_wp2_with fail
 have hbx := HBX.out.size
 have hsx := HSX.out
 have hs0 := HS0.out
 have hjs := HJS.out
 have hbj := HBJ.out
 refine (wpIn_wide (n := 10)).1 ?_
 refine wpIn_rangeD (gf := 122) (lb := #[.pointer (some ⟨X.heap.size, 0, none⟩)]) rfl (enters_of Tryz.func122 (by kernel_rfl) rfl) HSEQ.out
  (fun i hi => ⟨by omega, fun a ha => by have := (HA.out a ha).1; omega⟩) (fun i hi => hi.elim) (fun _ => rfl)
  (fun pre Y => ∃ T : Tv, Y.heap[w.heap.size]? = some (.cells #[T.val] 24 (0, 0)) ∧ Ji M w b n c k d ts S W0.heap.size pre.length T Y) (fun _ _ _ => False)
  (fun s Y Z ⟨T, h1, h2⟩ hk => ⟨T, hk.heap h1 (fun h => h), h2.below (hk.below (Nat.le_refl _) fun _ h => h.elim)⟩)
  (fun s Y l o o' ⟨T, h1, h2⟩ hl hl2 ho hc => ⟨T, (World.putObj_heap_other (by omega)).trans h1, h2.put (by omega) hl hl2 ho hc⟩)
  (fun _ _ _ _ h _ => h) (fun _ _ _ _ _ _ h _ _ _ _ => h)
  (fun Y hY => ⟨S, by rw [HPS.out, hY.block _ (lt_of_heap HE0.out)]; exact HE0.out, Ji.start HH.out (HB0.out.trans (hY.mono (by omega)))⟩)
  (fun x a' _ => a' = { tmps := #[.pointer pS, .pointer (some ⟨j + 3, 0, none⟩), .pointer (some ⟨j + 1, 0, none⟩), .pointer (some ⟨j + 2, 0, none⟩), .pointer (some ⟨j, 0, none⟩), .pointer (some ⟨w.heap.size, 0, none⟩), .pointer none, .int .i64 (x.2 : Int), x.1.val, .slice A ts.length cA,
   .func (.func 122) #[] #[.pointer (some ⟨X.heap.size, 0, none⟩)], .int .i64 (x.2 : Int), x.1.val, undef, undef, undef, undef, undef, undef, undef, undef, undef, undef, undef, undef, undef, undef, undef], defers := [] })
  (fun _ _ _ _ _ _ h _ _ _ _ => h) ?assign ?body ?done ?stop
 case assign =>
  intro l pre x Y K hi hp hK
  clear hbx hsx hs0 hjs hbj
  gi_wp2
  exact hK _ _ (KeepsFrom.refl _ _) (Keep.refl _ _) hi rfl
 case body =>
  rintro l pre ⟨x, i⟩ a' Y rfl ⟨r, hr⟩ ⟨T, h1, h2⟩ rfl hp
  obtain ⟨hp1, hp2, hp3⟩ := backs_pre hp
  dsimp only at hp2 hp3 ⊢
  have HYS : Hid (W0.heap.size + 2 ≤ Y.heap.size) := by show _ ≤ _; have := lt_of_heap hr; omega
  have HI : Hid (i + 1 + pre.length = ts.length) := by show _ = _; omega
  have hMT := h2.ms nd HH.out HMS.out HMT.out
  have hMx := nd.hs (HMT.out x (List.mem_of_getElem? hp3)) HH.out h2.kp
  obtain ⟨pT, hpT⟩ := val_ptr nd hMT
  obtain ⟨px, hpx⟩ := val_ptr nd hMx
  obtain ⟨cy, hcy, hhy⟩ := h2.hs
  have hjy := HJ.out.keep h2.kp fun q hq _ => by show q ≠ b; omega
  rw [hpT] at h1
  rw [hpx]
  have lk : ldA 39 Y (.pointer (some ⟨j + 1, 0, none⟩)) = .ok (.value (.agg (bA k))) Y :=
   ldA_row (t' := 39) (fr := (0, 0)) hjy.k Tryz.underlying39 (by rw [bA_size, HK.out]; exact infoKey)
  have ld : Y.cell? ⟨j + 2, 0, none⟩ = some (.int .i64 (d : Int)) := by rw [cell_of_cells hjy.d]; rfl
  have d0 : d ≤ 1000 := by have := HD.out; omega
  have i0 : i ≤ 1000 := by have := HD.out; have := HI.out; omega
  have H1 := Lib.hid h1
  have H2 := Lib.hid h2
  have HX3 := Lib.hid hp3
  have HT := Lib.hid hMT
  have HMX := Lib.hid hMx
  have HPT := Lib.hid hpT
  have HPX := Lib.hid hpx
  have HCY := Lib.hid hcy
  have HHY := Lib.hid hhy
  have HJY := Lib.hid hjy
  have HPL : Hid (pre.length < ts.length) := hp1
  clear hbx hsx hs0 hjs hbj hr h1 h2 hp hp1 hp2 hp3 hMT hMx hpT hpx hcy hhy hjy
  gi_wp2
  refine ⟨trivial, (CallsIn.inRound _ (callsIn_wide.2 (pbitK_c k HK.out ((d : Int) + (i : Int)) Y))).mono ?_⟩
  rintro _ Y1 ⟨rfl, hB1⟩
  obtain ⟨bt, hbt⟩ : ∃ bt, bt = bitK k ((d : Int) + (i : Int)) := ⟨_, rfl⟩
  rw [← hbt]
  have HBT := Lib.hid hbt
  have HB1 := Lib.hid hB1
  have hjy := HJY.out.below hB1
  have lh : Y1.cell? ⟨j, 0, none⟩ = some (.pointer (some ⟨b, 0, none⟩)) := by rw [cell_of_cells hjy.h]; rfl
  have he1 : Y1.heap[w.heap.size]? = some (.cells #[.pointer pT] 24 (0, 0)) := by rw [hB1.block _ (lt_of_heap H1.out)]; exact H1.out
  have le : Y1.cell? ⟨w.heap.size, 0, none⟩ = some (.pointer pT) := by rw [cell_of_cells he1]; rfl
  have HE1 := Lib.hid he1
  have HTI := Lib.hid (nd.below HT.out hB1)
  have HXI := Lib.hid (nd.below HMX.out hB1)
  have HHI : Hid (Hs Y1 b n cy) := HHY.out.keep (Keep.of_below (L := fun _ => False) hB1) fun h => h
  have HVI : Hid (Vars Y1) := (HV.out.hs HH.out H2.out.kp).below hB1
  have HLN : Hid (lenT T.tr + lenT x.tr ≤ 1000000000 ∧ cy ≤ 1000000) := by
   have h1 := lensT_mem (ss := ts.map Tv.tr) (i := i) (s := x.tr) (by rw [List.getElem?_map, HX3.out]; rfl)
   have h2 := congrArg lenT H2.out.tr
   rw [foldT_len, show ts.length - pre.length = i + 1 by have := HI.out; omega] at h2
   have := HL.out
   have := HCY.out
   have := HC.out
   have := HD.out
   have := HI.out
   exact ⟨by omega, by omega⟩
  clear lk ld hbt hB1 hjy he1
  by_cases hb0 : bt = 0
  ·subst hb0
   have HJN := Lib.hid (nd.join Y1 b n cy T x HHI.out HLN.out.2 HVI.out HTI.out HXI.out HLN.out.1)
   rw [HPT.out, HPX.out] at HJN
   unfold ptr at HJN
   gi_wp2
   refine ⟨trivial, (CallsIn.inRound _ (callsIn_wide.2 HJN.out)).mono ?_⟩
   rintro _ Y2 ⟨v2, c2, rfl, hm2, hc2', hh2, hk2, haft⟩
   obtain ⟨p2, hp2v⟩ := val_ptr nd hm2
   rw [hp2v]
   have HST : Hid (Ji M w b n c k d ts S W0.heap.size (pre.length + 1) (joinV v2 T x) (Y2.setCell ⟨w.heap.size, 0, none⟩ (.pointer p2))) :=
    H2.out.step HI.out HX3.out HYS.out (by have := HS0.out; omega) (by have := HBJ.out; have := HJS.out; omega) (Nat.le_refl _) HB1.out hk2 (by have := HCY.out; omega) hh2 _ (by rw [joinV_tr]; rw [if_pos (show bitK k ((d + i : Nat) : Int) = 0 from HBT.out.symm)]) haft
   have he2 : Y2.heap[w.heap.size]? = some (.cells #[.pointer pT] 24 (0, 0)) := hk2.heap HE1.out (by show w.heap.size ≠ b; have := HBJ.out; have := HJS.out; omega)
   have hc2 : Y2.cell? ⟨w.heap.size, 0, none⟩ = some (.pointer pT) := by rw [cell_of_cells he2]; rfl
   have hf2 : Y2.frozen? ⟨w.heap.size, 0, none⟩ = false := frozen_of_row Y2 _ _ _ _ he2
   have HF : Hid (KeepsFrom W0.heap.size Y (Y2.setCell ⟨w.heap.size, 0, none⟩ (.pointer p2)) ∧ Keep (fun q => q ≠ X.heap.size ∧ ∀ a, A = some a → q ≠ a.block) Y (Y2.setCell ⟨w.heap.size, 0, none⟩ (.pointer p2)) ∧
     (Y2.setCell ⟨w.heap.size, 0, none⟩ (.pointer p2)).heap[w.heap.size]? = some (.cells #[.pointer p2] 24 (0, 0))) := by
    have hks := round_keep HB1.out hk2 w.heap.size (.pointer p2)
    have := HBJ.out
    have := HJS.out
    have := HS0.out
    have := HSX.out
    refine ⟨keepsF hks fun q hq => by rcases hq with e | e <;> omega, hks.mono fun q hq => ?_, set_row he2⟩
    rcases hq with e | e
    ·exact ⟨by omega, fun a ha => by rw [e]; exact fun h => (HA.out a ha).2 h.symm⟩
    ·exact ⟨by omega, fun a ha => by have := (HA.out a ha).1; omega⟩
   clear hm2 hc2' hh2 hk2 haft he2 HJN
   gi_wp2
   refine ⟨HF.out.1, HF.out.2.1, joinV v2 T x, by rw [hp2v]; exact HF.out.2.2, ?_⟩
   rw [List.length_append]
   exact HST.out
  ·have HB0N := Lib.hid hb0
   have HJN := Lib.hid (nd.join Y1 b n cy x T HHI.out HLN.out.2 HVI.out HXI.out HTI.out (by have := HLN.out.1; omega))
   rw [HPT.out, HPX.out] at HJN
   unfold ptr at HJN
   have hb2 : (bt == 0) = false := by simpa using hb0
   clear hb0
   gi_wp2
   refine ⟨trivial, (CallsIn.inRound _ (callsIn_wide.2 HJN.out)).mono ?_⟩
   rintro _ Y2 ⟨v2, c2, rfl, hm2, hc2', hh2, hk2, haft⟩
   obtain ⟨p2, hp2v⟩ := val_ptr nd hm2
   rw [hp2v]
   have HST : Hid (Ji M w b n c k d ts S W0.heap.size (pre.length + 1) (joinV v2 x T) (Y2.setCell ⟨w.heap.size, 0, none⟩ (.pointer p2))) :=
    H2.out.step HI.out HX3.out HYS.out (by have := HS0.out; omega) (by have := HBJ.out; have := HJS.out; omega) (Nat.le_refl _) HB1.out hk2 (by have := HCY.out; omega) hh2 _ (by rw [joinV_tr]; rw [if_neg (show ¬ bitK k ((d + i : Nat) : Int) = 0 from fun h => HB0N.out (HBT.out.trans h))]) fun w2 a b c => haft w2 a c b
   have he2 : Y2.heap[w.heap.size]? = some (.cells #[.pointer pT] 24 (0, 0)) := hk2.heap HE1.out (by show w.heap.size ≠ b; have := HBJ.out; have := HJS.out; omega)
   have hc2 : Y2.cell? ⟨w.heap.size, 0, none⟩ = some (.pointer pT) := by rw [cell_of_cells he2]; rfl
   have hf2 : Y2.frozen? ⟨w.heap.size, 0, none⟩ = false := frozen_of_row Y2 _ _ _ _ he2
   have HF : Hid (KeepsFrom W0.heap.size Y (Y2.setCell ⟨w.heap.size, 0, none⟩ (.pointer p2)) ∧ Keep (fun q => q ≠ X.heap.size ∧ ∀ a, A = some a → q ≠ a.block) Y (Y2.setCell ⟨w.heap.size, 0, none⟩ (.pointer p2)) ∧
     (Y2.setCell ⟨w.heap.size, 0, none⟩ (.pointer p2)).heap[w.heap.size]? = some (.cells #[.pointer p2] 24 (0, 0))) := by
    have hks := round_keep HB1.out hk2 w.heap.size (.pointer p2)
    have := HBJ.out
    have := HJS.out
    have := HS0.out
    have := HSX.out
    refine ⟨keepsF hks fun q hq => by rcases hq with e | e <;> omega, hks.mono fun q hq => ?_, set_row he2⟩
    rcases hq with e | e
    ·exact ⟨by omega, fun a ha => by rw [e]; exact fun h => (HA.out a ha).2 h.symm⟩
    ·exact ⟨by omega, fun a ha => by have := (HA.out a ha).1; omega⟩
   clear hm2 hc2' hh2 hk2 haft he2 HJN
   gi_wp2
   refine ⟨HF.out.1, HF.out.2.1, joinV v2 x T, by rw [hp2v]; exact HF.out.2.2, ?_⟩
   rw [List.length_append]
   exact HST.out
 case done =>
  rintro D Y rfl ⟨T, h1, h2⟩ hd
  rw [backs_len] at h2
  have h3 := h2.put (o' := .deferred none) (by omega) (Nat.le_refl _) (Nat.le_succ _) hd rfl
  have hmT := h3.ms nd HH.out HMS.out HMT.out
  obtain ⟨pT, hpT⟩ := val_ptr nd hmT
  rw [hpT] at h1
  have lT : Y.cell? ⟨w.heap.size, 0, none⟩ = some (.pointer pT) := by rw [cell_of_cells h1]; rfl
  have HF : Hid (∃ T' : Tv, ∃ c', T'.val = .pointer pT ∧ T'.tr = foldT k (ts.map Tv.tr) d S.tr ∧ M (Y.putObj W0.heap.size (.deferred none)) n T' ∧ c' ≤ c + 3 * ts.length ∧ Hs (Y.putObj W0.heap.size (.deferred none)) b n c' ∧ Keep (fun i => i = b) w (Y.putObj W0.heap.size (.deferred none)) ∧
   ∀ w2, Keep (fun i => i < w.heap.size) (Y.putObj W0.heap.size (.deferred none)) w2 → M w2 n S → (∀ T ∈ ts, M w2 n T) → M w2 n T') := by
   obtain ⟨c', hc', hh'⟩ := h3.hs
   refine ⟨T, c', hpT, ?_, hmT, hc', hh', h3.kp, fun w2 hk => h3.aft w2 (hk.mono fun i hi => by omega)⟩
   have := h3.tr
   rwa [Nat.sub_self, List.drop_zero, Nat.add_zero] at this
  have HDD := Lib.hid hd
  clear hbx hsx hs0 hjs hbj h1 h2 h3 hmT hpT hd
  go_wp2_with fail
  refine ⟨by simp, .inl ⟨_, _, rfl, run_takeDeferred HDD.out, ?_⟩⟩
  obtain ⟨T', c', he, hrest⟩ := HF.out
  exact ⟨_, results_tmp rfl _ _ _, T', c', by rw [he]; rfl, hrest⟩
 case stop =>
  rintro D c pre Y _ _ h _
  exact h.elim
end
section
open Go.RowKit Go.Shelf
theorem OwnT.slice {w : World} {B : Nat} {A : Option Addr} {n c : Nat} {ts : List Tv} (h : OwnT w B (.slice A n c) ts) : n = ts.length ∧ PA w A ts ∧ ∀ a, A = some a → B ≤ a.block ∧ a.block < w.heap.size := by
 obtain ⟨A', c', he, hp⟩ := h.pa
 injection he with h1 h2 h3
 subst h1
 refine ⟨h2, hp, fun a ha => ?_⟩
 obtain ⟨_, ⟨hv, _⟩ | ⟨g, cap, cur, hv, hg, hh, _⟩⟩ := h
 ·injection hv with h1
  rw [h1] at ha
  cases ha
 ·injection hv with h1
  rw [h1] at ha
  cases ha
  exact ⟨hg, lt_of_heap hh⟩
theorem OwnT.lower {w : World} {B B' : Nat} {v : Value} {ts : List Tv} (h : OwnT w B v ts) (hb : B' ≤ B) : OwnT w B' v ts := by
 obtain ⟨h0, h | ⟨g, cap, cur, hv, hg, hr⟩⟩ := h
 ·exact ⟨h0, .inl h⟩
 ·exact ⟨h0, .inr ⟨g, cap, cur, hv, Nat.le_trans hb hg, hr⟩⟩
theorem sibs_stop (k : List UInt8) {T : Tv} (d : Nat) (h : kindT T.tr ≠ 2) : T.sibs k d = [] ∧ T.fin k d = T := by
 cases T with
 | nil => exact ⟨rfl, rfl⟩
 | leaf v e => exact ⟨rfl, rfl⟩
 | inner v a b => exact absurd rfl h
theorem sibs_go (k : List UInt8) {T : Tv} {d : Nat} (h : kindT T.tr = 2) (hd : d < 256) : T.sibs k d = T.child (1 - bitK k d) :: (T.child (bitK k d)).sibs k (d + 1) ∧ T.fin k d = (T.child (bitK k d)).fin k (d + 1) := by
 obtain ⟨v, a, b, rfl⟩ := kind_inner h
 unfold Tv.child
 rcases bitK_01 k d hd with hb | hb
 ·rw [hb]
  exact ⟨by rw [show (Tv.inner v a b).sibs k d = if bitK k d = 0 then b :: a.sibs k (d + 1) else a :: b.sibs k (d + 1) from rfl, if_pos hb]; rfl, by rw [show (Tv.inner v a b).fin k d = if bitK k d = 0 then a.fin k (d + 1) else b.fin k (d + 1) from rfl, if_pos hb]; rfl⟩
 ·rw [hb]
  exact ⟨by rw [show (Tv.inner v a b).sibs k d = if bitK k d = 0 then b :: a.sibs k (d + 1) else a :: b.sibs k (d + 1) from rfl, if_neg (by omega)]; rfl, by rw [show (Tv.inner v a b).fin k d = if bitK k d = 0 then a.fin k (d + 1) else b.fin k (d + 1) from rfl, if_neg (by omega)]; rfl⟩
theorem SubMap.child {d : Nat} {l : List Ent} {T : Tv} (h : SubMap d l T) (hd : d ≤ 256) (hk : kindT T.tr = 2) (k : List UInt8) : d < 256 ∧ ∃ l', SubMap (d + 1) l' (T.child (bitK k d)) := by
 obtain ⟨v, a, b, rfl⟩ := kind_inner hk
 obtain ⟨h1, ha, hb⟩ := h.inner hd
 refine ⟨h1, ?_⟩
 unfold Tv.child
 split
 ·exact ⟨_, ha⟩
 ·exact ⟨_, hb⟩
structure Fo (M : World → Int → Tv → Prop) (X : World) (n : Int) (d : Nat) (k : List UInt8) (T S : Tv) (pre : List Tv) (v : Value) (wr : World) : Prop where
 sub : ∃ l, SubMap (d + pre.length) l S
 sib : T.sibs k d = pre ++ S.sibs k (d + pre.length)
 fin : T.fin k d = S.fin k (d + pre.length)
 ms : M X n S
 own : OwnT wr X.heap.size v pre
 bel : Below X.heap.size X wr
theorem follow_c {M : World → Int → Tv → Prop} (nd : NdV M) (w : World) (n : Int) (d : Nat) (l : List Ent) (T : Tv) (k : List UInt8) (hM : M w n T) (hT : SubMap d l T) (hd : d ≤ 256) (hk : k.length = 32) :
  Calls Tryz.prog 107 #[T.val, .agg (bA k), .int .i64 (d : Int)] w fun e w' => ∃ A c, e = .returned (.tuple #[(T.fin k d).val, .slice A (T.sibs k d).length c]) ∧ OwnT w' w.heap.size (.slice A (T.sibs k d).length c) (T.sibs k d) ∧ Below w.heap.size w w' := by
 obtain ⟨pT, hpT⟩ := val_ptr nd hM
 obtain ⟨X, hX⟩ : ∃ X, X = w.alloc (.cells (bA k) 39) := ⟨_, rfl⟩
 have hb0 : Below w.heap.size w X := by rw [hX]; exact (Below.refl _ _).alloc (Nat.le_refl _) _
 have hr0 : RowB X w.heap.size 39 k := by rw [hX]; exact RowB.alloc w k _
 have hs0 : w.heap.size < X.heap.size := by rw [hX]; simp
 have HST : Hid (Fo M X n d k T T [] (.slice none 0 0) X) := ⟨⟨l, hT⟩, rfl, rfl, nd.below hM hb0, OwnT.nil _ _, Below.refl _ _⟩
 have HX := Lib.hid hX
 have HB0 := Lib.hid hb0
 have HR0 := Lib.hid hr0
 have HS0 := Lib.hid hs0
 have HPT := Lib.hid hpT
 have HK := Lib.hid hk
 rw [hpT]
 clear hX hb0 hr0 hs0 hpT hM hT hk
 go_enter Tryz.func107, Tryz.ntmps107
 go_wp2_with fail
 rw [← HX.out]
 clear HX
 go_loopg [0, 7] 257 (fun gg v u wr => ∃ (S : Tv) (pS : Option Addr) (pre : List Tv) (A : Option Addr) (c : Nat), v = .pointer pS ∧ u = .slice A pre.length c ∧ d + pre.length ≤ 256 ∧ 257 - pre.length = gg ∧ Hid (S.val = .pointer pS ∧ Fo M X n d k T S pre (.slice A pre.length c) wr))
 case atStart => exact ⟨T, pT, [], none, 0, rfl, rfl, hd, by simp, HPT.out, HST.out⟩
 case round =>
  obtain ⟨S, pS, pre, A, c, rfl, rfl, hp, rfl, HR⟩ := hrel
  obtain ⟨hpS, hF⟩ := HR.out
  have HKD := Lib.hid (nd.kind wr n S (nd.below hF.ms hF.bel))
  rw [hpS] at HKD
  have HF := Lib.hid hF
  have HPS := Lib.hid hpS
  clear hF hpS HR
  go_wp2_with fail
  refine HKD.out.mono ?_
  rintro _ w1 ⟨rfl, hB1⟩
  have HB1 := Lib.hid hB1
  clear hB1 HKD
  by_cases hk2 : kindT S.tr = 2
  ·obtain ⟨l', hl'⟩ := HF.out.sub
   obtain ⟨hd2, hch⟩ := hl'.child hp hk2 k
   have HGO := Lib.hid (sibs_go k hk2 hd2)
   have HCH := Lib.hid hch
   have HD2 := Lib.hid hd2
   rw [hk2]
   have HBX := Lib.hid (HF.out.bel.trans (HB1.out.mono HF.out.bel.size))
   have HO1 := Lib.hid (HF.out.own.below HB1.out)
   have lk := (HR0.out.below HBX.out).ldKey HK.out
   obtain ⟨p, hpl⟩ : ∃ p, p = pre.length := ⟨_, rfl⟩
   have HPL := Lib.hid hpl
   have hp1 : (d : Int) + (p : Int) ≤ 1000 := by rw [hpl]; omega
   rw [← hpl]
   clear hk2 hl' hch hd2 hpl
   go_wp2_with fail
   refine (pbitK_c k HK.out ((d : Int) + (p : Int)) w1).mono ?_
   rintro _ w2 ⟨rfl, hB2⟩
   obtain ⟨bt, hbt⟩ : ∃ bt, bt = bitK k ((d : Int) + (p : Int)) := ⟨_, rfl⟩
   rw [← hbt]
   have hbt2 : bt = bitK k ((d + pre.length : Nat) : Int) := by rw [hbt, HPL.out]; rfl
   have h01 := bitK_01 k (d + pre.length) HD2.out
   rw [← hbt2] at h01
   have hb1 : 0 ≤ bt := by omega
   have hb2 : bt ≤ 1 := by omega
   have HBT := Lib.hid hbt2
   have HBX2 := Lib.hid (HBX.out.trans (hB2.mono HBX.out.size))
   have HO2 := Lib.hid (OwnT.below HO1.out hB2)
   obtain ⟨pa, hpa⟩ := val_ptr nd (ms_child nd (b := 1 - bt) HF.out.ms)
   obtain ⟨pb, hpb⟩ := val_ptr nd (ms_child nd (b := bt) HF.out.ms)
   have HPA := Lib.hid hpa
   have HPB := Lib.hid hpb
   have HC := Lib.hid (child_c nd w2 n S (1 - bt) (nd.below HF.out.ms HBX2.out))
   rw [HPS.out, HPA.out] at HC
   clear hbt hbt2 h01 hB2 hpa hpb lk HO1 HBX HB1
   go_wp2_with fail
   refine HC.out.mono ?_
   rintro _ w3 ⟨rfl, hB3⟩
   obtain ⟨Z, hZ⟩ : ∃ Z, Z = w3.alloc (.cells #[.pointer pa] 24) := ⟨_, rfl⟩
   have hBZ : Below w2.heap.size w2 Z := by rw [hZ]; exact hB3.alloc hB3.size _
   have hcz : Z.cell? ⟨w3.heap.size, 0, none⟩ = some (.pointer pa) := by rw [hZ, cell_of_cells (heap_alloc_new w3 _)]; rfl
   have HBZ := Lib.hid (HBX2.out.trans (hBZ.mono HBX2.out.size))
   have HOZ := Lib.hid (OwnT.below HO2.out hBZ)
   have HZ := Lib.hid hZ
   have HCZ := Lib.hid hcz
   have HL : Hid (pre.length ≤ 400000) := by show _ ≤ _; omega
   rw [HPL.out]
   clear hZ hBZ hcz hB3 HC HO2
   go_wp2_with (at_builtin; rw [← HZ.out]; refine wpList_pushT rfl _ _ rfl X.heap.size (.slice A pre.length c) pre rfl HOZ.out w3.heap.size (S.child (1 - bt)) pa HPA.out rfl HCZ.out HL.out HBZ.out.size ?_; intro A4 n4 c4 w4 hP; obtain ⟨hn4, _, _⟩ := OwnT.slice hP.own; have HP4 := Lib.hid hP; rw [List.length_append, List.length_singleton] at hn4; subst hn4; clear hP)
   have HBX4 := Lib.hid (HBZ.out.trans HP4.out.bel)
   have HC := Lib.hid (child_c nd w4 n S bt (nd.below HF.out.ms HBX4.out))
   rw [HPS.out, HPB.out] at HC
   refine HC.out.mono ?_
   rintro _ w5 ⟨rfl, hB5⟩
   have HB5 := Lib.hid hB5
   clear hB5 HC
   go_wp2_with fail
   go_roundg (257 - (pre.length + 1))
   case measure => omega
   case rel =>
    refine ⟨S.child bt, pb, pre ++ [S.child (1 - bt)], A4, c4, rfl, by simp, by have := HD2.out; simp; omega, by simp, HPB.out, ?_⟩
    have hg := HGO.out
    rw [← HBT.out] at hg
    have hl : (pre ++ [S.child (1 - bt)]).length = pre.length + 1 := by simp
    refine ⟨by rw [hl, HBT.out]; exact HCH.out, by rw [hl, HF.out.sib, hg.1, List.append_assoc]; rfl, by rw [hl, HF.out.fin, hg.2]; rfl, ms_child nd HF.out.ms, ?_, HBX4.out.trans (HB5.out.mono HBX4.out.size)⟩
    rw [hl]
    exact OwnT.below HP4.out.own HB5.out
  ·have HST := Lib.hid (sibs_stop k (d + pre.length) hk2)
   obtain ⟨kd, hkd⟩ : ∃ kd, kd = kindT S.tr := ⟨_, rfl⟩
   rw [← hkd] at hk2 ⊢
   have kb : (kd == 2) = false := by simpa using hk2
   clear hkd hk2
   go_wp2_with fail
   go_ret2
   have hs : T.sibs k d = pre := by rw [HF.out.sib, HST.out.1, List.append_nil]
   refine ⟨A, c, by rw [HF.out.fin, HST.out.2, HPS.out, hs]; rfl, ?_, HB0.out.trans ((HF.out.bel.trans (HB1.out.mono HF.out.bel.size)).mono HB0.out.size)⟩
   rw [hs]
   have := HF.out.own.below HB1.out
   exact OwnT.lower this (Nat.le_of_lt HS0.out)
end
section
open Go.RowKit Go.Shelf
def nilC (j : Nat) : Array Value := (List.replicate j (Value.pointer none)).toArray
theorem make_nils (j : Nat) (hj : j ≤ 1000) (m d : Int) (h : m - d = (j : Int)) (w : World) : (Instr.makeSlice 165 (.int .i64 (m - d)) (.int .i64 (m - d + 1))).run Tryz.prog w = .ok (.slice (some ⟨w.heap.size, 0, none⟩) j (j + 1)) (w.alloc (.cells (nilC (j + 1)) 24)) := by
 obtain ⟨i, hi, hzz⟩ := Option.map_eq_some_iff.1 infoPn
 simp only [Prod.mk.injEq] at hzz
 obtain ⟨hz, hs, hb⟩ := hzz
 rw [h, show ((j : Int) + 1) = ((j + 1 : Nat) : Int) from rfl]
 have hr := run_make (P := Tryz.prog) w 165 24 i (.pointer none) Tryz.underlying165 hi hz .i64 .i64 j (j + 1 : Nat) (by omega) (by omega) (by rw [hb]; omega) (by omega)
 rw [Int.toNat_natCast, Int.toNat_natCast, hs, Nat.mul_one] at hr
 rw [hr]
 have : madeCells (Value.pointer none).cells (j + 1) = nilC (j + 1) := by
  apply Array.toList_inj.1
  rw [show (Value.pointer none).cells = #[Value.pointer none] from rfl, toList_madeCells_one]
  rfl
 rw [this]
theorem own_nils (w : World) (j : Nat) (hj : j ≤ 1000) : OwnT (w.alloc (.cells (nilC (j + 1)) 24)) w.heap.size (.slice (some ⟨w.heap.size, 0, none⟩) j (j + 1)) (List.replicate j .nil) := by
 have hl : (List.replicate j Tv.nil).length = j := List.length_replicate
 refine ⟨by simp, .inr ⟨w.heap.size, j + 1, nilC (j + 1), by rw [hl], Nat.le_refl _, heap_alloc_new w _, by omega, by unfold maxLen; omega, by simp [nilC], ?_⟩⟩
 rw [hl, Nat.mul_one, List.map_replicate]
 show (List.replicate (j + 1) (Value.pointer none)).take j = List.replicate j (Value.pointer none)
 rw [List.take_replicate, Nat.min_eq_left (Nat.le_succ j)]
theorem below_keep {B : Nat} {a b : World} (h : Below B a b) : Keep (fun i => B ≤ i) a b := ⟨h.os, h.tape, h.output, h.size, fun i _ hl => h.block i (by omega)⟩
theorem pair_c {M : World → Int → Tv → Prop} (nd : NdV M) (w : World) (b : Nat) (n : Int) (c d : Nat) (u v : Value) (x y : Ent) (hh : Hs w b n c) (hc : c ≤ 800000) (hv : Vars w) (hMu : M w n (.leaf u x)) (hMv : M w n (.leaf v y)) (hne : x.k ≠ y.k) (hd : d ≤ comK x.k y.k) :
  Calls Tryz.prog 109 #[ptr b, u, v, .int .i64 (d : Int)] w fun e w' => ∃ (T' : Tv) (c' : Nat), e = .returned T'.val ∧ T'.tr = growT (257 - d) [x, y] d ∧ M w' n T' ∧ c' ≤ c + 3 * (comK x.k y.k - d + 1) ∧ Hs w' b n c' ∧ Keep (fun i => i = b) w w' ∧
   ∀ w2, Keep (fun i => i < w.heap.size) w' w2 → M w2 n (.leaf u x) → M w2 n (.leaf v y) → M w2 n T' := by
 obtain ⟨pu, hpu'⟩ : ∃ p, u = .pointer p := val_ptr nd hMu
 obtain ⟨pv, hpv'⟩ : ∃ p, v = .pointer p := val_ptr nd hMv
 subst hpu' hpv'
 have hpu : (Tv.leaf (.pointer pu) x).val = .pointer pu := rfl
 have hpv : (Tv.leaf (.pointer pv) y).val = .pointer pv := rfl
 obtain ⟨hxk, _⟩ := nd.key hMu
 obtain ⟨hyk, _⟩ := nd.key hMv
 have hlt := com_lt hxk hyk hne
 obtain ⟨g, hg⟩ : ∃ g, g = x.k ++ digL n (valL x.v) := ⟨_, rfl⟩
 obtain ⟨f, hf⟩ : ∃ f, f = y.k ++ digL n (valL y.v) := ⟨_, rfl⟩
 have fx : ∀ w, (Instr.field 57 (.agg (bA g)) 0).run Tryz.prog w = .ok (.agg (bA x.k)) w := fun w => by
  rw [hg, field_leafKey _ (by rw [List.length_append, hxk, dig_len]) w, List.take_append_of_le_length (by omega), List.take_of_length_le (by omega)]
 have fy : ∀ w, (Instr.field 57 (.agg (bA f)) 0).run Tryz.prog w = .ok (.agg (bA y.k)) w := fun w => by
  rw [hf, field_leafKey _ (by rw [List.length_append, hyk, dig_len]) w, List.take_append_of_le_length (by omega), List.take_of_length_le (by omega)]
 have HLX : Hid (Calls Tryz.prog 32 #[.pointer pu] w fun e w' => e = .returned (.agg (bA g)) ∧ Below w.heap.size w w') := by
  have := nd.leafOf w n (.leaf (.pointer pu) x) hMu
  rw [hpu] at this
  rw [hg]
  exact this
 have HLY : Hid (∀ q, Below w.heap.size w q → Calls Tryz.prog 32 #[.pointer pv] q fun e w' => e = .returned (.agg (bA f)) ∧ Below q.heap.size q w') := fun q hq => by
  have := nd.leafOf q n (.leaf (.pointer pv) y) (nd.below hMv hq)
  rw [hpv] at this
  rw [hf]
  exact this
 have HCM : Hid (∀ q, Calls Tryz.prog 92 #[.agg (bA x.k), .agg (bA y.k)] q fun e w' => e = .returned (.int .i64 (comK x.k y.k : Int)) ∧ Below q.heap.size q w') := fun q => by
  have := Bt.common_c (keyF x.k) (keyF y.k) (keyF_byt _) (keyF_byt _) q
  rwa [← bA_key x.k hxk, ← bA_key y.k hyk] at this
 have st : ∀ w : World, stA 39 (w.alloc (.cells (Bt.kc Bt.kz) 39)) (.pointer (some ⟨w.heap.size, 0, none⟩)) (.agg (bA x.k)) = .ok .skip (w.alloc (.cells (bA x.k) 39)) := fun w =>
  stA_new (t := 39) w (Bt.kc Bt.kz) (bA x.k) (by rw [bA_size, hxk]; exact infoKey) (by rw [bA_size, hxk]; rfl) (bA_one _)
 have HXK := Lib.hid hxk
 have HYK := Lib.hid hyk
 have HLT := Lib.hid hlt
 have HH := Lib.hid hh
 have HC := Lib.hid hc
 have HV := Lib.hid hv
 have HMU := Lib.hid hMu
 have HMV := Lib.hid hMv
 have HNE := Lib.hid hne
 have HD := Lib.hid hd
 have HPU := Lib.hid hpu
 have HPV := Lib.hid hpv
 unfold ptr
 clear hpu hpv hxk hyk hlt hg hf hh hc hv hMu hMv hne hd
 go_enter Tryz.func109, Tryz.ntmps109
 go_wp2_with fail
 refine HLX.out.mono ?_
 rintro _ w1 ⟨rfl, hB1⟩
 have HB1 := Lib.hid hB1
 clear hB1 HLX
 obtain ⟨X, hX⟩ : ∃ X, X = w1.alloc (.cells (bA x.k) 39) := ⟨_, rfl⟩
 have hbX : Below w1.heap.size w1 X := by rw [hX]; exact (Below.refl _ _).alloc (Nat.le_refl _) _
 have hr0 : RowB X w1.heap.size 39 x.k := by rw [hX]; exact RowB.alloc w1 x.k _
 have hsX : w1.heap.size < X.heap.size := by rw [hX]; simp
 have HX := Lib.hid hX
 have HBX := Lib.hid (HB1.out.trans (hbX.mono HB1.out.size))
 have HR0 := Lib.hid hr0
 have HSX := Lib.hid hsX
 clear hX hbX hr0 hsX
 go_wp2_with fail
 rw [← HX.out]
 clear HX st
 have la : ∀ q : Later X, ldA 39 q.w (.pointer (some ⟨w1.heap.size, 0, none⟩)) = .ok (.value (.agg (bA x.k))) q.w := fun q => (HR0.out.below q.h).ldKey HXK.out
 have HL2 : Hid (∀ q : Later X, Calls Tryz.prog 32 #[.pointer pv] q.w fun e w'' => e = .returned (.agg (bA f)) ∧ ∃ z : Later X, w'' = z.w) := fun q => Later.call (HLY.out q.w (HBX.out.trans (q.h.mono HBX.out.size)))
 refine wp_region_later (by kernel_rfl) (by kernel_rfl) ?_
 repeat (go_big_quiet_step ((first | (go_at_call 32; exact HL2.out _) | (go_at_call 92; exact Later.call (HCM.out _)))))
 refine wpQuiet_nil ?_
 rintro _ ⟨X2, rfl⟩
 obtain ⟨j, hj⟩ : ∃ j, d + j = comK x.k y.k := ⟨comK x.k y.k - d, by have := HD.out; omega⟩
 obtain ⟨m, hm⟩ : ∃ m : Int, m = (comK x.k y.k : Int) := ⟨_, rfl⟩
 rw [← hm]
 have hj0 : j ≤ 256 := by have := HLT.out; omega
 have f1 : ∀ (ts : Array TypeId) (t : TypeId) (W : World), (Builtin.min_ ts t #[.int .i64 (d : Int), .int .i64 m]).run Tryz.prog W = .ok (.int .i64 (d : Int)) W := fun ts t W => by
  rw [run_min_int2]
  congr 2
  omega
 have f2 : ∀ (ts : Array TypeId) (t : TypeId) (W : World), (Builtin.max_ ts t #[.int .i64 0, .int .i64 (d : Int)]).run Tryz.prog W = .ok (.int .i64 (d : Int)) W := fun ts t W => by
  rw [run_max_int2]
  congr 2
  omega
 have m0 : m ≤ 1000 := by have := HLT.out; omega
 have m1 : (d : Int) ≤ m := by omega
 have HJ := Lib.hid hj
 have HJ0 := Lib.hid hj0
 obtain ⟨W1, hW1⟩ : ∃ W1, W1 = X2.w := ⟨_, rfl⟩
 have HB1W : Hid (Below w.heap.size w W1) := by show Below _ _ _; rw [hW1]; exact HBX.out.trans (X2.h.mono HBX.out.size)
 have HRK : Hid (RowB W1 w1.heap.size 39 x.k) := by show RowB _ _ _ _; rw [hW1]; exact HR0.out.below X2.h
 rw [← hW1]
 have hmk := make_nils j (by omega) m (d : Int) (by omega) W1
 obtain ⟨sv, hsv⟩ : ∃ sv, sv = Value.slice (some ⟨W1.heap.size, 0, none⟩) j (j + 1) := ⟨_, rfl⟩
 rw [← hsv] at hmk
 obtain ⟨Y, hY⟩ : ∃ Y, Y = W1.alloc (.cells (nilC (j + 1)) 24) := ⟨_, rfl⟩
 have HOY : Hid (OwnT Y W1.heap.size sv (List.replicate j .nil)) := by show OwnT _ _ _ _; rw [hY, hsv]; exact own_nils W1 j (by omega)
 have HYB : Hid (Below W1.heap.size W1 Y) := by show Below _ _ _; rw [hY]; exact (Below.refl _ _).alloc (Nat.le_refl _) _
 have HY := Lib.hid hY
 have LK : Hid (∀ q, Keep (fun i => i = b) W1 q → ldA 39 q (.pointer (some ⟨w1.heap.size, 0, none⟩)) = .ok (.value (.agg (bA x.k))) q) := fun q hq => by
  have hb := lt_of_heap HH.out
  have := HB1.out.size
  have h1 : RowB q w1.heap.size 39 x.k := hq.heap HRK.out (by show w1.heap.size ≠ b; omega)
  exact h1.ldKey HXK.out
 clear la HL2 hY hW1 hm hj hj0 hsv
 go_wp2_with fail
 rw [← HY.out]
 clear hmk f1 f2 m0 m1
 have hb0 : Keep (fun i => i = b) W1 Y.drew := (Keep.of_below HYB.out).drew
 have HB0 := Lib.hid hb0
 refine region_heldT 10 (fun w' => Keep (fun i => i = b) W1 w') (by kernel_rfl) ?_
 have hHeld := hb0
 refine HeldT.take (i := 0) (oi := { dst := some 32, op := .move (.tmp 0), .. }) (v := ?_) rfl (by kernel_rfl) (by kernel_rfl) (by kernel_rfl) (by kernel_rfl) (fun _ _ _ h => h) (Or.inl ⟨by rfl, ?_⟩) (by assumption) ?_
 rotate_left 1
 ·intro v hSv
  clear hSv
  go_simp
  try with_reducible rfl
 try simp only [Act.put, x_A, x_0, x_1]
 refine HeldT.take (i := 1) (oi := { dst := some 33, op := .load _ (.tmp 9), .. }) (v := ?_) rfl (by kernel_rfl) (by kernel_rfl) (by kernel_rfl) (by kernel_rfl) (fun _ _ _ h => h) (Or.inl ⟨by rfl, ?_⟩) (by assumption) ?_
 rotate_left 1
 ·intro v hSv
  have hv1 := LK.out v hSv
  clear hSv
  go_simp
  try with_reducible rfl
 try simp only [Act.put, x_A, x_0, x_1]
 refine HeldT.take (i := 2) (oi := { dst := some 34, op := .move (.tmp 3), .. }) (v := ?_) rfl (by kernel_rfl) (by kernel_rfl) (by kernel_rfl) (by kernel_rfl) (fun _ _ _ h => h) (Or.inl ⟨by rfl, ?_⟩) (by assumption) ?_
 rotate_left 1
 ·intro v hSv
  clear hSv
  go_simp
  try with_reducible rfl
 try simp only [Act.put, x_A, x_0, x_1]
 refine HeldT.take (i := 3) (oi := { dst := some 35, op := .move (.tmp 11), .. }) (v := ?_) rfl (by kernel_rfl) (by kernel_rfl) (by kernel_rfl) (by kernel_rfl) (fun _ _ _ h => h) (Or.inl ⟨by rfl, ?_⟩) (by assumption) ?_
 rotate_left 1
 ·intro v hSv
  clear hSv
  go_simp
  try with_reducible rfl
 try simp only [Act.put, x_A, x_0, x_1]
 refine HeldT.take (i := 4) (oi := { dst := some 36, op := .move (.tmp 2), .. }) (v := ?_) rfl (by kernel_rfl) (by kernel_rfl) (by kernel_rfl) (by kernel_rfl) (fun _ _ _ h => h) (Or.inl ⟨by rfl, ?_⟩) (by assumption) ?_
 rotate_left 1
 ·intro v hSv
  clear hSv
  go_simp
  try with_reducible rfl
 try simp only [Act.put, x_A, x_0, x_1]
 refine HeldT.take (i := 8) (oi := { dst := some 40, op := .move (.tmp 1), .. }) (v := ?_) rfl (by kernel_rfl) (by kernel_rfl) (by kernel_rfl) (by kernel_rfl) (fun _ _ _ h => h) (Or.inl ⟨by rfl, ?_⟩) (by assumption) ?_
 rotate_left 1
 ·intro v hSv
  clear hSv
  go_simp
  try with_reducible rfl
 try simp only [Act.put, x_A, x_0, x_1]
 refine HeldT.one (i := 5) (o := { dst := some 37, op := .buildSlice _ _ _, .. }) (by kernel_rfl) rfl rfl (fun K hK => ?_)
 obtain ⟨Z, hZ⟩ : ∃ Z, Z = (Y.alloc (.cells #[.pointer pv] 24)).drew := ⟨_, rfl⟩
 have hYZ : Below Y.heap.size Y Z := by rw [hZ]; exact ((Below.refl _ _).alloc (Nat.le_refl _) _).drew
 have hzn : Z.cell? ⟨Y.heap.size, 0, none⟩ = some (.pointer pv) := by rw [hZ, cell_of_cells (show (Y.alloc (.cells #[.pointer pv] 24)).drew.heap[Y.heap.size]? = _ from heap_alloc_new Y _)]; rfl
 have hb1 : Keep (fun i => i = b) W1 Z := (Keep.of_below HYB.out).trans (Keep.of_below hYZ)
 have HZ := Lib.hid hZ
 have HYZ := Lib.hid hYZ
 have HZN := Lib.hid hzn
 have HB1Z := Lib.hid hb1
 clear hZ hYZ hzn
 go_wp2_with fail
 rw [← HZ.out]
 refine hK.out _ _ (fun _ => hb1) (fun hS => ?_)
 have hHeld := hS (by decide)
 clear hS hK K
 try simp only [Act.put, x_A, x_0, x_1]
 refine HeldT.one (i := 6) (o := { dst := some 38, op := .call _, .. }) (by kernel_rfl) rfl rfl (fun K hK => ?_)
 clear hb1 hb0
 have HOZ := Lib.hid (HOY.out.below HYZ.out)
 have hzs : W1.heap.size ≤ Z.heap.size := Nat.le_trans HYB.out.size HYZ.out.size
 have hzn := HZN.out
 have HLL : Hid ((List.replicate j Tv.nil).length ≤ 400000) := by show _ ≤ _; rw [List.length_replicate]; have := HJ0.out; omega
 go_wp2_with (at_builtin; refine wpList_pushT rfl _ _ rfl W1.heap.size sv (List.replicate j .nil) rfl HOZ.out Y.heap.size (.leaf (.pointer pv) y) pv HPV.out rfl hzn HLL.out hzs ?_; intro A nn cc w3 hP)
 obtain ⟨hnn, hpa3, hblk⟩ := OwnT.slice hP.own
 have hb3 : Keep (fun i => i = b) W1 w3 := HB1Z.out.step (below_keep hP.bel) fun i hi => .inr hi
 have HB3 := Lib.hid hb3
 have HBW3 := Lib.hid (((HYB.out.trans (HYZ.out.mono HYB.out.size))).trans hP.bel)
 have HPA3 := Lib.hid hpa3
 have HBLK := Lib.hid hblk
 have hnl : nn = j + 1 := by rw [hnn]; simp
 have HNN := Lib.hid hnn
 clear hP hnn hpa3 hblk hnl hzn hzs HOZ
 refine hK.out _ _ (fun _ => hb3) (fun hS => ?_)
 have hHeld := hS (by decide)
 clear hS hK K
 try simp only [Act.put, x_A, x_0, x_1]
 refine HeldT.one (i := 7) (o := { dst := some 39, op := .call _, .. }) (by kernel_rfl) rfl rfl (fun K hK => ?_)
 clear hb3
 have HJC := Lib.hid (joining_c b x.k d A nn cc w3)
 unfold ptr cloV at HJC
 go_wp2_with fail
 refine HJC.out.mono ?_
 rintro e w4 ⟨rfl, hjn, hB4⟩
 have hb4 : Keep (fun i => i = b) W1 w4 := HB3.out.trans (Keep.of_below hB4)
 have HB4 := Lib.hid hb4
 have HJN := Lib.hid hjn
 have HPA4 := Lib.hid (HPA3.out.below hB4)
 have HB34 := Lib.hid hB4
 clear hjn hB4 HJC
 go_wp2_with fail
 refine hK.out _ _ (fun _ => hb4) (fun hS => ?_)
 have hHeld := hS (by decide)
 clear hS hK K
 try simp only [Act.put, x_A, x_0, x_1]
 clear hb4
 refine HeldT.one (i := 9) (o := { dst := some 41, op := .call _, .. }) (by kernel_rfl) rfl rfl (fun K hK => ?_)
 have HJD : Hid (Calls Tryz.prog 116 #[.pointer pu, ptr (w3.heap.size + 3), ptr (w3.heap.size + 1), ptr (w3.heap.size + 2), ptr w3.heap.size] w4 fun e w' => ∃ (T' : Tv) (c' : Nat) (p' : Option Addr), e = .returned (.pointer p') ∧ T'.val = .pointer p' ∧ T'.tr = growT (257 - d) [x, y] d ∧ M w' n T' ∧ c' ≤ c + 3 * (comK x.k y.k - d + 1) ∧ Hs w' b n c' ∧ Keep (fun i => i = b) w4 w' ∧
   ∀ w2, Keep (fun i => i < w.heap.size) w' w2 → M w2 n (.leaf (.pointer pu) x) → M w2 n (.leaf (.pointer pv) y) → M w2 n T') := by
  have hbw4 : Below w.heap.size w w4 := (HB1W.out.trans (HBW3.out.mono HB1W.out.size)).trans (HB34.out.mono (Nat.le_trans HB1W.out.size HBW3.out.size))
  have hhb := lt_of_heap HH.out
  have hs1 := HB1W.out.size
  have hs3 := HBW3.out.size
  have hm : ∀ T ∈ List.replicate j Tv.nil ++ [Tv.leaf (.pointer pv) y], T = .nil ∨ T = .leaf (.pointer pv) y := fun T h => by
   rcases List.mem_append.1 h with h | h
   ·exact .inl (List.mem_replicate.1 h).2
   ·exact .inr (List.mem_singleton.1 h)
  have htr : (List.replicate j Tv.nil ++ [Tv.leaf (.pointer pv) y]).map Tv.tr = List.replicate j .nil ++ [.leaf y] := by simp [Tv.tr]
  have hlen : (List.replicate j Tv.nil ++ [Tv.leaf (.pointer pv) y]).length = j + 1 := by simp
  have hjd := HJ.out
  have h1 := joined_c nd w4 b n c x.k d A cc (List.replicate j Tv.nil ++ [Tv.leaf (.pointer pv) y]) (.leaf (.pointer pu) x) w3.heap.size (HH.out.keep (Keep.of_below (L := fun i => False) hbw4) (fun h => h)) (by have := HC.out; omega) (HV.out.below hbw4) (nd.below HMU.out hbw4)
   (fun T h => by
    rcases hm T h with rfl | rfl
    ·exact nd.nil _ _
    ·exact nd.below HMV.out hbw4) (by rw [← HNN.out]; exact HJN.out) (by omega) HPA4.out
   (fun a ha => by have h1 := HBLK.out a ha; have := HB34.out.size; exact ⟨by omega, by omega⟩) HXK.out (by rw [hlen]; have := HLT.out; omega)
   (by rw [htr]
       have : lensT (List.replicate j .nil ++ [.leaf y]) = 1 := by simp [lensT, lenT]
       rw [this]; show 1 + 1 ≤ _; omega)
  rw [htr, hlen, show (Tv.leaf (.pointer pu) x).tr = .leaf x from rfl, ← pair_grow HXK.out HYK.out HNE.out j d HJ.out, HPU.out] at h1
  refine h1.mono fun e w' ⟨T', c', h2, h3, h4, h5, h6, h7, h8⟩ => ?_
  obtain ⟨p', hp'⟩ := val_ptr nd h4
  exact ⟨T', c', p', by rw [h2, hp'], hp', h3, h4, by omega, h6, h7, fun w2 hk hu hv => h8 w2 (hk.mono fun i hi => by have := hbw4.size; omega) hu fun T h => by
   rcases hm T h with rfl | rfl
   ·exact nd.nil _ _
   ·exact hv⟩
 unfold ptr at HJD
 go_wp2_with fail
 refine HJD.out.mono ?_
 rintro e w5 ⟨T', c', p', rfl, hp', htr, hms, hc', hh', hk', haft⟩
 have HF : Hid (T'.val = .pointer p' ∧ T'.tr = growT (257 - d) [x, y] d ∧ M w5 n T' ∧ c' ≤ c + 3 * (comK x.k y.k - d + 1) ∧ Hs w5 b n c' ∧ Keep (fun i => i = b) w w5 ∧ ∀ w2, Keep (fun i => i < w.heap.size) w5 w2 → M w2 n (.leaf (.pointer pu) x) → M w2 n (.leaf (.pointer pv) y) → M w2 n T') :=
  ⟨hp', htr, hms, hc', hh', ((Keep.of_below HB1W.out).trans ((HB4.out.step hk' fun i hi => .inl hi).mono fun i hi => hi)), haft⟩
 have hb5 : Keep (fun i => i = b) W1 w5 := HB4.out.trans hk'
 clear hp' htr hms hc' hh' hk' haft HJD
 go_wp2_with fail
 refine hK.out _ _ (fun _ => hb5) (fun hS => ?_)
 have hHeld := hS (by decide)
 clear hS hK K
 try simp only [Act.put, x_A, x_0, x_1]
 refine HeldT.one (i := 10) (o := { dst := some 8, op := .assign _, .. }) (by kernel_rfl) rfl rfl (fun K hK => ?_)
 go_wp2_with fail
 refine hK.out _ _ (fun h => absurd rfl h) (fun _ => ?_)
 clear hK K
 try simp only [Act.put, x_A, x_0, x_1]
 refine HeldT.done (by kernel_rfl) ?_ _
 go_wp2_with fail
 go_ret
 obtain ⟨e1, e2⟩ := HF.out
 exact ⟨T', c', by rw [e1]; rfl, e2⟩
end
section
open Go.RowKit Go.Shelf
theorem at_end {M : World → Int → Tv → Prop} (nd : NdV M) (w q : World) (b : Nat) (n : Int) (c cq d : Nat) (l : List Ent) (T : Tv) (e : Ent) (j : Nat) (A : Option Addr) (cA : Nat)
  (hw : Hs w b n c) (hc : c ≤ 500000) (hv : Vars w) (hM : M w n T) (hT : SubMap d l T) (hd : d ≤ 256) (hf : Apt d l e) (hl : l.length ≤ 100000) (hk : Keep (fun i => i = b) w q) (hq : Hs q b n cq) (hcq : cq + 3 * (T.sibs e.k d).length ≤ c + 1000)
  (hj : Jn b e.k d A (T.sibs e.k d).length cA j q) (hbj : b < j) (hpa : PA q A (T.sibs e.k d)) (hA : ∀ a, A = some a → a.block < q.heap.size ∧ a.block ≠ b)
  (E : Tv) (hE : M q n E) (haft : ∀ w2, Keep (fun i => i < w.heap.size) q w2 → M w2 n T → M w2 n E) (htr : growT (257 - d) (putK l e) d = foldT e.k ((T.sibs e.k d).map Tv.tr) d E.tr) :
  Calls Tryz.prog 116 #[E.val, ptr (j + 3), ptr (j + 1), ptr (j + 2), ptr j] q fun x w' => ∃ (T' : Tv) (p' : Option Addr), x = .returned (.pointer p') ∧ T'.val = .pointer p' ∧ SubMap d (putK l e) T' ∧ Made M w b n T T' (c + 1000) w' := by
 have hdep := sibs_len e.k T d
 obtain ⟨_, _, _, hd2, _, _⟩ := put_way T d l hT hd hf
 have hlen := congrArg lenT htr
 rw [foldT_len] at hlen
 have h1 := growT_len (257 - d) (putK l e) d
 have h2 := (putK_perm l e).length_eq
 have h3 : (rmK l e.k).length ≤ l.length := List.length_filter_le _ _
 rw [List.length_cons] at h2
 have hb := lt_of_heap hw
 refine (joined_c nd q b n cq e.k d A cA (T.sibs e.k d) E j hq (by omega) (hv.hs hw hk) hE (fun S hS => nd.hs (ms_sibs nd e.k T d hM S hS) hw hk) hj hbj hpa hA hf.1 (by omega) (by omega)).mono fun x w' ⟨T', c', hx, ht, hm, hc', hh', hk', ha'⟩ => ?_
 obtain ⟨p', hp'⟩ := val_ptr nd hm
 refine ⟨T', p', by rw [hx, hp'], hp', ⟨put_sep hT.sep hf, by rw [ht, htr]⟩, hm, ⟨c', by omega, hh'⟩, hk.trans hk', fun w2 h2 hT2 => ?_⟩
 exact ha' w2 (h2.mono fun i hi => by have := hk.size; omega) (haft w2 ((hk'.mono fun i hi => by have e : i = b := hi; omega).trans h2) hT2) (ms_sibs nd e.k T d hT2)
theorem at_c {M : World → Int → Tv → Prop} (nd : NdV M) (w : World) (b : Nat) (n : Int) (c d : Nat) (l : List Ent) (T : Tv) (e : En) (hh : Hs w b n c) (hc : c ≤ 500000) (hv : Vars w) (hM : M w n T) (hT : SubMap d l T) (hd : d ≤ 256) (hf : Apt d l e.ent) (hl : l.length ≤ 100000) (he : EnOk w e) (hev : e.v.length ≤ 1000) :
  Calls Tryz.prog 88 #[ptr b, T.val, .agg (enC e).toArray, .int .i64 (d : Int)] w fun x w' => ∃ T', x = .returned T'.val ∧ SubMap d (putK l e.ent) T' ∧ Made M w b n T T' (c + 1000) w' := by
 obtain ⟨pT, hpT⟩ := val_ptr nd hM
 obtain ⟨l', hS', hf', hD', hkS, htr⟩ := put_way T d l hT hd hf
 obtain ⟨S, hS⟩ : ∃ S, S = T.fin e.k d := ⟨_, rfl⟩
 have hS2 : S = T.fin e.ent.k d := hS
 rw [← hS2] at hS' hkS
 have hmS : M w n S := by rw [hS]; exact ms_fin nd e.k hM
 have hmSa : ∀ w2, M w2 n T → M w2 n S := fun w2 h => by rw [hS]; exact ms_fin nd e.k h
 obtain ⟨pS, hpS⟩ := val_ptr nd hmS
 obtain ⟨p, hp⟩ : ∃ p, p = (T.sibs e.k d).length := ⟨_, rfl⟩
 have hdp : d + p = T.dep e.ent.k d := by rw [hp]; exact sibs_len e.k T d
 have hend := put_end hS' hf' hD' hkS
 have hFO := follow_c nd
 obtain ⟨X, hX⟩ : ∃ X, X = w.alloc (.cells (enC e).toArray 80) := ⟨_, rfl⟩
 have hb0 : Below w.heap.size w X := by rw [hX]; exact (Below.refl _ _).alloc (Nat.le_refl _) _
 have hr0 : X.rangeAt w.heap.size 0 (enC e) := by rw [hX]; exact ent_made w e _
 have lk0 := range_key hr0 he.key
 have HFO := Lib.hid (follow_c nd X n d l T e.k (nd.below hM hb0) hT hd he.key)
 rw [← hS, hpS, hpT, ← hp] at HFO
 rw [hX] at lk0
 have HX := Lib.hid hX
 have HB0 := Lib.hid hb0
 have HR0 := Lib.hid hr0
 have HM := Lib.hid hM
 have HT := Lib.hid hT
 have HD := Lib.hid hd
 have HF := Lib.hid hf
 have HL := Lib.hid hl
 have HE := Lib.hid he
 have HEV := Lib.hid hev
 have HH := Lib.hid hh
 have HC := Lib.hid hc
 have HV := Lib.hid hv
 have HMS := Lib.hid hmS
 have HMA := Lib.hid hmSa
 have HPS := Lib.hid hpS
 have HS := Lib.hid hS
 have HP := Lib.hid hp
 have HDP := Lib.hid hdp
 have HD2 := Lib.hid hD'
 have HTR := Lib.hid htr
 have HEND := Lib.hid hend
 have HKS := Lib.hid hkS
 rw [hpT]
 unfold ptr
 clear hX hb0 hr0 hM hT hd hf hl he hev hh hc hv hmS hmSa hpS hS hp hdp hD' htr hend hkS hS' hf' hpT hFO hS2
 go_enter Tryz.func88, Tryz.ntmps88
 go_wp2_with fail
 rw [← HX.out]
 clear HX lk0
 refine HFO.out.mono ?_
 rintro _ w2 ⟨A, cA, rfl, hO, hB2⟩
 obtain ⟨hpl, hpa, hblk⟩ := OwnT.slice hO
 have HPA := Lib.hid hpa
 have HBK := Lib.hid hblk
 have HB2 := Lib.hid (HB0.out.trans (hB2.mono HB0.out.size))
 have HR2 := Lib.hid (range_below HR0.out hB2)
 have lk := range_key HR2.out HE.out.key
 have HJC := Lib.hid (joining_c b e.k d A p cA w2)
 unfold ptr cloV at HJC
 clear hO hB2 hpa hblk hpl HFO
 go_wp2_with fail
 refine HJC.out.mono ?_
 rintro _ w3 ⟨rfl, hjn, hB3⟩
 have HJN := Lib.hid hjn
 have HPA3 := Lib.hid (HPA.out.below hB3)
 have HW23 := Lib.hid hB3
 have HB3 := Lib.hid (HB2.out.trans (hB3.mono HB2.out.size))
 have HR3 := Lib.hid (range_below HR2.out hB3)
 have le := range_ent HR3.out HE.out.key
 have HNL := Lib.hid (nd.leaf w3 b n c e (HH.out.keep (Keep.of_below (L := fun _ => False) HB3.out) fun h => h) (by have := HC.out; omega) (HV.out.below HB3.out) (HE.out.below HB3.out) HEV.out)
 unfold ptr at HNL
 clear hjn hB3 HJC lk
 go_wp2_with fail
 refine HNL.out.mono ?_
 rintro _ w4 ⟨vl, c4, rfl, hml, hc4, hh4, hk4, haft4⟩
 obtain ⟨pl, hpl⟩ : ∃ p, vl = .pointer p := val_ptr nd hml
 subst hpl
 have HML := Lib.hid hml
 have HC4 := Lib.hid hc4
 have HH4 := Lib.hid hh4
 have HK4 := Lib.hid ((Keep.of_below (L := fun i => i = b) HB3.out).trans hk4)
 have HA4 := Lib.hid haft4
 have HBLT := Lib.hid (lt_of_heap HH.out)
 have HJ4 := Lib.hid (HJN.out.keep hk4 fun i hi _ => by show i ≠ b; have := HBLT.out; have := HB2.out.size; omega)
 have HPA4 := Lib.hid ((HH.out.keep (Keep.of_below (L := fun _ => False) HB3.out) fun h => h).pa HPA3.out (fun T h => val_ptr nd (ms_sibs nd e.k _ d HM.out T h)) hk4)
 have HR4 := Lib.hid ((HH.out.keep (Keep.of_below (L := fun _ => False) HB3.out) fun h => h).range HR3.out HE.out.key hk4)
 have HBK4 : Hid (∀ a, A = some a → a.block < w4.heap.size ∧ a.block ≠ b) := fun a ha => by
  have h1 := HBK.out a ha
  have := HW23.out.size
  have := hk4.size
  have := HBLT.out
  have := HB0.out.size
  exact ⟨by omega, by omega⟩
 clear hml hc4 hh4 hk4 haft4 HNL le HPA HJN HPA3 HR3
 go_wp2_with fail
 have HS4 := Lib.hid (nd.hs HMS.out HH.out HK4.out)
 have lk : ∀ q : Later w4, ldA 39 q.w (.pointer (some ⟨w.heap.size, 0, none⟩)) = .ok (.value (.agg (bA e.k))) q.w := fun q => range_key (range_below HR4.out q.h) HE.out.key
 have HKD : Hid (∀ q : Later w4, Calls Tryz.prog 31 #[.pointer pS] q.w fun e w'' => e = .returned (.int .i64 (kindT S.tr)) ∧ ∃ y : Later w4, w'' = y.w) := fun q => by
  have := nd.kind q.w n S (nd.below HS4.out q.h)
  rw [HPS.out] at this
  exact Later.call this
 have HAE : Hid (∀ (q : World) (cq : Nat) (E : Tv), Keep (fun i => i = b) w4 q → Hs q b n cq → cq + 3 * p ≤ c + 1000 → M q n E → (∀ w2, Keep (fun i => i < w.heap.size) q w2 → M w2 n T → M w2 n E) →
   growT (257 - (d + p)) (putK l' e.ent) (d + p : Nat) = E.tr → Calls Tryz.prog 116 #[E.val, ptr (w2.heap.size + 3), ptr (w2.heap.size + 1), ptr (w2.heap.size + 2), ptr w2.heap.size] q fun x w' => ∃ (T' : Tv) (p' : Option Addr), x = .returned (.pointer p') ∧ T'.val = .pointer p' ∧ SubMap d (putK l e.ent) T' ∧ Made M w b n T T' (c + 1000) w') := fun q cq E hk hq hcq hE haft hg => by
  have hb := HBLT.out
  have h2 := HB2.out.size
  have h0 := HB0.out.size
  have hjq : Jn b e.k d A (T.sibs e.k d).length cA w2.heap.size q := by rw [← HP.out]; exact HJ4.out.keep hk fun i hi _ => by show i ≠ b; omega
  have hlq : cq + 3 * (T.sibs e.k d).length ≤ c + 1000 := by rw [← HP.out]; exact hcq
  have htq : growT (257 - d) (putK l e.ent) d = foldT e.k ((T.sibs e.k d).map Tv.tr) d E.tr := by rw [← hg, HDP.out]; exact HTR.out
  exact at_end nd w q b n c cq d l T e.ent w2.heap.size A cA HH.out HC.out HV.out HM.out HT.out HD.out HF.out HL.out (HK4.out.trans hk) hq hlq hjq (by omega) (HH4.out.pa HPA4.out (fun T h => val_ptr nd (ms_sibs nd e.k _ d HM.out T h)) hk)
   (fun a ha => by have h := HBK4.out a ha; have := hk.size; exact ⟨by omega, h.2⟩) E hE haft htq
 have HLA : Hid (∀ q w2, Keep (fun i => i = b) w4 q → Keep (fun i => i < w.heap.size) q w2 → M w2 n (.leaf (.pointer pl) e.ent)) := fun q w2 hk h2 => HA4.out w2 (((hk.mono fun i hi => by have e2 : i = b := hi; have := HBLT.out; have := HB3.out.size; omega)).trans (h2.mono fun i hi => by have := HB3.out.size; omega))
 rcases HEND.out with ⟨v, x, hSl, hne, hxk, hcd, hgr⟩ | ⟨hno, hgr⟩
 ·subst hSl
  have hpv : v = .pointer pS := HPS.out
  subst hpv
  have HG := Lib.hid hgr
  have HXK := Lib.hid hxk
  have HCD := Lib.hid hcd
  have HNE := Lib.hid hne
  rw [show kindT (Tv.leaf (.pointer pS) x).tr = 1 from rfl] at HKD
  obtain ⟨g, hg⟩ : ∃ g, g = x.k ++ digL n (valL x.v) := ⟨_, rfl⟩
  have fx : ∀ w, (Instr.field 57 (.agg (bA g)) 0).run Tryz.prog w = .ok (.agg (bA x.k)) w := fun w => by
   rw [hg, field_leafKey _ (by rw [List.length_append, hxk, dig_len]) w, List.take_append_of_le_length (by omega), List.take_of_length_le (by omega)]
  have HLF : Hid (∀ q : Later w4, Calls Tryz.prog 32 #[.pointer pS] q.w fun y w'' => y = .returned (.agg (bA g)) ∧ ∃ z : Later w4, w'' = z.w) := fun q => by
   have := nd.leafOf q.w n (.leaf (.pointer pS) x) (nd.below HS4.out q.h)
   rw [hg]
   exact Later.call this
  have ne : ∀ x' y' w, eqA .neq 39 x' y' w (.agg (bA x.k)) (.agg (bA e.k)) = .ok (.value (.bool true)) w := fun x' y' w => by rw [neKey8 _ _ hxk HE.out.key, decide_eq_false (show ¬ x.k = e.k from hne)]; rfl
  clear hgr hxk hcd hne hg HEND
  refine wp_region_later (by kernel_rfl) (by kernel_rfl) ?_
  repeat (go_big_quiet_step ((first | (go_at_call 31; exact HKD.out _) | (go_at_call 32; exact HLF.out _))))
  refine wpQuiet_nil ?_
  rintro _ ⟨x5, rfl⟩
  have HPR := Lib.hid (pair_c nd x5.w b n c4 (d + p) (.pointer pl) (.pointer pS) e.ent x (HH4.out.keep (Keep.of_below (L := fun _ => False) x5.h) fun h => h) (by have := HC.out; have := HC4.out; omega) ((HV.out.hs HH.out HK4.out).below x5.h) (nd.below HML.out x5.h) (nd.below HS4.out x5.h) (fun h => HNE.out h.symm) (by rw [HDP.out]; exact HCD.out))
  unfold ptr at HPR
  have hp0 : d + p ≤ 1000 := by rw [HDP.out]; have := HD2.out; omega
  have hp1 : (d : Int) + (p : Int) ≤ 1000 := by omega
  clear lk HKD HLF fx ne hp0
  go_wp2_with fail
  refine HPR.out.mono ?_
  rintro _ w6 ⟨T6, c6, rfl, htr6, hm6, hc6, hh6, hk6, haft6⟩
  obtain ⟨p6, hp6⟩ := val_ptr nd hm6
  rw [hp6]
  have HJ6 : Hid (Calls Tryz.prog 116 #[.pointer p6, ptr (w2.heap.size + 3), ptr (w2.heap.size + 1), ptr (w2.heap.size + 2), ptr w2.heap.size] w6 fun x w' => ∃ (T' : Tv) (p' : Option Addr), x = .returned (.pointer p') ∧ T'.val = .pointer p' ∧ SubMap d (putK l e.ent) T' ∧ Made M w b n T T' (c + 1000) w') := by
   have hk46 : Keep (fun i => i = b) w4 w6 := (Keep.of_below x5.h).trans hk6
   have h1 := HAE.out w6 c6 T6 hk46 hh6 (by have := HC4.out; have := HCD.out; have := HDP.out; have := com_lt HE.out.key HXK.out (fun h => HNE.out h.symm); have e : comK e.ent.k x.k = comK e.k x.k := rfl; rw [e] at hc6; omega) hm6
    (fun w2 h2 hT2 => haft6 w2 (h2.mono fun i hi => by have := HK4.out.size; have := x5.h.size; omega) (HLA.out w6 w2 hk46 h2) (HMA.out w2 hT2)) (by rw [htr6, HDP.out]; exact HG.out)
   rwa [hp6] at h1
  unfold ptr at HJ6
  clear htr6 hm6 hc6 hh6 hk6 haft6 hp6 HPR hp1
  go_wp2_with fail
  refine HJ6.out.mono ?_
  rintro _ w7 ⟨T', p', rfl, hp', hI, hm⟩
  have HQ : Hid (T'.val = .pointer p' ∧ SubMap d (putK l e.ent) T' ∧ Made M w b n T T' (c + 1000) w7) := ⟨hp', hI, hm⟩
  clear hp' hI hm HJ6
  go_wp2_with fail
  go_ret
  exact ⟨T', by rw [HQ.out.1]; rfl, HQ.out.2⟩
 ·have HJL : Hid (∀ q, Below w4.heap.size w4 q → Calls Tryz.prog 116 #[.pointer pl, ptr (w2.heap.size + 3), ptr (w2.heap.size + 1), ptr (w2.heap.size + 2), ptr w2.heap.size] q fun x w' => ∃ (T' : Tv) (p' : Option Addr), x = .returned (.pointer p') ∧ T'.val = .pointer p' ∧ SubMap d (putK l e.ent) T' ∧ Made M w b n T T' (c + 1000) w') := fun q hq =>
   HAE.out q c4 (.leaf (.pointer pl) e.ent) (Keep.of_below hq) (HH4.out.keep (Keep.of_below (L := fun _ => False) hq) fun h => h) (by have := HC4.out; have := HDP.out; have := HD2.out; omega) (nd.below HML.out hq) (fun w2 h2 _ => HLA.out q w2 (Keep.of_below hq) h2) (by rw [HDP.out, hgr]; rfl)
  have hks := HKS.out
  clear hgr HEND
  cases S with
  | inner v a b => exact absurd rfl hks
  | nil =>
   rw [show kindT Tv.nil.tr = 0 from rfl] at HKD
   clear hno hks
   refine wp_region_later (by kernel_rfl) (by kernel_rfl) ?_
   repeat (go_big_quiet_step ((go_at_call 31; exact HKD.out _)))
   refine wpQuiet_nil ?_
   rintro _ ⟨x5, rfl⟩
   have HJ5 := Lib.hid (HJL.out x5.w x5.h)
   unfold ptr at HJ5
   clear lk HKD
   go_wp2_with fail
   refine HJ5.out.mono ?_
   rintro _ w7 ⟨T', p', rfl, hp', hI, hm⟩
   have HQ : Hid (T'.val = .pointer p' ∧ SubMap d (putK l e.ent) T' ∧ Made M w b n T T' (c + 1000) w7) := ⟨hp', hI, hm⟩
   clear hp' hI hm HJ5
   go_wp2_with fail
   go_ret
   exact ⟨T', by rw [HQ.out.1]; rfl, HQ.out.2⟩
  | leaf v x =>
   have hpv : v = .pointer pS := HPS.out
   subst hpv
   have hxe := hno _ _ rfl
   have hxk := (nd.key HS4.out).1
   rw [show kindT (Tv.leaf (.pointer pS) x).tr = 1 from rfl] at HKD
   obtain ⟨g, hg⟩ : ∃ g, g = x.k ++ digL n (valL x.v) := ⟨_, rfl⟩
   have fx : ∀ w, (Instr.field 57 (.agg (bA g)) 0).run Tryz.prog w = .ok (.agg (bA x.k)) w := fun w => by
    rw [hg, field_leafKey _ (by rw [List.length_append, hxk, dig_len]) w, List.take_append_of_le_length (by omega), List.take_of_length_le (by omega)]
   have HLF : Hid (∀ q : Later w4, Calls Tryz.prog 32 #[.pointer pS] q.w fun y w'' => y = .returned (.agg (bA g)) ∧ ∃ z : Later w4, w'' = z.w) := fun q => by
    have := nd.leafOf q.w n (.leaf (.pointer pS) x) (nd.below HS4.out q.h)
    rw [hg]
    exact Later.call this
   have ne : ∀ x' y' w, eqA .neq 39 x' y' w (.agg (bA x.k)) (.agg (bA e.k)) = .ok (.value (.bool false)) w := fun x' y' w => by rw [neKey8 _ _ hxk HE.out.key, decide_eq_true (show x.k = e.k from hxe)]; rfl
   clear hno hks hxe hxk hg
   refine wp_region_later (by kernel_rfl) (by kernel_rfl) ?_
   repeat (go_big_quiet_step ((first | (go_at_call 31; exact HKD.out _) | (go_at_call 32; exact HLF.out _))))
   clear HLF fx ne
   refine wpQuiet_nil ?_
   rintro _ ⟨x5, rfl⟩
   have HJ5 := Lib.hid (HJL.out x5.w x5.h)
   unfold ptr at HJ5
   clear lk HKD
   go_wp2_with fail
   refine HJ5.out.mono ?_
   rintro _ w7 ⟨T', p', rfl, hp', hI, hm⟩
   have HQ : Hid (T'.val = .pointer p' ∧ SubMap d (putK l e.ent) T' ∧ Made M w b n T T' (c + 1000) w7) := ⟨hp', hI, hm⟩
   clear hp' hI hm HJ5
   go_wp2_with fail
   go_ret
   exact ⟨T', by rw [HQ.out.1]; rfl, HQ.out.2⟩
end
section
open Go.RowKit Go.Shelf
theorem put9_c {M : World → Int → Tv → Prop} (nd : NdV M) (w : World) (b : Nat) (n : Int) (c : Nat) (l : List Ent) (T : Tv) (e : En) (hh : Hs w b n c) (hc : c ≤ 500000) (hv : Vars w) (hM : M w n T) (hT : IsMap l T) (hl : l.length ≤ 100000) (he : EnOk w e) (hev : e.v.length ≤ 1000) :
  Calls Tryz.prog 61 #[ptr b, T.val, .agg (enC e).toArray] w fun x w' => ∃ T', x = .returned T'.val ∧ IsMap (putK l e.ent) T' ∧ Made M w b n T T' (c + 1000) w' := by
 obtain ⟨pT, hpT⟩ := val_ptr nd hM
 obtain ⟨X, hX⟩ : ∃ X, X = w.alloc (.cells (enC e).toArray 80) := ⟨_, rfl⟩
 have hb0 : Below w.heap.size w X := by rw [hX]; exact (Below.refl _ _).alloc (Nat.le_refl _) _
 have hr0 : X.rangeAt w.heap.size 0 (enC e) := by rw [hX]; exact ent_made w e _
 have le := range_ent hr0 he.key
 have HAT : Hid (Calls Tryz.prog 88 #[ptr b, T.val, .agg (enC e).toArray, .int .i64 0] X fun x w' => ∃ T', x = .returned T'.val ∧ SubMap 0 (putK l e.ent) T' ∧ Made M X b n T T' (c + 1000) w') :=
  at_c nd X b n c 0 l T e (hh.keep (Keep.of_below (L := fun _ => False) hb0) fun h => h) hc (hv.below hb0) (nd.below hM hb0) hT.sub (Nat.zero_le _) ⟨he.key, fun a _ i hi _ => absurd hi (by omega)⟩ hl (he.below hb0) hev
 rw [hpT] at HAT
 unfold ptr at HAT
 rw [hX] at le
 have HX := Lib.hid hX
 have HB0 := Lib.hid hb0
 rw [hpT]
 unfold ptr
 clear hX hb0 hr0 hpT hh hc hv hM hT hl he hev
 go_enter Tryz.func61, Tryz.ntmps61
 go_wp2_with fail
 rw [← HX.out]
 clear HX le
 refine HAT.out.mono ?_
 rintro _ w2 ⟨T', rfl, hI, hm⟩
 obtain ⟨p', hp'⟩ := val_ptr nd hm.ms
 rw [hp']
 have HF : Hid (T'.val = .pointer p' ∧ IsMap (putK l e.ent) T' ∧ Made M w b n T T' (c + 1000) w2) := ⟨hp', hI.map, hm.ms, hm.hs, (Keep.of_below HB0.out).trans hm.keep, fun w3 h3 h4 => hm.aft w3 (h3.mono fun i hi => by have := HB0.out.size; omega) h4⟩
 clear hI hm hp' HAT
 go_wp2_with fail
 go_ret
 exact ⟨T', by rw [HF.out.1]; rfl, HF.out.2⟩
theorem foldl_put_len (es : List Ent) : ∀ l : List Ent, (es.foldl putK l).length ≤ l.length + es.length := by
 induction es with
 | nil => exact fun l => Nat.le_refl _
 | cons x r ih =>
  intro l
  have h1 := ih (putK l x)
  have h2 := (putK_perm l x).length_eq
  have h3 : (rmK l x.k).length ≤ l.length := List.length_filter_le _ _
  rw [List.length_cons] at h2 ⊢
  rw [List.foldl_cons]
  omega
theorem all_c {M : World → Int → Tv → Prop} (nd : NdV M) (w : World) (b : Nat) (n : Int) (c : Nat) (l : List Ent) (T : Tv) (A : Option Addr) (cA : Nat) (es : List En) (hh : Hs w b n c) (hc : c ≤ 100000) (hv : Vars w) (hM : M w n T) (hT : IsMap l T) (hl : l.length ≤ 10000) (hA : EA w A es) (hes : es.length ≤ 20) (hev : ∀ e ∈ es, e.v.length ≤ 1000) :
  Calls Tryz.prog 37 #[ptr b, T.val, .slice A es.length cA] w fun x w' => ∃ T', x = .returned T'.val ∧ IsMap ((es.map En.ent).foldl putK l) T' ∧ Made M w b n T T' (c + 1000 * es.length) w' := by
 obtain ⟨pT, hpT⟩ := val_ptr nd hM
 have HST : Hid (T.val = .pointer pT ∧ IsMap (((es.take 0).map En.ent).foldl putK l) T ∧ Made M w b n T T (c + 1000 * 0) w) := ⟨hpT, hT, hM, ⟨c, Nat.le_refl _, hh⟩, Keep.refl _ _, fun _ _ h => h⟩
 have HH := Lib.hid hh
 have HC := Lib.hid hc
 have HV := Lib.hid hv
 have HL := Lib.hid hl
 have HA := Lib.hid hA
 have HEV := Lib.hid hev
 have hes2 : es.length ≤ 20 := hes
 rw [hpT]
 unfold ptr
 clear hpT hh hc hv hM hT hl hA hev hes
 go_enter Tryz.func37, Tryz.ntmps37
 go_wp2_with fail
 go_loopg [1, 11] es.length (fun gg nv iv wr => ∃ (k : Nat) (S : Tv) (pS : Option Addr), nv = .pointer pS ∧ iv = .int .i64 (k : Int) ∧ k ≤ es.length ∧ es.length - k = gg ∧ Hid (S.val = .pointer pS ∧ IsMap (((es.take k).map En.ent).foldl putK l) S ∧ Made M w b n T S (c + 1000 * k) wr))
 case atStart => exact ⟨0, T, pT, rfl, rfl, by omega, by omega, HST.out⟩
 case round =>
  obtain ⟨k, S, pS, rfl, rfl, hk, rfl, HR⟩ := hrel
  obtain ⟨hpS, hI, hm⟩ := HR.out
  by_cases hlt : k < es.length
  ·have hd : decide (k < es.length) = true := decide_eq_true hlt
   obtain ⟨e, he⟩ : ∃ e, es[k]? = some e := ⟨_, List.getElem?_eq_getElem hlt⟩
   obtain ⟨hok, g, o, rfl, hr⟩ := (HH.out.ea HA.out hm.keep) k e he
   obtain ⟨ck, hck, hhk⟩ := hm.hs
   have le := range_ent hr hok.key
   have st := stE_new (w := wr) (e := e) (z := ⟨z26, none, [], 0⟩) hok.key rfl
   obtain ⟨X, hX⟩ : ∃ X, X = wr.alloc (.cells (enC e).toArray 80) := ⟨_, rfl⟩
   have hbX : Below wr.heap.size wr X := by rw [hX]; exact (Below.refl _ _).alloc (Nat.le_refl _) _
   have hr0 : X.rangeAt wr.heap.size 0 (enC e) := by rw [hX]; exact ent_made wr e _
   have le2 := range_ent hr0 hok.key
   have hlen := foldl_put_len ((es.take k).map En.ent) l
   rw [List.length_map, List.length_take] at hlen
   have HPU := Lib.hid (put9_c nd X b n ck _ S e (hhk.keep (Keep.of_below (L := fun _ => False) hbX) fun h => h) (by have := HC.out; omega) ((HV.out.hs HH.out hm.keep).below hbX) (nd.below hm.ms hbX) hI (by have := HL.out; omega) (hok.below hbX) (HEV.out e (List.mem_of_getElem? he)))
   rw [hpS] at HPU
   unfold ptr at HPU
   have HN : Hid (((es.take (k + 1)).map En.ent).foldl putK l = putK (((es.take k).map En.ent).foldl putK l) e.ent) := by
    show _ = _
    rw [map_take_succ he, List.foldl_append]
    rfl
   have HX := Lib.hid hX
   have HBX := Lib.hid hbX
   have HM := Lib.hid hm
   have HCK := Lib.hid hck
   have p0 : (0 : Int) ≤ (k : Int) := by omega
   have p1 : (k : Int) < (es.length : Int) := by omega
   rw [hX] at le2
   clear hpS hI hm he hok hr hck hhk hX hbX hr0 hlen HR
   go_wp2_with fail
   rw [← HX.out]
   clear HX le2 st le
   refine HPU.out.mono ?_
   rintro _ w5 ⟨S', rfl, hI5, hm5⟩
   obtain ⟨p5, hp5⟩ := val_ptr nd hm5.ms
   rw [hp5]
   have HF : Hid (S'.val = .pointer p5 ∧ IsMap (((es.take (k + 1)).map En.ent).foldl putK l) S' ∧ Made M w b n T S' (c + 1000 * (k + 1)) w5) := by
    obtain ⟨c5, hc5, hh5⟩ := hm5.hs
    refine ⟨hp5, by rw [HN.out]; exact hI5, hm5.ms, ⟨c5, by have := HCK.out; omega, hh5⟩, (HM.out.keep.trans (Keep.of_below HBX.out)).trans hm5.keep, fun w3 h3 h4 => ?_⟩
    have hb := lt_of_heap HH.out
    exact hm5.aft w3 (h3.mono fun i hi => by have := HM.out.keep.size; have := HBX.out.size; omega) (HM.out.aft w3 (((Keep.of_below HBX.out).trans (hm5.keep.mono fun i hi => by have e2 : i = b := hi; omega)).trans h3) h4)
   clear hI5 hm5 hp5 HPU HM
   go_wp2_with fail
   go_roundg (es.length - (k + 1))
   case measure => omega
   case rel => exact ⟨k + 1, S', p5, rfl, by go_num, by omega, rfl, HF.out⟩
  ·obtain rfl : k = es.length := by omega
   have hd : decide (es.length < es.length) = false := decide_eq_false (by omega)
   have HF : Hid (S.val = .pointer pS ∧ IsMap ((es.map En.ent).foldl putK l) S ∧ Made M w b n T S (c + 1000 * es.length) wr) := by
    rw [List.take_length] at hI
    exact ⟨hpS, hI, hm⟩
   clear hpS hI hm HR
   go_wp2_with fail
   go_ret
   exact ⟨S, by rw [HF.out.1]; rfl, HF.out.2⟩
theorem pt_c : PtV Mn where
 put := put9_c nd_c
 atd := at_c nd_c
 pair := fun w b n c d u v x y hh hc hv hu hy hne hd => (pair_c nd_c w b n c d u v x y hh (by omega) hv hu hy hne hd).mono fun _ _ ⟨T', c', h1, h2, h3, h4, h5, h6, _⟩ =>
  ⟨T', c', h1, h2, h3, by have := com_lt (nd_c.key hu).1 (nd_c.key hy).1 hne; omega, h5, h6⟩
 all := all_c nd_c
end
end Go.Proofs.YtmfbhohjpkmllaaGreatDoor
