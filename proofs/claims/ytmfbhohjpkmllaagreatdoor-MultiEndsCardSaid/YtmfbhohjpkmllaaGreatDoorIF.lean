import Derived.Test.YtmfbhohjpkmllaaGreatDoorIC
import Derived.Test.YtmfbhohjpkmllaaGreatDoorME
import Derived.Test.YtmfbhohjpkmllaaGreatDoorIH
import Derived.Test.YtmfbhohjpkmllaaGreatDoorMT
import Derived.Test.YtmfbhohjpkmllaaGreatDoorM6
import Derived.Test.YtmfbhohjpkmllaaGreatDoorMO
namespace Go.Proofs.YtmfbhohjpkmllaaGreatDoor
set_option linter.unusedSimpArgs false
set_option linter.unusedVariables false
set_option maxHeartbeats 4000000
set_option maxRecDepth 100000
section
open Go.RowKit
theorem preM_len (n : Int) : ∀ (t : Mt), (∀ x ∈ t.flat, x.Ok) → (preM n t).length ≤ 65
 | .leaf x, h => by
  unfold preM
  split
  ·have := (h x (by simp [Mt.flat])).lf
   simp; omega
  ·decide
 | .node x u v, h => by
  have hu : u.top ∈ u.flat := by cases u <;> simp [Mt.top, Mt.flat]
  have hv : v.top ∈ v.flat := by cases v <;> simp [Mt.top, Mt.flat]
  rw [preM_node]
  have h1 := digM_len n u (h _ (by simp [Mt.flat, hu]))
  have h2 := digM_len n v (h _ (by simp [Mt.flat, hv]))
  simp [nodeL, h1, h2]
theorem Mt.top_mem (t : Mt) : t.top ∈ t.flat := by cases t <;> simp [Mt.top, Mt.flat]
theorem Mt.flat_top (t : Mt) (r : List It) : ∃ s, t.flat ++ r = t.top :: s := by
 cases t with
 | leaf x => exact ⟨r, rfl⟩
 | node x u v => exact ⟨u.flat ++ v.flat ++ r, rfl⟩
theorem drop_at {l : List It} {a : Nat} {x : It} {s : List It} (h : l.drop a = x :: s) : l[a]? = some x := by
 have := List.getElem?_drop (xs := l) (i := a) (j := 0)
 rw [h] at this
 simpa using this.symm
theorem rdig19_of (n : Int) (A : Option Addr) (c : Nat) (l : List It) (a d : Nat) (x : It) (hx : l[a]? = some x) (hl : l.length ≤ 1000000) (q : List UInt8) (hq : q.length ≤ 65)
  (hp : x.k ≠ 3 → ∀ w, IA w A l → Calls Tryz.prog 28 #[.int .i64 n, .slice A l.length c, .int .i64 a, .int .i64 d] w fun e w' => ∃ v, e = .returned v ∧ OwnB w' w.heap.size v q ∧ Below w.heap.size w w') (w : World) (hA : IA w A l) :
  Calls Tryz.prog 22 #[.int .i64 n, .slice A l.length c, .int .i64 a, .int .i64 d] w fun e w' => e = .returned (.agg (bA (if x.k = 3 then x.d else digL n q))) ∧ Below w.heap.size w w' := by
 have hlt := (List.getElem?_eq_some_iff.1 hx).1
 obtain ⟨X, hX⟩ : ∃ X, X = w.alloc (.cells (bA z26) 45) := ⟨_, rfl⟩
 have hB : Below w.heap.size w X := by rw [hX]; exact Bt.one_below _ _
 have HR0 : Hid (RowB X w.heap.size 45 z26) := by show RowB _ _ _ _; rw [hX]; exact RowB.alloc w z26 _
 have hAX := hA.below hB
 have HAX := Lib.hid hAX
 obtain ⟨hxo, g, o, rfl, hr⟩ := hAX a x hx
 have ck := it_kind hr
 have cd := it_dig hr hxo
 have j0 : (0 : Int) ≤ (a : Int) := by omega
 have j1 : (a : Int) < (l.length : Int) := by omega
 have n0 : a ≤ 1000000 := by omega
 have HXO := Lib.hid hxo
 have HX := Lib.hid hX
 have HB := Lib.hid hB
 by_cases hk : x.k = 3
 ·rw [if_pos hk]
  rw [hk] at ck
  have st1 := stA_new (t := 45) w (bA z26) (bA x.d) (by rw [bA_size, hxo.d]; exact info26) (by rw [bA_size, bA_size, hxo.d]; rfl) (bA_one _)
  rw [hX] at ck cd
  clear hX hB hAX hA hr hx hlt hp hk hxo hl hq
  go_enter Tryz.func22, Tryz.ntmps22
  go_wp2_with fail
  refine bodyPost_ret (v := .agg (bA x.d)) ?_ rfl ⟨rfl, Bt.one_below _ _⟩
  exact results_cell_row Tryz.results22 _ _ w.heap.size 45 _ (0, 0) _ rfl (heap_alloc_new w _) Tryz.underlying45 rfl (by rw [bA_size, HXO.out.d]; exact info26)
 ·rw [if_neg hk]
  have b3 : (x.k == 3) = false := by simpa using hk
  have HP := Lib.hid (hp hk)
  have HQ := Lib.hid hq
  obtain ⟨s, hs⟩ : ∃ s, s = digL n q := ⟨_, rfl⟩
  have HSL : Hid (s.length = 32) := by show _ = _; rw [hs]; exact dig_len _ _
  have HSE := Lib.hid hs
  rw [← hs]
  rw [hX] at ck
  clear cd hX hB hAX hA hr hx hlt hp hk hxo hl hq hs
  go_enter Tryz.func22, Tryz.ntmps22
  go_wp2_with fail
  rw [← HX.out]
  refine (HP.out X HAX.out).mono ?_
  rintro e w2 ⟨v, rfl, hO, hb⟩
  obtain ⟨B, cb, rfl, hcb, hBA⟩ := hO.any
  have hsum := rdig_c n B cb q w2 hBA (by have := HQ.out; omega)
  rw [← HSE.out] at hsum
  have HSUM := Lib.hid hsum
  have HB2 : Hid (Below w.heap.size w w2) := HB.out.trans (hb.mono HB.out.size)
  have HR2 := Lib.hid (HR0.out.below hb)
  clear hO hcb hBA hb HP ck hsum
  go_wp2_with fail
  refine HSUM.out.mono ?_
  rintro _ w3 ⟨rfl, hb⟩
  have HB3 : Hid (Below w.heap.size w w3) := HB2.out.trans (hb.mono HB2.out.size)
  have HR3 := Lib.hid (HR2.out.below hb)
  have sb := stA_row (t := 45) HR3.out (v := bA s) (by rw [bA_size, HSL.out]; exact info26) (by rw [bA_size, bA_size, HSL.out]; rfl) (bA_one _)
  have HM := Lib.hid (setRow_heap w3 w.heap.size _ (bA s) _ _ HR3.out)
  clear hb HSUM
  go_wp2_with fail
  refine bodyPost_ret (v := .agg (bA s)) ?_ rfl ⟨rfl, Bt.below_row HB3.out (Nat.le_refl _) _⟩
  exact results_cell_row Tryz.results22 _ _ w.heap.size 45 _ (0, 0) _ rfl HM.out Tryz.underlying45 rfl (by rw [bA_size, HSL.out]; exact info26)
theorem rpre19_leaf (n : Int) (A : Option Addr) (c : Nat) (l : List It) (a d : Nat) (x : It) (hx : l[a]? = some x) (hl : l.length ≤ 1000000) (hk : x.k = 0 ∨ x.k = 1) (w : World) (hA : IA w A l) :
  Calls Tryz.prog 28 #[.int .i64 n, .slice A l.length c, .int .i64 a, .int .i64 d] w fun e w' => ∃ v, e = .returned v ∧ OwnB w' w.heap.size v (preM n (.leaf x)) ∧ Below w.heap.size w w' := by
 have hlt := (List.getElem?_eq_some_iff.1 hx).1
 obtain ⟨hxo, g, o, rfl, hr⟩ := hA a x hx
 have ck := it_kind hr
 have cl := it_leaf hr hxo
 have j0 : (0 : Int) ≤ (a : Int) := by omega
 have j1 : (a : Int) < (l.length : Int) := by omega
 have n0 : a ≤ 1000000 := by omega
 have HL := Lib.hid hxo.lf
 rcases hk with hk | hk
 ·rw [show preM n (.leaf x) = emptyL by unfold preM; rw [if_neg (by omega)]]
  rw [hk] at ck
  clear cl hr hxo hlt hx hk hA hl
  go_enter Tryz.func28, Tryz.ntmps28
  go_wp2_with fail
  go_ret
  exact ⟨_, rfl, ⟨rfl, .inr ⟨w.heap.size, 1, #[bv 3], rfl, Nat.le_refl _, heap_alloc_new w _, Nat.le_refl _, by unfold maxLen; omega, rfl, rfl⟩⟩, Bt.one_below _ _⟩
 ·rw [show preM n (.leaf x) = 0 :: x.lf by unfold preM; rw [if_pos hk]]
  rw [hk] at ck
  have HRL := Lib.hid (fun w => rleaf_c (x.lf.take 32) (x.lf.drop 32) (by rw [List.length_take, hxo.lf]; rfl) (by rw [List.length_drop, hxo.lf]) w)
  rw [List.take_append_drop] at HRL
  have HLL : Hid (leafL (x.lf.take 32) (x.lf.drop 32) = 0 :: x.lf) := by show _ = _; unfold leafL; rw [List.take_append_drop]
  rw [HLL.out] at HRL
  clear hr hxo hlt hx hk hA hl
  go_enter Tryz.func28, Tryz.ntmps28
  go_wp2_with fail
  refine (HRL.out w).mono ?_
  rintro e w3 ⟨v3, rfl, hO3, hb3⟩
  have HO3 := Lib.hid hO3
  have HB3 := Lib.hid hb3
  clear hO3 hb3 cl ck HRL
  go_wp2_with fail
  go_ret
  exact ⟨_, rfl, HO3.out, HB3.out⟩
theorem rpre19_c (n : Int) (A : Option Addr) (c : Nat) (l : List It) (hl : l.length ≤ 1000000) : ∀ (t : Mt) (f d a : Nat) (r : List It), t.Shape → t.ht ≤ f → d + f = 256 → (∀ x ∈ t.flat, x.Ok ∧ 0 ≤ x.k ∧ x.k ≤ 3) → l.drop a = t.flat ++ r → t.top.k ≠ 3 → ∀ w, IA w A l →
  Calls Tryz.prog 28 #[.int .i64 n, .slice A l.length c, .int .i64 a, .int .i64 d] w fun e w' => ∃ v, e = .returned v ∧ OwnB w' w.heap.size v (preM n t) ∧ Below w.heap.size w w' := by
 intro t
 induction t with
 | leaf x =>
  intro f d a r hs _ _ hg hd h3 w hA
  have := hg x (by simp [Mt.flat])
  have h2 : x.k ≠ 2 := hs
  have h3' : x.k ≠ 3 := h3
  exact rpre19_leaf n A c l a d x (drop_at hd) hl (by omega) w hA
 | node x u v ihu ihv =>
  intro f d a r hs hf hdf hg hd _ w hA
  obtain ⟨hk, hu, hv⟩ := hs
  obtain ⟨f, rfl⟩ : ∃ f', f = f' + 1 := ⟨f - 1, by have : max u.ht v.ht + 1 ≤ f := hf; omega⟩
  have hf2 : u.ht ≤ f ∧ v.ht ≤ f := by have : max u.ht v.ht + 1 ≤ f + 1 := hf; omega
  have hd' : l.drop a = x :: (u.flat ++ (v.flat ++ r)) := by rw [hd]; simp [Mt.flat]
  have hx := drop_at hd'
  have hlt := (List.getElem?_eq_some_iff.1 hx).1
  have d1 := drop_next hd'
  have d2 := drop_more d1
  have hgu : ∀ y ∈ u.flat, y.Ok ∧ 0 ≤ y.k ∧ y.k ≤ 3 := fun y hy => hg y (by simp [Mt.flat, hy])
  have hgv : ∀ y ∈ v.flat, y.Ok ∧ 0 ≤ y.k ∧ y.k ≤ 3 := fun y hy => hg y (by simp [Mt.flat, hy])
  obtain ⟨su, hsu⟩ := u.flat_top (v.flat ++ r)
  obtain ⟨sv, hsv⟩ := v.flat_top r
  have ax := drop_at (d1.trans hsu)
  have av := drop_at (d2.trans hsv)
  have hln : a + 1 + u.flat.length < l.length := (List.getElem?_eq_some_iff.1 av).1
  obtain ⟨a1, ha1⟩ : ∃ a1, a1 = a + 1 := ⟨_, rfl⟩
  obtain ⟨a2, ha2⟩ : ∃ a2, a2 = a + 1 + u.flat.length := ⟨_, rfl⟩
  obtain ⟨D, hD⟩ : ∃ D, D = d + 1 := ⟨_, rfl⟩
  have HS : Hid (∀ w, IA w A l → Calls Tryz.prog 46 #[.slice A l.length c, .int .i64 a1, .int .i64 D] w fun e w' => e = .returned (.int .i64 (a2 : Int)) ∧ Below w.heap.size w w') := fun w hA => by
   have h1 := rskip_c A c l hl f D (by omega) a1 (by omega) (by omega) w hA
   have h2 := skip_ok (l := l) u f a1 _ hu hf2.1 (by rw [ha1]; exact d1)
   rw [h2, show a1 + u.flat.length = a2 by omega] at h1
   exact h1
  have HU : Hid (∀ w, IA w A l → Calls Tryz.prog 22 #[.int .i64 n, .slice A l.length c, .int .i64 a1, .int .i64 D] w fun e w' => e = .returned (.agg (bA (digM n u))) ∧ Below w.heap.size w w') := fun w hA =>
   rdig19_of n A c l a1 D u.top (by rw [ha1]; exact ax) hl (preM n u) (preM_len n u fun y hy => (hgu y hy).1) (fun h3 w hA => ihu f D a1 _ hu hf2.1 (by omega) hgu (by rw [ha1]; exact d1) h3 w hA) w hA
  have HV : Hid (∀ w, IA w A l → Calls Tryz.prog 22 #[.int .i64 n, .slice A l.length c, .int .i64 a2, .int .i64 D] w fun e w' => e = .returned (.agg (bA (digM n v))) ∧ Below w.heap.size w w') := fun w hA =>
   rdig19_of n A c l a2 D v.top (by rw [ha2]; exact av) hl (preM n v) (preM_len n v fun y hy => (hgv y hy).1) (fun h3 w hA => ihv f D a2 r hv hf2.2 (by omega) hgv (by rw [ha2]; exact d2) h3 w hA) w hA
  have HLU : Hid ((digM n u).length = 32) := digM_len n u (hgu _ u.top_mem).1
  have HLV : Hid ((digM n v).length = 32) := digM_len n v (hgv _ v.top_mem).1
  have w1 : IntKind.i64.wrap ((a : Int) + 1) = (a1 : Int) := by rw [wrap19 (by omega) (by omega)]; omega
  have w2 : IntKind.i64.wrap ((d : Int) + 1) = (D : Int) := by rw [wrap19 (by omega) (by omega)]; omega
  have HA := Lib.hid hA
  obtain ⟨hxo, g, o, rfl, hr⟩ := hA a x hx
  have ck := it_kind hr
  rw [hk] at ck
  have j0 : (0 : Int) ≤ (a : Int) := by omega
  have j1 : (a : Int) < (l.length : Int) := by omega
  have n0 : a ≤ 1000000 := by omega
  rw [preM_node]
  obtain ⟨gu, hgu2⟩ : ∃ g, g = digM n u := ⟨_, rfl⟩
  obtain ⟨gv, hgv2⟩ : ∃ g, g = digM n v := ⟨_, rfl⟩
  rw [← hgu2] at HU HLU ⊢
  rw [← hgv2] at HV HLV ⊢
  clear ihu ihv hu hv hf hf2 hd hd' hx hlt d1 d2 hgu hgv hsu hsv ax av hln ha1 ha2 hD hr hxo hg hdf hk hl hgu2 hgv2
  go_enter Tryz.func28, Tryz.ntmps28
  go_wp2_with fail
  refine (HS.out w HA.out).mono ?_
  rintro _ y1 ⟨rfl, hb1⟩
  have HA1 := Lib.hid (HA.out.below hb1)
  have HB1 := Lib.hid hb1
  clear hb1 HS ck
  go_wp2_with fail
  refine (HU.out y1 HA1.out).mono ?_
  rintro _ y2 ⟨rfl, hb2⟩
  have HA2 := Lib.hid (HA1.out.below hb2)
  have HB2 : Hid (Below w.heap.size w y2) := HB1.out.trans (hb2.mono HB1.out.size)
  clear hb2 HU
  go_wp2_with fail
  refine (HV.out y2 HA2.out).mono ?_
  rintro _ y3 ⟨rfl, hb3⟩
  have HB3 : Hid (Below w.heap.size w y3) := HB2.out.trans (hb3.mono HB2.out.size)
  clear hb3 HV
  go_wp2_with fail
  refine (rnode_c gu gv HLU.out HLV.out y3).mono ?_
  rintro e y4 ⟨v4, rfl, hO4, hb4⟩
  have HB4 : Hid (Below w.heap.size w y4) := HB3.out.trans (hb4.mono HB3.out.size)
  have HO4 : Hid (OwnB y4 w.heap.size v4 (nodeL gu gv)) := hO4.mono HB3.out.size
  clear hb4 hO4
  go_wp2_with fail
  go_ret
  exact ⟨_, rfl, HO4.out, HB4.out⟩
theorem rdig19_c (n : Int) (A : Option Addr) (c : Nat) (l : List It) (hl : l.length ≤ 1000000) (t : Mt) (f d a : Nat) (r : List It) (hs : t.Shape) (hf : t.ht ≤ f) (hd : d + f = 256) (hg : ∀ x ∈ t.flat, x.Ok ∧ 0 ≤ x.k ∧ x.k ≤ 3) (h : l.drop a = t.flat ++ r) (w : World) (hA : IA w A l) :
  Calls Tryz.prog 22 #[.int .i64 n, .slice A l.length c, .int .i64 a, .int .i64 d] w fun e w' => e = .returned (.agg (bA (digM n t))) ∧ Below w.heap.size w w' := by
 obtain ⟨s, hst⟩ := t.flat_top r
 exact rdig19_of n A c l a d t.top (drop_at (h.trans hst)) hl (preM n t) (preM_len n t fun y hy => (hg y hy).1) (fun h3 w hA => rpre19_c n A c l hl t f d a r hs hf hd hg h h3 w hA) w hA
end
section
open Go.RowKit
def EdA (w : World) (A : Option Addr) (es : List (It × Nat)) : Prop := ∀ i e, es[i]? = some e → e.1.Ok ∧ ∃ g o, A = some ⟨g, o, none⟩ ∧ w.rangeAt g (o + i * 98) (itL e.1) ∧ w.cell? ⟨g, o + i * 98 + 97, none⟩ = some (.int .i64 (e.2 : Int))
theorem EdA.below {w w' : World} {A : Option Addr} {es : List (It × Nat)} (h : EdA w A es) (hb : Below w.heap.size w w') : EdA w' A es := fun i e hi => by
 obtain ⟨h1, g, o, h2, h3, h4⟩ := h i e hi
 exact ⟨h1, g, o, h2, range_below h3 hb, by rw [hb.cell (lt_of_cell h4)]; exact h4⟩
def Hd19 (w : World) (v : Value) (l : List UInt8) : Prop := ∃ A c, v = .slice A l.length c ∧ BA w A l ∧ l.length ≤ c
def PS19 (w : World) (A : Option Addr) (ls : List (List UInt8)) : Prop := ∀ i l, ls[i]? = some l → ∃ g o v, A = some ⟨g, o, none⟩ ∧ w.cell? ⟨g, o + i, none⟩ = some v ∧ Hd19 w v l
theorem Hd19.below {w w' : World} {v : Value} {l : List UInt8} (h : Hd19 w v l) (hb : Below w.heap.size w w') : Hd19 w' v l := by
 obtain ⟨A, c, e, h1, h2⟩ := h
 exact ⟨A, c, e, h1.below hb, h2⟩
theorem PS19.below {w w' : World} {A : Option Addr} {ls : List (List UInt8)} (h : PS19 w A ls) (hb : Below w.heap.size w w') : PS19 w' A ls := fun i l hi => by
 obtain ⟨g, o, v, e, h1, h2⟩ := h i l hi
 refine ⟨g, o, v, e, ?_, h2.below hb⟩
 rw [hb.cell (show (⟨g, o + i, none⟩ : Addr).block < w.heap.size from lt_of_cell h1)]; exact h1
def endsM (t : Mt) (ks : List (List UInt8)) : List (It × Nat) := ks.map fun k => (finM k t 0, depM k t 0)
def presM (n : Int) (t : Mt) (k : List UInt8) : List (List UInt8) := (wayM k t 0 0).map fun p => preM n p.2
structure MuV (M : World → Int → Tv → Prop) : Prop where
 keys : ∀ (w : World) (ks : List (List UInt8)) (A : Option Addr) (c : Nat), KS w A ks → ks.length ≤ c → ks.length ≤ 100000 →
  Calls Tryz.prog 14 #[.slice A ks.length c] w fun e w' => e = .returned (.int .i64 (keysI ks)) ∧ Below w.heap.size w w'
 check : ∀ (w : World) (l : List It) (A : Option Addr) (c : Nat), IA w A l → l.length ≤ c → l.length ≤ 1000000 →
  Calls Tryz.prog 18 #[.slice A l.length c] w fun e w' => e = .returned (.int .i64 (chkI l)) ∧ Below w.heap.size w w'
 prove : ∀ (w : World) (b : Nat) (n : Int) (m : Nat) (l : List Ent) (T : Tv) (ks : List (List UInt8)) (B : Option Addr) (cb : Nat), Hs w b n m → m ≤ 500000 → Vars w → M w n T → IsMap l T → l.length ≤ 1000 → KS w B ks → ks.length ≤ cb → ks.length ≤ 1000 → keysI ks = 0 →
  Calls Tryz.prog 12 #[ptr b, T.val, .slice B ks.length cb] w fun e w' => ∃ A' c' m', e = .returned (.tuple #[.slice A' (prvM n 256 l ks 0).flat.length c', .int .i64 0]) ∧ IA w' A' (prvM n 256 l ks 0).flat ∧ (prvM n 256 l ks 0).flat.length ≤ c' ∧ m' ≤ m + 1000 ∧ Hs w' b n m' ∧ Keep (fun i => i = b) w w'
 proveBad : ∀ (w : World) (b : Nat) (n : Int) (m : Nat) (l : List Ent) (T : Tv) (ks : List (List UInt8)) (B : Option Addr) (cb : Nat), Hs w b n m → m ≤ 500000 → Vars w → M w n T → IsMap l T → KS w B ks → ks.length ≤ cb → ks.length ≤ 100000 → keysI ks ≠ 0 →
  Calls Tryz.prog 12 #[ptr b, T.val, .slice B ks.length cb] w fun e w' => ∃ A' c' m', e = .returned (.tuple #[.slice A' 0 c', .int .i64 (keysI ks)]) ∧ m' ≤ m + 1000 ∧ Hs w' b n m' ∧ Keep (fun i => i = b) w w'
 root : ∀ (w : World) (b : Nat) (n : Int) (m : Nat) (t : Mt) (A : Option Addr) (c : Nat), Hs w b n m → m ≤ 500000 → Vars w → t.Good → IA w A t.flat → t.flat.length ≤ c → t.flat.length ≤ 100000 →
  Calls Tryz.prog 21 #[ptr b, .slice A t.flat.length c] w fun e w' => ∃ m', e = .returned (.tuple #[.agg (bA (digM n t)), .int .i64 0]) ∧ m' ≤ m + t.flat.length ∧ Hs w' b n m' ∧ Keep (fun i => i = b) w w'
 rootBad : ∀ (w : World) (b : Nat) (n : Int) (m : Nat) (l : List It) (A : Option Addr) (c : Nat), Hs w b n m → m ≤ 500000 → Vars w → IA w A l → l.length ≤ c → l.length ≤ 100000 → chkI l ≠ 0 →
  Calls Tryz.prog 21 #[ptr b, .slice A l.length c] w fun e w' => ∃ m', e = .returned (.tuple #[.agg (bA z26), .int .i64 (chkI l)]) ∧ m' ≤ m + 1000 ∧ Hs w' b n m' ∧ Keep (fun i => i = b) w w'
 ends : ∀ (w : World) (t : Mt) (ks : List (List UInt8)) (A B : Option Addr) (c cb : Nat), t.Good → IA w A t.flat → t.flat.length ≤ c → t.flat.length ≤ 100000 → KS w B ks → ks.length ≤ cb → ks.length ≤ 1000 → keysI ks = 0 → FitD t ks 0 0 →
  Calls Tryz.prog 23 #[.slice A t.flat.length c, .slice B ks.length cb] w fun e w' => ∃ A' c', e = .returned (.tuple #[.slice A' ks.length c', .int .i64 0]) ∧ EdA w' A' (endsM t ks) ∧ ks.length ≤ c' ∧ Below w.heap.size w w'
 endsBad : ∀ (w : World) (l : List It) (ks : List (List UInt8)) (A B : Option Addr) (c cb : Nat), IA w A l → l.length ≤ c → l.length ≤ 100000 → KS w B ks → ks.length ≤ cb → ks.length ≤ 1000 → (chkI l ≠ 0 ∨ keysI ks ≠ 0) →
  Calls Tryz.prog 23 #[.slice A l.length c, .slice B ks.length cb] w fun e w' => ∃ A' c', e = .returned (.tuple #[.slice A' 0 c', .int .i64 (if chkI l ≠ 0 then chkI l else keysI ks)]) ∧ Below w.heap.size w w'
 endsNot : ∀ (w : World) (t : Mt) (ks : List (List UInt8)) (A B : Option Addr) (c cb : Nat), t.Good → IA w A t.flat → t.flat.length ≤ c → t.flat.length ≤ 100000 → KS w B ks → ks.length ≤ cb → ks.length ≤ 1000 → keysI ks = 0 → ¬ FitD t ks 0 0 →
  Calls Tryz.prog 23 #[.slice A t.flat.length c, .slice B ks.length cb] w fun e w' => ∃ A' c', e = .returned (.tuple #[.slice A' 0 c', .int .i64 12]) ∧ Below w.heap.size w w'
 pre : ∀ (w : World) (b : Nat) (n : Int) (m : Nat) (t : Mt) (A : Option Addr) (c : Nat) (k : List UInt8), Hs w b n m → m ≤ 1000 → Vars w → t.Good → IA w A t.flat → t.flat.length ≤ c → t.flat.length ≤ 1200 → k.length = 32 → (finM k t 0).k ≠ 3 →
  Calls Tryz.prog 26 #[ptr b, .slice A t.flat.length c, .agg (bA k)] w fun e w' => ∃ A' c' m', e = .returned (.tuple #[.slice A' (presM n t k).length c', .int .i64 0]) ∧ PS19 w' A' (presM n t k) ∧ (presM n t k).length ≤ c' ∧ Hs w' b n m' ∧ Keep (fun i => i = b) w w'
 preNot : ∀ (w : World) (b : Nat) (n : Int) (m : Nat) (t : Mt) (A : Option Addr) (c : Nat) (k : List UInt8), Hs w b n m → m ≤ 1000 → Vars w → t.Good → IA w A t.flat → t.flat.length ≤ c → t.flat.length ≤ 1200 → k.length = 32 → (finM k t 0).k = 3 →
  Calls Tryz.prog 26 #[ptr b, .slice A t.flat.length c, .agg (bA k)] w fun e w' => ∃ A' c' m', e = .returned (.tuple #[.slice A' 0 c', .int .i64 12]) ∧ Hs w' b n m' ∧ Keep (fun i => i = b) w w'
 preBad : ∀ (w : World) (b : Nat) (n : Int) (m : Nat) (l : List It) (A : Option Addr) (c : Nat) (k : List UInt8), Hs w b n m → m ≤ 1000 → Vars w → IA w A l → l.length ≤ c → l.length ≤ 1200 → k.length = 32 → chkI l ≠ 0 →
  Calls Tryz.prog 26 #[ptr b, .slice A l.length c, .agg (bA k)] w fun e w' => ∃ A' c' m', e = .returned (.tuple #[.slice A' 0 c', .int .i64 (chkI l)]) ∧ Hs w' b n m' ∧ Keep (fun i => i = b) w w'
end
section
open Go.RowKit
def Alive19 : Prop := ∀ w : World, Vars w → Calls Tryz.prog 11 #[] w (Aye w)
theorem KS.hs19 {w w' : World} {b : Nat} {n : Int} {c : Nat} {A : Option Addr} {ks : List (List UInt8)} (hA : KS w A ks) (h : Hs w b n c) (k : Keep (fun i => i = b) w w') : KS w' A ks := DS.hs (ds := ks) hA h k
theorem BA.hs19 {w w' : World} {b : Nat} {n : Int} {c : Nat} {A : Option Addr} {l : List UInt8} (hA : BA w A l) (h : Hs w b n c) (k : Keep (fun i => i = b) w w') : BA w' A l := fun j x hj => by
 obtain ⟨g, o, rfl, h3⟩ := hA j x hj
 refine ⟨g, o, rfl, k.cellAt h3 fun e => ?_⟩
 have e3 : g = b := e
 subst e3
 rw [cell_of_cells h] at h3
 obtain ⟨q, hq⟩ : ∃ q, q = o + j := ⟨_, rfl⟩
 rw [← hq] at h3
 match q, h3 with
 | 0, h3 => cases h3
 | 1, h3 => cases h3
 | q + 2, h3 => simp at h3
theorem EA.hs19 {w w' : World} {b : Nat} {n : Int} {c : Nat} {A : Option Addr} {es : List En} (h : EA w A es) (hh : Hs w b n c) (k : Keep (fun i => i = b) w w') : EA w' A es := fun i e hi => by
 obtain ⟨h1, g, o, rfl, h3⟩ := h i e hi
 have hg : ¬ g = b := fun hl => by
  subst hl
  have h2 := h3 0 (bv (e.k.getD 0 0)) (by
   unfold enC
   rw [List.getElem?_append_left (by rw [List.length_map, h1.key]; decide), List.getElem?_map, List.getD_eq_getElem?_getD, List.getElem?_eq_getElem (by have := h1.key; omega)]
   rfl)
  rw [cell_of_cells hh] at h2
  revert h2
  generalize (o + _ : Nat) = q
  intro h2
  match q, h2 with
  | 0, h2 => cases h2
  | 1, h2 => cases h2
  | q + 2, h2 => simp at h2
 exact ⟨⟨h1.key, h1.cap, h1.val.hs19 hh k⟩, g, o, rfl, fun j v hv => k.cellAt (h3 j v hv) hg⟩
theorem bldKey_none19 (w : World) : bldA 39 w #[] = .ok (.value (.agg (bA z26))) w := by kernel_rfl
theorem few19_yes (n c : Nat) (A : Option Addr) (w : World) (h : n ≤ 1200) :
  Calls Tryz.prog 17 #[.slice A n c] w fun e w' => e = .returned (.int .i64 1) ∧ w' = w := by
 have d : decide ((1200 : Int) < (n : Int)) = false := decide_eq_false (by omega)
 go_enter Tryz.func17, Tryz.ntmps17
 go_wp2_with fail
 go_ret
 exact ⟨rfl, rfl⟩
theorem few19_no (n c : Nat) (A : Option Addr) (w : World) (h : ¬ n ≤ 1200) :
  Calls Tryz.prog 17 #[.slice A n c] w fun e w' => e = .returned (.int .i64 0) ∧ w' = w := by
 have d : decide ((1200 : Int) < (n : Int)) = true := decide_eq_true (by omega)
 go_enter Tryz.func17, Tryz.ntmps17
 go_wp2_with fail
 go_ret
 exact ⟨rfl, rfl⟩
end
end Go.Proofs.YtmfbhohjpkmllaaGreatDoor
