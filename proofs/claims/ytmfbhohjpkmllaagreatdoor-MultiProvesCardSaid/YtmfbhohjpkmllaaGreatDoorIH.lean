import Derived.Test.YtmfbhohjpkmllaaGreatDoorIC
import Derived.Test.YtmfbhohjpkmllaaGreatDoorHd
import Derived.Test.YtmfbhohjpkmllaaGreatDoorJc
import Derived.Test.YtmfbhohjpkmllaaGreatDoorMO
namespace Go.Proofs.YtmfbhohjpkmllaaGreatDoor
set_option linter.unusedSimpArgs false
set_option linter.unusedVariables false
set_option maxHeartbeats 4000000
set_option maxRecDepth 100000
section
open Go.RowKit
def idxM (p : Nat × Mt) : Int := (p.1 : Int)
def wayJ (k : List UInt8) (t : Mt) (d a : Nat) : List Int := (wayM k t d a).map idxM
theorem wayM_leaf (k : List UInt8) (x : It) (d a : Nat) : wayM k (.leaf x) d a = [(a, .leaf x)] := by rw [wayM]
theorem wayM_one {k : List UInt8} (x : It) (u v : Mt) {d : Nat} (a : Nat) (h : bitK k d = 1) : wayM k (.node x u v) d a = (a, .node x u v) :: wayM k v (d + 1) (a + 1 + u.flat.length) := by rw [wayM, if_pos h]
theorem wayM_zero {k : List UInt8} (x : It) (u v : Mt) {d : Nat} (a : Nat) (h : ¬ bitK k d = 1) : wayM k (.node x u v) d a = (a, .node x u v) :: wayM k u (d + 1) (a + 1) := by rw [wayM, if_neg h]
theorem wayJ_leaf (k : List UInt8) (x : It) (d a : Nat) : wayJ k (.leaf x) d a = [(a : Int)] := by unfold wayJ; rw [wayM_leaf]; simp [idxM]
theorem wayJ_head (k : List UInt8) (t : Mt) (d a : Nat) : wayJ k t d a = (a : Int) :: (wayJ k t d a).tail := by
 cases t with
 | leaf x => rw [wayJ_leaf, List.tail_cons]
 | node x u v =>
  by_cases h : bitK k d = 1
  ·unfold wayJ; rw [wayM_one x u v a h, List.map_cons, List.tail_cons]; simp [idxM]
  ·unfold wayJ; rw [wayM_zero x u v a h, List.map_cons, List.tail_cons]; simp [idxM]
theorem wayJ_one {k : List UInt8} {x : It} {u v : Mt} {d : Nat} (a : Nat) (h : bitK k d = 1) : (wayJ k (.node x u v) d a).tail = wayJ k v (d + 1) (a + 1 + u.flat.length) := by
 unfold wayJ
 rw [wayM_one x u v a h, List.map_cons, List.tail_cons]
theorem wayJ_zero {k : List UInt8} {x : It} {u v : Mt} {d : Nat} (a : Nat) (h : ¬ bitK k d = 1) : (wayJ k (.node x u v) d a).tail = wayJ k u (d + 1) (a + 1) := by
 unfold wayJ
 rw [wayM_zero x u v a h, List.map_cons, List.tail_cons]
theorem wayJ_len (k : List UInt8) (t : Mt) (d a : Nat) : (wayJ k t d a).length + d = depM k t d + 1 := by
 unfold wayJ; rw [List.length_map]; exact wayM_len k t d a
theorem wayJ_le (k : List UInt8) (t : Mt) (d a : Nat) : (wayJ k t d a).length ≤ t.ht + 1 := by
 have h1 := wayJ_len k t d a
 have h2 := depM_le k t d
 omega
theorem cell_one19 (w : World) (x : Int) (t : TypeId) : (w.alloc (.cells #[.int .i64 x] t)).cell? ⟨w.heap.size, 0, none⟩ = some (.int .i64 x) := by rw [cell_of_cells (heap_alloc_new w _)]; rfl
theorem own_oneZ (w : World) (z : Int) : Bt.OwnZ (w.alloc (.cells #[.int .i64 z] 3)) w.heap.size (.slice (some ⟨w.heap.size, 0, none⟩) 1 1) [z] :=
 ⟨rfl, .inr ⟨w.heap.size, 1, #[.int .i64 z], rfl, Nat.le_refl _, heap_alloc_new w _, Nat.le_refl _, by unfold maxLen; omega, rfl, rfl⟩⟩
theorem rway19_c (A : Option Addr) (c : Nat) (l : List It) (hl : l.length ≤ 1000000) (t : Mt) (hs : t.Shape) (hf : t.ht ≤ 256) (r : List It) (h : l = t.flat ++ r) (k : List UInt8) (hk : k.length = 32) (w : World) (hA : IA w A l) :
  Calls Tryz.prog 25 #[.slice A l.length c, .agg (bA k)] w fun e w' => ∃ v, e = .returned v ∧ Bt.OwnZ w' w.heap.size v (wayJ k t 0 0) ∧ Below w.heap.size w w' := by
 obtain ⟨X0, hX0⟩ : ∃ X, X = w.alloc (.cells (bA k) 39) := ⟨_, rfl⟩
 obtain ⟨X, hX⟩ : ∃ X, X = X0.alloc (.cells #[.int .i64 0] 3) := ⟨_, rfl⟩
 have hB0 : Below w.heap.size w X0 := by rw [hX0]; exact Bt.one_below _ _
 have hB1 : Below X0.heap.size X0 X := by rw [hX]; exact Bt.one_below _ _
 have HRK : Hid (RowB X0 w.heap.size 39 k) := by show RowB _ _ _ _; rw [hX0]; exact RowB.alloc w k _
 have hO : Bt.OwnZ X X0.heap.size (.slice (some ⟨X0.heap.size, 0, none⟩) 1 1) [0] := by rw [hX]; exact own_oneZ X0 0
 have hz0 : X0.heap.size = w.heap.size + 1 := by rw [hX0]; simp
 have HO1' : Hid (Bt.OwnZ X X0.heap.size (.slice (some ⟨w.heap.size + 1, 0, none⟩) 1 1) [0]) := by show Bt.OwnZ _ _ _ _; rw [← hz0]; exact hO
 have HX : Hid (X = X0.alloc (.cells #[.int .i64 0] 3)) := hX
 have HX0 := Lib.hid hX0
 have HB := Lib.hid hB0
 have HB1 := Lib.hid hB1
 have HZ0 : Hid (w.heap.size ≤ X0.heap.size ∧ X0.heap.size ≤ X.heap.size) := ⟨hB0.size, hB1.size⟩
 have HA := Lib.hid (hA.below hB0)
 have HLE := Lib.hid hl
 have HKK := Lib.hid hk
 obtain ⟨Tot, hT⟩ : ∃ Tot, Tot = wayJ k t 0 0 := ⟨_, rfl⟩
 have HTL : Hid (Tot.length ≤ 257) := by show _ ≤ _; rw [hT]; have := wayJ_le k t 0 0; omega
 have HSK : Hid (∀ (d a : Nat) (u : Mt) (s : List It), d + u.ht ≤ 256 → u.Shape → a ≤ l.length → l.drop a = u.flat ++ s → ∀ w, IA w A l → Calls Tryz.prog 46 #[.slice A l.length c, .int .i64 a, .int .i64 d] w fun e w' => e = .returned (.int .i64 ((a + u.flat.length : Nat) : Int)) ∧ Below w.heap.size w w') := fun d a u s h1 h2 h3 h4 w hA => by
  have e1 := rskip_c A c l hl (256 - d) d (by omega) a (by omega) (by omega) w hA
  have e2 := skip_ok (l := l) u (256 - d) a s h2 (by omega) h4
  rw [e2] at e1
  exact e1
 have HST : Hid (t.Shape ∧ 0 + t.ht ≤ 256 ∧ (∃ r, l.drop 0 = t.flat ++ r) ∧ Tot = [0] ++ (wayJ k t 0 0).tail) := ⟨hs, by omega, ⟨r, by rw [List.drop_zero]; exact h⟩, by rw [hT, wayJ_head]; rfl⟩
 rw [← hT]
 clear hB0 hB1 hX hX0 hA hl hs hf h hk hO hz0 hT
 go_enter Tryz.func25, Tryz.ntmps25
 go_wp2_with fail
 rw [← HX0.out, ← HX.out]
 go_loopg [5, 6, 7] t.ht (fun gg av ov dv wr => ∃ (S : Mt) (d a : Nat) (L : List Int), av = .int .i64 (a : Int) ∧ dv = .int .i64 (d : Int) ∧ S.ht = gg ∧ S.Shape ∧ d + S.ht ≤ 256 ∧ (∃ r, l.drop a = S.flat ++ r) ∧ Tot = L ++ (wayJ k S d a).tail ∧ Bt.OwnZ wr X0.heap.size ov L ∧ Below X0.heap.size X0 wr)
 case atStart =>
  obtain ⟨h1, h2, h3, h4⟩ := HST.out
  exact ⟨t, 0, 0, [0], rfl, rfl, rfl, h1, h2, h3, h4, HO1'.out, HB1.out⟩
 case round =>
  obtain ⟨S, d, a, L, rfl, rfl, rfl, hs, hf, ⟨r, hr⟩, hT, hO, hb⟩ := hrel
  have HBR := Lib.hid hb
  have HO := Lib.hid hO
  have HLL : Hid (L.length ≤ 257) := by show _ ≤ _; have := HTL.out; rw [hT, List.length_append] at this; omega
  clear hb hO HST
  cases S with
  | leaf x =>
   have hx : l[a]? = some x := by
    have := List.getElem?_drop (xs := l) (i := a) (j := 0)
    rw [hr] at this
    simpa [Mt.flat] using this.symm
   have hlt := (List.getElem?_eq_some_iff.1 hx).1
   obtain ⟨_, g, o, rfl, hrg⟩ := (HA.out.below HBR.out) a x hx
   have ck := it_kind hrg
   have b2 : (x.k == 2) = false := by have h : ¬ x.k = 2 := hs; simpa using h
   have j0 : (0 : Int) ≤ (a : Int) := by omega
   have j1 : (a : Int) < (l.length : Int) := by omega
   have n0 : a ≤ 1000000 := by have := HLE.out; omega
   rw [wayJ_leaf, List.tail_cons, List.append_nil] at hT
   have HTE := Lib.hid hT
   have HOF : Hid (Bt.OwnZ wr w.heap.size _ L) := HO.out.mono HZ0.out.1
   clear hs hf hr hT hx hlt hrg HO
   go_wp2_with fail
   go_ret
   exact ⟨_, rfl, by rw [HTE.out]; exact HOF.out, HB.out.trans (HBR.out.mono HB.out.size)⟩
  | node x u v =>
   obtain ⟨hk2, hu, hv⟩ := hs
   have hm : max u.ht v.ht + 1 + d ≤ 256 := by have : d + (max u.ht v.ht + 1) ≤ 256 := hf; omega
   have hr' : l.drop a = x :: (u.flat ++ (v.flat ++ r)) := by rw [hr]; simp [Mt.flat]
   have hx : l[a]? = some x := by
    have := List.getElem?_drop (xs := l) (i := a) (j := 0)
    rw [hr'] at this
    simpa using this.symm
   have hlt := (List.getElem?_eq_some_iff.1 hx).1
   have d1 := drop_next hr'
   have d2 := drop_more d1
   obtain ⟨_, g, o, rfl, hrg⟩ := (HA.out.below HBR.out) a x hx
   have ck := it_kind hrg
   rw [hk2] at ck
   have j0 : (0 : Int) ≤ (a : Int) := by omega
   have j1 : (a : Int) < (l.length : Int) := by omega
   have n0 : a ≤ 1000000 := by have := HLE.out; omega
   obtain ⟨D, hD⟩ : ∃ D, D = d + 1 := ⟨_, rfl⟩
   have w1 : IntKind.i64.wrap ((a : Int) + 1) = ((a + 1 : Nat) : Int) := by rw [wrap19 (by omega) (by omega)]; omega
   have w2 : IntKind.i64.wrap ((d : Int) + 1) = (D : Int) := by rw [wrap19 (by omega) (by omega)]; omega
   have lk := (HRK.out.below HBR.out).ldKey HKK.out
   have HBC := Lib.hid (fun w => bitK_c k HKK.out (d : Int) w)
   have hh : (Mt.node x u v).ht = max u.ht v.ht + 1 := rfl
   have hmu : u.ht < (Mt.node x u v).ht := by rw [hh]; omega
   have hmv : v.ht < (Mt.node x u v).ht := by rw [hh]; omega
   have HMU := Lib.hid hmu
   have HMV := Lib.hid hmv
   clear hk2 hr hr' hrg hh hmu hmv
   by_cases hb : bitK k d = 1
   ·obtain ⟨a1, ha1⟩ : ∃ a1, a1 = a + 1 + u.flat.length := ⟨_, rfl⟩
    have HREL : Hid (∀ ov w', Bt.OwnZ w' X0.heap.size ov (L ++ [(a1 : Int)]) → Below X0.heap.size X0 w' → ∃ (S : Mt) (d' a' : Nat) (L' : List Int), Value.int .i64 (a1 : Int) = .int .i64 (a' : Int) ∧ Value.int .i64 (D : Int) = .int .i64 (d' : Int) ∧ S.ht = v.ht ∧ S.Shape ∧ d' + S.ht ≤ 256 ∧ (∃ r, l.drop a' = S.flat ++ r) ∧ Tot = L' ++ (wayJ k S d' a').tail ∧ Bt.OwnZ w' X0.heap.size ov L' ∧ Below X0.heap.size X0 w') := fun ov w' h1 h2 =>
     ⟨v, D, a1, L ++ [(a1 : Int)], rfl, rfl, rfl, hv, by omega, ⟨r, by rw [ha1]; exact d2⟩, by rw [hT, wayJ_one a hb, hD, ← ha1, wayJ_head, List.append_assoc]; rfl, h1, h2⟩
    have HS := Lib.hid (HSK.out D (a + 1) u (v.flat ++ r) (by omega) hu (by omega) d1)
    rw [← ha1] at HS
    rw [hb] at HBC
    clear hu hv hf hT d1 d2 ha1 hD hlt hx hm hb
    go_wp2_with fail
    refine (HBC.out wr).mono ?_
    rintro _ y1 ⟨rfl, hb1⟩
    have HB1 := Lib.hid (HBR.out.trans (hb1.mono HBR.out.size))
    have HO1 := Lib.hid (HO.out.below hb1)
    clear hb1 HBC lk ck
    go_wp2_with fail
    refine (HS.out y1 (HA.out.below HB1.out)).mono ?_
    rintro _ y2 ⟨rfl, hb2⟩
    have HB2 := Lib.hid (HB1.out.trans (hb2.mono HB1.out.size))
    have HO2 := Lib.hid (HO1.out.below hb2)
    clear hb2 HS
    go_wp2_with (at_builtin; refine Bt.wpList_pushZ rfl _ _ rfl X0.heap.size _ L rfl (HO2.out.below (Bt.one_below _ _)) y2.heap.size (a1 : Int) rfl (cell_one19 _ _ _) (by have := HLL.out; omega) (by have h1 := HB2.out.size; simp; omega) ?_; intro v9 w9 hO9 hB9; have HO9 := Lib.hid hO9; have HB9 : Hid (Below X0.heap.size X0 w9) := (HB2.out.alloc HB2.out.size _).trans hB9; clear hO9 hB9)
    go_roundg (v.ht)
    case measure => exact HMV.out
    case rel => exact HREL.out _ _ HO9.out HB9.out
   ·obtain ⟨a1, ha1⟩ : ∃ a1, a1 = a + 1 := ⟨_, rfl⟩
    have HREL : Hid (∀ ov w', Bt.OwnZ w' X0.heap.size ov (L ++ [(a1 : Int)]) → Below X0.heap.size X0 w' → ∃ (S : Mt) (d' a' : Nat) (L' : List Int), Value.int .i64 (a1 : Int) = .int .i64 (a' : Int) ∧ Value.int .i64 (D : Int) = .int .i64 (d' : Int) ∧ S.ht = u.ht ∧ S.Shape ∧ d' + S.ht ≤ 256 ∧ (∃ r, l.drop a' = S.flat ++ r) ∧ Tot = L' ++ (wayJ k S d' a').tail ∧ Bt.OwnZ w' X0.heap.size ov L' ∧ Below X0.heap.size X0 w') := fun ov w' h1 h2 =>
     ⟨u, D, a1, L ++ [(a1 : Int)], rfl, rfl, rfl, hu, by omega, ⟨v.flat ++ r, by rw [ha1]; exact d1⟩, by rw [hT, wayJ_zero a hb, hD, ← ha1, wayJ_head, List.append_assoc]; rfl, h1, h2⟩
    obtain ⟨q, hq⟩ : ∃ q, q = bitK k d := ⟨_, rfl⟩
    rw [← hq] at HBC hb
    have b1 : (q == 1) = false := by simpa using hb
    have w1' : IntKind.i64.wrap ((a : Int) + 1) = (a1 : Int) := by rw [w1, ha1]
    clear hu hv hf hT d1 d2 ha1 hD hlt hx hm hb hq w1
    go_wp2_with fail
    refine (HBC.out wr).mono ?_
    rintro _ y1 ⟨rfl, hb1⟩
    have HB1 := Lib.hid (HBR.out.trans (hb1.mono HBR.out.size))
    have HO1 := Lib.hid (HO.out.below hb1)
    clear hb1 HBC lk ck
    go_wp2_with (at_builtin; refine Bt.wpList_pushZ rfl _ _ rfl X0.heap.size _ L rfl (HO1.out.below (Bt.one_below _ _)) y1.heap.size (a1 : Int) rfl (cell_one19 _ _ _) (by have := HLL.out; omega) (by have h1 := HB1.out.size; simp; omega) ?_; intro v9 w9 hO9 hB9; have HO9 := Lib.hid hO9; have HB9 : Hid (Below X0.heap.size X0 w9) := (HB1.out.alloc HB1.out.size _).trans hB9; clear hO9 hB9)
    go_roundg (u.ht)
    case measure => exact HMU.out
    case rel => exact HREL.out _ _ HO9.out HB9.out
end
section
open Go.RowKit
def keysI (ks : List (List UInt8)) : Int := if ks = [] then 10 else if 65535 < ks.length then 11 else chkK ks
theorem z_ret {z z' : Int} (h : z = z') : Ending.returned (Value.int .i64 z') = Ending.returned (Value.int .i64 z) := by rw [h]
theorem b_ret {z z' : Bool} (h : z = z') : Ending.returned (Value.bool z') = Ending.returned (Value.bool z) := by rw [h]
theorem rkeys19_c (A : Option Addr) (c : Nat) (ks : List (List UInt8)) (w : World) (hA : KS w A ks) (hn : ks.length ≤ 100000) :
  Calls Tryz.prog 13 #[.slice A ks.length c] w fun e w' => e = .returned (.int .i64 (keysI ks)) ∧ Below w.heap.size w w' := by
 obtain ⟨z, hz⟩ : ∃ z, z = keysI ks := ⟨_, rfl⟩
 rw [← hz]
 have HZ := Lib.hid hz
 have HC := Lib.hid (check2_c A c ks w hA hn)
 by_cases h0 : ks = []
 ·have HZV : Hid (z = 10) := HZ.out.trans (by unfold keysI; rw [if_pos h0])
  subst h0
  clear hz hA hn HC
  go_enter Tryz.func13, Tryz.ntmps13
  go_wp2_with fail
  go_ret
  exact ⟨z_ret HZV.out, Below.refl _ _⟩
 have hne : ¬ ks.length = 0 := fun h => h0 (List.length_eq_zero_iff.1 h)
 by_cases hb : 65535 < ks.length
 ·have HZV : Hid (z = 11) := HZ.out.trans (by unfold keysI; rw [if_neg h0, if_pos hb])
  have d1 : decide ((65535 : Int) < (ks.length : Int)) = true := decide_eq_true (by omega)
  clear hz hA hn HC hb h0
  go_enter Tryz.func13, Tryz.ntmps13
  go_wp2_with fail
  go_ret
  exact ⟨z_ret HZV.out, Below.refl _ _⟩
 ·have HZV : Hid (z = chkK ks) := HZ.out.trans (by unfold keysI; rw [if_neg h0, if_neg hb])
  have d1 : decide ((65535 : Int) < (ks.length : Int)) = false := decide_eq_false (by omega)
  obtain ⟨q, hq⟩ : ∃ q, q = chkK ks := ⟨_, rfl⟩
  rw [← hq] at HC HZV
  clear hz hA hn hb h0 hq
  go_enter Tryz.func13, Tryz.ntmps13
  go_wp2_with fail
  refine HC.out.mono ?_
  rintro _ w2 ⟨rfl, hb2⟩
  have HB2 := Lib.hid hb2
  clear hb2
  go_wp2_with fail
  go_ret
  exact ⟨z_ret HZV.out, HB2.out⟩
def someK (ks : List (List UInt8)) (p : List UInt8) (d : Nat) : Bool := ks.any fun k => decide (d ≤ comK k p)
theorem rsome19_c (A : Option Addr) (c : Nat) (ks : List (List UInt8)) (p : List UInt8) (hp : p.length = 32) (d : Nat) (w : World) (hA : KS w A ks) (hn : ks.length ≤ 100000) :
  Calls Tryz.prog 41 #[.slice A ks.length c, .agg (bA p), .int .i64 d] w fun e w' => e = .returned (.bool (someK ks p d)) ∧ Below w.heap.size w w' := by
 obtain ⟨X, hX⟩ : ∃ X, X = w.alloc (.cells (bA p) 39) := ⟨_, rfl⟩
 have hB : Below w.heap.size w X := by rw [hX]; exact Bt.one_below _ _
 have HR0 : Hid (RowB X w.heap.size 39 p) := by show RowB _ _ _ _; rw [hX]; exact RowB.alloc w p _
 obtain ⟨z, hz⟩ : ∃ z, z = someK ks p d := ⟨_, rfl⟩
 rw [← hz]
 have HZ := Lib.hid hz
 have HX := Lib.hid hX
 have HB := Lib.hid hB
 have HA := Lib.hid (hA.below hB)
 have HN := Lib.hid hn
 have HP := Lib.hid hp
 clear hX hB hA hn hp hz
 go_enter Tryz.func41, Tryz.ntmps41
 go_wp2_with fail
 rw [← HX.out]
 go_loopg [7] ks.length (fun gg i wr => ∃ j : Nat, i = .int .i64 (j : Int) ∧ j ≤ ks.length ∧ ks.length - j = gg ∧ (∀ m k, m < j → ks[m]? = some k → ¬ d ≤ comK k p) ∧ Below X.heap.size X wr)
 case atStart => exact ⟨0, rfl, by omega, by omega, fun m k hm => absurd hm (Nat.not_lt_zero m), Below.refl _ _⟩
 case round =>
  obtain ⟨j, rfl, hj, rfl, hpre, hbr⟩ := hrel
  have HBR := Lib.hid hbr
  have HPRE := Lib.hid hpre
  have HJ := Lib.hid hj
  clear hbr hpre hj
  by_cases hlt : j < ks.length
  ·have hd : decide (j < ks.length) = true := decide_eq_true hlt
   obtain ⟨k, hk⟩ : ∃ k, ks[j]? = some k := ⟨_, List.getElem?_eq_getElem hlt⟩
   obtain ⟨hkl, g, o, rfl, hr⟩ := HA.out j k hk
   have HK := Lib.hid hk
   have HKL := Lib.hid hkl
   have HR := Lib.hid (range_below hr HBR.out)
   have l1 : ∀ q : Later wr, ldA 39 q.w (.pointer (some ⟨g, o + j * 32, none⟩)) = .ok (.value (.agg (bA k))) q.w := fun q => range_keyS (range_below HR.out q.h) HKL.out
   have l2 : ∀ q : Later wr, ldA 39 q.w (.pointer (some ⟨w.heap.size, 0, none⟩)) = .ok (.value (.agg (bA p))) q.w := fun q => (HR0.out.below (HBR.out.trans (q.h.mono HBR.out.size))).ldKey HP.out
   obtain ⟨m, hm⟩ : ∃ m, m = comK k p := ⟨_, rfl⟩
   have HCC : Hid (∀ w, Calls Tryz.prog 68 #[.agg (bA k), .agg (bA p)] w fun e w' => e = .returned (.int .i64 (m : Int)) ∧ Below w.heap.size w w') := fun w => by rw [hm]; exact comK_c k p HKL.out HP.out w
   have j0 : (0 : Int) ≤ (j : Int) := by omega
   have j1 : (j : Int) < (ks.length : Int) := by omega
   have n0 : j ≤ 100000 := by have := HN.out; omega
   have wi : IntKind.i64.wrap ((j : Int) + 1) = (j : Int) + 1 := wrap19 (by omega) (by omega)
   have HME := Lib.hid hm
   clear hk hkl hr hlt hm
   by_cases hc : d ≤ m
   ·have d1 : decide (d ≤ m) = true := decide_eq_true hc
    have HZV : Hid (z = true) := HZ.out.trans (List.any_eq_true.2 ⟨k, List.mem_of_getElem? HK.out, decide_eq_true (by rw [← HME.out]; exact hc)⟩)
    clear hc
    go_wp2_with fail
    refine wp_region_later (by kernel_rfl) (by kernel_rfl) ?_
    repeat (go_big_quiet_step ((go_at_call 68; exact Later.call (HCC.out _))))
    refine wpQuiet_nil ?_
    rintro _ ⟨x, rfl⟩
    have HBX := Lib.hid (HBR.out.trans (x.h.mono HBR.out.size))
    clear l1 l2 HCC HBR
    go_wp2_with fail
    go_ret
    exact ⟨b_ret HZV.out, HB.out.trans (HBX.out.mono HB.out.size)⟩
   ·have d1 : decide (d ≤ m) = false := decide_eq_false hc
    have HNC : Hid (¬ d ≤ comK k p) := by rw [← HME.out]; exact hc
    clear hc
    go_wp2_with fail
    refine wp_region_later (by kernel_rfl) (by kernel_rfl) ?_
    repeat (go_big_quiet_step ((go_at_call 68; exact Later.call (HCC.out _))))
    refine wpQuiet_nil ?_
    rintro _ ⟨x, rfl⟩
    have HBX := Lib.hid (HBR.out.trans (x.h.mono HBR.out.size))
    clear l1 l2 HCC HBR
    go_wp2_with fail
    go_roundg (ks.length - (j + 1))
    case measure => omega
    case rel =>
     refine ⟨j + 1, by go_num, by omega, rfl, fun m2 k2 h1 h2 => ?_, HBX.out⟩
     rcases Nat.lt_or_ge m2 j with h | h
     ·exact HPRE.out m2 k2 h h2
     ·obtain rfl : m2 = j := by omega
      rw [HK.out] at h2
      cases h2
      exact HNC.out
  ·obtain rfl : j = ks.length := by have := HJ.out; omega
   have hd : decide (ks.length < ks.length) = false := by simp
   have HZV : Hid (z = false) := HZ.out.trans (by
    unfold someK
    rw [List.any_eq_false]
    intro k hk
    obtain ⟨m, hm⟩ := List.getElem?_of_mem hk
    rw [decide_eq_true_eq]
    exact HPRE.out m k (List.getElem?_eq_some_iff.1 hm).1 hm)
   clear HPRE HJ hlt
   go_wp2_with fail
   go_ret
   exact ⟨b_ret HZV.out, HB.out.trans (HBR.out.mono HB.out.size)⟩
theorem rsame19_c (A B : Option Addr) (ca cb : Nat) (a b : List It) (w : World) (hA : IA w A a) (hB : IA w B b) (hl : a.length ≤ 1000000) :
  Calls Tryz.prog 15 #[.slice A a.length ca, .slice B b.length cb] w fun e w' => e = .returned (.bool (decide (a = b))) ∧ Below w.heap.size w w' := by
 obtain ⟨z, hz⟩ : ∃ z, z = decide (a = b) := ⟨_, rfl⟩
 rw [← hz]
 have HZ := Lib.hid hz
 have HA := Lib.hid hA
 have HB := Lib.hid hB
 have HLE := Lib.hid hl
 by_cases hne : a.length = b.length
 rotate_left 1
 ·have HZV : Hid (z = false) := HZ.out.trans (decide_eq_false fun h => hne (by rw [h]))
  have d1 : ¬ (a.length = b.length) := hne
  clear hz hA hB hl hne
  go_enter Tryz.func15, Tryz.ntmps15
  go_wp2_with fail
  go_ret
  exact ⟨b_ret HZV.out, Below.refl _ _⟩
 have HEQ := Lib.hid hne
 rw [← hne]
 clear hz hA hB hl hne
 go_enter Tryz.func15, Tryz.ntmps15
 go_wp2_with fail
 go_loopg [5] a.length (fun gg i wr => ∃ j : Nat, i = .int .i64 (j : Int) ∧ j ≤ a.length ∧ a.length - j = gg ∧ (∀ m : Nat, m < j → a[m]? = b[m]?) ∧ Below w.heap.size w wr)
 case atStart => exact ⟨0, rfl, by omega, by omega, fun m hm => absurd hm (Nat.not_lt_zero m), Below.refl _ _⟩
 case round =>
  obtain ⟨j, rfl, hj, rfl, hpre, hbr⟩ := hrel
  have HBR := Lib.hid hbr
  have HPRE := Lib.hid hpre
  have HJ := Lib.hid hj
  clear hbr hpre hj
  by_cases hlt : j < a.length
  ·have hd : decide (j < a.length) = true := decide_eq_true hlt
   obtain ⟨x, hx⟩ : ∃ x, a[j]? = some x := ⟨_, List.getElem?_eq_getElem hlt⟩
   obtain ⟨y, hy⟩ : ∃ y, b[j]? = some y := ⟨_, List.getElem?_eq_getElem (by have := HEQ.out; omega)⟩
   obtain ⟨hxo, g, o, rfl, hrx⟩ := (HA.out.below HBR.out) j x hx
   obtain ⟨hyo, g2, o2, rfl, hry⟩ := (HB.out.below HBR.out) j y hy
   have HXK := Lib.hid hx
   have HYK := Lib.hid hy
   have l1 : ∀ q : Later wr, ldA 59 q.w (.pointer (some ⟨g, o + j * 97, none⟩)) = .ok (.value (.agg (itC x))) q.w := fun q => it_ld (range_below hrx q.h) hxo
   have l2 : ∀ q : Later wr, ldA 59 q.w (.pointer (some ⟨g2, o2 + j * 97, none⟩)) = .ok (.value (.agg (itC y))) q.w := fun q => it_ld (range_below hry q.h) hyo
   have en := fun x1 x2 w => neIt x y hxo hyo x1 x2 w
   have j0 : (0 : Int) ≤ (j : Int) := by omega
   have j1 : (j : Int) < (a.length : Int) := by omega
   have n0 : j ≤ 1000000 := by have := HLE.out; omega
   have wi : IntKind.i64.wrap ((j : Int) + 1) = (j : Int) + 1 := wrap19 (by omega) (by omega)
   clear hx hy hxo hyo hrx hry hlt
   by_cases hxy : x = y
   ·have bd : (!decide (x = y)) = false := by rw [decide_eq_true hxy]; rfl
    have HXY := Lib.hid hxy
    clear hxy
    go_wp2_with fail
    refine wp_region_later (by kernel_rfl) (by kernel_rfl) ?_
    repeat (go_big_quiet_step (fail))
    refine wpQuiet_nil ?_
    rintro _ ⟨q, rfl⟩
    have HBX := Lib.hid (HBR.out.trans (q.h.mono HBR.out.size))
    clear l1 l2 en HBR
    go_wp2_with fail
    go_roundg (a.length - (j + 1))
    case measure => omega
    case rel =>
     refine ⟨j + 1, by go_num, by omega, rfl, fun m h1 => ?_, HBX.out⟩
     rcases Nat.lt_or_ge m j with h | h
     ·exact HPRE.out m h
     ·obtain rfl : m = j := by omega
      rw [HXK.out, HYK.out, HXY.out]
   ·have bd : (!decide (x = y)) = true := by rw [decide_eq_false hxy]; rfl
    have HZV : Hid (z = false) := HZ.out.trans (decide_eq_false fun h => hxy (by
     have h1 := HXK.out
     rw [h, HYK.out] at h1
     exact (Option.some.inj h1).symm))
    clear hxy
    go_wp2_with fail
    refine wp_region_later (by kernel_rfl) (by kernel_rfl) ?_
    repeat (go_big_quiet_step (fail))
    refine wpQuiet_nil ?_
    rintro _ ⟨q, rfl⟩
    have HBX := Lib.hid (HBR.out.trans (q.h.mono HBR.out.size))
    clear l1 l2 en HBR
    go_wp2_with fail
    go_ret
    exact ⟨b_ret HZV.out, HBX.out⟩
  ·obtain rfl : j = a.length := by have := HJ.out; omega
   have hd : decide (a.length < a.length) = false := by simp
   have HZV : Hid (z = true) := HZ.out.trans (decide_eq_true (List.ext_getElem? fun m => by
    rcases Nat.lt_or_ge m a.length with h | h
    ·exact HPRE.out m h
    ·rw [List.getElem?_eq_none h, List.getElem?_eq_none (by have := HEQ.out; omega)]))
   clear HPRE HJ hlt
   go_wp2_with fail
   go_ret
   exact ⟨b_ret HZV.out, HBR.out⟩
end
section
open Go.RowKit
def boC (s : List Bool) : Array Value := (s.map Value.bool).toArray
def BoAt (w : World) (g : Nat) (s : List Bool) : Prop := w.heap[g]? = some (.cells (boC s) 4 (0, 0))
theorem BoAt.cell {w : World} {g : Nat} {s : List Bool} (h : BoAt w g s) {i : Nat} {b : Bool} (hi : s[i]? = some b) : w.cell? ⟨g, i, none⟩ = some (.bool b) := by
 rw [cell_of_cells h]
 simp [boC, hi]
theorem BoAt.set {w : World} {g : Nat} {s : List Bool} (h : BoAt w g s) (i : Nat) (b : Bool) : BoAt (w.setCell ⟨g, i, none⟩ (.bool b)) g (s.set i b) := by
 have := heap_setCell_same w g i (boC s) 4 (.bool b) h
 unfold BoAt
 rw [this]
 simp [boC, List.map_set]
theorem infoBo : (Tryz.prog.info? 4).map (fun i => (i.zero, i.size, i.bytes)) = some (some (.bool false), 1, 1) := by kernel_rfl
theorem make_bools (n : Nat) (hn : n ≤ 1000000) (w : World) : (Instr.makeSlice 96 (.int .i64 (n : Int)) (.int .i64 (n : Int))).run Tryz.prog w = .ok (.slice (some ⟨w.heap.size, 0, none⟩) n n) (w.alloc (.cells (boC (List.replicate n false)) 4)) := by
 obtain ⟨i, hi, hzz⟩ := Option.map_eq_some_iff.1 infoBo
 simp only [Prod.mk.injEq] at hzz
 obtain ⟨hz, hs, hb⟩ := hzz
 have hr := run_make (P := Tryz.prog) w 96 4 i (.bool false) Tryz.underlying96 hi hz .i64 .i64 n n (by omega) (by omega) (by rw [hb]; omega) (by omega)
 rw [Int.toNat_natCast, hs, Nat.mul_one] at hr
 rw [hr]
 have : madeCells (Value.bool false).cells n = boC (List.replicate n false) := by
  apply Array.toList_inj.1
  rw [show (Value.bool false).cells = #[Value.bool false] from rfl, toList_madeCells_one]
  simp [boC]
 rw [this]
def Marked (t : Mt) (ks : List (List UInt8)) (j : Nat) (s : List Bool) : Prop := ∀ i, i < s.length → (s[i]? = some true ↔ ∃ m k, m < j ∧ ks[m]? = some k ∧ (i : Int) ∈ wayJ k t 0 0)
theorem FitD.of {t : Mt} {ks : List (List UInt8)} : FitD t ks 0 0 ↔ (∀ k ∈ ks, (finM k t 0).k ≠ 3) ∧ ∀ (i : Nat) x, t.flat[i]? = some x → x.k = 2 → ∃ k ∈ ks, (i : Int) ∈ wayJ k t 0 0 := by
 unfold FitD
 refine and_congr Iff.rfl (forall_congr' fun i => forall_congr' fun x => forall_congr' fun _ => forall_congr' fun _ => exists_congr fun k => and_congr Iff.rfl ?_)
 unfold wayJ
 constructor
 ·intro h
  obtain ⟨p, hp, he⟩ := List.mem_map.1 h
  exact List.mem_map.2 ⟨p, hp, by unfold idxM; omega⟩
 ·intro h
  obtain ⟨p, hp, he⟩ := List.mem_map.1 h
  unfold idxM at he
  exact List.mem_map.2 ⟨p, hp, by omega⟩
theorem way_end (k : List UInt8) : ∀ (t : Mt) (d a : Nat) (l : List It) (r : List It), l.drop a = t.flat ++ r → ∃ i : Nat, (wayJ k t d a)[(wayJ k t d a).length - 1]? = some (i : Int) ∧ l[i]? = some (finM k t d)
 | .leaf x, d, a, l, r, h => by
  refine ⟨a, by rw [wayJ_leaf]; rfl, ?_⟩
  have := List.getElem?_drop (xs := l) (i := a) (j := 0)
  rw [h] at this
  simpa [Mt.flat, finM] using this.symm
 | .node x u v, d, a, l, r, h => by
  have h' : l.drop a = x :: (u.flat ++ (v.flat ++ r)) := by rw [h]; simp [Mt.flat]
  by_cases hb : bitK k d = 1
  ·obtain ⟨i, h1, h2⟩ := way_end k v (d + 1) (a + 1 + u.flat.length) l r (drop_more (drop_next h'))
   refine ⟨i, ?_, by rw [show finM k (.node x u v) d = finM k v (d + 1) by rw [finM, if_pos hb]]; exact h2⟩
   rw [wayJ_head, wayJ_one a hb]
   have hp : 0 < (wayJ k v (d + 1) (a + 1 + u.flat.length)).length := by rw [wayJ_head]; simp
   rw [List.length_cons, Nat.add_sub_cancel, ← h1]
   generalize wayJ k v (d + 1) (a + 1 + u.flat.length) = q at hp ⊢
   cases q with
   | nil => simp at hp
   | cons y r => simp
  ·obtain ⟨i, h1, h2⟩ := way_end k u (d + 1) (a + 1) l (v.flat ++ r) (drop_next h')
   refine ⟨i, ?_, by rw [show finM k (.node x u v) d = finM k u (d + 1) by rw [finM, if_neg hb]]; exact h2⟩
   rw [wayJ_head, wayJ_zero a hb]
   have hp : 0 < (wayJ k u (d + 1) (a + 1)).length := by rw [wayJ_head]; simp
   rw [List.length_cons, Nat.add_sub_cancel, ← h1]
   generalize wayJ k u (d + 1) (a + 1) = q at hp ⊢
   cases q with
   | nil => simp at hp
   | cons y r => simp
theorem wayJ_mem {k : List UInt8} {t : Mt} {d a : Nat} {z : Int} (h : z ∈ wayJ k t d a) : ∃ n : Nat, z = n ∧ a ≤ n ∧ n < a + t.flat.length := by
 obtain ⟨p, hp, he⟩ := List.mem_map.1 h
 exact ⟨p.1, he.symm, wayM_range k t d a p hp⟩
end
end Go.Proofs.YtmfbhohjpkmllaaGreatDoor
