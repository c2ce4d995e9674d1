import Derived.Test.YtkejfdgmdjfdoaaGreatDoorMT
import Derived.Test.YtkejfdgmdjfdoaaGreatDoorMX
import Derived.Test.YtkejfdgmdjfdoaaGreatDoorJ1
import Derived.BigQuiet
import Derived.Test.YtkejfdgmdjfdoaaGreatDoorM3
import Derived.Laws.MakeOwn
import Derived.Test.YtkejfdgmdjfdoaaGreatDoorJ2
import Derived.Test.YtkejfdgmdjfdoaaGreatDoorML
import Derived.Test.YtkejfdgmdjfdoaaGreatDoorSl
import Derived.Test.YtkejfdgmdjfdoaaGreatDoorMF
import Derived.LaidEqlPtr
namespace Go.Proofs.YtkejfdgmdjfdoaaGreatDoor
set_option linter.unusedSimpArgs false
set_option linter.unusedVariables false
set_option maxHeartbeats 8000000
set_option maxRecDepth 100000
section
open Go.RowKit
theorem rmK_permC {l m : List Ent} (p : l.Perm m) (k : List UInt8) : (rmK l k).Perm (rmK m k) := p.filter _
theorem putK_perm2 {l m : List Ent} (p : l.Perm m) (e : Ent) : (putK l e).Perm (putK m e) :=
 (putK_perm l e).trans (((rmK_permC p e.k).cons e).trans (putK_perm m e).symm)
theorem stepC_perm {l m : List Ent} (p : l.Perm m) (c : Chg) : (stepC l c).Perm (stepC m c) := by
 unfold stepC
 split
 ·exact rmK_permC p _
 ·exact putK_perm2 p _
theorem appC_perm : ∀ (cs : List Chg) {l m : List Ent}, l.Perm m → (appC l cs).Perm (appC m cs)
 | [], _, _, p => p
 | c :: r, _, _, p => appC_perm r (stepC_perm p c)
theorem part_rm12 (l : List Ent) (k : List UInt8) (d b : Int) : partK (rmK l k) d b = rmK (partK l d b) k := by
 unfold partK rmK
 rw [List.filter_filter, List.filter_filter]
 exact List.filter_congr fun e _ => Bool.and_comm _ _
theorem rm_part_no {l : List Ent} {k : List UInt8} {d b : Int} (h : bitK k d ≠ b) : rmK (partK l d b) k = partK l d b := by
 unfold rmK
 refine List.filter_eq_self.2 fun e he => ?_
 have h1 := of_decide_eq_true (List.mem_filter.1 he).2
 have h2 : e.k ≠ k := fun hk => h (by rw [← hk]; exact h1)
 simp [h2]
theorem part_stepC (l : List Ent) (c : Chg) (d b : Int) : (partK (stepC l c) d b).Perm (if bitK c.k d = b then stepC (partK l d b) c else partK l d b) := by
 unfold stepC
 by_cases hb : bitK c.k d = b
 ·rw [if_pos hb]
  split
  ·rw [part_rm12]
  ·refine ((putK_perm l _).filter _).trans ?_
   refine List.Perm.trans ?_ (putK_perm _ _).symm
   rw [List.filter_cons_of_pos (by simpa using hb)]
   exact (List.Perm.of_eq (part_rm12 l c.k d b)).cons _
 ·rw [if_neg hb]
  split
  ·rw [part_rm12, rm_part_no hb]
  ·refine ((putK_perm l _).filter _).trans ?_
   rw [List.filter_cons_of_neg (by simpa using hb)]
   refine List.Perm.of_eq ?_
   have := part_rm12 l c.k d b
   rw [rm_part_no hb] at this
   exact this
def sideC (cs : List Chg) (d b : Int) : List Chg := cs.filter fun c => decide (bitK c.k d = b)
theorem part_appC (d b : Int) : ∀ (cs : List Chg) (l : List Ent), (partK (appC l cs) d b).Perm (appC (partK l d b) (sideC cs d b))
 | [], _ => List.Perm.refl _
 | c :: r, l => by
  refine (part_appC d b r (stepC l c)).trans ?_
  have h := part_stepC l c d b
  by_cases hb : bitK c.k d = b
  ·rw [if_pos hb] at h
   have e : sideC (c :: r) d b = c :: sideC r d b := List.filter_cons_of_pos (by simpa using hb)
   rw [e]
   exact appC_perm _ h
  ·rw [if_neg hb] at h
   have e : sideC (c :: r) d b = sideC r d b := List.filter_cons_of_neg (by simpa using hb)
   rw [e]
   exact appC_perm _ h
structure AptC (d : Int) (l : List Ent) (cs : List Chg) : Prop where
 len : ∀ c ∈ cs, c.k.length = 32
 ents : ∀ c ∈ cs, ∀ a ∈ l, ∀ i : Nat, (i : Int) < d → i < 256 → Bt.bit (keyF a.k) i = Bt.bit (keyF c.k) i
 each : ∀ c ∈ cs, ∀ x ∈ cs, ∀ i : Nat, (i : Int) < d → i < 256 → Bt.bit (keyF x.k) i = Bt.bit (keyF c.k) i
theorem AptC.zero {l : List Ent} {cs : List Chg} (h : ∀ c ∈ cs, c.k.length = 32) : AptC 0 l cs := ⟨h, fun _ _ _ _ i hi => by omega, fun _ _ _ _ i hi => by omega⟩
theorem AptC.put {d : Int} {l : List Ent} {c : Chg} {r : List Chg} (h : AptC d l (c :: r)) : Apt d l ⟨c.k, c.v⟩ := ⟨h.len c (by simp), fun a ha => h.ents c (by simp) a ha⟩
theorem stepC_memK {l : List Ent} {c : Chg} {a : Ent} (h : a ∈ stepC l c) : a.k = c.k ∨ a ∈ l := by
 unfold stepC at h
 split at h
 ·exact .inr (List.mem_filter.1 h).1
 ·rcases putK_mem h with rfl | h
  ·exact .inl rfl
  ·exact .inr h
theorem AptC.tail {d : Int} {l : List Ent} {c : Chg} {r : List Chg} (h : AptC d l (c :: r)) : AptC d (stepC l c) r where
 len := fun x hx => h.len x (by simp [hx])
 each := fun x hx y hy => h.each x (by simp [hx]) y (by simp [hy])
 ents := fun x hx a ha i hi h2 => by
  rcases stepC_memK ha with he | ha
  ·rw [he]; exact h.each x (by simp [hx]) c (by simp) i hi h2
  ·exact h.ents x (by simp [hx]) a ha i hi h2
theorem stepC_sep {d : Int} {l : List Ent} {c : Chg} {r : List Chg} (hs : Sep d l) (h : AptC d l (c :: r)) : Sep d (stepC l c) := by
 unfold stepC
 split
 ·exact rmK_sep hs _
 ·exact put_sep hs h.put
theorem appC_sep {d : Int} : ∀ (cs : List Chg) {l : List Ent}, Sep d l → AptC d l cs → Sep d (appC l cs)
 | [], _, h, _ => h
 | _ :: r, _, h, ha => appC_sep r (stepC_sep h ha) ha.tail
theorem AptC.side {d : Nat} {l : List Ent} {cs : List Chg} (h : AptC d l cs) (h1 : d < 256) (b : Int) : AptC ((d : Int) + 1) (partK l d b) (sideC cs d b) where
 len := fun c hc => h.len c (List.mem_filter.1 hc).1
 ents := fun c hc a ha i hi h2 => by
  obtain ⟨hc1, hc2⟩ := List.mem_filter.1 hc
  obtain ⟨ha1, ha2⟩ := List.mem_filter.1 ha
  by_cases hlt : i < d
  ·exact h.ents c hc1 a ha1 i (by omega) h2
  ·have e1 := of_decide_eq_true hc2
   have e2 := of_decide_eq_true ha2
   rw [← e1, bitK_in _ (by omega) (by omega), bitK_in _ (by omega) (by omega), show ((d : Int)).toNat = i by omega] at e2
   exact Int.ofNat.inj e2
 each := fun c hc x hx i hi h2 => by
  obtain ⟨hc1, hc2⟩ := List.mem_filter.1 hc
  obtain ⟨hx1, hx2⟩ := List.mem_filter.1 hx
  by_cases hlt : i < d
  ·exact h.each c hc1 x hx1 i (by omega) h2
  ·have e1 := of_decide_eq_true hc2
   have e2 := of_decide_eq_true hx2
   rw [← e1, bitK_in _ (by omega) (by omega), bitK_in _ (by omega) (by omega), show ((d : Int)).toNat = i by omega] at e2
   exact Int.ofNat.inj e2
theorem SubMap.perm {d : Nat} {l m : List Ent} {T : Tv} (h : SubMap d l T) (p : l.Perm m) (hd : d ≤ 256) : SubMap d m T :=
 ⟨h.sep.perm p, by rw [h.tr]; exact growT_perm _ _ _ _ h.sep (.inr ⟨by omega, by omega, by omega⟩) p⟩
theorem side_cut {d : Nat} (h1 : d < 256) : ∀ (cs : List Chg), AscS (cs.map Chg.k) → (∀ c ∈ cs, ∀ x ∈ cs, ∀ i : Nat, i < d → Bt.bit (keyF x.k) i = Bt.bit (keyF c.k) i) →
  cs.take (sideC cs d 0).length = sideC cs d 0 ∧ cs.drop (sideC cs d 0).length = sideC cs d 1
 | [], _, _ => ⟨rfl, rfl⟩
 | c :: r, hs, he => by
  obtain ⟨hs1, hs2⟩ := List.pairwise_cons.1 hs
  obtain ⟨i1, i2⟩ := side_cut h1 r hs2 fun a ha x hx => he a (by simp [ha]) x (by simp [hx])
  rcases bitK_01 c.k d h1 with h0 | h0
  ·have e0 : sideC (c :: r) d 0 = c :: sideC r d 0 := List.filter_cons_of_pos (by simpa using h0)
   have e1 : sideC (c :: r) d 1 = sideC r d 1 := List.filter_cons_of_neg (by simp [h0])
   rw [e0, e1, List.length_cons, List.take_succ_cons, List.drop_succ_cons, i1, i2]
   exact ⟨rfl, rfl⟩
  ·have hall : ∀ x ∈ r, bitK x.k d = 1 := fun x hx => by
    obtain ⟨i, hi, hlt, g0, g1⟩ := hs1 x.k (List.mem_map.2 ⟨x, hx, rfl⟩)
    rcases bitK_01 x.k d h1 with hx0 | hx1
    ·exfalso
     by_cases hid : i < d
     ·have := he c (by simp) x (by simp [hx]) i hid
      rw [bitK_in _ (by omega) (by omega)] at g0 g1
      simp only [Int.toNat_natCast] at g0 g1
      omega
     ·by_cases hde : d = i
      ·subst hde; omega
      ·have := hlt d (by omega); omega
    ·exact hx1
   have e0 : sideC (c :: r) d 0 = [] := by
    refine List.filter_eq_nil_iff.2 fun x hx => ?_
    rcases List.mem_cons.1 hx with rfl | hx
    ·simp [h0]
    ·simp [hall x hx]
   have e1 : sideC (c :: r) d 1 = c :: r := by
    refine List.filter_eq_self.2 fun x hx => ?_
    rcases List.mem_cons.1 hx with rfl | hx
    ·simpa using h0
    ·simpa using hall x hx
   rw [e0, e1]
   exact ⟨rfl, rfl⟩
end
section
open Go.RowKit
theorem cmpP12_c (a b : List UInt8) (ha : a.length = 32) (hb : b.length = 32) (w : World) : Calls Tryz.prog 83 #[.agg (bA a), .agg (bA b)] w fun e w' => e = .returned (.int .i64 (cmpK a b)) ∧ Below w.heap.size w w' := by
 rw [bA_key a ha, bA_key b hb]
 exact Bt.compare_c (keyF a) (keyF b) (keyF_byt a) (keyF_byt b) w
theorem pcheck_c (A : Option Addr) (c : Nat) (ks : List (List UInt8)) (w : World) (hA : KS w A ks) (hn : ks.length ≤ 100000) :
  Calls Tryz.prog 122 #[.slice A ks.length c] w fun e w' => e = .returned (.int .i64 (chkK ks)) ∧ Below w.heap.size w w' := by
 have HA := Lib.hid hA
 obtain ⟨N, hN⟩ : ∃ N, N = ks.length := ⟨_, rfl⟩
 obtain ⟨R, hR⟩ : ∃ R, R = chkK ks := ⟨_, rfl⟩
 have HN := Lib.hid hN
 have HR0 : Hid (chkK (ks.drop 0) = R) := by rw [hR]; rfl
 rw [← hN, ← hR]
 have hn9 : N ≤ 100000 := by omega
 clear hA hn hN hR
 go_enter Tryz.func122, Tryz.ntmps122
 go_wp2_with fail
 go_loopg [3] N (fun gg i wr => ∃ j : Nat, i = .int .i64 ((j : Int) + 1) ∧ j ≤ N ∧ N - j = gg ∧ Hid (chkK (ks.drop j) = R) ∧ Below w.heap.size w wr)
 case atStart => exact ⟨0, rfl, by omega, rfl, HR0.out, Below.refl _ _⟩
 case round =>
  obtain ⟨j, rfl, hj, rfl, HRR, hB⟩ := hrel
  have HB := Lib.hid hB
  clear hB
  by_cases hlt : j + 1 < N
  ·have hd : decide ((j : Int) + 1 < (N : Int)) = true := decide_eq_true (by omega)
   obtain ⟨a, ha⟩ : ∃ a, ks[j]? = some a := ⟨_, List.getElem?_eq_getElem (by have := HN.out; omega)⟩
   obtain ⟨b, hb⟩ : ∃ b, ks[j + 1]? = some b := ⟨_, List.getElem?_eq_getElem (by have := HN.out; omega)⟩
   obtain ⟨hka, g, o, hA1, hra⟩ := HA.out j a ha
   obtain ⟨hkb, g2, o2, hA2, hrb⟩ := HA.out (j + 1) b hb
   rw [hA1] at hA2
   cases hA2
   subst hA1
   have HRA := Lib.hid (range_below hra HB.out)
   have HRB := Lib.hid (range_below hrb HB.out)
   have HKA := Lib.hid hka
   have HKB := Lib.hid hkb
   have HDT : Hid (ks.drop j = a :: b :: ks.drop (j + 2)) := drop_two ha hb
   have HD1 : Hid (ks.drop (j + 1) = b :: ks.drop (j + 2)) := by
    show _ = _
    have := HDT.out
    rw [← List.drop_drop, this]
    rfl
   have l1 : ∀ q : Later wr, ldA 40 q.w (.pointer (some ⟨g, o + j * 32, none⟩)) = .ok (.value (.agg (bA a))) q.w := fun q => range_keyS (range_below HRA.out q.h) HKA.out
   have l2 : ∀ q : Later wr, ldA 40 q.w (.pointer (some ⟨g, o + (j + 1) * 32, none⟩)) = .ok (.value (.agg (bA b))) q.w := fun q => range_keyS (range_below HRB.out q.h) HKB.out
   have p0 : (0 : Int) ≤ (j : Int) := by omega
   have p1 : (j : Int) < (N : Int) := by omega
   have p2 : (0 : Int) ≤ (j : Int) + 1 := by omega
   have p3 : (j : Int) + 1 < (N : Int) := by omega
   clear ha hb hra hrb hka hkb
   go_wp2_with fail
   refine wp_region_later (by kernel_rfl) (by kernel_rfl) ?_
   repeat (go_big_quiet_step ((go_at_call 83; exact Later.call (cmpP12_c _ _ HKA.out HKB.out _))))
   refine wpQuiet_nil ?_
   rintro _ ⟨x, rfl⟩
   have HB2 := Lib.hid (HB.out.trans (x.h.mono HB.out.size))
   clear l1 l2
   have HCH : Hid (R = if cmpK a b = 0 then 9 else if 0 < cmpK a b then 8 else chkK (ks.drop (j + 1))) := by
    show R = _
    rw [← HRR.out, HDT.out, HD1.out]
    rfl
   rcases cmpK_range a b with hc | hc | hc
   ·rw [hc] at HCH ⊢
    have HF : Hid (chkK (ks.drop (j + 1)) = R) := by show _ = _; rw [HCH.out]; rfl
    clear HCH hc
    go_wp2_with fail
    go_roundg (N - (j + 1))
    case measure => omega
    case rel => exact ⟨j + 1, by go_num, by omega, rfl, HF.out, HB2.out⟩
   ·rw [hc] at HCH ⊢
    have HF : Hid (R = 9) := by show _ = _; rw [HCH.out]; rfl
    clear HCH hc
    go_wp2_with fail
    go_ret
    exact ⟨by rw [HF.out]; rfl, HB2.out⟩
   ·rw [hc] at HCH ⊢
    have HF : Hid (R = 8) := by show _ = _; rw [HCH.out]; rfl
    clear HCH hc
    go_wp2_with fail
    go_ret
    exact ⟨by rw [HF.out]; rfl, HB2.out⟩
  ·have hd : decide ((j : Int) + 1 < (N : Int)) = false := decide_eq_false (by omega)
   have HF : Hid (R = 0) := by show _ = _; rw [← HRR.out]; exact chk_few (by have := HN.out; omega)
   go_wp2_with fail
   go_ret
   exact ⟨by rw [HF.out]; rfl, HB.out⟩
end
section
open Go.RowKit
def Tv.sideL (d : Nat) : Tv → Tv
 | .nil => .nil
 | .leaf v e => if bitK e.k d = 0 then .leaf v e else .nil
 | .inner _ a _ => a
def Tv.sideR (d : Nat) : Tv → Tv
 | .nil => .nil
 | .leaf v e => if bitK e.k d = 0 then .nil else .leaf v e
 | .inner _ _ b => b
theorem SubMap.leafL {d : Nat} {l : List Ent} {v : Value} {x : Ent} (h : SubMap d l (.leaf v x)) (hd : d ≤ 256) : l = [x] := by
 have hl := h.few hd (by show (1 : Int) ≠ 2; decide)
 have ht := h.tr
 match l, hl with
 | [], _ => rw [growT_none] at ht; cases ht
 | [y], _ => rw [growT_one] at ht; injection ht with h1; rw [h1]
theorem SubMap.noneL {d : Nat} {l : List Ent} (h : SubMap d l .nil) (hd : d ≤ 256) : l = [] := by
 have hl := h.few hd (by show (0 : Int) ≠ 2; decide)
 have ht := h.tr
 match l, hl with
 | [], _ => rfl
 | [y], _ => rw [growT_one] at ht; cases ht
theorem SubMap.sides {d : Nat} {l : List Ent} {T : Tv} (h : SubMap d l T) (hd : d < 256) : SubMap (d + 1) (partK l d 0) (T.sideL d) ∧ SubMap (d + 1) (partK l d 1) (T.sideR d) := by
 have s0 := h.sep.part (d := d) (by omega) (by omega) 0
 have s1 := h.sep.part (d := d) (by omega) (by omega) 1
 cases T with
 | nil =>
  obtain rfl := h.noneL (by omega)
  exact ⟨⟨s0, by show Tr.nil = growT _ [] _; rw [growT_none]⟩, ⟨s1, by show Tr.nil = growT _ [] _; rw [growT_none]⟩⟩
 | leaf v e =>
  obtain rfl := h.leafL (by omega)
  rcases bitK_01 e.k d hd with hb | hb
  ·have e0 : partK [e] d 0 = [e] := by simp [partK, hb]
   have e1 : partK [e] d 1 = [] := by simp [partK, hb]
   rw [e0] at s0 ⊢
   rw [e1] at s1 ⊢
   refine ⟨⟨s0, ?_⟩, ⟨s1, ?_⟩⟩
   ·show (if bitK e.k d = 0 then Tv.leaf v e else Tv.nil).tr = _; rw [if_pos hb, growT_one]; rfl
   ·show (if bitK e.k d = 0 then Tv.nil else Tv.leaf v e).tr = _; rw [if_pos hb, growT_none]; rfl
  ·have e0 : partK [e] d 0 = [] := by simp [partK, hb]
   have e1 : partK [e] d 1 = [e] := by simp [partK, hb]
   rw [e0] at s0 ⊢
   rw [e1] at s1 ⊢
   refine ⟨⟨s0, ?_⟩, ⟨s1, ?_⟩⟩
   ·show (if bitK e.k d = 0 then Tv.leaf v e else Tv.nil).tr = _; rw [if_neg (by omega), growT_none]; rfl
   ·show (if bitK e.k d = 0 then Tv.nil else Tv.leaf v e).tr = _; rw [if_neg (by omega), growT_one]; rfl
 | inner v a b => exact (h.inner (by omega)).2
theorem SubMap.tr_sides {d : Nat} {l : List Ent} {T : Tv} (h : SubMap d l T) (hd : d < 256) : T.tr = joinT (T.sideL d).tr (T.sideR d).tr := by
 obtain ⟨h0, h1⟩ := h.sides hd
 rw [h.tr, h0.tr, h1.tr, show 257 - d = (256 - d) + 1 by omega, growT_join (256 - d) _ (d := d) (by omega) (by omega), show 257 - (d + 1) = 256 - d by omega]
 rfl
theorem app_join2 {d : Nat} {l : List Ent} {T : Tv} {x : Value} {a' b' : Tv} {cs : List Chg} (h : SubMap d l T) (h256 : d < 256) (hc : AptC d l cs)
  (ha : SubMap (d + 1) (appC (partK l d 0) (sideC cs d 0)) a') (hb : SubMap (d + 1) (appC (partK l d 1) (sideC cs d 1)) b') : SubMap d (appC l cs) (joinV x a' b') := by
 have ha2 := ha.perm (part_appC d 0 cs l).symm (by omega)
 have hb2 := hb.perm (part_appC d 1 cs l).symm (by omega)
 refine ⟨appC_sep cs h.sep hc, ?_⟩
 rw [joinV_tr, ha2.tr, hb2.tr, show 257 - d = (256 - d) + 1 by omega, growT_join (256 - d) _ (d := d) (by omega) (by omega), show 257 - (d + 1) = 256 - d by omega]
 rfl
theorem app_same {d : Nat} {l : List Ent} {T : Tv} {cs : List Chg} (h : SubMap d l T) (h256 : d < 256) (hc : AptC d l cs)
  (ha : SubMap (d + 1) (appC (partK l d 0) (sideC cs d 0)) (T.sideL d)) (hb : SubMap (d + 1) (appC (partK l d 1) (sideC cs d 1)) (T.sideR d)) : SubMap d (appC l cs) T := by
 have ha2 := ha.perm (part_appC d 0 cs l).symm (by omega)
 have hb2 := hb.perm (part_appC d 1 cs l).symm (by omega)
 refine ⟨appC_sep cs h.sep hc, ?_⟩
 rw [h.tr_sides h256, ha2.tr, hb2.tr, show 257 - d = (256 - d) + 1 by omega, growT_join (256 - d) _ (d := d) (by omega) (by omega), show 257 - (d + 1) = 256 - d by omega]
 rfl
theorem app_sum (l : List Ent) (cs : List Chg) {d : Nat} (hd : d < 256) : (appC (partK l d 0) (sideC cs d 0)).length + (appC (partK l d 1) (sideC cs d 1)).length = (appC l cs).length := by
 rw [← (part_appC d 0 cs l).length_eq, ← (part_appC d 1 cs l).length_eq]
 exact parts_sum (appC l cs) (d := d) (by omega) (by omega)
theorem bits_all {a b : List UInt8} (ha : a.length = 32) (hb : b.length = 32) (h : ∀ i : Nat, i < 256 → Bt.bit (keyF a) i = Bt.bit (keyF b) i) : a = b := keyF_inj ha hb (Bt.key_ext (keyF_byt _) (keyF_byt _) h)
theorem app_end {d : Nat} {l : List Ent} {c : Chg} {v : Value} (hs : Sep d l) (hc : AptC d l [c]) (hk : ∀ e ∈ l, e.k = c.k) : SubMap d (appC l [c]) (if c.d then .nil else .leaf v ⟨c.k, c.v⟩) := by
 have h0 : rmK l c.k = [] := List.filter_eq_nil_iff.2 fun e he => by simp [hk e he]
 have hsep := appC_sep [c] hs hc
 have e : appC l [c] = if c.d then [] else [⟨c.k, c.v⟩] := by
  show stepC l c = _
  unfold stepC
  split
  ·exact h0
  ·show insK _ (rmK l c.k) = _
   rw [h0]; rfl
 rw [e] at hsep ⊢
 refine ⟨hsep, ?_⟩
 split
 ·rw [growT_none]; rfl
 ·rw [growT_one]; rfl
theorem end_256 {l : List Ent} {c : Chg} (hs : Sep 256 l) (hc : AptC 256 l [c]) : ∀ e ∈ l, e.k = c.k := fun e he =>
 bits_all (hs.len e he) (hc.len c (by simp)) fun i hi => hc.ents c (by simp) e he i (by omega) hi
theorem two_lt {d : Nat} {l : List Ent} {cs : List Chg} (hd : d ≤ 256) (hc : AptC d l cs) (hs : AscS (cs.map Chg.k)) (h2 : 2 ≤ cs.length) : d < 256 := by
 refine Classical.byContradiction fun hn => ?_
 match cs, h2, hc, hs with
 | a :: b :: r, _, hc, hs =>
  have h1 := (List.pairwise_cons.1 hs).1 b.k (by simp)
  exact h1.ne (bits_all (hc.len a (by simp)) (hc.len b (by simp)) fun i hi => hc.each b (by simp) a (by simp) i (by omega) hi)
theorem side_len (cs : List Chg) (d : Nat) (hd : d < 256) : (sideC cs d 0).length + (sideC cs d 1).length = cs.length := by
 induction cs with
 | nil => rfl
 | cons c r ih =>
  rcases bitK_01 c.k d hd with h | h
  ·have e0 : sideC (c :: r) d 0 = c :: sideC r d 0 := List.filter_cons_of_pos (by simpa using h)
   have e1 : sideC (c :: r) d 1 = sideC r d 1 := List.filter_cons_of_neg (by simp [h])
   rw [e0, e1, List.length_cons, List.length_cons]; omega
  ·have e0 : sideC (c :: r) d 0 = sideC r d 0 := List.filter_cons_of_neg (by simp [h])
   have e1 : sideC (c :: r) d 1 = c :: sideC r d 1 := List.filter_cons_of_pos (by simpa using h)
   rw [e0, e1, List.length_cons, List.length_cons]; omega
end
section
open Go.RowKit
theorem below_cellsW {B : Nat} {a : World} {g : Nat} (hg : B ≤ g) : ∀ (vs : List Value) (o : Nat) {w : World}, Below B a w → Below B a (w.setCells g o vs)
 | [], _, _, h => h
 | v :: vs, o, w, h => by
  rw [World.setCells]
  exact below_cellsW hg vs (o + 1) (h.setCell hg v)
structure RowM (w : World) (g k n : Nat) (cs : List (List Value)) : Prop where
 lt : 0 < n * k → g < w.heap.size
 th : w.there g 0 (n * k)
 at_ : ∀ i c, cs[i]? = some c → w.rangeAt g (i * k) c
 len : ∀ c ∈ cs, c.length = k
 le : cs.length ≤ n
theorem RowM.below {w w' : World} {g k n : Nat} {cs : List (List Value)} (h : RowM w g k n cs) (hb : Below w.heap.size w w') : RowM w' g k n cs where
 lt := fun h0 => Nat.lt_of_lt_of_le (h.lt h0) hb.size
 th := fun j hj => by
  have hg := h.lt (by omega)
  obtain ⟨h1, h2⟩ := h.th j hj
  exact ⟨by rw [hb.cell (p := ⟨g, 0 + j, none⟩) hg]; exact h1, by rw [hb.frozen (p := ⟨g, 0 + j, none⟩) hg]; exact h2⟩
 at_ := fun i c hc => range_below (h.at_ i c hc) hb
 len := h.len
 le := h.le
theorem RowM.mid {w : World} {g k n : Nat} {cs : List (List Value)} (h : RowM w g k n cs) (hlt : cs.length < n) : w.there g (cs.length * k) k := fun j hj => by
 have h1 : (cs.length + 1) * k ≤ n * k := Nat.mul_le_mul_right _ hlt
 rw [Nat.succ_mul] at h1
 have := h.th (cs.length * k + j) (by omega)
 rwa [Nat.zero_add] at this
theorem RowM.set {w : World} {g k n : Nat} {cs : List (List Value)} (h : RowM w g k n cs) (hlt : cs.length < n) {c : List Value} (hc : c.length = k) : RowM (w.setCells g (cs.length * k) c) g k n (cs ++ [c]) where
 lt := fun h0 => Nat.lt_of_lt_of_le (h.lt h0) (below_cellsW (B := 0) (Nat.zero_le _) c _ (Below.refl 0 w)).size
 th := World.there_setCells h.th _ _ _
 at_ := fun i x hx => by
  by_cases hi : i < cs.length
  ·rw [List.getElem?_append_left hi] at hx
   refine World.rangeAt_setCells_apart (h.at_ i x hx) _ _ _ (.inr (.inl ?_))
   rw [h.len x (List.mem_of_getElem? hx)]
   have := Nat.mul_le_mul_right k (show i + 1 ≤ cs.length by omega)
   rwa [Nat.succ_mul] at this
  ·have hlt := (List.getElem?_eq_some_iff.1 hx).1
   rw [List.length_append, List.length_singleton] at hlt
   obtain rfl : i = cs.length := by omega
   rw [List.getElem?_append_right (Nat.le_refl _), Nat.sub_self] at hx
   simp at hx
   subst hx
   exact World.rangeAt_setCells_same w g _ _ (by rw [hc]; exact h.mid (by omega))
 len := fun x hx => by
  rcases List.mem_append.1 hx with hx | hx
  ·exact h.len x hx
  ·rw [List.mem_singleton.1 hx]; exact hc
 le := by rw [List.length_append, List.length_singleton]; omega
theorem RowM.new (w : World) (C : Array Value) (t : TypeId) (k n : Nat) (hC : C.size = n * k) : RowM (w.alloc (.cells C t)) w.heap.size k n [] where
 lt := fun _ => by simp
 th := fun j hj => by
  have hb := heap_alloc_new w (.cells C t)
  refine ⟨?_, frozen_of_row _ _ _ _ _ hb⟩
  rw [Nat.zero_add, cell_of_cells hb, Array.getElem?_eq_getElem (by omega)]
  rfl
 at_ := fun i c hc => by simp at hc
 len := fun c hc => by cases hc
 le := Nat.zero_le _
theorem stA_mid {t : TypeId} {w : World} {g o : Nat} {c : List Value} (ht : w.there g o c.length) (hi : (Tryz.prog.info? t).map (·.size) = some c.length) (h1 : ∀ v ∈ c, v.oneCell' = true) :
  stA t w (.pointer (some ⟨g, o, none⟩)) (.agg c.toArray) = .ok .skip (w.setCells g o c) := by
 unfold stA
 rw [Sem.run_bind, run_storeAt_mid (P := Tryz.prog) w g o t c.toArray (by rw [List.size_toArray]; exact ht) (by rw [List.size_toArray]; exact hi) (by rw [List.all_toArray, List.all_eq_true]; exact h1)]
 simp [Sem.run_pure, Result.andThen_ok]
def mC12 (n : Nat) : Array Value := madeCells (Value.agg (((List.range 32).map fun _ => (0 : UInt8)).map bv ++ [Value.slice none 0 0, Value.bool false]).toArray).cells (n * 34)
def mK12 (n : Nat) : Array Value := madeCells (Value.agg (bA ((List.range 32).map fun _ => (0 : UInt8)))).cells (n * 32)
theorem make_chgs (n : Nat) (hn : n ≤ 1000000) (w : World) : (Instr.makeSlice 115 (.int .i64 (n : Int)) (.int .i64 (n : Int))).run Tryz.prog w = .ok (.slice (some ⟨w.heap.size, 0, none⟩) n n) (w.alloc (.cells (mC12 n) 164)) := by
 obtain ⟨i, hi, hz, hs, hb⟩ := info_parts infoCb
 have hr := run_make (P := Tryz.prog) w 115 164 i _ Tryz.underlying115 hi hz .i64 .i64 (n : Int) (n : Int) (by omega) (by omega) (by rw [hb]; omega) (by omega)
 rw [Int.toNat_natCast, hs] at hr
 exact hr
theorem make_ks (n : Nat) (hn : n ≤ 1000000) (w : World) : (Instr.makeSlice 157 (.int .i64 (n : Int)) (.int .i64 (n : Int))).run Tryz.prog w = .ok (.slice (some ⟨w.heap.size, 0, none⟩) n n) (w.alloc (.cells (mK12 n) 40)) := by
 obtain ⟨i, hi, hz, hs, hb⟩ := info_parts infoS3
 have hr := run_make (P := Tryz.prog) w 157 40 i _ Tryz.underlying157 hi hz .i64 .i64 (n : Int) (n : Int) (by omega) (by omega) (by rw [hb]; omega) (by omega)
 rw [Int.toNat_natCast, hs] at hr
 exact hr
theorem RowM.ca {w : World} {g n : Nat} {xs : List Cn} (h : RowM w g 34 n (xs.map cnC)) (hok : ∀ x ∈ xs, CnOk w x) : CA w (some ⟨g, 0, none⟩) xs := fun i x hx =>
 ⟨hok x (List.mem_of_getElem? hx), g, 0, rfl, by rw [Nat.zero_add]; exact h.at_ i _ (by rw [List.getElem?_map, hx]; rfl)⟩
theorem RowM.ks {w : World} {g n : Nat} {ks : List (List UInt8)} (h : RowM w g 32 n (ks.map cS)) (hok : ∀ k ∈ ks, k.length = 32) : KS w (some ⟨g, 0, none⟩) ks := fun i k hk =>
 ⟨hok k (List.mem_of_getElem? hk), g, 0, rfl, by rw [Nat.zero_add]; exact h.at_ i _ (by rw [List.getElem?_map, hk]; rfl)⟩
theorem KS.keepB {L : Nat → Prop} {w w' : World} {g : Nat} {ks : List (List UInt8)} (h : KS w (some ⟨g, 0, none⟩) ks) (hk : Keep L w w') (hg : ¬ L g) : KS w' (some ⟨g, 0, none⟩) ks := fun i k hi => by
 obtain ⟨h1, g', o, e, h2⟩ := h i k hi
 cases e
 exact ⟨h1, g, 0, rfl, fun j v hv => hk.cellAt (h2 j v hv) hg⟩
theorem check1_c (x : Cn) (hx : x.k.length = 32) (w : World) : Calls Tryz.prog 121 #[.agg (cnC x).toArray] w fun e w' => e = .returned (.agg (bA x.k)) ∧ Below w.heap.size w w' := by
 obtain ⟨X, hX⟩ : ∃ X, X = w.alloc (.cells (cnC x).toArray 164) := ⟨_, rfl⟩
 have hbX : Below w.heap.size w X := by rw [hX]; exact (Below.refl _ _).alloc (Nat.le_refl _) _
 have hr : X.rangeAt w.heap.size 0 (cnC x) := by rw [hX]; exact cn_made w x _
 obtain ⟨Y, hY⟩ : ∃ Y, Y = X.alloc (.cells (Bt.kc Bt.kz) 40) := ⟨_, rfl⟩
 have hbY : Below X.heap.size X Y := by rw [hY]; exact (Below.refl _ _).alloc (Nat.le_refl _) _
 have lk := range_ckey (range_below hr hbY) hx
 obtain ⟨Z, hZ⟩ : ∃ Z, Z = X.alloc (.cells (bA x.k) 40) := ⟨_, rfl⟩
 have hst : stA 40 (X.alloc (.cells (Bt.kc Bt.kz) 40)) (.pointer (some ⟨X.heap.size, 0, none⟩)) (.agg (bA x.k)) = .ok .skip Z := by rw [hZ]; exact stK11 hx
 have hbZ : Below w.heap.size w Z := by rw [hZ]; exact hbX.alloc hbX.size _
 have hZ2 : Z.heap[X.heap.size]? = some (.cells (bA x.k) 40 (0, 0)) := by rw [hZ]; exact heap_alloc_new X _
 have hs : X.heap.size = w.heap.size + 1 := by rw [hX]; simp
 have HBZ := Lib.hid hbZ
 have HZ2 := Lib.hid hZ2
 have HXK := Lib.hid hx
 rw [hs] at hst HZ2
 rw [hY, hX] at lk
 rw [hX] at hst
 clear hbX hr hY hbY hZ hZ2 hbZ hs hX hx
 go_enter Tryz.func121, Tryz.ntmps121
 go_wp2_with fail
 refine bodyPost_ret (v := .agg (bA x.k)) ?_ rfl ⟨rfl, HBZ.out⟩
 exact results_cell_row Tryz.results121 _ _ (w.heap.size + 1) 40 _ (0, 0) _ rfl HZ2.out Tryz.underlying40 rfl (by rw [bA_size, HXK.out]; exact infoKey)
theorem take_map12 {α β : Type} (f : α → β) {l : List α} {i : Nat} {x : α} (h : l[i]? = some x) : (l.take (i + 1)).map f = (l.take i).map f ++ [f x] := by
 obtain ⟨hi, rfl⟩ := List.getElem?_eq_some_iff.1 h
 rw [List.take_succ_eq_append_getElem hi, List.map_append]
 rfl
theorem collect_ck (A : Option Addr) (c : Nat) (xs : List Cn) (w : World) (hA : CA w A xs) (hn : xs.length ≤ 1000) :
  Calls Tryz.prog 120 #[.slice A xs.length c, .func (.func 121) #[] #[]] w fun e w' => ∃ g : Nat, w.heap.size ≤ g ∧ e = .returned (.slice (some ⟨g, 0, none⟩) xs.length xs.length) ∧ KS w' (some ⟨g, 0, none⟩) (xs.map Cn.k) ∧ Below w.heap.size w w' := by
 have HA := Lib.hid hA
 have mk := make_ks xs.length (by omega) w
 obtain ⟨W, hW⟩ : ∃ W, W = w.alloc (.cells (mK12 xs.length) 40) := ⟨_, rfl⟩
 have HBW : Hid (Below w.heap.size w W) := by rw [hW]; exact (Below.refl _ _).alloc (Nat.le_refl _) _
 have HM0 : Hid (RowM W w.heap.size 32 xs.length ((xs.take 0).map fun x => cS x.k)) := by rw [hW]; exact RowM.new w _ _ 32 xs.length (by unfold mK12; rw [size_madeCells])
 have hn9 : xs.length ≤ 1000 := hn
 rw [← hW] at mk
 clear hA hn hW
 go_enter Tryz.func120, Tryz.ntmps120
 go_wp2_with fail
 clear mk
 go_loopg [13] xs.length (fun gg iv wr => ∃ m : Nat, iv = .int .i64 (m : Int) ∧ m ≤ xs.length ∧ xs.length - m = gg ∧ Hid (RowM wr w.heap.size 32 xs.length ((xs.take m).map fun x => cS x.k)) ∧ Below w.heap.size w wr)
 case atStart => exact ⟨0, rfl, by omega, by omega, HM0.out, HBW.out⟩
 case round =>
  obtain ⟨m, rfl, hm, rfl, HR, hB⟩ := hrel
  have HB := Lib.hid hB
  clear hB
  by_cases hlt : m < xs.length
  ·have hd : decide (m < xs.length) = true := decide_eq_true hlt
   obtain ⟨x, he⟩ : ∃ e, xs[m]? = some e := ⟨_, List.getElem?_eq_getElem hlt⟩
   obtain ⟨hok, g, o, rfl, hr⟩ := HA.out m x he
   have HEK := Lib.hid hok.key
   have le := range_cb (range_below hr HB.out) hok.key
   have zv := back_c_z
   obtain ⟨Y, hY⟩ : ∃ Y, Y = wr.alloc (.cells (cnC x).toArray 164) := ⟨_, rfl⟩
   have hbY : Below wr.heap.size wr Y := by rw [hY]; exact (Below.refl _ _).alloc (Nat.le_refl _) _
   have st : stA 164 (wr.alloc (.cells (cnC zC12).toArray 164)) (.pointer (some ⟨wr.heap.size, 0, none⟩)) (.agg (cnC x).toArray) = .ok .skip Y := by rw [hY]; exact stC_new infoCb1 hok.key rfl
   have le2 : ldA 164 Y (.pointer (some ⟨wr.heap.size, 0, none⟩)) = .ok (.value (.agg (cnC x).toArray)) Y := range_cb (by rw [hY]; exact cn_made wr x _) hok.key
   have HRY := Lib.hid (HR.out.below hbY)
   have HBY := Lib.hid (HB.out.trans (hbY.mono HB.out.size))
   have HTK := Lib.hid (take_map12 (fun x => cS (Cn.k x)) he)
   have HLN : Hid (((xs.take m).map fun x => cS (Cn.k x)).length = m) := by show _ = _; rw [List.length_map, List.length_take]; omega
   have HCL := Lib.hid (check1_c x hok.key Y)
   have p0 : (0 : Int) ≤ (m : Int) := by omega
   have p1 : (m : Int) < (xs.length : Int) := by omega
   clear he hok hr hY hbY
   go_wp2_with fail
   refine HCL.out.mono ?_
   rintro _ w5 ⟨rfl, hB5⟩
   have HB5 := Lib.hid (HBY.out.trans (hB5.mono HBY.out.size))
   have hR5 := HRY.out.below hB5
   have hcl : (cS x.k).length = 32 := by unfold cS; rw [List.length_map, HEK.out]
   have hmid := hR5.mid (by rw [HLN.out]; exact hlt)
   rw [HLN.out, ← hcl] at hmid
   have st2 := stA_mid (t := 40) hmid (by rw [hcl]; exact infoKey) (fun v hv => by
    obtain ⟨y, _, rfl⟩ := List.mem_map.1 hv
    exact bv_one y)
   rw [hcl] at st2
   have hset := hR5.set (by rw [HLN.out]; exact hlt) hcl
   rw [HLN.out] at hset
   obtain ⟨V, hV⟩ : ∃ V, V = w5.setCells w.heap.size (m * 32) (cS x.k) := ⟨_, rfl⟩
   rw [← hV] at st2 hset
   rw [show (cS x.k).toArray = bA x.k from rfl] at st2
   have HS := Lib.hid hset
   have HBV : Hid (Below w.heap.size w V) := by rw [hV]; exact below_cellsW (Nat.le_refl _) _ _ HB5.out
   clear hB5 hR5 hcl hmid hset hV HCL le2 le st zv
   go_wp2_with fail
   go_roundg (xs.length - (m + 1))
   case measure => omega
   case rel => exact ⟨m + 1, by go_num, by omega, rfl, by show RowM _ _ _ _ _; rw [HTK.out]; exact HS.out, HBV.out⟩
  ·obtain rfl : m = xs.length := by omega
   have hd : decide (xs.length < xs.length) = false := decide_eq_false (by omega)
   have hr := HR.out
   rw [List.take_length] at hr
   have hr2 : RowM wr w.heap.size 32 xs.length ((xs.map Cn.k).map cS) := by rw [List.map_map]; exact hr
   have HF := Lib.hid (hr2.ks fun k hk => by
    obtain ⟨x, hx, rfl⟩ := List.mem_map.1 hk
    exact (HA.out.ok x hx).key)
   clear hr hr2 HR hlt
   go_wp2_with fail
   go_ret
   exact ⟨w.heap.size, Nat.le_refl _, rfl, HF.out, HB.out⟩
end
section
open Go.RowKit
def srtC (a b : Value) : Array Value := #[a, b]
theorem infoSo : (Tryz.prog.info? 159).map (·.size) = some 2 := by kernel_rfl
@[go_sem ↓] theorem execOp_loadSo (ρ : Operand → Value) (dst : Option Tmp) (x : Operand) (type : TypeId) (pos : String) (after : Array Edge) (guard : Option (Nat × Bool)) (w : World) :
  Sem.run Tryz.prog (execOp ρ { dst, op := .load 159 x, type, pos, after, guard }) w = ldA 159 w (ρ x) := rfl
@[go_sem ↓] theorem execOp_storeSo (ρ : Operand → Value) (dst : Option Tmp) (x y : Operand) (type : TypeId) (pos : String) (after : Array Edge) (guard : Option (Nat × Bool)) (w : World) :
  Sem.run Tryz.prog (execOp ρ { dst, op := .store 159 x y, type, pos, after, guard }) w = stA 159 w (ρ x) (ρ y) := rfl
@[go_sem ↓] theorem execOp_buildSo (ρ : Operand → Value) (dst : Option Tmp) (parts : Array (Nat × Operand)) (type : TypeId) (pos : String) (after : Array Edge) (guard : Option (Nat × Bool)) (w : World) :
  Sem.run Tryz.prog (execOp ρ { dst, op := .build 159 parts, type, pos, after, guard }) w = bldA 159 w (parts.map fun x => (x.1, ρ x.2)) := rfl
theorem zeroSo : ∀ w, (zeroValue 159).run Tryz.prog w = .ok (.agg (srtC (.slice none 0 0) (.slice none 0 0))) w := fun _ => by kernel_rfl
theorem bldSo (A B : Option Addr) (n c m d : Nat) (w : World) : bldA 159 w #[(0, .slice A n c), (1, .slice B m d)] = .ok (.value (.agg (srtC (.slice A n c) (.slice B m d)))) w := by kernel_rfl
theorem ldSo {w : World} {g : Nat} {a b : Value} {t : TypeId} {fr : Nat × Nat} (h : w.heap[g]? = some (.cells (srtC a b) t fr)) : ldA 159 w (.pointer (some ⟨g, 0, none⟩)) = .ok (.value (.agg (srtC a b))) w := by
 unfold ldA
 simp only [Instr.loadAt, Instr.sureAddr, Sem.run_bind, Sem.run_pure, Result.andThen_ok]
 rw [run_loadVar_row (P := Tryz.prog) w g t 159 (srtC a b) fr _ h Tryz.underlying159 rfl infoSo]
 rfl
theorem varSo {w : World} {g : Nat} {a b : Value} {t : TypeId} {fr : Nat × Nat} (h : w.heap[g]? = some (.cells (srtC a b) t fr)) : (loadVar 159 ⟨g, 0, none⟩).run Tryz.prog w = .ok (.agg (srtC a b)) w :=
 run_loadVar_row (P := Tryz.prog) w g t 159 (srtC a b) fr _ h Tryz.underlying159 rfl infoSo
theorem cellSo0 {w : World} {g : Nat} {a b : Value} {t : TypeId} {fr : Nat × Nat} (h : w.heap[g]? = some (.cells (srtC a b) t fr)) : w.cell? ⟨g, 0, none⟩ = some a := by rw [cell_of_cells h]; rfl
theorem cellSo1 {w : World} {g : Nat} {a b : Value} {t : TypeId} {fr : Nat × Nat} (h : w.heap[g]? = some (.cells (srtC a b) t fr)) : w.cell? ⟨g, 1, none⟩ = some b := by rw [cell_of_cells h]; rfl
theorem srt_one (A B : Option Addr) (n c m d : Nat) : (srtC (.slice A n c) (.slice B m d)).all (·.oneCell') = true := by
 simp [srtC, Value.oneCell']
theorem check_c (A : Option Addr) (c : Nat) (xs : List Cn) (w : World) (hA : CA w A xs) (hn : xs.length ≤ 1000) :
  Calls Tryz.prog 84 #[.slice A xs.length c] w fun e w' => ∃ g : Nat, e = .returned (.tuple #[.agg (srtC (.slice (some ⟨g, 0, none⟩) xs.length xs.length) (.slice A xs.length c)), .int .i64 (chkK (xs.map Cn.k))]) ∧ KS w' (some ⟨g, 0, none⟩) (xs.map Cn.k) ∧ Below w.heap.size w w' := by
 obtain ⟨W0, hW0⟩ : ∃ W0, W0 = w.alloc (.cells (srtC (.slice none 0 0) (.slice none 0 0)) 159) := ⟨_, rfl⟩
 have hB0 : Below w.heap.size w W0 := by rw [hW0]; exact (Below.refl _ _).alloc (Nat.le_refl _) _
 have hz0 : W0.heap[w.heap.size]? = some (.cells (srtC (.slice none 0 0) (.slice none 0 0)) 159 (0, 0)) := by rw [hW0]; exact heap_alloc_new w _
 have zs := zeroSo
 have HA := Lib.hid hA
 have HB0 := Lib.hid hB0
 have HZ0 := Lib.hid hz0
 have HW0 := Lib.hid hW0
 have hn9 : xs.length ≤ 1000 := hn
 have HCO := Lib.hid (collect_ck A c xs W0 (hA.below hB0) hn)
 obtain ⟨N, hN⟩ : ∃ N, N = xs.length := ⟨_, rfl⟩
 have HN := Lib.hid hN
 obtain ⟨ck, hck⟩ : ∃ ck, ck = chkK (xs.map Cn.k) := ⟨_, rfl⟩
 have HCK := Lib.hid hck
 rw [← hN] at HCO ⊢
 rw [← hck]
 clear hA hn hB0 hz0 hW0 hN hck
 go_enter Tryz.func84, Tryz.ntmps84
 go_wp2_with fail
 rw [← HW0.out]
 refine HCO.out.mono ?_
 rintro _ w1 ⟨g, hg, rfl, hks, hB1⟩
 obtain ⟨KV, hKV⟩ : ∃ v, v = Value.slice (some ⟨g, 0, none⟩) N N := ⟨_, rfl⟩
 obtain ⟨XV, hXV⟩ : ∃ v, v = Value.slice A N c := ⟨_, rfl⟩
 obtain ⟨Y, hY⟩ : ∃ Y, Y = w1.alloc (.cells (srtC KV XV) 159) := ⟨_, rfl⟩
 have hon : (srtC KV XV).all (·.oneCell') = true := by rw [hKV, hXV]; exact srt_one _ _ _ _ _ _
 have bl : ∀ w, bldA 159 w #[(0, KV), (1, XV)] = .ok (.value (.agg (srtC KV XV))) w := fun w => by rw [hKV, hXV]; exact bldSo _ _ _ _ _ _ w
 have st0 : stA 159 (w1.alloc (.cells (srtC (.slice none 0 0) (.slice none 0 0)) 159)) (.pointer (some ⟨w1.heap.size, 0, none⟩)) (.agg (srtC KV XV)) = .ok .skip Y := by rw [hY]; exact stA_new w1 _ _ infoSo rfl hon
 have hbY : Below w1.heap.size w1 Y := by rw [hY]; exact (Below.refl _ _).alloc (Nat.le_refl _) _
 have hy : Y.heap[w1.heap.size]? = some (.cells (srtC KV XV) 159 (0, 0)) := by rw [hY]; exact heap_alloc_new w1 _
 have hs1 : w.heap.size < w1.heap.size := by have h1 := hB1.size; have h2 := lt_of_heap HZ0.out; omega
 have HBf : Hid (∀ z, Keep (fun i => i = w.heap.size) Y z → Below w.heap.size w z) := fun z hz => ((HB0.out.trans (hB1.mono HB0.out.size)).trans (hbY.mono (by omega))).trans (hz.below (by have := hbY.size; omega) fun i hi => by have e : i = w.heap.size := hi; omega)
 have HZW : Hid (Y.drew.heap[w.heap.size]? = some (.cells (srtC (.slice none 0 0) (.slice none 0 0)) 159 (0, 0))) := ((hbY.block _ hs1).trans ((hB1.block _ (lt_of_heap HZ0.out)).trans HZ0.out) : Y.heap[w.heap.size]? = _)
 have LS : Hid (∀ v, Keep (fun i => i = w.heap.size) Y v → ldA 159 v (.pointer (some ⟨w1.heap.size, 0, none⟩)) = .ok (.value (.agg (srtC KV XV))) v ∧ v.cell? ⟨w1.heap.size, 0, none⟩ = some KV) := fun v hv => by
  have h1 := hv.heap hy (by omega)
  exact ⟨ldSo h1, cellSo0 h1⟩
 have hgn : ¬ g = w.heap.size := fun e => by have h1 := lt_of_heap HZ0.out; omega
 have HKSf : Hid (∀ v, Keep (fun i => i = w.heap.size) Y v → KS v (some ⟨g, 0, none⟩) (xs.map Cn.k)) := fun v hv => (hks.below hbY).keepB hv hgn
 have HCC : Hid (∀ v, Keep (fun i => i = w.heap.size) Y v → Calls Tryz.prog 122 #[KV] v fun e w' => e = .returned (.int .i64 ck) ∧ Below v.heap.size v w') := fun v hv => by
  have h1 := pcheck_c (some ⟨g, 0, none⟩) N (xs.map Cn.k) v (HKSf.out v hv) (by rw [List.length_map]; omega)
  rw [List.length_map, ← HN.out, ← HCK.out, ← hKV] at h1
  exact h1
 have HON := Lib.hid hon
 have HKV := Lib.hid hKV
 have HXV := Lib.hid hXV
 rw [← hKV, ← hXV]
 clear hks hB1 hKV hXV hY hon hbY hy hs1 hg hgn HCO HW0
 go_wp2_with fail
 refine wp_region_held_drew (S := fun w' => Keep (fun i => i = w.heap.size) Y w') (by kernel_rfl) ((Keep.refl _ _).drew) (fun hHeld => ?_)
 have hb0 : Keep (fun i => i = w.heap.size) Y Y.drew := (Keep.refl _ _).drew
 refine x_t (i := 0) (oi := { dst := some 9, op := .load _ (.tmp 4), .. }) (v := ?_) rfl (Or.inl ⟨by rfl, ?_⟩) ?_
 rotate_left 1
 ·intro v hSv
  have hv1 := LS.out v hSv |>.1
  clear hSv
  go_simp
  try with_reducible rfl
 try simp only [Act.put, x_A, x_0, x_1]
 refine x_t (i := 1) (oi := { dst := some 10, op := .fieldAddr _ (.tmp 4) 0, .. }) (v := ?_) rfl (Or.inl ⟨by rfl, ?_⟩) ?_
 rotate_left 1
 ·intro v hSv
  clear hSv
  go_simp
  try with_reducible rfl
 try simp only [Act.put, x_A, x_0, x_1]
 refine x_t (i := 2) (oi := { dst := some 11, op := .load _ (.tmp 10), .. }) (v := ?_) rfl (Or.inl ⟨by rfl, ?_⟩) ?_
 rotate_left 1
 ·intro v hSv
  have hv1 := LS.out v hSv |>.2
  clear hSv
  go_simp
  try with_reducible rfl
 try simp only [Act.put, x_A, x_0, x_1]
 refine wpAnyH_ready (rs := [3]) (by kernel_rfl) (by simp) ?_
 refine AllReadyH.cons (o := { dst := some 12, op := .call _, .. }) rfl (fun K hK => ?_) AllReadyH.nil
 go_simp
 refine (HCC.out _ (hb0)).mono ?_
 rintro e y1 ⟨rfl, hb⟩
 have hb1 : Keep (fun i => i = w.heap.size) Y y1 := (hb0).trans (Keep.of_below hb)
 have HZW := Lib.hid ((hb.block _ (lt_of_heap HZW.out)).trans HZW.out)
 clear hb
 go_wp2_with fail
 refine hK.out _ _ (hb1) (fun hHeld => ?_)
 clear hK K
 try simp only [Act.put, x_A, x_0, x_1]
 refine wpAnyH_ready (rs := [4]) (by kernel_rfl) (by simp) ?_
 refine AllReadyH.cons (o := { dst := none, op := .store _ (.tmp 2) (.tmp 9), .. }) rfl (fun K hK => ?_) AllReadyH.nil
 have HZr := HZW
 have st1 : stA 159 y1 (.pointer (some ⟨w.heap.size, 0, none⟩)) (.agg (srtC KV XV)) = .ok .skip (y1.setRow w.heap.size (srtC KV XV)) := stA_row HZr.out (by exact infoSo) rfl HON.out
 have HM := Lib.hid (setRow_heap y1 w.heap.size _ (srtC KV XV) _ _ HZr.out)
 go_simp
 refine hK.out _ _ ((hb1).trans (Keep.row y1 w.heap.size _)) (fun hHeld => ?_)
 clear hK K
 try simp only [Act.put, x_A, x_0, x_1]
 refine x_t (i := 5) (oi := { dst := some 3, op := .assign (.tmp 12), .. }) (v := ?_) rfl (Or.inl ⟨by rfl, ?_⟩) ?_
 rotate_left 1
 ·intro v hSv
  clear hSv
  go_simp
  try with_reducible rfl
 try simp only [Act.put, x_A, x_0, x_1]
 refine wpAnyH_done (by kernel_rfl) ?_ _
 go_wp2_with fail
 refine bodyPost_ret (v := .tuple #[.agg (srtC KV XV), .int .i64 ck]) ?_ rfl ⟨g, by rw [HKV.out, HXV.out], HKSf.out _ ((hb1).trans (Keep.row y1 w.heap.size _)), HBf.out _ ((hb1).trans (Keep.row y1 w.heap.size _))⟩
 exact results_row_tmp Tryz.results84 _ _ w.heap.size _ _ rfl rfl (varSo HM.out)
end
section
open Go.RowKit Go.Shelf
theorem search_c (f : Nat) (cap : Array Value) (n z : Nat) (p : Nat → Bool) (w : World) (hn : n ≤ 1000000) (hz : z ≤ n) (h0 : ∀ j, j < z → p j = false) (h1 : ∀ j, z ≤ j → j < n → p j = true)
  (eg : ∀ args w, (callFunc f args).run Tryz.prog w = .ok (.enter f args) w)
  (hc : ∀ X, Below w.heap.size w X → ∀ j : Nat, j < n → Calls Tryz.prog f (#[.int .i64 (j : Int)] ++ cap) X fun e Y => e = .returned (.bool (p j)) ∧ Below X.heap.size X Y) :
  Calls Tryz.prog 174 #[.int .i64 (n : Int), .func (.func f) #[] cap] w fun e w' => e = .returned (.int .i64 (z : Int)) ∧ Below w.heap.size w w' := by
 have HC := Lib.hid hc
 have H0 := Lib.hid h0
 have H1 := Lib.hid h1
 have hn9 : n ≤ 1000000 := hn
 have hz9 : z ≤ n := hz
 clear hc h0 h1 hn hz
 go_enter Tryz.func174, Tryz.ntmps174
 go_wp2_with fail
 go_loopg [5, 6] n (fun gg iv jv wr => ∃ i j : Nat, iv = .int .i64 (i : Int) ∧ jv = .int .i64 (j : Int) ∧ i ≤ z ∧ z ≤ j ∧ j ≤ n ∧ j - i = gg ∧ Below w.heap.size w wr)
 case atStart => exact ⟨0, n, rfl, rfl, by omega, by omega, by omega, by omega, Below.refl _ _⟩
 case round =>
  obtain ⟨i, j, rfl, rfl, hi, hj, hjn, rfl, hB⟩ := hrel
  have HB := Lib.hid hB
  clear hB
  by_cases hlt : i < j
  ·have hd : decide (i < j) = true := decide_eq_true hlt
   have p0 : (0 : Int) ≤ (i : Int) := by omega
   have p1 : (i : Int) + (j : Int) ≤ 2000000 := by omega
   have pj : (0 : Int) ≤ (j : Int) := by omega
   go_wp2_with fail
   have e2 : ((i : Int) + (j : Int)) / 2 = (((i + j) / 2 : Nat) : Int) := by omega
   rw [e2]
   obtain ⟨h, hh⟩ : ∃ h, h = (i + j) / 2 := ⟨_, rfl⟩
   rw [← hh]
   have hhj : h < j := by omega
   have hih : i ≤ h := by omega
   refine (HC.out wr HB.out h (by omega)).mono ?_
   rintro _ w5 ⟨rfl, hB5⟩
   have HB5 := Lib.hid (HB.out.trans (hB5.mono HB.out.size))
   clear hB5 e2 hh p1
   cases hp : p h with
   | false =>
    have hlz : h < z := Classical.byContradiction fun hn => by
     have := H1.out h (by omega) (by omega)
     rw [hp] at this
     cases this
    clear hp
    go_wp2_with fail
    go_roundg (j - (h + 1))
    case measure => omega
    case rel => exact ⟨h + 1, j, by go_num, rfl, by omega, by omega, by omega, rfl, HB5.out⟩
   | true =>
    have hlz : z ≤ h := Classical.byContradiction fun hn => by
     have := H0.out h (by omega)
     rw [hp] at this
     cases this
    clear hp
    go_wp2_with fail
    go_roundg (h - i)
    case measure => omega
    case rel => exact ⟨i, h, rfl, rfl, by omega, by omega, by omega, rfl, HB5.out⟩
  ·have hd : decide (i < j) = false := decide_eq_false (by omega)
   have hiz : i = z := by omega
   subst hiz
   clear hlt
   go_wp2_with fail
   go_ret
   exact ⟨rfl, HB.out⟩
theorem split1_c (b1 b2 : Nat) (A : Option Addr) (c : Nat) (ks : List (List UInt8)) (d j : Nat) (k : List UInt8) (w : World) (hA : KS w A ks) (hk : ks[j]? = some k) (hd : d < 256)
  (h1 : w.cell? ⟨b1, 0, none⟩ = some (.slice A ks.length c)) (h2 : w.cell? ⟨b2, 0, none⟩ = some (.int .i64 (d : Int))) :
  Calls Tryz.prog 175 #[.int .i64 (j : Int), .pointer (some ⟨b1, 0, none⟩), .pointer (some ⟨b2, 0, none⟩)] w fun e w' => e = .returned (.bool (decide (bitK k d = 1))) ∧ Below w.heap.size w w' := by
 obtain ⟨hkl, g, o, rfl, hr⟩ := hA j k hk
 have hj := (List.getElem?_eq_some_iff.1 hk).1
 obtain ⟨N, hN⟩ : ∃ N, N = ks.length := ⟨_, rfl⟩
 rw [← hN] at hj h1
 have c1 : ∀ z : Later w, z.w.cell? ⟨b1, 0, none⟩ = some (.slice (some ⟨g, o, none⟩) N c) := fun z => by rw [z.h.cell (p := ⟨b1, 0, none⟩) (lt_of_cell h1)]; exact h1
 have c2 : ∀ z : Later w, z.w.cell? ⟨b2, 0, none⟩ = some (.int .i64 (d : Int)) := fun z => by rw [z.h.cell (p := ⟨b2, 0, none⟩) (lt_of_cell h2)]; exact h2
 have la : ∀ z : Later w, ldA 40 z.w (.pointer (some ⟨g, o + j * 32, none⟩)) = .ok (.value (.agg (bA k))) z.w := fun z => range_keyS (range_below hr z.h) hkl
 have p0 : (0 : Int) ≤ (j : Int) := by omega
 have p1 : (j : Int) < (N : Int) := by omega
 have HKL := Lib.hid hkl
 have HBT : Hid (∀ z, Calls Tryz.prog 111 #[.agg (bA k), .int .i64 (d : Int)] z fun e w' => e = .returned (.int .i64 (bitK k d)) ∧ Below z.heap.size z w') := fun z => pbitK_c k hkl (d : Int) z
 rcases bitK_01 k d hd with hb | hb
 ·rw [hb] at HBT
  rw [decide_eq_false (by rw [hb]; decide)]
  clear hA hk hr hkl hN h1 h2 hb
  go_enter Tryz.func175, Tryz.ntmps175
  go_wp2_with fail
  refine wp_region_later (by kernel_rfl) (by kernel_rfl) ?_
  repeat (go_big_quiet_step ((go_at_call 111; exact Later.call (HBT.out _))))
  refine wpQuiet_nil ?_
  rintro _ ⟨z, rfl⟩
  clear c1 c2 la
  go_wp2_with fail
  go_ret
  exact ⟨rfl, z.h⟩
 ·rw [hb] at HBT
  rw [decide_eq_true hb]
  clear hA hk hr hkl hN h1 h2 hb
  go_enter Tryz.func175, Tryz.ntmps175
  go_wp2_with fail
  refine wp_region_later (by kernel_rfl) (by kernel_rfl) ?_
  repeat (go_big_quiet_step ((go_at_call 111; exact Later.call (HBT.out _))))
  refine wpQuiet_nil ?_
  rintro _ ⟨z, rfl⟩
  clear c1 c2 la
  go_wp2_with fail
  go_ret
  exact ⟨rfl, z.h⟩
theorem split_c (A : Option Addr) (c : Nat) (cs : List Chg) (d : Nat) (w : World) (hA : KS w A (cs.map Chg.k)) (hd : d < 256) (hn : cs.length ≤ 1000) (hs : AscS (cs.map Chg.k)) (he : ∀ c ∈ cs, ∀ x ∈ cs, ∀ i : Nat, i < d → Bt.bit (keyF x.k) i = Bt.bit (keyF c.k) i) :
  Calls Tryz.prog 160 #[.slice A cs.length c, .int .i64 (d : Int)] w fun e w' => e = .returned (.int .i64 ((sideC cs d 0).length : Int)) ∧ Below w.heap.size w w' := by
 obtain ⟨s1, s2⟩ := side_cut hd cs hs he
 have hsl := side_len cs d hd
 obtain ⟨N, hN⟩ : ∃ N, N = cs.length := ⟨_, rfl⟩
 obtain ⟨z, hz⟩ : ∃ z, z = (sideC cs d 0).length := ⟨_, rfl⟩
 obtain ⟨X, hX⟩ : ∃ X, X = (w.alloc (.cells #[.slice A N c] 157)).alloc (.cells #[.int .i64 (d : Int)] 3) := ⟨_, rfl⟩
 have hbX : Below w.heap.size w X := by rw [hX]; exact ((Below.refl _ _).alloc (Nat.le_refl _) _).alloc (by simp) _
 have h1 : X.cell? ⟨w.heap.size, 0, none⟩ = some (.slice A N c) := by rw [hX, cell_of_cells (heap_alloc2_old w _ _)]; rfl
 have h2 : X.cell? ⟨w.heap.size + 1, 0, none⟩ = some (.int .i64 (d : Int)) := by rw [hX, cell_of_cells (heap_alloc2_new w _ _)]; rfl
 have HSR : Hid (Calls Tryz.prog 174 #[.int .i64 (N : Int), .func (.func 175) #[] #[.pointer (some ⟨w.heap.size, 0, none⟩), .pointer (some ⟨w.heap.size + 1, 0, none⟩)]] X fun e w' => e = .returned (.int .i64 (z : Int)) ∧ Below X.heap.size X w') := by
  refine search_c 175 _ N z (fun j => decide (bitK (((cs.map Chg.k)[j]?).getD []) d = 1)) X (by omega) (by omega) (fun j hj => ?_) (fun j hj hjn => ?_) (enters_of Tryz.func175 (by kernel_rfl) rfl) (fun Y hY j hj => ?_)
  ·have hm : cs[j]? = (sideC cs d 0)[j]? := by rw [← s1, List.getElem?_take, if_pos (by omega)]
   obtain ⟨x, hx⟩ : ∃ x, (sideC cs d 0)[j]? = some x := ⟨_, List.getElem?_eq_getElem (by omega)⟩
   rw [List.getElem?_map, hm, hx]
   have := of_decide_eq_true (List.mem_filter.1 (List.mem_of_getElem? hx)).2
   exact decide_eq_false (by show ¬ bitK x.k d = 1; omega)
  ·have hm : cs[j]? = (sideC cs d 1)[j - z]? := by rw [← s2, List.getElem?_drop, ← hz, show z + (j - z) = j by omega]
   obtain ⟨x, hx⟩ : ∃ x, (sideC cs d 1)[j - z]? = some x := ⟨_, List.getElem?_eq_getElem (by omega)⟩
   rw [List.getElem?_map, hm, hx]
   have := of_decide_eq_true (List.mem_filter.1 (List.mem_of_getElem? hx)).2
   exact decide_eq_true this
  ·obtain ⟨k, hk⟩ : ∃ k, (cs.map Chg.k)[j]? = some k := ⟨_, List.getElem?_eq_getElem (by rw [List.length_map]; omega)⟩
   have hlm : (cs.map Chg.k).length = N := by rw [List.length_map, hN]
   have := split1_c w.heap.size (w.heap.size + 1) A c (cs.map Chg.k) d j k Y ((hA.below hbX).below hY) hk hd (by rw [hY.cell (p := ⟨w.heap.size, 0, none⟩) (lt_of_cell h1), h1, hlm]) (by rw [hY.cell (p := ⟨w.heap.size + 1, 0, none⟩) (lt_of_cell h2), h2])
   rw [hk]
   exact this
 have HX := Lib.hid hX
 have HBX := Lib.hid hbX
 rw [← hN, ← hz]
 clear s1 s2 hsl hN hz hX hbX h1 h2 hA hn hs he
 go_enter Tryz.func160, Tryz.ntmps160
 go_wp2_with fail
 rw [← HX.out]
 refine HSR.out.mono ?_
 rintro _ w1 ⟨rfl, hB1⟩
 have HB1 := Lib.hid (HBX.out.trans (hB1.mono HBX.out.size))
 clear hB1
 go_wp2_with fail
 go_ret
 exact ⟨rfl, HB1.out⟩
end
section
open Go.RowKit
def cutW (s : Nat) (A : Option Addr) (m l : Nat) : Option Addr := if m = l then A else A.map (·.add (l * s))
theorem elemKw : Tryz.prog.elem 157 = 40 := by kernel_rfl
theorem slKw : Tryz.prog.underlying 157 = some (.slice (Tryz.prog.elem 157)) := by rw [elemKw]; exact Tryz.underlying157
theorem sizeKw (w : World) : (sizeOf 40).run Tryz.prog w = .ok 32 w := by
 obtain ⟨i, hi, hs⟩ := Option.map_eq_some_iff.1 (show (Tryz.prog.info? 40).map (·.size) = some 32 by kernel_rfl)
 simp [sizeOf, typeInfo, hi, hs]
theorem cutKw_lhm (A : Option Addr) (len c l n : Nat) (h1 : l ≤ n) (h2 : n ≤ c) (w : World) :
  (Instr.sliceAt 157 (.slice A len c) (some (.int .i64 (l : Int))) (some (.int .i64 (n : Int))) (some (.int .i64 (n : Int)))).run Tryz.prog w = .ok (.slice (cutW 32 A n l) (n - l) (n - l)) w := by
 rw [run_sliceAt_slice w 157 _ _ _ _ slKw, run_slice_lhm w 157 A len c slKw .i64 .i64 .i64 (l : Int) (n : Int) (n : Int) (by omega) (by omega) (by omega) (by omega), elemKw, sizeKw]
 simp [sliced, cutW]
theorem cutKw_hm (A : Option Addr) (len c n : Nat) (h2 : n ≤ c) (w : World) :
  (Instr.sliceAt 157 (.slice A len c) none (some (.int .i64 (n : Int))) (some (.int .i64 (n : Int)))).run Tryz.prog w = .ok (.slice (cutW 32 A n 0) n n) w := by
 rw [run_sliceAt_slice w 157 _ _ _ _ slKw, run_slice_hm w 157 A len c slKw .i64 .i64 (n : Int) (n : Int) (by omega) (by omega) (by omega), elemKw, sizeKw]
 simp [sliced, cutW]
theorem elemCw : Tryz.prog.elem 115 = 164 := by kernel_rfl
theorem slCw : Tryz.prog.underlying 115 = some (.slice (Tryz.prog.elem 115)) := by rw [elemCw]; exact Tryz.underlying115
theorem sizeCw (w : World) : (sizeOf 164).run Tryz.prog w = .ok 34 w := by
 obtain ⟨i, hi, hs⟩ := Option.map_eq_some_iff.1 (show (Tryz.prog.info? 164).map (·.size) = some 34 by kernel_rfl)
 simp [sizeOf, typeInfo, hi, hs]
theorem cutCw_lhm (A : Option Addr) (len c l n : Nat) (h1 : l ≤ n) (h2 : n ≤ c) (w : World) :
  (Instr.sliceAt 115 (.slice A len c) (some (.int .i64 (l : Int))) (some (.int .i64 (n : Int))) (some (.int .i64 (n : Int)))).run Tryz.prog w = .ok (.slice (cutW 34 A n l) (n - l) (n - l)) w := by
 rw [run_sliceAt_slice w 115 _ _ _ _ slCw, run_slice_lhm w 115 A len c slCw .i64 .i64 .i64 (l : Int) (n : Int) (n : Int) (by omega) (by omega) (by omega) (by omega), elemCw, sizeCw]
 simp [sliced, cutW]
theorem cutCw_hm (A : Option Addr) (len c n : Nat) (h2 : n ≤ c) (w : World) :
  (Instr.sliceAt 115 (.slice A len c) none (some (.int .i64 (n : Int))) (some (.int .i64 (n : Int)))).run Tryz.prog w = .ok (.slice (cutW 34 A n 0) n n) w := by
 rw [run_sliceAt_slice w 115 _ _ _ _ slCw, run_slice_hm w 115 A len c slCw .i64 .i64 (n : Int) (n : Int) (by omega) (by omega) (by omega), elemCw, sizeCw]
 simp [sliced, cutW]
theorem KS.cutD {w : World} {A : Option Addr} {ks : List (List UInt8)} (h : KS w A ks) (l : Nat) : KS w (cutW 32 A ks.length l) (ks.drop l) := fun i k hi => by
 rw [List.getElem?_drop] at hi
 have hlt := (List.getElem?_eq_some_iff.1 hi).1
 obtain ⟨h1, g, o, rfl, h2⟩ := h _ _ hi
 unfold cutW
 rw [if_neg (by omega)]
 exact ⟨h1, g, o + l * 32, by rw [Option.map_some, add_none], by rw [show o + l * 32 + i * 32 = o + (l + i) * 32 by omega]; exact h2⟩
theorem KS.cutT {w : World} {A : Option Addr} {ks : List (List UInt8)} (h : KS w A ks) (n : Nat) : KS w (cutW 32 A n 0) (ks.take n) := fun i k hi => by
 rw [List.getElem?_take] at hi
 split at hi
 ·obtain ⟨h1, g, o, rfl, h2⟩ := h _ _ hi
  unfold cutW
  rw [if_neg (by omega)]
  exact ⟨h1, g, o, by rw [Option.map_some, add_none]; simp, h2⟩
 ·cases hi
theorem CA.cutD {w : World} {A : Option Addr} {xs : List Cn} (h : CA w A xs) (l : Nat) : CA w (cutW 34 A xs.length l) (xs.drop l) := fun i k hi => by
 rw [List.getElem?_drop] at hi
 have hlt := (List.getElem?_eq_some_iff.1 hi).1
 obtain ⟨h1, g, o, rfl, h2⟩ := h _ _ hi
 unfold cutW
 rw [if_neg (by omega)]
 exact ⟨h1, g, o + l * 34, by rw [Option.map_some, add_none], by rw [show o + l * 34 + i * 34 = o + (l + i) * 34 by omega]; exact h2⟩
theorem CA.cutT {w : World} {A : Option Addr} {xs : List Cn} (h : CA w A xs) (n : Nat) : CA w (cutW 34 A n 0) (xs.take n) := fun i k hi => by
 rw [List.getElem?_take] at hi
 split at hi
 ·obtain ⟨h1, g, o, rfl, h2⟩ := h _ _ hi
  unfold cutW
  rw [if_neg (by omega)]
  exact ⟨h1, g, o, by rw [Option.map_some, add_none]; simp, h2⟩
 ·cases hi
theorem results_two12 {fn : Func} {p q : Tmp} {ty : TypeId} (h : fn.results = #[.cell p ty, .cell q ty]) (tmps : Array Value) (w : World) (g k : Nat) (cs ds : Array Value)
  (hp : tmps.getD p undef = .pointer (some ⟨g, 0, none⟩)) (hq : tmps.getD q undef = .pointer (some ⟨k, 0, none⟩))
  (hl : (loadVar ty ⟨g, 0, none⟩).run Tryz.prog w = .ok (.agg cs) w) (hm : (loadVar ty ⟨k, 0, none⟩).run Tryz.prog w = .ok (.agg ds) w) :
  (results fn tmps).run Tryz.prog w = .ok (.tuple #[.agg cs, .agg ds]) w := by
 have hp' : tmps[p]?.getD undef = .pointer (some ⟨g, 0, none⟩) := by simpa using hp
 have hq' : tmps[q]?.getD undef = .pointer (some ⟨k, 0, none⟩) := by simpa using hq
 simp [results, h, hp', hq', asAddr, hl, hm]
theorem divide_c (A B : Option Addr) (cA cB : Nat) (cs : List Chg) (d : Nat) (w : World) (hA : KS w A (cs.map Chg.k)) (hcA : cs.length ≤ cA) (hcB : cs.length ≤ cB) (hd : d < 256) (hn : cs.length ≤ 1000) (hs : AscS (cs.map Chg.k)) (he : ∀ c ∈ cs, ∀ x ∈ cs, ∀ i : Nat, i < d → Bt.bit (keyF x.k) i = Bt.bit (keyF c.k) i) (N z : Nat) (hN : cs.length = N) (hz : (sideC cs d 0).length = z) :
  Calls Tryz.prog 126 #[.agg (srtC (.slice A N cA) (.slice B N cB)), .int .i64 (d : Int)] w fun e w' =>
   e = .returned (.tuple #[.agg (srtC (.slice (cutW 32 A z 0) z z) (.slice (cutW 34 B z 0) z z)), .agg (srtC (.slice (cutW 32 A N z) (N - z) (N - z)) (.slice (cutW 34 B N z) (N - z) (N - z)))]) ∧ Below w.heap.size w w' := by
 have hsl := side_len cs d hd
 obtain ⟨X, hX⟩ : ∃ X, X = ((w.alloc (.cells (srtC (.slice A N cA) (.slice B N cB)) 159)).alloc (.cells (srtC (.slice none 0 0) (.slice none 0 0)) 159)).alloc (.cells (srtC (.slice none 0 0) (.slice none 0 0)) 159) := ⟨_, rfl⟩
 have hbX : Below w.heap.size w X := by rw [hX]; exact (((Below.refl _ _).alloc (Nat.le_refl _) _).alloc (by simp) _).alloc (by simp; omega) _
 have hx0 : X.heap[w.heap.size]? = some (.cells (srtC (.slice A N cA) (.slice B N cB)) 159 (0, 0)) := by
  rw [hX, Below.heap_alloc _ _ _ (by simp; omega)]; exact heap_alloc2_old w _ _
 have hx1 : X.heap[w.heap.size + 1]? = some (.cells (srtC (.slice none 0 0) (.slice none 0 0)) 159 (0, 0)) := by
  have := heap_alloc2_old (w.alloc (.cells (srtC (.slice A N cA) (.slice B N cB)) 159)) (.cells (srtC (.slice none 0 0) (.slice none 0 0)) 159) (.cells (srtC (.slice none 0 0) (.slice none 0 0)) 159)
  rw [hX]
  rwa [show (w.alloc (.cells (srtC (.slice A N cA) (.slice B N cB)) 159)).heap.size = w.heap.size + 1 by simp] at this
 have hx2 : X.heap[w.heap.size + 2]? = some (.cells (srtC (.slice none 0 0) (.slice none 0 0)) 159 (0, 0)) := by
  have := heap_alloc2_new (w.alloc (.cells (srtC (.slice A N cA) (.slice B N cB)) 159)) (.cells (srtC (.slice none 0 0) (.slice none 0 0)) 159) (.cells (srtC (.slice none 0 0) (.slice none 0 0)) 159)
  rw [hX]
  rwa [show (w.alloc (.cells (srtC (.slice A N cA) (.slice B N cB)) 159)).heap.size = w.heap.size + 1 by simp] at this
 have zs := zeroSo
 have HSP : Hid (∀ q : Later X, Calls Tryz.prog 160 #[.slice A N cA, .int .i64 (d : Int)] q.w fun e w' => e = .returned (.int .i64 (z : Int)) ∧ Below q.w.heap.size q.w w') := fun q => by
  have := split_c A cA cs d q.w ((hA.below hbX).below q.h) hd hn hs he
  rw [hN, hz] at this
  exact this
 have lc : ∀ q : Later X, q.w.cell? ⟨w.heap.size, 0, none⟩ = some (.slice A N cA) := fun q => cellSo0 ((q.h.block _ (lt_of_heap hx0)).trans hx0)
 have HX := Lib.hid hX
 have HX0 := Lib.hid hx0
 have HX1 := Lib.hid hx1
 have HX2 := Lib.hid hx2
 have HBX := Lib.hid hbX
 have HNZ : Hid (z ≤ N ∧ N ≤ cA ∧ N ≤ cB ∧ N ≤ 1000) := ⟨by omega, by omega, by omega, by omega⟩
 clear hA hcA hcB hd hn hs he hN hz hsl hX hbX hx0 hx1 hx2
 obtain ⟨KZ, hKZ⟩ : ∃ v, v = Value.slice (cutW 32 A z 0) z z := ⟨_, rfl⟩
 obtain ⟨CZ, hCZ⟩ : ∃ v, v = Value.slice (cutW 34 B z 0) z z := ⟨_, rfl⟩
 obtain ⟨KO, hKO⟩ : ∃ v, v = Value.slice (cutW 32 A N z) (N - z) (N - z) := ⟨_, rfl⟩
 obtain ⟨CO, hCO⟩ : ∃ v, v = Value.slice (cutW 34 B N z) (N - z) (N - z) := ⟨_, rfl⟩
 obtain ⟨g1, g2, g3, g4⟩ := HNZ.out
 have F1 : Hid (∀ v, (Instr.sliceAt 157 (.slice A N cA) none (some (.int .i64 (z : Int))) (some (.int .i64 (z : Int)))).run Tryz.prog v = .ok KZ v) := fun v => by rw [hKZ]; exact cutKw_hm A N cA z (by omega) v
 have F2 : Hid (∀ v, (Instr.sliceAt 115 (.slice B N cB) none (some (.int .i64 (z : Int))) (some (.int .i64 (z : Int)))).run Tryz.prog v = .ok CZ v) := fun v => by rw [hCZ]; exact cutCw_hm B N cB z (by omega) v
 have F3 : Hid (∀ v, (Instr.sliceAt 157 (.slice A N cA) (some (.int .i64 (z : Int))) (some (.int .i64 (N : Int))) (some (.int .i64 (N : Int)))).run Tryz.prog v = .ok KO v) := fun v => by rw [hKO]; exact cutKw_lhm A N cA z N (by omega) (by omega) v
 have F4 : Hid (∀ v, (Instr.sliceAt 115 (.slice B N cB) (some (.int .i64 (z : Int))) (some (.int .i64 (N : Int))) (some (.int .i64 (N : Int)))).run Tryz.prog v = .ok CO v) := fun v => by rw [hCO]; exact cutCw_lhm B N cB z N (by omega) (by omega) v
 have F5 : Hid (∀ v, bldA 159 v #[(0, KZ), (1, CZ)] = .ok (.value (.agg (srtC KZ CZ))) v) := fun v => by rw [hKZ, hCZ]; exact bldSo _ _ _ _ _ _ v
 have F6 : Hid (∀ v, bldA 159 v #[(0, KO), (1, CO)] = .ok (.value (.agg (srtC KO CO))) v) := fun v => by rw [hKO, hCO]; exact bldSo _ _ _ _ _ _ v
 have HON1 : Hid ((srtC KZ CZ).all (·.oneCell') = true) := by show _ = true; rw [hKZ, hCZ]; exact srt_one _ _ _ _ _ _
 have HON2 : Hid ((srtC KO CO).all (·.oneCell') = true) := by show _ = true; rw [hKO, hCO]; exact srt_one _ _ _ _ _ _
 rw [← hKZ, ← hCZ, ← hKO, ← hCO]
 clear hKZ hCZ hKO hCO g1 g2 g3 g4
 go_enter Tryz.func126, Tryz.ntmps126
 go_wp2_with fail
 rw [← HX.out]
 refine wp_region_later (by kernel_rfl) (by kernel_rfl) ?_
 repeat (go_big_quiet_step ((go_at_call 160; exact Later.call (HSP.out _))))
 refine wpQuiet_nil ?_
 rintro _ ⟨x, rfl⟩
 obtain ⟨Y, hY⟩ : ∃ Y, Y = x.w := ⟨_, rfl⟩
 have hxh := x.h
 rw [← hY] at hxh ⊢
 have hy0 : Y.heap[w.heap.size]? = some (.cells (srtC (.slice A N cA) (.slice B N cB)) 159 (0, 0)) := (hxh.block _ (lt_of_heap HX0.out)).trans HX0.out
 have HZ1 : Hid (Y.drew.heap[w.heap.size + 1]? = some (.cells (srtC (.slice none 0 0) (.slice none 0 0)) 159 (0, 0))) := (hxh.block _ (lt_of_heap HX1.out)).trans HX1.out
 have HZ2 : Hid (Y.drew.heap[w.heap.size + 2]? = some (.cells (srtC (.slice none 0 0) (.slice none 0 0)) 159 (0, 0))) := (hxh.block _ (lt_of_heap HX2.out)).trans HX2.out
 have LS : Hid (∀ v, Keep (fun i => i = w.heap.size + 1 ∨ i = w.heap.size + 2) Y v → v.cell? ⟨w.heap.size, 0, none⟩ = some (.slice A N cA) ∧ v.cell? ⟨w.heap.size, 1, none⟩ = some (.slice B N cB)) := fun v hv => by
  have h1 := hv.heap hy0 (by omega)
  exact ⟨cellSo0 h1, cellSo1 h1⟩
 have HBf : Hid (∀ v, Keep (fun i => i = w.heap.size + 1 ∨ i = w.heap.size + 2) Y v → Below w.heap.size w v) := fun v hv => (HBX.out.trans (hxh.mono HBX.out.size)).trans (hv.below (Nat.le_trans HBX.out.size hxh.size) fun i hi => by omega)
 clear lc hxh hy0 hY HSP
 go_wp2_with fail
 refine wp_region_held_drew (S := fun w' => Keep (fun i => i = w.heap.size + 1 ∨ i = w.heap.size + 2) Y w') (by kernel_rfl) ((Keep.refl _ _).drew) (fun hHeld => ?_)
 have hb0 : Keep (fun i => i = w.heap.size + 1 ∨ i = w.heap.size + 2) Y Y.drew := (Keep.refl _ _).drew
 refine x_t (i := 0) (oi := { dst := some 15, op := .fieldAddr _ (.tmp 2) 0, .. }) (v := ?_) rfl (Or.inl ⟨by rfl, ?_⟩) ?_
 rotate_left 1
 ·intro v hSv
  clear hSv
  go_simp
  try with_reducible rfl
 try simp only [Act.put, x_A, x_0, x_1]
 refine x_t (i := 1) (oi := { dst := some 16, op := .load _ (.tmp 15), .. }) (v := ?_) rfl (Or.inl ⟨by rfl, ?_⟩) ?_
 rotate_left 1
 ·intro v hSv
  have hv1 := LS.out v hSv |>.1
  clear hSv
  go_simp
  try with_reducible rfl
 try simp only [Act.put, x_A, x_0, x_1]
 refine x_t (i := 2) (oi := { dst := some 17, op := .move (.tmp 6), .. }) (v := ?_) rfl (Or.inl ⟨by rfl, ?_⟩) ?_
 rotate_left 1
 ·intro v hSv
  clear hSv
  go_simp
  try with_reducible rfl
 try simp only [Act.put, x_A, x_0, x_1]
 refine x_t (i := 3) (oi := { dst := some 18, op := .move (.tmp 6), .. }) (v := ?_) rfl (Or.inl ⟨by rfl, ?_⟩) ?_
 rotate_left 1
 ·intro v hSv
  clear hSv
  go_simp
  try with_reducible rfl
 try simp only [Act.put, x_A, x_0, x_1]
 refine x_t (i := 4) (oi := { dst := some 19, op := .slice _ (.tmp 16) none (some (.tmp 17)) (some (.tmp 18)), .. }) (v := ?_) rfl (Or.inl ⟨by rfl, ?_⟩) ?_
 rotate_left 1
 ·intro v hSv
  have hv1 := F1.out v
  clear hSv
  go_simp
  try with_reducible rfl
 try simp only [Act.put, x_A, x_0, x_1]
 refine x_t (i := 5) (oi := { dst := some 20, op := .fieldAddr _ (.tmp 2) 1, .. }) (v := ?_) rfl (Or.inl ⟨by rfl, ?_⟩) ?_
 rotate_left 1
 ·intro v hSv
  clear hSv
  go_simp
  try with_reducible rfl
 try simp only [Act.put, x_A, x_0, x_1]
 refine x_t (i := 6) (oi := { dst := some 21, op := .load _ (.tmp 20), .. }) (v := ?_) rfl (Or.inl ⟨by rfl, ?_⟩) ?_
 rotate_left 1
 ·intro v hSv
  have hv1 := LS.out v hSv |>.2
  clear hSv
  go_simp
  try with_reducible rfl
 try simp only [Act.put, x_A, x_0, x_1]
 refine x_t (i := 7) (oi := { dst := some 22, op := .move (.tmp 6), .. }) (v := ?_) rfl (Or.inl ⟨by rfl, ?_⟩) ?_
 rotate_left 1
 ·intro v hSv
  clear hSv
  go_simp
  try with_reducible rfl
 try simp only [Act.put, x_A, x_0, x_1]
 refine x_t (i := 8) (oi := { dst := some 23, op := .move (.tmp 6), .. }) (v := ?_) rfl (Or.inl ⟨by rfl, ?_⟩) ?_
 rotate_left 1
 ·intro v hSv
  clear hSv
  go_simp
  try with_reducible rfl
 try simp only [Act.put, x_A, x_0, x_1]
 refine x_t (i := 9) (oi := { dst := some 24, op := .slice _ (.tmp 21) none (some (.tmp 22)) (some (.tmp 23)), .. }) (v := ?_) rfl (Or.inl ⟨by rfl, ?_⟩) ?_
 rotate_left 1
 ·intro v hSv
  have hv1 := F2.out v
  clear hSv
  go_simp
  try with_reducible rfl
 try simp only [Act.put, x_A, x_0, x_1]
 refine x_t (i := 10) (oi := { dst := some 25, op := .build _ #[(0, .tmp 19), (1, .tmp 24)], .. }) (v := ?_) rfl (Or.inl ⟨by rfl, ?_⟩) ?_
 rotate_left 1
 ·intro v hSv
  have hv1 := F5.out v
  clear hSv
  go_simp
  try with_reducible rfl
 try simp only [Act.put, x_A, x_0, x_1]
 refine x_t (i := 11) (oi := { dst := some 26, op := .fieldAddr _ (.tmp 2) 0, .. }) (v := ?_) rfl (Or.inl ⟨by rfl, ?_⟩) ?_
 rotate_left 1
 ·intro v hSv
  clear hSv
  go_simp
  try with_reducible rfl
 try simp only [Act.put, x_A, x_0, x_1]
 refine x_t (i := 12) (oi := { dst := some 27, op := .load _ (.tmp 26), .. }) (v := ?_) rfl (Or.inl ⟨by rfl, ?_⟩) ?_
 rotate_left 1
 ·intro v hSv
  have hv1 := LS.out v hSv |>.1
  clear hSv
  go_simp
  try with_reducible rfl
 try simp only [Act.put, x_A, x_0, x_1]
 refine x_t (i := 13) (oi := { dst := some 28, op := .move (.tmp 6), .. }) (v := ?_) rfl (Or.inl ⟨by rfl, ?_⟩) ?_
 rotate_left 1
 ·intro v hSv
  clear hSv
  go_simp
  try with_reducible rfl
 try simp only [Act.put, x_A, x_0, x_1]
 refine x_t (i := 14) (oi := { dst := some 29, op := .move (.tmp 7), .. }) (v := ?_) rfl (Or.inl ⟨by rfl, ?_⟩) ?_
 rotate_left 1
 ·intro v hSv
  clear hSv
  go_simp
  try with_reducible rfl
 try simp only [Act.put, x_A, x_0, x_1]
 refine x_t (i := 15) (oi := { dst := some 30, op := .move (.tmp 7), .. }) (v := ?_) rfl (Or.inl ⟨by rfl, ?_⟩) ?_
 rotate_left 1
 ·intro v hSv
  clear hSv
  go_simp
  try with_reducible rfl
 try simp only [Act.put, x_A, x_0, x_1]
 refine x_t (i := 16) (oi := { dst := some 31, op := .slice _ (.tmp 27) (some (.tmp 28)) (some (.tmp 29)) (some (.tmp 30)), .. }) (v := ?_) rfl (Or.inl ⟨by rfl, ?_⟩) ?_
 rotate_left 1
 ·intro v hSv
  have hv1 := F3.out v
  clear hSv
  go_simp
  try with_reducible rfl
 try simp only [Act.put, x_A, x_0, x_1]
 refine x_t (i := 17) (oi := { dst := some 32, op := .fieldAddr _ (.tmp 2) 1, .. }) (v := ?_) rfl (Or.inl ⟨by rfl, ?_⟩) ?_
 rotate_left 1
 ·intro v hSv
  clear hSv
  go_simp
  try with_reducible rfl
 try simp only [Act.put, x_A, x_0, x_1]
 refine x_t (i := 18) (oi := { dst := some 33, op := .load _ (.tmp 32), .. }) (v := ?_) rfl (Or.inl ⟨by rfl, ?_⟩) ?_
 rotate_left 1
 ·intro v hSv
  have hv1 := LS.out v hSv |>.2
  clear hSv
  go_simp
  try with_reducible rfl
 try simp only [Act.put, x_A, x_0, x_1]
 refine x_t (i := 19) (oi := { dst := some 34, op := .move (.tmp 6), .. }) (v := ?_) rfl (Or.inl ⟨by rfl, ?_⟩) ?_
 rotate_left 1
 ·intro v hSv
  clear hSv
  go_simp
  try with_reducible rfl
 try simp only [Act.put, x_A, x_0, x_1]
 refine x_t (i := 20) (oi := { dst := some 35, op := .move (.tmp 7), .. }) (v := ?_) rfl (Or.inl ⟨by rfl, ?_⟩) ?_
 rotate_left 1
 ·intro v hSv
  clear hSv
  go_simp
  try with_reducible rfl
 try simp only [Act.put, x_A, x_0, x_1]
 refine x_t (i := 21) (oi := { dst := some 36, op := .move (.tmp 7), .. }) (v := ?_) rfl (Or.inl ⟨by rfl, ?_⟩) ?_
 rotate_left 1
 ·intro v hSv
  clear hSv
  go_simp
  try with_reducible rfl
 try simp only [Act.put, x_A, x_0, x_1]
 refine x_t (i := 22) (oi := { dst := some 37, op := .slice _ (.tmp 33) (some (.tmp 34)) (some (.tmp 35)) (some (.tmp 36)), .. }) (v := ?_) rfl (Or.inl ⟨by rfl, ?_⟩) ?_
 rotate_left 1
 ·intro v hSv
  have hv1 := F4.out v
  clear hSv
  go_simp
  try with_reducible rfl
 try simp only [Act.put, x_A, x_0, x_1]
 refine x_t (i := 23) (oi := { dst := some 38, op := .build _ #[(0, .tmp 31), (1, .tmp 37)], .. }) (v := ?_) rfl (Or.inl ⟨by rfl, ?_⟩) ?_
 rotate_left 1
 ·intro v hSv
  have hv1 := F6.out v
  clear hSv
  go_simp
  try with_reducible rfl
 try simp only [Act.put, x_A, x_0, x_1]
 refine wpAnyH_ready (rs := [24]) (by kernel_rfl) (by simp) ?_
 refine AllReadyH.cons (o := { dst := none, op := .store _ (.tmp 4) (.tmp 25), .. }) rfl (fun K hK => ?_) AllReadyH.nil
 have HZr1 := HZ1
 have st1 : stA 159 Y.drew (.pointer (some ⟨w.heap.size + 1, 0, none⟩)) (.agg (srtC KZ CZ)) = .ok .skip (Y.drew.setRow (w.heap.size + 1) (srtC KZ CZ)) := stA_row HZr1.out (by exact infoSo) rfl HON1.out
 have HM1 := Lib.hid (setRow_heap Y.drew (w.heap.size + 1) _ (srtC KZ CZ) _ _ HZr1.out)
 go_simp
 refine hK.out _ _ ((hb0).trans ((Keep.row Y.drew (w.heap.size + 1) _).mono fun _ h => .inl h)) (fun hHeld => ?_)
 clear hK K
 try simp only [Act.put, x_A, x_0, x_1]
 refine wpAnyH_ready (rs := [25]) (by kernel_rfl) (by simp) ?_
 refine AllReadyH.cons (o := { dst := none, op := .store _ (.tmp 5) (.tmp 38), .. }) rfl (fun K hK => ?_) AllReadyH.nil
 have HZr2 := Lib.hid ((Keep.row Y.drew (w.heap.size + 1) (srtC KZ CZ)).heap HZ2.out (by omega))
 have st2 : stA 159 (Y.drew.setRow (w.heap.size + 1) (srtC KZ CZ)) (.pointer (some ⟨w.heap.size + 2, 0, none⟩)) (.agg (srtC KO CO)) = .ok .skip ((Y.drew.setRow (w.heap.size + 1) (srtC KZ CZ)).setRow (w.heap.size + 2) (srtC KO CO)) := stA_row HZr2.out (by exact infoSo) rfl HON2.out
 have HM2 := Lib.hid (setRow_heap (Y.drew.setRow (w.heap.size + 1) (srtC KZ CZ)) (w.heap.size + 2) _ (srtC KO CO) _ _ HZr2.out)
 go_simp
 refine hK.out _ _ (((hb0).trans ((Keep.row Y.drew (w.heap.size + 1) _).mono fun _ h => .inl h)).trans ((Keep.row (Y.drew.setRow (w.heap.size + 1) (srtC KZ CZ)) (w.heap.size + 2) _).mono fun _ h => .inr h)) (fun hHeld => ?_)
 clear hK K
 try simp only [Act.put, x_A, x_0, x_1]
 refine wpAnyH_done (by kernel_rfl) ?_ _
 go_wp2_with fail
 refine bodyPost_ret (v := .tuple #[.agg (srtC KZ CZ), .agg (srtC KO CO)]) ?_ rfl ⟨rfl, HBf.out _ (((hb0).trans ((Keep.row Y.drew (w.heap.size + 1) _).mono fun _ h => .inl h)).trans ((Keep.row (Y.drew.setRow (w.heap.size + 1) (srtC KZ CZ)) (w.heap.size + 2) _).mono fun _ h => .inr h))⟩
 have HM1 := Lib.hid ((Keep.row (Y.drew.setRow (w.heap.size + 1) (srtC KZ CZ)) (w.heap.size + 2) (srtC KO CO)).heap HM1.out (by omega))
 exact results_two12 Tryz.results126 _ _ (w.heap.size + 1) (w.heap.size + 2) _ _ rfl rfl (varSo HM1.out) (varSo HM2.out)
end
section
open Go.RowKit
theorem eql_ptr12 (p : Option Addr) (w : World) : (binOp .eql 62 (.pointer p) (.pointer p)).run Tryz.prog w = .ok (.bool true) w := by
 cases p with
 | none => kernel_rfl
 | some a =>
  obtain ⟨i, hi⟩ := Option.isSome_iff_exists.1 (show (Tryz.prog.info? 101).isSome = true by kernel_rfl)
  exact run_eql_ptr_same w a Tryz.underlying62 hi
theorem blk12 {w : World} {n : Int} {T : Tv} (h : Mn w n T) : T.val = .pointer none ∨ ∃ g cs, T.val = .pointer (some ⟨g, 0, none⟩) ∧ w.heap[g]? = some (.cells cs 101 (0, 0)) := by
 match T, h with
 | .nil, _ => exact .inl rfl
 | .leaf v e, ⟨g, A, c, hv, hg, _⟩ => exact .inr ⟨g, _, hv, hg⟩
 | .inner v a b, ⟨g, hv, hg, _⟩ => exact .inr ⟨g, _, hv, hg⟩
theorem eql_ns12 (a : Addr) (w : World) : (binOp .eql 62 (.pointer none) (.pointer (some a))).run Tryz.prog w = .ok (.bool false) w := by kernel_rfl
theorem eql_sn12 (a : Addr) (w : World) : (binOp .eql 62 (.pointer (some a)) (.pointer none)).run Tryz.prog w = .ok (.bool false) w := by kernel_rfl
theorem eql_nodes12 {w : World} {n : Int} {S T : Tv} {p q : Option Addr} (hS : Mn w n S) (hT : Mn w n T) (hp : S.val = .pointer p) (hq : T.val = .pointer q) (hne : p ≠ q) : (binOp .eql 62 (.pointer p) (.pointer q)).run Tryz.prog w = .ok (.bool false) w := by
 rcases blk12 hS with h | ⟨g, cs, h, hg⟩ <;> rcases blk12 hT with h' | ⟨g', cs', h', hg'⟩
 ·rw [h] at hp; rw [h'] at hq; cases hp; cases hq; exact absurd rfl hne
 ·rw [h] at hp; rw [h'] at hq; cases hp; cases hq; exact eql_ns12 _ w
 ·rw [h] at hp; rw [h'] at hq; cases hp; cases hq; exact eql_sn12 _ w
 ·rw [h] at hp; rw [h'] at hq; cases hp; cases hq
  obtain ⟨i, hi, hs⟩ := Option.map_eq_some_iff.1 (show (Tryz.prog.info? 101).map (·.size) = some 33 by kernel_rfl)
  exact run_eql_ptr_other w Tryz.underlying62 hi (by rw [hs]; decide) (fun e => hne (by rw [e])) hg hg'
def endK12 (k : List UInt8) : Tv → Bool
 | .nil => true
 | .leaf _ e => decide (e.k = k)
 | .inner _ _ _ => false
theorem isEnd_c {M : World → Int → Tv → Prop} (nd : NdV M) (w : World) (n : Int) (T : Tv) (k : List UInt8) (p : Option Addr) (hM : M w n T) (hp : T.val = .pointer p) (hk : k.length = 32) :
  Calls Tryz.prog 123 #[.pointer p, .agg (bA k)] w fun e w' => e = .returned (.bool (endK12 k T)) ∧ Below w.heap.size w w' := by
 obtain ⟨X, hX⟩ : ∃ X, X = w.alloc (.cells (bA k) 40) := ⟨_, rfl⟩
 have hbX : Below w.heap.size w X := by rw [hX]; exact (Below.refl _ _).alloc (Nat.le_refl _) _
 have hr0 : RowB X w.heap.size 40 k := by rw [hX]; exact RowB.alloc w k _
 have HKD : Hid (∀ q : Later X, Calls Tryz.prog 68 #[.pointer p] q.w fun e w'' => e = .returned (.int .i64 (kindT T.tr)) ∧ ∃ y : Later X, w'' = y.w) := fun q => by
  have := nd.kind q.w n T (nd.below hM (hbX.trans (q.h.mono hbX.size)))
  rw [hp] at this
  exact Later.call this
 have HX := Lib.hid hX
 have HBX := Lib.hid hbX
 match T, hM, hp with
 | .nil, hM, hp =>
  rw [show kindT Tv.nil.tr = 0 from rfl] at HKD
  rw [show endK12 k .nil = true from rfl]
  clear hX hbX hr0 hM hp hk
  go_enter Tryz.func123, Tryz.ntmps123
  go_wp2_with fail
  rw [← HX.out]
  refine wp_region_later (by kernel_rfl) (by kernel_rfl) ?_
  repeat (go_big_quiet_step ((go_at_call 68; exact HKD.out _)))
  refine wpQuiet_nil ?_
  rintro _ ⟨x, rfl⟩
  go_wp2_with fail
  go_ret
  exact ⟨rfl, HBX.out.trans (x.h.mono HBX.out.size)⟩
 | .inner v a b, hM, hp =>
  rw [show kindT (Tv.inner v a b).tr = 2 from rfl] at HKD
  rw [show endK12 k (.inner v a b) = false from rfl]
  clear hX hbX hr0 hM hp hk
  go_enter Tryz.func123, Tryz.ntmps123
  go_wp2_with fail
  rw [← HX.out]
  refine wp_region_later (by kernel_rfl) (by kernel_rfl) ?_
  repeat (go_big_quiet_step ((go_at_call 68; exact HKD.out _)))
  refine wpQuiet_nil ?_
  rintro _ ⟨x, rfl⟩
  go_wp2_with fail
  go_ret
  exact ⟨rfl, HBX.out.trans (x.h.mono HBX.out.size)⟩
 | .leaf v e, hM, hp =>
  obtain ⟨hek, _⟩ := nd.key hM
  have HLF : Hid (∀ q : Later X, Calls Tryz.prog 69 #[.pointer p] q.w fun y w'' => y = .returned (.agg (bA (e.k ++ digL n (valL e.v)))) ∧ ∃ z : Later X, w'' = z.w) := fun q => by
   have := nd.leafOf q.w n (.leaf v e) (nd.below hM (hbX.trans (q.h.mono hbX.size)))
   rw [hp] at this
   exact Later.call this
  have fk : ∀ w, (Instr.field 125 (.agg (bA (e.k ++ digL n (valL e.v)))) 0).run Tryz.prog w = .ok (.agg (bA e.k)) w := fun w => by
   rw [field_leafKey _ (by rw [List.length_append, hek, dig_len]) w, List.take_append_of_le_length (by omega), List.take_of_length_le (by omega)]
  rw [show kindT (Tv.leaf v e).tr = 1 from rfl] at HKD
  rw [show endK12 k (.leaf v e) = decide (e.k = k) from rfl]
  have lk : ∀ q : Later X, ldA 40 q.w (.pointer (some ⟨w.heap.size, 0, none⟩)) = .ok (.value (.agg (bA k))) q.w := fun q => RowB.ldKey (show RowB q.w _ _ _ from (q.h.block _ (lt_of_heap hr0)).trans hr0) hk
  have eq : ∀ x y w, eqA .eql 40 x y w (.agg (bA e.k)) (.agg (bA k)) = .ok (.value (.bool (decide (e.k = k)))) w := fun x y w => eqKey _ _ hek hk x y w
  obtain ⟨g, hg⟩ : ∃ g, g = e.k ++ digL n (valL e.v) := ⟨_, rfl⟩
  rw [← hg] at HLF fk
  obtain ⟨q, hq⟩ : ∃ q, q = decide (e.k = k) := ⟨_, rfl⟩
  rw [← hq] at eq ⊢
  clear hX hbX hr0 hM hp hk hg hek hq
  go_enter Tryz.func123, Tryz.ntmps123
  go_wp2_with fail
  rw [← HX.out]
  cases q with
  | true =>
   refine wp_region_later (by kernel_rfl) (by kernel_rfl) ?_
   repeat (go_big_quiet_step ((first
    | (go_at_call 68; exact HKD.out _)
    | (go_at_call 69; exact HLF.out _))))
   refine wpQuiet_nil ?_
   rintro _ ⟨x, rfl⟩
   clear lk eq fk
   go_wp2_with fail
   go_ret
   exact ⟨rfl, HBX.out.trans (x.h.mono HBX.out.size)⟩
  | false =>
   refine wp_region_later (by kernel_rfl) (by kernel_rfl) ?_
   repeat (go_big_quiet_step ((first
    | (go_at_call 68; exact HKD.out _)
    | (go_at_call 69; exact HLF.out _))))
   refine wpQuiet_nil ?_
   rintro _ ⟨x, rfl⟩
   clear lk eq fk
   go_wp2_with fail
   go_ret
   exact ⟨rfl, HBX.out.trans (x.h.mono HBX.out.size)⟩
def endT (u : Value) (x : Cn) : Tv := if x.d then .nil else .leaf u ⟨x.k, x.v⟩
theorem leafOf_c {M : World → Int → Tv → Prop} (nd : NdV M) (w : World) (b : Nat) (n : Int) (c : Nat) (T : Tv) (x : Cn) (hh : Hs w b n c) (hc : c ≤ 100000000) (hv : Vars w) (hx : CnOk w x) (hxv : x.v.length ≤ 70000) :
  Calls Tryz.prog 124 #[ptr b, .agg (cnC x).toArray] w fun e w' => ∃ u, e = .returned (endT u x).val ∧ Made M w b n T (endT u x) (c + 2) w' := by
 obtain ⟨X, hX⟩ : ∃ X, X = w.alloc (.cells (cnC x).toArray 164) := ⟨_, rfl⟩
 have hbX : Below w.heap.size w X := by rw [hX]; exact (Below.refl _ _).alloc (Nat.le_refl _) _
 have hr : X.rangeAt w.heap.size 0 (cnC x) := by rw [hX]; exact cn_made w x _
 have lk := range_ckey hr hx.key
 have lv := range_cval hr hx.key
 have ld := range_cdel hr hx.key
 rw [Nat.zero_add] at lv ld
 have HHX := Lib.hid (hh.keep (Keep.of_below (L := fun _ => False) hbX) fun h => h)
 have HNL := Lib.hid (nd.leaf X b n c ⟨x.k, x.A, x.v, x.c⟩ HHX.out hc (hv.below hbX) ⟨hx.key, hx.cap, hx.val.below hbX⟩ hxv)
 have HX := Lib.hid hX
 have HBX := Lib.hid hbX
 obtain ⟨dl, hdl⟩ : ∃ dl, dl = x.d := ⟨_, rfl⟩
 rw [← hdl] at ld
 rw [hX] at lk lv ld
 unfold ptr at HNL ⊢
 cases dl with
 | true =>
  have he : ∀ u, endT u x = .nil := fun u => by unfold endT; rw [← hdl]; rfl
  have HF : Hid (Made M w b n T .nil (c + 2) X) := ⟨nd.nil _ _, ⟨c, by omega, HHX.out⟩, Keep.of_below hbX, fun _ _ _ => nd.nil _ _⟩
  have HE := Lib.hid he
  clear hX hbX hr hh hc hv hx hxv hdl he HNL
  go_enter Tryz.func124, Tryz.ntmps124
  go_wp2_with fail
  go_ret
  refine ⟨.pointer none, by rw [HE.out]; rfl, ?_⟩
  rw [HE.out, ← HX.out]
  exact HF.out
 | false =>
  have he : ∀ u, endT u x = .leaf u ⟨x.k, x.v⟩ := fun u => by unfold endT; rw [← hdl]; rfl
  have HE := Lib.hid he
  obtain ⟨xx, hxx⟩ : ∃ xx : En, xx = ⟨x.k, x.A, x.v, x.c⟩ := ⟨_, rfl⟩
  rw [← hxx] at HNL
  have bl : ∀ w, bldA 42 w #[(0, .agg (bA x.k)), (1, .slice x.A x.v.length x.c)] = .ok (.value (.agg (enC xx).toArray)) w := fun w => by rw [hxx]; exact bldEntry ⟨x.k, x.A, x.v, x.c⟩ hx.key w
  have HXX : Hid (xx.ent = ⟨x.k, x.v⟩) := by rw [hxx]; rfl
  clear hX hbX hr hh hc hv hx hxv hdl he hxx
  go_enter Tryz.func124, Tryz.ntmps124
  go_wp2_with fail
  rw [← HX.out]
  refine HNL.out.mono ?_
  rintro _ w4 ⟨u, c4, rfl, hm, hc4, hh4, hk4, ha4⟩
  obtain ⟨p, hp⟩ : ∃ p, u = .pointer p := val_ptr nd hm
  subst hp
  have HF : Hid (Made M w b n T (endT (.pointer p) x) (c + 2) w4) := by
   show Made _ _ _ _ _ _ _ _
   rw [HE.out, ← HXX.out]
   exact ⟨hm, ⟨c4, hc4, hh4⟩, (Keep.of_below HBX.out).trans hk4, fun w2 h2 _ => ha4 w2 (h2.mono fun i hi => by have := HBX.out.size; omega)⟩
  clear hm hc4 hh4 hk4 ha4 HNL lk lv ld bl HX
  go_wp2_with fail
  go_ret
  exact ⟨.pointer p, by rw [HE.out]; rfl, HF.out⟩
theorem sides_c {M : World → Int → Tv → Prop} (nd : NdV M) (w : World) (n : Int) (T : Tv) (d : Nat) (p : Option Addr) (hM : M w n T) (hp : T.val = .pointer p) (hd : d < 256) :
  Calls Tryz.prog 125 #[.pointer p, .int .i64 (d : Int)] w fun e w' => e = .returned (.tuple #[(T.sideL d).val, (T.sideR d).val]) ∧ Below w.heap.size w w' := by
 have HKD := Lib.hid (nd.kind w n T hM)
 rw [hp] at HKD
 match T, hM, hp with
 | .nil, hM, hp =>
  rw [show kindT Tv.nil.tr = 0 from rfl] at HKD
  have HL : Hid (∀ q, Calls Tryz.prog 109 #[.pointer p] q fun e w' => e = .returned (.pointer none) ∧ Below q.heap.size q w') := fun q => by rw [← hp]; exact nd.left q n .nil (nd.nil _ _)
  have HR : Hid (∀ q, Calls Tryz.prog 110 #[.pointer p] q fun e w' => e = .returned (.pointer none) ∧ Below q.heap.size q w') := fun q => by rw [← hp]; exact nd.right q n .nil (nd.nil _ _)
  clear hM hp hd
  go_enter Tryz.func125, Tryz.ntmps125
  go_wp2_with fail
  refine HKD.out.mono ?_
  rintro _ w1 ⟨rfl, hB⟩
  have HB1 := Lib.hid hB
  clear hB HKD
  go_wp2_with fail
  refine (HL.out w1).mono ?_
  rintro _ w2 ⟨rfl, hB⟩
  have HB2 := Lib.hid (HB1.out.trans (hB.mono HB1.out.size))
  clear hB
  go_wp2_with fail
  refine (HR.out w2).mono ?_
  rintro _ w3 ⟨rfl, hB⟩
  have HB3 := Lib.hid (HB2.out.trans (hB.mono HB2.out.size))
  clear hB
  go_wp2_with fail
  go_ret2
  exact ⟨rfl, HB3.out⟩
 | .inner v a b, hM, hp =>
  rw [show kindT (Tv.inner v a b).tr = 2 from rfl] at HKD
  have HL : Hid (∀ q, Below w.heap.size w q → Calls Tryz.prog 109 #[.pointer p] q fun e w' => e = .returned a.val ∧ Below q.heap.size q w') := fun q hq => by rw [← hp]; exact nd.left q n (.inner v a b) (nd.below hM hq)
  have HR : Hid (∀ q, Below w.heap.size w q → Calls Tryz.prog 110 #[.pointer p] q fun e w' => e = .returned b.val ∧ Below q.heap.size q w') := fun q hq => by rw [← hp]; exact nd.right q n (.inner v a b) (nd.below hM hq)
  obtain ⟨pa, hpa⟩ := val_ptr nd (nd.kids hM).1
  obtain ⟨pb, hpb⟩ := val_ptr nd (nd.kids hM).2
  rw [show (Tv.inner v a b).sideL d = a from rfl, show (Tv.inner v a b).sideR d = b from rfl, hpa, hpb]
  rw [hpa] at HL
  rw [hpb] at HR
  clear hM hp hd hpa hpb
  go_enter Tryz.func125, Tryz.ntmps125
  go_wp2_with fail
  refine HKD.out.mono ?_
  rintro _ w1 ⟨rfl, hB⟩
  have HB1 := Lib.hid hB
  clear hB HKD
  go_wp2_with fail
  refine (HL.out w1 HB1.out).mono ?_
  rintro _ w2 ⟨rfl, hB⟩
  have HB2 := Lib.hid (HB1.out.trans (hB.mono HB1.out.size))
  clear hB
  go_wp2_with fail
  refine (HR.out w2 HB2.out).mono ?_
  rintro _ w3 ⟨rfl, hB⟩
  have HB3 := Lib.hid (HB2.out.trans (hB.mono HB2.out.size))
  clear hB
  go_wp2_with fail
  go_ret2
  exact ⟨rfl, HB3.out⟩
 | .leaf v e, hM, hp =>
  obtain ⟨hek, _⟩ := nd.key hM
  have HLF : Hid (∀ q, Below w.heap.size w q → Calls Tryz.prog 69 #[.pointer p] q fun y w' => y = .returned (.agg (bA (e.k ++ digL n (valL e.v)))) ∧ Below q.heap.size q w') := fun q hq => by rw [← hp]; exact nd.leafOf q n (.leaf v e) (nd.below hM hq)
  have fk : ∀ w, (Instr.field 125 (.agg (bA (e.k ++ digL n (valL e.v)))) 0).run Tryz.prog w = .ok (.agg (bA e.k)) w := fun w => by
   rw [field_leafKey _ (by rw [List.length_append, hek, dig_len]) w, List.take_append_of_le_length (by omega), List.take_of_length_le (by omega)]
  rw [show kindT (Tv.leaf v e).tr = 1 from rfl] at HKD
  have HBT : Hid (∀ z, Calls Tryz.prog 111 #[.agg (bA e.k), .int .i64 (d : Int)] z fun y w' => y = .returned (.int .i64 (bitK e.k d)) ∧ Below z.heap.size z w') := fun z => pbitK_c e.k hek (d : Int) z
  obtain ⟨g, hg⟩ : ∃ g, g = e.k ++ digL n (valL e.v) := ⟨_, rfl⟩
  rw [← hg] at HLF fk
  have hvp : v = .pointer p := hp
  subst hvp
  have hb01 := bitK_01 e.k d hd
  have HSD : Hid (∀ q, bitK e.k d = q → Value.tuple #[((Tv.leaf (.pointer p) e).sideL d).val, ((Tv.leaf (.pointer p) e).sideR d).val] = if q = 0 then Value.tuple #[.pointer p, .pointer none] else Value.tuple #[.pointer none, .pointer p]) := fun q hq => by
   show Value.tuple #[(if bitK e.k d = 0 then Tv.leaf (.pointer p) e else Tv.nil).val, (if bitK e.k d = 0 then Tv.nil else Tv.leaf (.pointer p) e).val] = _
   rw [hq]
   by_cases h : q = 0
   ·rw [if_pos h, if_pos h, if_pos h]; rfl
   ·rw [if_neg h, if_neg h, if_neg h]; rfl
  rcases hb01 with hb | hb
  ·rw [HSD.out 0 hb, if_pos rfl]
   rw [hb] at HBT
   clear hM hp hd hek hg hb HSD
   go_enter Tryz.func125, Tryz.ntmps125
   go_wp2_with fail
   refine HKD.out.mono ?_
   rintro _ w1 ⟨rfl, hB⟩
   have HB1 := Lib.hid hB
   clear hB HKD
   go_wp2_with fail
   refine (HLF.out w1 HB1.out).mono ?_
   rintro _ w2 ⟨rfl, hB⟩
   have HB2 := Lib.hid (HB1.out.trans (hB.mono HB1.out.size))
   clear hB
   go_wp2_with fail
   refine (HBT.out w2).mono ?_
   rintro _ w3 ⟨rfl, hB⟩
   have HB3 := Lib.hid (HB2.out.trans (hB.mono HB2.out.size))
   clear hB
   go_wp2_with fail
   go_ret2
   exact ⟨rfl, HB3.out⟩
  ·rw [HSD.out 1 hb, if_neg (by decide)]
   rw [hb] at HBT
   clear hM hp hd hek hg hb HSD
   go_enter Tryz.func125, Tryz.ntmps125
   go_wp2_with fail
   refine HKD.out.mono ?_
   rintro _ w1 ⟨rfl, hB⟩
   have HB1 := Lib.hid hB
   clear hB HKD
   go_wp2_with fail
   refine (HLF.out w1 HB1.out).mono ?_
   rintro _ w2 ⟨rfl, hB⟩
   have HB2 := Lib.hid (HB1.out.trans (hB.mono HB1.out.size))
   clear hB
   go_wp2_with fail
   refine (HBT.out w2).mono ?_
   rintro _ w3 ⟨rfl, hB⟩
   have HB3 := Lib.hid (HB2.out.trans (hB.mono HB2.out.size))
   clear hB
   go_wp2_with fail
   go_ret2
   exact ⟨rfl, HB3.out⟩
end
section
open Go.RowKit
def cost12 (k d : Nat) : Nat := k * (3 * (256 - d) + 2)
theorem cost_step {k z d : Nat} (hd : d < 256) (hk : 1 ≤ k) (hz : z ≤ k) : cost12 z (d + 1) + cost12 (k - z) (d + 1) + 3 ≤ cost12 k d := by
 unfold cost12
 rw [← Nat.add_mul, show z + (k - z) = k by omega, show 3 * (256 - d) + 2 = (3 * (256 - (d + 1)) + 2) + 3 by omega, Nat.mul_add k _ 3]
 omega
theorem cost_one (d : Nat) : 2 ≤ cost12 1 d := by unfold cost12; omega
theorem hs_bel12 {X Y : World} {b : Nat} {n : Int} {c : Nat} (h : Hs X b n c) (hb : Below X.heap.size X Y) : Hs Y b n c := h.keep (Keep.of_below (L := fun _ => False) hb) fun h => h
theorem ms_sides12 {w : World} {n : Int} {T : Tv} {d : Nat} (h : Mn w n T) : Mn w n (T.sideL d) ∧ Mn w n (T.sideR d) := by
 match T, h with
 | .nil, _ => exact ⟨trivial, trivial⟩
 | .inner v a b, h => exact nd_c.kids h
 | .leaf v e, h =>
  show Mn w n (if bitK e.k d = 0 then Tv.leaf v e else Tv.nil) ∧ Mn w n (if bitK e.k d = 0 then Tv.nil else Tv.leaf v e)
  by_cases hb : bitK e.k d = 0
  ·rw [if_pos hb, if_pos hb]; exact ⟨h, trivial⟩
  ·rw [if_neg hb, if_neg hb]; exact ⟨trivial, h⟩
theorem Made.le12 {M : World → Int → Tv → Prop} {w : World} {b : Nat} {n : Int} {T T' : Tv} {m m' : Nat} {w' : World} (h : Made M w b n T T' m w') (hm : m ≤ m') : Made M w b n T T' m' w' := ⟨h.ms, by obtain ⟨c, h1, h2⟩ := h.hs; exact ⟨c, by omega, h2⟩, h.keep, h.aft⟩
theorem Hs.ks12 {w w' : World} {b : Nat} {n : Int} {c : Nat} {A : Option Addr} {ks : List (List UInt8)} (h : Hs w b n c) (hA : KS w A ks) (hk : Keep (fun i => i = b) w w') : KS w' A ks := fun i k hi => by
 obtain ⟨h1, g, o, rfl, h3⟩ := hA i k hi
 refine ⟨h1, g, o, rfl, fun j v hv => hk.cellAt (h3 j v hv) fun e => ?_⟩
 have e3 : g = b := e
 subst e3
 have h4 := h3 j v hv
 rw [cell_of_cells h] at h4
 obtain ⟨y, hy, rfl⟩ : ∃ y, k[j]? = some y ∧ bv y = v := by
  rw [List.getElem?_map] at hv
  obtain ⟨y, hy, he⟩ := Option.map_eq_some_iff.1 hv
  exact ⟨y, hy, he⟩
 obtain ⟨q, hq⟩ : ∃ q, q = o + i * 32 + j := ⟨_, rfl⟩
 rw [← hq] at h4
 match q, h4 with
 | 0, h4 => cases h4
 | 1, h4 => cases h4
 | q + 2, h4 => simp at h4
theorem apl_made {M : World → Int → Tv → Prop} {w Y y1 y2 w' : World} {b : Nat} {n : Int} {T SL SR T1 T2 J : Tv} {m m1 m2 c' : Nat} (hbw : b < w.heap.size) (hY : Keep (fun i => i = b) w Y) (hm1 : Made M Y b n SL T1 m1 y1) (hm2 : Made M y1 b n SR T2 m2 y2) (hS : ∀ v, M v n T → M v n SL ∧ M v n SR)
  (hj : M w' n J) (hc : c' ≤ m) (hh : Hs w' b n c') (hk : Keep (fun i => i = b) y2 w') (ha : ∀ w2, Keep (fun i => i < y2.heap.size) w' w2 → M w2 n T1 → M w2 n T2 → M w2 n J) : Made M w b n T J m w' where
 ms := hj
 hs := ⟨c', hc, hh⟩
 keep := ((hY.trans hm1.keep).trans hm2.keep).trans hk
 aft := fun w2 h2 hT => by
  obtain ⟨hl, hr⟩ := hS w2 hT
  have s1 := hY.size
  have s2 := hm1.keep.size
  have s3 := hm2.keep.size
  refine ha w2 (h2.mono fun i hi => by omega) (hm1.aft w2 (((hm2.keep.trans hk).mono fun i hi => ?_).trans (h2.mono fun i hi => by omega)) hl) (hm2.aft w2 ((hk.mono fun i hi => ?_).trans (h2.mono fun i hi => by omega)) hr)
  ·have e : i = b := hi
   omega
  ·have e : i = b := hi
   omega
def Apl12 (b : Nat) (n : Int) (d : Nat) : Prop := ∀ (w : World) (c : Nat) (l : List Ent) (T : Tv) (xs : List Cn) (A B : Option Addr) (cA cB : Nat), Hs w b n c → c + cost12 xs.length d ≤ 60000000 → Vars w → Mn w n T → SubMap d l T → d ≤ 256 → l.length ≤ 2000 → xs.length ≤ 1000 → AptC d l (xs.map Cn.chg) → AscS (xs.map Cn.k) →
 KS w A (xs.map Cn.k) → CA w B xs → xs.length ≤ cA → xs.length ≤ cB → (∀ x ∈ xs, x.v.length ≤ 70000) →
 Calls Tryz.prog 85 #[ptr b, T.val, .agg (srtC (.slice A xs.length cA) (.slice B xs.length cB)), .int .i64 (d : Int)] w fun e w' => ∃ T', e = .returned T'.val ∧ SubMap d (appC l (xs.map Cn.chg)) T' ∧ Made Mn w b n T T' (c + cost12 xs.length d) w'
theorem apply_none {b : Nat} {n : Int} {d : Nat} (w : World) (c : Nat) (l : List Ent) (T : Tv) (A B : Option Addr) (cA cB : Nat) (hh : Hs w b n c) (hM : Mn w n T) (hT : SubMap d l T) (m : Nat) (hm : c ≤ m) :
  Calls Tryz.prog 85 #[ptr b, T.val, .agg (srtC (.slice A 0 cA) (.slice B 0 cB)), .int .i64 (d : Int)] w fun e w' => ∃ T', e = .returned T'.val ∧ SubMap d l T' ∧ Made Mn w b n T T' m w' := by
 obtain ⟨pT, hpT⟩ := val_ptr nd_c hM
 obtain ⟨X, hX⟩ : ∃ X, X = w.alloc (.cells (srtC (.slice A 0 cA) (.slice B 0 cB)) 159) := ⟨_, rfl⟩
 have hbX : Below w.heap.size w X := by rw [hX]; exact (Below.refl _ _).alloc (Nat.le_refl _) _
 have hs0 : X.heap[w.heap.size]? = some (.cells (srtC (.slice A 0 cA) (.slice B 0 cB)) 159 (0, 0)) := by rw [hX]; exact heap_alloc_new w _
 have l0 := cellSo0 hs0
 have HF : Hid (SubMap d l T ∧ Made Mn w b n T T m X) := ⟨hT, nd_c.below hM hbX, ⟨c, hm, hs_bel12 hh hbX⟩, Keep.of_below hbX, fun _ _ h => h⟩
 have HX := Lib.hid hX
 have HPT := Lib.hid hpT
 rw [hX] at l0
 rw [hpT]
 unfold ptr
 clear hX hbX hs0 hh hM hT hm hpT
 go_enter Tryz.func85, Tryz.ntmps85
 go_wp2_with fail
 go_ret
 refine ⟨T, by rw [HPT.out]; rfl, ?_⟩
 rw [← HX.out]
 exact HF.out
theorem Made.bel12 {M : World → Int → Tv → Prop} {w X : World} {b : Nat} {n : Int} {T T' : Tv} {m : Nat} {w' : World} (h : Made M X b n T T' m w') (hb : Below w.heap.size w X) : Made M w b n T T' m w' := ⟨h.ms, h.hs, (Keep.of_below hb).trans h.keep, fun w2 h2 hT => h.aft w2 (h2.mono fun i hi => by have := hb.size; omega) hT⟩
theorem apply_two {b : Nat} {n : Int} {d : Nat} (h256 : d < 256) (ih : Apl12 b n (d + 1)) : ∀ (w : World) (c : Nat) (l : List Ent) (T : Tv) (xs : List Cn) (A B : Option Addr) (cA cB : Nat), Hs w b n c → c + cost12 xs.length d ≤ 60000000 → Vars w → Mn w n T → SubMap d l T → d ≤ 256 → l.length ≤ 2000 → xs.length ≤ 1000 → AptC d l (xs.map Cn.chg) → AscS (xs.map Cn.k) →
  KS w A (xs.map Cn.k) → CA w B xs → xs.length ≤ cA → xs.length ≤ cB → (∀ x ∈ xs, x.v.length ≤ 70000) → 2 ≤ xs.length →
  Calls Tryz.prog 85 #[ptr b, T.val, .agg (srtC (.slice A xs.length cA) (.slice B xs.length cB)), .int .i64 (d : Int)] w fun e w' => ∃ T', e = .returned T'.val ∧ SubMap d (appC l (xs.map Cn.chg)) T' ∧ Made Mn w b n T T' (c + cost12 xs.length d) w' := by
 intro w c l T xs A B cA cB hh hc hv hM hT hd hl hn hap has hks hca hcA hcB hxv h2
 have hkk : (xs.map Cn.chg).map Chg.k = xs.map Cn.k := by rw [List.map_map]; rfl
 obtain ⟨N, hN⟩ : ∃ N, N = xs.length := ⟨_, rfl⟩
 obtain ⟨z, hz⟩ : ∃ z, z = (sideC (xs.map Cn.chg) d 0).length := ⟨_, rfl⟩
 have hsl := side_len (xs.map Cn.chg) d h256
 rw [List.length_map] at hsl
 obtain ⟨sc1, sc2⟩ := side_cut h256 (xs.map Cn.chg) (by rw [hkk]; exact has) (fun x hx y hy i hi => hap.each x hx y hy i (by omega) (by omega))
 rw [← hz] at sc1 sc2
 have hzn : z ≤ N := by omega
 obtain ⟨pT, hpT⟩ := val_ptr nd_c hM
 obtain ⟨pL, hpL⟩ := val_ptr nd_c (ms_sides12 (d := d) hM).1
 obtain ⟨pR, hpR⟩ := val_ptr nd_c (ms_sides12 (d := d) hM).2
 have HKK := Lib.hid hkk
 have HCAP : Hid ((xs.map Cn.chg).length ≤ cA ∧ (xs.map Cn.chg).length ≤ cB ∧ (xs.map Cn.chg).length ≤ 1000) := by rw [List.length_map]; exact ⟨hcA, hcB, hn⟩
 have HNL : Hid ((xs.map Cn.chg).length = N) := by show _ = _; rw [List.length_map, hN]
 have HNX : Hid (xs.length = N) := hN.symm
 have HZL : Hid ((sideC (xs.map Cn.chg) d 0).length = z) := hz.symm
 have HZN := Lib.hid hzn
 have HTL : Hid ((xs.take z).length = z ∧ (xs.drop z).length = N - z) := by
  refine ⟨?_, ?_⟩
  ·rw [List.length_take]; omega
  ·rw [List.length_drop]; omega
 have HTM : Hid ((xs.take z).map Cn.chg = sideC (xs.map Cn.chg) d 0 ∧ (xs.drop z).map Cn.chg = sideC (xs.map Cn.chg) d 1) := by rw [List.map_take, List.map_drop]; exact ⟨sc1, sc2⟩
 have HSUB := Lib.hid (hT.sides h256)
 have HC : Hid (c + cost12 N d ≤ 60000000) := by show _ ≤ _; rw [hN]; exact hc
 have HCO : Hid (c + cost12 z (d + 1) + cost12 (N - z) (d + 1) + 3 ≤ c + cost12 N d) := by show _ ≤ _; have := cost_step (k := N) h256 (by omega) hzn; omega
 obtain ⟨X, hX⟩ : ∃ X, X = w.alloc (.cells (srtC (.slice A N cA) (.slice B N cB)) 159) := ⟨_, rfl⟩
 have hbX : Below w.heap.size w X := by rw [hX]; exact (Below.refl _ _).alloc (Nat.le_refl _) _
 have hs0 : X.heap[w.heap.size]? = some (.cells (srtC (.slice A N cA) (.slice B N cB)) 159 (0, 0)) := by rw [hX]; exact heap_alloc_new w _
 have l0 := cellSo0 hs0
 have HX := Lib.hid hX
 have HBX := Lib.hid hbX
 have HSB0 := Lib.hid hs0
 have HH := Lib.hid hh
 have HV := Lib.hid hv
 have HM := Lib.hid hM
 have HT := Lib.hid hT
 have HLN := Lib.hid hl
 have HAP := Lib.hid hap
 have HAS := Lib.hid has
 have HKS := Lib.hid hks
 have HCA := Lib.hid hca
 have HXV := Lib.hid hxv
 have HPT := Lib.hid hpT
 have HPL := Lib.hid hpL
 have HPR := Lib.hid hpR
 have H256 := Lib.hid h256
 have HIH := Lib.hid ih
 have hn9 : N ≤ 1000 := by omega
 rw [hX] at l0
 rw [← hN]
 rw [hpT]
 unfold ptr
 have b0 : decide ((N : Int) = 0) = false := decide_eq_false (by omega)
 have b1 : decide ((N : Int) = 1) = false := decide_eq_false (by omega)
 have b2 : ((N : Int) == 0) = false := by simp; omega
 have b3 : ((N : Int) == 1) = false := by simp; omega
 clear h2
 clear hkk hN hz hsl sc1 sc2 hzn hpT hpL hpR hX hbX hs0 hh hc hv hM hT hl hn hap has hks hca hcA hcB hxv ih hd
 go_enter Tryz.func85, Tryz.ntmps85
 go_wp2_with fail
 rw [← HX.out]
 obtain ⟨X1, hX1⟩ : ∃ X1, X1 = X := ⟨_, rfl⟩
 have HB1 : Hid (Below w.heap.size w X1) := by rw [hX1]; exact HBX.out
 have HSB1 : Hid (X1.heap[w.heap.size]? = some (.cells (srtC (.slice A N cA) (.slice B N cB)) 159 (0, 0))) := by rw [hX1]; exact HSB0.out
 rw [← hX1]
 clear hX1 l0 HX
 have HSD := Lib.hid (sides_c nd_c X1 n T d pT (nd_c.below HM.out HB1.out) HPT.out H256.out)
 rw [HPL.out, HPR.out] at HSD
 refine HSD.out.mono ?_
 rintro _ X2 ⟨rfl, hB⟩
 have HB2 := Lib.hid (HB1.out.trans (hB.mono HB1.out.size))
 have hs2 : X2.heap[w.heap.size]? = some (.cells (srtC (.slice A N cA) (.slice B N cB)) 159 (0, 0)) := (hB.block _ (lt_of_heap HSB1.out)).trans HSB1.out
 have ls := ldSo hs2
 have HDV := Lib.hid (divide_c A B cA cB (xs.map Cn.chg) d X2 (by rw [HKK.out]; exact HKS.out.below HB2.out) HCAP.out.1 HCAP.out.2.1 H256.out HCAP.out.2.2 (by rw [HKK.out]; exact HAS.out) (fun x hx y hy i hi => HAP.out.each x hx y hy i (by omega) (by have := H256.out; omega)) N z HNL.out HZL.out)
 clear hB hs2 HSD
 go_wp2_with fail
 refine HDV.out.mono ?_
 rintro _ X3 ⟨rfl, hB⟩
 have HB3 := Lib.hid (HB2.out.trans (hB.mono HB2.out.size))
 clear hB ls HDV
 obtain ⟨KZ, hKZ⟩ : ∃ v, v = Value.slice (cutW 32 A z 0) z z := ⟨_, rfl⟩
 obtain ⟨CZ, hCZ⟩ : ∃ v, v = Value.slice (cutW 34 B z 0) z z := ⟨_, rfl⟩
 obtain ⟨KO, hKO⟩ : ∃ v, v = Value.slice (cutW 32 A N z) (N - z) (N - z) := ⟨_, rfl⟩
 obtain ⟨CO, hCO⟩ : ∃ v, v = Value.slice (cutW 34 B N z) (N - z) (N - z) := ⟨_, rfl⟩
 obtain ⟨Y, hY⟩ : ∃ Y, Y = (X3.alloc (.cells (srtC KZ CZ) 159)).alloc (.cells (srtC KO CO) 159) := ⟨_, rfl⟩
 have hbY : Below X3.heap.size X3 Y := by rw [hY]; exact ((Below.refl _ _).alloc (Nat.le_refl _) _).alloc (by simp) _
 have hy1 : Y.heap[X3.heap.size]? = some (.cells (srtC KZ CZ) 159 (0, 0)) := by rw [hY]; exact heap_alloc2_old X3 _ _
 have hy2 : Y.heap[X3.heap.size + 1]? = some (.cells (srtC KO CO) 159 (0, 0)) := by rw [hY]; exact heap_alloc2_new X3 _ _
 have hon1 : (srtC KZ CZ).all (·.oneCell') = true := by rw [hKZ, hCZ]; exact srt_one _ _ _ _ _ _
 have hon2 : (srtC KO CO).all (·.oneCell') = true := by rw [hKO, hCO]; exact srt_one _ _ _ _ _ _
 have zs := zeroSo
 have st1 := stA_old (t := 159) X3 (.cells (srtC (.slice none 0 0) (.slice none 0 0)) 159) (srtC (.slice none 0 0) (.slice none 0 0)) (srtC KZ CZ) infoSo rfl hon1
 have st2 : stA 159 ((X3.alloc (.cells (srtC KZ CZ) 159)).alloc (.cells (srtC (.slice none 0 0) (.slice none 0 0)) 159)) (.pointer (some ⟨X3.heap.size + 1, 0, none⟩)) (.agg (srtC KO CO)) = .ok .skip Y := by
  rw [hY]; exact stA_two (t := 159) X3 (.cells (srtC KZ CZ) 159) (srtC (.slice none 0 0) (.slice none 0 0)) (srtC KO CO) infoSo rfl hon2
 have HBY : Hid (Below w.heap.size w Y) := HB3.out.trans (hbY.mono HB3.out.size)
 have HYK : Hid (Keep (fun i => i = b) w Y.drew) := (Keep.of_below HBY.out).drew
 have HYS : Hid (w.heap.size ≤ X3.heap.size ∧ X3.heap.size ≤ Y.heap.size) := ⟨HB3.out.size, hbY.size⟩
 have LS : Hid (∀ v, Keep (fun i => i = b) Y v → ldA 159 v (.pointer (some ⟨X3.heap.size, 0, none⟩)) = .ok (.value (.agg (srtC KZ CZ))) v ∧ ldA 159 v (.pointer (some ⟨X3.heap.size + 1, 0, none⟩)) = .ok (.value (.agg (srtC KO CO))) v) := fun v hv => by
  have hb := lt_of_heap HH.out
  have h3 := HYS.out
  exact ⟨ldSo (hv.heap hy1 (by omega)), ldSo (hv.heap hy2 (by omega))⟩
 have wd : IntKind.i64.wrap ((d : Int) + 1) = (d : Int) + 1 := IntWalk.i64_in _ (by have := H256.out; omega)
 have HBD : Hid (Below w.heap.size w Y.drew) := HBY.out.drew
 have HCL : Hid (Calls Tryz.prog 85 #[.pointer (some ⟨b, 0, none⟩), .pointer pL, .agg (srtC KZ CZ), .int .i64 ((d : Int) + 1)] Y.drew fun e w' => ∃ p1, e = .returned (.pointer p1) ∧ Hid (∃ T1 : Tv, T1.val = .pointer p1 ∧ SubMap (d + 1) (appC (partK l d 0) (sideC (xs.map Cn.chg) d 0)) T1 ∧ Made Mn Y.drew b n (T.sideL d) T1 (c + cost12 z (d + 1)) w') ∧ Keep (fun i => i = b) Y.drew w') := by
  have hb := hs_bel12 HH.out HBD.out
  have h1 := HIH.out Y.drew c (partK l d 0) (T.sideL d) (xs.take z) (cutW 32 A z 0) (cutW 34 B z 0) z z hb (by have := HCO.out; have := HC.out; rw [HTL.out.1]; omega) (HV.out.below HBD.out) (ms_sides12 (nd_c.below HM.out HBD.out)).1 HSUB.out.1 (by have := H256.out; omega) (by have := HLN.out; have := partK_len l d 0; omega) (by rw [HTL.out.1]; have := HCAP.out.2.2; have := HZN.out; have := HNL.out; omega) (by rw [HTM.out.1]; exact HAP.out.side H256.out 0) (HAS.out.sublist ((List.take_sublist _ _).map _)) (by rw [List.map_take]; exact KS.cutT (HKS.out.below HBD.out) z) (CA.cutT (HCA.out.below HBD.out) z) (by rw [HTL.out.1]; exact Nat.le_refl _) (by rw [HTL.out.1]; exact Nat.le_refl _) (fun x hx => HXV.out x (List.mem_of_mem_take hx))
  rw [HTL.out.1, HPL.out, HTM.out.1, ← hKZ, ← hCZ, show ((d + 1 : Nat) : Int) = (d : Int) + 1 by omega] at h1
  refine h1.mono ?_
  rintro _ w' ⟨T1, rfl, g1, g2⟩
  obtain ⟨p1, hp1⟩ := val_ptr nd_c g2.ms
  exact ⟨p1, by rw [hp1], ⟨T1, hp1, g1, g2⟩, g2.keep⟩
 have HCR : Hid (∀ y, Keep (fun i => i = b) Y y → (∃ c', c' ≤ c + cost12 z (d + 1) ∧ Hs y b n c') → Calls Tryz.prog 85 #[.pointer (some ⟨b, 0, none⟩), .pointer pR, .agg (srtC KO CO), .int .i64 ((d : Int) + 1)] y fun e w' => ∃ p1, e = .returned (.pointer p1) ∧ Hid (∃ T1 : Tv, T1.val = .pointer p1 ∧ SubMap (d + 1) (appC (partK l d 1) (sideC (xs.map Cn.chg) d 1)) T1 ∧ Made Mn y b n (T.sideR d) T1 (c + cost12 z (d + 1) + cost12 (N - z) (d + 1)) w') ∧ Keep (fun i => i = b) y w') := fun y hy ⟨c', hc', hh'⟩ => by
  have hwy : Keep (fun i => i = b) w y := (Keep.of_below HBY.out).trans hy
  have h1 := HIH.out y c' (partK l d 1) (T.sideR d) (xs.drop z) (cutW 32 A N z) (cutW 34 B N z) (N - z) (N - z) hh' (by have := HCO.out; have := HC.out; rw [HTL.out.2]; omega) (HV.out.hs HH.out hwy) (ms_sides12 (nd_c.hs HM.out HH.out hwy)).2 HSUB.out.2 (by have := H256.out; omega) (by have := HLN.out; have := partK_len l d 1; omega) (by rw [HTL.out.2]; have := HCAP.out.2.2; have := HNL.out; omega) (by rw [HTM.out.2]; exact HAP.out.side H256.out 1) (HAS.out.sublist ((List.drop_sublist _ _).map _)) (by rw [List.map_drop]; have := KS.cutD (HH.out.ks12 HKS.out hwy) z; rw [List.length_map, HNX.out] at this; exact this) (by have := CA.cutD (HH.out.ca HCA.out hwy) z; rw [HNX.out] at this; exact this) (by rw [HTL.out.2]; exact Nat.le_refl _) (by rw [HTL.out.2]; exact Nat.le_refl _) (fun x hx => HXV.out x (List.mem_of_mem_drop hx))
  rw [HTL.out.2, HPR.out, HTM.out.2, ← hKO, ← hCO, show ((d + 1 : Nat) : Int) = (d : Int) + 1 by omega] at h1
  refine h1.mono ?_
  rintro _ w' ⟨T1, rfl, g1, g2⟩
  obtain ⟨p1, hp1⟩ := val_ptr nd_c g2.ms
  exact ⟨p1, by rw [hp1], ⟨T1, hp1, g1, g2.le12 (by omega)⟩, g2.keep⟩
 rw [← hKZ, ← hCZ, ← hKO, ← hCO]
 clear hKZ hCZ hKO hCO hY hbY hy1 hy2 hon1 hon2
 go_wp2_with fail
 refine wp_region_held_drew (S := fun w' => Keep (fun i => i = b) Y w') (by kernel_rfl) ((Keep.refl _ _).drew) (fun hHeld => ?_)
 have hb0 : Keep (fun i => i = b) Y Y.drew := (Keep.refl _ _).drew
 refine x_t (i := 0) (oi := { dst := some 56, op := .move (.tmp 0), .. }) (v := ?_) rfl (Or.inl ⟨by rfl, ?_⟩) ?_
 rotate_left 1
 ·intro v hSv
  clear hSv
  go_simp
  try with_reducible rfl
 try simp only [Act.put, x_A, x_0, x_1]
 refine x_t (i := 1) (oi := { dst := some 57, op := .move (.tmp 9), .. }) (v := ?_) rfl (Or.inl ⟨by rfl, ?_⟩) ?_
 rotate_left 1
 ·intro v hSv
  clear hSv
  go_simp
  try with_reducible rfl
 try simp only [Act.put, x_A, x_0, x_1]
 refine x_t (i := 2) (oi := { dst := some 58, op := .load _ (.tmp 11), .. }) (v := ?_) rfl (Or.inl ⟨by rfl, ?_⟩) ?_
 rotate_left 1
 ·intro v hSv
  have hv1 := LS.out v hSv |>.1
  clear hSv
  go_simp
  try with_reducible rfl
 try simp only [Act.put, x_A, x_0, x_1]
 refine x_t (i := 3) (oi := { dst := some 59, op := .move (.tmp 3), .. }) (v := ?_) rfl (Or.inl ⟨by rfl, ?_⟩) ?_
 rotate_left 1
 ·intro v hSv
  clear hSv
  go_simp
  try with_reducible rfl
 try simp only [Act.put, x_A, x_0, x_1]
 refine x_t (i := 4) (oi := { dst := some 60, op := .binOp .add _ (.tmp 59) (.const (.int .i64 1)) _, .. }) (v := ?_) rfl (Or.inl ⟨by rfl, ?_⟩) ?_
 rotate_left 1
 ·intro v hSv
  have hv1 := wd
  clear hSv
  go_simp
  try with_reducible rfl
 try simp only [Act.put, x_A, x_0, x_1]
 refine x_t (i := 6) (oi := { dst := some 62, op := .move (.tmp 0), .. }) (v := ?_) rfl (Or.inl ⟨by rfl, ?_⟩) ?_
 rotate_left 1
 ·intro v hSv
  clear hSv
  go_simp
  try with_reducible rfl
 try simp only [Act.put, x_A, x_0, x_1]
 refine x_t (i := 7) (oi := { dst := some 63, op := .move (.tmp 10), .. }) (v := ?_) rfl (Or.inl ⟨by rfl, ?_⟩) ?_
 rotate_left 1
 ·intro v hSv
  clear hSv
  go_simp
  try with_reducible rfl
 try simp only [Act.put, x_A, x_0, x_1]
 refine x_t (i := 8) (oi := { dst := some 64, op := .load _ (.tmp 12), .. }) (v := ?_) rfl (Or.inl ⟨by rfl, ?_⟩) ?_
 rotate_left 1
 ·intro v hSv
  have hv1 := LS.out v hSv |>.2
  clear hSv
  go_simp
  try with_reducible rfl
 try simp only [Act.put, x_A, x_0, x_1]
 refine x_t (i := 9) (oi := { dst := some 65, op := .move (.tmp 3), .. }) (v := ?_) rfl (Or.inl ⟨by rfl, ?_⟩) ?_
 rotate_left 1
 ·intro v hSv
  clear hSv
  go_simp
  try with_reducible rfl
 try simp only [Act.put, x_A, x_0, x_1]
 refine x_t (i := 10) (oi := { dst := some 66, op := .binOp .add _ (.tmp 65) (.const (.int .i64 1)) _, .. }) (v := ?_) rfl (Or.inl ⟨by rfl, ?_⟩) ?_
 rotate_left 1
 ·intro v hSv
  have hv1 := wd
  clear hSv
  go_simp
  try with_reducible rfl
 try simp only [Act.put, x_A, x_0, x_1]
 refine wpAnyH_ready (rs := [5]) (by kernel_rfl) (by simp) ?_
 refine AllReadyH.cons (o := { dst := some 61, op := .call _, .. }) rfl (fun K hK => ?_) AllReadyH.nil
 go_simp
 refine (HCL.out).mono ?_
 rintro e y1 ⟨p1, rfl, HR1, hb⟩
 have hb1 : Keep (fun i => i = b) Y y1 := (hb0).trans hb
 obtain ⟨T1, hp1, hS1, hm1⟩ := HR1.out
 have HC2 := Lib.hid (HCR.out y1 hb1 hm1.hs)
 have HP1 := Lib.hid hp1
 have HS1 := Lib.hid hS1
 have HM1 := Lib.hid hm1
 clear hp1 hS1 hm1 HR1
 clear hb
 go_wp2_with fail
 refine hK.out _ _ (hb1) (fun hHeld => ?_)
 clear hK K
 try simp only [Act.put, x_A, x_0, x_1]
 refine wpAnyH_ready (rs := [11]) (by kernel_rfl) (by simp) ?_
 refine AllReadyH.cons (o := { dst := some 67, op := .call _, .. }) rfl (fun K hK => ?_) AllReadyH.nil
 go_simp
 refine (HC2.out).mono ?_
 rintro e y2 ⟨p2, rfl, HR2, hb⟩
 have hb2 : Keep (fun i => i = b) Y y2 := (hb1).trans hb
 have HK2 := Lib.hid hb
 clear hb
 go_wp2_with fail
 refine hK.out _ _ (hb2) (fun hHeld => ?_)
 clear hK K
 try simp only [Act.put, x_A, x_0, x_1]
 refine x_t (i := 12) (oi := { dst := some 13, op := .assign (.tmp 61), .. }) (v := ?_) rfl (Or.inl ⟨by rfl, ?_⟩) ?_
 rotate_left 1
 ·intro v hSv
  clear hSv
  go_simp
  try with_reducible rfl
 try simp only [Act.put, x_A, x_0, x_1]
 refine x_t (i := 13) (oi := { dst := some 14, op := .assign (.tmp 67), .. }) (v := ?_) rfl (Or.inl ⟨by rfl, ?_⟩) ?_
 rotate_left 1
 ·intro v hSv
  clear hSv
  go_simp
  try with_reducible rfl
 try simp only [Act.put, x_A, x_0, x_1]
 refine wpAnyH_done (by kernel_rfl) ?_ _
 have hb2K : Keep (fun i => i = b) w y2 := (Keep.of_below HBY.out).trans (hb2)
 clear wd
 have HY := Lib.hid HYK.out
 obtain ⟨T2, hp2, hS2, hm2⟩ := HR2.out
 have HP2 := Lib.hid hp2
 have HS2 := Lib.hid hS2
 have HM2 := Lib.hid hm2
 clear hp2 hS2 hm2 HR2 hb0 hb1
 have HMT : Hid (Mn y2 n T) := nd_c.hs HM.out HH.out hb2K
 have HM1Y : Hid (Mn y2 n T1) := HM1.out.aft y2 (HM2.out.keep.mono fun i hi => by have e : i = b := hi; have h1 := lt_of_heap HH.out; have h2 := HYS.out; show i < Y.heap.size; omega) (ms_sides12 (d := d) HMT.out).1
 have HJN : Hid (∀ z, Below y2.heap.size y2 z → Calls Tryz.prog 113 #[.pointer (some ⟨b, 0, none⟩), .pointer p1, .pointer p2] z fun e w' => ∃ T', e = .returned T'.val ∧ SubMap d (appC l (xs.map Cn.chg)) T' ∧ Made Mn w b n T T' (c + cost12 N d) w') := fun z hz => by
  obtain ⟨c3, hc3, hh3⟩ := HM2.out.hs
  have hl1 := HS1.out.len_le
  have hl2 := HS2.out.len_le
  have hl3 := app_sum l (xs.map Cn.chg) (d := d) H256.out
  have hl4 := appC_len (xs.map Cn.chg) l
  rw [List.length_map] at hl4
  have hl5 := HLN.out
  have hl6 := HNX.out
  have hl7 := HCAP.out.2.2
  rw [List.length_map] at hl7
  have hcc := HCO.out
  have hcx := HC.out
  have := nd_c.join z b n c3 T1 T2 (hs_bel12 hh3 hz) (by omega) ((HV.out.hs HH.out hb2K).below hz) (nd_c.below HM1Y.out hz) (nd_c.below HM2.out.ms hz) (by omega)
  rw [HP1.out, HP2.out] at this
  refine this.mono ?_
  rintro _ w' ⟨u, c', rfl, h1, h2, h3, h4, h5⟩
  exact ⟨_, rfl, app_join2 HT.out H256.out HAP.out HS1.out HS2.out, apl_made (lt_of_heap HH.out) HY.out HM1.out HM2.out (fun v hv => ms_sides12 hv) h1 (by omega) h3 ((Keep.of_below hz).trans h4) (fun w2 g1 g2 g3 => h5 w2 (g1.mono fun i hi => by have := hz.size; omega) g2 g3)⟩
 have HSLY : Hid (Mn y2 n (T.sideL d) ∧ Mn y2 n (T.sideR d)) := ms_sides12 HMT.out
 by_cases e1 : p1 = pL
 ·subst e1
  have ep := eql_ptr12 p1 y2
  by_cases e2 : p2 = pR
  ·subst e2
   have ep2 := eql_ptr12 p2 y2
   have HRES : Hid (SubMap d (appC l (xs.map Cn.chg)) T ∧ Made Mn w b n T T (c + cost12 N d) y2) := by
    have q1 := Mn.same HM1Y.out HSLY.out.1 (HP1.out.trans HPL.out.symm)
    have q2 := Mn.same HM2.out.ms HSLY.out.2 (HP2.out.trans HPR.out.symm)
    have s1 := HS1.out
    have s2 := HS2.out
    rw [q1] at s1
    rw [q2] at s2
    obtain ⟨c3, hc3, hh3⟩ := HM2.out.hs
    have hcc := HCO.out
    exact ⟨app_same HT.out H256.out HAP.out s1 s2, HMT.out, ⟨c3, by omega, hh3⟩, hb2K, fun _ _ h => h⟩
   clear HJN hb2 hb2K
   go_wp2_with fail
   go_ret
   exact ⟨T, by rw [HPT.out]; rfl, HRES.out⟩
  ·have ep2 := eql_nodes12 HM2.out.ms HSLY.out.2 HP2.out HPR.out e2
   have HJ := Lib.hid (HJN.out y2 (Below.refl _ _))
   clear HJN hb2 hb2K e2
   go_wp2_with fail
   refine HJ.out.mono ?_
   rintro _ w7 ⟨T', rfl, hs7, hm7⟩
   obtain ⟨p', hp'⟩ := val_ptr nd_c hm7.ms
   rw [hp']
   have HF : Hid (SubMap d (appC l (xs.map Cn.chg)) T' ∧ Made Mn w b n T T' (c + cost12 N d) w7) := ⟨hs7, hm7⟩
   have HP' := Lib.hid hp'
   clear hs7 hm7 hp' HJ ep ep2
   go_wp2_with fail
   go_ret
   exact ⟨T', by rw [HP'.out]; rfl, HF.out⟩
 ·have ep := eql_nodes12 HM1Y.out HSLY.out.1 HP1.out HPL.out e1
  have HJ := Lib.hid (HJN.out y2 (Below.refl _ _))
  clear HJN hb2 hb2K e1
  go_wp2_with fail
  refine HJ.out.mono ?_
  rintro _ w7 ⟨T', rfl, hs7, hm7⟩
  obtain ⟨p', hp'⟩ := val_ptr nd_c hm7.ms
  rw [hp']
  have HF : Hid (SubMap d (appC l (xs.map Cn.chg)) T' ∧ Made Mn w b n T T' (c + cost12 N d) w7) := ⟨hs7, hm7⟩
  have HP' := Lib.hid hp'
  clear hs7 hm7 hp' HJ ep
  go_wp2_with fail
  go_ret
  exact ⟨T', by rw [HP'.out]; rfl, HF.out⟩
theorem apply_one {b : Nat} {n : Int} {d : Nat} (h256 : d < 256) (ih : Apl12 b n (d + 1)) : ∀ (w : World) (c : Nat) (l : List Ent) (T : Tv) (xs : List Cn) (A B : Option Addr) (cA cB : Nat), Hs w b n c → c + cost12 xs.length d ≤ 60000000 → Vars w → Mn w n T → SubMap d l T → d ≤ 256 → l.length ≤ 2000 → xs.length ≤ 1000 → AptC d l (xs.map Cn.chg) → AscS (xs.map Cn.k) →
  KS w A (xs.map Cn.k) → CA w B xs → xs.length ≤ cA → xs.length ≤ cB → (∀ x ∈ xs, x.v.length ≤ 70000) → ∀ x, xs = [x] → endK12 x.k T = false →
  Calls Tryz.prog 85 #[ptr b, T.val, .agg (srtC (.slice A xs.length cA) (.slice B xs.length cB)), .int .i64 (d : Int)] w fun e w' => ∃ T', e = .returned T'.val ∧ SubMap d (appC l (xs.map Cn.chg)) T' ∧ Made Mn w b n T T' (c + cost12 xs.length d) w' := by
 intro w c l T xs A B cA cB hh hc hv hM hT hd hl hn hap has hks hca hcA hcB hxv x hx1 hend
 obtain ⟨hkx, g, o, hA0, hr⟩ := hks 0 x.k (by rw [hx1]; rfl)
 subst hA0
 rw [Nat.zero_mul, Nat.add_zero] at hr
 have h2 : xs.length = 1 := by rw [hx1]; rfl
 have hkk : (xs.map Cn.chg).map Chg.k = xs.map Cn.k := by rw [List.map_map]; rfl
 obtain ⟨N, hN⟩ : ∃ N, N = xs.length := ⟨_, rfl⟩
 obtain ⟨z, hz⟩ : ∃ z, z = (sideC (xs.map Cn.chg) d 0).length := ⟨_, rfl⟩
 have hsl := side_len (xs.map Cn.chg) d h256
 rw [List.length_map] at hsl
 obtain ⟨sc1, sc2⟩ := side_cut h256 (xs.map Cn.chg) (by rw [hkk]; exact has) (fun x hx y hy i hi => hap.each x hx y hy i (by omega) (by omega))
 rw [← hz] at sc1 sc2
 have hzn : z ≤ N := by omega
 obtain ⟨pT, hpT⟩ := val_ptr nd_c hM
 obtain ⟨pL, hpL⟩ := val_ptr nd_c (ms_sides12 (d := d) hM).1
 obtain ⟨pR, hpR⟩ := val_ptr nd_c (ms_sides12 (d := d) hM).2
 have HKK := Lib.hid hkk
 have HCAP : Hid ((xs.map Cn.chg).length ≤ cA ∧ (xs.map Cn.chg).length ≤ cB ∧ (xs.map Cn.chg).length ≤ 1000) := by rw [List.length_map]; exact ⟨hcA, hcB, hn⟩
 have HNL : Hid ((xs.map Cn.chg).length = N) := by show _ = _; rw [List.length_map, hN]
 have HNX : Hid (xs.length = N) := hN.symm
 have HZL : Hid ((sideC (xs.map Cn.chg) d 0).length = z) := hz.symm
 have HZN := Lib.hid hzn
 have HTL : Hid ((xs.take z).length = z ∧ (xs.drop z).length = N - z) := by
  refine ⟨?_, ?_⟩
  ·rw [List.length_take]; omega
  ·rw [List.length_drop]; omega
 have HTM : Hid ((xs.take z).map Cn.chg = sideC (xs.map Cn.chg) d 0 ∧ (xs.drop z).map Cn.chg = sideC (xs.map Cn.chg) d 1) := by rw [List.map_take, List.map_drop]; exact ⟨sc1, sc2⟩
 have HSUB := Lib.hid (hT.sides h256)
 have HC : Hid (c + cost12 N d ≤ 60000000) := by show _ ≤ _; rw [hN]; exact hc
 have HCO : Hid (c + cost12 z (d + 1) + cost12 (N - z) (d + 1) + 3 ≤ c + cost12 N d) := by show _ ≤ _; have := cost_step (k := N) h256 (by omega) hzn; omega
 obtain ⟨X, hX⟩ : ∃ X, X = w.alloc (.cells (srtC (.slice (some ⟨g, o, none⟩) N cA) (.slice B N cB)) 159) := ⟨_, rfl⟩
 have hbX : Below w.heap.size w X := by rw [hX]; exact (Below.refl _ _).alloc (Nat.le_refl _) _
 have hs0 : X.heap[w.heap.size]? = some (.cells (srtC (.slice (some ⟨g, o, none⟩) N cA) (.slice B N cB)) 159 (0, 0)) := by rw [hX]; exact heap_alloc_new w _
 have l0 := cellSo0 hs0
 have HX := Lib.hid hX
 have HBX := Lib.hid hbX
 have HSB0 := Lib.hid hs0
 have HH := Lib.hid hh
 have HV := Lib.hid hv
 have HM := Lib.hid hM
 have HT := Lib.hid hT
 have HLN := Lib.hid hl
 have HAP := Lib.hid hap
 have HAS := Lib.hid has
 have HKS := Lib.hid hks
 have HCA := Lib.hid hca
 have HXV := Lib.hid hxv
 have HPT := Lib.hid hpT
 have HPL := Lib.hid hpL
 have HPR := Lib.hid hpR
 have H256 := Lib.hid h256
 have HIH := Lib.hid ih
 have hn9 : N ≤ 1000 := by omega
 rw [hX] at l0
 rw [← hN]
 rw [hpT]
 unfold ptr
 have lk := range_keyS (range_below hr hbX) hkx
 rw [hX] at lk
 have HIE : Hid (Calls Tryz.prog 123 #[.pointer pT, .agg (bA x.k)] X fun e w' => e = .returned (.bool false) ∧ Below X.heap.size X w') := by
  have := isEnd_c nd_c X n T x.k pT (nd_c.below hM hbX) hpT hkx
  rwa [hend] at this
 have b2 : ((N : Int) == 0) = false := by simp; omega
 have b3 : ((N : Int) == 1) = true := by simp; omega
 have b4 : ((d : Int) == 256) = false := by simp; omega
 have p0 : (0 : Int) < (N : Int) := by omega
 clear h2 hx1 hend hr hkx
 clear hkk hN hz hsl sc1 sc2 hzn hpT hpL hpR hX hbX hs0 hh hc hv hM hT hl hn hap has hks hca hcA hcB hxv ih hd
 go_enter Tryz.func85, Tryz.ntmps85
 go_wp2_with fail
 rw [← HX.out]
 refine HIE.out.mono ?_
 rintro _ X1 ⟨rfl, hB⟩
 have HB1 := Lib.hid (HBX.out.trans (hB.mono HBX.out.size))
 have HSB1 := Lib.hid ((hB.block _ (lt_of_heap HSB0.out)).trans HSB0.out)
 clear hB l0 lk HX HIE
 go_wp2_with fail
 have HSD := Lib.hid (sides_c nd_c X1 n T d pT (nd_c.below HM.out HB1.out) HPT.out H256.out)
 rw [HPL.out, HPR.out] at HSD
 refine HSD.out.mono ?_
 rintro _ X2 ⟨rfl, hB⟩
 have HB2 := Lib.hid (HB1.out.trans (hB.mono HB1.out.size))
 have hs2 : X2.heap[w.heap.size]? = some (.cells (srtC (.slice (some ⟨g, o, none⟩) N cA) (.slice B N cB)) 159 (0, 0)) := (hB.block _ (lt_of_heap HSB1.out)).trans HSB1.out
 have ls := ldSo hs2
 have HDV := Lib.hid (divide_c (some ⟨g, o, none⟩) B cA cB (xs.map Cn.chg) d X2 (by rw [HKK.out]; exact HKS.out.below HB2.out) HCAP.out.1 HCAP.out.2.1 H256.out HCAP.out.2.2 (by rw [HKK.out]; exact HAS.out) (fun x hx y hy i hi => HAP.out.each x hx y hy i (by omega) (by have := H256.out; omega)) N z HNL.out HZL.out)
 clear hB hs2 HSD
 go_wp2_with fail
 refine HDV.out.mono ?_
 rintro _ X3 ⟨rfl, hB⟩
 have HB3 := Lib.hid (HB2.out.trans (hB.mono HB2.out.size))
 clear hB ls HDV
 obtain ⟨KZ, hKZ⟩ : ∃ v, v = Value.slice (cutW 32 (some ⟨g, o, none⟩) z 0) z z := ⟨_, rfl⟩
 obtain ⟨CZ, hCZ⟩ : ∃ v, v = Value.slice (cutW 34 B z 0) z z := ⟨_, rfl⟩
 obtain ⟨KO, hKO⟩ : ∃ v, v = Value.slice (cutW 32 (some ⟨g, o, none⟩) N z) (N - z) (N - z) := ⟨_, rfl⟩
 obtain ⟨CO, hCO⟩ : ∃ v, v = Value.slice (cutW 34 B N z) (N - z) (N - z) := ⟨_, rfl⟩
 obtain ⟨Y, hY⟩ : ∃ Y, Y = (X3.alloc (.cells (srtC KZ CZ) 159)).alloc (.cells (srtC KO CO) 159) := ⟨_, rfl⟩
 have hbY : Below X3.heap.size X3 Y := by rw [hY]; exact ((Below.refl _ _).alloc (Nat.le_refl _) _).alloc (by simp) _
 have hy1 : Y.heap[X3.heap.size]? = some (.cells (srtC KZ CZ) 159 (0, 0)) := by rw [hY]; exact heap_alloc2_old X3 _ _
 have hy2 : Y.heap[X3.heap.size + 1]? = some (.cells (srtC KO CO) 159 (0, 0)) := by rw [hY]; exact heap_alloc2_new X3 _ _
 have hon1 : (srtC KZ CZ).all (·.oneCell') = true := by rw [hKZ, hCZ]; exact srt_one _ _ _ _ _ _
 have hon2 : (srtC KO CO).all (·.oneCell') = true := by rw [hKO, hCO]; exact srt_one _ _ _ _ _ _
 have zs := zeroSo
 have st1 := stA_old (t := 159) X3 (.cells (srtC (.slice none 0 0) (.slice none 0 0)) 159) (srtC (.slice none 0 0) (.slice none 0 0)) (srtC KZ CZ) infoSo rfl hon1
 have st2 : stA 159 ((X3.alloc (.cells (srtC KZ CZ) 159)).alloc (.cells (srtC (.slice none 0 0) (.slice none 0 0)) 159)) (.pointer (some ⟨X3.heap.size + 1, 0, none⟩)) (.agg (srtC KO CO)) = .ok .skip Y := by
  rw [hY]; exact stA_two (t := 159) X3 (.cells (srtC KZ CZ) 159) (srtC (.slice none 0 0) (.slice none 0 0)) (srtC KO CO) infoSo rfl hon2
 have HBY : Hid (Below w.heap.size w Y) := HB3.out.trans (hbY.mono HB3.out.size)
 have HYK : Hid (Keep (fun i => i = b) w Y.drew) := (Keep.of_below HBY.out).drew
 have HYS : Hid (w.heap.size ≤ X3.heap.size ∧ X3.heap.size ≤ Y.heap.size) := ⟨HB3.out.size, hbY.size⟩
 have LS : Hid (∀ v, Keep (fun i => i = b) Y v → ldA 159 v (.pointer (some ⟨X3.heap.size, 0, none⟩)) = .ok (.value (.agg (srtC KZ CZ))) v ∧ ldA 159 v (.pointer (some ⟨X3.heap.size + 1, 0, none⟩)) = .ok (.value (.agg (srtC KO CO))) v) := fun v hv => by
  have hb := lt_of_heap HH.out
  have h3 := HYS.out
  exact ⟨ldSo (hv.heap hy1 (by omega)), ldSo (hv.heap hy2 (by omega))⟩
 have wd : IntKind.i64.wrap ((d : Int) + 1) = (d : Int) + 1 := IntWalk.i64_in _ (by have := H256.out; omega)
 have HBD : Hid (Below w.heap.size w Y.drew) := HBY.out.drew
 have HCL : Hid (Calls Tryz.prog 85 #[.pointer (some ⟨b, 0, none⟩), .pointer pL, .agg (srtC KZ CZ), .int .i64 ((d : Int) + 1)] Y.drew fun e w' => ∃ p1, e = .returned (.pointer p1) ∧ Hid (∃ T1 : Tv, T1.val = .pointer p1 ∧ SubMap (d + 1) (appC (partK l d 0) (sideC (xs.map Cn.chg) d 0)) T1 ∧ Made Mn Y.drew b n (T.sideL d) T1 (c + cost12 z (d + 1)) w') ∧ Keep (fun i => i = b) Y.drew w') := by
  have hb := hs_bel12 HH.out HBD.out
  have h1 := HIH.out Y.drew c (partK l d 0) (T.sideL d) (xs.take z) (cutW 32 (some ⟨g, o, none⟩) z 0) (cutW 34 B z 0) z z hb (by have := HCO.out; have := HC.out; rw [HTL.out.1]; omega) (HV.out.below HBD.out) (ms_sides12 (nd_c.below HM.out HBD.out)).1 HSUB.out.1 (by have := H256.out; omega) (by have := HLN.out; have := partK_len l d 0; omega) (by rw [HTL.out.1]; have := HCAP.out.2.2; have := HZN.out; have := HNL.out; omega) (by rw [HTM.out.1]; exact HAP.out.side H256.out 0) (HAS.out.sublist ((List.take_sublist _ _).map _)) (by rw [List.map_take]; exact KS.cutT (HKS.out.below HBD.out) z) (CA.cutT (HCA.out.below HBD.out) z) (by rw [HTL.out.1]; exact Nat.le_refl _) (by rw [HTL.out.1]; exact Nat.le_refl _) (fun x hx => HXV.out x (List.mem_of_mem_take hx))
  rw [HTL.out.1, HPL.out, HTM.out.1, ← hKZ, ← hCZ, show ((d + 1 : Nat) : Int) = (d : Int) + 1 by omega] at h1
  refine h1.mono ?_
  rintro _ w' ⟨T1, rfl, g1, g2⟩
  obtain ⟨p1, hp1⟩ := val_ptr nd_c g2.ms
  exact ⟨p1, by rw [hp1], ⟨T1, hp1, g1, g2⟩, g2.keep⟩
 have HCR : Hid (∀ y, Keep (fun i => i = b) Y y → (∃ c', c' ≤ c + cost12 z (d + 1) ∧ Hs y b n c') → Calls Tryz.prog 85 #[.pointer (some ⟨b, 0, none⟩), .pointer pR, .agg (srtC KO CO), .int .i64 ((d : Int) + 1)] y fun e w' => ∃ p1, e = .returned (.pointer p1) ∧ Hid (∃ T1 : Tv, T1.val = .pointer p1 ∧ SubMap (d + 1) (appC (partK l d 1) (sideC (xs.map Cn.chg) d 1)) T1 ∧ Made Mn y b n (T.sideR d) T1 (c + cost12 z (d + 1) + cost12 (N - z) (d + 1)) w') ∧ Keep (fun i => i = b) y w') := fun y hy ⟨c', hc', hh'⟩ => by
  have hwy : Keep (fun i => i = b) w y := (Keep.of_below HBY.out).trans hy
  have h1 := HIH.out y c' (partK l d 1) (T.sideR d) (xs.drop z) (cutW 32 (some ⟨g, o, none⟩) N z) (cutW 34 B N z) (N - z) (N - z) hh' (by have := HCO.out; have := HC.out; rw [HTL.out.2]; omega) (HV.out.hs HH.out hwy) (ms_sides12 (nd_c.hs HM.out HH.out hwy)).2 HSUB.out.2 (by have := H256.out; omega) (by have := HLN.out; have := partK_len l d 1; omega) (by rw [HTL.out.2]; have := HCAP.out.2.2; have := HNL.out; omega) (by rw [HTM.out.2]; exact HAP.out.side H256.out 1) (HAS.out.sublist ((List.drop_sublist _ _).map _)) (by rw [List.map_drop]; have := KS.cutD (HH.out.ks12 HKS.out hwy) z; rw [List.length_map, HNX.out] at this; exact this) (by have := CA.cutD (HH.out.ca HCA.out hwy) z; rw [HNX.out] at this; exact this) (by rw [HTL.out.2]; exact Nat.le_refl _) (by rw [HTL.out.2]; exact Nat.le_refl _) (fun x hx => HXV.out x (List.mem_of_mem_drop hx))
  rw [HTL.out.2, HPR.out, HTM.out.2, ← hKO, ← hCO, show ((d + 1 : Nat) : Int) = (d : Int) + 1 by omega] at h1
  refine h1.mono ?_
  rintro _ w' ⟨T1, rfl, g1, g2⟩
  obtain ⟨p1, hp1⟩ := val_ptr nd_c g2.ms
  exact ⟨p1, by rw [hp1], ⟨T1, hp1, g1, g2.le12 (by omega)⟩, g2.keep⟩
 rw [← hKZ, ← hCZ, ← hKO, ← hCO]
 clear hKZ hCZ hKO hCO hY hbY hy1 hy2 hon1 hon2
 go_wp2_with fail
 refine wp_region_held_drew (S := fun w' => Keep (fun i => i = b) Y w') (by kernel_rfl) ((Keep.refl _ _).drew) (fun hHeld => ?_)
 have hb0 : Keep (fun i => i = b) Y Y.drew := (Keep.refl _ _).drew
 refine x_t (i := 0) (oi := { dst := some 56, op := .move (.tmp 0), .. }) (v := ?_) rfl (Or.inl ⟨by rfl, ?_⟩) ?_
 rotate_left 1
 ·intro v hSv
  clear hSv
  go_simp
  try with_reducible rfl
 try simp only [Act.put, x_A, x_0, x_1]
 refine x_t (i := 1) (oi := { dst := some 57, op := .move (.tmp 9), .. }) (v := ?_) rfl (Or.inl ⟨by rfl, ?_⟩) ?_
 rotate_left 1
 ·intro v hSv
  clear hSv
  go_simp
  try with_reducible rfl
 try simp only [Act.put, x_A, x_0, x_1]
 refine x_t (i := 2) (oi := { dst := some 58, op := .load _ (.tmp 11), .. }) (v := ?_) rfl (Or.inl ⟨by rfl, ?_⟩) ?_
 rotate_left 1
 ·intro v hSv
  have hv1 := LS.out v hSv |>.1
  clear hSv
  go_simp
  try with_reducible rfl
 try simp only [Act.put, x_A, x_0, x_1]
 refine x_t (i := 3) (oi := { dst := some 59, op := .move (.tmp 3), .. }) (v := ?_) rfl (Or.inl ⟨by rfl, ?_⟩) ?_
 rotate_left 1
 ·intro v hSv
  clear hSv
  go_simp
  try with_reducible rfl
 try simp only [Act.put, x_A, x_0, x_1]
 refine x_t (i := 4) (oi := { dst := some 60, op := .binOp .add _ (.tmp 59) (.const (.int .i64 1)) _, .. }) (v := ?_) rfl (Or.inl ⟨by rfl, ?_⟩) ?_
 rotate_left 1
 ·intro v hSv
  have hv1 := wd
  clear hSv
  go_simp
  try with_reducible rfl
 try simp only [Act.put, x_A, x_0, x_1]
 refine x_t (i := 6) (oi := { dst := some 62, op := .move (.tmp 0), .. }) (v := ?_) rfl (Or.inl ⟨by rfl, ?_⟩) ?_
 rotate_left 1
 ·intro v hSv
  clear hSv
  go_simp
  try with_reducible rfl
 try simp only [Act.put, x_A, x_0, x_1]
 refine x_t (i := 7) (oi := { dst := some 63, op := .move (.tmp 10), .. }) (v := ?_) rfl (Or.inl ⟨by rfl, ?_⟩) ?_
 rotate_left 1
 ·intro v hSv
  clear hSv
  go_simp
  try with_reducible rfl
 try simp only [Act.put, x_A, x_0, x_1]
 refine x_t (i := 8) (oi := { dst := some 64, op := .load _ (.tmp 12), .. }) (v := ?_) rfl (Or.inl ⟨by rfl, ?_⟩) ?_
 rotate_left 1
 ·intro v hSv
  have hv1 := LS.out v hSv |>.2
  clear hSv
  go_simp
  try with_reducible rfl
 try simp only [Act.put, x_A, x_0, x_1]
 refine x_t (i := 9) (oi := { dst := some 65, op := .move (.tmp 3), .. }) (v := ?_) rfl (Or.inl ⟨by rfl, ?_⟩) ?_
 rotate_left 1
 ·intro v hSv
  clear hSv
  go_simp
  try with_reducible rfl
 try simp only [Act.put, x_A, x_0, x_1]
 refine x_t (i := 10) (oi := { dst := some 66, op := .binOp .add _ (.tmp 65) (.const (.int .i64 1)) _, .. }) (v := ?_) rfl (Or.inl ⟨by rfl, ?_⟩) ?_
 rotate_left 1
 ·intro v hSv
  have hv1 := wd
  clear hSv
  go_simp
  try with_reducible rfl
 try simp only [Act.put, x_A, x_0, x_1]
 refine wpAnyH_ready (rs := [5]) (by kernel_rfl) (by simp) ?_
 refine AllReadyH.cons (o := { dst := some 61, op := .call _, .. }) rfl (fun K hK => ?_) AllReadyH.nil
 go_simp
 refine (HCL.out).mono ?_
 rintro e y1 ⟨p1, rfl, HR1, hb⟩
 have hb1 : Keep (fun i => i = b) Y y1 := (hb0).trans hb
 obtain ⟨T1, hp1, hS1, hm1⟩ := HR1.out
 have HC2 := Lib.hid (HCR.out y1 hb1 hm1.hs)
 have HP1 := Lib.hid hp1
 have HS1 := Lib.hid hS1
 have HM1 := Lib.hid hm1
 clear hp1 hS1 hm1 HR1
 clear hb
 go_wp2_with fail
 refine hK.out _ _ (hb1) (fun hHeld => ?_)
 clear hK K
 try simp only [Act.put, x_A, x_0, x_1]
 refine wpAnyH_ready (rs := [11]) (by kernel_rfl) (by simp) ?_
 refine AllReadyH.cons (o := { dst := some 67, op := .call _, .. }) rfl (fun K hK => ?_) AllReadyH.nil
 go_simp
 refine (HC2.out).mono ?_
 rintro e y2 ⟨p2, rfl, HR2, hb⟩
 have hb2 : Keep (fun i => i = b) Y y2 := (hb1).trans hb
 have HK2 := Lib.hid hb
 clear hb
 go_wp2_with fail
 refine hK.out _ _ (hb2) (fun hHeld => ?_)
 clear hK K
 try simp only [Act.put, x_A, x_0, x_1]
 refine x_t (i := 12) (oi := { dst := some 13, op := .assign (.tmp 61), .. }) (v := ?_) rfl (Or.inl ⟨by rfl, ?_⟩) ?_
 rotate_left 1
 ·intro v hSv
  clear hSv
  go_simp
  try with_reducible rfl
 try simp only [Act.put, x_A, x_0, x_1]
 refine x_t (i := 13) (oi := { dst := some 14, op := .assign (.tmp 67), .. }) (v := ?_) rfl (Or.inl ⟨by rfl, ?_⟩) ?_
 rotate_left 1
 ·intro v hSv
  clear hSv
  go_simp
  try with_reducible rfl
 try simp only [Act.put, x_A, x_0, x_1]
 refine wpAnyH_done (by kernel_rfl) ?_ _
 have hb2K : Keep (fun i => i = b) w y2 := (Keep.of_below HBY.out).trans (hb2)
 clear wd
 have HY := Lib.hid HYK.out
 obtain ⟨T2, hp2, hS2, hm2⟩ := HR2.out
 have HP2 := Lib.hid hp2
 have HS2 := Lib.hid hS2
 have HM2 := Lib.hid hm2
 clear hp2 hS2 hm2 HR2 hb0 hb1
 have HMT : Hid (Mn y2 n T) := nd_c.hs HM.out HH.out hb2K
 have HM1Y : Hid (Mn y2 n T1) := HM1.out.aft y2 (HM2.out.keep.mono fun i hi => by have e : i = b := hi; have h1 := lt_of_heap HH.out; have h2 := HYS.out; show i < Y.heap.size; omega) (ms_sides12 (d := d) HMT.out).1
 have HJN : Hid (∀ z, Below y2.heap.size y2 z → Calls Tryz.prog 113 #[.pointer (some ⟨b, 0, none⟩), .pointer p1, .pointer p2] z fun e w' => ∃ T', e = .returned T'.val ∧ SubMap d (appC l (xs.map Cn.chg)) T' ∧ Made Mn w b n T T' (c + cost12 N d) w') := fun z hz => by
  obtain ⟨c3, hc3, hh3⟩ := HM2.out.hs
  have hl1 := HS1.out.len_le
  have hl2 := HS2.out.len_le
  have hl3 := app_sum l (xs.map Cn.chg) (d := d) H256.out
  have hl4 := appC_len (xs.map Cn.chg) l
  rw [List.length_map] at hl4
  have hl5 := HLN.out
  have hl6 := HNX.out
  have hl7 := HCAP.out.2.2
  rw [List.length_map] at hl7
  have hcc := HCO.out
  have hcx := HC.out
  have := nd_c.join z b n c3 T1 T2 (hs_bel12 hh3 hz) (by omega) ((HV.out.hs HH.out hb2K).below hz) (nd_c.below HM1Y.out hz) (nd_c.below HM2.out.ms hz) (by omega)
  rw [HP1.out, HP2.out] at this
  refine this.mono ?_
  rintro _ w' ⟨u, c', rfl, h1, h2, h3, h4, h5⟩
  exact ⟨_, rfl, app_join2 HT.out H256.out HAP.out HS1.out HS2.out, apl_made (lt_of_heap HH.out) HY.out HM1.out HM2.out (fun v hv => ms_sides12 hv) h1 (by omega) h3 ((Keep.of_below hz).trans h4) (fun w2 g1 g2 g3 => h5 w2 (g1.mono fun i hi => by have := hz.size; omega) g2 g3)⟩
 have HSLY : Hid (Mn y2 n (T.sideL d) ∧ Mn y2 n (T.sideR d)) := ms_sides12 HMT.out
 by_cases e1 : p1 = pL
 ·subst e1
  have ep := eql_ptr12 p1 y2
  by_cases e2 : p2 = pR
  ·subst e2
   have ep2 := eql_ptr12 p2 y2
   have HRES : Hid (SubMap d (appC l (xs.map Cn.chg)) T ∧ Made Mn w b n T T (c + cost12 N d) y2) := by
    have q1 := Mn.same HM1Y.out HSLY.out.1 (HP1.out.trans HPL.out.symm)
    have q2 := Mn.same HM2.out.ms HSLY.out.2 (HP2.out.trans HPR.out.symm)
    have s1 := HS1.out
    have s2 := HS2.out
    rw [q1] at s1
    rw [q2] at s2
    obtain ⟨c3, hc3, hh3⟩ := HM2.out.hs
    have hcc := HCO.out
    exact ⟨app_same HT.out H256.out HAP.out s1 s2, HMT.out, ⟨c3, by omega, hh3⟩, hb2K, fun _ _ h => h⟩
   clear HJN hb2 hb2K
   go_wp2_with fail
   go_ret
   exact ⟨T, by rw [HPT.out]; rfl, HRES.out⟩
  ·have ep2 := eql_nodes12 HM2.out.ms HSLY.out.2 HP2.out HPR.out e2
   have HJ := Lib.hid (HJN.out y2 (Below.refl _ _))
   clear HJN hb2 hb2K e2
   go_wp2_with fail
   refine HJ.out.mono ?_
   rintro _ w7 ⟨T', rfl, hs7, hm7⟩
   obtain ⟨p', hp'⟩ := val_ptr nd_c hm7.ms
   rw [hp']
   have HF : Hid (SubMap d (appC l (xs.map Cn.chg)) T' ∧ Made Mn w b n T T' (c + cost12 N d) w7) := ⟨hs7, hm7⟩
   have HP' := Lib.hid hp'
   clear hs7 hm7 hp' HJ ep ep2
   go_wp2_with fail
   go_ret
   exact ⟨T', by rw [HP'.out]; rfl, HF.out⟩
 ·have ep := eql_nodes12 HM1Y.out HSLY.out.1 HP1.out HPL.out e1
  have HJ := Lib.hid (HJN.out y2 (Below.refl _ _))
  clear HJN hb2 hb2K e1
  go_wp2_with fail
  refine HJ.out.mono ?_
  rintro _ w7 ⟨T', rfl, hs7, hm7⟩
  obtain ⟨p', hp'⟩ := val_ptr nd_c hm7.ms
  rw [hp']
  have HF : Hid (SubMap d (appC l (xs.map Cn.chg)) T' ∧ Made Mn w b n T T' (c + cost12 N d) w7) := ⟨hs7, hm7⟩
  have HP' := Lib.hid hp'
  clear hs7 hm7 hp' HJ ep
  go_wp2_with fail
  go_ret
  exact ⟨T', by rw [HP'.out]; rfl, HF.out⟩
theorem apply_endL {b : Nat} {n : Int} {d : Nat} (h256 : d = 256) : ∀ (w : World) (c : Nat) (l : List Ent) (T : Tv) (xs : List Cn) (A B : Option Addr) (cA cB : Nat), Hs w b n c → c + cost12 xs.length d ≤ 60000000 → Vars w → Mn w n T → SubMap d l T → d ≤ 256 → l.length ≤ 2000 → xs.length ≤ 1000 → AptC d l (xs.map Cn.chg) → AscS (xs.map Cn.k) →
  KS w A (xs.map Cn.k) → CA w B xs → xs.length ≤ cA → xs.length ≤ cB → (∀ x ∈ xs, x.v.length ≤ 70000) → ∀ x, xs = [x] →
  Calls Tryz.prog 85 #[ptr b, T.val, .agg (srtC (.slice A xs.length cA) (.slice B xs.length cB)), .int .i64 (d : Int)] w fun e w' => ∃ T', e = .returned T'.val ∧ SubMap d (appC l (xs.map Cn.chg)) T' ∧ Made Mn w b n T T' (c + cost12 xs.length d) w' := by
 intro w c l T xs A B cA cB hh hc hv hM hT hd hl hn hap has hks hca hcA hcB hxv x hx1
 subst hx1
 obtain ⟨hkx, g, o, hA0, hr⟩ := hks 0 x.k rfl
 subst hA0
 obtain ⟨hokx, g2, o2, hB0, hrc⟩ := hca 0 x rfl
 subst hB0
 rw [Nat.zero_mul, Nat.add_zero] at hr hrc
 obtain ⟨pT, hpT⟩ := val_ptr nd_c hM
 have hlk : ∀ e ∈ l, e.k = x.k := by
  subst h256
  exact end_256 hT.sep hap
 have HSM : Hid (∀ u, SubMap d (appC l ([x].map Cn.chg)) (endT u x)) := fun u => app_end (v := u) (c := x.chg) hT.sep hap hlk
 obtain ⟨X, hX⟩ : ∃ X, X = w.alloc (.cells (srtC (.slice (some ⟨g, o, none⟩) 1 cA) (.slice (some ⟨g2, o2, none⟩) 1 cB)) 159) := ⟨_, rfl⟩
 have hbX : Below w.heap.size w X := by rw [hX]; exact (Below.refl _ _).alloc (Nat.le_refl _) _
 have hs0 : X.heap[w.heap.size]? = some (.cells (srtC (.slice (some ⟨g, o, none⟩) 1 cA) (.slice (some ⟨g2, o2, none⟩) 1 cB)) 159 (0, 0)) := by rw [hX]; exact heap_alloc_new w _
 have l0 := cellSo0 hs0
 have l1 := cellSo1 hs0
 have lc := range_cb (range_below hrc hbX) hokx.key
 rw [hX] at l1 lc
 have HLF : Hid (∀ q, Below w.heap.size w q → Calls Tryz.prog 124 #[.pointer (some ⟨b, 0, none⟩), .agg (cnC x).toArray] q fun e w' => ∃ p u, e = .returned (.pointer p) ∧ Hid ((endT u x).val = .pointer p ∧ Made Mn w b n T (endT u x) (c + cost12 1 d) w')) := fun q hq => by
  refine (leafOf_c nd_c q b n c T x (hs_bel12 hh hq) (by omega) (hv.below hq) (hokx.below hq) (hxv x (by simp))).mono ?_
  rintro _ w' ⟨u, rfl, hm⟩
  obtain ⟨p, hp⟩ := val_ptr nd_c hm.ms
  exact ⟨p, u, by rw [hp], hp, (hm.bel12 hq).le12 (by have := cost_one d; omega)⟩
 have HX := Lib.hid hX
 have HBX := Lib.hid hbX
 have b4 : ((d : Int) == 256) = true := by simp; omega
 rw [hX] at l0
 rw [hpT]
 rw [show [x].length = 1 from rfl]
 unfold ptr
 clear hX hbX hs0 hlk hpT hr hrc hkx hokx hh hc hv hM hT hd hl hn hap has hks hca hcA hcB hxv h256
 go_enter Tryz.func85, Tryz.ntmps85
 go_wp2_with fail
 rw [← HX.out]
 obtain ⟨X1, hX1⟩ : ∃ X1, X1 = X := ⟨_, rfl⟩
 have HB1 : Hid (Below w.heap.size w X1) := by rw [hX1]; exact HBX.out
 rw [← hX1]
 clear hX1
 refine (HLF.out X1 HB1.out).mono ?_
 rintro _ w4 ⟨p, u, rfl, HR⟩
 clear HLF
 go_wp2_with fail
 go_ret
 exact ⟨endT u x, by rw [HR.out.1]; rfl, HSM.out u, HR.out.2⟩
theorem apply_end {b : Nat} {n : Int} {d : Nat} (h256 : d < 256) : ∀ (w : World) (c : Nat) (l : List Ent) (T : Tv) (xs : List Cn) (A B : Option Addr) (cA cB : Nat), Hs w b n c → c + cost12 xs.length d ≤ 60000000 → Vars w → Mn w n T → SubMap d l T → d ≤ 256 → l.length ≤ 2000 → xs.length ≤ 1000 → AptC d l (xs.map Cn.chg) → AscS (xs.map Cn.k) →
  KS w A (xs.map Cn.k) → CA w B xs → xs.length ≤ cA → xs.length ≤ cB → (∀ x ∈ xs, x.v.length ≤ 70000) → ∀ x, xs = [x] → endK12 x.k T = true →
  Calls Tryz.prog 85 #[ptr b, T.val, .agg (srtC (.slice A xs.length cA) (.slice B xs.length cB)), .int .i64 (d : Int)] w fun e w' => ∃ T', e = .returned T'.val ∧ SubMap d (appC l (xs.map Cn.chg)) T' ∧ Made Mn w b n T T' (c + cost12 xs.length d) w' := by
 intro w c l T xs A B cA cB hh hc hv hM hT hd hl hn hap has hks hca hcA hcB hxv x hx1 hend
 subst hx1
 obtain ⟨hkx, g, o, hA0, hr⟩ := hks 0 x.k rfl
 subst hA0
 obtain ⟨hokx, g2, o2, hB0, hrc⟩ := hca 0 x rfl
 subst hB0
 rw [Nat.zero_mul, Nat.add_zero] at hr hrc
 obtain ⟨pT, hpT⟩ := val_ptr nd_c hM
 have hlk : ∀ e ∈ l, e.k = x.k := by
  match T, hT, hend with
  | .nil, hT, _ => rw [hT.noneL hd]; intro e he; cases he
  | .leaf v e0, hT, hend => rw [hT.leafL hd]; intro e he; rw [List.mem_singleton.1 he]; exact of_decide_eq_true hend
  | .inner v a c, _, hend => cases hend
 have HSM : Hid (∀ u, SubMap d (appC l ([x].map Cn.chg)) (endT u x)) := fun u => app_end (v := u) (c := x.chg) hT.sep hap hlk
 obtain ⟨X, hX⟩ : ∃ X, X = w.alloc (.cells (srtC (.slice (some ⟨g, o, none⟩) 1 cA) (.slice (some ⟨g2, o2, none⟩) 1 cB)) 159) := ⟨_, rfl⟩
 have hbX : Below w.heap.size w X := by rw [hX]; exact (Below.refl _ _).alloc (Nat.le_refl _) _
 have hs0 : X.heap[w.heap.size]? = some (.cells (srtC (.slice (some ⟨g, o, none⟩) 1 cA) (.slice (some ⟨g2, o2, none⟩) 1 cB)) 159 (0, 0)) := by rw [hX]; exact heap_alloc_new w _
 have l0 := cellSo0 hs0
 have lk := range_keyS (range_below hr hbX) hkx
 rw [hX] at lk
 have HIE : Hid (Calls Tryz.prog 123 #[.pointer pT, .agg (bA x.k)] X fun e w' => e = .returned (.bool true) ∧ Below X.heap.size X w') := by
  have := isEnd_c nd_c X n T x.k pT (nd_c.below hM hbX) hpT hkx
  rwa [hend] at this
 have HLF : Hid (∀ q, Below w.heap.size w q → Calls Tryz.prog 124 #[.pointer (some ⟨b, 0, none⟩), .agg (cnC x).toArray] q fun e w' => ∃ p u, e = .returned (.pointer p) ∧ Hid ((endT u x).val = .pointer p ∧ Made Mn w b n T (endT u x) (c + cost12 1 d) w')) := fun q hq => by
  refine (leafOf_c nd_c q b n c T x (hs_bel12 hh hq) (by omega) (hv.below hq) (hokx.below hq) (hxv x (by simp))).mono ?_
  rintro _ w' ⟨u, rfl, hm⟩
  obtain ⟨p, hp⟩ := val_ptr nd_c hm.ms
  exact ⟨p, u, by rw [hp], hp, (hm.bel12 hq).le12 (by have := cost_one d; omega)⟩
 have HRC := Lib.hid hrc
 have HKX := Lib.hid hokx.key
 have HSB0 := Lib.hid hs0
 have HX := Lib.hid hX
 have HBX := Lib.hid hbX
 have b4 : ((d : Int) == 256) = false := by simp; omega
 rw [hX] at l0
 rw [hpT]
 rw [show [x].length = 1 from rfl]
 unfold ptr
 clear hX hbX hs0 hlk hpT hr hrc hkx hokx hh hc hv hM hT hd hl hn hap has hks hca hcA hcB hxv h256 hend
 go_enter Tryz.func85, Tryz.ntmps85
 go_wp2_with fail
 rw [← HX.out]
 refine HIE.out.mono ?_
 rintro _ X1 ⟨rfl, hB⟩
 have HB1 := Lib.hid (HBX.out.trans (hB.mono HBX.out.size))
 have hs1 := (hB.block _ (lt_of_heap HSB0.out)).trans HSB0.out
 have l1 := cellSo1 hs1
 have lc := range_cb (range_below (range_below HRC.out HBX.out) hB) HKX.out
 clear hs1 HIE hB
 go_wp2_with fail
 refine (HLF.out X1 HB1.out).mono ?_
 rintro _ w4 ⟨p, u, rfl, HR⟩
 clear HLF
 go_wp2_with fail
 go_ret
 exact ⟨endT u x, by rw [HR.out.1]; rfl, HSM.out u, HR.out.2⟩
theorem apply_all {b : Nat} {n : Int} : ∀ (r d : Nat), d + r = 256 → Apl12 b n d
 | r, d, hr => by
  intro w c l T xs A B cA cB hh hc hv hM hT hd hl hn hap has hks hca hcA hcB hxv
  match hxs : xs with
  | [] => exact apply_none w c l T A B cA cB hh hM hT _ (Nat.le_add_right _ _)
  | [x] =>
   rcases Nat.eq_or_lt_of_le hd with h | h
   ·exact apply_endL h w c l T [x] A B cA cB hh hc hv hM hT hd hl hn hap has hks hca hcA hcB hxv x rfl
   ·cases he : endK12 x.k T with
    | true => exact apply_end h w c l T [x] A B cA cB hh hc hv hM hT hd hl hn hap has hks hca hcA hcB hxv x rfl he
    | false => exact apply_one h (apply_all (r - 1) (d + 1) (by omega)) w c l T [x] A B cA cB hh hc hv hM hT hd hl hn hap has hks hca hcA hcB hxv x rfl he
  | x :: y :: q =>
   have h : d < 256 := two_lt hd hap (by rw [List.map_map]; exact has) (by simp)
   exact apply_two h (apply_all (r - 1) (d + 1) (by omega)) w c l T (x :: y :: q) A B cA cB hh hc hv hM hT hd hl hn hap has hks hca hcA hcB hxv (by simp)
termination_by r => r
end
end Go.Proofs.YtkejfdgmdjfdoaaGreatDoor
