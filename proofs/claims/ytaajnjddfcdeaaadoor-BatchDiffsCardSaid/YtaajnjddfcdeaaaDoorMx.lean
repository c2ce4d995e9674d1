/- What the program of layer 7 keeps, as contracts; Grow over them. -/
import Derived.Test.YtaajnjddfcdeaaaDoorMv
import Derived.Test.YtaajnjddfcdeaaaDoorDn
namespace Go.Proofs.YtaajnjddfcdeaaaDoor
open Go.RowKit

/-- A subtree as data. -/
inductive Tr where
  | nil
  | leaf (e : Ent)
  | inner (a b : Tr)
def joinT : Tr → Tr → Tr
  | .nil, .nil => .nil
  | .nil, .leaf e => .leaf e
  | .leaf e, .nil => .leaf e
  | a, b => .inner a b
def growT : Nat → List Ent → Int → Tr
  | 0, l, _ => match l with
    | [] => .nil
    | e :: _ => .leaf e
  | f + 1, l, d => match l with
    | [] => .nil
    | [e] => .leaf e
    | _ :: _ :: _ => joinT (growT f (partK l d 0) (d + 1)) (growT f (partK l d 1) (d + 1))
def lenT : Tr → Nat
  | .nil => 0
  | .leaf _ => 1
  | .inner a b => lenT a + lenT b
theorem lenT_join : ∀ (s t : Tr), lenT (joinT s t) = lenT s + lenT t
  | .nil, .nil => rfl
  | .nil, .leaf _ => by simp [joinT, lenT]
  | .leaf _, .nil => by simp [joinT, lenT]
  | .nil, .inner _ _ => rfl
  | .leaf _, .leaf _ => rfl
  | .leaf _, .inner _ _ => rfl
  | .inner _ _, .nil => rfl
  | .inner _ _, .leaf _ => rfl
  | .inner _ _, .inner _ _ => rfl
theorem growT_none (f : Nat) (d : Int) : growT f [] d = .nil := by cases f <;> rfl
theorem growT_one (f : Nat) (e : Ent) (d : Int) : growT f [e] d = .leaf e := by cases f <;> rfl
theorem growT_two (f : Nat) (l : List Ent) (d : Int) (h : 2 ≤ l.length) : growT (f + 1) l d = joinT (growT f (partK l d 0) (d + 1)) (growT f (partK l d 1) (d + 1)) := by
  match l, h with
  | _ :: _ :: _, _ => rfl
theorem parts_len (l : List En) (d : Int) : (partE l d 0).length + (partE l d 1).length ≤ l.length := by
  induction l with
  | nil => exact Nat.le_refl _
  | cons x r ih =>
    unfold partE at *
    rw [List.filter_cons, List.filter_cons]
    by_cases h0 : bitK x.k d = 0
    · rw [if_pos (decide_eq_true h0), if_neg (by rw [decide_eq_false (by omega)]; simp)]
      rw [List.length_cons, List.length_cons]
      omega
    · rw [if_neg (by rw [decide_eq_false h0]; simp)]
      split
      · rw [List.length_cons, List.length_cons]; omega
      · rw [List.length_cons]; omega
theorem partK_two (l : List Ent) (d : Int) : (partK l d 0).length + (partK l d 1).length ≤ l.length := by
  induction l with
  | nil => exact Nat.le_refl _
  | cons x r ih =>
    unfold partK at *
    rw [List.filter_cons, List.filter_cons]
    by_cases h0 : bitK x.k d = 0
    · rw [if_pos (decide_eq_true h0), if_neg (by rw [decide_eq_false (by omega)]; simp)]
      rw [List.length_cons, List.length_cons]
      omega
    · rw [if_neg (by rw [decide_eq_false h0]; simp)]
      split
      · rw [List.length_cons, List.length_cons]; omega
      · rw [List.length_cons]; omega
theorem growT_len : ∀ (f : Nat) (l : List Ent) (d : Int), lenT (growT f l d) ≤ l.length := by
  have few : ∀ (f : Nat) (l : List Ent) (d : Int), l.length ≤ 1 → lenT (growT f l d) ≤ l.length := by
    intro f l d hl
    match l, hl with
    | [], _ => rw [growT_none]; exact Nat.le_refl _
    | [e], _ => rw [growT_one]; exact Nat.le_refl _
  intro f
  induction f with
  | zero =>
    intro l d
    match l with
    | [] => exact Nat.le_refl _
    | e :: r => show 1 ≤ (e :: r).length; rw [List.length_cons]; omega
  | succ f ih =>
    intro l d
    rcases Nat.lt_or_ge l.length 2 with hl | hl
    · exact few (f + 1) l d (by omega)
    · rw [growT_two f l d hl, lenT_join]
      have a := ih (partK l d 0) (d + 1)
      have b := ih (partK l d 1) (d + 1)
      have c := partK_two l d
      omega
theorem cost (f a b L : Nat) (h : a + b ≤ L) (hL : 1 ≤ L) : (3 * f + 2) * a + (3 * f + 2) * b + 3 ≤ (3 * (f + 1) + 2) * L := by
  have h1 := Nat.mul_le_mul_left (3 * f + 2) h
  rw [Nat.mul_add] at h1
  have h2 : (3 * (f + 1) + 2) * L = (3 * f + 2) * L + 3 * L := by rw [show 3 * (f + 1) + 2 = (3 * f + 2) + 3 by omega, Nat.add_mul]
  omega
/-- A hasher's block holds no entry. -/
theorem Hs.range {w w' : World} {b : Nat} {n : Int} {c : Nat} {g o : Nat} {e : En} (h : Hs w b n c) (hr : w.rangeAt g o (enC e)) (hk : e.k.length = 32) (k : Keep (fun i => i = b) w w') : w'.rangeAt g o (enC e) := by
  have hg : g ≠ b := by
    rintro rfl
    have h1 := hr 0 (bv (e.k.getD 0 0)) (by
      unfold enC
      rw [List.getElem?_append_left (by rw [List.length_map, hk]; decide), List.getElem?_map, List.getD_eq_getElem?_getD, List.getElem?_eq_getElem (by omega)]
      rfl)
    rw [cell_of_cells h, Nat.add_zero] at h1
    match o, h1 with
    | 0, h1 => cases h1
    | 1, h1 => cases h1
    | q + 2, h1 => simp at h1
  intro j v hv
  exact k.cellAt (hr j v hv) hg
theorem Hs.ok {w w' : World} {b : Nat} {n : Int} {c : Nat} {e : En} (h : Hs w b n c) (he : EnOk w e) (k : Keep (fun i => i = b) w w') : EnOk w' e := ⟨he.key, he.cap, h.ba he.val k⟩
theorem Hs.ea {w w' : World} {b : Nat} {n : Int} {c : Nat} {A : Option Addr} {es : List En} (h : Hs w b n c) (hA : EA w A es) (k : Keep (fun i => i = b) w w') : EA w' A es := fun i e hi => by
  obtain ⟨h1, g, o, rfl, h2⟩ := hA i e hi
  exact ⟨h.ok h1 k, g, o, rfl, h.range h2 h1.key k⟩
theorem Vars.hs {w w' : World} {b : Nat} {n : Int} {c : Nat} (hv : Vars w) (h : Hs w b n c) (k : Keep (fun i => i = b) w w') : Vars w' := hv.keep k (h.vars hv).1.symm (h.vars hv).2.symm
/-- What the program's subtrees keep (the length of a join is bounded: an int counts it). -/
structure NdC (N : World → Int → Value → Tr → Prop) : Prop where
  nil : ∀ w n, N w n (.pointer none) .nil
  keep : ∀ {w w' : World} {n : Int} {v : Value} {t : Tr} {b : Nat} {k : Int} {c : Nat}, N w n v t → Hs w b k c → Keep (fun i => i = b) w w' → N w' n v t
  leaf : ∀ (w : World) (b : Nat) (n : Int) (c : Nat) (e : En), Hs w b n c → c ≤ 1000000 → Vars w → EnOk w e → e.v.length ≤ 1000 →
    Calls Tryd.prog 25 #[ptr b, .agg (enC e).toArray] w fun x w' => ∃ v c', x = .returned v ∧ N w' n v (.leaf e.ent) ∧ c' ≤ c + 2 ∧ Hs w' b n c' ∧ Keep (fun i => i = b) w w'
  join : ∀ (w : World) (b : Nat) (n : Int) (c : Nat) (p q : Value) (s t : Tr), Hs w b n c → c ≤ 1000000 → Vars w → N w n p s → N w n q t → lenT s + lenT t ≤ 1000000000 →
    Calls Tryd.prog 26 #[ptr b, p, q] w fun x w' => ∃ v c', x = .returned v ∧ N w' n v (joinT s t) ∧ c' ≤ c + 3 ∧ Hs w' b n c' ∧ Keep (fun i => i = b) w w'
/-- What a call of Grow leaves. -/
def Grown (N : World → Int → Value → Tr → Prop) (b : Nat) (n : Int) (m : Nat) (t : Tr) (w : World) (x : Ending) (w' : World) : Prop :=
  ∃ v c', x = .returned v ∧ N w' n v t ∧ c' ≤ m ∧ Hs w' b n c' ∧ Keep (fun i => i = b) w w'
set_option maxHeartbeats 8000000 in
set_option maxRecDepth 100000 in
theorem grow_c {N : World → Int → Value → Tr → Prop} (nd : NdC N) (n : Int) (b : Nat) : ∀ (f : Nat) (A : Option Addr) (c : Nat) (es : List En) (d : Int) (m : Nat) (w : World), EA w A es → es.length ≤ 100000 → (∀ e ∈ es, e.v.length ≤ 1000) → Deep f d es.length →
    Hs w b n m → Vars w → m + (3 * f + 2) * es.length ≤ 900000 →
    Calls Tryd.prog 14 #[ptr b, .slice A es.length c, .int .i64 d] w (Grown N b n (m + (3 * f + 2) * es.length) (growT f (es.map En.ent) d) w) := by
  have few : ∀ (f : Nat) (A : Option Addr) (c : Nat) (es : List En) (d : Int) (m : Nat) (w : World), EA w A es → (∀ e ∈ es, e.v.length ≤ 1000) → es.length ≤ 1 → Hs w b n m → Vars w → m ≤ 900000 →
      Calls Tryd.prog 14 #[ptr b, .slice A es.length c, .int .i64 d] w (Grown N b n (m + (3 * f + 2) * es.length) (growT f (es.map En.ent) d) w) := by
    intro f A c es d m w hA hv hl hh hvx hm
    rcases Nat.lt_or_ge es.length 1 with h0 | h0
    · have hes : es = [] := List.length_eq_zero_iff.1 (by omega)
      have HE : Hid (growT f (es.map En.ent) d = .nil) := by show _ = _; rw [hes]; exact growT_none f d
      have b1 : ((es.length : Int) == 0) = true := beq_iff_eq.2 (by omega)
      have d1 : decide (es.length = 0) = true := decide_eq_true (by omega)
      have HH := Lib.hid hh
      rw [HE.out]
      clear hes hh hA hv hvx
      go_enter Tryd.func14, Tryd.ntmps14
      go_wp2_with fail
      go_ret
      exact ⟨_, m, rfl, nd.nil _ _, by omega, HH.out, Keep.refl _ _⟩
    · obtain ⟨e, he⟩ : ∃ e, es[0]? = some e := ⟨_, List.getElem?_eq_getElem (by omega)⟩
      have hes : es = [e] := by
        match es, h0, hl, he with
        | [x], _, _, he => simp at he; rw [he]
      have HE : Hid (growT f (es.map En.ent) d = .leaf e.ent) := by show _ = _; rw [hes]; exact growT_one f e.ent d
      obtain ⟨hok, g, o, rfl, hr⟩ := hA 0 e he
      rw [Nat.zero_mul, Nat.add_zero] at hr
      have HC := Lib.hid (nd.leaf w b n m e hh (by omega) hvx hok (hv e (List.mem_of_getElem? he)))
      have le := range_ent hr hok.key
      have pN : 0 < es.length := by omega
      have p1 : (0 : Int) < (es.length : Int) := by omega
      have b1 : ((es.length : Int) == 0) = false := beq_eq_false_iff_ne.2 (by omega)
      have b2 : ((es.length : Int) == 1) = true := beq_iff_eq.2 (by omega)
      have HM : Hid (m + 2 ≤ m + (3 * f + 2) * es.length) := by
        show _ ≤ _
        have : es.length = 1 := by omega
        rw [this]
        omega
      rw [HE.out]
      clear hes hh hA hv hvx hok hr he
      go_enter Tryd.func14, Tryd.ntmps14
      go_wp2_with fail
      refine HC.out.mono ?_
      rintro _ w1 ⟨v, c', rfl, hN, hc', hH, hK⟩
      have HP : Hid (N w1 n v (.leaf e.ent) ∧ c' ≤ m + 2 ∧ Hs w1 b n c' ∧ Keep (fun i => i = b) w w1) := ⟨hN, hc', hH, hK⟩
      clear hN hc' hH hK le
      go_wp2_with fail
      go_ret
      exact ⟨v, c', rfl, HP.out.1, Nat.le_trans HP.out.2.1 HM.out, HP.out.2.2.1, HP.out.2.2.2⟩
  intro f
  induction f with
  | zero =>
    intro A c es d m w hA hn hv hd hh hvx hm
    exact few 0 A c es d m w hA hv (by rcases hd with h | ⟨h0, h1, h2⟩ <;> omega) hh hvx (by omega)
  | succ f ih =>
    intro A c es d m w hA hn hv hd hh hvx hm
    rcases Nat.lt_or_ge es.length 2 with hl | hl
    · exact few (f + 1) A c es d m w hA hv (by omega) hh hvx (by omega)
    have HD0 := Lib.hid (hd.part hl 0 (by omega))
    have HD1 := Lib.hid (hd.part hl 1 (by omega))
    have hd2 : 0 ≤ d ∧ d ≤ 256 := by
      rcases hd with h | ⟨h0, h1, h2⟩
      · omega
      · exact ⟨h0, h1⟩
    obtain ⟨q0, q1⟩ := hd2
    have HT := Lib.hid (growT_two f (es.map En.ent) d (by rw [List.length_map]; exact hl))
    rw [HT.out]
    have HL0 := Lib.hid (Nat.le_trans (partE_len es d 0) hn)
    have HL1 := Lib.hid (Nat.le_trans (partE_len es d 1) hn)
    obtain ⟨P0, hP0⟩ : ∃ x, x = (3 * f + 2) * (partE es d 0).length := ⟨_, rfl⟩
    obtain ⟨P1, hP1⟩ : ∃ x, x = (3 * f + 2) * (partE es d 1).length := ⟨_, rfl⟩
    obtain ⟨M, hM⟩ : ∃ x, x = m + (3 * (f + 1) + 2) * es.length := ⟨_, rfl⟩
    have HCO : Hid (m + P0 + P1 + 3 ≤ M) := by
      show _ ≤ _
      have := cost f _ _ _ (parts_len es d) (by omega)
      rw [hP0, hP1, hM]
      omega
    rw [← hM] at hm ⊢
    have HM9 := Lib.hid hm
    have HP0 := Lib.hid hP0
    have HP1 := Lib.hid hP1
    have d1 : decide (es.length = 0) = false := decide_eq_false (by omega)
    have d2 : decide (es.length = 1) = false := decide_eq_false (by omega)
    have b1 : ((es.length : Int) == 0) = false := beq_eq_false_iff_ne.2 (by omega)
    have b2 : ((es.length : Int) == 1) = false := beq_eq_false_iff_ne.2 (by omega)
    have HIH := Lib.hid ih
    have HA := Lib.hid hA
    have HV := Lib.hid hv
    have HH := Lib.hid hh
    have HVX := Lib.hid hvx
    clear ih hA hv hh hvx hd hP0 hP1 hM hm few HT
    go_enter Tryd.func14, Tryd.ntmps14
    go_wp2_with fail
    refine (part7_c A c es d 0 w HA.out hn).mono ?_
    rintro _ w1 ⟨v1, rfl, hO1, hB1⟩
    obtain ⟨A1, c1, rfl, hc1, hE1⟩ := hO1.ea (fun e he => (HA.out.mem e (partE_mem he)).below hB1)
    have k1 : Keep (fun i => i = b) w w1 := Keep.of_below hB1
    have HH1 := Lib.hid (HH.out.keep (Keep.of_below (L := fun _ => False) hB1) fun h => h)
    have HVX1 := Lib.hid (HVX.out.below hB1)
    have HA1 := Lib.hid (HA.out.below hB1)
    have HE1 := Lib.hid hE1
    have HK1 := Lib.hid k1
    clear hO1 hc1 hE1 hB1 k1
    go_wp2_with fail
    refine (HIH.out A1 c1 (partE es d 0) (d + 1) m w1 HE1.out HL0.out (fun e he => HV.out e (partE_mem he)) HD0.out HH1.out HVX1.out (by rw [← HP0.out]; have := HCO.out; have := HM9.out; omega)).mono ?_
    rintro _ w2 ⟨p, m2, rfl, hN2, hm2, hH2, hK2⟩
    rw [← HP0.out] at hm2
    rw [partE_ent] at hN2
    have HN2 := Lib.hid hN2
    have HM2 := Lib.hid hm2
    have HH2 := Lib.hid hH2
    have HVX2 := Lib.hid (HVX1.out.hs HH1.out hK2)
    have HA2 := Lib.hid (HH1.out.ea HA1.out hK2)
    have HK2 := Lib.hid (HK1.out.trans hK2)
    clear hN2 hm2 hH2 hK2 HE1 HA1 HVX1 HH1 HK1
    go_wp2_with fail
    refine (part7_c A c es d 1 w2 HA2.out hn).mono ?_
    rintro _ w3 ⟨v3, rfl, hO3, hB3⟩
    obtain ⟨A3, c3, rfl, hc3, hE3⟩ := hO3.ea (fun e he => (HA2.out.mem e (partE_mem he)).below hB3)
    have HH3 := Lib.hid (HH2.out.keep (Keep.of_below (L := fun _ => False) hB3) fun h => h)
    have HVX3 := Lib.hid (HVX2.out.below hB3)
    have HE3 := Lib.hid hE3
    have HN3 := Lib.hid (nd.keep HN2.out HH2.out (Keep.of_below hB3))
    have HK3 := Lib.hid (HK2.out.trans (Keep.of_below hB3))
    clear hO3 hc3 hE3 hB3 HH2 HVX2 HA2 HN2 HK2
    go_wp2_with fail
    refine (HIH.out A3 c3 (partE es d 1) (d + 1) m2 w3 HE3.out HL1.out (fun e he => HV.out e (partE_mem he)) HD1.out HH3.out HVX3.out (by rw [← HP1.out]; have := HCO.out; have := HM9.out; have := HM2.out; omega)).mono ?_
    rintro _ w4 ⟨q, m4, rfl, hN4, hm4, hH4, hK4⟩
    rw [← HP1.out] at hm4
    rw [partE_ent] at hN4
    have HM4 : Hid (m4 ≤ m + P0 + P1) := by show _ ≤ _; have := HM2.out; omega
    have HC := Lib.hid (nd.join w4 b n m4 p q _ _ hH4 (by have := HM4.out; have := HCO.out; have := HM9.out; omega) (HVX3.out.hs HH3.out hK4) (nd.keep HN3.out HH3.out hK4) hN4 (by
      have a := growT_len f (partK (es.map En.ent) d 0) (d + 1)
      have b := growT_len f (partK (es.map En.ent) d 1) (d + 1)
      have c := partK_two (es.map En.ent) d
      rw [List.length_map] at c
      omega))
    have HK4 := Lib.hid (HK3.out.trans hK4)
    clear hN4 hm4 hH4 hK4 HN3 HH3 HVX3 HE3 HK3
    go_wp2_with fail
    refine HC.out.mono ?_
    rintro _ w5 ⟨v, m5, rfl, hN5, hm5, hH5, hK5⟩
    have HF : Hid (Grown N b n M (joinT (growT f (partK (es.map En.ent) d 0) (d + 1)) (growT f (partK (es.map En.ent) d 1) (d + 1))) w (.returned v) w5) :=
      ⟨v, m5, rfl, hN5, by have := HM4.out; have := HCO.out; omega, hH5, HK4.out.trans hK5⟩
    clear hN5 hm5 hH5 hK5
    go_wp2_with fail
    go_ret
    exact HF.out
end Go.Proofs.YtaajnjddfcdeaaaDoor
