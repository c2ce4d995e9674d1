import Derived.Test.YtkejfdgmdjfdoaaGreatDoorIk
namespace Go.Proofs.YtkejfdgmdjfdoaaGreatDoor
set_option linter.unusedSimpArgs false
set_option linter.unusedVariables false
set_option maxHeartbeats 16000000
set_option maxRecDepth 100000
open Go.RowKit
theorem putK_head {x : Ent} {r : List Ent} (h : Asc (x :: r)) : putK r x = x :: r := by
 obtain ⟨h1, h2⟩ := List.pairwise_cons.1 h
 have e : rmK r x.k = r := List.filter_eq_self.2 fun y hy => by
  have := (h1 y hy).ne
  simp [Ne.symm this]
 unfold putK
 rw [e]
 cases r with
 | nil => rfl
 | cons y s =>
  show (if _ then _ else _ : List Ent) = _
  rw [if_pos (h1 y (by simp)).cmp]
theorem putK_drop {l : List Ent} (h : Asc l) {j : Nat} {x : Ent} (hx : l[j]? = some x) : putK (l.drop (j + 1)) ⟨x.k, x.v⟩ = l.drop j := by
 obtain ⟨hj, rfl⟩ := List.getElem?_eq_some_iff.1 hx
 have e := List.drop_eq_getElem_cons hj
 have ha : Asc (l.drop j) := List.Pairwise.sublist (List.drop_sublist _ _) h
 rw [e] at ha ⊢
 exact putK_head ha
def SmallV (l : List Ent) : Prop := ∀ e ∈ l, e.v.length ≤ 65535
theorem stepC_small {l : List Ent} {u : Up} (h : SmallV l) (hr : rightK u.k u.val = 0) : SmallV (stepC l u.chg) := by
 unfold stepC
 split
 ·exact fun e he => h e (List.mem_filter.1 he).1
 ·rename_i hd
  intro e he
  rcases putK_mem he with rfl | he
  ·have h1 := (rightK_zero hr).2
   unfold Up.val at h1
   rw [if_neg (show ¬ u.d = true from hd)] at h1
   exact h1
  ·exact h e he
theorem appU_small : ∀ (us : List Up) {l : List Ent}, SmallV l → (∀ u ∈ us, rightK u.k u.val = 0) → SmallV (appU l us)
 | [], _, h, _ => h
 | u :: r, l, h, hr => by
  have := appU_small r (stepC_small h (hr u (by simp))) fun x hx => hr x (by simp [hx])
  exact this
theorem doO_small {l : List Ent} {x : On} (h : SmallV l) : SmallV (doO l x) := by
 unfold doO
 split
 ·split
  ·rename_i hr
   intro e he
   rcases putK_mem he with rfl | he
   ·exact (rightK_zero hr).2
   ·exact h e he
  ·exact h
 ·split
  ·exact h
  ·split
   ·split
    ·exact fun e he => h e (List.mem_filter.1 he).1
    ·exact h
   ·split
    ·rename_i hr
     exact appU_small _ h (checkU_right hr).1
    ·exact h
theorem foldO_small : ∀ (os : List On) {l : List Ent}, SmallV l → SmallV (os.foldl doO l)
 | [], _, h => h
 | x :: r, _, h => foldO_small r (doO_small h)
theorem runO_small (os : List On) : SmallV (runO os) := foldO_small os fun e he => by cases he
structure RU (M : World → Int → Tv → Prop) (Tr : World → Nat → Nat → Int → Tv → Prop) (w : World) (p b : Nat) (n : Int) (l : List Ent) (c : Nat) (X : World) : Prop where
 ts : TS M Tr X p b n c l
 bel : Below w.heap.size w X
 new : w.heap.size ≤ p ∧ w.heap.size ≤ b
section
variable {M : World → Int → Tv → Prop} {Tr : World → Nat → Nat → Int → Tv → Prop} {w X X' : World} {p b : Nat} {n : Int} {l : List Ent} {k c : Nat} {A : Option Addr} {es : List En} {L : Nat → Prop}
theorem TS.other (tv : TrV M Tr) (h : TS M Tr X p b n c l) (hk : Keep L X X') (hc : ∀ i, L i → Ctl X i) (hp : ¬ L p) (hb : ¬ L b) : TS M Tr X' p b n c l := by
 obtain ⟨⟨T, h1, h2, h3⟩, c', hc', h4⟩ := h
 exact ⟨⟨T, tv.keep h1 hk hp, tv.ms h2 hk hc, h3⟩, c', hc', h4.keep hk hb⟩
theorem TS.ctl (tv : TrV M Tr) (h : TS M Tr X p b n c l) : ∀ i, (i = b ∨ i = p) → Ctl X i := fun i hi => by
 obtain ⟨⟨T, h1, h2, h3⟩, c', hc', h4⟩ := h
 rcases hi with e | e
 ·rw [e]; exact h4.ctl
 ·rw [e]; exact tv.ctl h1
theorem RU.below (nd : NdV M) (tv : TrV M Tr) (h : RU M Tr w p b n l c X) (hb : Below X.heap.size X X') : RU M Tr w p b n l c X' := ⟨h.ts.below nd tv hb, h.bel.trans (hb.mono h.bel.size), h.new⟩
theorem RU.othL (tv : TrV M Tr) (h : RU M Tr w p b n l c X) (hk : Keep L X X') (hc : ∀ i, L i → Ctl X i) (hp : ¬ L p) (hb : ¬ L b) (hB : Below w.heap.size w X') : RU M Tr w p b n l c X' := ⟨h.ts.other tv hk hc hp hb, hB, h.new⟩
theorem RI.othL (tv : TrV M Tr) (h : RI M Tr w p b n l k c A es X) (hk : Keep L X X') (hc : ∀ i, L i → Ctl X i) (hp : ¬ L p) (hb : ¬ L b) (hB : Below w.heap.size w X') : RI M Tr w p b n l k c A es X' :=
 ⟨h.ea.ctl hk hc, h.map, h.hvl, h.len, h.asc, h.ts.other tv hk hc hp hb, hB, h.new⟩
theorem RU.keepBP (h : RU M Tr w p b n l c X) (hk : Keep (fun i => i = b ∨ i = p) X X') : Below w.heap.size w X' :=
 h.bel.trans (hk.below h.bel.size fun i hi => by rcases hi with e | e <;> (rw [e]; first | exact h.new.2 | exact h.new.1))
theorem RI.ru (h : RI M Tr w p b n l k c A es X) : RU M Tr w p b n l c X := ⟨h.ts, h.bel, h.new⟩
theorem RU.root (nd : NdV M) (tv : TrV M Tr) (h : RU M Tr w p b n l c X) (hV : Vars w) (hc : c ≤ 20000000) :
  Calls Tryz.prog 16 #[.pointer (some ⟨p, 0, none⟩)] X fun e w' => e = .returned (.agg (bA (rootK 257 n l 0))) ∧ RU M Tr w p b n l (c + 10) w' ∧ Keep (fun i => i = b ∨ i = p) X w' := by
 obtain ⟨⟨T, h1, h2, h3⟩, c', hc', h4⟩ := h.ts
 refine (tv.root X p b n c' T h1 h4 (by omega) (hV.below h.bel) h2).mono ?_
 rintro e w' ⟨rfl, hi⟩
 obtain ⟨c2, hc2, hh2⟩ := hi.hs
 have hk := hi.keep.mono (M := fun i => i = b ∨ i = p) fun _ h => .inl h
 exact ⟨by rw [h3.dig n], ⟨⟨⟨T, tv.keep h1 hi.keep (tv.ne h1 h4), nd.hs h2 h4 hi.keep, h3⟩, c2, by omega, hh2⟩, h.keepBP hk, h.new⟩, hk⟩
theorem RU.len (nd : NdV M) (tv : TrV M Tr) (h : RU M Tr w p b n l c X) (hl : l.length ≤ 500) :
  Calls Tryz.prog 17 #[.pointer (some ⟨p, 0, none⟩)] X fun e w' => e = .returned (.int .i64 (l.length : Int)) ∧ Below X.heap.size X w' := by
 obtain ⟨⟨T, h1, h2, h3⟩, _⟩ := h.ts
 exact tv.len X p b n l T h1 h2 h3 hl
theorem RU.put (nd : NdV M) (tv : TrV M Tr) (h : RU M Tr w p b n l c X) (hV : Vars w) (hc : c ≤ 19000000) (ha : Asc l) (hl : l.length ≤ 500) (B C : Option Addr) (cB cC : Nat) (q v : List UInt8) (hq : BA X B q) (hqc : q.length ≤ cB) (hv : BA X C v) (hvc : v.length ≤ cC) (hr : rightK q v = 0) :
  Calls Tryz.prog 15 #[.pointer (some ⟨p, 0, none⟩), .slice B q.length cB, .slice C v.length cC] X fun e w' => e = .returned .nilIface ∧ RU M Tr w p b n (putK l ⟨q, v⟩) (c + 1000) w' ∧ Keep (fun i => i = b ∨ i = p) X w' := by
 obtain ⟨⟨T, h1, h2, h3⟩, c', hc', h4⟩ := h.ts
 have hz := rightK_zero hr
 refine (tv.put X p b n c' l T B C cB cC q v h1 h4 (by omega) (hV.below h.bel) h2 h3 ha hl hq hqc hv hvc (by omega) (by omega)).mono ?_
 rintro e w' ⟨hy, _⟩
 obtain ⟨T', rfl, hd⟩ := hy hr
 obtain ⟨c2, hc2, hh2⟩ := hd.hs
 exact ⟨rfl, ⟨⟨⟨T', hd.tr, hd.ms, hd.im⟩, c2, by omega, hh2⟩, h.keepBP hd.keep, h.new⟩, hd.keep⟩
end
theorem ba_ent {w : World} {g : Nat} {e : En} (h : w.rangeAt g 0 (enC e)) : BA w (some ⟨g, 0, none⟩) e.k := fun j x hj => ⟨g, 0, rfl, by
 have hl := (List.getElem?_eq_some_iff.1 hj).1
 exact h j (bv x) (by
  unfold enC
  rw [List.getElem?_append_left (by rw [List.length_map]; exact hl), List.getElem?_map, hj]
  rfl)⟩
theorem forgets13_out {M : World → Int → Tv → Prop} {Tr : World → Nat → Nat → Int → Tv → Prop} (nd : NdV M) (tv : TrV M Tr) (n : Int) (A : Option Addr) (c : Nat) (os : List On) (w : World) (hV : Vars w) (hE : Ft.ErrVar w) (hn : n < 0 ∨ 256 < n) : Calls Tryz.prog 4 #[.int .i64 n, .slice A os.length c] w (Aye w) := by
 have HV := Lib.hid hV
 have HE := Lib.hid hE
 have HNW : Hid (∀ y, Calls Tryz.prog 9 #[.int .i64 n] y fun e w' => e = .returned (.tuple #[.pointer none, .int .i64 4]) ∧ Below y.heap.size y w') := fun y => tv.new_no y n hn
 have HAL : Hid (∀ y, Below w.heap.size w y → Calls Tryz.prog 11 #[] y fun e w' => e = .returned (.bool true) ∧ Below y.heap.size y w') := fun y hy => alive13_c nd tv y (HV.out.below hy) (HE.out.below hy)
 have HRG : Hid (decide (0 ≤ n ∧ n ≤ 256) = false) := decide_eq_false (by omega)
 clear hV hE hn
 go_enter Tryz.func4, Tryz.ntmps4
 go_wp2_with fail
 refine (HNW.out w).mono ?_
 rintro _ w1 ⟨rfl, hB1⟩
 have HB1 := Lib.hid hB1
 clear hB1
 go_wp2_with fail
 refine (HNW.out w1).mono ?_
 rintro _ w2 ⟨rfl, hB2⟩
 have HB2 := Lib.hid (HB1.out.trans (hB2.mono HB1.out.size))
 have HRT := Lib.hid (right5_c n w2)
 rw [HRG.out] at HRT
 clear hB2 HNW
 go_wp2_with fail
 refine HRT.out.mono ?_
 rintro _ _ ⟨rfl, rfl⟩
 go_wp2_with fail
 refine (HAL.out w2 HB2.out).mono ?_
 rintro _ wz ⟨rfl, hBx⟩
 have HBx := Lib.hid ((HB2.out).trans (hBx.mono (HB2.out).size))
 clear hBx
 go_wp2_with fail
 go_ret
 exact ⟨rfl, HBx.out⟩
theorem forgets13_in {M : World → Int → Tv → Prop} {Tr : World → Nat → Nat → Int → Tv → Prop} (nd : NdV M) (tv : TrV M Tr) (n : Int) (A : Option Addr) (c : Nat) (os : List On) (w : World) (hA : OA w A os) (hV : Vars w) (hE : Ft.ErrVar w) (h0 : 0 ≤ n) (h1 : n ≤ 256) : Calls Tryz.prog 4 #[.int .i64 n, .slice A os.length c] w (Aye w) := by
 have HOA := Lib.hid hA
 have HV := Lib.hid hV
 have HE := Lib.hid hE
 have HNW : Hid (∀ y, Calls Tryz.prog 9 #[.int .i64 n] y fun e w' => ∃ p b, e = .returned (.tuple #[.pointer (some ⟨p, 0, none⟩), .int .i64 0]) ∧ Tr w' p b n .nil ∧ Hs w' b n 0 ∧ y.heap.size ≤ p ∧ y.heap.size ≤ b ∧ Below y.heap.size y w') := fun y => tv.new_yes y n h0 h1
 have HAL : Hid (∀ y, Below w.heap.size w y → Calls Tryz.prog 11 #[] y fun e w' => e = .returned (.bool true) ∧ Below y.heap.size y w') := fun y hy => alive13_c nd tv y (HV.out.below hy) (HE.out.below hy)
 have HRG : Hid (decide (0 ≤ n ∧ n ≤ 256) = true) := decide_eq_true ⟨h0, h1⟩
 clear hA hV hE h0 h1
 go_enter Tryz.func4, Tryz.ntmps4
 go_wp2_with fail
 refine (HNW.out w).mono ?_
 rintro _ w1 ⟨p, b, rfl, hT, hH, hpw, hbw, hB1⟩
 have HPB : Hid (p < w1.heap.size ∧ b < w1.heap.size) := ⟨tv.lt hT, lt_of_heap hH⟩
 have HI1 : Hid (RI M Tr w p b n [] 0 0 none [] w1) := RI.start hT hH (nd.nil _ _) hB1 ⟨hpw, hbw⟩
 clear hT hH hpw hbw hB1
 go_wp2_with fail
 refine (HNW.out w1).mono ?_
 rintro _ w2 ⟨q, b2, rfl, hT, hH, hpw, hbw, hB2⟩
 have HNE : Hid (p ≠ q ∧ p ≠ b2 ∧ b ≠ q ∧ b ≠ b2) := by
  have := HPB.out
  exact ⟨by omega, by omega, by omega, by omega⟩
 have HI2 := Lib.hid (HI1.out.below nd tv hB2)
 have HU2 : Hid (RU M Tr w q b2 n [] 0 w2) := by
  have := HI1.out.bel.size
  exact ⟨⟨⟨.nil, hT, nd.nil _ _, map_none⟩, 0, Nat.le_refl _, hH⟩, HI2.out.bel, by omega, by omega⟩
 have HRT := Lib.hid (right5_c n w2)
 rw [HRG.out] at HRT
 have HFO := Lib.hid (fewO_c A c os w2 (HOA.out.below HI2.out.bel))
 clear hT hH hpw hbw hB2 HNW HI1 HPB
 go_wp2_with fail
 refine HRT.out.mono ?_
 rintro _ _ ⟨rfl, rfl⟩
 cases hf : fewO os with
 | false =>
  rw [fewI_no hf] at HFO
  clear hf
  go_wp2_with fail
  refine HFO.out.mono ?_
  rintro _ w3 ⟨rfl, hB3⟩
  have HB3 := Lib.hid (HI2.out.bel.trans (hB3.mono HI2.out.bel.size))
  clear hB3 HFO HRT
  go_wp2_with fail
  refine (HAL.out w3 HB3.out).mono ?_
  rintro _ wz ⟨rfl, hBx⟩
  have HBx := Lib.hid ((HB3.out).trans (hBx.mono (HB3.out).size))
  clear hBx
  go_wp2_with fail
  go_ret
  exact ⟨rfl, HBx.out⟩
 | true =>
  rw [fewI_yes hf] at HFO
  have HF := Lib.hid hf
  have HOL := Lib.hid (fewO_len hf)
  clear hf
  go_wp2_with fail
  refine HFO.out.mono ?_
  rintro _ w3 ⟨rfl, hB3⟩
  have HI3 := Lib.hid (HI2.out.below nd tv hB3)
  have HU3 := Lib.hid (HU2.out.below nd tv hB3)
  clear hB3 HFO HRT HI2 HU2
  have hol9 : os.length ≤ 12 := HOL.out
  go_wp2_with fail
  go_loopg [9, 49] os.length (fun gg mv iv wr => ∃ (m : Nat) (A' : Option Addr) (cA : Nat) (es : List En), mv = .slice A' es.length cA ∧ iv = .int .i64 (m : Int) ∧ m ≤ os.length ∧ os.length - m = gg ∧ Hid (RI M Tr w p b n (runO (os.take m)) (20 * m) (90010 * m) A' es wr) ∧ Hid (RU M Tr w q b2 n [] 0 wr))
  case atStart => exact ⟨0, none, 0, [], rfl, rfl, by omega, by omega, HI3.out, HU3.out⟩
  case round =>
   obtain ⟨m, A', cA, es, rfl, rfl, hm, rfl, HI, HU⟩ := hrel
   by_cases hlt : m < os.length
   ·have hd : decide (m < os.length) = true := decide_eq_true hlt
    obtain ⟨x, hx⟩ : ∃ x, os[m]? = some x := ⟨_, List.getElem?_eq_getElem hlt⟩
    obtain ⟨hok, g, o, rfl, hr⟩ := HOA.out m x hx
    have hr2 := range_below hr HI.out.bel
    have c0 := range_on0 hr2
    have c1 := range_on1 hr2
    have c2 := range_on2 hr2
    have c3 := range_on3 hr2
    have HX := Lib.hid hx
    have p0 : (0 : Int) ≤ (m : Int) := by omega
    have p1 : (m : Int) < (os.length : Int) := by omega
    obtain ⟨Y, hY⟩ : ∃ Y, Y = wr.alloc (.cells #[.int .i64 x.kind, .slice x.A x.k.length x.c, .slice x.B x.v.length x.e, .slice x.U x.us.length x.cu] 34) := ⟨_, rfl⟩
    have hbY := below_one hY
    have HIY := Lib.hid (HI.out.below nd tv hbY)
    have HDO := Lib.hid (HIY.out.do nd tv cA x HV.out HE.out (by have := HOL.out; omega) (by have := HOL.out; omega) ((hok.below HI.out.bel).below hbY) (fewOn_all (fewO_at HF.out (List.mem_of_getElem? hx))))
    have HYY := Lib.hid hY
    unfold ptr at HDO
    clear hx hok hr hr2 hY hbY
    go_wp2_with fail
    rw [← HYY.out]
    refine HDO.out.mono ?_
    rintro _ w4 ⟨A4, c4, es4, rfl, hI4, hk4⟩
    have HTK := Lib.hid (runO_take HX.out)
    have HI5 : Hid (RI M Tr w p b n (runO (os.take (m + 1))) (20 * (m + 1)) (90010 * (m + 1)) A4 es4 w4) := by
     rw [show 20 * (m + 1) = 20 * m + 20 by omega, show 90010 * (m + 1) = 90010 * m + 90010 by omega, HTK.out]
     exact hI4.more (by omega)
    have HU5 : Hid (RU M Tr w q b2 n [] 0 w4) := (HU.out.below nd tv (below_one HYY.out)).othL tv hk4 (HIY.out.ts.ctl tv) (fun h => by have := HNE.out; rcases h with e | e <;> simp_all) (fun h => by have := HNE.out; rcases h with e | e <;> simp_all) HI5.out.bel
    clear hk4
    clear hI4 HDO c0 c1 c2 c3
    go_wp2_with fail
    go_roundg (os.length - (m + 1))
    case measure => omega
    case rel => exact ⟨m + 1, A4, c4, es4, rfl, by go_num, by omega, rfl, HI5, HU5⟩
   ·obtain rfl : m = os.length := by omega
    have hd : decide (os.length < os.length) = false := decide_eq_false (by omega)
    have HI9 : Hid (RI M Tr w p b n (runO os) (20 * os.length) (90010 * os.length) A' es wr) := by
     have := HI.out
     rwa [List.take_length] at this
    clear HI
    have HU9 := Lib.hid HU.out
    clear HU
    have HLE : Hid (es.length ≤ 240) := by show _ ≤ _; have := HI9.out.len; have := HOL.out; omega
    have HLM : Hid ((runO os).length = es.length) := by show _ = _; rw [← HI9.out.map, List.length_map]
    have HUS : Hid (RU M Tr w q b2 n ((runO os).drop es.length) 0 wr) := by
     rw [List.drop_of_length_le (by rw [HLM.out]; exact Nat.le_refl _)]
     exact HU9.out
    obtain ⟨l, hl⟩ : ∃ l, l = runO os := ⟨_, rfl⟩
    have HSV : Hid (SmallV l) := by rw [hl]; exact runO_small os
    rw [← hl] at HI9 HLM HUS
    clear hl HU9
    have hle9 : es.length ≤ 240 := HLE.out
    go_wp2_with fail
    go_loopg [63] es.length (fun gg iv wr => ∃ i : Nat, iv = .int .i64 (i : Int) ∧ i ≤ es.length ∧ es.length - i = gg ∧ Hid (RU M Tr w q b2 n (l.drop (es.length - i)) (1000 * i) wr) ∧ Hid (RI M Tr w p b n l (20 * os.length) (90010 * os.length) A' es wr))
    case atStart => exact ⟨0, rfl, by omega, by omega, HUS.out, HI9.out⟩
    case round =>
     obtain ⟨i, rfl, hi, rfl, HU, HT⟩ := hrel
     by_cases hil : i < es.length
     ·have hd : decide (i < es.length) = true := decide_eq_true hil
      obtain ⟨j, hj⟩ : ∃ j, j = es.length - 1 - i := ⟨_, rfl⟩
      have hji : (es.length : Int) - 1 - (i : Int) = (j : Int) := by omega
      obtain ⟨e, he⟩ : ∃ e, es[j]? = some e := ⟨_, List.getElem?_eq_getElem (by omega)⟩
      obtain ⟨hok, g2, o, rfl, hr⟩ := HT.out.ea j e he
      have hle : l[j]? = some e.ent := by rw [← HT.out.map, List.getElem?_map, he]; rfl
      have HPD : Hid (putK (l.drop (es.length - i)) ⟨e.k, e.v⟩ = l.drop (es.length - (i + 1))) := by
       have := putK_drop HT.out.asc hle
       rw [show es.length - i = j + 1 by omega, show es.length - (i + 1) = j by omega]
       exact this
      have hrk : rightK e.k e.v = 0 := by
       have := HSV.out e.ent (List.mem_of_getElem? hle)
       unfold rightK
       rw [if_pos hok.key, if_neg (by show ¬ 65535 < e.ent.v.length; omega)]
      have p0 : (0 : Int) ≤ (j : Int) := by omega
      have p1 : (j : Int) < (es.length : Int) := by omega
      have p2 : j < es.length := by omega
      have le := range_ent hr hok.key
      have st := stE_new (w := wr) (e := e) (z := ⟨z26, none, [], 0⟩) hok.key rfl
      obtain ⟨V, hV⟩ : ∃ V, V = wr.alloc (.cells (enC e).toArray 42) := ⟨_, rfl⟩
      have hbV : Below wr.heap.size wr V := by rw [hV]; exact (Below.refl _ _).alloc (Nat.le_refl _) _
      have hr0 : V.rangeAt wr.heap.size 0 (enC e) := by rw [hV]; exact ent_made wr e _
      have HUV := Lib.hid (HU.out.below nd tv hbV)
      have HTV := Lib.hid (HT.out.below nd tv hbV)
      have HVV := Lib.hid hV
      have HKL := Lib.hid hok.key
      have LV : Hid (∀ v, Keep (fun i => i = b2 ∨ i = q) V v → v.cell? ⟨wr.heap.size, 32, none⟩ = some (.slice e.A e.v.length e.c)) := fun v hv => by
       have h1 := range_val hr0 hok.key
       rw [Nat.zero_add] at h1
       obtain ⟨⟨T5, h5, _, _⟩, c5, _, h6⟩ := HU.out.ts
       have h7 := tv.lt h5
       have h8 := lt_of_heap h6
       exact hv.cellAt h1 fun h => by
        rcases h with h | h
        ·have h9 : wr.heap.size = b2 := h
         omega
        ·have h9 : wr.heap.size = q := h
         omega
      have HPU : Hid (∀ y, Below V.heap.size V y → Calls Tryz.prog 15 #[.pointer (some ⟨q, 0, none⟩), .slice (some ⟨wr.heap.size, 0, none⟩) 32 32, .slice e.A e.v.length e.c] y fun x w' => x = .returned .nilIface ∧ RU M Tr w q b2 n (l.drop (es.length - (i + 1))) (1000 * (i + 1)) w' ∧ Keep (fun i => i = b2 ∨ i = q) V w') := fun y hy => by
       have h1 := (HUV.out.below nd tv hy).put nd tv HV.out (by omega) (List.Pairwise.sublist (List.drop_sublist _ _) HTV.out.asc) (by rw [List.length_drop, HLM.out]; omega) (some ⟨wr.heap.size, 0, none⟩) e.A 32 e.c e.k e.v (ba_ent (range_below hr0 hy)) (by rw [hok.key]; exact Nat.le_refl _) ((hok.val.below hbV).below hy) hok.cap hrk
       rw [hok.key, HPD.out] at h1
       refine h1.mono ?_
       rintro x w' ⟨rfl, h2, h3⟩
       exact ⟨rfl, by rw [show 1000 * (i + 1) = 1000 * i + 1000 by omega]; exact h2, (Keep.of_below hy).trans h3⟩
      have HIL : Hid (i < es.length) := hil
      clear he hok hr hle hrk hV hbV hr0 HPD hil hj
      go_wp2_with fail
      rw [← HVV.out]
      clear st le
      refine wp_region_held_drew (S := fun w' => Keep (fun i => i = b2 ∨ i = q) V w') (by kernel_rfl) (Keep.of_below ((Below.refl _ _).drew)) (fun hHeld => ?_)
      have hb0 : Keep (fun i => i = b2 ∨ i = q) V V.drew := Keep.of_below ((Below.refl _ _).drew)
      refine x_t (i := 0) (oi := { dst := some 74, op := .move (.tmp 7), .. }) (v := ?_) rfl (Or.inl ⟨by rfl, ?_⟩) ?_
      rotate_left 1
      ·intro v hSv
       clear hSv
       go_simp
       try with_reducible rfl
      try simp only [Act.put, x_A, x_0, x_1]
      refine x_t (i := 1) (oi := { dst := some 75, op := .fieldAddr _ (.tmp 13) 0, .. }) (v := ?_) rfl (Or.inl ⟨by rfl, ?_⟩) ?_
      rotate_left 1
      ·intro v hSv
       clear hSv
       go_simp
       try with_reducible rfl
      try simp only [Act.put, x_A, x_0, x_1]
      refine x_t (i := 2) (oi := { dst := some 76, op := .slice _ (.tmp 75) none none none, .. }) (v := ?_) rfl (Or.inl ⟨by rfl, ?_⟩) ?_
      rotate_left 1
      ·intro v hSv
       clear hSv
       go_simp
       try with_reducible rfl
      try simp only [Act.put, x_A, x_0, x_1]
      refine x_t (i := 3) (oi := { dst := some 77, op := .fieldAddr _ (.tmp 13) 1, .. }) (v := ?_) rfl (Or.inl ⟨by rfl, ?_⟩) ?_
      rotate_left 1
      ·intro v hSv
       clear hSv
       go_simp
       try with_reducible rfl
      try simp only [Act.put, x_A, x_0, x_1]
      refine x_t (i := 4) (oi := { dst := some 78, op := .load _ (.tmp 77), .. }) (v := ?_) rfl (Or.inl ⟨by rfl, ?_⟩) ?_
      rotate_left 1
      ·intro v hSv
       have hv1 := LV.out v hSv
       clear hSv
       go_simp
       try with_reducible rfl
      try simp only [Act.put, x_A, x_0, x_1]
      refine wpAnyH_ready (rs := [5]) (by kernel_rfl) (by simp) ?_
      refine AllReadyH.cons (o := { dst := some 79, op := .call _, .. }) rfl (fun K hK => ?_) AllReadyH.nil
      go_simp
      refine (HPU.out V.drew ((Below.refl _ _).drew)).mono ?_
      rintro e y1 ⟨rfl, hu2, hb⟩
      have hb1 : Keep (fun i => i = b2 ∨ i = q) V y1 := hb
      have HU2 := Lib.hid hu2
      clear hu2
      clear hb
      go_wp2_with fail
      refine hK.out _ _ (hb1) (fun hHeld => ?_)
      clear hK K
      try simp only [Act.put, x_A, x_0, x_1]
      refine x_t (i := 6) (oi := { dst := some 80, op := .binOp .neq _ (.tmp 79) (.const .nilIface) _, .. }) (v := ?_) rfl (Or.inl ⟨by rfl, ?_⟩) ?_
      rotate_left 1
      ·intro v hSv
       clear hSv
       go_simp
       try with_reducible rfl
      try simp only [Act.put, x_A, x_0, x_1]
      refine wpAnyH_done (by kernel_rfl) ?_ _
      have HKB := Lib.hid (hb1)
      clear HPU LV
      have HT2 := Lib.hid (HTV.out.othL tv HKB.out (HUV.out.ts.ctl tv) (fun h => by have := HNE.out; rcases h with e | e <;> simp_all) (fun h => by have := HNE.out; rcases h with e | e <;> simp_all) HU2.out.bel)
      go_wp2_with fail
      go_roundg (es.length - (i + 1))
      case measure => have := HIL.out; omega
      case rel => exact ⟨i + 1, by go_num, by have := HIL.out; omega, rfl, HU2, HT2⟩
     ·obtain rfl : i = es.length := by omega
      have hd : decide (es.length < es.length) = false := decide_eq_false (by omega)
      rw [Nat.sub_self, List.drop_zero] at HU
      have hne1 : ¬ (q = b ∨ q = p) ∧ ¬ (b2 = b ∨ b2 = p) := by
       have := HNE.out
       exact ⟨fun h => by rcases h with e | e <;> simp_all, fun h => by rcases h with e | e <;> simp_all⟩
      have hne2 : ¬ (p = b2 ∨ p = q) ∧ ¬ (b = b2 ∨ b = q) := by
       have := HNE.out
       exact ⟨fun h => by rcases h with e | e <;> simp_all, fun h => by rcases h with e | e <;> simp_all⟩
      have HN1 := Lib.hid hne1
      have HN2 := Lib.hid hne2
      have hlm : l.length = es.length := HLM.out
      clear hne1 hne2
      go_wp2_with fail
      refine (HAL.out wr HT.out.bel).mono ?_
      rintro _ w5 ⟨rfl, hB5⟩
      have HT5 := Lib.hid (HT.out.ru.below nd tv hB5)
      have HU5 := Lib.hid (HU.out.below nd tv hB5)
      have HRT5 := Lib.hid (HT5.out.root nd tv HV.out (by have := HOL.out; omega))
      obtain ⟨g, hg⟩ : ∃ g, g = rootK 257 n l 0 := ⟨_, rfl⟩
      have hgl : g.length = 32 := by rw [hg]; exact rootK_len _ _ _ _
      have hq : ∀ x y w, eqA .eql 46 x y w (.agg (bA g)) (.agg (bA g)) = .ok (.value (.bool true)) w := fun x y w => by rw [eqDig g g hgl hgl, decide_eq_true rfl]
      rw [← hg] at HRT5
      have HG := Lib.hid hg
      clear hB5 hg hgl
      go_wp2_with fail
      refine HRT5.out.mono ?_
      rintro _ w6 ⟨rfl, hT6, hk6⟩
      have HU6 := Lib.hid (HU5.out.othL tv hk6 (HT5.out.ts.ctl tv) HN1.out.1 HN1.out.2 hT6.bel)
      have HT6 := Lib.hid hT6
      have HRU := Lib.hid (HU6.out.root nd tv HV.out (by omega))
      rw [← HG.out] at HRU
      clear hT6 hk6 HRT5
      go_wp2_with fail
      refine HRU.out.mono ?_
      rintro _ w7 ⟨rfl, hU7, hk7⟩
      have HT7 := Lib.hid (HT6.out.othL tv hk7 (HU6.out.ts.ctl tv) HN2.out.1 HN2.out.2 hU7.bel)
      have HU7 := Lib.hid hU7
      have HLT := Lib.hid (HT7.out.len nd tv (by omega))
      clear hU7 hk7 HRU
      go_wp2_with fail
      refine HLT.out.mono ?_
      rintro _ w8 ⟨rfl, hB8⟩
      have HU8 := Lib.hid (HU7.out.below nd tv hB8)
      have HLU := Lib.hid (HU8.out.len nd tv (by omega))
      clear hB8 HLT
      go_wp2_with fail
      refine HLU.out.mono ?_
      rintro _ w9 ⟨rfl, hB9⟩
      have HB9 := Lib.hid (HU8.out.bel.trans (hB9.mono HU8.out.bel.size))
      clear hB9
      go_wp2_with fail
      go_ret
      exact ⟨rfl, HB9.out⟩
theorem forgets13_w {M : World → Int → Tv → Prop} {Tr : World → Nat → Nat → Int → Tv → Prop} (nd : NdV M) (tv : TrV M Tr) (n : Int) (A : Option Addr) (c : Nat) (os : List On) (w : World) (hA : OA w A os) (hV : Vars w) (hE : Ft.ErrVar w) : Calls Tryz.prog 4 #[.int .i64 n, .slice A os.length c] w (Aye w) := by
 by_cases h : 0 ≤ n ∧ n ≤ 256
 ·exact forgets13_in nd tv n A c os w hA hV hE h.1 h.2
 ·exact forgets13_out nd tv n A c os w hV hE (by omega)
end Go.Proofs.YtkejfdgmdjfdoaaGreatDoor
