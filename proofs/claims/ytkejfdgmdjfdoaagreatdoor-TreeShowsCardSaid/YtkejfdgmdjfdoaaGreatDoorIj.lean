import Derived.Test.YtkejfdgmdjfdoaaGreatDoorT2
import Derived.Test.YtkejfdgmdjfdoaaGreatDoorFU
namespace Go.Proofs.YtkejfdgmdjfdoaaGreatDoor
set_option linter.unusedSimpArgs false
set_option linter.unusedVariables false
set_option maxHeartbeats 16000000
set_option maxRecDepth 100000
open Go.RowKit
structure TP (M : World → Int → Tv → Prop) (Tr : World → Nat → Nat → Int → Tv → Prop) (w : World) (p b : Nat) (n : Int) (c : Nat) (l : List Ent) (T : Tv) : Prop where
 tr : Tr w p b n T
 hs : ∃ c', c' ≤ c ∧ Hs w b n c'
 vars : Vars w
 err : Ft.ErrVar w
 ms : M w n T
 im : IsMap l T
section
variable {M : World → Int → Tv → Prop} {Tr : World → Nat → Nat → Int → Tv → Prop} {w w' : World} {p b : Nat} {n : Int} {c m : Nat} {l l' : List Ent} {T T' : Tv}
theorem TP.below (nd : NdV M) (tv : TrV M Tr) (h : TP M Tr w p b n c l T) (hb : Below w.heap.size w w') : TP M Tr w' p b n c l T := by
 obtain ⟨c', h1, h2⟩ := h.hs
 exact ⟨tv.keep h.tr (Keep.of_below (L := fun _ => False) hb) (fun h => h), ⟨c', h1, h2.keep (Keep.of_below (L := fun _ => False) hb) fun h => h⟩, h.vars.below hb, h.err.below hb, nd.below h.ms hb, h.im⟩
theorem TP.ctl (tv : TrV M Tr) (h : TP M Tr w p b n c l T) : ∀ i, (i = b ∨ i = p) → Ctl w i := fun i hi => by
 obtain ⟨c', _, h2⟩ := h.hs
 rcases hi with rfl | rfl
 ·exact h2.ctl
 ·exact tv.ctl h.tr
theorem TP.idle (nd : NdV M) (tv : TrV M Tr) (h : TP M Tr w p b n c l T) (hi : Idle w b n m w') : TP M Tr w' p b n m l T := by
 obtain ⟨c', _, h2⟩ := h.hs
 have hc := h.ctl tv
 have hk := hi.keep.mono (M := fun i => i = b ∨ i = p) fun _ h => .inl h
 exact ⟨tv.keep h.tr hi.keep (tv.ne h.tr h2), hi.hs, h.vars.ctl hk hc, errVar_ctl h.err hk hc, nd.hs h.ms h2 hi.keep, h.im⟩
theorem TP.done (tv : TrV M Tr) (h : TP M Tr w p b n c l T) (hi : Done M Tr w p b n l' T T' m w') : TP M Tr w' p b n m l' T' :=
 ⟨hi.tr, hi.hs, h.vars.ctl hi.keep (h.ctl tv), errVar_ctl h.err hi.keep (h.ctl tv), hi.ms, hi.im⟩
end
theorem bel_new {W w w' : World} {L : Nat → Prop} (h : Below W.heap.size W w) (k : Keep L w w') (hL : ∀ i, L i → W.heap.size ≤ i) : Below W.heap.size W w' := h.trans (k.below h.size hL)
theorem m_error13 (h : Value) (w : World) : (Go.method 428 142 h "Error").run Tryz.prog w = .ok (210, h) w := by kernel_rfl
theorem na_error13 (a : Addr) (w : World) : (nilAhead 428 142 (.pointer (some a)) "Error").run Tryz.prog w = .ok (some false) w := by kernel_rfl
theorem itoa13 (n : Nat) (h : n < 10) : Lib.itoa (n : Int) = [UInt8.ofNat (48 + n)] := by
 unfold Lib.itoa
 rw [if_neg (by omega), Int.toNat_natCast, Lib.decDigits, dif_pos h]
theorem text13 : Ft.textL [⟨opB putB, 0⟩] (Ft.errText 2) = [112, 117, 116, 32, 48, 58, 32, 101, 114, 114, 111, 114, 32, 50] := by
 have h3 := itoa13 0 (by decide)
 have h2 := itoa13 2 (by decide)
 rw [show ((0 : Nat) : Int) = 0 from rfl] at h3
 rw [show ((2 : Nat) : Int) = 2 from rfl] at h2
 unfold Ft.textL Ft.textL Ft.frag Ft.errText
 simp only [h3, h2]
 rfl
theorem error13 (w : World) (b : Nat) (hc : Ft.Chain w (.iface 24 (.int .i64 2)) [⟨b, opB putB, 0⟩] (.iface 142 (.pointer (some ⟨b, 0, none⟩)))) : Calls Tryz.prog 210 #[.pointer (some ⟨b, 0, none⟩)] w fun e w' =>
  e = .returned (.string ⟨#[112, 117, 116, 32, 48, 58, 32, 101, 114, 114, 111, 114, 32, 50]⟩) ∧ Below w.heap.size w w' := by
 refine (Ft.ferror_c [⟨b, opB putB, 0⟩] 2 b w hc ?_ ?_ (.inl ⟨2, by decide, rfl⟩) (by simp)).mono ?_
 ·intro s hs
  simp [Ft.Fr.st] at hs
  subst hs
  exact ⟨by decide, by decide, by decide⟩
 ·intro f hf
  simp at hf
  subst hf
  exact .inl ⟨0, by decide, rfl⟩
 ·rintro e w' ⟨rfl, hb⟩
  refine ⟨?_, hb⟩
  have : (Ft.textL (List.map Ft.Fr.st [⟨b, opB putB, 0⟩]) (Ft.errText 2)) = [112, 117, 116, 32, 48, 58, 32, 101, 114, 114, 111, 114, 32, 50] := text13
  rw [this]
def E13 : Ent := ⟨z26, [7]⟩
def z31 : List UInt8 := List.replicate 31 0
theorem put13 : putK [] ⟨z26, [7]⟩ = [E13] := rfl
theorem val13 : valK [E13] z26 = some [7] := by
 unfold valK E13
 rw [List.find?_cons, decide_eq_true rfl]
 rfl
def U13 (A : Option Addr) : Un := ⟨A, z26, 32, none, [], 0, true⟩
theorem chk13 (A : Option Addr) : checkU ([U13 A].map Un.up) = (0, 0) := by
 refine checkU_no fun j hj => ?_
 obtain rfl : j = 0 := by simpa using hj
 rw [badU_at (u := (U13 A).up) rfl]
 have : rightK (U13 A).up.k (U13 A).up.val = 0 := by show rightK z26 [] = 0; decide
 rw [this]
 rfl
theorem app13 (A : Option Addr) : appU [E13] ([U13 A].map Un.up) = [] := by
 show rmK [E13] z26 = []
 unfold rmK E13
 rw [List.filter_cons, decide_eq_true rfl]
 rfl
theorem asc13 : Asc [E13] := List.pairwise_singleton _ _
theorem ba13 {w : World} {g : Nat} {l : List UInt8} (h : w.heap[g]? = some (.cells (bA l) 5 (0, 0))) : BA w (some ⟨g, 0, none⟩) l := BA_row h
theorem below_one {w Y : World} {o : Obj} (h : Y = w.alloc o) : Below w.heap.size w Y := by rw [h]; exact (Below.refl _ _).alloc (Nat.le_refl _) _
theorem heap_one {w Y : World} {o : Obj} (h : Y = w.alloc o) : Y.heap[w.heap.size]? = some o := by rw [h]; exact heap_alloc_new w _
theorem alive13_c {M : World → Int → Tv → Prop} {Tr : World → Nat → Nat → Int → Tv → Prop} (nd : NdV M) (tv : TrV M Tr) (w : World) (hvx : Vars w) (hex : Ft.ErrVar w) : Calls Tryz.prog 11 #[] w (Aye w) := by
 have HVX := Lib.hid hvx
 have HEX := Lib.hid hex
 have mE := m_error13
 have nE := na_error13
 have HNW := Lib.hid (tv.new_yes w 256 (by decide) (by decide))
 have mk31 : ∀ w, (Instr.makeSlice 31 (.int .i64 31) (.int .i64 31)).run Tryz.prog w = .ok (.slice (some ⟨w.heap.size, 0, none⟩) 31 31) (w.alloc (.cells (bA z31) 5)) := fun w => make_b 31 31 rfl (by decide) w
 have mk32 : ∀ w, (Instr.makeSlice 31 (.int .i64 32) (.int .i64 32)).run Tryz.prog w = .ok (.slice (some ⟨w.heap.size, 0, none⟩) 32 32) (w.alloc (.cells (bA z26) 5)) := fun w => make_b 32 32 rfl (by decide) w
 clear hvx hex
 unfold ptr at HNW
 go_enter Tryz.func11, Tryz.ntmps11
 go_wp2_with fail
 refine HNW.out.mono ?_
 rintro _ w1 ⟨p, b, rfl, hT, hH, hpw, hbw, hB1⟩
 have HPB : Hid (∀ i, (i = b ∨ i = p) → w.heap.size ≤ i) := fun i hi => by rcases hi with rfl | rfl <;> assumption
 have HTP : Hid (TP M Tr w1 p b 256 0 [] .nil) := ⟨hT, ⟨0, Nat.le_refl _, hH⟩, HVX.out.below hB1, HEX.out.below hB1, nd.nil _ _, map_none⟩
 have HB1 := Lib.hid hB1
 obtain ⟨Y1, hY1⟩ : ∃ Y, Y = w1.alloc (.cells (bA z31) 5) := ⟨_, rfl⟩
 have hb := below_one hY1
 have htp := HTP.out.below nd tv hb
 obtain ⟨c1, hc1, hh1⟩ := htp.hs
 have HT1 := Lib.hid htp
 have HBY1 := Lib.hid (HB1.out.trans (hb.mono HB1.out.size))
 have HP1 := Lib.hid ((tv.put Y1 p b 256 c1 [] .nil (some ⟨w1.heap.size, 0, none⟩) none 31 0 z31 [] htp.tr hh1 (by omega) htp.vars htp.ms htp.im List.Pairwise.nil (by decide) (ba13 (heap_one hY1)) (by decide) (BA_nil _ _) (by decide) (by decide) (by decide)).mono fun e w' h => h.2 (by decide))
 have HC1 : Hid (c1 + 1000 ≤ 1000) := by show _ ≤ _; omega
 have HYY1 := Lib.hid hY1
 clear hT hH hpw hbw hB1 hY1 hb htp hc1 hh1 HNW
 unfold ptr at HP1
 go_wp2_with fail
 rw [← HYY1.out]
 refine HP1.out.mono ?_
 rintro _ w2 ⟨v1, rfl, hW, hI⟩
 obtain ⟨b1, hch⟩ := hW
 obtain rfl := hch.1
 have HB2 := Lib.hid (bel_new HBY1.out hI.keep fun i hi => HPB.out i (.inl hi))
 have HT2 := Lib.hid (HT1.out.idle nd tv hI)
 have HER := Lib.hid (error13 w2 b1 hch)
 clear hch hI HP1
 go_wp2_with fail
 refine HER.out.mono ?_
 rintro _ w3 ⟨rfl, hB⟩
 have HB3 := Lib.hid (HB2.out.trans (hB.mono HB2.out.size))
 have HT3 := Lib.hid (HT2.out.below nd tv hB)
 obtain ⟨Y3, hY3⟩ : ∃ Y, Y = w3.alloc (.cells (bA z26) 5) := ⟨_, rfl⟩
 obtain ⟨Z3, hZ3⟩ : ∃ Z, Z = Y3.alloc (.cells #[.int .u8 7] 5) := ⟨_, rfl⟩
 have hs3 : Y3.heap.size = w3.heap.size + 1 := by rw [hY3]; simp
 have hb := below_one hY3
 have hb2 := below_one hZ3
 have hbz := hb.trans (hb2.mono hb.size)
 have htp := HT3.out.below nd tv hbz
 obtain ⟨c3, hc3, hh3⟩ := htp.hs
 have HBZ3 := Lib.hid (HB3.out.trans (hbz.mono HB3.out.size))
 have HP3 := Lib.hid ((tv.put Z3 p b 256 c3 [] .nil (some ⟨w3.heap.size, 0, none⟩) (some ⟨w3.heap.size + 1, 0, none⟩) 32 1 z26 [7] htp.tr hh3 (by have := HC1.out; omega) htp.vars htp.ms htp.im List.Pairwise.nil (by decide) ((ba13 (heap_one hY3)).below hb2) (by decide) (by rw [← hs3]; exact ba13 (heap_one hZ3)) (by decide) (by decide) (by decide)).mono fun e w' h => h.1 (by decide))
 rw [put13] at HP3
 have HT3z := Lib.hid htp
 have HC3 : Hid (c3 + 1000 ≤ 3000) := by show _ ≤ _; have := HC1.out; omega
 have HYY3 := Lib.hid hY3
 have HZZ3 := Lib.hid hZ3
 clear hB hY3 hZ3 hs3 hb hb2 hbz htp hc3 hh3 HER
 unfold ptr at HP3
 go_wp2_with fail
 rw [← HYY3.out, ← HZZ3.out]
 refine HP3.out.mono ?_
 rintro _ w4 ⟨T1, rfl, hDN⟩
 have HT4 := Lib.hid (HT3z.out.done tv hDN)
 have HB4 := Lib.hid (bel_new HBZ3.out hDN.keep HPB.out)
 obtain ⟨Y4, hY4⟩ : ∃ Y, Y = w4.alloc (.cells (bA z26) 5) := ⟨_, rfl⟩
 have hb := below_one hY4
 have htp := HT4.out.below nd tv hb
 have HBY4 := Lib.hid (HB4.out.trans (hb.mono HB4.out.size))
 have HP4 := Lib.hid ((tv.get Y4 p b 256 [E13] T1 (some ⟨w4.heap.size, 0, none⟩) 32 z26 htp.tr htp.ms htp.im (ba13 (heap_one hY4)) (by decide) (by decide)).mono fun e w' h => h.1 (by decide))
 rw [val13] at HP4
 have HT4y := Lib.hid htp
 have HYY4 := Lib.hid hY4
 clear hDN hY4 hb htp HP3
 unfold ptr at HP4
 go_wp2_with fail
 rw [← HYY4.out]
 refine HP4.out.mono ?_
 rintro _ w5 ⟨B5, cB5, rfl, _, hB⟩
 have HB5 := Lib.hid (HBY4.out.trans (hB.mono HBY4.out.size))
 have HT5 := Lib.hid (HT4y.out.below nd tv hB)
 obtain ⟨Y5, hY5⟩ : ∃ Y, Y = w5.alloc (.cells #[.int .u8 1] 5) := ⟨_, rfl⟩
 have hb := below_one hY5
 have htp := HT5.out.below nd tv hb
 obtain ⟨c5, hc5, hh5⟩ := htp.hs
 have HBY5 := Lib.hid (HB5.out.trans (hb.mono HB5.out.size))
 have HP5 := Lib.hid ((tv.delete Y5 p b 256 c5 [E13] T1 (some ⟨w5.heap.size, 0, none⟩) 1 [1] htp.tr hh5 (by have := HC3.out; omega) htp.vars htp.ms htp.im asc13 (by decide) (ba13 (heap_one hY5)) (by decide) (by decide)).mono fun e w' h => h.2 (by decide))
 have HT5y := Lib.hid htp
 have HC5 : Hid (c5 + 1000 ≤ 5000) := by show _ ≤ _; have := HC3.out; omega
 have HYY5 := Lib.hid hY5
 clear hB hY5 hb htp hc5 hh5 HP4
 unfold ptr at HP5
 go_wp2_with fail
 rw [← HYY5.out]
 refine HP5.out.mono ?_
 rintro _ w6 ⟨v2, rfl, hW, hI⟩
 obtain ⟨b2, hch⟩ := hW
 obtain rfl := hch.1
 have HB6 := Lib.hid (bel_new HBY5.out hI.keep fun i hi => HPB.out i (.inl hi))
 have HT6 := Lib.hid (HT5y.out.idle nd tv hI)
 have HCD := Lib.hid (Ft.code_some [⟨b2, opB deleteB, 0⟩] 2 _ w6 hch HT6.out.err (by simp))
 clear hch hI HP5
 go_wp2_with fail
 refine HCD.out.mono ?_
 rintro _ w7 ⟨rfl, hB⟩
 have HB7 := Lib.hid (HB6.out.trans (hB.mono HB6.out.size))
 have HT7 := Lib.hid (HT6.out.below nd tv hB)
 have HL7 := Lib.hid (tv.len w7 p b 256 [E13] T1 HT7.out.tr HT7.out.ms HT7.out.im (by decide))
 clear hB HCD
 unfold ptr at HL7
 go_wp2_with fail
 refine HL7.out.mono ?_
 rintro _ w8 ⟨rfl, hB⟩
 have HB8 := Lib.hid (HB7.out.trans (hB.mono HB7.out.size))
 have HT8 := Lib.hid (HT7.out.below nd tv hB)
 obtain ⟨Y8, hY8⟩ : ∃ Y, Y = w8.alloc (.cells (bA z26) 5) := ⟨_, rfl⟩
 obtain ⟨Z8, hZ8⟩ : ∃ Z, Z = Y8.alloc (.cells #[.slice (some ⟨w8.heap.size, 0, none⟩) 32 32, .slice none 0 0, .bool true] 77) := ⟨_, rfl⟩
 have hs8 : Y8.heap.size = w8.heap.size + 1 := by rw [hY8]; simp
 have hb := below_one hY8
 have hb2 := below_one hZ8
 have hbz := hb.trans (hb2.mono hb.size)
 have htp := HT8.out.below nd tv hbz
 obtain ⟨c8, hc8, hh8⟩ := htp.hs
 have HBZ8 := Lib.hid (HB8.out.trans (hbz.mono HB8.out.size))
 have hua : UA Z8 (some ⟨w8.heap.size + 1, 0, none⟩) [U13 (some ⟨w8.heap.size, 0, none⟩)] := by
  rw [← hs8]
  exact ua_one (heap_one hZ8) ⟨(ba13 (heap_one hY8)).below hb2, (by show z26.length ≤ 32; decide), BA_nil _ _, Nat.le_refl _⟩
 have HP8 := Lib.hid ((tv.apply Z8 p b 256 c8 [E13] T1 (some ⟨w8.heap.size + 1, 0, none⟩) 1 [U13 (some ⟨w8.heap.size, 0, none⟩)] htp.tr hh8 (by have := HC5.out; omega) htp.vars htp.ms htp.im asc13 (by decide) hua (by simp) (by simp) (fun u hu => by rw [List.mem_singleton.1 hu]; exact ⟨(by show z26.length ≤ 70000; decide), Nat.zero_le _⟩)).mono fun e w' h => h.1 (by rw [chk13]))
 rw [app13] at HP8
 have HT8z := Lib.hid htp
 have HYY8 := Lib.hid hY8
 have HZZ8 := Lib.hid hZ8
 clear hB hY8 hZ8 hs8 hb hb2 hbz htp hc8 hh8 hua HL7
 unfold ptr at HP8
 go_wp2_with fail
 rw [← HYY8.out, ← HZZ8.out]
 refine HP8.out.mono ?_
 rintro _ w9 ⟨T2, rfl, hDN⟩
 have HT9 := Lib.hid (HT8z.out.done tv hDN)
 have HB9 := Lib.hid (bel_new HBZ8.out hDN.keep HPB.out)
 have HL9 := Lib.hid (tv.len w9 p b 256 [] T2 HT9.out.tr HT9.out.ms HT9.out.im (by decide))
 clear hDN HP8
 unfold ptr at HL9
 go_wp2_with fail
 refine HL9.out.mono ?_
 rintro _ w10 ⟨rfl, hB⟩
 have HB10 := Lib.hid (HB9.out.trans (hB.mono HB9.out.size))
 clear hB HL9
 go_wp2_with fail
 go_ret
 exact ⟨rfl, HB10.out⟩
end Go.Proofs.YtkejfdgmdjfdoaaGreatDoor
