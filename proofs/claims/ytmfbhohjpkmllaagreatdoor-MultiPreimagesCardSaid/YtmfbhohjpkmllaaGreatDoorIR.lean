import Derived.Test.YtmfbhohjpkmllaaGreatDoorIF
import Derived.Test.YtmfbhohjpkmllaaGreatDoorIL
import Derived.Test.YtmfbhohjpkmllaaGreatDoorMO
namespace Go.Proofs.YtmfbhohjpkmllaaGreatDoor
set_option linter.unusedSimpArgs false
set_option linter.unusedVariables false
set_option maxHeartbeats 16000000
set_option maxRecDepth 100000
section
open Go.RowKit
theorem proves19_in {M : World → Int → Tv → Prop} (nd : NdV M) (mu : MuV M) (al : Alive19) (n : Int) (A : Option Addr) (c : Nat) (es : List En) (B : Option Addr) (cb : Nat) (ks : List (List UInt8)) (W : World) (hA : EA W A es) (hl : es.length ≤ 12) (hvl : ∀ e ∈ es, e.v.length ≤ 1000) (hf : fewK (es.map En.ent) = true) (hvx : Vars W) (hK : KS W B ks) (hkc : ks.length ≤ cb) (h30 : ks.length ≤ 30) (h0 : 0 ≤ n) (h1 : n ≤ 256) :
  Calls Tryz.prog 3 #[.int .i64 n, .slice A es.length c, .slice B ks.length cb] W (Aye W) := by
 have HT := Lib.hid (tree_in nd n A c es W hA hl hvl hf hvx h0 h1)
 have HVE : Hid (∀ e ∈ ofE es, e.v.length ≤ 1000) := fun e he => hvl e (ofE_mem he)
 have HLE : Hid ((ofE es).length ≤ 1000) := Nat.le_trans (ofE_len es) (Nat.le_trans hl (by decide))
 have HN := Lib.hid (And.intro h0 h1)
 have HVX := Lib.hid hvx
 have HK := Lib.hid hK
 have HKC := Lib.hid hkc
 have HAL := Lib.hid al
 have h300 : Hid (ks.length ≤ 30) := h30
 have d30 : decide ((30 : Int) < (ks.length : Int)) = false := decide_eq_false (by omega)
 clear hA hvl hf hvx h0 h1 hl hK hkc al h30
 have bk : ∀ w, bldA 39 w #[] = .ok (.value (.agg (bA z26))) w := bldKey_none19
 go_enter Tryz.func3, Tryz.ntmps3
 go_wp2_with fail
 refine HT.out.mono ?_
 rintro _ w2 ⟨A2, c2, T, rfl, hc2, hI, hF⟩
 have HI := Lib.hid hI
 have HF2 := Lib.hid hF
 obtain ⟨O, hO⟩ : ∃ O, O = ofE es := ⟨_, rfl⟩
 rw [← hO] at HI HF2 HVE HLE ⊢
 clear hc2 hI hF HT hO
 have HHI := Lib.hid (hash_in n w2 HN.out.1 HN.out.2)
 go_wp2_with fail
 refine HHI.out.mono ?_
 rintro _ w3 ⟨b, rfl, hbn, hH, hB⟩
 have HF3 := Lib.hid (HF2.out.below nd hB)
 have HH3 := Lib.hid hH
 have HXB : Hid (W.heap.size ≤ b) := Nat.le_trans HF2.out.bel.size hbn
 have HB3 : Hid (Below W.heap.size W w3) := HF3.out.bel
 have HK3 := Lib.hid (HK.out.below HB3.out)
 clear hbn hH hB HHI HF2
 obtain ⟨z, hz⟩ : ∃ z, z = keysI ks := ⟨_, rfl⟩
 have HZ := Lib.hid hz
 by_cases hz0 : z = 0
 rotate_left 1
 ·have HPB := mu.proveBad w3 b n 0 (O.map En.ent) T ks B cb HH3.out (by decide) HF3.out.vars HF3.out.ms HI.out HK3.out HKC.out (by have := h300.out; omega) (by rw [← hz]; exact hz0)
  rw [← hz] at HPB
  have HPB := Lib.hid HPB
  clear hz
  go_wp2_with fail
  refine HPB.out.mono ?_
  rintro _ w4 ⟨A4, c4, m4, rfl, _, hH4, hk4⟩
  have HB4 : Hid (Below W.heap.size W w4) := keep_new HB3.out HXB.out hk4
  have HK4 := Lib.hid (HK3.out.hs19 HH3.out hk4)
  have HRK := rkeys19_c B cb ks w4 HK4.out (by have := h300.out; omega)
  rw [← HZ.out] at HRK
  have HRK := Lib.hid HRK
  clear hH4 hk4 HPB
  go_wp2_with fail
  refine HRK.out.mono ?_
  rintro _ w5 ⟨rfl, hb5⟩
  have HB5 := Lib.hid (HB4.out.trans (hb5.mono HB4.out.size))
  have HMK := mu.keys w5 ks B cb (HK4.out.below hb5) HKC.out (by have := h300.out; omega)
  rw [← HZ.out] at HMK
  have HMK := Lib.hid HMK
  clear hb5 HRK
  go_wp2_with fail
  refine HMK.out.mono ?_
  rintro _ w6 ⟨rfl, hb6⟩
  have HB6 := Lib.hid (HB5.out.trans (hb6.mono HB5.out.size))
  have HAL6 := Lib.hid (HAL.out w6 (HVX.out.below HB6.out))
  clear hb6 HMK
  go_wp2_with fail
  refine HAL6.out.mono ?_
  rintro _ w7 ⟨rfl, hb7⟩
  have HB7 := Lib.hid (HB6.out.trans (hb7.mono HB6.out.size))
  clear hb7
  go_wp2_with fail
  go_ret
  exact ⟨rfl, HB7.out⟩
 ·subst hz0
  obtain ⟨q, hq⟩ : ∃ q, q = (prvM n 256 (O.map En.ent) ks 0).flat := ⟨_, rfl⟩
  have HPV := mu.prove w3 b n 0 (O.map En.ent) T ks B cb HH3.out (by decide) HF3.out.vars HF3.out.ms HI.out (by rw [List.length_map]; exact HLE.out) HK3.out HKC.out (by have := h300.out; omega) hz.symm
  rw [← hq] at HPV
  have HPV := Lib.hid HPV
  have HQ := Lib.hid hq
  clear hz hq
  go_wp2_with fail
  refine HPV.out.mono ?_
  rintro _ w4 ⟨A4, c4, m4, rfl, hI4, hc4, _, hH4, hk4⟩
  have HB4 : Hid (Below W.heap.size W w4) := keep_new HB3.out HXB.out hk4
  have HK4 := Lib.hid (HK3.out.hs19 HH3.out hk4)
  have HE4 := Lib.hid (HF3.out.ea.hs19 HH3.out hk4)
  have HI4 := Lib.hid hI4
  have HRK := rkeys19_c B cb ks w4 HK4.out (by have := h300.out; omega)
  rw [← HZ.out] at HRK
  have HRK := Lib.hid HRK
  clear hH4 hk4 HPV hI4 hc4
  go_wp2_with fail
  refine HRK.out.mono ?_
  rintro _ w5 ⟨rfl, hb5⟩
  have HB5 := Lib.hid (HB4.out.trans (hb5.mono HB4.out.size))
  have HK5 := Lib.hid (HK4.out.below hb5)
  have HE5 := Lib.hid (HE4.out.below hb5)
  have HI5 := Lib.hid (HI4.out.below hb5)
  have HMK := mu.keys w5 ks B cb HK5.out HKC.out (by have := h300.out; omega)
  rw [← HZ.out] at HMK
  have HMK := Lib.hid HMK
  clear hb5 HRK
  go_wp2_with fail
  refine HMK.out.mono ?_
  rintro _ w6 ⟨rfl, hb6⟩
  have HB6 := Lib.hid (HB5.out.trans (hb6.mono HB5.out.size))
  have HK6 := Lib.hid (HK5.out.below hb6)
  have HE6 := Lib.hid (HE5.out.below hb6)
  have HI6 := Lib.hid (HI5.out.below hb6)
  have HAL6 := Lib.hid (HAL.out w6 (HVX.out.below HB6.out))
  clear hb6 HMK
  go_wp2_with fail
  refine HAL6.out.mono ?_
  rintro _ w7 ⟨rfl, hb7⟩
  have HB7 := Lib.hid (HB6.out.trans (hb7.mono HB6.out.size))
  have HK7 := Lib.hid (HK6.out.below hb7)
  have HE7 := Lib.hid (HE6.out.below hb7)
  have HI7 := Lib.hid (HI6.out.below hb7)
  have hrp := rprove19_c n B cb ks (by have := h300.out; omega) 256 0 rfl A2 c2 O z26 w7 HE7.out HK7.out HLE.out HVE.out rfl HI.out.sep
  rw [prvR_all, ← HQ.out] at hrp
  have HRP := Lib.hid hrp
  have hko : ∀ e ∈ O.map En.ent, e.k.length = 32 := fun e he => by
   obtain ⟨x, hx, rfl⟩ := List.mem_map.1 he
   obtain ⟨i, hi⟩ := List.getElem?_of_mem hx
   exact (HE7.out i x hi).1.key
  have HOK : Hid (∀ x ∈ q, x.Ok) := by show ∀ x ∈ q, x.Ok; rw [HQ.out, ← prvR_all]; exact prvR_oks n ks 256 _ _ _ hko
  have HQL : Hid (q.length ≤ 1000000) := by
   show _ ≤ _
   rw [HQ.out, ← prvR_all]
   have := prvR_len n ks 256 (O.map En.ent) z26 0
   rw [List.length_map] at this
   have := HLE.out
   omega
  clear hb7 hrp hko
  go_wp2_with fail
  refine HRP.out.mono ?_
  rintro _ w8 ⟨v, rfl, how, hb8⟩
  obtain ⟨A8, c8, rfl, h8, hc8⟩ := how.ia HOK.out
  have HB8 := Lib.hid (HB7.out.trans (hb8.mono HB7.out.size))
  have hsm := rsame19_c A4 A8 c4 c8 q q w8 (HI7.out.below hb8) h8 HQL.out
  rw [decide_eq_true (show q = q from rfl)] at hsm
  have HSM := Lib.hid hsm
  clear how hb8 h8 hc8 hsm HRP
  go_wp2_with fail
  refine HSM.out.mono ?_
  rintro _ w9 ⟨rfl, hb9⟩
  have HB9 := Lib.hid (HB8.out.trans (hb9.mono HB8.out.size))
  clear hb9 HSM
  go_wp2_with fail
  go_ret
  exact ⟨rfl, HB9.out⟩
theorem proves19_many {M : World → Int → Tv → Prop} (nd : NdV M) (al : Alive19) (n : Int) (A : Option Addr) (c : Nat) (es : List En) (B : Option Addr) (cb : Nat) (kn : Nat) (W : World) (hA : EA W A es) (hl : es.length ≤ 12) (hvl : ∀ e ∈ es, e.v.length ≤ 1000) (hf : fewK (es.map En.ent) = true) (hvx : Vars W) (h30 : ¬ kn ≤ 30) (h0 : 0 ≤ n) (h1 : n ≤ 256) :
  Calls Tryz.prog 3 #[.int .i64 n, .slice A es.length c, .slice B kn cb] W (Aye W) := by
 have HT := Lib.hid (tree_in nd n A c es W hA hl hvl hf hvx h0 h1)
 have HN := Lib.hid (And.intro h0 h1)
 have HVX := Lib.hid hvx
 have HAL := Lib.hid al
 have d30 : decide ((30 : Int) < (kn : Int)) = true := decide_eq_true (by omega)
 clear hA hvl hf hvx h0 h1 hl al h30
 go_enter Tryz.func3, Tryz.ntmps3
 go_wp2_with fail
 refine HT.out.mono ?_
 rintro _ w2 ⟨A2, c2, T, rfl, hc2, hI, hF⟩
 have HF2 := Lib.hid hF
 clear hc2 hI hF HT
 have HHI := Lib.hid (hash_in n w2 HN.out.1 HN.out.2)
 go_wp2_with fail
 refine HHI.out.mono ?_
 rintro _ w3 ⟨b, rfl, hbn, hH, hB⟩
 have HB3 : Hid (Below W.heap.size W w3) := (HF2.out.below nd hB).bel
 have HAL3 := Lib.hid (HAL.out w3 (HVX.out.below HB3.out))
 clear hbn hH hB HHI HF2
 go_wp2_with fail
 refine HAL3.out.mono ?_
 rintro _ w4 ⟨rfl, hb4⟩
 have HB4 := Lib.hid (HB3.out.trans (hb4.mono HB3.out.size))
 clear hb4 HAL3
 go_wp2_with fail
 go_ret
 exact ⟨rfl, HB4.out⟩
theorem proves19_out (al : Alive19) (n : Int) (A : Option Addr) (c : Nat) (es : List En) (B : Option Addr) (cb : Nat) (kn : Nat) (W : World) (hA : EA W A es) (hvx : Vars W) (h : (n < 0 ∨ 256 < n) ∨ fewK (es.map En.ent) = false) :
  Calls Tryz.prog 3 #[.int .i64 n, .slice A es.length c, .slice B kn cb] W (Aye W) := by
 have HT := Lib.hid (tree_out n A c es W hA h)
 have HVX := Lib.hid hvx
 have HAL := Lib.hid al
 clear hA h hvx al
 go_enter Tryz.func3, Tryz.ntmps3
 go_wp2_with fail
 refine HT.out.mono ?_
 rintro _ w2 ⟨rfl, hB⟩
 have HB := Lib.hid hB
 clear hB HT
 go_wp2_with fail
 refine (hash_any n w2).mono ?_
 rintro _ w3 ⟨q, rfl, hB3⟩
 have HB3 := Lib.hid (keeps HB.out hB3)
 clear hB3
 go_wp2_with fail
 refine (HAL.out w3 (HVX.out.below HB3.out)).mono ?_
 rintro _ w4 ⟨rfl, hB4⟩
 have HB4 := Lib.hid (keeps HB3.out hB4)
 clear hB4
 go_wp2_with fail
 go_ret
 exact ⟨rfl, HB4.out⟩
theorem proves19_w {M : World → Int → Tv → Prop} (nd : NdV M) (mu : MuV M) (al : Alive19) (n : Int) (A : Option Addr) (c : Nat) (es : List En) (B : Option Addr) (cb : Nat) (ks : List (List UInt8)) (W : World) (hA : EA W A es) (hvx : Vars W) (hK : KS W B ks) (hkc : ks.length ≤ cb) :
  Calls Tryz.prog 3 #[.int .i64 n, .slice A es.length c, .slice B ks.length cb] W (Aye W) := by
 by_cases h : (n < 0 ∨ 256 < n) ∨ fewK (es.map En.ent) = false
 ·exact proves19_out al n A c es B cb ks.length W hA hvx h
 ·have hf : fewK (es.map En.ent) = true := by
   cases hc : fewK (es.map En.ent) with
   | true => rfl
   | false => exact absurd (.inr hc) h
  have hl := few_len hf
  rw [List.length_map] at hl
  have hvl : ∀ e ∈ es, e.v.length ≤ 1000 := fun e he => Nat.le_trans (few_val hf e.ent (List.mem_map.2 ⟨e, he, rfl⟩)) (by decide)
  by_cases h30 : ks.length ≤ 30
  ·exact proves19_in nd mu al n A c es B cb ks W hA hl hvl hf hvx hK hkc h30 (by omega) (by omega)
  ·exact proves19_many nd al n A c es B cb ks.length W hA hl hvl hf hvx h30 (by omega) (by omega)
end
section
open Go.RowKit
theorem leads19_many {M : World → Int → Tv → Prop} (nd : NdV M) (al : Alive19) (n : Int) (A : Option Addr) (c : Nat) (es : List En) (B : Option Addr) (cb : Nat) (kn : Nat) (W : World) (hA : EA W A es) (hl : es.length ≤ 12) (hvl : ∀ e ∈ es, e.v.length ≤ 1000) (hf : fewK (es.map En.ent) = true) (hvx : Vars W) (h30 : ¬ kn ≤ 30) (h0 : 0 ≤ n) (h1 : n ≤ 256) :
  Calls Tryz.prog 8 #[.int .i64 n, .slice A es.length c, .slice B kn cb] W (Aye W) := by
 have HT := Lib.hid (tree_in nd n A c es W hA hl hvl hf hvx h0 h1)
 have HN := Lib.hid (And.intro h0 h1)
 have HVX := Lib.hid hvx
 have HAL := Lib.hid al
 have d30 : decide ((30 : Int) < (kn : Int)) = true := decide_eq_true (by omega)
 clear hA hvl hf hvx h0 h1 hl al h30
 go_enter Tryz.func8, Tryz.ntmps8
 go_wp2_with fail
 refine HT.out.mono ?_
 rintro _ w2 ⟨A2, c2, T, rfl, hc2, hI, hF⟩
 have HF2 := Lib.hid hF
 clear hc2 hI hF HT
 have HHI := Lib.hid (hash_in n w2 HN.out.1 HN.out.2)
 go_wp2_with fail
 refine HHI.out.mono ?_
 rintro _ w3 ⟨b, rfl, hbn, hH, hB⟩
 have HB3 : Hid (Below W.heap.size W w3) := (HF2.out.below nd hB).bel
 have HAL3 := Lib.hid (HAL.out w3 (HVX.out.below HB3.out))
 clear hbn hH hB HHI HF2
 go_wp2_with fail
 refine HAL3.out.mono ?_
 rintro _ w4 ⟨rfl, hb4⟩
 have HB4 := Lib.hid (HB3.out.trans (hb4.mono HB3.out.size))
 clear hb4 HAL3
 go_wp2_with fail
 go_ret
 exact ⟨rfl, HB4.out⟩
theorem leads19_out (al : Alive19) (n : Int) (A : Option Addr) (c : Nat) (es : List En) (B : Option Addr) (cb : Nat) (kn : Nat) (W : World) (hA : EA W A es) (hvx : Vars W) (h : (n < 0 ∨ 256 < n) ∨ fewK (es.map En.ent) = false) :
  Calls Tryz.prog 8 #[.int .i64 n, .slice A es.length c, .slice B kn cb] W (Aye W) := by
 have HT := Lib.hid (tree_out n A c es W hA h)
 have HVX := Lib.hid hvx
 have HAL := Lib.hid al
 clear hA h hvx al
 go_enter Tryz.func8, Tryz.ntmps8
 go_wp2_with fail
 refine HT.out.mono ?_
 rintro _ w2 ⟨rfl, hB⟩
 have HB := Lib.hid hB
 clear hB HT
 go_wp2_with fail
 refine (hash_any n w2).mono ?_
 rintro _ w3 ⟨q, rfl, hB3⟩
 have HB3 := Lib.hid (keeps HB.out hB3)
 clear hB3
 go_wp2_with fail
 refine (HAL.out w3 (HVX.out.below HB3.out)).mono ?_
 rintro _ w4 ⟨rfl, hB4⟩
 have HB4 := Lib.hid (keeps HB3.out hB4)
 clear hB4
 go_wp2_with fail
 go_ret
 exact ⟨rfl, HB4.out⟩
theorem leads19_keys {M : World → Int → Tv → Prop} (nd : NdV M) (al : Alive19) (n : Int) (A : Option Addr) (c : Nat) (es : List En) (B : Option Addr) (cb : Nat) (ks : List (List UInt8)) (W : World) (hA : EA W A es) (hl : es.length ≤ 12) (hvl : ∀ e ∈ es, e.v.length ≤ 1000) (hf : fewK (es.map En.ent) = true) (hvx : Vars W) (hK : KS W B ks) (h30 : ks.length ≤ 30) (hz : keysI ks ≠ 0) (h0 : 0 ≤ n) (h1 : n ≤ 256) :
  Calls Tryz.prog 8 #[.int .i64 n, .slice A es.length c, .slice B ks.length cb] W (Aye W) := by
 have HT := Lib.hid (tree_in nd n A c es W hA hl hvl hf hvx h0 h1)
 have HN := Lib.hid (And.intro h0 h1)
 have HVX := Lib.hid hvx
 have HAL := Lib.hid al
 have d30 : decide ((30 : Int) < (ks.length : Int)) = false := decide_eq_false (by omega)
 have HK := Lib.hid hK
 have HKL : Hid (ks.length ≤ 100000) := Nat.le_trans h30 (by decide)
 obtain ⟨z, hzz⟩ : ∃ z, z = keysI ks := ⟨_, rfl⟩
 have HZ := Lib.hid hzz
 rw [← hzz] at hz
 clear hA hvl hf hvx h0 h1 hl al h30 hK hzz
 go_enter Tryz.func8, Tryz.ntmps8
 go_wp2_with fail
 refine HT.out.mono ?_
 rintro _ w2 ⟨A2, c2, T, rfl, hc2, hI, hF⟩
 have HF2 := Lib.hid hF
 clear hc2 hI hF HT
 have HHI := Lib.hid (hash_in n w2 HN.out.1 HN.out.2)
 go_wp2_with fail
 refine HHI.out.mono ?_
 rintro _ w3 ⟨b, rfl, hbn, hH, hB⟩
 have HB3 : Hid (Below W.heap.size W w3) := (HF2.out.below nd hB).bel
 have HRK := rkeys19_c B cb ks w3 (HK.out.below HB3.out) HKL.out
 rw [← HZ.out] at HRK
 have HRK := Lib.hid HRK
 clear hbn hH hB HHI HF2
 go_wp2_with fail
 refine HRK.out.mono ?_
 rintro _ w3a ⟨rfl, hb3⟩
 have HB3 := Lib.hid (keeps HB3.out hb3)
 have HAL3 := Lib.hid (HAL.out w3a (HVX.out.below HB3.out))
 clear hb3 HRK
 go_wp2_with fail
 refine HAL3.out.mono ?_
 rintro _ w4 ⟨rfl, hb4⟩
 have HB4 := Lib.hid (HB3.out.trans (hb4.mono HB3.out.size))
 clear hb4 HAL3
 go_wp2_with fail
 go_ret
 exact ⟨rfl, HB4.out⟩
end
end Go.Proofs.YtmfbhohjpkmllaaGreatDoor
