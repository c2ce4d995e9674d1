import Derived.Test.YtmfbhohjpkmllaaGreatDoorIR
import Derived.Test.YtmfbhohjpkmllaaGreatDoorIQ
import Derived.Test.YtmfbhohjpkmllaaGreatDoorIS
import Derived.Test.YtmfbhohjpkmllaaGreatDoorMO
import Derived.BigQuiet
namespace Go.Proofs.YtmfbhohjpkmllaaGreatDoor
set_option linter.unusedSimpArgs false
set_option linter.unusedVariables false
set_option maxHeartbeats 16000000
set_option maxRecDepth 100000
open Go.RowKit
theorem leads19_fit {M : World → Int → Tv → Prop} (nd : NdV M) (fn : FnV M) (mu : MuV M) (al : Alive19) (n : Int) (A : Option Addr) (c : Nat) (es : List En) (B : Option Addr) (cb : Nat) (ks : List (List UInt8)) (W : World) (hA : EA W A es) (hl : es.length ≤ 12) (hvl : ∀ e ∈ es, e.v.length ≤ 1000) (hf : fewK (es.map En.ent) = true) (hvx : Vars W) (hK : KS W B ks) (hcb : ks.length ≤ cb) (h30 : ks.length ≤ 30) (hz : keysI ks = 0) (h0 : 0 ≤ n) (h1 : n ≤ 256) :
  Calls Tryz.prog 8 #[.int .i64 n, .slice A es.length c, .slice B ks.length cb] W (Aye W) := by
 have HT := Lib.hid (tree_in nd n A c es W hA hl hvl hf hvx h0 h1)
 have HVE : Hid (∀ e ∈ ofE es, e.v.length ≤ 1000) := fun e he => hvl e (ofE_mem he)
 have HLE : Hid ((ofE es).length ≤ 12) := Nat.le_trans (ofE_len es) hl
 have HN := Lib.hid (And.intro h0 h1)
 have HVX := Lib.hid hvx
 have HAL := Lib.hid al
 have d30 : decide ((30 : Int) < (ks.length : Int)) = false := decide_eq_false (by omega)
 have HK := Lib.hid hK
 have HCB := Lib.hid hcb
 have H30 := Lib.hid h30
 have HZ := Lib.hid hz
 have HKL : Hid (ks.length ≤ 100000) := Nat.le_trans h30 (by decide)
 clear hA hvl hf hvx h0 h1 hl al h30 hK hz hcb
 go_enter Tryz.func8, Tryz.ntmps8
 go_wp2_with fail
 refine HT.out.mono ?_
 rintro _ w2 ⟨A2, c2, T, rfl, hc2, hI, hF⟩
 have HI := Lib.hid hI
 have HF2 := Lib.hid hF
 obtain ⟨O, hO⟩ : ∃ O, O = ofE es := ⟨_, rfl⟩
 rw [← hO] at HI HF2 HVE HLE ⊢
 clear hc2 hI hF HT hO
 have HHI := Lib.hid (hash_in n w2 HN.out.1 HN.out.2)
 go_wp2_with fail
 refine HHI.out.mono ?_
 rintro _ w3 ⟨b, rfl, hbn, hH, hB⟩
 have HF3 := Lib.hid (HF2.out.below nd hB)
 have HB3 : Hid (Below W.heap.size W w3) := HF3.out.bel
 have HXB : Hid (W.heap.size ≤ b) := Nat.le_trans HF2.out.bel.size hbn
 have HH3 := Lib.hid hH
 have HK3 := Lib.hid (HK.out.below HB3.out)
 have HRK := rkeys19_c B cb ks w3 HK3.out HKL.out
 rw [HZ.out] at HRK
 have HRK := Lib.hid HRK
 clear hbn hH hB HHI HF2
 go_wp2_with fail
 refine HRK.out.mono ?_
 rintro _ w3a ⟨rfl, hb3⟩
 have HF4 := Lib.hid (HF3.out.below nd hb3)
 have HB4 : Hid (Below W.heap.size W w3a) := HF4.out.bel
 have HH4 := Lib.hid (HH3.out.keep (Keep.of_below (L := fun _ => False) hb3) id)
 have HK4 := Lib.hid (HK3.out.below hb3)
 obtain ⟨t, ht⟩ : ∃ t, t = prvM n 256 (O.map En.ent) ks 0 := ⟨_, rfl⟩
 obtain ⟨q, hq⟩ : ∃ q, q = t.flat := ⟨_, rfl⟩
 have HG : Hid t.Good := by show Mt.Good _; rw [ht]; exact prvM_good n 256 _ ks 0
 have HPV := mu.prove w3a b n 0 (O.map En.ent) T ks B cb HH4.out (by decide) HF4.out.vars HF4.out.ms HI.out (by rw [List.length_map]; have := HLE.out; omega) HK4.out HCB.out (by have := H30.out; omega) HZ.out
 rw [← ht, ← hq] at HPV
 have HPV := Lib.hid HPV
 have HTT := Lib.hid ht
 have HQ := Lib.hid hq
 clear hb3 HRK HF3 HB3 HH3 HK3 ht hq
 go_wp2_with fail
 refine HPV.out.mono ?_
 rintro _ w4 ⟨A4, c4, m4, rfl, hI4, hc4, hm4, hH4, hk4⟩
 have HF5 := Lib.hid (HF4.out.hs nd HH4.out HXB.out hk4)
 have HB5 : Hid (Below W.heap.size W w4) := HF5.out.bel
 have HH5 := Lib.hid hH4
 have HK5 := Lib.hid (HK4.out.hs19 HH4.out hk4)
 have HI5 := Lib.hid hI4
 have HC5 := Lib.hid hc4
 have HQL : Hid (q.length ≤ 100000) := by
  show _ ≤ _
  rw [HQ.out, HTT.out, ← prvR_all]
  have := prvR_len n ks 256 (O.map En.ent) z26 0
  rw [List.length_map] at this
  have := HLE.out
  omega
 have HRO := mu.root w4 b n m4 t A4 c4 hH4 (by omega) HF5.out.vars HG.out (by rw [← HQ.out]; exact hI4) (by rw [← HQ.out]; exact hc4) (by rw [← HQ.out]; exact HQL.out)
 rw [← HQ.out] at HRO
 have hko : ∀ e ∈ O.map En.ent, e.k.length = 32 := fun e he => by
  obtain ⟨x, hx, rfl⟩ := List.mem_map.1 he
  obtain ⟨i, hi⟩ := List.getElem?_of_mem hx
  exact (HF5.out.ea i x hi).1.key
 obtain ⟨rt, hrt⟩ : ∃ rt, rt = digM n t := ⟨_, rfl⟩
 have HRL : Hid (rt.length = 32) := by
  show _ = _
  rw [hrt, HTT.out, prvM_dig n 256 _ ks 0 (.inr rfl) hko HI.out.sep]
  exact rootK_len _ _ _ _
 have HRR : Hid (∀ w, EA w A2 O → Calls Tryz.prog 29 #[.int .i64 n, .slice A2 O.length c2, .int .i64 0] w fun e w' => e = .returned (.agg (bA rt)) ∧ Below w.heap.size w w') := fun w h => by
  have := root7_c n 257 A2 c2 O 0 w h (by have := HLE.out; omega) HVE.out (.inr ⟨by omega, by omega, by omega⟩)
  rw [hrt, HTT.out, prvM_dig n 256 _ ks 0 (.inr rfl) hko HI.out.sep]
  exact this
 rw [← hrt] at HRO
 have HRO := Lib.hid HRO
 clear hI4 hc4 hm4 hH4 hk4 HPV HF4 HB4 HH4 HK4 hko hrt
 go_wp2_with fail
 refine HRO.out.mono ?_
 rintro _ w5 ⟨m5, rfl, hm5, hH5, hk5⟩
 have HF6 := Lib.hid (HF5.out.hs nd HH5.out HXB.out hk5)
 have HK6 := Lib.hid (HK5.out.hs19 HH5.out hk5)
 have HI6 := Lib.hid (HI5.out.hs HH5.out hk5)
 have st := stA_new (t := 45) w5 (bA z26) (bA rt) (by rw [bA_size, HRL.out]; exact info26) (by rw [bA_size, bA_size, HRL.out]; rfl) (bA_one _)
 obtain ⟨Y, hY⟩ : ∃ Y, Y = w5.alloc (.cells (bA rt) 45) := ⟨_, rfl⟩
 rw [← hY] at st
 have hbY : Below w5.heap.size w5 Y := by rw [hY]; exact Bt.one_below _ _
 have hRY : RowB Y w5.heap.size 45 rt := by show _ = _; rw [hY]; exact heap_alloc_new _ _
 have HRY := Lib.hid hRY
 have HF7 := Lib.hid (HF6.out.below nd hbY)
 have HK7 := Lib.hid (HK6.out.below hbY)
 have HI7 := Lib.hid (HI6.out.below hbY)
 have HEN := mu.ends Y t ks A4 B c4 cb HG.out (by rw [← HQ.out]; exact HI7.out) (by rw [← HQ.out]; exact HC5.out) (by rw [← HQ.out]; exact HQL.out) HK7.out HCB.out (by have := H30.out; omega) HZ.out (by rw [HTT.out]; exact (fit_iff _ ks 0 0 (prvM_good n 256 _ ks 0).1).2 (prvM_fit n 256 _ ks 0))
 rw [← HQ.out] at HEN
 have HEN := Lib.hid HEN
 clear hm5 hH5 hk5 hY hbY hRY HRO HF5 HB5 HH5 HK5 HI5 HF6 HK6 HI6
 go_wp2_with fail
 refine HEN.out.mono ?_
 rintro _ w6 ⟨A6, c6, rfl, hE6, hc6, hb6⟩
 have HF8 := Lib.hid (HF7.out.below nd hb6)
 have HK8 := Lib.hid (HK7.out.below hb6)
 have HE8 := Lib.hid hE6
 have hR8 : RowB w6 w5.heap.size 45 rt := HRY.out.keep (Keep.of_below (L := fun _ => False) hb6) id
 have lr : ∀ x : Later w6, ldA 45 x.w (.pointer (some ⟨w5.heap.size, 0, none⟩)) = .ok (.value (.agg (bA rt))) x.w := fun x => RowB.ldDig (x.block hR8) HRL.out
 have HRQ : Hid (∀ x : Later w6, Calls Tryz.prog 29 #[.int .i64 n, .slice A2 O.length c2, .int .i64 0] x.w fun e w' => e = .returned (.agg (bA rt)) ∧ Below x.w.heap.size x.w w') := fun x => HRR.out _ (HF8.out.ea.below x.h)
 have ne := fun x y w => neDig rt rt HRL.out HRL.out x y w
 rw [decide_eq_true (rfl : rt = rt)] at ne
 have nl : ((ks.length : Int) != (ks.length : Int)) = false := by simp
 clear hE6 hc6 hb6 hR8 HEN HF7 HK7 HI7 st
 go_wp2_with fail
 refine wp_region_later (by kernel_rfl) (by kernel_rfl) ?_
 repeat (go_big_quiet_step ((go_at_call 29; exact Later.call (HRQ.out _))))
 refine wpQuiet_nil ?_
 rintro _ ⟨x9, rfl⟩
 have HF9 := Lib.hid (HF8.out.below nd x9.h)
 have HK9 := Lib.hid (HK8.out.below x9.h)
 have HE9 := Lib.hid (HE8.out.below x9.h)
 have HAT : Hid (∀ k, k ∈ ks → depM k t 0 = T.dep k 0 ∧ (finM k t 0).k = kindT (T.fin k 0).tr ∧ (finM k t 0).lf = leafV n (T.fin k 0).tr ∧ T.dep k 0 ≤ 256) := fun k hk => by rw [HTT.out]; exact leads_at HI.out hk
 have HSL : Hid (∀ j, sumD t 0 (ks.take j) ≤ 256 * 30) := fun j => by
  have h1 := sumD_le t 256 (ks.take j) fun k hk => by have := HAT.out k (List.mem_of_mem_take hk); omega
  have h2 : (ks.take j).length ≤ 30 := by rw [List.length_take]; have := H30.out; omega
  exact Nat.le_trans h1 (Nat.mul_le_mul_left _ h2)
 have HLN : Hid (q.length ≤ 2 * sumD t 0 ks + 1) := by
  show _ ≤ _
  rw [HQ.out, HTT.out]; exact leads_len n _ ks
 clear lr ne nl HF8 HK8 HE8
 go_wp2_with fail
 go_loopg [17, 89] ks.length (fun gg s i wr => ∃ (j : Nat), i = .int .i64 (j : Int) ∧ j ≤ ks.length ∧ ks.length - j = gg ∧ s = .int .i64 ((sumD t 0 (ks.take j) : Nat) : Int) ∧ Below x9.w.heap.size x9.w wr)
 case atStart => exact ⟨0, rfl, by omega, by omega, rfl, Below.refl _ _⟩
 case round =>
  obtain ⟨j, rfl, hj, rfl, rfl, hbr⟩ := hrel
  have HBR := Lib.hid hbr
  have HJ := Lib.hid hj
  have hsl := HSL.out j
  obtain ⟨S, hS⟩ : ∃ S, S = sumD t 0 (ks.take j) := ⟨_, rfl⟩
  rw [← hS] at hsl ⊢
  have HSS := Lib.hid hS
  clear hbr hj hS
  by_cases hlt : j < ks.length
  ·have hd : decide (j < ks.length) = true := decide_eq_true hlt
   obtain ⟨k, hk⟩ : ∃ k, ks[j]? = some k := ⟨_, List.getElem?_eq_getElem hlt⟩
   obtain ⟨hkl, g, o, rfl, hr⟩ := HK9.out j k hk
   have HKK := Lib.hid hk
   have l1 : ldA 39 wr (.pointer (some ⟨g, o + j * 32, none⟩)) = .ok (.value (.agg (bA k))) wr := range_keyS (range_below hr HBR.out) hkl
   have j0 : (0 : Int) ≤ (j : Int) := by omega
   have j1 : (j : Int) < (ks.length : Int) := by omega
   have n0 : j ≤ 100000 := by have := HKL.out; omega
   have wi : IntKind.i64.wrap ((j : Int) + 1) = (j : Int) + 1 := wrap19 (by omega) (by omega)
   obtain ⟨Y1, hY1⟩ : ∃ Y1, Y1 = wr.alloc (.cells (bA k) 39) := ⟨_, rfl⟩
   have st : stA 39 (wr.alloc (.cells (Bt.kc Bt.kz) 39)) (.pointer (some ⟨wr.heap.size, 0, none⟩)) (.agg (bA k)) = .ok .skip Y1 := by
    rw [hY1]
    exact stA_new (t := 39) wr (Bt.kc Bt.kz) (bA k) (by rw [bA_size, hkl]; exact infoKey) (by rw [bA_size, Bt.kc_size, hkl]) (bA_one _)
   have lk : ldA 39 Y1 (.pointer (some ⟨wr.heap.size, 0, none⟩)) = .ok (.value (.agg (bA k))) Y1 := by
    rw [hY1]
    exact ldA_row (heap_alloc_new wr _) Tryz.underlying39 (by rw [bA_size, hkl]; exact infoKey)
   have hbY : Below wr.heap.size wr Y1 := by rw [hY1]; exact Bt.one_below _ _
   have HB9Y := Lib.hid (keeps HBR.out hbY)
   have HFY := Lib.hid (HF9.out.below nd HB9Y.out)
   have HLO := Lib.hid (fn.locate Y1 n _ T k HFY.out.ms HI.out hkl)
   obtain ⟨a1, a2, a3, a4⟩ := HAT.out k (List.mem_of_getElem? hk)
   obtain ⟨D, hD⟩ : ∃ D, D = T.dep k 0 := ⟨_, rfl⟩
   rw [← hD] at HLO a1 a4
   clear hk hkl hr hlt hY1 hbY hD
   go_wp2_with fail
   refine HLO.out.mono ?_
   rintro _ y1 ⟨rfl, hb1⟩
   have HB91 := Lib.hid (keeps HB9Y.out hb1)
   have HF1 := Lib.hid (HFY.out.below nd hb1)
   obtain ⟨hyo, g5, o5, hA5, hr5, hc5⟩ := HE9.out.below HB91.out j (finM k t 0, depM k t 0) (by unfold endsM; rw [List.getElem?_map, HKK.out]; rfl)
   have hyo : (finM k t 0).Ok := hyo
   have hr5 : y1.rangeAt g5 (o5 + j * 98) (itL (finM k t 0)) := hr5
   have hc5 : y1.cell? ⟨g5, o5 + j * 98 + 97, none⟩ = some (.int .i64 ((depM k t 0 : Nat) : Int)) := hc5
   subst hA5
   have c1 : ∀ x : Later y1, x.w.cell? ⟨g5, o5 + j * 98 + 97, none⟩ = some (.int .i64 (D : Int)) := fun x => by rw [x.h.cell (lt_of_cell hc5), hc5, a1]
   have c2 : ∀ x : Later y1, x.w.cell? ⟨g5, o5 + j * 98, none⟩ = some (.int .i64 (kindT (T.fin k 0).tr)) := fun x => by rw [it_kind (range_below hr5 x.h), a2]
   have c3 : ∀ x : Later y1, ldA 57 x.w (.pointer (some ⟨g5, o5 + j * 98 + 33, none⟩)) = .ok (.value (.agg (bA (leafV n (T.fin k 0).tr)))) x.w := fun x => by have := it_leaf (range_below hr5 x.h) hyo; rwa [a3] at this
   have hlv : (leafV n (T.fin k 0).tr).length = 64 := by rw [← a3]; exact hyo.lf
   have HKI : Hid (∀ x : Later y1, Calls Tryz.prog 31 #[(T.fin k 0).val] x.w fun e w' => e = .returned (.int .i64 (kindT (T.fin k 0).tr)) ∧ Below x.w.heap.size x.w w') := fun x => nd.kind x.w n (T.fin k 0) (nd.below (ms_fin nd k HF1.out.ms) x.h)
   have HLF : Hid (∀ x : Later y1, Calls Tryz.prog 32 #[(T.fin k 0).val] x.w fun e w' => e = .returned (.agg (bA (leafV n (T.fin k 0).tr))) ∧ Below x.w.heap.size x.w w') := fun x => nd.leafOf x.w n (T.fin k 0) (nd.below (ms_fin nd k HF1.out.ms) x.h)
   obtain ⟨lv, hlvv⟩ : ∃ lv, lv = leafV n (T.fin k 0).tr := ⟨_, rfl⟩
   obtain ⟨kd, hkd⟩ : ∃ kd, kd = kindT (T.fin k 0).tr := ⟨_, rfl⟩
   rw [← hlvv] at c3 HLF hlv
   rw [← hkd] at c2 HKI
   have ne := fun x y w => neLeaf lv lv hlv hlv x y w
   rw [decide_eq_true (rfl : lv = lv)] at ne
   have nd1 : ((D : Int) != (D : Int)) = false := by simp
   have nd2 : (kd != kd) = false := by simp
   have ws : IntKind.i64.wrap ((S : Int) + (D : Int)) = (S : Int) + (D : Int) := wrap19 (by omega) (by omega)
   have HSD : Hid ((sumD t 0 (ks.take (j + 1)) : Int) = (S : Int) + (D : Int)) := by
    show _ = _
    rw [sumD_take t ks HKK.out, ← HSS.out, a1]
    omega
   clear hb1 hyo hr5 hc5 hlv hlvv hkd a1 a2 a3 a4 l1 st lk HLO hsl
   go_wp2_with fail
   refine wp_region_later (by kernel_rfl) (by kernel_rfl) ?_
   repeat (go_big_quiet_step ((first | (go_at_call 31; exact Later.call (HKI.out _)) | (go_at_call 32; exact Later.call (HLF.out _)))))
   refine wpQuiet_nil ?_
   rintro _ ⟨y2, rfl⟩
   have HB92 := Lib.hid (keeps HB91.out y2.h)
   clear c1 c2 c3 ne nd1 nd2
   go_wp2_with fail
   go_roundg (ks.length - (j + 1))
   case measure => omega
   case rel => exact ⟨j + 1, by go_num, by omega, rfl, by rw [HSD.out], HB92.out⟩
  ·obtain rfl : j = ks.length := by have := HJ.out; omega
   have hd : decide (ks.length < ks.length) = false := by simp
   have HAW := Lib.hid (HAL.out wr (HVX.out.below (keeps HF9.out.bel HBR.out)))
   have hln : q.length ≤ 2 * S + 1 := by have := HLN.out; rw [HSS.out, List.take_length]; exact this
   have w1 : IntKind.i64.wrap (2 * (S : Int)) = 2 * (S : Int) := wrap19 (by omega) (by omega)
   have w2 : IntKind.i64.wrap (2 * (S : Int) + 1) = 2 * (S : Int) + 1 := wrap19 (by omega) (by omega)
   have dl : decide ((q.length : Int) ≤ 2 * (S : Int) + 1) = true := decide_eq_true (by omega)
   clear hlt hln hsl
   go_wp2_with fail
   refine HAW.out.mono ?_
   rintro _ y2 ⟨rfl, hb2⟩
   have HB4 := Lib.hid (keeps (keeps HF9.out.bel HBR.out) hb2)
   clear hb2 HAW
   go_wp2_with fail
   go_ret
   exact ⟨rfl, HB4.out⟩
theorem leads19_w {M : World → Int → Tv → Prop} (nd : NdV M) (fn : FnV M) (mu : MuV M) (al : Alive19) (n : Int) (A : Option Addr) (c : Nat) (es : List En) (B : Option Addr) (cb : Nat) (ks : List (List UInt8)) (W : World) (hA : EA W A es) (hvx : Vars W) (hK : KS W B ks) (hkc : ks.length ≤ cb) :
  Calls Tryz.prog 8 #[.int .i64 n, .slice A es.length c, .slice B ks.length cb] W (Aye W) := by
 by_cases h : (n < 0 ∨ 256 < n) ∨ fewK (es.map En.ent) = false
 ·exact leads19_out al n A c es B cb ks.length W hA hvx h
 ·have hf : fewK (es.map En.ent) = true := by
   cases hc : fewK (es.map En.ent) with
   | true => rfl
   | false => exact absurd (.inr hc) h
  have hl := few_len hf
  rw [List.length_map] at hl
  have hvl : ∀ e ∈ es, e.v.length ≤ 1000 := fun e he => Nat.le_trans (few_val hf e.ent (List.mem_map.2 ⟨e, he, rfl⟩)) (by decide)
  by_cases h30 : ks.length ≤ 30
  ·by_cases hz : keysI ks = 0
   ·exact leads19_fit nd fn mu al n A c es B cb ks W hA hl hvl hf hvx hK hkc h30 hz (by omega) (by omega)
   ·exact leads19_keys nd al n A c es B cb ks W hA hl hvl hf hvx hK h30 hz (by omega) (by omega)
  ·exact leads19_many nd al n A c es B cb ks.length W hA hl hvl hf hvx h30 (by omega) (by omega)
end Go.Proofs.YtmfbhohjpkmllaaGreatDoor
