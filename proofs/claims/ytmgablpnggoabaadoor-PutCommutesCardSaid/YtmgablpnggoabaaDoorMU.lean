/- Several texts in one: Tb Tc Cs Td. -/
import Derived.Test.YtmgablpnggoabaaDoorMT
import Derived.Test.YtmgablpnggoabaaDoorDm
import Derived.Test.YtmgablpnggoabaaDoorMO
import Derived.Test.YtmgablpnggoabaaDoorLa
import Derived.Test.YtmgablpnggoabaaDoorM7
import Derived.Lib.AppendZeros
import Derived.Test.YtmgablpnggoabaaDoorNg
/- The law's Is: a tree that is the map's. -/
namespace Go.Proofs.YtmgablpnggoabaaDoor
open Go.RowKit

set_option maxHeartbeats 16000000 in
set_option maxRecDepth 100000 in
theorem is_c {M : World → Int → Tv → Prop} (nd : NdV M) (fv : FnV M) (w : World) (b : Nat) (n : Int) (c : Nat) (T : Tv) (A : Option Addr) (cA : Nat) (m : List En) (hh : Hs w b n c) (hc : c ≤ 1000000) (hv : Vars w) (hM : M w n T) (hT : IsMap (m.map En.ent) T) (hA : EA w A m) (hl : m.length ≤ 1000) (hvl : ∀ e ∈ m, e.v.length ≤ 1000) :
    Calls Tryd.prog 14 #[ptr b, T.val, .slice A m.length cA] w fun e w' => e = .returned (.int .i64 1) ∧ ∃ c', c' ≤ c + 1 ∧ Hs w' b n c' ∧ Keep (fun i => i = b) w w' := by
  obtain ⟨p, hp⟩ := val_ptr nd hM
  have HLN := Lib.hid hT.len
  have HDG := Lib.hid (hT.dig n)
  have HT := Lib.hid hT
  have HV := Lib.hid hvl
  have HL := Lib.hid (nd.len w n T hM (by rw [hT.len, List.length_map]; omega))
  rw [hT.len, List.length_map, hp] at HL
  have HP := Lib.hid hp
  have HM := Lib.hid hM
  have HH := Lib.hid hh
  have HVX := Lib.hid hv
  have HA := Lib.hid hA
  rw [hp]
  clear hM hT hvl hp hh hv hA
  unfold ptr
  go_enter Tryd.func14, Tryd.ntmps14
  go_wp2_with fail
  refine HL.out.mono ?_
  rintro _ w1 ⟨rfl, hB⟩
  have HM1 := Lib.hid (nd.below HM.out hB)
  have HH1 := Lib.hid (HH.out.keep (Keep.of_below (L := fun _ => False) hB) fun h => h)
  have HV1 := Lib.hid (HVX.out.below hB)
  have HA1 := Lib.hid (HA.out.below hB)
  have HK1 : Hid (Keep (fun i => i = b) w w1) := Keep.of_below hB
  have HD := Lib.hid (nd.digest w1 b n c T HH1.out hc HV1.out HM1.out)
  rw [HP.out, HDG.out] at HD
  clear hB HL HM HH HVX HA
  have ne1 : ((m.length : Int) != (m.length : Int)) = false := by simp
  obtain ⟨g, hg⟩ : ∃ g, g = rootK 257 n (m.map En.ent) 0 := ⟨_, rfl⟩
  have hgl : g.length = 32 := by rw [hg]; exact rootK_len _ _ _ _
  rw [← hg] at HD
  have HG := Lib.hid hg
  clear hg
  unfold ptr at HD
  go_wp2_with fail
  refine HD.out.mono ?_
  rintro _ w2 ⟨c2, rfl, hc2, _, hH2, hK2⟩
  have HM2 := Lib.hid (nd.hs HM1.out HH1.out hK2)
  have HA2 := Lib.hid (HH1.out.ea HA1.out hK2)
  have HH2 := Lib.hid hH2
  have HC2 := Lib.hid hc2
  have HK2 := Lib.hid (HK1.out.trans hK2)
  have HBI := Lib.hid (bits_c b n c2 w2 hH2)
  unfold ptr at HBI
  clear hc2 hH2 hK2 HD HM1 HH1 HV1 HA1 HK1
  go_wp2_with fail
  refine HBI.out.mono ?_
  rintro _ _ ⟨rfl, rfl⟩
  have HRT := Lib.hid (root7_c n 257 A cA m 0 w2 HA2.out (by omega) HV.out (.inr ⟨by omega, by omega, by omega⟩))
  rw [← HG.out] at HRT
  have nq : ∀ x y w, eqA .neq 44 x y w (.agg (bA g)) (.agg (bA g)) = .ok (.value (.bool false)) w := fun x y w => by rw [neDig g g hgl hgl, decide_eq_true rfl]; rfl
  clear HBI
  go_wp2_with fail
  refine HRT.out.mono ?_
  rintro _ w3 ⟨rfl, hB⟩
  have HM3 := Lib.hid (nd.below HM2.out hB)
  have HA3 := Lib.hid (HA2.out.below hB)
  have HF : Hid (∀ w', Below w3.heap.size w3 w' → ∃ c', c' ≤ c + 1 ∧ Hs w' b n c' ∧ Keep (fun i => i = b) w w') := fun w' h => ⟨c2, HC2.out, HH2.out.keep (Keep.of_below (L := fun _ => False) (hB.trans (h.mono hB.size))) fun h => h, HK2.out.trans (Keep.of_below (hB.trans (h.mono hB.size)))⟩
  clear hB HRT HM2 HA2 HH2 HC2 HK2
  go_wp2_with fail
  go_loopg [28] m.length (fun gg i wr => ∃ k : Nat, i = .int .i64 k ∧ k ≤ m.length ∧ m.length - k = gg ∧ Hid (Below w3.heap.size w3 wr))
  case atStart => exact ⟨0, rfl, by omega, by omega, Below.refl _ _⟩
  case round =>
    obtain ⟨k, rfl, hk, rfl, HW⟩ := hrel
    by_cases hlt : k < m.length
    · have hd : decide (k < m.length) = true := decide_eq_true hlt
      obtain ⟨e, he⟩ : ∃ e, m[k]? = some e := ⟨_, List.getElem?_eq_getElem hlt⟩
      obtain ⟨hok, g2, o, rfl, hr⟩ := (HA3.out.below HW.out) k e he
      have hem : e.ent ∈ m.map En.ent := List.mem_map.2 ⟨e, List.mem_of_getElem? he, rfl⟩
      have hgt := get_map HT.out hem
      have HKE := Lib.hid hok.key
      have le := range_ent hr hok.key
      have st := stE_new (w := wr) (e := e) (z := ⟨z26, none, [], 0⟩) hok.key rfl
      obtain ⟨X, hX⟩ : ∃ X, X = wr.alloc (.cells (enC e).toArray 27) := ⟨_, rfl⟩
      have hbX : Below wr.heap.size wr X := by rw [hX]; exact (Below.refl _ _).alloc (Nat.le_refl _) _
      have hr0 : X.rangeAt wr.heap.size 0 (enC e) := by rw [hX]; exact ent_made wr e _
      have lk := range_key hr0 hok.key
      have HX := Lib.hid hX
      have HR0 := Lib.hid hr0
      have HWX : Hid (Below w3.heap.size w3 X) := HW.out.trans (hbX.mono HW.out.size)
      have HBE := Lib.hid (hok.val.below hbX)
      have HVE := Lib.hid (HV.out e (List.mem_of_getElem? he))
      have HC := Lib.hid (fv.get X n _ T e.k (nd.below HM3.out HWX.out) HT.out hok.key)
      rw [show e.k = e.ent.k from rfl, hgt, HP.out, show (valO (some e.ent)).length = e.v.length from rfl, show (some e.ent).isSome = true from rfl, show e.ent.k = e.k from rfl, show valO (some e.ent) = e.v from rfl] at HC
      have p0 : (0 : Int) ≤ (k : Int) := by omega
      have p1 : (k : Int) < (m.length : Int) := by omega
      rw [hX] at lk
      clear he hok hr hem hgt hX hbX hr0
      go_wp2_with fail
      rw [← HX.out]
      clear HX lk st le
      refine HC.out.mono ?_
      rintro _ w5 ⟨A3, c3, rfl, hN, hB⟩
      have HN := Lib.hid (NewB.ba hN)
      have HW5 := Lib.hid (HWX.out.trans (hB.mono HWX.out.size))
      have lv := range_val (range_below HR0.out hB) HKE.out
      rw [Nat.zero_add] at lv
      have HS := Lib.hid (same_yes A3 e.A c3 e.c e.v.length e.v w5 rfl HN.out (HBE.out.below hB) (by have := HVE.out; omega))
      clear hN hB HC HN HBE HR0
      go_wp2_with fail
      refine HS.out.mono ?_
      rintro _ w6 ⟨rfl, hB⟩
      have HW6 := Lib.hid (HW5.out.trans (hB.mono HW5.out.size))
      clear hB HS lv HW5
      go_wp2_with fail
      go_roundg (m.length - (k + 1))
      case measure => omega
      case rel => exact ⟨k + 1, by go_num, by omega, rfl, HW6⟩
    · obtain rfl : k = m.length := by omega
      have hd : decide (m.length < m.length) = false := decide_eq_false (by omega)
      go_wp2_with fail
      go_ret
      exact ⟨rfl, HF.out _ HW.out⟩
end Go.Proofs.YtmgablpnggoabaaDoor

/- alive of layer 9 over contracts. -/
namespace Go.Proofs.YtmgablpnggoabaaDoor
open Go.RowKit

def k64 : List UInt8 := 64 :: List.replicate 31 0
def e9b (A : Option Addr) : En := ⟨k64, A, [2], 1⟩
def E9b : Ent := ⟨k64, [2]⟩
theorem bldKey_64 (w : World) : bldA 24 w #[(0, .int .u8 64)] = .ok (.value (.agg (bA k64))) w := by kernel_rfl
theorem bldEntry_64 (A : Option Addr) (w : World) : bldA 27 w #[(0, .agg (bA k64)), (1, .slice A 1 1)] = .ok (.value (.agg (enC (e9b A)).toArray)) w := bldEntry (e9b A) rfl w
theorem bit_64 : bitK k64 0 = 0 := by decide
theorem bit_64b : bitK k64 1 = 1 := by decide
theorem bit_a1 : bitK z26 1 = 0 := by decide
theorem cmp_64 : cmpK k64 z26 = 1 := by decide
theorem put_64 : putK [E8a] E9b = [E8a, E9b] := by
  have h : z26 ≠ k64 := by decide
  unfold putK
  rw [show rmK [E8a] E9b.k = [E8a] by simp [rmK, E8a, E9b, h]]
  simp [insK, E8a, E9b, cmp_64]
theorem grow_64 : growT 257 [E8a, E9b] 0 = .inner (.inner (.leaf E8a) (.leaf E9b)) .nil := by
  rw [show (257 : Nat) = 256 + 1 from rfl, growT_two 256 _ 0 (by decide)]
  have h0 : partK [E8a, E9b] 0 0 = [E8a, E9b] := by simp [partK, E8a, E9b, bit_a, bit_64]
  have h1 : partK [E8a, E9b] 0 1 = [] := by simp [partK, E8a, E9b, bit_a, bit_64]
  rw [h0, h1, growT_none, show (256 : Nat) = 255 + 1 from rfl, growT_two 255 _ (0 + 1) (by decide)]
  have h2 : partK [E8a, E9b] (0 + 1) 0 = [E8a] := by simp [partK, E8a, E9b, bit_a1, bit_64b]
  have h3 : partK [E8a, E9b] (0 + 1) 1 = [E9b] := by simp [partK, E8a, E9b, bit_a1, bit_64b]
  rw [h2, h3, growT_one, growT_one]
  rfl
theorem sep_none : Sep 0 [] := ⟨fun _ h => by simp at h, List.Pairwise.nil, fun _ h => by simp at h⟩
theorem map_none : IsMap [] .nil := ⟨sep_none, by rw [growT_none]; rfl⟩
theorem three_of {T : Tv} (h : T.tr = growT 257 [E8a, E9b] 0) : ∃ v v1 va vb, T = .inner v (.inner v1 (.leaf va E8a) (.leaf vb E9b)) .nil := by
  rw [grow_64] at h
  match T, h with
  | .inner v (.inner v1 (.leaf va a) (.leaf vb b)) .nil, h =>
    injection h with h1 h2
    injection h1 with h1 h2
    injection h1 with h1
    injection h2 with h2
    subst h1 h2
    exact ⟨v, v1, va, vb, rfl⟩
set_option maxHeartbeats 8000000 in
set_option maxRecDepth 100000 in
theorem alive9_c {M : World → Int → Tv → Prop} (nd : NdV M) (fv : FnV M) (pv : PtV M) (w : World) (hvx : Vars w) : Calls Tryd.prog 11 #[] w (Aye w) := by
  have HVX := Lib.hid hvx
  have HH := Lib.hid (hash_in 256 w (by decide) (by decide))
  clear hvx
  go_enter Tryd.func11, Tryd.ntmps11
  go_wp2_with fail
  refine HH.out.mono ?_
  rintro _ w1 ⟨b, rfl, hb, hH, hB⟩
  have HB1 := Lib.hid hB
  have HN1 := Lib.hid hb
  have HH1 := Lib.hid hH
  have HV1 := Lib.hid (HVX.out.below hB)
  have b1 := bldEntry_1
  have bk := bldKey_64
  have b2 := bldEntry_64
  clear hb hH hB HH HVX
  obtain ⟨ea, hea⟩ : ∃ e, e = e8a (some ⟨w1.heap.size, 0, none⟩) := ⟨_, rfl⟩
  obtain ⟨Y, hY⟩ : ∃ Y, Y = w1.alloc (.cells #[Value.int .u8 1] 5) := ⟨_, rfl⟩
  have hbY : Below w1.heap.size w1 Y := by rw [hY]; exact (Below.refl _ _).alloc (Nat.le_refl _) _
  have hok : EnOk Y ea := by
    rw [hea, hY]
    exact ⟨rfl, Nat.le_refl 1, BA_row (l := [1]) (heap_alloc_new w1 _)⟩
  have HX1 : Hid (ea.ent = E8a ∧ ea.v.length ≤ 1000) := by rw [hea]; exact ⟨rfl, (show 1 ≤ 1000 by decide)⟩
  have HHY := Lib.hid (HH1.out.keep (Keep.of_below (L := fun _ => False) hbY) fun h => h)
  have HVY := Lib.hid (HV1.out.below hbY)
  have HBY := Lib.hid (HB1.out.trans (hbY.mono HB1.out.size))
  have HP := Lib.hid (pv.put Y b 256 0 [] .nil ea HHY.out (by decide) HVY.out (nd.nil _ _) map_none (by decide) hok HX1.out.2)
  rw [HX1.out.1, show putK [] E8a = [E8a] from rfl, show (Tv.nil).val = .pointer none from rfl] at HP
  have HE := Lib.hid hea
  have HY := Lib.hid hY
  clear hea hY hbY hok HB1 HH1 HV1
  go_wp2_with fail
  rw [← HE.out, ← HY.out]
  clear HE HY HX1
  refine HP.out.mono ?_
  rintro _ w2 ⟨T1, rfl, hI, hm⟩
  obtain ⟨c1, hc1, hH1⟩ := hm.hs
  obtain ⟨p1, hp1⟩ := val_ptr nd hm.ms
  have HP1 := Lib.hid hp1
  have HI1 := Lib.hid hI
  have HM1 := Lib.hid hm.ms
  have HH2 := Lib.hid hH1
  have HC1 := Lib.hid hc1
  have HB2 := Lib.hid (keep_new HBY.out HN1.out hm.keep)
  have HV2 := Lib.hid (HVY.out.hs HHY.out hm.keep)
  rw [hp1]
  clear hI hm hc1 hH1 hp1 HP HBY HHY HVY
  obtain ⟨eb, heb⟩ : ∃ e, e = e9b (some ⟨w2.heap.size, 0, none⟩) := ⟨_, rfl⟩
  obtain ⟨Z, hZ⟩ : ∃ Z, Z = w2.alloc (.cells #[Value.int .u8 2] 5) := ⟨_, rfl⟩
  have hbZ : Below w2.heap.size w2 Z := by rw [hZ]; exact (Below.refl _ _).alloc (Nat.le_refl _) _
  have hok : EnOk Z eb := by
    rw [heb, hZ]
    exact ⟨rfl, Nat.le_refl 1, BA_row (l := [2]) (heap_alloc_new w2 _)⟩
  have HX2 : Hid (eb.ent = E9b ∧ eb.v.length ≤ 1000) := by rw [heb]; exact ⟨rfl, (show 1 ≤ 1000 by decide)⟩
  have HHZ := Lib.hid (HH2.out.keep (Keep.of_below (L := fun _ => False) hbZ) fun h => h)
  have HVZ := Lib.hid (HV2.out.below hbZ)
  have HBZ := Lib.hid (HB2.out.trans (hbZ.mono HB2.out.size))
  have HP := Lib.hid (pv.put Z b 256 c1 [E8a] T1 eb HHZ.out (by have := HC1.out; omega) HVZ.out (nd.below HM1.out hbZ) HI1.out (show 1 ≤ 100000 by decide) hok HX2.out.2)
  rw [HX2.out.1, put_64, HP1.out] at HP
  have HE := Lib.hid heb
  have HZ := Lib.hid hZ
  clear heb hZ hbZ hok HB2 HH2 HV2 HM1 HI1
  go_wp2_with fail
  rw [← HE.out, ← HZ.out]
  clear HE HZ HX2
  refine HP.out.mono ?_
  rintro _ w3 ⟨T2, rfl, hI, hm⟩
  have HI3 := Lib.hid hI
  have HM3 := Lib.hid hm.ms
  have HB3 := Lib.hid (keep_new HBZ.out HN1.out hm.keep)
  have HV3 := Lib.hid (HVZ.out.hs HHZ.out hm.keep)
  obtain ⟨v, v1, va, vb, hTT⟩ := three_of hI.tr
  have hM3 := hm.ms
  rw [hTT] at hM3
  have hMa := (nd.kids hM3).1
  obtain ⟨ad, had⟩ : ∃ a, v = .pointer (some a) := by
    rcases nd.addr hM3 with h | ⟨a, ha⟩
    · cases h
    · exact ⟨a, ha⟩
  obtain ⟨aa, haa⟩ : ∃ a, v1 = .pointer (some a) := by
    rcases nd.addr hMa with h | ⟨a, ha⟩
    · cases h
    · exact ⟨a, ha⟩
  subst had haa
  have HGT := Lib.hid (get_map hI (e := E9b) (by simp))
  have HTT := Lib.hid hTT
  have HTV : Hid (T2.val = .pointer (some ad)) := by rw [hTT]; rfl
  clear hI hm hTT hM3 hMa HP HBZ HHZ HVZ
  rw [HTV.out]
  have HC := Lib.hid (fv.get w3 256 _ T2 k64 HM3.out HI3.out rfl)
  rw [show E9b.k = k64 from rfl] at HGT
  rw [HTV.out, HGT.out, show (valO (some E9b)).length = 1 from rfl, show (some E9b).isSome = true from rfl, show valO (some E9b) = [2] from rfl] at HC
  go_wp2_with fail
  refine HC.out.mono ?_
  rintro _ w4 ⟨A4, c4, rfl, hN, hB⟩
  obtain ⟨bb, oo, rfl, hcell⟩ := (NewB.ba hN) 0 2 rfl
  rw [Nat.add_zero] at hcell
  have HB4 := Lib.hid (HB3.out.trans (hB.mono HB3.out.size))
  have HM4 := Lib.hid (nd.below HM3.out hB)
  have HL4 := Lib.hid hcell
  have HK := Lib.hid (nd.kind w4 256 T2 HM4.out)
  rw [HTV.out, show kindT T2.tr = 2 by rw [HTT.out]; rfl] at HK
  clear hN hB hcell HC HB3 HM3
  go_wp2_with fail
  refine HK.out.mono ?_
  rintro _ w5 ⟨rfl, hB⟩
  have HB5 := Lib.hid (HB4.out.trans (hB.mono HB4.out.size))
  have HM5 := Lib.hid (nd.below HM4.out hB)
  have HL5 := Lib.hid (show w5.cell? ⟨bb, oo, none⟩ = some (bv 2) by rw [hB.cell (lt_of_cell HL4.out)]; exact HL4.out)
  have HK := Lib.hid (nd.left w5 256 T2 HM5.out)
  rw [HTV.out, show T2.left.val = .pointer (some aa) by rw [HTT.out]; rfl] at HK
  clear hB HB4 HM4 HL4
  go_wp2_with fail
  refine HK.out.mono ?_
  rintro _ w6 ⟨rfl, hB⟩
  have HB6 := Lib.hid (HB5.out.trans (hB.mono HB5.out.size))
  have HM6 := Lib.hid (nd.below HM5.out hB)
  have HL6 := Lib.hid (show w6.cell? ⟨bb, oo, none⟩ = some (bv 2) by rw [hB.cell (lt_of_cell HL5.out)]; exact HL5.out)
  have HML : Hid (∀ x, M x 256 T2 → M x 256 (.inner (.pointer (some aa)) (.leaf va E8a) (.leaf vb E9b))) := fun x h => by rw [HTT.out] at h; exact (nd.kids h).1
  have HK := Lib.hid (nd.kind w6 256 _ (HML.out _ HM6.out))
  rw [show (Tv.inner (.pointer (some aa)) (.leaf va E8a) (.leaf vb E9b)).val = .pointer (some aa) from rfl, show kindT (Tv.inner (.pointer (some aa)) (.leaf va E8a) (.leaf vb E9b)).tr = 2 from rfl] at HK
  clear hB HB5 HM5 HL5
  go_wp2_with fail
  refine HK.out.mono ?_
  rintro _ w7 ⟨rfl, hB⟩
  have HB7 := Lib.hid (HB6.out.trans (hB.mono HB6.out.size))
  have HM7 := Lib.hid (nd.below HM6.out hB)
  have HL7 := Lib.hid (show w7.cell? ⟨bb, oo, none⟩ = some (bv 2) by rw [hB.cell (lt_of_cell HL6.out)]; exact HL6.out)
  have HK := Lib.hid (nd.left w7 256 T2 HM7.out)
  rw [HTV.out, show T2.left.val = .pointer (some aa) by rw [HTT.out]; rfl] at HK
  clear hB HB6 HM6 HL6
  go_wp2_with fail
  refine HK.out.mono ?_
  rintro _ w8 ⟨rfl, hB⟩
  have HB8 := Lib.hid (HB7.out.trans (hB.mono HB7.out.size))
  have HM8 := Lib.hid (nd.below HM7.out hB)
  have HL8 := Lib.hid (show w8.cell? ⟨bb, oo, none⟩ = some (bv 2) by rw [hB.cell (lt_of_cell HL7.out)]; exact HL7.out)
  have HK := Lib.hid (nd.len w8 256 _ (HML.out _ HM8.out) (show 2 ≤ 1000000000 by decide))
  rw [show (Tv.inner (.pointer (some aa)) (.leaf va E8a) (.leaf vb E9b)).val = .pointer (some aa) from rfl, show ((lenT (Tv.inner (.pointer (some aa)) (.leaf va E8a) (.leaf vb E9b)).tr : Nat) : Int) = 2 from rfl] at HK
  clear hB HB7 HM7 HL7
  go_wp2_with fail
  refine HK.out.mono ?_
  rintro _ w9 ⟨rfl, hB⟩
  have HB9 := Lib.hid (HB8.out.trans (hB.mono HB8.out.size))
  have HM9 := Lib.hid (nd.below HM8.out hB)
  have HL9 := Lib.hid (show w9.cell? ⟨bb, oo, none⟩ = some (bv 2) by rw [hB.cell (lt_of_cell HL8.out)]; exact HL8.out)
  have HK := Lib.hid (nd.right w9 256 T2 HM9.out)
  rw [HTV.out, show T2.right.val = .pointer none by rw [HTT.out]; rfl] at HK
  clear hB HB8 HM8 HL8
  go_wp2_with fail
  refine HK.out.mono ?_
  rintro _ wa ⟨rfl, hB⟩
  have HBa := Lib.hid (HB9.out.trans (hB.mono HB9.out.size))
  have la : wa.cell? ⟨bb, oo, none⟩ = some (.int .u8 2) := by rw [hB.cell (lt_of_cell HL9.out)]; exact HL9.out
  clear hB HB9 HM9 HL9 HK
  go_wp2_with fail
  go_ret
  exact ⟨rfl, HBa.out⟩
end Go.Proofs.YtmgablpnggoabaaDoor

/- The library's slices.Clone at bytes: new memory. -/
namespace Go.Proofs.YtmgablpnggoabaaDoor
open Go.RowKit

set_option maxHeartbeats 4000000 in
set_option maxRecDepth 100000 in
theorem clone_newS (A : Option Addr) (l : List UInt8) (c : Nat) (w : World) (hA : BA w A l) (hl : l.length ≤ 900000) :
    Calls Tryd.prog 12 #[.slice A l.length c] w fun e w' => ∃ A2 c2, e = .returned (.slice A2 l.length c2) ∧ NewB w' w.heap.size A2 c2 l ∧ Below w.heap.size w w' := by
  have q22 : ∀ (w : World) (a : Option Addr) (n c n' c' : Nat), (binOp .eql 25 (.slice a n c) (.slice none n' c')).run Tryd.prog w = .ok (.bool a.isNone) w := fun w a n c n' c' => Lib.run_eql_slice_nil w _ _ a n c n' c' Tryd.underlying25
  have hO0 : OwnB (w.alloc (.cells #[] 5)) w.heap.size (.slice (some ⟨w.heap.size, 0, none⟩) 0 0) [] := World.ownsRow_made w #[] 0 (Nat.le_refl _) (by unfold maxLen; omega) rfl
  have hB0 : Below w.heap.size w (w.alloc (.cells #[] 5)) := (Below.refl _ _).alloc (Nat.le_refl _) _
  have HO0 := Lib.hid hO0
  have HB0 := Lib.hid hB0
  have HA := Lib.hid hA
  clear hO0 hB0 hA
  cases A with
  | none =>
    have hl0 : l = [] := by
      match l, HA.out with
      | [], _ => rfl
      | x :: r, h =>
        obtain ⟨b, o, e, _⟩ := h 0 x rfl
        cases e
    subst hl0
    go_enter Tryd.func12, Tryd.ntmps12
    go_wp2
    go_ret
    exact ⟨none, 0, rfl, ⟨Nat.zero_le _, .inl rfl⟩, Below.refl _ _⟩
  | some ad =>
    go_enter Tryd.func12, Tryd.ntmps12
    go_wp2_with (at_builtin; refine wpList_catB0 rfl _ _ rfl w.heap.size w.heap.size 0 [] rfl (Nat.le_refl _) HO0.out (some ad) c l rfl (HA.out.below HB0.out) (by simp; omega) (by simp) ?_; intro v1 w1 hO1 hB1; have HO1 := Lib.hid hO1; have HB1 := Lib.hid (HB0.out.trans hB1); clear hO1 hB1)
    go_ret
    have h1 := HO1.out
    rw [List.nil_append] at h1
    obtain ⟨A2, c2, he, hc, _⟩ := h1.any
    subst he
    exact ⟨A2, c2, rfl, ⟨hc, .inr h1⟩, HB1.out⟩
end Go.Proofs.YtmgablpnggoabaaDoor

/- What all the laws of layer 9 begin with. -/
namespace Go.Proofs.YtmgablpnggoabaaDoor
open Go.RowKit

theorem NewB.keep2 {w w' : World} {B : Nat} {A : Option Addr} {c : Nat} {l : List UInt8} {L : Nat → Prop} (h : NewB w B A c l) (k : Keep L w w') (hL : ∀ i, L i → i < B) : NewB w' B A c l :=
  ⟨h.1, h.2.imp id fun ⟨e0, h⟩ => ⟨e0, h.imp id fun ⟨g, cap, cur, e, hg, hh, hr⟩ => ⟨g, cap, cur, e, hg, k.heap hh fun hl => by have := hL _ hl; omega, hr⟩⟩⟩
theorem hash_any (n : Int) (w : World) : Calls Tryd.prog 10 #[.int .i64 n] w fun e w' => ∃ p, e = .returned (.pointer p) ∧ Below w.heap.size w w' := by
  rcases Classical.em (n < 0 ∨ 256 < n) with h | h
  · exact (hash_out n w h).mono fun e w' ⟨he, hb⟩ => ⟨none, he, hb⟩
  · exact (hash_in n w (by omega) (by omega)).mono fun e w' ⟨b, he, _, _, hb⟩ => ⟨some ⟨b, 0, none⟩, he, hb⟩
/-- What a law's walk knows behind the tree and the hasher. -/
structure Tf (M : World → Int → Tv → Prop) (W : World) (n : Int) (A : Option Addr) (m : List En) (T : Tv) (b c : Nat) (w : World) : Prop where
  fs : Fs M W n A m T w
  hs : ∃ c', c' ≤ c ∧ Hs w b n c'
  new : W.heap.size ≤ b
theorem Tf.below {M : World → Int → Tv → Prop} (nd : NdV M) {W w w' : World} {n : Int} {A : Option Addr} {m : List En} {T : Tv} {b c : Nat} (h : Tf M W n A m T b c w) (hb : Below w.heap.size w w') : Tf M W n A m T b c w' := by
  obtain ⟨c', hc, hh⟩ := h.hs
  exact ⟨h.fs.below nd hb, ⟨c', hc, hh.keep (Keep.of_below (L := fun _ => False) hb) fun h => h⟩, h.new⟩
theorem Tf.made {M : World → Int → Tv → Prop} (nd : NdV M) {W w w' : World} {n : Int} {A : Option Addr} {m : List En} {T : Tv} {b c d : Nat} (h : Tf M W n A m T b c w) (hk : Keep (fun i => i = b) w w') (hh : ∃ c', c' ≤ d ∧ Hs w' b n c') : Tf M W n A m T b d w' := by
  obtain ⟨c', _, h1⟩ := h.hs
  exact ⟨h.fs.hs nd h1 h.new hk, hh, h.new⟩
end Go.Proofs.YtmgablpnggoabaaDoor
