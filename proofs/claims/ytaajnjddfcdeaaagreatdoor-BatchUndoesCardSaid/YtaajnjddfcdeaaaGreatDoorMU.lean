/- Several texts in one: Tb Tc Cs Td Te Tf Tg Th Ti Xj. -/
import Derived.Test.YtaajnjddfcdeaaaGreatDoorMT
import Derived.Test.YtaajnjddfcdeaaaGreatDoorDm
import Derived.Test.YtaajnjddfcdeaaaGreatDoorMO
import Derived.Test.YtaajnjddfcdeaaaGreatDoorLa
import Derived.Test.YtaajnjddfcdeaaaGreatDoorM7
import Derived.Lib.AppendZeros
import Derived.Test.YtaajnjddfcdeaaaGreatDoorNg
/- The law's Is: a tree that is the map's. -/
namespace Go.Proofs.YtaajnjddfcdeaaaGreatDoor
open Go.RowKit

set_option maxHeartbeats 16000000 in
set_option maxRecDepth 100000 in
theorem is_c {M : World → Int → Tv → Prop} (nd : NdV M) (fv : FnV M) (w : World) (b : Nat) (n : Int) (c : Nat) (T : Tv) (A : Option Addr) (cA : Nat) (m : List En) (hh : Hs w b n c) (hc : c ≤ 1000000) (hv : Vars w) (hM : M w n T) (hT : IsMap (m.map En.ent) T) (hA : EA w A m) (hl : m.length ≤ 1000) (hvl : ∀ e ∈ m, e.v.length ≤ 1000) :
    Calls Tryz.prog 13 #[ptr b, T.val, .slice A m.length cA] w fun e w' => e = .returned (.int .i64 1) ∧ ∃ c', c' ≤ c + 1 ∧ Hs w' b n c' ∧ Keep (fun i => i = b) w w' := by
  obtain ⟨p, hp⟩ := val_ptr nd hM
  have HLN := Lib.hid hT.len
  have HDG := Lib.hid (hT.dig n)
  have HT := Lib.hid hT
  have HV := Lib.hid hvl
  have HL := Lib.hid (nd.len w n T hM (by rw [hT.len, List.length_map]; omega))
  rw [hT.len, List.length_map, hp] at HL
  have HP := Lib.hid hp
  have HM := Lib.hid hM
  have HH := Lib.hid hh
  have HVX := Lib.hid hv
  have HA := Lib.hid hA
  rw [hp]
  clear hM hT hvl hp hh hv hA
  unfold ptr
  go_enter Tryz.func13, Tryz.ntmps13
  go_wp2_with fail
  refine HL.out.mono ?_
  rintro _ w1 ⟨rfl, hB⟩
  have HM1 := Lib.hid (nd.below HM.out hB)
  have HH1 := Lib.hid (HH.out.keep (Keep.of_below (L := fun _ => False) hB) fun h => h)
  have HV1 := Lib.hid (HVX.out.below hB)
  have HA1 := Lib.hid (HA.out.below hB)
  have HK1 : Hid (Keep (fun i => i = b) w w1) := Keep.of_below hB
  have HD := Lib.hid (nd.digest w1 b n c T HH1.out hc HV1.out HM1.out)
  rw [HP.out, HDG.out] at HD
  clear hB HL HM HH HVX HA
  have ne1 : ((m.length : Int) != (m.length : Int)) = false := by simp
  obtain ⟨g, hg⟩ : ∃ g, g = rootK 257 n (m.map En.ent) 0 := ⟨_, rfl⟩
  have hgl : g.length = 32 := by rw [hg]; exact rootK_len _ _ _ _
  rw [← hg] at HD
  have HG := Lib.hid hg
  clear hg
  unfold ptr at HD
  go_wp2_with fail
  refine HD.out.mono ?_
  rintro _ w2 ⟨c2, rfl, hc2, _, hH2, hK2⟩
  have HM2 := Lib.hid (nd.hs HM1.out HH1.out hK2)
  have HA2 := Lib.hid (HH1.out.ea HA1.out hK2)
  have HH2 := Lib.hid hH2
  have HC2 := Lib.hid hc2
  have HK2 := Lib.hid (HK1.out.trans hK2)
  have HBI := Lib.hid (bits_c b n c2 w2 hH2)
  unfold ptr at HBI
  clear hc2 hH2 hK2 HD HM1 HH1 HV1 HA1 HK1
  go_wp2_with fail
  refine HBI.out.mono ?_
  rintro _ _ ⟨rfl, rfl⟩
  have HRT := Lib.hid (root7_c n 257 A cA m 0 w2 HA2.out (by omega) HV.out (.inr ⟨by omega, by omega, by omega⟩))
  rw [← HG.out] at HRT
  have nq : ∀ x y w, eqA .neq 42 x y w (.agg (bA g)) (.agg (bA g)) = .ok (.value (.bool false)) w := fun x y w => by rw [neDig g g hgl hgl, decide_eq_true rfl]; rfl
  clear HBI
  go_wp2_with fail
  refine HRT.out.mono ?_
  rintro _ w3 ⟨rfl, hB⟩
  have HM3 := Lib.hid (nd.below HM2.out hB)
  have HA3 := Lib.hid (HA2.out.below hB)
  have HF : Hid (∀ w', Below w3.heap.size w3 w' → ∃ c', c' ≤ c + 1 ∧ Hs w' b n c' ∧ Keep (fun i => i = b) w w') := fun w' h => ⟨c2, HC2.out, HH2.out.keep (Keep.of_below (L := fun _ => False) (hB.trans (h.mono hB.size))) fun h => h, HK2.out.trans (Keep.of_below (hB.trans (h.mono hB.size)))⟩
  clear hB HRT HM2 HA2 HH2 HC2 HK2
  go_wp2_with fail
  go_loopg [28] m.length (fun gg i wr => ∃ k : Nat, i = .int .i64 k ∧ k ≤ m.length ∧ m.length - k = gg ∧ Hid (Below w3.heap.size w3 wr))
  case atStart => exact ⟨0, rfl, by omega, by omega, Below.refl _ _⟩
  case round =>
    obtain ⟨k, rfl, hk, rfl, HW⟩ := hrel
    by_cases hlt : k < m.length
    · have hd : decide (k < m.length) = true := decide_eq_true hlt
      obtain ⟨e, he⟩ : ∃ e, m[k]? = some e := ⟨_, List.getElem?_eq_getElem hlt⟩
      obtain ⟨hok, g2, o, rfl, hr⟩ := (HA3.out.below HW.out) k e he
      have hem : e.ent ∈ m.map En.ent := List.mem_map.2 ⟨e, List.mem_of_getElem? he, rfl⟩
      have hgt := get_map HT.out hem
      have HKE := Lib.hid hok.key
      have le := range_ent hr hok.key
      have st := stE_new (w := wr) (e := e) (z := ⟨z26, none, [], 0⟩) hok.key rfl
      obtain ⟨X, hX⟩ : ∃ X, X = wr.alloc (.cells (enC e).toArray 34) := ⟨_, rfl⟩
      have hbX : Below wr.heap.size wr X := by rw [hX]; exact (Below.refl _ _).alloc (Nat.le_refl _) _
      have hr0 : X.rangeAt wr.heap.size 0 (enC e) := by rw [hX]; exact ent_made wr e _
      have lk := range_key hr0 hok.key
      have HX := Lib.hid hX
      have HR0 := Lib.hid hr0
      have HWX : Hid (Below w3.heap.size w3 X) := HW.out.trans (hbX.mono HW.out.size)
      have HBE := Lib.hid (hok.val.below hbX)
      have HVE := Lib.hid (HV.out e (List.mem_of_getElem? he))
      have HC := Lib.hid (fv.get X n _ T e.k (nd.below HM3.out HWX.out) HT.out hok.key)
      rw [show e.k = e.ent.k from rfl, hgt, HP.out, show (valO (some e.ent)).length = e.v.length from rfl, show (some e.ent).isSome = true from rfl, show e.ent.k = e.k from rfl, show valO (some e.ent) = e.v from rfl] at HC
      have p0 : (0 : Int) ≤ (k : Int) := by omega
      have p1 : (k : Int) < (m.length : Int) := by omega
      rw [hX] at lk
      clear he hok hr hem hgt hX hbX hr0
      go_wp2_with fail
      rw [← HX.out]
      clear HX lk st le
      refine HC.out.mono ?_
      rintro _ w5 ⟨A3, c3, rfl, hN, hB⟩
      have HN := Lib.hid (NewB.ba hN)
      have HW5 := Lib.hid (HWX.out.trans (hB.mono HWX.out.size))
      have lv := range_val (range_below HR0.out hB) HKE.out
      rw [Nat.zero_add] at lv
      have HS := Lib.hid (same_yes A3 e.A c3 e.c e.v.length e.v w5 rfl HN.out (HBE.out.below hB) (by have := HVE.out; omega))
      clear hN hB HC HN HBE HR0
      go_wp2_with fail
      refine HS.out.mono ?_
      rintro _ w6 ⟨rfl, hB⟩
      have HW6 := Lib.hid (HW5.out.trans (hB.mono HW5.out.size))
      clear hB HS lv HW5
      go_wp2_with fail
      go_roundg (m.length - (k + 1))
      case measure => omega
      case rel => exact ⟨k + 1, by go_num, by omega, rfl, HW6⟩
    · obtain rfl : k = m.length := by omega
      have hd : decide (m.length < m.length) = false := decide_eq_false (by omega)
      go_wp2_with fail
      go_ret
      exact ⟨rfl, HF.out _ HW.out⟩
end Go.Proofs.YtaajnjddfcdeaaaGreatDoor

/- alive of layer 9 over contracts. -/
namespace Go.Proofs.YtaajnjddfcdeaaaGreatDoor
open Go.RowKit

end Go.Proofs.YtaajnjddfcdeaaaGreatDoor

/- The library's slices.Clone at bytes: new memory. -/
namespace Go.Proofs.YtaajnjddfcdeaaaGreatDoor
open Go.RowKit
end Go.Proofs.YtaajnjddfcdeaaaGreatDoor

/- What all the laws of layer 9 begin with. -/
namespace Go.Proofs.YtaajnjddfcdeaaaGreatDoor
open Go.RowKit

theorem hash_any (n : Int) (w : World) : Calls Tryz.prog 9 #[.int .i64 n] w fun e w' => ∃ p, e = .returned (.pointer p) ∧ Below w.heap.size w w' := by
  rcases Classical.em (n < 0 ∨ 256 < n) with h | h
  · exact (hash_out n w h).mono fun e w' ⟨he, hb⟩ => ⟨none, he, hb⟩
  · exact (hash_in n w (by omega) (by omega)).mono fun e w' ⟨b, he, _, _, hb⟩ => ⟨some ⟨b, 0, none⟩, he, hb⟩
/-- What a law's walk knows behind the tree and the hasher. -/
structure Tf (M : World → Int → Tv → Prop) (W : World) (n : Int) (A : Option Addr) (m : List En) (T : Tv) (b c : Nat) (w : World) : Prop where
  fs : Fs M W n A m T w
  hs : ∃ c', c' ≤ c ∧ Hs w b n c'
  new : W.heap.size ≤ b
theorem Tf.below {M : World → Int → Tv → Prop} (nd : NdV M) {W w w' : World} {n : Int} {A : Option Addr} {m : List En} {T : Tv} {b c : Nat} (h : Tf M W n A m T b c w) (hb : Below w.heap.size w w') : Tf M W n A m T b c w' := by
  obtain ⟨c', hc, hh⟩ := h.hs
  exact ⟨h.fs.below nd hb, ⟨c', hc, hh.keep (Keep.of_below (L := fun _ => False) hb) fun h => h⟩, h.new⟩
theorem Tf.made {M : World → Int → Tv → Prop} (nd : NdV M) {W w w' : World} {n : Int} {A : Option Addr} {m : List En} {T : Tv} {b c d : Nat} (h : Tf M W n A m T b c w) (hk : Keep (fun i => i = b) w w') (hh : ∃ c', c' ≤ d ∧ Hs w' b n c') : Tf M W n A m T b d w' := by
  obtain ⟨c', _, h1⟩ := h.hs
  exact ⟨h.fs.hs nd h1 h.new hk, hh, h.new⟩
end Go.Proofs.YtaajnjddfcdeaaaGreatDoor

/- The walk of PutPuts over contracts. -/
namespace Go.Proofs.YtaajnjddfcdeaaaGreatDoor
open Go.RowKit
end Go.Proofs.YtaajnjddfcdeaaaGreatDoor

/- The walk of PutAll over contracts. -/
namespace Go.Proofs.YtaajnjddfcdeaaaGreatDoor
open Go.RowKit

end Go.Proofs.YtaajnjddfcdeaaaGreatDoor

/- Ways and siblings where an entry is put in: plain facts. -/
namespace Go.Proofs.YtaajnjddfcdeaaaGreatDoor
open Go.RowKit

end Go.Proofs.YtaajnjddfcdeaaaGreatDoor

/- The walk of PutShares over contracts (its drawn regions by program). -/
namespace Go.Proofs.YtaajnjddfcdeaaaGreatDoor
open Go.RowKit
end Go.Proofs.YtaajnjddfcdeaaaGreatDoor

/- The walk of PutCommutes over contracts (its drawn regions by program). -/
namespace Go.Proofs.YtaajnjddfcdeaaaGreatDoor
open Go.RowKit

theorem IsMap.perm {l m : List Ent} {T S : Tv} (h : IsMap l T) (h' : IsMap m S) (p : l.Perm m) : T.tr = S.tr := by
  rw [h.tr, h'.tr]
  exact growT_perm 257 l m 0 h.sep (.inr ⟨by omega, by omega, by omega⟩) p
end Go.Proofs.YtaajnjddfcdeaaaGreatDoor

/- The laws of layer 9, their cases together. -/
namespace Go.Proofs.YtaajnjddfcdeaaaGreatDoor
open Go.RowKit

end Go.Proofs.YtaajnjddfcdeaaaGreatDoor
