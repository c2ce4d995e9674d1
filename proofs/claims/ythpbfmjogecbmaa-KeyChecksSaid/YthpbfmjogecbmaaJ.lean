/- The contracts of key.Sort and key.Split. -/
import Derived.Test.YthpbfmjogecbmaaG
import Derived.Test.YthpbfmjogecbmaaH
import Derived.Shelf.SlSorted.Search
namespace Go.Proofs.Ythpbfmjogecbmaa
open Go.RowKit

set_option maxHeartbeats 1000000 in
theorem sort_c (A : Option Addr) (c : Nat) (l : List K) (w : World) (hA : KA w A l) (hl : l.length ≤ 4000000000000) :
    Calls Try.prog 20 #[.slice A l.length c] w fun e w' => ∃ A' c', e = .returned (.slice A' (rsort l).length c') ∧ KA w' A' (rsort l) ∧ Below w.heap.size w w' := by
  go_enter Try.func20, Try.ntmps20
  go_wp2_with fail
  refine (clone_c A c l w hA (by omega)).mono ?_
  rintro e w1 ⟨A', c', rfl, hR, hc, hb⟩
  have HR := Lib.hid hR
  have HB := Lib.hid hb
  clear hR hb hA
  go_wp2_with fail
  refine (sortFunc_c A' c' l w.heap.size w1 HR.out HB.out.size (by omega)).mono ?_
  rintro e w2 ⟨rfl, m, hm, hmem, hs, hR2, hb2⟩
  rw [← hm] at hc ⊢
  have HR2 := Lib.hid hR2
  have HB2 : Hid (Below w.heap.size w w2) := HB.out.trans hb2
  have HD : Hid (dd m = rsort l) := dd_rsort hs hmem
  have hml : m.length ≤ 4398046511103 := by omega
  clear hR2 hb2 hs hmem hm
  go_wp2_with fail
  refine (compact_c A' c' m w.heap.size w2 HR2.out HB2.out.size hml hc).mono ?_
  rintro e w3 ⟨rfl, hk, hb3⟩
  rw [HD.out] at hk ⊢
  have HK := Lib.hid hk
  have HB3 := Lib.hid hb3
  clear hk hb3
  go_wp2
  go_ret
  exact ⟨A', c', rfl, HK.out, HB2.out.trans HB3.out⟩

/-- How many keys of a list have bit i 0. -/
def zeros (l : List K) (i : Nat) : Nat := (List.range l.length).countP fun j => !(bit (l[j]!).f i != 0)
set_option maxHeartbeats 1000000 in
theorem split1_c (b1 b2 : Nat) (A : Option Addr) (c : Nat) (l : List K) (i j : Nat) (w : World) (hA : KA w A l) (hj : j < l.length) (hl : l.length ≤ 4000000000000) (hi : i < 256)
    (h1 : w.cell? ⟨b1, 0, none⟩ = some (.slice A l.length c)) (h2 : w.cell? ⟨b2, 0, none⟩ = some (.int .i64 i)) :
    Calls Try.prog 33 #[.int .i64 j, .pointer (some ⟨b1, 0, none⟩), .pointer (some ⟨b2, 0, none⟩)] w fun e w' => e = .returned (.bool (bit (l[j]!).f i != 0)) ∧ Grew w w' := by
  obtain ⟨x, hx⟩ := get_some hj
  obtain ⟨b, o, rfl, hk⟩ := hA j x hx
  have hxj : l[j]! = x := by
    obtain ⟨h, e⟩ := List.getElem?_eq_some_iff.1 hx
    rw [getElem!_pos l j h, e]
  rw [hxj]
  have bx := x.byt
  have hbI : bitI x.f i = bit x.f i := by unfold bitI; rw [if_pos ⟨by omega, by omega⟩, Int.toNat_natCast]
  have c1 : ∀ z : Behind w, z.w.cell? ⟨b1, 0, none⟩ = some (.slice (some ⟨b, o, none⟩) l.length c) := fun z => by rw [z.h.below.cell (p := ⟨b1, 0, none⟩) (World.block_lt_of_cell? _ _ h1)]; exact h1
  have c2 : ∀ z : Behind w, z.w.cell? ⟨b2, 0, none⟩ = some (.int .i64 i) := fun z => by rw [z.h.below.cell (p := ⟨b2, 0, none⟩) (World.block_lt_of_cell? _ _ h2)]; exact h2
  have la : ∀ z : Behind w, ldKey z.w (.pointer (some ⟨b, o + j * 32, none⟩)) = .ok (.value (.agg (kc x.f))) z.w := fun z => (hk.below z.h.below hk.lt).ld
  obtain ⟨v, hv⟩ : ∃ v, v = bit x.f i := ⟨_, rfl⟩
  have HV := Lib.hid hv
  rw [← hv] at hbI ⊢
  clear hA hx hxj hk h1 h2 hv
  go_enter Try.func33, Try.ntmps33
  go_wp2_with fail
  refine wp_region_behind (by kernel_rfl) (by kernel_rfl) ?_
  repeat (go_big_quiet_step ((go_at_call 34; exact Behind.call (bit_g _ (by assumption) _ _))))
  refine wpQuiet_nil ?_
  rintro _ ⟨z, rfl⟩
  clear c1 c2 la
  go_wp2
  go_ret
  refine ⟨ret_bool ?_, z.h⟩
  by_cases h : v = 0
  · subst h; rfl
  · have h1 : ((v : Int) != 0) = true := by simp; omega
    have h2 : (v != 0) = true := by simp; omega
    rw [h1, h2]

set_option maxHeartbeats 1000000 in
theorem split_c (A : Option Addr) (c : Nat) (l : List K) (i : Nat) (w : World) (hA : KA w A l) (hl : l.length ≤ 4000000000000) (hi : i < 256)
    (hmono : ∀ a b, a ≤ b → b < l.length → (bit (l[a]!).f i != 0) = true → (bit (l[b]!).f i != 0) = true) :
    Calls Try.prog 24 #[.slice A l.length c, .int .i64 i] w fun e w' => e = .returned (.int .i64 (zeros l i)) ∧ Below w.heap.size w w' := by
  obtain ⟨W, hW⟩ : ∃ W, W = (w.alloc (.cells #[.slice A l.length c] 38)).alloc (.cells #[.int .i64 i] 3) := ⟨_, rfl⟩
  have h1 : W.cell? ⟨w.heap.size, 0, none⟩ = some (.slice A l.length c) := by rw [hW, cell_of_row _ _ _ _ _ _ (heap_alloc2_old w _ _)]; rfl
  have h2 : W.cell? ⟨w.heap.size + 1, 0, none⟩ = some (.int .i64 i) := by rw [hW, cell_of_row _ _ _ _ _ _ (heap_alloc2_new w _ _)]; rfl
  have hAW : KA W A l := by rw [hW]; exact hA.below (two_below _ _ _)
  have eg : ∀ args w, (callFunc 33 args).run Try.prog w = .ok (.enter 33 args) w := enters_of Try.func33 (by kernel_rfl) rfl
  have hcon := Any.sort_Search lsearch 33 #[.pointer (some ⟨w.heap.size, 0, none⟩), .pointer (some ⟨w.heap.size + 1, 0, none⟩)] l.length (fun j => bit (l[j]!).f i != 0) W eg (by omega)
    (fun m os j hj => by
      have hg : Grew W (Sort.grow (W.drewN m) os) := ⟨m, os, rfl⟩
      have := split1_c w.heap.size (w.heap.size + 1) A c l i j (Sort.grow (W.drewN m) os) (hAW.below hg.below) hj hl hi
        (by rw [hg.below.cell (p := ⟨w.heap.size, 0, none⟩) (World.block_lt_of_cell? _ _ h1)]; exact h1) (by rw [hg.below.cell (p := ⟨w.heap.size + 1, 0, none⟩) (World.block_lt_of_cell? _ _ h2)]; exact h2)
      exact this.mono fun _ _ ⟨he, q, os', h⟩ => ⟨he, q, os', h⟩) hmono
  change Calls Try.prog 32 _ _ _ at hcon
  have HB : Hid (Below w.heap.size w W) := by rw [hW]; exact two_below _ _ _
  rw [hW] at hcon
  have HZ : Hid (zeros l i = (List.range l.length).countP fun j => !(bit (l[j]!).f i != 0)) := rfl
  obtain ⟨Z, hZ⟩ : ∃ Z, Z = (List.range l.length).countP fun j => !(bit (l[j]!).f i != 0) := ⟨_, rfl⟩
  rw [← hZ] at hcon HZ
  rw [HZ.out]
  clear h1 h2 hAW hmono hA eg hZ HZ HB hW
  go_enter Try.func24, Try.ntmps24
  go_wp2_with (go_at_call 32; refine hcon.mono ?_; rintro e w' ⟨rfl, q, os, rfl⟩)
  go_ret
  exact ⟨rfl, (two_below _ _ _).trans ((show Grew _ _ from ⟨q, os, rfl⟩).below.mono (by simp; omega))⟩
end Go.Proofs.Ythpbfmjogecbmaa
