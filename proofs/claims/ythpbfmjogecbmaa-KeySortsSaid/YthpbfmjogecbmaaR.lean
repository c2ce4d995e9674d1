/- 'alive' returns true: the examples of the chapter. -/
import Derived.Test.YthpbfmjogecbmaaI
import Derived.Test.YthpbfmjogecbmaaJ
import Derived.Test.YthpbfmjogecbmaaO
import Derived.Test.YthpbfmjogecbmaaQ
namespace Go.Proofs.Ythpbfmjogecbmaa
open Go.RowKit

/-- The key with this first byte and zeros. -/
def kf (x : Nat) (h : x < 256) : K := ⟨upd kz 0 x, fun j => by unfold upd kz; split <;> omega, fun j hj => by unfold upd kz; rw [if_neg (by omega)]⟩
def k1 : K := kf 1 (by decide)
def k3 : K := kf 3 (by decide)
def k200 : K := kf 200 (by decide)
theorem rsort_313 : rsort [k3, k1, k3] = [k1, k3] := by decide +kernel
theorem chk_13 : chk [k1, k3] = 0 := by decide +kernel
theorem zeros_1 : zeros [k1, k200] 0 = 1 := by decide +kernel
theorem hexs_ex : hexs [1, 171] = [48, 49, 97, 98] := by decide +kernel
theorem parsed_ex : parsed [48, 49, 97, 98] = [1, 171] := by decide +kernel
theorem fine_ex : fine [48, 49, 97, 98] = true := by decide +kernel
def zb (n : Nat) : Array Value := ((List.range n).map fun _ => Value.int .u8 0).toArray
theorem mk32 (w : World) : (Instr.makeSlice 22 (.int .i64 32) (.int .i64 32)).run Try.prog w = .ok (.slice (some ⟨w.heap.size, 0, none⟩) 32 32) (w.alloc (.cells (zb 32) 5)) := by kernel_rfl
theorem mk31 (w : World) : (Instr.makeSlice 22 (.int .i64 31) (.int .i64 31)).run Try.prog w = .ok (.slice (some ⟨w.heap.size, 0, none⟩) 31 31) (w.alloc (.cells (zb 31) 5)) := by kernel_rfl
theorem BA_zb (w : World) (n : Nat) : BA (w.alloc (.cells (zb n) 5)) (some ⟨w.heap.size, 0, none⟩) (List.replicate n 0) := fun j x hx => by
  refine ⟨_, _, rfl, ?_⟩
  have hj : j < n := by simpa using (List.getElem?_eq_some_iff.1 hx).1
  rw [cell_of_row _ _ _ _ _ _ (heap_alloc_last w _), Nat.zero_add]
  have e : x = 0 := by
    rw [List.getElem?_replicate, if_pos hj] at hx
    simpa using hx.symm
  subst e
  simp [zb, hj]
theorem kof_zb : kc (kof (List.replicate 32 0) 32) = kc kz := kc_congr (by decide +kernel)
theorem KA_rows (w : World) (l : List K) : KA (w.alloc (.cells (cellsK l).toArray 24)) (some ⟨w.heap.size, 0, none⟩) l := fun j k hk => by
  refine ⟨_, _, rfl, fun c v hv => ?_⟩
  have hc : c < 32 := by
    rcases Nat.lt_or_ge c 32 with h | h
    · exact h
    · rw [List.getElem?_eq_none (by rw [kc_len]; exact h)] at hv; cases hv
  rw [Array.getElem?_toList, kc_at _ _ hc] at hv
  rw [cell_of_row _ _ _ _ _ _ (heap_alloc_last w _), List.getElem?_toArray, Nat.zero_add, cellsK_at l j c k hk hc]
  exact hv
theorem BA_row (w : World) (l : List UInt8) : BA (w.alloc (.cells (bcells l).toArray 5)) (some ⟨w.heap.size, 0, none⟩) l := fun j x hx => by
  refine ⟨_, _, rfl, ?_⟩
  rw [cell_of_row _ _ _ _ _ _ (heap_alloc_last w _), List.getElem?_toArray, Nat.zero_add]
  exact bcells_at hx

theorem set1 : (kc kz).setIfInBounds 0 (.int .u8 1) = kc k1.f := kc_set kz 0 1
theorem set3 : (kc kz).setIfInBounds 0 (.int .u8 3) = kc k3.f := kc_set kz 0 3
theorem set200 : (kc kz).setIfInBounds 0 (.int .u8 200) = kc k200.f := kc_set kz 0 200
theorem KA_three (w : World) (a b c : K) : KA (w.alloc (.cells ((kc a.f).toList ++ ((kc b.f).toList ++ (kc c.f).toList)).toArray 24)) (some ⟨w.heap.size, 0, none⟩) [a, b, c] := by
  have := KA_rows w [a, b, c]
  rwa [show cellsK [a, b, c] = (kc a.f).toList ++ ((kc b.f).toList ++ (kc c.f).toList) by simp [cellsK]] at this
theorem KA_two (w : World) (a b : K) : KA (w.alloc (.cells ((kc a.f).toList ++ (kc b.f).toList).toArray 24)) (some ⟨w.heap.size, 0, none⟩) [a, b] := by
  have := KA_rows w [a, b]
  rwa [show cellsK [a, b] = (kc a.f).toList ++ (kc b.f).toList by simp [cellsK]] at this

theorem BA_ex (w : World) : BA (w.alloc (.cells #[.int .u8 1, .int .u8 171] 5)) (some ⟨w.heap.size, 0, none⟩) [1, 171] := BA_row w [1, 171]
theorem same_ex {A B : Option Addr} {c d : Nat} {w : World} (hA : BA w A [1, 171]) (hB : BA w B [1, 171]) : Calls Try.prog 15 #[.slice A 2 c, .slice B 2 d] w fun e w' => e = .returned (.bool true) ∧ Below w.heap.size w w' := by
  have := same_c A B c d [1, 171] [1, 171] w hA hB (by decide) (by decide)
  rwa [decide_eq_true rfl] at this
theorem hex_ex {A : Option Addr} {c : Nat} {w : World} (hA : BA w A [1, 171]) : Calls Try.prog 12 #[.slice A 2 c] w fun e w' => e = .returned (.string ⟨#[48, 49, 97, 98]⟩) ∧ Below w.heap.size w w' := by
  have := hex_c A c [1, 171] w hA (by decide)
  rwa [hexs_ex] at this
theorem equal_ex {A B : Option Addr} {c d : Nat} {w : World} (hA : KA w A [k1, k3]) (hB : KA w B [k1, k3]) : Calls Try.prog 21 #[.slice A 2 c, .slice B 2 d] w fun e w' => e = .returned (.bool true) ∧ Below w.heap.size w w' := by
  have := equal_c A B c d [k1, k3] [k1, k3] w hA hB (by decide) (by decide)
  rwa [decide_eq_true rfl] at this
theorem check_ex {A : Option Addr} {c : Nat} {w : World} (hA : KA w A [k1, k3]) : Calls Try.prog 17 #[.slice A 2 c] w fun e w' => e = .returned (.int .i64 0) ∧ Below w.heap.size w w' := by
  have := check_c A c [k1, k3] w hA (by decide)
  rwa [chk_13] at this
theorem split_ex {A : Option Addr} {c : Nat} {w : World} (hA : KA w A [k1, k200]) : Calls Try.prog 24 #[.slice A 2 c, .int .i64 0] w fun e w' => e = .returned (.int .i64 1) ∧ Below w.heap.size w w' := by
  have := split_c A c [k1, k200] 0 w hA (by decide) (by decide) (fun a b hab hb h => by
    have hb' : b < 2 := hb
    have : b = 0 ∨ b = 1 := by omega
    rcases this with rfl | rfl
    · have : a = 0 := by omega
      subst this
      exact h
    · decide +kernel)
  rwa [zeros_1] at this

set_option maxRecDepth 100000 in
set_option maxHeartbeats 2000000 in
theorem alive_c (w : World) : Calls Try.prog 10 #[] w fun e w' => e = .returned (.bool true) ∧ Below w.heap.size w w' := by
  have h32 := mk32
  have h31 := mk31
  go_enter Try.func10, Try.ntmps10
  go_wp2_with fail
  refine (of_yes _ _ (List.replicate 32 0) _ (BA_zb w 32) (by decide)).mono ?_
  rintro e w1 ⟨rfl, hb1⟩
  rw [kof_zb]
  have HB1 : Hid (Below w.heap.size w w1) := (one_below _ _).trans (hb1.mono (by simp))
  clear hb1
  go_wp2_with fail
  refine (of_no _ _ _ _ (by decide)).mono ?_
  rintro e w2 ⟨rfl, hb2⟩
  have KZ2 : KeyAt w2 w1.heap.size kz := (KeyAt.two w1 kz _).below hb2 (by simp; omega)
  have HB2 : Hid (Below w.heap.size w w2) := HB1.out.trans ((two_below _ _ _).trans (hb2.mono (by simp; omega)) |>.mono HB1.out.size)
  clear hb2 h32 h31
  go_wp2_with fail
  refine (parse_c ⟨#[48, 49, 97, 98]⟩ _ (by decide)).mono ?_
  intro e w3 hp
  unfold ParsePost at hp
  rw [show (⟨#[48, 49, 97, 98]⟩ : ByteArray).data.toList = [48, 49, 97, 98] from rfl, fine_ex, if_pos rfl, parsed_ex] at hp
  obtain ⟨Ap, cp, rfl, hba, hb3⟩ := hp
  have KZ3 := (KZ2.below (one_below w2 (.cells (kc kz) 24)) KZ2.lt).below hb3 (by have := KZ2.lt; simp; omega)
  have HB3 : Hid (Below w.heap.size w w3) := HB2.out.trans ((one_below _ _).trans (hb3.mono (by simp)) |>.mono HB2.out.size)
  clear hb3 KZ2
  have q1 := set1
  have q3 := set3
  have q200 := set200
  go_wp2_with fail
  refine (sort_c _ _ [k3, k1, k3] _ (KA_three w3 k3 k1 k3) (by decide)).mono ?_
  rintro e w4 ⟨As, cs, rfl, hks, hb4⟩
  rw [rsort_313] at hks ⊢
  have B4 : Below w3.heap.size w3 w4 := (one_below _ _).trans (hb4.mono (by simp))
  have KZ4 := KZ3.below B4 KZ3.lt
  have hba4 := hba.below B4
  have HB4 : Hid (Below w.heap.size w w4) := HB3.out.trans (B4.mono HB3.out.size)
  clear hb4 KZ3 hba B4
  have l4 := KZ4.ld
  have fz : keq kz kz = true := (keq_iff _ _).2 fun _ _ => rfl
  go_wp2_with fail
  refine (same_ex (hba4.below (one_below _ _)) (BA_ex w4)).mono ?_
  rintro e w5 ⟨rfl, hb5⟩
  have B5 : Below w4.heap.size w4 w5 := (one_below _ _).trans (hb5.mono (by simp))
  have hba5 := hba4.below B5
  have hks5 := hks.below B5
  have HB5 : Hid (Below w.heap.size w w5) := HB4.out.trans (B5.mono HB4.out.size)
  clear hb5 hba4 hks B5 l4 KZ4 fz
  go_wp2_with fail
  refine (hex_ex hba5).mono ?_
  rintro e w6 ⟨rfl, hb6⟩
  have hks6 := hks5.below hb6
  have HB6 : Hid (Below w.heap.size w w6) := HB5.out.trans (hb6.mono HB5.out.size)
  clear hb6 hba5 hks5
  go_wp2_with fail
  refine (equal_ex (hks6.below (one_below _ _)) (KA_two w6 k1 k3)).mono ?_
  rintro e w7 ⟨rfl, hb7⟩
  have B7 : Below w6.heap.size w6 w7 := (one_below _ _).trans (hb7.mono (by simp))
  have hks7 := hks6.below B7
  have HB7 : Hid (Below w.heap.size w w7) := HB6.out.trans (B7.mono HB6.out.size)
  clear hb7 hks6 B7
  go_wp2_with fail
  refine (check_ex hks7).mono ?_
  rintro e w8 ⟨rfl, hb8⟩
  have HB8 : Hid (Below w.heap.size w w8) := HB7.out.trans (hb8.mono HB7.out.size)
  clear hb8 hks7
  go_wp2_with fail
  refine (split_ex (KA_two w8 k1 k200)).mono ?_
  rintro e w9 ⟨rfl, hb9⟩
  have HB9 : Hid (Below w.heap.size w w9) := HB8.out.trans ((one_below _ _).trans (hb9.mono (by simp)) |>.mono HB8.out.size)
  clear hb9
  go_wp2
  go_ret
  exact ⟨rfl, HB9.out⟩
end Go.Proofs.Ythpbfmjogecbmaa
