/- The reference.s Same. -/
import Derived.Test.YtbkokcfmndiedaaGreatDoorGn
import Derived.Lib.AppendZeros
namespace Go.Proofs.YtbkokcfmndiedaaGreatDoor
open Go.RowKit

set_option maxHeartbeats 1000000 in
theorem same_c (A B : Option Addr) (c d : Nat) (l m : List UInt8) (w : World) (hA : BA w A l) (hB : BA w B m) (hl : l.length ≤ 4611686018427387904) (hm : m.length ≤ 4611686018427387904) :
    Calls Tryz.prog 18 #[.slice A l.length c, .slice B m.length d] w fun e w' => e = .returned (.bool (decide (l = m))) ∧ Below w.heap.size w w' := by
  by_cases hlen : l.length = m.length
  · go_enter Tryz.func18, Tryz.ntmps18
    go_wp2
    go_loopw [5] (fun i wr => ∃ k n : Nat, i = .int .i64 k ∧ k ≤ l.length ∧ Hid (l.take k = m.take k) ∧ wr = w.drewN n) (fun i _ => l.length - (intOf i).toNat)
    case atStart => exact ⟨0, 0, rfl, by omega, rfl, rfl⟩
    case round =>
      obtain ⟨k, n, rfl, hk, HK, rfl⟩ := hrel
      by_cases hlt : k < l.length
      · obtain ⟨x, hx⟩ := get_some hlt
        obtain ⟨y, hy⟩ := get_some (show k < m.length by omega)
        obtain ⟨b1, o1, rfl, h1⟩ := hA k x hx
        obtain ⟨b2, o2, rfl, h2⟩ := hB k y hy
        have HX := Lib.hid hx
        have HY := Lib.hid hy
        clear hx hy hA hB
        by_cases hxy : x = y
        · subst hxy
          have hd : ((x.toNat : Int) != (x.toNat : Int)) = false := by simp
          go_wp2_with fail
          go_quiet (fail)
          go_wp2
          go_roundw
          case rel =>
            refine ⟨k + 1, _, by go_num, by omega, ?_, rfl⟩
            show l.take (k + 1) = m.take (k + 1)
            rw [List.take_add_one, List.take_add_one, HK.out, HX.out, HY.out]
          case measure => simp [intOf]; omega
        · have hd : ((x.toNat : Int) != (y.toNat : Int)) = true := by
            have : x.toNat ≠ y.toNat := fun h => hxy (UInt8.toNat_inj.1 h)
            simp; omega
          have hne : decide (l = m) = false := decide_eq_false fun h => by
            subst h
            have := HX.out.symm.trans HY.out
            exact hxy (by simpa using this)
          have HN := Lib.hid hne
          clear hne
          go_wp2_with fail
          go_quiet (fail)
          go_wp2
          go_ret
          exact ⟨ret_bool HN.out.symm, below_drewN (below_drewN (Below.refl _ _) _) _⟩
      · have he : decide (l = m) = true := decide_eq_true (by
          have := HK.out
          rwa [List.take_of_length_le (by omega), List.take_of_length_le (by omega)] at this)
        have HN := Lib.hid he
        clear he
        go_wp2
        go_ret
        exact ⟨ret_bool HN.out.symm, below_drewN (Below.refl _ _) _⟩
  · have hd : (((l.length : Nat) : Int) != (m.length : Int)) = true := by simp; omega
    have hne : decide (l = m) = false := decide_eq_false fun h => hlen (by rw [h])
    have HN := Lib.hid hne
    clear hne
    go_enter Tryz.func18, Tryz.ntmps18
    go_wp2
    go_ret
    exact ⟨ret_bool HN.out.symm, Below.refl _ _⟩
theorem same_yes (A B : Option Addr) (c d n : Nat) (l : List UInt8) (w : World) (hn : l.length = n) (hA : BA w A l) (hB : BA w B l) (hl : n ≤ 1000000) :
    Calls Tryz.prog 18 #[.slice A n c, .slice B n d] w fun e w' => e = .returned (.bool true) ∧ Below w.heap.size w w' := by
  subst hn
  have := same_c A B c d l l w hA hB (by omega) (by omega)
  rwa [decide_eq_true rfl] at this
theorem same_ex (A B : Option Addr) (c d : Nat) (w : World) (h : ∃ l : List UInt8, l.length = 4 ∧ BA w A l ∧ BA w B l) :
    Calls Tryz.prog 18 #[.slice A 4 c, .slice B 4 d] w fun e w' => e = .returned (.bool true) ∧ Below w.heap.size w w' := by
  obtain ⟨l, h1, h2, h3⟩ := h
  exact same_yes A B c d 4 l w h1 h2 h3 (by decide)
end Go.Proofs.YtbkokcfmndiedaaGreatDoor
