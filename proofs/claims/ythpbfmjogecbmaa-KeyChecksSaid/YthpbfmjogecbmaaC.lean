/- The contracts over bytes: the digits of both, Of of both, Same. -/
import Derived.Test.YthpbfmjogecbmaaW
namespace Go.Proofs.Ythpbfmjogecbmaa
open Go.RowKit

/-- What a digit is worth. -/
def dg (c : Nat) : Nat := if 48 ≤ c ∧ c ≤ 57 then c - 48 else if 97 ≤ c ∧ c ≤ 102 then c - 87 else 0
def isDg (c : Nat) : Bool := (48 ≤ c && c ≤ 57) || (97 ≤ c && c ≤ 102)
theorem dg_lt (c : Nat) : dg c < 16 := by unfold dg; split; omega; split <;> omega

theorem ret_pair {a a' b : Value} (h : a = a') : Ending.returned (.tuple #[a, b]) = .returned (.tuple #[a', b]) := by rw [h]
theorem int_eq {k : IntKind} {a b : Int} (h : a = b) : Value.int k a = .int k b := by rw [h]
theorem ret_bool {a b : Bool} (h : a = b) : Ending.returned (.bool a) = .returned (.bool b) := by rw [h]

set_option maxHeartbeats 400000 in
theorem digit_yes (c : Nat) (w : World) (h : isDg c = true) : Calls Try.prog 26 #[.int .i32 c] w fun e w' => e = .returned (.tuple #[.int .u8 (dg c), .bool true]) ∧ w = w' := by
  have hc : (48 ≤ c ∧ c ≤ 57) ∨ (97 ≤ c ∧ c ≤ 102) := by unfold isDg at h; simpa using h
  clear h
  rcases hc with ⟨h1, h2⟩ | ⟨h1, h2⟩
  · have e : dg c = c - 48 := by unfold dg; rw [if_pos ⟨h1, h2⟩]
    rw [e]
    clear e
    go_enter Try.func26, Try.ntmps26
    go_wp2
    go_ret2
    exact ⟨ret_pair (a := .int .u8 ((c : Int) - 48)) (b := .bool true) (int_eq (by omega)), rfl⟩
  · have e : dg c = c - 87 := by unfold dg; rw [if_neg (by omega), if_pos ⟨h1, h2⟩]
    rw [e]
    clear e
    go_enter Try.func26, Try.ntmps26
    go_wp2
    go_ret2
    exact ⟨ret_pair (a := .int .u8 ((c : Int) - 97 + 10)) (b := .bool true) (int_eq (by omega)), rfl⟩
set_option maxHeartbeats 400000 in
theorem digit_no (c : Nat) (w : World) (h : isDg c = false) (hc : c ≤ 2147483647) : Calls Try.prog 26 #[.int .i32 c] w fun e w' => e = .returned (.tuple #[.int .u8 0, .bool false]) ∧ w = w' := by
  have hc : c < 48 ∨ (57 < c ∧ c < 97) ∨ 102 < c := by unfold isDg at h; simp at h; omega
  clear h
  rcases hc with h1 | ⟨h1, h2⟩ | h1 <;>
  · go_enter Try.func26, Try.ntmps26
    go_wp2
    go_ret2
    exact ⟨rfl, rfl⟩
set_option maxHeartbeats 400000 in
theorem rdigit_yes (c : Nat) (w : World) (h : isDg c = true) : Calls Try.prog 27 #[.int .u8 c] w fun e w' => e = .returned (.int .i64 (dg c)) ∧ w = w' := by
  have hc : (48 ≤ c ∧ c ≤ 57) ∨ (97 ≤ c ∧ c ≤ 102) := by unfold isDg at h; simpa using h
  clear h
  rcases hc with ⟨h1, h2⟩ | ⟨h1, h2⟩
  · have e : dg c = c - 48 := by unfold dg; rw [if_pos ⟨h1, h2⟩]
    rw [e]
    clear e
    go_enter Try.func27, Try.ntmps27
    go_wp2
    go_ret
    exact ⟨ret_int (by omega), rfl⟩
  · have e : dg c = c - 87 := by unfold dg; rw [if_neg (by omega), if_pos ⟨h1, h2⟩]
    rw [e]
    clear e
    go_enter Try.func27, Try.ntmps27
    go_wp2
    go_ret
    exact ⟨ret_int (by omega), rfl⟩
set_option maxHeartbeats 400000 in
theorem rdigit_no (c : Nat) (w : World) (h : isDg c = false) (hc : c < 256) : Calls Try.prog 27 #[.int .u8 c] w fun e w' => e = .returned (.int .i64 (-1)) ∧ w = w' := by
  have hc : c < 48 ∨ (57 < c ∧ c < 97) ∨ 102 < c := by unfold isDg at h; simp at h; omega
  clear h
  rcases hc with h1 | ⟨h1, h2⟩ | h1 <;>
  · go_enter Try.func27, Try.ntmps27
    go_wp2
    go_ret
    exact ⟨rfl, rfl⟩

set_option maxHeartbeats 1000000 in
theorem same_c (A B : Option Addr) (c d : Nat) (l m : List UInt8) (w : World) (hA : BA w A l) (hB : BA w B m) (hl : l.length ≤ 4611686018427387904) (hm : m.length ≤ 4611686018427387904) :
    Calls Try.prog 15 #[.slice A l.length c, .slice B m.length d] w fun e w' => e = .returned (.bool (decide (l = m))) ∧ Below w.heap.size w w' := by
  by_cases hlen : l.length = m.length
  · go_enter Try.func15, Try.ntmps15
    go_wp2
    go_loopw [5] (fun i wr => ∃ k n : Nat, i = .int .i64 k ∧ k ≤ l.length ∧ Hid (l.take k = m.take k) ∧ wr = w.drewN n) (fun i _ => l.length - (intOf i).toNat)
    case atStart => exact ⟨0, 0, rfl, by omega, rfl, rfl⟩
    case round =>
      obtain ⟨k, n, rfl, hk, HK, rfl⟩ := hrel
      by_cases hlt : k < l.length
      · obtain ⟨x, hx⟩ := get_some hlt
        obtain ⟨y, hy⟩ := get_some (show k < m.length by omega)
        obtain ⟨b1, o1, rfl, h1⟩ := hA k x hx
        obtain ⟨b2, o2, rfl, h2⟩ := hB k y hy
        have HX := Lib.hid hx
        have HY := Lib.hid hy
        clear hx hy hA hB
        by_cases hxy : x = y
        · subst hxy
          have hd : ((x.toNat : Int) != (x.toNat : Int)) = false := by simp
          go_wp2_with fail
          go_quiet (fail)
          go_wp2
          go_roundw
          case rel =>
            refine ⟨k + 1, _, by go_num, by omega, ?_, rfl⟩
            show l.take (k + 1) = m.take (k + 1)
            rw [List.take_add_one, List.take_add_one, HK.out, HX.out, HY.out]
          case measure => simp [intOf]; omega
        · have hd : ((x.toNat : Int) != (y.toNat : Int)) = true := by
            have : x.toNat ≠ y.toNat := fun h => hxy (UInt8.toNat_inj.1 h)
            simp; omega
          have hne : decide (l = m) = false := decide_eq_false fun h => by
            subst h
            have := HX.out.symm.trans HY.out
            exact hxy (by simpa using this)
          have HN := Lib.hid hne
          clear hne
          go_wp2_with fail
          go_quiet (fail)
          go_wp2
          go_ret
          exact ⟨ret_bool HN.out.symm, below_drewN (below_drewN (Below.refl _ _) _) _⟩
      · have he : decide (l = m) = true := decide_eq_true (by
          have := HK.out
          rwa [List.take_of_length_le (by omega), List.take_of_length_le (by omega)] at this)
        have HN := Lib.hid he
        clear he
        go_wp2
        go_ret
        exact ⟨ret_bool HN.out.symm, below_drewN (Below.refl _ _) _⟩
  · have hd : (((l.length : Nat) : Int) != (m.length : Int)) = true := by simp; omega
    have hne : decide (l = m) = false := decide_eq_false fun h => hlen (by rw [h])
    have HN := Lib.hid hne
    clear hne
    go_enter Try.func15, Try.ntmps15
    go_wp2
    go_ret
    exact ⟨ret_bool HN.out.symm, Below.refl _ _⟩
end Go.Proofs.Ythpbfmjogecbmaa
