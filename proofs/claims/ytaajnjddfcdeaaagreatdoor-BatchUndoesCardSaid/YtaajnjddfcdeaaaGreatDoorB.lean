/- The reference's padding. -/
import Derived.Test.YtaajnjddfcdeaaaGreatDoorA
import Derived.Deep.AppendSrc
namespace Go.Proofs.YtaajnjddfcdeaaaGreatDoor
open Go.RowKit

def padN (l : List UInt8) (j : Nat) : List UInt8 := padZ l (zeros l.length) ++ (be64 (8 * l.length)).take j
theorem padN_len (l : List UInt8) (j : Nat) (h : j ≤ 8) : (padN l j).length = l.length + 1 + zeros l.length + j := by
  unfold padN; rw [List.length_append, padZ_len, List.length_take]; simp [be64]; omega
theorem padN_succ (l : List UInt8) (j : Nat) (h : j < 8) : padN l (j + 1) = padN l j ++ [UInt8.ofNat (8 * l.length / 2 ^ (56 - 8 * j))] := by
  unfold padN
  rw [List.take_add_one, List.append_assoc]
  congr 2
  unfold be64
  rw [List.getElem?_map, List.getElem?_range h]
  rfl
theorem padN_end (l : List UInt8) : padN l 8 = padL l := by
  unfold padN padZ padL
  rw [List.take_of_length_le (by simp [be64])]
  simp
theorem zeros_go (n z : Nat) (h : z < zeros n) : (n + 1 + z) % 64 ≠ 56 := by unfold zeros at h; omega
theorem zeros_end (n : Nat) : (n + 1 + zeros n) % 64 = 56 := by unfold zeros; omega
theorem zeros_lt (n : Nat) : zeros n < 64 := by unfold zeros; omega
set_option maxHeartbeats 8000000 in
set_option maxRecDepth 100000 in
theorem pad_c (A : Option Addr) (c : Nat) (l : List UInt8) (w : World) (hA : BA w A l) (hl : l.length ≤ 1000000000) :
    Calls Tryz.prog 116 #[.slice A l.length c] w fun e w' => ∃ v, e = .returned v ∧ OwnB w' w.heap.size v (padL l) ∧ Below w.heap.size w w' := by
  have hB0 : Below w.heap.size w (w.alloc (.cells #[] 5)) := (Below.refl _ _).alloc (Nat.le_refl _) _
  have hO0 : OwnB (w.alloc (.cells #[] 5)) w.heap.size (.slice (some ⟨w.heap.size, 0, none⟩) 0 0) [] := World.ownsRow_made w #[] 0 (Nat.le_refl _) (by unfold maxLen; omega) rfl
  have HA := Lib.hid (hA.below hB0)
  have HB0 := Lib.hid hB0
  have HO0 := Lib.hid hO0
  have hzl := zeros_lt l.length
  clear hA hB0 hO0
  · go_enter Tryz.func116, Tryz.ntmps116
    go_wp2_with (first | (at_builtin; refine wpList_catB0 rfl _ _ rfl w.heap.size w.heap.size 0 [] rfl (Nat.le_refl _) HO0.out A c l rfl HA.out (by simp; omega) (by simp) ?_; intro v1 w1 hO1 hB1; have HO1 := Lib.hid hO1; have HB1 := Lib.hid (HB0.out.trans hB1); clear hO1 hB1) | (at_builtin; refine wpList_pushB rfl _ _ rfl w.heap.size _ _ rfl (OwnB.below HO1.out ((Below.refl _ _).alloc (Nat.le_refl _) _)) w1.heap.size 128 rfl (by simp; rfl) (by simp; omega) (by have := HB1.out.size; simp; omega) ?_; intro v2 w2 hO2 hB2; have HO2 := Lib.hid hO2; have HB2 := Lib.hid ((HB1.out.alloc HB1.out.size _).trans hB2); clear hO2 hB2))
    go_loopg [3] (zeros l.length) (fun gg out wr => ∃ z : Nat, z ≤ zeros l.length ∧ zeros l.length - z = gg ∧ OwnB wr w.heap.size out (padZ l z) ∧ Below w.heap.size w wr)
    case atStart => exact ⟨0, by omega, by omega, by simpa [padZ] using HO2.out, HB2.out⟩
    case round =>
      obtain ⟨z, hz, rfl, hO, hB⟩ := hrel
      have HO := Lib.hid hO
      have HB := Lib.hid hB
      obtain ⟨A3, c3, rfl⟩ := hO.len
      rw [padZ_len] at HO ⊢
      clear hO hB
      by_cases hlt : z < zeros l.length
      · have hc := zeros_go l.length z hlt
        have hd : ((((l.length + 1 + z : Nat) : Int) % 64) == 56) = false := by
          rw [beq_eq_false_iff_ne]; omega
        have HC := Lib.hid hc
        clear hc
        go_wp2_with (at_builtin; refine wpList_pushB rfl _ _ rfl w.heap.size _ _ rfl (OwnB.below HO.out ((Below.refl _ _).alloc (Nat.le_refl _) _)) wr.heap.size 0 rfl (by simp; rfl) (by rw [padZ_len]; omega) (by have := HB.out.size; simp; omega) ?_; intro v4 w4 hO4 hB4; have HO4 := Lib.hid hO4; have HB4 := Lib.hid ((HB.out.alloc HB.out.size _).trans hB4); clear hO4 hB4)
        go_roundg (zeros l.length - (z + 1))
        case measure => omega
        case rel => exact ⟨z + 1, by omega, rfl, by rw [padZ_succ]; exact HO4.out, HB4.out⟩
      · have hzz : z = zeros l.length := by omega
        subst hzz
        have hc := zeros_end l.length
        have hd2 : (((l.length : Int) + 1 + (zeros l.length : Int)) % 64 != 56) = false := by
          rw [bne_eq_false_iff_eq]; omega
        have HO2' : Hid (OwnB wr w.heap.size (.slice A3 (l.length + 1 + zeros l.length) c3) (padN l 0)) := by
          have := HO.out
          show OwnB _ _ _ _
          unfold padN
          rw [List.take_zero, List.append_nil]
          exact this
        clear hc
        go_wp2_with fail
        go_loopg [3, 5] 9 (fun gg out i w5 => ∃ j : Nat, j ≤ 8 ∧ i = .int .i64 (56 - 8 * (j : Int)) ∧ 9 - j = gg ∧ OwnB w5 w.heap.size out (padN l j) ∧ Below w.heap.size w w5)
        case atStart => exact ⟨0, by omega, rfl, rfl, HO2'.out, HB.out⟩
        case round =>
          obtain ⟨j, hj, rfl, rfl, hO5, hB5⟩ := hrel
          have HO5 := Lib.hid hO5
          have HB5 := Lib.hid hB5
          clear hO5 hB5
          by_cases hlt2 : j < 8
          · obtain ⟨M, hM⟩ : ∃ M, M = 8 * l.length / 2 ^ (56 - 8 * j) := ⟨_, rfl⟩
            have HV : Hid (Value.int .u8 ((l.length : Int) * 8 / 2 ^ (56 - 8 * j) % 256) = bv (UInt8.ofNat M)) := by
              show _ = bv _
              unfold bv
              congr 1
              rw [hM]
              have e : (l.length : Int) * 8 / 2 ^ (56 - 8 * j) = ((8 * l.length / 2 ^ (56 - 8 * j) : Nat) : Int) := by
                rw [show (l.length : Int) * 8 = ((8 * l.length : Nat) : Int) by omega]; simp
              rw [e]
              simp
            have HM := Lib.hid hM
            have p0 : (0 : Int) ≤ 56 - 8 * (j : Int) := by omega
            clear hM
            go_wp2_with (at_builtin; refine wpList_pushB rfl _ _ rfl w.heap.size _ _ rfl (OwnB.below HO5.out ((Below.refl _ _).alloc (Nat.le_refl _) _)) wr.heap.size (UInt8.ofNat M) rfl (by simp; exact HV.out) (by rw [padN_len _ _ hj]; omega) (by have := HB5.out.size; simp; omega) ?_; intro v6 w6 hO6 hB6; have HO6 := Lib.hid hO6; have HB6 := Lib.hid ((HB5.out.alloc HB5.out.size _).trans hB6); clear hO6 hB6)
            go_roundg (9 - (j + 1))
            case measure => omega
            case rel =>
              refine ⟨j + 1, by omega, ?_, rfl, ?_, HB6.out⟩
              · congr 1; omega
              · rw [padN_succ l j hlt2, ← HM.out]; exact HO6.out
          · have hjj : j = 8 := by omega
            subst hjj
            rw [padN_end] at HO5
            go_wp2_with fail
            go_ret
            exact ⟨_, rfl, HO5.out, HB5.out⟩
end Go.Proofs.YtaajnjddfcdeaaaGreatDoor
