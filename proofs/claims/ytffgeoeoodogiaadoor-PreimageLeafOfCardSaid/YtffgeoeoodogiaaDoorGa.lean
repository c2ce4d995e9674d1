/- The program's Kind. -/
import Derived.Test.YtffgeoeoodogiaaDoorEf
namespace Go.Proofs.YtffgeoeoodogiaaDoor
open Go.RowKit

set_option maxHeartbeats 4000000 in
set_option maxRecDepth 100000 in
theorem kind_c (A : Option Addr) (c : Nat) (l : List UInt8) (w : World) (hA : BA w A l) (hl : l.length ≤ maxLen) :
    Calls Tryd.prog 15 #[.slice A l.length c] w fun e w' => e = .returned (.int .i64 (kindL l)) ∧ w = w' := by
  match l, hA, hl with
  | [], _, _ =>
    go_enter Tryd.func15, Tryd.ntmps15
    go_wp2
    go_ret
    exact ⟨rfl, rfl⟩
  | x :: r, hA, hl =>
    rw [kindL_cons, List.length_cons]
    rw [List.length_cons] at hl
    obtain ⟨g, o, rfl, hc⟩ := hA 0 x rfl
    have hx := x.toNat_lt
    obtain ⟨n, hn⟩ : ∃ n, n = x.toNat := ⟨_, rfl⟩
    obtain ⟨m, hm⟩ : ∃ m, m = r.length := ⟨_, rfl⟩
    rw [← hn] at hc
    rw [← hn] at hx ⊢
    rw [← hm] at hl ⊢
    rw [Nat.add_zero] at hc
    unfold maxLen at hl
    have hl1 : (m : Int) ≤ 9223372036854775806 := by omega
    clear hn hm hA hl
    have p0 : decide (m + 1 = 0) = false := by simp
    have hcases : (n = 0 ∨ n = 1 ∨ n = 2 ∨ n = 3) ∨ 4 ≤ n := by omega
    have e65 : m = 64 ∨ m ≠ 64 := by omega
    have e0 : m = 0 ∨ m ≠ 0 := by omega
    rcases hcases with (rfl | rfl | rfl | rfl) | h4
    · rcases e65 with rfl | e
      · skip
        rw [show kindN 0 64 = 0 by decide]
        go_enter Tryd.func15, Tryd.ntmps15
        go_wp2
        go_ret
        exact ⟨rfl, rfl⟩
      · have hk : kindN 0 m = -1 := by unfold kindN; rw [if_neg (by omega)]
        have d1 : ((m : Int) - 64 != 0) = true := by rw [bne_iff_ne]; omega
        rw [hk]
        clear hk
        go_enter Tryd.func15, Tryd.ntmps15
        go_wp2
        go_ret
        exact ⟨rfl, rfl⟩
    · rcases e65 with rfl | e
      · skip
        rw [show kindN 1 64 = 1 by decide]
        go_enter Tryd.func15, Tryd.ntmps15
        go_wp2
        go_ret
        exact ⟨rfl, rfl⟩
      · have hk : kindN 1 m = -1 := by unfold kindN; rw [if_neg (by omega)]
        have d1 : ((m : Int) - 64 != 0) = true := by rw [bne_iff_ne]; omega
        rw [hk]
        clear hk
        go_enter Tryd.func15, Tryd.ntmps15
        go_wp2
        go_ret
        exact ⟨rfl, rfl⟩
    · have hk : kindN 2 m = 2 := by unfold kindN; rw [if_pos (by omega)]; rfl
      rw [hk]
      clear hk
      go_enter Tryd.func15, Tryd.ntmps15
      go_wp2
      go_ret
      exact ⟨rfl, rfl⟩
    · rcases e0 with rfl | e
      · skip
        rw [show kindN 3 0 = 3 by decide]
        go_enter Tryd.func15, Tryd.ntmps15
        go_wp2
        go_ret
        exact ⟨rfl, rfl⟩
      · have hk : kindN 3 m = -1 := by unfold kindN; rw [if_neg (by omega)]
        have d1 : ((m : Int) != 0) = true := by rw [bne_iff_ne]; omega
        rw [hk]
        clear hk
        go_enter Tryd.func15, Tryd.ntmps15
        go_wp2
        go_ret
        exact ⟨rfl, rfl⟩
    · have hk : kindN n m = -1 := by unfold kindN; rw [if_neg (by omega)]
      have d0 : ((n : Int) == 0) = false := by rw [beq_eq_false_iff_ne]; omega
      have d1 : ((n : Int) == 1) = false := by rw [beq_eq_false_iff_ne]; omega
      have d2 : ((n : Int) == 2) = false := by rw [beq_eq_false_iff_ne]; omega
      have d3 : ((n : Int) == 3) = false := by rw [beq_eq_false_iff_ne]; omega
      rw [hk]
      clear hk
      go_enter Tryd.func15, Tryd.ntmps15
      go_wp2
      go_ret
      exact ⟨rfl, rfl⟩
end Go.Proofs.YtffgeoeoodogiaaDoor
