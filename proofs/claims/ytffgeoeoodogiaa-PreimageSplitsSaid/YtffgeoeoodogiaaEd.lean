/- The reference's Kind. -/
import Derived.Test.YtffgeoeoodogiaaEp
namespace Go.Proofs.Ytffgeoeoodogiaa
open Go.RowKit

set_option maxHeartbeats 4000000 in
set_option maxRecDepth 100000 in
theorem rkind_c (A : Option Addr) (c : Nat) (l : List UInt8) (w : World) (hA : BA w A l) :
    Calls Try.prog 18 #[.slice A l.length c] w fun e w' => e = .returned (.int .i64 (kindL l)) ∧ w = w' := by
  match l, hA with
  | [], _ =>
    go_enter Try.func18, Try.ntmps18
    go_wp2
    go_ret
    exact ⟨rfl, rfl⟩
  | x :: r, hA =>
    rw [kindL_cons, List.length_cons]
    obtain ⟨g, o, rfl, hc⟩ := hA 0 x rfl
    have hx := x.toNat_lt
    obtain ⟨n, hn⟩ : ∃ n, n = x.toNat := ⟨_, rfl⟩
    obtain ⟨m, hm⟩ : ∃ m, m = r.length := ⟨_, rfl⟩
    rw [← hn] at hc
    rw [← hn] at hx ⊢
    rw [← hm]
    rw [Nat.add_zero] at hc
    clear hn hm hA
    have p0 : decide (m + 1 = 0) = false := by simp
    by_cases h0 : n ≤ 1
    · by_cases h1 : m = 64
      · subst h1
        have hk : kindN n 64 = n := by unfold kindN; rw [if_pos (by omega)]
        rw [hk]
        clear hk
        have d0 : decide ((n : Int) ≤ 1) = true := decide_eq_true (by omega)
        go_enter Try.func18, Try.ntmps18
        go_wp2
        go_ret
        exact ⟨rfl, rfl⟩
      · have hk : kindN n m = -1 := by unfold kindN; rw [if_neg (by omega)]
        have d0 : decide ((n : Int) ≤ 1) = true := decide_eq_true (by omega)
        have d1 : (((m + 1 : Nat) : Int) == 65) = false := by rw [beq_eq_false_iff_ne]; omega
        have d1' : (((m : Nat) : Int) + 1 == 65) = false := by rw [beq_eq_false_iff_ne]; omega
        have d2 : ((n : Int) == 2) = false := by rw [beq_eq_false_iff_ne]; omega
        have d3 : ((n : Int) == 3) = false := by rw [beq_eq_false_iff_ne]; omega
        rw [hk]
        clear hk
        go_enter Try.func18, Try.ntmps18
        go_wp2
        go_ret
        exact ⟨rfl, rfl⟩
    · have d0 : decide ((n : Int) ≤ 1) = false := decide_eq_false (by omega)
      by_cases h2 : n = 2
      · subst h2
        have hk : kindN 2 m = 2 := by unfold kindN; rw [if_pos (by omega)]; rfl
        rw [hk]
        clear hk
        go_enter Try.func18, Try.ntmps18
        go_wp2
        go_ret
        exact ⟨rfl, rfl⟩
      · have d2 : ((n : Int) == 2) = false := by rw [beq_eq_false_iff_ne]; omega
        by_cases h3 : n = 3
        · subst h3
          by_cases h4 : m = 0
          · subst h4
            have hk : kindN 3 0 = 3 := by decide
            rw [hk]
            clear hk
            go_enter Try.func18, Try.ntmps18
            go_wp2
            go_ret
            exact ⟨rfl, rfl⟩
          · have hk : kindN 3 m = -1 := by unfold kindN; rw [if_neg (by omega)]
            have d1 : (((m + 1 : Nat) : Int) == 1) = false := by rw [beq_eq_false_iff_ne]; omega
            have d1' : (((m : Nat) : Int) + 1 == 1) = false := by rw [beq_eq_false_iff_ne]; omega
            rw [hk]
            clear hk
            go_enter Try.func18, Try.ntmps18
            go_wp2
            go_ret
            exact ⟨rfl, rfl⟩
        · have hk : kindN n m = -1 := by unfold kindN; rw [if_neg (by omega)]
          have d3 : ((n : Int) == 3) = false := by rw [beq_eq_false_iff_ne]; omega
          rw [hk]
          clear hk
          go_enter Try.func18, Try.ntmps18
          go_wp2
          go_ret
          exact ⟨rfl, rfl⟩
end Go.Proofs.Ytffgeoeoodogiaa
