/- The contract of slices.Equal at keys. -/
import Derived.Test.YthpbfmjogecbmaaD
namespace Go.Proofs.Ythpbfmjogecbmaa
open Go.RowKit

theorem keq_K {a b : K} : keq a.f b.f = decide (a = b) := by
  by_cases h : a = b
  · subst h
    rw [decide_eq_true rfl]
    exact (keq_iff _ _).2 fun _ _ => rfl
  · rw [decide_eq_false h]
    cases hk : keq a.f b.f with
    | false => rfl
    | true => exact absurd (K.ext_at ((keq_iff _ _).1 hk)) h

set_option maxHeartbeats 1000000 in
theorem equal_c (A B : Option Addr) (c d : Nat) (l m : List K) (w : World) (hA : KA w A l) (hB : KA w B m) (hl : l.length ≤ 4611686018427387904) (hm : m.length ≤ 4611686018427387904) :
    Calls Try.prog 21 #[.slice A l.length c, .slice B m.length d] w fun e w' => e = .returned (.bool (decide (l = m))) ∧ Below w.heap.size w w' := by
  by_cases hlen : l.length = m.length
  · go_enter Try.func21, Try.ntmps21
    go_wp2
    go_loopw [5, 13] (fun _ i wr => ∃ k : Nat, i = .int .i64 k ∧ k ≤ l.length ∧ Hid (l.take k = m.take k) ∧ ∃ x : Behind w, wr = x.w) (fun _ i _ => l.length - (intOf i).toNat)
    case atStart => exact ⟨0, rfl, by omega, rfl, ⟨w, Grew.refl w⟩, rfl⟩
    case round =>
      obtain ⟨k, rfl, hk, HK, v, rfl⟩ := hrel
      by_cases hlt : k < l.length
      · obtain ⟨x, hx⟩ := get_some hlt
        obtain ⟨y, hy⟩ := get_some (show k < m.length by omega)
        obtain ⟨b1, o1, rfl, h1⟩ := hA k x hx
        obtain ⟨b2, o2, rfl, h2⟩ := hB k y hy
        have HX := Lib.hid hx
        have HY := Lib.hid hy
        have la : ∀ z : Behind v.w, ldKey z.w (.pointer (some ⟨b1, o1 + k * 32, none⟩)) = .ok (.value (.agg (kc x.f))) z.w := fun z => (h1.below (v.h.trans z.h).below h1.lt).ld
        have lb : ∀ z : Behind v.w, ldKey z.w (.pointer (some ⟨b2, o2 + k * 32, none⟩)) = .ok (.value (.agg (kc y.f))) z.w := fun z => (h2.below (v.h.trans z.h).below h2.lt).ld
        clear hx hy hA hB h1 h2
        by_cases hxy : x = y
        · subst hxy
          have hd : keq x.f x.f = true := (keq_iff _ _).2 fun _ _ => rfl
          go_wp2_with fail
          refine wp_region_behind (by kernel_rfl) (by kernel_rfl) ?_
          repeat (go_big_quiet_step (fail))
          refine wpQuiet_nil ?_
          rintro _ ⟨y, rfl⟩
          clear la lb
          go_wp2
          go_roundw
          case rel =>
            refine ⟨k + 1, by go_num, by omega, ?_, ⟨_, v.h.trans y.h⟩, rfl⟩
            show l.take (k + 1) = m.take (k + 1)
            rw [List.take_add_one, List.take_add_one, HK.out, HX.out, HY.out]
          case measure => simp [intOf]; omega
        · have hd : keq x.f y.f = false := by rw [keq_K]; exact decide_eq_false hxy
          have hne : decide (l = m) = false := decide_eq_false fun h => by
            subst h
            have := HX.out.symm.trans HY.out
            exact hxy (by simpa using this)
          have HN := Lib.hid hne
          clear hne
          go_wp2_with fail
          refine wp_region_behind (by kernel_rfl) (by kernel_rfl) ?_
          repeat (go_big_quiet_step (fail))
          refine wpQuiet_nil ?_
          rintro _ ⟨y, rfl⟩
          clear la lb
          go_wp2
          go_ret
          exact ⟨ret_bool HN.out.symm, (v.h.trans y.h).below⟩
      · have he : decide (l = m) = true := decide_eq_true (by
          have := HK.out
          rwa [List.take_of_length_le (by omega), List.take_of_length_le (by omega)] at this)
        have HN := Lib.hid he
        clear he
        go_wp2
        go_ret
        exact ⟨ret_bool HN.out.symm, v.h.below⟩
  · have hd : (((l.length : Nat) : Int) != (m.length : Int)) = true := by simp; omega
    have hne : decide (l = m) = false := decide_eq_false fun h => hlen (by rw [h])
    have HN := Lib.hid hne
    clear hne
    go_enter Try.func21, Try.ntmps21
    go_wp2
    go_ret
    exact ⟨ret_bool HN.out.symm, Below.refl _ _⟩
end Go.Proofs.Ythpbfmjogecbmaa
