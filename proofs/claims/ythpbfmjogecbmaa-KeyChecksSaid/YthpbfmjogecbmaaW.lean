/- Slices of bytes and of keys, as they lie in memory. -/
import Derived.Test.YthpbfmjogecbmaaB
import Derived.Test.YthpbfmjogecbmaaPb
namespace Go.Proofs.Ythpbfmjogecbmaa
open Go.RowKit

/-- A slice at A holds these bytes. -/
def BA (w : World) (A : Option Addr) (l : List UInt8) : Prop := ∀ (j : Nat) (x : UInt8), l[j]? = some x → ∃ b o, A = some ⟨b, o, none⟩ ∧ w.cell? ⟨b, o + j, none⟩ = some (.int .u8 x.toNat)
/-- A slice at A holds these keys. -/
def KA (w : World) (A : Option Addr) (l : List K) : Prop := ∀ (j : Nat) (x : K), l[j]? = some x → ∃ b o, A = some ⟨b, o, none⟩ ∧ KeyIn w b (o + j * 32) x.f
theorem BA.empty (w : World) (A : Option Addr) : BA w A [] := fun j x h => by simp at h
theorem KA.empty (w : World) (A : Option Addr) : KA w A [] := fun j x h => by simp at h
theorem BA.below {w w' : World} {A : Option Addr} {l : List UInt8} (h : BA w A l) (hb : Below w.heap.size w w') : BA w' A l := fun j x hj => by
  obtain ⟨b, o, e, hc⟩ := h j x hj
  exact ⟨b, o, e, by rw [hb.cell (p := ⟨b, o + j, none⟩) (World.block_lt_of_cell? _ _ hc)]; exact hc⟩
theorem KA.below {w w' : World} {A : Option Addr} {l : List K} (h : KA w A l) (hb : Below w.heap.size w w') : KA w' A l := fun j x hj => by
  obtain ⟨b, o, e, hc⟩ := h j x hj
  exact ⟨b, o, e, hc.below hb hc.lt⟩
theorem KA.two {w : World} {A : Option Addr} {l : List K} (h : KA w A l) {i j : Nat} {x y : K} (hi : l[i]? = some x) (hj : l[j]? = some y) : ∃ b o, A = some ⟨b, o, none⟩ ∧ KeyIn w b (o + i * 32) x.f ∧ KeyIn w b (o + j * 32) y.f := by
  obtain ⟨b, o, e, h1⟩ := h i x hi
  obtain ⟨b', o', e', h2⟩ := h j y hj
  rw [e] at e'
  simp only [Option.some.injEq, Addr.mk.injEq] at e'
  obtain ⟨rfl, rfl, _⟩ := e'
  exact ⟨b, o, e, h1, h2⟩
theorem get_some {α : Type} {l : List α} {j : Nat} (h : j < l.length) : ∃ x, l[j]? = some x := ⟨_, List.getElem?_eq_getElem h⟩


set_option maxHeartbeats 1000000 in
theorem check_c (A : Option Addr) (c : Nat) (l : List K) (w : World) (hA : KA w A l) (hl : l.length ≤ 4611686018427387904) :
    Calls Try.prog 17 #[.slice A l.length c] w fun e w' => e = .returned (.int .i64 (chk l)) ∧ Below w.heap.size w w' := by
  go_enter Try.func17, Try.ntmps17
  go_wp2
  go_loopw [3, 20, 22] (fun i _ _ wr => ∃ m : Nat, i = .int .i64 (m + 1 : Nat) ∧ m ≤ l.length ∧ Hid (chk l = chk (l.drop m)) ∧ ∃ x : Behind w, wr = x.w) (fun i _ _ _ => l.length - (intOf i).toNat)
  case atStart => exact ⟨0, rfl, by omega, rfl, ⟨w, Grew.refl w⟩, rfl⟩
  case round =>
    obtain ⟨m, rfl, hm, HM, x, rfl⟩ := hrel
    by_cases hlt : m + 1 < l.length
    · obtain ⟨p, hp⟩ := get_some (show m < l.length by omega)
      obtain ⟨q, hq⟩ := get_some hlt
      obtain ⟨b, o, rfl, h1, h2⟩ := hA.two hp hq
      have la : ∀ y : Behind x.w, ldKey y.w (.pointer (some ⟨b, o + m * 32, none⟩)) = .ok (.value (.agg (kc p.f))) y.w := fun y => (h1.below (x.h.trans y.h).below h1.lt).ld
      have lb : ∀ y : Behind x.w, ldKey y.w (.pointer (some ⟨b, o + (m + 1) * 32, none⟩)) = .ok (.value (.agg (kc q.f))) y.w := fun y => (h2.below (x.h.trans y.h).below h2.lt).ld
      have bp := p.byt
      have bq := q.byt
      have hd : decide ((m : Int) + 1 < l.length) = true := by simp; omega
      have HC := Lib.hid (chk_drop hp hq)
      have hcn := K.cmp_n p q
      clear hA h1 h2 hp hq
      by_cases hpq : p.n < q.n
      · rw [if_pos hpq] at hcn
        have e0 : (cmp p.f q.f == 0) = false := by rw [hcn]; rfl
        have e1 : (cmp p.f q.f == 1) = false := by rw [hcn]; rfl
        have HP := Lib.hid hpq
        clear hcn hpq
        go_wp2_with fail
        refine wp_region_behind (by kernel_rfl) (by kernel_rfl) ?_
        repeat (go_big_quiet_step ((go_at_call 28; exact Behind.call (compare_g _ _ (by assumption) (by assumption) _))))
        refine wpQuiet_nil ?_
        rintro _ ⟨y, rfl⟩
        clear la lb
        go_wp2
        go_roundw
        case rel =>
          refine ⟨m + 1, by go_num, by omega, ?_, ⟨_, x.h.trans y.h⟩, rfl⟩
          show chk l = _
          rw [HM.out, HC.out, if_pos HP.out]
        case measure => simp [intOf]; omega
      · rw [if_neg hpq] at hcn
        by_cases hqp : q.n < p.n
        · rw [if_pos hqp] at hcn
          have e0 : (cmp p.f q.f == 0) = false := by rw [hcn]; rfl
          have e1 : (cmp p.f q.f == 1) = true := by rw [hcn]; rfl
          have HR : Hid (chk l = 8) := by show chk l = 8; rw [HM.out, HC.out, if_neg hpq, if_neg (by omega)]
          clear hcn hpq hqp HC HM
          go_wp2_with fail
          refine wp_region_behind (by kernel_rfl) (by kernel_rfl) ?_
          repeat (go_big_quiet_step ((go_at_call 28; exact Behind.call (compare_g _ _ (by assumption) (by assumption) _))))
          refine wpQuiet_nil ?_
          rintro _ ⟨y, rfl⟩
          clear la lb
          go_wp2
          go_ret
          exact ⟨ret_int (by rw [HR.out]), (x.h.trans y.h).below⟩
        · rw [if_neg hqp] at hcn
          have e0 : (cmp p.f q.f == 0) = true := by rw [hcn]; rfl
          have HR : Hid (chk l = 9) := by show chk l = 9; rw [HM.out, HC.out, if_neg hpq, if_pos (by omega)]
          clear hcn hpq hqp HC HM
          go_wp2_with fail
          refine wp_region_behind (by kernel_rfl) (by kernel_rfl) ?_
          repeat (go_big_quiet_step ((go_at_call 28; exact Behind.call (compare_g _ _ (by assumption) (by assumption) _))))
          refine wpQuiet_nil ?_
          rintro _ ⟨y, rfl⟩
          clear la lb
          go_wp2
          go_ret
          exact ⟨ret_int (by rw [HR.out]), (x.h.trans y.h).below⟩
    · have HR : Hid (chk l = 0) := by show chk l = 0; rw [HM.out, chk_end (by omega)]
      have hd : decide ((m : Int) + 1 < l.length) = false := by simp; omega
      clear HM hA
      go_wp2
      go_ret
      exact ⟨ret_int (by rw [HR.out]), x.h.below⟩

set_option maxHeartbeats 1000000 in
theorem rcheck_c (A : Option Addr) (c : Nat) (l : List K) (w : World) (hA : KA w A l) (hl : l.length ≤ 4611686018427387904) :
    Calls Try.prog 18 #[.slice A l.length c] w fun e w' => e = .returned (.int .i64 (chk l)) ∧ Below w.heap.size w w' := by
  go_enter Try.func18, Try.ntmps18
  go_wp2
  go_loopw [3, 4] (fun i _ wr => ∃ m : Nat, i = .int .i64 (m + 1 : Nat) ∧ m ≤ l.length ∧ Hid (chk l = chk (l.drop m)) ∧ ∃ x : Later w, wr = x.w) (fun i _ _ => l.length - (intOf i).toNat)
  case atStart => exact ⟨0, rfl, by omega, rfl, ⟨w, Below.refl _ w⟩, rfl⟩
  case round =>
    obtain ⟨m, rfl, hm, HM, x, rfl⟩ := hrel
    by_cases hlt : m + 1 < l.length
    · obtain ⟨p, hp⟩ := get_some (show m < l.length by omega)
      obtain ⟨q, hq⟩ := get_some hlt
      obtain ⟨b, o, rfl, h1, h2⟩ := hA.two hp hq
      have la : ∀ y : Later x.w, ldKey y.w (.pointer (some ⟨b, o + m * 32, none⟩)) = .ok (.value (.agg (kc p.f))) y.w := fun y => (h1.below (x.h.trans (y.h.mono x.h.size)) h1.lt).ld
      have lb : ∀ y : Later x.w, ldKey y.w (.pointer (some ⟨b, o + (m + 1) * 32, none⟩)) = .ok (.value (.agg (kc q.f))) y.w := fun y => (h2.below (x.h.trans (y.h.mono x.h.size)) h2.lt).ld
      have bp := p.byt
      have bq := q.byt
      have hd : decide ((m : Int) + 1 < l.length) = true := by simp; omega
      have HC := Lib.hid (chk_drop hp hq)
      have hcn := K.cmp_n p q
      clear hA h1 h2 hp hq
      by_cases hpq : p.n < q.n
      · rw [if_pos hpq] at hcn
        have e0 : (cmp p.f q.f == 0) = false := by rw [hcn]; rfl
        have e1 : decide (0 < cmp p.f q.f) = false := by rw [hcn]; rfl
        have HP := Lib.hid hpq
        clear hcn hpq
        go_wp2_with fail
        refine wp_region_later (by kernel_rfl) (by kernel_rfl) ?_
        repeat (go_big_quiet_step ((go_at_call 29; exact Later.call (rcompare_c _ _ _))))
        refine wpQuiet_nil ?_
        rintro _ ⟨y, rfl⟩
        clear la lb
        go_wp2
        go_roundw
        case rel =>
          refine ⟨m + 1, by go_num, by omega, ?_, ⟨_, x.h.trans (y.h.mono x.h.size)⟩, rfl⟩
          show chk l = _
          rw [HM.out, HC.out, if_pos HP.out]
        case measure => simp [intOf]; omega
      · rw [if_neg hpq] at hcn
        by_cases hqp : q.n < p.n
        · rw [if_pos hqp] at hcn
          have e0 : (cmp p.f q.f == 0) = false := by rw [hcn]; rfl
          have e1 : decide (0 < cmp p.f q.f) = true := by rw [hcn]; rfl
          have HR : Hid (chk l = 8) := by show chk l = 8; rw [HM.out, HC.out, if_neg hpq, if_neg (by omega)]
          clear hcn hpq hqp HC HM
          go_wp2_with fail
          refine wp_region_later (by kernel_rfl) (by kernel_rfl) ?_
          repeat (go_big_quiet_step ((go_at_call 29; exact Later.call (rcompare_c _ _ _))))
          refine wpQuiet_nil ?_
          rintro _ ⟨y, rfl⟩
          clear la lb
          go_wp2
          go_ret
          exact ⟨ret_int (by rw [HR.out]), x.h.trans (y.h.mono x.h.size)⟩
        · rw [if_neg hqp] at hcn
          have e0 : (cmp p.f q.f == 0) = true := by rw [hcn]; rfl
          have HR : Hid (chk l = 9) := by show chk l = 9; rw [HM.out, HC.out, if_neg hpq, if_pos (by omega)]
          clear hcn hpq hqp HC HM
          go_wp2_with fail
          refine wp_region_later (by kernel_rfl) (by kernel_rfl) ?_
          repeat (go_big_quiet_step ((go_at_call 29; exact Later.call (rcompare_c _ _ _))))
          refine wpQuiet_nil ?_
          rintro _ ⟨y, rfl⟩
          clear la lb
          go_wp2
          go_ret
          exact ⟨ret_int (by rw [HR.out]), x.h.trans (y.h.mono x.h.size)⟩
    · have HR : Hid (chk l = 0) := by show chk l = 0; rw [HM.out, chk_end (by omega)]
      have hd : decide ((m : Int) + 1 < l.length) = false := by simp; omega
      clear HM hA
      go_wp2
      go_ret
      exact ⟨ret_int (by rw [HR.out]), x.h⟩
end Go.Proofs.Ythpbfmjogecbmaa
