/- The other functions of the statements return true. -/
import Derived.Test.YtifonekpgaahlaaF
namespace Go.Proofs.Ytifonekpgaahlaa
open Go.RowKit

set_option maxRecDepth 100000 in
set_option maxHeartbeats 1000000 in
theorem prefix_w (k : Nat → Nat) (hk : Byt k) (n : Int) (w : World) : Calls Try.prog 5 #[.agg (kc k), .int .i64 n] w (Yes w) := by
  have hp := pre_byt hk (lim n)
  have f1 : keq (pre k (lim n)) (pre k (lim n)) = true := keq_self _
  have f2 : keq (pre (pre k (lim n)) (lim n)) (pre k (lim n)) = true := (keq_iff _ _).2 (pre_pre hk _)
  have hc := common_pre hk (lim_le n)
  by_cases h0 : n < 0
  · have hge : (0 : Int) ≤ common (pre k (lim n)) k := by omega
    clear hc
    go_enter Try.func5, Try.ntmps5
    go_wp2_with fail
    refine (prefix_c k hk n _).mono ?_
    rintro e w1 ⟨rfl, h1⟩
    have KA := (KeyAt.one w k).below h1 (by simp)
    have H1 : Hid (Below w.heap.size w w1) := (one_below _ _).trans (h1.mono (by simp))
    clear h1
    go_wp2_with fail
    have la := fun x : Later (w1.alloc (.cells (kc (pre k (lim n))) 23)) => x.ld_one
    have lb := fun x : Later (w1.alloc (.cells (kc (pre k (lim n))) 23)) => ((KA.below (one_below _ _) KA.lt).below x.h (by have := KA.lt; simp; omega)).ld
    refine wp_region_later (by kernel_rfl) (by kernel_rfl) ?_
    repeat (go_big_quiet_step ((first | (go_at_call 9; exact Later.call (alive_c _)) | (go_at_call 14; exact Later.call (common_c _ _ (by assumption) (by assumption) _)) | (go_at_call 17; exact Later.call (prefix_c _ (by assumption) _ _)) | (go_at_call 18; exact Later.call (rprefix_c _ (by assumption) _ _)))))
    refine wpQuiet_nil ?_
    rintro _ ⟨x, rfl⟩
    clear la lb f1 f2
    go_wp2
    go_ret
    exact ⟨rfl, H1.out.trans ((one_below _ _).mono H1.out.size |>.trans (x.h.mono (Nat.le_trans H1.out.size (by simp))))⟩
  · by_cases h1 : n ≤ 256
    · have hge : n ≤ common (pre k (lim n)) k := by
        have : lim n = n.toNat := by unfold lim; omega
        omega
      clear hc
      go_enter Try.func5, Try.ntmps5
      go_wp2_with fail
      refine (prefix_c k hk n _).mono ?_
      rintro e w1 ⟨rfl, h1⟩
      have KA := (KeyAt.one w k).below h1 (by simp)
      have H1 : Hid (Below w.heap.size w w1) := (one_below _ _).trans (h1.mono (by simp))
      clear h1
      go_wp2_with fail
      have la := fun x : Later (w1.alloc (.cells (kc (pre k (lim n))) 23)) => x.ld_one
      have lb := fun x : Later (w1.alloc (.cells (kc (pre k (lim n))) 23)) => ((KA.below (one_below _ _) KA.lt).below x.h (by have := KA.lt; simp; omega)).ld
      refine wp_region_later (by kernel_rfl) (by kernel_rfl) ?_
      repeat (go_big_quiet_step ((first | (go_at_call 9; exact Later.call (alive_c _)) | (go_at_call 14; exact Later.call (common_c _ _ (by assumption) (by assumption) _)) | (go_at_call 17; exact Later.call (prefix_c _ (by assumption) _ _)) | (go_at_call 18; exact Later.call (rprefix_c _ (by assumption) _ _)))))
      refine wpQuiet_nil ?_
      rintro _ ⟨x, rfl⟩
      clear la lb f1 f2
      go_wp2
      go_ret
      exact ⟨rfl, H1.out.trans ((one_below _ _).mono H1.out.size |>.trans (x.h.mono (Nat.le_trans H1.out.size (by simp))))⟩
    · have hge : (256 : Int) ≤ common (pre k (lim n)) k := by
        have : lim n = 256 := by unfold lim; omega
        omega
      clear hc
      go_enter Try.func5, Try.ntmps5
      go_wp2_with fail
      refine (prefix_c k hk n _).mono ?_
      rintro e w1 ⟨rfl, h1⟩
      have KA := (KeyAt.one w k).below h1 (by simp)
      have H1 : Hid (Below w.heap.size w w1) := (one_below _ _).trans (h1.mono (by simp))
      clear h1
      go_wp2_with fail
      have la := fun x : Later (w1.alloc (.cells (kc (pre k (lim n))) 23)) => x.ld_one
      have lb := fun x : Later (w1.alloc (.cells (kc (pre k (lim n))) 23)) => ((KA.below (one_below _ _) KA.lt).below x.h (by have := KA.lt; simp; omega)).ld
      refine wp_region_later (by kernel_rfl) (by kernel_rfl) ?_
      repeat (go_big_quiet_step ((first | (go_at_call 9; exact Later.call (alive_c _)) | (go_at_call 14; exact Later.call (common_c _ _ (by assumption) (by assumption) _)) | (go_at_call 17; exact Later.call (prefix_c _ (by assumption) _ _)) | (go_at_call 18; exact Later.call (rprefix_c _ (by assumption) _ _)))))
      refine wpQuiet_nil ?_
      rintro _ ⟨x, rfl⟩
      clear la lb f1 f2
      go_wp2
      go_ret
      exact ⟨rfl, H1.out.trans ((one_below _ _).mono H1.out.size |>.trans (x.h.mono (Nat.le_trans H1.out.size (by simp))))⟩
set_option maxRecDepth 100000 in
set_option maxHeartbeats 1000000 in
theorem compare_w (a b : Nat → Nat) (ha : Byt a) (hb : Byt b) (w : World) : Calls Try.prog 6 #[.agg (kc a), .agg (kc b)] w (Yes w) := by
  have hneg := cmp_neg a b
  have hcl : -1 ≤ cmp a b := by
    rcases first_byte (a := a) (b := b) with h | ⟨m, hm, h, hne⟩
    · rw [cmp_eq h]; decide
    · rw [cmp_at hm h hne]; split <;> decide
  have hcu : cmp a b ≤ 1 := by
    rcases first_byte (a := a) (b := b) with h | ⟨m, hm, h, hne⟩
    · rw [cmp_eq h]; decide
    · rw [cmp_at hm h hne]; split <;> decide
  have e1 : (cmp b a == -cmp a b) = true := by rw [hneg]; simp
  clear hneg
  go_enter Try.func6, Try.ntmps6
  go_wp2_with fail
  have KA0 := KeyAt.two w a (.cells (kc b) 23)
  have KB0 := KeyAt.two' w b (.cells (kc a) 23)
  have H0 : Hid (Below w.heap.size w ((w.alloc (.cells (kc a) 23)).alloc (.cells (kc b) 23))) := two_below _ _ _
  refine (rcompare_c _ _ _).mono ?_
  rintro e w1 ⟨rfl, h1⟩
  have KA1 := KA0.below h1 KA0.lt
  have KB1 := KB0.below h1 KB0.lt
  have H1 : Hid (Below w.heap.size w w1) := H0.out.trans (h1.mono H0.out.size)
  clear h1
  go_wp2_with fail
  refine (alive_c _).mono ?_
  rintro e w2 ⟨rfl, h2⟩
  have KA2 := KA1.below h2 KA1.lt
  have KB2 := KB1.below h2 KB1.lt
  have H2 : Hid (Below w.heap.size w w2) := H1.out.trans (h2.mono H1.out.size)
  have la2 := KA2.ld
  have lb2 := KB2.ld
  clear h2
  go_wp2_with fail
  refine (compare_c _ _ (by assumption) (by assumption) _).mono ?_
  rintro e w3 ⟨rfl, h3⟩
  have KA3 := KA2.below h3 KA2.lt
  have KB3 := KB2.below h3 KB2.lt
  have H3 : Hid (Below w.heap.size w w3) := H2.out.trans (h3.mono H2.out.size)
  have la3 := KA3.ld
  have lb3 := KB3.ld
  clear h3
  go_wp2_with fail
  refine (compare_c _ _ (by assumption) (by assumption) _).mono ?_
  rintro e w4 ⟨rfl, h4⟩
  have H4 : Hid (Below w.heap.size w w4) := H3.out.trans (h4.mono H3.out.size)
  clear h4
  go_wp2
  go_ret
  exact ⟨rfl, H4.out⟩

set_option maxRecDepth 100000 in
set_option maxHeartbeats 1000000 in
theorem directions_neg (k : Nat → Nat) (hk : Byt k) (n : Int) (w : World) (h0 : n < 0) : Calls Try.prog 7 #[.agg (kc k), .int .i64 n] w (Yes w) := by
  have hne : (((lim n : Nat) : Int) != 0) = false := by
    have : ((lim n : Nat) : Int) = 0 := by unfold lim; omega
    rw [this]; simp
  have hL := lim_le n
  go_enter Try.func7, Try.ntmps7
  go_wp2_with fail
  refine (directions_c k hk n _).mono ?_
  rintro e w1 ⟨rfl, KD, h1⟩
  have KA := (KeyAt.one w k).below h1 (by simp)
  have H1 : Hid (Below w.heap.size w w1) := (one_below _ _).trans (h1.mono (by simp))
  clear h1
  rw [show (w.alloc (.cells (kc k) 23)).heap.size + 1 = w.heap.size + 1 + 1 by simp] at KD ⊢
  obtain ⟨L, hLn⟩ : ∃ L, L = lim n := ⟨_, rfl⟩
  rw [← hLn] at KD hne hL ⊢
  clear hLn
  go_wp2
  go_loopw [6, 7, 19] (fun _ _ j wr => ∃ m : Nat, m ≤ L ∧ j = .int .i64 m ∧ KeyAt wr w.heap.size k ∧ DirAt wr (w.heap.size + 1 + 1) k L L ∧ Below w.heap.size w wr) (fun _ _ j _ => L - (intOf j).toNat)
  case atStart => exact ⟨0, by omega, rfl, KA, KD, H1.out⟩
  case round =>
    obtain ⟨m, h1, rfl, KA, KD, hB⟩ := hrel
    have HB := Lib.hid hB
    clear hB
    by_cases hlt : m < L
    · have la := KA.ld
      have cd := KD.cell hlt
      rw [if_pos hlt] at cd
      go_wp2_with fail
      refine (rbit_yes k hk m _ (by omega)).mono ?_
      rintro e w2 ⟨rfl, hb⟩
      have KA2 := KA.below hb KA.lt
      have KD2 := KD.below hb KD.lt
      have H2 : Hid (Below w.heap.size w w2) := HB.out.trans (hb.mono HB.out.size)
      clear hb cd la
      go_wp2
      go_roundw
      case rel => exact ⟨m + 1, by omega, by go_num, KA2, KD2, H2.out⟩
      case measure => simp [intOf]; omega
    · go_wp2_with fail
      refine (alive_c _).mono ?_
      rintro e w2 ⟨rfl, hb⟩
      have H2 : Hid (Below w.heap.size w w2) := HB.out.trans (hb.mono HB.out.size)
      clear hb
      go_wp2
      go_ret
      exact ⟨rfl, H2.out⟩
set_option maxRecDepth 100000 in
set_option maxHeartbeats 1000000 in
theorem directions_mid (k : Nat → Nat) (hk : Byt k) (n : Int) (w : World) (h0 : 0 ≤ n) (h1 : n ≤ 256) : Calls Try.prog 7 #[.agg (kc k), .int .i64 n] w (Yes w) := by
  have hne : (((lim n : Nat) : Int) != n) = false := by
    have : ((lim n : Nat) : Int) = n := by unfold lim; omega
    rw [this]; simp
  have hL := lim_le n
  go_enter Try.func7, Try.ntmps7
  go_wp2_with fail
  refine (directions_c k hk n _).mono ?_
  rintro e w1 ⟨rfl, KD, h1⟩
  have KA := (KeyAt.one w k).below h1 (by simp)
  have H1 : Hid (Below w.heap.size w w1) := (one_below _ _).trans (h1.mono (by simp))
  clear h1
  rw [show (w.alloc (.cells (kc k) 23)).heap.size + 1 = w.heap.size + 1 + 1 by simp] at KD ⊢
  obtain ⟨L, hLn⟩ : ∃ L, L = lim n := ⟨_, rfl⟩
  rw [← hLn] at KD hne hL ⊢
  clear hLn
  go_wp2
  go_loopw [6, 7, 19] (fun _ _ j wr => ∃ m : Nat, m ≤ L ∧ j = .int .i64 m ∧ KeyAt wr w.heap.size k ∧ DirAt wr (w.heap.size + 1 + 1) k L L ∧ Below w.heap.size w wr) (fun _ _ j _ => L - (intOf j).toNat)
  case atStart => exact ⟨0, by omega, rfl, KA, KD, H1.out⟩
  case round =>
    obtain ⟨m, h1, rfl, KA, KD, hB⟩ := hrel
    have HB := Lib.hid hB
    clear hB
    by_cases hlt : m < L
    · have la := KA.ld
      have cd := KD.cell hlt
      rw [if_pos hlt] at cd
      go_wp2_with fail
      refine (rbit_yes k hk m _ (by omega)).mono ?_
      rintro e w2 ⟨rfl, hb⟩
      have KA2 := KA.below hb KA.lt
      have KD2 := KD.below hb KD.lt
      have H2 : Hid (Below w.heap.size w w2) := HB.out.trans (hb.mono HB.out.size)
      clear hb cd la
      go_wp2
      go_roundw
      case rel => exact ⟨m + 1, by omega, by go_num, KA2, KD2, H2.out⟩
      case measure => simp [intOf]; omega
    · go_wp2_with fail
      refine (alive_c _).mono ?_
      rintro e w2 ⟨rfl, hb⟩
      have H2 : Hid (Below w.heap.size w w2) := HB.out.trans (hb.mono HB.out.size)
      clear hb
      go_wp2
      go_ret
      exact ⟨rfl, H2.out⟩
set_option maxRecDepth 100000 in
set_option maxHeartbeats 1000000 in
theorem directions_far (k : Nat → Nat) (hk : Byt k) (n : Int) (w : World) (h0 : 256 < n) : Calls Try.prog 7 #[.agg (kc k), .int .i64 n] w (Yes w) := by
  have hne : (((lim n : Nat) : Int) != 256) = false := by
    have : ((lim n : Nat) : Int) = 256 := by unfold lim; omega
    rw [this]; simp
  have hL := lim_le n
  go_enter Try.func7, Try.ntmps7
  go_wp2_with fail
  refine (directions_c k hk n _).mono ?_
  rintro e w1 ⟨rfl, KD, h1⟩
  have KA := (KeyAt.one w k).below h1 (by simp)
  have H1 : Hid (Below w.heap.size w w1) := (one_below _ _).trans (h1.mono (by simp))
  clear h1
  rw [show (w.alloc (.cells (kc k) 23)).heap.size + 1 = w.heap.size + 1 + 1 by simp] at KD ⊢
  obtain ⟨L, hLn⟩ : ∃ L, L = lim n := ⟨_, rfl⟩
  rw [← hLn] at KD hne hL ⊢
  clear hLn
  go_wp2
  go_loopw [6, 7, 19] (fun _ _ j wr => ∃ m : Nat, m ≤ L ∧ j = .int .i64 m ∧ KeyAt wr w.heap.size k ∧ DirAt wr (w.heap.size + 1 + 1) k L L ∧ Below w.heap.size w wr) (fun _ _ j _ => L - (intOf j).toNat)
  case atStart => exact ⟨0, by omega, rfl, KA, KD, H1.out⟩
  case round =>
    obtain ⟨m, h1, rfl, KA, KD, hB⟩ := hrel
    have HB := Lib.hid hB
    clear hB
    by_cases hlt : m < L
    · have la := KA.ld
      have cd := KD.cell hlt
      rw [if_pos hlt] at cd
      go_wp2_with fail
      refine (rbit_yes k hk m _ (by omega)).mono ?_
      rintro e w2 ⟨rfl, hb⟩
      have KA2 := KA.below hb KA.lt
      have KD2 := KD.below hb KD.lt
      have H2 : Hid (Below w.heap.size w w2) := HB.out.trans (hb.mono HB.out.size)
      clear hb cd la
      go_wp2
      go_roundw
      case rel => exact ⟨m + 1, by omega, by go_num, KA2, KD2, H2.out⟩
      case measure => simp [intOf]; omega
    · go_wp2_with fail
      refine (alive_c _).mono ?_
      rintro e w2 ⟨rfl, hb⟩
      have H2 : Hid (Below w.heap.size w w2) := HB.out.trans (hb.mono HB.out.size)
      clear hb
      go_wp2
      go_ret
      exact ⟨rfl, H2.out⟩
theorem directions_w (k : Nat → Nat) (hk : Byt k) (n : Int) (w : World) : Calls Try.prog 7 #[.agg (kc k), .int .i64 n] w (Yes w) := by
  by_cases h0 : n < 0
  · exact directions_neg k hk n w h0
  · by_cases h1 : n ≤ 256
    · exact directions_mid k hk n w (by omega) h1
    · exact directions_far k hk n w (by omega)

theorem three_cases (a b c : Nat → Nat) : (common a b < common b c ∧ common a c = common a b) ∨ (common b c = common a b ∧ common a b < common a c) ∨ (common b c = common a b ∧ common a c = common a b) ∨ (common b c < common a b ∧ common a c = common b c) := by
  have h1 := common_three a b c
  have h2 := common_three c b a
  rw [common_comm b c, common_comm a b, common_comm a c] at h2
  omega

set_option maxRecDepth 100000 in
set_option maxHeartbeats 1000000 in
theorem agree_w (a b c : Nat → Nat) (ha : Byt a) (hb : Byt b) (hc : Byt c) (w : World) : Calls Try.prog 8 #[.agg (kc a), .agg (kc b), .agg (kc c)] w (Yes w) := by
  have KA0 : KeyAt (((w.alloc (.cells (kc a) 23)).alloc (.cells (kc b) 23)).alloc (.cells (kc c) 23)) w.heap.size a :=
    (KeyAt.two w a _).below ((Below.refl _ _).alloc (Nat.le_refl _) _) (by simp; omega)
  have KB0 : KeyAt (((w.alloc (.cells (kc a) 23)).alloc (.cells (kc b) 23)).alloc (.cells (kc c) 23)) (w.heap.size + 1) b :=
    (KeyAt.two' w b _).below ((Below.refl _ _).alloc (Nat.le_refl _) _) (by simp)
  have KC0 : KeyAt (((w.alloc (.cells (kc a) 23)).alloc (.cells (kc b) 23)).alloc (.cells (kc c) 23)) (w.heap.size + 1 + 1) c := by
    have := KeyAt.one ((w.alloc (.cells (kc a) 23)).alloc (.cells (kc b) 23)) c
    rw [show ((w.alloc (.cells (kc a) 23)).alloc (.cells (kc b) 23)).heap.size = w.heap.size + 1 + 1 by simp] at this
    exact this
  go_enter Try.func8, Try.ntmps8
  go_wp2_with fail
  have la := fun x : Later (((w.alloc (.cells (kc a) 23)).alloc (.cells (kc b) 23)).alloc (.cells (kc c) 23)) => (KA0.below x.h KA0.lt).ld
  have lb := fun x : Later (((w.alloc (.cells (kc a) 23)).alloc (.cells (kc b) 23)).alloc (.cells (kc c) 23)) => (KB0.below x.h KB0.lt).ld
  have lc := fun x : Later (((w.alloc (.cells (kc a) 23)).alloc (.cells (kc b) 23)).alloc (.cells (kc c) 23)) => (KC0.below x.h KC0.lt).ld
  refine wp_region_later (by kernel_rfl) (by kernel_rfl) ?_
  repeat (go_big_quiet_step ((go_at_call 14; exact Later.call (common_c _ _ (by assumption) (by assumption) _))))
  refine wpQuiet_nil ?_
  rintro _ ⟨x, rfl⟩
  have H1 : Hid (Below w.heap.size w x.w) := (three_below _ _ _ _).trans (x.h.mono (by simp; omega))
  clear la lb lc KA0 KB0 KC0
  obtain ⟨w1, hw1⟩ : ∃ w1, w1 = x.w := ⟨_, rfl⟩
  rw [← hw1] at H1 ⊢
  clear hw1
  have h3 := three_cases a b c
  generalize common a b = p at h3 ⊢
  generalize common b c = q at h3 ⊢
  generalize common a c = r at h3 ⊢
  rcases h3 with ⟨h, rfl⟩ | ⟨rfl, h⟩ | ⟨rfl, rfl⟩ | ⟨h, rfl⟩
  · have e : ((q : Int) == r) = false := by simp; omega
    have i0 : ∀ w : World, (Instr.index 32 (.agg #[.int .i64 (r : Nat), .int .i64 (q : Nat), .int .i64 (r : Nat)]) (.int .i64 0)).run Try.prog w = .ok (.int .i64 (r : Nat)) w := fun _ => by kernel_rfl
    have i1 : ∀ w : World, (Instr.index 32 (.agg #[.int .i64 (r : Nat), .int .i64 (q : Nat), .int .i64 (r : Nat)]) (.int .i64 1)).run Try.prog w = .ok (.int .i64 (q : Nat)) w := fun _ => by kernel_rfl
    have i2 : ∀ w : World, (Instr.index 32 (.agg #[.int .i64 (r : Nat), .int .i64 (q : Nat), .int .i64 (r : Nat)]) (.int .i64 2)).run Try.prog w = .ok (.int .i64 (r : Nat)) w := fun _ => by kernel_rfl
    go_wp2
    go_loop [11, 31] (fun n j => (j = .int .i64 0 ∧ n = .int .i64 0) ∨ (j = .int .i64 1 ∧ n = .int .i64 1) ∨ (j = .int .i64 2 ∧ n = .int .i64 1) ∨ (j = .int .i64 3 ∧ n = .int .i64 2)) (fun _ j => 3 - (intOf j).toNat)
    case atStart => exact .inl ⟨rfl, rfl⟩
    case round =>
      rcases hrel with ⟨rfl, rfl⟩ | ⟨rfl, rfl⟩ | ⟨rfl, rfl⟩ | ⟨rfl, rfl⟩
      · go_wp2
        go_round
        case rel => exact .inr (.inl ⟨rfl, rfl⟩)
        case measure => simp [intOf]
      · go_wp2
        go_round
        case rel => exact .inr (.inr (.inl ⟨rfl, rfl⟩))
        case measure => simp [intOf]
      · go_wp2
        go_round
        case rel => exact .inr (.inr (.inr ⟨rfl, rfl⟩))
        case measure => simp [intOf]
      · go_wp2_with fail
        refine (alive_c _).mono ?_
        rintro e w2 ⟨rfl, hb⟩
        have H2 : Hid (Below w.heap.size w w2) := H1.out.trans (hb.mono H1.out.size)
        clear hb
        go_wp2
        go_ret
        exact ⟨rfl, H2.out⟩
  · have e : ((r : Int) == q) = false := by simp; omega
    have i0 : ∀ w : World, (Instr.index 32 (.agg #[.int .i64 (q : Nat), .int .i64 (q : Nat), .int .i64 (r : Nat)]) (.int .i64 0)).run Try.prog w = .ok (.int .i64 (q : Nat)) w := fun _ => by kernel_rfl
    have i1 : ∀ w : World, (Instr.index 32 (.agg #[.int .i64 (q : Nat), .int .i64 (q : Nat), .int .i64 (r : Nat)]) (.int .i64 1)).run Try.prog w = .ok (.int .i64 (q : Nat)) w := fun _ => by kernel_rfl
    have i2 : ∀ w : World, (Instr.index 32 (.agg #[.int .i64 (q : Nat), .int .i64 (q : Nat), .int .i64 (r : Nat)]) (.int .i64 2)).run Try.prog w = .ok (.int .i64 (r : Nat)) w := fun _ => by kernel_rfl
    go_wp2
    go_loop [11, 31] (fun n j => (j = .int .i64 0 ∧ n = .int .i64 0) ∨ (j = .int .i64 1 ∧ n = .int .i64 1) ∨ (j = .int .i64 2 ∧ n = .int .i64 2) ∨ (j = .int .i64 3 ∧ n = .int .i64 2)) (fun _ j => 3 - (intOf j).toNat)
    case atStart => exact .inl ⟨rfl, rfl⟩
    case round =>
      rcases hrel with ⟨rfl, rfl⟩ | ⟨rfl, rfl⟩ | ⟨rfl, rfl⟩ | ⟨rfl, rfl⟩
      · go_wp2
        go_round
        case rel => exact .inr (.inl ⟨rfl, rfl⟩)
        case measure => simp [intOf]
      · go_wp2
        go_round
        case rel => exact .inr (.inr (.inl ⟨rfl, rfl⟩))
        case measure => simp [intOf]
      · go_wp2
        go_round
        case rel => exact .inr (.inr (.inr ⟨rfl, rfl⟩))
        case measure => simp [intOf]
      · go_wp2_with fail
        refine (alive_c _).mono ?_
        rintro e w2 ⟨rfl, hb⟩
        have H2 : Hid (Below w.heap.size w w2) := H1.out.trans (hb.mono H1.out.size)
        clear hb
        go_wp2
        go_ret
        exact ⟨rfl, H2.out⟩
  · skip
    have i0 : ∀ w : World, (Instr.index 32 (.agg #[.int .i64 (r : Nat), .int .i64 (r : Nat), .int .i64 (r : Nat)]) (.int .i64 0)).run Try.prog w = .ok (.int .i64 (r : Nat)) w := fun _ => by kernel_rfl
    have i1 : ∀ w : World, (Instr.index 32 (.agg #[.int .i64 (r : Nat), .int .i64 (r : Nat), .int .i64 (r : Nat)]) (.int .i64 1)).run Try.prog w = .ok (.int .i64 (r : Nat)) w := fun _ => by kernel_rfl
    have i2 : ∀ w : World, (Instr.index 32 (.agg #[.int .i64 (r : Nat), .int .i64 (r : Nat), .int .i64 (r : Nat)]) (.int .i64 2)).run Try.prog w = .ok (.int .i64 (r : Nat)) w := fun _ => by kernel_rfl
    go_wp2
    go_loop [11, 31] (fun n j => (j = .int .i64 0 ∧ n = .int .i64 0) ∨ (j = .int .i64 1 ∧ n = .int .i64 1) ∨ (j = .int .i64 2 ∧ n = .int .i64 2) ∨ (j = .int .i64 3 ∧ n = .int .i64 3)) (fun _ j => 3 - (intOf j).toNat)
    case atStart => exact .inl ⟨rfl, rfl⟩
    case round =>
      rcases hrel with ⟨rfl, rfl⟩ | ⟨rfl, rfl⟩ | ⟨rfl, rfl⟩ | ⟨rfl, rfl⟩
      · go_wp2
        go_round
        case rel => exact .inr (.inl ⟨rfl, rfl⟩)
        case measure => simp [intOf]
      · go_wp2
        go_round
        case rel => exact .inr (.inr (.inl ⟨rfl, rfl⟩))
        case measure => simp [intOf]
      · go_wp2
        go_round
        case rel => exact .inr (.inr (.inr ⟨rfl, rfl⟩))
        case measure => simp [intOf]
      · go_wp2_with fail
        refine (alive_c _).mono ?_
        rintro e w2 ⟨rfl, hb⟩
        have H2 : Hid (Below w.heap.size w w2) := H1.out.trans (hb.mono H1.out.size)
        clear hb
        go_wp2
        go_ret
        exact ⟨rfl, H2.out⟩
  · have e : ((p : Int) == r) = false := by simp; omega
    have i0 : ∀ w : World, (Instr.index 32 (.agg #[.int .i64 (p : Nat), .int .i64 (r : Nat), .int .i64 (r : Nat)]) (.int .i64 0)).run Try.prog w = .ok (.int .i64 (p : Nat)) w := fun _ => by kernel_rfl
    have i1 : ∀ w : World, (Instr.index 32 (.agg #[.int .i64 (p : Nat), .int .i64 (r : Nat), .int .i64 (r : Nat)]) (.int .i64 1)).run Try.prog w = .ok (.int .i64 (r : Nat)) w := fun _ => by kernel_rfl
    have i2 : ∀ w : World, (Instr.index 32 (.agg #[.int .i64 (p : Nat), .int .i64 (r : Nat), .int .i64 (r : Nat)]) (.int .i64 2)).run Try.prog w = .ok (.int .i64 (r : Nat)) w := fun _ => by kernel_rfl
    go_wp2
    go_loop [11, 31] (fun n j => (j = .int .i64 0 ∧ n = .int .i64 0) ∨ (j = .int .i64 1 ∧ n = .int .i64 0) ∨ (j = .int .i64 2 ∧ n = .int .i64 1) ∨ (j = .int .i64 3 ∧ n = .int .i64 2)) (fun _ j => 3 - (intOf j).toNat)
    case atStart => exact .inl ⟨rfl, rfl⟩
    case round =>
      rcases hrel with ⟨rfl, rfl⟩ | ⟨rfl, rfl⟩ | ⟨rfl, rfl⟩ | ⟨rfl, rfl⟩
      · go_wp2
        go_round
        case rel => exact .inr (.inl ⟨rfl, rfl⟩)
        case measure => simp [intOf]
      · go_wp2
        go_round
        case rel => exact .inr (.inr (.inl ⟨rfl, rfl⟩))
        case measure => simp [intOf]
      · go_wp2
        go_round
        case rel => exact .inr (.inr (.inr ⟨rfl, rfl⟩))
        case measure => simp [intOf]
      · go_wp2_with fail
        refine (alive_c _).mono ?_
        rintro e w2 ⟨rfl, hb⟩
        have H2 : Hid (Below w.heap.size w w2) := H1.out.trans (hb.mono H1.out.size)
        clear hb
        go_wp2
        go_ret
        exact ⟨rfl, H2.out⟩
end Go.Proofs.Ytifonekpgaahlaa
