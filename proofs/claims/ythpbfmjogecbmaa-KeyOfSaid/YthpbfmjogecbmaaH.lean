/- The contract of slices.Compact at a row of keys. -/
import Derived.Test.YthpbfmjogecbmaaF
import Derived.Deep.LoopGhost
namespace Go.Proofs.Ythpbfmjogecbmaa
open Go.RowKit

theorem dd_take_one {l : List K} (h : 1 ≤ l.length) : dd (l.take 1) = l.take 1 := by
  cases l with
  | nil => simp at h
  | cons a l => simp [dd, ddStep]
theorem dd_small {l : List K} (h : l.length < 2) : dd l = l := by
  match l, h with
  | [], _ => rfl
  | [a], _ => simp [dd, ddStep]
/-- What the compaction does at place p. -/
theorem dd_step {l : List K} {p : Nat} {x y : K} (h1 : 1 ≤ p) (hx : l[p]? = some x) (hy : l[p - 1]? = some y) : dd (l.take (p + 1)) = if x = y then dd (l.take p) else dd (l.take p) ++ [x] := by
  have e : l.take (p + 1) = l.take p ++ [x] := by rw [List.take_add_one, hx]; rfl
  have hlt := (List.getElem?_eq_some_iff.1 hx).1
  have hl : (dd (l.take p)).getLast? = some y := by
    rw [dd_last, List.getLast?_eq_getElem?, List.length_take, Nat.min_eq_left (by omega), List.getElem?_take, if_pos (by omega), hy]
  rw [e, dd_snoc, ddStep, hl]
  by_cases h : x = y
  · subst h; rw [if_pos rfl, if_pos rfl]
  · rw [if_neg h, if_neg (fun hh => h (by simpa using hh.symm))]
theorem dd_take_len (l : List K) (p : Nat) : (dd (l.take p)).length ≤ p := by
  have := dd_len (l.take p)
  have := List.length_take_le p l
  omega
theorem mix_at {C l : List K} {p : Nat} (h : C.length ≤ p) : (C ++ l.drop C.length)[p]? = l[p]? := by
  rw [List.getElem?_append_right h, List.getElem?_drop]
  congr 1
  omega
theorem mix_set {C l : List K} {y : K} (h : C.length < l.length) : (C ++ l.drop C.length).set C.length y = (C ++ [y]) ++ l.drop (C ++ [y]).length := by
  rw [List.set_append_right _ _ (Nat.le_refl _), Nat.sub_self, List.drop_eq_getElem_cons h, List.set_cons_zero]
  simp
theorem mix_len {C l : List K} (h : C.length ≤ l.length) : (C ++ l.drop C.length).length = l.length := by
  simp; omega

theorem Row.set {w : World} {B g : Nat} {l : List K} (h : Row w B (some ⟨g, 0, none⟩) l) {j : Nat} (hj : j < l.length) (y : K) : Row (w.setCells g (j * 32) (kc y.f).toList) B (some ⟨g, 0, none⟩) (l.set j y) := by
  have hne : l ≠ [] := by intro e; subst e; simp at hj
  obtain ⟨g', e, hB, ht⟩ := h.own hne
  simp only [Option.some.injEq, Addr.mk.injEq] at e
  obtain ⟨rfl, _⟩ := e
  have htj : w.there g (j * 32) (kc y.f).toList.length := fun c hc => by
    rw [kc_len] at hc
    have := ht (j * 32 + c) (by omega)
    rwa [Nat.zero_add] at this
  refine ⟨fun i x hx => ⟨g, 0, rfl, ?_⟩, fun _ => ⟨g, rfl, hB, by rw [List.length_set]; exact World.there_setCells ht _ _ _⟩⟩
  rw [List.getElem?_set] at hx
  rw [Nat.zero_add]
  by_cases hij : j = i
  · subst hij
    rw [if_pos rfl, if_pos hj] at hx
    have e : y = x := by simpa using hx
    subst e
    exact World.rangeAt_setCells_same w g _ _ htj
  · rw [if_neg hij] at hx
    obtain ⟨b, o, e, hc⟩ := h.ka i x hx
    simp only [Option.some.injEq, Addr.mk.injEq] at e
    obtain ⟨rfl, rfl, _⟩ := e
    rw [Nat.zero_add] at hc
    refine World.rangeAt_setCells_apart hc _ _ _ (.inr ?_)
    rw [kc_len, kc_len]
    omega
theorem below_setCells {B : Nat} {a : World} {g : Nat} (hg : B ≤ g) : ∀ (vs : List Value) (o : Nat) {w : World}, Below B a w → Below B a (w.setCells g o vs)
  | [], _, _, h => h
  | v :: vs, o, w, h => by
    rw [World.setCells]
    exact below_setCells hg vs (o + 1) (h.setCell hg v)
theorem Row.cut {w : World} {g n o : Nat} {l : List K} {vs : List Value} (h : KA w (some ⟨g, 0, none⟩) l) (hn : n * 32 ≤ o) : KA (w.setCells g o vs) (some ⟨g, 0, none⟩) (l.take n) := fun j k hk => by
  have hj : j < n := by
    have := (List.getElem?_eq_some_iff.1 hk).1
    simp at this
    omega
  rw [List.getElem?_take, if_pos hj] at hk
  obtain ⟨b, o', e, hc⟩ := h j k hk
  simp only [Option.some.injEq, Addr.mk.injEq] at e
  obtain ⟨rfl, rfl, _⟩ := e
  refine ⟨g, 0, rfl, World.rangeAt_setCells_apart hc _ _ _ (.inr (.inl ?_))⟩
  rw [kc_len]
  omega
theorem clear_keys (w : World) (g o n c : Nat) (hn : 0 < n) (ht : w.there g o (n * 32)) : ∃ vs, ∀ ty, (Builtin.clear_ #[38] ty #[.slice (some ⟨g, o, none⟩) n c]).run Try.prog w = .ok (.tuple #[]) (w.setCells g o vs) := by
  refine ⟨(Builtin.zeroCells (kc kz) n).toList, fun ty => ?_⟩
  have hz : (Builtin.zeroCells (kc kz) n).toList.length = n * 32 := by simp [Builtin.zeroCells, kc_size]
  have h1 : ∀ v ∈ (Builtin.zeroCells (kc kz) n).toList, v.oneCell' = true := fun v hv => by
    simp only [Builtin.zeroCells, Array.toList_map, List.mem_map] at hv
    obtain ⟨i, _, rfl⟩ := hv
    have hi : i % (kc kz).size < 32 := by rw [kc_size]; omega
    have := kc_at kz _ hi
    rw [getElem!_def, this]
    rfl
  have hs := run_storeCells_cells (P := Try.prog) g o (Builtin.zeroCells (kc kz) n).toList 0 w (fun j hj => by simpa using (ht j (by omega)).1) (fun j hj => by simpa using (ht j (by omega)).2) h1
  simp only [Nat.add_zero] at hs
  obtain ⟨m, rfl⟩ : ∃ m, n = m + 1 := ⟨n - 1, by omega⟩
  have hv : (zeroValue 24).run Try.prog w = .ok (.agg (kc kz)) w := zero23 w
  simp [Builtin.clear_, Value.cells, Sem.run_bind, run_underlying Try.underlying38, Result.andThen, hv, hs]

theorem Row.below {w w' : World} {B : Nat} {A : Option Addr} {l : List K} (h : Row w B A l) (hb : Below w.heap.size w w') : Row w' B A l :=
  ⟨h.ka.below hb, fun hl => by
    obtain ⟨g, e, hg, ht⟩ := h.own hl
    refine ⟨g, e, hg, fun j hj => ?_⟩
    obtain ⟨h1, h2⟩ := ht j hj
    obtain ⟨u, hu⟩ := Option.isSome_iff_exists.1 h1
    have hlt : g < w.heap.size := World.block_lt_of_cell? _ _ hu
    exact ⟨by rw [hb.cell (p := ⟨g, 0 + j, none⟩) hlt]; exact h1, by rw [hb.frozen (p := ⟨g, 0 + j, none⟩) hlt]; exact h2⟩⟩

set_option maxHeartbeats 4000000 in
theorem compact_c (A : Option Addr) (c : Nat) (l : List K) (B : Nat) (w : World) (hR : Row w B A l) (hB : B ≤ w.heap.size) (hl : l.length ≤ 4398046511103) (hcap : l.length ≤ c) :
    Calls Try.prog 31 #[.slice A l.length c] w fun e w' => e = .returned (.slice A (dd l).length c) ∧ KA w' A (dd l) ∧ Below B w w' := by
  by_cases h2 : l.length < 2
  · rw [dd_small h2]
    have HR := Lib.hid hR
    have hd : decide ((l.length : Int) < 2) = true := by simp; omega
    clear hR
    go_enter Try.func31, Try.ntmps31
    go_wp2
    go_ret
    exact ⟨rfl, HR.out.ka, Below.refl _ _⟩
  · have hne : l ≠ [] := by intro e; subst e; simp at h2
    obtain ⟨g, rfl, hg, ht⟩ := hR.own hne
    have hd : decide ((l.length : Int) < 2) = false := by simp; omega
    have h1 := dd_take_one (l := l) (by omega)
    have H1 := Lib.hid h1
    have HR := Lib.hid hR
    clear h1 hR ht hne
    go_enter Try.func31, Try.ntmps31
    go_wp2
    go_loopg [3] l.length (fun gg s3 wr => ∃ m : Nat, s3 = .int .i64 m ∧ 1 ≤ m ∧ m ≤ l.length ∧ l.length - m ≤ gg ∧ Hid (dd (l.take m) = l.take m) ∧ ∃ x : Behind w, wr = x.w)
    case atStart => exact ⟨1, rfl, by omega, by omega, by omega, H1.out, ⟨w, Grew.refl w⟩, rfl⟩
    case round =>
      obtain ⟨m, rfl, hm1, hm2, hgg, HM, x, rfl⟩ := hrel
      by_cases hlt : m < l.length
      · obtain ⟨p, hp⟩ := get_some hlt
        obtain ⟨q, hq⟩ := get_some (show m - 1 < l.length by omega)
        obtain ⟨b, o, e, k1, k2⟩ := HR.out.ka.two hp hq
        simp only [Option.some.injEq, Addr.mk.injEq] at e
        obtain ⟨rfl, rfl, _⟩ := e
        rw [Nat.zero_add] at k1 k2
        have la : ∀ y : Behind x.w, ldKey y.w (.pointer (some ⟨g, m * 32, none⟩)) = .ok (.value (.agg (kc p.f))) y.w := fun y => (k1.below (x.h.trans y.h).below k1.lt).ld
        have lb : ∀ y : Behind x.w, ldKey y.w (.pointer (some ⟨g, (m - 1) * 32, none⟩)) = .ok (.value (.agg (kc q.f))) y.w := fun y => (k2.below (x.h.trans y.h).below k2.lt).ld
        have HS := Lib.hid (dd_step hm1 hp hq)
        have HP := Lib.hid hp
        clear hp hq k1 k2
        by_cases hpq : p = q
        · subst hpq
          have hk : keq p.f p.f = true := (keq_iff _ _).2 fun _ _ => rfl
          have HE : Hid (dd (l.take (m + 1)) = l.take m) := by show dd (l.take (m + 1)) = l.take m; rw [HS.out, if_pos rfl, HM.out]
          go_wp2_with fail
          refine wp_region_behind (by kernel_rfl) (by kernel_rfl) ?_
          repeat (go_big_quiet_step (fail))
          refine wpQuiet_nil ?_
          rintro _ ⟨y, rfl⟩
          clear la lb hk
          have HRy := Lib.hid (HR.out.below (x.h.trans y.h).below)
          have HBy : Hid (Below B w y.w) := (x.h.trans y.h).below.mono hB
          clear HS HM HP
          have hmc : ¬ c = m := by omega
          go_wp2
          go_loopg [3, 5] l.length (fun gg s3 s5 wr => ∃ (kk k2 : Nat) (C : List K), s3 = .int .i64 kk ∧ s5 = .int .i64 k2 ∧ 1 ≤ k2 ∧ m + k2 ≤ l.length ∧ l.length - (m + k2) ≤ gg ∧ C.length = kk ∧ kk < m + k2 ∧ Hid (dd (l.take (m + k2)) = C) ∧ Row wr B (some ⟨g, 0, none⟩) (C ++ l.drop C.length) ∧ Below B w wr)
          case atStart =>
            refine ⟨m, 1, l.take m, rfl, rfl, by omega, by omega, by omega, by simp; omega, by omega, HE.out, ?_, HBy.out⟩
            rw [show (l.take m).length = m by simp; omega, List.take_append_drop]
            exact HRy.out
          case round =>
            obtain ⟨kk, k2, C, rfl, rfl, h1, hle, hg2, hC, hkk, HD, hRow, hBel⟩ := hrel
            have HB2 := Lib.hid hBel
            have HC := Lib.hid hC
            have hlen : (C ++ l.drop C.length).length = l.length := mix_len (by omega)
            clear hBel HE HRy HBy
            by_cases hlt2 : m + k2 < l.length
            · obtain ⟨a, ha⟩ := get_some hlt2
              obtain ⟨b, hb⟩ := get_some (show m + k2 - 1 < l.length by omega)
              have ha' : (C ++ l.drop C.length)[m + k2]? = some a := by rw [mix_at (by omega)]; exact ha
              have hb' : (C ++ l.drop C.length)[m + k2 - 1]? = some b := by rw [mix_at (by omega)]; exact hb
              obtain ⟨b0, o0, e, k1, k3⟩ := hRow.ka.two ha' hb'
              simp only [Option.some.injEq, Addr.mk.injEq] at e
              obtain ⟨rfl, rfl, _⟩ := e
              rw [Nat.zero_add] at k1 k3
              have la : ∀ y : Behind wr, ldKey y.w (.pointer (some ⟨g, m * 32 + k2 * 32, none⟩)) = .ok (.value (.agg (kc a.f))) y.w := fun y => by rw [← Nat.add_mul]; exact (k1.below y.h.below k1.lt).ld
              have lb : ∀ y : Behind wr, ldKey y.w (.pointer (some ⟨g, m * 32 + (k2 - 1) * 32, none⟩)) = .ok (.value (.agg (kc b.f))) y.w := fun y => by rw [← Nat.add_mul, show m + (k2 - 1) = m + k2 - 1 by omega]; exact (k3.below y.h.below k3.lt).ld
              have HS := dd_step (show 1 ≤ m + k2 by omega) ha hb
              rw [HD.out] at HS
              have HRow := Lib.hid hRow
              clear ha hb ha' hb' k1 k3 hRow hC hlen
              by_cases hab : a = b
              · subst hab
                rw [if_pos rfl] at HS
                have HS := Lib.hid HS
                have hk : keq a.f a.f = true := (keq_iff _ _).2 fun _ _ => rfl
                clear HD
                go_wp2_with fail
                refine wp_region_behind (by kernel_rfl) (by kernel_rfl) ?_
                repeat (go_big_quiet_step (fail))
                refine wpQuiet_nil ?_
                rintro _ ⟨z, rfl⟩
                clear la lb hk
                go_wp2
                go_roundg (l.length - (m + (k2 + 1)))
                case measure => omega
                case rel => exact ⟨kk, k2 + 1, C, rfl, by go_num, by omega, by omega, by omega, HC.out, by omega, HS.out, HRow.out.below z.h.below, HB2.out.trans (z.h.below.mono (Nat.le_trans hB HB2.out.size))⟩
              · rw [if_neg hab] at HS
                have HS := Lib.hid HS
                have hk : keq a.f b.f = false := by rw [keq_K]; exact decide_eq_false hab
                clear HD hab
                go_wp2_with fail
                refine wp_region_behind (by kernel_rfl) (by kernel_rfl) ?_
                repeat (go_big_quiet_step (fail))
                refine wpQuiet_nil ?_
                rintro _ ⟨z, rfl⟩
                have lz := la z
                have HRz := HRow.out.below z.h.below
                have hst : stKey z.w (.pointer (some ⟨g, kk * 32, none⟩)) (.agg (kc a.f)) = .ok .skip (z.w.setCells g (kk * 32) (kc a.f).toList) := by
                  obtain ⟨g', e, _, ht⟩ := HRz.own (by intro e; have := congrArg List.length e; rw [mix_len (by have := HC.out; omega), List.length_nil] at this; omega)
                  simp only [Option.some.injEq, Addr.mk.injEq] at e
                  obtain ⟨rfl, _⟩ := e
                  refine KeyIn.st (fun j hj => ?_) _
                  have := ht (kk * 32 + j) (by rw [mix_len (by have := HC.out; omega)]; omega)
                  rwa [Nat.zero_add] at this
                have HRS : Hid (Row (z.w.setCells g (kk * 32) (kc a.f).toList) B (some ⟨g, 0, none⟩) ((C ++ [a]) ++ l.drop (C ++ [a]).length)) := by
                  have := HRz.set (j := kk) (by rw [mix_len (by have := HC.out; omega)]; omega) a
                  rw [← HC.out, mix_set (by have := HC.out; omega)] at this
                  rw [← HC.out]
                  exact this
                have HBz : Hid (Below B w (z.w.setCells g (kk * 32) (kc a.f).toList)) := below_setCells hg _ _ (HB2.out.trans (z.h.below.mono (Nat.le_trans hB HB2.out.size)))
                clear la lb hk HRz
                go_wp2
                go_roundg (l.length - (m + (k2 + 1)))
                case measure => omega
                case rel => exact ⟨kk + 1, k2 + 1, C ++ [a], by go_num, by go_num, by omega, by omega, by omega, by simp [HC.out], by omega, HS.out, HRS.out, HBz.out⟩
            · have hend : m + k2 = l.length := by omega
              have HDC : Hid (dd l = C) := by
                have := HD.out
                rwa [hend, List.take_of_length_le (Nat.le_refl _)] at this
              obtain ⟨vs, hcl⟩ := clear_keys wr g (kk * 32) (l.length - kk) (c - kk) (by omega) (fun j hj => by
                obtain ⟨g', e, _, ht⟩ := hRow.own (by intro e; have := congrArg List.length e; rw [hlen, List.length_nil] at this; omega)
                simp only [Option.some.injEq, Addr.mk.injEq] at e
                obtain ⟨rfl, _⟩ := e
                have := ht (kk * 32 + j) (by rw [hlen]; omega)
                rwa [Nat.zero_add] at this)
              have HKA : Hid (KA (wr.setCells g (kk * 32) vs) (some ⟨g, 0, none⟩) C) := by
                have := Row.cut (vs := vs) hRow.ka (n := kk) (o := kk * 32) (Nat.le_refl _)
                have h3 : (C ++ l.drop C.length).take kk = C := by rw [← hC]; exact List.take_left
                rw [h3] at this
                exact this
              have HBz : Hid (Below B w (wr.setCells g (kk * 32) vs)) := below_setCells hg _ _ HB2.out
              have hkc : ¬ c = kk := by omega
              clear hRow hlen hC HD
              go_wp2
              go_ret
              exact ⟨by rw [HDC.out, HC.out]; rfl, by rw [HDC.out]; exact HKA.out, HBz.out⟩
        · have hk : keq p.f q.f = false := by rw [keq_K]; exact decide_eq_false hpq
          have HE : Hid (dd (l.take (m + 1)) = l.take (m + 1)) := by
            show dd (l.take (m + 1)) = l.take (m + 1)
            rw [HS.out, if_neg hpq, HM.out, List.take_add_one, HP.out]
            rfl
          clear hpq HS HM HP
          go_wp2_with fail
          refine wp_region_behind (by kernel_rfl) (by kernel_rfl) ?_
          repeat (go_big_quiet_step (fail))
          refine wpQuiet_nil ?_
          rintro _ ⟨y, rfl⟩
          clear la lb hk
          go_wp2
          go_roundg (l.length - (m + 1))
          case measure => omega
          case rel => exact ⟨m + 1, by go_num, by omega, by omega, by omega, HE.out, ⟨_, x.h.trans y.h⟩, rfl⟩
      · have HE : Hid (dd l = l) := by
          have := HM.out
          rwa [List.take_of_length_le (by omega)] at this
        go_wp2
        go_ret
        exact ⟨by rw [HE.out]; rfl, by rw [HE.out]; exact HR.out.ka.below x.h.below, x.h.below.mono hB⟩
end Go.Proofs.Ythpbfmjogecbmaa
