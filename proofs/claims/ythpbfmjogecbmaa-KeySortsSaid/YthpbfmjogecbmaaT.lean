/- The function of KeySplits returns true. -/
import Derived.Test.YthpbfmjogecbmaaS
namespace Go.Proofs.Ythpbfmjogecbmaa
open Go.RowKit

/-! ### Counting the places at which a rising test is still false -/
theorem count_rising {p : Nat → Bool} : ∀ N : Nat, (∀ a b, a ≤ b → b < N → p a = true → p b = true) →
    (List.range N).countP (fun j => !p j) ≤ N ∧ ∀ j, j < N → (p j = false ↔ j < (List.range N).countP fun j => !p j)
  | 0, _ => ⟨by simp, fun j hj => absurd hj (Nat.not_lt_zero j)⟩
  | N + 1, h => by
    obtain ⟨i1, i2⟩ := count_rising N fun a b hab hb => h a b hab (by omega)
    have e : (List.range (N + 1)).countP (fun j => !p j) = (List.range N).countP (fun j => !p j) + (if p N = true then 0 else 1) := by
      rw [List.range_succ, List.countP_append]
      cases hpN : p N <;> simp [hpN]
    rw [e]
    cases hN : p N with
    | true =>
      simp only [if_true, Nat.add_zero]
      refine ⟨by omega, fun j hj => ?_⟩
      rcases Nat.lt_or_ge j N with h' | h'
      · exact i2 j h'
      · have : j = N := by omega
        subst this
        rw [hN]
        constructor
        · intro h; cases h
        · omega
    | false =>
      have all : ∀ j, j < N → p j = false := fun j hj => by
        cases hj' : p j with
        | false => rfl
        | true => rw [h j N (by omega) (by omega) hj'] at hN; cases hN
      have full : (List.range N).countP (fun j => !p j) = N := by
        have : (List.range N).countP (fun j => !p j) = (List.range N).length := List.countP_eq_length.2 fun j hj => by rw [all j (List.mem_range.1 hj)]; rfl
        rw [this, List.length_range]
      rw [full]
      simp only [Bool.false_eq_true, if_false]
      refine ⟨by omega, fun j hj => ?_⟩
      constructor
      · intro; omega
      · intro
        rcases Nat.lt_or_ge j N with h' | h'
        · exact all j h'
        · rw [show j = N by omega]; exact hN

/-- Keys with the first i bits in common: bit i does not fall. -/
theorem bit_rises {x y k : K} {i : Nat} (hi : i < 256) (hx : i ≤ common x.f k.f) (hy : i ≤ common y.f k.f) (h : x.n < y.n) : bit x.f i ≤ bit y.f i := by
  have hc : i ≤ common x.f y.f := by
    have t1 := (common_three x.f k.f y.f).1
    have t2 := (common_three y.f k.f x.f).1
    rw [common_comm y.f k.f] at t1
    rw [common_comm x.f k.f, common_comm x.f y.f] at t2
    rcases Nat.le_total (common x.f k.f) (common y.f k.f) with h' | h'
    · have := t1 h'; omega
    · have := t2 h'; omega
  obtain ⟨c1, c2, c3⟩ := common_spec x.f y.f
  rcases Nat.lt_or_ge i (common x.f y.f) with h' | h'
  · rw [c2 i h']; exact Nat.le_refl _
  · have e : common x.f y.f = i := by omega
    have hb := cmp_bit x.byt y.byt (by omega : common x.f y.f < 256)
    have hn := K.cmp_n x y
    rw [if_pos h, hb, e] at hn
    omega
/-- The keys of a list that have the first i bits of k. -/
def flt (k : K) (i : Nat) (l : List K) : List K := l.filter fun x => decide (i ≤ common x.f k.f)
theorem flt_snoc (k : K) (i : Nat) (l : List K) (x : K) : flt k i (l ++ [x]) = if i ≤ common x.f k.f then flt k i l ++ [x] else flt k i l := by
  unfold flt
  rw [List.filter_append]
  by_cases h : i ≤ common x.f k.f
  · rw [if_pos h]; simp [h]
  · rw [if_neg h]; simp [h]
theorem flt_len (k : K) (i : Nat) (l : List K) : (flt k i l).length ≤ l.length := List.length_filter_le _ _
theorem get_bang {l : List K} {j : Nat} {x : K} (h : l[j]? = some x) : l[j]! = x := by
  obtain ⟨h1, e⟩ := List.getElem?_eq_some_iff.1 h
  rw [getElem!_pos l j h1, e]
theorem flt_rising {l : List K} (hl : Asc l) (k : K) (i : Nat) (hi : i < 256) : ∀ a b, a ≤ b → b < (flt k i l).length → (bit ((flt k i l)[a]!).f i != 0) = true → (bit ((flt k i l)[b]!).f i != 0) = true := fun a b hab hb h => by
  have hA : Asc (flt k i l) := List.Pairwise.filter _ hl
  obtain ⟨x, hx⟩ := get_some (show a < (flt k i l).length by omega)
  obtain ⟨y, hy⟩ := get_some hb
  rw [get_bang hx] at h
  rw [get_bang hy]
  rcases Nat.lt_or_ge a b with h' | h'
  · have hxm : x ∈ flt k i l := List.mem_of_getElem? hx
    have hym : y ∈ flt k i l := List.mem_of_getElem? hy
    unfold flt at hxm hym
    have cx : i ≤ common x.f k.f := by simpa using (List.mem_filter.1 hxm).2
    have cy : i ≤ common y.f k.f := by simpa using (List.mem_filter.1 hym).2
    obtain ⟨g1, e1⟩ := List.getElem?_eq_some_iff.1 hx
    obtain ⟨g2, e2⟩ := List.getElem?_eq_some_iff.1 hy
    have hlt := (List.pairwise_iff_getElem.1 hA) a b g1 g2 h'
    rw [e1, e2] at hlt
    have := bit_rises hi cx cy hlt
    simp at h ⊢
    omega
  · have e : a = b := by omega
    subst e
    rw [hx] at hy
    have : x = y := by simpa using hy
    rwa [← this]

set_option maxRecDepth 100000 in
set_option maxHeartbeats 4000000 in
theorem splits_w (A : Option Addr) (c : Nat) (l : List K) (k : K) (i : Int) (w : World) (hA : KA w A l) (hl : l.length ≤ 9223372036854775807) : Calls Try.prog 8 #[.slice A l.length c, .agg (kc k.f), .int .i64 i] w (Yes w) := by
  by_cases hn : 100 < l.length
  · have hd : decide (100 < (l.length : Int)) = true := by simp; omega
    go_enter Try.func8, Try.ntmps8
    go_wp2_with (go_at_call 10; refine (alive_c _).mono ?_; rintro e w' ⟨rfl, hb⟩)
    go_ret
    exact ⟨rfl, (one_below _ _).trans (hb.mono (by simp))⟩
  · have hd : decide (100 < (l.length : Int)) = false := by simp; omega
    by_cases h0 : i < 0
    · have hd0 : decide (i < 0) = true := by simpa using h0
      go_enter Try.func8, Try.ntmps8
      go_wp2_with (go_at_call 10; refine (alive_c _).mono ?_; rintro e w' ⟨rfl, hb⟩)
      go_ret
      exact ⟨rfl, (one_below _ _).trans (hb.mono (by simp))⟩
    · have hd0 : decide (i < 0) = false := by simpa using h0
      by_cases h1 : 255 < i
      · have hd1 : decide (255 < i) = true := by simpa using h1
        go_enter Try.func8, Try.ntmps8
        go_wp2_with (go_at_call 10; refine (alive_c _).mono ?_; rintro e w' ⟨rfl, hb⟩)
        go_ret
        exact ⟨rfl, (one_below _ _).trans (hb.mono (by simp))⟩
      · have hd1 : decide (255 < i) = false := by simpa using h1
        obtain ⟨I, rfl⟩ := Int.eq_ofNat_of_zero_le (show 0 ≤ i by omega)
        have hI : I < 256 := by omega
        clear h0 h1
        have HA := Lib.hid hA
        clear hA
        have bk := k.byt
        obtain ⟨o, ho⟩ : ∃ o, o = rsort l := ⟨_, rfl⟩
        have hol : o.length ≤ 100 := by rw [ho]; have := rsort_len l; omega
        have HASC : Hid (Asc o) := by show Asc o; rw [ho]; exact (rsort_spec l).1
        go_enter Try.func8, Try.ntmps8
        go_wp2_with fail
        refine (rsort_c A c l _ (HA.out.below (one_below _ _)) (by omega)).mono ?_
        rintro e w1 ⟨v, rfl, hv, hb⟩
        rw [← ho] at hv
        obtain ⟨Ar, cr, rfl, hRr, _⟩ := hv.row
        have HO := Lib.hid hRr.ka
        have HK := Lib.hid ((KeyAt.one w k.f).below hb (by simp))
        have HB := Lib.hid ((one_below w (.cells (kc k.f) 24)).trans (hb.mono (by simp)))
        clear hb hv hRr ho hd hd0 hd1
        go_wp2
        go_loopg [7, 9, 28] o.length (fun gg inn _ j wr => ∃ m : Nat, j = .int .i64 m ∧ m ≤ o.length ∧ o.length - m ≤ gg ∧ OwnV wr w1.heap.size inn (flt k I (o.take m)) ∧ Below w1.heap.size w1 wr)
        case atStart => exact ⟨0, rfl, by omega, by omega, OwnV.nil _ _, Below.refl _ _⟩
        case round =>
          obtain ⟨m, rfl, hm, hgg, hN, hBi⟩ := hrel
          have HBi := Lib.hid hBi
          have HN := Lib.hid hN
          clear hBi hN
          by_cases hlt : m < o.length
          · obtain ⟨x, hx⟩ := get_some hlt
            obtain ⟨b, of, rfl, kx⟩ := (HO.out.below HBi.out) m x hx
            have bx := x.byt
            have lx := kx.ld
            have lx2 := (kx.below (one_below wr (.cells (kc kz) 24)) kx.lt).ld
            have hd : decide ((m : Int) < o.length) = true := by simp; omega
            have KK := HK.out.below HBi.out HK.out.lt
            have lk := (KK.below (one_below wr (.cells (kc x.f) 24)) KK.lt).ld
            have HX := Lib.hid hx
            clear hx kx
            go_wp2_with fail
            refine (rcommon_c x.f k.f (by assumption) (by assumption) _).mono ?_
            rintro e w3 ⟨rfl, hb3⟩
            have hsz1 := HBi.out.size
            have B3 : Below wr.heap.size wr w3 := (one_below _ _).trans (hb3.mono (by simp))
            have hsz3 := B3.size
            have HB3 : Hid (Below w1.heap.size w1 w3) := HBi.out.trans (B3.mono HBi.out.size)
            have lx3 := ((KeyAt.one wr x.f).below hb3 (by simp)).ld
            have HN3 := Lib.hid (HN.out.below B3)
            have hsn : flt k I (o.take (m + 1)) = if I ≤ common x.f k.f then flt k I (o.take m) ++ [x] else flt k I (o.take m) := by rw [List.take_add_one, HX.out]; exact flt_snoc _ _ _ _
            have hfl := flt_len k I (o.take m)
            have htl := List.length_take_le m o
            clear hb3 lx lx2 lk KK B3
            by_cases hge : I ≤ common x.f k.f
            · have hdg : decide (I ≤ common x.f k.f) = true := decide_eq_true hge
              rw [if_pos hge] at hsn
              have HS := Lib.hid hsn
              clear hsn hge
              go_wp2_with (at_builtin; refine wpList_push rfl _ _ rfl w1.heap.size _ (flt k I (o.take m)) rfl (HN3.out.below (one_below _ _)) w3.heap.size x rfl (keyIn_new _ _) (by omega) (by simp; omega) ?_)
              intro v' w4 hv hb
              have HV := Lib.hid hv
              have HB4 : Hid (Below w1.heap.size w1 w4) := (HB3.out.alloc HB3.out.size _).trans hb
              clear hv hb lx3
              go_wp2
              go_roundg (o.length - (m + 1))
              case measure => omega
              case rel => exact ⟨m + 1, by go_num, by omega, by omega, by rw [HS.out]; exact HV.out, HB4.out⟩
            · have hdg : decide (I ≤ common x.f k.f) = false := decide_eq_false hge
              rw [if_neg hge] at hsn
              have HS := Lib.hid hsn
              clear hsn hge
              go_wp2
              go_roundg (o.length - (m + 1))
              case measure => omega
              case rel => exact ⟨m + 1, by go_num, by omega, by omega, by rw [HS.out]; exact HN3.out, HB3.out⟩
          · have hd : decide ((m : Int) < o.length) = false := by simp; omega
            have hs : o.take m = o := List.take_of_length_le (by omega)
            rw [hs] at HN
            obtain ⟨L, hL⟩ : ∃ L, L = flt k I o := ⟨_, rfl⟩
            rw [← hL] at HN
            have hrise := flt_rising HASC.out k I hI
            rw [← hL] at hrise
            have hLl : L.length ≤ 100 := by rw [hL]; have := flt_len k I o; omega
            obtain ⟨Ai, ci, rfl, hRi, _⟩ := HN.out.row
            have HI := Lib.hid hRi.ka
            have HR := Lib.hid hrise
            have HBW : Hid (Below w.heap.size w wr) := HB.out.trans (HBi.out.mono HB.out.size)
            obtain ⟨z0, z1⟩ := count_rising L.length hrise
            have HZ : Hid (∀ j, j < L.length → ((bit (L[j]!).f I != 0) = false ↔ j < zeros L I)) := z1
            have hz : zeros L I ≤ L.length := z0
            clear hs hL hrise hRi z0 z1
            go_wp2_with fail
            refine (split_c Ai ci L I _ HI.out (by omega) hI HR.out).mono ?_
            rintro e w5 ⟨rfl, hb5⟩
            have HB5 : Hid (Below w.heap.size w w5) := HBW.out.trans (hb5.mono HBW.out.size)
            have HI5 := Lib.hid (HI.out.below hb5)
            obtain ⟨Z, hZ⟩ : ∃ Z, Z = zeros L I := ⟨_, rfl⟩
            rw [← hZ] at hz HZ ⊢
            have hdz : decide ((Z : Int) < 0) = false := by simp
            have hdz2 : decide (L.length < Z) = false := by simp; omega
            clear hb5 hZ
            go_wp2
            clear hdz hdz2
            go_loopg [11, 12, 55] L.length (fun gg _ _ j wr => ∃ m : Nat, j = .int .i64 m ∧ m ≤ L.length ∧ L.length - m ≤ gg ∧ Below w5.heap.size w5 wr)
            case atStart => exact ⟨0, rfl, by omega, by omega, Below.refl _ _⟩
            case round =>
              obtain ⟨m2, rfl, hm2, hgg2, hB2⟩ := hrel
              have HB2 := Lib.hid hB2
              clear hB2
              by_cases hlt2 : m2 < L.length
              · obtain ⟨x, hx⟩ := get_some hlt2
                obtain ⟨b, of, rfl, kx⟩ := (HI5.out.below HB2.out) m2 x hx
                have bx := x.byt
                have lx := kx.ld
                have lx2 := (kx.below (one_below wr (.cells (kc kz) 24)) kx.lt).ld
                have hd : decide ((m2 : Int) < L.length) = true := by simp; omega
                have hz2 := HZ.out m2 hlt2
                rw [get_bang hx] at hz2
                clear hx kx
                by_cases hbit : bit x.f I = 0
                · have e0 : (((bit x.f I : Nat) : Int) == 0) = true := by rw [hbit]; rfl
                  have e1 : decide (m2 < Z) = true := decide_eq_true (hz2.1 (by rw [hbit]; rfl))
                  clear hbit hz2
                  go_wp2_with fail
                  refine (rbit_yes x.f bx I _ hI).mono ?_
                  rintro e w6 ⟨rfl, hb6⟩
                  have HB6 : Hid (Below w5.heap.size w5 w6) := HB2.out.trans ((one_below _ _).trans (hb6.mono (by simp)) |>.mono HB2.out.size)
                  clear hb6 lx lx2
                  go_wp2
                  go_roundg (L.length - (m2 + 1))
                  case measure => omega
                  case rel => exact ⟨m2 + 1, by go_num, by omega, by omega, HB6.out⟩
                · have e0 : (((bit x.f I : Nat) : Int) == 0) = false := by simp; omega
                  have e1 : decide (m2 < Z) = false := decide_eq_false fun h => by
                    have := hz2.2 h
                    simp at this
                    exact hbit this
                  clear hbit hz2
                  go_wp2_with fail
                  refine (rbit_yes x.f bx I _ hI).mono ?_
                  rintro e w6 ⟨rfl, hb6⟩
                  have HB6 : Hid (Below w5.heap.size w5 w6) := HB2.out.trans ((one_below _ _).trans (hb6.mono (by simp)) |>.mono HB2.out.size)
                  clear hb6 lx lx2
                  go_wp2
                  go_roundg (L.length - (m2 + 1))
                  case measure => omega
                  case rel => exact ⟨m2 + 1, by go_num, by omega, by omega, HB6.out⟩
              · have hd : decide ((m2 : Int) < L.length) = false := by simp; omega
                have HBZ : Hid (Below w.heap.size w wr) := HB5.out.trans (HB2.out.mono HB5.out.size)
                go_wp2_with fail
                refine (alive_c _).mono ?_
                rintro e w6 ⟨rfl, hb6⟩
                have HB6 : Hid (Below w.heap.size w w6) := HBZ.out.trans (hb6.mono HBZ.out.size)
                clear hb6
                go_wp2
                go_ret
                exact ⟨rfl, HB6.out⟩
end Go.Proofs.Ythpbfmjogecbmaa
