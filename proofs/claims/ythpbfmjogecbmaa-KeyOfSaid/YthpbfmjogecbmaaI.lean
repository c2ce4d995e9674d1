/- The contract of the reference's Sort. -/
import Derived.Test.YthpbfmjogecbmaaM
import Derived.Deep.LoopGhost
namespace Go.Proofs.Ythpbfmjogecbmaa
open Go.RowKit

def OwnV (w : World) (B : Nat) (v : Value) (l : List K) : Prop := w.ownsRow B 24 32 v l.length (cellsK l)
theorem OwnV.nil (w : World) (B : Nat) : OwnV w B (.slice none 0 0) [] := ⟨rfl, .inl ⟨rfl, rfl⟩⟩
theorem OwnV.below {w w' : World} {B : Nat} {v : Value} {l : List K} (h : OwnV w B v l) (hb : Below w.heap.size w w') : OwnV w' B v l := by
  obtain ⟨h0, h | ⟨g, cap, cur, rfl, hg, hh, hr⟩⟩ := h
  · exact ⟨h0, .inl h⟩
  · have hlt : g < w.heap.size := by
      rcases Nat.lt_or_ge g w.heap.size with h | h
      · exact h
      · rw [Array.getElem?_eq_none h] at hh; cases hh
    exact ⟨h0, .inr ⟨g, cap, cur, rfl, hg, by rw [hb.block g hlt]; exact hh, hr⟩⟩
theorem OwnV.mono {w : World} {B B' : Nat} {v : Value} {l : List K} (h : OwnV w B v l) (hB : B' ≤ B) : OwnV w B' v l := by
  obtain ⟨h0, h | ⟨g, cap, cur, hv, hg, hr⟩⟩ := h
  · exact ⟨h0, .inl h⟩
  · exact ⟨h0, .inr ⟨g, cap, cur, hv, by omega, hr⟩⟩
theorem OwnV.row {w : World} {B : Nat} {v : Value} {l : List K} (h : OwnV w B v l) : ∃ A c, v = .slice A l.length c ∧ Row w B A l ∧ l.length ≤ c := row_of_own h
theorem OwnV.own_ge {w : World} {B : Nat} {v : Value} {l : List K} (h : OwnV w B v l) : ∀ k, v.ownBlock = some k → B ≤ k := fun k hk => by
  obtain ⟨_, h | ⟨g, cap, cur, rfl, hg, _⟩⟩ := h
  · obtain ⟨rfl, _⟩ := h; simp [Value.ownBlock] at hk
  · simp [Value.ownBlock] at hk; omega

theorem keyIn_new (w : World) (k : Nat → Nat) : KeyIn (w.alloc (.cells (kc k) 24)) w.heap.size 0 k := fun j v hv => by
  rw [cell_of_row _ _ _ _ _ _ (heap_alloc_last w _), Nat.zero_add, ← Array.getElem?_toList]
  exact hv
/-- One key is appended to a row of the call's own. -/
theorem wpList_push {ops : Array Oper} {rest : List Oper} {o : Oper} {a : Act} {w : World} {Q : Exit → Act → World → Prop} (hgd : o.guard = none) (s x : Operand)
    (ho : o.op = .call { callee := .builtin .append, args := #[s, x], argTypes := #[38, 38] }) (B : Nat) (v : Value) (l : List K) (hs : a.eval s = v) (hown : OwnV w B v l) (g : Nat) (y : K)
    (hx : a.eval x = .slice (some ⟨g, 0, none⟩) 1 1) (hk : KeyIn w g 0 y.f) (hl : l.length ≤ 4000000000001) (hB : B ≤ w.heap.size)
    (h : ∀ v' w', OwnV w' B v' (l ++ [y]) → Below B w w' → wpList Try.prog ops Q rest (a.put o.dst v') w') : wpList Try.prog ops Q (o :: rest) a w := by
  obtain ⟨i0, hi, hz0, hz1, hz2⟩ := info_parts info24
  refine wpList_append_own (w := w) hgd s x 38 ho B 24 i0 (.agg (kc kz)) 32 32 Try.underlying38 hi hz0 hz1 hz2 (kc_size kz) (by decide) v l.length (cellsK l) hs hown ⟨g, 0, none⟩ 1 1 (kc y.f).toList hx (kc_len _)
    (fun j u hj => by rw [Addr.add_mid]; exact hk j u hj) (fun u hu => cellsK_one [y] u (by simpa [cellsK] using hu)) (by unfold maxLen; omega) (by omega) hB fun v' w' h1 h2 _ => h v' w' ?_ ?_
  · unfold OwnV
    rw [cellsK_append, List.length_append]
    simpa [cellsK] using h1
  · exact (Below.refl _ _).grown h2 hB hown.own_ge

set_option maxHeartbeats 4000000 in
theorem rsort_c (A : Option Addr) (c : Nat) (l : List K) (w : World) (hA : KA w A l) (hl : l.length ≤ 4000000000000) :
    Calls Try.prog 22 #[.slice A l.length c] w fun e w' => ∃ v, e = .returned v ∧ OwnV w' w.heap.size v (rsort l) ∧ Below w.heap.size w w' := by
  go_enter Try.func22, Try.ntmps22
  go_wp2
  go_loopg [3, 4, 5, 6, 7, 8] l.length (fun gg out i _ _ _ _ wr => ∃ m : Nat, i = .int .i64 m ∧ m ≤ l.length ∧ l.length - m ≤ gg ∧ OwnV wr w.heap.size out (rsort (l.take m)) ∧ Below w.heap.size w wr)
  case atStart => exact ⟨0, rfl, by omega, by omega, OwnV.nil w _, Below.refl _ _⟩
  case round =>
    obtain ⟨m, rfl, hm, hgg, hO, hB⟩ := hrel
    by_cases hlt : m < l.length
    · obtain ⟨wo, rfl⟩ : ∃ wo : World, wo = wr := ⟨_, rfl⟩
      obtain ⟨x, hx⟩ := get_some hlt
      obtain ⟨o, ho⟩ : ∃ o, o = rsort (l.take m) := ⟨_, rfl⟩
      rw [← ho] at hO
      obtain ⟨Ao, co, rfl, hRo, _⟩ := hO.row
      obtain ⟨b2, o2, rfl, k2⟩ := (hA.below hB) m x hx
      have kf2 : Hid (∀ w', Below wo.heap.size wo w' → ldKey w' (.pointer (some ⟨b2, o2 + m * 32, none⟩)) = .ok (.value (.agg (kc x.f))) w') := fun w' h => (k2.below h k2.lt).ld
      have HO := Lib.hid ho
      have HB := Lib.hid hB
      have hol : o.length ≤ m := by rw [ho]; have := rsort_len (l.take m); simp at this; omega
      have HRo := Lib.hid hRo
      have hr : Hid (rsort (l.take (m + 1)) = rins o x) := by show rsort (l.take (m + 1)) = rins o x; rw [List.take_add_one, hx, ho]; exact rsort_snoc _ _
      have hd : decide ((m : Int) < l.length) = true := by simp; omega
      clear ho hB hx hO hRo k2 hA
      go_wp2
      go_loopg [5, 6, 7, 8] o.length (fun g2 next done j _ wr => ∃ k : Nat, j = .int .i64 k ∧ k ≤ o.length ∧ o.length - k ≤ g2 ∧ done = .bool (insAll x (o.take k)).2 ∧ OwnV wr wo.heap.size next (insAll x (o.take k)).1 ∧ Below wo.heap.size wo wr)
      case atStart => exact ⟨0, rfl, by omega, by omega, rfl, OwnV.nil _ _, Below.refl _ _⟩
      case round =>
        obtain ⟨k, rfl, hk, hg2, rfl, hN, hBi⟩ := hrel
        have HBi := Lib.hid hBi
        by_cases hlt2 : k < o.length
        · obtain ⟨y, hy⟩ := get_some hlt2
          obtain ⟨b1, o1, rfl, k1⟩ := HRo.out.ka k y hy
          have kf1 : Hid (∀ w', Below wo.heap.size wo w' → ldKey w' (.pointer (some ⟨b1, o1 + k * 32, none⟩)) = .ok (.value (.agg (kc y.f))) w') := fun w' h => (k1.below h k1.lt).ld
          have la : ∀ z : Later wr, ldKey z.w (.pointer (some ⟨b1, o1 + k * 32, none⟩)) = .ok (.value (.agg (kc y.f))) z.w := fun z => kf1.out _ (HBi.out.trans (z.h.mono HBi.out.size))
          have lb : ∀ z : Later wr, ldKey z.w (.pointer (some ⟨b2, o2 + m * 32, none⟩)) = .ok (.value (.agg (kc x.f))) z.w := fun z => kf2.out _ (HBi.out.trans (z.h.mono HBi.out.size))
          have hcn := K.cmp_n y x
          have hsn : insAll x (o.take (k + 1)) = insStep x (insAll x (o.take k)) y := by rw [List.take_add_one, hy]; exact insAll_snoc _ _ _
          have HN := Lib.hid hN
          have hnl := (insAll_len x (o.take k)).1
          have hd2 : decide ((k : Int) < o.length) = true := by simp; omega
          have hlk : (o.take k).length = k := by simp; omega
          obtain ⟨nx, hnx⟩ : ∃ nx, nx = (insAll x (o.take k)).1 := ⟨_, rfl⟩
          obtain ⟨dn, hdn⟩ : ∃ dn, dn = (insAll x (o.take k)).2 := ⟨_, rfl⟩
          rw [← hnx, hlk] at hnl
          rw [← hnx] at HN
          rw [← hdn]
          unfold insStep at hsn
          rw [← hnx, ← hdn] at hsn
          clear hnx hdn hy k1 hN hlk hBi
          by_cases hyx : y.n < x.n
          · rw [if_pos hyx] at hcn
            rw [if_neg (by omega), show (y.n == x.n) = false by simp; omega, Bool.or_false] at hsn
            have e0 : (cmp y.f x.f == 0) = false := by rw [hcn]; rfl
            have e1 : decide (0 < cmp y.f x.f) = false := by rw [hcn]; rfl
            have HS := Lib.hid hsn
            clear hcn hsn hyx
            go_wp2_with fail
            refine wp_region_later (by kernel_rfl) (by kernel_rfl) ?_
            repeat (go_big_quiet_step ((go_at_call 29; exact Later.call (rcompare_c _ _ _))))
            refine wpQuiet_nil ?_
            rintro _ ⟨z, rfl⟩
            have lz := la z
            have Hz : Hid (Below wo.heap.size wo z.w) := HBi.out.trans (z.h.mono HBi.out.size)
            have hsz := Hz.out.size
            clear la lb
            go_wp2_with (at_builtin; refine wpList_push rfl _ _ rfl wo.heap.size _ nx rfl ((HN.out.below z.h).below (one_below _ _)) z.w.heap.size y rfl (keyIn_new _ _) (by omega) (by simp; omega) ?_)
            intro v' w1 hv hb
            have HV := Lib.hid hv
            have HB1 : Hid (Below wo.heap.size wo w1) := (Hz.out.alloc Hz.out.size _).trans hb
            clear hv hb lz
            go_wp2
            go_roundg (o.length - (k + 1))
            case measure => omega
            case rel =>
              refine ⟨k + 1, by go_num, by omega, by omega, ?_, ?_, HB1.out⟩
              · rw [HS.out]
              · rw [HS.out]; exact HV.out
          · rw [if_neg hyx] at hcn
            by_cases hxy : x.n < y.n
            · rw [if_pos hxy] at hcn
              have e0 : (cmp y.f x.f == 0) = false := by rw [hcn]; rfl
              have e1 : decide (0 < cmp y.f x.f) = true := by rw [hcn]; rfl
              have hb0 : (y.n == x.n) = false := by simp; omega
              rw [hb0, Bool.or_false] at hsn
              cases dn with
              | false =>
                rw [if_pos ⟨rfl, hxy⟩] at hsn
                have HS := Lib.hid hsn
                clear hcn hsn hyx hxy hb0
                go_wp2_with fail
                refine wp_region_later (by kernel_rfl) (by kernel_rfl) ?_
                repeat (go_big_quiet_step ((go_at_call 29; exact Later.call (rcompare_c _ _ _))))
                refine wpQuiet_nil ?_
                rintro _ ⟨z, rfl⟩
                have lz := la z
                have lx := lb z
                have Hz : Hid (Below wo.heap.size wo z.w) := HBi.out.trans (z.h.mono HBi.out.size)
                have hsz := Hz.out.size
                clear la lb
                go_wp2_with (at_builtin; refine wpList_push rfl _ _ rfl wo.heap.size _ nx rfl ((HN.out.below z.h).below (one_below _ _)) z.w.heap.size x rfl (keyIn_new _ _) (by omega) (by simp; omega) ?_)
                intro v1 w1 hv hb
                have HV := Lib.hid hv
                have HB1 : Hid (Below wo.heap.size wo w1) := (Hz.out.alloc Hz.out.size _).trans hb
                have hs1 := HB1.out.size
                have ly := kf1.out w1 HB1.out
                clear hv hb lz lx
                go_wp2_with (at_builtin; refine wpList_push rfl _ _ rfl wo.heap.size _ (nx ++ [x]) rfl (HV.out.below (one_below _ _)) w1.heap.size y rfl (keyIn_new _ _) (by simp; omega) (by simp; omega) ?_)
                intro v2 w2 hv hb
                have HV2 := Lib.hid hv
                have HB2 : Hid (Below wo.heap.size wo w2) := (HB1.out.alloc HB1.out.size _).trans hb
                clear hv hb ly
                go_wp2
                go_roundg (o.length - (k + 1))
                case measure => omega
                case rel =>
                  refine ⟨k + 1, by go_num, by omega, by omega, ?_, ?_, HB2.out⟩
                  · rw [HS.out]
                  · rw [HS.out]
                    have := HV2.out
                    simpa using this
              | true =>
                rw [if_neg (by simp)] at hsn
                have HS := Lib.hid hsn
                clear hcn hsn hyx hxy hb0
                go_wp2_with fail
                refine wp_region_later (by kernel_rfl) (by kernel_rfl) ?_
                repeat (go_big_quiet_step ((go_at_call 29; exact Later.call (rcompare_c _ _ _))))
                refine wpQuiet_nil ?_
                rintro _ ⟨z, rfl⟩
                have lz := la z
                have lx := lb z
                have Hz : Hid (Below wo.heap.size wo z.w) := HBi.out.trans (z.h.mono HBi.out.size)
                have hsz := Hz.out.size
                clear la lb
                go_wp2_with (at_builtin; refine wpList_push rfl _ _ rfl wo.heap.size _ nx rfl ((HN.out.below z.h).below (one_below _ _)) z.w.heap.size y rfl (keyIn_new _ _) (by omega) (by simp; omega) ?_)
                intro v' w1 hv hb
                have HV := Lib.hid hv
                have HB1 : Hid (Below wo.heap.size wo w1) := (Hz.out.alloc Hz.out.size _).trans hb
                clear hv hb lz lx
                go_wp2
                go_roundg (o.length - (k + 1))
                case measure => omega
                case rel =>
                  refine ⟨k + 1, by go_num, by omega, by omega, ?_, ?_, HB1.out⟩
                  · rw [HS.out]
                  · rw [HS.out]; exact HV.out
            · rw [if_neg hxy] at hcn
              have e0 : (cmp y.f x.f == 0) = true := by rw [hcn]; rfl
              have e1 : decide (0 < cmp y.f x.f) = false := by rw [hcn]; rfl
              rw [if_neg (by omega), show (y.n == x.n) = true by simp; omega, Bool.or_true] at hsn
              have HS := Lib.hid hsn
              clear hcn hsn hyx hxy
              go_wp2_with fail
              refine wp_region_later (by kernel_rfl) (by kernel_rfl) ?_
              repeat (go_big_quiet_step ((go_at_call 29; exact Later.call (rcompare_c _ _ _))))
              refine wpQuiet_nil ?_
              rintro _ ⟨z, rfl⟩
              have lz := la z
              have lx := lb z
              have Hz : Hid (Below wo.heap.size wo z.w) := HBi.out.trans (z.h.mono HBi.out.size)
              have hsz := Hz.out.size
              clear la lb
              go_wp2_with (at_builtin; refine wpList_push rfl _ _ rfl wo.heap.size _ nx rfl ((HN.out.below z.h).below (one_below _ _)) z.w.heap.size y rfl (keyIn_new _ _) (by omega) (by simp; omega) ?_)
              intro v' w1 hv hb
              have HV := Lib.hid hv
              have HB1 : Hid (Below wo.heap.size wo w1) := (Hz.out.alloc Hz.out.size _).trans hb
              clear hv hb lz lx
              go_wp2
              go_roundg (o.length - (k + 1))
              case measure => omega
              case rel =>
                refine ⟨k + 1, by go_num, by omega, by omega, ?_, ?_, HB1.out⟩
                · rw [HS.out]
                · rw [HS.out]; exact HV.out
        · have hd2 : decide ((k : Int) < o.length) = false := by simp; omega
          have hs : o.take k = o := List.take_of_length_le (by omega)
          rw [hs] at hN ⊢
          unfold rins at hr
          have hnl := (insAll_len x o).1
          cases hdn : (insAll x o).2 with
          | true =>
            have HS : Hid (rsort (l.take (m + 1)) = (insAll x o).1) := by
              have := hr.out
              rwa [hdn, if_pos rfl] at this
            have HN := Lib.hid hN
            clear hN hr hdn hBi hs
            go_wp2
            go_roundg (l.length - (m + 1))
            case measure => omega
            case rel => exact ⟨m + 1, by go_num, by omega, by omega, by rw [HS.out]; exact HN.out.mono HB.out.size, HB.out.trans (HBi.out.mono HB.out.size)⟩
          | false =>
            have HS : Hid (rsort (l.take (m + 1)) = (insAll x o).1 ++ [x]) := by
              have := hr.out
              rwa [hdn, if_neg (by simp)] at this
            obtain ⟨nx, hnx⟩ : ∃ nx, nx = (insAll x o).1 := ⟨_, rfl⟩
            rw [← hnx] at HS hN hnl
            have HN := Lib.hid hN
            have lx := kf2.out wr HBi.out
            have hsz := HBi.out.size
            clear hN hr hdn hBi hs hnx
            go_wp2_with (at_builtin; refine wpList_push rfl _ _ rfl wo.heap.size _ nx rfl (HN.out.below (one_below _ _)) wr.heap.size x rfl (keyIn_new _ _) (by omega) (by simp; omega) ?_)
            intro v' w1 hv hb
            have HV := Lib.hid hv
            have HB1 : Hid (Below wo.heap.size wo w1) := (HBi.out.alloc HBi.out.size _).trans hb
            clear hv hb lx
            go_wp2
            go_roundg (l.length - (m + 1))
            case measure => omega
            case rel => exact ⟨m + 1, by go_num, by omega, by omega, by rw [HS.out]; exact HV.out.mono HB.out.size, HB.out.trans (HB1.out.mono HB.out.size)⟩
    · have hd : decide ((m : Int) < l.length) = false := by simp; omega
      rw [List.take_of_length_le (by omega)] at hO
      have HO := Lib.hid hO
      have HB := Lib.hid hB
      clear hO hB hA
      go_wp2
      go_ret
      exact ⟨_, rfl, HO.out, HB.out⟩
end Go.Proofs.Ythpbfmjogecbmaa
