/- The program's (*state).add. -/
import Derived.Test.YtffgeoeoodogiaaDoorF
namespace Go.Proofs.YtffgeoeoodogiaaDoor
open Go.RowKit

def z39 : List UInt32 := List.replicate 8 0
theorem zero39 : ∀ w, (zeroValue 62).run Tryd.prog w = .ok (.agg (uA z39)) w := fun _ => by kernel_rfl
attribute [go_sem ↓] zero39
theorem s8_len (s : S8) : s.list.length = 8 := rfl
theorem uS_size (s : S8) : (uA s.list).size = 8 := rfl
@[go_sem ↓] theorem execOp_build39 (ρ : Operand → Value) (dst : Option Tmp) (parts : Array (Nat × Operand)) (type : TypeId) (pos : String) (after : Array Edge) (guard : Option (Nat × Bool)) (w : World) :
    Sem.run Tryd.prog (execOp ρ { dst, op := .build 62 parts, type, pos, after, guard }) w = bldA 62 w (parts.map fun x => (x.1, ρ x.2)) := rfl
@[go_sem ↓] theorem execOp_build49 (ρ : Operand → Value) (dst : Option Tmp) (parts : Array (Nat × Operand)) (type : TypeId) (pos : String) (after : Array Edge) (guard : Option (Nat × Bool)) (w : World) :
    Sem.run Tryd.prog (execOp ρ { dst, op := .build 69 parts, type, pos, after, guard }) w = bldA 69 w (parts.map fun x => (x.1, ρ x.2)) := rfl
theorem bld39 (w : World) (s : S8) : bldA 62 w #[(0, u s.a), (1, u s.b), (2, u s.c), (3, u s.d), (4, u s.e), (5, u s.f), (6, u s.g), (7, u s.h)] = .ok (.value (.agg (uA s.list))) w := by kernel_rfl
/-- The words while those of x are added, i of them. -/
def addl (s x : S8) (i : Nat) : List UInt32 := (List.range 8).map fun j => if j < i then s.list.getD j 0 + x.list.getD j 0 else s.list.getD j 0
theorem addl_len (s x : S8) (i : Nat) : (addl s x i).length = 8 := by simp [addl]
theorem addl_zero (s x : S8) : addl s x 0 = s.list := rfl
theorem addl_end (s x : S8) : addl s x 8 = (s.add x).list := rfl
theorem addl_at (s x : S8) (i : Nat) (h : i < 8) : (addl s x i).getD i 0 = s.list.getD i 0 := by simp [addl, List.getD_eq_getElem?_getD, h]
theorem addl_step (s x : S8) (i : Nat) (h : i < 8) : (addl s x i).set i (s.list.getD i 0 + x.list.getD i 0) = addl s x (i + 1) := by
  apply List.ext_getElem?
  intro t
  rw [List.getElem?_set]
  by_cases e : i = t
  · subst e
    rw [if_pos rfl, addl_len, if_pos h]
    simp only [addl, List.getElem?_map, List.getElem?_range h, Option.map_some]
    rw [if_pos (by omega)]
  · rw [if_neg e]
    rcases Nat.lt_or_ge t 8 with h2 | h2
    · simp only [addl, List.getElem?_map, List.getElem?_range h2, Option.map_some]
      by_cases h3 : t < i
      · rw [if_pos h3, if_pos (by omega)]
      · rw [if_neg h3, if_neg (by omega)]
    · rw [List.getElem?_eq_none (by simpa [addl] using h2), List.getElem?_eq_none (by simpa [addl] using h2)]
/-- The constants in the variable. -/
def KT (w : World) : Prop := ∀ j, j < 64 → w.cell? ⟨1, j, none⟩ = some (u (kTab.getD j 0))
theorem KT.keep {L : Nat → Prop} {a b : World} (h : KT a) (k : Keep L a b) (h1 : ¬ L 1) : KT b := fun j hj => k.cellAt (h j hj) h1

set_option maxHeartbeats 16000000 in
set_option maxRecDepth 100000 in
theorem add_f (sb : Nat) (s : S8) (l : List UInt8) (f : Nat → UInt8) (w : World) (hl : l.length = 64) (HF : Hid (f = fun k => l.getD k 0)) (hs : w.heap[sb]? = some (.cells (uA s.list) 69 (0, 0))) (hk : KT w) :
    Calls Tryd.prog 35 #[.pointer (some ⟨sb, 0, none⟩), .agg (bA l)] w fun e w' => e = .returned (.tuple #[]) ∧ w'.heap[sb]? = some (.cells (uA (blk s f).list) 69 (0, 0)) ∧ Keep (fun i => i = sb) w w' := by
  have HL := Lib.hid hl
  have HS := Lib.hid hs
  have HK := Lib.hid hk
  have ld0 : ∀ ob, ldA 62 (w.alloc ob) (.pointer (some ⟨sb, 0, none⟩)) = .ok (.value (.agg (uA s.list))) (w.alloc ob) := fun ob =>
    ldA_row (t' := 69) (fr := (0, 0)) (by rw [Below.heap_alloc _ _ _ (lt_of_heap HS.out)]; exact HS.out) Tryd.underlying62 (by rw [uS_size]; exact info39)
  have st0 := fun ob => stA_two w ob (uA z39) (uA s.list) (t := 62) (by rw [uS_size]; exact info39) rfl (uA_one _)
  clear hl hs hk
  go_enter Tryd.func35, Tryd.ntmps35
  go_wp2_with fail
  have hW0 : ((w.alloc (.cells (bA l) 77)).alloc (.cells (uA s.list) 62)).heap[w.heap.size]? = some (.cells (bA l) 77 (0, 0)) := by
    rw [Below.heap_alloc _ _ _ (by simp)]; exact heap_alloc_new w _
  have hW1 : ((w.alloc (.cells (bA l) 77)).alloc (.cells (uA s.list) 62)).heap[w.heap.size + 1]? = some (.cells (uA s.list) 62 (0, 0)) := by
    have := heap_alloc_new (w.alloc (.cells (bA l) 77)) (.cells (uA s.list) 62)
    rwa [show (w.alloc (.cells (bA l) 77)).heap.size = w.heap.size + 1 by simp] at this
  have hKp : Keep (fun i => i = sb) w ((w.alloc (.cells (bA l) 77)).alloc (.cells (uA s.list) 62)) := ((Keep.refl _ w).alloc _).alloc _
  have hSb : ((w.alloc (.cells (bA l) 77)).alloc (.cells (uA s.list) 62)).heap[sb]? = some (.cells (uA s.list) 69 (0, 0)) := by
    have := lt_of_heap HS.out
    rw [Below.heap_alloc _ _ _ (by simp; omega), Below.heap_alloc _ _ _ this]; exact HS.out
  have hKT : KT ((w.alloc (.cells (bA l) 77)).alloc (.cells (uA s.list) 62)) := HK.out.keep (((Keep.refl (fun _ => False) w).alloc _).alloc _) (fun h => h)
  obtain ⟨wv, hwv⟩ : ∃ wv, wv = (w.alloc (.cells (bA l) 77)).alloc (.cells (uA s.list) 62) := ⟨_, rfl⟩
  rw [← hwv] at hW0 hW1 hKp hSb hKT ⊢
  have c0 : wv.cell? ⟨w.heap.size + 1, 0, none⟩ = some (u s.a) := by rw [cell_of_cells hW1]; rfl
  have c1 : wv.cell? ⟨w.heap.size + 1, 1, none⟩ = some (u s.b) := by rw [cell_of_cells hW1]; rfl
  have c2 : wv.cell? ⟨w.heap.size + 1, 2, none⟩ = some (u s.c) := by rw [cell_of_cells hW1]; rfl
  have c3 : wv.cell? ⟨w.heap.size + 1, 3, none⟩ = some (u s.d) := by rw [cell_of_cells hW1]; rfl
  have c4 : wv.cell? ⟨w.heap.size + 1, 4, none⟩ = some (u s.e) := by rw [cell_of_cells hW1]; rfl
  have c5 : wv.cell? ⟨w.heap.size + 1, 5, none⟩ = some (u s.f) := by rw [cell_of_cells hW1]; rfl
  have c6 : wv.cell? ⟨w.heap.size + 1, 6, none⟩ = some (u s.g) := by rw [cell_of_cells hW1]; rfl
  have c7 : wv.cell? ⟨w.heap.size + 1, 7, none⟩ = some (u s.h) := by rw [cell_of_cells hW1]; rfl
  have H0 := Lib.hid hW0
  have HKp := Lib.hid hKp
  have HSb := Lib.hid hSb
  have HKT := Lib.hid hKT
  clear hwv hW0 hW1 hKp hSb hKT ld0 st0 HS HK
  refine wp_region_quiet_lit (by kernel_rfl) (by kernel_rfl) ?_
  repeat (go_big_quiet_step (fail))
  refine wpQuiet_nil ?_
  rintro _ ⟨nq, rfl⟩
  clear c0 c1 c2 c3 c4 c5 c6 c7
  have hD : Drawn wv (wv.drewN nq) := (Drawn.refl wv).drewN nq
  obtain ⟨wq, hwq⟩ : ∃ wq, wq = wv.drewN nq := ⟨_, rfl⟩
  rw [← hwq] at hD ⊢
  have ld1 : ldA 77 wq (.pointer (some ⟨w.heap.size, 0, none⟩)) = .ok (.value (.agg (bA l))) wq := ldA_row (t' := 77) (fr := (0, 0)) (by rw [hD.heap]; exact H0.out) Tryd.underlying77 (by rw [bA_size, HL.out]; exact info56)
  have HD := Lib.hid hD
  clear hwq hD
  go_wp2_with fail
  refine (psched_f l f wq HL.out (by show ∀ k, f k = _; rw [HF.out]; exact fun _ => rfl)).mono ?_
  rintro e w5 ⟨rfl, hb5⟩
  have HSb5 : Hid (w5.heap[sb]? = some (.cells (uA s.list) 69 (0, 0))) := by
    show _ = _
    rw [hb5.block sb (by rw [HD.out.heap]; exact lt_of_heap HSb.out), HD.out.heap]; exact HSb.out
  have HKp5 : Hid (Keep (fun i => i = sb) w w5) := (HKp.out.trans (HD.out.keep _)).trans (Keep.of_below hb5)
  have HKT5 : Hid (KT w5) := (HKT.out.keep (HD.out.keep (fun _ => False)) (fun h => h)).keep (Keep.of_below (L := fun _ => False) hb5) (fun h => h)
  obtain ⟨Wl, hWl⟩ : ∃ Wl, Wl = sched f := ⟨_, rfl⟩
  rw [← hWl]
  have HWl := Lib.hid hWl
  have HWll : Hid (Wl.length = 64) := by show _ = _; rw [hWl, sched_len]
  clear hb5 hWl ld1 HD H0 HKp HSb HKT
  go_wp2_with fail
  go_loopg [5, 6, 7, 8, 9, 10, 11, 12, 41] 64 (fun gg a b c d e f' g h i wr => ∃ t : Nat, i = .int .i64 t ∧ t ≤ 64 ∧ 64 - t = gg ∧ a = u (rounds s Wl t).a ∧ b = u (rounds s Wl t).b ∧ c = u (rounds s Wl t).c ∧ d = u (rounds s Wl t).d ∧ e = u (rounds s Wl t).e ∧ f' = u (rounds s Wl t).f ∧ g = u (rounds s Wl t).g ∧ h = u (rounds s Wl t).h ∧ Drawn w5 wr)
  case atStart => exact ⟨0, rfl, by omega, by omega, rfl, rfl, rfl, rfl, rfl, rfl, rfl, rfl, Drawn.refl _⟩
  case round =>
    obtain ⟨t, rfl, ht, rfl, rfl, rfl, rfl, rfl, rfl, rfl, rfl, rfl, hD⟩ := hrel
    obtain ⟨R, hR⟩ : ∃ R, R = rounds s Wl t := ⟨_, rfl⟩
    rw [← hR]
    have HR := Lib.hid hR
    have HD := Lib.hid hD
    clear hR hD
    by_cases htl : t < 64
    · have hd : decide ((t : Int) < 64) = true := by rw [decide_eq_true_eq]; omega
      have hix := fun w => idx58 Wl HWll.out t htl w
      have hkt : wr.cell? ⟨1, t, none⟩ = some (u (kTab.getD t 0)) := by rw [HD.out.cell]; exact HKT5.out t htl
      obtain ⟨KK, hKK⟩ : ∃ x, x = kTab.getD t 0 := ⟨_, rfl⟩
      obtain ⟨WW, hWW⟩ : ∃ x, x = Wl.getD t 0 := ⟨_, rfl⟩
      have HRn : Hid (rounds s Wl (t + 1) = R.rnd KK WW) := by show _ = _; rw [rounds, HR.out, hKK, hWW]
      rw [← hKK] at hkt
      simp only [← hWW] at hix
      have p1 : (0 : Int) ≤ (t : Int) := by omega
      have p2 : (t : Int) < 64 := by omega
      clear hKK hWW
      go_wp2_with fail
      refine wp_region_quiet_lit (by kernel_rfl) (by kernel_rfl) ?_
      iterate 2 (go_big_quiet_step (fail))
      go_big_quiet_step ((go_at_call 42; exact Calls.quiet_of_same (right_any _ 6 (by decide) _)))
      iterate 1 (go_big_quiet_step (fail))
      go_big_quiet_step ((go_at_call 42; exact Calls.quiet_of_same (right_any _ 11 (by decide) _)))
      iterate 2 (go_big_quiet_step (fail))
      go_big_quiet_step ((go_at_call 42; exact Calls.quiet_of_same (right_any _ 25 (by decide) _)))
      repeat (go_big_quiet_step (fail))
      refine wpQuiet_nil ?_
      rintro _ ⟨nq2, rfl⟩
      have HD2 : Hid (Drawn w5 (wr.drewN nq2)) := HD.out.drewN nq2
      clear hkt hix p1 p2
      go_wp2_with (go_at_call 42; (first | (with_reducible refine (right_any _ 2 (by decide) _).mono ?_) | (with_reducible refine (right_any _ 13 (by decide) _).mono ?_) | (with_reducible refine (right_any _ 22 (by decide) _).mono ?_)); rintro e w' ⟨rfl, rfl⟩)
      go_roundg (64 - (t + 1))
      case measure => omega
      case rel => exact ⟨t + 1, by go_num, by omega, rfl, by rw [HRn.out]; rfl, by rw [HRn.out]; rfl, by rw [HRn.out]; rfl, by rw [HRn.out]; rfl, by rw [HRn.out]; rfl, by rw [HRn.out]; rfl, by rw [HRn.out]; rfl, by rw [HRn.out]; rfl, HD2.out⟩
    · obtain rfl : t = 64 := by omega
      have hB : Hid ((s.add R) = blk s f) := by show _ = _; rw [blk, HR.out, HWl.out]
      have hrow : wr.heap[sb]? = some (.cells (uA (addl s R 0)) 69 (0, 0)) := by rw [HD.out.heap]; exact HSb5.out
      have hkp : Keep (fun i => i = sb) w wr := HKp5.out.trans (HD.out.keep _)
      have hbl := fun w => bld39 w R
      have HRow := Lib.hid hrow
      have HKeep := Lib.hid hkp
      clear hrow hkp HSb5 HKp5
      go_wp2_with fail
      clear hbl
      go_loopg [112] 8 (fun gg i wz => ∃ k : Nat, i = .int .i64 k ∧ k ≤ 8 ∧ 8 - k = gg ∧ wz.heap[sb]? = some (.cells (uA (addl s R k)) 69 (0, 0)) ∧ Keep (fun i => i = sb) w wz)
      case atStart => exact ⟨0, rfl, by omega, by omega, HRow.out, HKeep.out⟩
      case round =>
        obtain ⟨k, rfl, hk, rfl, hrow, hkp⟩ := hrel
        by_cases hlt : k < 8
        · have hd : decide ((k : Int) < 8) = true := by rw [decide_eq_true_eq]; omega
          have hix := fun w => idx39 R.list rfl k hlt w
          have hc : wr.cell? ⟨sb, k, none⟩ = some (u (s.list.getD k 0)) := by rw [cell_of_cells hrow, uA_at _ _ (by rw [addl_len]; omega), addl_at _ _ _ hlt]
          have hf : wr.frozen? ⟨sb, k, none⟩ = false := frozen_of_row wr _ _ _ _ hrow
          obtain ⟨XX, hXX⟩ : ∃ x, x = R.list.getD k 0 := ⟨_, rfl⟩
          obtain ⟨SS, hSS⟩ : ∃ x, x = s.list.getD k 0 := ⟨_, rfl⟩
          have HN : Hid ((wr.setCell ⟨sb, k, none⟩ (u (SS + XX))).heap[sb]? = some (.cells (uA (addl s R (k + 1))) 69 (0, 0))) := by
            show _ = _
            rw [set_row hrow, uA_set, hSS, hXX, addl_step s R k hlt]
          have HM : Hid (Keep (fun i => i = sb) w (wr.setCell ⟨sb, k, none⟩ (u (SS + XX)))) := hkp.step (Keep.cell _ _ _) fun i hi => .inl hi
          rw [← hSS] at hc
          simp only [← hXX] at hix
          have p1 : (0 : Int) ≤ (k : Int) := by omega
          have p2 : (k : Int) < 8 := by omega
          clear hXX hSS hrow hkp
          go_wp2_with fail
          refine wp_region_drawn_tail 11 (by kernel_rfl) (by kernel_rfl) ?_
          simp only [List.take_succ_cons, List.take_zero, List.drop_succ_cons, List.drop_zero]
          repeat (go_big_quiet_step (fail))
          refine wpQuiet_nil ?_
          rintro _ ⟨nq3, rfl⟩
          go_wp2_with fail
          go_roundg (8 - (k + 1))
          case measure => omega
          case rel => exact ⟨k + 1, by go_num, by omega, rfl, HN.out, HM.out.drewN nq3⟩
        · obtain rfl : k = 8 := by omega
          rw [addl_end, hB.out] at hrow
          have HN := Lib.hid hrow
          have HM := Lib.hid hkp
          clear hrow hkp
          go_wp2_with fail
          go_end0
          exact ⟨rfl, HN.out, HM.out⟩
theorem add_c (sb : Nat) (s : S8) (l : List UInt8) (w : World) (hl : l.length = 64) (hs : w.heap[sb]? = some (.cells (uA s.list) 69 (0, 0))) (hk : KT w) :
    Calls Tryd.prog 35 #[.pointer (some ⟨sb, 0, none⟩), .agg (bA l)] w fun e w' => e = .returned (.tuple #[]) ∧ w'.heap[sb]? = some (.cells (uA (blk s fun t => l.getD t 0).list) 69 (0, 0)) ∧ Keep (fun i => i = sb) w w' :=
  add_f sb s l _ w hl (show _ = _ from rfl) hs hk
end Go.Proofs.YtffgeoeoodogiaaDoor
