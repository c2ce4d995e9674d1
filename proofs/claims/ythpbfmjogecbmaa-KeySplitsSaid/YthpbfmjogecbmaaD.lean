/- The contracts of Of: the program's and the reference's. -/
import Derived.Test.YthpbfmjogecbmaaC
namespace Go.Proofs.Ythpbfmjogecbmaa
open Go.RowKit

/-- The bytes of a list by place, as far as the first m. -/
def kof (l : List UInt8) (m : Nat) : Nat → Nat := fun j => if j < m then (l.getD j 0).toNat else 0
theorem kof_byt (l : List UInt8) (m : Nat) : Byt (kof l m) := fun j => by
  unfold kof
  split
  · exact (l.getD j 0).toNat_lt
  · decide
theorem kof_zero (l : List UInt8) : kof l 0 = kz := by funext j; simp [kof, kz]
theorem kof_step (l : List UInt8) (m : Nat) : upd (kof l m) m (l.getD m 0).toNat = kof l (m + 1) := by
  funext j
  unfold upd kof
  by_cases e : j = m
  · subst e; simp
  · by_cases h : j < m
    · rw [if_neg e, if_pos h, if_pos (by omega)]
    · rw [if_neg e, if_neg h, if_neg (by omega)]
theorem BA.key {w : World} {A : Option Addr} {l : List UInt8} (h : BA w A l) (hl : l.length = 32) : ∃ b o, A = some ⟨b, o, none⟩ ∧ KeyIn w b o (kof l 32) := by
  obtain ⟨x0, h0⟩ := get_some (show 0 < l.length by omega)
  obtain ⟨b, o, rfl, _⟩ := h 0 x0 h0
  refine ⟨b, o, rfl, fun j v hv => ?_⟩
  have hj : j < 32 := by
    rcases Nat.lt_or_ge j 32 with h | h
    · exact h
    · rw [List.getElem?_eq_none (by rw [kc_len]; exact h)] at hv; cases hv
  obtain ⟨x, hx⟩ := get_some (show j < l.length by omega)
  obtain ⟨b', o', e, hc⟩ := h j x hx
  simp only [Option.some.injEq, Addr.mk.injEq] at e
  obtain ⟨rfl, rfl, _⟩ := e
  rw [hc, ← hv, Array.getElem?_toList, kc_at _ j hj]
  simp [kof, hj, List.getD, hx]

theorem results_key_tmp {fn : Func} {p u : Tmp} (h : fn.results = #[.cell p 24, .tmp u]) (tmps : Array Value) (w : World) (g : Nat) (k : Nat → Nat) (v : Value)
    (hp : tmps.getD p undef = .pointer (some ⟨g, 0, none⟩)) (hv : tmps.getD u undef = v) (hg : KeyAt w g k) : (results fn tmps).run Try.prog w = .ok (.tuple #[.agg (kc k), v]) w := by
  have hl := run_loadVar_row (P := Try.prog) w g 24 24 (kc k) (0, 0) (.array 32 5) hg Try.underlying24 rfl (by rw [kc_size]; exact info23)
  rw [results_cell_tmp h, hp, hv]
  simp [asAddr, Sem.run_pure, Result.andThen, hl]

set_option maxHeartbeats 400000 in
theorem of_no (A : Option Addr) (n c : Nat) (w : World) (hn : n ≠ 32) :
    Calls Try.prog 9 #[.slice A n c] w fun e w' => e = .returned (.tuple #[.agg (kc kz), .int .i64 2]) ∧ Below w.heap.size w w' := by
  have hd : ((n : Int) != 32) = true := by simp; omega
  go_enter Try.func9, Try.ntmps9
  go_wp2
  refine bodyPost_ret (v := .tuple #[.agg (kc kz), .int .i64 2]) ?_ rfl ⟨rfl, one_below _ _⟩
  exact results_key_tmp Try.results9 _ _ w.heap.size kz _ rfl rfl (KeyAt.one w kz)

theorem array_at (a : Addr) (n c : Nat) (h : 32 ≤ n) (w : World) : (Instr.arrayAt 24 (.slice (some a) n c)).run Try.prog w = .ok (.pointer (some a)) w := by
  have hn : ¬ n < 32 := by omega
  simp [Instr.arrayAt, Sem.run_bind, run_underlying Try.underlying24, Result.andThen, Sem.run_pure, hn]
set_option maxHeartbeats 400000 in
theorem of_yes (A : Option Addr) (c : Nat) (l : List UInt8) (w : World) (hA : BA w A l) (hl : l.length = 32) :
    Calls Try.prog 9 #[.slice A l.length c] w fun e w' => e = .returned (.tuple #[.agg (kc (kof l 32)), .int .i64 0]) ∧ Below w.heap.size w w' := by
  obtain ⟨b, o, rfl, hk⟩ := hA.key hl
  rw [hl]
  have hb := hk.lt
  have la := (hk.below (one_below w (.cells (kc kz) 24)) hb).ld
  have HL := Lib.hid hl
  have hat := array_at ⟨b, o, none⟩ 32 c (Nat.le_refl _)
  clear hA hl hk
  go_enter Try.func9, Try.ntmps9
  go_wp2
  refine bodyPost_ret (v := .tuple #[.agg (kc (kof l 32)), .int .i64 0]) ?_ rfl ⟨rfl, one_below _ _⟩
  exact results_key_tmp Try.results9 _ _ w.heap.size (kof l 32) _ rfl rfl (KeyAt.one w _)

set_option maxHeartbeats 400000 in
theorem rof_c (A : Option Addr) (c : Nat) (l : List UInt8) (w : World) (hA : BA w A l) (hl : l.length = 32) :
    Calls Try.prog 11 #[.slice A l.length c] w fun e w' => e = .returned (.agg (kc (kof l 32))) ∧ Below w.heap.size w w' := by
  rw [hl]
  have HL := Lib.hid hl
  clear hl
  have h0 : KeyAt ((w.alloc (.cells (kc kz) 24)).alloc (.cells (kc kz) 24)) (w.heap.size + 1) (kof l 0) := by rw [kof_zero]; exact KeyAt.two' w kz _
  go_enter Try.func11, Try.ntmps11
  go_wp2
  go_loopw [4] (fun i wr => ∃ m : Nat, i = .int .i64 m ∧ m ≤ 32 ∧ KeyAt wr w.heap.size kz ∧ KeyAt wr (w.heap.size + 1) (kof l m) ∧ Below w.heap.size w wr) (fun i _ => 32 - (intOf i).toNat)
  case atStart => exact ⟨0, rfl, by omega, KeyAt.two w kz _, h0, two_below _ _ _⟩
  case round =>
    obtain ⟨m, rfl, hm, KA, KB, hB⟩ := hrel
    have HB := Lib.hid hB
    clear hB h0
    by_cases hlt : m < 32
    · obtain ⟨x, hx⟩ := get_some (show m < l.length by rw [HL.out]; exact hlt)
      obtain ⟨b, o, rfl, hc⟩ := (hA.below HB.out) m x hx
      have HX : Hid ((l.getD m 0).toNat = x.toNat) := by show (l.getD m 0).toNat = x.toNat; simp [List.getD, hx]
      have cb := KB.cell hlt
      have fb := KB.free m
      clear hx hA
      go_wp2
      go_roundw
      case rel =>
        refine ⟨m + 1, by go_num, by omega, KA.set_other (by omega) _ _, ?_, HB.out.setCell (by simp) _⟩
        have := KB.set m (l.getD m 0).toNat
        rwa [kof_step, HX.out] at this
      case measure => simp [intOf]; omega
    · have st := KA.st (kof l m)
      have lb := KB.ld
      clear hA
      go_wp2
      refine bodyPost_ret (v := .agg (kc (kof l 32))) ?_ rfl ⟨rfl, below_row HB.out (by omega) _⟩
      have e : m = 32 := by omega
      subst e
      exact results_cell_row Try.results11 _ _ w.heap.size 24 _ (0, 0) _ rfl (KA.row _) Try.underlying24 rfl (by rw [kc_size]; exact info23)
end Go.Proofs.Ythpbfmjogecbmaa
