import Derived.Test.YtkejfdgmdjfdoaaGreatDoorM3
import Derived.Test.YtkejfdgmdjfdoaaGreatDoorGn
import Derived.Deep.MidRow
set_option linter.unusedSimpArgs false
set_option linter.unusedVariables false
set_option maxHeartbeats 4000000
set_option maxRecDepth 100000
namespace Go.Proofs.YtkejfdgmdjfdoaaGreatDoor.Bt
open Go.RowKit
def KeyIn (w : World) (b o : Nat) (k : Nat → Nat) : Prop := w.rangeAt b o (kc k).toList
theorem kc_len (k : Nat → Nat) : (kc k).toList.length = 32 := by rw [Array.length_toList, kc_size]
theorem KeyIn.ld {w : World} {b o : Nat} {k : Nat → Nat} (h : KeyIn w b o k) : ldKey w (.pointer (some ⟨b, o, none⟩)) = .ok (.value (.agg (kc k))) w := by
 unfold ldKey
 rw [Sem.run_bind, run_loadAt_mid (P := Tryz.prog) w b o 40 (kc k).toList (.array 32 5) h Tryz.underlying40 rfl (by rw [kc_len]; exact info23)]
 simp [Sem.run_pure, Result.andThen_ok]
theorem KeyIn.keep {w w' : World} {b o : Nat} {k : Nat → Nat} (h : KeyIn w b o k) (hk : ∀ j, w'.cell? ⟨b, j, none⟩ = w.cell? ⟨b, j, none⟩) : KeyIn w' b o k := fun j v hv => (hk _).trans (h j v hv)
theorem KeyIn.below {w w' : World} {b o B : Nat} {k : Nat → Nat} (h : KeyIn w b o k) (hb : Below B w w') (hB : b < B) : KeyIn w' b o k := h.keep fun _ => hb.cell hB
theorem KeyIn.at_ {w : World} {b o : Nat} {k : Nat → Nat} (h : KeyIn w b o k) {j : Nat} (hj : j < 32) : w.cell? ⟨b, o + j, none⟩ = some (.int .u8 (k j)) :=
 h j _ (by rw [Array.getElem?_toList]; exact kc_at k j hj)
theorem KeyIn.lt {w : World} {b o : Nat} {k : Nat → Nat} (h : KeyIn w b o k) : b < w.heap.size := World.block_lt_of_cell? _ _ (h.at_ (j := 0) (by decide))
def kof (l : List UInt8) (m : Nat) : Nat → Nat := fun j => if j < m then (l.getD j 0).toNat else 0
theorem kof_zero (l : List UInt8) : kof l 0 = kz := by funext j; simp [kof, kz]
theorem kof_step (l : List UInt8) (m : Nat) : upd (kof l m) m (l.getD m 0).toNat = kof l (m + 1) := by
 funext j
 unfold upd kof
 by_cases e : j = m
 ·subst e; simp
 ·by_cases h : j < m
  ·rw [if_neg e, if_pos h, if_pos (by omega)]
  ·rw [if_neg e, if_neg h, if_neg (by omega)]
theorem ba_key {w : World} {A : Option Addr} {l : List UInt8} (h : BA w A l) (hl : l.length = 32) : ∃ b o, A = some ⟨b, o, none⟩ ∧ KeyIn w b o (kof l 32) := by
 obtain ⟨x0, h0⟩ := get_some (show 0 < l.length by omega)
 obtain ⟨b, o, rfl, _⟩ := h 0 x0 h0
 refine ⟨b, o, rfl, fun j v hv => ?_⟩
 have hj : j < 32 := by
  rcases Nat.lt_or_ge j 32 with h | h
  ·exact h
  ·rw [List.getElem?_eq_none (by rw [kc_len]; exact h)] at hv; cases hv
 obtain ⟨x, hx⟩ := get_some (show j < l.length by omega)
 obtain ⟨b', o', e, hc⟩ := h j x hx
 simp only [Option.some.injEq, Addr.mk.injEq] at e
 obtain ⟨rfl, rfl, _⟩ := e
 rw [hc, ← hv, Array.getElem?_toList, kc_at _ j hj]
 simp [kof, hj, List.getD, hx]
theorem results_key_tmp {fn : Func} {p u : Tmp} (h : fn.results = #[.cell p 40, .tmp u]) (tmps : Array Value) (w : World) (g : Nat) (k : Nat → Nat) (v : Value)
  (hp : tmps.getD p undef = .pointer (some ⟨g, 0, none⟩)) (hv : tmps.getD u undef = v) (hg : KeyAt w g k) : (results fn tmps).run Tryz.prog w = .ok (.tuple #[.agg (kc k), v]) w := by
 have hl := run_loadVar_row (P := Tryz.prog) w g 40 40 (kc k) (0, 0) (.array 32 5) hg Tryz.underlying40 rfl (by rw [kc_size]; exact info23)
 rw [results_cell_tmp h, hp, hv]
 simp [asAddr, Sem.run_pure, Result.andThen, hl]
theorem of_no (A : Option Addr) (n c : Nat) (w : World) (hn : n ≠ 32) :
  Calls Tryz.prog 95 #[.slice A n c] w fun e w' => e = .returned (.tuple #[.agg (kc kz), .int .i64 2]) ∧ Below w.heap.size w w' := by
 have hd : ((n : Int) != 32) = true := by simp; omega
 go_enter Tryz.func95, Tryz.ntmps95
 go_wp2
 refine bodyPost_ret (v := .tuple #[.agg (kc kz), .int .i64 2]) ?_ rfl ⟨rfl, one_below _ _⟩
 exact results_key_tmp Tryz.results95 _ _ w.heap.size kz _ rfl rfl (KeyAt.one w kz)
theorem array_at (a : Addr) (n c : Nat) (h : 32 ≤ n) (w : World) : (Instr.arrayAt 40 (.slice (some a) n c)).run Tryz.prog w = .ok (.pointer (some a)) w := by
 have hn : ¬ n < 32 := by omega
 simp [Instr.arrayAt, Sem.run_bind, run_underlying Tryz.underlying40, Result.andThen, Sem.run_pure, hn]
theorem of_yes (A : Option Addr) (c : Nat) (l : List UInt8) (w : World) (hA : BA w A l) (hl : l.length = 32) :
  Calls Tryz.prog 95 #[.slice A l.length c] w fun e w' => e = .returned (.tuple #[.agg (kc (kof l 32)), .int .i64 0]) ∧ Below w.heap.size w w' := by
 obtain ⟨b, o, rfl, hk⟩ := ba_key hA hl
 rw [hl]
 have hb := hk.lt
 have la := (hk.below (one_below w (.cells (kc kz) 40)) hb).ld
 have HL := Lib.hid hl
 have hat := array_at ⟨b, o, none⟩ 32 c (Nat.le_refl _)
 clear hA hl hk
 go_enter Tryz.func95, Tryz.ntmps95
 go_wp2
 refine bodyPost_ret (v := .tuple #[.agg (kc (kof l 32)), .int .i64 0]) ?_ rfl ⟨rfl, one_below _ _⟩
 exact results_key_tmp Tryz.results95 _ _ w.heap.size (kof l 32) _ rfl rfl (KeyAt.one w _)
theorem rof_c (A : Option Addr) (c : Nat) (l : List UInt8) (w : World) (hA : BA w A l) (hl : l.length = 32) :
  Calls Tryz.prog 21 #[.slice A l.length c] w fun e w' => e = .returned (.agg (kc (kof l 32))) ∧ Below w.heap.size w w' := by
 rw [hl]
 have HL := Lib.hid hl
 clear hl
 have h0 : KeyAt ((w.alloc (.cells (kc kz) 40)).alloc (.cells (kc kz) 40)) (w.heap.size + 1) (kof l 0) := by rw [kof_zero]; exact KeyAt.two' w kz _
 go_enter Tryz.func21, Tryz.ntmps21
 go_wp2
 go_loopw [4] (fun i wr => ∃ m : Nat, i = .int .i64 m ∧ m ≤ 32 ∧ KeyAt wr w.heap.size kz ∧ KeyAt wr (w.heap.size + 1) (kof l m) ∧ Below w.heap.size w wr) (fun i _ => 32 - (intOf i).toNat)
 case atStart => exact ⟨0, rfl, by omega, KeyAt.two w kz _, h0, two_below _ _ _⟩
 case round =>
  obtain ⟨m, rfl, hm, KA, KB, hB⟩ := hrel
  have HB := Lib.hid hB
  clear hB h0
  by_cases hlt : m < 32
  ·obtain ⟨x, hx⟩ := get_some (show m < l.length by rw [HL.out]; exact hlt)
   obtain ⟨b, o, rfl, hc⟩ := (hA.below HB.out) m x hx
   have HX : Hid ((l.getD m 0).toNat = x.toNat) := by show (l.getD m 0).toNat = x.toNat; simp [List.getD, hx]
   have cb := KB.cell hlt
   have fb := KB.free m
   clear hx hA
   go_wp2
   go_roundw
   case rel =>
    refine ⟨m + 1, by go_num, by omega, KA.set_other (by omega) _ _, ?_, HB.out.setCell (by simp) _⟩
    have := KB.set m (l.getD m 0).toNat
    rwa [kof_step, HX.out] at this
   case measure => simp [intOf]; omega
  ·have st := KA.st (kof l m)
   have lb := KB.ld
   clear hA
   go_wp2
   refine bodyPost_ret (v := .agg (kc (kof l 32))) ?_ rfl ⟨rfl, below_row HB.out (by omega) _⟩
   have e : m = 32 := by omega
   subst e
   exact results_cell_row Tryz.results21 _ _ w.heap.size 40 _ (0, 0) _ rfl (KA.row _) Tryz.underlying40 rfl (by rw [kc_size]; exact info23)
end Go.Proofs.YtkejfdgmdjfdoaaGreatDoor.Bt
