/- Laws of layer 5 whose walks ask little of the hasher. -/
import Derived.Test.YtaggbmlkfdfjpaaDoorDc
import Derived.Test.YtaggbmlkfdfjpaaDoorMa
namespace Go.Proofs.YtaggbmlkfdfjpaaDoor
open Go.RowKit

/-- The law returned true, and what was there is as it was. -/
def Yes (W : World) (e : Ending) (w' : World) : Prop := e = .returned (.bool true) ∧ Below W.heap.size W w'
/-- What 'alive' and Cut keep. -/
def AliveC : Prop := ∀ w, Vars w → Calls Tryd.prog 11 #[] w (Yes w)
def CutC : Prop := ∀ (l : List UInt8) (n : Int) (w : World), l.length = 32 → Calls Tryd.prog 14 #[.agg (bA l), .int .i64 n] w fun e w' => e = .returned (.agg (bA (cutL n l))) ∧ Below w.heap.size w w'

/-! ### DigestCuts -/
set_option maxHeartbeats 4000000 in
set_option maxRecDepth 100000 in
theorem cuts_w (ha : AliveC) (hc : CutC) (l : List UInt8) (hl : l.length = 32) (n m : Int) (W : World) (hv : Vars W) : Calls Tryd.prog 4 #[.agg (bA l), .int .i64 n, .int .i64 m] W (Yes W) := by
  have LD : Hid (∀ x : Later (W.alloc (.cells (bA l) 30)), ldA 30 x.w (.pointer (some ⟨W.heap.size, 0, none⟩)) = .ok (.value (.agg (bA l))) x.w) := fun x =>
    ldA_row (x.block (heap_alloc_last W _)) Tryd.underlying30 (by rw [bA_size, hl]; exact info26)
  have HA : Hid (∀ x : Later (W.alloc (.cells (bA l) 30)), Calls Tryd.prog 11 #[] x.w fun e w'' => e = .returned (.bool true) ∧ ∃ y : Later (W.alloc (.cells (bA l) 30)), w'' = y.w) := fun x =>
    Later.call (ha x.w ((hv.below ((Below.refl _ _).alloc (Nat.le_refl _) _)).below x.h))
  have HC : Hid (∀ (s : List UInt8) (i : Int) (x : Later (W.alloc (.cells (bA l) 30))), s.length = 32 → Calls Tryd.prog 14 #[.agg (bA s), .int .i64 i] x.w fun e w'' => e = .returned (.agg (bA (cutL i s))) ∧ ∃ y : Later (W.alloc (.cells (bA l) 30)), w'' = y.w) := fun s i x hs =>
    Later.call (hc s i x.w hs)
  have HR : Hid (∀ (x : Later (W.alloc (.cells (bA l) 30))), Calls Tryd.prog 15 #[.agg (bA l), .int .i64 n] x.w fun e w'' => e = .returned (.agg (bA (cutL n l))) ∧ ∃ y : Later (W.alloc (.cells (bA l) 30)), w'' = y.w) := fun x =>
    Later.call (rcut_c l hl n x.w)
  have HL := Lib.hid hl
  have q1 := eq26 (cutL n l) (cutL_len _ _)
  have q2 := eq26 (cutL m (cutL n l)) (cutL_len _ _)
  have hmin : cutL m (cutL n l) = cutL (if m < n then m else n) l := by rw [cut_cut]; congr 1; split <;> omega
  have q2 : ∀ w, (Op.equalIn 10000 30 (.agg (bA (cutL m (cutL n l)))) (.agg (bA (cutL (if m < n then m else n) l)))).run Tryd.prog w = .ok true w := fun w => by rw [← hmin]; exact q2 w
  clear hmin
  clear hl hv ha hc
  have la := LD.out
  go_enter Tryd.func4, Tryd.ntmps4
  go_wp2_with fail
  refine wp_region_later (by kernel_rfl) (by kernel_rfl) ?_
  have hlm : (cutL n l).length = 32 := cutL_len _ _
  have hl := HL.out
  repeat (go_big_quiet_step ((first
    | (go_at_call 11; exact HA.out _)
    | (go_at_call 15; exact HR.out _)
    | (go_at_call 14; exact HC.out _ _ _ (by assumption)))))
  refine wpQuiet_nil ?_
  rintro _ ⟨x, rfl⟩
  clear HA HC HR LD la q1 q2
  have HB := Lib.hid (((Below.refl W.heap.size W).alloc (Nat.le_refl _) (.cells (bA l) 30)).trans (x.h.mono (by simp)))
  go_wp2_with fail
  all_goals (go_ret; exact ⟨rfl, HB.out⟩)

/-! ### Digests that are written out -/
@[go_sem ↓] theorem execOp_build_dig (ρ : Operand → Value) (dst : Option Tmp) (parts : Array (Nat × Operand)) (type : TypeId) (pos : String) (after : Array Edge) (guard : Option (Nat × Bool)) (w : World) :
    Sem.run Tryd.prog (execOp ρ { dst, op := .build 30 parts, type, pos, after, guard }) w = bldA 30 w (parts.map fun x => (x.1, ρ x.2)) := rfl
theorem bld_zero (w : World) : bldA 30 w #[] = .ok (.value (.agg (bA z26))) w := by kernel_rfl
theorem bld_240 (w : World) : bldA 30 w #[(0, .int .u8 240)] = .ok (.value (.agg (bA (240 :: List.replicate 31 0)))) w := by kernel_rfl
theorem bld_176 (w : World) : bldA 30 w #[(0, .int .u8 176)] = .ok (.value (.agg (bA (176 :: List.replicate 31 0)))) w := by kernel_rfl
theorem bld_255 (w : World) : bldA 30 w #[(0, .int .u8 255), (1, .int .u8 255)] = .ok (.value (.agg (bA (255 :: 255 :: List.replicate 30 0)))) w := by kernel_rfl

/-! ### DigestNil -/
/-- What the methods answer for nil. -/
def NilC : Prop := ∀ w : World,
  (∀ (A : Option Addr) (l : List UInt8) (c : Nat), BA w A l → Calls Tryd.prog 16 #[.pointer none, .slice A l.length c] w fun e w' => e = .returned (.agg (bA z26)) ∧ Below w.heap.size w w') ∧
  (Calls Tryd.prog 12 #[.pointer none] w fun e w' => e = .returned (.int .i64 0) ∧ w = w') ∧
  (Calls Tryd.prog 13 #[.pointer none] w fun e w' => e = .returned (.int .i64 0) ∧ w = w') ∧
  (Calls Tryd.prog 19 #[.pointer none] w fun e w' => e = .returned (.pointer none) ∧ w = w')
set_option maxHeartbeats 4000000 in
set_option maxRecDepth 100000 in
theorem nil_w (ha : AliveC) (hn : NilC) (A : Option Addr) (c : Nat) (l : List UInt8) (W : World) (hA : BA W A l) (hv : Vars W) : Calls Tryd.prog 8 #[.slice A l.length c] W (Yes W) := by
  have HA := Lib.hid (ha W hv)
  have HN := Lib.hid hn
  have HBA := Lib.hid hA
  have q := eq26 z26 rfl
  have z := bld_zero
  clear ha hn hA hv
  go_enter Tryd.func8, Tryd.ntmps8
  go_wp2_with fail
  refine HA.out.mono ?_
  rintro e w1 ⟨rfl, hb1⟩
  have HB1 := Lib.hid hb1
  clear hb1
  go_wp2_with fail
  refine ((HN.out w1).1 A l c (HBA.out.below HB1.out)).mono ?_
  rintro e w2 ⟨rfl, hb2⟩
  have HB2 : Hid (Below W.heap.size W w2) := HB1.out.trans (hb2.mono HB1.out.size)
  clear hb2
  go_wp2_with fail
  refine (HN.out w2).2.1.mono ?_
  rintro e w3 ⟨rfl, rfl⟩
  go_wp2_with fail
  refine (HN.out w2).2.2.1.mono ?_
  rintro e w3 ⟨rfl, rfl⟩
  go_wp2_with fail
  refine (HN.out w2).2.2.2.mono ?_
  rintro e w3 ⟨rfl, rfl⟩
  go_wp2_with fail
  go_ret
  exact ⟨rfl, HB2.out⟩
end Go.Proofs.YtaggbmlkfdfjpaaDoor
