/- A hasher by what its functions keep; 'alive' over that. -/
import Derived.Test.YtaggbmlkfdfjpaaDoorDw
namespace Go.Proofs.YtaggbmlkfdfjpaaDoor
open Go.RowKit

/-- A pointer to a block. -/
abbrev ptr (b : Nat) : Value := .pointer (some ⟨b, 0, none⟩)
/-- What is asked of a hasher: 'H w b n c': at block b lies one for n bits that was called c times. -/
structure HsC (H : World → Nat → Int → Nat → Prop) : Prop where
  keep : ∀ {L : Nat → Prop} {w w' : World} {b : Nat} {n : Int} {c : Nat}, H w b n c → Keep L w w' → ¬ L b → H w' b n c
  lt : ∀ {w : World} {b : Nat} {n : Int} {c : Nat}, H w b n c → b < w.heap.size
  new : ∀ (n : Int) (w : World), 0 ≤ n → n ≤ 256 → Calls Tryd.prog 9 #[.int .i64 n] w fun e w' => ∃ b, e = .returned (.tuple #[ptr b, .int .i64 0]) ∧ w.heap.size ≤ b ∧ H w' b n 0 ∧ Below w.heap.size w w'
  out : ∀ (n : Int) (w : World), n < 0 ∨ 256 < n → Calls Tryd.prog 9 #[.int .i64 n] w fun e w' => e = .returned (.tuple #[.pointer none, .int .i64 4]) ∧ Below w.heap.size w w'
  sum : ∀ (b : Nat) (n : Int) (c : Nat) (A : Option Addr) (l : List UInt8) (cap : Nat) (w : World), H w b n c → c ≤ 1000 → BA w A l → l.length ≤ cap → l.length ≤ 1000 → Vars w → Calls Tryd.prog 16 #[ptr b, .slice A l.length cap] w fun e w' => e = .returned (.agg (bA (digL n l))) ∧ H w' b n (c + 1) ∧ Keep (fun i => i = b) w w'
  bits : ∀ (b : Nat) (n : Int) (c : Nat) (w : World), H w b n c → Calls Tryd.prog 12 #[ptr b] w fun e w' => e = .returned (.int .i64 n) ∧ w = w'
  calls : ∀ (b : Nat) (n : Int) (c : Nat) (w : World), H w b n c → Calls Tryd.prog 13 #[ptr b] w fun e w' => e = .returned (.int .i64 (c : Int)) ∧ w = w'
  fork : ∀ (b : Nat) (n : Int) (c : Nat) (w : World), H w b n c → Calls Tryd.prog 19 #[ptr b] w fun e w' => ∃ b2, e = .returned (ptr b2) ∧ w.heap.size ≤ b2 ∧ H w' b2 n 0 ∧ Below w.heap.size w w'

def abc : List UInt8 := [97, 98, 99]
def d176 : List UInt8 := 176 :: List.replicate 31 0
def d240 : List UInt8 := 240 :: List.replicate 31 0
def d255 : List UInt8 := 255 :: 255 :: List.replicate 30 0
/-- A row of three bytes that is written out. -/
def wAbc (w : World) : World := w.alloc (.cells (bA abc) 5 (3, 3 + 1))
theorem wAbc_below (w : World) : Below w.heap.size w (wAbc w) := (Below.refl _ _).alloc (Nat.le_refl _) _
theorem wAbc_ba (w : World) : BA (wAbc w) (some ⟨w.heap.size, 0, none⟩) abc := BA_row (heap_alloc_new w _)
set_option maxHeartbeats 16000000 in
set_option maxRecDepth 100000 in
theorem alive_hs {H : World → Nat → Int → Nat → Prop} (hs : HsC H) (hc : CutC) : AliveC := fun w hv => by
  have kc := fun (w : World) (C : Array Value) (n c : Nat) => Lib.run_convert_bytes_const (P := Tryd.prog) w 34 5 C n c Tryd.underlying34 Tryd.underlying5
  have HV := Lib.hid hv
  have HS := Lib.hid hs
  have HC := Lib.hid hc
  clear hv hs hc
  go_enter Tryd.func11, Tryd.ntmps11
  go_wp2_with fail
  refine (HS.out.new 4 w (by decide) (by decide)).mono ?_
  rintro e w1 ⟨b1, rfl, hb1, hh1, hk1⟩
  have B1 := Lib.hid hk1
  have H1 := Lib.hid hh1
  have L1 := Lib.hid hb1
  clear hk1 hh1 hb1
  go_wp2_with fail
  refine (HS.out.new 0 w1 (by decide) (by decide)).mono ?_
  rintro e w2 ⟨b2, rfl, hb2, hh2, hk2⟩
  have B2 : Hid (Below w.heap.size w w2) := B1.out.trans (hk2.mono B1.out.size)
  have H2 := Lib.hid hh2
  have ne0 : b1 < b2 := Nat.lt_of_lt_of_le (HS.out.lt H1.out) hb2
  have H12 := Lib.hid (HS.out.keep H1.out (Keep.of_below (L := fun _ => False) hk2) fun h => h)
  have L2 := Lib.hid hb2
  clear hk2 hh2 hb2 H1 B1
  go_wp2_with fail
  refine (HS.out.sum b1 4 0 (some ⟨w2.heap.size, 0, none⟩) abc 3 (wAbc w2) (HS.out.keep H12.out (Keep.of_below (L := fun _ => False) (wAbc_below w2)) fun h => h) (by decide) (wAbc_ba w2) (by decide) (by decide) ((HV.out.below B2.out).below (wAbc_below w2))).mono ?_
  rintro e w3 ⟨rfl, h3, k3⟩
  rw [show digL 4 abc = d176 from dig_abc]
  have K3 : Keep (fun i => i = b1) w2 w3 := (Keep.of_below (wAbc_below w2)).trans k3
  have lt1 := HS.out.lt H12.out
  have lt2 := HS.out.lt H2.out
  have H3 := Lib.hid h3
  have ne : b1 ≠ b2 := by omega
  have H23 := Lib.hid (HS.out.keep H2.out K3 fun h => ne h.symm)
  have B3 : Hid (Below w.heap.size w w3) := B2.out.trans (K3.below (by have := B2.out.size; omega) fun i hi => by have := L1.out; omega)
  clear h3 k3
  have st := fun w => stA_new (t := 30) w (bA z26) (bA d176) (by rw [bA_size]; exact info26) (by rw [bA_size, bA_size]; rfl) (bA_one _)
  have z0 := bld_zero
  have z1 : ∀ w, bldA 30 w #[(0, .int .u8 240)] = .ok (.value (.agg (bA d240))) w := bld_240
  have z2 : ∀ w, bldA 30 w #[(0, .int .u8 176)] = .ok (.value (.agg (bA d176))) w := bld_176
  have z3 : ∀ w, bldA 30 w #[(0, .int .u8 255), (1, .int .u8 255)] = .ok (.value (.agg (bA d255))) w := bld_255
  go_wp2_with fail
  obtain ⟨w4, hw4⟩ : ∃ x, x = w3.alloc (.cells (bA d176) 30) := ⟨_, rfl⟩
  rw [← hw4]
  have bel4 : Below w3.heap.size w3 w4 := by rw [hw4]; exact (Below.refl _ _).alloc (Nat.le_refl _) _
  have R4 : w4.heap[w3.heap.size]? = some (.cells (bA d176) 30 (0, 0)) := by rw [hw4]; exact heap_alloc_last w3 _
  have B4 : Hid (Below w.heap.size w w4) := B3.out.trans (bel4.mono B3.out.size)
  have H4 := Lib.hid (HS.out.keep H3.out (Keep.of_below (L := fun _ => False) bel4) fun h => h)
  have H24 := Lib.hid (HS.out.keep H23.out (Keep.of_below (L := fun _ => False) bel4) fun h => h)
  have HR4 := Lib.hid R4
  clear hw4 bel4 R4 st
  have q0 := eq26 z26 rfl
  have q1 := eq26 d240 rfl
  have q2 := eq26 d176 rfl
  refine (HC.out d255 4 w4 rfl).mono ?_
  rintro e w5 ⟨rfl, k5⟩
  rw [show cutL 4 d255 = d240 from cut_255]
  have B5 : Hid (Below w.heap.size w w5) := B4.out.trans (k5.mono B4.out.size)
  have H5 := Lib.hid (HS.out.keep H4.out (Keep.of_below (L := fun _ => False) k5) fun h => h)
  have H25 := Lib.hid (HS.out.keep H24.out (Keep.of_below (L := fun _ => False) k5) fun h => h)
  have R5 := (Keep.of_below (L := fun _ => False) k5).heap HR4.out fun h => h
  have la : ldA 30 w5 (.pointer (some ⟨w3.heap.size, 0, none⟩)) = .ok (.value (.agg (bA d176))) w5 := ldA_row R5 Tryd.underlying30 (by rw [bA_size]; exact info26)
  clear k5 R5
  go_wp2_with fail
  refine (HS.out.sum b2 0 0 (some ⟨w5.heap.size, 0, none⟩) abc 3 (wAbc w5) (HS.out.keep H25.out (Keep.of_below (L := fun _ => False) (wAbc_below w5)) fun h => h) (by decide) (wAbc_ba w5) (by decide) (by decide) ((HV.out.below B5.out).below (wAbc_below w5))).mono ?_
  rintro e w6 ⟨rfl, h6, k6⟩
  rw [show digL 0 abc = z26 from dig_none _ (Int.le_refl _)]
  have K6 : Keep (fun i => i = b2) w5 w6 := (Keep.of_below (wAbc_below w5)).trans k6
  have H6 := Lib.hid (HS.out.keep H5.out K6 ne)
  have B6 : Hid (Below w.heap.size w w6) := B5.out.trans (K6.below (by have := B5.out.size; omega) fun i hi => by have := L1.out; omega)
  clear h6 k6
  go_wp2_with fail
  refine (HS.out.calls b1 4 1 w6 H6.out).mono ?_
  rintro e w7 ⟨rfl, rfl⟩
  go_wp2_with fail
  refine (HS.out.bits b1 4 1 w6 H6.out).mono ?_
  rintro e w7 ⟨rfl, rfl⟩
  go_wp2_with fail
  go_ret
  exact ⟨rfl, B6.out⟩
end Go.Proofs.YtaggbmlkfdfjpaaDoor
