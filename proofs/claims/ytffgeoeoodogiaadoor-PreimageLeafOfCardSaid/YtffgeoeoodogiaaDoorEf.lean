/- What the program's preimages keep; alive of layer 6 over it. -/
import Derived.Test.YtffgeoeoodogiaaDoorEp
import Derived.Test.YtffgeoeoodogiaaDoorLd
namespace Go.Proofs.YtffgeoeoodogiaaDoor
open Go.RowKit

/-- The law returned true, and what was there is as it was. -/
def Yes (W : World) (e : Ending) (w' : World) : Prop := e = .returned (.bool true) ∧ Below W.heap.size W w'
/-- Bytes were returned, n of them; what was there is as it was. -/
def RetN (w : World) (n : Nat) (l : List UInt8) (e : Ending) (w' : World) : Prop := ∃ A c, e = .returned (.slice A n c) ∧ l.length = n ∧ n ≤ c ∧ BA w' A l ∧ Below w.heap.size w w'
/-- What the program's functions keep. -/
structure Pre : Prop where
  leaf : ∀ (k d : List UInt8) (w : World), k.length = 32 → d.length = 32 → Calls Tryd.prog 10 #[.agg (bA (k ++ d))] w (RetN w 65 (leafL k d))
  node : ∀ (k d : List UInt8) (w : World), k.length = 32 → d.length = 32 → Calls Tryd.prog 12 #[.agg (bA k), .agg (bA d)] w (RetN w 65 (nodeL k d))
  val : ∀ (A : Option Addr) (c : Nat) (l : List UInt8) (w : World), BA w A l → l.length ≤ c → l.length ≤ 1000 → Calls Tryd.prog 14 #[.slice A l.length c] w (RetN w (l.length + 1) (valL l))
  empty : ∀ w : World, Calls Tryd.prog 16 #[] w (RetN w 1 emptyL)
  kind : ∀ (A : Option Addr) (c : Nat) (l : List UInt8) (w : World), BA w A l → l.length ≤ c → l.length ≤ maxLen → Calls Tryd.prog 15 #[.slice A l.length c] w fun e w' => e = .returned (.int .i64 (kindL l)) ∧ Below w.heap.size w w'
  splitLeaf : ∀ (A : Option Addr) (c : Nat) (l : List UInt8) (w : World), BA w A l → l.length ≤ c → l.length ≤ maxLen → Calls Tryd.prog 9 #[.slice A l.length c] w fun e w' =>
    e = .returned (.tuple #[.agg (bA (if kindL l = 0 then partL l 1 ++ partL l 33 else z64)), .bool (decide (kindL l = 0))]) ∧ Below w.heap.size w w'
  splitNode : ∀ (A : Option Addr) (c : Nat) (l : List UInt8) (w : World), BA w A l → l.length ≤ c → l.length ≤ maxLen → Calls Tryd.prog 11 #[.slice A l.length c] w fun e w' =>
    e = .returned (.tuple #[.agg (bA (if kindL l = 1 then partL l 1 else z26)), .agg (bA (if kindL l = 1 then partL l 33 else z26)), .bool (decide (kindL l = 1))]) ∧ Below w.heap.size w w'
theorem Pre.ofLeaf (hp : Pre) (k d : List UInt8) (hk : k.length = 32) (hd : d.length = 32) (A : Option Addr) (c : Nat) (w : World) (hA : BA w A (leafL k d)) (hc : 65 ≤ c) :
    Calls Tryd.prog 9 #[.slice A 65 c] w fun e w' => e = .returned (.tuple #[.agg (bA (k ++ d)), .bool true]) ∧ Below w.heap.size w w' := by
  have hl := leaf_len hk hd
  have := hp.splitLeaf A c (leafL k d) w hA (by omega) (by rw [hl]; unfold maxLen; omega)
  rwa [hl, if_pos (kind_leaf hk hd), decide_eq_true (kind_leaf hk hd), part_leaf1 d hk, part_leaf33 hk hd] at this
theorem Pre.ofNode (hp : Pre) (k d : List UInt8) (hk : k.length = 32) (hd : d.length = 32) (A : Option Addr) (c : Nat) (w : World) (hA : BA w A (nodeL k d)) (hc : 65 ≤ c) :
    Calls Tryd.prog 11 #[.slice A 65 c] w fun e w' => e = .returned (.tuple #[.agg (bA k), .agg (bA d), .bool true]) ∧ Below w.heap.size w w' := by
  have hl := node_len hk hd
  have := hp.splitNode A c (nodeL k d) w hA (by omega) (by rw [hl]; unfold maxLen; omega)
  rwa [hl, if_pos (kind_node hk hd), if_pos (kind_node hk hd), decide_eq_true (kind_node hk hd), part_node1 d hk, part_node33 hk hd] at this
theorem Pre.noNode (hp : Pre) (k d : List UInt8) (hk : k.length = 32) (hd : d.length = 32) (A : Option Addr) (c : Nat) (w : World) (hA : BA w A (leafL k d)) (hc : 65 ≤ c) :
    Calls Tryd.prog 11 #[.slice A 65 c] w fun e w' => e = .returned (.tuple #[.agg (bA z26), .agg (bA z26), .bool false]) ∧ Below w.heap.size w w' := by
  have hl := leaf_len hk hd
  have hk0 := kind_leaf hk hd
  have := hp.splitNode A c (leafL k d) w hA (by omega) (by rw [hl]; unfold maxLen; omega)
  rwa [hl, if_neg (by omega), if_neg (by omega), decide_eq_false (by omega)] at this
/-- Same, the lengths by name. -/
theorem same_n (A B : Option Addr) (c d n m : Nat) (l r : List UInt8) (q : Bool) (w : World) (hl : l.length = n) (hr : r.length = m) (hq : decide (l = r) = q) (hA : BA w A l) (hB : BA w B r) (hn : n ≤ 1000000) (hm : m ≤ 1000000) :
    Calls Tryd.prog 13 #[.slice A n c, .slice B m d] w fun e w' => e = .returned (.bool q) ∧ Below w.heap.size w w' := by
  subst hl hr hq
  exact same_c A B c d l r w hA hB (by omega) (by omega)
def k5 : List UInt8 := 5 :: List.replicate 31 0
def d6 : List UInt8 := 6 :: List.replicate 31 0
def d1 : List UInt8 := 1 :: List.replicate 31 0
def d2 : List UInt8 := 2 :: List.replicate 31 0
def b27 : List UInt8 := [2, 7]
def b7 : List UInt8 := [7]
def b3 : List UInt8 := [3]
def b33 : List UInt8 := [3, 3]
theorem bldK5 (w : World) : bldA 23 w #[(0, .int .u8 5)] = .ok (.value (.agg (bA k5))) w := by kernel_rfl
theorem bldD6 (w : World) : bldA 31 w #[(0, .int .u8 6)] = .ok (.value (.agg (bA d6))) w := by kernel_rfl
theorem bldD1 (w : World) : bldA 31 w #[(0, .int .u8 1)] = .ok (.value (.agg (bA d1))) w := by kernel_rfl
theorem bldD2 (w : World) : bldA 31 w #[(0, .int .u8 2)] = .ok (.value (.agg (bA d2))) w := by kernel_rfl
theorem bldL56 (w : World) : bldA 33 w #[(0, .agg (bA k5)), (1, .agg (bA d6))] = .ok (.value (.agg (bA (k5 ++ d6)))) w := by kernel_rfl
theorem made_ba (w : World) (l : List UInt8) : BA (w.alloc (.cells (bA l) 5)) (some ⟨w.heap.size, 0, none⟩) l := BA_row (heap_alloc_new w _)
theorem made_bel {W w : World} (h : Below W.heap.size W w) (o : Obj) : Below W.heap.size W (w.alloc o) := h.alloc h.size o
theorem kind_b3 : kindL b3 = 3 := by decide
theorem kind_b33 : kindL b33 = -1 := by decide
def AliveC : Prop := ∀ w, Calls Tryd.prog 5 #[] w (Yes w)
/-- A row of bytes lies at block b, as a variable. -/
def RowB (w : World) (b : Nat) (t : TypeId) (l : List UInt8) : Prop := w.heap[b]? = some (.cells (bA l) t (0, 0))
theorem RowB.below {w w' : World} {b : Nat} {t : TypeId} {l : List UInt8} (h : RowB w b t l) (hb : Below w.heap.size w w') : RowB w' b t l := (Keep.of_below (L := fun _ => False) hb).heap h fun h => h
theorem RowB.alloc (w : World) (l : List UInt8) (t : TypeId) : RowB (w.alloc (.cells (bA l) t)) w.heap.size t l := heap_alloc_new w _
theorem RowB.ldLeaf {w : World} {b : Nat} {l : List UInt8} (h : RowB w b 33 l) (hl : l.length = 64) : ldA 33 w (.pointer (some ⟨b, 0, none⟩)) = .ok (.value (.agg (bA l))) w := by
  unfold ldA
  simp only [Instr.loadAt, Instr.sureAddr, Sem.run_bind, Sem.run_pure, Result.andThen_ok]
  rw [run_loadVar_row (P := Tryd.prog) w b 33 33 (bA l) (0, 0) _ h Tryd.underlying33 rfl (by rw [bA_size, hl]; exact infoLeaf)]
  rfl
theorem RowB.ldDig {w : World} {b : Nat} {t : TypeId} {l : List UInt8} (h : RowB w b t l) (hl : l.length = 32) : ldA 31 w (.pointer (some ⟨b, 0, none⟩)) = .ok (.value (.agg (bA l))) w :=
  ldA_row h Tryd.underlying31 (by rw [bA_size, hl]; exact info26)
theorem keeps {W w w' : World} (h : Below W.heap.size W w) (hb : Below w.heap.size w w') : Below W.heap.size W w' := h.trans (hb.mono h.size)
def l56 : List UInt8 := k5 ++ d6
theorem len56' : l56.length = 64 := rfl
set_option maxHeartbeats 16000000 in
set_option maxRecDepth 100000 in
theorem alive_pre (hp : Pre) : AliveC := fun w => by
  have HP := Lib.hid hp
  have z1 := bldK5
  have z2 := bldD6
  have z3 : ∀ w, bldA 33 w #[(0, .agg (bA k5)), (1, .agg (bA d6))] = .ok (.value (.agg (bA l56))) w := bldL56
  have z4 := bldD1
  have z5 := bldD2
  have st := fun w => stA_new (t := 33) w (bA z64) (bA l56) (by rw [bA_size]; exact infoLeaf) (by rw [bA_size, bA_size]; rfl) (bA_one _)
  have R0 : RowB (w.alloc (.cells (bA l56) 33)) w.heap.size 33 l56 := RowB.alloc w l56 _
  have la := R0.ldLeaf rfl
  have HR0 := Lib.hid R0
  have HB0 : Hid (Below w.heap.size w (w.alloc (.cells (bA l56) 33))) := (Below.refl _ _).alloc (Nat.le_refl _) _
  clear hp R0
  go_enter Tryd.func5, Tryd.ntmps5
  go_wp2_with fail
  clear la
  refine (HP.out.leaf k5 d6 _ rfl rfl).mono ?_
  rintro e w2 ⟨A1, c1, rfl, _, hc1, hA1, hb⟩
  have HB2 := Lib.hid (keeps HB0.out hb)
  have HR2 := Lib.hid (HR0.out.below hb)
  clear hb HB0 HR0
  go_wp2_with fail
  refine (HP.out.ofLeaf k5 d6 rfl rfl A1 c1 w2 hA1 hc1).mono ?_
  rintro e w3 ⟨rfl, hb⟩
  rw [show k5 ++ d6 = l56 from rfl]
  have HB3 := Lib.hid (keeps HB2.out hb)
  have HR3 := Lib.hid (HR2.out.below hb)
  clear hb HB2 HR2 hA1 hc1
  go_wp2_with fail
  have K3 := RowB.alloc w3 l56 33
  have B3' : Below w3.heap.size w3 (w3.alloc (.cells (bA l56) 33)) := (Below.refl _ _).alloc (Nat.le_refl _) _
  refine (HP.out.node d1 d2 _ rfl rfl).mono ?_
  rintro e w4 ⟨A2, c2, rfl, _, hc2, hA2, hb⟩
  have HB4 := Lib.hid (keeps (keeps HB3.out B3') hb)
  have HR4 := Lib.hid ((HR3.out.below B3').below hb)
  have HM4 := Lib.hid (K3.below hb)
  clear hb HB3 HR3 K3 B3' st
  go_wp2_with fail
  refine (HP.out.ofNode d1 d2 rfl rfl A2 c2 w4 hA2 hc2).mono ?_
  rintro e w5 ⟨rfl, hb⟩
  have HB5 := Lib.hid (keeps HB4.out hb)
  have HR5 := Lib.hid (HR4.out.below hb)
  have HM5 := Lib.hid (HM4.out.below hb)
  clear hb HB4 HR4 HM4 hA2 hc2
  have s1 := fun w o => stA_old (t := 31) w o (bA z26) (bA d1) (by rw [bA_size]; exact info26) (by rw [bA_size, bA_size]; rfl) (bA_one _)
  have s2 := fun w o => stA_two (t := 31) w o (bA z26) (bA d2) (by rw [bA_size]; exact info26) (by rw [bA_size, bA_size]; rfl) (bA_one _)
  obtain ⟨w6, hw6⟩ : ∃ x, x = (w5.alloc (.cells (bA d1) 31)).alloc (.cells (bA d2) 31) := ⟨_, rfl⟩
  have B56 : Below w5.heap.size w5 w6 := by rw [hw6]; exact ((Below.refl _ _).alloc (Nat.le_refl _) _).alloc (by simp) _
  have HA6 : Hid (RowB w6 w5.heap.size 31 d1) := by show RowB _ _ _ _; rw [hw6]; exact heap_alloc2_old w5 _ _
  have HD6 : Hid (RowB w6 (w5.heap.size + 1) 31 d2) := by show RowB _ _ _ _; rw [hw6]; exact heap_alloc2_new w5 _ _
  have HB6 := Lib.hid (keeps HB5.out B56)
  have HR6 := Lib.hid (HR5.out.below B56)
  have HM6 := Lib.hid (HM5.out.below B56)
  have HW6 := Lib.hid hw6
  clear hw6 B56 HB5 HR5 HM5
  go_wp2_with fail
  rw [← HW6.out]
  rw [show w5.heap.size + 1 + 1 = w6.heap.size by rw [HW6.out]; simp]
  clear s1 s2
  refine (HP.out.val (some ⟨w6.heap.size, 0, none⟩) 1 b7 (w6.alloc (.cells (bA b7) 5)) (made_ba w6 b7) (Nat.le_refl _) (by decide)).mono ?_
  rintro e w7 ⟨A3, c3, rfl, _, hc3, hA3, hb⟩
  have hb7 := keeps (made_bel (Below.refl _ w6) (.cells (bA b7) 5)) hb
  have HB7 := Lib.hid (keeps HB6.out hb7)
  have HA7 := Lib.hid (HA6.out.below hb7)
  have HD7 := Lib.hid (HD6.out.below hb7)
  have HR7 := Lib.hid (HR6.out.below hb7)
  have HM7 := Lib.hid (HM6.out.below hb7)
  clear HB6 HA6 HD6 HR6 HM6
  have HV := Lib.hid hA3
  clear hb hb7 hA3 HW6
  go_wp2_with fail
  refine (same_n A3 (some ⟨w7.heap.size, 0, none⟩) c3 2 2 2 (valL b7) b27 true (w7.alloc (.cells (bA b27) 5)) rfl rfl (by decide) (HV.out.below (made_bel (Below.refl _ w7) (.cells (bA b27) 5))) (made_ba w7 b27) (by decide) (by decide)).mono ?_
  rintro e w8 ⟨rfl, hb⟩
  have hb8 := keeps (made_bel (Below.refl _ w7) (.cells (bA b27) 5)) hb
  have HB8 := Lib.hid (keeps HB7.out hb8)
  have HA8 := Lib.hid (HA7.out.below hb8)
  have HD8 := Lib.hid (HD7.out.below hb8)
  have HR8 := Lib.hid (HR7.out.below hb8)
  have HM8 := Lib.hid (HM7.out.below hb8)
  clear HB7 HA7 HD7 HR7 HM7
  clear hb hb8 HV
  go_wp2_with fail
  refine (HP.out.kind (some ⟨w8.heap.size, 0, none⟩) 1 b3 (w8.alloc (.cells (bA b3) 5)) (made_ba w8 b3) (Nat.le_refl _) (by unfold maxLen; decide)).mono ?_
  rintro e w9 ⟨rfl, hb⟩
  rw [kind_b3]
  have hb9 := keeps (made_bel (Below.refl _ w8) (.cells (bA b3) 5)) hb
  have HB9 := Lib.hid (keeps HB8.out hb9)
  have HA9 := Lib.hid (HA8.out.below hb9)
  have HD9 := Lib.hid (HD8.out.below hb9)
  have HR9 := Lib.hid (HR8.out.below hb9)
  have HM9 := Lib.hid (HM8.out.below hb9)
  clear HB8 HA8 HD8 HR8 HM8
  clear hb hb9
  go_wp2_with fail
  refine (HP.out.kind (some ⟨w9.heap.size, 0, none⟩) 2 b33 (w9.alloc (.cells (bA b33) 5)) (made_ba w9 b33) (Nat.le_refl _) (by unfold maxLen; decide)).mono ?_
  rintro e w10 ⟨rfl, hb⟩
  rw [kind_b33]
  have hb10 := keeps (made_bel (Below.refl _ w9) (.cells (bA b33) 5)) hb
  have HB10 := Lib.hid (keeps HB9.out hb10)
  have HA10 := Lib.hid (HA9.out.below hb10)
  have HD10 := Lib.hid (HD9.out.below hb10)
  have HR10 := Lib.hid (HR9.out.below hb10)
  have HM10 := Lib.hid (HM9.out.below hb10)
  clear HB9 HA9 HD9 HR9 HM9
  clear hb hb10
  go_wp2_with fail
  refine (HP.out.empty w10).mono ?_
  rintro e w11 ⟨A4, c4, rfl, _, hc4, hA4, hb11⟩
  have HB11 := Lib.hid (keeps HB10.out hb11)
  have HA11 := Lib.hid (HA10.out.below hb11)
  have HD11 := Lib.hid (HD10.out.below hb11)
  have HR11 := Lib.hid (HR10.out.below hb11)
  have HM11 := Lib.hid (HM10.out.below hb11)
  clear HB10 HA10 HD10 HR10 HM10
  have HV := Lib.hid hA4
  clear hb11 hA4
  go_wp2_with fail
  refine (same_n A4 (some ⟨w11.heap.size, 0, none⟩) c4 1 1 1 emptyL b3 true (w11.alloc (.cells (bA b3) 5)) rfl rfl (by decide) (HV.out.below (made_bel (Below.refl _ w11) (.cells (bA b3) 5))) (made_ba w11 b3) (by decide) (by decide)).mono ?_
  rintro e w12 ⟨rfl, hb⟩
  have hb12 := keeps (made_bel (Below.refl _ w11) (.cells (bA b3) 5)) hb
  have HB12 := Lib.hid (keeps HB11.out hb12)
  have HA12 := Lib.hid (HA11.out.below hb12)
  have HD12 := Lib.hid (HD11.out.below hb12)
  have HR12 := Lib.hid (HR11.out.below hb12)
  have HM12 := Lib.hid (HM11.out.below hb12)
  clear HB11 HA11 HD11 HR11 HM11
  clear hb hb12 HV
  have la1 := HR12.out.ldLeaf rfl
  have la2 := HM12.out.ldLeaf rfl
  have la3 := HA12.out.ldDig rfl
  have la4 := HD12.out.ldDig rfl
  have q1 : ∀ x y w, eqA .eql 33 x y w (.agg (bA l56)) (.agg (bA l56)) = .ok (.value (.bool true)) w := fun x y w => by rw [eqLeaf l56 l56 rfl rfl, decide_eq_true rfl]
  have q2 : ∀ x y w, eqA .eql 31 x y w (.agg (bA d1)) (.agg (bA d1)) = .ok (.value (.bool true)) w := fun x y w => by rw [eqDig d1 d1 rfl rfl, decide_eq_true rfl]
  have q3 : ∀ x y w, eqA .eql 31 x y w (.agg (bA d2)) (.agg (bA d2)) = .ok (.value (.bool true)) w := fun x y w => by rw [eqDig d2 d2 rfl rfl, decide_eq_true rfl]
  go_wp2_with fail
  go_ret
  exact ⟨rfl, HB12.out⟩
end Go.Proofs.YtffgeoeoodogiaaDoor
