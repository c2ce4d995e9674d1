import Derived.Test.YtmfbhohjpkmllaaGreatDoorLM
import Derived.OwnWalk
import Derived.Laws.OwnMore
import Derived.Laws.MakeOwn
import Derived.Test.YtmfbhohjpkmllaaGreatDoorMD
namespace Go.Proofs.YtmfbhohjpkmllaaGreatDoor
set_option linter.unusedSimpArgs false
set_option linter.unusedVariables false
set_option maxHeartbeats 16000000
set_option maxRecDepth 100000
section
open Go.RowKit
def RetN (w : World) (n : Nat) (l : List UInt8) (e : Ending) (w' : World) : Prop := ∃ A c, e = .returned (.slice A n c) ∧ l.length = n ∧ n ≤ c ∧ BA w' A l ∧ Below w.heap.size w w'
theorem made_bel {W w : World} (h : Below W.heap.size W w) (o : Obj) : Below W.heap.size W (w.alloc o) := h.alloc h.size o
theorem pjoin_c (t : UInt8) (A : Option Addr) (c : Nat) (ls : List Pc) (w : World) (hA : SL w A ls) (hl : (catAll ls).length ≤ 1000000) (hls : ls.length ≤ 1000000) :
  Calls Tryz.prog 105 #[.int .u8 (t.toNat : Int), .slice A ls.length c] w fun e w' => ∃ v, e = .returned v ∧ OwnB w' w.heap.size v (t :: catAll ls) ∧ Below w.heap.size w w' := by
 have HA := Lib.hid hA
 obtain ⟨i0, hi, hz0, hz1, hz2⟩ := info_parts info5
 clear hA
 go_enter Tryz.func105, Tryz.ntmps105
 go_wp2_with fail
 go_loopg [5, 13] ls.length (fun gg n i wr => ∃ k : Nat, i = .int .i64 k ∧ k ≤ ls.length ∧ ls.length - k = gg ∧ n = .int .i64 (((cat ls k).length : Nat) + 1 : Int) ∧ Hid (wr = w))
 case atStart => exact ⟨0, rfl, by omega, by omega, rfl, rfl⟩
 case round =>
  obtain ⟨k, rfl, hkl, rfl, rfl, hW⟩ := hrel
  have hcl := cat_le ls k
  by_cases hlt : k < ls.length
  ·obtain ⟨x, hx⟩ : ∃ x, ls[k]? = some x := ⟨_, List.getElem?_eq_getElem hlt⟩
   obtain ⟨hxc, hxb, g, o, rfl, hcell⟩ := HA.out k x hx
   have hcs := cat_succ ls k x hx
   have hcl2 := cat_le ls (k + 1)
   have hlen : (cat ls (k + 1)).length = (cat ls k).length + x.l.length := by rw [hcs, List.length_append]
   have hcr : wr.cell? ⟨g, o + k, none⟩ = some (.slice x.A x.l.length x.c) := by rw [hW.out]; exact hcell
   have HLEN := Lib.hid hlen
   have b1 : (cat ls k).length + x.l.length ≤ 1000000 := by omega
   have hd : decide (k < ls.length) = true := decide_eq_true hlt
   have p0 : (0 : Int) ≤ (k : Int) := by omega
   have p1 : (k : Int) < (ls.length : Int) := by omega
   clear hx hcell hxb hcs hlen
   go_wp2_with fail
   go_roundg (ls.length - (k + 1))
   case measure => omega
   case rel => exact ⟨k + 1, by go_num, by omega, rfl, by rw [HLEN.out]; exact congrArg (Value.int .i64) (by push_cast; omega), hW⟩
  ·obtain rfl : k = ls.length := by omega
   have hd : decide (ls.length < ls.length) = false := decide_eq_false (by omega)
   obtain ⟨N, hN⟩ : ∃ N, N = (cat ls ls.length).length := ⟨_, rfl⟩
   rw [← hN]
   have hN2 : N ≤ 1000000 := by omega
   obtain rfl : w = wr := hW.out.symm
   clear hN hW
   go_wp2_with (first
    | (at_make; refine wpList_make_own _ rfl _ _ 66 rfl w.heap.size 5 i0 (.int .u8 0) 1 Tryz.underlying66 hi hz0 hz1 .i64 .i64 _ (N + 1) rfl rfl (by omega) (by rw [hz2]; omega) (by unfold maxLen; omega) (Nat.le_refl _) ?_; intro w0 hown hgrow; have h0 : Hid (OwnB w0 w.heap.size (.slice (some ⟨w.heap.size, 0, none⟩) 0 (N + 1)) []) := hown; have HB0 : Hid (Below w.heap.size w w0) := (Below.refl _ _).grown hgrow (Nat.le_refl _) (by intro k hk; cases hk); clear hown hgrow)
    | (at_builtin; refine wpList_pushB rfl _ _ rfl w.heap.size _ [] rfl (OwnB.below h0.out ((Below.refl _ _).alloc (Nat.le_refl _) _)) w0.heap.size t rfl (by simp; rfl) (by simp) (by have := HB0.out.size; simp; omega) ?_; intro v1 w1 hO1 hB1; have HO1 := Lib.hid hO1; have HB1 := Lib.hid ((HB0.out.alloc HB0.out.size _).trans hB1); clear hO1 hB1))
   go_loopg [8, 30] ls.length (fun gg v i wz => ∃ k : Nat, i = .int .i64 k ∧ k ≤ ls.length ∧ ls.length - k = gg ∧ OwnB wz w.heap.size v (t :: cat ls k) ∧ Below w.heap.size w wz)
   case atStart => exact ⟨0, rfl, by omega, by omega, HO1.out, HB1.out⟩
   case round =>
    clear HO1 HB1 h0 HB0
    obtain ⟨k, rfl, hkl, rfl, hO, hB⟩ := hrel
    have hcl := cat_le ls k
    have HO := Lib.hid hO
    have HB := Lib.hid hB
    clear hO hB
    by_cases hlt : k < ls.length
    ·obtain ⟨x, hx⟩ : ∃ x, ls[k]? = some x := ⟨_, List.getElem?_eq_getElem hlt⟩
     obtain ⟨hxc, hxb, g, o, rfl, hcell⟩ := HA.out k x hx
     have hcs := cat_succ ls k x hx
     have hcl2 := cat_le ls (k + 1)
     have hlen : (cat ls (k + 1)).length = (cat ls k).length + x.l.length := by rw [hcs, List.length_append]
     have hcr : wr.cell? ⟨g, o + k, none⟩ = some (.slice x.A x.l.length x.c) := (HB.out.cell (lt_of_cell hcell)).trans hcell
     have HXB := Lib.hid (hxb.below HB.out)
     have HCS := Lib.hid hcs
     have b1 : (cat ls k).length + x.l.length ≤ 1000000 := by omega
     have hd : decide (k < ls.length) = true := decide_eq_true hlt
     have p0 : (0 : Int) ≤ (k : Int) := by omega
     have p1 : (k : Int) < (ls.length : Int) := by omega
     clear hx hcell hxb hcs hlen
     go_wp2_with (at_builtin; refine wpList_catB1 rfl _ _ rfl w.heap.size _ (t :: cat ls k) rfl HO.out x.A x.c x.l rfl HXB.out (by rw [List.length_cons]; omega) HB.out.size ?_; intro v6 w6 hO6 hB6; have HO6 := Lib.hid hO6; have HB6 := Lib.hid (HB.out.trans hB6); clear hO6 hB6)
     go_roundg (ls.length - (k + 1))
     case measure => omega
     case rel => exact ⟨k + 1, by go_num, by omega, rfl, by rw [HCS.out]; exact HO6.out, HB6.out⟩
    ·obtain rfl : k = ls.length := by omega
     have hd : decide (ls.length < ls.length) = false := decide_eq_false (by omega)
     rw [cat_all] at HO
     go_wp2_with fail
     go_ret
     exact ⟨_, rfl, HO.out, HB.out⟩
end
section
open Go.RowKit
theorem sl_all {t n : Nat} (hu : Tryz.prog.underlying t = some (.array n 5)) (hn : Tryz.prog.arrayLen t = n) (he : Tryz.prog.elem t = 5) (_h0 : 0 < n) (g o : Nat) (w : World) :
  (Instr.sliceAt t (.pointer (some ⟨g, o, none⟩)) none none none).run Tryz.prog w = .ok (.slice (some ⟨g, o, none⟩) n n) w := by
 rw [run_sliceAt_array_all w t _ (by rw [hn, he]; exact hu), he, size5, hn]
 simp [slicedAt, add_none]
theorem sl_two {w : World} (A B : Option Addr) (k d : List UInt8) (t : TypeId) (hk : k.length = 32) (hd : d.length = 32) (h1 : BA w A k) (h2 : BA w B d) :
  SL (w.alloc (.cells #[.slice A 32 32, .slice B 32 32] t)) (some ⟨w.heap.size, 0, none⟩) [⟨A, k, 32⟩, ⟨B, d, 32⟩] := by
 have := sl_made w [⟨A, k, 32⟩, ⟨B, d, 32⟩] t fun x hx => by
  simp only [List.mem_cons, List.not_mem_nil, or_false] at hx
  rcases hx with rfl | rfl
  ·exact ⟨Nat.le_of_eq hk, h1⟩
  ·exact ⟨Nat.le_of_eq hd, h2⟩
 simpa only [List.map_cons, List.map_nil, Pc.val, hk, hd] using this
theorem cat_two (A B : Option Addr) (k d : List UInt8) : catAll [⟨A, k, 32⟩, ⟨B, d, 32⟩] = k ++ d := by simp [catAll]
theorem ret_own2 {W w' : World} {B : Nat} {v : Value} {n : Nat} {l : List UInt8} (hO : OwnB w' B v l) (hb : Below W.heap.size W w') (hn : l.length = n) : RetN W n l (.returned v) w' := by
 subst hn
 obtain ⟨A, c, rfl, h1, h2⟩ := hO.any
 exact ⟨A, c, rfl, rfl, h1, h2, hb⟩
theorem RowB.part {w : World} {b : Nat} {t : TypeId} {l p : List UInt8} (h : RowB w b t l) (o n : Nat) (hp : (l.drop o).take n = p) : BA w (some ⟨b, o, none⟩) p := fun j x hx => by
 refine ⟨b, o, rfl, ?_⟩
 rw [← hp, List.getElem?_take] at hx
 split at hx
 ·rw [List.getElem?_drop] at hx
  have hlt := (List.getElem?_eq_some_iff.1 hx).1
  rw [cell_of_cells h, bA_at _ _ hlt, List.getD_eq_getElem?_getD, hx]
  rfl
 ·cases hx
def RetO (w : World) (l : List UInt8) (e : Ending) (w' : World) : Prop := ∃ v, e = .returned v ∧ OwnB w' w.heap.size v l ∧ Below w.heap.size w w'
theorem pleaf_o (k d : List UInt8) (W : World) (hk : k.length = 32) (hd : d.length = 32) : Calls Tryz.prog 85 #[.agg (bA (k ++ d))] W (RetO W (leafL k d)) := by
 obtain ⟨X, hX⟩ : ∃ X, X = W.alloc (.cells (bA (k ++ d)) 57) := ⟨_, rfl⟩
 have HX := Lib.hid hX
 have HBX : Hid (Below W.heap.size W X) := by show Below _ _ _; rw [hX]; exact (Below.refl _ _).alloc (Nat.le_refl _) _
 have r0 : RowB X W.heap.size 57 (k ++ d) := by rw [hX]; exact heap_alloc_last W _
 have BK : Hid (BA X.drew (some ⟨W.heap.size, 0, none⟩) k) := RowB.part (w := X.drew) r0 0 32 (by rw [List.drop_zero, List.take_append_of_le_length (by omega), List.take_of_length_le (by omega)])
 have BD : Hid (BA X.drew (some ⟨W.heap.size, 32, none⟩) d) := RowB.part (w := X.drew) r0 32 32 (by rw [List.drop_append, List.drop_of_length_le (by omega), hk, List.nil_append, Nat.sub_self, List.drop_zero, List.take_of_length_le (by omega)])
 have HK := Lib.hid hk
 have HD := Lib.hid hd
 have s1 := fun w => sl_all (t := 39) Tryz.underlying39 (by kernel_rfl) (by kernel_rfl) (by decide) W.heap.size 0 w
 have s2 := fun w => sl_all (t := 45) Tryz.underlying45 (by kernel_rfl) (by kernel_rfl) (by decide) W.heap.size 32 w
 clear hX r0 hk hd
 go_enter Tryz.func85, Tryz.ntmps85
 go_wp2_with fail
 rw [← HX.out]
 refine wp_region_held_drew (S := fun w' => Below X.heap.size X w') (by kernel_rfl) ((Below.refl _ _).drew) (fun hHeld => ?_)
 have hb0 : Below X.heap.size X X.drew := (Below.refl _ _).drew
 refine x_t (i := 0) (oi := { dst := some 3, op := .fieldAddr _ (.tmp 1) 0, .. }) (v := ?_) rfl (Or.inl ⟨by rfl, ?_⟩) ?_
 rotate_left 1
 ·intro v hSv
  clear hSv
  go_simp
  try with_reducible rfl
 try simp only [Act.put, x_A, x_0, x_1]
 refine x_t (i := 1) (oi := { dst := some 4, op := .slice _ (.tmp 3) none none none, .. }) (v := ?_) rfl (Or.inl ⟨by rfl, ?_⟩) ?_
 rotate_left 1
 ·intro v hSv
  clear hSv
  go_simp
  try with_reducible rfl
 try simp only [Act.put, x_A, x_0, x_1]
 refine x_t (i := 2) (oi := { dst := some 5, op := .fieldAddr _ (.tmp 1) 1, .. }) (v := ?_) rfl (Or.inl ⟨by rfl, ?_⟩) ?_
 rotate_left 1
 ·intro v hSv
  clear hSv
  go_simp
  try with_reducible rfl
 try simp only [Act.put, x_A, x_0, x_1]
 refine x_t (i := 3) (oi := { dst := some 6, op := .slice _ (.tmp 5) none none none, .. }) (v := ?_) rfl (Or.inl ⟨by rfl, ?_⟩) ?_
 rotate_left 1
 ·intro v hSv
  clear hSv
  go_simp
  try with_reducible rfl
 try simp only [Act.put, x_A, x_0, x_1]
 refine wpAnyH_ready (rs := [4]) (by kernel_rfl) (by simp) ?_
 refine AllReadyH.cons (o := { dst := some 7, op := .buildSlice _ _ _, .. }) rfl (fun K hK => ?_) AllReadyH.nil
 go_simp
 refine hK.out _ _ (made_bel (hb0) _) (fun hHeld => ?_)
 clear hK K
 try simp only [Act.put, x_A, x_0, x_1]
 refine wpAnyH_ready (rs := [5]) (by kernel_rfl) (by simp) ?_
 refine AllReadyH.cons (o := { dst := some 8, op := .call _, .. }) rfl (fun K hK => ?_) AllReadyH.nil
 go_simp
 refine (pjoin_c 0 _ 2 [⟨some ⟨W.heap.size, 0, none⟩, k, 32⟩, ⟨some ⟨W.heap.size, 32, none⟩, d, 32⟩] _ (sl_two (some ⟨W.heap.size, 0, none⟩) (some ⟨W.heap.size, 32, none⟩) k d 66 HK.out HD.out BK.out BD.out) (by rw [cat_two, List.length_append, HK.out, HD.out]; decide) (show 2 ≤ 1000000 by decide)).mono ?_
 rintro e y1 ⟨v, rfl, hO, hb⟩
 have hb1 : Below X.heap.size X y1 := keeps (made_bel (hb0) _) hb
 rw [cat_two] at hO
 have HO := Lib.hid (hO.mono (show W.heap.size ≤ _ from (HBX.out.alloc HBX.out.size _).size))
 clear hO
 clear hb
 go_wp2_with fail
 refine hK.out _ _ (hb1) (fun hHeld => ?_)
 clear hK K
 try simp only [Act.put, x_A, x_0, x_1]
 refine x_t (i := 6) (oi := { dst := some 2, op := .assign (.tmp 8), .. }) (v := ?_) rfl (Or.inl ⟨by rfl, ?_⟩) ?_
 rotate_left 1
 ·intro v hSv
  clear hSv
  go_simp
  try with_reducible rfl
 try simp only [Act.put, x_A, x_0, x_1]
 refine wpAnyH_done (by kernel_rfl) ?_ _
 go_wp2_with fail
 go_ret
 exact ⟨_, rfl, HO.out, (keeps HBX.out (hb1))⟩
theorem pleaf_c (k d : List UInt8) (W : World) (hk : k.length = 32) (hd : d.length = 32) : Calls Tryz.prog 85 #[.agg (bA (k ++ d))] W (RetN W 65 (leafL k d)) := by
 refine (pleaf_o k d W hk hd).mono ?_
 rintro e w1 ⟨v, rfl, hO, hb⟩
 exact ret_own2 hO hb (leaf_len hk hd)
theorem pnode_o (k d : List UInt8) (W : World) (hk : k.length = 32) (hd : d.length = 32) : Calls Tryz.prog 79 #[.agg (bA k), .agg (bA d)] W (RetO W (nodeL k d)) := by
 obtain ⟨X, hX⟩ : ∃ X, X = (W.alloc (.cells (bA k) 45)).alloc (.cells (bA d) 45) := ⟨_, rfl⟩
 have HX := Lib.hid hX
 have HBX : Hid (Below W.heap.size W X) := by show Below _ _ _; rw [hX]; exact ((Below.refl _ _).alloc (Nat.le_refl _) _).alloc (by simp) _
 have r0 : RowB X W.heap.size 45 k := by rw [hX]; exact heap_alloc2_old W _ _
 have r1 : RowB X (W.heap.size + 1) 45 d := by rw [hX]; exact heap_alloc2_new W _ _
 have BK : Hid (BA X.drew (some ⟨W.heap.size, 0, none⟩) k) := BA_row (w := X.drew) r0
 have BD : Hid (BA X.drew (some ⟨W.heap.size + 1, 0, none⟩) d) := BA_row (w := X.drew) r1
 have HK := Lib.hid hk
 have HD := Lib.hid hd
 have s1 := fun w => sl_all (t := 45) Tryz.underlying45 (by kernel_rfl) (by kernel_rfl) (by decide) W.heap.size 0 w
 have s2 := fun w => sl_all (t := 45) Tryz.underlying45 (by kernel_rfl) (by kernel_rfl) (by decide) (W.heap.size + 1) 0 w
 clear hX r0 r1 hk hd
 go_enter Tryz.func79, Tryz.ntmps79
 go_wp2_with fail
 rw [← HX.out]
 refine wp_region_held_drew (S := fun w' => Below X.heap.size X w') (by kernel_rfl) ((Below.refl _ _).drew) (fun hHeld => ?_)
 have hb0 : Below X.heap.size X X.drew := (Below.refl _ _).drew
 refine x_t (i := 0) (oi := { dst := some 5, op := .slice _ (.tmp 2) none none none, .. }) (v := ?_) rfl (Or.inl ⟨by rfl, ?_⟩) ?_
 rotate_left 1
 ·intro v hSv
  clear hSv
  go_simp
  try with_reducible rfl
 try simp only [Act.put, x_A, x_0, x_1]
 refine x_t (i := 1) (oi := { dst := some 6, op := .slice _ (.tmp 3) none none none, .. }) (v := ?_) rfl (Or.inl ⟨by rfl, ?_⟩) ?_
 rotate_left 1
 ·intro v hSv
  clear hSv
  go_simp
  try with_reducible rfl
 try simp only [Act.put, x_A, x_0, x_1]
 refine wpAnyH_ready (rs := [2]) (by kernel_rfl) (by simp) ?_
 refine AllReadyH.cons (o := { dst := some 7, op := .buildSlice _ _ _, .. }) rfl (fun K hK => ?_) AllReadyH.nil
 go_simp
 refine hK.out _ _ (made_bel (hb0) _) (fun hHeld => ?_)
 clear hK K
 try simp only [Act.put, x_A, x_0, x_1]
 refine wpAnyH_ready (rs := [3]) (by kernel_rfl) (by simp) ?_
 refine AllReadyH.cons (o := { dst := some 8, op := .call _, .. }) rfl (fun K hK => ?_) AllReadyH.nil
 go_simp
 refine (pjoin_c 1 _ 2 [⟨some ⟨W.heap.size, 0, none⟩, k, 32⟩, ⟨some ⟨W.heap.size + 1, 0, none⟩, d, 32⟩] _ (sl_two (some ⟨W.heap.size, 0, none⟩) (some ⟨W.heap.size + 1, 0, none⟩) k d 66 HK.out HD.out BK.out BD.out) (by rw [cat_two, List.length_append, HK.out, HD.out]; decide) (show 2 ≤ 1000000 by decide)).mono ?_
 rintro e y1 ⟨v, rfl, hO, hb⟩
 have hb1 : Below X.heap.size X y1 := keeps (made_bel (hb0) _) hb
 rw [cat_two] at hO
 have HO := Lib.hid (hO.mono (show W.heap.size ≤ _ from (HBX.out.alloc HBX.out.size _).size))
 clear hO
 clear hb
 go_wp2_with fail
 refine hK.out _ _ (hb1) (fun hHeld => ?_)
 clear hK K
 try simp only [Act.put, x_A, x_0, x_1]
 refine x_t (i := 4) (oi := { dst := some 4, op := .assign (.tmp 8), .. }) (v := ?_) rfl (Or.inl ⟨by rfl, ?_⟩) ?_
 rotate_left 1
 ·intro v hSv
  clear hSv
  go_simp
  try with_reducible rfl
 try simp only [Act.put, x_A, x_0, x_1]
 refine wpAnyH_done (by kernel_rfl) ?_ _
 go_wp2_with fail
 go_ret
 exact ⟨_, rfl, HO.out, (keeps HBX.out (hb1))⟩
theorem pnode_c (k d : List UInt8) (W : World) (hk : k.length = 32) (hd : d.length = 32) : Calls Tryz.prog 79 #[.agg (bA k), .agg (bA d)] W (RetN W 65 (nodeL k d)) := by
 refine (pnode_o k d W hk hd).mono ?_
 rintro e w1 ⟨v, rfl, hO, hb⟩
 exact ret_own2 hO hb (node_len hk hd)
theorem pval_big (A : Option Addr) (c : Nat) (l : List UInt8) (W : World) (hA : BA W A l) (hc : l.length ≤ c) (hl : l.length ≤ 70000) : Calls Tryz.prog 106 #[.slice A l.length c] W (RetN W (l.length + 1) (valL l)) := by
 have hj := pjoin_c 2 _ 1 [⟨A, l, c⟩] _ (sl_one hA hc 66) (by simp [catAll]; omega) (by simp)
 rw [show catAll [⟨A, l, c⟩] = l by simp [catAll]] at hj
 have HJ := Lib.hid hj
 have HB0 : Hid (Below W.heap.size W (W.alloc (.cells #[.slice A l.length c] 66))) := (Below.refl _ _).alloc (Nat.le_refl _) _
 clear hj hA
 go_enter Tryz.func106, Tryz.ntmps106
 go_wp2_with fail
 refine HJ.out.mono ?_
 rintro e w2 ⟨v, rfl, hO, hb⟩
 have HB := Lib.hid (keeps HB0.out hb)
 have HO := Lib.hid hO
 clear hO hb
 go_wp2_with fail
 go_ret
 exact ret_own2 HO.out HB.out (val_len l)
theorem pempty_o (W : World) : Calls Tryz.prog 89 #[] W (RetO W (emptyL)) := by
 have HJ := Lib.hid (pjoin_c 3 none 0 [] W (fun i x hx => by simp at hx) (by simp [catAll]) (by simp))
 go_enter Tryz.func89, Tryz.ntmps89
 go_wp2_with fail
 refine HJ.out.mono ?_
 rintro e w2 ⟨v, rfl, hO, hb⟩
 have HB := Lib.hid hb
 have HO := Lib.hid hO
 clear hO hb
 go_wp2_with fail
 go_ret
 exact ⟨_, rfl, HO.out, HB.out⟩
theorem pempty_c (W : World) : Calls Tryz.prog 89 #[] W (RetN W 1 emptyL) := by
 refine (pempty_o W).mono ?_
 rintro e w1 ⟨v, rfl, hO, hb⟩
 exact ret_own2 hO hb rfl
end
section
open Go.RowKit
def LeafOfC : Prop := ∀ (b : Nat) (n : Int) (m : Nat) (k : List UInt8) (A : Option Addr) (c : Nat) (l : List UInt8) (w : World), Hs w b n m → m ≤ 1000000 → k.length = 32 → BA w A l → l.length ≤ c → l.length ≤ 1000 → Vars w →
 Calls Tryz.prog 84 #[ptr b, .agg (bA k), .slice A l.length c] w fun e w' => e = .returned (.agg (bA (k ++ digL n (valL l)))) ∧ Hs w' b n (m + 1) ∧ Keep (fun i => i = b) w w'
def LeafOfBig : Prop := ∀ (b : Nat) (n : Int) (m : Nat) (k : List UInt8) (A : Option Addr) (c : Nat) (l : List UInt8) (w : World), Hs w b n m → m ≤ 1000000 → k.length = 32 → BA w A l → l.length ≤ c → l.length ≤ 70000 → Vars w →
 Calls Tryz.prog 84 #[ptr b, .agg (bA k), .slice A l.length c] w fun e w' => e = .returned (.agg (bA (k ++ digL n (valL l)))) ∧ Hs w' b n (m + 1) ∧ Keep (fun i => i = b) w w'
theorem leafof_big : LeafOfBig := fun b n m k A c l W hh hm hk hA hc hl hv => by
 obtain ⟨g, hg⟩ : ∃ g, g = digL n (valL l) := ⟨_, rfl⟩
 have hgl : g.length = 32 := by rw [hg]; exact dig_len _ _
 have HG := Lib.hid hg
 have bl := bldLeaf k g hk hgl
 have HKG : Hid ((k ++ g).length = 64) := by show _ = _; rw [List.length_append, hk, hgl]
 rw [← hg]
 obtain ⟨X, hX⟩ : ∃ X, X = (W.alloc (.cells (bA k) 39)).alloc (.cells (bA z64) 57) := ⟨_, rfl⟩
 have HX := Lib.hid hX
 have hb : Below W.heap.size W X := by rw [hX]; exact ((Below.refl _ _).alloc (Nat.le_refl _) _).alloc (by simp) _
 have k0 : RowB X W.heap.size 39 k := by rw [hX]; exact heap_alloc2_old W _ _
 have r0 : RowB X (W.heap.size + 1) 57 z64 := by rw [hX]; exact heap_alloc2_new W _ _
 have hbl : b < W.heap.size := lt_of_heap hh
 have hvs := hh.vars hv
 have hvl := val_len l
 have LK : Hid (∀ w', Keep (fun i => i = b ∨ i = W.heap.size + 1) X w' → ldA 39 w' (.pointer (some ⟨W.heap.size, 0, none⟩)) = .ok (.value (.agg (bA k))) w') := fun w' h => (k0.keep h (by omega)).ldKey hk
 have HX0 : Hid (∀ w', Keep (fun i => i = b ∨ i = W.heap.size + 1) X w' → Keep (fun i => i = b) W w') := fun w' h => ⟨h.os.trans hb.os, h.tape.trans hb.tape, h.output.trans hb.output, Nat.le_trans hb.size h.size, fun i hi hl => (h.block i (Nat.lt_of_lt_of_le hi hb.size) (by omega)).trans (hb.block i hi)⟩
 have HBA : Hid (∀ w', Keep (fun i => i = b ∨ i = W.heap.size + 1) X w' → BA w' A l) := fun w' h => hh.ba hA (HX0.out w' h)
 have HVV : Hid (∀ w', Keep (fun i => i = b ∨ i = W.heap.size + 1) X w' → Vars w') := fun w' h => hv.keep (HX0.out w' h) (fun e => hvs.1 e.symm) (fun e => hvs.2 e.symm)
 have HV := Lib.hid (fun w h => pval_big A c l w h hc hl)
 have HRW : Hid (RowB X.drew (W.heap.size + 1) 57 z64) := r0
 have HH : Hid (Hs X.drew b n m) := hh.keep (Keep.of_below (L := fun _ => False) hb.drew) fun h => h
 clear hg hk hA hX hb k0 r0 hgl hvs hh hv
 unfold ptr
 go_enter Tryz.func84, Tryz.ntmps84
 go_wp2_with fail
 rw [← HX.out]
 clear HX
 refine wp_region_held_drew (S := fun w' => Keep (fun i => i = b ∨ i = W.heap.size + 1) X w') (by kernel_rfl) ((Keep.refl _ _).drew) (fun hHeld => ?_)
 have hb0 : Keep (fun i => i = b ∨ i = W.heap.size + 1) X X.drew := (Keep.refl _ _).drew
 refine x_t (i := 0) (oi := { dst := some 7, op := .load _ (.tmp 4), .. }) (v := ?_) rfl (Or.inl ⟨by rfl, ?_⟩) ?_
 rotate_left 1
 ·intro v hSv
  have hv1 := LK.out v hSv
  clear hSv
  go_simp
  try with_reducible rfl
 try simp only [Act.put, x_A, x_0, x_1]
 refine x_t (i := 1) (oi := { dst := some 8, op := .move (.tmp 0), .. }) (v := ?_) rfl (Or.inl ⟨by rfl, ?_⟩) ?_
 rotate_left 1
 ·intro v hSv
  clear hSv
  go_simp
  try with_reducible rfl
 try simp only [Act.put, x_A, x_0, x_1]
 refine x_t (i := 2) (oi := { dst := some 9, op := .move (.tmp 2), .. }) (v := ?_) rfl (Or.inl ⟨by rfl, ?_⟩) ?_
 rotate_left 1
 ·intro v hSv
  clear hSv
  go_simp
  try with_reducible rfl
 try simp only [Act.put, x_A, x_0, x_1]
 refine wpAnyH_ready (rs := [3]) (by kernel_rfl) (by simp) ?_
 refine AllReadyH.cons (o := { dst := some 10, op := .call _, .. }) rfl (fun K hK => ?_) AllReadyH.nil
 go_simp
 refine (HV.out _ (HBA.out _ (hb0))).mono ?_
 rintro e y1 ⟨A1, c1, rfl, hn1, hc1, hA1, hb⟩
 have hb1 : Keep (fun i => i = b ∨ i = W.heap.size + 1) X y1 := (hb0).trans (Keep.of_below hb)
 have HRW := Lib.hid (HRW.out.below hb)
 have HH1 := Lib.hid (HH.out.keep (Keep.of_below (L := fun _ => False) hb) fun h => h)
 rw [← hn1]
 clear hb
 go_wp2_with fail
 refine hK.out _ _ (hb1) (fun hHeld => ?_)
 clear hK K
 try simp only [Act.put, x_A, x_0, x_1]
 refine wpAnyH_ready (rs := [4]) (by kernel_rfl) (by simp) ?_
 refine AllReadyH.cons (o := { dst := some 11, op := .call _, .. }) rfl (fun K hK => ?_) AllReadyH.nil
 go_simp
 refine (sum_hs b n m A1 (valL l) c1 y1 HH1.out (by omega) hA1 (by omega) (by omega) (HVV.out _ hb1)).mono ?_
 rintro e y2 ⟨rfl, hh2, hb⟩
 have hb2 : Keep (fun i => i = b ∨ i = W.heap.size + 1) X y2 := (hb1).trans (hb.mono fun i hi => .inl hi)
 have HRW := Lib.hid (HRW.out.keep hb (by omega))
 have HHF : Hid (Hs (y2.setRow (W.heap.size + 1) (bA (k ++ g))) b n (m + 1)) := by
  show Hs _ _ _ _
  unfold Hs
  rw [setRow_other _ _ _ _ (by omega)]
  exact hh2
 clear hh2
 rw [← HG.out]
 clear hb
 go_wp2_with fail
 refine hK.out _ _ (hb2) (fun hHeld => ?_)
 clear hK K
 try simp only [Act.put, x_A, x_0, x_1]
 refine x_t (i := 5) (oi := { dst := some 12, op := .build _ #[(0, .tmp 7), (1, .tmp 11)], .. }) (v := ?_) rfl (Or.inl ⟨by rfl, ?_⟩) ?_
 rotate_left 1
 ·intro v hSv
  have hv1 := bl v
  clear hSv
  go_simp
  try with_reducible rfl
 try simp only [Act.put, x_A, x_0, x_1]
 refine wpAnyH_ready (rs := [6]) (by kernel_rfl) (by simp) ?_
 refine AllReadyH.cons (o := { dst := none, op := .store _ (.tmp 6) (.tmp 12), .. }) rfl (fun K hK => ?_) AllReadyH.nil
 have st1 : stA 57 y2 (.pointer (some ⟨W.heap.size + 1, 0, none⟩)) (.agg (bA (k ++ g))) = .ok .skip (y2.setRow (W.heap.size + 1) (bA (k ++ g))) := stA_row HRW.out (by rw [bA_size, HKG.out]; exact infoLeaf) (by rw [bA_size, bA_size, HKG.out]; rfl) (bA_one _)
 have HM := Lib.hid (setRow_heap y2 (W.heap.size + 1) _ (bA (k ++ g)) _ _ HRW.out)
 go_simp
 refine hK.out _ _ ((hb2).trans ((Keep.row y2 (W.heap.size + 1) _).mono fun i hi => .inr hi)) (fun hHeld => ?_)
 clear hK K
 try simp only [Act.put, x_A, x_0, x_1]
 refine wpAnyH_done (by kernel_rfl) ?_ _
 go_wp2_with fail
 refine bodyPost_ret (v := .agg (bA (k ++ g))) ?_ rfl ⟨rfl, HHF.out, HX0.out _ (((hb2).trans ((Keep.row y2 (W.heap.size + 1) _).mono fun i hi => .inr hi)))⟩
 exact results_cell_row Tryz.results84 _ _ (W.heap.size + 1) 57 _ (0, 0) _ rfl HM.out Tryz.underlying57 rfl (by rw [bA_size, HKG.out]; exact infoLeaf)
theorem leafof_c : LeafOfC := fun b n m k A c l w hh hm hk hA hc hl hv => leafof_big b n m k A c l w hh hm hk hA hc (by omega) hv
end
end Go.Proofs.YtmfbhohjpkmllaaGreatDoor
