import Derived.Test.YtmfbhohjpkmllaaGreatDoorTG
import Derived.Laws.Cover3
import Derived.BigQuiet
import Derived.Test.YtmfbhohjpkmllaaGreatDoorPS
import Derived.Test.YtmfbhohjpkmllaaGreatDoorMP
import Derived.Test.YtmfbhohjpkmllaaGreatDoorIF
import Derived.Test.YtmfbhohjpkmllaaGreatDoorMD
import Derived.Test.YtmfbhohjpkmllaaGreatDoorMR
import Derived.Test.YtmfbhohjpkmllaaGreatDoorIL
import Derived.Test.YtmfbhohjpkmllaaGreatDoorMT
import Derived.Test.YtmfbhohjpkmllaaGreatDoorMF
namespace Go.Proofs.YtmfbhohjpkmllaaGreatDoor
set_option linter.unusedSimpArgs false
set_option linter.unusedVariables false
set_option maxHeartbeats 16000000
set_option maxRecDepth 100000
section
open Go.RowKit
theorem results_row_tmp {fn : Func} {p u : Tmp} {ty : TypeId} (h : fn.results = #[.cell p ty, .tmp u]) (tmps : Array Value) (w : World) (g : Nat) (cs : Array Value) (v : Value)
  (hp : tmps.getD p undef = .pointer (some ⟨g, 0, none⟩)) (hv : tmps.getD u undef = v) (hl : (loadVar ty ⟨g, 0, none⟩).run Tryz.prog w = .ok (.agg cs) w) :
  (results fn tmps).run Tryz.prog w = .ok (.tuple #[.agg cs, v]) w := by
 have hp' : tmps[p]?.getD undef = .pointer (some ⟨g, 0, none⟩) := by simpa using hp
 have hv' : tmps[u]?.getD undef = v := by simpa using hv
 simp [results, h, hp', hv', asAddr, hl]
theorem varDig {w : World} {g : Nat} {t : TypeId} {fr : Nat × Nat} {l : List UInt8} (h : w.heap[g]? = some (.cells (bA l) t fr)) (hl : l.length = 32) : (loadVar 45 ⟨g, 0, none⟩).run Tryz.prog w = .ok (.agg (bA l)) w :=
 run_loadVar_row (P := Tryz.prog) w g t 45 (bA l) fr _ h Tryz.underlying45 rfl (by rw [bA_size, hl]; exact info26)
end
section
open Go.RowKit
def imgX (x : It) : List UInt8 := if x.k = 1 then 0 :: x.lf else emptyL
theorem img_leaf (n : Int) (x : It) : preM n (.leaf x) = imgX x := rfl
theorem imgX_len {x : It} (h : x.Ok) : 0 < (imgX x).length ∧ (imgX x).length ≤ 65 := by
 unfold imgX
 split
 ·simp [h.lf]
 ·decide
theorem image19_c (x : It) (g o : Nat) (w : World) (hx : x.Ok) (hr : w.rangeAt g o (itL x)) :
  Calls Tryz.prog 76 #[.agg #[.pointer (some ⟨g, o, none⟩)]] w (RetO w (imgX x)) := by
 obtain ⟨X, hX⟩ : ∃ X, X = w.alloc (.cells #[.pointer (some ⟨g, o, none⟩)] 138) := ⟨_, rfl⟩
 have hB : Below w.heap.size w X := by rw [hX]; exact Bt.one_below _ _
 have hrX := range_below hr hB
 have cp : X.cell? ⟨w.heap.size, 0, none⟩ = some (.pointer (some ⟨g, o, none⟩)) := by rw [hX, cell_of_cells (heap_alloc_new w _)]; rfl
 have ck := it_kind hrX
 have cl := it_leaf hrX hx
 have HX := Lib.hid hX
 have HB := Lib.hid hB
 by_cases hk : x.k = 1
 ·have hi : imgX x = leafL (x.lf.take 32) (x.lf.drop 32) := by unfold imgX leafL; rw [if_pos hk, List.take_append_drop]
  have HPL := Lib.hid (pleaf_o (x.lf.take 32) (x.lf.drop 32) X (by rw [List.length_take, hx.lf]; rfl) (by rw [List.length_drop, hx.lf]))
  rw [List.take_append_drop] at HPL
  rw [hi]
  rw [hk] at ck
  obtain ⟨q, hq⟩ : ∃ q, q = leafL (x.lf.take 32) (x.lf.drop 32) := ⟨_, rfl⟩
  rw [← hq] at HPL ⊢
  obtain ⟨lf, hlf⟩ : ∃ lf, lf = x.lf := ⟨_, rfl⟩
  rw [← hlf] at HPL cl
  rw [hX] at cp ck cl
  clear hX hB hrX hr hx hk hi hq hlf
  go_enter Tryz.func76, Tryz.ntmps76
  go_wp2_with fail
  rw [← HX.out]
  refine HPL.out.mono ?_
  rintro _ w1 ⟨v, rfl, hO, hb1⟩
  have HO := Lib.hid (hO.mono HB.out.size)
  have HB1 := Lib.hid (HB.out.trans (hb1.mono HB.out.size))
  clear hO hb1 HPL cp ck cl
  go_wp2_with fail
  go_ret
  exact ⟨v, rfl, HO.out, HB1.out⟩
 ·have hi : imgX x = emptyL := by unfold imgX; rw [if_neg hk]
  have HPL := Lib.hid (pempty_o X)
  rw [hi]
  obtain ⟨q, hq⟩ : ∃ q, q = emptyL := ⟨_, rfl⟩
  rw [← hq] at HPL ⊢
  obtain ⟨k, hk2⟩ : ∃ k, k = x.k := ⟨_, rfl⟩
  rw [← hk2] at ck hk
  have e1 : (k == 1) = false := by simpa using hk
  rw [hX] at cp ck
  clear hX hB hrX hr hx hk hi hq hk2 cl
  go_enter Tryz.func76, Tryz.ntmps76
  go_wp2_with fail
  rw [← HX.out]
  refine HPL.out.mono ?_
  rintro _ w1 ⟨v, rfl, hO, hb1⟩
  have HO := Lib.hid (hO.mono HB.out.size)
  have HB1 := Lib.hid (HB.out.trans (hb1.mono HB.out.size))
  clear hO hb1 HPL cp ck
  go_wp2_with fail
  go_ret
  exact ⟨v, rfl, HO.out, HB1.out⟩
def sumF : Mt → FuncId
 | .leaf _ => 147
 | .node _ _ _ => 148
theorem sub_meth {w : World} {t : Mt} {v : Value} (h : SubV w t v) : ∃ ty cs, v = .iface ty (.agg cs) ∧ (∀ w : World, (Go.method 307 ty (.agg cs) "sparsetree/multi.sum").run Tryz.prog w = .ok (sumF t, .agg cs) w) ∧ (∀ w : World, (nilAhead 307 ty (.agg cs) "sparsetree/multi.sum").run Tryz.prog w = .ok (some false) w) ∧
  (∀ (args : Array Value) (w : World), (callFunc (sumF t) args).run Tryz.prog w = .ok (.enter (sumF t) args) w) := by
 match t, h with
 | .leaf _, ⟨_, g, o, h, _⟩ => exact ⟨_, _, h, fun w => m_end _ w, fun w => na_end _ w, fun args w => by kernel_rfl⟩
 | .node _ _ _, ⟨_, _, h, _⟩ => exact ⟨_, _, h, fun w => m_inn _ w, fun w => na_inn _ w, fun args w => by kernel_rfl⟩
def SumC (n : Int) (t : Mt) : Prop := ∀ (w : World) (b m : Nat) (ty : TypeId) (cs : Array Value), Hs w b n m → m + t.flat.length ≤ 1000000 → Vars w → SubV w t (.iface ty (.agg cs)) →
 Calls Tryz.prog (sumF t) #[.agg cs, ptr b] w fun e w' => ∃ m', e = .returned (.agg (bA (digM n t))) ∧ m' ≤ m + t.flat.length ∧ Hs w' b n m' ∧ Keep (fun i => i = b) w w'
theorem sum_end (n : Int) (x : It) : SumC n (.leaf x) := fun w b m ty cs hh hm hv hs => by
 obtain ⟨hx, g, o, he, hr⟩ := hs
 obtain ⟨rfl, hcs⟩ : ty = 138 ∧ (.agg cs : Value) = .agg #[.pointer (some ⟨g, o, none⟩)] := by injection he with h1 h2; exact ⟨h1, h2⟩
 obtain rfl : cs = #[.pointer (some ⟨g, o, none⟩)] := by injection hcs
 obtain ⟨X1, hX1⟩ : ∃ X, X = w.alloc (.cells #[.pointer (some ⟨g, o, none⟩)] 138) := ⟨_, rfl⟩
 obtain ⟨X, hX⟩ : ∃ X, X = X1.alloc (.cells (bA z26) 45) := ⟨_, rfl⟩
 have hz1 : X1.heap.size = w.heap.size + 1 := by rw [hX1]; simp
 have hB1 : Below w.heap.size w X1 := by rw [hX1]; exact Bt.one_below _ _
 have hB : Below w.heap.size w X := by rw [hX]; exact hB1.alloc hB1.size _
 have hrX := range_below hr hB
 have hcX : X.heap[w.heap.size]? = some (.cells #[.pointer (some ⟨g, o, none⟩)] 138 (0, 0)) := by rw [hX, hX1]; exact heap_alloc2_old w _ _
 have cp : X.cell? ⟨w.heap.size, 0, none⟩ = some (.pointer (some ⟨g, o, none⟩)) := by rw [cell_of_cells hcX]; rfl
 have le := ldEnd hcX
 have ck := it_kind hrX
 have cd := it_dig hrX hx
 have hRX : RowB X (w.heap.size + 1) 45 z26 := by show _ = _; rw [hX, ← hz1]; exact heap_alloc_new X1 _
 have HXE : Hid (X = (w.alloc (.cells #[.pointer (some ⟨g, o, none⟩)] 138)).alloc (.cells (bA z26) 45)) := by show _ = _; rw [hX, hX1]
 have HB := Lib.hid hB
 have HHX := Lib.hid (hh.keep (Keep.of_below (L := fun _ => False) hB) id)
 have HVX := Lib.hid (hv.below hB)
 have HBN : Hid (b < w.heap.size) := lt_of_heap hh
 have HM : Hid (m + 1 ≤ 1000000) := hm
 have HRX := Lib.hid hRX
 have HXO := Lib.hid hx
 have HZX : Hid (w.heap.size + 2 ≤ X.heap.size) := by show _ ≤ _; rw [hX]; simp; omega
 by_cases hk : x.k = 3
 ·have HD : Hid (digM n (.leaf x) = x.d) := by show _ = _; rw [digM_leaf, if_pos hk]
  have st := stA_new (t := 45) X1 (bA z26) (bA x.d) (by rw [bA_size, hx.d]; exact info26) (by rw [bA_size, bA_size, hx.d]; rfl) (bA_one _)
  obtain ⟨Y, hY⟩ : ∃ Y, Y = X1.alloc (.cells (bA x.d) 45) := ⟨_, rfl⟩
  rw [← hY, hz1] at st
  have HMY : Hid (Y.heap[w.heap.size + 1]? = some (.cells (bA x.d) 45 (0, 0))) := by show _ = _; rw [hY, ← hz1]; exact heap_alloc_new _ _
  have hBY : Below w.heap.size w Y := by rw [hY]; exact hB1.alloc hB1.size _
  have HKY : Hid (Keep (fun i => i = b) w Y) := Keep.of_below hBY
  have HHY := Lib.hid (hh.keep (Keep.of_below (L := fun _ => False) hBY) id)
  rw [hk] at ck
  rw [hX, hX1] at cp ck cd
  rw [hX1] at st
  clear hX hX1 hz1 hB1 hB hrX hcX hRX hh hm hv hr he hcs hx hk le hY hBY
  unfold ptr
  show Calls _ 147 _ _ _
  go_enter Tryz.func147, Tryz.ntmps147
  go_wp2_with fail
  refine bodyPost_ret (v := .agg (bA x.d)) ?_ rfl ⟨m, by rw [HD.out], Nat.le_add_right _ _, HHY.out, HKY.out⟩
  exact results_cell_row Tryz.results147 _ _ (w.heap.size + 1) 45 _ (0, 0) _ rfl HMY.out Tryz.underlying45 rfl (by rw [bA_size, HXO.out.d]; exact info26)
 ·have HD : Hid (digM n (.leaf x) = digL n (imgX x)) := by show _ = _; rw [digM_leaf, if_neg hk]; rfl
  have HIM := Lib.hid (image19_c x g o X hx hrX)
  have HIL := Lib.hid (imgX_len hx)
  obtain ⟨k, hk2⟩ : ∃ k, k = x.k := ⟨_, rfl⟩
  rw [← hk2] at ck hk
  have e3 : (k == 3) = false := by simpa using hk
  rw [hX, hX1] at cp ck le
  obtain ⟨q, hq⟩ : ∃ q, q = imgX x := ⟨_, rfl⟩
  rw [← hq] at HIM HIL HD
  have HDL : Hid ((digL n q).length = 32) := dig_len _ _
  obtain ⟨D, hD⟩ : ∃ D, D = digL n q := ⟨_, rfl⟩
  rw [← hD] at HD HDL
  have HDE := Lib.hid hD
  clear hX hX1 hz1 hB1 hB hrX hcX hRX hh hm hv hr he hcs hx hk cd hk2 hq hD
  unfold ptr at *
  show Calls _ 147 _ _ _
  go_enter Tryz.func147, Tryz.ntmps147
  go_wp2_with fail
  rw [← HXE.out]
  refine HIM.out.mono ?_
  rintro _ w1 ⟨v, rfl, hO, hb1⟩
  obtain ⟨gq, cq, rfl, hcq, _, _, hba⟩ := hO.ba HIL.out.1
  have HH1 := Lib.hid (HHX.out.keep (Keep.of_below (L := fun _ => False) hb1) id)
  have HR1 := Lib.hid (HRX.out.keep (Keep.of_below (L := fun _ => False) hb1) id)
  have HB1 := Lib.hid (HB.out.trans (hb1.mono HB.out.size))
  have HSM := Lib.hid (sum_hs b n m (some ⟨gq, 0, none⟩) q cq w1 HH1.out (by have := HM.out; omega) hba hcq (by have := HIL.out.2; omega) (HVX.out.below hb1))
  unfold ptr at HSM
  rw [← HDE.out] at HSM
  obtain ⟨ql, hql⟩ : ∃ ql, ql = q.length := ⟨_, rfl⟩
  rw [← hql] at HSM ⊢
  clear hO hcq hba hb1 HIM HIL cp ck le hql
  go_wp2_with fail
  refine HSM.out.mono ?_
  rintro _ w2 ⟨rfl, hH2, hk2⟩
  have hR2 : RowB w2 (w.heap.size + 1) 45 z26 := HR1.out.keep hk2 (by have := HBN.out; show ¬ (_ = b); omega)
  have st := stA_row (t := 45) (v := bA D) hR2 (by rw [bA_size, HDL.out]; exact info26) (by rw [bA_size, bA_size, HDL.out]; rfl) (bA_one _)
  obtain ⟨Z, hZ⟩ : ∃ Z, Z = w2.setRow (w.heap.size + 1) (bA D) := ⟨_, rfl⟩
  rw [← hZ] at st
  have HRZ : Hid (RowB Z (w.heap.size + 1) 45 D) := by show Z.heap[w.heap.size + 1]? = _; rw [hZ]; exact setRow_heap _ _ _ _ _ _ hR2
  have hkZ : Keep (fun i => i = w.heap.size + 1) w2 Z := by rw [hZ]; exact Keep.row _ _ _
  have HHZ := Lib.hid (hH2.keep hkZ (by have := HBN.out; show ¬ (b = _); omega))
  have HKZ : Hid (Keep (fun i => i = b) w Z) := ((Keep.of_below (L := fun i => i = b) HB1.out).trans hk2).step hkZ fun i hi => .inr (by have e : i = w.heap.size + 1 := hi; omega)
  clear hR2 hZ hkZ hH2 hk2 HSM
  go_wp2_with fail
  refine bodyPost_ret (v := .agg (bA D)) ?_ rfl ⟨m + 1, by rw [HD.out], Nat.le_refl _, HHZ.out, HKZ.out⟩
  exact results_cell_row Tryz.results147 _ _ (w.heap.size + 1) 45 _ (0, 0) _ rfl HRZ.out Tryz.underlying45 rfl (by rw [bA_size, HDL.out]; exact info26)
theorem dig_len19 (n : Int) : ∀ {t : Mt} {v : Value} {w : World}, t.Shape → SubV w t v → (digM n t).length = 32
 | .leaf x, _, _, _, h => digM_len n _ h.1
 | .node x a b, _, _, hs, _ => by rw [digM_node n a b hs.1]; exact dig_len _ _
theorem sum_inner (n : Int) (x : It) (a c : Mt) (hsh : (Mt.node x a c).Shape) (ia : SumC n a) (ic : SumC n c) : SumC n (.node x a c) := fun w b m ty cs hh hm hv hs => by
 obtain ⟨u1, u2, he, hs1, hs2⟩ := hs
 obtain ⟨rfl, hcs⟩ : ty = 141 ∧ (.agg cs : Value) = .agg #[u1, u2] := by injection he with h1 h2; exact ⟨h1, h2⟩
 obtain rfl : cs = #[u1, u2] := by injection hcs
 have hl1 := dig_len19 n hsh.2.1 hs1
 have hl2 := dig_len19 n hsh.2.2 hs2
 obtain ⟨t1, c1, rfl, me1, na1, en1⟩ := sub_meth hs1
 obtain ⟨t2, c2, rfl, me2, na2, en2⟩ := sub_meth hs2
 obtain ⟨X1, hX1⟩ : ∃ X, X = w.alloc (.cells #[.iface t1 (.agg c1), .iface t2 (.agg c2)] 141) := ⟨_, rfl⟩
 obtain ⟨X, hX⟩ : ∃ X, X = X1.alloc (.cells (bA z26) 45) := ⟨_, rfl⟩
 have hz1 : X1.heap.size = w.heap.size + 1 := by rw [hX1]; simp
 have hB1 : Below w.heap.size w X1 := by rw [hX1]; exact Bt.one_below _ _
 have hB : Below w.heap.size w X := by rw [hX]; exact hB1.alloc hB1.size _
 have hcX : X.heap[w.heap.size]? = some (.cells #[.iface t1 (.agg c1), .iface t2 (.agg c2)] 141 (0, 0)) := by rw [hX, hX1]; exact heap_alloc2_old w _ _
 have hRX : RowB X (w.heap.size + 1) 45 z26 := by show _ = _; rw [hX, ← hz1]; exact heap_alloc_new X1 _
 have HXE : Hid (X = (w.alloc (.cells #[.iface t1 (.agg c1), .iface t2 (.agg c2)] 141)).alloc (.cells (bA z26) 45)) := by show _ = _; rw [hX, hX1]
 have HBN : Hid (b < w.heap.size) := lt_of_heap hh
 have HB := Lib.hid hB
 have HHX := Lib.hid (hh.keep (Keep.of_below (L := fun _ => False) hB) id)
 have HVX := Lib.hid (hv.below hB)
 have HRX := Lib.hid hRX
 have hlf : (Mt.node x a c).flat.length = 1 + a.flat.length + c.flat.length := by simp [Mt.flat]; omega
 have HM : Hid (m + 1 + a.flat.length + c.flat.length ≤ 1000000) := by show _ ≤ _; omega
 have HLF := Lib.hid hlf
 have LC : Hid (∀ v, Keep (fun i => i = b) X v → v.cell? ⟨w.heap.size, 0, none⟩ = some (.iface t1 (.agg c1)) ∧ v.cell? ⟨w.heap.size, 1, none⟩ = some (.iface t2 (.agg c2))) := fun v hk => by
  have h := hk.heap hcX (by have := HBN.out; show ¬ (_ = b); omega)
  exact ⟨by rw [cell_of_cells h]; rfl, by rw [cell_of_cells h]; rfl⟩
 have HC1 : Hid (∀ (v : World) (k : Nat), Keep (fun i => i = b) X v → Hs v b n k → k + a.flat.length ≤ 1000000 → Calls Tryz.prog (sumF a) #[.agg c1, ptr b] v fun e w' => ∃ m', e = .returned (.agg (bA (digM n a))) ∧ m' ≤ k + a.flat.length ∧ Hs w' b n m' ∧ Keep (fun i => i = b) v w') := fun v k hk hH hm => ia v b k t1 c1 hH hm (HVX.out.hs HHX.out hk) ((hs1.below HB.out).hs HHX.out hk)
 have HC2 : Hid (∀ (v : World) (k : Nat), Keep (fun i => i = b) X v → Hs v b n k → k + c.flat.length ≤ 1000000 → Calls Tryz.prog (sumF c) #[.agg c2, ptr b] v fun e w' => ∃ m', e = .returned (.agg (bA (digM n c))) ∧ m' ≤ k + c.flat.length ∧ Hs w' b n m' ∧ Keep (fun i => i = b) v w') := fun v k hk hH hm => ic v b k t2 c2 hH hm (HVX.out.hs HHX.out hk) ((hs2.below HB.out).hs HHX.out hk)
 obtain ⟨da, hda⟩ : ∃ da, da = digM n a := ⟨_, rfl⟩
 obtain ⟨dc, hdc⟩ : ∃ dc, dc = digM n c := ⟨_, rfl⟩
 have HD : Hid (digM n (.node x a c) = digL n (nodeL da dc)) := by show _ = _; rw [digM_node n a c hsh.1, hda, hdc]
 rw [← hda] at HC1 hl1
 rw [← hdc] at HC2 hl2
 have HL1 := Lib.hid hl1
 have HL2 := Lib.hid hl2
 have HND := Lib.hid (fun y => pnode_o da dc y hl1 hl2)
 have HNL : Hid ((nodeL da dc).length = 65) := by show _ = _; simp [nodeL, hl1, hl2]
 obtain ⟨q, hq⟩ : ∃ q, q = nodeL da dc := ⟨_, rfl⟩
 rw [← hq] at HD HND HNL
 have HDL : Hid ((digL n q).length = 32) := dig_len _ _
 obtain ⟨dq, hdq⟩ : ∃ dq, dq = digL n q := ⟨_, rfl⟩
 have HDQ := Lib.hid hdq
 rw [← hdq] at HD HDL
 have HD0 : Hid (Hs X.drew b n m) := HHX.out.keep ((Keep.refl (fun _ => False) X).drew) id
 obtain ⟨fa, hfa⟩ : ∃ f, f = sumF a := ⟨_, rfl⟩
 obtain ⟨fc, hfc⟩ : ∃ f, f = sumF c := ⟨_, rfl⟩
 rw [← hfa] at HC1 me1 en1
 rw [← hfc] at HC2 me2 en2
 clear hX hX1 hz1 hB1 hB hcX hRX hh hm hv he hcs hs1 hs2 hl1 hl2 hda hdc hq hdq hlf ia ic hfa hfc
 unfold ptr at *
 show Calls _ 148 _ _ _
 go_enter Tryz.func148, Tryz.ntmps148
 go_wp2_with fail
 rw [← HXE.out]
 refine region_heldT 13 (fun q => Keep (fun i => i = b) X q) (by kernel_rfl) ?_
 have hHeld : Keep (fun i => i = b) X X.drew := (Keep.refl _ _).drew
 refine HeldT.take (i := 0) (oi := { dst := some 5, op := .move (.tmp 1), .. }) (v := ?_) rfl (by kernel_rfl) (by kernel_rfl) (by kernel_rfl) (by kernel_rfl) (fun _ _ _ h => h) (Or.inl ⟨by rfl, ?_⟩) (by assumption) ?_
 rotate_left 1
 ·intro v hSv
  clear hSv
  go_simp
  try with_reducible rfl
 try simp only [Act.put, x_A, x_0, x_1]
 refine HeldT.take (i := 1) (oi := { dst := some 6, op := .fieldAddr _ (.tmp 2) 0, .. }) (v := ?_) rfl (by kernel_rfl) (by kernel_rfl) (by kernel_rfl) (by kernel_rfl) (fun _ _ _ h => h) (Or.inl ⟨by rfl, ?_⟩) (by assumption) ?_
 rotate_left 1
 ·intro v hSv
  clear hSv
  go_simp
  try with_reducible rfl
 try simp only [Act.put, x_A, x_0, x_1]
 refine HeldT.take (i := 2) (oi := { dst := some 7, op := .indexAddr _ (.tmp 6) (.const (.int .i64 0)), .. }) (v := ?_) rfl (by kernel_rfl) (by kernel_rfl) (by kernel_rfl) (by kernel_rfl) (fun _ _ _ h => h) (Or.inl ⟨by rfl, ?_⟩) (by assumption) ?_
 rotate_left 1
 ·intro v hSv
  clear hSv
  go_simp
  try with_reducible rfl
 try simp only [Act.put, x_A, x_0, x_1]
 refine HeldT.take (i := 3) (oi := { dst := some 8, op := .load _ (.tmp 7), .. }) (v := ?_) rfl (by kernel_rfl) (by kernel_rfl) (by kernel_rfl) (by kernel_rfl) (fun _ _ _ h => h) (Or.inl ⟨by rfl, ?_⟩) (by assumption) ?_
 rotate_left 1
 ·intro v hSv
  have hv1 := (LC.out v hSv).1
  clear hSv
  go_simp
  try with_reducible rfl
 try simp only [Act.put, x_A, x_0, x_1]
 refine HeldT.take (i := 4) (oi := { dst := some 9, op := .move (.tmp 1), .. }) (v := ?_) rfl (by kernel_rfl) (by kernel_rfl) (by kernel_rfl) (by kernel_rfl) (fun _ _ _ h => h) (Or.inl ⟨by rfl, ?_⟩) (by assumption) ?_
 rotate_left 1
 ·intro v hSv
  clear hSv
  go_simp
  try with_reducible rfl
 try simp only [Act.put, x_A, x_0, x_1]
 refine HeldT.take (i := 6) (oi := { dst := some 11, op := .fieldAddr _ (.tmp 2) 0, .. }) (v := ?_) rfl (by kernel_rfl) (by kernel_rfl) (by kernel_rfl) (by kernel_rfl) (fun _ _ _ h => h) (Or.inl ⟨by rfl, ?_⟩) (by assumption) ?_
 rotate_left 1
 ·intro v hSv
  clear hSv
  go_simp
  try with_reducible rfl
 try simp only [Act.put, x_A, x_0, x_1]
 refine HeldT.take (i := 7) (oi := { dst := some 12, op := .indexAddr _ (.tmp 11) (.const (.int .i64 1)), .. }) (v := ?_) rfl (by kernel_rfl) (by kernel_rfl) (by kernel_rfl) (by kernel_rfl) (fun _ _ _ h => h) (Or.inl ⟨by rfl, ?_⟩) (by assumption) ?_
 rotate_left 1
 ·intro v hSv
  clear hSv
  go_simp
  try with_reducible rfl
 try simp only [Act.put, x_A, x_0, x_1]
 refine HeldT.take (i := 8) (oi := { dst := some 13, op := .load _ (.tmp 12), .. }) (v := ?_) rfl (by kernel_rfl) (by kernel_rfl) (by kernel_rfl) (by kernel_rfl) (fun _ _ _ h => h) (Or.inl ⟨by rfl, ?_⟩) (by assumption) ?_
 rotate_left 1
 ·intro v hSv
  have hv1 := (LC.out v hSv).2
  clear hSv
  go_simp
  try with_reducible rfl
 try simp only [Act.put, x_A, x_0, x_1]
 refine HeldT.take (i := 9) (oi := { dst := some 14, op := .move (.tmp 1), .. }) (v := ?_) rfl (by kernel_rfl) (by kernel_rfl) (by kernel_rfl) (by kernel_rfl) (fun _ _ _ h => h) (Or.inl ⟨by rfl, ?_⟩) (by assumption) ?_
 rotate_left 1
 ·intro v hSv
  clear hSv
  go_simp
  try with_reducible rfl
 try simp only [Act.put, x_A, x_0, x_1]
 refine HeldT.one (i := 5) (o := { dst := some 10, op := .call _, .. }) (by kernel_rfl) rfl rfl (fun K hK => ?_)
 go_wp2_with fail
 refine (HC1.out _ m hHeld HD0.out (by have := HM.out; omega)).mono ?_
 rintro e y1 ⟨m1, rfl, hm1, hH1, hk1⟩
 have hq1 : Keep (fun i => i = b) X y1 := hHeld.trans hk1
 have HQ1 := Lib.hid hH1
 have HM1 := Lib.hid hm1
 clear hk1 hH1 hm1 HC1
 go_wp2_with fail
 refine hK.out _ _ (fun _ => hq1) (fun hS => ?_)
 have hHeld := hS (by decide)
 clear hS hK K
 try simp only [Act.put, x_A, x_0, x_1]
 clear hq1
 refine HeldT.one (i := 10) (o := { dst := some 15, op := .call _, .. }) (by kernel_rfl) rfl rfl (fun K hK => ?_)
 go_wp2_with fail
 refine (HC2.out _ m1 hHeld HQ1.out (by have := HM.out; have := HM1.out; omega)).mono ?_
 rintro e y2 ⟨m2, rfl, hm2, hH2, hk2⟩
 have hq2 : Keep (fun i => i = b) X y2 := hHeld.trans hk2
 have HQ2 := Lib.hid hH2
 have HM2 := Lib.hid hm2
 clear hk2 hH2 hm2 HC2
 go_wp2_with fail
 refine hK.out _ _ (fun _ => hq2) (fun hS => ?_)
 have hHeld := hS (by decide)
 clear hS hK K
 try simp only [Act.put, x_A, x_0, x_1]
 clear hq2
 refine HeldT.one (i := 11) (o := { dst := some 16, op := .call _, .. }) (by kernel_rfl) rfl rfl (fun K hK => ?_)
 go_wp2_with fail
 refine (HND.out _).mono ?_
 rintro e y3 ⟨v3, rfl, hO3, hb3⟩
 have hq3 : Keep (fun i => i = b) X y3 := hHeld.trans (Keep.of_below hb3)
 obtain ⟨g3, cp3, rfl, hcp3, _, _, hba3⟩ := hO3.ba (by rw [HNL.out]; decide)
 have HSM := Lib.hid (sum_hs b n m2 (some ⟨g3, 0, none⟩) q cp3 y3 (HQ2.out.keep (Keep.of_below (L := fun _ => False) hb3) id) (by have := HM.out; have := HM1.out; have := HM2.out; omega) hba3 hcp3 (by rw [HNL.out]; decide) (HVX.out.hs HHX.out hq3))
 unfold ptr at HSM
 rw [← HDQ.out] at HSM
 obtain ⟨ql, hql⟩ : ∃ ql, ql = q.length := ⟨_, rfl⟩
 rw [← hql] at HSM ⊢
 clear hO3 hcp3 hba3 hb3 HND hql
 go_wp2_with fail
 refine hK.out _ _ (fun _ => hq3) (fun hS => ?_)
 have hHeld := hS (by decide)
 clear hS hK K
 try simp only [Act.put, x_A, x_0, x_1]
 clear hq3
 refine HeldT.one (i := 12) (o := { dst := some 17, op := .call _, .. }) (by kernel_rfl) rfl rfl (fun K hK => ?_)
 go_wp2_with fail
 refine HSM.out.mono ?_
 rintro e y4 ⟨rfl, hH4, hk4⟩
 have hq4 : Keep (fun i => i = b) X y4 := hHeld.trans hk4
 have HQ4 := Lib.hid hH4
 clear hk4 hH4 HSM
 go_wp2_with fail
 refine hK.out _ _ (fun _ => hq4) (fun hS => ?_)
 have hHeld := hS (by decide)
 clear hS hK K
 try simp only [Act.put, x_A, x_0, x_1]
 clear hq4
 refine HeldT.one (i := 13) (o := { dst := none, op := .store _ (.tmp 4) (.tmp 17), .. }) (by kernel_rfl) rfl rfl (fun K hK => ?_)
 have hR4 : RowB y4 (w.heap.size + 1) 45 z26 := HRX.out.keep hHeld (by have := HBN.out; show ¬ (_ = b); omega)
 have st := stA_row (t := 45) (v := bA dq) hR4 (by rw [bA_size, HDL.out]; exact info26) (by rw [bA_size, bA_size, HDL.out]; rfl) (bA_one _)
 obtain ⟨Z, hZ⟩ : ∃ Z, Z = y4.setRow (w.heap.size + 1) (bA dq) := ⟨_, rfl⟩
 rw [← hZ] at st
 have HRZ : Hid (RowB Z (w.heap.size + 1) 45 dq) := by show Z.heap[w.heap.size + 1]? = _; rw [hZ]; exact setRow_heap _ _ _ _ _ _ hR4
 have hkZ : Keep (fun i => i = w.heap.size + 1) y4 Z := by rw [hZ]; exact Keep.row _ _ _
 have HHZ := Lib.hid (HQ4.out.keep hkZ (by have := HBN.out; show ¬ (b = _); omega))
 have HKZ : Hid (Keep (fun i => i = b) w Z) := ((Keep.of_below (L := fun i => i = b) HB.out).trans hHeld).step hkZ fun i hi => .inr (by have e : i = w.heap.size + 1 := hi; omega)
 clear hR4 hZ hkZ
 go_wp2_with fail
 refine hK.out _ _ (fun h => absurd rfl h) (fun _ => ?_)
 clear hK K
 refine HeldT.done (by kernel_rfl) ?_ _
 go_wp2_with fail
 refine bodyPost_ret (v := .agg (bA dq)) ?_ rfl ⟨m2 + 1, by rw [HD.out], by have := HM1.out; have := HM2.out; have := HLF.out; omega, HHZ.out, HKZ.out⟩
 exact results_cell_row Tryz.results148 _ _ (w.heap.size + 1) 45 _ (0, 0) _ rfl HRZ.out Tryz.underlying45 rfl (by rw [bA_size, HDL.out]; exact info26)
theorem sums19_c (n : Int) : ∀ t : Mt, t.Shape → SumC n t
 | .leaf x, _ => sum_end n x
 | .node x a c, h => sum_inner n x a c h (sums19_c n a h.2.1) (sums19_c n c h.2.2)
theorem proot19_c (w : World) (b : Nat) (n : Int) (m : Nat) (t : Mt) (A : Option Addr) (c : Nat) (hh : Hs w b n m) (hm : m ≤ 500000) (hv : Vars w) (ht : t.Good) (hA : IA w A t.flat) (hc : t.flat.length ≤ c) (hl : t.flat.length ≤ 100000) :
  Calls Tryz.prog 21 #[ptr b, .slice A t.flat.length c] w fun e w' => ∃ m', e = .returned (.tuple #[.agg (bA (digM n t)), .int .i64 0]) ∧ m' ≤ m + t.flat.length ∧ Hs w' b n m' ∧ Keep (fun i => i = b) w w' := by
 obtain ⟨X, hX⟩ : ∃ X, X = w.alloc (.cells (bA z26) 45) := ⟨_, rfl⟩
 have hB : Below w.heap.size w X := by rw [hX]; exact Bt.one_below _ _
 have HX := Lib.hid hX
 have HB := Lib.hid hB
 have HRX : Hid (RowB X w.heap.size 45 z26) := by show RowB _ _ _ _; rw [hX]; exact RowB.alloc w z26 _
 have HHX := Lib.hid (hh.keep (Keep.of_below (L := fun _ => False) hB) id)
 have HVX := Lib.hid (hv.below hB)
 have HBN : Hid (b < w.heap.size) := lt_of_heap hh
 have HRD := Lib.hid (read_ok t A c X ht (hA.below hB) hc (by omega))
 obtain ⟨N, hN⟩ : ∃ N, N = t.flat.length := ⟨_, rfl⟩
 have HDL : Hid (∀ v w', SubV w' t v → (digM n t).length = 32) := fun v w' h => dig_len19 n ht.1 h
 have HSC : Hid (SumC n t) := sums19_c n t ht.1
 have HN := Lib.hid hN
 have HM : Hid (m + N ≤ 1000000) := by show _ ≤ _; omega
 rw [← hN] at HRD ⊢
 clear hX hB hh hm hv ht hA hc hl hN
 unfold ptr
 go_enter Tryz.func21, Tryz.ntmps21
 go_wp2_with fail
 rw [← HX.out]
 refine HRD.out.mono ?_
 rintro _ w1 ⟨s, u, rfl, hs, hb1⟩
 have hlen := HDL.out _ _ hs
 obtain ⟨ty, cs, he, me1, na1, en1⟩ := sub_meth hs
 obtain ⟨rfl, rfl⟩ : s = ty ∧ u = .agg cs := by injection he with h1 h2; exact ⟨h1, h2⟩
 have HB1 := Lib.hid (HB.out.trans (hb1.mono HB.out.size))
 have HR1 := Lib.hid (HRX.out.keep (Keep.of_below (L := fun _ => False) hb1) id)
 have HC := Lib.hid (HSC.out w1 b m s cs (HHX.out.keep (Keep.of_below (L := fun _ => False) hb1) id) (by rw [← HN.out]; exact HM.out) (HVX.out.below hb1) (hs.below hb1))
 rw [← HN.out] at HC
 unfold ptr at HC
 obtain ⟨d, hd⟩ : ∃ d, d = digM n t := ⟨_, rfl⟩
 rw [← hd] at HC hlen
 have HDE := Lib.hid hd
 have HDL2 := Lib.hid hlen
 obtain ⟨ft, hft⟩ : ∃ f, f = sumF t := ⟨_, rfl⟩
 rw [← hft] at HC me1 en1
 clear hb1 hs he hd hlen hft HRD
 go_wp2_with fail
 refine HC.out.mono ?_
 rintro _ w2 ⟨m2, rfl, hm2, hH2, hk2⟩
 have hR2 : RowB w2 w.heap.size 45 z26 := HR1.out.keep hk2 (by have := HBN.out; show ¬ (_ = b); omega)
 have st := stA_row (t := 45) (v := bA d) hR2 (by rw [bA_size, HDL2.out]; exact info26) (by rw [bA_size, bA_size, HDL2.out]; rfl) (bA_one _)
 obtain ⟨Z, hZ⟩ : ∃ Z, Z = w2.setRow w.heap.size (bA d) := ⟨_, rfl⟩
 rw [← hZ] at st
 have HRZ : Hid (RowB Z w.heap.size 45 d) := by show Z.heap[w.heap.size]? = _; rw [hZ]; exact setRow_heap _ _ _ _ _ _ hR2
 have hkZ : Keep (fun i => i = w.heap.size) w2 Z := by rw [hZ]; exact Keep.row _ _ _
 have HHZ := Lib.hid (hH2.keep hkZ (by have := HBN.out; show ¬ (b = _); omega))
 have HKZ : Hid (Keep (fun i => i = b) w Z) := ((Keep.of_below (L := fun i => i = b) HB1.out).trans hk2).step hkZ fun i hi => .inr (by have e : i = w.heap.size := hi; omega)
 have HM2 := Lib.hid hm2
 clear hR2 hZ hkZ hH2 hk2 hm2 HC
 go_wp2_with fail
 refine bodyPost_ret (v := .tuple #[.agg (bA d), .int .i64 0]) ?_ rfl ⟨m2, by rw [← HDE.out], HM2.out, HHZ.out, HKZ.out⟩
 exact results_row_tmp Tryz.results21 _ _ w.heap.size _ _ rfl rfl (varDig HRZ.out HDL2.out)
theorem prootBad19_c (w : World) (b : Nat) (n : Int) (m : Nat) (l : List It) (A : Option Addr) (c : Nat) (hh : Hs w b n m) (hA : IA w A l) (hc : l.length ≤ c) (hl : l.length ≤ 100000) (h0 : chkI l ≠ 0) :
  Calls Tryz.prog 21 #[ptr b, .slice A l.length c] w fun e w' => ∃ m', e = .returned (.tuple #[.agg (bA z26), .int .i64 (chkI l)]) ∧ m' ≤ m + 1000 ∧ Hs w' b n m' ∧ Keep (fun i => i = b) w w' := by
 obtain ⟨X, hX⟩ : ∃ X, X = w.alloc (.cells (bA z26) 45) := ⟨_, rfl⟩
 have hB : Below w.heap.size w X := by rw [hX]; exact Bt.one_below _ _
 have HX := Lib.hid hX
 have HB := Lib.hid hB
 have HRX : Hid (RowB X w.heap.size 45 z26) := by show RowB _ _ _ _; rw [hX]; exact RowB.alloc w z26 _
 have HHW := Lib.hid hh
 have HBN : Hid (b < w.heap.size) := lt_of_heap hh
 have HRD := Lib.hid (read_bad l A c X (hA.below hB) hc (by omega) h0)
 obtain ⟨z, hz⟩ : ∃ z, z = chkI l := ⟨_, rfl⟩
 rw [← hz] at HRD h0 ⊢
 have e0 : (z != 0) = true := by simpa using h0
 have z1 := bldDig_none20
 obtain ⟨N, hN⟩ : ∃ N, N = l.length := ⟨_, rfl⟩
 rw [← hN] at HRD ⊢
 clear hX hB hh hA hc hl hN hz h0
 unfold ptr
 go_enter Tryz.func21, Tryz.ntmps21
 go_wp2_with fail
 rw [← HX.out]
 refine HRD.out.mono ?_
 rintro _ w2 ⟨rfl, hb1⟩
 have HB1 := Lib.hid (HB.out.trans (hb1.mono HB.out.size))
 have hR2 := HRX.out.keep (Keep.of_below (L := fun _ => False) hb1) id
 have st := stA_row (t := 45) (v := bA z26) hR2 info26 rfl (bA_one _)
 obtain ⟨Z, hZ⟩ : ∃ Z, Z = w2.setRow w.heap.size (bA z26) := ⟨_, rfl⟩
 rw [← hZ] at st
 have HRZ : Hid (RowB Z w.heap.size 45 z26) := by show Z.heap[w.heap.size]? = _; rw [hZ]; exact setRow_heap _ _ _ _ _ _ hR2
 have hkZ : Keep (fun i => i = w.heap.size) w2 Z := by rw [hZ]; exact Keep.row _ _ _
 have HKZ : Hid (Keep (fun i => i = b) w Z) := (Keep.of_below (L := fun i => i = b) HB1.out).step hkZ fun i hi => .inr (by have e : i = w.heap.size := hi; omega)
 have HHZ := Lib.hid ((HHW.out.keep (Keep.of_below (L := fun _ => False) HB1.out) id).keep hkZ (by have := HBN.out; show ¬ (b = _); omega))
 clear hR2 hZ hkZ hb1 HRD
 go_wp2_with fail
 refine bodyPost_ret (v := .tuple #[.agg (bA z26), .int .i64 z]) ?_ rfl ⟨m, rfl, Nat.le_add_right _ _, HHZ.out, HKZ.out⟩
 exact results_row_tmp Tryz.results21 _ _ w.heap.size _ _ rfl rfl (varDig HRZ.out rfl)
end
section
open Go.RowKit
theorem Keep.low {L : Nat → Prop} {a b c : World} (h : Keep L a b) (k : Below a.heap.size b c) : Keep L a c :=
 ⟨k.os.trans h.os, k.tape.trans h.tape, k.output.trans h.output, Nat.le_trans h.size k.size, fun i hi hl => (k.block i hi).trans (h.block i hi hl)⟩
theorem Hs.low {w w' : World} {B b : Nat} {n : Int} {m : Nat} (h : Hs w b n m) (k : Below B w w') (hb : b < B) : Hs w' b n m := (k.block b hb).trans h
theorem ia_one (w : World) (x : It) (hx : x.Ok) : IA (w.alloc (.cells (itC x) 59)) (some ⟨w.heap.size, 0, none⟩) [x] := fun i y hi => by
 have : i = 0 := by have := (List.getElem?_eq_some_iff.1 hi).1; simp at this; omega
 subst this
 have e : x = y := by simpa using hi
 subst e
 exact ⟨hx, _, _, rfl, by simpa using it_made w x _⟩
theorem sub_dig {d : Nat} {l : List Ent} {T : Tv} (h : SubMap d l T) (hd : d ≤ 256) (n : Int) : digT n T.tr = rootK (257 - d) n l d := by
 rw [h.tr]
 exact (grow_both n (257 - d) l d h.sep (.inr ⟨by omega, by omega, by omega⟩)).2
theorem sub_nil {d : Nat} {l : List Ent} (h : SubMap d l .nil) (hd : d ≤ 256) : l = [] := by
 have h1 := h.few hd (show ¬ (0 : Int) = 2 by decide)
 have h2 := h.tr
 match l, h1, h2 with
 | [], _, _ => rfl
 | [e], _, h2 => rw [growT_one] at h2; cases h2
theorem sub_leaf {d : Nat} {l : List Ent} {v : Value} {e : Ent} (h : SubMap d l (.leaf v e)) (hd : d ≤ 256) : l = [e] := by
 have h1 := h.few hd (show ¬ (1 : Int) = 2 by decide)
 have h2 := h.tr
 match l, h1, h2 with
 | [], _, h2 => rw [growT_none] at h2; cases h2
 | [x], _, h2 => rw [growT_one] at h2; cases h2; rfl
theorem sub_two {d : Nat} {l : List Ent} {v : Value} {a b : Tv} (h : SubMap d l (.inner v a b)) : 2 ≤ l.length := by
 have h2 := h.tr
 match l, h2 with
 | [], h2 => rw [growT_none] at h2; cases h2
 | [x], h2 => rw [growT_one] at h2; cases h2
 | _ :: _ :: _, _ => simp
def ItC (M : World → Int → Tv → Prop) (n : Int) (w0 : World) (b m f d : Nat) : Prop := ∀ (l : List Ent) (T : Tv) (ks : List (List UInt8)) (B : Option Addr) (cb : Nat) (w : World) (v : Value) (L : List It),
 M w0 n T → SubMap d l T → KS w0 B ks → ks.length ≤ cb → ks.length ≤ 1000 → Bel ks d → Keep (fun i => i = b) w0 w → Hs w b n m → OwnIt w w0.heap.size v L → L.length + (prvM n f l ks d).flat.length ≤ 9000000 →
 Calls Tryz.prog 38 #[v, ptr b, T.val, .slice B ks.length cb, .int .i64 (d : Int)] w fun e w' => ∃ v', e = .returned v' ∧ OwnIt w' w0.heap.size v' (L ++ (prvM n f l ks d).flat) ∧ Hs w' b n m ∧ Keep (fun i => i = b) w0 w'
theorem items_nil {M : World → Int → Tv → Prop} (nd : NdV M) (n : Int) (w0 : World) (b m d : Nat) (ks : List (List UInt8)) (B : Option Addr) (cb : Nat) (w : World) (v : Value) (L : List It) (hb : b < w0.heap.size)
  (hM : M w n .nil) (hk : Keep (fun i => i = b) w0 w) (hh : Hs w b n m) (hO : OwnIt w w0.heap.size v L) (hL : L.length ≤ 9000000) :
  Calls Tryz.prog 38 #[v, ptr b, Tv.nil.val, .slice B ks.length cb, .int .i64 (d : Int)] w fun e w' => ∃ v', e = .returned v' ∧ OwnIt w' w0.heap.size v' (L ++ [itN]) ∧ Hs w' b n m ∧ Keep (fun i => i = b) w0 w' := by
 have HK := Lib.hid (nd.kind w n _ hM)
 rw [show kindT (Tv.nil).tr = 0 from rfl] at HK
 obtain ⟨pT, hpT⟩ := val_ptr nd hM
 rw [hpT] at HK ⊢
 have HKW := Lib.hid hk
 have HHW := Lib.hid hh
 have HOW := Lib.hid hO
 have HL := Lib.hid hL
 have HBL := Lib.hid hb
 have bi : ∀ w, bldA 59 w #[(0, .int .i64 0)] = .ok (.value (.agg (itC itN))) w := bldIt_k 0
 have bs := bsI_one itN ⟨rfl, rfl⟩
 clear hM hk hh hO hL hpT hb
 unfold ptr
 go_enter Tryz.func38, Tryz.ntmps38
 go_wp2_with fail
 refine HK.out.mono ?_
 rintro _ w2 ⟨rfl, hb2⟩
 have hb3 : Below w.heap.size w (w2.alloc (.cells (itC itN) 59)) := hb2.alloc hb2.size _
 have HK3 := Lib.hid (HKW.out.trans (Keep.of_below (L := fun i => i = b) hb3))
 have HH3 := Lib.hid (HHW.out.keep (Keep.of_below (L := fun _ => False) hb3) id)
 have HO3 := Lib.hid (HOW.out.below hb3)
 have HI3 := Lib.hid (ia_one w2 itN ⟨rfl, rfl⟩)
 have HS3 : Hid (w0.heap.size ≤ (w2.alloc (.cells (itC itN) 59)).heap.size) := HK3.out.size
 clear hb2 hb3 HK
 go_wp2_with (at_builtin; refine wpList_catI rfl _ _ rfl w0.heap.size _ L rfl HO3.out (some ⟨w2.heap.size, 0, none⟩) 1 [itN] rfl HI3.out (by decide) (by have := HL.out; simp only [List.length_singleton]; omega) HS3.out ?_; intro v8 x8 hO8 hB8; have HO8 := Lib.hid hO8; have HB8 := Lib.hid hB8; clear hO8 hB8)
 go_ret
 exact ⟨_, rfl, HO8.out, HH3.out.low HB8.out HBL.out, HK3.out.low HB8.out⟩
theorem items_side {M : World → Int → Tv → Prop} (nd : NdV M) (n : Int) (w0 : World) (b m d : Nat) (T : Tv) (B : Option Addr) (cb : Nat) (w : World) (v : Value) (L : List It) (hb : b < w0.heap.size) (g : List UInt8) (hg : digT n T.tr = g) (hgl : g.length = 32) (hT : T.tr ≠ .nil)
  (hM : M w n T) (hk : Keep (fun i => i = b) w0 w) (hh : Hs w b n m) (hm : m ≤ 1000000) (hv : Vars w) (hO : OwnIt w w0.heap.size v L) (hL : L.length ≤ 9000000) :
  Calls Tryz.prog 38 #[v, ptr b, T.val, .slice B 0 cb, .int .i64 (d : Int)] w fun e w' => ∃ v', e = .returned v' ∧ OwnIt w' w0.heap.size v' (L ++ [itS g]) ∧ Hs w' b n m ∧ Keep (fun i => i = b) w0 w' := by
 have HK := Lib.hid (nd.kind w n _ hM)
 have hkz : kindT T.tr ≠ 0 := by
  cases hc : T.tr with
  | nil => exact absurd hc hT
  | leaf e => show ¬ (1 : Int) = 0; decide
  | inner s t => show ¬ (2 : Int) = 0; decide
 obtain ⟨kz, hkk⟩ : ∃ kz, kz = kindT T.tr := ⟨_, rfl⟩
 rw [← hkk] at HK hkz
 have e0 : (kz == 0) = false := by simpa using hkz
 have HDG : Hid (∀ z, Below w.heap.size w z → Calls Tryz.prog 62 #[ptr b, T.val] z fun e w' => e = .returned (.agg (bA g)) ∧ Hs w' b n m ∧ Keep (fun i => i = b) z w') := fun z hz => by
  refine (nd.digest z b n m T (hh.keep (Keep.of_below (L := fun _ => False) hz) id) hm (hv.below hz) (nd.below hM hz)).mono ?_
  rintro e w' ⟨c', he, _, hc, hH, hkp⟩
  rw [hc hT] at hH
  exact ⟨by rw [he, hg], hH, hkp⟩
 obtain ⟨pT, hpT⟩ := val_ptr nd hM
 rw [hpT] at HK HDG ⊢
 have HKW := Lib.hid hk
 have HHW := Lib.hid hh
 have HOW := Lib.hid hO
 have HL := Lib.hid hL
 have HBL := Lib.hid hb
 have HGL := Lib.hid hgl
 have bi : ∀ w, bldA 59 w #[(0, .int .i64 3), (1, .agg (bA g))] = .ok (.value (.agg (itC (itS g)))) w := bldIt_kd 3 g hgl
 have bs := bsI_one (itS g) (itS_ok hgl)
 unfold ptr at HDG ⊢
 clear hM hk hh hO hL hpT hb hkz hkk hg hgl hT hm hv
 go_enter Tryz.func38, Tryz.ntmps38
 go_wp2_with fail
 refine HK.out.mono ?_
 rintro _ w1 ⟨rfl, hb1⟩
 have HD1 := Lib.hid (HDG.out w1 hb1)
 have HB1 := Lib.hid hb1
 clear hb1 HK HDG
 go_wp2_with fail
 refine HD1.out.mono ?_
 rintro _ w2 ⟨rfl, hH2, hk2⟩
 have hkx : Keep (fun i => i = b) w w2 := (Keep.of_below (L := fun i => i = b) HB1.out).trans hk2
 have hb3 : Below w2.heap.size w2 (w2.alloc (.cells (itC (itS g)) 59)) := Bt.one_below _ _
 have HK3 := Lib.hid ((HKW.out.trans hkx).trans (Keep.of_below (L := fun i => i = b) hb3))
 have HH3 := Lib.hid (hH2.keep (Keep.of_below (L := fun _ => False) hb3) id)
 have HO3 := Lib.hid ((HOW.out.block fun i hi hl => hkx.block i hl (by have := HBL.out; show ¬ (i = b); omega)).below hb3)
 have HI3 := Lib.hid (ia_one w2 (itS g) (itS_ok HGL.out))
 have HS3 : Hid (w0.heap.size ≤ (w2.alloc (.cells (itC (itS g)) 59)).heap.size) := HK3.out.size
 clear hH2 hk2 hkx hb3 HD1
 go_wp2_with (at_builtin; refine wpList_catI rfl _ _ rfl w0.heap.size _ L rfl HO3.out (some ⟨w2.heap.size, 0, none⟩) 1 [itS g] rfl HI3.out (by simp) (by have := HL.out; simp only [List.length_singleton]; omega) HS3.out ?_; intro v8 x8 hO8 hB8; have HO8 := Lib.hid hO8; have HB8 := Lib.hid hB8; clear hO8 hB8)
 go_ret
 exact ⟨_, rfl, HO8.out, HH3.out.low HB8.out HBL.out, HK3.out.low HB8.out⟩
theorem items_leaf {M : World → Int → Tv → Prop} (nd : NdV M) (n : Int) (w0 : World) (b m d : Nat) (u : Value) (e : Ent) (ks : List (List UInt8)) (hks : ks ≠ []) (B : Option Addr) (cb : Nat) (w : World) (v : Value) (L : List It) (hb : b < w0.heap.size)
  (hM : M w n (.leaf u e)) (hk : Keep (fun i => i = b) w0 w) (hh : Hs w b n m) (hO : OwnIt w w0.heap.size v L) (hL : L.length ≤ 9000000) :
  Calls Tryz.prog 38 #[v, ptr b, (Tv.leaf u e).val, .slice B ks.length cb, .int .i64 (d : Int)] w fun x w' => ∃ v', x = .returned v' ∧ OwnIt w' w0.heap.size v' (L ++ [itF n e]) ∧ Hs w' b n m ∧ Keep (fun i => i = b) w0 w' := by
 have HK := Lib.hid (nd.kind w n _ hM)
 rw [show kindT (Tv.leaf u e).tr = 1 from rfl] at HK
 have hkey := (nd.key hM).1
 have HLF : Hid (∀ z, Below w.heap.size w z → Calls Tryz.prog 32 #[(Tv.leaf u e).val] z fun x w' => x = .returned (.agg (bA (e.k ++ digL n (valL e.v)))) ∧ Below z.heap.size z w') := fun z hz => nd.leafOf z n _ (nd.below hM hz)
 have hlf : (e.k ++ digL n (valL e.v)).length = 64 := by rw [List.length_append, hkey, dig_len]
 have bi : ∀ w, bldA 59 w #[(0, .int .i64 1), (2, .agg (bA (e.k ++ digL n (valL e.v))))] = .ok (.value (.agg (itC (itF n e)))) w := bldIt_kl 1 _ hlf
 have bs := bsI_one (itF n e) (itF_ok hkey)
 obtain ⟨pT, hpT⟩ := val_ptr nd hM
 rw [hpT] at HK HLF ⊢
 have HKW := Lib.hid hk
 have HHW := Lib.hid hh
 have HOW := Lib.hid hO
 have HL := Lib.hid hL
 have HBL := Lib.hid hb
 have HIO : Hid (itF n e).Ok := itF_ok hkey
 obtain ⟨lf, hlf2⟩ : ∃ lf, lf = e.k ++ digL n (valL e.v) := ⟨_, rfl⟩
 rw [← hlf2] at HLF bi
 have hne : ¬ ks.length = 0 := fun h => hks (List.length_eq_zero_iff.1 h)
 obtain ⟨N, hN⟩ : ∃ N, N = ks.length := ⟨_, rfl⟩
 rw [← hN] at hne ⊢
 have e0 : ((N : Int) == 0) = false := by simp; omega
 unfold ptr
 clear hM hk hh hO hL hpT hb hkey hlf hlf2 hks hN
 go_enter Tryz.func38, Tryz.ntmps38
 go_wp2_with fail
 refine HK.out.mono ?_
 rintro _ w1 ⟨rfl, hb1⟩
 have HD1 := Lib.hid (HLF.out w1 hb1)
 have HB1 := Lib.hid hb1
 clear hb1 HK HLF
 go_wp2_with fail
 refine HD1.out.mono ?_
 rintro _ w2 ⟨rfl, hb2⟩
 have hb3 : Below w.heap.size w (w2.alloc (.cells (itC (itF n e)) 59)) := (HB1.out.trans (hb2.mono HB1.out.size)).alloc (Nat.le_trans HB1.out.size hb2.size) _
 have HK3 := Lib.hid (HKW.out.trans (Keep.of_below (L := fun i => i = b) hb3))
 have HH3 := Lib.hid (HHW.out.keep (Keep.of_below (L := fun _ => False) hb3) id)
 have HO3 := Lib.hid (HOW.out.below hb3)
 have HI3 := Lib.hid (ia_one w2 (itF n e) HIO.out)
 have HS3 : Hid (w0.heap.size ≤ (w2.alloc (.cells (itC (itF n e)) 59)).heap.size) := HK3.out.size
 clear hb2 hb3 HD1
 go_wp2_with (at_builtin; refine wpList_catI rfl _ _ rfl w0.heap.size _ L rfl HO3.out (some ⟨w2.heap.size, 0, none⟩) 1 [itF n e] rfl HI3.out (by simp) (by have := HL.out; simp only [List.length_singleton]; omega) HS3.out ?_; intro v8 x8 hO8 hB8; have HO8 := Lib.hid hO8; have HB8 := Lib.hid hB8; clear hO8 hB8)
 go_ret
 exact ⟨_, rfl, HO8.out, HH3.out.low HB8.out HBL.out, HK3.out.low HB8.out⟩
theorem items_inner {M : World → Int → Tv → Prop} (nd : NdV M) (n : Int) (w0 : World) (b m0 m f d : Nat) (hH0 : Hs w0 b n m0) (l : List Ent) (u : Value) (S T : Tv) (ks : List (List UInt8)) (hks : ks ≠ []) (hkl : ks.length ≤ 1000) (B : Option Addr) (cb : Nat) (w : World) (v : Value) (L : List It)
  (hM : M w0 n (.inner u S T)) (hs : SubMap d l (.inner u S T)) (hd : d < 256) (hK : KS w0 B ks) (hcb : ks.length ≤ cb) (hbel : Bel ks d) (hk : Keep (fun i => i = b) w0 w) (hh : Hs w b n m) (hO : OwnIt w w0.heap.size v L) (hL : L.length + (prvM n (f + 1) l ks d).flat.length ≤ 9000000) (ih : ItC M n w0 b m f (d + 1)) :
  Calls Tryz.prog 38 #[v, ptr b, (Tv.inner u S T).val, .slice B ks.length cb, .int .i64 (d : Int)] w fun x w' => ∃ v', x = .returned v' ∧ OwnIt w' w0.heap.size v' (L ++ (prvM n (f + 1) l ks d).flat) ∧ Hs w' b n m ∧ Keep (fun i => i = b) w0 w' := by
 obtain ⟨_, hsS, hsT⟩ := hs.inner (by omega)
 rw [prvM_two n f (sub_two hs) hks] at hL ⊢
 have HM : Hid (∀ z, Keep (fun i => i = b) w0 z → M z n (.inner u S T)) := fun z hz => nd.hs hM hH0 hz
 obtain ⟨hMS, hMT⟩ := nd.kids hM
 have HK := Lib.hid (nd.kind w n _ (HM.out w hk))
 rw [show kindT (Tv.inner u S T).tr = 2 from rfl] at HK
 have HLF : Hid (∀ z, Keep (fun i => i = b) w0 z → Calls Tryz.prog 64 #[(Tv.inner u S T).val] z fun x w' => x = .returned S.val ∧ Below z.heap.size z w') := fun z hz => nd.left z n _ (HM.out z hz)
 have HRT : Hid (∀ z, Keep (fun i => i = b) w0 z → Calls Tryz.prog 65 #[(Tv.inner u S T).val] z fun x w' => x = .returned T.val ∧ Below z.heap.size z w') := fun z hz => nd.right z n _ (HM.out z hz)
 have HDV : Hid (∀ z, Keep (fun i => i = b) w0 z → Calls Tryz.prog 63 #[.slice B ks.length cb, .int .i64 (d : Int)] z fun e w' => ∃ A0 A1 c0 c1, e = .returned (.tuple #[.slice A0 (side0 ks d).length c0, .slice A1 (side1 ks d).length c1]) ∧ KS w0 A0 (side0 ks d) ∧ KS w0 A1 (side1 ks d) ∧ (side0 ks d).length ≤ c0 ∧ (side1 ks d).length ≤ c1 ∧ Below z.heap.size z w') := fun z hz => divide19_c B cb ks d w0 z hK (hK.hs19 hH0 hz) hcb hd (by omega) hbel
 have hsl := sides_len ks d
 have HIS : Hid (∀ (A : Option Addr) (c : Nat) (z : World) (v : Value) (L : List It), KS w0 A (side0 ks d) → (side0 ks d).length ≤ c → Keep (fun i => i = b) w0 z → Hs z b n m → OwnIt z w0.heap.size v L → L.length + (prvM n f (partK l d 0) (side0 ks d) (d + 1)).flat.length ≤ 9000000 →
   Calls Tryz.prog 38 #[v, ptr b, S.val, .slice A (side0 ks d).length c, .int .i64 ((d : Int) + 1)] z fun e w' => ∃ v', e = .returned v' ∧ OwnIt w' w0.heap.size v' (L ++ (prvM n f (partK l d 0) (side0 ks d) (d + 1)).flat) ∧ Hs w' b n m ∧ Keep (fun i => i = b) w0 w') := fun A c z v L h1 h2 h3 h4 h5 h6 => by
  have := ih (partK l d 0) S (side0 ks d) A c z v L hMS hsS h1 h2 (by omega) (hbel.left hd) h3 h4 h5 h6
  rwa [show ((d + 1 : Nat) : Int) = (d : Int) + 1 by omega] at this
 have HIT : Hid (∀ (A : Option Addr) (c : Nat) (z : World) (v : Value) (L : List It), KS w0 A (side1 ks d) → (side1 ks d).length ≤ c → Keep (fun i => i = b) w0 z → Hs z b n m → OwnIt z w0.heap.size v L → L.length + (prvM n f (partK l d 1) (side1 ks d) (d + 1)).flat.length ≤ 9000000 →
   Calls Tryz.prog 38 #[v, ptr b, T.val, .slice A (side1 ks d).length c, .int .i64 ((d : Int) + 1)] z fun e w' => ∃ v', e = .returned v' ∧ OwnIt w' w0.heap.size v' (L ++ (prvM n f (partK l d 1) (side1 ks d) (d + 1)).flat) ∧ Hs w' b n m ∧ Keep (fun i => i = b) w0 w') := fun A c z v L h1 h2 h3 h4 h5 h6 => by
  have := ih (partK l d 1) T (side1 ks d) A c z v L hMT hsT h1 h2 (by omega) hbel.right h3 h4 h5 h6
  rwa [show ((d + 1 : Nat) : Int) = (d : Int) + 1 by omega] at this
 obtain ⟨pT, hpT⟩ := val_ptr nd hM
 rw [hpT] at HK HLF HRT ⊢
 obtain ⟨fs, hfs⟩ : ∃ fs, fs = (prvM n f (partK l d 0) (side0 ks d) (d + 1)).flat := ⟨_, rfl⟩
 obtain ⟨ft, hft⟩ : ∃ ft, ft = (prvM n f (partK l d 1) (side1 ks d) (d + 1)).flat := ⟨_, rfl⟩
 have HFL : Hid ((Mt.node itI (prvM n f (partK l d 0) (side0 ks d) (d + 1)) (prvM n f (partK l d 1) (side1 ks d) (d + 1))).flat = itI :: (fs ++ ft)) := by show _ = _; rw [hfs, hft]; rfl
 have HL : Hid (L.length + 1 + fs.length + ft.length ≤ 9000000) := by
  show _ ≤ _
  rw [HFL.out, List.length_cons, List.length_append] at hL
  omega
 rw [← hfs] at HIS
 rw [← hft] at HIT
 obtain ⟨k0, hk0⟩ : ∃ k, k = side0 ks d := ⟨_, rfl⟩
 obtain ⟨k1, hk1⟩ : ∃ k, k = side1 ks d := ⟨_, rfl⟩
 rw [← hk0] at HIS HDV
 rw [← hk1] at HIT HDV
 obtain ⟨N0, hN0⟩ : ∃ N, N = k0.length := ⟨_, rfl⟩
 obtain ⟨N1, hN1⟩ : ∃ N, N = k1.length := ⟨_, rfl⟩
 rw [← hN0] at HIS HDV
 rw [← hN1] at HIT HDV
 have HKW := Lib.hid hk
 have HHW := Lib.hid hh
 have HOW := Lib.hid hO
 have HBL : Hid (b < w0.heap.size) := lt_of_heap hH0
 have bi : ∀ w, bldA 59 w #[(0, .int .i64 2)] = .ok (.value (.agg (itC itI))) w := bldIt_k 2
 have bs := bsI_one itI ⟨rfl, rfl⟩
 have hne : ¬ ks.length = 0 := fun h => hks (List.length_eq_zero_iff.1 h)
 obtain ⟨N, hN⟩ : ∃ N, N = ks.length := ⟨_, rfl⟩
 rw [← hN] at hne HDV ⊢
 have e0 : ((N : Int) == 0) = false := by simp; omega
 have wd : IntKind.i64.wrap ((d : Int) + 1) = (d : Int) + 1 := wrap19v (by omega) (by omega)
 have hdd : d < 256 := hd
 clear hM hs hd hK hcb hbel hk hh hO hL ih hH0 hsS hsT hMS hMT hsl hpT hfs hft hk0 hk1 hN0 hN1 hks hN hkl HM
 unfold ptr at *
 go_enter Tryz.func38, Tryz.ntmps38
 go_wp2_with fail
 refine HK.out.mono ?_
 rintro _ w1 ⟨rfl, hb1⟩
 have HK1 := Lib.hid (HKW.out.trans (Keep.of_below (L := fun i => i = b) hb1))
 have HB1 := Lib.hid hb1
 have HD1 := Lib.hid (HDV.out w1 HK1.out)
 clear hb1 HK HDV
 go_wp2_with fail
 refine HD1.out.mono ?_
 rintro _ w2 ⟨A0, A1, c0, c1, rfl, hK0, hK1, hc0, hc1, hb2⟩
 have hbx : Below w.heap.size w w2 := HB1.out.trans (hb2.mono HB1.out.size)
 have hb3 : Below w.heap.size w (w2.alloc (.cells (itC itI) 59)) := hbx.alloc hbx.size _
 have HK3 := Lib.hid (HKW.out.trans (Keep.of_below (L := fun i => i = b) hb3))
 have HH3 := Lib.hid (HHW.out.keep (Keep.of_below (L := fun _ => False) hb3) id)
 have HO3 := Lib.hid (HOW.out.below hb3)
 have HI3 := Lib.hid (ia_one w2 itI ⟨rfl, rfl⟩)
 have HS3 : Hid (w0.heap.size ≤ (w2.alloc (.cells (itC itI) 59)).heap.size) := HK3.out.size
 have HKA := Lib.hid hK0
 have HKB := Lib.hid hK1
 have HCA := Lib.hid hc0
 have HCB := Lib.hid hc1
 clear hb2 hb3 hbx hK0 hK1 hc0 hc1 HD1
 go_wp2_with (at_builtin; refine wpList_catI rfl _ _ rfl w0.heap.size _ L rfl HO3.out (some ⟨w2.heap.size, 0, none⟩) 1 [itI] rfl HI3.out (by decide) (by have := HL.out; simp only [List.length_singleton]; omega) HS3.out ?_; intro v8 x8 hO8 hB8; have HO8 := Lib.hid hO8; have HH8 := Lib.hid (HH3.out.low hB8 HBL.out); have HK8 := Lib.hid (HK3.out.low hB8); have HLS := Lib.hid (HLF.out x8 HK8.out); clear hO8 hB8)
 refine HLS.out.mono ?_
 rintro _ w4 ⟨rfl, hb4⟩
 have HC4 := Lib.hid (HIS.out A0 c0 w4 v8 (L ++ [itI]) HKA.out HCA.out (HK8.out.trans (Keep.of_below (L := fun i => i = b) hb4)) (HH8.out.keep (Keep.of_below (L := fun _ => False) hb4) id) (HO8.out.below hb4) (by have := HL.out; rw [List.length_append, List.length_singleton]; omega))
 clear hb4 HLS HIS
 go_wp2_with fail
 refine HC4.out.mono ?_
 rintro _ w5 ⟨v5, rfl, hO5, hH5, hk5⟩
 have HO5 := Lib.hid hO5
 have HH5 := Lib.hid hH5
 have HK5 := Lib.hid hk5
 have HRS := Lib.hid (HRT.out w5 hk5)
 clear hO5 hH5 hk5 HC4
 go_wp2_with fail
 refine HRS.out.mono ?_
 rintro _ w6 ⟨rfl, hb6⟩
 have HC6 := Lib.hid (HIT.out A1 c1 w6 v5 (L ++ [itI] ++ fs) HKB.out HCB.out (HK5.out.trans (Keep.of_below (L := fun i => i = b) hb6)) (HH5.out.keep (Keep.of_below (L := fun _ => False) hb6) id) (HO5.out.below hb6) (by have := HL.out; rw [List.length_append, List.length_append, List.length_singleton]; omega))
 clear hb6 HRS HIT
 go_wp2_with fail
 refine HC6.out.mono ?_
 rintro _ w7 ⟨v7, rfl, hO7, hH7, hk7⟩
 have HO7 := Lib.hid hO7
 have HH7 := Lib.hid hH7
 have HK7 := Lib.hid hk7
 clear hO7 hH7 hk7 HC6
 go_wp2_with fail
 go_ret
 exact ⟨_, rfl, by rw [HFL.out]; have := HO7.out; simpa using this, HH7.out, HK7.out⟩
theorem items_c {M : World → Int → Tv → Prop} (nd : NdV M) (n : Int) (w0 : World) (b m0 m : Nat) (hH0 : Hs w0 b n m0) (hV0 : Vars w0) (hm : m ≤ 1000000) : ∀ (f d : Nat), d + f = 256 → ItC M n w0 b m f d := by
 intro f
 induction f with
 | zero =>
  intro d hd l T ks B cb w v L hM hs hK hcb hkl hbel hk hh hO hL
  have hMw := nd.hs hM hH0 hk
  have hb := lt_of_heap hH0
  match T, hs, hM, hMw with
  | .nil, hs, _, hMw =>
   obtain rfl := sub_nil hs (by omega)
   rw [prvM_none] at hL ⊢
   exact items_nil nd n w0 b m d ks B cb w v L hb hMw hk hh hO (by omega)
  | .leaf u e, hs, _, hMw =>
   obtain rfl := sub_leaf hs (by omega)
   by_cases hks : ks = []
   ·subst hks
    rw [prvM_side n _ (by simp)] at hL ⊢
    exact items_side nd n w0 b m d (.leaf u e) B cb w v L hb _ (sub_dig hs (by omega) n) (rootK_len _ _ _ _) (fun h => by cases h) hMw hk hh hm (hV0.hs hH0 hk) hO (by omega)
   ·rw [prvM_one n _ e hks] at hL ⊢
    exact items_leaf nd n w0 b m d u e ks hks B cb w v L hb hMw hk hh hO (by omega)
  | .inner u S T, hs, _, _ =>
   have := (hs.inner (by omega)).1
   omega
 | succ f ih =>
  intro d hd l T ks B cb w v L hM hs hK hcb hkl hbel hk hh hO hL
  have hMw := nd.hs hM hH0 hk
  have hb := lt_of_heap hH0
  match T, hs, hM, hMw with
  | .nil, hs, _, hMw =>
   obtain rfl := sub_nil hs (by omega)
   rw [prvM_none] at hL ⊢
   exact items_nil nd n w0 b m d ks B cb w v L hb hMw hk hh hO (by omega)
  | .leaf u e, hs, _, hMw =>
   obtain rfl := sub_leaf hs (by omega)
   by_cases hks : ks = []
   ·subst hks
    rw [prvM_side n _ (by simp)] at hL ⊢
    exact items_side nd n w0 b m d (.leaf u e) B cb w v L hb _ (sub_dig hs (by omega) n) (rootK_len _ _ _ _) (fun h => by cases h) hMw hk hh hm (hV0.hs hH0 hk) hO (by omega)
   ·rw [prvM_one n _ e hks] at hL ⊢
    exact items_leaf nd n w0 b m d u e ks hks B cb w v L hb hMw hk hh hO (by omega)
  | .inner u S T, hs, hM, hMw =>
   by_cases hks : ks = []
   ·subst hks
    have hl2 := sub_two hs
    rw [prvM_side n _ (fun h => by rw [h] at hl2; simp at hl2)] at hL ⊢
    exact items_side nd n w0 b m d (.inner u S T) B cb w v L hb _ (sub_dig hs (by omega) n) (rootK_len _ _ _ _) (fun h => by cases h) hMw hk hh hm (hV0.hs hH0 hk) hO (by omega)
   ·exact items_inner nd n w0 b m0 m f d hH0 l u S T ks hks hkl B cb w v L hM hs (by omega) hK hcb hbel hk hh hO hL (ih (d + 1) (by omega))
theorem prvM_len (n : Int) : ∀ (f : Nat) (m : List Ent) (ks : List (List UInt8)) (d : Nat), (prvM n f m ks d).flat.length ≤ 1 + 2 * f * m.length
 | f, [], ks, d => by rw [prvM_none]; simp [Mt.flat]
 | 0, e :: r, ks, d => by
  by_cases hs : ks = []
  ·subst hs; rw [prvM_side n _ (by simp)]; simp [Mt.flat]
  ·rw [show prvM n 0 (e :: r) ks d = .leaf (itF n e) by show (if _ then _ else _) = _; rw [if_neg hs]]; simp [Mt.flat]
 | f + 1, [e], ks, d => by
  by_cases hs : ks = []
  ·subst hs; rw [prvM_side n _ (by simp)]; simp [Mt.flat]
  ·rw [prvM_one n _ e hs]; simp [Mt.flat]
 | f + 1, e :: e2 :: r, ks, d => by
  by_cases hs : ks = []
  ·subst hs; rw [prvM_side n _ (by simp)]; simp [Mt.flat]
  ·rw [prvM_two n f (by simp) hs]
   have h0 := prvM_len n f (partK (e :: e2 :: r) d 0) (side0 ks d) (d + 1)
   have h1 := prvM_len n f (partK (e :: e2 :: r) d 1) (side1 ks d) (d + 1)
   have hb := partK_both (e :: e2 :: r) d
   have hl : 2 ≤ (e :: e2 :: r).length := by simp
   generalize hm : (e :: e2 :: r) = m at *
   have h2 : 2 * f * (partK m d 0).length + 2 * f * (partK m d 1).length ≤ 2 * f * m.length := by rw [← Nat.mul_add]; exact Nat.mul_le_mul_left _ hb
   have h3 : 2 * (f + 1) * m.length = 2 * f * m.length + 2 * m.length := by rw [Nat.mul_add, Nat.add_mul]
   simp only [Mt.flat, List.length_cons, List.length_append]
   omega
theorem prvM_oks (n : Int) : ∀ (f : Nat) (m : List Ent) (ks : List (List UInt8)) (d : Nat), (∀ e ∈ m, e.k.length = 32) → ∀ x ∈ (prvM n f m ks d).flat, x.Ok
 | f, [], ks, d, _, x, hx => by
  rw [prvM_none] at hx
  rw [List.mem_singleton.1 hx]; exact ⟨rfl, rfl⟩
 | f, e :: r, ks, d, hm, x, hx => by
  by_cases hs : ks = []
  ·subst hs
   rw [prvM_side n f (by simp)] at hx
   rw [List.mem_singleton.1 hx]; exact itS_ok (rootK_len _ _ _ _)
  ·match f, r, hm, hx with
   | 0, r, hm, hx =>
    have h1 : prvM n 0 (e :: r) ks d = .leaf (itF n e) := by show (if _ then _ else _) = _; rw [if_neg hs]
    rw [h1] at hx
    rw [List.mem_singleton.1 hx]; exact itF_ok (hm e (by simp))
   | f + 1, [], hm, hx =>
    rw [prvM_one n _ e hs] at hx
    rw [List.mem_singleton.1 hx]; exact itF_ok (hm e (by simp))
   | f + 1, e2 :: r, hm, hx =>
    rw [prvM_two n f (by simp) hs] at hx
    rcases List.mem_cons.1 hx with rfl | hx
    ·exact ⟨rfl, rfl⟩
    rcases List.mem_append.1 hx with hx | hx
    ·exact prvM_oks n f _ _ _ (fun y hy => hm y (List.mem_filter.1 hy).1) x hx
    ·exact prvM_oks n f _ _ _ (fun y hy => hm y (List.mem_filter.1 hy).1) x hx
theorem keys_bel {ks : List (List UInt8)} (hk : K32 ks) (h : keysI ks = 0) : ks ≠ [] ∧ Bel ks 0 := by
 unfold keysI at h
 split at h
 ·cases h
 split at h
 ·cases h
 ·exact ⟨‹_›, Bel.root hk h⟩
theorem pprove19_c {M : World → Int → Tv → Prop} (nd : NdV M) (w : World) (b : Nat) (n : Int) (m : Nat) (l : List Ent) (T : Tv) (ks : List (List UInt8)) (B : Option Addr) (cb : Nat) (hh : Hs w b n m) (hm : m ≤ 500000) (hv : Vars w) (hM : M w n T) (hT : IsMap l T) (hl : l.length ≤ 1000) (hK : KS w B ks) (hcb : ks.length ≤ cb) (hkl : ks.length ≤ 1000) (h0 : keysI ks = 0) :
  Calls Tryz.prog 12 #[ptr b, T.val, .slice B ks.length cb] w fun e w' => ∃ A' c' m', e = .returned (.tuple #[.slice A' (prvM n 256 l ks 0).flat.length c', .int .i64 0]) ∧ IA w' A' (prvM n 256 l ks 0).flat ∧ (prvM n 256 l ks 0).flat.length ≤ c' ∧ m' ≤ m + 1000 ∧ Hs w' b n m' ∧ Keep (fun i => i = b) w w' := by
 have HKC := Lib.hid (pkeys19_c w ks B cb hK (by omega))
 rw [h0] at HKC
 obtain ⟨_, hbel⟩ := keys_bel hK.k32 h0
 have hlen := prvM_len n 256 l ks 0
 have HOK := Lib.hid (prvM_oks n 256 l ks 0 hT.sep.len)
 have HIT : Hid (∀ z, Below w.heap.size w z → Calls Tryz.prog 38 #[.slice none 0 0, ptr b, T.val, .slice B ks.length cb, .int .i64 0] z fun e w' => ∃ v', e = .returned v' ∧ OwnIt w' w.heap.size v' (prvM n 256 l ks 0).flat ∧ Hs w' b n m ∧ Keep (fun i => i = b) w w') := fun z hz => by
  have := items_c nd n w b m m hh hv (by omega) 256 0 (by omega) l T ks B cb z (.slice none 0 0) [] hM hT.sub hK hcb hkl hbel (Keep.of_below hz) (hh.keep (Keep.of_below (L := fun _ => False) hz) id) (OwnIt.nil z _) (by rw [List.length_nil]; omega)
  rwa [List.nil_append] at this
 obtain ⟨fl, hfl⟩ : ∃ fl, fl = (prvM n 256 l ks 0).flat := ⟨_, rfl⟩
 rw [← hfl] at HIT HOK ⊢
 obtain ⟨pT, hpT⟩ := val_ptr nd hM
 rw [hpT] at HIT ⊢
 obtain ⟨N, hN⟩ : ∃ N, N = ks.length := ⟨_, rfl⟩
 rw [← hN] at HKC HIT ⊢
 clear hh hm hv hM hT hl hK hcb hkl h0 hbel hlen hfl hpT hN
 unfold ptr at *
 go_enter Tryz.func12, Tryz.ntmps12
 go_wp2_with fail
 refine HKC.out.mono ?_
 rintro _ w1 ⟨rfl, hb1⟩
 have HI1 := Lib.hid (HIT.out w1 hb1)
 clear hb1 HKC HIT
 go_wp2_with fail
 refine HI1.out.mono ?_
 rintro _ w2 ⟨v, rfl, hO, hH, hk⟩
 have HH2 := Lib.hid hH
 have HK2 := Lib.hid hk
 obtain ⟨A, c, rfl, hA, hc⟩ := hO.ia HOK.out
 have HA := Lib.hid hA
 have HC := Lib.hid hc
 clear hO hH hk HI1 hA hc
 go_wp2_with fail
 go_ret2
 exact ⟨A, c, m, rfl, HA.out, HC.out, Nat.le_add_right _ _, HH2.out, HK2.out⟩
theorem pproveBad19_c {M : World → Int → Tv → Prop} (nd : NdV M) (w : World) (b : Nat) (n : Int) (m : Nat) (T : Tv) (ks : List (List UInt8)) (B : Option Addr) (cb : Nat) (hh : Hs w b n m) (hM : M w n T) (hK : KS w B ks) (hkl : ks.length ≤ 100000) (h0 : keysI ks ≠ 0) :
  Calls Tryz.prog 12 #[ptr b, T.val, .slice B ks.length cb] w fun e w' => ∃ A' c' m', e = .returned (.tuple #[.slice A' 0 c', .int .i64 (keysI ks)]) ∧ m' ≤ m + 1000 ∧ Hs w' b n m' ∧ Keep (fun i => i = b) w w' := by
 have HKC := Lib.hid (pkeys19_c w ks B cb hK hkl)
 have HHW := Lib.hid hh
 obtain ⟨z, hz⟩ : ∃ z, z = keysI ks := ⟨_, rfl⟩
 rw [← hz] at HKC h0 ⊢
 have e0 : (z != 0) = true := by simpa using h0
 obtain ⟨pT, hpT⟩ := val_ptr nd hM
 rw [hpT]
 obtain ⟨N, hN⟩ : ∃ N, N = ks.length := ⟨_, rfl⟩
 rw [← hN] at HKC ⊢
 clear hh hM hK hkl h0 hz hpT hN
 unfold ptr at *
 go_enter Tryz.func12, Tryz.ntmps12
 go_wp2_with fail
 refine HKC.out.mono ?_
 rintro _ w1 ⟨rfl, hb1⟩
 have HB1 := Lib.hid hb1
 clear hb1 HKC
 go_wp2_with fail
 go_ret2
 exact ⟨none, 0, m, rfl, Nat.le_add_right _ _, HHW.out.keep (Keep.of_below (L := fun _ => False) HB1.out) id, Keep.of_below HB1.out⟩
end
end Go.Proofs.YtmfbhohjpkmllaaGreatDoor
