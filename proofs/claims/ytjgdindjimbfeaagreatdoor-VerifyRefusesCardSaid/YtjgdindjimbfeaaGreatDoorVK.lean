import Derived.Test.YtjgdindjimbfeaaGreatDoorVH
import Derived.Test.YtjgdindjimbfeaaGreatDoorAD
import Derived.Test.YtjgdindjimbfeaaGreatDoorMR
import Derived.Test.YtjgdindjimbfeaaGreatDoorVC
namespace Go.Proofs.YtjgdindjimbfeaaGreatDoor
set_option linter.unusedSimpArgs false
set_option linter.unusedVariables false
set_option maxHeartbeats 16000000
set_option maxRecDepth 100000
section
open Go.RowKit
theorem PfAt.stPart {w : World} {b o n : Nat} {t e : TypeId} {p : Pf} {s : Value} (h : PfAt w b p s) (pre mid post : List Value) (he : pfL p s = pre ++ (mid ++ post)) (ho : pre.length = o) (l : List UInt8) (hl : l.length = n) (hm : mid.length = n)
  (_hu : Tryz.prog.underlying t = some (.array n e)) (hi : (Tryz.prog.info? t).map (·.size) = some n) :
  stA t w (.pointer (some ⟨b, o, none⟩)) (.agg (bA l)) = .ok .skip (w.setCells b o (l.map bv)) ∧ (w.setCells b o (l.map bv)).heap[b]? = some (.cells (pre ++ (l.map bv ++ post)).toArray 53 (0, 0)) := by
 subst ho
 have h' : w.heap[b]? = some (.cells (pre ++ (mid ++ post)).toArray 53 (0, 0)) := by rw [← he]; exact h
 refine ⟨?_, ?_⟩
 ·unfold stA
  have ht : w.there b pre.length n := fun j hj => ⟨by
   have := range_mid h' j (mid[j]'(by omega)) (List.getElem?_eq_getElem _)
   rw [this]; rfl, frozen_of_row w b _ _ _ h⟩
  rw [Sem.run_bind, run_storeAt_mid (P := Tryz.prog) w b pre.length t (bA l) (by rw [bA_size, hl]; exact ht) (by rw [bA_size, hl]; exact hi) (bA_one l)]
  simp [Sem.run_pure, Result.andThen_ok, bA]
 ·rw [heap_setA b 53 (l.map bv) pre.length w _ h', setA_mid mid (l.map bv) pre post (by rw [List.length_map, hl, hm])]
theorem PfAt.stKey {w : World} {b : Nat} {p : Pf} {s : Value} (h : PfAt w b p s) (hp : p.Ok) (l : List UInt8) (hl : l.length = 32) :
  stA 48 w (.pointer (some ⟨b, 2, none⟩)) (.agg (bA l)) = .ok .skip (w.setCells b 2 (l.map bv)) ∧ PfAt (w.setCells b 2 (l.map bv)) b { p with lf := l ++ p.lf.drop 32 } s := by
 obtain ⟨h1, h2⟩ := h.stPart [.int .i64 p.kind, .int .i64 p.dep] ((p.lf.take 32).map bv) ((p.lf.drop 32).map bv ++ (p.bm.map bv ++ [s])) (by
  unfold pfL
  rw [← List.append_assoc ((p.lf.take 32).map bv), ← List.map_append, List.take_append_drop]; rfl) (o := 2) rfl l hl (by rw [List.length_map, List.length_take, hp.lf]; rfl) Tryz.underlying48 infoKey
 refine ⟨h1, h2.trans (congrArg (fun x => some (Obj.cells x 53 (0, 0))) ?_)⟩
 simp [pfC, pfL]
theorem PfAt.stVal {w : World} {b : Nat} {p : Pf} {s : Value} (h : PfAt w b p s) (hp : p.Ok) (l : List UInt8) (hl : l.length = 32) :
  stA 47 w (.pointer (some ⟨b, 34, none⟩)) (.agg (bA l)) = .ok .skip (w.setCells b 34 (l.map bv)) ∧ PfAt (w.setCells b 34 (l.map bv)) b { p with lf := p.lf.take 32 ++ l } s := by
 obtain ⟨h1, h2⟩ := h.stPart (.int .i64 p.kind :: .int .i64 p.dep :: (p.lf.take 32).map bv) ((p.lf.drop 32).map bv) (p.bm.map bv ++ [s]) (by
  unfold pfL
  rw [← List.append_assoc ((p.lf.drop 32).map bv), List.cons_append, List.cons_append, ← List.append_assoc ((p.lf.take 32).map bv), ← List.append_assoc ((p.lf.take 32).map bv), ← List.map_append, List.take_append_drop, List.append_assoc]) (o := 34) (by simp [hp.lf]) l hl (by rw [List.length_map, List.length_drop, hp.lf]) Tryz.underlying47 info26
 refine ⟨h1, h2.trans (congrArg (fun x => some (Obj.cells x 53 (0, 0))) ?_)⟩
 simp [pfC, pfL]
theorem PfAt.setDep {w : World} {b : Nat} {p : Pf} {s : Value} (h : PfAt w b p s) (v : Int) : PfAt (w.setCell ⟨b, 1, none⟩ (.int .i64 v)) b { p with dep := v } s := by
 have := heap_setCell_same w b 1 (pfC p s) 53 (.int .i64 v) h
 unfold PfAt
 rw [this]
 simp [pfC, pfL]
theorem or17 {a d : Nat} (ha : a < 256) (hd : d < 256) : bits .or .i64 ((a : Int) * 256) (d : Int) = 256 * (a : Int) + (d : Int) := by
 have e1 : (BitVec.ofInt 64 ((a : Int) * 256)).toNat = a <<< 8 := by
  rw [show (a : Int) * 256 = ((a * 256 : Nat) : Int) by omega, BitVec.ofInt_natCast, BitVec.toNat_ofNat, Nat.shiftLeft_eq]
  omega
 have e2 : (BitVec.ofInt 64 (d : Int)).toNat = d := by
  rw [BitVec.ofInt_natCast, BitVec.toNat_ofNat]
  omega
 show IntKind.i64.wrap (((BitVec.ofInt 64 ((a : Int) * 256)) ||| (BitVec.ofInt 64 (d : Int))).toNat : Int) = _
 rw [BitVec.toNat_or, e1, e2, ← Nat.shiftLeft_add_eq_or_of_lt (i := 8) hd a, wrap17 (by omega) (by rw [Nat.shiftLeft_eq]; omega), Nat.shiftLeft_eq]
 omega
theorem setCells_other17 {g k : Nat} (h : k ≠ g) : ∀ (vs : List Value) (o : Nat) (w : World), (w.setCells g o vs).heap[k]? = w.heap[k]?
 | [], _, _ => rfl
 | _ :: r, o, _ => (setCells_other17 h r (o + 1) _).trans (heap_setCell_other _ _ _ _ h)
theorem keep_setCells17 {L : Nat → Prop} {g : Nat} (hL : ∀ i, i = g → L i) : ∀ (vs : List Value) (o : Nat) (w : World), Keep L w (w.setCells g o vs)
 | [], _, _ => Keep.refl _ _
 | v :: r, o, w => ((Keep.cell w ⟨g, o, none⟩ v).mono hL).trans (keep_setCells17 hL r (o + 1) _)
theorem Keep.ofB17 {B : Nat} {a b : World} (h : Below B a b) : Keep (fun i => B ≤ i) a b := ⟨h.os, h.tape, h.output, h.size, fun i _ hl => h.block i (by omega)⟩
def L17 (z : Nat) (j : Nat) : Prop := j = z + 1 ∨ j = z + 1 + 1
theorem rd_block {w w' : World} {g q o c n i : Nat} (h : RdAt w g q o c n i) (e : w'.heap[g]? = w.heap[g]?) : RdAt w' g q o c n i := by
 obtain ⟨A, h1, h2⟩ := h
 exact ⟨A, e.trans h1, h2⟩
theorem RdAt.lt {w : World} {g q o c n i : Nat} (h : RdAt w g q o c n i) : g < w.heap.size := by
 obtain ⟨A, h1, _⟩ := h
 exact lt_of_heap h1
theorem rp_end17p {z : Nat} {V wr w9 : World} {p : Pf} {s s' : Value} {l : List (List UInt8)} (hgV : z + 1 + 1 < V.heap.size) (hp : p.Ok) (hK : Keep (L17 z) V wr) (hS : Keep (fun j => j = z + 1 ∨ V.heap.size ≤ j) wr w9) (hO : OwnD w9 V.heap.size s' l) (hP : PfAt w9 (z + 1 + 1) p s) :
  Hid (PfAt (w9.setCell ⟨z + 1 + 1, 98, none⟩ s') (z + 1 + 1) p s') ∧ Hid (OwnD (w9.setCell ⟨z + 1 + 1, 98, none⟩ s') V.heap.size s' l) ∧ Hid (Keep (L17 z) V (w9.setCell ⟨z + 1 + 1, 98, none⟩ s')) := by
 have k : Keep (L17 z) w9 (w9.setCell ⟨z + 1 + 1, 98, none⟩ s') := (Keep.cell w9 ⟨z + 1 + 1, 98, none⟩ s').mono fun i e => .inr e
 refine ⟨hP.setSib hp s', ?_, ?_⟩
 ·exact row11_other hO fun i cs h1 hh => by
   have := hO.ge i h1
   rw [heap_setCell_other _ _ _ _ (show i ≠ z + 1 + 1 by omega)]
   exact hh
 ·refine (hK.step hS fun i e => ?_).trans k
  rcases e with e | e
  ·exact .inl (.inl e)
  ·exact .inr e
theorem pread17_c (w : World) (b : List UInt8) (A : Option Addr) (c : Nat) (hA : BA w A b) (hc : b.length ≤ c) (hl : b.length ≤ 1000000) (h36 : 36 ≤ b.length) (h1 : at8 b 1 ≤ 1) (hR : restP b ≤ b.length) (hm : (b.length - restP b) % 32 = 0) :
  Calls Tryz.prog 63 #[.slice A b.length c] w fun e w' => ∃ A' c', e = .returned (.agg (pfC (rawP b) (.slice A' (rawP b).sib.length c'))) ∧ NewD w' w.heap.size A' c' (rawP b).sib ∧ Below w.heap.size w w' := by
 obtain ⟨q, o, rfl, hcell⟩ := cellP8 hA (by omega)
 obtain ⟨X, hX⟩ : ∃ X, X = ((w.alloc (.cells (pfC zPf (.slice none 0 0)) 53)).alloc (.cells #[.slice (some ⟨q, o, none⟩) b.length c] 179)).alloc (.cells (pfC zPf (.slice none 0 0)) 53) := ⟨_, rfl⟩
 have hq : q < w.heap.size := by have h := lt_of_cell (hcell 0 (by omega)); exact h
 have hB : Below w.heap.size w X := by rw [hX]; exact (Bt.two_below _ _ _).alloc (by simp; omega) _
 have hzX : X.heap.size = w.heap.size + 3 := by rw [hX]; simp
 have HP0 : Hid (PfAt X (w.heap.size + 1 + 1) zPf (.slice none 0 0)) := by
  show PfAt _ _ _ _
  have h := PfAt.one ((w.alloc (.cells (pfC zPf (.slice none 0 0)) 53)).alloc (.cells #[.slice (some ⟨q, o, none⟩) b.length c] 179)) zPf (.slice none 0 0)
  rw [hX]
  simpa using h
 have HRX : Hid (PfAt X w.heap.size zPf (.slice none 0 0)) := by
  show PfAt _ _ _ _
  have h := heap_alloc2_old w (.cells (pfC zPf (.slice none 0 0)) 53) (.cells #[.slice (some ⟨q, o, none⟩) b.length c] 179)
  rw [hX]
  exact (Below.block (((Below.refl _ _).alloc (Nat.le_refl _) _)) _ (lt_of_heap h)).trans h
 have HR0 : Hid (RdAt X (w.heap.size + 1) q o c b.length 0) := by
  have h := heap_alloc2_new w (.cells (pfC zPf (.slice none 0 0)) 53) (.cells #[.slice (some ⟨q, o, none⟩) b.length c] 179)
  refine ⟨some ⟨q, o, none⟩, ?_, fun _ => rfl⟩
  rw [hX]
  exact (Below.block (((Below.refl _ _).alloc (Nat.le_refl _) _)) _ (lt_of_heap h)).trans h
 have HNL : Hid (¬ L17 w.heap.size q) := by show ¬ _; unfold L17; omega
 have HCE : Hid (∀ i, i < b.length → ∀ W, Keep (L17 w.heap.size) X W → W.cell? ⟨q, o + i, none⟩ = some (.int .u8 (at8 b i : Int))) := fun i hi W h =>
  h.cellAt ((hB.cell (p := ⟨q, o + i, none⟩) (lt_of_cell (hcell i hi))).trans (hcell i hi)) HNL.out
 have HBA : Hid (∀ W, Keep (L17 w.heap.size) X W → BA W (some ⟨q, o, none⟩) b) := fun W h j x hx => by
  refine ⟨q, o, rfl, ?_⟩
  obtain ⟨q', o', e, h1⟩ := hA j x hx
  cases e
  exact h.cellAt ((hB.cell (p := ⟨q, o + j, none⟩) (lt_of_cell h1)).trans h1) HNL.out
 have HK0 : Hid (Keep (L17 w.heap.size) X X) := Keep.refl _ _
 have HL1 : Hid (∀ W W', Keep (fun j => j = w.heap.size + 1) W W' → Keep (L17 w.heap.size) W W') := fun W W' h => h.mono fun i e => .inl e
 have HP1 : Hid (∀ W W' p s, Keep (fun j => j = w.heap.size + 1) W W' → PfAt W (w.heap.size + 1 + 1) p s → PfAt W' (w.heap.size + 1 + 1) p s) := fun W W' p s h hp => hp.keep h (by omega)
 obtain ⟨kd, hkd⟩ : ∃ kd, kd = at8 b 1 := ⟨_, rfl⟩
 obtain ⟨e2, he2⟩ : ∃ x, x = at8 b 2 := ⟨_, rfl⟩
 obtain ⟨e3, he3⟩ : ∃ x, x = at8 b 3 := ⟨_, rfl⟩
 have b2 : e2 < 256 := by rw [he2]; exact at8_lt b 2
 have b3 : e3 < 256 := by rw [he3]; exact at8_lt b 3
 have wk : IntKind.i64.wrap (kd : Int) = kd := wrap17 (by omega) (by omega)
 have HN0 : Hid (Calls Tryz.prog 106 #[.pointer (some ⟨w.heap.size + 1, 0, none⟩), .int .i64 2] X fun e w' => e = .returned (.slice (some ⟨q, o, none⟩) 2 c) ∧ RdAt w' (w.heap.size + 1) q o c b.length 2 ∧ Keep (fun j => j = w.heap.size + 1) X w') :=
  next17_c X (w.heap.size + 1) q o c b.length 0 2 HR0.out (by omega) (by omega) hc hl
 have HQ : Hid (q < w.heap.size) := hq
 have HX := Lib.hid hX
 have HB := Lib.hid hB
 have HZX := Lib.hid hzX
 have HC := Lib.hid hc
 have HLE := Lib.hid hl
 have H36 := Lib.hid h36
 have HKD := Lib.hid hkd
 have HE2 := Lib.hid he2
 have HE3 := Lib.hid he3
 have HRP := Lib.hid hR
 have HMD := Lib.hid hm
 have HK1L : Hid (kd ≤ 1) := by show _ ≤ _; rw [hkd]; exact h1
 clear hA hX hcell hc hl h36 h1 hR hm hq hB hzX hkd he2 he3
 go_enter Tryz.func63, Tryz.ntmps63
 go_wp2_with fail
 rw [← HX.out]
 refine HN0.out.mono ?_
 rintro _ w1 ⟨rfl, hR1, hK1⟩
 have HKW1 : Hid (Keep (L17 w.heap.size) X w1) := HL1.out _ _ hK1
 have HPW1 := Lib.hid (HP1.out _ _ _ _ hK1 HP0.out)
 have c1 := HCE.out 1 (by have := H36.out; omega) w1 HKW1.out
 rw [← HKD.out] at c1
 have pc := HPW1.out.kind
 have pf : w1.frozen? ⟨w.heap.size + 1 + 1, 0, none⟩ = false := frozen_of_row w1 _ _ _ _ HPW1.out
 have HRW1 := Lib.hid hR1
 obtain ⟨W1, hW1⟩ : ∃ W1, W1 = w1.setCell ⟨w.heap.size + 1 + 1, 0, none⟩ (.int .i64 (kd : Int)) := ⟨_, rfl⟩
 have HPS1 : Hid (PfAt W1 (w.heap.size + 1 + 1) ⟨kd, 0, z64, z26, []⟩ (.slice none 0 0)) := by show PfAt _ _ _ _; rw [hW1]; exact HPW1.out.setKind kd
 have HKS1 : Hid (Keep (L17 w.heap.size) X W1) := by show Keep _ _ _; rw [hW1]; exact HKW1.out.trans ((Keep.cell w1 ⟨w.heap.size + 1 + 1, 0, none⟩ _).mono fun i e => .inr e)
 have HRS1 : Hid (RdAt W1 (w.heap.size + 1) q o c b.length 2) := rd_block HRW1.out (by rw [hW1]; exact heap_setCell_other _ _ _ _ (Nat.ne_of_lt (Nat.lt_succ_self _)))
 have HN1 : Hid (Calls Tryz.prog 106 #[.pointer (some ⟨w.heap.size + 1, 0, none⟩), .int .i64 2] W1 fun e w' => e = .returned (.slice (some ⟨q, o + 2, none⟩) 2 (c - 2)) ∧ RdAt w' (w.heap.size + 1) q o c b.length 4 ∧ Keep (fun j => j = w.heap.size + 1) W1 w') :=
  next17_c W1 (w.heap.size + 1) q o c b.length 2 2 HRS1.out (by omega) (by have := H36.out; omega) HC.out HLE.out
 have HW1 := Lib.hid hW1
 clear hR1 hK1 HN0 HR0 HP0 HRW1 hW1
 go_wp2_with fail
 rw [← HW1.out]
 refine HN1.out.mono ?_
 rintro _ w2 ⟨rfl, hR2, hK2⟩
 have HKW2 : Hid (Keep (L17 w.heap.size) X w2) := HKS1.out.trans (HL1.out _ _ hK2)
 have HPW2 := Lib.hid (HP1.out _ _ _ _ hK2 HPS1.out)
 have c2 := HCE.out 2 (by have := H36.out; omega) w2 HKW2.out
 have c3 := HCE.out 3 (by have := H36.out; omega) w2 HKW2.out
 rw [← HE2.out] at c2
 rw [← HE3.out] at c3
 have pc2 := HPW2.out.dep
 have pf2 : w2.frozen? ⟨w.heap.size + 1 + 1, 1, none⟩ = false := frozen_of_row w2 _ _ _ _ HPW2.out
 have HRW2 := Lib.hid hR2
 clear hR2 hK2 HN1 c1 pc pf HKW1 HPW1 HW1
 go_wp2_with fail
 refine wp_region_drawn_tail 11 (by kernel_rfl) (by kernel_rfl) ?_
 simp only [List.take_succ_cons, List.take_zero, List.drop_succ_cons, List.drop_zero]
 repeat (go_big_quiet_step (fail))
 refine wpQuiet_nil ?_
 rintro _ ⟨nq, rfl⟩
 rw [or17 b2 b3]
 obtain ⟨W2, hW2⟩ : ∃ W2, W2 = (w2.setCell ⟨w.heap.size + 1 + 1, 1, none⟩ (.int .i64 (256 * (e2 : Int) + (e3 : Int)))).drewN nq := ⟨_, rfl⟩
 have HPS2 : Hid (PfAt W2 (w.heap.size + 1 + 1) ⟨kd, 256 * (e2 : Int) + (e3 : Int), z64, z26, []⟩ (.slice none 0 0)) := by show PfAt _ _ _ _; rw [hW2]; exact HPW2.out.setDep _
 have HKS2 : Hid (Keep (L17 w.heap.size) X W2) := by show Keep _ _ _; rw [hW2]; exact (HKW2.out.trans ((Keep.cell w2 ⟨w.heap.size + 1 + 1, 1, none⟩ _).mono fun i e => .inr e)).drewN nq
 have HRS2 : Hid (RdAt W2 (w.heap.size + 1) q o c b.length 4) := rd_block HRW2.out (by rw [hW2]; exact heap_setCell_other _ _ _ _ (Nat.ne_of_lt (Nat.lt_succ_self _)))
 have HN2 : Hid (Calls Tryz.prog 106 #[.pointer (some ⟨w.heap.size + 1, 0, none⟩), .int .i64 32] W2 fun e w' => e = .returned (.slice (some ⟨q, o + 4, none⟩) 32 (c - 4)) ∧ RdAt w' (w.heap.size + 1) q o c b.length 36 ∧ Keep (fun j => j = w.heap.size + 1) W2 w') :=
  next17_c W2 (w.heap.size + 1) q o c b.length 4 32 HRS2.out (by omega) (by have := H36.out; omega) HC.out HLE.out
 have HW2 := Lib.hid hW2
 clear hW2 c2 c3
 go_wp2_with fail
 rw [← HW2.out]
 refine HN2.out.mono ?_
 rintro _ w3 ⟨rfl, hR3, hK3⟩
 have HKW3 : Hid (Keep (L17 w.heap.size) X w3) := HKS2.out.trans (HL1.out _ _ hK3)
 have HPW3 := Lib.hid (HP1.out _ _ _ _ hK3 HPS2.out)
 obtain ⟨bm, hbm⟩ : ∃ x, x = (b.drop 4).take 32 := ⟨_, rfl⟩
 have HBML : Hid (bm.length = 32) := by show _ = _; rw [hbm, List.length_take, List.length_drop]; have := H36.out; omega
 have la := (HBA.out w3 HKW3.out).ld (p := 4) (n := 32) (t := 46) (by have := H36.out; omega) Tryz.underlying46 Bt.infoAr
 rw [← hbm] at la
 have a1 := fun w => arr_at (t := 46) Tryz.underlying46 (some ⟨q, o + 4, none⟩) 32 (c - 4) (Nat.le_refl _) w
 have HPO3 : Hid (Pf.Ok ⟨kd, 256 * (e2 : Int) + (e3 : Int), z64, z26, []⟩) := ⟨rfl, rfl, fun s h => by simp at h⟩
 obtain ⟨st3, hp3⟩ := HPW3.out.stBm HPO3.out bm HBML.out
 obtain ⟨W3, hW3⟩ : ∃ W3, W3 = w3.setCells (w.heap.size + 1 + 1) 66 (bm.map bv) := ⟨_, rfl⟩
 rw [← hW3] at st3 hp3
 have HPS3 : Hid (PfAt W3 (w.heap.size + 1 + 1) ⟨kd, 256 * (e2 : Int) + (e3 : Int), z64, bm, []⟩ (.slice none 0 0)) := hp3
 have HKS3 : Hid (Keep (L17 w.heap.size) X W3) := by show Keep _ _ _; rw [hW3]; exact HKW3.out.trans (keep_setCells17 (fun i e => .inr e) _ _ _)
 have HRS3 : Hid (RdAt W3 (w.heap.size + 1) q o c b.length 36) := rd_block hR3 (by rw [hW3]; exact setCells_other17 (Nat.ne_of_lt (Nat.lt_succ_self _)) _ _ _)
 have HW3 := Lib.hid hW3
 have HBM := Lib.hid hbm
 have k3 := HPS3.out.kind
 clear hbm hW3 hp3 hR3 hK3 HN2 HW2 pc2 pf2 HRW2 HPW2 HKW2
 rcases (show kd = 0 ∨ kd = 1 by have := HK1L.out; omega) with hk | hk
 ·have k4 : W3.cell? ⟨w.heap.size + 1 + 1, 0, none⟩ = some (.int .i64 0) := by rw [k3, hk]; rfl
  have HRS : Hid (restP b = 36) := by show _ = _; unfold restP; rw [if_neg (by rw [← HKD.out]; omega)]
  have HLFL : Hid ((z64).length = 64) := rfl
  have HKZ := Lib.hid hk
  clear hk k3
  go_wp2_with fail
  obtain ⟨rs, hrs⟩ : ∃ rs, rs = b.drop 36 := ⟨_, rfl⟩
  have HRSE := Lib.hid hrs
  have HP1O : Hid (Pf.Ok ⟨kd, 256 * (e2 : Int) + (e3 : Int), z64, bm, []⟩) := ⟨HLFL.out, HBML.out, fun s h => by simp at h⟩
  have HGV : Hid (w.heap.size + 1 + 1 < W3.heap.size) := HPS3.out.lt
  obtain ⟨M, hM⟩ : ∃ M, 36 + 32 * M = b.length := ⟨(b.length - 36) / 32, by have h1 := HRS.out; have h2 := HRP.out; have h3 := HMD.out; rw [h1] at h2 h3; omega⟩
  have HMN := Lib.hid hM
  clear hrs hM
  go_loopg [] M (fun gg wr => ∃ (k : Nat) (As : Option Addr) (cs : Nat), k ≤ M ∧ M - k = gg ∧ RdAt wr (w.heap.size + 1) q o c b.length (36 + 32 * k) ∧ PfAt wr (w.heap.size + 1 + 1) ⟨kd, 256 * (e2 : Int) + (e3 : Int), z64, bm, []⟩ (.slice As (chunks rs k).length cs) ∧ OwnD wr W3.heap.size (.slice As (chunks rs k).length cs) (chunks rs k) ∧ Keep (L17 w.heap.size) W3 wr)
  case atStart => exact ⟨0, none, 0, by omega, by omega, HRS3.out, HPS3.out, OwnD.nil _ _, Keep.refl _ _⟩
  case round =>
   obtain ⟨k, As, cs, hk, rfl, hR, hP, hO, hK⟩ := hrel
   have HVR : Hid (W3.heap.size ≤ wr.heap.size) := hK.size
   have HKX : Hid (Keep (L17 w.heap.size) X wr) := HKS3.out.trans hK
   have HKR := Lib.hid hK
   have HPR := Lib.hid hP
   have HO := Lib.hid hO
   have HRR := Lib.hid hR
   obtain ⟨Ar, hr1, -⟩ := hR
   have rc : wr.cell? ⟨w.heap.size + 1, 0, none⟩ = some (.slice Ar (b.length - (36 + 32 * k)) (c - (36 + 32 * k))) := by rw [cell_of_cells hr1]; rfl
   have c98 := hP.sib HP1O.out
   obtain ⟨m, hm⟩ : ∃ m, m = b.length - (36 + 32 * k) := ⟨_, rfl⟩
   rw [← hm] at rc
   have hcl : (chunks rs k).length = k := chunks_len rs k
   have hmn := HMN.out
   have hle := HLE.out
   clear hK hP hO hr1
   by_cases h1 : k < M
   ·have d1 : decide (0 < m) = true := decide_eq_true (by omega)
    obtain ⟨rt, hrt⟩ : ∃ rt, rt = (b.drop (36 + 32 * k)).take 32 := ⟨_, rfl⟩
    have HRL : Hid (rt.length = 32) := by show _ = _; rw [hrt, List.length_take, List.length_drop]; omega
    have HCH : Hid (chunks rs (k + 1) = chunks rs k ++ [rt]) := by show _ = _; rw [hrt, HRSE.out, chunks_succ, List.drop_drop, Nat.mul_comm k 32]
    have HMM : Hid (∀ s ∈ chunks rs k ++ [rt], s.length = 32) := fun s hs => by
     rw [← HCH.out] at hs
     exact chunks_each (by rw [HRSE.out, List.length_drop]; omega) s hs
    have HSL : Hid ((chunks rs k).length ≤ 1000000) := by show _ ≤ _; omega
    have HNX : Hid (Calls Tryz.prog 106 #[.pointer (some ⟨w.heap.size + 1, 0, none⟩), .int .i64 32] wr.drew fun e w' => e = .returned (.slice (some ⟨q, o + (36 + 32 * k), none⟩) 32 (c - (36 + 32 * k))) ∧ RdAt w' (w.heap.size + 1) q o c b.length (36 + 32 * k + 32) ∧ Keep (fun j => j = w.heap.size + 1) wr.drew w') :=
     next17_c wr.drew (w.heap.size + 1) q o c b.length (36 + 32 * k) 32 HRR.out (by omega) (by omega) HC.out HLE.out
    have LB : Hid (∀ q, Keep (fun j => j = w.heap.size + 1 ∨ W3.heap.size ≤ j) wr q → q.cell? ⟨w.heap.size + 1 + 1, 98, none⟩ = some (.slice As (chunks rs k).length cs)) := fun q h => (HPR.out.keep h (by have := HGV.out; omega)).sib HP1O.out
    have LD : Hid (∀ x, Keep (fun j => j = w.heap.size + 1 ∨ W3.heap.size ≤ j) wr x → ldA 47 x (.pointer (some ⟨q, o + (36 + 32 * k), none⟩)) = .ok (.value (.agg (bA rt))) x) := fun x h => by
     have h2 : BA x (some ⟨q, o, none⟩) b := fun j y hy => by
      obtain ⟨q', o', e, hc⟩ := HBA.out wr HKX.out j y hy
      cases e
      exact ⟨q, o, rfl, h.cellAt hc (show ¬ (q = w.heap.size + 1 ∨ W3.heap.size ≤ q) by have h1 := HQ.out; have h2 := HGV.out; omega)⟩
     have h3 := h2.ld (p := 36 + 32 * k) (n := 32) (t := 47) (by omega) Tryz.underlying47 info26
     rwa [← hrt] at h3
    have a3 := fun w => arr_at (t := 47) Tryz.underlying47 (some ⟨q, o + (36 + 32 * k), none⟩) 32 (c - (36 + 32 * k)) (Nat.le_refl _) w
    have bsx := bsD_one rt HRL.out
    have HLT := Lib.hid h1
    clear hrt hcl hmn hle hm h1
    go_wp2_with fail
    refine region_heldT 9 (fun q => Keep (fun j => j = w.heap.size + 1 ∨ W3.heap.size ≤ j) wr q) (by kernel_rfl) ?_
    have hHeld : Keep (fun j => j = w.heap.size + 1 ∨ W3.heap.size ≤ j) wr wr.drew := (Keep.refl _ _).drew
    refine HeldT.take (i := 0) (oi := { dst := some 53, op := .fieldAddr _ (.tmp 5) 4, .. }) (v := ?_) rfl (by kernel_rfl) (by kernel_rfl) (by kernel_rfl) (by kernel_rfl) (fun _ _ _ h => h) (Or.inl ⟨by rfl, ?_⟩) (by assumption) ?_
    rotate_left 1
    ·intro v hSv
     clear hSv
     go_simp
     try with_reducible rfl
    try simp only [Act.put, x_A, x_0, x_1]
    refine HeldT.take (i := 1) (oi := { dst := some 54, op := .load _ (.tmp 53), .. }) (v := ?_) rfl (by kernel_rfl) (by kernel_rfl) (by kernel_rfl) (by kernel_rfl) (fun _ _ _ h => h) (Or.inl ⟨by rfl, ?_⟩) (by assumption) ?_
    rotate_left 1
    ·intro v hSv
     have hv1 := LB.out v hSv
     clear hSv
     go_simp
     try with_reducible rfl
    try simp only [Act.put, x_A, x_0, x_1]
    refine HeldT.take (i := 2) (oi := { dst := some 55, op := .move (.tmp 4), .. }) (v := ?_) rfl (by kernel_rfl) (by kernel_rfl) (by kernel_rfl) (by kernel_rfl) (fun _ _ _ h => h) (Or.inl ⟨by rfl, ?_⟩) (by assumption) ?_
    rotate_left 1
    ·intro v hSv
     clear hSv
     go_simp
     try with_reducible rfl
    try simp only [Act.put, x_A, x_0, x_1]
    refine HeldT.one (i := 3) (o := { dst := some 56, op := .call _, .. }) (by kernel_rfl) rfl rfl (fun K hK => ?_)
    go_wp2_with fail
    refine HNX.out.mono ?_
    rintro e y1 ⟨rfl, hr1, hk1⟩
    have hq1 : Keep (fun j => j = w.heap.size + 1 ∨ W3.heap.size ≤ j) wr y1 := hHeld.trans (hk1.mono fun i e => .inl e)
    have HQ1 := Lib.hid hq1
    have HK1 := Lib.hid hk1
    have HR1 := Lib.hid hr1
    clear hk1 hr1
    go_wp2_with fail
    refine hK.out _ _ (fun _ => hq1) (fun hS => ?_)
    have hHeld := hS (by decide)
    clear hS hK K
    try simp only [Act.put, x_A, x_0, x_1]
    clear hq1
    refine HeldT.take (i := 4) (oi := { dst := some 57, op := .sliceToArrayPointer _ (.tmp 56), .. }) (v := ?_) rfl (by kernel_rfl) (by kernel_rfl) (by kernel_rfl) (by kernel_rfl) (fun _ _ _ h => h) (Or.inl ⟨by rfl, ?_⟩) (by assumption) ?_
    rotate_left 1
    ·intro v hSv
     clear hSv
     go_simp
     try with_reducible rfl
    try simp only [Act.put, x_A, x_0, x_1]
    refine HeldT.take (i := 5) (oi := { dst := some 58, op := .load _ (.tmp 57), .. }) (v := ?_) rfl (by kernel_rfl) (by kernel_rfl) (by kernel_rfl) (by kernel_rfl) (fun _ _ _ h => h) (Or.inl ⟨by rfl, ?_⟩) (by assumption) ?_
    rotate_left 1
    ·intro v hSv
     have hv1 := LD.out v hSv
     clear hSv
     go_simp
     try with_reducible rfl
    try simp only [Act.put, x_A, x_0, x_1]
    refine HeldT.one (i := 6) (o := { dst := some 59, op := .buildSlice _ _ _, .. }) (by kernel_rfl) rfl rfl (fun K hK => ?_)
    obtain ⟨Z, hZ⟩ : ∃ Z, Z = y1.alloc (.cells (bA rt) 47) := ⟨_, rfl⟩
    have hq2 : Keep (fun j => j = w.heap.size + 1 ∨ W3.heap.size ≤ j) wr Z := by rw [hZ]; exact HQ1.out.alloc _
    have HZR : Hid (Z.rangeAt y1.heap.size 0 (dC rt)) := by show World.rangeAt _ _ _ _; rw [hZ]; exact dig_made _ _ _
    have HBZ : Hid (Below y1.heap.size y1 Z) := by show Below _ _ _; rw [hZ]; exact (Below.refl _ _).alloc (Nat.le_refl _) _
    have HQ2 := Lib.hid hq2
    have HZ := Lib.hid hZ
    clear hZ HQ1
    go_wp2_with fail
    rw [← HZ.out]
    refine hK.out _ _ (fun _ => hq2) (fun hS => ?_)
    have hHeld := hS (by decide)
    clear hS hK K
    try simp only [Act.put, x_A, x_0, x_1]
    clear hq2 HZ
    refine HeldT.one (i := 7) (o := { dst := some 60, op := .call _, .. }) (by kernel_rfl) rfl rfl (fun K hK => ?_)
    have hoy : OwnD y1 W3.heap.size (.slice As (chunks rs k).length cs) (chunks rs k) := row11_keep (HO.out.below (Below.refl _ _).drew) HK1.out (fun i hi e => by have h1 := HO.out.ge i hi; have h2 := HGV.out; omega)
    have HOZ := Lib.hid (hoy.below HBZ.out)
    clear hoy
    have hzs : W3.heap.size ≤ Z.heap.size := Nat.le_trans HVR.out HQ2.out.size
    go_wp2_with (at_builtin; refine wpList_pushD rfl _ _ rfl W3.heap.size (.slice As (chunks rs k).length cs) (chunks rs k) rfl HOZ.out y1.heap.size rt HRL.out rfl HZR.out HSL.out hzs ?_; intro v9 w9 hO9 hG9; obtain ⟨A9, c9, rfl, _, _⟩ := hO9.ds HMM.out)
    have HO9 := Lib.hid hO9
    have hbz9 : Below W3.heap.size Z w9 := (Below.refl _ _).grown hG9.by_ hzs HOZ.out.ge
    have HS9 : Hid (Keep (fun j => j = w.heap.size + 1 ∨ W3.heap.size ≤ j) wr w9) := HQ2.out.trans ((Keep.ofB17 hbz9).mono fun i e => .inr e)
    have HR9 : Hid (RdAt w9 (w.heap.size + 1) q o c b.length (36 + 32 * k + 32)) := rd_block (rd_block HR1.out (HBZ.out.block _ HR1.out.lt)) (hbz9.block _ (by have := HGV.out; omega))
    refine hK.out _ _ (fun _ => HS9.out) (fun hS => ?_)
    have hHeld := hS (by decide)
    clear hS hK K
    try simp only [Act.put, x_A, x_0, x_1]
    clear hO9 hG9 hzs HOZ HZR hbz9 HR1 HK1 HBZ
    refine HeldT.take (i := 8) (oi := { dst := some 61, op := .fieldAddr _ (.tmp 5) 4, .. }) (v := ?_) rfl (by kernel_rfl) (by kernel_rfl) (by kernel_rfl) (by kernel_rfl) (fun _ _ _ h => h) (Or.inl ⟨by rfl, ?_⟩) (by assumption) ?_
    rotate_left 1
    ·intro v hSv
     clear hSv
     go_simp
     try with_reducible rfl
    try simp only [Act.put, x_A, x_0, x_1]
    refine HeldT.one (i := 9) (o := { dst := none, op := .store _ (.tmp 61) (.tmp 60), .. }) (by kernel_rfl) rfl rfl (fun K hK => ?_)
    have hP9 : PfAt w9 (w.heap.size + 1 + 1) ⟨kd, 256 * (e2 : Int) + (e3 : Int), z64, bm, []⟩ (.slice As (chunks rs k).length cs) := HPR.out.keep HS9.out (by have := HGV.out; omega)
    have hcell := hP9.sib HP1O.out
    have hfree : w9.frozen? ⟨w.heap.size + 1 + 1, 98, none⟩ = false := frozen_of_row w9 _ _ _ _ hP9
    obtain ⟨HPW, HOW, HKW⟩ := rp_end17p HGV.out HP1O.out HKR.out HS9.out HO9.out hP9
    have HRW : Hid (RdAt (w9.setCell ⟨w.heap.size + 1 + 1, 98, none⟩ (.slice A9 (chunks rs k ++ [rt]).length c9)) (w.heap.size + 1) q o c b.length (36 + 32 * k + 32)) := rd_block HR9.out (heap_setCell_other _ _ _ _ (Nat.ne_of_lt (Nat.lt_succ_self _)))
    clear hP9
    go_wp2_with fail
    refine hK.out _ _ (fun h => absurd rfl h) (fun _ => ?_)
    clear hK K
    refine HeldT.done (by kernel_rfl) ?_ _
    go_wp2
    go_roundg (M - (k + 1))
    case measure => have := HLT.out; omega
    case rel =>
     have e9 : (chunks rs (k + 1)).length = (chunks rs k).length + 1 := by rw [chunks_len, chunks_len]
     rw [List.length_append, List.length_singleton] at HPW HOW HKW HRW
     refine ⟨k + 1, A9, c9, by have := HLT.out; omega, rfl, ?_, ?_, ?_, HKW.out⟩
     ·rw [show 36 + 32 * (k + 1) = 36 + 32 * k + 32 by omega]; exact HRW.out
     ·rw [e9]; exact HPW.out
     ·rw [e9, HCH.out]; exact HOW.out
   ·have d1 : decide (0 < m) = false := decide_eq_false (by omega)
    obtain rfl : k = M := by omega
    have hRAW : rawP b = ⟨kd, 256 * (e2 : Int) + (e3 : Int), z64, bm, chunks rs k⟩ := by
     unfold rawP
     rw [HRS.out, ← HRSE.out, ← HKD.out, ← HE2.out, ← HE3.out]
     rw [if_neg (by have := HKZ.out; omega)]
     rw [show (b.length - 36) / 32 = k by omega, HBM.out]
    have hok : Pf.Ok ⟨kd, 256 * (e2 : Int) + (e3 : Int), z64, bm, chunks rs k⟩ := by rw [← hRAW]; exact rawP_ok H36.out HRP.out
    have HPK : Hid (PfAt wr (w.heap.size + 1 + 1) ⟨kd, 256 * (e2 : Int) + (e3 : Int), z64, bm, chunks rs k⟩ (.slice As (chunks rs k).length cs)) := HPR.out
    have lpk := HPK.out.ld hok
    have hrv : PfAt wr w.heap.size zPf (.slice none 0 0) := HRX.out.keep HKX.out (by unfold L17; omega)
    have stz : stA 53 wr (.pointer (some ⟨w.heap.size, 0, none⟩)) (.agg (pfC ⟨kd, 256 * (e2 : Int) + (e3 : Int), z64, bm, chunks rs k⟩ (.slice As (chunks rs k).length cs))) = .ok .skip (wr.setRow w.heap.size (pfC ⟨kd, 256 * (e2 : Int) + (e3 : Int), z64, bm, chunks rs k⟩ (.slice As (chunks rs k).length cs))) := stA_row hrv (by rw [pfC_size hok]; exact infoPf) (by rw [pfC_size hok, pfC_size zPf_ok]) (pfC_one _ _ _ _)
    have HROW : Hid (PfAt (wr.setRow w.heap.size (pfC ⟨kd, 256 * (e2 : Int) + (e3 : Int), z64, bm, chunks rs k⟩ (.slice As (chunks rs k).length cs))) w.heap.size ⟨kd, 256 * (e2 : Int) + (e3 : Int), z64, bm, chunks rs k⟩ (.slice As (chunks rs k).length cs)) := setRow_heap _ _ _ _ _ _ hrv
    have HBF : Hid (Below w.heap.size w (wr.setRow w.heap.size (pfC ⟨kd, 256 * (e2 : Int) + (e3 : Int), z64, bm, chunks rs k⟩ (.slice As (chunks rs k).length cs)))) := Bt.below_row (HB.out.trans (HKX.out.below HB.out.size fun i e => by unfold L17 at e; omega)) (Nat.le_refl _) _
    have HOF : Hid (OwnD (wr.setRow w.heap.size (pfC ⟨kd, 256 * (e2 : Int) + (e3 : Int), z64, bm, chunks rs k⟩ (.slice As (chunks rs k).length cs))) w.heap.size (.slice As (chunks rs k).length cs) (chunks rs k)) := (row11_other HO.out fun i cs' hg hh => by
     have hge := HO.out.ge i hg
     rw [setRow_other _ _ _ _ (by have := HGV.out; omega)]
     exact hh : OwnD _ W3.heap.size (.slice As (chunks rs k).length cs) (chunks rs k)).mono (by have := HGV.out; omega)
    have HCC : Hid ((chunks rs k).length ≤ cs) := by
     obtain ⟨A8, c8, e8, _, h8⟩ := HO.out.ds hok.sib
     cases e8
     exact h8
    have HRAW := Lib.hid hRAW
    have HOK := Lib.hid hok
    clear hrv hok hRAW hmn hcl hle hm h1
    go_wp2_with fail
    refine bodyPost_ret (v := .agg (pfC ⟨kd, 256 * (e2 : Int) + (e3 : Int), z64, bm, chunks rs k⟩ (.slice As (chunks rs k).length cs))) ?_ rfl ⟨As, cs, by rw [HRAW.out], ⟨by rw [HRAW.out]; exact HCC.out, .inr (by rw [HRAW.out]; exact HOF.out)⟩, HBF.out⟩
    exact results_cell_row Tryz.results63 _ _ w.heap.size 53 _ (0, 0) _ rfl HROW.out Tryz.underlying53 rfl (by rw [pfC_size HOK.out]; exact infoPf)
 ·have k4 : W3.cell? ⟨w.heap.size + 1 + 1, 0, none⟩ = some (.int .i64 1) := by rw [k3, hk]; rfl
  have HRS : Hid (restP b = 100) := by show _ = _; unfold restP; rw [if_pos (by rw [← HKD.out]; exact hk)]
  have HR100 : Hid (100 ≤ b.length) := by show _ ≤ _; rw [← HRS.out]; exact HRP.out
  have HKZ := Lib.hid hk
  obtain ⟨p1, hp1⟩ : ∃ x, x = (b.drop 36).take 32 := ⟨_, rfl⟩
  obtain ⟨p2, hp2⟩ : ∃ x, x = (b.drop 68).take 32 := ⟨_, rfl⟩
  have HLp1 : Hid (p1.length = 32) := by show _ = _; rw [hp1, List.length_take, List.length_drop]; have := HR100.out; omega
  have HLp2 : Hid (p2.length = 32) := by show _ = _; rw [hp2, List.length_take, List.length_drop]; have := HR100.out; omega
  have HLFE : Hid ((b.drop 36).take 64 = p1 ++ p2) := by
   show _ = _
   rw [hp1, hp2]
   have h := List.take_add (l := b.drop 36) (i := 32) (j := 32)
   rw [List.drop_drop] at h
   exact h
  have HLFL : Hid ((p1 ++ p2).length = 64) := by show _ = _; rw [List.length_append, HLp1.out, HLp2.out]
  have Hp1 := Lib.hid hp1
  have Hp2 := Lib.hid hp2
  have HOK4 : Hid (Pf.Ok ⟨kd, 256 * (e2 : Int) + (e3 : Int), z64, bm, []⟩) := ⟨rfl, HBML.out, fun s h => by simp at h⟩
  have HOK5 : Hid (Pf.Ok ⟨kd, 256 * (e2 : Int) + (e3 : Int), p1 ++ z64.drop 32, bm, []⟩) := ⟨by show (p1 ++ z64.drop 32).length = 64; rw [List.length_append, HLp1.out]; rfl, HBML.out, fun s h => by simp at h⟩
  have HN3 : Hid (Calls Tryz.prog 106 #[.pointer (some ⟨w.heap.size + 1, 0, none⟩), .int .i64 32] W3 fun e w' => e = .returned (.slice (some ⟨q, o + 36, none⟩) 32 (c - 36)) ∧ RdAt w' (w.heap.size + 1) q o c b.length 68 ∧ Keep (fun j => j = w.heap.size + 1) W3 w') :=
   next17_c W3 (w.heap.size + 1) q o c b.length 36 32 HRS3.out (by omega) (by have := HR100.out; omega) HC.out HLE.out
  clear hk k3 hp1 hp2
  go_wp2_with fail
  refine HN3.out.mono ?_
  rintro _ w4 ⟨rfl, hR4, hK4⟩
  have HKW4 : Hid (Keep (L17 w.heap.size) X w4) := HKS3.out.trans (HL1.out _ _ hK4)
  have HPW4 := Lib.hid (HP1.out _ _ _ _ hK4 HPS3.out)
  have la4 := (HBA.out w4 HKW4.out).ld (p := 36) (n := 32) (t := 48) (by have := HR100.out; omega) Tryz.underlying48 infoKey
  rw [← Hp1.out] at la4
  have a4 := fun w => arr_at (t := 48) Tryz.underlying48 (some ⟨q, o + 36, none⟩) 32 (c - 36) (Nat.le_refl _) w
  obtain ⟨st4, hp4⟩ := HPW4.out.stKey HOK4.out p1 HLp1.out
  obtain ⟨W4, hW4⟩ : ∃ W4, W4 = w4.setCells (w.heap.size + 1 + 1) 2 (p1.map bv) := ⟨_, rfl⟩
  rw [← hW4] at st4 hp4
  have HPS4 : Hid (PfAt W4 (w.heap.size + 1 + 1) ⟨kd, 256 * (e2 : Int) + (e3 : Int), p1 ++ z64.drop 32, bm, []⟩ (.slice none 0 0)) := hp4
  have HKS4 : Hid (Keep (L17 w.heap.size) X W4) := by show Keep _ _ _; rw [hW4]; exact HKW4.out.trans (keep_setCells17 (fun i e => .inr e) _ _ _)
  have HRS4 : Hid (RdAt W4 (w.heap.size + 1) q o c b.length 68) := rd_block hR4 (by rw [hW4]; exact setCells_other17 (Nat.ne_of_lt (Nat.lt_succ_self _)) _ _ _)
  have HW4 := Lib.hid hW4
  clear hW4 hp4 hR4 hK4 HN3
  have HN4 : Hid (Calls Tryz.prog 106 #[.pointer (some ⟨w.heap.size + 1, 0, none⟩), .int .i64 32] W4 fun e w' => e = .returned (.slice (some ⟨q, o + 68, none⟩) 32 (c - 68)) ∧ RdAt w' (w.heap.size + 1) q o c b.length 100 ∧ Keep (fun j => j = w.heap.size + 1) W4 w') :=
   next17_c W4 (w.heap.size + 1) q o c b.length 68 32 HRS4.out (by omega) (by have := HR100.out; omega) HC.out HLE.out
  go_wp2_with fail
  refine HN4.out.mono ?_
  rintro _ w5 ⟨rfl, hR5, hK5⟩
  have HKW5 : Hid (Keep (L17 w.heap.size) X w5) := HKS4.out.trans (HL1.out _ _ hK5)
  have HPW5 := Lib.hid (HP1.out _ _ _ _ hK5 HPS4.out)
  have la5 := (HBA.out w5 HKW5.out).ld (p := 68) (n := 32) (t := 47) (by have := HR100.out; omega) Tryz.underlying47 info26
  rw [← Hp2.out] at la5
  have a5 := fun w => arr_at (t := 47) Tryz.underlying47 (some ⟨q, o + 68, none⟩) 32 (c - 68) (Nat.le_refl _) w
  obtain ⟨st5, hp5⟩ := HPW5.out.stVal HOK5.out p2 HLp2.out
  obtain ⟨W5, hW5⟩ : ∃ W5, W5 = w5.setCells (w.heap.size + 1 + 1) 34 (p2.map bv) := ⟨_, rfl⟩
  rw [← hW5] at st5 hp5
  have HPS5 : Hid (PfAt W5 (w.heap.size + 1 + 1) ⟨kd, 256 * (e2 : Int) + (e3 : Int), (p1 ++ z64.drop 32).take 32 ++ p2, bm, []⟩ (.slice none 0 0)) := hp5
  have HKS5 : Hid (Keep (L17 w.heap.size) X W5) := by show Keep _ _ _; rw [hW5]; exact HKW5.out.trans (keep_setCells17 (fun i e => .inr e) _ _ _)
  have HRS5 : Hid (RdAt W5 (w.heap.size + 1) q o c b.length 100) := rd_block hR5 (by rw [hW5]; exact setCells_other17 (Nat.ne_of_lt (Nat.lt_succ_self _)) _ _ _)
  have HW5 := Lib.hid hW5
  clear hW5 hp5 hR5 hK5 HN4
  have hpp : (p1 ++ z64.drop 32).take 32 ++ p2 = p1 ++ p2 := by rw [List.take_append_of_le_length (by have := HLp1.out; omega), List.take_of_length_le (by have := HLp1.out; omega)]
  rw [hpp] at HPS5
  clear hpp
  go_wp2_with fail
  obtain ⟨rs, hrs⟩ : ∃ rs, rs = b.drop 100 := ⟨_, rfl⟩
  have HRSE := Lib.hid hrs
  have HP1O : Hid (Pf.Ok ⟨kd, 256 * (e2 : Int) + (e3 : Int), p1 ++ p2, bm, []⟩) := ⟨HLFL.out, HBML.out, fun s h => by simp at h⟩
  have HGV : Hid (w.heap.size + 1 + 1 < W5.heap.size) := HPS5.out.lt
  obtain ⟨M, hM⟩ : ∃ M, 100 + 32 * M = b.length := ⟨(b.length - 100) / 32, by have h1 := HRS.out; have h2 := HRP.out; have h3 := HMD.out; rw [h1] at h2 h3; omega⟩
  have HMN := Lib.hid hM
  clear hrs hM
  go_loopg [] M (fun gg wr => ∃ (k : Nat) (As : Option Addr) (cs : Nat), k ≤ M ∧ M - k = gg ∧ RdAt wr (w.heap.size + 1) q o c b.length (100 + 32 * k) ∧ PfAt wr (w.heap.size + 1 + 1) ⟨kd, 256 * (e2 : Int) + (e3 : Int), p1 ++ p2, bm, []⟩ (.slice As (chunks rs k).length cs) ∧ OwnD wr W5.heap.size (.slice As (chunks rs k).length cs) (chunks rs k) ∧ Keep (L17 w.heap.size) W5 wr)
  case atStart => exact ⟨0, none, 0, by omega, by omega, HRS5.out, HPS5.out, OwnD.nil _ _, Keep.refl _ _⟩
  case round =>
   obtain ⟨k, As, cs, hk, rfl, hR, hP, hO, hK⟩ := hrel
   have HVR : Hid (W5.heap.size ≤ wr.heap.size) := hK.size
   have HKX : Hid (Keep (L17 w.heap.size) X wr) := HKS5.out.trans hK
   have HKR := Lib.hid hK
   have HPR := Lib.hid hP
   have HO := Lib.hid hO
   have HRR := Lib.hid hR
   obtain ⟨Ar, hr1, -⟩ := hR
   have rc : wr.cell? ⟨w.heap.size + 1, 0, none⟩ = some (.slice Ar (b.length - (100 + 32 * k)) (c - (100 + 32 * k))) := by rw [cell_of_cells hr1]; rfl
   have c98 := hP.sib HP1O.out
   obtain ⟨m, hm⟩ : ∃ m, m = b.length - (100 + 32 * k) := ⟨_, rfl⟩
   rw [← hm] at rc
   have hcl : (chunks rs k).length = k := chunks_len rs k
   have hmn := HMN.out
   have hle := HLE.out
   clear hK hP hO hr1
   by_cases h1 : k < M
   ·have d1 : decide (0 < m) = true := decide_eq_true (by omega)
    obtain ⟨rt, hrt⟩ : ∃ rt, rt = (b.drop (100 + 32 * k)).take 32 := ⟨_, rfl⟩
    have HRL : Hid (rt.length = 32) := by show _ = _; rw [hrt, List.length_take, List.length_drop]; omega
    have HCH : Hid (chunks rs (k + 1) = chunks rs k ++ [rt]) := by show _ = _; rw [hrt, HRSE.out, chunks_succ, List.drop_drop, Nat.mul_comm k 32]
    have HMM : Hid (∀ s ∈ chunks rs k ++ [rt], s.length = 32) := fun s hs => by
     rw [← HCH.out] at hs
     exact chunks_each (by rw [HRSE.out, List.length_drop]; omega) s hs
    have HSL : Hid ((chunks rs k).length ≤ 1000000) := by show _ ≤ _; omega
    have HNX : Hid (Calls Tryz.prog 106 #[.pointer (some ⟨w.heap.size + 1, 0, none⟩), .int .i64 32] wr.drew fun e w' => e = .returned (.slice (some ⟨q, o + (100 + 32 * k), none⟩) 32 (c - (100 + 32 * k))) ∧ RdAt w' (w.heap.size + 1) q o c b.length (100 + 32 * k + 32) ∧ Keep (fun j => j = w.heap.size + 1) wr.drew w') :=
     next17_c wr.drew (w.heap.size + 1) q o c b.length (100 + 32 * k) 32 HRR.out (by omega) (by omega) HC.out HLE.out
    have LB : Hid (∀ q, Keep (fun j => j = w.heap.size + 1 ∨ W5.heap.size ≤ j) wr q → q.cell? ⟨w.heap.size + 1 + 1, 98, none⟩ = some (.slice As (chunks rs k).length cs)) := fun q h => (HPR.out.keep h (by have := HGV.out; omega)).sib HP1O.out
    have LD : Hid (∀ x, Keep (fun j => j = w.heap.size + 1 ∨ W5.heap.size ≤ j) wr x → ldA 47 x (.pointer (some ⟨q, o + (100 + 32 * k), none⟩)) = .ok (.value (.agg (bA rt))) x) := fun x h => by
     have h2 : BA x (some ⟨q, o, none⟩) b := fun j y hy => by
      obtain ⟨q', o', e, hc⟩ := HBA.out wr HKX.out j y hy
      cases e
      exact ⟨q, o, rfl, h.cellAt hc (show ¬ (q = w.heap.size + 1 ∨ W5.heap.size ≤ q) by have h1 := HQ.out; have h2 := HGV.out; omega)⟩
     have h3 := h2.ld (p := 100 + 32 * k) (n := 32) (t := 47) (by omega) Tryz.underlying47 info26
     rwa [← hrt] at h3
    have a3 := fun w => arr_at (t := 47) Tryz.underlying47 (some ⟨q, o + (100 + 32 * k), none⟩) 32 (c - (100 + 32 * k)) (Nat.le_refl _) w
    have bsx := bsD_one rt HRL.out
    have HLT := Lib.hid h1
    clear hrt hcl hmn hle hm h1
    go_wp2_with fail
    refine region_heldT 9 (fun q => Keep (fun j => j = w.heap.size + 1 ∨ W5.heap.size ≤ j) wr q) (by kernel_rfl) ?_
    have hHeld : Keep (fun j => j = w.heap.size + 1 ∨ W5.heap.size ≤ j) wr wr.drew := (Keep.refl _ _).drew
    refine HeldT.take (i := 0) (oi := { dst := some 53, op := .fieldAddr _ (.tmp 5) 4, .. }) (v := ?_) rfl (by kernel_rfl) (by kernel_rfl) (by kernel_rfl) (by kernel_rfl) (fun _ _ _ h => h) (Or.inl ⟨by rfl, ?_⟩) (by assumption) ?_
    rotate_left 1
    ·intro v hSv
     clear hSv
     go_simp
     try with_reducible rfl
    try simp only [Act.put, x_A, x_0, x_1]
    refine HeldT.take (i := 1) (oi := { dst := some 54, op := .load _ (.tmp 53), .. }) (v := ?_) rfl (by kernel_rfl) (by kernel_rfl) (by kernel_rfl) (by kernel_rfl) (fun _ _ _ h => h) (Or.inl ⟨by rfl, ?_⟩) (by assumption) ?_
    rotate_left 1
    ·intro v hSv
     have hv1 := LB.out v hSv
     clear hSv
     go_simp
     try with_reducible rfl
    try simp only [Act.put, x_A, x_0, x_1]
    refine HeldT.take (i := 2) (oi := { dst := some 55, op := .move (.tmp 4), .. }) (v := ?_) rfl (by kernel_rfl) (by kernel_rfl) (by kernel_rfl) (by kernel_rfl) (fun _ _ _ h => h) (Or.inl ⟨by rfl, ?_⟩) (by assumption) ?_
    rotate_left 1
    ·intro v hSv
     clear hSv
     go_simp
     try with_reducible rfl
    try simp only [Act.put, x_A, x_0, x_1]
    refine HeldT.one (i := 3) (o := { dst := some 56, op := .call _, .. }) (by kernel_rfl) rfl rfl (fun K hK => ?_)
    go_wp2_with fail
    refine HNX.out.mono ?_
    rintro e y1 ⟨rfl, hr1, hk1⟩
    have hq1 : Keep (fun j => j = w.heap.size + 1 ∨ W5.heap.size ≤ j) wr y1 := hHeld.trans (hk1.mono fun i e => .inl e)
    have HQ1 := Lib.hid hq1
    have HK1 := Lib.hid hk1
    have HR1 := Lib.hid hr1
    clear hk1 hr1
    go_wp2_with fail
    refine hK.out _ _ (fun _ => hq1) (fun hS => ?_)
    have hHeld := hS (by decide)
    clear hS hK K
    try simp only [Act.put, x_A, x_0, x_1]
    clear hq1
    refine HeldT.take (i := 4) (oi := { dst := some 57, op := .sliceToArrayPointer _ (.tmp 56), .. }) (v := ?_) rfl (by kernel_rfl) (by kernel_rfl) (by kernel_rfl) (by kernel_rfl) (fun _ _ _ h => h) (Or.inl ⟨by rfl, ?_⟩) (by assumption) ?_
    rotate_left 1
    ·intro v hSv
     clear hSv
     go_simp
     try with_reducible rfl
    try simp only [Act.put, x_A, x_0, x_1]
    refine HeldT.take (i := 5) (oi := { dst := some 58, op := .load _ (.tmp 57), .. }) (v := ?_) rfl (by kernel_rfl) (by kernel_rfl) (by kernel_rfl) (by kernel_rfl) (fun _ _ _ h => h) (Or.inl ⟨by rfl, ?_⟩) (by assumption) ?_
    rotate_left 1
    ·intro v hSv
     have hv1 := LD.out v hSv
     clear hSv
     go_simp
     try with_reducible rfl
    try simp only [Act.put, x_A, x_0, x_1]
    refine HeldT.one (i := 6) (o := { dst := some 59, op := .buildSlice _ _ _, .. }) (by kernel_rfl) rfl rfl (fun K hK => ?_)
    obtain ⟨Z, hZ⟩ : ∃ Z, Z = y1.alloc (.cells (bA rt) 47) := ⟨_, rfl⟩
    have hq2 : Keep (fun j => j = w.heap.size + 1 ∨ W5.heap.size ≤ j) wr Z := by rw [hZ]; exact HQ1.out.alloc _
    have HZR : Hid (Z.rangeAt y1.heap.size 0 (dC rt)) := by show World.rangeAt _ _ _ _; rw [hZ]; exact dig_made _ _ _
    have HBZ : Hid (Below y1.heap.size y1 Z) := by show Below _ _ _; rw [hZ]; exact (Below.refl _ _).alloc (Nat.le_refl _) _
    have HQ2 := Lib.hid hq2
    have HZ := Lib.hid hZ
    clear hZ HQ1
    go_wp2_with fail
    rw [← HZ.out]
    refine hK.out _ _ (fun _ => hq2) (fun hS => ?_)
    have hHeld := hS (by decide)
    clear hS hK K
    try simp only [Act.put, x_A, x_0, x_1]
    clear hq2 HZ
    refine HeldT.one (i := 7) (o := { dst := some 60, op := .call _, .. }) (by kernel_rfl) rfl rfl (fun K hK => ?_)
    have hoy : OwnD y1 W5.heap.size (.slice As (chunks rs k).length cs) (chunks rs k) := row11_keep (HO.out.below (Below.refl _ _).drew) HK1.out (fun i hi e => by have h1 := HO.out.ge i hi; have h2 := HGV.out; omega)
    have HOZ := Lib.hid (hoy.below HBZ.out)
    clear hoy
    have hzs : W5.heap.size ≤ Z.heap.size := Nat.le_trans HVR.out HQ2.out.size
    go_wp2_with (at_builtin; refine wpList_pushD rfl _ _ rfl W5.heap.size (.slice As (chunks rs k).length cs) (chunks rs k) rfl HOZ.out y1.heap.size rt HRL.out rfl HZR.out HSL.out hzs ?_; intro v9 w9 hO9 hG9; obtain ⟨A9, c9, rfl, _, _⟩ := hO9.ds HMM.out)
    have HO9 := Lib.hid hO9
    have hbz9 : Below W5.heap.size Z w9 := (Below.refl _ _).grown hG9.by_ hzs HOZ.out.ge
    have HS9 : Hid (Keep (fun j => j = w.heap.size + 1 ∨ W5.heap.size ≤ j) wr w9) := HQ2.out.trans ((Keep.ofB17 hbz9).mono fun i e => .inr e)
    have HR9 : Hid (RdAt w9 (w.heap.size + 1) q o c b.length (100 + 32 * k + 32)) := rd_block (rd_block HR1.out (HBZ.out.block _ HR1.out.lt)) (hbz9.block _ (by have := HGV.out; omega))
    refine hK.out _ _ (fun _ => HS9.out) (fun hS => ?_)
    have hHeld := hS (by decide)
    clear hS hK K
    try simp only [Act.put, x_A, x_0, x_1]
    clear hO9 hG9 hzs HOZ HZR hbz9 HR1 HK1 HBZ
    refine HeldT.take (i := 8) (oi := { dst := some 61, op := .fieldAddr _ (.tmp 5) 4, .. }) (v := ?_) rfl (by kernel_rfl) (by kernel_rfl) (by kernel_rfl) (by kernel_rfl) (fun _ _ _ h => h) (Or.inl ⟨by rfl, ?_⟩) (by assumption) ?_
    rotate_left 1
    ·intro v hSv
     clear hSv
     go_simp
     try with_reducible rfl
    try simp only [Act.put, x_A, x_0, x_1]
    refine HeldT.one (i := 9) (o := { dst := none, op := .store _ (.tmp 61) (.tmp 60), .. }) (by kernel_rfl) rfl rfl (fun K hK => ?_)
    have hP9 : PfAt w9 (w.heap.size + 1 + 1) ⟨kd, 256 * (e2 : Int) + (e3 : Int), p1 ++ p2, bm, []⟩ (.slice As (chunks rs k).length cs) := HPR.out.keep HS9.out (by have := HGV.out; omega)
    have hcell := hP9.sib HP1O.out
    have hfree : w9.frozen? ⟨w.heap.size + 1 + 1, 98, none⟩ = false := frozen_of_row w9 _ _ _ _ hP9
    obtain ⟨HPW, HOW, HKW⟩ := rp_end17p HGV.out HP1O.out HKR.out HS9.out HO9.out hP9
    have HRW : Hid (RdAt (w9.setCell ⟨w.heap.size + 1 + 1, 98, none⟩ (.slice A9 (chunks rs k ++ [rt]).length c9)) (w.heap.size + 1) q o c b.length (100 + 32 * k + 32)) := rd_block HR9.out (heap_setCell_other _ _ _ _ (Nat.ne_of_lt (Nat.lt_succ_self _)))
    clear hP9
    go_wp2_with fail
    refine hK.out _ _ (fun h => absurd rfl h) (fun _ => ?_)
    clear hK K
    refine HeldT.done (by kernel_rfl) ?_ _
    go_wp2
    go_roundg (M - (k + 1))
    case measure => have := HLT.out; omega
    case rel =>
     have e9 : (chunks rs (k + 1)).length = (chunks rs k).length + 1 := by rw [chunks_len, chunks_len]
     rw [List.length_append, List.length_singleton] at HPW HOW HKW HRW
     refine ⟨k + 1, A9, c9, by have := HLT.out; omega, rfl, ?_, ?_, ?_, HKW.out⟩
     ·rw [show 100 + 32 * (k + 1) = 100 + 32 * k + 32 by omega]; exact HRW.out
     ·rw [e9]; exact HPW.out
     ·rw [e9, HCH.out]; exact HOW.out
   ·have d1 : decide (0 < m) = false := decide_eq_false (by omega)
    obtain rfl : k = M := by omega
    have hRAW : rawP b = ⟨kd, 256 * (e2 : Int) + (e3 : Int), p1 ++ p2, bm, chunks rs k⟩ := by
     unfold rawP
     rw [HRS.out, ← HRSE.out, ← HKD.out, ← HE2.out, ← HE3.out]
     rw [if_pos HKZ.out, HLFE.out]
     rw [show (b.length - 100) / 32 = k by omega, HBM.out]
    have hok : Pf.Ok ⟨kd, 256 * (e2 : Int) + (e3 : Int), p1 ++ p2, bm, chunks rs k⟩ := by rw [← hRAW]; exact rawP_ok H36.out HRP.out
    have HPK : Hid (PfAt wr (w.heap.size + 1 + 1) ⟨kd, 256 * (e2 : Int) + (e3 : Int), p1 ++ p2, bm, chunks rs k⟩ (.slice As (chunks rs k).length cs)) := HPR.out
    have lpk := HPK.out.ld hok
    have hrv : PfAt wr w.heap.size zPf (.slice none 0 0) := HRX.out.keep HKX.out (by unfold L17; omega)
    have stz : stA 53 wr (.pointer (some ⟨w.heap.size, 0, none⟩)) (.agg (pfC ⟨kd, 256 * (e2 : Int) + (e3 : Int), p1 ++ p2, bm, chunks rs k⟩ (.slice As (chunks rs k).length cs))) = .ok .skip (wr.setRow w.heap.size (pfC ⟨kd, 256 * (e2 : Int) + (e3 : Int), p1 ++ p2, bm, chunks rs k⟩ (.slice As (chunks rs k).length cs))) := stA_row hrv (by rw [pfC_size hok]; exact infoPf) (by rw [pfC_size hok, pfC_size zPf_ok]) (pfC_one _ _ _ _)
    have HROW : Hid (PfAt (wr.setRow w.heap.size (pfC ⟨kd, 256 * (e2 : Int) + (e3 : Int), p1 ++ p2, bm, chunks rs k⟩ (.slice As (chunks rs k).length cs))) w.heap.size ⟨kd, 256 * (e2 : Int) + (e3 : Int), p1 ++ p2, bm, chunks rs k⟩ (.slice As (chunks rs k).length cs)) := setRow_heap _ _ _ _ _ _ hrv
    have HBF : Hid (Below w.heap.size w (wr.setRow w.heap.size (pfC ⟨kd, 256 * (e2 : Int) + (e3 : Int), p1 ++ p2, bm, chunks rs k⟩ (.slice As (chunks rs k).length cs)))) := Bt.below_row (HB.out.trans (HKX.out.below HB.out.size fun i e => by unfold L17 at e; omega)) (Nat.le_refl _) _
    have HOF : Hid (OwnD (wr.setRow w.heap.size (pfC ⟨kd, 256 * (e2 : Int) + (e3 : Int), p1 ++ p2, bm, chunks rs k⟩ (.slice As (chunks rs k).length cs))) w.heap.size (.slice As (chunks rs k).length cs) (chunks rs k)) := (row11_other HO.out fun i cs' hg hh => by
     have hge := HO.out.ge i hg
     rw [setRow_other _ _ _ _ (by have := HGV.out; omega)]
     exact hh : OwnD _ W5.heap.size (.slice As (chunks rs k).length cs) (chunks rs k)).mono (by have := HGV.out; omega)
    have HCC : Hid ((chunks rs k).length ≤ cs) := by
     obtain ⟨A8, c8, e8, _, h8⟩ := HO.out.ds hok.sib
     cases e8
     exact h8
    have HRAW := Lib.hid hRAW
    have HOK := Lib.hid hok
    clear hrv hok hRAW hmn hcl hle hm h1
    go_wp2_with fail
    refine bodyPost_ret (v := .agg (pfC ⟨kd, 256 * (e2 : Int) + (e3 : Int), p1 ++ p2, bm, chunks rs k⟩ (.slice As (chunks rs k).length cs))) ?_ rfl ⟨As, cs, by rw [HRAW.out], ⟨by rw [HRAW.out]; exact HCC.out, .inr (by rw [HRAW.out]; exact HOF.out)⟩, HBF.out⟩
    exact results_cell_row Tryz.results63 _ _ w.heap.size 53 _ (0, 0) _ rfl HROW.out Tryz.underlying53 rfl (by rw [pfC_size HOK.out]; exact infoPf)
end
section
open Go.RowKit
theorem chkP_big17 {p : Pf} (h : 256 < p.sib.length) : chkP p ≠ 0 := by
 intro h0
 rcases chkP_cases p with ⟨h1, _⟩ | ⟨_, ⟨h1, _⟩ | ⟨_, _, _, _, h2, _⟩⟩
 ·omega
 ·omega
 ·have := setZ_le17 (keyF p.bm) 256
  omega
theorem chk_part17 {b : List UInt8} (h : chkB17 b ≠ 0) : decE b = chkB17 b := by
 unfold chkB17 at h ⊢
 unfold decE
 split
 ·rfl
 split
 ·rfl
 split
 ·rfl
 rename_i h1 h2 h3
 rw [if_neg h1, if_neg h2, if_neg h3] at h
 split at h
 ·rename_i h4
  rw [if_pos h4]
  rcases h4 with h4 | h4 | h4
  ·rw [if_pos h4]
  ·split
   ·rfl
   ·rw [if_pos]
    rcases Classical.em ((b.length - restP b) % 32 = 0) with hm | hm
    ·refine .inr (chkP_big17 ?_)
     show 256 < (chunks (b.drop (restP b)) ((b.length - restP b) / 32)).length
     rw [chunks_len]
     omega
    ·exact .inl hm
  ·split
   ·rfl
   ·rw [if_pos (.inl h4)]
 ·exact absurd rfl h
theorem chk_all17 {b : List UInt8} (h : chkB17 b = 0) : 36 ≤ b.length ∧ at8 b 0 = 1 ∧ at8 b 1 ≤ 1 ∧ restP b ≤ b.length ∧ (b.length - restP b) % 32 = 0 ∧ (chkP (rawP b) = 0 → decE b = 0) ∧ (chkP (rawP b) ≠ 0 → decE b = chkP (rawP b)) := by
 unfold chkB17 at h
 split at h
 ·cases h
 split at h
 ·cases h
 split at h
 ·cases h
 split at h
 ·cases h
 rename_i h1 h2 h3 h4
 have he : decE b = if (b.length - restP b) % 32 ≠ 0 ∨ chkP (rawP b) ≠ 0 then 5 else 0 := by
  unfold decE
  rw [if_neg h1, if_neg h2, if_neg h3, if_neg (by omega)]
 refine ⟨by omega, by omega, by omega, by omega, by omega, fun h5 => ?_, fun h5 => ?_⟩
 ·rw [he, if_neg]
  rintro (h6 | h6)
  ·omega
  ·exact h6 h5
 ·rw [he, if_pos (.inr h5)]
  rcases chkP_cases (rawP b) with ⟨h6, _⟩ | ⟨_, ⟨h6, _⟩ | ⟨h6, _⟩⟩
  ·exact absurd (show ((at8 b 1 : Nat) : Int) = 0 ∨ ((at8 b 1 : Nat) : Int) = 1 by omega) (by first | exact h6 | (intro h7; rcases h7 with h7 | h7 <;> simp_all [rawP]))
  ·omega
  ·omega
theorem bldPf_zero (w : World) : bldA 53 w #[] = .ok (.value (.agg (pfC zPf (.slice none 0 0)))) w := by kernel_rfl
theorem pdecode17_c (w : World) (b : List UInt8) (A : Option Addr) (c : Nat) (hA : BA w A b) (hc : b.length ≤ c) (hl : b.length ≤ 1000000) :
  Calls Tryz.prog 35 #[.slice A b.length c] w fun e w' => ∃ A' c', e = .returned (.tuple #[.agg (pfC (decQ b) (.slice A' (decQ b).sib.length c')), .int .i64 (decE b)]) ∧ NewD w' w.heap.size A' c' (decQ b).sib ∧ Below w.heap.size w w' := by
 obtain ⟨X, hX⟩ : ∃ X, X = w.alloc (.cells (pfC zPf (.slice none 0 0)) 53) := ⟨_, rfl⟩
 have hB : Below w.heap.size w X := by rw [hX]; exact Bt.one_below _ _
 have HRX : Hid (PfAt X w.heap.size zPf (.slice none 0 0)) := by show PfAt _ _ _ _; rw [hX]; exact PfAt.one _ _ _
 have HPT := Lib.hid (pparts17_c X b A c (hA.below hB) hl)
 have bd0 := bldPf_zero
 have HX := Lib.hid hX
 have HB := Lib.hid hB
 have HA := Lib.hid hA
 have HC := Lib.hid hc
 have HLE := Lib.hid hl
 obtain ⟨z, hz⟩ : ∃ z, z = chkB17 b := ⟨_, rfl⟩
 rw [← hz] at HPT
 clear hX hB hA hc hl
 by_cases hz0 : z = 0
 rotate_left 1
 ·have HDE : Hid (decE b = z) := by show _ = _; rw [hz]; exact chk_part17 (by rw [← hz]; exact hz0)
  have HNZ : Hid (¬ z = 0) := hz0
  have HRES : Hid (∀ w', Below w.heap.size w w' → ∃ A' c', Ending.returned (.tuple #[.agg (pfC zPf (.slice none 0 0)), .int .i64 z]) = .returned (.tuple #[.agg (pfC (decQ b) (.slice A' (decQ b).sib.length c')), .int .i64 (decE b)]) ∧ NewD w' w.heap.size A' c' (decQ b).sib ∧ Below w.heap.size w w') := fun w' h => by
   rw [decQ_bad (by rw [HDE.out]; exact HNZ.out), HDE.out]
   exact ⟨none, 0, rfl, ⟨Nat.le_refl _, .inl rfl⟩, h⟩
  clear hz
  go_enter Tryz.func35, Tryz.ntmps35
  go_wp2_with fail
  rw [← HX.out]
  refine HPT.out.mono ?_
  rintro _ w1 ⟨rfl, hb1⟩
  have hrv := HRX.out.below hb1 HRX.out.lt
  have stz : stA 53 w1 (.pointer (some ⟨w.heap.size, 0, none⟩)) (.agg (pfC zPf (.slice none 0 0))) = .ok .skip (w1.setRow w.heap.size (pfC zPf (.slice none 0 0))) := stA_row hrv (by rw [pfC_size zPf_ok]; exact infoPf) rfl (pfC_one _ _ _ _)
  have HROW : Hid (PfAt (w1.setRow w.heap.size (pfC zPf (.slice none 0 0))) w.heap.size zPf (.slice none 0 0)) := setRow_heap _ _ _ _ _ _ hrv
  have HBF : Hid (Below w.heap.size w (w1.setRow w.heap.size (pfC zPf (.slice none 0 0)))) := Bt.below_row (HB.out.trans (hb1.mono HB.out.size)) (Nat.le_refl _) _
  clear hrv hb1 HPT
  go_wp2_with fail
  refine bodyPost_ret ?_ rfl (HRES.out _ HBF.out)
  exact results_row_tmp Tryz.results35 _ _ w.heap.size _ _ rfl rfl (run_loadVar_row (P := Tryz.prog) _ _ 53 53 (pfC zPf (.slice none 0 0)) (0, 0) _ HROW.out Tryz.underlying53 rfl (by rw [pfC_size zPf_ok]; exact infoPf))
 obtain ⟨h36, _, h1, hR, hm, hD0, hD1⟩ := chk_all17 (b := b) (by rw [← hz]; exact hz0)
 have HRD : Hid (∀ W, Below w.heap.size w W → Calls Tryz.prog 63 #[.slice A b.length c] W fun e w' => ∃ A' c', e = .returned (.agg (pfC (rawP b) (.slice A' (rawP b).sib.length c'))) ∧ NewD w' W.heap.size A' c' (rawP b).sib ∧ Below W.heap.size W w') := fun W h =>
  pread17_c W b A c (HA.out.below h) HC.out HLE.out h36 h1 hR hm
 obtain ⟨p, hp⟩ : ∃ p, p = rawP b := ⟨_, rfl⟩
 have HOK : Hid p.Ok := by show Pf.Ok _; rw [hp]; exact rawP_ok h36 hR
 have HSL : Hid (p.sib.length ≤ 1000000) := by
  show _ ≤ _
  rw [hp]
  show (chunks (b.drop (restP b)) ((b.length - restP b) / 32)).length ≤ _
  rw [chunks_len]
  have := HLE.out
  omega
 rw [← hp] at HRD hD0 hD1
 have HD0 : Hid (chkP p = 0 → decE b = 0 ∧ decQ b = p) := fun h => ⟨hD0 h, by rw [decQ_raw (hD0 h), hp]⟩
 have HD1 : Hid (chkP p ≠ 0 → decE b = chkP p ∧ decQ b = zPf) := fun h => ⟨hD1 h, decQ_bad (by rw [hD1 h]; exact h)⟩
 subst hz0
 clear hz hp h36 h1 hR hm hD0 hD1
 go_enter Tryz.func35, Tryz.ntmps35
 go_wp2_with fail
 rw [← HX.out]
 refine HPT.out.mono ?_
 rintro _ w1 ⟨rfl, hb1⟩
 have HB1 : Hid (Below w.heap.size w w1) := HB.out.trans (hb1.mono HB.out.size)
 have HR1 : Hid (PfAt w1 w.heap.size zPf (.slice none 0 0)) := HRX.out.below hb1 HRX.out.lt
 clear hb1 HPT
 go_wp2_with fail
 refine (HRD.out w1 HB1.out).mono ?_
 rintro _ w2 ⟨A2, c2, rfl, hn2, hb2⟩
 have st2 := stPf_new w2 (p := p) (z := zPf) HOK.out zPf_ok A2 p.sib.length c2 (.slice none 0 0)
 obtain ⟨V, hV⟩ : ∃ V, V = w2.alloc (.cells (pfC p (.slice A2 p.sib.length c2)) 53) := ⟨_, rfl⟩
 have HPV : Hid (PfAt V w2.heap.size p (.slice A2 p.sib.length c2)) := by show PfAt _ _ _ _; rw [hV]; exact PfAt.one _ _ _
 have hbv : Below w2.heap.size w2 V := by rw [hV]; exact Bt.one_below _ _
 have HBV : Hid (Below w.heap.size w V) := (HB1.out.trans (hb2.mono HB1.out.size)).trans (hbv.mono (Nat.le_trans HB1.out.size hb2.size))
 have HRV : Hid (PfAt V w.heap.size zPf (.slice none 0 0)) := (HR1.out.below hb2 HR1.out.lt).below hbv (Nat.lt_of_lt_of_le HR1.out.lt hb2.size)
 have HNV : Hid (NewD V w1.heap.size A2 c2 p.sib) := ⟨hn2.1, hn2.2.imp id fun h => h.below hbv⟩
 have lv := HPV.out.ld HOK.out
 have HCK := Lib.hid (pcheck_c V p A2 c2 HOK.out (HNV.out.ds HOK.out.sib) HNV.out.1 HSL.out)
 have HV := Lib.hid hV
 have HZ1 : Hid (w.heap.size < w1.heap.size) := HR1.out.lt
 rw [hV] at lv
 obtain ⟨y, hy⟩ : ∃ y, y = chkP p := ⟨_, rfl⟩
 rw [← hy] at HCK HD0 HD1
 clear hV hn2 hb2 hbv HRD hy
 go_wp2_with fail
 rw [← HV.out]
 refine HCK.out.mono ?_
 rintro _ w3 ⟨rfl, hb3⟩
 have HB3 : Hid (Below w.heap.size w w3) := HBV.out.trans (hb3.mono HBV.out.size)
 have hrv := HRV.out.below hb3 HRV.out.lt
 have HP3 := Lib.hid (HPV.out.below hb3 HPV.out.lt)
 have HN3 : Hid (NewD w3 w1.heap.size A2 c2 p.sib) := ⟨HNV.out.1, HNV.out.2.imp id fun h => h.below hb3⟩
 by_cases hy0 : y = 0
 ·have l3 := HP3.out.ld HOK.out
  have stz : stA 53 w3 (.pointer (some ⟨w.heap.size, 0, none⟩)) (.agg (pfC p (.slice A2 p.sib.length c2))) = .ok .skip (w3.setRow w.heap.size (pfC p (.slice A2 p.sib.length c2))) := stA_row hrv (by rw [pfC_size HOK.out]; exact infoPf) (by rw [pfC_size HOK.out, pfC_size zPf_ok]) (pfC_one _ _ _ _)
  have HROW : Hid (PfAt (w3.setRow w.heap.size (pfC p (.slice A2 p.sib.length c2))) w.heap.size p (.slice A2 p.sib.length c2)) := setRow_heap _ _ _ _ _ _ hrv
  have HBF : Hid (Below w.heap.size w (w3.setRow w.heap.size (pfC p (.slice A2 p.sib.length c2)))) := Bt.below_row HB3.out (Nat.le_refl _) _
  have HNF : Hid (NewD (w3.setRow w.heap.size (pfC p (.slice A2 p.sib.length c2))) w.heap.size A2 c2 p.sib) := ⟨HN3.out.1, HN3.out.2.imp id fun h => OwnD.mono (B := w1.heap.size) (row11_other h fun i cs' hg hh => by
   have hge := OwnD.ge (w := w3) (B := w1.heap.size) (ds := p.sib) (v := .slice A2 p.sib.length c2) h i hg
   rw [setRow_other _ _ _ _ (by have := HZ1.out; omega)]
   exact hh) (Nat.le_of_lt HZ1.out)⟩
  have HD := Lib.hid (HD0.out hy0)
  subst hy0
  clear hrv hb3 lv HCK HD0 HD1 st2
  go_wp2_with fail
  refine bodyPost_ret ?_ rfl ⟨A2, c2, by rw [HD.out.1, HD.out.2], by rw [HD.out.2]; exact HNF.out, HBF.out⟩
  exact results_row_tmp Tryz.results35 _ _ w.heap.size _ _ rfl rfl (run_loadVar_row (P := Tryz.prog) _ _ 53 53 (pfC p (.slice A2 p.sib.length c2)) (0, 0) _ HROW.out Tryz.underlying53 rfl (by rw [pfC_size HOK.out]; exact infoPf))
 ·have stz : stA 53 w3 (.pointer (some ⟨w.heap.size, 0, none⟩)) (.agg (pfC zPf (.slice none 0 0))) = .ok .skip (w3.setRow w.heap.size (pfC zPf (.slice none 0 0))) := stA_row hrv (by rw [pfC_size zPf_ok]; exact infoPf) rfl (pfC_one _ _ _ _)
  have HROW : Hid (PfAt (w3.setRow w.heap.size (pfC zPf (.slice none 0 0))) w.heap.size zPf (.slice none 0 0)) := setRow_heap _ _ _ _ _ _ hrv
  have HBF : Hid (Below w.heap.size w (w3.setRow w.heap.size (pfC zPf (.slice none 0 0)))) := Bt.below_row HB3.out (Nat.le_refl _) _
  have HD := Lib.hid (HD1.out hy0)
  clear hrv hb3 lv HCK HD0 HD1 st2
  go_wp2_with fail
  refine bodyPost_ret ?_ rfl ⟨none, 0, by rw [HD.out.1, HD.out.2], by rw [HD.out.2]; exact ⟨Nat.le_refl _, .inl rfl⟩, HBF.out⟩
  exact results_row_tmp Tryz.results35 _ _ w.heap.size _ _ rfl rfl (run_loadVar_row (P := Tryz.prog) _ _ 53 53 (pfC zPf (.slice none 0 0)) (0, 0) _ HROW.out Tryz.underlying53 rfl (by rw [pfC_size zPf_ok]; exact infoPf))
end
section
open Go.RowKit
theorem co_c : CoV where
 encode := fun w p A c hp hA hc hl hz => pencode17_c w p A c hp hA hc hl hz
 encodeBad := fun w p A c hp hA hc hl hz => pencodeBad17_c w p A c hp hA hc hl hz
 decode := fun w b A c hA hc hl => pdecode17_c w b A c hA hc hl
 kind := fun w b A c hA _ => pkind17_c w b A c hA
end
end Go.Proofs.YtjgdindjimbfeaaGreatDoor
