import Derived.Test.YtmfbhohjpkmllaaGreatDoorME
import Derived.Test.YtmfbhohjpkmllaaGreatDoorM5
import Derived.Test.YtmfbhohjpkmllaaGreatDoorM3
namespace Go.Proofs.YtmfbhohjpkmllaaGreatDoor
set_option linter.unusedSimpArgs false
set_option linter.unusedVariables false
set_option maxHeartbeats 8000000
set_option maxRecDepth 100000
section
open Go.RowKit
def RowB (w : World) (b : Nat) (t : TypeId) (l : List UInt8) : Prop := w.heap[b]? = some (.cells (bA l) t (0, 0))
theorem RowB.below {w w' : World} {b : Nat} {t : TypeId} {l : List UInt8} (h : RowB w b t l) (hb : Below w.heap.size w w') : RowB w' b t l := (Keep.of_below (L := fun _ => False) hb).heap h fun h => h
theorem RowB.alloc (w : World) (l : List UInt8) (t : TypeId) : RowB (w.alloc (.cells (bA l) t)) w.heap.size t l := heap_alloc_new w _
theorem RowB.ldLeaf {w : World} {b : Nat} {l : List UInt8} (h : RowB w b 57 l) (hl : l.length = 64) : ldA 57 w (.pointer (some ⟨b, 0, none⟩)) = .ok (.value (.agg (bA l))) w := by
 unfold ldA
 simp only [Instr.loadAt, Instr.sureAddr, Sem.run_bind, Sem.run_pure, Result.andThen_ok]
 rw [run_loadVar_row (P := Tryz.prog) w b 57 57 (bA l) (0, 0) _ h Tryz.underlying57 rfl (by rw [bA_size, hl]; exact infoLeaf)]
 rfl
theorem RowB.ldDig {w : World} {b : Nat} {t : TypeId} {l : List UInt8} (h : RowB w b t l) (hl : l.length = 32) : ldA 45 w (.pointer (some ⟨b, 0, none⟩)) = .ok (.value (.agg (bA l))) w :=
 ldA_row h Tryz.underlying45 (by rw [bA_size, hl]; exact info26)
theorem keeps {W w w' : World} (h : Below W.heap.size W w) (hb : Below w.heap.size w w') : Below W.heap.size W w' := h.trans (hb.mono h.size)
theorem RowB.ldKey {w : World} {b : Nat} {t : TypeId} {l : List UInt8} (h : RowB w b t l) (hl : l.length = 32) : ldA 39 w (.pointer (some ⟨b, 0, none⟩)) = .ok (.value (.agg (bA l))) w :=
 ldA_row h Tryz.underlying39 (by rw [bA_size, hl]; exact infoKey)
theorem RowB.keep {L : Nat → Prop} {w w' : World} {b : Nat} {t : TypeId} {l : List UInt8} (h : RowB w b t l) (k : Keep L w w') (hl : ¬ L b) : RowB w' b t l := k.heap h hl
theorem rleafof_big (n : Int) (k : List UInt8) (A : Option Addr) (c : Nat) (l : List UInt8) (W : World) (hk : k.length = 32) (hA : BA W A l) (hl : l.length ≤ 900000) :
  Calls Tryz.prog 42 #[.int .i64 n, .agg (bA k), .slice A l.length c] W fun e w' => e = .returned (.agg (bA (k ++ digL n (valL l)))) ∧ Below W.heap.size W w' := by
 obtain ⟨g, hg⟩ : ∃ g, g = digL n (valL l) := ⟨_, rfl⟩
 have hgl : g.length = 32 := by rw [hg]; exact dig_len _ _
 have HS : Hid (∀ w A c, BA w A (valL l) → Calls Tryz.prog 47 #[.int .i64 n, .slice A (valL l).length c] w fun e w' => e = .returned (.agg (bA g)) ∧ Below w.heap.size w w') := fun w A c h => by
  rw [hg]; exact rdig_c n A c (valL l) w h (by rw [val_len]; omega)
 have bl := bldLeaf k g hk hgl
 have HKG : Hid ((k ++ g).length = 64) := by show _ = _; rw [List.length_append, hk, hgl]
 rw [← hg]
 obtain ⟨X, hX⟩ : ∃ X, X = (W.alloc (.cells (bA k) 39)).alloc (.cells (bA z64) 57) := ⟨_, rfl⟩
 have HX := Lib.hid hX
 have hb : Below W.heap.size W X := by rw [hX]; exact ((Below.refl _ _).alloc (Nat.le_refl _) _).alloc (by simp) _
 have k0 : RowB X W.heap.size 39 k := by rw [hX]; exact heap_alloc2_old W _ _
 have r0 : RowB X (W.heap.size + 1) 57 z64 := by rw [hX]; exact heap_alloc2_new W _ _
 have LK : Hid (∀ w', Keep (fun i => i = W.heap.size + 1) X w' → ldA 39 w' (.pointer (some ⟨W.heap.size, 0, none⟩)) = .ok (.value (.agg (bA k))) w') := fun w' h => (k0.keep h (by omega)).ldKey hk
 have HBf : Hid (∀ w', Keep (fun i => i = W.heap.size + 1) X w' → Below W.heap.size W w') := fun w' h => hb.trans (h.below hb.size fun i hi => by omega)
 have HBA : Hid (∀ w', Keep (fun i => i = W.heap.size + 1) X w' → BA w' A l) := fun w' h => hA.below (HBf.out w' h)
 have HRW : Hid (RowB X.drew (W.heap.size + 1) 57 z64) := r0
 clear hg hk hA hX hb k0 r0 hgl
 go_enter Tryz.func42, Tryz.ntmps42
 go_wp2_with fail
 rw [← HX.out]
 clear HX
 refine wp_region_held_drew (S := fun w' => Keep (fun i => i = W.heap.size + 1) X w') (by kernel_rfl) ((Keep.refl _ _).drew) (fun hHeld => ?_)
 have hb0 : Keep (fun i => i = W.heap.size + 1) X X.drew := (Keep.refl _ _).drew
 refine x_t (i := 0) (oi := { dst := some 7, op := .load _ (.tmp 4), .. }) (v := ?_) rfl (Or.inl ⟨by rfl, ?_⟩) ?_
 rotate_left 1
 ·intro v hSv
  have hv1 := LK.out v hSv
  clear hSv
  go_simp
  try with_reducible rfl
 try simp only [Act.put, x_A, x_0, x_1]
 refine x_t (i := 1) (oi := { dst := some 8, op := .move (.tmp 0), .. }) (v := ?_) rfl (Or.inl ⟨by rfl, ?_⟩) ?_
 rotate_left 1
 ·intro v hSv
  clear hSv
  go_simp
  try with_reducible rfl
 try simp only [Act.put, x_A, x_0, x_1]
 refine x_t (i := 2) (oi := { dst := some 9, op := .move (.tmp 2), .. }) (v := ?_) rfl (Or.inl ⟨by rfl, ?_⟩) ?_
 rotate_left 1
 ·intro v hSv
  clear hSv
  go_simp
  try with_reducible rfl
 try simp only [Act.put, x_A, x_0, x_1]
 refine wpAnyH_ready (rs := [3]) (by kernel_rfl) (by simp) ?_
 refine AllReadyH.cons (o := { dst := some 10, op := .call _, .. }) rfl (fun K hK => ?_) AllReadyH.nil
 go_simp
 refine (rval_c A c l _ (HBA.out _ (hb0)) (by omega)).mono ?_
 rintro e y1 ⟨v, rfl, hO, hb⟩
 have hb1 : Keep (fun i => i = W.heap.size + 1) X y1 := (hb0).trans (Keep.of_below hb)
 obtain ⟨A1, c1, rfl, hc1, hA1⟩ := hO.any
 have HRW := Lib.hid (HRW.out.below hb)
 clear hb
 go_wp2_with fail
 refine hK.out _ _ (hb1) (fun hHeld => ?_)
 clear hK K
 try simp only [Act.put, x_A, x_0, x_1]
 refine wpAnyH_ready (rs := [4]) (by kernel_rfl) (by simp) ?_
 refine AllReadyH.cons (o := { dst := some 11, op := .call _, .. }) rfl (fun K hK => ?_) AllReadyH.nil
 go_simp
 refine (HS.out _ A1 c1 hA1).mono ?_
 rintro e y2 ⟨rfl, hb⟩
 have hb2 : Keep (fun i => i = W.heap.size + 1) X y2 := (hb1).trans (Keep.of_below hb)
 have HRW := Lib.hid (HRW.out.below hb)
 clear hb
 go_wp2_with fail
 refine hK.out _ _ (hb2) (fun hHeld => ?_)
 clear hK K
 try simp only [Act.put, x_A, x_0, x_1]
 refine x_t (i := 5) (oi := { dst := some 12, op := .build _ #[(0, .tmp 7), (1, .tmp 11)], .. }) (v := ?_) rfl (Or.inl ⟨by rfl, ?_⟩) ?_
 rotate_left 1
 ·intro v hSv
  have hv1 := bl v
  clear hSv
  go_simp
  try with_reducible rfl
 try simp only [Act.put, x_A, x_0, x_1]
 refine wpAnyH_ready (rs := [6]) (by kernel_rfl) (by simp) ?_
 refine AllReadyH.cons (o := { dst := none, op := .store _ (.tmp 6) (.tmp 12), .. }) rfl (fun K hK => ?_) AllReadyH.nil
 have HRr := HRW
 have st1 : stA 57 y2 (.pointer (some ⟨W.heap.size + 1, 0, none⟩)) (.agg (bA (k ++ g))) = .ok .skip (y2.setRow (W.heap.size + 1) (bA (k ++ g))) := stA_row HRr.out (by rw [bA_size, HKG.out]; exact infoLeaf) (by rw [bA_size, bA_size, HKG.out]; rfl) (bA_one _)
 have HM := Lib.hid (setRow_heap y2 (W.heap.size + 1) _ (bA (k ++ g)) _ _ HRr.out)
 go_simp
 refine hK.out _ _ ((hb2).trans (Keep.row y2 (W.heap.size + 1) _)) (fun hHeld => ?_)
 clear hK K
 try simp only [Act.put, x_A, x_0, x_1]
 refine wpAnyH_done (by kernel_rfl) ?_ _
 go_wp2_with fail
 refine bodyPost_ret (v := .agg (bA (k ++ g))) ?_ rfl ⟨rfl, HBf.out _ ((hb2).trans (Keep.row y2 (W.heap.size + 1) _))⟩
 exact results_cell_row Tryz.results42 _ _ (W.heap.size + 1) 57 _ (0, 0) _ rfl HM.out Tryz.underlying57 rfl (by rw [bA_size, HKG.out]; exact infoLeaf)
theorem rleafof_c (n : Int) (k : List UInt8) (A : Option Addr) (c : Nat) (l : List UInt8) (W : World) (hk : k.length = 32) (hA : BA W A l) (hl : l.length ≤ 1000) :
  Calls Tryz.prog 42 #[.int .i64 n, .agg (bA k), .slice A l.length c] W fun e w' => e = .returned (.agg (bA (k ++ digL n (valL l)))) ∧ Below W.heap.size W w' := rleafof_big n k A c l W hk hA (by omega)
end
section
def keyF (l : List UInt8) : Nat → Nat := fun j => (l.getD j 0).toNat
theorem keyF_byt (l : List UInt8) : Bt.Byt (keyF l) := fun _ => UInt8.toNat_lt _
theorem keyF_inj {a b : List UInt8} (ha : a.length = 32) (hb : b.length = 32) (h : ∀ j, j < 32 → keyF a j = keyF b j) : a = b := by
 refine List.ext_getElem (by omega) fun j h1 h2 => ?_
 have := h j (by omega)
 simp [keyF, List.getD_eq_getElem?_getD, h1, h2] at this
 exact UInt8.toNat_inj.1 this
structure Ent where
 k : List UInt8
 v : List UInt8
def cmpK (a b : List UInt8) : Int := Bt.cmp (keyF a) (keyF b)
def rmK (l : List Ent) (k : List UInt8) : List Ent := l.filter fun e => !decide (e.k = k)
def insK (e : Ent) : List Ent → List Ent
 | [] => [e]
 | x :: r => if cmpK e.k x.k < 0 then e :: x :: r else x :: insK e r
def putK (l : List Ent) (e : Ent) : List Ent := insK e (rmK l e.k)
def ofK (l : List Ent) : List Ent := l.foldl putK []
def bitK (k : List UInt8) (d : Int) : Int := Bt.bitI (keyF k) d
def partK (l : List Ent) (d b : Int) : List Ent := l.filter fun e => decide (bitK e.k d = b)
def fewK (l : List Ent) : Bool := decide (l.length ≤ 12) && l.all fun e => decide (e.v.length ≤ 200)
theorem insK_len (e : Ent) : ∀ l, (insK e l).length = l.length + 1
 | [] => rfl
 | x :: r => by
  show (if _ then _ else _ : List Ent).length = _
  split
  ·rfl
  ·rw [List.length_cons, insK_len e r, List.length_cons]
theorem insK_mem (e y : Ent) : ∀ l, y ∈ insK e l ↔ y = e ∨ y ∈ l
 | [] => by simp [insK]
 | x :: r => by
  show y ∈ (if _ then _ else _ : List Ent) ↔ _
  split
  ·simp
  ·rw [List.mem_cons, insK_mem e y r, List.mem_cons]
   constructor
   ·rintro (h | h | h)
    ·exact .inr (.inl h)
    ·exact .inl h
    ·exact .inr (.inr h)
   ·rintro (h | h | h)
    ·exact .inr (.inl h)
    ·exact .inl h
    ·exact .inr (.inr h)
theorem putK_mem {l : List Ent} {e y : Ent} (h : y ∈ putK l e) : y = e ∨ y ∈ l := by
 rcases (insK_mem e y _).1 h with h | h
 ·exact .inl h
 ·exact .inr (List.mem_filter.1 h).1
theorem ofK_mem : ∀ (l m : List Ent) (y : Ent), y ∈ l.foldl putK m → y ∈ m ∨ y ∈ l
 | [], m, y, h => .inl h
 | x :: r, m, y, h => by
  rcases ofK_mem r (putK m x) y h with h | h
  ·rcases putK_mem h with h | h
   ·exact .inr (by simp [h])
   ·exact .inl h
  ·exact .inr (by simp [h])
theorem partK_len (l : List Ent) (d b : Int) : (partK l d b).length ≤ l.length := List.length_filter_le _ _
end
end Go.Proofs.YtmfbhohjpkmllaaGreatDoor
