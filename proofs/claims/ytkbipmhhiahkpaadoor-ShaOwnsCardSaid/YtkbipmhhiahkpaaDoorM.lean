/- 'alive' returns true: the examples of the chapter. -/
import Derived.Test.YtkbipmhhiahkpaaDoorL
import Derived.Deep.RegionHeld3
import Derived.Lib.SlBytesConst
namespace Go.Proofs.YtkbipmhhiahkpaaDoor
open Go.RowKit

/-- The listed variables hold what the program's text lays. -/
structure Vars (w : World) : Prop where
  kt : KT w
  it : IT w
theorem Vars.keep {L : Nat → Prop} {a b : World} (h : Vars a) (k : Keep L a b) (h1 : ¬ L 1) (h0 : ¬ L 0) : Vars b := ⟨h.kt.keep k h1, h.it.keep k h0⟩
theorem Vars.below {a b : World} (h : Vars a) (k : Below a.heap.size a b) : Vars b := h.keep (Keep.of_below (L := fun _ => False) k) (fun h => h) (fun h => h)
theorem BA_nil (w : World) (A : Option Addr) : BA w A [] := fun j x h => by simp at h
theorem setRow_two (w : World) (o : Obj) (c c' : Array Value) (t : TypeId) : ((w.alloc (.cells c t)).alloc o).setRow w.heap.size c' = (w.alloc (.cells c' t)).alloc o := by
  have hx : (((w.alloc (.cells c t)).alloc o).setRow w.heap.size c').heap = ((w.alloc (.cells c' t)).alloc o).heap := by
    apply Array.ext_getElem?
    intro i
    by_cases h : i = w.heap.size
    · subst h
      rw [setRow_heap _ _ _ _ _ _ (heap_alloc2_old w _ _), heap_alloc2_old w _ _]
    · rw [setRow_other _ _ _ _ h]
      rcases Nat.lt_or_ge i w.heap.size with h' | h'
      · rw [Below.heap_alloc _ _ _ (by simp; omega), Below.heap_alloc _ _ _ h', Below.heap_alloc _ _ _ (by simp; omega), Below.heap_alloc _ _ _ h']
      · by_cases e : i = w.heap.size + 1
        · subst e; rw [heap_alloc2_new w _ _, heap_alloc2_new w _ _]
        · rw [Array.getElem?_eq_none (by simp; omega), Array.getElem?_eq_none (by simp; omega)]
  show ({ ((w.alloc (.cells c t)).alloc o) with heap := (((w.alloc (.cells c t)).alloc o).setRow w.heap.size c').heap } : World) = _
  rw [hx]
  rfl
theorem stA_old {t : TypeId} (w : World) (o : Obj) (z v : Array Value) (hi : (Tryd.prog.info? t).map (·.size) = some v.size) (hz : z.size = v.size) (h1 : v.all (·.oneCell') = true) :
    stA t ((w.alloc (.cells z t)).alloc o) (.pointer (some ⟨w.heap.size, 0, none⟩)) (.agg v) = .ok .skip ((w.alloc (.cells v t)).alloc o) := by
  rw [stA_row (heap_alloc2_old w _ _) hi hz h1, setRow_two]
def e0 : List UInt8 := [0xe3, 0xb0, 0xc4, 0x42]
def e1 : List UInt8 := [0xba, 0x78, 0x16, 0xbf]
def abc : List UInt8 := [97, 98, 99]
/-- A conversion of a slice of bytes to its own type marks the place behind the row. -/
theorem run_convert_old (w : World) (o : Obj) (C : Array Value) (n c : Nat) : (convert 22 22 (.slice (some ⟨w.heap.size, 0, none⟩) n c)).run Tryd.prog ((w.alloc (.cells C 5)).alloc o) = .ok (.slice (some ⟨w.heap.size, 0, none⟩) n c) ((w.alloc (.cells C 5 (C.size, C.size + 1))).alloc o) := by
  have hsh : ((w.alloc (.cells C 5)).alloc o).shape? w.heap.size = some (5, C.size) := by
    unfold World.shape?
    rw [heap_alloc2_old w _ _]
  have hfr : ((w.alloc (.cells C 5)).alloc o).freeze ⟨w.heap.size, C.size, none⟩ 1 = (w.alloc (.cells C 5 (C.size, C.size + 1))).alloc o := by
    have hm : ∀ (a : Array Obj) (x y : Obj) (f : Obj → Obj), ((a.push x).push y).modify a.size f = (a.push (f x)).push y := by
      intro a x y f
      apply Array.ext
      · simp
      · intro i h1 h2
        simp only [Array.getElem_modify, Array.getElem_push]
        by_cases h : a.size = i
        · subst h
          simp
        · by_cases h3 : i < a.size
          · simp [h, h3, show i < a.size + 1 by omega]
          · have : i = a.size + 1 := by simp at h1; omega
            subst this
            simp
    unfold World.freeze
    rw [if_neg (by decide)]
    show ({ (w.alloc (.cells C 5)).alloc o with heap := ((w.heap.push (.cells C 5)).push o).modify w.heap.size _ } : World) = _
    rw [hm]
    rfl
  simp [convert, run_underlying Tryd.underlying22, run_underlying Tryd.underlying5, markStringish, hsh]
  exact hfr
theorem ba {W w : World} (h : Below W.heap.size W w) (o : Obj) : Below W.heap.size W (w.alloc o) := h.alloc h.size o
theorem run_eqItems_b (w : World) (d : Nat) (l : List UInt8) : ∀ is : List Nat, (∀ j ∈ is, j < l.length) → (Op.eqItems (d + 1) 5 1 (bA l) (bA l) is).run Tryd.prog w = .ok true w
  | [], _ => rfl
  | j :: is, h => by
    have hj : j < l.length := h j (by simp)
    have ih := run_eqItems_b w d l is (fun i hi => h i (by simp [hi]))
    have pa : (part 5 (bA l) (j * 1)).run Tryd.prog w = .ok (.int .u8 ((l.getD j 0).toNat : Int)) w := by
      have := bA_at l j hj
      unfold bv at this
      simp only [part, Sem.run_bind, Tryd.isAgg5, Result.andThen_ok, Nat.mul_one, this]
      rfl
    simp only [Op.eqItems, Sem.run_bind, pa, Result.andThen_ok, run_equalIn_int w d 5 .u8 .u8 _ _ Tryd.underlying5]
    simp [ih]
theorem eq26 (l : List UInt8) (hl : l.length = 32) (w : World) : (Op.equalIn 10000 26 (.agg (bA l)) (.agg (bA l))).run Tryd.prog w = .ok true w := by
  obtain ⟨i, hi⟩ : ∃ i, Tryd.prog.info? 5 = some i := ⟨_, rfl⟩
  rw [show (10000 : Nat) = 9999 + 1 from rfl, run_equalIn_array w 9999 (bA l) (bA l) Tryd.underlying26 hi]
  have : Tryd.prog.cellsOf 5 = 1 := by kernel_rfl
  rw [this]
  exact run_eqItems_b w 9998 l _ (by rw [hl]; simp)
theorem same_yes (A B : Option Addr) (c d n : Nat) (l : List UInt8) (w : World) (hn : l.length = n) (hA : BA w A l) (hB : BA w B l) (hl : n ≤ 1000000) :
    Calls Tryd.prog 13 #[.slice A n c, .slice B n d] w fun e w' => e = .returned (.bool true) ∧ Below w.heap.size w w' := by
  subst hn
  have := same_c A B c d l l w hA hB (by omega) (by omega)
  rwa [decide_eq_true rfl] at this
theorem same_ex (A B : Option Addr) (c d : Nat) (w : World) (h : ∃ l : List UInt8, l.length = 4 ∧ BA w A l ∧ BA w B l) :
    Calls Tryd.prog 13 #[.slice A 4 c, .slice B 4 d] w fun e w' => e = .returned (.bool true) ∧ Below w.heap.size w w' := by
  obtain ⟨l, h1, h2, h3⟩ := h
  exact same_yes A B c d 4 l w h1 h2 h3 (by decide)
theorem sl_three {w : World} {A B : Option Addr} {l m : List UInt8} {c d : Nat} (hA : BA w A l) (hB : BA w B m) (hc : l.length ≤ c) (hd : m.length ≤ d) (t : TypeId) :
    SL (w.alloc (.cells #[.slice A l.length c, .slice none 0 0, .slice B m.length d] t)) (some ⟨w.heap.size, 0, none⟩) [⟨A, l, c⟩, ⟨none, [], 0⟩, ⟨B, m, d⟩] :=
  sl_made w [⟨A, l, c⟩, ⟨none, [], 0⟩, ⟨B, m, d⟩] t fun x hx => by
    simp only [List.mem_cons, List.not_mem_nil, or_false] at hx
    rcases hx with rfl | rfl | rfl
    · exact ⟨hc, hA⟩
    · exact ⟨Nat.le_refl _, BA_nil _ _⟩
    · exact ⟨hd, hB⟩
theorem slAB (w : World) : SL (((w.alloc (.cells (bA [97]) 5 (1, 2))).alloc (.cells (bA [98, 99]) 5 (2, 3))).alloc (.cells #[.slice (some ⟨w.heap.size, 0, none⟩) 1 1, .slice none 0 0, .slice (some ⟨w.heap.size + 1, 0, none⟩) 2 2] 22)) (some ⟨w.heap.size + 1 + 1, 0, none⟩)
    [⟨some ⟨w.heap.size, 0, none⟩, [97], 1⟩, ⟨none, [], 0⟩, ⟨some ⟨w.heap.size + 1, 0, none⟩, [98, 99], 2⟩] := by
  have := sl_three (w := (w.alloc (.cells (bA [97]) 5 (1, 2))).alloc (.cells (bA [98, 99]) 5 (2, 3))) (l := [97]) (m := [98, 99]) (c := 1) (d := 2) (BA_row (heap_alloc2_old w _ _)) (BA_row (heap_alloc2_new w _ _)) (by decide) (by decide) 22
  rwa [show ((w.alloc (.cells (bA [97]) 5 (1, 2))).alloc (.cells (bA [98, 99]) 5 (2, 3))).heap.size = w.heap.size + 1 + 1 by simp] at this
theorem slBA (w : World) : SL (((w.alloc (.cells (bA [98, 99]) 5 (2, 3))).alloc (.cells (bA [97]) 5 (1, 2))).alloc (.cells #[.slice (some ⟨w.heap.size + 1, 0, none⟩) 1 1, .slice none 0 0, .slice (some ⟨w.heap.size, 0, none⟩) 2 2] 22)) (some ⟨w.heap.size + 1 + 1, 0, none⟩)
    [⟨some ⟨w.heap.size + 1, 0, none⟩, [97], 1⟩, ⟨none, [], 0⟩, ⟨some ⟨w.heap.size, 0, none⟩, [98, 99], 2⟩] := by
  have := sl_three (w := (w.alloc (.cells (bA [98, 99]) 5 (2, 3))).alloc (.cells (bA [97]) 5 (1, 2))) (l := [97]) (m := [98, 99]) (c := 1) (d := 2) (BA_row (heap_alloc2_new w _ _)) (BA_row (heap_alloc2_old w _ _)) (by decide) (by decide) 22
  rwa [show ((w.alloc (.cells (bA [98, 99]) 5 (2, 3))).alloc (.cells (bA [97]) 5 (1, 2))).heap.size = w.heap.size + 1 + 1 by simp] at this
theorem join_ex (A : Option Addr) (c : Nat) (s1 : List UInt8) (w : World) (hs : s1 = sumL abc) (h : ∃ ls : List Pc, ls.length = 3 ∧ SL w A ls ∧ catAll ls = abc) (hv : Vars w) :
    Calls Tryd.prog 17 #[.slice A 3 c] w fun e w' => e = .returned (.agg (bA s1)) ∧ Below w.heap.size w w' := by
  obtain ⟨ls, h1, h2, h3⟩ := h
  have := join_c A c ls w h2 hv.kt hv.it (by rw [h3]; decide) (by omega)
  rwa [h1, h3, ← hs] at this
theorem useL {P Q R : Prop} (h : P ∧ Q) (f : P → R) : R := f h.1
theorem nxt {W X w' : World} {Q : Prop} (h : Below W.heap.size W X ∧ Q) (hb : Below X.heap.size X w') : Below W.heap.size W w' := h.1.trans (hb.mono h.1.size)
theorem b55 (w : World) : Calls Tryd.prog 16 #[.int .i64 55] w fun e w' => e = .returned (.int .i64 1) ∧ w = w' := blocks_c 55 w (by decide) (by decide)
theorem b56 (w : World) : Calls Tryd.prog 16 #[.int .i64 56] w fun e w' => e = .returned (.int .i64 2) ∧ w = w' := blocks_c 56 w (by decide) (by decide)
theorem pad_nil (w : World) : Calls Tryd.prog 14 #[.slice none 0 0] w fun e w' => ∃ A c, e = .returned (.slice A 64 c) ∧ Below w.heap.size w w' := by
  refine (ppad_c none [] 0 w (BA_nil _ _) (Nat.le_refl _) (by simp)).mono ?_
  rintro e w' ⟨v, rfl, hO, hB⟩
  obtain ⟨A, c, rfl, _, _⟩ := hO.any
  exact ⟨A, c, rfl, hB⟩
theorem BA.take {w : World} {b : Nat} {l : List UInt8} (h : BA w (some ⟨b, 0, none⟩) l) (n : Nat) : BA w (some ⟨b, 0, none⟩) (l.take n) := fun j x hx => by
  rw [List.getElem?_take] at hx
  split at hx
  · exact h j x hx
  · cases hx
set_option maxHeartbeats 16000000 in
set_option maxRecDepth 100000 in
theorem alive_c (w : World) (hv : Vars w) : Calls Tryd.prog 9 #[] w fun e w' => e = .returned (.bool true) ∧ Below w.heap.size w w' := by
  have kc := fun (w : World) (C : Array Value) (n c : Nat) => Lib.run_convert_bytes_const (P := Tryd.prog) w 22 5 C n c Tryd.underlying22 Tryd.underlying5
  have kc2 : ∀ (w : World) (o : Obj) (C : Array Value) (n c : Nat), (convert 22 22 (.slice (some ⟨w.heap.size + 1, 0, none⟩) n c)).run Tryd.prog ((w.alloc o).alloc (.cells C 5)) = .ok (.slice (some ⟨w.heap.size + 1, 0, none⟩) n c) ((w.alloc o).alloc (.cells C 5 (C.size, C.size + 1))) := fun w o C n c => by
    have := Lib.run_convert_bytes_const (P := Tryd.prog) (w.alloc o) 22 5 C n c Tryd.underlying22 Tryd.underlying5
    rwa [show (w.alloc o).heap.size = w.heap.size + 1 by simp] at this
  have kc3 : ∀ (w : World) (o : Obj) (C : Array Value) (n c : Nat), (convert 22 22 (.slice (some ⟨w.heap.size, 0, none⟩) n c)).run Tryd.prog ((w.alloc (.cells C 5)).alloc o) = .ok (.slice (some ⟨w.heap.size, 0, none⟩) n c) ((w.alloc (.cells C 5 (C.size, C.size + 1))).alloc o) := run_convert_old
  have HV := Lib.hid hv
  clear hv
  go_enter Tryd.func9, Tryd.ntmps9
  go_wp2_with fail
  refine (sum_c none 0 [] w (BA_nil _ _) (Nat.le_refl _) HV.out.kt HV.out.it (by simp)).mono ?_
  rintro e w1 ⟨rfl, hb1⟩
  have HB1 := Lib.hid hb1
  clear hb1
  go_wp2_with fail
  have hba : BA (w1.alloc (.cells (bA abc) 5 (3, 3 + 1))) (some ⟨w1.heap.size, 0, none⟩) abc := BA_row (heap_alloc_new w1 _)
  have hb : Below w1.heap.size w1 (w1.alloc (.cells (bA abc) 5 (3, 3 + 1))) := (Below.refl _ _).alloc (Nat.le_refl _) _
  have hv2 : Vars (w1.alloc (.cells (bA abc) 5 (3, 3 + 1))) := (HV.out.below HB1.out).below hb
  refine (sum_c (some ⟨w1.heap.size, 0, none⟩) 3 abc _ hba (Nat.le_refl _) hv2.kt hv2.it (by decide)).mono ?_
  rintro e w2 ⟨rfl, hb2⟩
  have HB2 : Hid (Below w.heap.size w w2) := (HB1.out.alloc HB1.out.size _).trans (hb2.mono (by have := HB1.out.size; simp; omega))
  clear hb2 hv2 hb hba
  obtain ⟨s0, hs0⟩ : ∃ s, s = sumL [] := ⟨_, rfl⟩
  obtain ⟨s1, hs1⟩ : ∃ s, s = sumL abc := ⟨_, rfl⟩
  rw [← hs0, ← hs1]
  have st0 := fun w o => stA_two (t := 26) w o (bA z26) (bA s1) (by rw [bA_size, hs1, sumL_len]; exact info26) (by rw [bA_size, bA_size, hs1, sumL_len]; rfl) (bA_one _)
  have st1 := fun w o => stA_old (t := 26) w o (bA z26) (bA s0) (by rw [bA_size, hs0, sumL_len]; exact info26) (by rw [bA_size, bA_size, hs0, sumL_len]; rfl) (bA_one _)
  have HS0 := Lib.hid hs0
  have HS1 := Lib.hid hs1
  clear hs0 hs1
  go_wp2_with fail
  obtain ⟨W, hW⟩ : ∃ W, W = (w2.alloc (.cells (bA s0) 26)).alloc (.cells (bA s1) 26) := ⟨_, rfl⟩
  have h1 : W.heap[w2.heap.size]? = some (.cells (bA s0) 26 (0, 0)) := by rw [hW]; exact heap_alloc2_old w2 _ _
  have h2 : W.heap[w2.heap.size + 1]? = some (.cells (bA s1) 26 (0, 0)) := by rw [hW]; exact heap_alloc2_new w2 _ _
  have hv3 : Vars W := by rw [hW]; exact ((HV.out.below HB2.out).below ((Below.refl _ _).alloc (Nat.le_refl _) _)).below ((Below.refl _ _).alloc (Nat.le_refl _) _)
  have HB3 : Hid (Below w.heap.size w W) := by
    show Below _ _ _
    rw [hW]; exact (HB2.out.alloc HB2.out.size _).alloc (by have := HB2.out.size; simp; omega) _
  rw [← hW]
  have LD : Hid (∀ w', Below W.heap.size W w' → ldA 26 w' (.pointer (some ⟨w2.heap.size + 1, 0, none⟩)) = .ok (.value (.agg (bA s1))) w') := fun w' hb =>
    ldA_row (t' := 26) (fr := (0, 0)) (by rw [hb.block _ (lt_of_heap h2)]; exact h2) Tryd.underlying26 (by rw [bA_size, HS1.out, sumL_len]; exact info26)
  have BA0 : Hid (∀ w', Below W.heap.size W w' → BA w' (some ⟨w2.heap.size, 0, none⟩) e0) := fun w' hb => by
    have := (BA_row (w := w') (by rw [hb.block _ (lt_of_heap h1)]; exact h1)).take 4
    rwa [HS0.out, sum_none] at this
  have BA1 : Hid (∀ w', Below W.heap.size W w' → BA w' (some ⟨w2.heap.size + 1, 0, none⟩) e1) := fun w' hb => by
    have := (BA_row (w := w') (by rw [hb.block _ (lt_of_heap h2)]; exact h2)).take 4
    rwa [HS1.out, show abc = [97, 98, 99] from rfl, sum_abc] at this
  have VV : Hid (∀ w', Below W.heap.size W w' → Vars w') := fun w' hb => hv3.below hb
  have hq : ∀ w, (Op.equalIn 10000 26 (.agg (bA s1)) (.agg (bA s1))).run Tryd.prog w = .ok true w := fun w => eq26 s1 (by rw [HS1.out, sumL_len]) w
  have s4 := fun (g : Nat) (w : World) => sl26_h g 4 (by decide) 4 rfl w
  have hb0 : Below W.heap.size W W := Below.refl _ _
  clear hW h1 h2 hv3 st0 st1
  refine wp_region_held_drew (S := fun w' => Below W.heap.size W w' ∧ ldA 26 w' (.pointer (some ⟨w2.heap.size + 1, 0, none⟩)) = .ok (.value (.agg (bA s1))) w') (by kernel_rfl) ⟨hb0.drew, LD.out _ hb0.drew⟩ (fun hHeld => ?_)
  refine wpAnyH_take (i := 0) (oi := { dst := some 7, op := .slice 26 (.tmp 1) none (some (.const (.int .i64 4))) none, type := _, pos := _, after := _, guard := _ }) (v := ?_) rfl (by kernel_rfl) (by kernel_rfl) (by kernel_rfl) (fun _ _ _ h => h) (Or.inl ⟨by rfl, ?_⟩) (by assumption) ?_
  rotate_left 1
  · intro v hSv
    have hv1 := hSv.2
    clear hSv
    go_simp
    try with_reducible rfl
  try simp only [Act.put, List.setIfInBounds_toArray, List.set_cons_zero, List.set_cons_succ]
  refine wpAnyH_ready (rs := [1]) (by kernel_rfl) (by simp) ?_
  refine AllReadyH.cons (o := { dst := some 8, op := .buildSlice _ _ _, type := _, pos := _, after := _, guard := _ }) rfl (fun K hK => ?_) AllReadyH.nil
  go_simp
  refine hK.out _ _ ⟨(ba hb0 _).drew, LD.out _ ((ba hb0 _).drew)⟩ (fun hHeld => ?_)
  clear hK K
  try simp only [Act.put, List.setIfInBounds_toArray, List.set_cons_zero, List.set_cons_succ]
  refine wpAnyH_ready (rs := [2]) (by kernel_rfl) (by simp) ?_
  refine AllReadyH.cons (o := { dst := some 9, op := .call _, type := _, pos := _, after := _, guard := _ }) rfl (fun K hK => ?_) AllReadyH.nil
  go_simp
  refine (same_ex _ _ _ _ _ ⟨e0, rfl, BA0.out _ (ba hb0 _).drew, BA_row (heap_alloc_new _ _)⟩).mono ?_
  rintro e y1 ⟨rfl, hb⟩
  have hb1 : Below W.heap.size W y1 := ((ba hb0 _).drew).trans (hb.mono ((ba hb0 _).drew).size)
  clear hb
  go_wp2_with fail
  refine hK.out _ _ ⟨hb1, LD.out _ (hb1)⟩ (fun hHeld => ?_)
  clear hK K
  try simp only [Act.put, List.setIfInBounds_toArray, List.set_cons_zero, List.set_cons_succ]
  refine wpAnyH_take (i := 3) (oi := { dst := some 10, op := .move (.tmp 9), type := _, pos := _, after := _, guard := _ }) (v := ?_) rfl (by kernel_rfl) (by kernel_rfl) (by kernel_rfl) (fun _ _ _ h => h) (Or.inl ⟨by rfl, ?_⟩) (by assumption) ?_
  rotate_left 1
  · intro v hSv
    have hv1 := hSv.2
    clear hSv
    go_simp
    try with_reducible rfl
  try simp only [Act.put, List.setIfInBounds_toArray, List.set_cons_zero, List.set_cons_succ]
  refine wpAnyH_take (i := 4) (oi := { dst := some 11, op := .slice 26 (.tmp 2) none (some (.const (.int .i64 4))) none, type := _, pos := _, after := _, guard := _ }) (v := ?_) rfl (by kernel_rfl) (by kernel_rfl) (by kernel_rfl) (fun _ _ _ h => h) (Or.inl ⟨by rfl, ?_⟩) (by assumption) ?_
  rotate_left 1
  · intro v hSv
    have hv1 := hSv.2
    clear hSv
    go_simp
    try with_reducible rfl
  try simp only [Act.put, List.setIfInBounds_toArray, List.set_cons_zero, List.set_cons_succ]
  refine wpAnyH_ready (rs := [5]) (by kernel_rfl) (by simp) ?_
  refine AllReadyH.cons (o := { dst := some 12, op := .buildSlice _ _ _, type := _, pos := _, after := _, guard := _ }) rfl (fun K hK => ?_) AllReadyH.nil
  go_simp
  refine hK.out _ _ ⟨ba hb1 _, LD.out _ (ba hb1 _)⟩ (fun hHeld => ?_)
  clear hK K
  try simp only [Act.put, List.setIfInBounds_toArray, List.set_cons_zero, List.set_cons_succ]
  refine wpAnyH_ready (rs := [6]) (by kernel_rfl) (by simp) ?_
  refine AllReadyH.cons (o := { dst := some 13, op := .call _, type := _, pos := _, after := _, guard := _ }) rfl (fun K hK => ?_) AllReadyH.nil
  go_simp
  refine (same_ex _ _ _ _ _ ⟨e1, rfl, BA1.out _ (ba hb1 _), BA_row (heap_alloc_new _ _)⟩).mono ?_
  rintro e y2 ⟨rfl, hb⟩
  have hb2 : Below W.heap.size W y2 := (ba hb1 _).trans (hb.mono (ba hb1 _).size)
  clear hb
  go_wp2_with fail
  refine hK.out _ _ ⟨hb2, LD.out _ (hb2)⟩ (fun hHeld => ?_)
  clear hK K
  try simp only [Act.put, List.setIfInBounds_toArray, List.set_cons_zero, List.set_cons_succ]
  refine wpAnyH_take (i := 7) (oi := { dst := some 14, op := .pick (.tmp 10) (.tmp 13) (.const (.bool false)), type := _, pos := _, after := _, guard := _ }) (v := ?_) rfl (by kernel_rfl) (by kernel_rfl) (by kernel_rfl) (fun _ _ _ h => h) (Or.inl ⟨by rfl, ?_⟩) (by assumption) ?_
  rotate_left 1
  · intro v hSv
    have hv1 := hSv.2
    clear hSv
    go_simp
    try with_reducible rfl
  try simp only [Act.put, List.setIfInBounds_toArray, List.set_cons_zero, List.set_cons_succ]
  refine wpAnyH_take (i := 8) (oi := { dst := some 15, op := .move (.tmp 14), type := _, pos := _, after := _, guard := _ }) (v := ?_) rfl (by kernel_rfl) (by kernel_rfl) (by kernel_rfl) (fun _ _ _ h => h) (Or.inl ⟨by rfl, ?_⟩) (by assumption) ?_
  rotate_left 1
  · intro v hSv
    have hv1 := hSv.2
    clear hSv
    go_simp
    try with_reducible rfl
  try simp only [Act.put, List.setIfInBounds_toArray, List.set_cons_zero, List.set_cons_succ]
  refine wpAnyH_ready (rs := [9]) (by kernel_rfl) (by simp) ?_
  refine AllReadyH.cons (o := { dst := some 16, op := .call _, type := _, pos := _, after := _, guard := _ }) rfl (fun K hK => ?_) AllReadyH.nil
  go_simp
  refine (b55 _).mono ?_
  rintro e yz ⟨rfl, rfl⟩
  go_wp2_with fail
  refine hK.out _ _ ⟨hb2, LD.out _ (hb2)⟩ (fun hHeld => ?_)
  clear hK K
  try simp only [Act.put, List.setIfInBounds_toArray, List.set_cons_zero, List.set_cons_succ]
  refine wpAnyH_take (i := 10) (oi := { dst := some 17, op := .binOp .eql 3 (.tmp 16) (.const (.int .i64 1)) 3, type := _, pos := _, after := _, guard := _ }) (v := ?_) rfl (by kernel_rfl) (by kernel_rfl) (by kernel_rfl) (fun _ _ _ h => h) (Or.inl ⟨by rfl, ?_⟩) (by assumption) ?_
  rotate_left 1
  · intro v hSv
    have hv1 := hSv.2
    clear hSv
    go_simp
    try with_reducible rfl
  try simp only [Act.put, List.setIfInBounds_toArray, List.set_cons_zero, List.set_cons_succ]
  refine wpAnyH_take (i := 11) (oi := { dst := some 18, op := .pick (.tmp 15) (.tmp 17) (.const (.bool false)), type := _, pos := _, after := _, guard := _ }) (v := ?_) rfl (by kernel_rfl) (by kernel_rfl) (by kernel_rfl) (fun _ _ _ h => h) (Or.inl ⟨by rfl, ?_⟩) (by assumption) ?_
  rotate_left 1
  · intro v hSv
    have hv1 := hSv.2
    clear hSv
    go_simp
    try with_reducible rfl
  try simp only [Act.put, List.setIfInBounds_toArray, List.set_cons_zero, List.set_cons_succ]
  refine wpAnyH_take (i := 12) (oi := { dst := some 19, op := .move (.tmp 18), type := _, pos := _, after := _, guard := _ }) (v := ?_) rfl (by kernel_rfl) (by kernel_rfl) (by kernel_rfl) (fun _ _ _ h => h) (Or.inl ⟨by rfl, ?_⟩) (by assumption) ?_
  rotate_left 1
  · intro v hSv
    have hv1 := hSv.2
    clear hSv
    go_simp
    try with_reducible rfl
  try simp only [Act.put, List.setIfInBounds_toArray, List.set_cons_zero, List.set_cons_succ]
  refine wpAnyH_ready (rs := [13]) (by kernel_rfl) (by simp) ?_
  refine AllReadyH.cons (o := { dst := some 20, op := .call _, type := _, pos := _, after := _, guard := _ }) rfl (fun K hK => ?_) AllReadyH.nil
  go_simp
  refine (b56 _).mono ?_
  rintro e yz ⟨rfl, rfl⟩
  go_wp2_with fail
  refine hK.out _ _ ⟨hb2, LD.out _ (hb2)⟩ (fun hHeld => ?_)
  clear hK K
  try simp only [Act.put, List.setIfInBounds_toArray, List.set_cons_zero, List.set_cons_succ]
  refine wpAnyH_take (i := 14) (oi := { dst := some 21, op := .binOp .eql 3 (.tmp 20) (.const (.int .i64 2)) 3, type := _, pos := _, after := _, guard := _ }) (v := ?_) rfl (by kernel_rfl) (by kernel_rfl) (by kernel_rfl) (fun _ _ _ h => h) (Or.inl ⟨by rfl, ?_⟩) (by assumption) ?_
  rotate_left 1
  · intro v hSv
    have hv1 := hSv.2
    clear hSv
    go_simp
    try with_reducible rfl
  try simp only [Act.put, List.setIfInBounds_toArray, List.set_cons_zero, List.set_cons_succ]
  refine wpAnyH_take (i := 15) (oi := { dst := some 22, op := .pick (.tmp 19) (.tmp 21) (.const (.bool false)), type := _, pos := _, after := _, guard := _ }) (v := ?_) rfl (by kernel_rfl) (by kernel_rfl) (by kernel_rfl) (fun _ _ _ h => h) (Or.inl ⟨by rfl, ?_⟩) (by assumption) ?_
  rotate_left 1
  · intro v hSv
    have hv1 := hSv.2
    clear hSv
    go_simp
    try with_reducible rfl
  try simp only [Act.put, List.setIfInBounds_toArray, List.set_cons_zero, List.set_cons_succ]
  refine wpAnyH_take (i := 16) (oi := { dst := some 23, op := .move (.tmp 22), type := _, pos := _, after := _, guard := _ }) (v := ?_) rfl (by kernel_rfl) (by kernel_rfl) (by kernel_rfl) (fun _ _ _ h => h) (Or.inl ⟨by rfl, ?_⟩) (by assumption) ?_
  rotate_left 1
  · intro v hSv
    have hv1 := hSv.2
    clear hSv
    go_simp
    try with_reducible rfl
  try simp only [Act.put, List.setIfInBounds_toArray, List.set_cons_zero, List.set_cons_succ]
  refine wpAnyH_take (i := 23) (oi := { dst := some 30, op := .load 26 (.tmp 2), type := _, pos := _, after := _, guard := _ }) (v := ?_) rfl (by kernel_rfl) (by kernel_rfl) (by kernel_rfl) (fun _ _ _ h => h) (Or.inl ⟨by rfl, ?_⟩) (by assumption) ?_
  rotate_left 1
  · intro v hSv
    have hv1 := hSv.2
    clear hSv
    go_simp
    try with_reducible rfl
  try simp only [Act.put, List.setIfInBounds_toArray, List.set_cons_zero, List.set_cons_succ]
  refine wpAnyH_ready (rs := [17, 19]) (by kernel_rfl) (by simp) ?_
  refine AllReadyH.cons (o := { dst := some 24, op := .buildSlice _ _ _, type := _, pos := _, after := _, guard := _ }) rfl (fun K hK => ?_) (AllReadyH.cons (o := { dst := some 26, op := .buildSlice _ _ _, type := _, pos := _, after := _, guard := _ }) rfl (fun K hK => ?_) AllReadyH.nil)
  · skip
    go_simp
    refine hK.out _ _ ⟨ba (hb2) _, LD.out _ (ba (hb2) _)⟩ (fun hHeld => ?_)
    clear hK K
    try simp only [Act.put, List.setIfInBounds_toArray, List.set_cons_zero, List.set_cons_succ]
    refine wpAnyH_ready (rs := [18, 19]) (by kernel_rfl) (by simp) ?_
    refine AllReadyH.cons (o := { dst := some 25, op := .convert 22 22 (.tmp 24), type := _, pos := _, after := _, guard := _ }) rfl (fun K hK => ?_) (AllReadyH.cons (o := { dst := some 26, op := .buildSlice _ _ _, type := _, pos := _, after := _, guard := _ }) rfl (fun K hK => ?_) AllReadyH.nil)
    · skip
      go_simp
      refine hK.out _ _ ⟨ba (hb2) _, LD.out _ (ba (hb2) _)⟩ (fun hHeld => ?_)
      clear hK K
      try simp only [Act.put, List.setIfInBounds_toArray, List.set_cons_zero, List.set_cons_succ]
      refine wpAnyH_ready (rs := [19]) (by kernel_rfl) (by simp) ?_
      refine AllReadyH.cons (o := { dst := some 26, op := .buildSlice _ _ _, type := _, pos := _, after := _, guard := _ }) rfl (fun K hK => ?_) AllReadyH.nil
      go_simp
      refine hK.out _ _ ⟨ba (ba (hb2) _) _, LD.out _ (ba (ba (hb2) _) _)⟩ (fun hHeld => ?_)
      clear hK K
      try simp only [Act.put, List.setIfInBounds_toArray, List.set_cons_zero, List.set_cons_succ]
      refine wpAnyH_ready (rs := [20]) (by kernel_rfl) (by simp) ?_
      refine AllReadyH.cons (o := { dst := some 27, op := .convert 22 22 (.tmp 26), type := _, pos := _, after := _, guard := _ }) rfl (fun K hK => ?_) AllReadyH.nil
      go_simp
      refine hK.out _ _ ⟨ba (ba (hb2) _) _, LD.out _ (ba (ba (hb2) _) _)⟩ (fun hHeld => ?_)
      clear hK K
      try simp only [Act.put, List.setIfInBounds_toArray, List.set_cons_zero, List.set_cons_succ]
      refine wpAnyH_ready (rs := [21]) (by kernel_rfl) (by simp) ?_
      refine AllReadyH.cons (o := { dst := some 28, op := .buildSlice _ _ _, type := _, pos := _, after := _, guard := _ }) rfl (fun K hK => ?_) AllReadyH.nil
      go_simp
      refine hK.out _ _ ⟨ba (ba (ba hb2 _) _) _, LD.out _ (ba (ba (ba hb2 _) _) _)⟩ (fun hHeld => ?_)
      clear hK K
      try simp only [Act.put, List.setIfInBounds_toArray, List.set_cons_zero, List.set_cons_succ]
      refine wpAnyH_ready (rs := [22]) (by kernel_rfl) (by simp) ?_
      refine AllReadyH.cons (o := { dst := some 29, op := .call _, type := _, pos := _, after := _, guard := _ }) rfl (fun K hK => ?_) AllReadyH.nil
      go_simp
      refine (join_ex _ _ s1 _ HS1.out ⟨_, rfl, slAB _, rfl⟩ (VV.out _ (ba (ba (ba hb2 _) _) _))).mono ?_
      rintro e y3 ⟨rfl, hb⟩
      have hb3 : Below W.heap.size W y3 := (ba (ba (ba hb2 _) _) _).trans (hb.mono (ba (ba (ba hb2 _) _) _).size)
      clear hb
      go_wp2_with fail
      refine hK.out _ _ ⟨hb3, LD.out _ (hb3)⟩ (fun hHeld => ?_)
      clear hK K
      try simp only [Act.put, List.setIfInBounds_toArray, List.set_cons_zero, List.set_cons_succ]
      refine wpAnyH_take (i := 24) (oi := { dst := some 31, op := .binOp .eql 26 (.tmp 29) (.tmp 30) 26, type := _, pos := _, after := _, guard := _ }) (v := ?_) rfl (by kernel_rfl) (by kernel_rfl) (by kernel_rfl) (fun _ _ _ h => h) (Or.inl ⟨by rfl, ?_⟩) (by assumption) ?_
      rotate_left 1
      · intro v hSv
        have hv1 := hSv.2
        clear hSv
        go_simp
        try with_reducible rfl
      try simp only [Act.put, List.setIfInBounds_toArray, List.set_cons_zero, List.set_cons_succ]
      refine wpAnyH_take (i := 25) (oi := { dst := some 32, op := .pick (.tmp 23) (.tmp 31) (.const (.bool false)), type := _, pos := _, after := _, guard := _ }) (v := ?_) rfl (by kernel_rfl) (by kernel_rfl) (by kernel_rfl) (fun _ _ _ h => h) (Or.inl ⟨by rfl, ?_⟩) (by assumption) ?_
      rotate_left 1
      · intro v hSv
        have hv1 := hSv.2
        clear hSv
        go_simp
        try with_reducible rfl
      try simp only [Act.put, List.setIfInBounds_toArray, List.set_cons_zero, List.set_cons_succ]
      refine wpAnyH_take (i := 26) (oi := { dst := some 33, op := .move (.tmp 32), type := _, pos := _, after := _, guard := _ }) (v := ?_) rfl (by kernel_rfl) (by kernel_rfl) (by kernel_rfl) (fun _ _ _ h => h) (Or.inl ⟨by rfl, ?_⟩) (by assumption) ?_
      rotate_left 1
      · intro v hSv
        have hv1 := hSv.2
        clear hSv
        go_simp
        try with_reducible rfl
      try simp only [Act.put, List.setIfInBounds_toArray, List.set_cons_zero, List.set_cons_succ]
      refine wpAnyH_ready (rs := [27]) (by kernel_rfl) (by simp) ?_
      refine AllReadyH.cons (o := { dst := some 34, op := .call _, type := _, pos := _, after := _, guard := _ }) rfl (fun K hK => ?_) AllReadyH.nil
      go_simp
      refine (pad_nil _).mono ?_
      rintro e y4 ⟨A9, c9, rfl, hb⟩
      have hb4 : Below W.heap.size W y4 := hb3.trans (hb.mono hb3.size)
      clear hb
      go_wp2_with fail
      refine hK.out _ _ ⟨hb4, LD.out _ (hb4)⟩ (fun hHeld => ?_)
      clear hK K
      try simp only [Act.put, List.setIfInBounds_toArray, List.set_cons_zero, List.set_cons_succ]
      refine wpAnyH_take (i := 28) (oi := { dst := some 35, op := .call _, type := _, pos := _, after := _, guard := _ }) (v := ?_) rfl (by kernel_rfl) (by kernel_rfl) (by kernel_rfl) (fun _ _ _ h => h) (Or.inl ⟨by rfl, ?_⟩) (by assumption) ?_
      rotate_left 1
      · intro v hSv
        have hv1 := hSv.2
        clear hSv
        go_simp
        try with_reducible rfl
      try simp only [Act.put, List.setIfInBounds_toArray, List.set_cons_zero, List.set_cons_succ]
      refine wpAnyH_take (i := 29) (oi := { dst := some 36, op := .binOp .eql 3 (.tmp 35) (.const (.int .i64 64)) 3, type := _, pos := _, after := _, guard := _ }) (v := ?_) rfl (by kernel_rfl) (by kernel_rfl) (by kernel_rfl) (fun _ _ _ h => h) (Or.inl ⟨by rfl, ?_⟩) (by assumption) ?_
      rotate_left 1
      · intro v hSv
        have hv1 := hSv.2
        clear hSv
        go_simp
        try with_reducible rfl
      try simp only [Act.put, List.setIfInBounds_toArray, List.set_cons_zero, List.set_cons_succ]
      refine wpAnyH_take (i := 30) (oi := { dst := some 37, op := .pick (.tmp 33) (.tmp 36) (.const (.bool false)), type := _, pos := _, after := _, guard := _ }) (v := ?_) rfl (by kernel_rfl) (by kernel_rfl) (by kernel_rfl) (fun _ _ _ h => h) (Or.inl ⟨by rfl, ?_⟩) (by assumption) ?_
      rotate_left 1
      · intro v hSv
        have hv1 := hSv.2
        clear hSv
        go_simp
        try with_reducible rfl
      try simp only [Act.put, List.setIfInBounds_toArray, List.set_cons_zero, List.set_cons_succ]
      refine wpAnyH_take (i := 31) (oi := { dst := some 0, op := .assign (.tmp 37), type := _, pos := _, after := _, guard := _ }) (v := ?_) rfl (by kernel_rfl) (by kernel_rfl) (by kernel_rfl) (fun _ _ _ h => h) (Or.inl ⟨by rfl, ?_⟩) (by assumption) ?_
      rotate_left 1
      · intro v hSv
        have hv1 := hSv.2
        clear hSv
        go_simp
        try with_reducible rfl
      try simp only [Act.put, List.setIfInBounds_toArray, List.set_cons_zero]
      refine wpAnyH_done (by kernel_rfl) ?_ _
      go_wp2_with fail
      go_ret
      exact ⟨rfl, HB3.out.trans (hb4.mono HB3.out.size)⟩
    · skip
      go_simp
      refine hK.out _ _ ⟨ba (ba (hb2) _) _, LD.out _ (ba (ba (hb2) _) _)⟩ (fun hHeld => ?_)
      clear hK K
      try simp only [Act.put, List.setIfInBounds_toArray, List.set_cons_zero, List.set_cons_succ]
      refine wpAnyH_ready (rs := [18, 20]) (by kernel_rfl) (by simp) ?_
      refine AllReadyH.cons (o := { dst := some 25, op := .convert 22 22 (.tmp 24), type := _, pos := _, after := _, guard := _ }) rfl (fun K hK => ?_) (AllReadyH.cons (o := { dst := some 27, op := .convert 22 22 (.tmp 26), type := _, pos := _, after := _, guard := _ }) rfl (fun K hK => ?_) AllReadyH.nil)
      · skip
        go_simp
        refine hK.out _ _ ⟨ba (ba (hb2) _) _, LD.out _ (ba (ba (hb2) _) _)⟩ (fun hHeld => ?_)
        clear hK K
        try simp only [Act.put, List.setIfInBounds_toArray, List.set_cons_zero, List.set_cons_succ]
        refine wpAnyH_ready (rs := [20]) (by kernel_rfl) (by simp) ?_
        refine AllReadyH.cons (o := { dst := some 27, op := .convert 22 22 (.tmp 26), type := _, pos := _, after := _, guard := _ }) rfl (fun K hK => ?_) AllReadyH.nil
        go_simp
        refine hK.out _ _ ⟨ba (ba (hb2) _) _, LD.out _ (ba (ba (hb2) _) _)⟩ (fun hHeld => ?_)
        clear hK K
        try simp only [Act.put, List.setIfInBounds_toArray, List.set_cons_zero, List.set_cons_succ]
        refine wpAnyH_ready (rs := [21]) (by kernel_rfl) (by simp) ?_
        refine AllReadyH.cons (o := { dst := some 28, op := .buildSlice _ _ _, type := _, pos := _, after := _, guard := _ }) rfl (fun K hK => ?_) AllReadyH.nil
        go_simp
        refine hK.out _ _ ⟨ba (ba (ba hb2 _) _) _, LD.out _ (ba (ba (ba hb2 _) _) _)⟩ (fun hHeld => ?_)
        clear hK K
        try simp only [Act.put, List.setIfInBounds_toArray, List.set_cons_zero, List.set_cons_succ]
        refine wpAnyH_ready (rs := [22]) (by kernel_rfl) (by simp) ?_
        refine AllReadyH.cons (o := { dst := some 29, op := .call _, type := _, pos := _, after := _, guard := _ }) rfl (fun K hK => ?_) AllReadyH.nil
        go_simp
        refine (join_ex _ _ s1 _ HS1.out ⟨_, rfl, slAB _, rfl⟩ (VV.out _ (ba (ba (ba hb2 _) _) _))).mono ?_
        rintro e y3 ⟨rfl, hb⟩
        have hb3 : Below W.heap.size W y3 := (ba (ba (ba hb2 _) _) _).trans (hb.mono (ba (ba (ba hb2 _) _) _).size)
        clear hb
        go_wp2_with fail
        refine hK.out _ _ ⟨hb3, LD.out _ (hb3)⟩ (fun hHeld => ?_)
        clear hK K
        try simp only [Act.put, List.setIfInBounds_toArray, List.set_cons_zero, List.set_cons_succ]
        refine wpAnyH_take (i := 24) (oi := { dst := some 31, op := .binOp .eql 26 (.tmp 29) (.tmp 30) 26, type := _, pos := _, after := _, guard := _ }) (v := ?_) rfl (by kernel_rfl) (by kernel_rfl) (by kernel_rfl) (fun _ _ _ h => h) (Or.inl ⟨by rfl, ?_⟩) (by assumption) ?_
        rotate_left 1
        · intro v hSv
          have hv1 := hSv.2
          clear hSv
          go_simp
          try with_reducible rfl
        try simp only [Act.put, List.setIfInBounds_toArray, List.set_cons_zero, List.set_cons_succ]
        refine wpAnyH_take (i := 25) (oi := { dst := some 32, op := .pick (.tmp 23) (.tmp 31) (.const (.bool false)), type := _, pos := _, after := _, guard := _ }) (v := ?_) rfl (by kernel_rfl) (by kernel_rfl) (by kernel_rfl) (fun _ _ _ h => h) (Or.inl ⟨by rfl, ?_⟩) (by assumption) ?_
        rotate_left 1
        · intro v hSv
          have hv1 := hSv.2
          clear hSv
          go_simp
          try with_reducible rfl
        try simp only [Act.put, List.setIfInBounds_toArray, List.set_cons_zero, List.set_cons_succ]
        refine wpAnyH_take (i := 26) (oi := { dst := some 33, op := .move (.tmp 32), type := _, pos := _, after := _, guard := _ }) (v := ?_) rfl (by kernel_rfl) (by kernel_rfl) (by kernel_rfl) (fun _ _ _ h => h) (Or.inl ⟨by rfl, ?_⟩) (by assumption) ?_
        rotate_left 1
        · intro v hSv
          have hv1 := hSv.2
          clear hSv
          go_simp
          try with_reducible rfl
        try simp only [Act.put, List.setIfInBounds_toArray, List.set_cons_zero, List.set_cons_succ]
        refine wpAnyH_ready (rs := [27]) (by kernel_rfl) (by simp) ?_
        refine AllReadyH.cons (o := { dst := some 34, op := .call _, type := _, pos := _, after := _, guard := _ }) rfl (fun K hK => ?_) AllReadyH.nil
        go_simp
        refine (pad_nil _).mono ?_
        rintro e y4 ⟨A9, c9, rfl, hb⟩
        have hb4 : Below W.heap.size W y4 := hb3.trans (hb.mono hb3.size)
        clear hb
        go_wp2_with fail
        refine hK.out _ _ ⟨hb4, LD.out _ (hb4)⟩ (fun hHeld => ?_)
        clear hK K
        try simp only [Act.put, List.setIfInBounds_toArray, List.set_cons_zero, List.set_cons_succ]
        refine wpAnyH_take (i := 28) (oi := { dst := some 35, op := .call _, type := _, pos := _, after := _, guard := _ }) (v := ?_) rfl (by kernel_rfl) (by kernel_rfl) (by kernel_rfl) (fun _ _ _ h => h) (Or.inl ⟨by rfl, ?_⟩) (by assumption) ?_
        rotate_left 1
        · intro v hSv
          have hv1 := hSv.2
          clear hSv
          go_simp
          try with_reducible rfl
        try simp only [Act.put, List.setIfInBounds_toArray, List.set_cons_zero, List.set_cons_succ]
        refine wpAnyH_take (i := 29) (oi := { dst := some 36, op := .binOp .eql 3 (.tmp 35) (.const (.int .i64 64)) 3, type := _, pos := _, after := _, guard := _ }) (v := ?_) rfl (by kernel_rfl) (by kernel_rfl) (by kernel_rfl) (fun _ _ _ h => h) (Or.inl ⟨by rfl, ?_⟩) (by assumption) ?_
        rotate_left 1
        · intro v hSv
          have hv1 := hSv.2
          clear hSv
          go_simp
          try with_reducible rfl
        try simp only [Act.put, List.setIfInBounds_toArray, List.set_cons_zero, List.set_cons_succ]
        refine wpAnyH_take (i := 30) (oi := { dst := some 37, op := .pick (.tmp 33) (.tmp 36) (.const (.bool false)), type := _, pos := _, after := _, guard := _ }) (v := ?_) rfl (by kernel_rfl) (by kernel_rfl) (by kernel_rfl) (fun _ _ _ h => h) (Or.inl ⟨by rfl, ?_⟩) (by assumption) ?_
        rotate_left 1
        · intro v hSv
          have hv1 := hSv.2
          clear hSv
          go_simp
          try with_reducible rfl
        try simp only [Act.put, List.setIfInBounds_toArray, List.set_cons_zero, List.set_cons_succ]
        refine wpAnyH_take (i := 31) (oi := { dst := some 0, op := .assign (.tmp 37), type := _, pos := _, after := _, guard := _ }) (v := ?_) rfl (by kernel_rfl) (by kernel_rfl) (by kernel_rfl) (fun _ _ _ h => h) (Or.inl ⟨by rfl, ?_⟩) (by assumption) ?_
        rotate_left 1
        · intro v hSv
          have hv1 := hSv.2
          clear hSv
          go_simp
          try with_reducible rfl
        try simp only [Act.put, List.setIfInBounds_toArray, List.set_cons_zero]
        refine wpAnyH_done (by kernel_rfl) ?_ _
        go_wp2_with fail
        go_ret
        exact ⟨rfl, HB3.out.trans (hb4.mono HB3.out.size)⟩
      · skip
        go_simp
        refine hK.out _ _ ⟨ba (ba (hb2) _) _, LD.out _ (ba (ba (hb2) _) _)⟩ (fun hHeld => ?_)
        clear hK K
        try simp only [Act.put, List.setIfInBounds_toArray, List.set_cons_zero, List.set_cons_succ]
        refine wpAnyH_ready (rs := [18]) (by kernel_rfl) (by simp) ?_
        refine AllReadyH.cons (o := { dst := some 25, op := .convert 22 22 (.tmp 24), type := _, pos := _, after := _, guard := _ }) rfl (fun K hK => ?_) AllReadyH.nil
        go_simp
        refine hK.out _ _ ⟨ba (ba (hb2) _) _, LD.out _ (ba (ba (hb2) _) _)⟩ (fun hHeld => ?_)
        clear hK K
        try simp only [Act.put, List.setIfInBounds_toArray, List.set_cons_zero, List.set_cons_succ]
        refine wpAnyH_ready (rs := [21]) (by kernel_rfl) (by simp) ?_
        refine AllReadyH.cons (o := { dst := some 28, op := .buildSlice _ _ _, type := _, pos := _, after := _, guard := _ }) rfl (fun K hK => ?_) AllReadyH.nil
        go_simp
        refine hK.out _ _ ⟨ba (ba (ba hb2 _) _) _, LD.out _ (ba (ba (ba hb2 _) _) _)⟩ (fun hHeld => ?_)
        clear hK K
        try simp only [Act.put, List.setIfInBounds_toArray, List.set_cons_zero, List.set_cons_succ]
        refine wpAnyH_ready (rs := [22]) (by kernel_rfl) (by simp) ?_
        refine AllReadyH.cons (o := { dst := some 29, op := .call _, type := _, pos := _, after := _, guard := _ }) rfl (fun K hK => ?_) AllReadyH.nil
        go_simp
        refine (join_ex _ _ s1 _ HS1.out ⟨_, rfl, slAB _, rfl⟩ (VV.out _ (ba (ba (ba hb2 _) _) _))).mono ?_
        rintro e y3 ⟨rfl, hb⟩
        have hb3 : Below W.heap.size W y3 := (ba (ba (ba hb2 _) _) _).trans (hb.mono (ba (ba (ba hb2 _) _) _).size)
        clear hb
        go_wp2_with fail
        refine hK.out _ _ ⟨hb3, LD.out _ (hb3)⟩ (fun hHeld => ?_)
        clear hK K
        try simp only [Act.put, List.setIfInBounds_toArray, List.set_cons_zero, List.set_cons_succ]
        refine wpAnyH_take (i := 24) (oi := { dst := some 31, op := .binOp .eql 26 (.tmp 29) (.tmp 30) 26, type := _, pos := _, after := _, guard := _ }) (v := ?_) rfl (by kernel_rfl) (by kernel_rfl) (by kernel_rfl) (fun _ _ _ h => h) (Or.inl ⟨by rfl, ?_⟩) (by assumption) ?_
        rotate_left 1
        · intro v hSv
          have hv1 := hSv.2
          clear hSv
          go_simp
          try with_reducible rfl
        try simp only [Act.put, List.setIfInBounds_toArray, List.set_cons_zero, List.set_cons_succ]
        refine wpAnyH_take (i := 25) (oi := { dst := some 32, op := .pick (.tmp 23) (.tmp 31) (.const (.bool false)), type := _, pos := _, after := _, guard := _ }) (v := ?_) rfl (by kernel_rfl) (by kernel_rfl) (by kernel_rfl) (fun _ _ _ h => h) (Or.inl ⟨by rfl, ?_⟩) (by assumption) ?_
        rotate_left 1
        · intro v hSv
          have hv1 := hSv.2
          clear hSv
          go_simp
          try with_reducible rfl
        try simp only [Act.put, List.setIfInBounds_toArray, List.set_cons_zero, List.set_cons_succ]
        refine wpAnyH_take (i := 26) (oi := { dst := some 33, op := .move (.tmp 32), type := _, pos := _, after := _, guard := _ }) (v := ?_) rfl (by kernel_rfl) (by kernel_rfl) (by kernel_rfl) (fun _ _ _ h => h) (Or.inl ⟨by rfl, ?_⟩) (by assumption) ?_
        rotate_left 1
        · intro v hSv
          have hv1 := hSv.2
          clear hSv
          go_simp
          try with_reducible rfl
        try simp only [Act.put, List.setIfInBounds_toArray, List.set_cons_zero, List.set_cons_succ]
        refine wpAnyH_ready (rs := [27]) (by kernel_rfl) (by simp) ?_
        refine AllReadyH.cons (o := { dst := some 34, op := .call _, type := _, pos := _, after := _, guard := _ }) rfl (fun K hK => ?_) AllReadyH.nil
        go_simp
        refine (pad_nil _).mono ?_
        rintro e y4 ⟨A9, c9, rfl, hb⟩
        have hb4 : Below W.heap.size W y4 := hb3.trans (hb.mono hb3.size)
        clear hb
        go_wp2_with fail
        refine hK.out _ _ ⟨hb4, LD.out _ (hb4)⟩ (fun hHeld => ?_)
        clear hK K
        try simp only [Act.put, List.setIfInBounds_toArray, List.set_cons_zero, List.set_cons_succ]
        refine wpAnyH_take (i := 28) (oi := { dst := some 35, op := .call _, type := _, pos := _, after := _, guard := _ }) (v := ?_) rfl (by kernel_rfl) (by kernel_rfl) (by kernel_rfl) (fun _ _ _ h => h) (Or.inl ⟨by rfl, ?_⟩) (by assumption) ?_
        rotate_left 1
        · intro v hSv
          have hv1 := hSv.2
          clear hSv
          go_simp
          try with_reducible rfl
        try simp only [Act.put, List.setIfInBounds_toArray, List.set_cons_zero, List.set_cons_succ]
        refine wpAnyH_take (i := 29) (oi := { dst := some 36, op := .binOp .eql 3 (.tmp 35) (.const (.int .i64 64)) 3, type := _, pos := _, after := _, guard := _ }) (v := ?_) rfl (by kernel_rfl) (by kernel_rfl) (by kernel_rfl) (fun _ _ _ h => h) (Or.inl ⟨by rfl, ?_⟩) (by assumption) ?_
        rotate_left 1
        · intro v hSv
          have hv1 := hSv.2
          clear hSv
          go_simp
          try with_reducible rfl
        try simp only [Act.put, List.setIfInBounds_toArray, List.set_cons_zero, List.set_cons_succ]
        refine wpAnyH_take (i := 30) (oi := { dst := some 37, op := .pick (.tmp 33) (.tmp 36) (.const (.bool false)), type := _, pos := _, after := _, guard := _ }) (v := ?_) rfl (by kernel_rfl) (by kernel_rfl) (by kernel_rfl) (fun _ _ _ h => h) (Or.inl ⟨by rfl, ?_⟩) (by assumption) ?_
        rotate_left 1
        · intro v hSv
          have hv1 := hSv.2
          clear hSv
          go_simp
          try with_reducible rfl
        try simp only [Act.put, List.setIfInBounds_toArray, List.set_cons_zero, List.set_cons_succ]
        refine wpAnyH_take (i := 31) (oi := { dst := some 0, op := .assign (.tmp 37), type := _, pos := _, after := _, guard := _ }) (v := ?_) rfl (by kernel_rfl) (by kernel_rfl) (by kernel_rfl) (fun _ _ _ h => h) (Or.inl ⟨by rfl, ?_⟩) (by assumption) ?_
        rotate_left 1
        · intro v hSv
          have hv1 := hSv.2
          clear hSv
          go_simp
          try with_reducible rfl
        try simp only [Act.put, List.setIfInBounds_toArray, List.set_cons_zero]
        refine wpAnyH_done (by kernel_rfl) ?_ _
        go_wp2_with fail
        go_ret
        exact ⟨rfl, HB3.out.trans (hb4.mono HB3.out.size)⟩
  · skip
    go_simp
    refine hK.out _ _ ⟨ba (hb2) _, LD.out _ (ba (hb2) _)⟩ (fun hHeld => ?_)
    clear hK K
    try simp only [Act.put, List.setIfInBounds_toArray, List.set_cons_zero, List.set_cons_succ]
    refine wpAnyH_ready (rs := [17, 20]) (by kernel_rfl) (by simp) ?_
    refine AllReadyH.cons (o := { dst := some 24, op := .buildSlice _ _ _, type := _, pos := _, after := _, guard := _ }) rfl (fun K hK => ?_) (AllReadyH.cons (o := { dst := some 27, op := .convert 22 22 (.tmp 26), type := _, pos := _, after := _, guard := _ }) rfl (fun K hK => ?_) AllReadyH.nil)
    · skip
      go_simp
      refine hK.out _ _ ⟨ba (ba (hb2) _) _, LD.out _ (ba (ba (hb2) _) _)⟩ (fun hHeld => ?_)
      clear hK K
      try simp only [Act.put, List.setIfInBounds_toArray, List.set_cons_zero, List.set_cons_succ]
      refine wpAnyH_ready (rs := [18, 20]) (by kernel_rfl) (by simp) ?_
      refine AllReadyH.cons (o := { dst := some 25, op := .convert 22 22 (.tmp 24), type := _, pos := _, after := _, guard := _ }) rfl (fun K hK => ?_) (AllReadyH.cons (o := { dst := some 27, op := .convert 22 22 (.tmp 26), type := _, pos := _, after := _, guard := _ }) rfl (fun K hK => ?_) AllReadyH.nil)
      · skip
        go_simp
        refine hK.out _ _ ⟨ba (ba (hb2) _) _, LD.out _ (ba (ba (hb2) _) _)⟩ (fun hHeld => ?_)
        clear hK K
        try simp only [Act.put, List.setIfInBounds_toArray, List.set_cons_zero, List.set_cons_succ]
        refine wpAnyH_ready (rs := [20]) (by kernel_rfl) (by simp) ?_
        refine AllReadyH.cons (o := { dst := some 27, op := .convert 22 22 (.tmp 26), type := _, pos := _, after := _, guard := _ }) rfl (fun K hK => ?_) AllReadyH.nil
        go_simp
        refine hK.out _ _ ⟨ba (ba (hb2) _) _, LD.out _ (ba (ba (hb2) _) _)⟩ (fun hHeld => ?_)
        clear hK K
        try simp only [Act.put, List.setIfInBounds_toArray, List.set_cons_zero, List.set_cons_succ]
        refine wpAnyH_ready (rs := [21]) (by kernel_rfl) (by simp) ?_
        refine AllReadyH.cons (o := { dst := some 28, op := .buildSlice _ _ _, type := _, pos := _, after := _, guard := _ }) rfl (fun K hK => ?_) AllReadyH.nil
        go_simp
        refine hK.out _ _ ⟨ba (ba (ba hb2 _) _) _, LD.out _ (ba (ba (ba hb2 _) _) _)⟩ (fun hHeld => ?_)
        clear hK K
        try simp only [Act.put, List.setIfInBounds_toArray, List.set_cons_zero, List.set_cons_succ]
        refine wpAnyH_ready (rs := [22]) (by kernel_rfl) (by simp) ?_
        refine AllReadyH.cons (o := { dst := some 29, op := .call _, type := _, pos := _, after := _, guard := _ }) rfl (fun K hK => ?_) AllReadyH.nil
        go_simp
        refine (join_ex _ _ s1 _ HS1.out ⟨_, rfl, slBA _, rfl⟩ (VV.out _ (ba (ba (ba hb2 _) _) _))).mono ?_
        rintro e y3 ⟨rfl, hb⟩
        have hb3 : Below W.heap.size W y3 := (ba (ba (ba hb2 _) _) _).trans (hb.mono (ba (ba (ba hb2 _) _) _).size)
        clear hb
        go_wp2_with fail
        refine hK.out _ _ ⟨hb3, LD.out _ (hb3)⟩ (fun hHeld => ?_)
        clear hK K
        try simp only [Act.put, List.setIfInBounds_toArray, List.set_cons_zero, List.set_cons_succ]
        refine wpAnyH_take (i := 24) (oi := { dst := some 31, op := .binOp .eql 26 (.tmp 29) (.tmp 30) 26, type := _, pos := _, after := _, guard := _ }) (v := ?_) rfl (by kernel_rfl) (by kernel_rfl) (by kernel_rfl) (fun _ _ _ h => h) (Or.inl ⟨by rfl, ?_⟩) (by assumption) ?_
        rotate_left 1
        · intro v hSv
          have hv1 := hSv.2
          clear hSv
          go_simp
          try with_reducible rfl
        try simp only [Act.put, List.setIfInBounds_toArray, List.set_cons_zero, List.set_cons_succ]
        refine wpAnyH_take (i := 25) (oi := { dst := some 32, op := .pick (.tmp 23) (.tmp 31) (.const (.bool false)), type := _, pos := _, after := _, guard := _ }) (v := ?_) rfl (by kernel_rfl) (by kernel_rfl) (by kernel_rfl) (fun _ _ _ h => h) (Or.inl ⟨by rfl, ?_⟩) (by assumption) ?_
        rotate_left 1
        · intro v hSv
          have hv1 := hSv.2
          clear hSv
          go_simp
          try with_reducible rfl
        try simp only [Act.put, List.setIfInBounds_toArray, List.set_cons_zero, List.set_cons_succ]
        refine wpAnyH_take (i := 26) (oi := { dst := some 33, op := .move (.tmp 32), type := _, pos := _, after := _, guard := _ }) (v := ?_) rfl (by kernel_rfl) (by kernel_rfl) (by kernel_rfl) (fun _ _ _ h => h) (Or.inl ⟨by rfl, ?_⟩) (by assumption) ?_
        rotate_left 1
        · intro v hSv
          have hv1 := hSv.2
          clear hSv
          go_simp
          try with_reducible rfl
        try simp only [Act.put, List.setIfInBounds_toArray, List.set_cons_zero, List.set_cons_succ]
        refine wpAnyH_ready (rs := [27]) (by kernel_rfl) (by simp) ?_
        refine AllReadyH.cons (o := { dst := some 34, op := .call _, type := _, pos := _, after := _, guard := _ }) rfl (fun K hK => ?_) AllReadyH.nil
        go_simp
        refine (pad_nil _).mono ?_
        rintro e y4 ⟨A9, c9, rfl, hb⟩
        have hb4 : Below W.heap.size W y4 := hb3.trans (hb.mono hb3.size)
        clear hb
        go_wp2_with fail
        refine hK.out _ _ ⟨hb4, LD.out _ (hb4)⟩ (fun hHeld => ?_)
        clear hK K
        try simp only [Act.put, List.setIfInBounds_toArray, List.set_cons_zero, List.set_cons_succ]
        refine wpAnyH_take (i := 28) (oi := { dst := some 35, op := .call _, type := _, pos := _, after := _, guard := _ }) (v := ?_) rfl (by kernel_rfl) (by kernel_rfl) (by kernel_rfl) (fun _ _ _ h => h) (Or.inl ⟨by rfl, ?_⟩) (by assumption) ?_
        rotate_left 1
        · intro v hSv
          have hv1 := hSv.2
          clear hSv
          go_simp
          try with_reducible rfl
        try simp only [Act.put, List.setIfInBounds_toArray, List.set_cons_zero, List.set_cons_succ]
        refine wpAnyH_take (i := 29) (oi := { dst := some 36, op := .binOp .eql 3 (.tmp 35) (.const (.int .i64 64)) 3, type := _, pos := _, after := _, guard := _ }) (v := ?_) rfl (by kernel_rfl) (by kernel_rfl) (by kernel_rfl) (fun _ _ _ h => h) (Or.inl ⟨by rfl, ?_⟩) (by assumption) ?_
        rotate_left 1
        · intro v hSv
          have hv1 := hSv.2
          clear hSv
          go_simp
          try with_reducible rfl
        try simp only [Act.put, List.setIfInBounds_toArray, List.set_cons_zero, List.set_cons_succ]
        refine wpAnyH_take (i := 30) (oi := { dst := some 37, op := .pick (.tmp 33) (.tmp 36) (.const (.bool false)), type := _, pos := _, after := _, guard := _ }) (v := ?_) rfl (by kernel_rfl) (by kernel_rfl) (by kernel_rfl) (fun _ _ _ h => h) (Or.inl ⟨by rfl, ?_⟩) (by assumption) ?_
        rotate_left 1
        · intro v hSv
          have hv1 := hSv.2
          clear hSv
          go_simp
          try with_reducible rfl
        try simp only [Act.put, List.setIfInBounds_toArray, List.set_cons_zero, List.set_cons_succ]
        refine wpAnyH_take (i := 31) (oi := { dst := some 0, op := .assign (.tmp 37), type := _, pos := _, after := _, guard := _ }) (v := ?_) rfl (by kernel_rfl) (by kernel_rfl) (by kernel_rfl) (fun _ _ _ h => h) (Or.inl ⟨by rfl, ?_⟩) (by assumption) ?_
        rotate_left 1
        · intro v hSv
          have hv1 := hSv.2
          clear hSv
          go_simp
          try with_reducible rfl
        try simp only [Act.put, List.setIfInBounds_toArray, List.set_cons_zero]
        refine wpAnyH_done (by kernel_rfl) ?_ _
        go_wp2_with fail
        go_ret
        exact ⟨rfl, HB3.out.trans (hb4.mono HB3.out.size)⟩
      · skip
        go_simp
        refine hK.out _ _ ⟨ba (ba (hb2) _) _, LD.out _ (ba (ba (hb2) _) _)⟩ (fun hHeld => ?_)
        clear hK K
        try simp only [Act.put, List.setIfInBounds_toArray, List.set_cons_zero, List.set_cons_succ]
        refine wpAnyH_ready (rs := [18]) (by kernel_rfl) (by simp) ?_
        refine AllReadyH.cons (o := { dst := some 25, op := .convert 22 22 (.tmp 24), type := _, pos := _, after := _, guard := _ }) rfl (fun K hK => ?_) AllReadyH.nil
        go_simp
        refine hK.out _ _ ⟨ba (ba (hb2) _) _, LD.out _ (ba (ba (hb2) _) _)⟩ (fun hHeld => ?_)
        clear hK K
        try simp only [Act.put, List.setIfInBounds_toArray, List.set_cons_zero, List.set_cons_succ]
        refine wpAnyH_ready (rs := [21]) (by kernel_rfl) (by simp) ?_
        refine AllReadyH.cons (o := { dst := some 28, op := .buildSlice _ _ _, type := _, pos := _, after := _, guard := _ }) rfl (fun K hK => ?_) AllReadyH.nil
        go_simp
        refine hK.out _ _ ⟨ba (ba (ba hb2 _) _) _, LD.out _ (ba (ba (ba hb2 _) _) _)⟩ (fun hHeld => ?_)
        clear hK K
        try simp only [Act.put, List.setIfInBounds_toArray, List.set_cons_zero, List.set_cons_succ]
        refine wpAnyH_ready (rs := [22]) (by kernel_rfl) (by simp) ?_
        refine AllReadyH.cons (o := { dst := some 29, op := .call _, type := _, pos := _, after := _, guard := _ }) rfl (fun K hK => ?_) AllReadyH.nil
        go_simp
        refine (join_ex _ _ s1 _ HS1.out ⟨_, rfl, slBA _, rfl⟩ (VV.out _ (ba (ba (ba hb2 _) _) _))).mono ?_
        rintro e y3 ⟨rfl, hb⟩
        have hb3 : Below W.heap.size W y3 := (ba (ba (ba hb2 _) _) _).trans (hb.mono (ba (ba (ba hb2 _) _) _).size)
        clear hb
        go_wp2_with fail
        refine hK.out _ _ ⟨hb3, LD.out _ (hb3)⟩ (fun hHeld => ?_)
        clear hK K
        try simp only [Act.put, List.setIfInBounds_toArray, List.set_cons_zero, List.set_cons_succ]
        refine wpAnyH_take (i := 24) (oi := { dst := some 31, op := .binOp .eql 26 (.tmp 29) (.tmp 30) 26, type := _, pos := _, after := _, guard := _ }) (v := ?_) rfl (by kernel_rfl) (by kernel_rfl) (by kernel_rfl) (fun _ _ _ h => h) (Or.inl ⟨by rfl, ?_⟩) (by assumption) ?_
        rotate_left 1
        · intro v hSv
          have hv1 := hSv.2
          clear hSv
          go_simp
          try with_reducible rfl
        try simp only [Act.put, List.setIfInBounds_toArray, List.set_cons_zero, List.set_cons_succ]
        refine wpAnyH_take (i := 25) (oi := { dst := some 32, op := .pick (.tmp 23) (.tmp 31) (.const (.bool false)), type := _, pos := _, after := _, guard := _ }) (v := ?_) rfl (by kernel_rfl) (by kernel_rfl) (by kernel_rfl) (fun _ _ _ h => h) (Or.inl ⟨by rfl, ?_⟩) (by assumption) ?_
        rotate_left 1
        · intro v hSv
          have hv1 := hSv.2
          clear hSv
          go_simp
          try with_reducible rfl
        try simp only [Act.put, List.setIfInBounds_toArray, List.set_cons_zero, List.set_cons_succ]
        refine wpAnyH_take (i := 26) (oi := { dst := some 33, op := .move (.tmp 32), type := _, pos := _, after := _, guard := _ }) (v := ?_) rfl (by kernel_rfl) (by kernel_rfl) (by kernel_rfl) (fun _ _ _ h => h) (Or.inl ⟨by rfl, ?_⟩) (by assumption) ?_
        rotate_left 1
        · intro v hSv
          have hv1 := hSv.2
          clear hSv
          go_simp
          try with_reducible rfl
        try simp only [Act.put, List.setIfInBounds_toArray, List.set_cons_zero, List.set_cons_succ]
        refine wpAnyH_ready (rs := [27]) (by kernel_rfl) (by simp) ?_
        refine AllReadyH.cons (o := { dst := some 34, op := .call _, type := _, pos := _, after := _, guard := _ }) rfl (fun K hK => ?_) AllReadyH.nil
        go_simp
        refine (pad_nil _).mono ?_
        rintro e y4 ⟨A9, c9, rfl, hb⟩
        have hb4 : Below W.heap.size W y4 := hb3.trans (hb.mono hb3.size)
        clear hb
        go_wp2_with fail
        refine hK.out _ _ ⟨hb4, LD.out _ (hb4)⟩ (fun hHeld => ?_)
        clear hK K
        try simp only [Act.put, List.setIfInBounds_toArray, List.set_cons_zero, List.set_cons_succ]
        refine wpAnyH_take (i := 28) (oi := { dst := some 35, op := .call _, type := _, pos := _, after := _, guard := _ }) (v := ?_) rfl (by kernel_rfl) (by kernel_rfl) (by kernel_rfl) (fun _ _ _ h => h) (Or.inl ⟨by rfl, ?_⟩) (by assumption) ?_
        rotate_left 1
        · intro v hSv
          have hv1 := hSv.2
          clear hSv
          go_simp
          try with_reducible rfl
        try simp only [Act.put, List.setIfInBounds_toArray, List.set_cons_zero, List.set_cons_succ]
        refine wpAnyH_take (i := 29) (oi := { dst := some 36, op := .binOp .eql 3 (.tmp 35) (.const (.int .i64 64)) 3, type := _, pos := _, after := _, guard := _ }) (v := ?_) rfl (by kernel_rfl) (by kernel_rfl) (by kernel_rfl) (fun _ _ _ h => h) (Or.inl ⟨by rfl, ?_⟩) (by assumption) ?_
        rotate_left 1
        · intro v hSv
          have hv1 := hSv.2
          clear hSv
          go_simp
          try with_reducible rfl
        try simp only [Act.put, List.setIfInBounds_toArray, List.set_cons_zero, List.set_cons_succ]
        refine wpAnyH_take (i := 30) (oi := { dst := some 37, op := .pick (.tmp 33) (.tmp 36) (.const (.bool false)), type := _, pos := _, after := _, guard := _ }) (v := ?_) rfl (by kernel_rfl) (by kernel_rfl) (by kernel_rfl) (fun _ _ _ h => h) (Or.inl ⟨by rfl, ?_⟩) (by assumption) ?_
        rotate_left 1
        · intro v hSv
          have hv1 := hSv.2
          clear hSv
          go_simp
          try with_reducible rfl
        try simp only [Act.put, List.setIfInBounds_toArray, List.set_cons_zero, List.set_cons_succ]
        refine wpAnyH_take (i := 31) (oi := { dst := some 0, op := .assign (.tmp 37), type := _, pos := _, after := _, guard := _ }) (v := ?_) rfl (by kernel_rfl) (by kernel_rfl) (by kernel_rfl) (fun _ _ _ h => h) (Or.inl ⟨by rfl, ?_⟩) (by assumption) ?_
        rotate_left 1
        · intro v hSv
          have hv1 := hSv.2
          clear hSv
          go_simp
          try with_reducible rfl
        try simp only [Act.put, List.setIfInBounds_toArray, List.set_cons_zero]
        refine wpAnyH_done (by kernel_rfl) ?_ _
        go_wp2_with fail
        go_ret
        exact ⟨rfl, HB3.out.trans (hb4.mono HB3.out.size)⟩
    · skip
      go_simp
      refine hK.out _ _ ⟨ba (hb2) _, LD.out _ (ba (hb2) _)⟩ (fun hHeld => ?_)
      clear hK K
      try simp only [Act.put, List.setIfInBounds_toArray, List.set_cons_zero, List.set_cons_succ]
      refine wpAnyH_ready (rs := [17]) (by kernel_rfl) (by simp) ?_
      refine AllReadyH.cons (o := { dst := some 24, op := .buildSlice _ _ _, type := _, pos := _, after := _, guard := _ }) rfl (fun K hK => ?_) AllReadyH.nil
      go_simp
      refine hK.out _ _ ⟨ba (ba (hb2) _) _, LD.out _ (ba (ba (hb2) _) _)⟩ (fun hHeld => ?_)
      clear hK K
      try simp only [Act.put, List.setIfInBounds_toArray, List.set_cons_zero, List.set_cons_succ]
      refine wpAnyH_ready (rs := [18]) (by kernel_rfl) (by simp) ?_
      refine AllReadyH.cons (o := { dst := some 25, op := .convert 22 22 (.tmp 24), type := _, pos := _, after := _, guard := _ }) rfl (fun K hK => ?_) AllReadyH.nil
      go_simp
      refine hK.out _ _ ⟨ba (ba (hb2) _) _, LD.out _ (ba (ba (hb2) _) _)⟩ (fun hHeld => ?_)
      clear hK K
      try simp only [Act.put, List.setIfInBounds_toArray, List.set_cons_zero, List.set_cons_succ]
      refine wpAnyH_ready (rs := [21]) (by kernel_rfl) (by simp) ?_
      refine AllReadyH.cons (o := { dst := some 28, op := .buildSlice _ _ _, type := _, pos := _, after := _, guard := _ }) rfl (fun K hK => ?_) AllReadyH.nil
      go_simp
      refine hK.out _ _ ⟨ba (ba (ba hb2 _) _) _, LD.out _ (ba (ba (ba hb2 _) _) _)⟩ (fun hHeld => ?_)
      clear hK K
      try simp only [Act.put, List.setIfInBounds_toArray, List.set_cons_zero, List.set_cons_succ]
      refine wpAnyH_ready (rs := [22]) (by kernel_rfl) (by simp) ?_
      refine AllReadyH.cons (o := { dst := some 29, op := .call _, type := _, pos := _, after := _, guard := _ }) rfl (fun K hK => ?_) AllReadyH.nil
      go_simp
      refine (join_ex _ _ s1 _ HS1.out ⟨_, rfl, slBA _, rfl⟩ (VV.out _ (ba (ba (ba hb2 _) _) _))).mono ?_
      rintro e y3 ⟨rfl, hb⟩
      have hb3 : Below W.heap.size W y3 := (ba (ba (ba hb2 _) _) _).trans (hb.mono (ba (ba (ba hb2 _) _) _).size)
      clear hb
      go_wp2_with fail
      refine hK.out _ _ ⟨hb3, LD.out _ (hb3)⟩ (fun hHeld => ?_)
      clear hK K
      try simp only [Act.put, List.setIfInBounds_toArray, List.set_cons_zero, List.set_cons_succ]
      refine wpAnyH_take (i := 24) (oi := { dst := some 31, op := .binOp .eql 26 (.tmp 29) (.tmp 30) 26, type := _, pos := _, after := _, guard := _ }) (v := ?_) rfl (by kernel_rfl) (by kernel_rfl) (by kernel_rfl) (fun _ _ _ h => h) (Or.inl ⟨by rfl, ?_⟩) (by assumption) ?_
      rotate_left 1
      · intro v hSv
        have hv1 := hSv.2
        clear hSv
        go_simp
        try with_reducible rfl
      try simp only [Act.put, List.setIfInBounds_toArray, List.set_cons_zero, List.set_cons_succ]
      refine wpAnyH_take (i := 25) (oi := { dst := some 32, op := .pick (.tmp 23) (.tmp 31) (.const (.bool false)), type := _, pos := _, after := _, guard := _ }) (v := ?_) rfl (by kernel_rfl) (by kernel_rfl) (by kernel_rfl) (fun _ _ _ h => h) (Or.inl ⟨by rfl, ?_⟩) (by assumption) ?_
      rotate_left 1
      · intro v hSv
        have hv1 := hSv.2
        clear hSv
        go_simp
        try with_reducible rfl
      try simp only [Act.put, List.setIfInBounds_toArray, List.set_cons_zero, List.set_cons_succ]
      refine wpAnyH_take (i := 26) (oi := { dst := some 33, op := .move (.tmp 32), type := _, pos := _, after := _, guard := _ }) (v := ?_) rfl (by kernel_rfl) (by kernel_rfl) (by kernel_rfl) (fun _ _ _ h => h) (Or.inl ⟨by rfl, ?_⟩) (by assumption) ?_
      rotate_left 1
      · intro v hSv
        have hv1 := hSv.2
        clear hSv
        go_simp
        try with_reducible rfl
      try simp only [Act.put, List.setIfInBounds_toArray, List.set_cons_zero, List.set_cons_succ]
      refine wpAnyH_ready (rs := [27]) (by kernel_rfl) (by simp) ?_
      refine AllReadyH.cons (o := { dst := some 34, op := .call _, type := _, pos := _, after := _, guard := _ }) rfl (fun K hK => ?_) AllReadyH.nil
      go_simp
      refine (pad_nil _).mono ?_
      rintro e y4 ⟨A9, c9, rfl, hb⟩
      have hb4 : Below W.heap.size W y4 := hb3.trans (hb.mono hb3.size)
      clear hb
      go_wp2_with fail
      refine hK.out _ _ ⟨hb4, LD.out _ (hb4)⟩ (fun hHeld => ?_)
      clear hK K
      try simp only [Act.put, List.setIfInBounds_toArray, List.set_cons_zero, List.set_cons_succ]
      refine wpAnyH_take (i := 28) (oi := { dst := some 35, op := .call _, type := _, pos := _, after := _, guard := _ }) (v := ?_) rfl (by kernel_rfl) (by kernel_rfl) (by kernel_rfl) (fun _ _ _ h => h) (Or.inl ⟨by rfl, ?_⟩) (by assumption) ?_
      rotate_left 1
      · intro v hSv
        have hv1 := hSv.2
        clear hSv
        go_simp
        try with_reducible rfl
      try simp only [Act.put, List.setIfInBounds_toArray, List.set_cons_zero, List.set_cons_succ]
      refine wpAnyH_take (i := 29) (oi := { dst := some 36, op := .binOp .eql 3 (.tmp 35) (.const (.int .i64 64)) 3, type := _, pos := _, after := _, guard := _ }) (v := ?_) rfl (by kernel_rfl) (by kernel_rfl) (by kernel_rfl) (fun _ _ _ h => h) (Or.inl ⟨by rfl, ?_⟩) (by assumption) ?_
      rotate_left 1
      · intro v hSv
        have hv1 := hSv.2
        clear hSv
        go_simp
        try with_reducible rfl
      try simp only [Act.put, List.setIfInBounds_toArray, List.set_cons_zero, List.set_cons_succ]
      refine wpAnyH_take (i := 30) (oi := { dst := some 37, op := .pick (.tmp 33) (.tmp 36) (.const (.bool false)), type := _, pos := _, after := _, guard := _ }) (v := ?_) rfl (by kernel_rfl) (by kernel_rfl) (by kernel_rfl) (fun _ _ _ h => h) (Or.inl ⟨by rfl, ?_⟩) (by assumption) ?_
      rotate_left 1
      · intro v hSv
        have hv1 := hSv.2
        clear hSv
        go_simp
        try with_reducible rfl
      try simp only [Act.put, List.setIfInBounds_toArray, List.set_cons_zero, List.set_cons_succ]
      refine wpAnyH_take (i := 31) (oi := { dst := some 0, op := .assign (.tmp 37), type := _, pos := _, after := _, guard := _ }) (v := ?_) rfl (by kernel_rfl) (by kernel_rfl) (by kernel_rfl) (fun _ _ _ h => h) (Or.inl ⟨by rfl, ?_⟩) (by assumption) ?_
      rotate_left 1
      · intro v hSv
        have hv1 := hSv.2
        clear hSv
        go_simp
        try with_reducible rfl
      try simp only [Act.put, List.setIfInBounds_toArray, List.set_cons_zero]
      refine wpAnyH_done (by kernel_rfl) ?_ _
      go_wp2_with fail
      go_ret
      exact ⟨rfl, HB3.out.trans (hb4.mono HB3.out.size)⟩
end Go.Proofs.YtkbipmhhiahkpaaDoor
