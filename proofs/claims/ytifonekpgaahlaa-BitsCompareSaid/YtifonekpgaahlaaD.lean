/- The contracts of Prefix and Directions. -/
import Derived.Test.YtifonekpgaahlaaC
import Derived.Laws.CopyOwn
namespace Go.Proofs.Ytifonekpgaahlaa
open Go.RowKit

theorem slice_key (b : Nat) (m : Int) (h0 : 0 ≤ m) (h1 : m ≤ 32) (w : World) :
    (Instr.sliceAt 23 (.pointer (some ⟨b, 0, none⟩)) none (some (.int .i64 m)) none).run Try.prog w = .ok (.slice (some ⟨b, 0, none⟩) m.toNat 32) w := by
  obtain ⟨n, rfl⟩ := Int.eq_ofNat_of_zero_le h0
  have : (n : Int) ≤ (Try.prog.arrayLen 23 : Int) := by
    have : Try.prog.arrayLen 23 = 32 := by kernel_rfl
    omega
  have hl : Try.prog.arrayLen 23 = 32 := by kernel_rfl
  have he : Try.prog.elem 23 = 5 := by kernel_rfl
  rw [run_sliceAt_array_h w 23 ⟨b, 0, none⟩ (by rw [hl, he]; exact Try.underlying23) .i64 n h0 this, he, Try.sizeOf5]
  simp [Result.andThen, slicedAt, hl, Addr.add]

/-- The first m bytes of a key. -/
def fst (k : Nat → Nat) (m : Nat) : Nat → Nat := fun j => if j < m then k j else 0
theorem splice_key (k : Nat → Nat) (m : Nat) (hm : m ≤ 32) : (splice (kc kz).toList 0 ((kc k).toList.take m)).toArray = kc (fst k m) := by
  apply Array.ext_getElem?
  intro j
  have hl : (kc k).toList.length = 32 := by rw [Array.length_toList, kc_size]
  have hz : (kc kz).toList.length = 32 := by rw [Array.length_toList, kc_size]
  have ht : ((kc k).toList.take m).length = m := by rw [List.length_take, hl]; omega
  simp only [splice, List.getElem?_toArray, List.take_zero, List.nil_append, Nat.zero_add, ht]
  rcases Nat.lt_or_ge j 32 with h | h
  · rw [kc_at _ j h]
    unfold fst
    by_cases hj : j < m
    · rw [List.getElem?_append_left (by omega), List.getElem?_take, if_pos hj, if_pos hj]
      have := kc_at k j h
      rwa [← Array.getElem?_toList] at this
    · rw [List.getElem?_append_right (by omega), List.getElem?_drop, ht, if_neg hj, show m + (j - m) = j by omega]
      have := kc_at kz j h
      rwa [← Array.getElem?_toList] at this
  · rw [Array.getElem?_eq_none (by rw [kc_size]; exact h), List.getElem?_eq_none]
    rw [List.length_append, List.length_drop, ht, hz]; omega
theorem fst_pre_zero {k : Nat → Nat} (hk : Byt k) {n : Nat} (h : n % 8 = 0) : ∀ j, j < 32 → fst k (n / 8) j = pre k n j := fun j _ => by
  have := hk j
  unfold fst pre
  by_cases h1 : j < n / 8
  · rw [if_pos h1, if_pos h1]
  · rw [if_neg h1, if_neg h1]
    by_cases h2 : j = n / 8
    · rw [if_pos h2, h]; simp; omega
    · rw [if_neg h2]
theorem fst_pre_rest {k : Nat → Nat} (hk : Byt k) {n : Nat} : upd (fst k (n / 8)) (n / 8) (k (n / 8) &&& (255 - 255 / 2 ^ (n % 8))) = pre k n := by
  funext j
  unfold upd fst pre
  by_cases h2 : j = n / 8
  · rw [if_pos h2, if_neg (by omega), if_pos h2, andNot_rest _ _ (hk _) (by omega), h2]
  · rw [if_neg h2]
    by_cases h1 : j < n / 8
    · rw [if_pos h1, if_pos h1]
    · rw [if_neg h1, if_neg h1, if_neg h2]

theorem three_below (w : World) (o p q : Obj) : Below w.heap.size w (((w.alloc o).alloc p).alloc q) :=
  (two_below w o p).alloc (by simp; omega) _
set_option maxHeartbeats 400000 in
theorem prefix_c (k : Nat → Nat) (hk : Byt k) (i : Int) (w : World) :
    Calls Try.prog 17 #[.agg (kc k), .int .i64 i] w fun e w' => e = .returned (.agg (kc (pre k (lim i)))) ∧ Below w.heap.size w w' := by
  obtain ⟨n, hn⟩ : ∃ n, n = lim i := ⟨_, rfl⟩
  have hn256 : n ≤ 256 := hn ▸ lim_le i
  rw [← hn]
  go_enter Try.func17, Try.ntmps17
  go_wp2_with fail
  refine (limit_c i _).mono ?_
  rintro e w' ⟨rfl, rfl⟩
  rw [← hn]
  have HN := Lib.hid hn
  clear hn
  have hm : n / 8 ≤ 32 := by omega
  have hs : ∀ (b : Nat) (w : World), (Instr.sliceAt 23 (.pointer (some ⟨b, 0, none⟩)) none (some (.int .i64 ((n : Int) / 8))) none).run Try.prog w = .ok (.slice (some ⟨b, 0, none⟩) (n / 8) 32) w := fun b w => by
    have := slice_key b ((n : Int) / 8) (by omega) (by omega) w
    rwa [show ((n : Int) / 8).toNat = n / 8 by omega] at this
  go_wp2_with fail
  refine wp_region_drawn_tail 4 (by kernel_rfl) (by kernel_rfl) ?_
  simp only [List.take_succ_cons, List.take_zero, List.drop_succ_cons, List.drop_zero]
  repeat (go_big_quiet_step (fail))
  refine wpQuiet_nil ?_
  rintro _ ⟨nq, rfl⟩
  have B3 : (((w.alloc (.cells (kc k) 23)).alloc (.cells (kc kz) 23)).alloc (.cells (kc kz) 23)).heap.size = w.heap.size + 3 := by simp
  have KA0 : KeyAt ((((w.alloc (.cells (kc k) 23)).alloc (.cells (kc kz) 23)).alloc (.cells (kc kz) 23)).drewN nq) w.heap.size k := by
    have := (KeyAt.two w k (.cells (kc kz) 23)).below ((Below.refl _ _).alloc (Nat.le_refl _) (.cells (kc kz) 23)) (by simp; omega)
    exact this
  have KB0 : KeyAt ((((w.alloc (.cells (kc k) 23)).alloc (.cells (kc kz) 23)).alloc (.cells (kc kz) 23)).drewN nq) (w.heap.size + 1) kz := by
    have := (KeyAt.two' w kz (.cells (kc k) 23)).below ((Below.refl _ _).alloc (Nat.le_refl _) (.cells (kc kz) 23)) (by simp)
    exact this
  have KC0 : KeyAt ((((w.alloc (.cells (kc k) 23)).alloc (.cells (kc kz) 23)).alloc (.cells (kc kz) 23)).drewN nq) (w.heap.size + 1 + 1) kz := by
    have := KeyAt.one ((w.alloc (.cells (kc k) 23)).alloc (.cells (kc kz) 23)) kz
    rw [show ((w.alloc (.cells (kc k) 23)).alloc (.cells (kc kz) 23)).heap.size = w.heap.size + 1 + 1 by simp] at this
    exact this
  obtain ⟨W0, hW0⟩ : ∃ W0, W0 = (((w.alloc (.cells (kc k) 23)).alloc (.cells (kc kz) 23)).alloc (.cells (kc kz) 23)).drewN nq := ⟨_, rfl⟩
  have HW : Hid (Below w.heap.size w W0) := by rw [hW0]; exact below_drewN (three_below _ _ _ _) _
  rw [← hW0] at KA0 KB0 KC0 ⊢
  clear hW0 B3
  have hkl : (kc k).toList.length = 32 := by rw [Array.length_toList, kc_size]
  have htl : ((kc k).toList.take (n / 8)).length = n / 8 := by rw [List.length_take, hkl]; omega
  refine wpList_copy_splice (w := W0) rfl (.tmp 13) (.tmp 15) 38 38 rfl 5 Try.underlying38 (by kernel_rfl)
    (some ⟨w.heap.size + 1 + 1, 0, none⟩) (some ⟨w.heap.size, 0, none⟩) (n / 8) 32 (n / 8) 32 rfl rfl
    (w.heap.size + 1 + 1) 0 (kc kz).toList 23 (by rw [Array.toArray_toList]; exact KC0) ((kc k).toList.take (n / 8)) (by rw [htl]; exact (Nat.min_self _).symm)
    (fun _ => ⟨rfl, _, rfl, fun j v hj => ?_⟩) (by rw [htl, Array.length_toList, kc_size]; omega)
    (fun v hv => (Array.all_eq_true_iff_forall_mem.1 (oneCell_key k)) v (by simpa using List.mem_of_mem_take hv)) (w.heap.size + 1 + 1) W0 (Below.refl _ _) (Nat.le_refl _) ?_
  · have hjm : j < n / 8 := by
      rcases Nat.lt_or_ge j (n / 8) with h | h
      · exact h
      · rw [List.getElem?_eq_none (by omega)] at hj; cases hj
    rw [List.getElem?_take, if_pos hjm] at hj
    have h1 := kc_at k j (by omega)
    rw [← Array.getElem?_toList, hj] at h1
    have h2 := KA0.cell (j := j) (by omega)
    rw [← h1] at h2
    rw [show (⟨w.heap.size, 0, none⟩ : Addr).add j = ⟨w.heap.size, j, none⟩ by unfold Addr.add; split <;> simp_all]
    exact h2
  clear htl hkl hs
  intro w1 hw1 hb1
  rw [splice_key k _ hm] at hw1
  have KA : KeyAt w1 w.heap.size k := KA0.below hb1 (by omega)
  have KB : KeyAt w1 (w.heap.size + 1) kz := KB0.below hb1 (by omega)
  have KC : KeyAt w1 (w.heap.size + 1 + 1) (fst k (n / 8)) := hw1.out
  have HB : Hid (Below w.heap.size w w1) := HW.out.trans (hb1.mono (by omega))
  clear hw1 hb1 KA0 KB0 KC0
  by_cases hr : n % 8 = 0
  · have lc := KC.ld
    have st := KB.st (fst k (n / 8))
    have hgt : decide ((n : Int) % 8 > 0) = false := by simp; omega
    have hgt' : decide (0 < (n : Int) % 8) = false := by simp; omega
    go_wp2
    refine bodyPost_ret (v := .agg (kc (fst k (n / 8)))) ?_ rfl ⟨by rw [kc_congr (fst_pre_zero hk hr)], below_row HB.out (by omega) _⟩
    exact results_cell_row Try.results17 _ _ (w.heap.size + 1) 23 _ (0, 0) _ rfl (KB.row _) Try.underlying23 rfl (by rw [kc_size]; exact info23)
  · have hr0 : 0 < (n : Int) % 8 := by omega
    have ca := KA.cell (j := n / 8) (by omega)
    have cc := KC.cell (j := n / 8) (by omega)
    have fc := KC.free (n / 8)
    have hx := u8_andNot_nat (k (n / 8)) (255 / 2 ^ (n % 8)) (hk _) (Nat.lt_of_le_of_lt (Nat.div_le_self _ _) (by decide))
    rw [show ((255 / 2 ^ (n % 8) : Nat) : Int) = (255 : Int) / 2 ^ (n % 8) by simp] at hx
    have KS : KeyAt (w1.setCell ⟨w.heap.size + 1 + 1, n / 8, none⟩ (.int .u8 (k (n / 8) &&& (255 - 255 / 2 ^ (n % 8)) : Nat))) (w.heap.size + 1 + 1) (pre k n) := by
      have := KC.set (n / 8) (k (n / 8) &&& (255 - 255 / 2 ^ (n % 8)))
      rwa [fst_pre_rest hk] at this
    have KT : KeyAt (w1.setCell ⟨w.heap.size + 1 + 1, n / 8, none⟩ (.int .u8 (k (n / 8) &&& (255 - 255 / 2 ^ (n % 8)) : Nat))) (w.heap.size + 1) kz := KB.set_other (by omega) _ _
    have ls := fun n => (KS.drewN n).ld
    have st := fun m => (KT.drewN m).st (pre k n)
    go_wp2_with fail
    refine wp_region_drawn_tail 8 (by kernel_rfl) (by kernel_rfl) ?_
    simp only [List.take_succ_cons, List.take_zero, List.drop_succ_cons, List.drop_zero]
    repeat (go_big_quiet_step (fail))
    refine wpQuiet_nil ?_
    rintro _ ⟨nq', rfl⟩
    go_wp2
    refine bodyPost_ret (v := .agg (kc (pre k n))) ?_ rfl ⟨rfl, below_row (below_drewN (HB.out.setCell (by simp; omega) _) _) (by omega) _⟩
    exact results_cell_row Try.results17 _ _ (w.heap.size + 1) 23 _ (0, 0) _ rfl ((KT.drewN _).row _) Try.underlying23 rfl (by rw [kc_size]; exact info23)

/-- The cells of a slice of directions, the first m of them filled. -/
def dcs (k : Nat → Nat) (m n : Nat) : Array Value := ((List.range n).map fun j => if j < m then Value.int .i64 (bit k j) else Value.int .i64 0).toArray
theorem dcs_size (k : Nat → Nat) (m n : Nat) : (dcs k m n).size = n := by simp [dcs]
theorem dcs_at (k : Nat → Nat) (m n j : Nat) (h : j < n) : (dcs k m n)[j]? = some (if j < m then Value.int .i64 (bit k j) else Value.int .i64 0) := by
  simp [dcs, h]
theorem dcs_set (k : Nat → Nat) (m n : Nat) : (dcs k m n).setIfInBounds m (.int .i64 (bit k m)) = dcs k (m + 1) n := by
  apply Array.ext_getElem?
  intro j
  rw [Array.getElem?_setIfInBounds, dcs_size]
  rcases Nat.lt_or_ge j n with h | h
  · rw [dcs_at _ _ _ _ h, dcs_at _ _ _ _ h]
    by_cases e : m = j
    · subst e; simp [h]
    · rw [if_neg e]
      by_cases h2 : j < m
      · rw [if_pos h2, if_pos (by omega)]
      · rw [if_neg h2, if_neg (by omega)]
  · have hn : ∀ q, (dcs k q n)[j]? = none := fun q => Array.getElem?_eq_none (by rw [dcs_size]; exact h)
    rw [hn, hn]
    by_cases e : m = j
    · subst e; rw [if_pos rfl, if_neg (by omega)]
    · rw [if_neg e]
/-- The slice's block. -/
def DirAt (w : World) (b : Nat) (k : Nat → Nat) (m n : Nat) : Prop := w.heap[b]? = some (.cells (dcs k m n) 3 (0, 0))
theorem DirAt.cell {w : World} {b m n : Nat} {k : Nat → Nat} (h : DirAt w b k m n) {j : Nat} (hj : j < n) : w.cell? ⟨b, j, none⟩ = some (if j < m then Value.int .i64 (bit k j) else Value.int .i64 0) := by
  rw [cell_of_row _ _ _ _ _ _ h]; exact dcs_at k m n j hj
theorem DirAt.free {w : World} {b m n : Nat} {k : Nat → Nat} (h : DirAt w b k m n) (j : Nat) : w.frozen? ⟨b, j, none⟩ = false := frozen_of_row w b j _ _ h
theorem DirAt.set {w : World} {b m n : Nat} {k : Nat → Nat} (h : DirAt w b k m n) : DirAt (w.setCell ⟨b, m, none⟩ (.int .i64 (bit k m))) b k (m + 1) n := by
  have := heap_setCell_same w b m (dcs k m n) 3 (.int .i64 (bit k m)) h
  rwa [dcs_set] at this
theorem DirAt.lt {w : World} {b m n : Nat} {k : Nat → Nat} (h : DirAt w b k m n) : b < w.heap.size := by
  rcases Nat.lt_or_ge b w.heap.size with h' | h'
  · exact h'
  · unfold DirAt at h; rw [Array.getElem?_eq_none h'] at h; cases h
theorem DirAt.below {w w' : World} {b B m n : Nat} {k : Nat → Nat} (h : DirAt w b k m n) (hb : Below B w w') (hB : b < B) : DirAt w' b k m n := by
  unfold DirAt
  rw [hb.block b hB]
  exact h
theorem made_dcs (k : Nat → Nat) (n : Nat) : madeCells (Value.int .i64 0).cells (n * 1) = dcs k 0 n := by
  apply Array.ext_getElem?
  intro j
  rcases Nat.lt_or_ge j n with h | h
  · rw [dcs_at _ _ _ _ h]
    simp [madeCells, Value.cells, h, Nat.mod_one]
  · rw [Array.getElem?_eq_none (xs := dcs k 0 n) (by rw [dcs_size]; exact h), Array.getElem?_eq_none (by rw [size_madeCells]; omega)]

set_option maxHeartbeats 400000 in
theorem directions_c (k : Nat → Nat) (hk : Byt k) (i : Int) (w : World) :
    Calls Try.prog 20 #[.agg (kc k), .int .i64 i] w fun e w' => e = .returned (.slice (some ⟨w.heap.size + 1, 0, none⟩) (lim i) (lim i)) ∧ DirAt w' (w.heap.size + 1) k (lim i) (lim i) ∧ Below w.heap.size w w' := by
  obtain ⟨n, hn⟩ : ∃ n, n = lim i := ⟨_, rfl⟩
  have hn256 : n ≤ 256 := hn ▸ lim_le i
  rw [← hn]
  have hmk : ∀ w : World, (Instr.makeSlice 30 (.int .i64 n) (.int .i64 n)).run Try.prog w = .ok (.slice (some ⟨w.heap.size, 0, none⟩) n n) (w.alloc (.cells (dcs k 0 n) 3)) := fun w => by
    have hinfo : (Try.prog.info? 3).map (fun i => (i.zero, i.size, i.bytes)) = some (some (.int .i64 0), 1, 8) := by kernel_rfl
    obtain ⟨i0, hi, hz0, hz1, hz2⟩ := info_parts hinfo
    have := run_make w 30 3 i0 (.int .i64 0) Try.underlying30 hi hz0 .i64 .i64 n n (by omega) (by omega) (by rw [hz2]; omega) (by omega)
    rw [Int.toNat_natCast, hz1, made_dcs k] at this
    exact this
  go_enter Try.func20, Try.ntmps20
  go_wp2_with fail
  refine (limit_c i _).mono ?_
  rintro e w' ⟨rfl, rfl⟩
  rw [← hn]
  have HN := Lib.hid hn
  clear hn
  go_wp2
  go_loopw [6, 12] (fun _ j wr => ∃ m : Nat, m ≤ n ∧ j = .int .i64 m ∧ KeyAt wr w.heap.size k ∧ DirAt wr (w.heap.size + 1) k m n ∧ Below w.heap.size w wr) (fun _ j _ => n - (intOf j).toNat)
  case atStart => exact ⟨0, by omega, rfl, KeyAt.two w k _, heap_alloc2_new w _ _, two_below _ _ _⟩
  case round =>
    obtain ⟨m, h1, rfl, KA, KD, hB⟩ := hrel
    have HB := Lib.hid hB
    clear hB
    by_cases hlt : m < n
    · have la := KA.ld
      go_wp2_with fail
      refine (bit_yes k hk m _ (by omega)).mono ?_
      rintro e w2 ⟨rfl, hb⟩
      have KA2 := KA.below hb KA.lt
      have KD2 := KD.below hb KD.lt
      have H2 := Lib.hid hb
      clear hb
      have cd := KD2.cell hlt
      rw [if_neg (Nat.lt_irrefl m)] at cd
      have fd := KD2.free m
      go_wp2
      go_roundw
      case rel =>
        refine ⟨m + 1, by omega, by go_num, KA2.set_other (by omega) _ _, KD2.set, ?_⟩
        exact (HB.out.trans (H2.out.mono HB.out.size)).setCell (by simp) _
      case measure => simp [intOf]; omega
    · go_wp2
      go_ret
      exact ⟨rfl, by rw [show m = n by omega] at KD; exact KD, HB.out⟩
end Go.Proofs.Ytifonekpgaahlaa
