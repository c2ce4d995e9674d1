/- The library's Grow, Concat and Clone at bytes, the program's Pad, the reference's Same. -/
import Derived.Test.YtkbipmhhiahkpaaDoorK
import Derived.Lib.AppendZeros
namespace Go.Proofs.YtkbipmhhiahkpaaDoor
open Go.RowKit

theorem OwnB.nil (w : World) (B : Nat) : OwnB w B (.slice none 0 0) [] := ⟨rfl, .inl ⟨rfl, rfl⟩⟩
set_option maxHeartbeats 2000000 in
set_option maxRecDepth 100000 in
theorem grow_c (n : Nat) (w : World) (h0 : 0 < n) (hn : n ≤ 1000000000) : Calls Tryd.prog 26 #[.slice none 0 0, .int .i64 (n : Int)] w fun e w' => ∃ v, e = .returned v ∧ OwnB w' w.heap.size v [] ∧ Below w.heap.size w w' ∧ ∃ g c, v = .slice (some ⟨g, 0, none⟩) 0 c := by
  obtain ⟨i0, hi, hz0, hz1, hz2⟩ := info_parts info5
  have happ := fun ty => Lib.run_append_nil_zeros (P := Tryd.prog) w 22 3 ty 5 i0 (.int .u8 0) .i64 .i64 Tryd.underlying22 Tryd.underlying3 hi hz0 n h0 (by omega) (by omega) (by rw [hz2]; omega)
  obtain ⟨cap, hcap⟩ : ∃ c, c = grownCap w n 0 5 := ⟨_, rfl⟩
  have hge : n ≤ cap := by rw [hcap]; exact grownCap_ge w n 0 5
  have hle : cap ≤ maxLen := by rw [hcap]; exact grownCap_le_maxLen w n 0 5 (by unfold maxLen; omega)
  obtain ⟨Z, hZ⟩ : ∃ Z, Z = Builtin.zeroCells (Value.int .u8 0).cells n ++ Builtin.zeroCells (Value.int .u8 0).cells (cap - n) := ⟨_, rfl⟩
  have hZs : Z.size = cap := by rw [hZ]; simp [size_zeroCells, Value.cells]; omega
  simp only [← hcap, ← hZ] at happ
  have HZs := Lib.hid hZs
  have HLe := Lib.hid hle
  have HGe := Lib.hid hge
  clear hcap hZ hZs hle hge
  have hd : decide (0 < n) = true := decide_eq_true h0
  have hd2 : decide (0 < (n : Int)) = true := decide_eq_true (by omega)
  go_enter Tryd.func26, Tryd.ntmps26
  go_wp2_with (at_builtin; refine Lib.wpList_append_run _ rfl _ _ _ _ rfl _ _ rfl rfl _ _ (happ _) ?_)
  go_ret
  exact ⟨_, rfl, World.ownsRow_made w Z cap (Nat.le_refl _) HLe.out (by rw [Nat.mul_one]; exact HZs.out), ((Below.refl _ _).alloc (Nat.le_refl _) _).drew, _, _, rfl⟩

theorem run_append_empty (w : World) (ty : TypeId) (A : Option Addr) (c : Nat) : (Builtin.append_ #[22, 22] ty #[.slice none 0 0, .slice A 0 c]).run Tryd.prog w = .ok (.slice none 0 0) w := by
  obtain ⟨i0, hi, hz0, hz1, hz2⟩ := info_parts info5
  have hl : (loadCells (⟨0, 0, none⟩ : Addr) 0).run Tryd.prog w = .ok #[] w := rfl
  cases A with
  | none => simp [Builtin.append_, run_underlying Tryd.underlying22, sizeOf, typeInfo, hi, Builtin.lenOf, Builtin.firstCells]
  | some ad => simp [Builtin.append_, run_underlying Tryd.underlying22, sizeOf, typeInfo, hi, Builtin.lenOf, Builtin.firstCells, loadCells, loadCellsFrom]
/-- A slice of bytes is appended to a row that the call owns, whatever both are. -/
theorem wpList_catB1 {ops : Array Oper} {rest : List Oper} {o : Oper} {a : Act} {w : World} {Q : Exit → Act → World → Prop} (hgd : o.guard = none) (s x : Operand)
    (ho : o.op = .call { callee := .builtin .append, args := #[s, x], argTypes := #[22, 22] }) (B : Nat) (v : Value) (l : List UInt8) (hs : a.eval s = v) (hown : OwnB w B v l) (A : Option Addr) (c : Nat) (m : List UInt8)
    (hx : a.eval x = .slice A m.length c) (hk : BA w A m) (hl : l.length + m.length ≤ 140737488000000) (hB : B ≤ w.heap.size)
    (h : ∀ v' w', OwnB w' B v' (l ++ m) → Below B w w' → wpList Tryd.prog ops Q rest (a.put o.dst v') w') : wpList Tryd.prog ops Q (o :: rest) a w := by
  rcases Nat.eq_zero_or_pos m.length with h0 | h0
  · have hown2 := hown
    obtain ⟨h00, ⟨rfl, hl0⟩ | ⟨g, cap, cur, rfl, hg, hh, hnc, hr⟩⟩ := hown
    · obtain rfl : l = [] := List.length_eq_zero_iff.1 hl0
      obtain rfl : m = [] := List.length_eq_zero_iff.1 h0
      have hrun := run_append_empty w o.type A c
      refine Lib.wpList_append_run w hgd s x 22 22 ho _ _ hs hx _ _ hrun (h _ _ (OwnB.nil _ _) (Below.refl _ _))
    · exact wpList_catB0 hgd s x ho B g cap l hs hnc hown2 A c m hx hk hl hB h
  · exact wpList_catB hgd s x ho B v l hs hown A c m hx hk h0 hl hB h

set_option maxHeartbeats 16000000 in
set_option maxRecDepth 100000 in
theorem concat_c (A : Option Addr) (c : Nat) (ls : List Pc) (w : World) (hA : SL w A ls) (h0 : 0 < (catAll ls).length) (hl : (catAll ls).length ≤ 1000000) (hls : ls.length ≤ 1000000) :
    Calls Tryd.prog 21 #[.slice A ls.length c] w fun e w' => ∃ v, e = .returned v ∧ OwnB w' w.heap.size v (catAll ls) ∧ Below w.heap.size w w' := by
  have HA := Lib.hid hA
  clear hA
  go_enter Tryd.func21, Tryd.ntmps21
  go_wp2_with fail
  go_loopg [3, 11] ls.length (fun gg n i wr => ∃ k : Nat, i = .int .i64 k ∧ k ≤ ls.length ∧ ls.length - k = gg ∧ n = .int .i64 (((cat ls k).length : Nat) : Int) ∧ Hid (wr = w))
  case atStart => exact ⟨0, rfl, by omega, by omega, rfl, rfl⟩
  case round =>
    obtain ⟨k, rfl, hkl, rfl, rfl, hW⟩ := hrel
    have hcl := cat_le ls k
    by_cases hlt : k < ls.length
    · obtain ⟨x, hx⟩ : ∃ x, ls[k]? = some x := ⟨_, List.getElem?_eq_getElem hlt⟩
      obtain ⟨hxc, hxb, g, o, rfl, hcell⟩ := HA.out k x hx
      have hcs := cat_succ ls k x hx
      have hcl2 := cat_le ls (k + 1)
      have hlen : (cat ls (k + 1)).length = (cat ls k).length + x.l.length := by rw [hcs, List.length_append]
      have hcr : wr.cell? ⟨g, o + k, none⟩ = some (.slice x.A x.l.length x.c) := by rw [hW.out]; exact hcell
      have HLEN := Lib.hid hlen
      have b1 : (cat ls k).length + x.l.length ≤ 1000000 := by omega
      have hd : decide (k < ls.length) = true := decide_eq_true hlt
      have hd2 : decide (((cat ls k).length : Int) + (x.l.length : Int) < 0) = false := decide_eq_false (by omega)
      have p0 : (0 : Int) ≤ (k : Int) := by omega
      have p1 : (k : Int) < (ls.length : Int) := by omega
      clear hx hcell hxb hcs hlen
      go_wp2_with fail
      go_roundg (ls.length - (k + 1))
      case measure => omega
      case rel => exact ⟨k + 1, by go_num, by omega, rfl, by rw [HLEN.out]; go_num, hW⟩
    · obtain rfl : k = ls.length := by omega
      have hd : decide (ls.length < ls.length) = false := decide_eq_false (by omega)
      obtain ⟨N, hN⟩ : ∃ N, N = (cat ls ls.length).length := ⟨_, rfl⟩
      rw [← hN]
      have hN0 : 0 < N := by rw [hN, cat_all]; exact h0
      have hN2 : N ≤ 1000000 := by omega
      clear hN
      go_wp2_with fail
      refine (grow_c N wr hN0 (by omega)).mono ?_
      rintro e w5 ⟨v, rfl, hO, hB, _⟩
      rw [hW.out] at hO hB
      have HO := Lib.hid hO
      have HB := Lib.hid hB
      clear hO hB
      go_wp2_with fail
      go_loopg [6, 27] ls.length (fun gg v i wz => ∃ k : Nat, i = .int .i64 k ∧ k ≤ ls.length ∧ ls.length - k = gg ∧ OwnB wz w.heap.size v (cat ls k) ∧ Below w.heap.size w wz)
      case atStart => exact ⟨0, rfl, by omega, by omega, HO.out, HB.out⟩
      case round =>
        clear HO HB
        obtain ⟨k, rfl, hkl, rfl, hO, hB⟩ := hrel
        have hcl := cat_le ls k
        have HO := Lib.hid hO
        have HB := Lib.hid hB
        clear hO hB
        by_cases hlt : k < ls.length
        · obtain ⟨x, hx⟩ : ∃ x, ls[k]? = some x := ⟨_, List.getElem?_eq_getElem hlt⟩
          obtain ⟨hxc, hxb, g, o, rfl, hcell⟩ := HA.out k x hx
          have hcs := cat_succ ls k x hx
          have hcl2 := cat_le ls (k + 1)
          have hlen : (cat ls (k + 1)).length = (cat ls k).length + x.l.length := by rw [hcs, List.length_append]
          have hcr : wr.cell? ⟨g, o + k, none⟩ = some (.slice x.A x.l.length x.c) := (HB.out.cell (lt_of_cell hcell)).trans hcell
          have HXB := Lib.hid (hxb.below HB.out)
          have HCS := Lib.hid hcs
          have b1 : (cat ls k).length + x.l.length ≤ 1000000 := by omega
          have hd : decide (k < ls.length) = true := decide_eq_true hlt
          have p0 : (0 : Int) ≤ (k : Int) := by omega
          have p1 : (k : Int) < (ls.length : Int) := by omega
          clear hx hcell hxb hcs hlen
          go_wp2_with (at_builtin; refine wpList_catB1 rfl _ _ rfl w.heap.size _ _ rfl HO.out x.A x.c x.l rfl HXB.out (by omega) HB.out.size ?_; intro v6 w6 hO6 hB6; rw [← HCS.out] at hO6; have HO6 := Lib.hid hO6; have HB6 := Lib.hid (HB.out.trans hB6); clear hO6 hB6)
          go_roundg (ls.length - (k + 1))
          case measure => omega
          case rel => exact ⟨k + 1, by go_num, by omega, rfl, HO6.out, HB6.out⟩
        · obtain rfl : k = ls.length := by omega
          have hd : decide (ls.length < ls.length) = false := decide_eq_false (by omega)
          rw [cat_all] at HO
          go_wp2_with fail
          go_ret
          exact ⟨_, rfl, HO.out, HB.out⟩
theorem OwnB.mono {w : World} {B B' : Nat} {v : Value} {l : List UInt8} (h : OwnB w B v l) (hB : B' ≤ B) : OwnB w B' v l := by
  obtain ⟨h0, h | ⟨g, cap, cur, rfl, hg, hr⟩⟩ := h
  · exact ⟨h0, .inl h⟩
  · exact ⟨h0, .inr ⟨g, cap, cur, rfl, by omega, hr⟩⟩
theorem sl_made (w : World) (ls : List Pc) (t : TypeId) (h : ∀ x ∈ ls, x.l.length ≤ x.c ∧ BA w x.A x.l) : SL (w.alloc (.cells (ls.map Pc.val).toArray t)) (some ⟨w.heap.size, 0, none⟩) ls := fun i x hx => by
  obtain ⟨h1, h2⟩ := h x (List.mem_of_getElem? hx)
  refine ⟨h1, h2.below ((Below.refl _ _).alloc (Nat.le_refl _) _), _, _, rfl, ?_⟩
  rw [cell_of_cells (heap_alloc_new w _), Nat.zero_add]
  simp [hx, Pc.val]
theorem BA_row {w : World} {g : Nat} {l : List UInt8} {t : TypeId} {fr : Nat × Nat} (h : w.heap[g]? = some (.cells (bA l) t fr)) : BA w (some ⟨g, 0, none⟩) l := fun j x hx => by
  refine ⟨g, 0, rfl, ?_⟩
  have hj := (List.getElem?_eq_some_iff.1 hx).1
  rw [cell_of_cells h, Nat.zero_add, bA_at _ _ hj]
  simp [List.getD_eq_getElem?_getD, hx, bv]
set_option maxHeartbeats 4000000 in
set_option maxRecDepth 100000 in
theorem ppad_c (A : Option Addr) (l : List UInt8) (c : Nat) (w : World) (hA : BA w A l) (hc : l.length ≤ c) (hl : l.length ≤ 900000) :
    Calls Tryd.prog 14 #[.slice A l.length c] w fun e w' => ∃ v, e = .returned v ∧ OwnB w' w.heap.size v (padL l) ∧ Below w.heap.size w w' := by
  have HA := Lib.hid hA
  clear hA
  go_enter Tryd.func14, Tryd.ntmps14
  go_wp2_with fail
  refine (padding_c l.length w (by omega)).mono ?_
  rintro e w1 ⟨rfl, hp, hb⟩
  have HP := Lib.hid hp
  have HB := Lib.hid hb
  clear hp hb
  go_wp2_with fail
  have hsl : SL (w1.alloc (.cells #[.slice A l.length c, .slice (some ⟨w.heap.size, 0, none⟩) (padTail l.length).length (padTail l.length).length] 22)) (some ⟨w1.heap.size, 0, none⟩) [⟨A, l, c⟩, ⟨some ⟨w.heap.size, 0, none⟩, padTail l.length, (padTail l.length).length⟩] :=
    sl_made w1 [⟨A, l, c⟩, ⟨some ⟨w.heap.size, 0, none⟩, padTail l.length, (padTail l.length).length⟩] 22 (fun x hx => by
      simp only [List.mem_cons, List.not_mem_nil, or_false] at hx
      rcases hx with rfl | rfl
      · exact ⟨hc, HA.out.below HB.out⟩
      · exact ⟨Nat.le_refl _, BA_row HP.out⟩)
  have hcat : catAll [⟨A, l, c⟩, ⟨some ⟨w.heap.size, 0, none⟩, padTail l.length, (padTail l.length).length⟩] = padL l := by simp [catAll, padL_eq]
  have hpl := padL_len l
  refine (concat_c (some ⟨w1.heap.size, 0, none⟩) 2 _ _ hsl (by rw [hcat]; omega) (by rw [hcat]; omega) (show 2 ≤ 1000000 by decide)).mono ?_
  rintro e w5 ⟨v, rfl, hO, hB5⟩
  rw [hcat] at hO
  have HO := Lib.hid (hO.mono (B' := w.heap.size) (by have := HB.out.size; simp; omega))
  have HB5 := Lib.hid ((HB.out.alloc HB.out.size _).trans (hB5.mono (by have := HB.out.size; simp; omega)))
  clear hO hB5 hcat hpl hsl
  go_wp2_with fail
  go_ret
  exact ⟨_, rfl, HO.out, HB5.out⟩
theorem get_some {α : Type} {l : List α} {k : Nat} (h : k < l.length) : ∃ x, l[k]? = some x := ⟨_, List.getElem?_eq_getElem h⟩
theorem ret_bool {a b : Bool} (h : a = b) : Ending.returned (.bool a) = .returned (.bool b) := by rw [h]
set_option maxHeartbeats 1000000 in
theorem same_c (A B : Option Addr) (c d : Nat) (l m : List UInt8) (w : World) (hA : BA w A l) (hB : BA w B m) (hl : l.length ≤ 4611686018427387904) (hm : m.length ≤ 4611686018427387904) :
    Calls Tryd.prog 13 #[.slice A l.length c, .slice B m.length d] w fun e w' => e = .returned (.bool (decide (l = m))) ∧ Below w.heap.size w w' := by
  by_cases hlen : l.length = m.length
  · go_enter Tryd.func13, Tryd.ntmps13
    go_wp2
    go_loopw [5] (fun i wr => ∃ k n : Nat, i = .int .i64 k ∧ k ≤ l.length ∧ Hid (l.take k = m.take k) ∧ wr = w.drewN n) (fun i _ => l.length - (intOf i).toNat)
    case atStart => exact ⟨0, 0, rfl, by omega, rfl, rfl⟩
    case round =>
      obtain ⟨k, n, rfl, hk, HK, rfl⟩ := hrel
      by_cases hlt : k < l.length
      · obtain ⟨x, hx⟩ := get_some hlt
        obtain ⟨y, hy⟩ := get_some (show k < m.length by omega)
        obtain ⟨b1, o1, rfl, h1⟩ := hA k x hx
        obtain ⟨b2, o2, rfl, h2⟩ := hB k y hy
        have HX := Lib.hid hx
        have HY := Lib.hid hy
        clear hx hy hA hB
        by_cases hxy : x = y
        · subst hxy
          have hd : ((x.toNat : Int) != (x.toNat : Int)) = false := by simp
          go_wp2_with fail
          go_quiet (fail)
          go_wp2
          go_roundw
          case rel =>
            refine ⟨k + 1, _, by go_num, by omega, ?_, rfl⟩
            show l.take (k + 1) = m.take (k + 1)
            rw [List.take_add_one, List.take_add_one, HK.out, HX.out, HY.out]
          case measure => simp [intOf]; omega
        · have hd : ((x.toNat : Int) != (y.toNat : Int)) = true := by
            have : x.toNat ≠ y.toNat := fun h => hxy (UInt8.toNat_inj.1 h)
            simp; omega
          have hne : decide (l = m) = false := decide_eq_false fun h => by
            subst h
            have := HX.out.symm.trans HY.out
            exact hxy (by simpa using this)
          have HN := Lib.hid hne
          clear hne
          go_wp2_with fail
          go_quiet (fail)
          go_wp2
          go_ret
          exact ⟨ret_bool HN.out.symm, below_drewN (below_drewN (Below.refl _ _) _) _⟩
      · have he : decide (l = m) = true := decide_eq_true (by
          have := HK.out
          rwa [List.take_of_length_le (by omega), List.take_of_length_le (by omega)] at this)
        have HN := Lib.hid he
        clear he
        go_wp2
        go_ret
        exact ⟨ret_bool HN.out.symm, below_drewN (Below.refl _ _) _⟩
  · have hd : (((l.length : Nat) : Int) != (m.length : Int)) = true := by simp; omega
    have hne : decide (l = m) = false := decide_eq_false fun h => hlen (by rw [h])
    have HN := Lib.hid hne
    clear hne
    go_enter Tryd.func13, Tryd.ntmps13
    go_wp2
    go_ret
    exact ⟨ret_bool HN.out.symm, Below.refl _ _⟩
theorem OwnB.ba {w : World} {B : Nat} {v : Value} {l : List UInt8} (h : OwnB w B v l) (hl : 0 < l.length) : ∃ g c, v = .slice (some ⟨g, 0, none⟩) l.length c ∧ l.length ≤ c ∧ c ≤ maxLen ∧ B ≤ g ∧ BA w (some ⟨g, 0, none⟩) l := by
  obtain ⟨h0, ⟨_, h⟩ | ⟨g, cap, cur, rfl, hg, hh, hn, hc, hs, ht⟩⟩ := h
  · omega
  · refine ⟨g, cap, rfl, hn, hc, hg, fun j x hj => ⟨g, 0, rfl, ?_⟩⟩
    have hlt : j < l.length := (List.getElem?_eq_some_iff.1 hj).1
    rw [Nat.zero_add, cell_of_cells hh, ← Array.getElem?_toList]
    have : (cur.toList.take (l.length * 1))[j]? = some (bv x) := by rw [ht]; simp [hj]
    rw [List.getElem?_take_of_lt (by omega)] at this
    exact this
theorem OwnB.any {w : World} {B : Nat} {v : Value} {l : List UInt8} (h : OwnB w B v l) : ∃ A c, v = .slice A l.length c ∧ l.length ≤ c ∧ BA w A l := by
  rcases Nat.eq_zero_or_pos l.length with h0 | h0
  · obtain rfl : l = [] := List.length_eq_zero_iff.1 h0
    obtain ⟨_, ⟨rfl, _⟩ | ⟨g, cap, cur, rfl, hg, hh, hnc, hr⟩⟩ := h
    · exact ⟨none, 0, rfl, Nat.zero_le _, fun j x h => by simp at h⟩
    · exact ⟨_, _, rfl, Nat.zero_le _, fun j x h => by simp at h⟩
  · obtain ⟨g, c, e, h1, _, _, h2⟩ := h.ba h0
    exact ⟨_, c, e, h1, h2⟩
set_option maxHeartbeats 4000000 in
set_option maxRecDepth 100000 in
theorem clone_c (A : Option Addr) (l : List UInt8) (c : Nat) (w : World) (hA : BA w A l) (hl : l.length ≤ 900000) :
    Calls Tryd.prog 10 #[.slice A l.length c] w fun e w' => ∃ v, e = .returned v ∧ (∃ A2 c2, v = .slice A2 l.length c2 ∧ l.length ≤ c2 ∧ BA w' A2 l) ∧ Below w.heap.size w w' := by
  have q22 : ∀ (w : World) (a : Option Addr) (n c n' c' : Nat), (binOp .eql 22 (.slice a n c) (.slice none n' c')).run Tryd.prog w = .ok (.bool a.isNone) w := fun w a n c n' c' => Lib.run_eql_slice_nil w _ _ a n c n' c' Tryd.underlying22
  have hO0 : OwnB (w.alloc (.cells #[] 5)) w.heap.size (.slice (some ⟨w.heap.size, 0, none⟩) 0 0) [] := World.ownsRow_made w #[] 0 (Nat.le_refl _) (by unfold maxLen; omega) rfl
  have hB0 : Below w.heap.size w (w.alloc (.cells #[] 5)) := (Below.refl _ _).alloc (Nat.le_refl _) _
  have HO0 := Lib.hid hO0
  have HB0 := Lib.hid hB0
  have HA := Lib.hid hA
  clear hO0 hB0 hA
  cases A with
  | none =>
    have hl0 : l = [] := by
      match l, HA.out with
      | [], _ => rfl
      | x :: r, h =>
        obtain ⟨b, o, e, _⟩ := h 0 x rfl
        cases e
    subst hl0
    go_enter Tryd.func10, Tryd.ntmps10
    go_wp2
    go_ret
    exact ⟨_, rfl, ⟨none, 0, rfl, Nat.zero_le _, fun j x h => by simp at h⟩, Below.refl _ _⟩
  | some ad =>
    go_enter Tryd.func10, Tryd.ntmps10
    go_wp2_with (at_builtin; refine wpList_catB0 rfl _ _ rfl w.heap.size w.heap.size 0 [] rfl (Nat.le_refl _) HO0.out (some ad) c l rfl (HA.out.below HB0.out) (by simp; omega) (by simp) ?_; intro v1 w1 hO1 hB1; have HO1 := Lib.hid hO1; have HB1 := Lib.hid (HB0.out.trans hB1); clear hO1 hB1)
    go_ret
    refine ⟨_, rfl, ?_, HB1.out⟩
    have h1 := HO1.out
    rw [List.nil_append] at h1
    exact h1.any
end Go.Proofs.YtkbipmhhiahkpaaDoor
