/- The reference's padding. -/
import Derived.Test.YtaggbmlkfdfjpaaDoorA
import Derived.Deep.AppendSrc
namespace Go.Proofs.YtaggbmlkfdfjpaaDoor
open Go.RowKit

def bv (x : UInt8) : Value := .int .u8 (x.toNat : Int)
theorem bv_one (x : UInt8) : (bv x).oneCell' = true := rfl
theorem info5 : (Tryd.prog.info? 5).map (fun i => (i.zero, i.size, i.bytes)) = some (some (.int .u8 0), 1, 1) := by kernel_rfl
def OwnB (w : World) (B : Nat) (v : Value) (l : List UInt8) : Prop := w.ownsRow B 5 1 v l.length (l.map bv)
theorem OwnB.below {w w' : World} {B : Nat} {v : Value} {l : List UInt8} (h : OwnB w B v l) (hb : Below w.heap.size w w') : OwnB w' B v l := by
  obtain ⟨h0, h | ⟨g, cap, cur, rfl, hg, hh, hr⟩⟩ := h
  · exact ⟨h0, .inl h⟩
  · exact ⟨h0, .inr ⟨g, cap, cur, rfl, hg, by rw [hb.block g (lt_of_heap hh)]; exact hh, hr⟩⟩
theorem OwnB.ge {w : World} {B : Nat} {v : Value} {l : List UInt8} (h : OwnB w B v l) : ∀ k, v.ownBlock = some k → B ≤ k := fun k hk => by
  obtain ⟨_, h | ⟨g, cap, cur, rfl, hg, _⟩⟩ := h
  · obtain ⟨rfl, _⟩ := h; simp [Value.ownBlock] at hk
  · simp [Value.ownBlock] at hk; omega
theorem OwnB.len {w : World} {B : Nat} {v : Value} {l : List UInt8} (h : OwnB w B v l) : ∃ A c, v = .slice A l.length c := by
  obtain ⟨_, ⟨rfl, h⟩ | ⟨g, cap, cur, rfl, _⟩⟩ := h
  · exact ⟨none, 0, by rw [h]⟩
  · exact ⟨_, _, rfl⟩
/-- One byte is appended. -/
theorem wpList_pushB {ops : Array Oper} {rest : List Oper} {o : Oper} {a : Act} {w : World} {Q : Exit → Act → World → Prop} (hgd : o.guard = none) (s x : Operand)
    (ho : o.op = .call { callee := .builtin .append, args := #[s, x], argTypes := #[34, 34] }) (B : Nat) (v : Value) (l : List UInt8) (hs : a.eval s = v) (hown : OwnB w B v l) (g : Nat) (y : UInt8)
    (hx : a.eval x = .slice (some ⟨g, 0, none⟩) 1 1) (hk : w.cell? ⟨g, 0, none⟩ = some (bv y)) (hl : l.length ≤ 140737488000000) (hB : B ≤ w.heap.size)
    (h : ∀ v' w', OwnB w' B v' (l ++ [y]) → Below B w w' → wpList Tryd.prog ops Q rest (a.put o.dst v') w') : wpList Tryd.prog ops Q (o :: rest) a w := by
  obtain ⟨i0, hi, hz0, hz1, hz2⟩ := info_parts info5
  refine wpList_append_own (w := w) hgd s x 34 ho B 5 i0 (.int .u8 0) 1 1 Tryd.underlying34 hi hz0 hz1 hz2 rfl (by decide) v l.length (l.map bv) hs hown ⟨g, 0, none⟩ 1 1 [bv y] hx rfl
    (fun j u hj => ?_) (fun u hu => ?_) (by unfold maxLen; omega) (by omega) hB fun v' w' h1 h2 _ => h v' w' ?_ ?_
  · match j, hj with
    | 0, hj => simp at hj; subst hj; simpa [Addr.add] using hk
  · simp at hu; subst hu; rfl
  · unfold OwnB
    rw [List.map_append, List.length_append]
    simpa using h1
  · exact (Below.refl _ _).grown h2 hB hown.ge
/-- A slice of bytes is appended. -/
theorem wpList_catB {ops : Array Oper} {rest : List Oper} {o : Oper} {a : Act} {w : World} {Q : Exit → Act → World → Prop} (hgd : o.guard = none) (s x : Operand)
    (ho : o.op = .call { callee := .builtin .append, args := #[s, x], argTypes := #[34, 34] }) (B : Nat) (v : Value) (l : List UInt8) (hs : a.eval s = v) (hown : OwnB w B v l) (A : Option Addr) (c : Nat) (m : List UInt8)
    (hx : a.eval x = .slice A m.length c) (hk : BA w A m) (hm : 0 < m.length) (hl : l.length + m.length ≤ 140737488000000) (hB : B ≤ w.heap.size)
    (h : ∀ v' w', OwnB w' B v' (l ++ m) → Below B w w' → wpList Tryd.prog ops Q rest (a.put o.dst v') w') : wpList Tryd.prog ops Q (o :: rest) a w := by
  obtain ⟨i0, hi, hz0, hz1, hz2⟩ := info_parts info5
  obtain ⟨b, o2, rfl, _⟩ := hk 0 _ (List.getElem?_eq_getElem hm)
  refine wpList_append_own (w := w) hgd s x 34 ho B 5 i0 (.int .u8 0) 1 1 Tryd.underlying34 hi hz0 hz1 hz2 rfl (by decide) v l.length (l.map bv) hs hown ⟨b, o2, none⟩ m.length c (m.map bv) hx (by simp)
    (fun j v hj => ?_) (fun v hv => ?_) (by unfold maxLen; omega) (by omega) hB fun v' w' h1 h2 _ => h v' w' ?_ ?_
  · rw [List.getElem?_map] at hj
    obtain ⟨x, hx1, rfl⟩ := Option.map_eq_some_iff.1 hj
    obtain ⟨b3, o3, e, h3⟩ := hk j x hx1
    cases e
    rw [show (⟨b, o2, none⟩ : Addr).add j = ⟨b, o2 + j, none⟩ by unfold Addr.add; split <;> simp_all]
    exact h3
  · obtain ⟨x, _, rfl⟩ := List.mem_map.1 hv
    rfl
  · unfold OwnB
    rw [List.map_append, List.length_append]
    exact h1
  · exact (Below.refl _ _).grown h2 hB hown.ge

/-- .. whatever its length, at a row with an address. -/
theorem wpList_catB0 {ops : Array Oper} {rest : List Oper} {o : Oper} {a : Act} {w : World} {Q : Exit → Act → World → Prop} (hgd : o.guard = none) (s x : Operand)
    (ho : o.op = .call { callee := .builtin .append, args := #[s, x], argTypes := #[34, 34] }) (B g cap : Nat) (l : List UInt8) (hs : a.eval s = .slice (some ⟨g, 0, none⟩) l.length cap) (hcap : l.length ≤ cap) (hown : OwnB w B (.slice (some ⟨g, 0, none⟩) l.length cap) l) (A : Option Addr) (c : Nat) (m : List UInt8)
    (hx : a.eval x = .slice A m.length c) (hk : BA w A m) (hl : l.length + m.length ≤ 140737488000000) (hB : B ≤ w.heap.size)
    (h : ∀ v' w', OwnB w' B v' (l ++ m) → Below B w w' → wpList Tryd.prog ops Q rest (a.put o.dst v') w') : wpList Tryd.prog ops Q (o :: rest) a w := by
  rcases Nat.eq_zero_or_pos m.length with h0 | h0
  · obtain rfl : m = [] := List.length_eq_zero_iff.1 h0
    obtain ⟨i0, hi, hz0, hz1, hz2⟩ := info_parts info5
    have hsrc : Src Tryd.prog i0.size 34 (.slice A 0 c) 0 [] w := by
      cases A with
      | none => exact Src.ofNil w Tryd.underlying34 c
      | some ad => exact Src.ofSlice w Tryd.underlying34 ad 0 c [] (by simp) (fun j v hj => by simp at hj) (fun v hv => by simp at hv)
    have hrun := run_append_room_src (P := Tryd.prog) w 34 34 o.type 5 i0 Tryd.underlying34 hi g 0 l.length cap (.slice A 0 c) 0 [] hsrc (by omega) (fun j hj => by simp at hj) (fun j hj => by simp at hj)
    refine wpList_plain hgd fun K hK => ?_
    have hk2 := hK _ _ (h (.slice (some ⟨g, 0, none⟩) l.length cap) w (by simpa using hown) (Below.refl _ _))
    rw [List.length_nil] at hx
    unfold Oper.wp
    simp [execOp, ho, resolve, invoke, builtin, hs, hx, hrun, Result.andThen]
    exact hk2
  · exact wpList_catB hgd s x ho B _ l hs hown A c m hx hk h0 hl hB h

theorem shr64 (M n : Nat) (h : n < 64) (w : World) : (binOp .shr 60 (.int .u64 (M : Int)) (.int .u64 (n : Int))).run Tryd.prog w = .ok (.int .u64 ((M / 2 ^ n : Nat) : Int)) w := by
  simp [binOp, go_sem]
theorem conv64b (M : Nat) (w : World) : (convert 60 5 (.int .u64 (M : Int))).run Tryd.prog w = .ok (bv (UInt8.ofNat M)) w := by
  unfold bv; simp [go_sem]
  rw [wrap_u8]
/-- The bytes while zeros are laid, and while the number is. -/
def padZ (l : List UInt8) (z : Nat) : List UInt8 := l ++ 128 :: List.replicate z 0
def padN (l : List UInt8) (j : Nat) : List UInt8 := padZ l (zeros l.length) ++ (be64 (8 * l.length)).take j
theorem padZ_succ (l : List UInt8) (z : Nat) : padZ l (z + 1) = padZ l z ++ [0] := by
  unfold padZ; rw [List.replicate_succ']; simp
theorem padZ_len (l : List UInt8) (z : Nat) : (padZ l z).length = l.length + 1 + z := by simp [padZ]; omega
theorem padN_len (l : List UInt8) (j : Nat) (h : j ≤ 8) : (padN l j).length = l.length + 1 + zeros l.length + j := by
  unfold padN; rw [List.length_append, padZ_len, List.length_take]; simp [be64]; omega
theorem padN_succ (l : List UInt8) (j : Nat) (h : j < 8) : padN l (j + 1) = padN l j ++ [UInt8.ofNat (8 * l.length / 2 ^ (56 - 8 * j))] := by
  unfold padN
  rw [List.take_add_one, List.append_assoc]
  congr 2
  unfold be64
  rw [List.getElem?_map, List.getElem?_range h]
  rfl
theorem padN_end (l : List UInt8) : padN l 8 = padL l := by
  unfold padN padZ padL
  rw [List.take_of_length_le (by simp [be64])]
  simp
theorem zeros_go (n z : Nat) (h : z < zeros n) : (n + 1 + z) % 64 ≠ 56 := by unfold zeros at h; omega
theorem zeros_end (n : Nat) : (n + 1 + zeros n) % 64 = 56 := by unfold zeros; omega
theorem zeros_lt (n : Nat) : zeros n < 64 := by unfold zeros; omega

set_option maxHeartbeats 8000000 in
set_option maxRecDepth 100000 in
theorem pad_c (A : Option Addr) (c : Nat) (l : List UInt8) (w : World) (hA : BA w A l) (hl : l.length ≤ 1000000000) :
    Calls Tryd.prog 26 #[.slice A l.length c] w fun e w' => ∃ v, e = .returned v ∧ OwnB w' w.heap.size v (padL l) ∧ Below w.heap.size w w' := by
  have hB0 : Below w.heap.size w (w.alloc (.cells #[] 5)) := (Below.refl _ _).alloc (Nat.le_refl _) _
  have hO0 : OwnB (w.alloc (.cells #[] 5)) w.heap.size (.slice (some ⟨w.heap.size, 0, none⟩) 0 0) [] := World.ownsRow_made w #[] 0 (Nat.le_refl _) (by unfold maxLen; omega) rfl
  have HA := Lib.hid (hA.below hB0)
  have HB0 := Lib.hid hB0
  have HO0 := Lib.hid hO0
  have hzl := zeros_lt l.length
  clear hA hB0 hO0
  · go_enter Tryd.func26, Tryd.ntmps26
    go_wp2_with (first | (at_builtin; refine wpList_catB0 rfl _ _ rfl w.heap.size w.heap.size 0 [] rfl (Nat.le_refl _) HO0.out A c l rfl HA.out (by simp; omega) (by simp) ?_; intro v1 w1 hO1 hB1; have HO1 := Lib.hid hO1; have HB1 := Lib.hid (HB0.out.trans hB1); clear hO1 hB1) | (at_builtin; refine wpList_pushB rfl _ _ rfl w.heap.size _ _ rfl (OwnB.below HO1.out ((Below.refl _ _).alloc (Nat.le_refl _) _)) w1.heap.size 128 rfl (by simp; rfl) (by simp; omega) (by have := HB1.out.size; simp; omega) ?_; intro v2 w2 hO2 hB2; have HO2 := Lib.hid hO2; have HB2 := Lib.hid ((HB1.out.alloc HB1.out.size _).trans hB2); clear hO2 hB2))
    go_loopg [3] (zeros l.length) (fun gg out wr => ∃ z : Nat, z ≤ zeros l.length ∧ zeros l.length - z = gg ∧ OwnB wr w.heap.size out (padZ l z) ∧ Below w.heap.size w wr)
    case atStart => exact ⟨0, by omega, by omega, by simpa [padZ] using HO2.out, HB2.out⟩
    case round =>
      obtain ⟨z, hz, rfl, hO, hB⟩ := hrel
      have HO := Lib.hid hO
      have HB := Lib.hid hB
      obtain ⟨A3, c3, rfl⟩ := hO.len
      rw [padZ_len] at HO ⊢
      clear hO hB
      by_cases hlt : z < zeros l.length
      · have hc := zeros_go l.length z hlt
        have hd : ((((l.length + 1 + z : Nat) : Int) % 64) == 56) = false := by
          rw [beq_eq_false_iff_ne]; omega
        have HC := Lib.hid hc
        clear hc
        go_wp2_with (at_builtin; refine wpList_pushB rfl _ _ rfl w.heap.size _ _ rfl (OwnB.below HO.out ((Below.refl _ _).alloc (Nat.le_refl _) _)) wr.heap.size 0 rfl (by simp; rfl) (by rw [padZ_len]; omega) (by have := HB.out.size; simp; omega) ?_; intro v4 w4 hO4 hB4; have HO4 := Lib.hid hO4; have HB4 := Lib.hid ((HB.out.alloc HB.out.size _).trans hB4); clear hO4 hB4)
        go_roundg (zeros l.length - (z + 1))
        case measure => omega
        case rel => exact ⟨z + 1, by omega, rfl, by rw [padZ_succ]; exact HO4.out, HB4.out⟩
      · have hzz : z = zeros l.length := by omega
        subst hzz
        have hc := zeros_end l.length
        have hd2 : (((l.length : Int) + 1 + (zeros l.length : Int)) % 64 != 56) = false := by
          rw [bne_eq_false_iff_eq]; omega
        have HO2' : Hid (OwnB wr w.heap.size (.slice A3 (l.length + 1 + zeros l.length) c3) (padN l 0)) := by
          have := HO.out
          show OwnB _ _ _ _
          unfold padN
          rw [List.take_zero, List.append_nil]
          exact this
        clear hc
        go_wp2_with fail
        go_loopg [3, 5] 9 (fun gg out i w5 => ∃ j : Nat, j ≤ 8 ∧ i = .int .i64 (56 - 8 * (j : Int)) ∧ 9 - j = gg ∧ OwnB w5 w.heap.size out (padN l j) ∧ Below w.heap.size w w5)
        case atStart => exact ⟨0, by omega, rfl, rfl, HO2'.out, HB.out⟩
        case round =>
          obtain ⟨j, hj, rfl, rfl, hO5, hB5⟩ := hrel
          have HO5 := Lib.hid hO5
          have HB5 := Lib.hid hB5
          clear hO5 hB5
          by_cases hlt2 : j < 8
          · obtain ⟨M, hM⟩ : ∃ M, M = 8 * l.length / 2 ^ (56 - 8 * j) := ⟨_, rfl⟩
            have HV : Hid (Value.int .u8 ((l.length : Int) * 8 / 2 ^ (56 - 8 * j) % 256) = bv (UInt8.ofNat M)) := by
              show _ = bv _
              unfold bv
              congr 1
              rw [hM]
              have e : (l.length : Int) * 8 / 2 ^ (56 - 8 * j) = ((8 * l.length / 2 ^ (56 - 8 * j) : Nat) : Int) := by
                rw [show (l.length : Int) * 8 = ((8 * l.length : Nat) : Int) by omega]; simp
              rw [e]
              simp
            have HM := Lib.hid hM
            have p0 : (0 : Int) ≤ 56 - 8 * (j : Int) := by omega
            clear hM
            go_wp2_with (at_builtin; refine wpList_pushB rfl _ _ rfl w.heap.size _ _ rfl (OwnB.below HO5.out ((Below.refl _ _).alloc (Nat.le_refl _) _)) wr.heap.size (UInt8.ofNat M) rfl (by simp; exact HV.out) (by rw [padN_len _ _ hj]; omega) (by have := HB5.out.size; simp; omega) ?_; intro v6 w6 hO6 hB6; have HO6 := Lib.hid hO6; have HB6 := Lib.hid ((HB5.out.alloc HB5.out.size _).trans hB6); clear hO6 hB6)
            go_roundg (9 - (j + 1))
            case measure => omega
            case rel =>
              refine ⟨j + 1, by omega, ?_, rfl, ?_, HB6.out⟩
              · congr 1; omega
              · rw [padN_succ l j hlt2, ← HM.out]; exact HO6.out
          · have hjj : j = 8 := by omega
            subst hjj
            rw [padN_end] at HO5
            go_wp2_with fail
            go_ret
            exact ⟨_, rfl, HO5.out, HB5.out⟩
end Go.Proofs.YtaggbmlkfdfjpaaDoor
