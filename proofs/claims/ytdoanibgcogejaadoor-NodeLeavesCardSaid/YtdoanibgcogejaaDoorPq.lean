/- The program's build, without layer 6's law: two loops over the parts (their bytes are counted, then appended). -/
import Derived.Test.YtdoanibgcogejaaDoorLr
import Derived.OwnWalk
import Derived.Laws.OwnMore
import Derived.Laws.MakeOwn
namespace Go.Proofs.YtdoanibgcogejaaDoor
open Go.RowKit

/-- Bytes were returned, n of them; what was there is as it was. -/
def RetN (w : World) (n : Nat) (l : List UInt8) (e : Ending) (w' : World) : Prop := ∃ A c, e = .returned (.slice A n c) ∧ l.length = n ∧ n ≤ c ∧ BA w' A l ∧ Below w.heap.size w w'
theorem made_bel {W w : World} (h : Below W.heap.size W w) (o : Obj) : Below W.heap.size W (w.alloc o) := h.alloc h.size o
set_option maxHeartbeats 16000000 in
set_option maxRecDepth 100000 in
theorem pjoin_c (t : UInt8) (A : Option Addr) (c : Nat) (ls : List Pc) (w : World) (hA : SL w A ls) (hl : (catAll ls).length ≤ 1000000) (hls : ls.length ≤ 1000000) :
    Calls Tryd.prog 50 #[.int .u8 (t.toNat : Int), .slice A ls.length c] w fun e w' => ∃ v, e = .returned v ∧ OwnB w' w.heap.size v (t :: catAll ls) ∧ Below w.heap.size w w' := by
  have HA := Lib.hid hA
  obtain ⟨i0, hi, hz0, hz1, hz2⟩ := info_parts info5
  clear hA
  go_enter Tryd.func50, Tryd.ntmps50
  go_wp2_with fail
  go_loopg [5, 13] ls.length (fun gg n i wr => ∃ k : Nat, i = .int .i64 k ∧ k ≤ ls.length ∧ ls.length - k = gg ∧ n = .int .i64 (((cat ls k).length : Nat) + 1 : Int) ∧ Hid (wr = w))
  case atStart => exact ⟨0, rfl, by omega, by omega, rfl, rfl⟩
  case round =>
    obtain ⟨k, rfl, hkl, rfl, rfl, hW⟩ := hrel
    have hcl := cat_le ls k
    by_cases hlt : k < ls.length
    · obtain ⟨x, hx⟩ : ∃ x, ls[k]? = some x := ⟨_, List.getElem?_eq_getElem hlt⟩
      obtain ⟨hxc, hxb, g, o, rfl, hcell⟩ := HA.out k x hx
      have hcs := cat_succ ls k x hx
      have hcl2 := cat_le ls (k + 1)
      have hlen : (cat ls (k + 1)).length = (cat ls k).length + x.l.length := by rw [hcs, List.length_append]
      have hcr : wr.cell? ⟨g, o + k, none⟩ = some (.slice x.A x.l.length x.c) := by rw [hW.out]; exact hcell
      have HLEN := Lib.hid hlen
      have b1 : (cat ls k).length + x.l.length ≤ 1000000 := by omega
      have hd : decide (k < ls.length) = true := decide_eq_true hlt
      have p0 : (0 : Int) ≤ (k : Int) := by omega
      have p1 : (k : Int) < (ls.length : Int) := by omega
      clear hx hcell hxb hcs hlen
      go_wp2_with fail
      go_roundg (ls.length - (k + 1))
      case measure => omega
      case rel => exact ⟨k + 1, by go_num, by omega, rfl, by rw [HLEN.out]; exact congrArg (Value.int .i64) (by push_cast; omega), hW⟩
    · obtain rfl : k = ls.length := by omega
      have hd : decide (ls.length < ls.length) = false := decide_eq_false (by omega)
      obtain ⟨N, hN⟩ : ∃ N, N = (cat ls ls.length).length := ⟨_, rfl⟩
      rw [← hN]
      have hN2 : N ≤ 1000000 := by omega
      obtain rfl : w = wr := hW.out.symm
      clear hN hW
      go_wp2_with (first
        | (at_make; refine wpList_make_own _ rfl _ _ 37 rfl w.heap.size 5 i0 (.int .u8 0) 1 Tryd.underlying37 hi hz0 hz1 .i64 .i64 _ (N + 1) rfl rfl (by omega) (by rw [hz2]; omega) (by unfold maxLen; omega) (Nat.le_refl _) ?_; intro w0 hown hgrow; have h0 : Hid (OwnB w0 w.heap.size (.slice (some ⟨w.heap.size, 0, none⟩) 0 (N + 1)) []) := hown; have HB0 : Hid (Below w.heap.size w w0) := (Below.refl _ _).grown hgrow (Nat.le_refl _) (by intro k hk; cases hk); clear hown hgrow)
        | (at_builtin; refine wpList_pushB rfl _ _ rfl w.heap.size _ [] rfl (OwnB.below h0.out ((Below.refl _ _).alloc (Nat.le_refl _) _)) w0.heap.size t rfl (by simp; rfl) (by simp) (by have := HB0.out.size; simp; omega) ?_; intro v1 w1 hO1 hB1; have HO1 := Lib.hid hO1; have HB1 := Lib.hid ((HB0.out.alloc HB0.out.size _).trans hB1); clear hO1 hB1))
      go_loopg [8, 30] ls.length (fun gg v i wz => ∃ k : Nat, i = .int .i64 k ∧ k ≤ ls.length ∧ ls.length - k = gg ∧ OwnB wz w.heap.size v (t :: cat ls k) ∧ Below w.heap.size w wz)
      case atStart => exact ⟨0, rfl, by omega, by omega, HO1.out, HB1.out⟩
      case round =>
        clear HO1 HB1 h0 HB0
        obtain ⟨k, rfl, hkl, rfl, hO, hB⟩ := hrel
        have hcl := cat_le ls k
        have HO := Lib.hid hO
        have HB := Lib.hid hB
        clear hO hB
        by_cases hlt : k < ls.length
        · obtain ⟨x, hx⟩ : ∃ x, ls[k]? = some x := ⟨_, List.getElem?_eq_getElem hlt⟩
          obtain ⟨hxc, hxb, g, o, rfl, hcell⟩ := HA.out k x hx
          have hcs := cat_succ ls k x hx
          have hcl2 := cat_le ls (k + 1)
          have hlen : (cat ls (k + 1)).length = (cat ls k).length + x.l.length := by rw [hcs, List.length_append]
          have hcr : wr.cell? ⟨g, o + k, none⟩ = some (.slice x.A x.l.length x.c) := (HB.out.cell (lt_of_cell hcell)).trans hcell
          have HXB := Lib.hid (hxb.below HB.out)
          have HCS := Lib.hid hcs
          have b1 : (cat ls k).length + x.l.length ≤ 1000000 := by omega
          have hd : decide (k < ls.length) = true := decide_eq_true hlt
          have p0 : (0 : Int) ≤ (k : Int) := by omega
          have p1 : (k : Int) < (ls.length : Int) := by omega
          clear hx hcell hxb hcs hlen
          go_wp2_with (at_builtin; refine wpList_catB1 rfl _ _ rfl w.heap.size _ (t :: cat ls k) rfl HO.out x.A x.c x.l rfl HXB.out (by rw [List.length_cons]; omega) HB.out.size ?_; intro v6 w6 hO6 hB6; have HO6 := Lib.hid hO6; have HB6 := Lib.hid (HB.out.trans hB6); clear hO6 hB6)
          go_roundg (ls.length - (k + 1))
          case measure => omega
          case rel => exact ⟨k + 1, by go_num, by omega, rfl, by rw [HCS.out]; exact HO6.out, HB6.out⟩
        · obtain rfl : k = ls.length := by omega
          have hd : decide (ls.length < ls.length) = false := decide_eq_false (by omega)
          rw [cat_all] at HO
          go_wp2_with fail
          go_ret
          exact ⟨_, rfl, HO.out, HB.out⟩
end Go.Proofs.YtdoanibgcogejaaDoor
