/- The reference's padding. -/
import Derived.Test.YtjnhhcbplhmemaaDoorA
import Derived.Deep.AppendSrc
namespace Go.Proofs.YtjnhhcbplhmemaaDoor
open Go.RowKit

theorem shr64 (M n : Nat) (h : n < 64) (w : World) : (binOp .shr 143 (.int .u64 (M : Int)) (.int .u64 (n : Int))).run Tryd.prog w = .ok (.int .u64 ((M / 2 ^ n : Nat) : Int)) w := by
  simp [binOp, go_sem]
theorem conv64b (M : Nat) (w : World) : (convert 143 5 (.int .u64 (M : Int))).run Tryd.prog w = .ok (bv (UInt8.ofNat M)) w := by
  unfold bv; simp [go_sem]
  rw [wrap_u8]
def padN (l : List UInt8) (j : Nat) : List UInt8 := padZ l (zeros l.length) ++ (be64 (8 * l.length)).take j
theorem padN_len (l : List UInt8) (j : Nat) (h : j ≤ 8) : (padN l j).length = l.length + 1 + zeros l.length + j := by
  unfold padN; rw [List.length_append, padZ_len, List.length_take]; simp [be64]; omega
theorem padN_succ (l : List UInt8) (j : Nat) (h : j < 8) : padN l (j + 1) = padN l j ++ [UInt8.ofNat (8 * l.length / 2 ^ (56 - 8 * j))] := by
  unfold padN
  rw [List.take_add_one, List.append_assoc]
  congr 2
  unfold be64
  rw [List.getElem?_map, List.getElem?_range h]
  rfl
theorem padN_end (l : List UInt8) : padN l 8 = padL l := by
  unfold padN padZ padL
  rw [List.take_of_length_le (by simp [be64])]
  simp
theorem zeros_go (n z : Nat) (h : z < zeros n) : (n + 1 + z) % 64 ≠ 56 := by unfold zeros at h; omega
theorem zeros_end (n : Nat) : (n + 1 + zeros n) % 64 = 56 := by unfold zeros; omega
theorem zeros_lt (n : Nat) : zeros n < 64 := by unfold zeros; omega
end Go.Proofs.YtjnhhcbplhmemaaDoor
