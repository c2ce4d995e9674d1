/- The contract of the reference's Hex. -/
import Derived.Test.YthpbfmjogecbmaaN
import Derived.BigQuiet
import Derived.Laws.DeepStrings4
import Derived.Laws.Concat
namespace Go.Proofs.Ythpbfmjogecbmaa
open Go.RowKit

def oneB (y : Nat) : ByteArray := ⟨[UInt8.ofNat y].toArray⟩
noncomputable def subAt (w : World) (lo hi : Value) : Result Value := Sem.run Try.prog (Instr.slice 9 (.string digs) (some lo) (some hi) none) w
@[go_sem high] theorem run_slice_digs (w : World) (lo hi : Value) : Sem.run Try.prog (Instr.slice 9 (.string ⟨#[48, 49, 50, 51, 52, 53, 54, 55, 56, 57, 97, 98, 99, 100, 101, 102]⟩) (some lo) (some hi) none) w = subAt w lo hi := rfl
theorem digs_sub : ∀ y : Nat, y < 16 → (digs.extract y (y + 1)).data.toList = [UInt8.ofNat (hexd y)] := by decide +kernel
theorem subAt_of (y : Nat) (h : y < 16) (w : World) : subAt w (.int .i64 (y : Int)) (.int .i64 ((y : Int) + 1)) = .ok (.string (oneB (hexd y))) w := by
  have hs : digs.size = 16 := by decide
  unfold subAt
  rw [run_slice_string_if (P := Try.prog) w 9 digs .i64 .i64 (y : Int) ((y : Int) + 1) Try.underlying9, if_pos ⟨by omega, by rw [hs]; omega⟩, if_pos ⟨by omega, by omega⟩]
  have e : digs.extract y (y + 1) = oneB (hexd y) := by
    apply ByteArray.ext
    apply Array.ext'
    exact digs_sub y h
  rw [show ((y : Int)).toNat = y by omega, show ((y : Int) + 1).toNat = y + 1 by omega, e]

set_option maxHeartbeats 1000000 in
theorem rhex_c (A : Option Addr) (c : Nat) (l : List UInt8) (w : World) (hA : BA w A l) (hl : l.length ≤ 1000000000000) :
    Calls Try.prog 14 #[.slice A l.length c] w fun e w' => e = .returned (.string ⟨(hexs l).toArray⟩) ∧ Below w.heap.size w w' := by
  go_enter Try.func14, Try.ntmps14
  go_wp2
  go_loopg [4, 5, 6] l.length (fun gg s i _ wr => ∃ k n : Nat, i = .int .i64 k ∧ k ≤ l.length ∧ l.length - k ≤ gg ∧ s = .string ⟨(hexs (l.take k)).toArray⟩ ∧ wr = w.drewN n)
  case atStart => exact ⟨0, 0, rfl, by omega, by omega, rfl, rfl⟩
  case round =>
    obtain ⟨k, n, rfl, hk, hgg, rfl, rfl⟩ := hrel
    by_cases hlt : k < l.length
    · obtain ⟨x, hx⟩ := get_some hlt
      obtain ⟨b, o, rfl, hc⟩ := hA k x hx
      have HX := Lib.hid hx
      have hd : decide ((k : Int) < l.length) = true := by simp; omega
      have x256 : x.toNat < 256 := x.toNat_lt
      obtain ⟨S, hS⟩ : ∃ S : ByteArray, S = ⟨(hexs (l.take k)).toArray⟩ := ⟨_, rfl⟩
      have hlk : S.size ≤ 2000000000000 := by
        have : S.size = (hexs (l.take k)).length := by rw [hS]; simp [ByteArray.size]
        rw [this, hexs_len]; have := List.length_take_le k l; omega
      rw [← hS]
      have HS := Lib.hid hS
      clear hx hA hS
      obtain ⟨O1, hO1⟩ : ∃ O, O = oneB (hexd (x.toNat / 16)) := ⟨_, rfl⟩
      obtain ⟨O2, hO2⟩ : ∃ O, O = oneB (hexd (x.toNat % 16)) := ⟨_, rfl⟩
      obtain ⟨T, hT⟩ : ∃ T, T = O1 ++ O2 := ⟨_, rfl⟩
      obtain ⟨U, hU⟩ : ∃ U, U = S ++ T := ⟨_, rfl⟩
      have i1 : ∀ w, subAt w (.int .i64 ((x.toNat : Int) / 16)) (.int .i64 ((x.toNat : Int) / 16 + 1)) = .ok (.string O1) w := fun w => by
        have := subAt_of (x.toNat / 16) (by omega) w
        rwa [show ((x.toNat / 16 : Nat) : Int) = (x.toNat : Int) / 16 by omega, ← hO1] at this
      have i2 : ∀ w, subAt w (.int .i64 ((x.toNat : Int) % 16)) (.int .i64 ((x.toNat : Int) % 16 + 1)) = .ok (.string O2) w := fun w => by
        have := subAt_of (x.toNat % 16) (by omega) w
        rwa [show ((x.toNat % 16 : Nat) : Int) = (x.toNat : Int) % 16 by omega, ← hO2] at this
      have s1 : O1.size = 1 := by rw [hO1]; rfl
      have s2 : O2.size = 1 := by rw [hO2]; rfl
      have a1 : ∀ w, (Op.stringOp .add O1 O2).run Try.prog w = .ok (.string T) w := fun w => by rw [run_string_add_sum (P := Try.prog) w O1 O2 (by omega), hT]
      have s3 : T.size = 2 := by rw [hT, ByteArray.size_append, s1, s2]
      have a2 : ∀ w, (Op.stringOp .add S T).run Try.prog w = .ok (.string U) w := fun w => by rw [run_string_add_sum (P := Try.prog) w S T (by omega), hU]
      have HU : Hid (U = ⟨(hexs (l.take (k + 1))).toArray⟩) := by
        show U = _
        rw [hU, hT, hO1, hO2, HS.out, List.take_add_one, HX.out, Option.toList_some, hexs_snoc]
        unfold oneB hex2
        rw [ByteArray.mk_append_mk, ByteArray.mk_append_mk]
        rfl
      clear hO1 hO2 hT hU s1 s2 s3
      go_wp2_with fail
      go_quiet (fail)
      clear i1 i2 a1 a2
      go_wp2
      go_roundg (l.length - (k + 1))
      case measure => omega
      case rel => exact ⟨k + 1, _, by go_num, by omega, by omega, by rw [HU.out], rfl⟩
    · have hs : l.take k = l := List.take_of_length_le (by omega)
      rw [hs]
      have hd : decide ((k : Int) < l.length) = false := by simp; omega
      clear hs hA
      go_wp2
      go_ret
      exact ⟨rfl, below_drewN (Below.refl _ _) _⟩
end Go.Proofs.Ythpbfmjogecbmaa
