/- The reference's text. -/
import Derived.Test.YtnmjcfpmljahcaaDoorM
import Derived.Test.YtnmjcfpmljahcaaDoorD
import Derived.BigQuiet
namespace Go.Proofs.YtnmjcfpmljahcaaDoor
open Go.RowKit

theorem ba_size (l : List UInt8) : (⟨l.toArray⟩ : ByteArray).size = l.length := by simp [ByteArray.size]
theorem refText_step (op : ByteArray) (n : Int) (t : List UInt8) : (((op ++ ⟨#[32]⟩) ++ ⟨(Lib.itoa n).toArray⟩) ++ ⟨#[58, 32]⟩) ++ (⟨t.toArray⟩ : ByteArray) = ⟨(frag ⟨op, n⟩ ++ t).toArray⟩ := by
  apply ByteArray.ext
  simp [frag]
theorem textL_len (l : List St) (t : List UInt8) (h : Fits l) : (textL l t).length ≤ 5030 * l.length + t.length := by
  rw [textL_flat, List.length_append]
  have := flat_len l h
  omega
theorem Fits.rev_take {l : List St} (h : Fits l) (k : Nat) : Fits (l.take k).reverse := fun s hs => h s (List.mem_of_mem_take (List.mem_reverse.1 hs))

set_option maxHeartbeats 8000000 in
set_option maxRecDepth 100000 in
theorem rtext_c (A : Option Addr) (cc : Nat) (l : List St) (c : Int) (w : World) (hA : SA w A l) (hl : l.length ≤ 400000) (hf : Fits l) (h0 : -9223372036854775808 ≤ c) (h1 : c ≤ 9223372036854775807) :
    Calls Tryd.prog 12 #[.slice A l.length cc, .int .i64 c] w fun e w' => e = .returned (.string ⟨(textL l.reverse (errText c)).toArray⟩) ∧ Below w.heap.size w w' := by
  have hil := itoa_len c h0 h1
  have hel : (errText c).length ≤ 30 := by simp [errText]; omega
  have HA := Lib.hid hA
  have HF := Lib.hid hf
  clear hA hf
  go_enter Tryd.func12, Tryd.ntmps12
  go_wp2_with (go_at_call 20; refine (decimal_c c h0 h1 _).mono ?_; rintro e w' ⟨rfl, rfl⟩)
  go_loopg [5, 6] l.length (fun gg s i wr => ∃ k : Nat, i = .int .i64 k ∧ k ≤ l.length ∧ l.length - k = gg ∧ s = .string ⟨(textL (l.take k).reverse (errText c)).toArray⟩ ∧ Below w.heap.size w wr)
  case atStart => exact ⟨0, rfl, by omega, by omega, by simp only [List.take_zero, List.reverse_nil, textL]; rw [ba_app]; rfl, Below.refl _ _⟩
  case round =>
    obtain ⟨k, rfl, hk, rfl, rfl, hB⟩ := hrel
    have HB := Lib.hid hB
    clear hB
    by_cases hlt : k < l.length
    · obtain ⟨s, hs⟩ : ∃ s, l[k]? = some s := ⟨_, List.getElem?_eq_getElem hlt⟩
      obtain ⟨b, o, rfl, g1, g2⟩ := HA.out k s hs
      have hd : decide ((k : Int) < l.length) = true := by simp; omega
      have hfs := HF.out s (List.mem_of_getElem? hs)
      obtain ⟨T, hT⟩ : ∃ T : ByteArray, T = ⟨(textL (l.take k).reverse (errText c)).toArray⟩ := ⟨_, rfl⟩
      have hTs : T.size ≤ 2012000030 := by
        rw [hT, ba_size]
        have h5 := textL_len (l.take k).reverse (errText c) (HF.out.rev_take k)
        have h6 : (l.take k).reverse.length ≤ 400000 := by simp; omega
        omega
      rw [← hT]
      obtain ⟨D, hD⟩ : ∃ D : ByteArray, D = ⟨(Lib.itoa s.n).toArray⟩ := ⟨_, rfl⟩
      have hDs : D.size ≤ 21 := by rw [hD, ba_size]; exact itoa_len s.n hfs.1 hfs.2.1
      have dc : ∀ w, Calls Tryd.prog 20 #[.int .i64 s.n] w fun e w' => e = .returned (.string D) ∧ w' = w := fun w => (decimal_c s.n hfs.1 hfs.2.1 w).mono fun _ _ ⟨a, b⟩ => ⟨by rw [hD]; exact a, b.symm⟩
      have hos : s.op.size ≤ 5000 := hfs.2.2
      obtain ⟨X1, h1'⟩ : ∃ X, X = s.op ++ ⟨#[32]⟩ := ⟨_, rfl⟩
      obtain ⟨X2, h2'⟩ : ∃ X, X = X1 ++ D := ⟨_, rfl⟩
      obtain ⟨X3, h3'⟩ : ∃ X, X = X2 ++ ⟨#[58, 32]⟩ := ⟨_, rfl⟩
      obtain ⟨X4, h4'⟩ : ∃ X, X = X3 ++ T := ⟨_, rfl⟩
      have z1 : (⟨#[32]⟩ : ByteArray).size = 1 := rfl
      have z2 : (⟨#[58, 32]⟩ : ByteArray).size = 2 := rfl
      have s1 : X1.size = s.op.size + 1 := by rw [h1', ByteArray.size_append, z1]
      have s2 : X2.size = X1.size + D.size := by rw [h2', ByteArray.size_append]
      have s3 : X3.size = X2.size + 2 := by rw [h3', ByteArray.size_append, z2]
      have a1 : ∀ w, (Op.stringOp .add s.op ⟨#[32]⟩).run Tryd.prog w = .ok (.string X1) w := fun w => by rw [run_string_add_sum (P := Tryd.prog) w _ _ (by omega), h1']
      have a2 : ∀ w, (Op.stringOp .add X1 D).run Tryd.prog w = .ok (.string X2) w := fun w => by rw [run_string_add_sum (P := Tryd.prog) w _ _ (by omega), h2']
      have a3 : ∀ w, (Op.stringOp .add X2 ⟨#[58, 32]⟩).run Tryd.prog w = .ok (.string X3) w := fun w => by rw [run_string_add_sum (P := Tryd.prog) w _ _ (by omega), h3']
      have a4 : ∀ w, (Op.stringOp .add X3 T).run Tryd.prog w = .ok (.string X4) w := fun w => by rw [run_string_add_sum (P := Tryd.prog) w _ _ (by omega), h4']
      have HX : Hid (X4 = ⟨(textL (l.take (k + 1)).reverse (errText c)).toArray⟩) := by
        show X4 = _
        rw [h4', h3', h2', h1', hD, hT, refText_step, rev_take hs]
        rfl
      have c1 : wr.cell? ⟨b, o + k * 2, none⟩ = some (.string s.op) := by rw [HB.out.cell (lt_of_cell g1)]; exact g1
      have c2 : wr.cell? ⟨b, o + k * 2 + 1, none⟩ = some (.int .i64 s.n) := by rw [HB.out.cell (lt_of_cell g2)]; exact g2
      clear h1' h2' h3' h4' s1 s2 s3 z1 z2 hT hD hs g1 g2 hfs hDs hTs hos
      go_wp2_with fail
      go_quiet ((go_at_call 20; exact Calls.quiet_of_same (dc _)))
      clear a1 a2 a3 a4 dc
      go_wp2
      go_roundg (l.length - (k + 1))
      case measure => omega
      case rel => exact ⟨k + 1, by go_num, by omega, rfl, by rw [HX.out], below_drewN HB.out _⟩
    · have hkk : k = l.length := by omega
      subst hkk
      go_wp2
      go_ret
      exact ⟨ret_str (by rw [List.take_length]), HB.out⟩
end Go.Proofs.YtnmjcfpmljahcaaDoor
