/- The reference's decimals. -/
import Derived.Test.YtnmjcfpmljahcaaDoorI
import Derived.Laws.DeepStrings4
import Derived.Laws.Concat
import Derived.Laws.Closers25b
namespace Go.Proofs.YtnmjcfpmljahcaaDoor
open Go.RowKit

/-! ### Digits, one by one, the last ahead -/
def dgt (u : Nat) : UInt8 := UInt8.ofNat (48 + u % 10)
def DecInv (a u : Nat) (l : List UInt8) : Prop := (l = [] ∧ u = a) ∨ (l ≠ [] ∧ u ≠ 0 ∧ Lib.decDigits a = Lib.decDigits u ++ l) ∨ (u = 0 ∧ l = Lib.decDigits a)
theorem decDigits_ne (u : Nat) : Lib.decDigits u ≠ [] := by
  rw [Lib.decDigits]; split <;> simp
theorem decDigits_lt {u : Nat} (h : u < 10) : Lib.decDigits u = [dgt u] := by rw [Lib.decDigits, dif_pos h, dgt, Nat.mod_eq_of_lt h]
theorem decDigits_ge {u : Nat} (h : ¬ u < 10) : Lib.decDigits u = Lib.decDigits (u / 10) ++ [dgt u] := by rw [Lib.decDigits, dif_neg h]; rfl
theorem DecInv.step {a u : Nat} {l : List UInt8} (h : DecInv a u l) (hc : u ≠ 0 ∨ l = []) : DecInv a (u / 10) (dgt u :: l) := by
  rcases h with ⟨rfl, rfl⟩ | ⟨h1, h2, h3⟩ | ⟨rfl, rfl⟩
  · by_cases hu : u < 10
    · exact .inr (.inr ⟨by omega, (decDigits_lt hu).symm⟩)
    · exact .inr (.inl ⟨by simp, by omega, decDigits_ge hu⟩)
  · by_cases hu : u < 10
    · exact .inr (.inr ⟨by omega, by rw [h3, decDigits_lt hu]; rfl⟩)
    · exact .inr (.inl ⟨by simp, by omega, by rw [h3, decDigits_ge hu]; simp⟩)
  · rcases hc with hc | hc
    · exact absurd rfl hc
    · exact absurd hc (decDigits_ne a)
theorem DecInv.done {a : Nat} {l : List UInt8} (h : DecInv a 0 l) (hl : l ≠ []) : l = Lib.decDigits a := by
  rcases h with ⟨h, _⟩ | ⟨_, h, _⟩ | ⟨_, h⟩
  · exact absurd h hl
  · exact absurd rfl h
  · exact h
theorem DecInv.len {a u : Nat} {l : List UInt8} (h : DecInv a u l) (ha : a ≤ 9223372036854775808) : l.length ≤ 20 := by
  have h0 : (Lib.decDigits a).length ≤ 20 := by
    rw [decDigits_len]
    exact nDigits_le 19 a (by have : (10 : Nat) ^ (19 + 1) = 100000000000000000000 := by decide
                              omega)
  rcases h with ⟨rfl, _⟩ | ⟨_, _, h⟩ | ⟨_, rfl⟩
  · simp
  · rw [h, List.length_append] at h0; omega
  · exact h0

/-! ### One digit out of the constant -/
def digs : ByteArray := ⟨#[48, 49, 50, 51, 52, 53, 54, 55, 56, 57]⟩
def oneB (y : UInt8) : ByteArray := ⟨[y].toArray⟩
noncomputable def subAt (w : World) (lo hi : Value) : Result Value := Sem.run Tryd.prog (Instr.slice 9 (.string digs) (some lo) (some hi) none) w
@[go_sem high] theorem run_slice_digs (w : World) (lo hi : Value) : Sem.run Tryd.prog (Instr.slice 9 (.string ⟨#[48, 49, 50, 51, 52, 53, 54, 55, 56, 57]⟩) (some lo) (some hi) none) w = subAt w lo hi := rfl
theorem digs_sub : ∀ y : Nat, y < 10 → (digs.extract y (y + 1)).data.toList = [UInt8.ofNat (48 + y)] := by decide +kernel
theorem subAt_of (u : Nat) (w : World) : subAt w (.int .u64 ((u : Int) % 10)) (.int .u64 ((u : Int) % 10 + 1)) = .ok (.string (oneB (dgt u))) w := by
  have hs : digs.size = 10 := by decide
  unfold subAt
  rw [run_slice_string_if (P := Tryd.prog) w 9 digs .u64 .u64 ((u : Int) % 10) ((u : Int) % 10 + 1) Tryd.underlying9, if_pos ⟨by omega, by rw [hs]; omega⟩, if_pos ⟨by omega, by omega⟩]
  have e : digs.extract (u % 10) (u % 10 + 1) = oneB (dgt u) := by
    apply ByteArray.ext
    apply Array.ext'
    exact digs_sub (u % 10) (by omega)
  rw [show ((u : Int) % 10).toNat = u % 10 by omega, show ((u : Int) % 10 + 1).toNat = u % 10 + 1 by omega, e]

theorem wrap_u64 (m : Int) : IntKind.u64.wrap m = m % 18446744073709551616 := by
  unfold IntKind.wrap
  rw [show (2 : Int) ^ IntKind.u64.bits = 18446744073709551616 from rfl, show IntKind.u64.signed = false from rfl]
  simp
theorem wrap_neg (n : Int) (h : n < 0) (h0 : -9223372036854775808 ≤ n) : IntKind.u64.wrap (-IntKind.u64.wrap n) = (n.natAbs : Int) := by
  rw [wrap_u64, wrap_u64]
  omega
/-- How many rounds are to come. -/
def msr (u : Nat) (l : List UInt8) : Nat := u + if l = [] then 1 else 0
theorem msr_step {u : Nat} (l l' : List UInt8) (h : u ≠ 0) (x : UInt8) : msr (u / 10) (x :: l) < msr u l' := by
  unfold msr; rw [if_neg (by simp)]; split <;> omega
theorem not_empty {l : List UInt8} (h : l ≠ []) : (⟨l.toArray⟩ : ByteArray).toList.isEmpty = false := by
  cases he : (⟨l.toArray⟩ : ByteArray).toList.isEmpty with
  | false => rfl
  | true =>
    have h1 := (toList_nil_iff_emptyBytes ⟨l.toArray⟩).1 (List.isEmpty_iff.1 he)
    have h2 : (⟨l.toArray⟩ : ByteArray).size = 0 := by rw [h1]; rfl
    have h3 : l.length = 0 := by simpa [ByteArray.size] using h2
    exact absurd (List.length_eq_zero_iff.1 h3) h
theorem int_eq {k : IntKind} {a b : Int} (h : a = b) : Value.int k a = .int k b := by rw [h]

set_option maxHeartbeats 4000000 in
set_option maxRecDepth 100000 in
theorem decimal_c (n : Int) (h0 : -9223372036854775808 ≤ n) (h1 : n ≤ 9223372036854775807) (w : World) :
    Calls Tryd.prog 20 #[.int .i64 n] w fun e w' => e = .returned (.string ⟨(Lib.itoa n).toArray⟩) ∧ w = w' := by
  obtain ⟨a, ha⟩ : ∃ a : Nat, a = n.natAbs := ⟨_, rfl⟩
  have HA := Lib.hid ha
  have ha2 : a ≤ 9223372036854775808 := by omega
  by_cases hn : n < 0
  all_goals
    have HN := Lib.hid hn
    clear ha
    go_enter Tryd.func20, Tryd.ntmps20
    go_wp2_with fail
    go_loopg [4, 5] (msr a []) (fun gg rest s wr => ∃ (u : Nat) (l : List UInt8), rest = .int .u64 (u : Int) ∧ s = .string ⟨l.toArray⟩ ∧ wr = w ∧ u ≤ a ∧ DecInv a u l ∧ msr u l = gg)
    case atStart =>
      refine ⟨a, [], ?_, rfl, rfl, Nat.le_refl _, .inl ⟨rfl, rfl⟩, rfl⟩
      first
        | exact int_eq ((wrap_neg n hn h0).trans (by rw [HA.out]))
        | exact int_eq (by have := HA.out; omega)
    case round =>
      obtain ⟨u, l, rfl, rfl, rfl, hu, hI, rfl⟩ := hrel
      have hll := hI.len ha2
      have HI := Lib.hid hI
      clear hI
      obtain ⟨S, hS⟩ : ∃ S : ByteArray, S = ⟨l.toArray⟩ := ⟨_, rfl⟩
      have hSs : S.size ≤ 20 := by rw [hS]; simpa [ByteArray.size] using hll
      rw [← hS]
      have HS := Lib.hid hS
      clear hS hll
      by_cases hc : u ≠ 0
      · have i1 : ∀ w, subAt w (.int .u64 ((u : Int) % 10)) (.int .u64 ((u : Int) % 10 + 1)) = .ok (.string (oneB (dgt u))) w := subAt_of u
        obtain ⟨O, hO⟩ : ∃ O, O = oneB (dgt u) := ⟨_, rfl⟩
        obtain ⟨U, hU⟩ : ∃ U, U = O ++ S := ⟨_, rfl⟩
        rw [← hO] at i1
        have s1 : O.size = 1 := by rw [hO]; rfl
        have a1 : ∀ w, (Op.stringOp .add O S).run Tryd.prog w = .ok (.string U) w := fun w => by rw [run_string_add_sum (P := Tryd.prog) w O S (by omega), hU]
        have HU := Lib.hid hU
        have HO := Lib.hid hO
        have hu0 : (0 : Int) < (u : Int) := by omega
        have hu1 : (u : Int) ≤ 9223372036854775808 := by omega
        clear hU hO s1
        go_wp2_with fail
        go_roundg (msr (u / 10) (dgt u :: l))
        case measure => exact msr_step l l hc _
        case rel =>
          refine ⟨u / 10, dgt u :: l, by go_num, ?_, rfl, by omega, HI.out.step (.inl hc), rfl⟩
          rw [HU.out, HO.out, HS.out]
          unfold oneB
          rw [ba_app]
          rfl
      · have hu0 : u = 0 := by omega
        subst hu0
        by_cases hl : l = []
        · subst hl
          have hS2 : S = ⟨#[]⟩ := HS.out
          subst hS2
          have i1 : ∀ w, subAt w (.int .u64 0) (.int .u64 1) = .ok (.string (oneB (dgt 0))) w := subAt_of 0
          obtain ⟨O, hO⟩ : ∃ O, O = oneB (dgt 0) := ⟨_, rfl⟩
          obtain ⟨U, hU⟩ : ∃ U, U = O ++ ⟨#[]⟩ := ⟨_, rfl⟩
          rw [← hO] at i1
          have s1 : O.size = 1 := by rw [hO]; rfl
          have a1 : ∀ w, (Op.stringOp .add O ⟨#[]⟩).run Tryd.prog w = .ok (.string U) w := fun w => by rw [run_string_add_sum (P := Tryd.prog) w O ⟨#[]⟩ (by rw [s1]; decide), hU]
          have HU := Lib.hid hU
          have HO := Lib.hid hO
          clear hU hO s1
          go_wp2_with fail
          go_roundg (msr 0 [dgt 0])
          case measure => decide
          case rel =>
            refine ⟨0, [dgt 0], rfl, ?_, rfl, hu, HI.out.step (.inr rfl), rfl⟩
            rw [HU.out, HO.out]
            rfl
        · have hx := HI.out.done hl
          have HX := Lib.hid hx
          have hse : S.toList.isEmpty = false := by rw [HS.out]; exact not_empty hl
          clear hx
          obtain ⟨V, hV⟩ : ∃ V, V = (⟨#[45]⟩ : ByteArray) ++ S := ⟨_, rfl⟩
          have a1 : ∀ w, (Op.stringOp .add ⟨#[45]⟩ S).run Tryd.prog w = .ok (.string V) w := fun w => by rw [run_string_add_sum (P := Tryd.prog) w ⟨#[45]⟩ S (by have : (⟨#[45]⟩ : ByteArray).size = 1 := rfl; omega), hV]
          have HV := Lib.hid hV
          clear hV
          go_wp2_with fail
          go_ret
          refine ⟨ret_str ?_, rfl⟩
          have h1 := HA.out
          have h2 := HN.out
          unfold Lib.itoa
          first
            | (rw [if_pos h2, HV.out, HS.out, ba_app, HX.out, h1]; rfl)
            | (rw [if_neg (by omega), HS.out, HX.out, h1]; congr 3; omega)
end Go.Proofs.YtnmjcfpmljahcaaDoor
