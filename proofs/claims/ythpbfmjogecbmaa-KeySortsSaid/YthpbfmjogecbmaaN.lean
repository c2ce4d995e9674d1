/- The contracts of Hex: the program's and the reference's. -/
import Derived.Test.YthpbfmjogecbmaaC
import Derived.Laws.OwnMore
import Derived.Deep.LoopGhost
import Derived.Deep.RegionHeld3
import Derived.Deep.AppendLies
import Derived.Laws.MakeOwn
import Derived.Laws.BytesString
namespace Go.Proofs.Ythpbfmjogecbmaa
open Go.RowKit

def hexd (x : Nat) : Nat := if x < 10 then 48 + x else 87 + x
def hex2 (x : UInt8) : List UInt8 := [UInt8.ofNat (hexd (x.toNat / 16)), UInt8.ofNat (hexd (x.toNat % 16))]
def hexs (l : List UInt8) : List UInt8 := l.flatMap hex2
theorem hexs_snoc (l : List UInt8) (x : UInt8) : hexs (l ++ [x]) = hexs l ++ hex2 x := by simp [hexs]
theorem hexs_len (l : List UInt8) : (hexs l).length = 2 * l.length := by
  induction l with
  | nil => rfl
  | cons x l ih =>
    show (hex2 x ++ hexs l).length = _
    rw [List.length_append, ih]
    simp [hex2]
    omega
def bcells (l : List UInt8) : List Value := l.map fun x => .int .u8 x.toNat
def OwnB (w : World) (B : Nat) (v : Value) (l : List UInt8) : Prop := w.ownsRow B 5 1 v l.length (bcells l)

theorem bcells_at {l : List UInt8} {j : Nat} {x : UInt8} (h : l[j]? = some x) : (bcells l)[j]? = some (.int .u8 x.toNat) := by simp [bcells, h]
theorem OwnB.own_ge {w : World} {B : Nat} {v : Value} {l : List UInt8} (h : OwnB w B v l) : ∀ k, v.ownBlock = some k → B ≤ k := fun k hk => by
  obtain ⟨_, h | ⟨g, cap, cur, rfl, hg, _⟩⟩ := h
  · obtain ⟨rfl, _⟩ := h; simp [Value.ownBlock] at hk
  · simp [Value.ownBlock] at hk; omega
theorem OwnB.ba {w : World} {B : Nat} {v : Value} {l : List UInt8} (h : OwnB w B v l) : ∃ A c, v = .slice A l.length c ∧ BA w A l := by
  obtain ⟨_, h | ⟨g, cap, cur, rfl, hg, hh, hn, _, hsz, htk⟩⟩ := h
  · obtain ⟨rfl, h0⟩ := h
    have e : l = [] := List.length_eq_zero_iff.1 h0
    subst e
    exact ⟨none, 0, rfl, BA.empty w none⟩
  · refine ⟨_, cap, rfl, fun j x hj => ⟨g, 0, rfl, ?_⟩⟩
    have hb := bcells_at hj
    rw [← htk, List.getElem?_take] at hb
    split at hb
    · rw [Nat.zero_add, cell_of_row w g j cur 5 (0, 0) hh, ← Array.getElem?_toList]; exact hb
    · cases hb
theorem conv_bytes {w : World} {A : Option Addr} {l : List UInt8} (h : BA w A l) (c : Nat) : (convert 22 9 (.slice A l.length c)).run Try.prog w = .ok (.string ⟨l.toArray⟩) w := by
  cases A with
  | none =>
    have e : l = [] := by
      cases l with
      | nil => rfl
      | cons x l => obtain ⟨b, o, e, _⟩ := h 0 x rfl; cases e
    subst e
    rw [List.length_nil, run_convert_bytes_string w 22 9 5 none 0 c Try.underlying22 Try.underlying5 Try.underlying9]
    rfl
  | some a =>
    refine run_convert_bytes_back w 22 9 5 a c l Try.underlying22 Try.underlying5 Try.underlying9 fun j hj => ?_
    obtain ⟨b, o, e, hc⟩ := h j l[j] (List.getElem?_eq_getElem hj)
    simp only [Option.some.injEq] at e
    subst e
    rw [Addr.add_mid]
    exact hc

/-! ### A digit's letter -/
def digs : ByteArray := ⟨#[48, 49, 50, 51, 52, 53, 54, 55, 56, 57, 97, 98, 99, 100, 101, 102]⟩
noncomputable def hexAt (w : World) (v : Value) : Result Value := Sem.run Try.prog (Instr.index 9 (.string digs) v) w
@[go_sem high] theorem run_index_digs (w : World) (v : Value) : Sem.run Try.prog (Instr.index 9 (.string ⟨#[48, 49, 50, 51, 52, 53, 54, 55, 56, 57, 97, 98, 99, 100, 101, 102]⟩) v) w = hexAt w v := rfl
theorem digs_at : ∀ y : Nat, ∀ h : y < digs.size, (digs[y]'h).toNat = hexd y := by decide +kernel
theorem hexAt_of (y : Nat) (h : y < 16) (w : World) : hexAt w (.int .u8 (y : Int)) = .ok (.int .u8 (hexd y)) w := by
  have hs : digs.size = 16 := by decide
  have := run_index_string (P := Try.prog) w 9 digs .u8 (y : Int) Try.underlying9
  unfold hexAt
  rw [this, dif_pos ⟨by omega, by rw [hs]; omega⟩]
  simp only [Int.toNat_natCast]
  rw [digs_at y (by omega)]
theorem hexd_lt (y : Nat) (h : y < 16) : hexd y < 256 := by unfold hexd; split <;> omega
theorem and15 (y : Nat) (h : y < 256) : bits .and .u8 (y : Int) 15 = (y : Int) % 16 := by
  have := u8_and_nat y 15 h (by decide)
  rw [show ((15 : Nat) : Int) = 15 from rfl] at this
  rw [this, show (15 : Nat) = 2 ^ 4 - 1 from rfl, Nat.and_two_pow_sub_one_eq_mod]
  simp

theorem info5 : (Try.prog.info? 5).map (fun i => (i.zero, i.size, i.bytes)) = some (some (.int .u8 0), 1, 1) := by kernel_rfl
set_option maxHeartbeats 1000000 in
theorem hex_c (A : Option Addr) (c : Nat) (l : List UInt8) (w : World) (hA : BA w A l) (hl : l.length ≤ 1000000000000) :
    Calls Try.prog 12 #[.slice A l.length c] w fun e w' => e = .returned (.string ⟨(hexs l).toArray⟩) ∧ Below w.heap.size w w' := by
  obtain ⟨i0, hi, hz0, hz1, hz2⟩ := info_parts info5
  go_enter Try.func12, Try.ntmps12
  go_wp2_with (at_make; refine wpList_make_own _ rfl _ _ 22 rfl w.heap.size 5 i0 (.int .u8 0) 1 Try.underlying22 hi hz0 hz1 .i64 .i64 _ (2 * l.length) rfl rfl (by omega) (by rw [hz2]; omega) (by unfold maxLen; omega) (Nat.le_refl _) ?_)
  intro w0 hown hgrow
  have h0 : Hid (OwnB w0 w.heap.size (.slice (some ⟨w.heap.size, 0, none⟩) 0 (2 * l.length)) []) := hown
  have HB0 : Hid (Below w.heap.size w w0) := (Below.refl _ _).grown hgrow (Nat.le_refl _) (by intro k hk; cases hk)
  clear hown hgrow
  go_wp2
  go_loopg [3, 5, 12] l.length (fun gg text _ i wr => ∃ k : Nat, i = .int .i64 k ∧ k ≤ l.length ∧ l.length - k ≤ gg ∧ OwnB wr w.heap.size text (hexs (l.take k)) ∧ Below w.heap.size w wr)
  case atStart => exact ⟨0, rfl, by omega, by omega, h0.out, HB0.out⟩
  case round =>
    obtain ⟨k, rfl, hk, hgg, hO, hB⟩ := hrel
    have HO := Lib.hid hO
    have HB := Lib.hid hB
    clear hO hB h0 HB0
    by_cases hlt : k < l.length
    · obtain ⟨x, hx⟩ := get_some hlt
      obtain ⟨b, o, rfl, hc⟩ := (hA.below HB.out) k x hx
      have HX := Lib.hid hx
      have hd : decide ((k : Int) < l.length) = true := by simp; omega
      have x256 : x.toNat < 256 := x.toNat_lt
      have ha := and15 x.toNat x256
      have i1 : ∀ w, hexAt w (.int .u8 ((x.toNat : Int) / 16)) = .ok (.int .u8 (hexd (x.toNat / 16))) w := fun w => by
        have := hexAt_of (x.toNat / 16) (by omega) w
        rwa [show ((x.toNat / 16 : Nat) : Int) = (x.toNat : Int) / 16 by omega] at this
      have i2 : ∀ w, hexAt w (.int .u8 ((x.toNat : Int) % 16)) = .ok (.int .u8 (hexd (x.toNat % 16))) w := fun w => by
        have := hexAt_of (x.toNat % 16) (by omega) w
        rwa [show ((x.toNat % 16 : Nat) : Int) = (x.toNat : Int) % 16 by omega] at this
      clear hx hA
      go_wp2_with fail
      have hne : Hid (bcells (hexs (l.take (k + 1))) = bcells (hexs (l.take k)) ++ [.int .u8 (hexd (x.toNat / 16)), .int .u8 (hexd (x.toNat % 16))] ∧ (hexs (l.take (k + 1))).length = (hexs (l.take k)).length + 2) := by
        have e : l.take (k + 1) = l.take k ++ [x] := by rw [List.take_add_one, HX.out]; rfl
        have h1 := hexd_lt (x.toNat / 16) (by omega)
        have h2 := hexd_lt (x.toNat % 16) (by omega)
        constructor
        · rw [e, hexs_snoc]
          simp [bcells, hex2, Nat.mod_eq_of_lt h1, Nat.mod_eq_of_lt h2]
        · rw [e, hexs_snoc, List.length_append]
          rfl
      have hlk : (hexs (l.take k)).length ≤ 2000000000000 := by rw [hexs_len]; have := List.length_take_le k l; omega
      have hsz := HB.out.size
      go_region_held3 (fun _ => True) (trivial) ((refine step_append_lies _ (by rfl) _ _ _ (by rfl) w.heap.size 5 i0 (.int .u8 0) 1 1 Try.underlying22 hi hz0 hz1 hz2 rfl (by omega) u3 (hexs (l.take k)).length (bcells (hexs (l.take k))) (by rfl) ((HO.out.alloc _).drew) ⟨wr.heap.size, 0, none⟩ 2 2 [.int .u8 (hexd (x.toNat / 16)), .int .u8 (hexd (x.toNat % 16))] (by rfl) (by rfl) (World.news_of_block (cs := #[.int .u8 (hexd (x.toNat / 16)), .int .u8 (hexd (x.toNat % 16))]) (t := 5) (fr := (0, 0)) (heap_alloc_new wr _)) (by simp [Value.oneCell']) (by omega) (by unfold maxLen; omega) (by omega) (by simp; omega) (wr.heap.size + 1) (by simp) ?_; intro gg cap w1 hown1 hgrow hat hlt1))
      all_goals
        have HO1 : Hid (OwnB w1 w.heap.size (.slice (some ⟨gg, 0, none⟩) ((hexs (l.take k)).length + 2) cap) (hexs (l.take (k + 1)))) := by
          show OwnB _ _ _ _
          unfold OwnB
          rw [hne.out.1, hne.out.2]
          exact hown1
        have HB1 : Hid (Below w.heap.size w w1) := ((HB.out.alloc hsz _).drew).grown hgrow (by simp; omega) HO.out.own_ge
        clear hown1 hgrow hat hlt1 i1 i2 ha hne
        go_wp2
        go_roundg (l.length - (k + 1))
        case measure => omega
        case rel => exact ⟨k + 1, by go_num, by omega, by omega, HO1.out, HB1.out⟩
    · have hs : l.take k = l := List.take_of_length_le (by omega)
      rw [hs] at HO
      obtain ⟨A', c', rfl, hba⟩ := HO.out.ba
      have hcv := conv_bytes hba c'
      have hd : decide ((k : Int) < l.length) = false := by simp; omega
      clear hba hs HO hA
      go_wp2
      go_ret
      exact ⟨rfl, HB.out⟩
end Go.Proofs.Ythpbfmjogecbmaa
