/- Rows of keys of a call's own; the contract of slices.Clone at keys. -/
import Derived.Test.YthpbfmjogecbmaaE
import Derived.Laws.OwnMore
import Derived.WalkSpells
namespace Go.Proofs.Ythpbfmjogecbmaa
open Go.RowKit

def cellsK (l : List K) : List Value := l.flatMap fun k => (kc k.f).toList
theorem cellsK_len : ∀ l : List K, (cellsK l).length = l.length * 32
  | [] => rfl
  | k :: l => by
    show ((kc k.f).toList ++ cellsK l).length = _
    rw [List.length_append, kc_len, cellsK_len l, List.length_cons]
    omega
theorem cellsK_at : ∀ (l : List K) (j c : Nat) (k : K), l[j]? = some k → c < 32 → (cellsK l)[j * 32 + c]? = some (.int .u8 (k.f c))
  | [], j, c, k, h, _ => by simp at h
  | x :: l, 0, c, k, h, hc => by
    simp at h
    subst h
    show ((kc x.f).toList ++ cellsK l)[0 * 32 + c]? = _
    rw [List.getElem?_append_left (by rw [kc_len]; omega), Nat.zero_mul, Nat.zero_add, Array.getElem?_toList]
    exact kc_at _ _ hc
  | x :: l, j + 1, c, k, h, hc => by
    show ((kc x.f).toList ++ cellsK l)[(j + 1) * 32 + c]? = _
    rw [List.getElem?_append_right (by rw [kc_len]; omega), kc_len, show (j + 1) * 32 + c - 32 = j * 32 + c by omega]
    exact cellsK_at l j c k (by simpa using h) hc
theorem cellsK_append (l m : List K) : cellsK (l ++ m) = cellsK l ++ cellsK m := by simp [cellsK]
theorem cellsK_one (l : List K) : ∀ u ∈ cellsK l, u.oneCell' = true := fun u hu => by
  obtain ⟨k, _, hk⟩ := List.mem_flatMap.1 hu
  exact (Array.all_eq_true_iff_forall_mem.1 (oneCell_key k.f)) u (by simpa using hk)

/-- A row of the call's own (from block B on) holds these keys, and may be written. -/
structure Row (w : World) (B : Nat) (A : Option Addr) (l : List K) : Prop where
  ka : KA w A l
  own : l ≠ [] → ∃ g, A = some ⟨g, 0, none⟩ ∧ B ≤ g ∧ w.there g 0 (l.length * 32)
theorem row_of_own {w : World} {B : Nat} {v : Value} {l : List K} (h : w.ownsRow B 24 32 v l.length (cellsK l)) : ∃ A c, v = .slice A l.length c ∧ Row w B A l ∧ l.length ≤ c := by
  obtain ⟨_, h | ⟨g, cap, cur, rfl, hg, hh, hn, _, hsz, htk⟩⟩ := h
  · obtain ⟨rfl, h0⟩ := h
    have e : l = [] := List.length_eq_zero_iff.1 h0
    subst e
    exact ⟨none, 0, rfl, ⟨KA.empty w none, fun h => absurd rfl h⟩, Nat.le_refl _⟩
  · have hcell : ∀ j u, (cellsK l)[j]? = some u → w.cell? ⟨g, j, none⟩ = some u := fun j u hj => by
      rw [cell_of_row w g j cur 24 (0, 0) hh]
      rw [← htk, List.getElem?_take] at hj
      split at hj
      · rwa [Array.getElem?_toList] at hj
      · cases hj
    refine ⟨_, cap, rfl, ⟨fun j k hj => ⟨g, 0, rfl, fun c v hv => ?_⟩, fun _ => ⟨g, rfl, hg, fun j hj => ⟨?_, frozen_of_row w g _ cur 24 hh⟩⟩⟩, hn⟩
    · have hc : c < 32 := by
        rcases Nat.lt_or_ge c 32 with h | h
        · exact h
        · rw [List.getElem?_eq_none (by rw [kc_len]; exact h)] at hv; cases hv
      rw [Array.getElem?_toList, kc_at _ _ hc] at hv
      rw [hcell _ _ (show (cellsK l)[0 + j * 32 + c]? = some v by rw [Nat.zero_add, cellsK_at l j c k hj hc]; exact hv)]
    · rw [hcell (0 + j) _ (List.getElem?_eq_getElem (by rw [cellsK_len]; omega))]
      rfl
theorem KA.cells {w : World} {a : Addr} {l : List K} (h : KA w (some a) l) : ∀ j u, (cellsK l)[j]? = some u → w.cell? (a.add j) = some u := fun j u hj => by
  have hlt : j < l.length * 32 := by rw [← cellsK_len]; exact (List.getElem?_eq_some_iff.1 hj).1
  obtain ⟨k, hk⟩ := get_some (show j / 32 < l.length by omega)
  obtain ⟨b, o, e, hc⟩ := h _ k hk
  simp only [Option.some.injEq] at e
  subst e
  have h1 := hc.at_ (j := j % 32) (by omega)
  have h2 := cellsK_at l (j / 32) (j % 32) k hk (by omega)
  rw [show j / 32 * 32 + j % 32 = j by omega, hj] at h2
  rw [Addr.add_mid, h2, ← h1, show o + j / 32 * 32 + j % 32 = o + j by omega]

theorem info24 : (Try.prog.info? 24).map (fun i => (i.zero, i.size, i.bytes)) = some (some (.agg (kc kz)), 32, 32) := by kernel_rfl

set_option maxHeartbeats 1000000 in
theorem clone_c (A : Option Addr) (c : Nat) (l : List K) (w : World) (hA : KA w A l) (hl : l.length ≤ 4398046511103) :
    Calls Try.prog 19 #[.slice A l.length c] w fun e w' => ∃ A' c', e = .returned (.slice A' l.length c') ∧ Row w' w.heap.size A' l ∧ l.length ≤ c' ∧ Below w.heap.size w w' := by
  obtain ⟨i0, hi, hz0, hz1, hz2⟩ := info_parts info24
  cases A with
  | none =>
    have hq := fun (w : World) (n c n' c' : Nat) => Lib.run_eql_slice_nil (P := Try.prog) w 38 24 none n c n' c' Try.underlying38
    have e : l = [] := by
      cases l with
      | nil => rfl
      | cons x l => obtain ⟨b, o, e, _⟩ := hA 0 x rfl; cases e
    subst e
    go_enter Try.func19, Try.ntmps19
    go_wp2
    go_ret
    exact ⟨none, 0, rfl, ⟨KA.empty w none, fun h => absurd rfl h⟩, Nat.le_refl _, Below.refl _ _⟩
  | some a =>
    have hq := fun (w : World) (n c n' c' : Nat) => Lib.run_eql_slice_nil (P := Try.prog) w 38 24 (some a) n c n' c' Try.underlying38
    have HA := Lib.hid hA
    clear hA
    go_enter Try.func19, Try.ntmps19
    go_wp2_with (at_builtin; refine wpList_append_own _ rfl _ _ 38 rfl w.heap.size 24 i0 (.agg (kc kz)) 32 32 Try.underlying38 hi hz0 hz1 hz2 (kc_size kz) (by decide) _ _ _ rfl (World.ownsRow_made w #[] 0 (Nat.le_refl _) (Nat.zero_le _) (by simp)) a l.length c (cellsK l) rfl ?qc1 ?qc2 ?qc3 ?qc4 ?qc5 ?qc6 ?_)
    case qc1 => exact cellsK_len l
    case qc2 => exact ((HA.out.below (one_below w _))).cells
    case qc3 => exact cellsK_one l
    case qc4 => unfold maxLen; omega
    case qc5 => omega
    case qc6 => simp
    intro v' w1 hown hgrow hnil
    obtain ⟨A', c', rfl, hR, hcap⟩ := row_of_own hown
    have HR := Lib.hid hR
    have HC := Lib.hid hcap
    have HG : Hid (Below w.heap.size w w1) := ((Below.refl _ w).alloc (Nat.le_refl _) _).grown hgrow (by simp) (by intro k hk; simp [Value.ownBlock] at hk; omega)
    clear hown hgrow hnil hR hcap
    go_wp2
    go_ret
    exact ⟨A', c', rfl, HR.out, HC.out, HG.out⟩
end Go.Proofs.Ythpbfmjogecbmaa
