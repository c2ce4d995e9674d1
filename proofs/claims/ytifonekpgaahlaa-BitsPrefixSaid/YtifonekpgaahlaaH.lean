/- A key among the arguments: opened and shut. -/
import Derived.Test.YtifonekpgaahlaaG
import Derived.ProofKit
import Derived.OpenShut
namespace Go.Proofs.Ytifonekpgaahlaa
open Go.ChangeShapes Go.WideShapes Go.ChangeAt Go.RowKit
variable {H : Type} {enc : TypeId × Value → H}

/-- A key as data. -/
def kd (k : Nat → Nat) : DataW H := .agg ((List.range 32).map fun j => .lit (.int .u8 (k j)))

theorem cells5 : Try.prog.cellsOf 5 = 1 := by kernel_rfl
theorem cells23 : Try.prog.cellsOf 23 = 32 := by kernel_rfl

theorem open_key {w W : World} {base b0 : Nat} {sp : Nat → Bool} {held : Bool} {v : Value} {d : DataW H} {ps : List MemPlace}
    (hok : Value.okWide Try.prog W .any b0 23 v) (h : DataW.Trod enc Try.prog w base sp held 23 v d ps) :
    ∃ k, Byt k ∧ v = .agg (kc k) ∧ d = kd k ∧ ps = [] := by
  obtain ⟨cs, rfl, hsz, _⟩ : ∃ cs, v = .agg cs ∧ cs.size = Try.prog.cellsOf 23 ∧ Row.okWide Try.prog W .any b0 23 cs := by
    simpa [Value.okWide, Try.underlying23] using hok
  rw [cells23] at hsz
  obtain ⟨fuel, hf⟩ := h
  obtain ⟨xs, m, rfl, hx, _, hlen, hat⟩ := DataW.trod_array Try.underlying23 hf
  rw [cells5] at hat
  have hcl : cs.toList.length = 32 := by rw [Array.length_toList, hsz]
  have each : ∀ i, i < 32 → ∃ n : Nat, n < 256 ∧ cs.toList[i]? = some (.int .u8 n) ∧ xs[i]? = some (.lit (.int .u8 n), []) := fun i hi => by
    have h1 := hat i hi
    rw [Nat.mul_one] at h1
    have hg : cs.toList[i]? = some cs.toList[i] := List.getElem?_eq_getElem (by omega)
    have hd : (cs.toList.drop i).take 1 = [cs.toList[i]] := by
      rw [List.drop_eq_getElem_cons (by omega)]; rfl
    have hxi : ∃ y, xs[i]? = some y := ⟨_, List.getElem?_eq_getElem (by omega)⟩
    obtain ⟨y, hy⟩ := hxi
    rw [show (Value.agg cs).cells.toList = cs.toList from rfl, hd, hy] at h1
    obtain ⟨n, e, rfl, wf⟩ := DataW.trod_int Try.underlying5 h1
    have hb := bounds_u8 wf
    refine ⟨n.toNat, by omega, ?_, ?_⟩
    · rw [hg]
      have : cs.toList[i] = .int .u8 n := by simpa using e
      rw [this, Int.toNat_of_nonneg hb.1]
    · rw [hy, Int.toNat_of_nonneg hb.1]
  obtain ⟨k, hk⟩ : ∃ k : Nat → Nat, ∀ i, k i < 256 ∧ (i < 32 → cs.toList[i]? = some (.int .u8 (k i)) ∧ xs[i]? = some (.lit (.int .u8 (k i)), [])) := by
    refine ⟨fun i => if h : i < 32 then Classical.choose (each i h) else 0, fun i => ?_⟩
    by_cases h : i < 32
    · simp only [dif_pos h]
      have := Classical.choose_spec (each i h)
      exact ⟨this.1, fun _ => this.2⟩
    · simp only [dif_neg h]
      exact ⟨by decide, fun hh => absurd hh h⟩
  have e1 : cs = kc k := by
    apply Array.ext_getElem?
    intro i
    rcases Nat.lt_or_ge i 32 with h | h
    · rw [kc_at k i h, ← Array.getElem?_toList, ((hk i).2 h).1]
    · rw [Array.getElem?_eq_none (by omega), Array.getElem?_eq_none (by rw [kc_size]; exact h)]
  have e2 : xs = (List.range 32).map fun j => (DataW.lit (.int .u8 (k j)), []) := by
    apply List.ext_getElem?
    intro i
    rcases Nat.lt_or_ge i 32 with h | h
    · rw [((hk i).2 h).2, List.getElem?_map, List.getElem?_range h]; rfl
    · rw [List.getElem?_eq_none (by omega), List.getElem?_eq_none (by simp; omega)]
  subst e1 e2
  simp only [Prod.mk.injEq] at hx
  refine ⟨k, fun i => (hk i).1, rfl, ?_, ?_⟩
  · rw [hx.1]
    unfold kd
    rw [List.map_map]
    rfl
  · rw [hx.2]
    simp [List.flatMap_map]

theorem mapM_all {α β : Type} {f : α → Option β} {g : α → β} : ∀ l : List α, (∀ a ∈ l, f a = some (g a)) → l.mapM f = some (l.map g)
  | [], _ => rfl
  | a :: l, h => by
    rw [List.mapM_cons, h a (by simp), mapM_all l fun b hb => h b (by simp [hb])]
    rfl
theorem shut_key {w : World} {base : Nat} {sp : Nat → Bool} {held : Bool} {k : Nat → Nat} (hk : Byt k) : DataW.Trod enc Try.prog w base sp held 23 (.agg (kc k)) (kd k) [] := by
  refine ⟨2, ?_⟩
  have each : ∀ i, i < 32 → DataW.trod enc Try.prog w base sp held 1 5 ((((Value.agg (kc k)).cells.toList).drop (i * Try.prog.cellsOf 5)).take (Try.prog.cellsOf 5)) = some (.lit (.int .u8 (k i)), []) := fun i hi => by
    show DataW.trod enc Try.prog w base sp held 1 5 ((((kc k).toList).drop (i * Try.prog.cellsOf 5)).take (Try.prog.cellsOf 5)) = _
    have h1 := kc_at k i hi
    rw [← Array.getElem?_toList] at h1
    obtain ⟨hl, he⟩ := List.getElem?_eq_some_iff.1 h1
    rw [cells5, Nat.mul_one, List.drop_eq_getElem_cons hl, he]
    have := hk i
    simp [DataW.trod, Try.underlying5, Lit.wf, IntKind.min, IntKind.max, IntKind.signed, IntKind.bits]
    omega
  unfold DataW.trod
  rw [Try.underlying23]
  have hl : ((Value.agg (kc k)).cells.toList).length = 32 := by
    show (kc k).toList.length = 32
    rw [Array.length_toList, kc_size]
  show (if ((Value.agg (kc k)).cells.toList).length = Try.prog.cellsOf 23 then _ else _) = _
  rw [if_pos (by rw [hl, cells23])]
  rw [mapM_all (g := fun i => (DataW.lit (.int .u8 (k i)), [])) (List.range 32) fun i hi => each i (by simpa using hi)]
  simp [kd, List.flatMap_map]

theorem own : ownKnob Try.prog.godebug = none := by kernel_rfl

end Go.Proofs.Ytifonekpgaahlaa
