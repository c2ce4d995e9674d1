/- What Get finds, as a plain fact. -/
import Derived.Test.YtpnpdllkcglpnaaDoorOg
namespace Go.Proofs.YtpnpdllkcglpnaaDoor
open Go.RowKit

theorem get_is {l : List Ent} {k : List UInt8} (hs : Sep 0 l) {T : Tv} (hT : At l k 0 T) : getT (T.fin k 0).tr k = l.find? fun e => decide (e.k = k) := by
  obtain ⟨i1, i2, _⟩ := At.fin hs T 0 hT
  have hf := i1.few hs i2
  have hin : ∀ x ∈ l, x.k = k → x ∈ dK l k (T.dep k 0) := fun x hx he => dK_mem.2 ⟨hx, fun j _ => by rw [he]⟩
  match hm : dK l k (T.dep k 0), hf with
  | [], _ =>
    rw [i1.nil hm]
    refine (List.find?_eq_none.2 fun x hx => ?_).symm
    intro h
    have := hin x hx (of_decide_eq_true h)
    rw [hm] at this
    simp at this
  | [e], _ =>
    rw [i1.one hm]
    show (if e.k = k then some e else none) = _
    by_cases he : e.k = k
    · rw [if_pos he]
      have h1 : e ∈ dK l k (T.dep k 0) := by rw [hm]; simp
      have hel := (dK_mem.1 h1).1
      cases hq : l.find? fun e => decide (e.k = k) with
      | none =>
        have := List.find?_eq_none.1 hq e hel
        simp [he] at this
      | some x =>
        have hx1 := List.find?_some hq
        have hx2 := List.mem_of_find?_eq_some hq
        have := hin x hx2 (of_decide_eq_true hx1)
        rw [hm, List.mem_singleton] at this
        rw [this]
    · rw [if_neg he]
      refine (List.find?_eq_none.2 fun x hx => ?_).symm
      intro h
      have h2 := of_decide_eq_true h
      have := hin x hx h2
      rw [hm, List.mem_singleton] at this
      rw [this] at h2
      exact he h2
theorem getE_map (es : List En) (k : List UInt8) : (getE es k).map En.ent = (es.map En.ent).find? fun e => decide (e.k = k) := by
  unfold getE
  rw [List.find?_map]
  rfl
theorem get_isE {O : List En} {k : List UInt8} {T : Tv} (h : IsMap (O.map En.ent) T) : getT (T.fin k 0).tr k = (getE O k).map En.ent := by
  rw [get_is h.sep (h.at k), getE_map]
theorem getE_mem {es : List En} {k : List UInt8} {e : En} (h : getE es k = some e) : e ∈ es ∧ e.k = k := ⟨List.mem_of_find?_eq_some h, by have := List.find?_some h; simpa using this⟩
end Go.Proofs.YtpnpdllkcglpnaaDoor
