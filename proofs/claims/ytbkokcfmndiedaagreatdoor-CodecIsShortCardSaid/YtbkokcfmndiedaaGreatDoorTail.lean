/- A region that draws its order and ends in a forced tail: before the tail every operation yields one value in every world of a class C (calls leave a world of C); the tail is then walked from whatever world of C. (The laws on order and the class are the guide's: Orders, Quiet, StillTail; here they are joined.) -/
import Derived.StillTail
import Derived.Deep.Quiet
namespace Go.Proofs.YtbkokcfmndiedaaGreatDoor
open Go
variable {P : Program} {ops : Array Oper} {md : Region.Mode} {C : World → Prop}

/-- Whatever order is picked, the next f operations lie below n and are quiet; then K. -/
def Heads (P : Program) (md : Region.Mode) (ops : Array Oper) (C : World → Prop) (n : Nat) (K : Array Bool → Act → Prop) : Nat → Array Bool → Act → Prop
  | 0, done, a => K done a
  | f + 1, done, a => Region.ready md ops done ≠ [] ∧ ∀ i ∈ Region.ready md ops done, i < n ∧ qOp P ops C i (Heads P md ops C n K f (done.setIfInBounds i true)) a

theorem Heads.any {n g : Nat} {K : Array Bool → Act → Prop} {Q : Exit → Act → World → Prop} (hK : ∀ done a w, C w → K done a → wpAny P md ops Q g done a w) (f : Nat) :
    ∀ done a w, C w → Heads P md ops C n K f done a → wpAny P md ops Q (f + g) done a w := by
  induction f with
  | zero => intro done a w hw h; simpa using hK done a w hw h
  | succ f ih =>
    intro done a w hw h
    rw [show f + 1 + g = (f + g) + 1 from by omega]
    exact ⟨fun e => (h.1 e).elim, fun i hi => wpOp_of_qOp hw (fun a' w' hw' => ih _ a' w' hw') (h.2 i hi).2⟩

/-- What the order has to meet for a head operation to be taken first. -/
structure Fits (md : Region.Mode) (ops : Array Oper) (n : Nat) : Prop where
  sel : ∀ (j : Nat) (o : Oper) cs b, ops[j]? = some o → o.op ≠ .select cs b
  sink : Region.sinkB md ops n = true
  chain : Region.chainB md ops n = true
  lt : n < ops.size

theorem Heads.take {n i : Nat} {oi : Oper} {v : Value} {K : Array Bool → Act → Prop} (fits : Fits md ops n) (hi : ops[i]? = some oi) (hin : i < n)
    (hend : ∀ done a, K done a → ∀ j ∈ Region.ready md ops done, n ≤ j) (f : Nat) :
    ∀ done a, HeadInv md ops n done →
      (∀ j oj, ops[j]? = some oj → j ≠ i → done.getD j true = false → (∀ e ∈ oj.after, Region.binds md e = true → e.on ≠ i) → oi.apart ops oj = true) →
      i ∈ Region.ready md ops done → YieldsIn P ops C oi v a → Heads P md ops C n K f (done.setIfInBounds i true) (a.put oi.dst v) → Heads P md ops C n K (f + 1) done a := by
  have below : ∀ done, HeadInv md ops n done → i ∈ Region.ready md ops done → ∀ j ∈ Region.ready md ops done, j < n := fun done inv hr j hj =>
    Nat.lt_of_not_le fun h => tail_waits fits.sink fits.chain fits.lt inv _ i rfl hin (mem_ready.1 hr).1 j h hj
  have some_ready : ∀ done, i ∈ Region.ready md ops done → Region.ready md ops done ≠ [] := fun done hr e => by rw [e] at hr; cases hr
  induction f with
  | zero =>
    intro done a inv _ hr hy H
    refine ⟨some_ready done hr, fun j hj => ⟨below done inv hr j hj, ?_⟩⟩
    rcases Nat.decEq j i with hne | rfl
    · exact absurd (hend _ _ H j (ready_mono hj hne)) (Nat.not_le.2 (below done inv hr j hj))
    · exact hy.qOp hi H
  | succ f ih =>
    intro done a inv hfree hr hy H
    refine ⟨some_ready done hr, fun j hj => ⟨below done inv hr j hj, ?_⟩⟩
    rcases Nat.decEq j i with hne | rfl
    · obtain ⟨hjun, oj, hoj, hall⟩ := mem_ready.1 hj
      have hno : ∀ e ∈ oj.after, Region.binds md e = true → e.on ≠ i := fun e he hb h => by
        have := hall e he hb
        rw [h, getD_both (mem_ready.1 hr).1] at this
        cases this
      have step := qOp_put hoj (hfree j oj hoj hne hjun hno) (fun cs b => fits.sel i oi cs b hi) (fun cs b => fits.sel j oj cs b hoj) hy (H.2 j (ready_mono hj hne)).2
      refine qOp_mono (fun a' ha' => ih _ a' (inv.set hj (below done inv hr j hj)) (fun m om hm hmi hun hw => hfree m om hm hmi ?_ hw) (ready_mono hr (Ne.symm hne)) ha'.1 ?_) step
      · rcases Nat.decEq j m with h | rfl
        · rwa [getD_set_ne true h] at hun
        · exact hjun
      · rw [Array.setIfInBounds_comm _ _ hne]
        exact ha'.2
    · exact hy.qOp hi H

theorem Heads.walk {n g : Nat} {R : Act → Prop} (fits : Fits md ops n) : ∀ (l : List Oper) (m : Nat) (done : Array Bool) (a : Act),
    (∀ j, j < l.length → l[j]? = ops[m + j]?) → m + l.length = n → HeadInv md ops n done → Region.lexHead md ops g l.length m done = true →
    wpQuiet P ops C R l a → Heads P md ops C n (fun done' a' => Region.seqB md ops g n done' = true ∧ R a') l.length done a
  | [], m, done, a, _, hm, _, hB, h => by
    obtain rfl : m = n := by simpa using hm
    exact ⟨by simpa [Region.lexHead] using hB, h⟩
  | o :: l, m, done, a, hl, hm, inv, hB, h => by
    have h0 : ops[m]? = some o := by simpa using (hl 0 (by simp)).symm
    have hmn : m < n := by simp only [List.length_cons] at hm; omega
    simp only [List.length_cons, Region.lexHead, Bool.and_eq_true] at hB
    have hr : m ∈ Region.ready md ops done := by simpa using hB.1.1
    have hq : qOp P ops C m (wpQuiet P ops C R l) a := by unfold qOp; simp only [h0]; exact h
    obtain ⟨v, hy, hK⟩ := yieldsIn_of_qOp h0 hq
    refine Heads.take fits h0 hmn (fun _ _ hL => seqB_ready hL.1) _ done a inv (Region.free_spec h0 hB.1.2) hr hy ?_
    refine Heads.walk fits l (m + 1) _ _ (fun j hj => ?_) (by simp only [List.length_cons] at hm; omega) (inv.set hr hmn) hB.2 hK
    have := hl (j + 1) (by simp; omega)
    simpa [Nat.add_assoc, Nat.add_comm 1 j] using this

/-- The region: n operations that are quiet in C, then the tail, in the text's order, from whatever world of C. -/
theorem wp_region_quiet_tail {id : Nat} {Q : Exit → Act → World → Prop} {a : Act} {w : World} {l : List Oper} (n : Nat) (hm : P.follows .mixedOrders = true) (hB : Region.lexTailB .any l.toArray n = true)
    (hC : C { w with drawn := w.drawn + 1 })
    (h : wpQuiet P l.toArray C (fun a' => ∀ w', C w' → wpList P l.toArray Q (l.drop n) a' w') (l.take n) a) : (Code.region id l.toArray true).wp P Q a w := by
  simp only [Region.lexTailB, Bool.and_eq_true, decide_eq_true_eq] at hB
  obtain ⟨⟨⟨⟨hsel, hn⟩, hs⟩, hc⟩, hlex⟩ := hB
  have hnl : n < l.length := by simpa using hn
  have htl : (l.take n).length = n := by simp; omega
  have hdl : (l.drop n).length = l.toArray.size - n := by simp
  have inv0 : HeadInv .any l.toArray n (Array.replicate l.toArray.size false) :=
    ⟨by simp, fun j _ _ hl => (by rw [getD_replicate_false] at hl; cases hl), fun t _ ht => getD_in (by simpa using ht) (getD_replicate_false _ _)⟩
  have H := Heads.walk (g := l.toArray.size - n) ⟨Region.noSelect_spec hsel, hs, hc, hn⟩ (l.take n) 0 _ a (fun j hj => by rw [htl] at hj; simp [hj]) (by simpa using htl) inv0 (by rw [htl]; exact hlex) h
  refine wp_region_any hm ?_
  have := Heads.any (Q := Q) (g := l.toArray.size - n) (fun done a' w' hw' hL => by
    have := wpAny_of_seq (md := .any) (Q' := Q) (l.drop n) n done a' w' (fun j => by simp [List.getElem?_drop]) (by rw [hdl]; exact hL.1) (hL.2 w' hw')
    rwa [hdl] at this) _ _ _ _ hC H
  rw [htl, show n + (l.toArray.size - n) = l.toArray.size from by omega] at this
  exact this

end Go.Proofs.YtbkokcfmndiedaaGreatDoor
