import Derived.StillTail
import Derived.Deep.Quiet
import Derived.Test.YtmfbhohjpkmllaaGreatDoorRows
import Derived.Below
import Derived.BigQuiet
import Derived.Deep.AppendLies
import Derived.Deep.AppendSrc
import Derived.Deep.LoopGhost
import Derived.Deep.MidRow
import Derived.Deep.QuietTactic
import Derived.Deep.RegionHeld3
import Derived.Deep.RegionLaw
import Derived.Deep.RegionLawGrows
import Derived.Deep.WholeRow
import Derived.IntWalk
import Derived.Laws.AppendOwn
import Derived.Laws.BitsAllLaws
import Derived.Laws.CopyOwn
import Derived.Laws.MakeOwn
import Derived.Lib.AppendZeros
import Derived.Lib.Hide
import Derived.Lib.SlBytesConst
import Derived.Outline
import Derived.StillTailTactics
import Derived.WalkKit
import Derived.WalkLawsBesides
import Derived.WalkSpells
import Derived.Maps.AppendAt
namespace Go.Proofs.YtmfbhohjpkmllaaGreatDoor
set_option linter.unusedSimpArgs false
set_option linter.unusedVariables false
set_option maxHeartbeats 1000000
section
open Go
variable {P : Program} {ops : Array Oper} {md : Region.Mode} {C : World → Prop}
def Heads (P : Program) (md : Region.Mode) (ops : Array Oper) (C : World → Prop) (n : Nat) (K : Array Bool → Act → Prop) : Nat → Array Bool → Act → Prop
 | 0, done, a => K done a
 | f + 1, done, a => Region.ready md ops done ≠ [] ∧ ∀ i ∈ Region.ready md ops done, i < n ∧ qOp P ops C i (Heads P md ops C n K f (done.setIfInBounds i true)) a
theorem Heads.any {n g : Nat} {K : Array Bool → Act → Prop} {Q : Exit → Act → World → Prop} (hK : ∀ done a w, C w → K done a → wpAny P md ops Q g done a w) (f : Nat) :
  ∀ done a w, C w → Heads P md ops C n K f done a → wpAny P md ops Q (f + g) done a w := by
 induction f with
 | zero => intro done a w hw h; simpa using hK done a w hw h
 | succ f ih =>
  intro done a w hw h
  rw [show f + 1 + g = (f + g) + 1 from by omega]
  exact ⟨fun e => (h.1 e).elim, fun i hi => wpOp_of_qOp hw (fun a' w' hw' => ih _ a' w' hw') (h.2 i hi).2⟩
structure Fits (md : Region.Mode) (ops : Array Oper) (n : Nat) : Prop where
 sel : ∀ (j : Nat) (o : Oper) cs b, ops[j]? = some o → o.op ≠ .select cs b
 sink : Region.sinkB md ops n = true
 chain : Region.chainB md ops n = true
 lt : n < ops.size
theorem Heads.take {n i : Nat} {oi : Oper} {v : Value} {K : Array Bool → Act → Prop} (fits : Fits md ops n) (hi : ops[i]? = some oi) (hin : i < n)
  (hend : ∀ done a, K done a → ∀ j ∈ Region.ready md ops done, n ≤ j) (f : Nat) :
  ∀ done a, HeadInv md ops n done →
   (∀ j oj, ops[j]? = some oj → j ≠ i → done.getD j true = false → (∀ e ∈ oj.after, Region.binds md e = true → e.on ≠ i) → oi.apart ops oj = true) →
   i ∈ Region.ready md ops done → YieldsIn P ops C oi v a → Heads P md ops C n K f (done.setIfInBounds i true) (a.put oi.dst v) → Heads P md ops C n K (f + 1) done a := by
 have below : ∀ done, HeadInv md ops n done → i ∈ Region.ready md ops done → ∀ j ∈ Region.ready md ops done, j < n := fun done inv hr j hj =>
  Nat.lt_of_not_le fun h => tail_waits fits.sink fits.chain fits.lt inv _ i rfl hin (mem_ready.1 hr).1 j h hj
 have some_ready : ∀ done, i ∈ Region.ready md ops done → Region.ready md ops done ≠ [] := fun done hr e => by rw [e] at hr; cases hr
 induction f with
 | zero =>
  intro done a inv _ hr hy H
  refine ⟨some_ready done hr, fun j hj => ⟨below done inv hr j hj, ?_⟩⟩
  rcases Nat.decEq j i with hne | rfl
  ·exact absurd (hend _ _ H j (ready_mono hj hne)) (Nat.not_le.2 (below done inv hr j hj))
  ·exact hy.qOp hi H
 | succ f ih =>
  intro done a inv hfree hr hy H
  refine ⟨some_ready done hr, fun j hj => ⟨below done inv hr j hj, ?_⟩⟩
  rcases Nat.decEq j i with hne | rfl
  ·obtain ⟨hjun, oj, hoj, hall⟩ := mem_ready.1 hj
   have hno : ∀ e ∈ oj.after, Region.binds md e = true → e.on ≠ i := fun e he hb h => by
    have := hall e he hb
    rw [h, getD_both (mem_ready.1 hr).1] at this
    cases this
   have step := qOp_put hoj (hfree j oj hoj hne hjun hno) (fun cs b => fits.sel i oi cs b hi) (fun cs b => fits.sel j oj cs b hoj) hy (H.2 j (ready_mono hj hne)).2
   refine qOp_mono (fun a' ha' => ih _ a' (inv.set hj (below done inv hr j hj)) (fun m om hm hmi hun hw => hfree m om hm hmi ?_ hw) (ready_mono hr (Ne.symm hne)) ha'.1 ?_) step
   ·rcases Nat.decEq j m with h | rfl
    ·rwa [getD_set_ne true h] at hun
    ·exact hjun
   ·rw [Array.setIfInBounds_comm _ _ hne]
    exact ha'.2
  ·exact hy.qOp hi H
theorem Heads.walk {n g : Nat} {R : Act → Prop} (fits : Fits md ops n) : ∀ (l : List Oper) (m : Nat) (done : Array Bool) (a : Act),
  (∀ j, j < l.length → l[j]? = ops[m + j]?) → m + l.length = n → HeadInv md ops n done → Region.lexHead md ops g l.length m done = true →
  wpQuiet P ops C R l a → Heads P md ops C n (fun done' a' => Region.seqB md ops g n done' = true ∧ R a') l.length done a
 | [], m, done, a, _, hm, _, hB, h => by
  obtain rfl : m = n := by simpa using hm
  exact ⟨by simpa [Region.lexHead] using hB, h⟩
 | o :: l, m, done, a, hl, hm, inv, hB, h => by
  have h0 : ops[m]? = some o := by simpa using (hl 0 (by simp)).symm
  have hmn : m < n := by simp only [List.length_cons] at hm; omega
  simp only [List.length_cons, Region.lexHead, Bool.and_eq_true] at hB
  have hr : m ∈ Region.ready md ops done := by simpa using hB.1.1
  have hq : qOp P ops C m (wpQuiet P ops C R l) a := by unfold qOp; simp only [h0]; exact h
  obtain ⟨v, hy, hK⟩ := yieldsIn_of_qOp h0 hq
  refine Heads.take fits h0 hmn (fun _ _ hL => seqB_ready hL.1) _ done a inv (Region.free_spec h0 hB.1.2) hr hy ?_
  refine Heads.walk fits l (m + 1) _ _ (fun j hj => ?_) (by simp only [List.length_cons] at hm; omega) (inv.set hr hmn) hB.2 hK
  have := hl (j + 1) (by simp; omega)
  simpa [Nat.add_assoc, Nat.add_comm 1 j] using this
theorem wp_region_quiet_tail {id : Nat} {Q : Exit → Act → World → Prop} {a : Act} {w : World} {l : List Oper} (n : Nat) (hm : P.follows .mixedOrders = true) (hB : Region.lexTailB .any l.toArray n = true)
  (hC : C { w with drawn := w.drawn + 1 })
  (h : wpQuiet P l.toArray C (fun a' => ∀ w', C w' → wpList P l.toArray Q (l.drop n) a' w') (l.take n) a) : (Code.region id l.toArray true).wp P Q a w := by
 simp only [Region.lexTailB, Bool.and_eq_true, decide_eq_true_eq] at hB
 obtain ⟨⟨⟨⟨hsel, hn⟩, hs⟩, hc⟩, hlex⟩ := hB
 have hnl : n < l.length := by simpa using hn
 have htl : (l.take n).length = n := by simp; omega
 have hdl : (l.drop n).length = l.toArray.size - n := by simp
 have inv0 : HeadInv .any l.toArray n (Array.replicate l.toArray.size false) :=
  ⟨by simp, fun j _ _ hl => (by rw [getD_replicate_false] at hl; cases hl), fun t _ ht => getD_in (by simpa using ht) (getD_replicate_false _ _)⟩
 have H := Heads.walk (g := l.toArray.size - n) ⟨Region.noSelect_spec hsel, hs, hc, hn⟩ (l.take n) 0 _ a (fun j hj => by rw [htl] at hj; simp [hj]) (by simpa using htl) inv0 (by rw [htl]; exact hlex) h
 refine wp_region_any hm ?_
 have := Heads.any (Q := Q) (g := l.toArray.size - n) (fun done a' w' hw' hL => by
  have := wpAny_of_seq (md := .any) (Q' := Q) (l.drop n) n done a' w' (fun j => by simp [List.getElem?_drop]) (by rw [hdl]; exact hL.1) (hL.2 w' hw')
  rwa [hdl] at this) _ _ _ _ hC H
 rw [htl, show n + (l.toArray.size - n) = l.toArray.size from by omega] at this
 exact this
end
section
open Go.RowKit
theorem wrap_u32 (m : Int) : IntKind.u32.wrap m = m % 4294967296 := by
 unfold IntKind.wrap
 rw [show (2 : Int) ^ IntKind.u32.bits = 4294967296 from rfl, show IntKind.u32.signed = false from rfl]
 simp
theorem not_nat (n : Nat) (h : n < 4294967296) : 4294967295 ^^^ n = 4294967295 - n := by
 have e : (BitVec.allOnes 32 ^^^ BitVec.ofNat 32 n).toNat = (~~~ (BitVec.ofNat 32 n)).toNat := by rw [BitVec.xor_comm, BitVec.xor_allOnes]
 rw [BitVec.toNat_xor, BitVec.toNat_not, BitVec.toNat_ofNat, BitVec.toNat_allOnes, Nat.mod_eq_of_lt h] at e
 simpa using e
theorem wrap_u8 (m : Int) : IntKind.u8.wrap m = m % 256 := by
 unfold IntKind.wrap
 rw [show (2 : Int) ^ IntKind.u8.bits = 256 from rfl, show IntKind.u8.signed = false from rfl]
 simp
theorem lt_of_heap {w : World} {b : Nat} {o : Obj} (h : w.heap[b]? = some o) : b < w.heap.size := by
 rcases Nat.lt_or_ge b w.heap.size with h' | h'
 ·exact h'
 ·rw [Array.getElem?_eq_none h'] at h; cases h
theorem lt_of_cell {w : World} {a : Addr} {v : Value} (h : w.cell? a = some v) : a.block < w.heap.size := by
 rcases Nat.lt_or_ge a.block w.heap.size with h' | h'
 ·exact h'
 ·simp [World.cell?, Array.getElem?_eq_none h'] at h
theorem cell_of_cells {w : World} {b : Nat} {cs : Array Value} {T : TypeId} {fr : Nat × Nat} (hb : w.heap[b]? = some (.cells cs T fr)) (j : Nat) : w.cell? ⟨b, j, none⟩ = cs[j]? := by
 simp [World.cell?, hb]
theorem below_drewN {B : Nat} {a w : World} (h : Below B a w) (n : Nat) : Below B a (w.drewN n) := ⟨h.os, h.tape, h.output, h.size, h.block⟩
def BA (w : World) (A : Option Addr) (l : List UInt8) : Prop := ∀ j x, l[j]? = some x → ∃ b o, A = some ⟨b, o, none⟩ ∧ w.cell? ⟨b, o + j, none⟩ = some (.int .u8 x.toNat)
theorem BA.below {w w' : World} {A : Option Addr} {l : List UInt8} (h : BA w A l) (hb : Below w.heap.size w w') : BA w' A l := fun j x hj => by
 obtain ⟨b, o, rfl, h1⟩ := h j x hj
 exact ⟨b, o, rfl, by rw [hb.cell (lt_of_cell h1)]; exact h1⟩
def fnOf (l : List UInt8) (t : Nat) : UInt8 := l.getD t 0
theorem fnOf_at {l : List UInt8} {t : Nat} (h : t < l.length) : l[t]? = some (fnOf l t) := by simp [fnOf, List.getD, List.getElem?_eq_getElem h]
def bv (x : UInt8) : Value := .int .u8 (x.toNat : Int)
theorem bv_one (x : UInt8) : (bv x).oneCell' = true := rfl
theorem info5 : (Tryz.prog.info? 5).map (fun i => (i.zero, i.size, i.bytes)) = some (some (.int .u8 0), 1, 1) := by kernel_rfl
def OwnB (w : World) (B : Nat) (v : Value) (l : List UInt8) : Prop := w.ownsRow B 5 1 v l.length (l.map bv)
theorem OwnB.below {w w' : World} {B : Nat} {v : Value} {l : List UInt8} (h : OwnB w B v l) (hb : Below w.heap.size w w') : OwnB w' B v l := by
 obtain ⟨h0, h | ⟨g, cap, cur, rfl, hg, hh, hr⟩⟩ := h
 ·exact ⟨h0, .inl h⟩
 ·exact ⟨h0, .inr ⟨g, cap, cur, rfl, hg, by rw [hb.block g (lt_of_heap hh)]; exact hh, hr⟩⟩
theorem OwnB.ge {w : World} {B : Nat} {v : Value} {l : List UInt8} (h : OwnB w B v l) : ∀ k, v.ownBlock = some k → B ≤ k := fun k hk => by
 obtain ⟨_, h | ⟨g, cap, cur, rfl, hg, _⟩⟩ := h
 ·obtain ⟨rfl, _⟩ := h; simp [Value.ownBlock] at hk
 ·simp [Value.ownBlock] at hk; omega
theorem OwnB.len {w : World} {B : Nat} {v : Value} {l : List UInt8} (h : OwnB w B v l) : ∃ A c, v = .slice A l.length c := by
 obtain ⟨_, ⟨rfl, h⟩ | ⟨g, cap, cur, rfl, _⟩⟩ := h
 ·exact ⟨none, 0, by rw [h]⟩
 ·exact ⟨_, _, rfl⟩
theorem wpList_pushB {ops : Array Oper} {rest : List Oper} {o : Oper} {a : Act} {w : World} {Q : Exit → Act → World → Prop} (hgd : o.guard = none) (s x : Operand)
  (ho : o.op = .call { callee := .builtin .append, args := #[s, x], argTypes := #[66, 66] }) (B : Nat) (v : Value) (l : List UInt8) (hs : a.eval s = v) (hown : OwnB w B v l) (g : Nat) (y : UInt8)
  (hx : a.eval x = .slice (some ⟨g, 0, none⟩) 1 1) (hk : w.cell? ⟨g, 0, none⟩ = some (bv y)) (hl : l.length ≤ 140737488000000) (hB : B ≤ w.heap.size)
  (h : ∀ v' w', OwnB w' B v' (l ++ [y]) → Below B w w' → wpList Tryz.prog ops Q rest (a.put o.dst v') w') : wpList Tryz.prog ops Q (o :: rest) a w := by
 obtain ⟨i0, hi, hz0, hz1, hz2⟩ := info_parts info5
 refine wpList_append_own (w := w) hgd s x 66 ho B 5 i0 (.int .u8 0) 1 1 Tryz.underlying66 hi hz0 hz1 hz2 rfl (by decide) v l.length (l.map bv) hs hown ⟨g, 0, none⟩ 1 1 [bv y] hx rfl
  (fun j u hj => ?_) (fun u hu => ?_) (by unfold maxLen; omega) (by omega) hB fun v' w' h1 h2 _ => h v' w' ?_ ?_
 ·match j, hj with
  | 0, hj => simp at hj; subst hj; simpa [Addr.add] using hk
 ·simp at hu; subst hu; rfl
 ·unfold OwnB
  rw [List.map_append, List.length_append]
  simpa using h1
 ·exact (Below.refl _ _).grown h2 hB hown.ge
theorem wpList_catB {ops : Array Oper} {rest : List Oper} {o : Oper} {a : Act} {w : World} {Q : Exit → Act → World → Prop} (hgd : o.guard = none) (s x : Operand)
  (ho : o.op = .call { callee := .builtin .append, args := #[s, x], argTypes := #[66, 66] }) (B : Nat) (v : Value) (l : List UInt8) (hs : a.eval s = v) (hown : OwnB w B v l) (A : Option Addr) (c : Nat) (m : List UInt8)
  (hx : a.eval x = .slice A m.length c) (hk : BA w A m) (hm : 0 < m.length) (hl : l.length + m.length ≤ 140737488000000) (hB : B ≤ w.heap.size)
  (h : ∀ v' w', OwnB w' B v' (l ++ m) → Below B w w' → wpList Tryz.prog ops Q rest (a.put o.dst v') w') : wpList Tryz.prog ops Q (o :: rest) a w := by
 obtain ⟨i0, hi, hz0, hz1, hz2⟩ := info_parts info5
 obtain ⟨b, o2, rfl, _⟩ := hk 0 _ (List.getElem?_eq_getElem hm)
 refine wpList_append_own (w := w) hgd s x 66 ho B 5 i0 (.int .u8 0) 1 1 Tryz.underlying66 hi hz0 hz1 hz2 rfl (by decide) v l.length (l.map bv) hs hown ⟨b, o2, none⟩ m.length c (m.map bv) hx (by simp)
  (fun j v hj => ?_) (fun v hv => ?_) (by unfold maxLen; omega) (by omega) hB fun v' w' h1 h2 _ => h v' w' ?_ ?_
 ·rw [List.getElem?_map] at hj
  obtain ⟨x, hx1, rfl⟩ := Option.map_eq_some_iff.1 hj
  obtain ⟨b3, o3, e, h3⟩ := hk j x hx1
  cases e
  rw [show (⟨b, o2, none⟩ : Addr).add j = ⟨b, o2 + j, none⟩ by unfold Addr.add; split <;> simp_all]
  exact h3
 ·obtain ⟨x, _, rfl⟩ := List.mem_map.1 hv
  rfl
 ·unfold OwnB
  rw [List.map_append, List.length_append]
  exact h1
 ·exact (Below.refl _ _).grown h2 hB hown.ge
theorem wpList_catB0 {ops : Array Oper} {rest : List Oper} {o : Oper} {a : Act} {w : World} {Q : Exit → Act → World → Prop} (hgd : o.guard = none) (s x : Operand)
  (ho : o.op = .call { callee := .builtin .append, args := #[s, x], argTypes := #[66, 66] }) (B g cap : Nat) (l : List UInt8) (hs : a.eval s = .slice (some ⟨g, 0, none⟩) l.length cap) (hcap : l.length ≤ cap) (hown : OwnB w B (.slice (some ⟨g, 0, none⟩) l.length cap) l) (A : Option Addr) (c : Nat) (m : List UInt8)
  (hx : a.eval x = .slice A m.length c) (hk : BA w A m) (hl : l.length + m.length ≤ 140737488000000) (hB : B ≤ w.heap.size)
  (h : ∀ v' w', OwnB w' B v' (l ++ m) → Below B w w' → wpList Tryz.prog ops Q rest (a.put o.dst v') w') : wpList Tryz.prog ops Q (o :: rest) a w := by
 rcases Nat.eq_zero_or_pos m.length with h0 | h0
 ·obtain rfl : m = [] := List.length_eq_zero_iff.1 h0
  obtain ⟨i0, hi, hz0, hz1, hz2⟩ := info_parts info5
  have hsrc : Src Tryz.prog i0.size 66 (.slice A 0 c) 0 [] w := by
   cases A with
   | none => exact Src.ofNil w Tryz.underlying66 c
   | some ad => exact Src.ofSlice w Tryz.underlying66 ad 0 c [] (by simp) (fun j v hj => by simp at hj) (fun v hv => by simp at hv)
  have hrun := run_append_room_src (P := Tryz.prog) w 66 66 o.type 5 i0 Tryz.underlying66 hi g 0 l.length cap (.slice A 0 c) 0 [] hsrc (by omega) (fun j hj => by simp at hj) (fun j hj => by simp at hj)
  refine wpList_plain hgd fun K hK => ?_
  have hk2 := hK _ _ (h (.slice (some ⟨g, 0, none⟩) l.length cap) w (by simpa using hown) (Below.refl _ _))
  rw [List.length_nil] at hx
  unfold Oper.wp
  simp [execOp, ho, resolve, invoke, builtin, hs, hx, hrun, Result.andThen]
  exact hk2
 ·exact wpList_catB hgd s x ho B _ l hs hown A c m hx hk h0 hl hB h
def padZ (l : List UInt8) (z : Nat) : List UInt8 := l ++ 128 :: List.replicate z 0
theorem padZ_succ (l : List UInt8) (z : Nat) : padZ l (z + 1) = padZ l z ++ [0] := by
 unfold padZ; rw [List.replicate_succ']; simp
theorem padZ_len (l : List UInt8) (z : Nat) : (padZ l z).length = l.length + 1 + z := by simp [padZ]; omega
structure Keep (L : Nat → Prop) (w w' : World) : Prop where
 os : w'.os = w.os
 tape : w'.tape = w.tape
 output : w'.output = w.output
 size : w.heap.size ≤ w'.heap.size
 block : ∀ k, k < w.heap.size → ¬ L k → w'.heap[k]? = w.heap[k]?
theorem Keep.refl (L : Nat → Prop) (w : World) : Keep L w w := ⟨rfl, rfl, rfl, Nat.le_refl _, fun _ _ _ => rfl⟩
theorem Keep.step {L M : Nat → Prop} {a b c : World} (h : Keep L a b) (k : Keep M b c) (hm : ∀ i, M i → L i ∨ a.heap.size ≤ i) : Keep L a c :=
 ⟨k.os.trans h.os, k.tape.trans h.tape, k.output.trans h.output, Nat.le_trans h.size k.size, fun i hi hl => (k.block i (Nat.lt_of_lt_of_le hi h.size) fun hM => by
  rcases hm i hM with h1 | h1
  ·exact hl h1
  ·omega).trans (h.block i hi hl)⟩
theorem Keep.trans {L : Nat → Prop} {a b c : World} (h : Keep L a b) (k : Keep L b c) : Keep L a c := h.step k fun _ hi => .inl hi
theorem Keep.mono {L M : Nat → Prop} {a b : World} (h : Keep L a b) (hm : ∀ i, L i → M i) : Keep M a b := ⟨h.os, h.tape, h.output, h.size, fun i hi hl => h.block i hi fun k => hl (hm i k)⟩
theorem Keep.of_below {L : Nat → Prop} {a b : World} (h : Below a.heap.size a b) : Keep L a b := ⟨h.os, h.tape, h.output, h.size, fun i hi _ => h.block i hi⟩
theorem Keep.below {L : Nat → Prop} {a b : World} (h : Keep L a b) {B : Nat} (hB : B ≤ a.heap.size) (hL : ∀ i, L i → B ≤ i) : Below B a b :=
 ⟨h.os, h.tape, h.output, h.size, fun i hi => h.block i (by omega) fun hl => by have := hL i hl; omega⟩
theorem Keep.alloc {L : Nat → Prop} {a b : World} (h : Keep L a b) (o : Obj) : Keep L a (b.alloc o) := h.step (Keep.of_below (L := fun _ => False) ((Below.refl _ _).alloc (Nat.le_refl _) o)) fun _ hi => hi.elim
theorem Keep.drewN {L : Nat → Prop} {a b : World} (h : Keep L a b) (n : Nat) : Keep L a (b.drewN n) := ⟨h.os, h.tape, h.output, h.size, h.block⟩
theorem Keep.drew {L : Nat → Prop} {a b : World} (h : Keep L a b) : Keep L a b.drew := ⟨h.os, h.tape, h.output, h.size, h.block⟩
theorem Keep.row (w : World) (g : Nat) (cs : Array Value) : Keep (fun i => i = g) w (w.setRow g cs) := ⟨rfl, rfl, rfl, by simp, fun _ _ h => setRow_other _ _ _ _ h⟩
theorem Keep.cell (w : World) (a : Addr) (v : Value) : Keep (fun i => i = a.block) w (w.setCell a v) := ⟨rfl, rfl, rfl, by simp [World.setCell], fun _ _ h => Below.heap_setCell _ _ _ _ h⟩
theorem Keep.heap {L : Nat → Prop} {a b : World} (h : Keep L a b) {k : Nat} {o : Obj} (hk : a.heap[k]? = some o) (hl : ¬ L k) : b.heap[k]? = some o := (h.block k (lt_of_heap hk) hl).trans hk
theorem Keep.cellAt {L : Nat → Prop} {a b : World} (h : Keep L a b) {p : Addr} {v : Value} (hk : a.cell? p = some v) (hl : ¬ L p.block) : b.cell? p = some v :=
 (World.cell?_of_block (w := a) (h.block p.block (lt_of_cell hk) hl)).trans hk
attribute [go_sem] bv_one
@[go_sem] theorem run_store_bv (w : World) (a : Addr) (x : UInt8) (m : Mode) : (store a (bv x) m).run Tryz.prog w = stored Tryz.prog w a (bv x) m := run_store Tryz.prog w a _ m rfl
theorem wp_region_drawn_tail {P : Program} {id : Nat} {Q : Exit → Act → World → Prop} {a : Act} {w : World} {l : List Oper} (n : Nat) (hm : P.follows .mixedOrders = true) (hB : Region.lexTailB .any l.toArray n = true)
  (h : wpQuiet P l.toArray (fun w' => ∃ n, w' = w.drewN n) (fun a' => ∀ w', (∃ n, w' = w.drewN n) → wpList P l.toArray Q (l.drop n) a' w') (l.take n) a) : (Code.region id l.toArray true).wp P Q a w :=
 wp_region_quiet_tail (C := fun w' => ∃ n, w' = w.drewN n) n hm hB ⟨1, rfl⟩ h
@[go_sem] theorem setCell_drewN (w : World) (n : Nat) (a : Addr) (v : Value) : (w.drewN n).setCell a v = (w.setCell a v).drewN n := rfl
structure Later (W : World) where
 w : World
 h : Below W.heap.size W w
instance (W : World) : Nonempty (Later W) := ⟨⟨W, Below.refl _ _⟩⟩
theorem Later.block {W : World} (x : Later W) {b : Nat} {o : Obj} (h : W.heap[b]? = some o) : x.w.heap[b]? = some o := by
 rw [x.h.block b (lt_of_heap h)]; exact h
theorem Later.call {P : Program} {W : World} {x : Later W} {f : FuncId} {args : Array Value} {v : Value}
  (h : Calls P f args x.w fun e w' => e = .returned v ∧ Below x.w.heap.size x.w w') : Calls P f args x.w fun e w'' => e = .returned v ∧ ∃ y : Later W, w'' = y.w :=
 h.mono fun _ w' ⟨he, hb⟩ => ⟨he, ⟨w', x.h.trans (hb.mono x.h.size)⟩, rfl⟩
theorem wp_region_later {P : Program} {id : Nat} {Q : Exit → Act → World → Prop} {a : Act} {w : World} {l : List Oper} (hm : P.follows .mixedOrders = true) (hB : Region.lexB .any l.toArray = true)
  (h : wpQuiet P l.toArray (fun w' => ∃ x : Later w, w' = x.w) (fun a' => ∀ w', (∃ x : Later w, w' = x.w) → Q .normal a' w') l a) : (Code.region id l.toArray true).wp P Q a w :=
 wp_region_quiet (C := fun w' => ∃ x : Later w, w' = x.w) hm hB ⟨⟨w.drew, (Below.refl _ _).drew⟩, rfl⟩ (by simpa using h)
noncomputable def ldA (t : TypeId) (w : World) (v : Value) : Result Next := Sem.run Tryz.prog (do pure (.value (← Instr.loadAt t v))) w
noncomputable def stA (t : TypeId) (w : World) (p v : Value) : Result Next := Sem.run Tryz.prog (do Instr.storeAt t p v; pure .skip) w
@[go_sem ↓] theorem execOp_load26 (ρ : Operand → Value) (dst : Option Tmp) (x : Operand) (type : TypeId) (pos : String) (after : Array Edge) (guard : Option (Nat × Bool)) (w : World) :
  Sem.run Tryz.prog (execOp ρ { dst, op := .load 45 x, type, pos, after, guard }) w = ldA 45 w (ρ x) := rfl
@[go_sem ↓] theorem execOp_store26 (ρ : Operand → Value) (dst : Option Tmp) (x y : Operand) (type : TypeId) (pos : String) (after : Array Edge) (guard : Option (Nat × Bool)) (w : World) :
  Sem.run Tryz.prog (execOp ρ { dst, op := .store 45 x y, type, pos, after, guard }) w = stA 45 w (ρ x) (ρ y) := rfl
theorem ldA_of {w : World} {b o : Nat} {t e n : Nat} {cs : List Value} (h : w.rangeAt b o cs) (hu : Tryz.prog.underlying t = some (.array n e)) (hi : (Tryz.prog.info? t).map (·.size) = some cs.length) :
  ldA t w (.pointer (some ⟨b, o, none⟩)) = .ok (.value (.agg cs.toArray)) w := by
 unfold ldA
 rw [Sem.run_bind, run_loadAt_mid (P := Tryz.prog) w b o t cs (.array n e) h hu rfl hi]
 simp [Sem.run_pure, Result.andThen_ok]
theorem ldA_row {w : World} {b : Nat} {t t' e n : Nat} {cs : Array Value} {fr : Nat × Nat} (h : w.heap[b]? = some (.cells cs t' fr)) (hu : Tryz.prog.underlying t = some (.array n e)) (hi : (Tryz.prog.info? t).map (·.size) = some cs.size) :
  ldA t w (.pointer (some ⟨b, 0, none⟩)) = .ok (.value (.agg cs)) w := by
 unfold ldA
 simp only [Instr.loadAt, Instr.sureAddr, Sem.run_bind, Sem.run_pure, Result.andThen_ok]
 rw [run_loadVar_row (P := Tryz.prog) w b t' t cs fr (.array n e) h hu rfl hi]
 rfl
theorem stA_row {w : World} {b : Nat} {t t' : Nat} {z v : Array Value} (h : w.heap[b]? = some (.cells z t' (0, 0))) (hi : (Tryz.prog.info? t).map (·.size) = some v.size) (hz : z.size = v.size) (h1 : v.all (·.oneCell') = true) :
  stA t w (.pointer (some ⟨b, 0, none⟩)) (.agg v) = .ok .skip (w.setRow b v) := by
 unfold stA
 simp only [Instr.storeAt, Instr.sureAddr, Sem.run_bind, Sem.run_pure, Result.andThen_ok]
 rw [run_storeVar_row (P := Tryz.prog) w b t' t z v h hi hz h1]
 rfl
theorem info26 : (Tryz.prog.info? 45).map (·.size) = some 32 := by kernel_rfl
def bA (l : List UInt8) : Array Value := (l.map bv).toArray
theorem bA_size (l : List UInt8) : (bA l).size = l.length := by simp [bA]
theorem bA_one (l : List UInt8) : (bA l).all (·.oneCell') = true := by simp [bA, bv, Value.oneCell']
theorem bA_at (l : List UInt8) (j : Nat) (h : j < l.length) : (bA l)[j]? = some (bv (l.getD j 0)) := by simp [bA, List.getD_eq_getElem?_getD, h]
theorem bA_set (l : List UInt8) (j : Nat) (x : UInt8) : (bA l).setIfInBounds j (bv x) = bA (l.set j x) := by
 apply Array.toList_inj.1
 simp [bA, List.map_set]
theorem run_index_arr {t e n : Nat} {cs : Array Value} {k : Nat} {v : Value} (hu : Tryz.prog.underlying t = some (.array n e)) (ha : ∀ w, (isAgg e).run Tryz.prog w = .ok false w) (hs : ∀ w, (sizeOf e).run Tryz.prog w = .ok 1 w) (hk : k < n) (hv : cs[k]? = some v) (w : World) :
  (Instr.index t (.agg cs) (.int .i64 (k : Int))).run Tryz.prog w = .ok v w := by
 have h1 : (0 : Int) ≤ (k : Int) ∧ (k : Int) < (n : Int) := by omega
 simp [Instr.index, asIntOf, run_underlying hu, hs, part, ha, Sem.run_bind, Sem.run_pure, h1, hv]
 intro h; omega
theorem size5 (w : World) : (sizeOf 5).run Tryz.prog w = .ok 1 w := by
 obtain ⟨i0, hi, hz0, hz1, hz2⟩ := info_parts info5
 simp [sizeOf, typeInfo, hi, hz1]
theorem ret_int {k : IntKind} {a b : Int} (h : a = b) : Ending.returned (.int k a) = .returned (.int k b) := by rw [h]
theorem set_row {w : World} {g i : Nat} {cs : Array Value} {t : TypeId} {v : Value} (h : w.heap[g]? = some (.cells cs t (0, 0))) : (w.setCell ⟨g, i, none⟩ v).heap[g]? = some (.cells (cs.setIfInBounds i v) t (0, 0)) := heap_setCell_same w g i cs t v h
theorem set_keep {w : World} {g g' i : Nat} {o : Obj} {v : Value} (h : w.heap[g]? = some o) (hne : g ≠ g') : (w.setCell ⟨g', i, none⟩ v).heap[g]? = some o := by rw [heap_setCell_other _ _ _ _ hne]; exact h
structure Drawn (a b : World) : Prop where
 heap : b.heap = a.heap
 os : b.os = a.os
 tape : b.tape = a.tape
 output : b.output = a.output
theorem Drawn.refl (a : World) : Drawn a a := ⟨rfl, rfl, rfl, rfl⟩
theorem Drawn.drewN {a b : World} (h : Drawn a b) (n : Nat) : Drawn a (b.drewN n) := ⟨h.heap, h.os, h.tape, h.output⟩
theorem Drawn.keep {a b : World} (h : Drawn a b) (L : Nat → Prop) : Keep L a b := ⟨h.os, h.tape, h.output, by rw [h.heap]; exact Nat.le_refl _, fun _ _ _ => by rw [h.heap]⟩
theorem Drawn.cell {a b : World} (h : Drawn a b) (p : Addr) : b.cell? p = a.cell? p := World.cell?_of_block (w := a) (by rw [h.heap])
theorem stA_new {t : TypeId} (w : World) (z v : Array Value) (hi : (Tryz.prog.info? t).map (·.size) = some v.size) (hz : z.size = v.size) (h1 : v.all (·.oneCell') = true) :
  stA t (w.alloc (.cells z t)) (.pointer (some ⟨w.heap.size, 0, none⟩)) (.agg v) = .ok .skip (w.alloc (.cells v t)) := by
 rw [stA_row (heap_alloc_new w _) hi hz h1, World.setRow_alloc_new]
theorem stA_two {t : TypeId} (w : World) (o : Obj) (z v : Array Value) (hi : (Tryz.prog.info? t).map (·.size) = some v.size) (hz : z.size = v.size) (h1 : v.all (·.oneCell') = true) :
  stA t ((w.alloc o).alloc (.cells z t)) (.pointer (some ⟨w.heap.size + 1, 0, none⟩)) (.agg v) = .ok .skip ((w.alloc o).alloc (.cells v t)) := by
 have := stA_new (w.alloc o) z v hi hz h1
 rwa [show (w.alloc o).heap.size = w.heap.size + 1 by simp] at this
noncomputable def bldA (t : TypeId) (w : World) (parts : Array (Nat × Value)) : Result Next := Sem.run Tryz.prog (do pure (.value (← Instr.build t parts))) w
def z26 : List UInt8 := List.replicate 32 0
theorem zero26 : ∀ w, (zeroValue 45).run Tryz.prog w = .ok (.agg (bA z26)) w := fun _ => by kernel_rfl
attribute [go_sem ↓] zero26
theorem len26 : Tryz.prog.arrayLen 45 = 32 := by kernel_rfl
theorem elem26 : Tryz.prog.elem 45 = 5 := by kernel_rfl
theorem sl26 (g l h : Nat) (hl : l ≤ h) (hh : h ≤ 32) (hlt : l < 32) (L H : Int) (eL : L = l) (eH : H = h) (w : World) :
  (Instr.sliceAt 45 (.pointer (some ⟨g, 0, none⟩)) (some (.int .i64 L)) (some (.int .i64 H)) none).run Tryz.prog w = .ok (.slice (some ⟨g, l, none⟩) (h - l) (32 - l)) w := by
 subst eL eH
 rw [run_sliceAt_array_lh w 45 _ (by rw [len26, elem26]; exact Tryz.underlying45) .i64 .i64 _ _ (by omega) (by omega) (by rw [len26]; omega), elem26, size5, len26]
 have hadd : (⟨g, 0, none⟩ : Addr).add l = ⟨g, l, none⟩ := by unfold Addr.add; split <;> simp_all
 simp [slicedAt, hadd, show ¬ 32 = l by omega]
def BX (w : World) (M : Nat → Prop) (A : Option Addr) (l : List UInt8) : Prop := ∀ j x, l[j]? = some x → ∃ b o, A = some ⟨b, o, none⟩ ∧ ¬ M b ∧ w.cell? ⟨b, o + j, none⟩ = some (bv x)
theorem BX.keep {L M : Nat → Prop} {a b : World} {A : Option Addr} {l : List UInt8} (h : BX a M A l) (k : Keep L a b) (hm : ∀ i, L i → M i) : BX b M A l := fun j x hx => by
 obtain ⟨g, o, e, h1, h2⟩ := h j x hx
 exact ⟨g, o, e, h1, k.cellAt h2 fun hl => h1 (hm _ hl)⟩
theorem bytes_info : (Tryz.prog.info? 5).map (·.size) = some 1 := by kernel_rfl
theorem wpList_copy_b {ops : Array Oper} {rest : List Oper} {o : Oper} {a : Act} {w : World} {Q : Exit → Act → World → Prop} (hgd : o.guard = none) (d s : Operand)
  (ho : o.op = .call { callee := .builtin .copy, args := #[d, s], argTypes := #[66, 66] }) (g off dLen dCap : Nat) (ad : Addr) (sLen sCap : Nat) (hd : a.eval d = .slice (some ⟨g, off, none⟩) dLen dCap) (hs : a.eval s = .slice (some ad) sLen sCap)
  (lb : List UInt8) (t : TypeId) (hg : w.heap[g]? = some (.cells (bA lb) t (0, 0))) (m : List UInt8) (n : Nat) (hn : m.length = n) (hmin : n = Nat.min sLen dLen)
  (hsrc : ∀ j x, m[j]? = some x → w.cell? (ad.add j) = some (bv x)) (hfit : off + n ≤ lb.length)
  (h : ∀ w', w' = w.setRow g (bA (lb.take off ++ (m ++ lb.drop (off + n)))) → wpList Tryz.prog ops Q rest (a.put o.dst (.int .i64 (n : Int))) w') : wpList Tryz.prog ops Q (o :: rest) a w := by
 subst hn
 refine wpList_copy_own hgd d s 66 66 ho 5 Tryz.underlying66 bytes_info g off dLen dCap ad sLen sCap hd hs (bA lb) t hg (m.map bv) (by simpa using hmin) (fun j v hj => ?_) (by rw [bA_size]; simpa using hfit) (fun v hv => ?_) ?_
 ·rw [List.getElem?_map] at hj
  obtain ⟨x, hx, rfl⟩ := Option.map_eq_some_iff.1 hj
  exact hsrc j x hx
 ·obtain ⟨x, _, rfl⟩ := List.mem_map.1 hv
  rfl
 ·have e : (List.take off (bA lb).toList ++ (List.map bv m ++ List.drop (off + (List.map bv m).length) (bA lb).toList)).toArray = bA (lb.take off ++ (m ++ lb.drop (off + m.length))) := by
   simp [bA, List.map_take, List.map_drop]
  rw [e, List.length_map]
  exact h _ rfl
theorem slice_from (A : Option Addr) (len c n : Nat) (h : n ≤ len) (w : World) :
  (Instr.sliceAt 66 (.slice A len c) (some (.int .i64 (n : Int))) none none).run Tryz.prog w = .ok (.slice (if c = n then A else A.map (·.add n)) (len - n) (c - n)) w := by
 have e22 : Tryz.prog.elem 66 = 5 := by kernel_rfl
 have ht : Tryz.prog.underlying 66 = some (.slice (Tryz.prog.elem 66)) := by rw [e22]; exact Tryz.underlying66
 rw [run_sliceAt_slice w 66 _ _ _ _ ht, run_slice_l w 66 A len c ht .i64 n (by omega) (by omega), e22, size5]
 simp [sliced]
theorem add_none (g o n : Nat) : (⟨g, o, none⟩ : Addr).add n = ⟨g, o + n, none⟩ := by unfold Addr.add; split <;> simp_all
theorem one_set {w : World} {g : Nat} {x y : Value} {t : TypeId} (h : w.heap[g]? = some (.cells #[x] t (0, 0))) : (w.setCell ⟨g, 0, none⟩ y).heap[g]? = some (.cells #[y] t (0, 0)) := by
 rw [set_row h]; rfl
theorem BX.from {w : World} {M : Nat → Prop} {b o : Nat} {r : List UInt8} (h : BX w M (some ⟨b, o, none⟩) r) (n c : Nat) (hn : n ≤ r.length) (hc : r.length ≤ c) : BX w M (if c = n then some (⟨b, o, none⟩ : Addr) else (some (⟨b, o, none⟩ : Addr)).map (·.add n)) (r.drop n) := fun j x hx => by
 rw [List.getElem?_drop] at hx
 obtain ⟨b2, o2, e, h1, h2⟩ := h _ _ hx
 cases e
 have hj : n + j < r.length := (List.getElem?_eq_some_iff.1 hx).1
 refine ⟨b, o + n, ?_, h1, by rw [Nat.add_assoc]; exact h2⟩
 rw [if_neg (by omega)]
 simp [add_none]
theorem made_zero (n : Nat) : madeCells #[Value.int .u8 0] n = bA (List.replicate n 0) := by
 apply Array.ext_getElem?
 intro i
 rcases Nat.lt_or_ge i n with h | h
 ·rw [bA_at _ _ (by simpa using h)]
  simp [madeCells, h, List.getD_eq_getElem?_getD, bv, Nat.mod_one]
 ·rw [Array.getElem?_eq_none (by rw [size_madeCells]; exact h), Array.getElem?_eq_none (by rw [bA_size]; simpa using h)]
theorem make_b (n : Nat) (N : Int) (hN : N = n) (hn : n ≤ 1000000000000) (w : World) : (Instr.makeSlice 66 (.int .i64 N) (.int .i64 N)).run Tryz.prog w = .ok (.slice (some ⟨w.heap.size, 0, none⟩) n n) (w.alloc (.cells (bA (List.replicate n 0)) 5)) := by
 subst hN
 obtain ⟨i0, hi, hz0, hz1, hz2⟩ := info_parts info5
 have := run_make (P := Tryz.prog) w 66 5 i0 (.int .u8 0) Tryz.underlying66 hi hz0 .i64 .i64 (n : Int) (n : Int) (by omega) (by omega) (by rw [hz2]; omega) (by omega)
 rw [this, hz1]
 simp [Value.cells, made_zero]
structure Pc where
 A : Option Addr
 l : List UInt8
 c : Nat
def Pc.val (x : Pc) : Value := .slice x.A x.l.length x.c
def SL (w : World) (A : Option Addr) (ls : List Pc) : Prop := ∀ i x, ls[i]? = some x → x.l.length ≤ x.c ∧ BA w x.A x.l ∧ ∃ g o, A = some ⟨g, o, none⟩ ∧ w.cell? ⟨g, o + i, none⟩ = some (.slice x.A x.l.length x.c)
theorem BA.bx {w w' : World} {M L : Nat → Prop} {A : Option Addr} {l : List UInt8} (h : BA w A l) (k : Keep L w w') (hl : ∀ i, i < w.heap.size → ¬ L i) (hm : ∀ i, i < w.heap.size → ¬ M i) : BX w' M A l := fun j x hx => by
 obtain ⟨b, o, e, h1⟩ := h j x hx
 have hb : b < w.heap.size := lt_of_cell h1
 exact ⟨b, o, e, hm b hb, k.cellAt h1 (hl b hb)⟩
def cat (ls : List Pc) (k : Nat) : List UInt8 := (ls.take k).flatMap Pc.l
def catAll (ls : List Pc) : List UInt8 := ls.flatMap Pc.l
theorem cat_all (ls : List Pc) : cat ls ls.length = catAll ls := by unfold cat catAll; rw [List.take_length]
theorem cat_succ (ls : List Pc) (k : Nat) (x : Pc) (h : ls[k]? = some x) : cat ls (k + 1) = cat ls k ++ x.l := by
 unfold cat
 rw [List.take_add_one, h]
 simp
theorem cat_le (ls : List Pc) (k : Nat) : (cat ls k).length ≤ (catAll ls).length := by
 unfold cat catAll
 rw [← List.take_append_drop k ls, List.flatMap_append, List.length_append]
 rw [List.take_append_drop]
 omega
theorem heap5 (w : World) (o0 o1 o2 o3 o4 : Obj) : (((((w.alloc o0).alloc o1).alloc o2).alloc o3).alloc o4).heap[w.heap.size]? = some o0 ∧ (((((w.alloc o0).alloc o1).alloc o2).alloc o3).alloc o4).heap[w.heap.size + 1]? = some o1 ∧
  (((((w.alloc o0).alloc o1).alloc o2).alloc o3).alloc o4).heap[w.heap.size + 2]? = some o2 ∧ (((((w.alloc o0).alloc o1).alloc o2).alloc o3).alloc o4).heap[w.heap.size + 3]? = some o3 ∧ (((((w.alloc o0).alloc o1).alloc o2).alloc o3).alloc o4).heap[w.heap.size + 4]? = some o4 := by
 have n1 := heap_alloc_new (w.alloc o0) o1
 have n2 := heap_alloc_new ((w.alloc o0).alloc o1) o2
 have n3 := heap_alloc_new (((w.alloc o0).alloc o1).alloc o2) o3
 have n4 := heap_alloc_new ((((w.alloc o0).alloc o1).alloc o2).alloc o3) o4
 rw [show (w.alloc o0).heap.size = w.heap.size + 1 by simp] at n1
 rw [show ((w.alloc o0).alloc o1).heap.size = w.heap.size + 2 by simp] at n2
 rw [show (((w.alloc o0).alloc o1).alloc o2).heap.size = w.heap.size + 3 by simp] at n3
 rw [show ((((w.alloc o0).alloc o1).alloc o2).alloc o3).heap.size = w.heap.size + 4 by simp] at n4
 refine ⟨?_, ?_, ?_, ?_, n4⟩
 ·rw [Below.heap_alloc _ _ _ (by simp; omega), Below.heap_alloc _ _ _ (by simp; omega), Below.heap_alloc _ _ _ (by simp; omega), Below.heap_alloc _ _ _ (by simp)]; exact heap_alloc_new w o0
 ·rw [Below.heap_alloc _ _ _ (by simp), Below.heap_alloc _ _ _ (by simp), Below.heap_alloc _ _ _ (by simp)]; exact n1
 ·rw [Below.heap_alloc _ _ _ (by simp), Below.heap_alloc _ _ _ (by simp)]; exact n2
 ·rw [Below.heap_alloc _ _ _ (by simp)]; exact n3
theorem sl_one {w : World} {A : Option Addr} {l : List UInt8} {c : Nat} (h : BA w A l) (hc : l.length ≤ c) (t : TypeId) : SL (w.alloc (.cells #[.slice A l.length c] t)) (some ⟨w.heap.size, 0, none⟩) [⟨A, l, c⟩] := fun i x hx => by
 match i, hx with
 | 0, hx =>
  simp at hx; subst hx
  exact ⟨hc, h.below ((Below.refl _ _).alloc (Nat.le_refl _) _), _, _, rfl, by rw [cell_of_cells (heap_alloc_new w _)]; rfl⟩
theorem OwnB.nil (w : World) (B : Nat) : OwnB w B (.slice none 0 0) [] := ⟨rfl, .inl ⟨rfl, rfl⟩⟩
theorem run_append_empty (w : World) (ty : TypeId) (A : Option Addr) (c : Nat) : (Builtin.append_ #[66, 66] ty #[.slice none 0 0, .slice A 0 c]).run Tryz.prog w = .ok (.slice none 0 0) w := by
 obtain ⟨i0, hi, hz0, hz1, hz2⟩ := info_parts info5
 have hl : (loadCells (⟨0, 0, none⟩ : Addr) 0).run Tryz.prog w = .ok #[] w := rfl
 cases A with
 | none => simp [Builtin.append_, run_underlying Tryz.underlying66, sizeOf, typeInfo, hi, Builtin.lenOf, Builtin.firstCells]
 | some ad => simp [Builtin.append_, run_underlying Tryz.underlying66, sizeOf, typeInfo, hi, Builtin.lenOf, Builtin.firstCells, loadCells, loadCellsFrom]
theorem wpList_catB1 {ops : Array Oper} {rest : List Oper} {o : Oper} {a : Act} {w : World} {Q : Exit → Act → World → Prop} (hgd : o.guard = none) (s x : Operand)
  (ho : o.op = .call { callee := .builtin .append, args := #[s, x], argTypes := #[66, 66] }) (B : Nat) (v : Value) (l : List UInt8) (hs : a.eval s = v) (hown : OwnB w B v l) (A : Option Addr) (c : Nat) (m : List UInt8)
  (hx : a.eval x = .slice A m.length c) (hk : BA w A m) (hl : l.length + m.length ≤ 140737488000000) (hB : B ≤ w.heap.size)
  (h : ∀ v' w', OwnB w' B v' (l ++ m) → Below B w w' → wpList Tryz.prog ops Q rest (a.put o.dst v') w') : wpList Tryz.prog ops Q (o :: rest) a w := by
 rcases Nat.eq_zero_or_pos m.length with h0 | h0
 ·have hown2 := hown
  obtain ⟨h00, ⟨rfl, hl0⟩ | ⟨g, cap, cur, rfl, hg, hh, hnc, hr⟩⟩ := hown
  ·obtain rfl : l = [] := List.length_eq_zero_iff.1 hl0
   obtain rfl : m = [] := List.length_eq_zero_iff.1 h0
   have hrun := run_append_empty w o.type A c
   refine Lib.wpList_append_run w hgd s x 66 66 ho _ _ hs hx _ _ hrun (h _ _ (OwnB.nil _ _) (Below.refl _ _))
  ·exact wpList_catB0 hgd s x ho B g cap l hs hnc hown2 A c m hx hk hl hB h
 ·exact wpList_catB hgd s x ho B v l hs hown A c m hx hk h0 hl hB h
theorem OwnB.mono {w : World} {B B' : Nat} {v : Value} {l : List UInt8} (h : OwnB w B v l) (hB : B' ≤ B) : OwnB w B' v l := by
 obtain ⟨h0, h | ⟨g, cap, cur, rfl, hg, hr⟩⟩ := h
 ·exact ⟨h0, .inl h⟩
 ·exact ⟨h0, .inr ⟨g, cap, cur, rfl, by omega, hr⟩⟩
theorem sl_made (w : World) (ls : List Pc) (t : TypeId) (h : ∀ x ∈ ls, x.l.length ≤ x.c ∧ BA w x.A x.l) : SL (w.alloc (.cells (ls.map Pc.val).toArray t)) (some ⟨w.heap.size, 0, none⟩) ls := fun i x hx => by
 obtain ⟨h1, h2⟩ := h x (List.mem_of_getElem? hx)
 refine ⟨h1, h2.below ((Below.refl _ _).alloc (Nat.le_refl _) _), _, _, rfl, ?_⟩
 rw [cell_of_cells (heap_alloc_new w _), Nat.zero_add]
 simp [hx, Pc.val]
theorem BA_row {w : World} {g : Nat} {l : List UInt8} {t : TypeId} {fr : Nat × Nat} (h : w.heap[g]? = some (.cells (bA l) t fr)) : BA w (some ⟨g, 0, none⟩) l := fun j x hx => by
 refine ⟨g, 0, rfl, ?_⟩
 have hj := (List.getElem?_eq_some_iff.1 hx).1
 rw [cell_of_cells h, Nat.zero_add, bA_at _ _ hj]
 simp [List.getD_eq_getElem?_getD, hx, bv]
theorem OwnB.ba {w : World} {B : Nat} {v : Value} {l : List UInt8} (h : OwnB w B v l) (hl : 0 < l.length) : ∃ g c, v = .slice (some ⟨g, 0, none⟩) l.length c ∧ l.length ≤ c ∧ c ≤ maxLen ∧ B ≤ g ∧ BA w (some ⟨g, 0, none⟩) l := by
 obtain ⟨h0, ⟨_, h⟩ | ⟨g, cap, cur, rfl, hg, hh, hn, hc, hs, ht⟩⟩ := h
 ·omega
 ·refine ⟨g, cap, rfl, hn, hc, hg, fun j x hj => ⟨g, 0, rfl, ?_⟩⟩
  have hlt : j < l.length := (List.getElem?_eq_some_iff.1 hj).1
  rw [Nat.zero_add, cell_of_cells hh, ← Array.getElem?_toList]
  have : (cur.toList.take (l.length * 1))[j]? = some (bv x) := by rw [ht]; simp [hj]
  rw [List.getElem?_take_of_lt (by omega)] at this
  exact this
theorem OwnB.any {w : World} {B : Nat} {v : Value} {l : List UInt8} (h : OwnB w B v l) : ∃ A c, v = .slice A l.length c ∧ l.length ≤ c ∧ BA w A l := by
 rcases Nat.eq_zero_or_pos l.length with h0 | h0
 ·obtain rfl : l = [] := List.length_eq_zero_iff.1 h0
  obtain ⟨_, ⟨rfl, _⟩ | ⟨g, cap, cur, rfl, hg, hh, hnc, hr⟩⟩ := h
  ·exact ⟨none, 0, rfl, Nat.zero_le _, fun j x h => by simp at h⟩
  ·exact ⟨_, _, rfl, Nat.zero_le _, fun j x h => by simp at h⟩
 ·obtain ⟨g, c, e, h1, _, _, h2⟩ := h.ba h0
  exact ⟨_, c, e, h1, h2⟩
theorem get_some {α : Type} {l : List α} {k : Nat} (h : k < l.length) : ∃ x, l[k]? = some x := ⟨_, List.getElem?_eq_getElem h⟩
theorem ret_bool {a b : Bool} (h : a = b) : Ending.returned (.bool a) = .returned (.bool b) := by rw [h]
theorem BA_nil (w : World) (A : Option Addr) : BA w A [] := fun j x h => by simp at h
theorem setRow_two (w : World) (o : Obj) (c c' : Array Value) (t : TypeId) : ((w.alloc (.cells c t)).alloc o).setRow w.heap.size c' = (w.alloc (.cells c' t)).alloc o := by
 have hx : (((w.alloc (.cells c t)).alloc o).setRow w.heap.size c').heap = ((w.alloc (.cells c' t)).alloc o).heap := by
  apply Array.ext_getElem?
  intro i
  by_cases h : i = w.heap.size
  ·subst h
   rw [setRow_heap _ _ _ _ _ _ (heap_alloc2_old w _ _), heap_alloc2_old w _ _]
  ·rw [setRow_other _ _ _ _ h]
   rcases Nat.lt_or_ge i w.heap.size with h' | h'
   ·rw [Below.heap_alloc _ _ _ (by simp; omega), Below.heap_alloc _ _ _ h', Below.heap_alloc _ _ _ (by simp; omega), Below.heap_alloc _ _ _ h']
   ·by_cases e : i = w.heap.size + 1
    ·subst e; rw [heap_alloc2_new w _ _, heap_alloc2_new w _ _]
    ·rw [Array.getElem?_eq_none (by simp; omega), Array.getElem?_eq_none (by simp; omega)]
 show ({ ((w.alloc (.cells c t)).alloc o) with heap := (((w.alloc (.cells c t)).alloc o).setRow w.heap.size c').heap } : World) = _
 rw [hx]
 rfl
theorem ba {W w : World} (h : Below W.heap.size W w) (o : Obj) : Below W.heap.size W (w.alloc o) := h.alloc h.size o
theorem BA.take {w : World} {b : Nat} {l : List UInt8} (h : BA w (some ⟨b, 0, none⟩) l) (n : Nat) : BA w (some ⟨b, 0, none⟩) (l.take n) := fun j x hx => by
 rw [List.getElem?_take] at hx
 split at hx
 ·exact h j x hx
 ·cases hx
theorem BA.sub {w : World} {g : Nat} {P : List UInt8} (h : BA w (some ⟨g, 0, none⟩) P) (j n : Nat) : BA w (some ⟨g, j, none⟩) ((P.drop j).take n) := fun t x hx => by
 rw [List.getElem?_take] at hx
 by_cases htn : t < n
 ·rw [if_pos htn, List.getElem?_drop] at hx
  obtain ⟨b, o, e, h1⟩ := h _ _ hx
  cases e
  exact ⟨g, j, rfl, by rw [Nat.zero_add] at h1; exact h1⟩
 ·rw [if_neg htn] at hx; cases hx
theorem sub_len {P : List UInt8} {j M : Nat} (h : P.length = 64 * M) (hj : j < M) : ((P.drop (64 * j)).take 64).length = 64 := by
 rw [List.length_take, List.length_drop]; omega
theorem BA.keep {L : Nat → Prop} {a b : World} {g o : Nat} {l : List UInt8} (h : BA a (some ⟨g, o, none⟩) l) (k : Keep L a b) (hg : ¬ L g) : BA b (some ⟨g, o, none⟩) l := fun j x hx => by
 obtain ⟨g2, o2, e, h1⟩ := h j x hx
 cases e
 exact ⟨g, o, rfl, k.cellAt h1 hg⟩
end
section
open Go.RowKit
theorem same_c (A B : Option Addr) (c d : Nat) (l m : List UInt8) (w : World) (hA : BA w A l) (hB : BA w B m) (hl : l.length ≤ 4611686018427387904) (hm : m.length ≤ 4611686018427387904) :
  Calls Tryz.prog 27 #[.slice A l.length c, .slice B m.length d] w fun e w' => e = .returned (.bool (decide (l = m))) ∧ Below w.heap.size w w' := by
 by_cases hlen : l.length = m.length
 ·go_enter Tryz.func27, Tryz.ntmps27
  go_wp2
  go_loopw [5] (fun i wr => ∃ k n : Nat, i = .int .i64 k ∧ k ≤ l.length ∧ Hid (l.take k = m.take k) ∧ wr = w.drewN n) (fun i _ => l.length - (intOf i).toNat)
  case atStart => exact ⟨0, 0, rfl, by omega, rfl, rfl⟩
  case round =>
   obtain ⟨k, n, rfl, hk, HK, rfl⟩ := hrel
   by_cases hlt : k < l.length
   ·obtain ⟨x, hx⟩ := get_some hlt
    obtain ⟨y, hy⟩ := get_some (show k < m.length by omega)
    obtain ⟨b1, o1, rfl, h1⟩ := hA k x hx
    obtain ⟨b2, o2, rfl, h2⟩ := hB k y hy
    have HX := Lib.hid hx
    have HY := Lib.hid hy
    clear hx hy hA hB
    by_cases hxy : x = y
    ·subst hxy
     have hd : ((x.toNat : Int) != (x.toNat : Int)) = false := by simp
     go_wp2_with fail
     go_quiet (fail)
     go_wp2
     go_roundw
     case rel =>
      refine ⟨k + 1, _, by go_num, by omega, ?_, rfl⟩
      show l.take (k + 1) = m.take (k + 1)
      rw [List.take_add_one, List.take_add_one, HK.out, HX.out, HY.out]
     case measure => simp [intOf]; omega
    ·have hd : ((x.toNat : Int) != (y.toNat : Int)) = true := by
      have : x.toNat ≠ y.toNat := fun h => hxy (UInt8.toNat_inj.1 h)
      simp; omega
     have hne : decide (l = m) = false := decide_eq_false fun h => by
      subst h
      have := HX.out.symm.trans HY.out
      exact hxy (by simpa using this)
     have HN := Lib.hid hne
     clear hne
     go_wp2_with fail
     go_quiet (fail)
     go_wp2
     go_ret
     exact ⟨ret_bool HN.out.symm, below_drewN (below_drewN (Below.refl _ _) _) _⟩
   ·have he : decide (l = m) = true := decide_eq_true (by
     have := HK.out
     rwa [List.take_of_length_le (by omega), List.take_of_length_le (by omega)] at this)
    have HN := Lib.hid he
    clear he
    go_wp2
    go_ret
    exact ⟨ret_bool HN.out.symm, below_drewN (Below.refl _ _) _⟩
 ·have hd : (((l.length : Nat) : Int) != (m.length : Int)) = true := by simp; omega
  have hne : decide (l = m) = false := decide_eq_false fun h => hlen (by rw [h])
  have HN := Lib.hid hne
  clear hne
  go_enter Tryz.func27, Tryz.ntmps27
  go_wp2
  go_ret
  exact ⟨ret_bool HN.out.symm, Below.refl _ _⟩
end
section
open Go.RowKit
theorem row11_other {w w' : World} {B : Nat} {e : TypeId} {size : Nat} {v : Value} {n : Nat} {xs : List Value} (h : w.ownsRow B e size v n xs) (hb : ∀ g cs, v.ownBlock = some g → w.heap[g]? = some (.cells cs e (0, 0)) → w'.heap[g]? = some (.cells cs e (0, 0))) : w'.ownsRow B e size v n xs := by
 obtain ⟨h0, h | ⟨g, cap, cur, rfl, hg, hh, hr⟩⟩ := h
 ·exact ⟨h0, .inl h⟩
 ·exact ⟨h0, .inr ⟨g, cap, cur, rfl, hg, hb g cur rfl hh, hr⟩⟩
theorem row11_lt {w : World} {B : Nat} {e : TypeId} {size : Nat} {v : Value} {n : Nat} {xs : List Value} (h : w.ownsRow B e size v n xs) : ∀ g, v.ownBlock = some g → B ≤ g ∧ ∃ cs, w.heap[g]? = some (.cells cs e (0, 0)) := fun g hg => by
 obtain ⟨_, h | ⟨g', cap, cur, rfl, hg', hh, _⟩⟩ := h
 ·obtain ⟨rfl, _⟩ := h; simp [Value.ownBlock] at hg
 ·simp [Value.ownBlock] at hg; subst hg; exact ⟨hg', cur, hh⟩
theorem row11_keep {w w' : World} {B : Nat} {e : TypeId} {size : Nat} {v : Value} {n : Nat} {xs : List Value} {L : Nat → Prop} (h : w.ownsRow B e size v n xs) (hk : Keep L w w') (hL : ∀ g, v.ownBlock = some g → ¬ L g) : w'.ownsRow B e size v n xs := row11_other h fun g _ hg hh => hk.heap hh (hL g hg)
theorem row11_low {w : World} {B B' : Nat} {e : TypeId} {size : Nat} {v : Value} {n : Nat} {xs : List Value} (h : w.ownsRow B e size v n xs) (hB : B' ≤ B) : w.ownsRow B' e size v n xs := by
 obtain ⟨h0, h | ⟨g, cap, cur, rfl, hg, hr⟩⟩ := h
 ·exact ⟨h0, .inl h⟩
 ·exact ⟨h0, .inr ⟨g, cap, cur, rfl, by omega, hr⟩⟩
structure Grown11 (v v' : Value) (w w' : World) : Prop where
 by_ : w.grownBy w' v.ownBlock
 blk : v'.ownBlock = v.ownBlock ∨ v'.ownBlock = some w.heap.size
theorem Grown11.keep {v v' : Value} {w w' : World} (h : Grown11 v v' w w') : Keep (fun i => v.ownBlock = some i) w w' := ⟨h.by_.os, h.by_.tape, h.by_.output, h.by_.size, fun i hi hl => h.by_.block i hi fun e => hl e.symm⟩
end
theorem x_t {P : Program} {ops : Array Oper} {Q : Exit → Act → World → Prop} {md : Region.Mode} {S : World → Prop} {i : Nat} {oi : Oper} {v : Value} {fuel : Nat} {listed : Array Bool} {a : Act} {w : World} (hi : ops[i]? = some oi) (hy : YieldsIf P ops S oi v a) (h : wpAnyH P md ops Q S fuel (listed.setIfInBounds i true) (a.put oi.dst v) w) (hs : Region.noSelect ops = true := by kernel_rfl) (hf : Region.free md ops listed i = true := by kernel_rfl) (hr : (Region.ready md ops listed).contains i = true := by kernel_rfl) (hQ : ∀ c a w, Q (.panic c) (a.put oi.dst v) w → Q (.panic c) a w := by exact fun _ _ _ h => h) (hS : S w := by assumption) : wpAnyH P md ops Q S (fuel + 1) listed a w := wpAnyH_take hi hs hf hr hQ hy hS h
theorem x_A {α : Type _} (l : List α) (i : Nat) (a : α) : l.toArray.setIfInBounds i a = (l.set i a).toArray := List.setIfInBounds_toArray ..
theorem x_0 {α : Type _} {x : α} {xs : List α} {a : α} : (x :: xs).set 0 a = a :: xs := rfl
theorem x_1 {α : Type _} {x : α} {xs : List α} {n : Nat} {a : α} : (x :: xs).set (n + 1) a = x :: xs.set n a := rfl
end Go.Proofs.YtmfbhohjpkmllaaGreatDoor
