import Derived.Test.YtmfbhohjpkmllaaGreatDoorIC
import Derived.Test.YtmfbhohjpkmllaaGreatDoorIH
import Derived.Test.YtmfbhohjpkmllaaGreatDoorIA
import Derived.Test.YtmfbhohjpkmllaaGreatDoorMM
import Derived.Test.YtmfbhohjpkmllaaGreatDoorLM
import Derived.Test.YtmfbhohjpkmllaaGreatDoorMR
import Derived.Test.YtmfbhohjpkmllaaGreatDoorM3
namespace Go.Proofs.YtmfbhohjpkmllaaGreatDoor
set_option linter.unusedSimpArgs false
set_option linter.unusedVariables false
set_option maxHeartbeats 16000000
set_option maxRecDepth 100000
section
open Go.RowKit
def flipL (p : List UInt8) (d : Nat) : List UInt8 := bmL (Bt.flipI (keyF p) d)
theorem flipL_len (p : List UInt8) (d : Nat) : (flipL p d).length = 32 := bmL_len _
theorem bit_flipL {p : List UInt8} {d i : Nat} (hd : d < 256) (hi : i < 256) : bitK (flipL p d) i = if i = d then 1 - bitK p d else bitK p i := by
 have hk : ∀ j, j < 32 → keyF (flipL p d) j = Bt.flip (keyF p) d j := fun j hj => by
  unfold flipL
  rw [keyF_bmL (Bt.flipI_byt (keyF_byt p) d) j hj]
  unfold Bt.flipI
  rw [if_pos (by omega), Int.toNat_natCast]
 have hb : Bt.bit (keyF (flipL p d)) i = Bt.bit (Bt.flip (keyF p) d) i := by
  unfold Bt.bit
  rw [hk (i / 8) (by omega)]
 rw [bitK_in _ (by omega) (by omega), Int.toNat_natCast, hb, Bt.bit_flip]
 by_cases h : i = d
 ·subst h
  rw [if_pos rfl, if_pos rfl, bitK_in _ (by omega) (by omega), Int.toNat_natCast]
  have := Bt.bit_lt (keyF p) i
  omega
 ·rw [if_neg h, if_neg h, bitK_in _ (by omega) (by omega), Int.toNat_natCast]
def below19 (ks : List (List UInt8)) (p : List UInt8) (d : Nat) : List (List UInt8) := ks.filter fun k => decide (d ≤ comK k p)
theorem someK_iff {ks : List (List UInt8)} {p : List UInt8} {d : Nat} : someK ks p d = true ↔ below19 ks p d ≠ [] := by
 unfold someK below19
 rw [List.any_eq_true]
 constructor
 ·rintro ⟨k, hk, hd⟩ h
  have : k ∈ ks.filter fun k => decide (d ≤ comK k p) := List.mem_filter.2 ⟨hk, hd⟩
  rw [h] at this
  cases this
 ·intro h
  obtain ⟨k, hk⟩ := List.exists_mem_of_ne_nil _ h
  exact ⟨k, (List.mem_filter.1 hk).1, (List.mem_filter.1 hk).2⟩
theorem bit01 (k : List UInt8) {d : Nat} (hd : d < 256) : bitK k d = 0 ∨ bitK k d = 1 := by
 rw [bitK_in _ (by omega) (by omega), Int.toNat_natCast]
 have := Bt.bit_lt (keyF k) d
 omega
theorem com_next {k p q : List UInt8} {d : Nat} (hd : d < 256) (h : ∀ j, j < d → bitK q j = bitK p j) : d + 1 ≤ comK k q ↔ d ≤ comK k p ∧ bitK k d = bitK q d := by
 rw [com_bits (by omega), com_bits (by omega)]
 constructor
 ·intro h2
  exact ⟨fun j hj => by rw [h2 j (by omega), h j hj], h2 d (by omega)⟩
 ·rintro ⟨h2, h3⟩ j hj
  rcases Nat.eq_or_lt_of_le (Nat.lt_succ_iff.1 hj) with rfl | hj
  ·exact h3
  ·rw [h2 j hj, h j hj]
theorem below_zero {ks : List (List UInt8)} {p : List UInt8} {d : Nat} (hd : d < 256) (hp : bitK p d = 0) : below19 ks p (d + 1) = side0 (below19 ks p d) d := by
 unfold below19 side0
 rw [List.filter_filter]
 refine List.filter_congr fun k _ => ?_
 have h := com_next (k := k) (p := p) (q := p) hd fun _ _ => rfl
 rw [hp] at h
 rw [Bool.eq_iff_iff, Bool.and_eq_true, decide_eq_true_eq, Bool.not_eq_true', decide_eq_false_iff_not, decide_eq_true_eq, h]
 rcases bit01 k hd with e | e <;> rw [e] <;> simp [and_comm]
theorem below_one {ks : List (List UInt8)} {p : List UInt8} {d : Nat} (hd : d < 256) (hp : bitK p d = 0) : below19 ks (flipL p d) (d + 1) = side1 (below19 ks p d) d := by
 unfold below19 side1
 rw [List.filter_filter]
 refine List.filter_congr fun k _ => ?_
 have h := com_next (k := k) (p := p) (q := flipL p d) hd fun j hj => by rw [bit_flipL hd (by omega), if_neg (by omega)]
 rw [bit_flipL hd hd, if_pos rfl, hp] at h
 rw [Bool.eq_iff_iff, Bool.and_eq_true, decide_eq_true_eq, decide_eq_true_eq, decide_eq_true_eq, h]
 simp [and_comm]
def prvR (n : Int) : Nat → List Ent → List (List UInt8) → List UInt8 → Nat → Mt
 | 0, m, ks, p, d => match m with
  | [] => .leaf itN
  | e :: _ => if someK ks p d = false then .leaf (itS (rootK (257 - d) n m d)) else .leaf (itF n e)
 | f + 1, m, ks, p, d => match m with
  | [] => .leaf itN
  | [e] => if someK ks p d = false then .leaf (itS (rootK (257 - d) n [e] d)) else .leaf (itF n e)
  | e :: e2 :: r => if someK ks p d = false then .leaf (itS (rootK (257 - d) n (e :: e2 :: r) d)) else .node itI (prvR n f (partK (e :: e2 :: r) d 0) ks p (d + 1)) (prvR n f (partK (e :: e2 :: r) d 1) ks (flipL p d) (d + 1))
theorem prvR_none (n : Int) (f : Nat) (ks : List (List UInt8)) (p : List UInt8) (d : Nat) : prvR n f [] ks p d = .leaf itN := by cases f <;> rfl
theorem prvR_side (n : Int) (f : Nat) {m : List Ent} (hm : m ≠ []) {ks : List (List UInt8)} {p : List UInt8} {d : Nat} (h : someK ks p d = false) : prvR n f m ks p d = .leaf (itS (rootK (257 - d) n m d)) := by
 match f, m, hm with
 | 0, e :: r, _ => show (if _ then _ else _) = _; rw [if_pos h]
 | f + 1, [e], _ => show (if _ then _ else _) = _; rw [if_pos h]
 | f + 1, e :: e2 :: r, _ => show (if _ then _ else _) = _; rw [if_pos h]
theorem prvR_one (n : Int) (f : Nat) (e : Ent) {ks : List (List UInt8)} {p : List UInt8} {d : Nat} (h : ¬ someK ks p d = false) : prvR n f [e] ks p d = .leaf (itF n e) := by
 cases f with
 | zero => show (if _ then _ else _) = _; rw [if_neg h]
 | succ f => show (if _ then _ else _) = _; rw [if_neg h]
theorem prvR_two (n : Int) (f : Nat) {m : List Ent} (hm : 2 ≤ m.length) {ks : List (List UInt8)} {p : List UInt8} {d : Nat} (h : ¬ someK ks p d = false) :
  prvR n (f + 1) m ks p d = .node itI (prvR n f (partK m d 0) ks p (d + 1)) (prvR n f (partK m d 1) ks (flipL p d) (d + 1)) := by
 match m, hm with
 | e :: e2 :: r, _ => show (if _ then _ else _) = _; rw [if_neg h]
theorem prvR_eq (n : Int) (ks : List (List UInt8)) : ∀ (f : Nat) (m : List Ent) (p : List UInt8) (d : Nat), d + f = 256 → (∀ i, d ≤ i → i < 256 → bitK p i = 0) → prvR n f m ks p d = prvM n f m (below19 ks p d) d
 | f, [], p, d, _, _ => by rw [prvR_none, prvM_none]
 | f, e :: r, p, d, hf, hp => by
  by_cases hs : someK ks p d = false
  ·have hb : below19 ks p d = [] := by
    rcases Classical.em (below19 ks p d = []) with h | h
    ·exact h
    ·have := someK_iff.2 h; rw [hs] at this; cases this
   rw [prvR_side n f (by simp) hs, hb, prvM_side n f (by simp)]
  ·have hb : below19 ks p d ≠ [] := someK_iff.1 (by simpa using hs)
   match f, r, hf with
   | 0, r, _ =>
    have h1 : prvR n 0 (e :: r) ks p d = .leaf (itF n e) := by show (if _ then _ else _) = _; rw [if_neg hs]
    have h2 : prvM n 0 (e :: r) (below19 ks p d) d = .leaf (itF n e) := by show (if _ then _ else _) = _; rw [if_neg hb]
    rw [h1, h2]
   | f + 1, [], _ => rw [prvR_one n _ e hs, prvM_one n _ e hb]
   | f + 1, e2 :: r, hf =>
    have hd : d < 256 := by omega
    have h0 := hp d (Nat.le_refl _) hd
    rw [prvR_two n f (by simp) hs, prvM_two n f (by simp) hb, prvR_eq n ks f _ p (d + 1) (by omega) (fun i h1 h2 => hp i (by omega) h2),
     prvR_eq n ks f _ (flipL p d) (d + 1) (by omega) (fun i h1 h2 => by rw [bit_flipL hd h2, if_neg (by omega)]; exact hp i (by omega) h2), below_zero hd h0, below_one hd h0]
theorem bit_z26 {i : Nat} (hi : i < 256) : bitK z26 i = 0 := by
 rw [bitK_in _ (by omega) (by omega), Int.toNat_natCast]
 have hz : keyF z26 (i / 8) = 0 := by
  unfold keyF z26
  rw [List.getD_eq_getElem?_getD, List.getElem?_replicate, if_pos (by omega)]; rfl
 have : Bt.bit (keyF z26) i = 0 := by
  unfold Bt.bit
  rw [hz]
  simp
 rw [this]; rfl
theorem prvR_all (n : Int) (m : List Ent) (ks : List (List UInt8)) : prvR n 256 m ks z26 0 = prvM n 256 m ks 0 := by
 rw [prvR_eq n ks 256 m z26 0 rfl fun i _ h => bit_z26 h]
 congr 1
 unfold below19
 exact List.filter_eq_self.2 fun k _ => decide_eq_true (Nat.zero_le _)
end
section
open Go.RowKit
noncomputable def bsI (w : World) (n : Nat) (parts : Array (Nat × Value)) : Result Next := Sem.run Tryz.prog (do pure (.value (← Instr.buildSlice 30 n parts))) w
@[go_sem ↓] theorem execOp_buildSliceI (ρ : Operand → Value) (dst : Option Tmp) (n : Nat) (parts : Array (Nat × Operand)) (type : TypeId) (pos : String) (after : Array Edge) (guard : Option (Nat × Bool)) (w : World) :
  Sem.run Tryz.prog (execOp ρ { dst, op := .buildSlice 30 n parts, type, pos, after, guard }) w = bsI w n (parts.map fun x => (x.1, ρ x.2)) := rfl
theorem bsI_f (k : Int) (f g : Nat → UInt8) (w : World) : bsI w 1 #[(0, .agg (itC ⟨k, (List.range 32).map f, (List.range 64).map g⟩))] = .ok (.value (.slice (some ⟨w.heap.size, 0, none⟩) 1 1)) (w.alloc (.cells (itC ⟨k, (List.range 32).map f, (List.range 64).map g⟩) 59)) := by kernel_rfl
theorem bsI_one (x : It) (hx : x.Ok) (w : World) : bsI w 1 #[(0, .agg (itC x))] = .ok (.value (.slice (some ⟨w.heap.size, 0, none⟩) 1 1)) (w.alloc (.cells (itC x) 59)) := by
 have h := bsI_f x.k (fun j => x.d.getD j 0) (fun j => x.lf.getD j 0) w
 rw [← list32 x.d hx.d, ← list64i x.lf hx.lf] at h
 exact h
theorem own_oneI (w : World) (x : It) (hx : x.Ok) : OwnIt (w.alloc (.cells (itC x) 59)) w.heap.size (.slice (some ⟨w.heap.size, 0, none⟩) 1 1) [x] := by
 have hl : ([x].flatMap itL).length = 97 := by simp [itL_len hx]
 refine ⟨hl, .inr ⟨w.heap.size, 1, itC x, rfl, Nat.le_refl _, heap_alloc_new w _, Nat.le_refl _, by unfold maxLen; omega, itC_size hx, ?_⟩⟩
 have : (itC x).toList = [x].flatMap itL := by simp [itC]
 rw [this, List.take_of_length_le (by rw [hl]; exact Nat.le_refl _)]
theorem flatI_len {l : List It} (hl : ∀ x ∈ l, x.Ok) : (l.flatMap itL).length = l.length * 97 := by
 induction l with
 | nil => rfl
 | cons x r ih =>
  rw [List.flatMap_cons, List.length_append, itL_len (hl x (by simp)), ih fun y hy => hl y (by simp [hy]), List.length_cons]
  omega
theorem flatI_inv {l : List It} (hl : ∀ x ∈ l, x.Ok) {j : Nat} {v : Value} (h : (l.flatMap itL)[j]? = some v) : ∃ x, l[j / 97]? = some x ∧ (itL x)[j % 97]? = some v := by
 induction l generalizing j with
 | nil => simp at h
 | cons x r ih =>
  have hx := itL_len (hl x (by simp))
  rw [List.flatMap_cons] at h
  rcases Nat.lt_or_ge j 97 with hj | hj
  ·rw [List.getElem?_append_left (by omega)] at h
   exact ⟨x, by rw [Nat.div_eq_of_lt hj]; rfl, by rw [Nat.mod_eq_of_lt hj]; exact h⟩
  ·rw [List.getElem?_append_right (by omega), hx] at h
   obtain ⟨y, h1, h2⟩ := ih (fun z hz => hl z (by simp [hz])) h
   refine ⟨y, ?_, ?_⟩
   ·rw [show j / 97 = (j - 97) / 97 + 1 by omega, List.getElem?_cons_succ]; exact h1
   ·rw [show j % 97 = (j - 97) % 97 by omega]; exact h2
theorem wpList_catI {ops : Array Oper} {rest : List Oper} {o : Oper} {a : Act} {w : World} {Q : Exit → Act → World → Prop} (hgd : o.guard = none) (s x : Operand)
  (ho : o.op = .call { callee := .builtin .append, args := #[s, x], argTypes := #[30, 30] }) (B : Nat) (v : Value) (l : List It) (hs : a.eval s = v) (hown : OwnIt w B v l) (A : Option Addr) (c : Nat) (m : List It)
  (hx : a.eval x = .slice A m.length c) (hm : IA w A m) (hp : 0 < m.length) (hl : l.length + m.length ≤ 10000000) (hB : B ≤ w.heap.size)
  (h : ∀ v' w', OwnIt w' B v' (l ++ m) → Below B w w' → wpList Tryz.prog ops Q rest (a.put o.dst v') w') : wpList Tryz.prog ops Q (o :: rest) a w := by
 obtain ⟨i0, hi, hz0, hz1, hz2⟩ := info_parts infoIt3
 obtain ⟨g, o2, rfl, hr⟩ := hm.addr hp
 refine wpList_append_own_at (w := w) hgd s x 30 ho B 59 i0 _ 97 104 Tryz.underlying30 hi hz0 hz1 hz2 rfl (by decide) v l.length (l.flatMap itL) hs hown ⟨g, o2, none⟩ m.length c (m.flatMap itL) hx (flatI_len hm.ok)
  (fun j u hj => ?_) (fun u hu => ?_) (by unfold maxLen; omega) (by omega) hB fun v' w' h1 h2 _ h4 => h v' w' ?_ ((Below.refl _ _).grown h2 hB hown.ge)
 ·obtain ⟨y, h1, h2⟩ := flatI_inv hm.ok hj
  have := hr _ y h1 _ u h2
  rw [show (⟨g, o2, none⟩ : Addr).add j = ⟨g, o2 + j, none⟩ from add_none g o2 j, show o2 + j = o2 + j / 97 * 97 + j % 97 by omega]
  exact this
 ·obtain ⟨y, hy, h2⟩ := List.mem_flatMap.1 hu
  exact itL_one h2
 ·unfold OwnIt
  rw [List.flatMap_append, List.length_append]
  exact h1
theorem partK_both (l : List Ent) (d : Int) : (partK l d 0).length + (partK l d 1).length ≤ l.length := by
 unfold partK
 induction l with
 | nil => simp
 | cons e r ih =>
  by_cases h0 : bitK e.k d = 0
  ·rw [List.filter_cons_of_pos (by simpa using h0), List.filter_cons_of_neg (by simp; omega)]; simp; omega
  ·by_cases h1 : bitK e.k d = 1
   ·rw [List.filter_cons_of_neg (by simpa using h0), List.filter_cons_of_pos (by simpa using h1)]; simp; omega
   ·rw [List.filter_cons_of_neg (by simpa using h0), List.filter_cons_of_neg (by simpa using h1)]; simp; omega
theorem prvR_len (n : Int) (ks : List (List UInt8)) : ∀ (f : Nat) (m : List Ent) (p : List UInt8) (d : Nat), (prvR n f m ks p d).flat.length ≤ 1 + 2 * f * m.length
 | f, [], p, d => by rw [prvR_none]; simp [Mt.flat]
 | 0, e :: r, p, d => by
  by_cases hs : someK ks p d = false
  ·rw [prvR_side n _ (by simp) hs]; simp [Mt.flat]
  ·rw [show prvR n 0 (e :: r) ks p d = .leaf (itF n e) by show (if _ then _ else _) = _; rw [if_neg hs]]; simp [Mt.flat]
 | f + 1, [e], p, d => by
  by_cases hs : someK ks p d = false
  ·rw [prvR_side n _ (by simp) hs]; simp [Mt.flat]
  ·rw [prvR_one n _ e hs]; simp [Mt.flat]
 | f + 1, e :: e2 :: r, p, d => by
  by_cases hs : someK ks p d = false
  ·rw [prvR_side n _ (by simp) hs]; simp [Mt.flat]
  ·rw [prvR_two n f (by simp) hs]
   have h0 := prvR_len n ks f (partK (e :: e2 :: r) d 0) p (d + 1)
   have h1 := prvR_len n ks f (partK (e :: e2 :: r) d 1) (flipL p d) (d + 1)
   have hb := partK_both (e :: e2 :: r) d
   have hl : 2 ≤ (e :: e2 :: r).length := by simp
   generalize hm : (e :: e2 :: r) = m at *
   have h2 : 2 * f * (partK m d 0).length + 2 * f * (partK m d 1).length ≤ 2 * f * m.length := by rw [← Nat.mul_add]; exact Nat.mul_le_mul_left _ hb
   have h3 : 2 * (f + 1) * m.length = 2 * f * m.length + 2 * m.length := by rw [Nat.mul_add, Nat.add_mul]
   simp only [Mt.flat, List.length_cons, List.length_append]
   omega
theorem itS_ok {g : List UInt8} (h : g.length = 32) : (itS g).Ok := ⟨h, rfl⟩
theorem itF_ok {n : Int} {e : Ent} (h : e.k.length = 32) : (itF n e).Ok := ⟨rfl, by show (e.k ++ digL n (valL e.v)).length = 64; rw [List.length_append, h, dig_len]⟩
theorem prvR_oks (n : Int) (ks : List (List UInt8)) : ∀ (f : Nat) (m : List Ent) (p : List UInt8) (d : Nat), (∀ e ∈ m, e.k.length = 32) → ∀ x ∈ (prvR n f m ks p d).flat, x.Ok
 | f, [], p, d, _, x, hx => by
  rw [prvR_none] at hx
  rw [List.mem_singleton.1 hx]; exact ⟨rfl, rfl⟩
 | f, e :: r, p, d, hm, x, hx => by
  by_cases hs : someK ks p d = false
  ·rw [prvR_side n f (by simp) hs] at hx
   rw [List.mem_singleton.1 hx]; exact itS_ok (rootK_len _ _ _ _)
  ·match f, r, hm, hx with
   | 0, r, hm, hx =>
    have h1 : prvR n 0 (e :: r) ks p d = .leaf (itF n e) := by show (if _ then _ else _) = _; rw [if_neg hs]
    rw [h1] at hx
    rw [List.mem_singleton.1 hx]; exact itF_ok (hm e (by simp))
   | f + 1, [], hm, hx =>
    rw [prvR_one n _ e hs] at hx
    rw [List.mem_singleton.1 hx]; exact itF_ok (hm e (by simp))
   | f + 1, e2 :: r, hm, hx =>
    rw [prvR_two n f (by simp) hs] at hx
    rcases List.mem_cons.1 hx with rfl | hx
    ·exact ⟨rfl, rfl⟩
    rcases List.mem_append.1 hx with hx | hx
    ·exact prvR_oks n ks f _ _ _ (fun y hy => hm y (List.mem_filter.1 hy).1) x hx
    ·exact prvR_oks n ks f _ _ _ (fun y hy => hm y (List.mem_filter.1 hy).1) x hx
end
section
open Go.RowKit
theorem kc_bmL19 {k : Nat → Nat} (hk : Bt.Byt k) : Bt.kc k = bA (bmL k) := by
 rw [bA_key _ (bmL_len k)]
 exact Bt.kc_congr fun j hj => (keyF_bmL hk j hj).symm
theorem flip19_c (p : List UInt8) (hp : p.length = 32) (d : Nat) (w : World) : Calls Tryz.prog 44 #[.agg (bA p), .int .i64 d] w fun e w' => e = .returned (.agg (bA (flipL p d))) ∧ Below w.heap.size w w' := by
 rw [bA_key p hp]
 unfold flipL
 rw [← kc_bmL19 (Bt.flipI_byt (keyF_byt p) d)]
 exact Bt.rflip_c (keyF p) (keyF_byt p) d w
theorem rprove19_few (n : Int) (B : Option Addr) (cb : Nat) (ks : List (List UInt8)) (hn : ks.length ≤ 100000) (f d : Nat) (hd : d ≤ 256) (A : Option Addr) (c : Nat) (es : List En) (p : List UInt8) (w : World) (hA : EA w A es) (hK : KS w B ks) (hl : es.length ≤ 1000) (hv : ∀ e ∈ es, e.v.length ≤ 1000) (hp : p.length = 32) (h2 : es.length < 2 ∨ someK ks p d = false) :
  Calls Tryz.prog 16 #[.int .i64 n, .slice A es.length c, .slice B ks.length cb, .agg (bA p), .int .i64 d] w fun e w' => ∃ v, e = .returned v ∧ OwnIt w' w.heap.size v (prvR n f (es.map En.ent) ks p d).flat ∧ Below w.heap.size w w' := by
 obtain ⟨X, hX⟩ : ∃ X, X = w.alloc (.cells (bA p) 39) := ⟨_, rfl⟩
 have hb0 : Below w.heap.size w X := by rw [hX]; exact Bt.one_below _ _
 have HR0 : Hid (RowB X w.heap.size 39 p) := by show RowB _ _ _ _; rw [hX]; exact RowB.alloc w p _
 have HX := Lib.hid hX
 have HB0 := Lib.hid hb0
 have HA := Lib.hid (hA.below hb0)
 have HV := Lib.hid hv
 have hSM := rsome19_c B cb ks p hp d X (hK.below hb0) hn
 have lk := HR0.out.ldKey hp
 rw [hX] at lk
 rcases Nat.eq_zero_or_pos es.length with h0 | h0
 ·obtain rfl : es = [] := List.length_eq_zero_iff.1 h0
  rw [show prvR n f (([] : List En).map En.ent) ks p d = .leaf itN from prvR_none n f ks p d]
  have bi : ∀ w, bldA 59 w #[(0, .int .i64 0)] = .ok (.value (.agg (itC itN))) w := bldIt_k 0
  have bs := bsI_one itN ⟨rfl, rfl⟩
  have HXE : Hid (X = w.alloc (.cells (bA p) 39)) := hX
  clear hX hb0 hA hK hv hp hl h2 h0 hSM lk
  go_enter Tryz.func16, Tryz.ntmps16
  go_wp2_with fail
  rw [← HXE.out]
  go_ret
  have hz : w.heap.size + 1 = X.heap.size := by rw [HXE.out]; simp
  have h := own_oneI X itN ⟨rfl, rfl⟩
  rw [← hz] at h
  exact ⟨_, rfl, h.mono (Nat.le_succ _), HB0.out.alloc HB0.out.size _⟩
 have d0 : ¬ (es.length = 0) := by omega
 by_cases hsm : someK ks p d = false
 ·rw [prvR_side n f (fun h => by rw [List.map_eq_nil_iff.1 h] at h0; simp at h0) hsm]
  rw [hsm] at hSM
  have HSM := Lib.hid hSM
  obtain ⟨g, hg⟩ : ∃ g, g = rootK (257 - d) n (es.map En.ent) d := ⟨_, rfl⟩
  have HGL : Hid (g.length = 32) := by show _ = _; rw [hg]; exact rootK_len _ _ _ _
  have HRT : Hid (∀ q, Below X.heap.size X q → Calls Tryz.prog 29 #[.int .i64 n, .slice A es.length c, .int .i64 d] q fun e w' => e = .returned (.agg (bA g)) ∧ Below q.heap.size q w') := fun q h => by
   have := root7_c n (257 - d) A c es d q (HA.out.below h) (by omega) HV.out (.inr ⟨by omega, by omega, by omega⟩)
   rw [← hg] at this
   exact this
  rw [← hg]
  have bi : ∀ w, bldA 59 w #[(0, .int .i64 3), (1, .agg (bA g))] = .ok (.value (.agg (itC (itS g)))) w := bldIt_kd 3 g HGL.out
  have bs := bsI_one (itS g) (itS_ok HGL.out)
  clear hX hb0 hA hK hv hp hl h2 h0 hSM hsm hg
  go_enter Tryz.func16, Tryz.ntmps16
  go_wp2_with fail
  rw [← HX.out]
  refine HSM.out.mono ?_
  rintro _ w1 ⟨rfl, hb1⟩
  have HB1 := Lib.hid hb1
  clear hb1 lk HSM
  go_wp2_with fail
  refine (HRT.out w1 HB1.out).mono ?_
  rintro _ w2 ⟨rfl, hb2⟩
  have HB2 : Hid (Below X.heap.size X w2) := HB1.out.trans (hb2.mono HB1.out.size)
  clear hb2 HRT
  go_wp2_with fail
  go_ret
  exact ⟨_, rfl, (own_oneI w2 (itS g) (itS_ok HGL.out)).mono (Nat.le_trans HB0.out.size HB2.out.size), HB0.out.trans ((HB2.out.alloc HB2.out.size _).mono HB0.out.size)⟩
 have h1 : es.length = 1 := by
  rcases h2 with h | h
  ·omega
  ·exact absurd h hsm
 obtain ⟨e, rfl⟩ := List.length_eq_one_iff.1 h1
 have hst : someK ks p d = true := by simpa using hsm
 rw [hst] at hSM
 have HSM := Lib.hid hSM
 rw [show prvR n f ([e].map En.ent) ks p d = .leaf (itF n e.ent) from prvR_one n f e.ent hsm]
 obtain ⟨hok, g, o, rfl, hr⟩ := HA.out 0 e rfl
 rw [Nat.zero_mul, Nat.add_zero] at hr
 have HOK := Lib.hid hok
 have HRG := Lib.hid hr
 have HKE : Hid (e.ent.k.length = 32) := hok.key
 have hev := hv e (by simp)
 have HLOX : Hid (∀ q, Below X.heap.size X q → Calls Tryz.prog 42 #[.int .i64 n, .agg (bA e.k), .slice e.A e.v.length e.c] q fun y w' => y = .returned (.agg (bA (e.k ++ digL n (valL e.v)))) ∧ Below q.heap.size q w') := fun q h => rleafof_c n e.k e.A e.c e.v q hok.key (hok.val.below h) hev
 have hlf : (e.k ++ digL n (valL e.v)).length = 64 := by rw [List.length_append, hok.key, dig_len]
 have bi : ∀ w, bldA 59 w #[(0, .int .i64 1), (2, .agg (bA (e.k ++ digL n (valL e.v))))] = .ok (.value (.agg (itC (itF n e.ent)))) w := bldIt_kl 1 _ hlf
 have bs := bsI_one (itF n e.ent) (itF_ok HKE.out)
 clear hX hb0 hA hK hv hp hl h2 h0 hSM hsm hst h1 hok hr hev hlf d0
 go_enter Tryz.func16, Tryz.ntmps16
 go_wp2_with fail
 rw [← HX.out]
 refine HSM.out.mono ?_
 rintro _ w1 ⟨rfl, hb1⟩
 have HB1 := Lib.hid hb1
 have HBX : Hid (∀ q, Below w1.heap.size w1 q → Below X.heap.size X q) := fun q h => HB1.out.trans (h.mono HB1.out.size)
 have HLO : Hid (∀ q, Below w1.heap.size w1 q → Calls Tryz.prog 42 #[.int .i64 n, .agg (bA e.k), .slice e.A e.v.length e.c] q fun y w' => y = .returned (.agg (bA (e.k ++ digL n (valL e.v)))) ∧ Below q.heap.size q w') := fun q h => HLOX.out q (HBX.out q h)
 have LKE : Hid (∀ q, Below w1.heap.size w1 q → ldA 39 q (.pointer (some ⟨g, o, none⟩)) = .ok (.value (.agg (bA e.k))) q) := fun q h => range_key (range_below HRG.out (HBX.out q h)) HOK.out.key
 have LVE : Hid (∀ q, Below w1.heap.size w1 q → q.cell? ⟨g, o + 32, none⟩ = some (.slice e.A e.v.length e.c)) := fun q h => range_val (range_below HRG.out (HBX.out q h)) HOK.out.key
 clear hb1 lk HSM HLOX
 go_wp2_with fail
 refine region_heldT 12 (fun q => Below w1.heap.size w1 q) (by kernel_rfl) ?_
 have hHeld : Below w1.heap.size w1 w1.drew := (Below.refl _ _).drew
 refine HeldT.take (i := 0) (oi := { dst := some 31, op := .move (.tmp 0), .. }) (v := ?_) rfl (by kernel_rfl) (by kernel_rfl) (by kernel_rfl) (by kernel_rfl) (fun _ _ _ h => h) (Or.inl ⟨by rfl, ?_⟩) (by assumption) ?_
 rotate_left 1
 ·intro v hSv
  clear hSv
  go_simp
  try with_reducible rfl
 try simp only [Act.put, x_A, x_0, x_1]
 refine HeldT.take (i := 1) (oi := { dst := some 32, op := .move (.tmp 1), .. }) (v := ?_) rfl (by kernel_rfl) (by kernel_rfl) (by kernel_rfl) (by kernel_rfl) (fun _ _ _ h => h) (Or.inl ⟨by rfl, ?_⟩) (by assumption) ?_
 rotate_left 1
 ·intro v hSv
  clear hSv
  go_simp
  try with_reducible rfl
 try simp only [Act.put, x_A, x_0, x_1]
 refine HeldT.take (i := 2) (oi := { dst := some 33, op := .indexAddr _ (.tmp 32) (.const (.int .i64 0)), .. }) (v := ?_) rfl (by kernel_rfl) (by kernel_rfl) (by kernel_rfl) (by kernel_rfl) (fun _ _ _ h => h) (Or.inl ⟨by rfl, ?_⟩) (by assumption) ?_
 rotate_left 1
 ·intro v hSv
  clear hSv
  go_simp
  try with_reducible rfl
 try simp only [Act.put, x_A, x_0, x_1]
 refine HeldT.take (i := 3) (oi := { dst := some 34, op := .fieldAddr _ (.tmp 33) 0, .. }) (v := ?_) rfl (by kernel_rfl) (by kernel_rfl) (by kernel_rfl) (by kernel_rfl) (fun _ _ _ h => h) (Or.inl ⟨by rfl, ?_⟩) (by assumption) ?_
 rotate_left 1
 ·intro v hSv
  clear hSv
  go_simp
  try with_reducible rfl
 try simp only [Act.put, x_A, x_0, x_1]
 refine HeldT.take (i := 4) (oi := { dst := some 35, op := .load _ (.tmp 34), .. }) (v := ?_) rfl (by kernel_rfl) (by kernel_rfl) (by kernel_rfl) (by kernel_rfl) (fun _ _ _ h => h) (Or.inl ⟨by rfl, ?_⟩) (by assumption) ?_
 rotate_left 1
 ·intro v hSv
  have hv1 := LKE.out v hSv
  clear hSv
  go_simp
  try with_reducible rfl
 try simp only [Act.put, x_A, x_0, x_1]
 refine HeldT.take (i := 5) (oi := { dst := some 36, op := .move (.tmp 1), .. }) (v := ?_) rfl (by kernel_rfl) (by kernel_rfl) (by kernel_rfl) (by kernel_rfl) (fun _ _ _ h => h) (Or.inl ⟨by rfl, ?_⟩) (by assumption) ?_
 rotate_left 1
 ·intro v hSv
  clear hSv
  go_simp
  try with_reducible rfl
 try simp only [Act.put, x_A, x_0, x_1]
 refine HeldT.take (i := 6) (oi := { dst := some 37, op := .indexAddr _ (.tmp 36) (.const (.int .i64 0)), .. }) (v := ?_) rfl (by kernel_rfl) (by kernel_rfl) (by kernel_rfl) (by kernel_rfl) (fun _ _ _ h => h) (Or.inl ⟨by rfl, ?_⟩) (by assumption) ?_
 rotate_left 1
 ·intro v hSv
  clear hSv
  go_simp
  try with_reducible rfl
 try simp only [Act.put, x_A, x_0, x_1]
 refine HeldT.take (i := 7) (oi := { dst := some 38, op := .fieldAddr _ (.tmp 37) 1, .. }) (v := ?_) rfl (by kernel_rfl) (by kernel_rfl) (by kernel_rfl) (by kernel_rfl) (fun _ _ _ h => h) (Or.inl ⟨by rfl, ?_⟩) (by assumption) ?_
 rotate_left 1
 ·intro v hSv
  clear hSv
  go_simp
  try with_reducible rfl
 try simp only [Act.put, x_A, x_0, x_1]
 refine HeldT.take (i := 8) (oi := { dst := some 39, op := .load _ (.tmp 38), .. }) (v := ?_) rfl (by kernel_rfl) (by kernel_rfl) (by kernel_rfl) (by kernel_rfl) (fun _ _ _ h => h) (Or.inl ⟨by rfl, ?_⟩) (by assumption) ?_
 rotate_left 1
 ·intro v hSv
  have hv1 := LVE.out v hSv
  clear hSv
  go_simp
  try with_reducible rfl
 try simp only [Act.put, x_A, x_0, x_1]
 refine HeldT.one (i := 9) (o := { dst := some 40, op := .call _, .. }) (by kernel_rfl) rfl rfl (fun K hK => ?_)
 go_wp2_with fail
 refine (HLO.out _ hHeld).mono ?_
 rintro e y1 ⟨rfl, hbp⟩
 have hq : Below w1.heap.size w1 y1 := hHeld.trans (hbp.mono hHeld.size)
 have HQ1 := Lib.hid hq
 clear hbp
 go_wp2_with fail
 refine hK.out _ _ (fun _ => hq) (fun hS => ?_)
 have hHeld := hS (by decide)
 clear hS hK K
 try simp only [Act.put, x_A, x_0, x_1]
 clear hq
 refine HeldT.take (i := 10) (oi := { dst := some 41, op := .build _ #[(0, .const (.int .i64 1)), (2, .tmp 40)], .. }) (v := ?_) rfl (by kernel_rfl) (by kernel_rfl) (by kernel_rfl) (by kernel_rfl) (fun _ _ _ h => h) (Or.inl ⟨by rfl, ?_⟩) (by assumption) ?_
 rotate_left 1
 ·intro v hSv
  clear hSv
  go_simp
  try with_reducible rfl
 try simp only [Act.put, x_A, x_0, x_1]
 refine HeldT.one (i := 11) (o := { dst := some 42, op := .buildSlice _ _ _, .. }) (by kernel_rfl) rfl rfl (fun K hK => ?_)
 obtain ⟨Z, hZ⟩ : ∃ Z, Z = y1.alloc (.cells (itC (itF n e.ent)) 59) := ⟨_, rfl⟩
 have hq : Below w1.heap.size w1 Z := by rw [hZ]; exact HQ1.out.alloc HQ1.out.size _
 have hOz : OwnIt Z y1.heap.size (.slice (some ⟨y1.heap.size, 0, none⟩) 1 1) [itF n e.ent] := by rw [hZ]; exact own_oneI y1 _ (itF_ok HKE.out)
 have HOZ := Lib.hid hOz
 have HQZ := Lib.hid hq
 have HZ := Lib.hid hZ
 clear hZ hOz
 go_wp2_with fail
 rw [← HZ.out]
 refine hK.out _ _ (fun _ => hq) (fun hS => ?_)
 have hHeld := hS (by decide)
 clear hS hK K
 try simp only [Act.put, x_A, x_0, x_1]
 clear hq HZ
 refine HeldT.one (i := 12) (o := { dst := some 10, op := .assign (.tmp 42), .. }) (by kernel_rfl) rfl rfl (fun K hK => ?_)
 go_wp2_with fail
 refine hK.out _ _ (fun h => absurd rfl h) (fun _ => ?_)
 clear hK K
 refine HeldT.done (by kernel_rfl) ?_ _
 go_wp2_with fail
 go_ret
 exact ⟨_, rfl, HOZ.out.mono (Nat.le_trans HB0.out.size (Nat.le_trans HB1.out.size HQ1.out.size)), HB0.out.trans ((HBX.out _ HQZ.out).mono HB0.out.size)⟩
theorem rprove19_c (n : Int) (B : Option Addr) (cb : Nat) (ks : List (List UInt8)) (hn : ks.length ≤ 100000) : ∀ (f d : Nat), d + f = 256 → ∀ (A : Option Addr) (c : Nat) (es : List En) (p : List UInt8) (w : World), EA w A es → KS w B ks → es.length ≤ 1000 → (∀ e ∈ es, e.v.length ≤ 1000) → p.length = 32 → Sep (d : Int) (es.map En.ent) →
  Calls Tryz.prog 16 #[.int .i64 n, .slice A es.length c, .slice B ks.length cb, .agg (bA p), .int .i64 d] w fun e w' => ∃ v, e = .returned v ∧ OwnIt w' w.heap.size v (prvR n f (es.map En.ent) ks p d).flat ∧ Below w.heap.size w w' := by
 intro f
 induction f with
 | zero =>
  intro d hd A c es p w hA hK hl hv hp hs
  refine rprove19_few n B cb ks hn 0 d (by omega) A c es p w hA hK hl hv hp (.inl ?_)
  rcases Nat.lt_or_ge es.length 2 with h | h
  ·exact h
  ·have := hs.two (by rw [List.length_map]; exact h)
   omega
 | succ f ih =>
 intro d hdf A c es p w hA hK hl hv hp hs
 by_cases hfew : es.length < 2 ∨ someK ks p d = false
 ·exact rprove19_few n B cb ks hn (f + 1) d (by omega) A c es p w hA hK hl hv hp hfew
 have h2 : ¬ es.length < 2 := fun h => hfew (.inl h)
 have hsm : ¬ someK ks p d = false := fun h => hfew (.inr h)
 obtain ⟨X, hX⟩ : ∃ X, X = w.alloc (.cells (bA p) 39) := ⟨_, rfl⟩
 have hb0 : Below w.heap.size w X := by rw [hX]; exact Bt.one_below _ _
 have HR0 : Hid (RowB X w.heap.size 39 p) := by show RowB _ _ _ _; rw [hX]; exact RowB.alloc w p _
 have HX := Lib.hid hX
 have HB0 := Lib.hid hb0
 have HA := Lib.hid (hA.below hb0)
 have HK := Lib.hid (hK.below hb0)
 have HL := Lib.hid hl
 have HV := Lib.hid hv
 have HP := Lib.hid hp
 have HSEP := Lib.hid hs
 have HDF := Lib.hid hdf
 have lk := HR0.out.ldKey hp
 rw [hX] at lk
 clear hX hb0 hA hK hv hp hs
 have d0 : ¬ (es.length = 0) := by omega
 have d1 : ¬ (es.length = 1) := by omega
 have HSM := Lib.hid (rsome19_c B cb ks p HP.out d X HK.out hn)
 have hst : someK ks p d = true := by simpa using hsm
 rw [hst] at HSM
 rw [prvR_two n f (by rw [List.length_map]; omega) hsm]
 obtain ⟨U0, hU0⟩ : ∃ U, U = prvR n f (partK (es.map En.ent) d 0) ks p (d + 1) := ⟨_, rfl⟩
 obtain ⟨U1, hU1⟩ : ∃ U, U = prvR n f (partK (es.map En.ent) d 1) ks (flipL p d) (d + 1) := ⟨_, rfl⟩
 rw [← hU0, ← hU1]
 obtain ⟨D, hD⟩ : ∃ D, D = d + 1 := ⟨_, rfl⟩
 have w1d : IntKind.i64.wrap ((d : Int) + 1) = (D : Int) := by rw [wrap19 (by omega) (by omega)]; omega
 have hlen : ∀ e ∈ es.map En.ent, e.k.length = 32 := HSEP.out.len
 have HOK0 : Hid (∀ x ∈ U0.flat, x.Ok) := by show ∀ x ∈ U0.flat, x.Ok; rw [hU0]; exact prvR_oks n ks f _ _ _ fun e he => hlen e (List.mem_filter.1 he).1
 have HOK1 : Hid (∀ x ∈ U1.flat, x.Ok) := by show ∀ x ∈ U1.flat, x.Ok; rw [hU1]; exact prvR_oks n ks f _ _ _ fun e he => hlen e (List.mem_filter.1 he).1
 have hp0 := partK_len (es.map En.ent) d 0
 have hp1 := partK_len (es.map En.ent) d 1
 rw [List.length_map] at hp0 hp1
 have hlb : ∀ m : List Ent, m.length ≤ 1000 → 2 * f * m.length ≤ 512000 := fun m hm => by
  have h1 : 2 * f ≤ 512 := by omega
  exact Nat.le_trans (Nat.mul_le_mul h1 hm) (by decide)
 have HLN0 : Hid (U0.flat.length ≤ 600000) := by show _ ≤ _; rw [hU0]; have := prvR_len n ks f (partK (es.map En.ent) d 0) p (d + 1); have := hlb _ (Nat.le_trans hp0 hl); omega
 have HLN1 : Hid (U1.flat.length ≤ 600000) := by show _ ≤ _; rw [hU1]; have := prvR_len n ks f (partK (es.map En.ent) d 1) (flipL p d) (d + 1); have := hlb _ (Nat.le_trans hp1 hl); omega
 have hq0 : ∀ b : Int, 0 ≤ b → Sep (D : Int) ((partE es d b).map En.ent) := fun b _ => by
  rw [partE_ent, hD]
  have := HSEP.out.part (by omega) (by omega) b
  exact_mod_cast this
 have HRCX : Hid (∀ (b : Int) (p' : List UInt8) (q : World) (A' : Option Addr) (c' : Nat), 0 ≤ b → p'.length = 32 → Below X.heap.size X q → EA q A' (partE es d b) → Calls Tryz.prog 16 #[.int .i64 n, .slice A' (partE es d b).length c', .slice B ks.length cb, .agg (bA p'), .int .i64 D] q fun e w' => ∃ v, e = .returned v ∧ OwnIt w' q.heap.size v (prvR n f (partK (es.map En.ent) d b) ks p' D).flat ∧ Below q.heap.size q w') := fun b p' q A' c' hb hp' hq hE => by
  have := ih D (by omega) A' c' (partE es d b) p' q hE (HK.out.below hq) (Nat.le_trans (partE_len _ _ _) hl) (fun e he => HV.out e (partE_mem he)) hp' (hq0 b hb)
  rw [partE_ent] at this
  exact this
 rw [← hD] at hU0 hU1
 have HU0 := Lib.hid hU0
 have HU1 := Lib.hid hU1
 have HFL := Lib.hid (fun w => flip19_c p HP.out d w)
 have bi := bldIt_k 2
 have bs : ∀ w, bsI w 1 #[(0, .agg (itC ⟨2, z26, z64⟩))] = .ok (.value (.slice (some ⟨w.heap.size, 0, none⟩) 1 1)) (w.alloc (.cells (itC ⟨2, z26, z64⟩) 59)) := bsI_one itI ⟨rfl, rfl⟩
 clear ih hfew hsm hst hU0 hU1 hlen hp0 hp1 hlb hq0 h2 hdf hl hD
 go_enter Tryz.func16, Tryz.ntmps16
 go_wp2_with fail
 rw [← HX.out]
 refine HSM.out.mono ?_
 rintro _ w1 ⟨rfl, hb1⟩
 have HB1 := Lib.hid hb1
 obtain ⟨Y, hY⟩ : ∃ Y, Y = w1.alloc (.cells (itC ⟨2, z26, z64⟩) 59) := ⟨_, rfl⟩
 have HQY : Hid (Below w1.heap.size w1 Y) := by show Below _ _ _; rw [hY]; exact Bt.one_below _ _
 have HOUT : Hid (OwnIt Y.drew w1.heap.size (.slice (some ⟨w1.heap.size, 0, none⟩) 1 1) [itI]) := by
  have h : OwnIt Y w1.heap.size (.slice (some ⟨w1.heap.size, 0, none⟩) 1 1) [itI] := by rw [hY]; exact own_oneI w1 itI ⟨rfl, rfl⟩
  exact h
 have HBX : Hid (∀ q, Below w1.heap.size w1 q → Below X.heap.size X q) := fun q h => HB1.out.trans (h.mono HB1.out.size)
 have LK : Hid (∀ q, Below w1.heap.size w1 q → ldA 39 q (.pointer (some ⟨w.heap.size, 0, none⟩)) = .ok (.value (.agg (bA p))) q) := fun q h => (HR0.out.below (HBX.out q h)).ldKey HP.out
 have HPTX : Hid (∀ (b : Int) q, Below w1.heap.size w1 q → Calls Tryz.prog 43 #[.slice A es.length c, .int .i64 d, .int .i64 b] q fun e w' => ∃ A' c', e = .returned (.slice A' (partE es d b).length c') ∧ EA w' A' (partE es d b) ∧ Below q.heap.size q w') := fun b q hq =>
  (part7_c A c es d b q (HA.out.below (HBX.out q hq)) (by have := HL.out; omega)).mono fun e w' ⟨v, he, hO, hB⟩ => by
   obtain ⟨A', c', rfl, _, hE⟩ := hO.ea (fun e he => ((HA.out.below (HBX.out q hq)).mem e (partE_mem he)).below hB)
   exact ⟨A', c', he, hE, hB⟩
 have HPT0 : Hid (∀ q, Below w1.heap.size w1 q → Calls Tryz.prog 43 #[.slice A es.length c, .int .i64 d, .int .i64 0] q fun e w' => ∃ A' c', e = .returned (.slice A' (partE es d 0).length c') ∧ EA w' A' (partE es d 0) ∧ Below q.heap.size q w') := fun q h => HPTX.out 0 q h
 have HPT1 : Hid (∀ q, Below w1.heap.size w1 q → Calls Tryz.prog 43 #[.slice A es.length c, .int .i64 d, .int .i64 1] q fun e w' => ∃ A' c', e = .returned (.slice A' (partE es d 1).length c') ∧ EA w' A' (partE es d 1) ∧ Below q.heap.size q w') := fun q h => HPTX.out 1 q h
 have HRC0 : Hid (∀ q A' c', Below w1.heap.size w1 q → EA q A' (partE es d 0) → Calls Tryz.prog 16 #[.int .i64 n, .slice A' (partE es d 0).length c', .slice B ks.length cb, .agg (bA p), .int .i64 D] q fun e w' => ∃ v, e = .returned v ∧ OwnIt w' q.heap.size v U0.flat ∧ Below q.heap.size q w') := fun q A' c' h hE => by
  rw [HU0.out]; exact HRCX.out 0 p q A' c' (by decide) HP.out (HBX.out q h) hE
 have HRC1 : Hid (∀ q A' c', Below w1.heap.size w1 q → EA q A' (partE es d 1) → Calls Tryz.prog 16 #[.int .i64 n, .slice A' (partE es d 1).length c', .slice B ks.length cb, .agg (bA (flipL p d)), .int .i64 D] q fun e w' => ∃ v, e = .returned v ∧ OwnIt w' q.heap.size v U1.flat ∧ Below q.heap.size q w') := fun q A' c' h hE => by
  rw [HU1.out]; exact HRCX.out 1 (flipL p d) q A' c' (by decide) (flipL_len p d) (HBX.out q h) hE
 have HYE := Lib.hid hY
 clear hb1 hY lk HSM
 go_wp2_with fail
 rw [← HYE.out]
 refine region_heldT 11 (fun q => Below w1.heap.size w1 q) (by kernel_rfl) ?_
 have hHeld : Below w1.heap.size w1 Y.drew := (HQY.out).drew
 refine HeldT.take (i := 0) (oi := { dst := some 45, op := .move (.tmp 11), .. }) (v := ?_) rfl (by kernel_rfl) (by kernel_rfl) (by kernel_rfl) (by kernel_rfl) (fun _ _ _ h => h) (Or.inl ⟨by rfl, ?_⟩) (by assumption) ?_
 rotate_left 1
 ·intro v hSv
  clear hSv
  go_simp
  try with_reducible rfl
 try simp only [Act.put, x_A, x_0, x_1]
 refine HeldT.take (i := 1) (oi := { dst := some 46, op := .move (.tmp 0), .. }) (v := ?_) rfl (by kernel_rfl) (by kernel_rfl) (by kernel_rfl) (by kernel_rfl) (fun _ _ _ h => h) (Or.inl ⟨by rfl, ?_⟩) (by assumption) ?_
 rotate_left 1
 ·intro v hSv
  clear hSv
  go_simp
  try with_reducible rfl
 try simp only [Act.put, x_A, x_0, x_1]
 refine HeldT.take (i := 2) (oi := { dst := some 47, op := .move (.tmp 1), .. }) (v := ?_) rfl (by kernel_rfl) (by kernel_rfl) (by kernel_rfl) (by kernel_rfl) (fun _ _ _ h => h) (Or.inl ⟨by rfl, ?_⟩) (by assumption) ?_
 rotate_left 1
 ·intro v hSv
  clear hSv
  go_simp
  try with_reducible rfl
 try simp only [Act.put, x_A, x_0, x_1]
 refine HeldT.take (i := 3) (oi := { dst := some 48, op := .move (.tmp 4), .. }) (v := ?_) rfl (by kernel_rfl) (by kernel_rfl) (by kernel_rfl) (by kernel_rfl) (fun _ _ _ h => h) (Or.inl ⟨by rfl, ?_⟩) (by assumption) ?_
 rotate_left 1
 ·intro v hSv
  clear hSv
  go_simp
  try with_reducible rfl
 try simp only [Act.put, x_A, x_0, x_1]
 refine HeldT.take (i := 5) (oi := { dst := some 50, op := .move (.tmp 2), .. }) (v := ?_) rfl (by kernel_rfl) (by kernel_rfl) (by kernel_rfl) (by kernel_rfl) (fun _ _ _ h => h) (Or.inl ⟨by rfl, ?_⟩) (by assumption) ?_
 rotate_left 1
 ·intro v hSv
  clear hSv
  go_simp
  try with_reducible rfl
 try simp only [Act.put, x_A, x_0, x_1]
 refine HeldT.take (i := 6) (oi := { dst := some 51, op := .load _ (.tmp 8), .. }) (v := ?_) rfl (by kernel_rfl) (by kernel_rfl) (by kernel_rfl) (by kernel_rfl) (fun _ _ _ h => h) (Or.inl ⟨by rfl, ?_⟩) (by assumption) ?_
 rotate_left 1
 ·intro v hSv
  have hv1 := LK.out v hSv
  clear hSv
  go_simp
  try with_reducible rfl
 try simp only [Act.put, x_A, x_0, x_1]
 refine HeldT.take (i := 7) (oi := { dst := some 52, op := .move (.tmp 4), .. }) (v := ?_) rfl (by kernel_rfl) (by kernel_rfl) (by kernel_rfl) (by kernel_rfl) (fun _ _ _ h => h) (Or.inl ⟨by rfl, ?_⟩) (by assumption) ?_
 rotate_left 1
 ·intro v hSv
  clear hSv
  go_simp
  try with_reducible rfl
 try simp only [Act.put, x_A, x_0, x_1]
 refine HeldT.take (i := 8) (oi := { dst := some 53, op := .binOp .add _ (.tmp 52) (.const (.int .i64 1)) _, .. }) (v := ?_) rfl (by kernel_rfl) (by kernel_rfl) (by kernel_rfl) (by kernel_rfl) (fun _ _ _ h => h) (Or.inl ⟨by rfl, ?_⟩) (by assumption) ?_
 rotate_left 1
 ·intro v hSv
  clear hSv
  go_simp
  try with_reducible rfl
 try simp only [Act.put, x_A, x_0, x_1]
 refine HeldT.one (i := 4) (o := { dst := some 49, op := .call _, .. }) (by kernel_rfl) rfl rfl (fun K hK => ?_)
 go_wp2_with fail
 refine (HPT0.out _ hHeld).mono ?_
 rintro e y1 ⟨A0, c0, rfl, hE, hbp⟩
 have hq : Below w1.heap.size w1 y1 := hHeld.trans (hbp.mono hHeld.size)
 have HE0 := Lib.hid hE
 have HQ0 := Lib.hid hq
 have HOA := Lib.hid (HOUT.out.below hbp)
 clear hbp hE
 go_wp2_with fail
 refine hK.out _ _ (fun _ => hq) (fun hS => ?_)
 have hHeld := hS (by decide)
 clear hS hK K
 try simp only [Act.put, x_A, x_0, x_1]
 clear hq
 refine HeldT.one (i := 9) (o := { dst := some 54, op := .call _, .. }) (by kernel_rfl) rfl rfl (fun K hK => ?_)
 go_wp2_with fail
 refine (HRC0.out _ A0 c0 HQ0.out HE0.out).mono ?_
 rintro e y2 ⟨vr, rfl, hOr, hbp⟩
 obtain ⟨Ar0, cr0, rfl, hIr, _⟩ := hOr.ia HOK0.out
 have hq : Below w1.heap.size w1 y2 := hHeld.trans (hbp.mono hHeld.size)
 have HIR := Lib.hid hIr
 have HQR := Lib.hid hq
 have HOB := Lib.hid (HOA.out.below hbp)
 clear hOr hIr hbp
 go_wp2_with fail
 refine hK.out _ _ (fun _ => hq) (fun hS => ?_)
 have hHeld := hS (by decide)
 clear hS hK K
 try simp only [Act.put, x_A, x_0, x_1]
 clear hq
 refine HeldT.one (i := 10) (o := { dst := some 55, op := .call _, .. }) (by kernel_rfl) rfl rfl (fun K hK => ?_)
 go_wp2_with (at_builtin; refine wpList_catI rfl _ _ rfl w1.heap.size _ ([itI]) rfl HOB.out Ar0 cr0 U0.flat rfl HIR.out (Mt.flat_pos _) (by have h0 := HLN0.out; have h1 := HLN1.out; (try simp only [List.length_append, List.length_singleton]); omega) HQR.out.size ?_; intro v8 x8 hO8 hB8; have HO8 := Lib.hid hO8; have hq8 : Below w1.heap.size w1 x8 := HQR.out.trans hB8; have HQ8 := Lib.hid hq8; clear hO8 hB8)
 refine hK.out _ _ (fun _ => hq8) (fun hS => ?_)
 have hHeld := hS (by decide)
 clear hS hK K
 try simp only [Act.put, x_A, x_0, x_1]
 clear hq8 HIR HQR HOB
 refine HeldT.one (i := 11) (o := { dst := some 11, op := .assign (.tmp 55), .. }) (by kernel_rfl) rfl rfl (fun K hK => ?_)
 go_wp2_with fail
 refine hK.out _ _ (fun h => absurd rfl h) (fun _ => ?_)
 clear hK K
 refine HeldT.done (by kernel_rfl) ?_ _
 have HO8D : Hid (OwnIt x8.drew w1.heap.size v8 ([itI] ++ U0.flat)) := HO8.out
 clear HO8 HOUT HQY
 go_wp2_with fail
 refine region_heldT 13 (fun q => Below w1.heap.size w1 q) (by kernel_rfl) ?_
 have hHeld : Below w1.heap.size w1 x8.drew := (HQ8.out).drew
 refine HeldT.take (i := 0) (oi := { dst := some 56, op := .move (.tmp 11), .. }) (v := ?_) rfl (by kernel_rfl) (by kernel_rfl) (by kernel_rfl) (by kernel_rfl) (fun _ _ _ h => h) (Or.inl ⟨by rfl, ?_⟩) (by assumption) ?_
 rotate_left 1
 ·intro v hSv
  clear hSv
  go_simp
  try with_reducible rfl
 try simp only [Act.put, x_A, x_0, x_1]
 refine HeldT.take (i := 1) (oi := { dst := some 57, op := .move (.tmp 0), .. }) (v := ?_) rfl (by kernel_rfl) (by kernel_rfl) (by kernel_rfl) (by kernel_rfl) (fun _ _ _ h => h) (Or.inl ⟨by rfl, ?_⟩) (by assumption) ?_
 rotate_left 1
 ·intro v hSv
  clear hSv
  go_simp
  try with_reducible rfl
 try simp only [Act.put, x_A, x_0, x_1]
 refine HeldT.take (i := 2) (oi := { dst := some 58, op := .move (.tmp 1), .. }) (v := ?_) rfl (by kernel_rfl) (by kernel_rfl) (by kernel_rfl) (by kernel_rfl) (fun _ _ _ h => h) (Or.inl ⟨by rfl, ?_⟩) (by assumption) ?_
 rotate_left 1
 ·intro v hSv
  clear hSv
  go_simp
  try with_reducible rfl
 try simp only [Act.put, x_A, x_0, x_1]
 refine HeldT.take (i := 3) (oi := { dst := some 59, op := .move (.tmp 4), .. }) (v := ?_) rfl (by kernel_rfl) (by kernel_rfl) (by kernel_rfl) (by kernel_rfl) (fun _ _ _ h => h) (Or.inl ⟨by rfl, ?_⟩) (by assumption) ?_
 rotate_left 1
 ·intro v hSv
  clear hSv
  go_simp
  try with_reducible rfl
 try simp only [Act.put, x_A, x_0, x_1]
 refine HeldT.take (i := 5) (oi := { dst := some 61, op := .move (.tmp 2), .. }) (v := ?_) rfl (by kernel_rfl) (by kernel_rfl) (by kernel_rfl) (by kernel_rfl) (fun _ _ _ h => h) (Or.inl ⟨by rfl, ?_⟩) (by assumption) ?_
 rotate_left 1
 ·intro v hSv
  clear hSv
  go_simp
  try with_reducible rfl
 try simp only [Act.put, x_A, x_0, x_1]
 refine HeldT.take (i := 6) (oi := { dst := some 62, op := .load _ (.tmp 8), .. }) (v := ?_) rfl (by kernel_rfl) (by kernel_rfl) (by kernel_rfl) (by kernel_rfl) (fun _ _ _ h => h) (Or.inl ⟨by rfl, ?_⟩) (by assumption) ?_
 rotate_left 1
 ·intro v hSv
  have hv1 := LK.out v hSv
  clear hSv
  go_simp
  try with_reducible rfl
 try simp only [Act.put, x_A, x_0, x_1]
 refine HeldT.take (i := 7) (oi := { dst := some 63, op := .move (.tmp 4), .. }) (v := ?_) rfl (by kernel_rfl) (by kernel_rfl) (by kernel_rfl) (by kernel_rfl) (fun _ _ _ h => h) (Or.inl ⟨by rfl, ?_⟩) (by assumption) ?_
 rotate_left 1
 ·intro v hSv
  clear hSv
  go_simp
  try with_reducible rfl
 try simp only [Act.put, x_A, x_0, x_1]
 refine HeldT.take (i := 9) (oi := { dst := some 65, op := .move (.tmp 4), .. }) (v := ?_) rfl (by kernel_rfl) (by kernel_rfl) (by kernel_rfl) (by kernel_rfl) (fun _ _ _ h => h) (Or.inl ⟨by rfl, ?_⟩) (by assumption) ?_
 rotate_left 1
 ·intro v hSv
  clear hSv
  go_simp
  try with_reducible rfl
 try simp only [Act.put, x_A, x_0, x_1]
 refine HeldT.take (i := 10) (oi := { dst := some 66, op := .binOp .add _ (.tmp 65) (.const (.int .i64 1)) _, .. }) (v := ?_) rfl (by kernel_rfl) (by kernel_rfl) (by kernel_rfl) (by kernel_rfl) (fun _ _ _ h => h) (Or.inl ⟨by rfl, ?_⟩) (by assumption) ?_
 rotate_left 1
 ·intro v hSv
  clear hSv
  go_simp
  try with_reducible rfl
 try simp only [Act.put, x_A, x_0, x_1]
 refine HeldT.one (i := 4) (o := { dst := some 60, op := .call _, .. }) (by kernel_rfl) rfl rfl (fun K hK => ?_)
 go_wp2_with fail
 refine (HPT1.out _ hHeld).mono ?_
 rintro e y3 ⟨A1, c1, rfl, hE, hbp⟩
 have hq : Below w1.heap.size w1 y3 := hHeld.trans (hbp.mono hHeld.size)
 have HE1 := Lib.hid hE
 have HQ1 := Lib.hid hq
 have HOC := Lib.hid (HO8D.out.below hbp)
 clear hbp hE
 go_wp2_with fail
 refine hK.out _ _ (fun _ => hq) (fun hS => ?_)
 have hHeld := hS (by decide)
 clear hS hK K
 try simp only [Act.put, x_A, x_0, x_1]
 clear hq
 refine HeldT.one (i := 8) (o := { dst := some 64, op := .call _, .. }) (by kernel_rfl) rfl rfl (fun K hK => ?_)
 go_wp2_with fail
 refine (HFL.out _).mono ?_
 rintro e y4 ⟨rfl, hbp⟩
 have hq : Below w1.heap.size w1 y4 := hHeld.trans (hbp.mono hHeld.size)
 have HE1 := Lib.hid (HE1.out.below hbp)
 have HQ1 := Lib.hid hq
 have HOD := Lib.hid (HOC.out.below hbp)
 clear hbp
 go_wp2_with fail
 refine hK.out _ _ (fun _ => hq) (fun hS => ?_)
 have hHeld := hS (by decide)
 clear hS hK K
 try simp only [Act.put, x_A, x_0, x_1]
 clear hq
 refine HeldT.one (i := 11) (o := { dst := some 67, op := .call _, .. }) (by kernel_rfl) rfl rfl (fun K hK => ?_)
 go_wp2_with fail
 refine (HRC1.out _ A1 c1 HQ1.out HE1.out).mono ?_
 rintro e y5 ⟨vr, rfl, hOr, hbp⟩
 obtain ⟨Ar1, cr1, rfl, hIr, _⟩ := hOr.ia HOK1.out
 have hq : Below w1.heap.size w1 y5 := hHeld.trans (hbp.mono hHeld.size)
 have HIR := Lib.hid hIr
 have HQR := Lib.hid hq
 have HOE := Lib.hid (HOD.out.below hbp)
 clear hOr hIr hbp
 go_wp2_with fail
 refine hK.out _ _ (fun _ => hq) (fun hS => ?_)
 have hHeld := hS (by decide)
 clear hS hK K
 try simp only [Act.put, x_A, x_0, x_1]
 clear hq
 refine HeldT.one (i := 12) (o := { dst := some 68, op := .call _, .. }) (by kernel_rfl) rfl rfl (fun K hK => ?_)
 go_wp2_with (at_builtin; refine wpList_catI rfl _ _ rfl w1.heap.size _ ([itI] ++ U0.flat) rfl HOE.out Ar1 cr1 U1.flat rfl HIR.out (Mt.flat_pos _) (by have h0 := HLN0.out; have h1 := HLN1.out; (try simp only [List.length_append, List.length_singleton]); omega) HQR.out.size ?_; intro v9 x9 hO9 hB9; have HO9 := Lib.hid hO9; have hq9 : Below w1.heap.size w1 x9 := HQR.out.trans hB9; have HQ9 := Lib.hid hq9; clear hO9 hB9)
 refine hK.out _ _ (fun _ => hq9) (fun hS => ?_)
 have hHeld := hS (by decide)
 clear hS hK K
 try simp only [Act.put, x_A, x_0, x_1]
 clear hq9 HIR HQR HOE
 refine HeldT.one (i := 13) (o := { dst := some 10, op := .assign (.tmp 68), .. }) (by kernel_rfl) rfl rfl (fun K hK => ?_)
 go_wp2_with fail
 refine hK.out _ _ (fun h => absurd rfl h) (fun _ => ?_)
 clear hK K
 refine HeldT.done (by kernel_rfl) ?_ _
 go_wp2_with fail
 go_ret
 refine ⟨v9, rfl, ?_, HB0.out.trans ((HBX.out x9 HQ9.out).mono HB0.out.size)⟩
 have h : OwnIt x9 w1.heap.size v9 (([itI] ++ U0.flat) ++ U1.flat) := HO9.out
 rw [List.append_assoc] at h
 exact h.mono (Nat.le_trans HB0.out.size HB1.out.size)
end
end Go.Proofs.YtmfbhohjpkmllaaGreatDoor
