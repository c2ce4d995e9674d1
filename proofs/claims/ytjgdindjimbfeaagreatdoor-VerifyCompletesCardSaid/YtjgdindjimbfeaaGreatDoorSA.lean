import Derived.Test.YtjgdindjimbfeaaGreatDoorTJ
import Derived.Lib.AppendZeros
import Derived.Test.YtjgdindjimbfeaaGreatDoorFT
import Derived.Laws.BytesString
namespace Go.Proofs.YtjgdindjimbfeaaGreatDoor
set_option linter.unusedSimpArgs false
set_option linter.unusedVariables false
set_option maxHeartbeats 16000000
set_option maxRecDepth 100000
section
open Go.RowKit
structure Sp where
 n : Int
 g : FuncId
 cs : Array Value
def spF (x : Sp) : Value := .func (.func x.g) #[] x.cs
def spL (x : Sp) : List Value := [.int .i64 x.n, spF x]
def spC (x : Sp) : Array Value := #[.int .i64 x.n, spF x]
theorem spC_one (x : Sp) : (spC x).all (·.oneCell') = true := by simp [spC, spF, Value.oneCell']
theorem spL_one {x : Sp} {v : Value} (h : v ∈ spL x) : v.oneCell' = true := by
 simp only [spL, List.mem_cons, List.not_mem_nil, or_false] at h
 rcases h with rfl | rfl <;> simp [spF, Value.oneCell']
def zSp : Array Value := #[.int .i64 0, .nilFunc]
theorem infoSp : (Tryz.prog.info? 86).map (·.size) = some 2 := by kernel_rfl
theorem infoSp3 : (Tryz.prog.info? 86).map (fun i => (i.zero, i.size, i.bytes)) = some (some (.agg zSp), 2, 16) := by kernel_rfl
@[go_sem ↓] theorem execOp_loadSp (ρ : Operand → Value) (dst : Option Tmp) (x : Operand) (type : TypeId) (pos : String) (after : Array Edge) (guard : Option (Nat × Bool)) (w : World) :
  Sem.run Tryz.prog (execOp ρ { dst, op := .load 86 x, type, pos, after, guard }) w = ldA 86 w (ρ x) := rfl
@[go_sem ↓] theorem execOp_storeSp (ρ : Operand → Value) (dst : Option Tmp) (x y : Operand) (type : TypeId) (pos : String) (after : Array Edge) (guard : Option (Nat × Bool)) (w : World) :
  Sem.run Tryz.prog (execOp ρ { dst, op := .store 86 x y, type, pos, after, guard }) w = stA 86 w (ρ x) (ρ y) := rfl
@[go_sem ↓] theorem execOp_buildSp (ρ : Operand → Value) (dst : Option Tmp) (parts : Array (Nat × Operand)) (type : TypeId) (pos : String) (after : Array Edge) (guard : Option (Nat × Bool)) (w : World) :
  Sem.run Tryz.prog (execOp ρ { dst, op := .build 86 parts, type, pos, after, guard }) w = bldA 86 w (parts.map fun x => (x.1, ρ x.2)) := rfl
theorem zeroSp : ∀ w, (zeroValue 86).run Tryz.prog w = .ok (.agg zSp) w := fun _ => by kernel_rfl
theorem bldSp (n : Int) (g : FuncId) (cs : Array Value) (w : World) : bldA 86 w #[(0, .int .i64 n), (1, .func (.func g) #[] cs)] = .ok (.value (.agg (spC ⟨n, g, cs⟩))) w := by kernel_rfl
theorem sp_ld {w : World} {g o : Nat} {x : Sp} (h : w.rangeAt g o (spL x)) : ldA 86 w (.pointer (some ⟨g, o, none⟩)) = .ok (.value (.agg (spC x))) w := by
 unfold ldA
 rw [Sem.run_bind, run_loadAt_mid (P := Tryz.prog) w g o 86 (spL x) _ h Tryz.underlying86 rfl (by exact infoSp)]
 simp [Sem.run_pure, Result.andThen_ok, spC, spL]
def SpA (w : World) (A : Option Addr) (l : List Sp) : Prop := ∀ i x, l[i]? = some x → ∃ g o, A = some ⟨g, o, none⟩ ∧ w.rangeAt g (o + i * 2) (spL x)
theorem SpA.nil (w : World) (A : Option Addr) : SpA w A [] := fun i x h => by simp at h
theorem SpA.below {w w' : World} {A : Option Addr} {l : List Sp} (h : SpA w A l) (hb : Below w.heap.size w w') : SpA w' A l := fun i x hi => by
 obtain ⟨g, o, h2, h3⟩ := h i x hi
 exact ⟨g, o, h2, range_below h3 hb⟩
theorem SpA.addr {w : World} {A : Option Addr} {l : List Sp} (h : SpA w A l) (hl : 0 < l.length) : ∃ g o, A = some ⟨g, o, none⟩ ∧ ∀ i x, l[i]? = some x → w.rangeAt g (o + i * 2) (spL x) := by
 obtain ⟨g, o, rfl, _⟩ := h 0 _ (List.getElem?_eq_getElem hl)
 refine ⟨g, o, rfl, fun i x hi => ?_⟩
 obtain ⟨g', o', e, h3⟩ := h i x hi
 cases e
 exact h3
theorem SpA.keep {w w' : World} {A : Option Addr} {l : List Sp} {L : Nat → Prop} (hA : SpA w A l) (k : Keep L w w') (hL : ∀ g o, A = some ⟨g, o, none⟩ → ¬ L g) : SpA w' A l := fun i x hi => by
 obtain ⟨g, o, e, h3⟩ := hA i x hi
 exact ⟨g, o, e, fun j v hv => k.cellAt (h3 j v hv) (hL g o e)⟩
def OwnSp (w : World) (B : Nat) (v : Value) (l : List Sp) : Prop := w.ownsRow B 86 2 v l.length (l.flatMap spL)
theorem OwnSp.ge {w : World} {B : Nat} {v : Value} {l : List Sp} (h : OwnSp w B v l) : ∀ k, v.ownBlock = some k → B ≤ k := fun k hk => by
 obtain ⟨_, h | ⟨g, cap, cur, rfl, hg, _⟩⟩ := h
 ·obtain ⟨rfl, _⟩ := h; simp [Value.ownBlock] at hk
 ·simp [Value.ownBlock] at hk; omega
theorem flatSp_at {l : List Sp} {i : Nat} {x : Sp} (hi : l[i]? = some x) {j : Nat} {v : Value} (hv : (spL x)[j]? = some v) : (l.flatMap spL)[i * 2 + j]? = some v := by
 induction l generalizing i with
 | nil => simp at hi
 | cons y r ih =>
  have hy : (spL y).length = 2 := rfl
  rw [List.flatMap_cons]
  cases i with
  | zero =>
   simp at hi
   subst hi
   rw [Nat.zero_mul, Nat.zero_add, List.getElem?_append_left (List.getElem?_eq_some_iff.1 hv).1]
   exact hv
  | succ i =>
   rw [List.getElem?_append_right (by rw [hy]; omega), hy, show (i + 1) * 2 + j - 2 = i * 2 + j by omega]
   exact ih hi
theorem OwnSp.sa {w : World} {B : Nat} {v : Value} {l : List Sp} (h : OwnSp w B v l) : ∃ A c, v = .slice A l.length c ∧ SpA w A l ∧ l.length ≤ c ∧ ∀ g o, A = some ⟨g, o, none⟩ → B ≤ g := by
 obtain ⟨h0, ⟨rfl, h⟩ | ⟨g, cap, cur, rfl, hg, hh, hn, hc, hs, ht⟩⟩ := h
 ·exact ⟨none, 0, by rw [h], fun i e hi => by
   have : l = [] := List.length_eq_zero_iff.1 h
   subst this; simp at hi, by omega, fun g o e => by cases e⟩
 ·refine ⟨_, cap, rfl, fun i k hi => ⟨g, 0, rfl, fun j x hx => ?_⟩, hn, fun g' o' e => by cases e; exact hg⟩
  have h1 := flatSp_at hi (j := j) (v := x) hx
  have hlt := (List.getElem?_eq_some_iff.1 h1).1
  rw [h0] at hlt
  rw [Nat.zero_add, cell_of_cells hh, ← Array.getElem?_toList, ← h1, ← ht, List.getElem?_take, if_pos hlt]
theorem flatSp_len (l : List Sp) : (l.flatMap spL).length = l.length * 2 := by
 induction l with
 | nil => rfl
 | cons x r ih =>
  rw [List.flatMap_cons, List.length_append, ih, List.length_cons]
  show 2 + _ = _
  omega
theorem flatSp_inv {l : List Sp} {j : Nat} {v : Value} (h : (l.flatMap spL)[j]? = some v) : ∃ x, l[j / 2]? = some x ∧ (spL x)[j % 2]? = some v := by
 induction l generalizing j with
 | nil => simp at h
 | cons x r ih =>
  have hx : (spL x).length = 2 := rfl
  rw [List.flatMap_cons] at h
  rcases Nat.lt_or_ge j 2 with hj | hj
  ·rw [List.getElem?_append_left (by omega)] at h
   exact ⟨x, by rw [Nat.div_eq_of_lt hj]; rfl, by rw [Nat.mod_eq_of_lt hj]; exact h⟩
  ·rw [List.getElem?_append_right (by omega), hx] at h
   obtain ⟨y, h1, h2⟩ := ih h
   refine ⟨y, ?_, ?_⟩
   ·rw [show j / 2 = (j - 2) / 2 + 1 by omega, List.getElem?_cons_succ]; exact h1
   ·rw [show j % 2 = (j - 2) % 2 by omega]; exact h2
theorem sp_row (w : World) (l : List Sp) (t : TypeId) (cur : Array Value) (hc : cur.toList = l.flatMap spL) : SpA (w.alloc (.cells cur t)) (some ⟨w.heap.size, 0, none⟩) l := fun i x hi => ⟨_, _, rfl, fun j v hv => by
 rw [Nat.zero_add, cell_of_cells (heap_alloc_new w _), ← Array.getElem?_toList, hc]
 exact flatSp_at hi hv⟩
theorem wpList_catSp {ops : Array Oper} {rest : List Oper} {o : Oper} {a : Act} {w : World} {Q : Exit → Act → World → Prop} (hgd : o.guard = none) (s x : Operand)
  (ho : o.op = .call { callee := .builtin .append, args := #[s, x], argTypes := #[88, 88] }) (B : Nat) (v : Value) (l : List Sp) (hs : a.eval s = v) (hown : OwnSp w B v l) (A : Option Addr) (c : Nat) (m : List Sp)
  (hx : a.eval x = .slice A m.length c) (hm : SpA w A m) (hp : 0 < m.length) (hl : l.length + m.length ≤ 10000000) (hB : B ≤ w.heap.size)
  (h : ∀ v' w', OwnSp w' B v' (l ++ m) → Below B w w' → wpList Tryz.prog ops Q rest (a.put o.dst v') w') : wpList Tryz.prog ops Q (o :: rest) a w := by
 obtain ⟨i0, hi, hz0, hz1, hz2⟩ := info_parts infoSp3
 obtain ⟨g, o2, rfl, hr⟩ := hm.addr hp
 refine wpList_append_own_at (w := w) hgd s x 88 ho B 86 i0 _ 2 16 Tryz.underlying88 hi hz0 hz1 hz2 rfl (by decide) v l.length (l.flatMap spL) hs hown ⟨g, o2, none⟩ m.length c (m.flatMap spL) hx (flatSp_len m)
  (fun j u hj => ?_) (fun u hu => ?_) (by unfold maxLen; omega) (by omega) hB fun v' w' h1 h2 _ h4 => h v' w' ?_ ((Below.refl _ _).grown h2 hB hown.ge)
 ·obtain ⟨y, h1, h2⟩ := flatSp_inv hj
  have := hr _ y h1 _ u h2
  rw [show (⟨g, o2, none⟩ : Addr).add j = ⟨g, o2 + j, none⟩ from add_none g o2 j, show o2 + j = o2 + j / 2 * 2 + j % 2 by omega]
  exact this
 ·obtain ⟨y, hy, h2⟩ := List.mem_flatMap.1 hu
  exact spL_one h2
 ·unfold OwnSp
  rw [List.flatMap_append, List.length_append]
  exact h1
structure Sq where
 A : Option Addr
 l : List Sp
 c : Nat
def Sq.val (x : Sq) : Value := .slice x.A x.l.length x.c
def catSp (ls : List Sq) (k : Nat) : List Sp := (ls.take k).flatMap (·.l)
theorem catSp_succ (ls : List Sq) (k : Nat) (x : Sq) (h : ls[k]? = some x) : catSp ls (k + 1) = catSp ls k ++ x.l := by
 unfold catSp
 rw [List.take_add_one, h]
 simp
def SqA (w : World) (A : Option Addr) (ls : List Sq) : Prop := ∀ i x, ls[i]? = some x → x.l.length ≤ x.c ∧ 0 < x.l.length ∧ x.l.length ≤ 1000 ∧ SpA w x.A x.l ∧ ∃ g o, A = some ⟨g, o, none⟩ ∧ w.cell? ⟨g, o + i, none⟩ = some x.val
theorem SqA.made (w : World) (ls : List Sq) (t : TypeId) (h : ∀ x ∈ ls, x.l.length ≤ x.c ∧ 0 < x.l.length ∧ x.l.length ≤ 1000 ∧ SpA w x.A x.l) : SqA (w.alloc (.cells (ls.map Sq.val).toArray t)) (some ⟨w.heap.size, 0, none⟩) ls := fun i x hx => by
 obtain ⟨h1, h2, h3, h4⟩ := h x (List.mem_of_getElem? hx)
 refine ⟨h1, h2, h3, h4.below ((Below.refl _ _).alloc (Nat.le_refl _) _), _, _, rfl, ?_⟩
 rw [cell_of_cells (heap_alloc_new w _), Nat.zero_add]
 simp [hx]
end
section
open Go.RowKit
theorem catSp_le (ls : List Sq) (k : Nat) : (catSp ls k).length ≤ (catSp ls ls.length).length := by
 unfold catSp
 rw [List.take_length]
 conv => rhs; rw [← List.take_append_drop k ls]
 rw [List.flatMap_append, List.length_append]
 omega
theorem growSp_c (n : Nat) (w : World) (h0 : 0 < n) (hn : n ≤ 1000000) : Calls Tryz.prog 65 #[.slice none 0 0, .int .i64 (n : Int)] w fun e w' => ∃ v, e = .returned v ∧ OwnSp w' w.heap.size v [] ∧ Below w.heap.size w w' := by
 obtain ⟨i0, hi, hz0, hz1, hz2⟩ := info_parts infoSp3
 have happ := fun ty => Lib.run_append_nil_zeros (P := Tryz.prog) w 88 3 ty 86 i0 (.agg zSp) .i64 .i64 Tryz.underlying88 Tryz.underlying3 hi hz0 n h0 (by omega) (by omega) (by rw [hz2]; omega)
 obtain ⟨cap, hcap⟩ : ∃ c, c = grownCap w n 0 86 := ⟨_, rfl⟩
 have hge : n ≤ cap := by rw [hcap]; exact grownCap_ge w n 0 86
 have hle : cap ≤ maxLen := by rw [hcap]; exact grownCap_le_maxLen w n 0 86 (by unfold maxLen; omega)
 obtain ⟨Z, hZ⟩ : ∃ Z, Z = Builtin.zeroCells (Value.agg zSp).cells n ++ Builtin.zeroCells (Value.agg zSp).cells (cap - n) := ⟨_, rfl⟩
 have hZs : Z.size = cap * 2 := by rw [hZ]; simp [size_zeroCells, Value.cells, zSp]; omega
 simp only [← hcap, ← hZ] at happ
 have HZs := Lib.hid hZs
 have HLe := Lib.hid hle
 have HGe := Lib.hid hge
 clear hcap hZ hZs hle hge
 have hd : decide (0 < n) = true := decide_eq_true h0
 have hd2 : decide (0 < (n : Int)) = true := decide_eq_true (by omega)
 go_enter Tryz.func65, Tryz.ntmps65
 go_wp2_with (at_builtin; refine Lib.wpList_append_run _ rfl _ _ _ _ rfl _ _ rfl rfl _ _ (happ _) ?_)
 go_ret
 exact ⟨_, rfl, World.ownsRow_made w Z cap (Nat.le_refl _) HLe.out HZs.out, ((Below.refl _ _).alloc (Nat.le_refl _) _).drew⟩
theorem concatSp_c (A : Option Addr) (c : Nat) (ls : List Sq) (w : World) (hA : SqA w A ls) (h0 : 0 < (catSp ls ls.length).length) (hl : (catSp ls ls.length).length ≤ 1000000) (hls : ls.length ≤ 1000000) :
  Calls Tryz.prog 38 #[.slice A ls.length c] w fun e w' => ∃ v, e = .returned v ∧ OwnSp w' w.heap.size v (catSp ls ls.length) ∧ Below w.heap.size w w' := by
 have HA := Lib.hid hA
 clear hA
 go_enter Tryz.func38, Tryz.ntmps38
 go_wp2_with fail
 go_loopg [3, 11] ls.length (fun gg n i wr => ∃ k : Nat, i = .int .i64 k ∧ k ≤ ls.length ∧ ls.length - k = gg ∧ n = .int .i64 (((catSp ls k).length : Nat) : Int) ∧ Hid (wr = w))
 case atStart => exact ⟨0, rfl, by omega, by omega, rfl, rfl⟩
 case round =>
  obtain ⟨k, rfl, hkl, rfl, rfl, hW⟩ := hrel
  have hcl := catSp_le ls k
  by_cases hlt : k < ls.length
  ·obtain ⟨x, hx⟩ : ∃ x, ls[k]? = some x := ⟨_, List.getElem?_eq_getElem hlt⟩
   obtain ⟨hxc, hxp, hxm, hxb, g, o, rfl, hcell⟩ := HA.out k x hx
   have hcs := catSp_succ ls k x hx
   have hcl2 := catSp_le ls (k + 1)
   have hlen : (catSp ls (k + 1)).length = (catSp ls k).length + x.l.length := by rw [hcs, List.length_append]
   have hcr : wr.cell? ⟨g, o + k, none⟩ = some (.slice x.A x.l.length x.c) := by rw [hW.out]; exact hcell
   have HLEN := Lib.hid hlen
   have b1 : (catSp ls k).length + x.l.length ≤ 1000000 := by omega
   have hd : decide (k < ls.length) = true := decide_eq_true hlt
   have hd2 : decide (((catSp ls k).length : Int) + (x.l.length : Int) < 0) = false := decide_eq_false (by omega)
   have p0 : (0 : Int) ≤ (k : Int) := by omega
   have p1 : (k : Int) < (ls.length : Int) := by omega
   clear hx hcell hxb hxp hxm hcs hlen
   go_wp2_with fail
   go_roundg (ls.length - (k + 1))
   case measure => omega
   case rel => exact ⟨k + 1, by go_num, by omega, rfl, by rw [HLEN.out]; go_num, hW⟩
  ·obtain rfl : k = ls.length := by omega
   have hd : decide (ls.length < ls.length) = false := decide_eq_false (by omega)
   obtain ⟨N, hN⟩ : ∃ N, N = (catSp ls ls.length).length := ⟨_, rfl⟩
   rw [← hN]
   have hN0 : 0 < N := by rw [hN]; exact h0
   have hN2 : N ≤ 1000000 := by omega
   clear hN
   go_wp2_with fail
   refine (growSp_c N wr hN0 (by omega)).mono ?_
   rintro e w5 ⟨v, rfl, hO, hB⟩
   rw [hW.out] at hO hB
   have HO := Lib.hid hO
   have HB := Lib.hid hB
   clear hO hB
   go_wp2_with fail
   go_loopg [6, 27] ls.length (fun gg v i wz => ∃ k : Nat, i = .int .i64 k ∧ k ≤ ls.length ∧ ls.length - k = gg ∧ OwnSp wz w.heap.size v (catSp ls k) ∧ Below w.heap.size w wz)
   case atStart => exact ⟨0, rfl, by omega, by omega, HO.out, HB.out⟩
   case round =>
    clear HO HB
    obtain ⟨k, rfl, hkl, rfl, hO, hB⟩ := hrel
    have hcl := catSp_le ls k
    have HO := Lib.hid hO
    have HB := Lib.hid hB
    clear hO hB
    by_cases hlt : k < ls.length
    ·obtain ⟨x, hx⟩ : ∃ x, ls[k]? = some x := ⟨_, List.getElem?_eq_getElem hlt⟩
     obtain ⟨hxc, hxp, hxm, hxb, g, o, rfl, hcell⟩ := HA.out k x hx
     have hcs := catSp_succ ls k x hx
     have hcl2 := catSp_le ls (k + 1)
     have hlen : (catSp ls (k + 1)).length = (catSp ls k).length + x.l.length := by rw [hcs, List.length_append]
     have hcr : wr.cell? ⟨g, o + k, none⟩ = some (.slice x.A x.l.length x.c) := (HB.out.cell (lt_of_cell hcell)).trans hcell
     have HXB := Lib.hid (hxb.below HB.out)
     have HXP := Lib.hid hxp
     have HCS := Lib.hid hcs
     have b1 : (catSp ls k).length + x.l.length ≤ 1000000 := by omega
     have hd : decide (k < ls.length) = true := decide_eq_true hlt
     have p0 : (0 : Int) ≤ (k : Int) := by omega
     have p1 : (k : Int) < (ls.length : Int) := by omega
     clear hx hcell hxb hcs hlen hxp hxm
     go_wp2_with (at_builtin; refine wpList_catSp rfl _ _ rfl w.heap.size _ _ rfl HO.out x.A x.c x.l rfl HXB.out HXP.out (by omega) HB.out.size ?_; intro v6 w6 hO6 hB6; rw [← HCS.out] at hO6; have HO6 := Lib.hid hO6; have HB6 := Lib.hid (HB.out.trans hB6); clear hO6 hB6)
     go_roundg (ls.length - (k + 1))
     case measure => omega
     case rel => exact ⟨k + 1, by go_num, by omega, rfl, HO6.out, HB6.out⟩
    ·obtain rfl : k = ls.length := by omega
     have hd : decide (ls.length < ls.length) = false := decide_eq_false (by omega)
     go_wp2_with fail
     go_ret
     exact ⟨_, rfl, HO.out, HB.out⟩
end
section
open Go.RowKit
theorem errorOf_nil (w : World) : Calls Tryz.prog 34 #[.nilIface] w fun e w' => e = .returned (.int .i64 0) ∧ Below w.heap.size w w' := by
 have HB0 : Hid (Below w.heap.size w (w.alloc (.cells #[.int .i64 0] 33))) := Bt.one_below _ _
 go_enter Tryz.func34, Tryz.ntmps34
 go_wp2_with (go_at_call 41; refine (Ft.errAs_nil _ _).mono ?_; rintro e w2 ⟨rfl, rfl⟩)
 go_wp2
 go_ret
 exact ⟨rfl, HB0.out⟩
theorem errorOf_some (i c : Int) (v : Value) (w : World) (h : Wr18 w i c v) (hv : Ft.ErrVar w) :
  Calls Tryz.prog 34 #[v] w fun e w' => e = .returned (.int .i64 c) ∧ Below w.heap.size w w' := by
 obtain ⟨fb, h⟩ := h
 obtain ⟨t, y, rfl⟩ := h.iface
 have hB0 : Below w.heap.size w (w.alloc (.cells #[.int .i64 0] 33)) := Bt.one_below _ _
 have hb0 : (w.alloc (.cells #[.int .i64 0] 33)).heap[w.heap.size]? = some (.cells #[.int .i64 0] 33 (0, 0)) := heap_alloc_new w _
 have HC := Lib.hid (h.below hB0)
 have HV := Lib.hid (hv.below hB0)
 have HB0 := Lib.hid hB0
 have Hb0 := Lib.hid hb0
 clear h hv hB0 hb0
 go_enter Tryz.func34, Tryz.ntmps34
 go_wp2_with (go_at_call 41; refine (Ft.errAs_c _ c _ (.int .i64 0) w.heap.size _ HC.out HV.out Hb0.out).mono ?_; rintro e w2 ⟨rfl, hc, hB⟩; have HB2 := Lib.hid hB; clear hB)
 go_wp2
 go_ret
 exact ⟨rfl, HB0.out.trans HB2.out⟩
def SpAt (w : World) (g : Nat) (x : Sp) : Prop := w.heap[g]? = some (.cells (spC x) 86 (0, 0))
theorem SpAt.n {w : World} {g : Nat} {x : Sp} (h : SpAt w g x) : w.cell? ⟨g, 0, none⟩ = some (.int .i64 x.n) := by rw [cell_of_cells h]; rfl
theorem SpAt.f {w : World} {g : Nat} {x : Sp} (h : SpAt w g x) : w.cell? ⟨g, 1, none⟩ = some (.func (.func x.g) #[] x.cs) := by rw [cell_of_cells h]; rfl
theorem try_c (xs : List Sp) (A : Option Addr) (c : Nat) (q : Nat → Bool) (L : Nat → Prop) (I : Nat → World → Prop) (w : World)
  (hrow : ∀ k w', I k w' → SpA w' A xs) (hbel : ∀ k w1 w2, I k w1 → Below w1.heap.size w1 w2 → I k w2) (hL : ∀ k w', I k w' → ∀ i, L i → i < w'.heap.size)
  (hstep : ∀ (k : Nat) (x : Sp) (w1 : World), xs[k]? = some x → (∀ j, j < k → q j = true) → I k w1 → Calls Tryz.prog x.g x.cs w1 fun e w2 => e = .returned (.bool (q k)) ∧ I (k + 1) w2 ∧ Keep L w1 w2)
  (hen : ∀ (k : Nat) (x : Sp), xs[k]? = some x → ∀ (args : Array Value) (w : World), (callFunc x.g args).run Tryz.prog w = .ok (.enter x.g args) w) (hlen : xs.length ≤ 1000) (h0 : I 0 w) :
  Calls Tryz.prog 37 #[.slice A xs.length c] w fun e w' => ∃ v, e = .returned v ∧ ((v = .nilIface ∧ (∀ k, k < xs.length → q k = true) ∧ I xs.length w') ∨ ∃ k x, xs[k]? = some x ∧ (∀ j, j < k → q j = true) ∧ q k = false ∧ Wr18 w' k x.n v ∧ I (k + 1) w') := by
 have HROW := Lib.hid hrow
 have HBEL := Lib.hid hbel
 have HL := Lib.hid hL
 have HST := Lib.hid hstep
 have HI0 := Lib.hid h0
 have HEN := Lib.hid hen
 clear hrow hbel hL hstep h0 hen
 have zs := zeroSp
 go_enter Tryz.func37, Tryz.ntmps37
 go_wp2_with fail
 go_loopg [7] xs.length (fun gg i wr => ∃ k : Nat, i = .int .i64 k ∧ k ≤ xs.length ∧ xs.length - k = gg ∧ (∀ j, j < k → q j = true) ∧ I k wr)
 case atStart => exact ⟨0, rfl, by omega, by omega, fun j h => by omega, HI0.out⟩
 case round =>
  clear HI0
  obtain ⟨k, rfl, hkl, rfl, hq, hI⟩ := hrel
  have HQ := Lib.hid hq
  have HI := Lib.hid hI
  clear hq hI
  by_cases hlt : k < xs.length
  ·obtain ⟨x, hx⟩ : ∃ x, xs[k]? = some x := ⟨_, List.getElem?_eq_getElem hlt⟩
   obtain ⟨g, o, rfl, hr⟩ := HROW.out k wr HI.out k x hx
   have ld := sp_ld hr
   have hd : decide (k < xs.length) = true := decide_eq_true hlt
   have p0 : (0 : Int) ≤ (k : Int) := by omega
   have p1 : (k : Int) < (xs.length : Int) := by omega
   obtain ⟨Z, hZ⟩ : ∃ Z, Z = wr.alloc (.cells (spC x) 86) := ⟨_, rfl⟩
   have hbZ : Below wr.heap.size wr Z := by rw [hZ]; exact Bt.one_below _ _
   have hs : SpAt Z wr.heap.size x := by show _ = _; rw [hZ]; exact heap_alloc_new wr _
   have st := stA_new (t := 86) wr zSp (spC x) infoSp rfl (spC_one _)
   have HBZ := Lib.hid hbZ
   have h1 := hs.f
   have HS := Lib.hid hs
   have HX := Lib.hid hx
   have HCA := Lib.hid (HST.out k x Z hx HQ.out (HBEL.out k wr Z HI.out hbZ))
   rw [hZ] at h1
   have HZ := Lib.hid hZ
   have he := HEN.out k x hx
   clear hZ hbZ hs hx hr
   go_wp2_with fail
   rw [← HZ.out]
   clear h1 st ld zs he
   refine HCA.out.mono ?_
   rintro _ w5 ⟨rfl, hI5, hK5⟩
   have hs5 : SpAt w5 wr.heap.size x := hK5.heap HS.out fun h => absurd (HL.out k wr HI.out _ h) (Nat.lt_irrefl _)
   have h1 := hs5.n
   have HI5 := Lib.hid hI5
   have HK5 := Lib.hid hK5
   obtain ⟨a, ha⟩ : ∃ a, a = q k := ⟨_, rfl⟩
   rw [← ha]
   have HA := Lib.hid ha
   clear hs5 hI5 hK5 HCA ha
   cases a with
   | true =>
    go_wp2_with fail
    go_roundg (xs.length - (k + 1))
    case measure => omega
    case rel => exact ⟨k + 1, by go_num, by omega, rfl, fun j hj => by rcases Nat.lt_or_ge j k with h | h; exact HQ.out j h; obtain rfl : j = k := (by omega); exact HA.out.symm, HI5.out⟩
   | false =>
    go_wp2_with (go_at_call 64; refine (Ft.new_c _ _ _ _ _).mono ?_; rintro _ w6 ⟨rfl, hw6⟩; have HW6 := Lib.hid hw6; clear hw6)
    go_ret
    refine ⟨_, rfl, .inr ⟨k, x, HX.out, HQ.out, HA.out.symm, ?_, ?_⟩⟩
    ·rw [HW6.out]; exact ⟨_, rfl, _, heap_alloc_new _ _, rfl⟩
    ·exact HBEL.out _ _ _ HI5.out (by rw [HW6.out]; exact Bt.one_below _ _)
  ·obtain rfl : k = xs.length := by omega
   have hd : decide (xs.length < xs.length) = false := decide_eq_false (by omega)
   go_wp2_with fail
   go_ret
   exact ⟨_, rfl, .inl ⟨rfl, HQ.out, HI.out⟩⟩
end
section
open Go.RowKit
def SlAt (w : World) (g : Nat) (v : Value) : Prop := w.heap[g]? = some (.cells #[v] 22 (0, 0))
theorem SlAt.cell {w : World} {g : Nat} {v : Value} (h : SlAt w g v) : w.cell? ⟨g, 0, none⟩ = some v := by rw [cell_of_cells h]; rfl
def ErAt (w : World) (g : Nat) (c : Int) : Prop := w.heap[g]? = some (.cells #[.int .i64 c] 33 (0, 0))
theorem ErAt.cell {w : World} {g : Nat} {c : Int} (h : ErAt w g c) : w.cell? ⟨g, 0, none⟩ = some (.int .i64 c) := by rw [cell_of_cells h]; rfl
def PtAt (w : World) (g b : Nat) : Prop := w.heap[g]? = some (.cells #[ptr b] 29 (0, 0))
theorem PtAt.cell {w : World} {g b : Nat} (h : PtAt w g b) : w.cell? ⟨g, 0, none⟩ = some (ptr b) := by rw [cell_of_cells h]; rfl
theorem vr1_c (g : Nat) (R : Option Addr) (n c : Nat) (w : World) (h : SlAt w g (.slice R n c)) :
  Calls Tryz.prog 36 #[.pointer (some ⟨g, 0, none⟩)] w fun e w' => e = .returned (.bool (decide (n = 32))) ∧ w = w' := by
 have h0 := h.cell
 obtain ⟨q, hq⟩ : ∃ q, q = decide (n = 32) := ⟨_, rfl⟩
 have e0 : ((n : Int) == 32) = q := by
  rw [hq]
  by_cases h : n = 32
  ·subst h; rfl
  ·rw [decide_eq_false h]; simp; omega
 rw [← hq]
 clear hq h
 go_enter Tryz.func36, Tryz.ntmps36
 go_wp2
 go_ret
 exact ⟨rfl, rfl⟩
theorem cs1_c (g : Nat) (c : Cl) (A B : Option Addr) (ca cb : Nat) (w : World) (h : ClAt w g c A ca B cb) :
  Calls Tryz.prog 66 #[.pointer (some ⟨g, 0, none⟩)] w fun e w' => e = .returned (.bool (decide (c.k.length = 32))) ∧ w = w' := by
 have h0 := h.k
 obtain ⟨n, hn⟩ : ∃ n, n = c.k.length := ⟨_, rfl⟩
 rw [← hn] at h0 ⊢
 obtain ⟨q, hq⟩ : ∃ q, q = decide (n = 32) := ⟨_, rfl⟩
 have e0 : ((n : Int) == 32) = q := by
  rw [hq]
  by_cases h : n = 32
  ·subst h; rfl
  ·rw [decide_eq_false h]; simp; omega
 rw [← hq]
 clear hq hn h
 go_enter Tryz.func66, Tryz.ntmps66
 go_wp2
 go_ret
 exact ⟨rfl, rfl⟩
theorem cs2_c (g : Nat) (c : Cl) (A B : Option Addr) (ca cb : Nat) (w : World) (h : ClAt w g c A ca B cb) :
  Calls Tryz.prog 67 #[.pointer (some ⟨g, 0, none⟩)] w fun e w' => e = .returned (.bool (!c.pr || decide (c.v.length ≤ 65535))) ∧ w = w' := by
 have h0 := h.pr
 have h1 := h.v
 obtain ⟨n, hn⟩ : ∃ n, n = c.v.length := ⟨_, rfl⟩
 obtain ⟨p, hp⟩ : ∃ p, p = c.pr := ⟨_, rfl⟩
 rw [← hn] at h1
 rw [← hp] at h0
 rw [← hn, ← hp]
 obtain ⟨q, hq⟩ : ∃ q, q = decide (n ≤ 65535) := ⟨_, rfl⟩
 have e0 : decide ((n : Int) ≤ 65535) = q := by
  rw [hq]
  by_cases h : n ≤ 65535
  ·rw [decide_eq_true h, decide_eq_true (by omega)]
  ·rw [decide_eq_false h, decide_eq_false (by omega)]
 rw [← hq]
 clear hq hn h hp
 cases p with
 | true =>
  go_enter Tryz.func67, Tryz.ntmps67
  go_wp2
  go_ret
  exact ⟨rfl, rfl⟩
 | false =>
  go_enter Tryz.func67, Tryz.ntmps67
  go_wp2
  go_ret
  exact ⟨rfl, rfl⟩
theorem ps1_c (g : Nat) (c : Int) (w : World) (h : ErAt w g c) :
  Calls Tryz.prog 68 #[.pointer (some ⟨g, 0, none⟩)] w fun e w' => e = .returned (.bool (decide (c = 0))) ∧ w = w' := by
 have h0 := h.cell
 obtain ⟨q, hq⟩ : ∃ q, q = decide (c = 0) := ⟨_, rfl⟩
 have e0 : (c == 0) = q := by
  rw [hq]
  by_cases h : c = 0
  ·subst h; rfl
  ·rw [decide_eq_false h]; simpa using h
 rw [← hq]
 clear hq h
 go_enter Tryz.func68, Tryz.ntmps68
 go_wp2
 go_ret
 exact ⟨rfl, rfl⟩
theorem conv18 {w : World} {A : Option Addr} {l : List UInt8} (h : BA w A l) (c : Nat) : (convert 22 9 (.slice A l.length c)).run Tryz.prog w = .ok (.string ⟨l.toArray⟩) w := by
 cases A with
 | none =>
  have e : l = [] := by
   cases l with
   | nil => rfl
   | cons x l => obtain ⟨b, o, e, _⟩ := h 0 x rfl; cases e
  subst e
  rw [List.length_nil, run_convert_bytes_string w 22 9 5 none 0 c Tryz.underlying22 Tryz.underlying5 Tryz.underlying9]
  rfl
 | some a =>
  refine run_convert_bytes_back w 22 9 5 a c l Tryz.underlying22 Tryz.underlying5 Tryz.underlying9 fun j hj => ?_
  obtain ⟨b, o, e, hc⟩ := h j l[j] (List.getElem?_eq_getElem hj)
  simp only [Option.some.injEq] at e
  subst e
  rw [Addr.add_mid]
  exact hc
theorem equal18_c (A B : Option Addr) (c d : Nat) (l m : List UInt8) (w : World) (hA : BA w A l) (hB : BA w B m) :
  Calls Tryz.prog 110 #[.slice A l.length c, .slice B m.length d] w fun e w' => e = .returned (.bool (decide (l = m))) ∧ w = w' := by
 have c1 := conv18 hA c
 have c2 := conv18 hB d
 clear hA hB
 go_enter Tryz.func110, Tryz.ntmps110
 go_wp2_with fail
 go_ret
 refine ⟨?_, rfl⟩
 rw [show (l == m) = decide (l = m) by by_cases h : l = m <;> simp [h]]
 rfl
end
end Go.Proofs.YtjgdindjimbfeaaGreatDoor
