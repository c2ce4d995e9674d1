import Derived.Test.YtmfbhohjpkmllaaGreatDoorPE
import Derived.Test.YtmfbhohjpkmllaaGreatDoorTG
import Derived.Deep.Upon
import Derived.Lib.LazyBuf
import Derived.Shelf.Abstract
import Derived.Test.YtmfbhohjpkmllaaGreatDoorAb
import Derived.Test.YtmfbhohjpkmllaaGreatDoorME
import Derived.Shelf.RegionOpenPlain
import Derived.WalkKit
import Derived.Deep.LoopGhost
import Derived.Lib.Walk
import Derived.Sort.WalkB12
import Derived.Lib.SlicesMore
import Derived.Test.YtmfbhohjpkmllaaGreatDoorM4
import Derived.Test.YtmfbhohjpkmllaaGreatDoorMF
import Derived.Test.YtmfbhohjpkmllaaGreatDoorMQ
import Derived.Test.YtmfbhohjpkmllaaGreatDoorMX
namespace Go.Proofs.YtmfbhohjpkmllaaGreatDoor
set_option linter.unusedSimpArgs false
set_option linter.unusedVariables false
set_option maxHeartbeats 16000000
set_option maxRecDepth 1000000
section
open Go.RowKit
structure Gr (v v' : Value) (w w' : World) : Prop where
 keep : Keep (fun i => v.ownBlock = some i) w w'
 blk : ∀ g, v'.ownBlock = some g → v.ownBlock = some g ∨ w.heap.size ≤ g
theorem Gr.refl (v : Value) (w : World) : Gr v v w w := ⟨Keep.refl _ _, fun _ h => .inl h⟩
theorem Gr.trans {u v x : Value} {a b c : World} (h : Gr u v a b) (k : Gr v x b c) : Gr u x a c :=
 ⟨h.keep.step k.keep fun i hi => h.blk i hi, fun g hg => (k.blk g hg).elim (h.blk g) fun h2 => .inr (Nat.le_trans h.keep.size h2)⟩
theorem Gr.below {v : Value} {w w' : World} (h : Below w.heap.size w w') : Gr v v w w' := ⟨Keep.of_below h, fun _ h => .inl h⟩
theorem Gr.none {v : Value} {w w' : World} (h : Keep (fun i => v.ownBlock = some i) w w') : Gr v (.slice none 0 0) w w' := ⟨h, fun _ h => by simp [Value.ownBlock] at h⟩
theorem Gr.of11 {v v' : Value} {w w' : World} (h : Grown11 v v' w w') : Gr v v' w w' := ⟨h.keep, fun g hg => h.blk.elim (fun e => .inl (by rw [← e]; exact hg)) fun e => .inr (by rw [e] at hg; cases hg; exact Nat.le_refl _)⟩
theorem Gr.base {B : Nat} {v v' : Value} {w0 w w' : World} (h : Gr v v' w w') (hb : Below B w0 w) (hv : ∀ g, v.ownBlock = some g → B ≤ g) (hB : B ≤ w.heap.size) : Below B w0 w' := hb.trans (h.keep.below hB hv)
def edL (e : It × Nat) : List Value := itL e.1 ++ [.int .i64 (e.2 : Int)]
def edC (e : It × Nat) : Array Value := (edL e).toArray
theorem edL_len {e : It × Nat} (h : e.1.Ok) : (edL e).length = 98 := by simp [edL, itL_len h]
@[go_sem ↓] theorem execOp_buildEd (ρ : Operand → Value) (dst : Option Tmp) (parts : Array (Nat × Operand)) (type : TypeId) (pos : String) (after : Array Edge) (guard : Option (Nat × Bool)) (w : World) :
  Sem.run Tryz.prog (execOp ρ { dst, op := .build 61 parts, type, pos, after, guard }) w = bldA 61 w (parts.map fun x => (x.1, ρ x.2)) := rfl
theorem bldEd_f (k d : Int) (f g : Nat → UInt8) (w : World) : bldA 61 w #[(0, .agg (itC ⟨k, (List.range 32).map f, (List.range 64).map g⟩)), (1, .int .i64 d)] = .ok (.value (.agg (itL ⟨k, (List.range 32).map f, (List.range 64).map g⟩ ++ [Value.int .i64 d]).toArray)) w := by kernel_rfl
theorem bldEd (x : It) (hx : x.Ok) (d : Nat) (w : World) : bldA 61 w #[(0, .agg (itC x)), (1, .int .i64 (d : Int))] = .ok (.value (.agg (edC (x, d)))) w := by
 have h := bldEd_f x.k d (fun j => x.d.getD j 0) (fun j => x.lf.getD j 0) w
 rw [← list32 x.d hx.d, ← list64i x.lf hx.lf] at h
 exact h
noncomputable def bsEd (w : World) (n : Nat) (parts : Array (Nat × Value)) : Result Next := Sem.run Tryz.prog (do pure (.value (← Instr.buildSlice 50 n parts))) w
@[go_sem ↓] theorem execOp_buildSliceEd (ρ : Operand → Value) (dst : Option Tmp) (n : Nat) (parts : Array (Nat × Operand)) (type : TypeId) (pos : String) (after : Array Edge) (guard : Option (Nat × Bool)) (w : World) :
  Sem.run Tryz.prog (execOp ρ { dst, op := .buildSlice 50 n parts, type, pos, after, guard }) w = bsEd w n (parts.map fun x => (x.1, ρ x.2)) := rfl
theorem bsEd_f (k d : Int) (f g : Nat → UInt8) (w : World) : bsEd w 1 #[(0, .agg (itL ⟨k, (List.range 32).map f, (List.range 64).map g⟩ ++ [Value.int .i64 d]).toArray)] = .ok (.value (.slice (some ⟨w.heap.size, 0, none⟩) 1 1)) (w.alloc (.cells (itL ⟨k, (List.range 32).map f, (List.range 64).map g⟩ ++ [Value.int .i64 d]).toArray 61)) := by kernel_rfl
theorem bsEd_one (e : It × Nat) (he : e.1.Ok) (w : World) : bsEd w 1 #[(0, .agg (edC e))] = .ok (.value (.slice (some ⟨w.heap.size, 0, none⟩) 1 1)) (w.alloc (.cells (edC e) 61)) := by
 have h := bsEd_f e.1.k e.2 (fun j => e.1.d.getD j 0) (fun j => e.1.lf.getD j 0) w
 rw [← list32 e.1.d he.d, ← list64i e.1.lf he.lf] at h
 exact h
theorem infoEd3 : (Tryz.prog.info? 61).map (fun i => (i.zero, i.size, i.bytes)) = some (some (.agg (edC (zIt, 0))), 98, 112) := by kernel_rfl
def OwnEd (w : World) (B : Nat) (v : Value) (es : List (It × Nat)) : Prop := w.ownsRow B 61 98 v es.length (es.flatMap edL)
theorem OwnEd.nil (w : World) (B : Nat) : OwnEd w B (.slice none 0 0) [] := ⟨rfl, .inl ⟨rfl, rfl⟩⟩
theorem OwnEd.own {w : World} {B : Nat} {v : Value} {es : List (It × Nat)} (h : OwnEd w B v es) : ∀ g, v.ownBlock = some g → B ≤ g ∧ g < w.heap.size := fun g hg => by
 obtain ⟨h1, cs, h2⟩ := row11_lt h g hg
 exact ⟨h1, lt_of_heap h2⟩
theorem OwnEd.below {w w' : World} {B : Nat} {v : Value} {es : List (It × Nat)} (h : OwnEd w B v es) (hb : Below w.heap.size w w') : OwnEd w' B v es := row11_keep h (Keep.of_below (L := fun _ => False) hb) fun _ _ h => h
theorem edL_one {e : It × Nat} {u : Value} (h : u ∈ edL e) : u.oneCell' = true := by
 unfold edL at h
 rcases List.mem_append.1 h with h | h
 ·exact itL_one h
 ·rw [List.mem_singleton.1 h]; rfl
theorem flatE_at {l : List (It × Nat)} (hl : ∀ x ∈ l, x.1.Ok) {i : Nat} {x : It × Nat} (hi : l[i]? = some x) {j : Nat} {v : Value} (hv : (edL x)[j]? = some v) : (l.flatMap edL)[i * 98 + j]? = some v := by
 induction l generalizing i with
 | nil => simp at hi
 | cons y r ih =>
  have hy := edL_len (hl y (by simp))
  rw [List.flatMap_cons]
  cases i with
  | zero =>
   simp at hi
   subst hi
   rw [Nat.zero_mul, Nat.zero_add, List.getElem?_append_left (List.getElem?_eq_some_iff.1 hv).1]
   exact hv
  | succ i =>
   rw [List.getElem?_append_right (by rw [hy]; omega), hy, show (i + 1) * 98 + j - 98 = i * 98 + j by omega]
   exact ih (fun z hz => hl z (by simp [hz])) hi
theorem OwnEd.ed {w : World} {B : Nat} {v : Value} {es : List (It × Nat)} (h : OwnEd w B v es) (hl : ∀ x ∈ es, x.1.Ok) : ∃ A c, v = .slice A es.length c ∧ EdA w A es ∧ es.length ≤ c := by
 obtain ⟨h0, ⟨rfl, h⟩ | ⟨g, cap, cur, rfl, hg, hh, hn, hc, hs, ht⟩⟩ := h
 ·exact ⟨none, 0, by rw [h], fun i e hi => by
   have : es = [] := List.length_eq_zero_iff.1 h
   subst this; simp at hi, by omega⟩
 ·have hat : ∀ (i : Nat) (k : It × Nat), es[i]? = some k → ∀ (j : Nat) (x : Value), (edL k)[j]? = some x → w.cell? ⟨g, i * 98 + j, none⟩ = some x := fun i k hi j x hx => by
   have h1 := flatE_at hl hi (j := j) (v := x) hx
   have hlt := (List.getElem?_eq_some_iff.1 h1).1
   rw [h0] at hlt
   rw [cell_of_cells hh, ← Array.getElem?_toList, ← h1, ← ht, List.getElem?_take, if_pos hlt]
  refine ⟨_, cap, rfl, fun i k hi => ⟨hl k (List.mem_of_getElem? hi), g, 0, rfl, fun j x hx => ?_, ?_⟩, hn⟩
  ·rw [Nat.zero_add]
   exact hat i k hi j x (by unfold edL; rw [List.getElem?_append_left (List.getElem?_eq_some_iff.1 hx).1]; exact hx)
  ·rw [Nat.zero_add]
   exact hat i k hi 97 _ (by unfold edL; rw [List.getElem?_append_right (by rw [itL_len (hl k (List.mem_of_getElem? hi))]; exact Nat.le_refl _), itL_len (hl k (List.mem_of_getElem? hi))]; rfl)
theorem wpList_pushEd {ops : Array Oper} {rest : List Oper} {o : Oper} {a : Act} {w : World} {Q : Exit → Act → World → Prop} (hgd : o.guard = none) (s x : Operand)
  (ho : o.op = .call { callee := .builtin .append, args := #[s, x], argTypes := #[50, 50] }) (B : Nat) (v : Value) (es : List (It × Nat)) (hs : a.eval s = v) (hown : OwnEd w B v es) (g : Nat) (e : It × Nat) (hok : e.1.Ok)
  (hx : a.eval x = .slice (some ⟨g, 0, none⟩) 1 1) (hr : w.rangeAt g 0 (edL e)) (hl : es.length ≤ 1000000) (hB : B ≤ w.heap.size)
  (h : ∀ v' w', OwnEd w' B v' (es ++ [e]) → Gr v v' w w' → wpList Tryz.prog ops Q rest (a.put o.dst v') w') : wpList Tryz.prog ops Q (o :: rest) a w := by
 obtain ⟨i0, hi, hz0, hz1, hz2⟩ := info_parts infoEd3
 refine wpList_append_own_at (w := w) hgd s x 50 ho B 61 i0 _ 98 112 Tryz.underlying50 hi hz0 hz1 hz2 rfl (by decide) v es.length (es.flatMap edL) hs hown ⟨g, 0, none⟩ 1 1 (edL e) hx (by rw [edL_len hok])
  (fun j u hj => ?_) (fun u hu => edL_one hu) (by unfold maxLen; omega) (by omega) hB fun v' w' h1 h2 _ h4 => h v' w' ?_ (Gr.of11 ⟨h2, h4⟩)
 ·have := hr j u hj
  rwa [show (⟨g, 0, none⟩ : Addr).add j = ⟨g, 0 + j, none⟩ from add_none g 0 j]
 ·unfold OwnEd
  rw [List.flatMap_append, List.length_append]
  simpa using h1
theorem ed_made (w : World) (e : It × Nat) (t : TypeId) : (w.alloc (.cells (edC e) t)).rangeAt w.heap.size 0 (edL e) := fun j v hv => by
 rw [Nat.zero_add, cell_of_cells (heap_alloc_new w _)]
 unfold edC
 rw [List.getElem?_toArray]
 exact hv
def endsD (t : Mt) (ks : List (List UInt8)) (d : Nat) : List (It × Nat) := ks.map fun k => (finM k t d, depM k t d)
theorem endsD_leaf (x : It) (ks : List (List UInt8)) (d : Nat) : endsD (.leaf x) ks d = List.replicate ks.length (x, d) := by
 show ks.map (fun _ => (x, d)) = _
 exact List.map_const'
theorem endsD_node {d : Nat} (hd : d < 256) (x : It) (a b : Mt) {ks : List (List UInt8)} (h : Bel ks d) : endsD (.node x a b) ks d = endsD a (side0 ks d) (d + 1) ++ endsD b (side1 ks d) (d + 1) := by
 obtain ⟨s1, s2⟩ := key_cut hd ks h.asc h.eq
 have e : ks = side0 ks d ++ side1 ks d := by
  have := List.take_append_drop (side0 ks d).length ks
  rw [s1, s2] at this
  exact this.symm
 have e1 : endsD (.node x a b) ks d = endsD (.node x a b) (side0 ks d ++ side1 ks d) d := congrArg (fun l => endsD (.node x a b) l d) e
 refine e1.trans ?_
 unfold endsD
 rw [List.map_append]
 refine congr (congrArg _ ?_) ?_
 ·refine List.map_congr_left fun k hk => ?_
  have := (mem_side0.1 hk).2
  show (if bitK k d = 1 then _ else _, if bitK k d = 1 then _ else _) = _
  rw [if_neg this, if_neg this]
 ·refine List.map_congr_left fun k hk => ?_
  have := (mem_side1.1 hk).2
  show (if bitK k d = 1 then _ else _, if bitK k d = 1 then _ else _) = _
  rw [if_pos this, if_pos this]
def EdC (w0 : World) (t : Mt) (d : Nat) : Prop := ∀ (ks : List (List UInt8)) (A : Option Addr) (c : Nat) (w : World) (v : Value) (es : List (It × Nat)) (u : Value), SubV w0 t u → KS w0 A ks → ks.length ≤ c → ks.length ≤ 1000 → Bel ks d → Below w0.heap.size w0 w → OwnEd w w0.heap.size v es → es.length + ks.length ≤ 100000 →
 Calls Tryz.prog 48 #[v, u, .slice A ks.length c, .int .i64 (d : Int)] w fun e w' => ∃ v' fb, e = .returned (.tuple #[v', .bool fb]) ∧ (fb = true ↔ fitR t ks d) ∧ (fb = true → OwnEd w' w0.heap.size v' (es ++ endsD t ks d)) ∧ Gr v v' w w'
theorem ends_leaf (w0 : World) (x : It) (d : Nat) : EdC w0 (.leaf x) d := fun ks A c w v es u hs _ _ hkl _ hw hO hl => by
 obtain ⟨hx, g, o, rfl, hr⟩ := hs
 obtain ⟨X, hX⟩ : ∃ X, X = w.alloc (.cells #[.pointer (some ⟨g, o, none⟩)] 138) := ⟨_, rfl⟩
 have hB : Below w.heap.size w X := by rw [hX]; exact Bt.one_below _ _
 have st := stEnd w (some ⟨g, o, none⟩)
 rw [← hX] at st
 have ta := ta_end_end
 have hcX : X.heap[w.heap.size]? = some (.cells #[.pointer (some ⟨g, o, none⟩)] 138 (0, 0)) := by rw [hX]; exact heap_alloc_new w _
 have HGR : Hid (∀ v' z, Gr v v' X z → z.cell? ⟨w.heap.size, 0, none⟩ = some (.pointer (some ⟨g, o, none⟩))) := fun v' z h => by
  rw [cell_of_cells (h.keep.heap hcX fun e => by have := (hO.own _ e).2; omega)]; rfl
 have hsz0 : w0.heap.size ≤ w.heap.size := hw.size
 have HBX : Hid (Below w0.heap.size w0 X) := hw.trans (hB.mono hw.size)
 have HRG : Hid (∀ z, Below w0.heap.size w0 z → z.rangeAt g o (itL x)) := fun z hz => range_below hr hz
 have HBZ : Hid (∀ v' z, Gr v v' X z → Below w0.heap.size w0 z) := fun v' z h => h.base HBX.out (fun g hg => (hO.own g hg).1) HBX.out.size
 have HX := Lib.hid hX
 have HB := Lib.hid hB
 have HOX := Lib.hid (hO.below hB)
 have HXO := Lib.hid hx
 have be := fun w => bldEd x hx d w
 have bs := bsEd_one (x, d) hx
 have HES : Hid (es.length + ks.length ≤ 100000) := hl
 have HDE := endsD_leaf x ks d
 obtain ⟨N, hN⟩ : ∃ N, N = ks.length := ⟨_, rfl⟩
 have HFI : Hid (fitR (.leaf x) ks d ↔ (x.k = 3 → N = 0)) := by
  show _ ↔ _
  rw [hN]
  exact ⟨fun h h3 => by rw [h h3]; rfl, fun h h3 => List.length_eq_zero_iff.1 (h h3)⟩
 rw [← hN] at HDE HES hkl ⊢
 rw [HDE]
 have HNK : Hid (N ≤ 1000) := hkl
 clear hr hx hX hB hcX hO hl hw hN HDE hsz0 hkl
 go_enter Tryz.func48, Tryz.ntmps48
 go_wp2_with fail
 clear st
 go_loopg [0, 20] N (fun gg l i wr => ∃ j : Nat, i = .int .i64 (j : Int) ∧ j ≤ N ∧ N - j = gg ∧ OwnEd wr w0.heap.size l (es ++ List.replicate j (x, d)) ∧ Gr v l X wr)
 case atStart => exact ⟨0, rfl, Nat.zero_le _, rfl, by rw [List.replicate_zero, List.append_nil]; exact HOX.out, Gr.refl _ _⟩
 case round =>
  obtain ⟨j, rfl, hj, rfl, hO, hG⟩ := hrel
  have HO := Lib.hid hO
  have HG := Lib.hid hG
  have hbz := HBZ.out _ _ hG
  have cp := HGR.out _ _ hG
  have hrz := HRG.out _ hbz
  by_cases hlt : j < N
  ·have hd : decide (j < N) = true := decide_eq_true hlt
   have l1 := it_ld hrz HXO.out
   have wi : IntKind.i64.wrap ((j : Int) + 1) = (j : Int) + 1 := wrap19v (by omega) (by have := HNK.out; omega)
   have hbn : Below wr.heap.size wr (wr.alloc (.cells (edC (x, d)) 61)) := Bt.one_below _ _
   have HO3 := Lib.hid (hO.below hbn)
   have HG3 := Lib.hid (hG.trans (Gr.below hbn))
   have HM3 := Lib.hid (ed_made wr (x, d) 61)
   have HS3 : Hid (w0.heap.size ≤ (wr.alloc (.cells (edC (x, d)) 61)).heap.size) := Nat.le_trans hbz.size hbn.size
   clear hO hG hbz hrz hbn
   go_wp2_with (at_builtin; refine wpList_pushEd rfl _ _ rfl w0.heap.size _ (es ++ List.replicate j (x, d)) rfl HO3.out wr.heap.size (x, d) HXO.out rfl HM3.out (by have := HES.out; rw [List.length_append, List.length_replicate]; omega) HS3.out ?_; intro v8 x8 hO8 hG8; have HO8 := Lib.hid hO8; have HG8 := Lib.hid (HG3.out.trans hG8); clear hO8 hG8)
   go_roundg (N - (j + 1))
   case measure => omega
   case rel => exact ⟨j + 1, by go_num, by omega, rfl, by rw [List.replicate_succ', ← List.append_assoc]; exact HO8.out, HG8.out⟩
  ·obtain rfl : j = N := by omega
   have hd : decide (j < j) = false := by simp
   have ck := it_kind hrz
   have HGF := Lib.hid ((Gr.below (v := v) HB.out).trans hG)
   obtain ⟨k, hk⟩ : ∃ k, k = x.k := ⟨_, rfl⟩
   rw [← hk] at ck HFI
   clear hO hG hbz hrz hlt
   by_cases h3 : k = 3
   ·subst h3
    by_cases h0 : j = 0
    ·subst h0
     have HF : Hid (fitR (.leaf x) ks d) := HFI.out.2 fun _ => rfl
     clear HFI
     go_wp2_with fail
     go_ret2
     exact ⟨_, true, rfl, ⟨fun _ => HF.out, fun _ => rfl⟩, fun _ => HO.out, HGF.out⟩
    ·have e0 : ((j : Int) == 0) = false := by simp; omega
     have HF : Hid (¬ fitR (.leaf x) ks d) := fun h => h0 (HFI.out.1 h rfl)
     clear HFI
     go_wp2_with fail
     go_ret2
     exact ⟨_, false, rfl, ⟨fun h => (by cases h), fun h => absurd h HF.out⟩, fun h => (by cases h), HGF.out⟩
   ·have e3 : (k != 3) = true := by simpa using h3
    have HF : Hid (fitR (.leaf x) ks d) := HFI.out.2 fun h => absurd h h3
    clear HFI
    go_wp2_with fail
    go_ret2
    exact ⟨_, true, rfl, ⟨fun _ => HF.out, fun _ => rfl⟩, fun _ => HO.out, HGF.out⟩
theorem ends_node (w0 : World) (x : It) (a b : Mt) (d : Nat) (hd : d < 256) (ia : EdC w0 a (d + 1)) (ib : EdC w0 b (d + 1)) : EdC w0 (.node x a b) d := fun ks A c w v es u hs hK hc hkl hbel hw hO hl => by
 obtain ⟨u1, u2, rfl, hs1, hs2⟩ := hs
 obtain ⟨s1, c1, rfl⟩ := hs1.iface
 obtain ⟨s2, c2, rfl⟩ := hs2.iface
 obtain ⟨X, hX⟩ : ∃ X, X = w.alloc (.cells #[.iface s1 (.agg c1), .iface s2 (.agg c2)] 141) := ⟨_, rfl⟩
 have hB : Below w.heap.size w X := by rw [hX]; exact Bt.one_below _ _
 have st := stInn w s1 s2 c1 c2
 rw [← hX] at st
 have ta1 := ta_inn_end
 have ta2 := ta_inn_inn
 have hcX : X.heap[w.heap.size]? = some (.cells #[.iface s1 (.agg c1), .iface s2 (.agg c2)] 141 (0, 0)) := by rw [hX]; exact heap_alloc_new w _
 have HGR : Hid (∀ v' z, Gr v v' X z → z.cell? ⟨w.heap.size, 0, none⟩ = some (.iface s1 (.agg c1)) ∧ z.cell? ⟨w.heap.size, 1, none⟩ = some (.iface s2 (.agg c2))) := fun v' z h => by
  have h2 := h.keep.heap hcX fun e => by have := (hO.own _ e).2; omega
  exact ⟨by rw [cell_of_cells h2]; rfl, by rw [cell_of_cells h2]; rfl⟩
 have HBX : Hid (Below w0.heap.size w0 X) := hw.trans (hB.mono hw.size)
 have HBZ : Hid (∀ v' z, Gr v v' X z → Below w0.heap.size w0 z) := fun v' z h => h.base HBX.out (fun g hg => (hO.own g hg).1) HBX.out.size
 have HB := Lib.hid hB
 have HOX := Lib.hid (hO.below hB)
 have HX := Lib.hid hX
 have hsl := sides_len ks d
 by_cases hks : ks = []
 ·subst hks
  have HF : Hid (¬ fitR (.node x a b) [] d) := fun h => h.1 rfl
  clear hs1 hs2 hK hc hkl hbel hw hO hl ia ib hB hcX hX hsl
  go_enter Tryz.func48, Tryz.ntmps48
  go_wp2_with fail
  go_ret2
  exact ⟨_, false, rfl, ⟨fun h => (by cases h), fun h => absurd h HF.out⟩, fun h => (by cases h), Gr.none (Keep.of_below HB.out)⟩
 have HDE := Lib.hid (endsD_node hd x a b hbel)
 have HFI : Hid (fitR (.node x a b) ks d ↔ fitR a (side0 ks d) (d + 1) ∧ fitR b (side1 ks d) (d + 1)) := ⟨fun h => h.2, fun h => ⟨hks, h⟩⟩
 have HDV : Hid (∀ z, Below w0.heap.size w0 z → Calls Tryz.prog 63 #[.slice A ks.length c, .int .i64 (d : Int)] z fun e w' => ∃ A0 A1 c0 c1, e = .returned (.tuple #[.slice A0 (side0 ks d).length c0, .slice A1 (side1 ks d).length c1]) ∧ KS w0 A0 (side0 ks d) ∧ KS w0 A1 (side1 ks d) ∧ (side0 ks d).length ≤ c0 ∧ (side1 ks d).length ≤ c1 ∧ Below z.heap.size z w') := fun z hz => divide19_c A c ks d w0 z hK (hK.below hz) hc hd (by omega) hbel
 have HIA : Hid (∀ (A : Option Addr) (c : Nat) (z : World) (v : Value) (es : List (It × Nat)), KS w0 A (side0 ks d) → (side0 ks d).length ≤ c → Below w0.heap.size w0 z → OwnEd z w0.heap.size v es → es.length + (side0 ks d).length ≤ 100000 →
   Calls Tryz.prog 48 #[v, .iface s1 (.agg c1), .slice A (side0 ks d).length c, .int .i64 ((d : Int) + 1)] z fun e w' => ∃ v' fb, e = .returned (.tuple #[v', .bool fb]) ∧ (fb = true ↔ fitR a (side0 ks d) (d + 1)) ∧ (fb = true → OwnEd w' w0.heap.size v' (es ++ endsD a (side0 ks d) (d + 1))) ∧ Gr v v' z w') := fun A c z v es h1 h2 h3 h4 h5 => by
  have := ia (side0 ks d) A c z v es _ hs1 h1 h2 (by omega) (hbel.left hd) h3 h4 h5
  rwa [show ((d + 1 : Nat) : Int) = (d : Int) + 1 by omega] at this
 have HIB : Hid (∀ (A : Option Addr) (c : Nat) (z : World) (v : Value) (es : List (It × Nat)), KS w0 A (side1 ks d) → (side1 ks d).length ≤ c → Below w0.heap.size w0 z → OwnEd z w0.heap.size v es → es.length + (side1 ks d).length ≤ 100000 →
   Calls Tryz.prog 48 #[v, .iface s2 (.agg c2), .slice A (side1 ks d).length c, .int .i64 ((d : Int) + 1)] z fun e w' => ∃ v' fb, e = .returned (.tuple #[v', .bool fb]) ∧ (fb = true ↔ fitR b (side1 ks d) (d + 1)) ∧ (fb = true → OwnEd w' w0.heap.size v' (es ++ endsD b (side1 ks d) (d + 1))) ∧ Gr v v' z w') := fun A c z v es h1 h2 h3 h4 h5 => by
  have := ib (side1 ks d) A c z v es _ hs2 h1 h2 (by omega) hbel.right h3 h4 h5
  rwa [show ((d + 1 : Nat) : Int) = (d : Int) + 1 by omega] at this
 have HES : Hid (es.length + (side0 ks d).length + (side1 ks d).length ≤ 100000) := by show _ ≤ _; omega
 have HEL : Hid ((endsD a (side0 ks d) (d + 1)).length = (side0 ks d).length) := List.length_map ..
 obtain ⟨k0, hk0⟩ : ∃ k, k = side0 ks d := ⟨_, rfl⟩
 obtain ⟨k1, hk1⟩ : ∃ k, k = side1 ks d := ⟨_, rfl⟩
 rw [← hk0] at HIA HDV HES HDE HEL HFI
 rw [← hk1] at HIB HDV HES HDE HFI
 obtain ⟨ea, hea⟩ : ∃ l, l = endsD a k0 (d + 1) := ⟨_, rfl⟩
 obtain ⟨eb, heb⟩ : ∃ l, l = endsD b k1 (d + 1) := ⟨_, rfl⟩
 rw [← hea] at HIA HDE HEL
 rw [← heb] at HIB HDE
 rw [HDE.out]
 obtain ⟨N0, hN0⟩ : ∃ N, N = k0.length := ⟨_, rfl⟩
 obtain ⟨N1, hN1⟩ : ∃ N, N = k1.length := ⟨_, rfl⟩
 rw [← hN0] at HIA HDV HES HEL
 rw [← hN1] at HIB HDV HES
 have hne : ¬ ks.length = 0 := fun h => hks (List.length_eq_zero_iff.1 h)
 obtain ⟨N, hN⟩ : ∃ N, N = ks.length := ⟨_, rfl⟩
 rw [← hN] at hne HDV ⊢
 have e0 : ((N : Int) == 0) = false := by simp; omega
 have wd : IntKind.i64.wrap ((d : Int) + 1) = (d : Int) + 1 := wrap19v (by omega) (by omega)
 have HDX := Lib.hid (HDV.out X HBX.out)
 clear hs1 hs2 hK hc hkl hbel hw hO hl ia ib hB hcX hsl hks hk0 hk1 hea heb hN0 hN1 hN HDV HDE hX hd
 go_enter Tryz.func48, Tryz.ntmps48
 go_wp2_with fail
 refine HDX.out.mono ?_
 rintro _ w2 ⟨A0, A1, d0, d1, rfl, hK0, hK1, hc0, hc1, hb2⟩
 have hG2 : Gr v v X w2 := Gr.below hb2
 have HG2 := Lib.hid hG2
 have HC1 := Lib.hid (HIA.out A0 d0 w2 v es hK0 hc0 (HBZ.out _ _ hG2) (HOX.out.below hb2) (by have := HES.out; omega))
 have HKB := Lib.hid hK1
 have HCB := Lib.hid hc1
 have cp := (HGR.out _ _ hG2).1
 clear st ta1 ta2 HDX hK0 hK1 hc0 hc1 hb2 hG2 HIA
 go_wp2_with fail
 refine HC1.out.mono ?_
 rintro _ w4 ⟨v4, f4, rfl, hf4, hO4, hG4⟩
 have HF4 := Lib.hid hf4
 have hGX := HG2.out.trans hG4
 have HG4 := Lib.hid hGX
 clear hf4 cp HC1
 cases f4 with
 | false =>
  have HF : Hid (¬ fitR (.node x a b) ks d) := fun h => by have := HF4.out.2 (HFI.out.1 h).1; cases this
  have HGF := Lib.hid ((Gr.below (v := v) HB.out).trans HG4.out)
  clear hO4 hG4 hGX HFI HF4
  go_wp2_with fail
  go_ret2
  exact ⟨_, false, rfl, ⟨fun h => (by cases h), fun h => absurd h HF.out⟩, fun h => (by cases h), Gr.none HGF.out.keep⟩
 | true =>
  have hO4' := hO4 rfl
  have cp := (HGR.out _ _ hGX).2
  have HC2 := Lib.hid (HIB.out A1 d1 w4 v4 (es ++ ea) HKB.out HCB.out (HBZ.out _ _ hGX) hO4' (by have := HES.out; have := HEL.out; rw [List.length_append]; omega))
  clear hO4 hO4' hG4 hGX HIB
  go_wp2_with fail
  refine HC2.out.mono ?_
  rintro _ w5 ⟨v5, f5, rfl, hf5, hO5, hG5⟩
  have HF : Hid (f5 = true ↔ fitR (.node x a b) ks d) := ⟨fun h => HFI.out.2 ⟨HF4.out.1 (by simp), hf5.1 h⟩, fun h => hf5.2 (HFI.out.1 h).2⟩
  have HO5 := Lib.hid hO5
  have HGF := Lib.hid (((Gr.below (v := v) HB.out).trans HG4.out).trans hG5)
  clear hf5 hO5 hG5 cp HC2 HF4 HFI
  go_wp2_with fail
  go_ret2
  exact ⟨_, f5, rfl, HF.out, fun h => by rw [← List.append_assoc]; exact HO5.out h, HGF.out⟩
theorem ends_c (w0 : World) : ∀ (t : Mt) (d : Nat), d + t.ht ≤ 256 → EdC w0 t d
 | .leaf x, d, _ => ends_leaf w0 x d
 | .node x a b, d, h => by
  have h : d + (max a.ht b.ht + 1) ≤ 256 := h
  exact ends_node w0 x a b d (by omega) (ends_c w0 a (d + 1) (by omega)) (ends_c w0 b (d + 1) (by omega))
theorem pends_of (w : World) (t : Mt) (ks : List (List UInt8)) (A B : Option Addr) (c cb : Nat) (ht : t.Good) (hA : IA w A t.flat) (hc : t.flat.length ≤ c) (hl : t.flat.length ≤ 100000) (hK : KS w B ks) (hcb : ks.length ≤ cb) (hkl : ks.length ≤ 1000) (h0 : keysI ks = 0) :
  Calls Tryz.prog 23 #[.slice A t.flat.length c, .slice B ks.length cb] w fun e w' => ∃ A' c', ((FitD t ks 0 0 → e = .returned (.tuple #[.slice A' ks.length c', .int .i64 0]) ∧ EdA w' A' (endsM t ks) ∧ ks.length ≤ c') ∧ (¬ FitD t ks 0 0 → e = .returned (.tuple #[.slice A' 0 c', .int .i64 12]))) ∧ Below w.heap.size w w' := by
 have HRD := Lib.hid (read_ok t A c w ht hA hc (by omega))
 have HKC : Hid (∀ z, Below w.heap.size w z → Calls Tryz.prog 14 #[.slice B ks.length cb] z fun e w' => e = .returned (.int .i64 0) ∧ Below z.heap.size z w') := fun z hz => by
  have := pkeys19_c z ks B cb (hK.below hz) (by omega)
  rwa [h0] at this
 obtain ⟨_, hbel⟩ := keys_bel hK.k32 h0
 have HEC : Hid (∀ (z : World) (u : Value), SubV w t u → Below w.heap.size w z → Calls Tryz.prog 48 #[.slice none 0 0, u, .slice B ks.length cb, .int .i64 0] z fun e w' => ∃ v' fb, e = .returned (.tuple #[v', .bool fb]) ∧ (fb = true ↔ FitD t ks 0 0) ∧ (fb = true → OwnEd w' w.heap.size v' (endsM t ks)) ∧ Below w.heap.size w w') := fun z u hs hz => by
  refine (ends_c w t 0 (by have := ht.2.1; omega) ks B cb z (.slice none 0 0) [] u hs hK hcb hkl hbel hz (OwnEd.nil z _) (by rw [List.length_nil]; omega)).mono ?_
  rintro e w' ⟨v', fb, he, h1, h2, h3⟩
  exact ⟨v', fb, he, h1.trans (fit_iff t ks 0 0 ht.1).symm, h2, h3.base hz (fun g hg => by simp [Value.ownBlock] at hg) hz.size⟩
 have HOK : Hid (∀ y ∈ endsM t ks, y.1.Ok) := fun y hy => by
  obtain ⟨k, _, rfl⟩ := List.mem_map.1 hy
  have hfin : ∀ (t : Mt) (d : Nat), finM k t d ∈ t.flat := by
   intro t
   induction t with
   | leaf x => intro d; exact List.mem_singleton.2 rfl
   | node x a b iha ihb =>
    intro d
    show (if bitK k d = 1 then finM k b (d + 1) else finM k a (d + 1)) ∈ x :: (a.flat ++ b.flat)
    split
    ·exact List.mem_cons_of_mem _ (List.mem_append.2 (.inr (ihb _)))
    ·exact List.mem_cons_of_mem _ (List.mem_append.2 (.inl (iha _)))
  exact hA.ok _ (hfin t 0)
 have HEL : Hid ((endsM t ks).length = ks.length) := List.length_map ..
 obtain ⟨es, hes⟩ : ∃ es, es = endsM t ks := ⟨_, rfl⟩
 rw [← hes] at HEC HOK HEL ⊢
 obtain ⟨N, hN⟩ : ∃ N, N = ks.length := ⟨_, rfl⟩
 rw [← hN] at HKC HEC HEL ⊢
 obtain ⟨M, hM⟩ : ∃ M, M = t.flat.length := ⟨_, rfl⟩
 rw [← hM] at HRD ⊢
 have HFD : Hid (∃ F : Prop, F = FitD t ks 0 0) := ⟨_, rfl⟩
 obtain ⟨F, hF⟩ := HFD.out
 rw [← hF] at HEC ⊢
 clear ht hA hc hl hK hcb hkl h0 hbel hes hN hM hF HFD
 go_enter Tryz.func23, Tryz.ntmps23
 go_wp2_with fail
 refine HRD.out.mono ?_
 rintro _ w1 ⟨s, u, rfl, hs, hb1⟩
 have HS := Lib.hid hs
 have HB1 := Lib.hid hb1
 have HK1 := Lib.hid (HKC.out w1 hb1)
 clear hs hb1 HRD HKC
 go_wp2_with fail
 refine HK1.out.mono ?_
 rintro _ w2 ⟨rfl, hb2⟩
 have HE2 := Lib.hid (HEC.out w2 _ HS.out (HB1.out.trans (hb2.mono HB1.out.size)))
 clear hb2 HK1 HEC
 go_wp2_with fail
 refine HE2.out.mono ?_
 rintro _ w3 ⟨v, fb, rfl, hf, hO, hb3⟩
 have HF := Lib.hid hf
 have HB3 := Lib.hid hb3
 cases fb with
 | true =>
  have hFF := hf.1 rfl
  obtain ⟨A', c', rfl, hE, hc'⟩ := (hO rfl).ed HOK.out
  rw [HEL.out] at hc' ⊢
  have HED := Lib.hid hE
  have HCC := Lib.hid hc'
  have HFF := Lib.hid hFF
  clear hf hO hb3 hE hc' hFF HE2
  go_wp2_with fail
  go_ret2
  exact ⟨A', c', ⟨fun _ => ⟨rfl, HED.out, HCC.out⟩, fun h => absurd HFF.out h⟩, HB3.out⟩
 | false =>
  clear hf hO hb3 HE2
  go_wp2_with fail
  go_ret2
  exact ⟨none, 0, ⟨fun h => (by have := HF.out.2 h; cases this), fun _ => rfl⟩, HB3.out⟩
theorem pendsBad_c (w : World) (l : List It) (ks : List (List UInt8)) (A B : Option Addr) (c cb : Nat) (hA : IA w A l) (hc : l.length ≤ c) (hl : l.length ≤ 100000) (hK : KS w B ks) (hkl : ks.length ≤ 1000) (h0 : chkI l ≠ 0 ∨ keysI ks ≠ 0) :
  Calls Tryz.prog 23 #[.slice A l.length c, .slice B ks.length cb] w fun e w' => ∃ A' c', e = .returned (.tuple #[.slice A' 0 c', .int .i64 (if chkI l ≠ 0 then chkI l else keysI ks)]) ∧ Below w.heap.size w w' := by
 by_cases hk : chkI l = 0
 ·have h1 := h0.resolve_left (fun h => h hk)
  rw [if_neg (fun h => h hk)]
  obtain ⟨t, ht, rfl⟩ := chkI_ok.1 hk
  have HRD := Lib.hid (read_ok t A c w ht hA hc (by omega))
  have HKC : Hid (∀ z, Below w.heap.size w z → Calls Tryz.prog 14 #[.slice B ks.length cb] z fun e w' => e = .returned (.int .i64 (keysI ks)) ∧ Below z.heap.size z w') := fun z hz => pkeys19_c z ks B cb (hK.below hz) (by omega)
  obtain ⟨z, hz⟩ : ∃ z, z = keysI ks := ⟨_, rfl⟩
  rw [← hz] at HKC h1 ⊢
  have e0 : (z != 0) = true := by simpa using h1
  obtain ⟨N, hN⟩ : ∃ N, N = ks.length := ⟨_, rfl⟩
  rw [← hN] at HKC ⊢
  obtain ⟨M, hM⟩ : ∃ M, M = t.flat.length := ⟨_, rfl⟩
  rw [← hM] at HRD ⊢
  clear ht hA hc hl hK hkl h0 h1 hk hz hN hM
  go_enter Tryz.func23, Tryz.ntmps23
  go_wp2_with fail
  refine HRD.out.mono ?_
  rintro _ w1 ⟨s, u, rfl, _, hb1⟩
  have HB1 := Lib.hid hb1
  have HK1 := Lib.hid (HKC.out w1 hb1)
  clear hb1 HRD HKC
  go_wp2_with fail
  refine HK1.out.mono ?_
  rintro _ w2 ⟨rfl, hb2⟩
  have HB2 := Lib.hid (HB1.out.trans (hb2.mono HB1.out.size))
  clear hb2 HK1
  go_wp2_with fail
  go_ret2
  exact ⟨none, 0, rfl, HB2.out⟩
 ·rw [if_pos hk]
  have HRD := Lib.hid (read_bad l A c w hA hc (by omega) hk)
  obtain ⟨z, hz⟩ : ∃ z, z = chkI l := ⟨_, rfl⟩
  rw [← hz] at HRD hk ⊢
  have e0 : (z != 0) = true := by simpa using hk
  obtain ⟨M, hM⟩ : ∃ M, M = l.length := ⟨_, rfl⟩
  rw [← hM] at HRD ⊢
  clear hA hc hl hK hkl h0 hk hz hM
  go_enter Tryz.func23, Tryz.ntmps23
  go_wp2_with fail
  refine HRD.out.mono ?_
  rintro _ w1 ⟨rfl, hb1⟩
  have HB1 := Lib.hid hb1
  clear hb1 HRD
  go_wp2_with fail
  go_ret2
  exact ⟨none, 0, rfl, HB1.out⟩
end
section
open Go.RowKit
def setA (cs : Array Value) : Nat → List Value → Array Value
 | _, [] => cs
 | o, v :: r => setA (cs.setIfInBounds o v) (o + 1) r
theorem heap_setA (g : Nat) (t : TypeId) : ∀ (vs : List Value) (o : Nat) (w : World) (cs : Array Value), w.heap[g]? = some (.cells cs t (0, 0)) → (w.setCells g o vs).heap[g]? = some (.cells (setA cs o vs) t (0, 0))
 | [], _, _, _, h => h
 | v :: r, o, w, cs, h => heap_setA g t r (o + 1) _ _ (heap_setCell_same w g o cs t v h)
theorem setA_mid : ∀ (mid mid' pre post : List Value), mid'.length = mid.length → setA (pre ++ (mid ++ post)).toArray pre.length mid' = (pre ++ (mid' ++ post)).toArray
 | [], [], _, _, _ => rfl
 | x :: m, v :: r, pre, post, h => by
  show setA ((pre ++ (x :: m ++ post)).toArray.setIfInBounds pre.length v) (pre.length + 1) r = _
  have e : (pre ++ (x :: m ++ post)).toArray.setIfInBounds pre.length v = ((pre ++ [v]) ++ (m ++ post)).toArray := by
   rw [List.setIfInBounds_toArray]
   congr 1
   rw [List.set_append_right _ _ (Nat.le_refl _), Nat.sub_self]
   simp
  rw [e]
  have := setA_mid m r (pre ++ [v]) post (by simpa using h)
  rw [List.length_append, List.length_singleton] at this
  rw [this]
  simp
theorem range_mid {w : World} {b : Nat} {t : TypeId} {fr : Nat × Nat} {pre mid post : List Value} (h : w.heap[b]? = some (.cells (pre ++ (mid ++ post)).toArray t fr)) : w.rangeAt b pre.length mid := fun j v hv => by
 rw [cell_of_cells h, List.getElem?_toArray, List.getElem?_append_right (by omega), Nat.add_sub_cancel_left, List.getElem?_append_left (List.getElem?_eq_some_iff.1 hv).1]
 exact hv
theorem keep_setCells (g : Nat) : ∀ (vs : List Value) (o : Nat) (w : World), Keep (fun i => i = g) w (w.setCells g o vs)
 | [], _, _ => Keep.refl _ _
 | v :: r, o, w => (Keep.cell w ⟨g, o, none⟩ v).trans (keep_setCells g r (o + 1) _)
end
section
open Go.RowKit Go.Shelf
theorem zeroD2 : ∀ w, (zeroValue 143).run Tryz.prog w = .ok (.agg (bA z64)) w := fun _ => by kernel_rfl
attribute [go_sem ↓] zeroD2
theorem stD2 {w : World} {u : Nat} {t : TypeId} {a m z x : List UInt8} (h : w.heap[u]? = some (.cells (bA (a ++ (m ++ z))) t (0, 0))) (hm : m.length = 32) (hx : x.length = 32) (i : Nat) (hi : a.length = i) :
  stA 45 w (.pointer (some ⟨u, i, none⟩)) (.agg (bA x)) = .ok .skip (w.setCells u i (x.map bv)) ∧ (w.setCells u i (x.map bv)).heap[u]? = some (.cells (bA (a ++ (x ++ z))) t (0, 0)) := by
 subst hi
 have e : ∀ y, bA (a ++ (y ++ z)) = (a.map bv ++ (y.map bv ++ z.map bv)).toArray := fun y => by simp [bA]
 rw [e] at h
 rw [e]
 have hr := range_mid h
 refine ⟨?_, ?_⟩
 ·unfold stA
  have ht : w.there u a.length 32 := fun j hj => ⟨by
   have := hr j ((m.map bv)[j]'(by rw [List.length_map, hm]; exact hj)) (List.getElem?_eq_getElem _)
   rw [List.length_map] at this
   rw [this]; rfl, frozen_of_row w u _ _ _ h⟩
  rw [Sem.run_bind, run_storeAt_mid (P := Tryz.prog) w u a.length 45 (bA x) (by rw [bA_size, hx]; exact ht) (by rw [bA_size, hx]; exact info26) (bA_one x)]
  simp [Sem.run_pure, Result.andThen_ok, bA]
 ·have := heap_setA u t (x.map bv) a.length w _ h
  have e2 := setA_mid (m.map bv) (x.map bv) (a.map bv) (z.map bv) (by rw [List.length_map, List.length_map, hm, hx])
  rw [List.length_map] at e2
  rw [this, e2]
theorem ldD2 {w : World} {u : Nat} {t : TypeId} {a z : List UInt8} (h : w.heap[u]? = some (.cells (bA (a ++ z)) t (0, 0))) (ha : a.length = 32) (hz : z.length = 32) :
  ldA 45 w (.pointer (some ⟨u, 0, none⟩)) = .ok (.value (.agg (bA a))) w ∧ ldA 45 w (.pointer (some ⟨u, 32, none⟩)) = .ok (.value (.agg (bA z))) w :=
 ⟨ldDig (range_mid (pre := []) (mid := a.map bv) (post := z.map bv) (t := t) (fr := (0, 0)) (by rw [h]; simp [bA])) ha, ldDig (by
  have := range_mid (w := w) (b := u) (pre := a.map bv) (mid := z.map bv) (post := []) (t := t) (fr := (0, 0)) (by rw [h]; simp [bA])
  rwa [List.length_map, ha] at this) hz⟩
end
section
open Go.RowKit Go.Sort Go.Lib
abbrev Hh := Option Addr × Nat × Nat
def encHd (h : Hh) : Value := .slice h.1 h.2.1 h.2.2
theorem prev_c (blk off cap : Nat) (d : Array Hh) (w : World) (hH : Holds encHd w blk off d) (hsz : d.size ≤ 1000000) :
  Calls Tryz.prog 51 #[.slice (some ⟨blk, off, none⟩) d.size cap] w fun e w' => e = .returned (.tuple #[]) ∧ ∃ n, w' = putRow encHd (Sort.ahead w n) blk off d.reverse := by
 go_enter Tryz.func51, Tryz.ntmps51
 go_wp2
 go_loopg [2, 3] d.size (fun k s2 s3 wr => ∃ (i jn : Nat) (jz : Int) (dk : Array Hh) (n : Nat), s2 = .int .i64 i ∧ s3 = .int .i64 jz ∧ ((i : Int) < jz → jz = jn ∧ jn < d.size) ∧ (¬ (i : Int) < jz → ¬ i < jn) ∧ jn - i ≤ k ∧
  dk.size = d.size ∧ wr = putRow encHd (Sort.ahead w n) blk off dk ∧ reverseLoop i jn dk = reverseLoop 0 (d.size - 1) d)
 case atStart => exact ⟨0, d.size - 1, (d.size : Int) - 1, d, 0, rfl, rfl, fun h => ⟨by omega, by omega⟩, fun h => by omega, by omega, rfl, (putRow_self encHd w blk off d hH).symm, rfl⟩
 case round =>
  obtain ⟨i, jn, jz, dk, n, rfl, rfl, h1, h2, hk, hds, hwr, heq⟩ := hrel
  by_cases hlt : (i : Int) < jz
  ·obtain ⟨rfl, hjn⟩ := h1 hlt
   have hij : i < jn := by omega
   have hHk : Holds encHd wr blk off dk := by rw [hwr]; exact holds_putRow encHd _ blk off d dk (holds_ahead encHd w n blk off d hH) hds
   obtain ⟨ci, fi⟩ := hHk i (by omega)
   obtain ⟨cj, fj⟩ := hHk jn (by omega)
   have A : Aside (wr = putRow encHd (Sort.ahead w n) blk off dk) := hwr
   unfold encHd at ci cj
   have mixed : Tryz.prog.follows .mixedOrders = true := by kernel_rfl
   have hid : i < d.size := by omega
   clear hwr hHk hH h1 h2
   go_wp2_with fail
   go_region_o
   go_wp2
   go_roundg (jn - 1 - (i + 1))
   case measure => omega
   case rel =>
    rw [reverseLoop, if_pos hij] at heq
    exact ⟨i + 1, jn - 1, (jn : Int) - 1, swp dk i jn, n + 1, by simp, rfl, fun h => ⟨by omega, by omega⟩, fun h => by omega, Nat.le_refl _, by rw [size_swp]; exact hds,
     swap_world encHd (by omega) (by omega) A.out (by first | rfl | simp [encHd, getElem!_pos, show jn < dk.size by omega]) (by first | rfl | simp [encHd, getElem!_pos, show i < dk.size by omega]), heq⟩
  ·have hnot := h2 hlt
   go_wp2
   go_end0
   refine ⟨rfl, n, ?_⟩
   rw [reverseLoop, if_neg hnot] at heq
   rw [← Lib.reverseLoop_reverse, ← heq]
end
section
open Go.RowKit Go.Sort
def OwnHd (w : World) (B : Nat) (v : Value) (hs : List Hh) : Prop := w.ownsRow B 66 1 v hs.length (hs.map encHd)
theorem OwnHd.nil (w : World) (B : Nat) : OwnHd w B (.slice none 0 0) [] := ⟨rfl, .inl ⟨rfl, rfl⟩⟩
theorem infoHd : (Tryz.prog.info? 66).map (fun i => (i.zero, i.size, i.bytes)) = some (some (.slice none 0 0), 1, 24) := by kernel_rfl
theorem wpList_pushHd {ops : Array Oper} {rest : List Oper} {o : Oper} {a : Act} {w : World} {Q : Exit → Act → World → Prop} (hgd : o.guard = none) (s x : Operand)
  (ho : o.op = .call { callee := .builtin .append, args := #[s, x], argTypes := #[62, 62] }) (B : Nat) (v : Value) (hs : List Hh) (he : a.eval s = v) (hown : OwnHd w B v hs) (g : Nat) (h : Hh)
  (hx : a.eval x = .slice (some ⟨g, 0, none⟩) 1 1) (hr : w.cell? ⟨g, 0, none⟩ = some (encHd h)) (hl : hs.length ≤ 1000000) (hB : B ≤ w.heap.size)
  (hQ : ∀ v' w', OwnHd w' B v' (hs ++ [h]) → Grown11 v v' w w' → wpList Tryz.prog ops Q rest (a.put o.dst v') w') : wpList Tryz.prog ops Q (o :: rest) a w := by
 obtain ⟨i0, hi, hz0, hz1, hz2⟩ := info_parts infoHd
 refine wpList_append_own_at (w := w) hgd s x 62 ho B 66 i0 _ 1 24 Tryz.underlying62 hi hz0 hz1 hz2 rfl (by decide) v hs.length (hs.map encHd) he hown ⟨g, 0, none⟩ 1 1 [encHd h] hx rfl
  (fun j u hj => ?_) (fun u hu => ?_) (by unfold maxLen; omega) (by omega) hB fun v' w' h1 h2 _ h4 => hQ v' w' ?_ ⟨h2, h4⟩
 ·match j, hj with
  | 0, hj =>
   simp at hj
   rw [← hj]
   simpa [Addr.add] using hr
 ·simp at hu; subst hu; rfl
 ·unfold OwnHd
  rw [List.map_append, List.length_append]
  simpa using h1
theorem BA.keepB {L : Nat → Prop} {X Y : World} {A : Option Addr} {l : List UInt8} (h : BA X A l) (hk : Keep L X Y) (hL : ∀ a, A = some a → ¬ L a.block) : BA Y A l := fun j x hj => by
 obtain ⟨g, o, rfl, h1⟩ := h j x hj
 exact ⟨g, o, rfl, hk.cellAt h1 (show ¬ L g from hL _ rfl)⟩
theorem OwnHd.sl {w : World} {B : Nat} {v : Value} {hs : List Hh} (h : OwnHd w B v hs) : ∃ A c, v = .slice A hs.length c ∧ hs.length ≤ c := by
 obtain ⟨_, ⟨rfl, h⟩ | ⟨g, cap, cur, rfl, _, _, h, _⟩⟩ := h
 ·exact ⟨none, 0, by rw [h], by omega⟩
 ·exact ⟨_, _, rfl, h⟩
theorem keep_putRow16 (w : World) (n g : Nat) (d : Array Hh) : Keep (fun i => i = g) w (putRow encHd (Sort.ahead w n) g 0 d) :=
 ⟨rfl, rfl, rfl, by simp [putRow, mapBlock, Sort.ahead], fun i _ hl => by
  have hl : ¬ g = i := fun e => hl e.symm
  simp [putRow, mapBlock, Sort.ahead, Array.getElem?_modify, hl]⟩
theorem OwnHd.holds {w : World} {B : Nat} {v : Value} {hs : List Hh} (h : OwnHd w B v hs) (h0 : 0 < hs.length) : ∃ g c, v = .slice (some ⟨g, 0, none⟩) hs.length c ∧ v.ownBlock = some g ∧ B ≤ g ∧ Holds encHd w g 0 hs.toArray ∧ ∃ cs, w.heap[g]? = some (.cells cs 66 (0, 0)) := by
 obtain ⟨e0, ⟨_, e⟩ | ⟨g, cap, cur, rfl, hg, hh, hn, hc, hsz, ht⟩⟩ := h
 ·omega
 ·refine ⟨g, cap, rfl, rfl, hg, fun j hj => ⟨?_, frozen_of_row w _ _ _ _ hh⟩, cur, hh⟩
  have hj : j < hs.length := by simpa using hj
  rw [Nat.zero_add, cell_of_cells hh, ← Array.getElem?_toList]
  have := congrArg (·[j]?) ht
  simp only [Nat.mul_one] at this
  rw [List.getElem?_take, if_pos hj] at this
  rw [this]
  simp [hj]
end
section
open Go.RowKit Go.Sort
structure El19 (w : World) (B : Nat) (l : List UInt8) (h : Hh) : Prop where
 len : h.2.1 = l.length
 cap : l.length ≤ h.2.2
 ba : BA w h.1 l
 blk : ∀ a, h.1 = some a → B ≤ a.block ∧ ∃ cs, w.heap[a.block]? = some (.cells cs 5 (0, 0))
theorem El19.keep {w w' : World} {B : Nat} {l : List UInt8} {h : Hh} {L : Nat → Prop} (e : El19 w B l h) (hk : Keep L w w') (hL : ∀ g, B ≤ g → (∃ cs, w.heap[g]? = some (.cells cs 5 (0, 0))) → ¬ L g) : El19 w' B l h :=
 ⟨e.len, e.cap, e.ba.keepB hk fun a ha => hL _ (e.blk a ha).1 (e.blk a ha).2, fun a ha => by
  obtain ⟨h1, cs, h2⟩ := e.blk a ha
  exact ⟨h1, cs, hk.heap h2 (hL _ h1 ⟨cs, h2⟩)⟩⟩
theorem El19.mono {w : World} {B B' : Nat} {l : List UInt8} {h : Hh} (e : El19 w B l h) (hB : B' ≤ B) : El19 w B' l h := ⟨e.len, e.cap, e.ba, fun a ha => ⟨Nat.le_trans hB (e.blk a ha).1, (e.blk a ha).2⟩⟩
theorem El19.own {w : World} {B : Nat} {v : Value} {l : List UInt8} (h : OwnB w B v l) (hl : 0 < l.length) : ∃ g c, v = .slice (some ⟨g, 0, none⟩) l.length c ∧ El19 w B l (some ⟨g, 0, none⟩, l.length, c) := by
 obtain ⟨g, c, e, h1, _, h3, h4⟩ := h.ba hl
 refine ⟨g, c, e, rfl, h1, h4, fun a ha => ?_⟩
 cases ha
 refine ⟨h3, ?_⟩
 subst e
 exact (row11_lt h g rfl).2
def RowP (w : World) (B : Nat) (v : Value) (ls : List (List UInt8)) : Prop := ∃ hs : List Hh, OwnHd w B v hs ∧ hs.length = ls.length ∧ ∀ (i : Nat) (l : List UInt8), ls[i]? = some l → ∃ h, hs[i]? = some h ∧ El19 w B l h
theorem RowP.keep {w w' : World} {B : Nat} {v : Value} {ls : List (List UInt8)} {L : Nat → Prop} (h : RowP w B v ls) (hk : Keep L w w') (hL : ∀ g, B ≤ g → g < w.heap.size → ¬ L g) : RowP w' B v ls := by
 obtain ⟨hs, h1, h2, h3⟩ := h
 refine ⟨hs, row11_keep h1 hk fun g hg => ?_, h2, fun i l hi => ?_⟩
 ·obtain ⟨h4, cs, h5⟩ := row11_lt h1 g hg
  exact hL g h4 (lt_of_heap h5)
 ·obtain ⟨e, h4, h5⟩ := h3 i l hi
  exact ⟨e, h4, h5.keep hk fun g hg ⟨cs, hc⟩ => hL g hg (lt_of_heap hc)⟩
theorem RowP.mono {w : World} {B B' : Nat} {v : Value} {ls : List (List UInt8)} (h : RowP w B v ls) (hB : B' ≤ B) : RowP w B' v ls := by
 obtain ⟨hs, h1, h2, h3⟩ := h
 exact ⟨hs, row11_low h1 hB, h2, fun i l hi => by
  obtain ⟨e, h4, h5⟩ := h3 i l hi
  exact ⟨e, h4, h5.mono hB⟩⟩
theorem RowP.push {w w' : World} {B : Nat} {v v' : Value} {hs : List Hh} {ls : List (List UInt8)} {l : List UInt8} {h : Hh} (hO : OwnHd w B v hs) (hl : hs.length = ls.length) (he : ∀ (i : Nat) (l : List UInt8), ls[i]? = some l → ∃ h, hs[i]? = some h ∧ El19 w B l h) (hn : El19 w B l h) (hO' : OwnHd w' B v' (hs ++ [h])) (hG : Grown11 v v' w w') : RowP w' B v' (ls ++ [l]) := by
 have hL : ∀ g, B ≤ g → (∃ cs, w.heap[g]? = some (.cells cs 5 (0, 0))) → ¬ v.ownBlock = some g := fun g _ ⟨cs, hc⟩ e => by
  obtain ⟨_, cs2, h2⟩ := row11_lt hO g e
  rw [hc] at h2
  cases h2
 refine ⟨hs ++ [h], hO', by rw [List.length_append, List.length_append, hl]; rfl, fun i y hi => ?_⟩
 by_cases hlt : i < ls.length
 ·rw [List.getElem?_append_left hlt] at hi
  obtain ⟨e, h1, h2⟩ := he i y hi
  exact ⟨e, by rw [List.getElem?_append_left (by omega)]; exact h1, h2.keep hG.keep hL⟩
 ·rw [List.getElem?_append_right (by omega)] at hi
  have hi0 : i - ls.length = 0 := by have := (List.getElem?_eq_some_iff.1 hi).1; simp at this; omega
  rw [hi0] at hi
  have e : l = y := by simpa using hi
  subst e
  exact ⟨h, by rw [List.getElem?_append_right (by omega), hl, hi0]; rfl, hn.keep hG.keep hL⟩
theorem RowP.one {w : World} {B : Nat} {l : List UInt8} {h : Hh} (e : El19 w B l h) (hB : B ≤ w.heap.size) : RowP (w.alloc (.cells #[encHd h] 66)) B (.slice (some ⟨w.heap.size, 0, none⟩) 1 1) [l] := by
 refine ⟨[h], ⟨rfl, .inr ⟨w.heap.size, 1, #[encHd h], rfl, hB, heap_alloc_new w _, Nat.le_refl _, by unfold maxLen; omega, rfl, rfl⟩⟩, rfl, fun i y hi => ?_⟩
 have hi0 : i = 0 := by have := (List.getElem?_eq_some_iff.1 hi).1; simp at this; omega
 subst hi0
 have e2 : l = y := by simpa using hi
 subst e2
 exact ⟨h, rfl, e.keep (Keep.of_below (L := fun _ => False) (Bt.one_below _ _)) fun _ _ _ h => h⟩
def waysM (k : List UInt8) : Mt → Nat → List Mt
 | .leaf x, _ => [.leaf x]
 | .node x u v, d => .node x u v :: if bitK k d = 1 then waysM k v (d + 1) else waysM k u (d + 1)
theorem way_map (k : List UInt8) : ∀ (t : Mt) (d a : Nat), (wayM k t d a).map (·.2) = waysM k t d
 | .leaf _, _, _ => rfl
 | .node x u v, d, a => by
  unfold wayM waysM
  rw [List.map_cons]
  refine congrArg _ ?_
  split
  ·exact way_map k v _ _
  ·exact way_map k u _ _
theorem ways_head (k : List UInt8) (t : Mt) (d : Nat) : ∃ r, waysM k t d = t :: r := by
 cases t with
 | leaf x => exact ⟨[], rfl⟩
 | node x u v => exact ⟨_, rfl⟩
def presU (n : Int) (t : Mt) (k : List UInt8) (d : Nat) : List (List UInt8) := ((waysM k t d).map (preM n)).reverse
theorem presU_node (n : Int) (x : It) (u v : Mt) (k : List UInt8) (d : Nat) : presU n (.node x u v) k d = presU n (if bitK k d = 1 then v else u) k (d + 1) ++ [nodeL (digM n u) (digM n v)] := by
 have e : waysM k (.node x u v) d = .node x u v :: waysM k (if bitK k d = 1 then v else u) (d + 1) := by
  show _ :: (if bitK k d = 1 then _ else _) = _
  split <;> rfl
 unfold presU
 rw [e, List.map_cons, List.reverse_cons]
 rfl
theorem presU_last (n : Int) (t : Mt) (k : List UInt8) (d : Nat) : ∃ r, presU n t k d = r ++ [preM n t] := by
 obtain ⟨r, hr⟩ := ways_head k t d
 exact ⟨(r.map (preM n)).reverse, by unfold presU; rw [hr, List.map_cons, List.reverse_cons]⟩
theorem ways_len (k : List UInt8) : ∀ (t : Mt) (d : Nat), (waysM k t d).length ≤ t.flat.length
 | .leaf _, _ => Nat.le_refl _
 | .node x u v, d => by
  have hu := ways_len k u (d + 1)
  have hv := ways_len k v (d + 1)
  unfold waysM Mt.flat
  split <;> (rw [List.length_cons, List.length_cons, List.length_append]; omega)
theorem presU_len (n : Int) (t : Mt) (k : List UInt8) (d : Nat) : (presU n t k d).length ≤ t.flat.length := by
 unfold presU
 rw [List.length_reverse, List.length_map]
 exact ways_len k t d
theorem presM_rev (n : Int) (t : Mt) (k : List UInt8) : presM n t k = (presU n t k 0).reverse := by
 unfold presU presM
 rw [List.reverse_reverse, ← way_map k t 0 0, List.map_map]
 rfl
theorem preM_pos (n : Int) : ∀ {t : Mt} {v : Value} {w : World}, t.Shape → SubV w t v → 0 < (preM n t).length ∧ (preM n t).length ≤ 65
 | .leaf x, _, _, _, h => by rw [img_leaf]; exact imgX_len h.1
 | .node x a b, _, _, hs, ⟨_, _, _, h1, h2⟩ => by
  have l1 := dig_len19 n hs.2.1 h1
  have l2 := dig_len19 n hs.2.2 h2
  rw [preM_node]
  simp [nodeL, l1, l2]
theorem dig_top (n : Int) {t : Mt} (k : List UInt8) (d : Nat) (hs : t.Shape) (hf : (finM k t d).k ≠ 3) : digM n t = digL n (preM n t) := by
 cases t with
 | leaf x => exact if_neg hf
 | node x a b => rw [digM_node n a b hs.1, preM_node]
def UpC (n : Int) (t : Mt) (d : Nat) : Prop := ∀ (w : World) (b m : Nat) (u : Value) (k : List UInt8), Hs w b n m → m + t.flat.length ≤ 500000 → Vars w → SubV w t u → k.length = 32 →
 Calls Tryz.prog 50 #[ptr b, u, .agg (bA k), .int .i64 (d : Int)] w fun e w' => ∃ v m' fb, e = .returned (.tuple #[v, .bool fb]) ∧ (fb = true ↔ (finM k t d).k ≠ 3) ∧ (fb = true → RowP w' w.heap.size v (presU n t k d)) ∧ m' ≤ m + t.flat.length ∧ Hs w' b n m' ∧ Keep (fun i => i = b) w w'
theorem up_leaf (n : Int) (x : It) (d : Nat) : UpC n (.leaf x) d := fun w b m u k hh _ _ hs _ => by
 obtain ⟨hx, g, o, rfl, hr⟩ := hs
 obtain ⟨X1, hX1⟩ : ∃ X, X = w.alloc (.cells (bA k) 39) := ⟨_, rfl⟩
 obtain ⟨X, hX⟩ : ∃ X, X = X1.alloc (.cells #[.pointer (some ⟨g, o, none⟩)] 138) := ⟨_, rfl⟩
 have hz1 : X1.heap.size = w.heap.size + 1 := by rw [hX1]; simp
 have hB1 : Below w.heap.size w X1 := by rw [hX1]; exact Bt.one_below _ _
 have hB : Below w.heap.size w X := by rw [hX]; exact hB1.alloc hB1.size _
 have st := stEnd X1 (some ⟨g, o, none⟩)
 rw [← hX, hz1] at st
 rw [hX1] at st
 have ta := ta_end_end
 have hcX : X.heap[w.heap.size + 1]? = some (.cells #[.pointer (some ⟨g, o, none⟩)] 138 (0, 0)) := by rw [hX, ← hz1]; exact heap_alloc_new X1 _
 have cp : X.cell? ⟨w.heap.size + 1, 0, none⟩ = some (.pointer (some ⟨g, o, none⟩)) := by rw [cell_of_cells hcX]; rfl
 have le := ldEnd hcX
 have ck := it_kind (range_below hr hB)
 have HB := Lib.hid hB
 have HHX := Lib.hid (hh.keep (Keep.of_below (L := fun _ => False) hB) id)
 have HIM := Lib.hid (image19_c x g o X hx (range_below hr hB))
 have HIL := Lib.hid (imgX_len hx)
 have HPU : Hid (presU n (.leaf x) k d = [imgX x]) := rfl
 obtain ⟨kk, hkk⟩ : ∃ kk, kk = x.k := ⟨_, rfl⟩
 have HFI : Hid ((finM k (.leaf x) d).k ≠ 3 ↔ kk ≠ 3) := by show x.k ≠ 3 ↔ _; rw [hkk]
 rw [← hkk] at ck
 obtain ⟨q, hq⟩ : ∃ q, q = imgX x := ⟨_, rfl⟩
 rw [← hq] at HIM HIL HPU
 clear hh hr hx hX hX1 hz1 hB1 hB hcX hkk hq
 unfold ptr at *
 by_cases h3 : kk = 3
 ·subst h3
  go_enter Tryz.func50, Tryz.ntmps50
  go_wp2_with fail
  go_ret2
  exact ⟨_, m, false, rfl, ⟨fun h => (by cases h), fun h => absurd rfl (HFI.out.1 h)⟩, fun h => (by cases h), Nat.le_add_right _ _, HHX.out, Keep.of_below HB.out⟩
 ·have e3 : (kk == 3) = false := by simpa using h3
  have HF : Hid ((finM k (.leaf x) d).k ≠ 3) := HFI.out.2 h3
  clear HFI h3
  go_enter Tryz.func50, Tryz.ntmps50
  go_wp2_with fail
  refine HIM.out.mono ?_
  rintro _ w1 ⟨v, rfl, hO, hb1⟩
  obtain ⟨gv, cv, rfl, hel⟩ := El19.own (hO.mono HB.out.size) HIL.out.1
  have hbw : Below w.heap.size w w1 := HB.out.trans (hb1.mono HB.out.size)
  have HRP := Lib.hid (RowP.one hel hbw.size)
  have hb2 : Below w.heap.size w (w1.alloc (.cells #[encHd (some ⟨gv, 0, none⟩, q.length, cv)] 66)) := hbw.alloc hbw.size _
  have HB2 := Lib.hid hb2
  have HH2 := Lib.hid ((HHX.out.keep (Keep.of_below (L := fun _ => False) hb1) id).keep (Keep.of_below (L := fun _ => False) (Bt.one_below w1 (.cells #[encHd (some ⟨gv, 0, none⟩, q.length, cv)] 66))) id)
  unfold encHd at HRP HB2 HH2
  obtain ⟨ql, hql⟩ : ∃ ql, ql = q.length := ⟨_, rfl⟩
  dsimp only at HRP HB2 HH2
  rw [← hql] at HRP HB2 HH2 ⊢
  clear hO hel hbw hb1 hb2 hql HIM cp le ck st
  go_wp2_with fail
  go_ret2
  exact ⟨_, m, true, rfl, ⟨fun _ => HF.out, fun _ => rfl⟩, fun _ => by rw [HPU.out]; exact HRP.out, Nat.le_add_right _ _, HH2.out, Keep.of_below HB2.out⟩
theorem up_inner0 (n : Int) (x : It) (a c : Mt) (d : Nat) (hd : d < 256) (hsh : (Mt.node x a c).Shape) (iw : UpC n a (d + 1)) (w : World) (b m : Nat) (u : Value) (k : List UInt8) (hh : Hs w b n m) (hm : m + (Mt.node x a c).flat.length ≤ 500000) (hv : Vars w) (hs : SubV w (.node x a c) u) (hk : k.length = 32) (hbit : bitK k d = 0) :
  Calls Tryz.prog 50 #[ptr b, u, .agg (bA k), .int .i64 (d : Int)] w fun e w' => ∃ v m' fb, e = .returned (.tuple #[v, .bool fb]) ∧ (fb = true ↔ (finM k (.node x a c) d).k ≠ 3) ∧ (fb = true → RowP w' w.heap.size v (presU n (.node x a c) k d)) ∧ m' ≤ m + (Mt.node x a c).flat.length ∧ Hs w' b n m' ∧ Keep (fun i => i = b) w w' := by
 obtain ⟨u1, u2, rfl, hs1, hs2⟩ := hs
 have hl1 := dig_len19 n hsh.2.1 hs1
 have hl2 := dig_len19 n hsh.2.2 hs2
 have hpq := preM_pos n (t := a) hsh.2.1 hs1
 obtain ⟨t1, c1, rfl, me1, na1, en1⟩ := sub_meth hs1
 obtain ⟨t2, c2, rfl, me2, na2, en2⟩ := sub_meth hs2
 have HFI : Hid ((finM k (.node x a c) d).k ≠ 3 ↔ (finM k a (d + 1)).k ≠ 3) := by
  show (if bitK k d = 1 then finM k c (d + 1) else finM k a (d + 1)).k ≠ 3 ↔ _
  rw [hbit]
  rfl
 have HPU : Hid (presU n (.node x a c) k d = presU n a k (d + 1) ++ [nodeL (digM n a) (digM n c)]) := by
  show _ = _
  rw [presU_node, hbit]
  rfl
 obtain ⟨pr, hpr⟩ := presU_last n a k (d + 1)
 have hpl := presU_len n a k (d + 1)
 have HDT : Hid ((finM k a (d + 1)).k ≠ 3 → digM n a = digL n (preM n a)) := fun h => dig_top n k (d + 1) hsh.2.1 h
 obtain ⟨X1, hX1⟩ : ∃ X, X = w.alloc (.cells (bA k) 39) := ⟨_, rfl⟩
 obtain ⟨X, hX⟩ : ∃ X, X = X1.alloc (.cells #[.iface t1 (.agg c1), .iface t2 (.agg c2)] 141) := ⟨_, rfl⟩
 have hz1 : X1.heap.size = w.heap.size + 1 := by rw [hX1]; simp
 have hB1 : Below w.heap.size w X1 := by rw [hX1]; exact Bt.one_below _ _
 have hB : Below w.heap.size w X := by rw [hX]; exact hB1.alloc hB1.size _
 have st := stInn X1 t1 t2 c1 c2
 rw [← hX, hz1] at st
 rw [hX1] at st
 have ta1 := ta_inn_end
 have ta2 := ta_inn_inn
 have hkX : X.heap[w.heap.size]? = some (.cells (bA k) 39 (0, 0)) := by rw [hX, hX1]; exact heap_alloc2_old w _ _
 have hcX : X.heap[w.heap.size + 1]? = some (.cells #[.iface t1 (.agg c1), .iface t2 (.agg c2)] 141 (0, 0)) := by rw [hX, ← hz1]; exact heap_alloc_new X1 _
 have hzX : X.heap.size = w.heap.size + 2 := by rw [hX]; simp; omega
 have lk : ldA 39 X (.pointer (some ⟨w.heap.size, 0, none⟩)) = .ok (.value (.agg (bA k))) X := RowB.ldKey hkX hk
 have HBT := Lib.hid (pbitK_c k hk (d : Int) X)
 rw [hbit] at HBT
 have HBN : Hid (b < w.heap.size) := lt_of_heap hh
 have HHX := Lib.hid (hh.keep (Keep.of_below (L := fun _ => False) hB) id)
 have HVX := Lib.hid (hv.below hB)
 have HB := Lib.hid hB
 have HZX := Lib.hid hzX
 have LK : Hid (∀ v, Keep (fun i => i = b) X v → ldA 39 v (.pointer (some ⟨w.heap.size, 0, none⟩)) = .ok (.value (.agg (bA k))) v) := fun v hkp => RowB.ldKey (hkp.heap hkX (by have := HBN.out; show ¬ (_ = b); omega)) hk
 have LC : Hid (∀ v, Keep (fun i => i = b) X v → v.cell? ⟨w.heap.size + 1, 0, none⟩ = some (.iface t1 (.agg c1)) ∧ v.cell? ⟨w.heap.size + 1, 1, none⟩ = some (.iface t2 (.agg c2))) := fun v hkp => by
  have h := hkp.heap hcX (by have := HBN.out; show ¬ (_ = b); omega)
  exact ⟨by rw [cell_of_cells h]; rfl, by rw [cell_of_cells h]; rfl⟩
 have hlf : (Mt.node x a c).flat.length = 1 + a.flat.length + c.flat.length := by simp [Mt.flat]; omega
 have HM : Hid (m + 1 + a.flat.length + c.flat.length ≤ 500000) := by show _ ≤ _; omega
 have HLF := Lib.hid hlf
 have HIW : Hid (∀ (v : World), Keep (fun i => i = b) X v → Hs v b n m → Calls Tryz.prog 50 #[ptr b, .iface t1 (.agg c1), .agg (bA k), .int .i64 ((d : Int) + 1)] v fun e w' => ∃ v' m' fb, e = .returned (.tuple #[v', .bool fb]) ∧ (fb = true ↔ (finM k a (d + 1)).k ≠ 3) ∧ (fb = true → RowP w' v.heap.size v' (presU n a k (d + 1))) ∧ m' ≤ m + a.flat.length ∧ Hs w' b n m' ∧ Keep (fun i => i = b) v w') := fun v hkp hH => by
  have := iw v b m _ k hH (by have := HM.out; omega) (HVX.out.hs HHX.out hkp) ((hs1.below HB.out).hs HHX.out hkp) hk
  rwa [show ((d + 1 : Nat) : Int) = (d : Int) + 1 by omega] at this
 have HCO : Hid (∀ (v : World) (j : Nat), Keep (fun i => i = b) X v → Hs v b n j → j + c.flat.length ≤ 1000000 → Calls Tryz.prog (sumF c) #[.agg c2, ptr b] v fun e w' => ∃ m', e = .returned (.agg (bA (digM n c))) ∧ m' ≤ j + c.flat.length ∧ Hs w' b n m' ∧ Keep (fun i => i = b) v w') := fun v j hkp hH hj => sums19_c n c hsh.2.2 v b j t2 c2 hH hj (HVX.out.hs HHX.out hkp) ((hs2.below HB.out).hs HHX.out hkp)
 obtain ⟨dC, hdC⟩ : ∃ z, z = digM n a := ⟨_, rfl⟩
 obtain ⟨dO, hdO⟩ : ∃ z, z = digM n c := ⟨_, rfl⟩
 rw [← hdC] at HPU HDT hl1
 rw [← hdO] at HPU HCO hl2
 have HLC := Lib.hid hl1
 have HLO := Lib.hid hl2
 have HND := Lib.hid (fun y => pnode_o dC dO y hl1 hl2)
 have HNL : Hid ((nodeL dC dO).length = 65) := by show _ = _; simp [nodeL, hl1, hl2]
 obtain ⟨nq, hnq⟩ : ∃ q, q = nodeL dC dO := ⟨_, rfl⟩
 rw [← hnq] at HPU HND HNL
 obtain ⟨q, hq⟩ : ∃ q, q = preM n a := ⟨_, rfl⟩
 rw [← hq] at hpr HDT hpq
 have HPQ := Lib.hid hpq
 obtain ⟨ps, hps⟩ : ∃ ps, ps = presU n a k (d + 1) := ⟨_, rfl⟩
 rw [← hps] at hpr HPU HIW hpl
 have HPL : Hid (ps.length ≤ 500000) := by show _ ≤ _; have := HM.out; omega
 have HPR := Lib.hid hpr
 rw [HPU.out]
 obtain ⟨fo, hfo⟩ : ∃ f, f = sumF c := ⟨_, rfl⟩
 rw [← hfo] at HCO me2 en2
 have wd : IntKind.i64.wrap ((d : Int) + 1) = (d : Int) + 1 := wrap19v (by omega) (by omega)
 have wz1 : IntKind.i64.wrap (1 : Int) = 1 := by decide
 have wz0 : IntKind.i64.wrap (0 : Int) = 0 := by decide
 clear hX hX1 hz1 hB1 hB hkX hcX hzX hh hm hv hs1 hs2 hk hl1 hl2 hpq hpr hpl hlf iw hdC hdO hnq hq hps hfo hbit hsh hd me1 na1 en1 HPU
 unfold ptr at *
 go_enter Tryz.func50, Tryz.ntmps50
 go_wp2_with fail
 refine HBT.out.mono ?_
 rintro _ w3 ⟨rfl, hb3⟩
 have hk3 : Keep (fun i => i = b) X w3 := Keep.of_below hb3
 have HK3 := Lib.hid hk3
 have HD3 : Hid (Hs w3.drew b n m) := HHX.out.keep (Keep.of_below (L := fun _ => False) hb3).drew id
 clear lk st ta1 ta2 hb3 HBT hk3
 go_wp2_with fail
 refine region_heldT 13 (fun q => Keep (fun i => i = b) X q) (by kernel_rfl) ?_
 have hHeld : Keep (fun i => i = b) X w3.drew := HK3.out.drew
 refine HeldT.take (i := 0) (oi := { dst := some 34, op := .move (.tmp 0), .. }) (v := ?_) rfl (by kernel_rfl) (by kernel_rfl) (by kernel_rfl) (by kernel_rfl) (fun _ _ _ h => h) (Or.inl ⟨by rfl, ?_⟩) (by assumption) ?_
 rotate_left 1
 ·intro v hSv
  clear hSv
  go_simp
  try with_reducible rfl
 try simp only [Act.put, x_A, x_0, x_1]
 refine HeldT.take (i := 1) (oi := { dst := some 35, op := .move (.tmp 12), .. }) (v := ?_) rfl (by kernel_rfl) (by kernel_rfl) (by kernel_rfl) (by kernel_rfl) (fun _ _ _ h => h) (Or.inl ⟨by rfl, ?_⟩) (by assumption) ?_
 rotate_left 1
 ·intro v hSv
  clear hSv
  go_simp
  try with_reducible rfl
 try simp only [Act.put, x_A, x_0, x_1]
 refine HeldT.take (i := 2) (oi := { dst := some 36, op := .fieldAddr _ (.tmp 11) 0, .. }) (v := ?_) rfl (by kernel_rfl) (by kernel_rfl) (by kernel_rfl) (by kernel_rfl) (fun _ _ _ h => h) (Or.inl ⟨by rfl, ?_⟩) (by assumption) ?_
 rotate_left 1
 ·intro v hSv
  clear hSv
  go_simp
  try with_reducible rfl
 try simp only [Act.put, x_A, x_0, x_1]
 refine HeldT.take (i := 3) (oi := { dst := some 37, op := .indexAddr _ (.tmp 36) (.tmp 35), .. }) (v := ?_) rfl (by kernel_rfl) (by kernel_rfl) (by kernel_rfl) (by kernel_rfl) (fun _ _ _ h => h) (Or.inl ⟨by rfl, ?_⟩) (by assumption) ?_
 rotate_left 1
 ·intro v hSv
  clear hSv
  go_simp
  try with_reducible rfl
 try simp only [Act.put, x_A, x_0, x_1]
 refine HeldT.take (i := 4) (oi := { dst := some 38, op := .load _ (.tmp 37), .. }) (v := ?_) rfl (by kernel_rfl) (by kernel_rfl) (by kernel_rfl) (by kernel_rfl) (fun _ _ _ h => h) (Or.inl ⟨by rfl, ?_⟩) (by assumption) ?_
 rotate_left 1
 ·intro v hSv
  have hv1 := (LC.out v hSv).1
  clear hSv
  go_simp
  try with_reducible rfl
 try simp only [Act.put, x_A, x_0, x_1]
 refine HeldT.take (i := 5) (oi := { dst := some 39, op := .load _ (.tmp 6), .. }) (v := ?_) rfl (by kernel_rfl) (by kernel_rfl) (by kernel_rfl) (by kernel_rfl) (fun _ _ _ h => h) (Or.inl ⟨by rfl, ?_⟩) (by assumption) ?_
 rotate_left 1
 ·intro v hSv
  have hv1 := LK.out v hSv
  clear hSv
  go_simp
  try with_reducible rfl
 try simp only [Act.put, x_A, x_0, x_1]
 refine HeldT.take (i := 6) (oi := { dst := some 40, op := .move (.tmp 3), .. }) (v := ?_) rfl (by kernel_rfl) (by kernel_rfl) (by kernel_rfl) (by kernel_rfl) (fun _ _ _ h => h) (Or.inl ⟨by rfl, ?_⟩) (by assumption) ?_
 rotate_left 1
 ·intro v hSv
  clear hSv
  go_simp
  try with_reducible rfl
 try simp only [Act.put, x_A, x_0, x_1]
 refine HeldT.take (i := 7) (oi := { dst := some 41, op := .binOp .add _ (.tmp 40) (.const (.int .i64 1)) _, .. }) (v := ?_) rfl (by kernel_rfl) (by kernel_rfl) (by kernel_rfl) (by kernel_rfl) (fun _ _ _ h => h) (Or.inl ⟨by rfl, ?_⟩) (by assumption) ?_
 rotate_left 1
 ·intro v hSv
  clear hSv
  go_simp
  try with_reducible rfl
 try simp only [Act.put, x_A, x_0, x_1]
 refine HeldT.one (i := 8) (o := { dst := some 42, op := .call _, .. }) (by kernel_rfl) rfl rfl (fun K hK => ?_)
 go_wp2_with fail
 refine (HIW.out _ hHeld HD3.out).mono ?_
 rintro e y1 ⟨v1, m1, f1, rfl, hf1, hr1, hm1, hH1, hk1⟩
 have hq1 : Keep (fun i => i = b) X y1 := hHeld.trans hk1
 have HZ1 : Hid (w.heap.size ≤ w3.drew.heap.size) := Nat.le_trans HB.out.size HK3.out.size
 have HF1 := Lib.hid hf1
 have HR1 := Lib.hid hr1
 have HM1 := Lib.hid hm1
 have HH1 := Lib.hid hH1
 have HQ1 := Lib.hid hq1
 clear hf1 hr1 hm1 hH1 hk1 HIW
 go_wp2_with fail
 refine hK.out _ _ (fun _ => hq1) (fun hS => ?_)
 have hHeld := hS (by decide)
 clear hS hK K
 try simp only [Act.put, x_A, x_0, x_1]
 clear hq1
 refine HeldT.take (i := 9) (oi := { dst := some 33, op := .move (.tmp 42), .. }) (v := ?_) rfl (by kernel_rfl) (by kernel_rfl) (by kernel_rfl) (by kernel_rfl) (fun _ _ _ h => h) (Or.inl ⟨by rfl, ?_⟩) (by assumption) ?_
 rotate_left 1
 ·intro v hSv
  clear hSv
  go_simp
  try with_reducible rfl
 try simp only [Act.put, x_A, x_0, x_1]
 refine HeldT.take (i := 10) (oi := { dst := some 43, op := .extract (.tmp 33) 0, .. }) (v := ?_) rfl (by kernel_rfl) (by kernel_rfl) (by kernel_rfl) (by kernel_rfl) (fun _ _ _ h => h) (Or.inl ⟨by rfl, ?_⟩) (by assumption) ?_
 rotate_left 1
 ·intro v hSv
  clear hSv
  go_simp
  try with_reducible rfl
 try simp only [Act.put, x_A, x_0, x_1]
 refine HeldT.take (i := 11) (oi := { dst := some 44, op := .extract (.tmp 33) 1, .. }) (v := ?_) rfl (by kernel_rfl) (by kernel_rfl) (by kernel_rfl) (by kernel_rfl) (fun _ _ _ h => h) (Or.inl ⟨by rfl, ?_⟩) (by assumption) ?_
 rotate_left 1
 ·intro v hSv
  clear hSv
  go_simp
  try with_reducible rfl
 try simp only [Act.put, x_A, x_0, x_1]
 refine HeldT.one (i := 12) (o := { dst := some 8, op := .assign (.tmp 43), .. }) (by kernel_rfl) rfl rfl (fun K hK => ?_)
 go_wp2_with fail
 refine hK.out _ _ (fun _ => hHeld) (fun hS => ?_)
 have hHeld := hS (by decide)
 clear hS hK K
 try simp only [Act.put, x_A, x_0, x_1]
 refine HeldT.one (i := 13) (o := { dst := some 9, op := .assign (.tmp 44), .. }) (by kernel_rfl) rfl rfl (fun K hK => ?_)
 go_wp2_with fail
 refine hK.out _ _ (fun h => absurd rfl h) (fun _ => ?_)
 clear hK K
 refine HeldT.done (by kernel_rfl) ?_ _
 clear hHeld
 cases f1 with
 | false =>
  have HF : Hid (¬ (finM k (.node x a c) d).k ≠ 3) := fun h => by have := HF1.out.2 (HFI.out.1 h); cases this
  clear HF1 HFI HR1
  go_wp2_with fail
  go_ret2
  exact ⟨_, m1, false, rfl, ⟨fun h => (by cases h), fun h => absurd h HF.out⟩, fun h => (by cases h), by have := HM1.out; have := HLF.out; omega, HH1.out, (Keep.of_below (L := fun i => i = b) HB.out).trans HQ1.out⟩
 | true =>
  have hfin := HF1.out.1 (by simp)
  have HFN := Lib.hid (HFI.out.2 hfin)
  have hdd := HDT.out hfin
  obtain ⟨hs, hO, hln, hel⟩ := (HR1.out (by simp)).mono HZ1.out
  obtain ⟨h9, hh9, he9⟩ := hel (ps.length - 1) q (by rw [HPR.out, List.length_append, List.length_singleton, Nat.add_sub_cancel, List.getElem?_append_right (Nat.le_refl _), Nat.sub_self]; rfl)
  have hp0 : 0 < ps.length := by rw [HPR.out, List.length_append, List.length_singleton]; omega
  obtain ⟨gr, cr, rfl, hob, hgr, hHo, hcr⟩ := hO.holds (by omega)
  obtain ⟨A9, n9, c9⟩ := h9
  obtain rfl : n9 = q.length := he9.len
  obtain ⟨Y, hY⟩ : ∃ Y, Y = y1.alloc (.cells (bA z64) 143) := ⟨_, rfl⟩
  have hbY : Below y1.heap.size y1 Y := by rw [hY]; exact Bt.one_below _ _
  have hgY : Y.heap[y1.heap.size]? = some (.cells (bA (z26 ++ z26)) 143 (0, 0)) := by rw [hY]; exact heap_alloc_new _ _
  have hqY : Keep (fun i => i = b) X Y := HQ1.out.trans (Keep.of_below hbY)
  have HGY := Lib.hid hgY
  have HQY := Lib.hid hqY
  have HHY := Lib.hid (HH1.out.keep (Keep.of_below (L := fun _ => False) hbY) id)
  have HY := Lib.hid hY
  have HGS : Hid (y1.heap.size < Y.heap.size) := lt_of_heap hgY
  have HW1 : Hid (w.heap.size + 2 ≤ y1.heap.size) := by have := HQ1.out.size; have := HZX.out; show _ ≤ _; omega
  have HGRL : Hid (w.heap.size ≤ gr ∧ gr < y1.heap.size) := ⟨hgr, by obtain ⟨cs, h⟩ := hcr; exact lt_of_heap h⟩
  have HOY : Hid (OwnHd Y w.heap.size (.slice (some ⟨gr, 0, none⟩) hs.length cr) hs) := row11_keep hO (Keep.of_below (L := fun _ => False) hbY) fun _ _ h => h
  have HEL : Hid (∀ (i : Nat) (l : List UInt8), ps[i]? = some l → ∃ h, hs[i]? = some h ∧ El19 Y w.heap.size l h) := fun i l hi => by
   obtain ⟨e, h1, h2⟩ := hel i l hi
   exact ⟨e, h1, h2.keep (Keep.of_below (L := fun _ => False) hbY) fun _ _ _ h => h⟩
  have LH : Hid (∀ v, Keep (fun i => i = b ∨ i = y1.heap.size) Y v → v.cell? ⟨gr, hs.length - 1, none⟩ = some (.slice A9 q.length c9)) := fun v hkp => by
   have h1 := (hHo (hs.length - 1) (by simp; omega)).1
   have h2 : hs.toArray[hs.length - 1]! = (A9, q.length, c9) := by
    rw [getElem!_def, List.getElem?_toArray, hln, hh9]
   rw [h2, Nat.zero_add] at h1
   have h3 := (Keep.of_below (L := fun i => i = b ∨ i = y1.heap.size) hbY).trans hkp
   exact h3.cellAt h1 (by have := HGRL.out; have := HBN.out; show ¬ (gr = b ∨ gr = y1.heap.size); omega)
  have LC2 : Hid (∀ v, Keep (fun i => i = b ∨ i = y1.heap.size) Y v → v.cell? ⟨w.heap.size + 1, 0, none⟩ = some (.iface t1 (.agg c1)) ∧ v.cell? ⟨w.heap.size + 1, 1, none⟩ = some (.iface t2 (.agg c2))) := fun v hkp => by
   have h := LC.out Y HQY.out
   exact ⟨hkp.cellAt h.1 (by have := HW1.out; have := HBN.out; show ¬ (w.heap.size + 1 = b ∨ w.heap.size + 1 = y1.heap.size); omega), hkp.cellAt h.2 (by have := HW1.out; have := HBN.out; show ¬ (w.heap.size + 1 = b ∨ w.heap.size + 1 = y1.heap.size); omega)⟩
  have heY : BA Y A9 q := he9.ba.below hbY
  have HQL : Hid (q.length ≤ c9) := he9.cap
  have HSM : Hid (∀ v, Keep (fun i => i = b) Y v → Hs v b n m1 → Calls Tryz.prog 78 #[.pointer (some ⟨b, 0, none⟩), .slice A9 q.length c9] v fun e w' => e = .returned (.agg (bA dC)) ∧ Hs w' b n (m1 + 1) ∧ Keep (fun i => i = b) v w') := fun v hkp hH => by
   have := sum_hs b n m1 A9 q c9 v hH (by have := HM.out; have := HM1.out; omega) (heY.hs19 HHY.out hkp) HQL.out (by have := HPQ.out.2; omega) ((HVX.out.hs HHX.out HQY.out).hs HHY.out hkp)
   unfold ptr at this
   rwa [← hdd] at this
  have HD5 : Hid (Hs Y.drew b n m1) := HHY.out.keep (Keep.refl (fun _ => False) Y).drew id
  have HLN : Hid (hs.length = ps.length) := hln
  have wsub : IntKind.i64.wrap ((hs.length : Int) - 1) = ((hs.length - 1 : Nat) : Int) := by rw [wrap19v (by omega) (by have := HPL.out; omega)]; omega
  obtain ⟨L, hL⟩ : ∃ L, L = hs.length := ⟨_, rfl⟩
  rw [← hL] at wsub LH HOY ⊢
  obtain ⟨L1, hL1⟩ : ∃ L1, L1 = L - 1 := ⟨_, rfl⟩
  rw [← hL1] at wsub LH
  have pl0 : (0 : Int) ≤ (L1 : Int) := by omega
  have pl1 : (L1 : Int) < (L : Int) := by omega
  obtain ⟨ql, hql⟩ : ∃ ql, ql = q.length := ⟨_, rfl⟩
  rw [← hql] at LH HSM
  clear hfin hdd hO hln hel hh9 he9 hp0 hob hgr hHo hcr hY hbY hgY hqY heY hL hL1 hql HF1 HFI HR1 HDT LC
  go_wp2_with fail
  rw [← HY.out]
  refine region_heldT 21 (fun q => Keep (fun i => i = b ∨ i = y1.heap.size) Y q) (by kernel_rfl) ?_
  have hHeld : Keep (fun i => i = b ∨ i = y1.heap.size) Y Y.drew := (Keep.refl _ _).drew
  have HP0 : Hid (Keep (fun i => i = b) Y Y.drew) := (Keep.refl _ _).drew
  refine HeldT.take (i := 0) (oi := { dst := some 47, op := .move (.tmp 12), .. }) (v := ?_) rfl (by kernel_rfl) (by kernel_rfl) (by kernel_rfl) (by kernel_rfl) (fun _ _ _ h => h) (Or.inl ⟨by rfl, ?_⟩) (by assumption) ?_
  rotate_left 1
  ·intro v hSv
   clear hSv
   go_simp
   try with_reducible rfl
  try simp only [Act.put, x_A, x_0, x_1]
  refine HeldT.take (i := 1) (oi := { dst := some 48, op := .move (.tmp 12), .. }) (v := ?_) rfl (by kernel_rfl) (by kernel_rfl) (by kernel_rfl) (by kernel_rfl) (fun _ _ _ h => h) (Or.inl ⟨by rfl, ?_⟩) (by assumption) ?_
  rotate_left 1
  ·intro v hSv
   clear hSv
   go_simp
   try with_reducible rfl
  try simp only [Act.put, x_A, x_0, x_1]
  refine HeldT.take (i := 2) (oi := { dst := some 49, op := .binOp .sub _ (.const (.int .i64 1)) (.tmp 48) _, .. }) (v := ?_) rfl (by kernel_rfl) (by kernel_rfl) (by kernel_rfl) (by kernel_rfl) (fun _ _ _ h => h) (Or.inl ⟨by rfl, ?_⟩) (by assumption) ?_
  rotate_left 1
  ·intro v hSv
   clear hSv
   go_simp
   try with_reducible rfl
  try simp only [Act.put, x_A, x_0, x_1]
  refine HeldT.take (i := 3) (oi := { dst := some 50, op := .move (.tmp 0), .. }) (v := ?_) rfl (by kernel_rfl) (by kernel_rfl) (by kernel_rfl) (by kernel_rfl) (fun _ _ _ h => h) (Or.inl ⟨by rfl, ?_⟩) (by assumption) ?_
  rotate_left 1
  ·intro v hSv
   clear hSv
   go_simp
   try with_reducible rfl
  try simp only [Act.put, x_A, x_0, x_1]
  refine HeldT.take (i := 4) (oi := { dst := some 51, op := .move (.tmp 8), .. }) (v := ?_) rfl (by kernel_rfl) (by kernel_rfl) (by kernel_rfl) (by kernel_rfl) (fun _ _ _ h => h) (Or.inl ⟨by rfl, ?_⟩) (by assumption) ?_
  rotate_left 1
  ·intro v hSv
   clear hSv
   go_simp
   try with_reducible rfl
  try simp only [Act.put, x_A, x_0, x_1]
  refine HeldT.take (i := 5) (oi := { dst := some 52, op := .move (.tmp 8), .. }) (v := ?_) rfl (by kernel_rfl) (by kernel_rfl) (by kernel_rfl) (by kernel_rfl) (fun _ _ _ h => h) (Or.inl ⟨by rfl, ?_⟩) (by assumption) ?_
  rotate_left 1
  ·intro v hSv
   clear hSv
   go_simp
   try with_reducible rfl
  try simp only [Act.put, x_A, x_0, x_1]
  refine HeldT.take (i := 6) (oi := { dst := some 53, op := .call _, .. }) (v := ?_) rfl (by kernel_rfl) (by kernel_rfl) (by kernel_rfl) (by kernel_rfl) (fun _ _ _ h => h) (Or.inl ⟨by rfl, ?_⟩) (by assumption) ?_
  rotate_left 1
  ·intro v hSv
   clear hSv
   go_simp
   try with_reducible rfl
  try simp only [Act.put, x_A, x_0, x_1]
  refine HeldT.take (i := 7) (oi := { dst := some 54, op := .binOp .sub _ (.tmp 53) (.const (.int .i64 1)) _, .. }) (v := ?_) rfl (by kernel_rfl) (by kernel_rfl) (by kernel_rfl) (by kernel_rfl) (fun _ _ _ h => h) (Or.inl ⟨by rfl, ?_⟩) (by assumption) ?_
  rotate_left 1
  ·intro v hSv
   clear hSv
   go_simp
   try with_reducible rfl
  try simp only [Act.put, x_A, x_0, x_1]
  refine HeldT.take (i := 8) (oi := { dst := some 55, op := .indexAddr _ (.tmp 51) (.tmp 54), .. }) (v := ?_) rfl (by kernel_rfl) (by kernel_rfl) (by kernel_rfl) (by kernel_rfl) (fun _ _ _ h => h) (Or.inl ⟨by rfl, ?_⟩) (by assumption) ?_
  rotate_left 1
  ·intro v hSv
   clear hSv
   go_simp
   try with_reducible rfl
  try simp only [Act.put, x_A, x_0, x_1]
  refine HeldT.take (i := 9) (oi := { dst := some 56, op := .load _ (.tmp 55), .. }) (v := ?_) rfl (by kernel_rfl) (by kernel_rfl) (by kernel_rfl) (by kernel_rfl) (fun _ _ _ h => h) (Or.inl ⟨by rfl, ?_⟩) (by assumption) ?_
  rotate_left 1
  ·intro v hSv
   have hv1 := LH.out v hSv
   clear hSv
   go_simp
   try with_reducible rfl
  try simp only [Act.put, x_A, x_0, x_1]
  refine HeldT.take (i := 11) (oi := { dst := some 58, op := .move (.tmp 12), .. }) (v := ?_) rfl (by kernel_rfl) (by kernel_rfl) (by kernel_rfl) (by kernel_rfl) (fun _ _ _ h => h) (Or.inl ⟨by rfl, ?_⟩) (by assumption) ?_
  rotate_left 1
  ·intro v hSv
   clear hSv
   go_simp
   try with_reducible rfl
  try simp only [Act.put, x_A, x_0, x_1]
  refine HeldT.take (i := 12) (oi := { dst := some 59, op := .binOp .sub _ (.const (.int .i64 1)) (.tmp 58) _, .. }) (v := ?_) rfl (by kernel_rfl) (by kernel_rfl) (by kernel_rfl) (by kernel_rfl) (fun _ _ _ h => h) (Or.inl ⟨by rfl, ?_⟩) (by assumption) ?_
  rotate_left 1
  ·intro v hSv
   clear hSv
   go_simp
   try with_reducible rfl
  try simp only [Act.put, x_A, x_0, x_1]
  refine HeldT.take (i := 13) (oi := { dst := some 60, op := .fieldAddr _ (.tmp 11) 0, .. }) (v := ?_) rfl (by kernel_rfl) (by kernel_rfl) (by kernel_rfl) (by kernel_rfl) (fun _ _ _ h => h) (Or.inl ⟨by rfl, ?_⟩) (by assumption) ?_
  rotate_left 1
  ·intro v hSv
   clear hSv
   go_simp
   try with_reducible rfl
  try simp only [Act.put, x_A, x_0, x_1]
  refine HeldT.take (i := 14) (oi := { dst := some 61, op := .indexAddr _ (.tmp 60) (.tmp 59), .. }) (v := ?_) rfl (by kernel_rfl) (by kernel_rfl) (by kernel_rfl) (by kernel_rfl) (fun _ _ _ h => h) (Or.inl ⟨by rfl, ?_⟩) (by assumption) ?_
  rotate_left 1
  ·intro v hSv
   clear hSv
   go_simp
   try with_reducible rfl
  try simp only [Act.put, x_A, x_0, x_1]
  refine HeldT.take (i := 15) (oi := { dst := some 62, op := .load _ (.tmp 61), .. }) (v := ?_) rfl (by kernel_rfl) (by kernel_rfl) (by kernel_rfl) (by kernel_rfl) (fun _ _ _ h => h) (Or.inl ⟨by rfl, ?_⟩) (by assumption) ?_
  rotate_left 1
  ·intro v hSv
   have hv1 := (LC2.out v hSv).2
   clear hSv
   go_simp
   try with_reducible rfl
  try simp only [Act.put, x_A, x_0, x_1]
  refine HeldT.take (i := 16) (oi := { dst := some 63, op := .move (.tmp 0), .. }) (v := ?_) rfl (by kernel_rfl) (by kernel_rfl) (by kernel_rfl) (by kernel_rfl) (fun _ _ _ h => h) (Or.inl ⟨by rfl, ?_⟩) (by assumption) ?_
  rotate_left 1
  ·intro v hSv
   clear hSv
   go_simp
   try with_reducible rfl
  try simp only [Act.put, x_A, x_0, x_1]
  refine HeldT.one (i := 10) (o := { dst := some 57, op := .call _, .. }) (by kernel_rfl) rfl rfl (fun K hK => ?_)
  go_wp2_with fail
  refine (HSM.out _ HP0.out HD5.out).mono ?_
  rintro e y2 ⟨rfl, hH2, hk2⟩
  have hp2 : Keep (fun i => i = b) Y y2 := HP0.out.trans hk2
  have hq2 : Keep (fun i => i = b ∨ i = y1.heap.size) Y y2 := hp2.mono fun _ h => .inl h
  have HP2 := Lib.hid hp2
  have HH2 := Lib.hid hH2
  clear hH2 hk2 hp2 HSM
  go_wp2_with fail
  refine hK.out _ _ (fun _ => hq2) (fun hS => ?_)
  have hHeld := hS (by decide)
  clear hS hK K
  try simp only [Act.put, x_A, x_0, x_1]
  clear hq2
  refine HeldT.take (i := 18) (oi := { dst := some 65, op := .indexAddr _ (.tmp 13) (.tmp 47), .. }) (v := ?_) rfl (by kernel_rfl) (by kernel_rfl) (by kernel_rfl) (by kernel_rfl) (fun _ _ _ h => h) (Or.inl ⟨by rfl, ?_⟩) (by assumption) ?_
  rotate_left 1
  ·intro v hSv
   clear hSv
   go_simp
   try with_reducible rfl
  try simp only [Act.put, x_A, x_0, x_1]
  refine HeldT.one (i := 17) (o := { dst := some 64, op := .call _, .. }) (by kernel_rfl) rfl rfl (fun K hK => ?_)
  go_wp2_with fail
  refine (HCO.out _ (m1 + 1) (HQY.out.trans HP2.out) HH2.out (by have := HM.out; have := HM1.out; omega)).mono ?_
  rintro e y3 ⟨m3, rfl, hm3, hH3, hk3⟩
  have hp3 : Keep (fun i => i = b) Y y3 := HP2.out.trans hk3
  have hq3 : Keep (fun i => i = b ∨ i = y1.heap.size) Y y3 := hp3.mono fun _ h => .inl h
  have HP3 := Lib.hid hp3
  have HH3 := Lib.hid hH3
  have HM3 := Lib.hid hm3
  have HG3 : Hid (y3.heap[y1.heap.size]? = some (.cells (bA (z26 ++ z26)) 143 (0, 0))) := hp3.heap HGY.out (by have := HW1.out; have := HBN.out; show ¬ (_ = b); omega)
  clear hH3 hk3 hp3 hm3 HCO
  go_wp2_with fail
  refine hK.out _ _ (fun _ => hq3) (fun hS => ?_)
  have hHeld := hS (by decide)
  clear hS hK K
  try simp only [Act.put, x_A, x_0, x_1]
  clear hq3
  refine HeldT.one (i := 19) (o := { dst := none, op := .store _ (.tmp 65) (.tmp 57), .. }) (by kernel_rfl) rfl rfl (fun K hK => ?_)
  obtain ⟨s9, r9⟩ := stD2 (t := 143) (w := y3) (u := y1.heap.size) (a := []) (m := z26) (z := z26) (x := dC) (by exact HG3.out) rfl HLC.out 0 rfl
  have HR9 := Lib.hid r9
  have hq9 : Keep (fun i => i = b ∨ i = y1.heap.size) Y (y3.setCells y1.heap.size 0 (dC.map bv)) := hHeld.trans ((keep_setCells _ _ _ _).mono fun _ h => .inr h)
  clear r9
  go_wp2_with fail
  refine hK.out _ _ (fun _ => hq9) (fun hS => ?_)
  have hHeld := hS (by decide)
  clear hS hK K
  try simp only [Act.put, x_A, x_0, x_1]
  clear hq9 s9
  refine HeldT.take (i := 20) (oi := { dst := some 66, op := .indexAddr _ (.tmp 13) (.tmp 49), .. }) (v := ?_) rfl (by kernel_rfl) (by kernel_rfl) (by kernel_rfl) (by kernel_rfl) (fun _ _ _ h => h) (Or.inl ⟨by rfl, ?_⟩) (by assumption) ?_
  rotate_left 1
  ·intro v hSv
   clear hSv
   go_simp
   try with_reducible rfl
  try simp only [Act.put, x_A, x_0, x_1]
  refine HeldT.one (i := 21) (o := { dst := none, op := .store _ (.tmp 66) (.tmp 64), .. }) (by kernel_rfl) rfl rfl (fun K hK => ?_)
  obtain ⟨s11, r11⟩ := stD2 (t := 143) (u := y1.heap.size) (a := dC) (m := z26) (z := []) (x := dO) (by simpa using HR9.out) rfl HLO.out 32 HLC.out
  obtain ⟨Z, hZ⟩ : ∃ Z, Z = (y3.setCells y1.heap.size 0 (dC.map bv)).setCells y1.heap.size 32 (dO.map bv) := ⟨_, rfl⟩
  rw [← hZ] at s11 r11
  have HRZ : Hid (Z.heap[y1.heap.size]? = some (.cells (bA (dC ++ dO)) 143 (0, 0))) := by have h := r11; rw [List.append_nil] at h; exact h
  have hkZ : Keep (fun i => i = y1.heap.size) y3 Z := by rw [hZ]; exact (keep_setCells _ _ _ _).trans (keep_setCells _ _ _ _)
  have HKZ := Lib.hid hkZ
  clear r11 hZ hkZ
  go_wp2_with fail
  refine hK.out _ _ (fun h => absurd rfl h) (fun _ => ?_)
  clear hK K
  refine HeldT.done (by kernel_rfl) ?_ _
  clear hHeld
  obtain ⟨l0, l1⟩ := ldD2 HRZ.out HLC.out HLO.out
  have HN8 := Lib.hid (HND.out Z)
  clear HND s11
  go_wp2_with fail
  refine HN8.out.mono ?_
  rintro _ w8 ⟨v8, rfl, hO8, hb8⟩
  have hwZ : w.heap.size ≤ Z.heap.size := by have := HKZ.out.size; have := HP3.out.size; have := HGS.out; have := HW1.out; omega
  obtain ⟨g8, c8, rfl, he8⟩ := El19.own (hO8.mono hwZ) (by rw [HNL.out]; decide)
  obtain ⟨W9, hW9⟩ : ∃ W9, W9 = w8.alloc (.cells #[encHd (some ⟨g8, 0, none⟩, nq.length, c8)] 66) := ⟨_, rfl⟩
  have hb9 : Below w8.heap.size w8 W9 := by rw [hW9]; exact Bt.one_below _ _
  have hkY9 : Keep (fun i => i = b ∨ i = y1.heap.size) Y W9 := (((HP3.out.mono fun _ h => .inl h).trans (HKZ.out.mono fun _ h => .inr h)).trans (Keep.of_below hb8)).trans (Keep.of_below hb9)
  have HOA : Hid (OwnHd W9 w.heap.size (.slice (some ⟨gr, 0, none⟩) L cr) hs) := row11_keep HOY.out hkY9 fun g hg => by
   have e : gr = g := by simpa [Value.ownBlock] using hg
   subst e
   have := HGRL.out; have := HBN.out
   show ¬ (_ ∨ _); omega
  have HEA : Hid (∀ (i : Nat) (l : List UInt8), ps[i]? = some l → ∃ h, hs[i]? = some h ∧ El19 W9 w.heap.size l h) := fun i l hi => by
   obtain ⟨e, h1, h2⟩ := HEL.out i l hi
   refine ⟨e, h1, h2.keep hkY9 fun g hg ⟨cs, hc⟩ hor => ?_⟩
   rcases hor with rfl | rfl
   ·have := HBN.out; omega
   ·rw [HGY.out] at hc; cases hc
  have HE8 : Hid (El19 W9 w.heap.size nq (some ⟨g8, 0, none⟩, nq.length, c8)) := he8.keep (Keep.of_below (L := fun _ => False) hb9) fun _ _ _ h => h
  have HC8 : Hid (W9.cell? ⟨w8.heap.size, 0, none⟩ = some (encHd (some ⟨g8, 0, none⟩, nq.length, c8))) := by show _ = _; rw [hW9, cell_of_cells (heap_alloc_new w8 _)]; rfl
  have HS9 : Hid (w.heap.size ≤ W9.heap.size) := Nat.le_trans hwZ (Nat.le_trans hb8.size hb9.size)
  have HH9 := Lib.hid (((HH3.out.keep HKZ.out (by have := HW1.out; have := HBN.out; show ¬ (b = _); omega)).keep (Keep.of_below (L := fun _ => False) hb8) id).keep (Keep.of_below (L := fun _ => False) hb9) id)
  have HK9 : Hid (Keep (fun i => i = b) w W9) := ((((((Keep.of_below (L := fun i => i = b) HB.out).trans HQY.out).trans HP3.out).step HKZ.out fun i hi => .inr (by have e : i = y1.heap.size := hi; have := HW1.out; omega)).trans (Keep.of_below hb8)).trans (Keep.of_below hb9))
  have HW9 : Hid (W9 = w8.alloc (.cells #[.slice (some ⟨g8, 0, none⟩) nq.length c8] 66)) := hW9
  clear hO8 hb8 he8 hwZ hW9 hb9 hkY9 HN8 l0 l1
  go_wp2_with (at_builtin; rw [← HW9.out]; refine wpList_pushHd rfl _ _ rfl w.heap.size _ hs rfl HOA.out w8.heap.size (some ⟨g8, 0, none⟩, nq.length, c8) rfl HC8.out (by have := HPL.out; have := HLN.out; omega) HS9.out ?_; intro v10 x10 hO10 hG10; have HO10 := Lib.hid hO10; have HG10 : Hid (Grown11 (.slice (some ⟨gr, 0, none⟩) L cr) v10 W9 x10) := hG10; clear hO10 hG10)
  go_ret2
  have hgk := HG10.out.keep
  exact ⟨_, m3, true, rfl, ⟨fun _ => HFN.out, fun _ => rfl⟩, fun _ => RowP.push HOA.out HLN.out HEA.out HE8.out HO10.out HG10.out, by have := HM3.out; have := HM1.out; have := HLF.out; omega, HH9.out.keep hgk (fun e => by
   have e : gr = b := by simpa [Value.ownBlock] using e
   have := HGRL.out; have := HBN.out; omega), HK9.out.step hgk fun i e => .inr (by
   have e : gr = i := by simpa [Value.ownBlock] using e
   have := HGRL.out; omega)⟩
theorem up_inner1 (n : Int) (x : It) (a c : Mt) (d : Nat) (hd : d < 256) (hsh : (Mt.node x a c).Shape) (iw : UpC n c (d + 1)) (w : World) (b m : Nat) (u : Value) (k : List UInt8) (hh : Hs w b n m) (hm : m + (Mt.node x a c).flat.length ≤ 500000) (hv : Vars w) (hs : SubV w (.node x a c) u) (hk : k.length = 32) (hbit : bitK k d = 1) :
  Calls Tryz.prog 50 #[ptr b, u, .agg (bA k), .int .i64 (d : Int)] w fun e w' => ∃ v m' fb, e = .returned (.tuple #[v, .bool fb]) ∧ (fb = true ↔ (finM k (.node x a c) d).k ≠ 3) ∧ (fb = true → RowP w' w.heap.size v (presU n (.node x a c) k d)) ∧ m' ≤ m + (Mt.node x a c).flat.length ∧ Hs w' b n m' ∧ Keep (fun i => i = b) w w' := by
 obtain ⟨u1, u2, rfl, hs1, hs2⟩ := hs
 have hl1 := dig_len19 n hsh.2.1 hs1
 have hl2 := dig_len19 n hsh.2.2 hs2
 have hpq := preM_pos n (t := c) hsh.2.2 hs2
 obtain ⟨t1, c1, rfl, me1, na1, en1⟩ := sub_meth hs1
 obtain ⟨t2, c2, rfl, me2, na2, en2⟩ := sub_meth hs2
 have HFI : Hid ((finM k (.node x a c) d).k ≠ 3 ↔ (finM k c (d + 1)).k ≠ 3) := by
  show (if bitK k d = 1 then finM k c (d + 1) else finM k a (d + 1)).k ≠ 3 ↔ _
  rw [hbit]
  rfl
 have HPU : Hid (presU n (.node x a c) k d = presU n c k (d + 1) ++ [nodeL (digM n a) (digM n c)]) := by
  show _ = _
  rw [presU_node, hbit]
  rfl
 obtain ⟨pr, hpr⟩ := presU_last n c k (d + 1)
 have hpl := presU_len n c k (d + 1)
 have HDT : Hid ((finM k c (d + 1)).k ≠ 3 → digM n c = digL n (preM n c)) := fun h => dig_top n k (d + 1) hsh.2.2 h
 obtain ⟨X1, hX1⟩ : ∃ X, X = w.alloc (.cells (bA k) 39) := ⟨_, rfl⟩
 obtain ⟨X, hX⟩ : ∃ X, X = X1.alloc (.cells #[.iface t1 (.agg c1), .iface t2 (.agg c2)] 141) := ⟨_, rfl⟩
 have hz1 : X1.heap.size = w.heap.size + 1 := by rw [hX1]; simp
 have hB1 : Below w.heap.size w X1 := by rw [hX1]; exact Bt.one_below _ _
 have hB : Below w.heap.size w X := by rw [hX]; exact hB1.alloc hB1.size _
 have st := stInn X1 t1 t2 c1 c2
 rw [← hX, hz1] at st
 rw [hX1] at st
 have ta1 := ta_inn_end
 have ta2 := ta_inn_inn
 have hkX : X.heap[w.heap.size]? = some (.cells (bA k) 39 (0, 0)) := by rw [hX, hX1]; exact heap_alloc2_old w _ _
 have hcX : X.heap[w.heap.size + 1]? = some (.cells #[.iface t1 (.agg c1), .iface t2 (.agg c2)] 141 (0, 0)) := by rw [hX, ← hz1]; exact heap_alloc_new X1 _
 have hzX : X.heap.size = w.heap.size + 2 := by rw [hX]; simp; omega
 have lk : ldA 39 X (.pointer (some ⟨w.heap.size, 0, none⟩)) = .ok (.value (.agg (bA k))) X := RowB.ldKey hkX hk
 have HBT := Lib.hid (pbitK_c k hk (d : Int) X)
 rw [hbit] at HBT
 have HBN : Hid (b < w.heap.size) := lt_of_heap hh
 have HHX := Lib.hid (hh.keep (Keep.of_below (L := fun _ => False) hB) id)
 have HVX := Lib.hid (hv.below hB)
 have HB := Lib.hid hB
 have HZX := Lib.hid hzX
 have LK : Hid (∀ v, Keep (fun i => i = b) X v → ldA 39 v (.pointer (some ⟨w.heap.size, 0, none⟩)) = .ok (.value (.agg (bA k))) v) := fun v hkp => RowB.ldKey (hkp.heap hkX (by have := HBN.out; show ¬ (_ = b); omega)) hk
 have LC : Hid (∀ v, Keep (fun i => i = b) X v → v.cell? ⟨w.heap.size + 1, 0, none⟩ = some (.iface t1 (.agg c1)) ∧ v.cell? ⟨w.heap.size + 1, 1, none⟩ = some (.iface t2 (.agg c2))) := fun v hkp => by
  have h := hkp.heap hcX (by have := HBN.out; show ¬ (_ = b); omega)
  exact ⟨by rw [cell_of_cells h]; rfl, by rw [cell_of_cells h]; rfl⟩
 have hlf : (Mt.node x a c).flat.length = 1 + a.flat.length + c.flat.length := by simp [Mt.flat]; omega
 have HM : Hid (m + 1 + a.flat.length + c.flat.length ≤ 500000) := by show _ ≤ _; omega
 have HLF := Lib.hid hlf
 have HIW : Hid (∀ (v : World), Keep (fun i => i = b) X v → Hs v b n m → Calls Tryz.prog 50 #[ptr b, .iface t2 (.agg c2), .agg (bA k), .int .i64 ((d : Int) + 1)] v fun e w' => ∃ v' m' fb, e = .returned (.tuple #[v', .bool fb]) ∧ (fb = true ↔ (finM k c (d + 1)).k ≠ 3) ∧ (fb = true → RowP w' v.heap.size v' (presU n c k (d + 1))) ∧ m' ≤ m + c.flat.length ∧ Hs w' b n m' ∧ Keep (fun i => i = b) v w') := fun v hkp hH => by
  have := iw v b m _ k hH (by have := HM.out; omega) (HVX.out.hs HHX.out hkp) ((hs2.below HB.out).hs HHX.out hkp) hk
  rwa [show ((d + 1 : Nat) : Int) = (d : Int) + 1 by omega] at this
 have HCO : Hid (∀ (v : World) (j : Nat), Keep (fun i => i = b) X v → Hs v b n j → j + a.flat.length ≤ 1000000 → Calls Tryz.prog (sumF a) #[.agg c1, ptr b] v fun e w' => ∃ m', e = .returned (.agg (bA (digM n a))) ∧ m' ≤ j + a.flat.length ∧ Hs w' b n m' ∧ Keep (fun i => i = b) v w') := fun v j hkp hH hj => sums19_c n a hsh.2.1 v b j t1 c1 hH hj (HVX.out.hs HHX.out hkp) ((hs1.below HB.out).hs HHX.out hkp)
 obtain ⟨dC, hdC⟩ : ∃ z, z = digM n c := ⟨_, rfl⟩
 obtain ⟨dO, hdO⟩ : ∃ z, z = digM n a := ⟨_, rfl⟩
 rw [← hdC] at HPU HDT hl2
 rw [← hdO] at HPU HCO hl1
 have HLC := Lib.hid hl2
 have HLO := Lib.hid hl1
 have HND := Lib.hid (fun y => pnode_o dO dC y hl1 hl2)
 have HNL : Hid ((nodeL dO dC).length = 65) := by show _ = _; simp [nodeL, hl1, hl2]
 obtain ⟨nq, hnq⟩ : ∃ q, q = nodeL dO dC := ⟨_, rfl⟩
 rw [← hnq] at HPU HND HNL
 obtain ⟨q, hq⟩ : ∃ q, q = preM n c := ⟨_, rfl⟩
 rw [← hq] at hpr HDT hpq
 have HPQ := Lib.hid hpq
 obtain ⟨ps, hps⟩ : ∃ ps, ps = presU n c k (d + 1) := ⟨_, rfl⟩
 rw [← hps] at hpr HPU HIW hpl
 have HPL : Hid (ps.length ≤ 500000) := by show _ ≤ _; have := HM.out; omega
 have HPR := Lib.hid hpr
 rw [HPU.out]
 obtain ⟨fo, hfo⟩ : ∃ f, f = sumF a := ⟨_, rfl⟩
 rw [← hfo] at HCO me1 en1
 have wd : IntKind.i64.wrap ((d : Int) + 1) = (d : Int) + 1 := wrap19v (by omega) (by omega)
 have wz1 : IntKind.i64.wrap (1 : Int) = 1 := by decide
 have wz0 : IntKind.i64.wrap (0 : Int) = 0 := by decide
 clear hX hX1 hz1 hB1 hB hkX hcX hzX hh hm hv hs1 hs2 hk hl1 hl2 hpq hpr hpl hlf iw hdC hdO hnq hq hps hfo hbit hsh hd me2 na2 en2 HPU
 unfold ptr at *
 go_enter Tryz.func50, Tryz.ntmps50
 go_wp2_with fail
 refine HBT.out.mono ?_
 rintro _ w3 ⟨rfl, hb3⟩
 have hk3 : Keep (fun i => i = b) X w3 := Keep.of_below hb3
 have HK3 := Lib.hid hk3
 have HD3 : Hid (Hs w3.drew b n m) := HHX.out.keep (Keep.of_below (L := fun _ => False) hb3).drew id
 clear lk st ta1 ta2 hb3 HBT hk3
 go_wp2_with fail
 refine region_heldT 13 (fun q => Keep (fun i => i = b) X q) (by kernel_rfl) ?_
 have hHeld : Keep (fun i => i = b) X w3.drew := HK3.out.drew
 refine HeldT.take (i := 0) (oi := { dst := some 34, op := .move (.tmp 0), .. }) (v := ?_) rfl (by kernel_rfl) (by kernel_rfl) (by kernel_rfl) (by kernel_rfl) (fun _ _ _ h => h) (Or.inl ⟨by rfl, ?_⟩) (by assumption) ?_
 rotate_left 1
 ·intro v hSv
  clear hSv
  go_simp
  try with_reducible rfl
 try simp only [Act.put, x_A, x_0, x_1]
 refine HeldT.take (i := 1) (oi := { dst := some 35, op := .move (.tmp 12), .. }) (v := ?_) rfl (by kernel_rfl) (by kernel_rfl) (by kernel_rfl) (by kernel_rfl) (fun _ _ _ h => h) (Or.inl ⟨by rfl, ?_⟩) (by assumption) ?_
 rotate_left 1
 ·intro v hSv
  clear hSv
  go_simp
  try with_reducible rfl
 try simp only [Act.put, x_A, x_0, x_1]
 refine HeldT.take (i := 2) (oi := { dst := some 36, op := .fieldAddr _ (.tmp 11) 0, .. }) (v := ?_) rfl (by kernel_rfl) (by kernel_rfl) (by kernel_rfl) (by kernel_rfl) (fun _ _ _ h => h) (Or.inl ⟨by rfl, ?_⟩) (by assumption) ?_
 rotate_left 1
 ·intro v hSv
  clear hSv
  go_simp
  try with_reducible rfl
 try simp only [Act.put, x_A, x_0, x_1]
 refine HeldT.take (i := 3) (oi := { dst := some 37, op := .indexAddr _ (.tmp 36) (.tmp 35), .. }) (v := ?_) rfl (by kernel_rfl) (by kernel_rfl) (by kernel_rfl) (by kernel_rfl) (fun _ _ _ h => h) (Or.inl ⟨by rfl, ?_⟩) (by assumption) ?_
 rotate_left 1
 ·intro v hSv
  clear hSv
  go_simp
  try with_reducible rfl
 try simp only [Act.put, x_A, x_0, x_1]
 refine HeldT.take (i := 4) (oi := { dst := some 38, op := .load _ (.tmp 37), .. }) (v := ?_) rfl (by kernel_rfl) (by kernel_rfl) (by kernel_rfl) (by kernel_rfl) (fun _ _ _ h => h) (Or.inl ⟨by rfl, ?_⟩) (by assumption) ?_
 rotate_left 1
 ·intro v hSv
  have hv1 := (LC.out v hSv).2
  clear hSv
  go_simp
  try with_reducible rfl
 try simp only [Act.put, x_A, x_0, x_1]
 refine HeldT.take (i := 5) (oi := { dst := some 39, op := .load _ (.tmp 6), .. }) (v := ?_) rfl (by kernel_rfl) (by kernel_rfl) (by kernel_rfl) (by kernel_rfl) (fun _ _ _ h => h) (Or.inl ⟨by rfl, ?_⟩) (by assumption) ?_
 rotate_left 1
 ·intro v hSv
  have hv1 := LK.out v hSv
  clear hSv
  go_simp
  try with_reducible rfl
 try simp only [Act.put, x_A, x_0, x_1]
 refine HeldT.take (i := 6) (oi := { dst := some 40, op := .move (.tmp 3), .. }) (v := ?_) rfl (by kernel_rfl) (by kernel_rfl) (by kernel_rfl) (by kernel_rfl) (fun _ _ _ h => h) (Or.inl ⟨by rfl, ?_⟩) (by assumption) ?_
 rotate_left 1
 ·intro v hSv
  clear hSv
  go_simp
  try with_reducible rfl
 try simp only [Act.put, x_A, x_0, x_1]
 refine HeldT.take (i := 7) (oi := { dst := some 41, op := .binOp .add _ (.tmp 40) (.const (.int .i64 1)) _, .. }) (v := ?_) rfl (by kernel_rfl) (by kernel_rfl) (by kernel_rfl) (by kernel_rfl) (fun _ _ _ h => h) (Or.inl ⟨by rfl, ?_⟩) (by assumption) ?_
 rotate_left 1
 ·intro v hSv
  clear hSv
  go_simp
  try with_reducible rfl
 try simp only [Act.put, x_A, x_0, x_1]
 refine HeldT.one (i := 8) (o := { dst := some 42, op := .call _, .. }) (by kernel_rfl) rfl rfl (fun K hK => ?_)
 go_wp2_with fail
 refine (HIW.out _ hHeld HD3.out).mono ?_
 rintro e y1 ⟨v1, m1, f1, rfl, hf1, hr1, hm1, hH1, hk1⟩
 have hq1 : Keep (fun i => i = b) X y1 := hHeld.trans hk1
 have HZ1 : Hid (w.heap.size ≤ w3.drew.heap.size) := Nat.le_trans HB.out.size HK3.out.size
 have HF1 := Lib.hid hf1
 have HR1 := Lib.hid hr1
 have HM1 := Lib.hid hm1
 have HH1 := Lib.hid hH1
 have HQ1 := Lib.hid hq1
 clear hf1 hr1 hm1 hH1 hk1 HIW
 go_wp2_with fail
 refine hK.out _ _ (fun _ => hq1) (fun hS => ?_)
 have hHeld := hS (by decide)
 clear hS hK K
 try simp only [Act.put, x_A, x_0, x_1]
 clear hq1
 refine HeldT.take (i := 9) (oi := { dst := some 33, op := .move (.tmp 42), .. }) (v := ?_) rfl (by kernel_rfl) (by kernel_rfl) (by kernel_rfl) (by kernel_rfl) (fun _ _ _ h => h) (Or.inl ⟨by rfl, ?_⟩) (by assumption) ?_
 rotate_left 1
 ·intro v hSv
  clear hSv
  go_simp
  try with_reducible rfl
 try simp only [Act.put, x_A, x_0, x_1]
 refine HeldT.take (i := 10) (oi := { dst := some 43, op := .extract (.tmp 33) 0, .. }) (v := ?_) rfl (by kernel_rfl) (by kernel_rfl) (by kernel_rfl) (by kernel_rfl) (fun _ _ _ h => h) (Or.inl ⟨by rfl, ?_⟩) (by assumption) ?_
 rotate_left 1
 ·intro v hSv
  clear hSv
  go_simp
  try with_reducible rfl
 try simp only [Act.put, x_A, x_0, x_1]
 refine HeldT.take (i := 11) (oi := { dst := some 44, op := .extract (.tmp 33) 1, .. }) (v := ?_) rfl (by kernel_rfl) (by kernel_rfl) (by kernel_rfl) (by kernel_rfl) (fun _ _ _ h => h) (Or.inl ⟨by rfl, ?_⟩) (by assumption) ?_
 rotate_left 1
 ·intro v hSv
  clear hSv
  go_simp
  try with_reducible rfl
 try simp only [Act.put, x_A, x_0, x_1]
 refine HeldT.one (i := 12) (o := { dst := some 8, op := .assign (.tmp 43), .. }) (by kernel_rfl) rfl rfl (fun K hK => ?_)
 go_wp2_with fail
 refine hK.out _ _ (fun _ => hHeld) (fun hS => ?_)
 have hHeld := hS (by decide)
 clear hS hK K
 try simp only [Act.put, x_A, x_0, x_1]
 refine HeldT.one (i := 13) (o := { dst := some 9, op := .assign (.tmp 44), .. }) (by kernel_rfl) rfl rfl (fun K hK => ?_)
 go_wp2_with fail
 refine hK.out _ _ (fun h => absurd rfl h) (fun _ => ?_)
 clear hK K
 refine HeldT.done (by kernel_rfl) ?_ _
 clear hHeld
 cases f1 with
 | false =>
  have HF : Hid (¬ (finM k (.node x a c) d).k ≠ 3) := fun h => by have := HF1.out.2 (HFI.out.1 h); cases this
  clear HF1 HFI HR1
  go_wp2_with fail
  go_ret2
  exact ⟨_, m1, false, rfl, ⟨fun h => (by cases h), fun h => absurd h HF.out⟩, fun h => (by cases h), by have := HM1.out; have := HLF.out; omega, HH1.out, (Keep.of_below (L := fun i => i = b) HB.out).trans HQ1.out⟩
 | true =>
  have hfin := HF1.out.1 (by simp)
  have HFN := Lib.hid (HFI.out.2 hfin)
  have hdd := HDT.out hfin
  obtain ⟨hs, hO, hln, hel⟩ := (HR1.out (by simp)).mono HZ1.out
  obtain ⟨h9, hh9, he9⟩ := hel (ps.length - 1) q (by rw [HPR.out, List.length_append, List.length_singleton, Nat.add_sub_cancel, List.getElem?_append_right (Nat.le_refl _), Nat.sub_self]; rfl)
  have hp0 : 0 < ps.length := by rw [HPR.out, List.length_append, List.length_singleton]; omega
  obtain ⟨gr, cr, rfl, hob, hgr, hHo, hcr⟩ := hO.holds (by omega)
  obtain ⟨A9, n9, c9⟩ := h9
  obtain rfl : n9 = q.length := he9.len
  obtain ⟨Y, hY⟩ : ∃ Y, Y = y1.alloc (.cells (bA z64) 143) := ⟨_, rfl⟩
  have hbY : Below y1.heap.size y1 Y := by rw [hY]; exact Bt.one_below _ _
  have hgY : Y.heap[y1.heap.size]? = some (.cells (bA (z26 ++ z26)) 143 (0, 0)) := by rw [hY]; exact heap_alloc_new _ _
  have hqY : Keep (fun i => i = b) X Y := HQ1.out.trans (Keep.of_below hbY)
  have HGY := Lib.hid hgY
  have HQY := Lib.hid hqY
  have HHY := Lib.hid (HH1.out.keep (Keep.of_below (L := fun _ => False) hbY) id)
  have HY := Lib.hid hY
  have HGS : Hid (y1.heap.size < Y.heap.size) := lt_of_heap hgY
  have HW1 : Hid (w.heap.size + 2 ≤ y1.heap.size) := by have := HQ1.out.size; have := HZX.out; show _ ≤ _; omega
  have HGRL : Hid (w.heap.size ≤ gr ∧ gr < y1.heap.size) := ⟨hgr, by obtain ⟨cs, h⟩ := hcr; exact lt_of_heap h⟩
  have HOY : Hid (OwnHd Y w.heap.size (.slice (some ⟨gr, 0, none⟩) hs.length cr) hs) := row11_keep hO (Keep.of_below (L := fun _ => False) hbY) fun _ _ h => h
  have HEL : Hid (∀ (i : Nat) (l : List UInt8), ps[i]? = some l → ∃ h, hs[i]? = some h ∧ El19 Y w.heap.size l h) := fun i l hi => by
   obtain ⟨e, h1, h2⟩ := hel i l hi
   exact ⟨e, h1, h2.keep (Keep.of_below (L := fun _ => False) hbY) fun _ _ _ h => h⟩
  have LH : Hid (∀ v, Keep (fun i => i = b ∨ i = y1.heap.size) Y v → v.cell? ⟨gr, hs.length - 1, none⟩ = some (.slice A9 q.length c9)) := fun v hkp => by
   have h1 := (hHo (hs.length - 1) (by simp; omega)).1
   have h2 : hs.toArray[hs.length - 1]! = (A9, q.length, c9) := by
    rw [getElem!_def, List.getElem?_toArray, hln, hh9]
   rw [h2, Nat.zero_add] at h1
   have h3 := (Keep.of_below (L := fun i => i = b ∨ i = y1.heap.size) hbY).trans hkp
   exact h3.cellAt h1 (by have := HGRL.out; have := HBN.out; show ¬ (gr = b ∨ gr = y1.heap.size); omega)
  have LC2 : Hid (∀ v, Keep (fun i => i = b ∨ i = y1.heap.size) Y v → v.cell? ⟨w.heap.size + 1, 0, none⟩ = some (.iface t1 (.agg c1)) ∧ v.cell? ⟨w.heap.size + 1, 1, none⟩ = some (.iface t2 (.agg c2))) := fun v hkp => by
   have h := LC.out Y HQY.out
   exact ⟨hkp.cellAt h.1 (by have := HW1.out; have := HBN.out; show ¬ (w.heap.size + 1 = b ∨ w.heap.size + 1 = y1.heap.size); omega), hkp.cellAt h.2 (by have := HW1.out; have := HBN.out; show ¬ (w.heap.size + 1 = b ∨ w.heap.size + 1 = y1.heap.size); omega)⟩
  have heY : BA Y A9 q := he9.ba.below hbY
  have HQL : Hid (q.length ≤ c9) := he9.cap
  have HSM : Hid (∀ v, Keep (fun i => i = b) Y v → Hs v b n m1 → Calls Tryz.prog 78 #[.pointer (some ⟨b, 0, none⟩), .slice A9 q.length c9] v fun e w' => e = .returned (.agg (bA dC)) ∧ Hs w' b n (m1 + 1) ∧ Keep (fun i => i = b) v w') := fun v hkp hH => by
   have := sum_hs b n m1 A9 q c9 v hH (by have := HM.out; have := HM1.out; omega) (heY.hs19 HHY.out hkp) HQL.out (by have := HPQ.out.2; omega) ((HVX.out.hs HHX.out HQY.out).hs HHY.out hkp)
   unfold ptr at this
   rwa [← hdd] at this
  have HD5 : Hid (Hs Y.drew b n m1) := HHY.out.keep (Keep.refl (fun _ => False) Y).drew id
  have HLN : Hid (hs.length = ps.length) := hln
  have wsub : IntKind.i64.wrap ((hs.length : Int) - 1) = ((hs.length - 1 : Nat) : Int) := by rw [wrap19v (by omega) (by have := HPL.out; omega)]; omega
  obtain ⟨L, hL⟩ : ∃ L, L = hs.length := ⟨_, rfl⟩
  rw [← hL] at wsub LH HOY ⊢
  obtain ⟨L1, hL1⟩ : ∃ L1, L1 = L - 1 := ⟨_, rfl⟩
  rw [← hL1] at wsub LH
  have pl0 : (0 : Int) ≤ (L1 : Int) := by omega
  have pl1 : (L1 : Int) < (L : Int) := by omega
  obtain ⟨ql, hql⟩ : ∃ ql, ql = q.length := ⟨_, rfl⟩
  rw [← hql] at LH HSM
  clear hfin hdd hO hln hel hh9 he9 hp0 hob hgr hHo hcr hY hbY hgY hqY heY hL hL1 hql HF1 HFI HR1 HDT LC
  go_wp2_with fail
  rw [← HY.out]
  refine region_heldT 21 (fun q => Keep (fun i => i = b ∨ i = y1.heap.size) Y q) (by kernel_rfl) ?_
  have hHeld : Keep (fun i => i = b ∨ i = y1.heap.size) Y Y.drew := (Keep.refl _ _).drew
  have HP0 : Hid (Keep (fun i => i = b) Y Y.drew) := (Keep.refl _ _).drew
  refine HeldT.take (i := 0) (oi := { dst := some 47, op := .move (.tmp 12), .. }) (v := ?_) rfl (by kernel_rfl) (by kernel_rfl) (by kernel_rfl) (by kernel_rfl) (fun _ _ _ h => h) (Or.inl ⟨by rfl, ?_⟩) (by assumption) ?_
  rotate_left 1
  ·intro v hSv
   clear hSv
   go_simp
   try with_reducible rfl
  try simp only [Act.put, x_A, x_0, x_1]
  refine HeldT.take (i := 1) (oi := { dst := some 48, op := .move (.tmp 12), .. }) (v := ?_) rfl (by kernel_rfl) (by kernel_rfl) (by kernel_rfl) (by kernel_rfl) (fun _ _ _ h => h) (Or.inl ⟨by rfl, ?_⟩) (by assumption) ?_
  rotate_left 1
  ·intro v hSv
   clear hSv
   go_simp
   try with_reducible rfl
  try simp only [Act.put, x_A, x_0, x_1]
  refine HeldT.take (i := 2) (oi := { dst := some 49, op := .binOp .sub _ (.const (.int .i64 1)) (.tmp 48) _, .. }) (v := ?_) rfl (by kernel_rfl) (by kernel_rfl) (by kernel_rfl) (by kernel_rfl) (fun _ _ _ h => h) (Or.inl ⟨by rfl, ?_⟩) (by assumption) ?_
  rotate_left 1
  ·intro v hSv
   clear hSv
   go_simp
   try with_reducible rfl
  try simp only [Act.put, x_A, x_0, x_1]
  refine HeldT.take (i := 3) (oi := { dst := some 50, op := .move (.tmp 0), .. }) (v := ?_) rfl (by kernel_rfl) (by kernel_rfl) (by kernel_rfl) (by kernel_rfl) (fun _ _ _ h => h) (Or.inl ⟨by rfl, ?_⟩) (by assumption) ?_
  rotate_left 1
  ·intro v hSv
   clear hSv
   go_simp
   try with_reducible rfl
  try simp only [Act.put, x_A, x_0, x_1]
  refine HeldT.take (i := 4) (oi := { dst := some 51, op := .move (.tmp 8), .. }) (v := ?_) rfl (by kernel_rfl) (by kernel_rfl) (by kernel_rfl) (by kernel_rfl) (fun _ _ _ h => h) (Or.inl ⟨by rfl, ?_⟩) (by assumption) ?_
  rotate_left 1
  ·intro v hSv
   clear hSv
   go_simp
   try with_reducible rfl
  try simp only [Act.put, x_A, x_0, x_1]
  refine HeldT.take (i := 5) (oi := { dst := some 52, op := .move (.tmp 8), .. }) (v := ?_) rfl (by kernel_rfl) (by kernel_rfl) (by kernel_rfl) (by kernel_rfl) (fun _ _ _ h => h) (Or.inl ⟨by rfl, ?_⟩) (by assumption) ?_
  rotate_left 1
  ·intro v hSv
   clear hSv
   go_simp
   try with_reducible rfl
  try simp only [Act.put, x_A, x_0, x_1]
  refine HeldT.take (i := 6) (oi := { dst := some 53, op := .call _, .. }) (v := ?_) rfl (by kernel_rfl) (by kernel_rfl) (by kernel_rfl) (by kernel_rfl) (fun _ _ _ h => h) (Or.inl ⟨by rfl, ?_⟩) (by assumption) ?_
  rotate_left 1
  ·intro v hSv
   clear hSv
   go_simp
   try with_reducible rfl
  try simp only [Act.put, x_A, x_0, x_1]
  refine HeldT.take (i := 7) (oi := { dst := some 54, op := .binOp .sub _ (.tmp 53) (.const (.int .i64 1)) _, .. }) (v := ?_) rfl (by kernel_rfl) (by kernel_rfl) (by kernel_rfl) (by kernel_rfl) (fun _ _ _ h => h) (Or.inl ⟨by rfl, ?_⟩) (by assumption) ?_
  rotate_left 1
  ·intro v hSv
   clear hSv
   go_simp
   try with_reducible rfl
  try simp only [Act.put, x_A, x_0, x_1]
  refine HeldT.take (i := 8) (oi := { dst := some 55, op := .indexAddr _ (.tmp 51) (.tmp 54), .. }) (v := ?_) rfl (by kernel_rfl) (by kernel_rfl) (by kernel_rfl) (by kernel_rfl) (fun _ _ _ h => h) (Or.inl ⟨by rfl, ?_⟩) (by assumption) ?_
  rotate_left 1
  ·intro v hSv
   clear hSv
   go_simp
   try with_reducible rfl
  try simp only [Act.put, x_A, x_0, x_1]
  refine HeldT.take (i := 9) (oi := { dst := some 56, op := .load _ (.tmp 55), .. }) (v := ?_) rfl (by kernel_rfl) (by kernel_rfl) (by kernel_rfl) (by kernel_rfl) (fun _ _ _ h => h) (Or.inl ⟨by rfl, ?_⟩) (by assumption) ?_
  rotate_left 1
  ·intro v hSv
   have hv1 := LH.out v hSv
   clear hSv
   go_simp
   try with_reducible rfl
  try simp only [Act.put, x_A, x_0, x_1]
  refine HeldT.take (i := 11) (oi := { dst := some 58, op := .move (.tmp 12), .. }) (v := ?_) rfl (by kernel_rfl) (by kernel_rfl) (by kernel_rfl) (by kernel_rfl) (fun _ _ _ h => h) (Or.inl ⟨by rfl, ?_⟩) (by assumption) ?_
  rotate_left 1
  ·intro v hSv
   clear hSv
   go_simp
   try with_reducible rfl
  try simp only [Act.put, x_A, x_0, x_1]
  refine HeldT.take (i := 12) (oi := { dst := some 59, op := .binOp .sub _ (.const (.int .i64 1)) (.tmp 58) _, .. }) (v := ?_) rfl (by kernel_rfl) (by kernel_rfl) (by kernel_rfl) (by kernel_rfl) (fun _ _ _ h => h) (Or.inl ⟨by rfl, ?_⟩) (by assumption) ?_
  rotate_left 1
  ·intro v hSv
   clear hSv
   go_simp
   try with_reducible rfl
  try simp only [Act.put, x_A, x_0, x_1]
  refine HeldT.take (i := 13) (oi := { dst := some 60, op := .fieldAddr _ (.tmp 11) 0, .. }) (v := ?_) rfl (by kernel_rfl) (by kernel_rfl) (by kernel_rfl) (by kernel_rfl) (fun _ _ _ h => h) (Or.inl ⟨by rfl, ?_⟩) (by assumption) ?_
  rotate_left 1
  ·intro v hSv
   clear hSv
   go_simp
   try with_reducible rfl
  try simp only [Act.put, x_A, x_0, x_1]
  refine HeldT.take (i := 14) (oi := { dst := some 61, op := .indexAddr _ (.tmp 60) (.tmp 59), .. }) (v := ?_) rfl (by kernel_rfl) (by kernel_rfl) (by kernel_rfl) (by kernel_rfl) (fun _ _ _ h => h) (Or.inl ⟨by rfl, ?_⟩) (by assumption) ?_
  rotate_left 1
  ·intro v hSv
   clear hSv
   go_simp
   try with_reducible rfl
  try simp only [Act.put, x_A, x_0, x_1]
  refine HeldT.take (i := 15) (oi := { dst := some 62, op := .load _ (.tmp 61), .. }) (v := ?_) rfl (by kernel_rfl) (by kernel_rfl) (by kernel_rfl) (by kernel_rfl) (fun _ _ _ h => h) (Or.inl ⟨by rfl, ?_⟩) (by assumption) ?_
  rotate_left 1
  ·intro v hSv
   have hv1 := (LC2.out v hSv).1
   clear hSv
   go_simp
   try with_reducible rfl
  try simp only [Act.put, x_A, x_0, x_1]
  refine HeldT.take (i := 16) (oi := { dst := some 63, op := .move (.tmp 0), .. }) (v := ?_) rfl (by kernel_rfl) (by kernel_rfl) (by kernel_rfl) (by kernel_rfl) (fun _ _ _ h => h) (Or.inl ⟨by rfl, ?_⟩) (by assumption) ?_
  rotate_left 1
  ·intro v hSv
   clear hSv
   go_simp
   try with_reducible rfl
  try simp only [Act.put, x_A, x_0, x_1]
  refine HeldT.one (i := 10) (o := { dst := some 57, op := .call _, .. }) (by kernel_rfl) rfl rfl (fun K hK => ?_)
  go_wp2_with fail
  refine (HSM.out _ HP0.out HD5.out).mono ?_
  rintro e y2 ⟨rfl, hH2, hk2⟩
  have hp2 : Keep (fun i => i = b) Y y2 := HP0.out.trans hk2
  have hq2 : Keep (fun i => i = b ∨ i = y1.heap.size) Y y2 := hp2.mono fun _ h => .inl h
  have HP2 := Lib.hid hp2
  have HH2 := Lib.hid hH2
  clear hH2 hk2 hp2 HSM
  go_wp2_with fail
  refine hK.out _ _ (fun _ => hq2) (fun hS => ?_)
  have hHeld := hS (by decide)
  clear hS hK K
  try simp only [Act.put, x_A, x_0, x_1]
  clear hq2
  refine HeldT.take (i := 18) (oi := { dst := some 65, op := .indexAddr _ (.tmp 13) (.tmp 47), .. }) (v := ?_) rfl (by kernel_rfl) (by kernel_rfl) (by kernel_rfl) (by kernel_rfl) (fun _ _ _ h => h) (Or.inl ⟨by rfl, ?_⟩) (by assumption) ?_
  rotate_left 1
  ·intro v hSv
   clear hSv
   go_simp
   try with_reducible rfl
  try simp only [Act.put, x_A, x_0, x_1]
  refine HeldT.one (i := 17) (o := { dst := some 64, op := .call _, .. }) (by kernel_rfl) rfl rfl (fun K hK => ?_)
  go_wp2_with fail
  refine (HCO.out _ (m1 + 1) (HQY.out.trans HP2.out) HH2.out (by have := HM.out; have := HM1.out; omega)).mono ?_
  rintro e y3 ⟨m3, rfl, hm3, hH3, hk3⟩
  have hp3 : Keep (fun i => i = b) Y y3 := HP2.out.trans hk3
  have hq3 : Keep (fun i => i = b ∨ i = y1.heap.size) Y y3 := hp3.mono fun _ h => .inl h
  have HP3 := Lib.hid hp3
  have HH3 := Lib.hid hH3
  have HM3 := Lib.hid hm3
  have HG3 : Hid (y3.heap[y1.heap.size]? = some (.cells (bA (z26 ++ z26)) 143 (0, 0))) := hp3.heap HGY.out (by have := HW1.out; have := HBN.out; show ¬ (_ = b); omega)
  clear hH3 hk3 hp3 hm3 HCO
  go_wp2_with fail
  refine hK.out _ _ (fun _ => hq3) (fun hS => ?_)
  have hHeld := hS (by decide)
  clear hS hK K
  try simp only [Act.put, x_A, x_0, x_1]
  clear hq3
  refine HeldT.one (i := 19) (o := { dst := none, op := .store _ (.tmp 65) (.tmp 57), .. }) (by kernel_rfl) rfl rfl (fun K hK => ?_)
  obtain ⟨s9, r9⟩ := stD2 (t := 143) (w := y3) (u := y1.heap.size) (a := z26) (m := z26) (z := []) (x := dC) (by exact HG3.out) rfl HLC.out 32 rfl
  have HR9 := Lib.hid r9
  have hq9 : Keep (fun i => i = b ∨ i = y1.heap.size) Y (y3.setCells y1.heap.size 32 (dC.map bv)) := hHeld.trans ((keep_setCells _ _ _ _).mono fun _ h => .inr h)
  clear r9
  go_wp2_with fail
  refine hK.out _ _ (fun _ => hq9) (fun hS => ?_)
  have hHeld := hS (by decide)
  clear hS hK K
  try simp only [Act.put, x_A, x_0, x_1]
  clear hq9 s9
  refine HeldT.take (i := 20) (oi := { dst := some 66, op := .indexAddr _ (.tmp 13) (.tmp 49), .. }) (v := ?_) rfl (by kernel_rfl) (by kernel_rfl) (by kernel_rfl) (by kernel_rfl) (fun _ _ _ h => h) (Or.inl ⟨by rfl, ?_⟩) (by assumption) ?_
  rotate_left 1
  ·intro v hSv
   clear hSv
   go_simp
   try with_reducible rfl
  try simp only [Act.put, x_A, x_0, x_1]
  refine HeldT.one (i := 21) (o := { dst := none, op := .store _ (.tmp 66) (.tmp 64), .. }) (by kernel_rfl) rfl rfl (fun K hK => ?_)
  obtain ⟨s11, r11⟩ := stD2 (t := 143) (u := y1.heap.size) (a := []) (m := z26) (z := dC) (x := dO) (by simpa using HR9.out) rfl HLO.out 0 rfl
  obtain ⟨Z, hZ⟩ : ∃ Z, Z = (y3.setCells y1.heap.size 32 (dC.map bv)).setCells y1.heap.size 0 (dO.map bv) := ⟨_, rfl⟩
  rw [← hZ] at s11 r11
  have HRZ : Hid (Z.heap[y1.heap.size]? = some (.cells (bA (dO ++ dC)) 143 (0, 0))) := by have h := r11; exact h
  have hkZ : Keep (fun i => i = y1.heap.size) y3 Z := by rw [hZ]; exact (keep_setCells _ _ _ _).trans (keep_setCells _ _ _ _)
  have HKZ := Lib.hid hkZ
  clear r11 hZ hkZ
  go_wp2_with fail
  refine hK.out _ _ (fun h => absurd rfl h) (fun _ => ?_)
  clear hK K
  refine HeldT.done (by kernel_rfl) ?_ _
  clear hHeld
  obtain ⟨l0, l1⟩ := ldD2 HRZ.out HLO.out HLC.out
  have HN8 := Lib.hid (HND.out Z)
  clear HND s11
  go_wp2_with fail
  refine HN8.out.mono ?_
  rintro _ w8 ⟨v8, rfl, hO8, hb8⟩
  have hwZ : w.heap.size ≤ Z.heap.size := by have := HKZ.out.size; have := HP3.out.size; have := HGS.out; have := HW1.out; omega
  obtain ⟨g8, c8, rfl, he8⟩ := El19.own (hO8.mono hwZ) (by rw [HNL.out]; decide)
  obtain ⟨W9, hW9⟩ : ∃ W9, W9 = w8.alloc (.cells #[encHd (some ⟨g8, 0, none⟩, nq.length, c8)] 66) := ⟨_, rfl⟩
  have hb9 : Below w8.heap.size w8 W9 := by rw [hW9]; exact Bt.one_below _ _
  have hkY9 : Keep (fun i => i = b ∨ i = y1.heap.size) Y W9 := (((HP3.out.mono fun _ h => .inl h).trans (HKZ.out.mono fun _ h => .inr h)).trans (Keep.of_below hb8)).trans (Keep.of_below hb9)
  have HOA : Hid (OwnHd W9 w.heap.size (.slice (some ⟨gr, 0, none⟩) L cr) hs) := row11_keep HOY.out hkY9 fun g hg => by
   have e : gr = g := by simpa [Value.ownBlock] using hg
   subst e
   have := HGRL.out; have := HBN.out
   show ¬ (_ ∨ _); omega
  have HEA : Hid (∀ (i : Nat) (l : List UInt8), ps[i]? = some l → ∃ h, hs[i]? = some h ∧ El19 W9 w.heap.size l h) := fun i l hi => by
   obtain ⟨e, h1, h2⟩ := HEL.out i l hi
   refine ⟨e, h1, h2.keep hkY9 fun g hg ⟨cs, hc⟩ hor => ?_⟩
   rcases hor with rfl | rfl
   ·have := HBN.out; omega
   ·rw [HGY.out] at hc; cases hc
  have HE8 : Hid (El19 W9 w.heap.size nq (some ⟨g8, 0, none⟩, nq.length, c8)) := he8.keep (Keep.of_below (L := fun _ => False) hb9) fun _ _ _ h => h
  have HC8 : Hid (W9.cell? ⟨w8.heap.size, 0, none⟩ = some (encHd (some ⟨g8, 0, none⟩, nq.length, c8))) := by show _ = _; rw [hW9, cell_of_cells (heap_alloc_new w8 _)]; rfl
  have HS9 : Hid (w.heap.size ≤ W9.heap.size) := Nat.le_trans hwZ (Nat.le_trans hb8.size hb9.size)
  have HH9 := Lib.hid (((HH3.out.keep HKZ.out (by have := HW1.out; have := HBN.out; show ¬ (b = _); omega)).keep (Keep.of_below (L := fun _ => False) hb8) id).keep (Keep.of_below (L := fun _ => False) hb9) id)
  have HK9 : Hid (Keep (fun i => i = b) w W9) := ((((((Keep.of_below (L := fun i => i = b) HB.out).trans HQY.out).trans HP3.out).step HKZ.out fun i hi => .inr (by have e : i = y1.heap.size := hi; have := HW1.out; omega)).trans (Keep.of_below hb8)).trans (Keep.of_below hb9))
  have HW9 : Hid (W9 = w8.alloc (.cells #[.slice (some ⟨g8, 0, none⟩) nq.length c8] 66)) := hW9
  clear hO8 hb8 he8 hwZ hW9 hb9 hkY9 HN8 l0 l1
  go_wp2_with (at_builtin; rw [← HW9.out]; refine wpList_pushHd rfl _ _ rfl w.heap.size _ hs rfl HOA.out w8.heap.size (some ⟨g8, 0, none⟩, nq.length, c8) rfl HC8.out (by have := HPL.out; have := HLN.out; omega) HS9.out ?_; intro v10 x10 hO10 hG10; have HO10 := Lib.hid hO10; have HG10 : Hid (Grown11 (.slice (some ⟨gr, 0, none⟩) L cr) v10 W9 x10) := hG10; clear hO10 hG10)
  go_ret2
  have hgk := HG10.out.keep
  exact ⟨_, m3, true, rfl, ⟨fun _ => HFN.out, fun _ => rfl⟩, fun _ => RowP.push HOA.out HLN.out HEA.out HE8.out HO10.out HG10.out, by have := HM3.out; have := HM1.out; have := HLF.out; omega, HH9.out.keep hgk (fun e => by
   have e : gr = b := by simpa [Value.ownBlock] using e
   have := HGRL.out; have := HBN.out; omega), HK9.out.step hgk fun i e => .inr (by
   have e : gr = i := by simpa [Value.ownBlock] using e
   have := HGRL.out; omega)⟩
theorem up_c (n : Int) : ∀ (t : Mt) (d : Nat), d + t.ht ≤ 256 → t.Shape → UpC n t d
 | .leaf x, d, _, _ => up_leaf n x d
 | .node x a c, d, h, hsh => by
  have h : d + (max a.ht c.ht + 1) ≤ 256 := h
  have ha := up_c n a (d + 1) (by omega) hsh.2.1
  have hc := up_c n c (d + 1) (by omega) hsh.2.2
  intro w b m u k hh hm hv hs hk
  rcases bitK_01 k d (by omega) with hb | hb
  ·exact up_inner0 n x a c d (by omega) hsh ha w b m u k hh hm hv hs hk hb
  ·exact up_inner1 n x a c d (by omega) hsh hc w b m u k hh hm hv hs hk hb
theorem ppre19_of (w : World) (b : Nat) (n : Int) (m : Nat) (t : Mt) (A : Option Addr) (c : Nat) (k : List UInt8) (hh : Hs w b n m) (hm : m ≤ 1000) (hv : Vars w) (ht : t.Good) (hA : IA w A t.flat) (hc : t.flat.length ≤ c) (hl : t.flat.length ≤ 1200) (hk : k.length = 32) :
  Calls Tryz.prog 26 #[ptr b, .slice A t.flat.length c, .agg (bA k)] w fun e w' => ∃ A' c' m', (((finM k t 0).k ≠ 3 → e = .returned (.tuple #[.slice A' (presM n t k).length c', .int .i64 0]) ∧ PS19 w' A' (presM n t k) ∧ (presM n t k).length ≤ c') ∧ ((finM k t 0).k = 3 → e = .returned (.tuple #[.slice A' 0 c', .int .i64 12]))) ∧ Hs w' b n m' ∧ Keep (fun i => i = b) w w' := by
 obtain ⟨X, hX⟩ : ∃ X, X = w.alloc (.cells (bA k) 39) := ⟨_, rfl⟩
 have hB : Below w.heap.size w X := by rw [hX]; exact Bt.one_below _ _
 have hkX : X.heap[w.heap.size]? = some (.cells (bA k) 39 (0, 0)) := by rw [hX]; exact heap_alloc_new w _
 have HX := Lib.hid hX
 have HB := Lib.hid hB
 have HBN : Hid (b < w.heap.size) := lt_of_heap hh
 have HRD := Lib.hid (read_ok t A c X ht (hA.below hB) hc (by omega))
 have HLK : Hid (∀ v, Below X.heap.size X v → ldA 39 v (.pointer (some ⟨w.heap.size, 0, none⟩)) = .ok (.value (.agg (bA k))) v) := fun v hb => RowB.ldKey ((Keep.of_below (L := fun _ => False) hb).heap hkX id) hk
 have HUP : Hid (∀ (v : World) (u : Value), Below X.heap.size X v → SubV X t u → Calls Tryz.prog 50 #[.pointer (some ⟨b, 0, none⟩), u, .agg (bA k), .int .i64 0] v fun e w' => ∃ v' m' fb, e = .returned (.tuple #[v', .bool fb]) ∧ (fb = true ↔ (finM k t 0).k ≠ 3) ∧ (fb = true → RowP w' w.heap.size v' (presU n t k 0)) ∧ Hs w' b n m' ∧ Keep (fun i => i = b) w w') := fun v u hb hs => by
  have hbv : Below w.heap.size w v := hB.trans (hb.mono hB.size)
  refine (up_c n t 0 (by have := ht.2.1; omega) ht.1 v b m u k (hh.keep (Keep.of_below (L := fun _ => False) hbv) id) (by omega) (hv.below hbv) (hs.below hb) hk).mono ?_
  rintro e w' ⟨v', m', fb, he, h1, h2, _, h4, h5⟩
  exact ⟨v', m', fb, he, h1, fun h => (h2 h).mono hbv.size, h4, (Keep.of_below hbv).trans h5⟩
 have HPL : Hid ((presU n t k 0).length ≤ 1200) := Nat.le_trans (presU_len n t k 0) hl
 have HPP : Hid (0 < (presU n t k 0).length) := by
  obtain ⟨r, hr⟩ := presU_last n t k 0
  show 0 < _
  rw [hr, List.length_append, List.length_singleton]; omega
 rw [presM_rev]
 obtain ⟨ps, hps⟩ : ∃ ps, ps = presU n t k 0 := ⟨_, rfl⟩
 rw [← hps] at HUP HPL HPP ⊢
 obtain ⟨M, hM⟩ : ∃ M, M = t.flat.length := ⟨_, rfl⟩
 rw [← hM] at HRD ⊢
 obtain ⟨z, hz⟩ : ∃ z, z = (finM k t 0).k := ⟨_, rfl⟩
 rw [← hz] at HUP ⊢
 clear hX hB hkX hh hm hv ht hA hc hl hk hps hM hz
 unfold ptr at *
 go_enter Tryz.func26, Tryz.ntmps26
 go_wp2_with fail
 rw [← HX.out]
 refine HRD.out.mono ?_
 rintro _ w1 ⟨s, u, rfl, hs, hb1⟩
 have HU1 := Lib.hid (HUP.out w1 _ hb1 hs)
 have lk := HLK.out w1 hb1
 clear hs hb1 HRD HUP HLK
 go_wp2_with fail
 refine HU1.out.mono ?_
 rintro _ w2 ⟨v, m2, fb, rfl, hf, hr, hH, hk2⟩
 have HF := Lib.hid hf
 have HH2 := Lib.hid hH
 have HK2 := Lib.hid hk2
 cases fb with
 | false =>
  have hz3 : z = 3 := Classical.byContradiction fun h => by have := hf.2 h; cases this
  have HZ3 := Lib.hid hz3
  clear hf hr hH hk2 HU1 lk hz3 HF
  go_wp2_with fail
  go_ret2
  exact ⟨none, 0, m2, ⟨fun h => absurd HZ3.out h, fun _ => rfl⟩, HH2.out, HK2.out⟩
 | true =>
  have hz3 : z ≠ 3 := hf.1 rfl
  have HZ3 := Lib.hid hz3
  obtain ⟨hs, hO, hln, hel⟩ := hr rfl
  obtain ⟨gr, cr, rfl, hob, hgr, hHo, hcr⟩ := hO.holds (by have := HPP.out; omega)
  have hcap : hs.length ≤ cr := by
   obtain ⟨A', c', e, h⟩ := hO.sl
   cases e
   exact h
  have HRV := prev_c gr 0 cr hs.toArray w2 hHo (by simp; have := HPL.out; omega)
  rw [show hs.toArray.size = hs.length by simp] at HRV
  have HRV := Lib.hid HRV
  have HHO := Lib.hid hHo
  have HEL := Lib.hid hel
  have HLN := Lib.hid hln
  have HCP := Lib.hid hcap
  have HGR := Lib.hid hgr
  have HCR := Lib.hid hcr
  clear hf hr hH hk2 HU1 lk hz3 HF hO hln hel hob hgr hHo hcr hcap
  go_wp2_with fail
  refine HRV.out.mono ?_
  rintro e X6 ⟨rfl, nn, hX6⟩
  have hk6 : Keep (fun i => i = gr) w2 X6 := by rw [hX6]; exact keep_putRow16 _ _ _ _
  have hh6 : Holds encHd X6 gr 0 hs.toArray.reverse := by rw [hX6]; exact holds_putRow encHd _ gr 0 hs.toArray _ (holds_ahead encHd w2 nn gr 0 _ HHO.out) (by simp)
  have HPS : Hid (PS19 X6 (some ⟨gr, 0, none⟩) ps.reverse) := fun i l hi => by
   have hil : i < ps.length := by have := (List.getElem?_eq_some_iff.1 hi).1; rwa [List.length_reverse] at this
   rw [List.getElem?_reverse hil] at hi
   obtain ⟨h, e, he⟩ := HEL.out _ l hi
   have hh := (hh6 i (by simp [HLN.out]; omega)).1
   have hrev : hs.toArray.reverse[i]! = h := by
    have h2 : hs.toArray.reverse[i]? = some h := by
     rw [List.reverse_toArray, List.getElem?_toArray, List.getElem?_reverse (by rw [HLN.out]; omega), HLN.out]
     exact e
    rw [getElem!_def, h2]
   rw [hrev, Nat.zero_add] at hh
   refine ⟨gr, 0, _, rfl, by rw [Nat.zero_add]; exact hh, h.1, h.2.2, by unfold encHd; rw [he.len], ?_, he.cap⟩
   refine he.ba.keepB hk6 fun a ha e2 => ?_
   obtain ⟨_, cs, f3⟩ := he.blk a ha
   obtain ⟨cs2, f4⟩ := HCR.out
   have e2 : a.block = gr := e2
   rw [e2, f4] at f3
   cases f3
  have HK6 : Hid (Keep (fun i => i = b) w X6) := HK2.out.step hk6 fun i hi => .inr (by have e : i = gr := hi; have := HGR.out; omega)
  have HH6 := Lib.hid (HH2.out.keep hk6 (by have := HGR.out; have := HBN.out; show ¬ (b = gr); omega))
  obtain ⟨N, hN⟩ : ∃ N, N = hs.length := ⟨_, rfl⟩
  rw [← hN] at HCP ⊢
  have HLE : Hid (N = ps.reverse.length) := by show _ = _; rw [hN, HLN.out, List.length_reverse]
  clear hX6 hk6 hh6 HRV hN
  go_wp2_with fail
  go_ret2
  exact ⟨some ⟨gr, 0, none⟩, cr, m2, ⟨fun _ => ⟨by rw [← HLE.out]; rfl, HPS.out, by rw [← HLE.out]; exact HCP.out⟩, fun h => absurd h HZ3.out⟩, HH6.out, HK6.out⟩
theorem ppreBad19_c (w : World) (b : Nat) (n : Int) (m : Nat) (l : List It) (A : Option Addr) (c : Nat) (k : List UInt8) (hh : Hs w b n m) (hA : IA w A l) (hc : l.length ≤ c) (hl : l.length ≤ 1200) (h0 : chkI l ≠ 0) :
  Calls Tryz.prog 26 #[ptr b, .slice A l.length c, .agg (bA k)] w fun e w' => ∃ A' c' m', e = .returned (.tuple #[.slice A' 0 c', .int .i64 (chkI l)]) ∧ Hs w' b n m' ∧ Keep (fun i => i = b) w w' := by
 obtain ⟨X, hX⟩ : ∃ X, X = w.alloc (.cells (bA k) 39) := ⟨_, rfl⟩
 have hB : Below w.heap.size w X := by rw [hX]; exact Bt.one_below _ _
 have HX := Lib.hid hX
 have HB := Lib.hid hB
 have HHW := Lib.hid hh
 have HRD := Lib.hid (read_bad l A c X (hA.below hB) hc (by omega) h0)
 obtain ⟨z, hz⟩ : ∃ z, z = chkI l := ⟨_, rfl⟩
 rw [← hz] at HRD h0 ⊢
 have e0 : (z != 0) = true := by simpa using h0
 obtain ⟨M, hM⟩ : ∃ M, M = l.length := ⟨_, rfl⟩
 rw [← hM] at HRD ⊢
 clear hX hB hh hA hc hl hM hz h0
 unfold ptr at *
 go_enter Tryz.func26, Tryz.ntmps26
 go_wp2_with fail
 rw [← HX.out]
 refine HRD.out.mono ?_
 rintro _ w2 ⟨rfl, hb1⟩
 have HB1 := Lib.hid (HB.out.trans (hb1.mono HB.out.size))
 clear hb1 HRD
 go_wp2_with fail
 go_ret2
 exact ⟨none, 0, m, rfl, HHW.out.keep (Keep.of_below (L := fun _ => False) HB1.out) id, Keep.of_below HB1.out⟩
end
section
open Go.RowKit
theorem mu_c : MuV Mn where
 keys := fun w ks A c hA _ hn => pkeys19_c w ks A c hA hn
 check := fun w l A c hA hc hl => pchk19_c w l A c hA hc hl
 prove := fun w b n m l T ks B cb hh hm hv hM hT hl hK hcb hkl h0 => pprove19_c nd_c w b n m l T ks B cb hh hm hv hM hT hl hK hcb hkl h0
 proveBad := fun w b n m _ T ks B cb hh _ _ hM _ hK _ hkl h0 => pproveBad19_c nd_c w b n m T ks B cb hh hM hK hkl h0
 root := fun w b n m t A c hh hm hv ht hA hc hl => proot19_c w b n m t A c hh hm hv ht hA hc hl
 rootBad := fun w b n m l A c hh _ _ hA hc hl h0 => prootBad19_c w b n m l A c hh hA hc hl h0
 ends := fun w t ks A B c cb ht hA hc hl hK hcb hkl h0 hf => (pends_of w t ks A B c cb ht hA hc hl hK hcb hkl h0).mono fun _ _ ⟨A', c', ⟨h1, _⟩, hb⟩ => ⟨A', c', (h1 hf).1, (h1 hf).2.1, (h1 hf).2.2, hb⟩
 endsBad := fun w l ks A B c cb hA hc hl hK _ hkl h0 => pendsBad_c w l ks A B c cb hA hc hl hK hkl h0
 endsNot := fun w t ks A B c cb ht hA hc hl hK hcb hkl h0 hf => (pends_of w t ks A B c cb ht hA hc hl hK hcb hkl h0).mono fun _ _ ⟨A', c', ⟨_, h1⟩, hb⟩ => ⟨A', c', h1 hf, hb⟩
 pre := fun w b n m t A c k hh hm hv ht hA hc hl hk hf => (ppre19_of w b n m t A c k hh hm hv ht hA hc hl hk).mono fun _ _ ⟨A', c', m', ⟨h1, _⟩, h2, h3⟩ => ⟨A', c', m', (h1 hf).1, (h1 hf).2.1, (h1 hf).2.2, h2, h3⟩
 preNot := fun w b n m t A c k hh hm hv ht hA hc hl hk hf => (ppre19_of w b n m t A c k hh hm hv ht hA hc hl hk).mono fun _ _ ⟨A', c', m', ⟨_, h1⟩, h2, h3⟩ => ⟨A', c', m', h1 hf, h2, h3⟩
 preBad := fun w b n m l A c k hh _ _ hA hc hl _ h0 => ppreBad19_c w b n m l A c k hh hA hc hl h0
end
end Go.Proofs.YtmfbhohjpkmllaaGreatDoor
