import Derived.Test.YtmfbhohjpkmllaaGreatDoorEt
import Derived.Test.YtmfbhohjpkmllaaGreatDoorLM
import Derived.Test.YtmfbhohjpkmllaaGreatDoorM3
namespace Go.Proofs.YtmfbhohjpkmllaaGreatDoor
set_option linter.unusedSimpArgs false
set_option linter.unusedVariables false
set_option maxHeartbeats 8000000
set_option maxRecDepth 100000
section
open Go.RowKit
structure En where
 k : List UInt8
 A : Option Addr
 v : List UInt8
 c : Nat
def En.ent (e : En) : Ent := ⟨e.k, e.v⟩
instance : Inhabited En := ⟨⟨[], none, [], 0⟩⟩
def enC (e : En) : List Value := e.k.map bv ++ [.slice e.A e.v.length e.c]
structure EnOk (w : World) (e : En) : Prop where
 key : e.k.length = 32
 cap : e.v.length ≤ e.c
 val : BA w e.A e.v
theorem EnOk.below {w w' : World} {e : En} (h : EnOk w e) (hb : Below w.heap.size w w') : EnOk w' e := ⟨h.key, h.cap, h.val.below hb⟩
theorem enC_len {e : En} (h : e.k.length = 32) : (enC e).length = 33 := by simp [enC, h]
theorem enC_one (e : En) : ∀ v ∈ enC e, v.oneCell' = true := fun v hv => by
 rcases List.mem_append.1 hv with h | h
 ·obtain ⟨x, _, rfl⟩ := List.mem_map.1 h
  rfl
 ·rw [List.mem_singleton.1 h]
  rfl
def EA (w : World) (A : Option Addr) (es : List En) : Prop := ∀ i e, es[i]? = some e → EnOk w e ∧ ∃ g o, A = some ⟨g, o, none⟩ ∧ w.rangeAt g (o + i * 33) (enC e)
theorem range_below {w w' : World} {g o : Nat} {cs : List Value} (h : w.rangeAt g o cs) (hb : Below w.heap.size w w') : w'.rangeAt g o cs := fun j v hv => by
 have h1 := h j v hv
 rw [hb.cell (lt_of_cell h1)]
 exact h1
theorem EA.below {w w' : World} {A : Option Addr} {es : List En} (h : EA w A es) (hb : Below w.heap.size w w') : EA w' A es := fun i e hi => by
 obtain ⟨h1, g, o, rfl, h2⟩ := h i e hi
 exact ⟨h1.below hb, g, o, rfl, range_below h2 hb⟩
theorem range_key {w : World} {g o : Nat} {e : En} (h : w.rangeAt g o (enC e)) (hk : e.k.length = 32) : ldA 39 w (.pointer (some ⟨g, o, none⟩)) = .ok (.value (.agg (bA e.k))) w := by
 have := ldA_of (t := 39) (w := w) (b := g) (o := o) (cs := e.k.map bv) (fun j v hv => h j v (by
  unfold enC
  rw [List.getElem?_append_left (List.getElem?_eq_some_iff.1 hv).1]
  exact hv)) Tryz.underlying39 (by rw [List.length_map, hk]; exact infoKey)
 exact this
theorem range_val {w : World} {g o : Nat} {e : En} (h : w.rangeAt g o (enC e)) (hk : e.k.length = 32) : w.cell? ⟨g, o + 32, none⟩ = some (.slice e.A e.v.length e.c) :=
 h 32 _ (by
  unfold enC
  rw [List.getElem?_append_right (by simp [hk])]
  simp [hk])
theorem infoEntry : (Tryz.prog.info? 80).map (·.size) = some 33 := by kernel_rfl
@[go_sem ↓] theorem execOp_loadEntry (ρ : Operand → Value) (dst : Option Tmp) (x : Operand) (type : TypeId) (pos : String) (after : Array Edge) (guard : Option (Nat × Bool)) (w : World) :
  Sem.run Tryz.prog (execOp ρ { dst, op := .load 80 x, type, pos, after, guard }) w = ldA 80 w (ρ x) := rfl
@[go_sem ↓] theorem execOp_buildEntry (ρ : Operand → Value) (dst : Option Tmp) (parts : Array (Nat × Operand)) (type : TypeId) (pos : String) (after : Array Edge) (guard : Option (Nat × Bool)) (w : World) :
  Sem.run Tryz.prog (execOp ρ { dst, op := .build 80 parts, type, pos, after, guard }) w = bldA 80 w (parts.map fun x => (x.1, ρ x.2)) := rfl
theorem range_ent {w : World} {g o : Nat} {e : En} (h : w.rangeAt g o (enC e)) (hk : e.k.length = 32) : ldA 80 w (.pointer (some ⟨g, o, none⟩)) = .ok (.value (.agg (enC e).toArray)) w := by
 unfold ldA
 rw [Sem.run_bind, run_loadAt_mid (P := Tryz.prog) w g o 80 (enC e) _ h Tryz.underlying80 rfl (by rw [enC_len hk]; exact infoEntry)]
 simp [Sem.run_pure, Result.andThen_ok]
theorem bldEntry_f (f : Nat → UInt8) (A : Option Addr) (n c : Nat) (w : World) : bldA 80 w #[(0, .agg (bA ((List.range 32).map f))), (1, .slice A n c)] = .ok (.value (.agg (((List.range 32).map f).map bv ++ [Value.slice A n c]).toArray)) w := by kernel_rfl
theorem bldEntry (e : En) (hk : e.k.length = 32) (w : World) : bldA 80 w #[(0, .agg (bA e.k)), (1, .slice e.A e.v.length e.c)] = .ok (.value (.agg (enC e).toArray)) w := by
 have := bldEntry_f (fun j => e.k.getD j 0) e.A e.v.length e.c w
 rw [← list32 e.k hk] at this
 exact this
noncomputable def bsE (w : World) (n : Nat) (parts : Array (Nat × Value)) : Result Next := Sem.run Tryz.prog (do pure (.value (← Instr.buildSlice 22 n parts))) w
@[go_sem ↓] theorem execOp_build_ents (ρ : Operand → Value) (dst : Option Tmp) (n : Nat) (parts : Array (Nat × Operand)) (type : TypeId) (pos : String) (after : Array Edge) (guard : Option (Nat × Bool)) (w : World) :
  Sem.run Tryz.prog (execOp ρ { dst, op := .buildSlice 22 n parts, type, pos, after, guard }) w = bsE w n (parts.map fun x => (x.1, ρ x.2)) := rfl
theorem bsE_f (f : Nat → UInt8) (A : Option Addr) (n c : Nat) (w : World) : bsE w 1 #[(0, .agg (((List.range 32).map f).map bv ++ [Value.slice A n c]).toArray)] = .ok (.value (.slice (some ⟨w.heap.size, 0, none⟩) 1 1)) (w.alloc (.cells (((List.range 32).map f).map bv ++ [Value.slice A n c]).toArray 80)) := by kernel_rfl
theorem bsE_one (e : En) (hk : e.k.length = 32) (w : World) : bsE w 1 #[(0, .agg (enC e).toArray)] = .ok (.value (.slice (some ⟨w.heap.size, 0, none⟩) 1 1)) (w.alloc (.cells (enC e).toArray 80)) := by
 have := bsE_f (fun j => e.k.getD j 0) e.A e.v.length e.c w
 rw [← list32 e.k hk] at this
 exact this
def OwnE (w : World) (B : Nat) (v : Value) (es : List En) : Prop := w.ownsRow B 80 33 v es.length (es.flatMap enC)
theorem OwnE.nil (w : World) (B : Nat) : OwnE w B (.slice none 0 0) [] := ⟨rfl, .inl ⟨rfl, rfl⟩⟩
theorem OwnE.below {w w' : World} {B : Nat} {v : Value} {es : List En} (h : OwnE w B v es) (hb : Below w.heap.size w w') : OwnE w' B v es := by
 obtain ⟨h0, h | ⟨g, cap, cur, rfl, hg, hh, hr⟩⟩ := h
 ·exact ⟨h0, .inl h⟩
 ·exact ⟨h0, .inr ⟨g, cap, cur, rfl, hg, by rw [hb.block g (lt_of_heap hh)]; exact hh, hr⟩⟩
theorem OwnE.ge {w : World} {B : Nat} {v : Value} {es : List En} (h : OwnE w B v es) : ∀ k, v.ownBlock = some k → B ≤ k := fun k hk => by
 obtain ⟨_, h | ⟨g, cap, cur, rfl, hg, _⟩⟩ := h
 ·obtain ⟨rfl, _⟩ := h; simp [Value.ownBlock] at hk
 ·simp [Value.ownBlock] at hk; omega
theorem OwnE.mono {w : World} {B B' : Nat} {v : Value} {es : List En} (h : OwnE w B v es) (hB : B' ≤ B) : OwnE w B' v es := by
 obtain ⟨h0, h | ⟨g, cap, cur, rfl, hg, hr⟩⟩ := h
 ·exact ⟨h0, .inl h⟩
 ·exact ⟨h0, .inr ⟨g, cap, cur, rfl, by omega, hr⟩⟩
theorem OwnE.len {w : World} {B : Nat} {v : Value} {es : List En} (h : OwnE w B v es) : ∃ A c, v = .slice A es.length c ∧ es.length ≤ c := by
 obtain ⟨_, ⟨rfl, h⟩ | ⟨g, cap, cur, rfl, _, _, h, _⟩⟩ := h
 ·exact ⟨none, 0, by rw [h], by omega⟩
 ·exact ⟨_, _, rfl, h⟩
theorem flat_at {es : List En} (hes : ∀ e ∈ es, e.k.length = 32) {i : Nat} {e : En} (hi : es[i]? = some e) {j : Nat} {v : Value} (hv : (enC e)[j]? = some v) : (es.flatMap enC)[i * 33 + j]? = some v := by
 induction es generalizing i with
 | nil => simp at hi
 | cons x r ih =>
  have hx : (enC x).length = 33 := enC_len (hes x (by simp))
  rw [List.flatMap_cons]
  cases i with
  | zero =>
   simp at hi
   subst hi
   rw [Nat.zero_mul, Nat.zero_add, List.getElem?_append_left (List.getElem?_eq_some_iff.1 hv).1]
   exact hv
  | succ i =>
   rw [List.getElem?_append_right (by rw [hx]; omega), hx, show (i + 1) * 33 + j - 33 = i * 33 + j by omega]
   exact ih (fun y hy => hes y (by simp [hy])) hi
theorem OwnE.ea {w : World} {B : Nat} {v : Value} {es : List En} (h : OwnE w B v es) (hes : ∀ e ∈ es, EnOk w e) : ∃ A c, v = .slice A es.length c ∧ es.length ≤ c ∧ EA w A es := by
 obtain ⟨h0, ⟨rfl, h⟩ | ⟨g, cap, cur, rfl, hg, hh, hn, hc, hs, ht⟩⟩ := h
 ·exact ⟨none, 0, by rw [h], by omega, fun i e hi => by
   have : es = [] := List.length_eq_zero_iff.1 h
   subst this; simp at hi⟩
 ·refine ⟨_, cap, rfl, hn, fun i e hi => ⟨hes e (List.mem_of_getElem? hi), g, 0, rfl, fun j x hx => ?_⟩⟩
  have h1 := flat_at (fun e he => (hes e he).key) hi hx
  have hlt := (List.getElem?_eq_some_iff.1 h1).1
  rw [h0] at hlt
  rw [Nat.zero_add, cell_of_cells hh, ← Array.getElem?_toList, ← h1, ← ht, List.getElem?_take, if_pos hlt]
theorem infoE3 : (Tryz.prog.info? 80).map (fun i => (i.zero, i.size, i.bytes)) = some (some (.agg (((List.range 32).map fun _ => (0 : UInt8)).map bv ++ [Value.slice none 0 0]).toArray), 33, 56) := by kernel_rfl
theorem wpList_pushE {ops : Array Oper} {rest : List Oper} {o : Oper} {a : Act} {w : World} {Q : Exit → Act → World → Prop} (hgd : o.guard = none) (s x : Operand)
  (ho : o.op = .call { callee := .builtin .append, args := #[s, x], argTypes := #[22, 22] }) (B : Nat) (v : Value) (es : List En) (hs : a.eval s = v) (hown : OwnE w B v es) (g : Nat) (e : En) (hk : e.k.length = 32)
  (hx : a.eval x = .slice (some ⟨g, 0, none⟩) 1 1) (hr : w.rangeAt g 0 (enC e)) (hl : es.length ≤ 1000000) (hB : B ≤ w.heap.size)
  (h : ∀ v' w', OwnE w' B v' (es ++ [e]) → Below B w w' → wpList Tryz.prog ops Q rest (a.put o.dst v') w') : wpList Tryz.prog ops Q (o :: rest) a w := by
 obtain ⟨i0, hi, hz0, hz1, hz2⟩ := info_parts infoE3
 refine wpList_append_own (w := w) hgd s x 22 ho B 80 i0 _ 33 56 Tryz.underlying22 hi hz0 hz1 hz2 rfl (by decide) v es.length (es.flatMap enC) hs hown ⟨g, 0, none⟩ 1 1 (enC e) hx (by rw [enC_len hk])
  (fun j u hj => ?_) (fun u hu => enC_one e u hu) (by unfold maxLen; omega) (by omega) hB fun v' w' h1 h2 _ => h v' w' ?_ ?_
 ·have := hr j u hj
  rwa [show (⟨g, 0, none⟩ : Addr).add j = ⟨g, 0 + j, none⟩ from add_none g 0 j]
 ·unfold OwnE
  rw [List.flatMap_append, List.length_append]
  simpa using h1
 ·exact (Below.refl _ _).grown h2 hB hown.ge
end
section
open Go.RowKit
theorem bA_key (l : List UInt8) (h : l.length = 32) : bA l = Bt.kc (keyF l) := by
 apply Array.toList_inj.1
 refine List.ext_getElem (by simp [bA, Bt.kc, h]) fun j h1 h2 => ?_
 have h3 : j < l.length := by simpa [bA] using h1
 simp [bA, Bt.kc, keyF, bv, List.getD_eq_getElem?_getD, h3]
theorem bitK_c (k : List UInt8) (hk : k.length = 32) (d : Int) (w : World) : Calls Tryz.prog 49 #[.agg (bA k), .int .i64 d] w fun e w' => e = .returned (.int .i64 (bitK k d)) ∧ Below w.heap.size w w' := by
 rw [bA_key k hk]
 exact Bt.rbit_c (keyF k) (keyF_byt k) d w
theorem cmpK_c (a b : List UInt8) (ha : a.length = 32) (hb : b.length = 32) (w : World) : Calls Tryz.prog 66 #[.agg (bA a), .agg (bA b)] w fun e w' => e = .returned (.int .i64 (cmpK a b)) ∧ Below w.heap.size w w' := by
 rw [bA_key a ha, bA_key b hb]
 exact Bt.rcompare_c (keyF a) (keyF b) w
theorem cmpK_range (a b : List UInt8) : cmpK a b = -1 ∨ cmpK a b = 0 ∨ cmpK a b = 1 := by
 unfold cmpK
 rcases Bt.first_byte (a := keyF a) (b := keyF b) with h | ⟨m, h1, h2, h3⟩
 ·rw [Bt.cmp_eq h]; omega
 ·rw [Bt.cmp_at h1 h2 h3]; split <;> omega
end
section
open Go.RowKit
theorem take_some {α : Type} {l : List α} {k : Nat} {x : α} (h : l[k]? = some x) : l.take (k + 1) = l.take k ++ [x] := by
 rw [List.take_add_one, h]
 rfl
theorem filter_yes {l : List En} {p : En → Bool} {k : Nat} {x : En} (h : l[k]? = some x) (hp : p x = true) : (l.take (k + 1)).filter p = (l.take k).filter p ++ [x] := by
 rw [take_some h, List.filter_append]
 simp [hp]
theorem filter_no {l : List En} {p : En → Bool} {k : Nat} {x : En} (h : l[k]? = some x) (hp : p x = false) : (l.take (k + 1)).filter p = (l.take k).filter p := by
 rw [take_some h, List.filter_append]
 simp [hp]
theorem filter_le (l : List En) (p : En → Bool) (k : Nat) : ((l.take k).filter p).length ≤ l.length := Nat.le_trans (List.length_filter_le _ _) (by rw [List.length_take]; omega)
theorem ent_made (w : World) (e : En) (t : TypeId) : (w.alloc (.cells (enC e).toArray t)).rangeAt w.heap.size 0 (enC e) := fun j v hv => by
 rw [Nat.zero_add, cell_of_cells (heap_alloc_new w _)]
 simpa using hv
def partE (es : List En) (d b : Int) : List En := es.filter fun e => decide (bitK e.k d = b)
theorem part7_c (A : Option Addr) (c : Nat) (es : List En) (d b : Int) (w : World) (hA : EA w A es) (hn : es.length ≤ 100000) :
  Calls Tryz.prog 43 #[.slice A es.length c, .int .i64 d, .int .i64 b] w fun e w' => ∃ v, e = .returned v ∧ OwnE w' w.heap.size v (partE es d b) ∧ Below w.heap.size w w' := by
 have HA := Lib.hid hA
 clear hA
 go_enter Tryz.func43, Tryz.ntmps43
 go_wp2_with fail
 go_loopg [7, 8] es.length (fun gg out i wr => ∃ k : Nat, i = .int .i64 k ∧ k ≤ es.length ∧ es.length - k = gg ∧ OwnE wr w.heap.size out (partE (es.take k) d b) ∧ Below w.heap.size w wr)
 case atStart => exact ⟨0, rfl, by omega, by omega, OwnE.nil _ _, Below.refl _ _⟩
 case round =>
  obtain ⟨k, rfl, hk, rfl, hO, hB⟩ := hrel
  have HO := Lib.hid hO
  have HB := Lib.hid hB
  obtain ⟨A3, c3, rfl, hc3⟩ := hO.len
  have hln : (partE (es.take k) d b).length ≤ es.length := filter_le es _ k
  obtain ⟨N, hN⟩ : ∃ N, N = (partE (es.take k) d b).length := ⟨_, rfl⟩
  rw [← hN] at HO hln ⊢
  have HN := Lib.hid hN
  clear hO hB hc3 hN
  by_cases hlt : k < es.length
  ·have hd : decide (k < es.length) = true := decide_eq_true hlt
   obtain ⟨e, he⟩ : ∃ e, es[k]? = some e := ⟨_, List.getElem?_eq_getElem hlt⟩
   obtain ⟨hok, g, o, rfl, hr⟩ := HA.out k e he
   have HR := Lib.hid (range_below hr HB.out)
   have lk := range_key HR.out hok.key
   have HKL := Lib.hid hok.key
   have HE := Lib.hid he
   have p0 : (0 : Int) ≤ (k : Int) := by omega
   have p1 : (k : Int) < (es.length : Int) := by omega
   clear he hok hr
   go_wp2_with fail
   refine (bitK_c e.k HKL.out d wr).mono ?_
   rintro _ w2 ⟨rfl, hb⟩
   have HB2 := Lib.hid (HB.out.trans (hb.mono HB.out.size))
   have HR2 := Lib.hid (range_below HR.out hb)
   have HO2 := Lib.hid (HO.out.below hb)
   have le := range_ent HR2.out HKL.out
   obtain ⟨q, hq⟩ : ∃ q, q = bitK e.k d := ⟨_, rfl⟩
   rw [← hq]
   clear hb lk
   by_cases hqb : q = b
   ·have hp : decide (bitK e.k d = b) = true := decide_eq_true (by rw [← hq]; exact hqb)
    have e1 : (q == b) = true := beq_iff_eq.2 hqb
    have HF : Hid (partE (es.take (k + 1)) d b = partE (es.take k) d b ++ [e]) := filter_yes HE.out hp
    have bs := bsE_one e HKL.out
    clear hq hqb hp
    go_wp2_with (at_builtin; refine wpList_pushE rfl _ _ rfl w.heap.size _ (partE (es.take k) d b) rfl (OwnE.below HO2.out ((Below.refl _ _).alloc (Nat.le_refl _) _)) w2.heap.size e HKL.out rfl (ent_made w2 e _) (by rw [← HN.out]; omega) (by have := HB2.out.size; simp; omega) ?_; intro v4 w4 hO4 hB4; have HO4 := Lib.hid hO4; have HB4 := Lib.hid ((HB2.out.alloc HB2.out.size _).trans hB4); clear hO4 hB4)
    go_roundg (es.length - (k + 1))
    case measure => omega
    case rel => exact ⟨k + 1, by go_num, by omega, rfl, by rw [HF.out]; exact HO4.out, HB4.out⟩
   ·have hp : decide (bitK e.k d = b) = false := decide_eq_false (by rw [← hq]; exact hqb)
    have e1 : (q == b) = false := beq_eq_false_iff_ne.2 hqb
    have HF : Hid (partE (es.take (k + 1)) d b = partE (es.take k) d b) := filter_no HE.out hp
    clear hq hqb hp le
    go_wp2_with fail
    go_roundg (es.length - (k + 1))
    case measure => omega
    case rel => exact ⟨k + 1, by go_num, by omega, rfl, by rw [HF.out, HN.out] at *; exact HO2.out, HB2.out⟩
  ·obtain rfl : k = es.length := by omega
   have hd : decide (es.length < es.length) = false := decide_eq_false (by omega)
   have HOf : Hid (OwnE wr w.heap.size (.slice A3 N c3) (partE es d b)) := by
    have := HO.out
    rw [List.take_length] at this
    exact this
   go_wp2_with fail
   go_ret
   exact ⟨_, rfl, HOf.out, HB.out⟩
end
section
open Go.RowKit
def rmE (es : List En) (k : List UInt8) : List En := es.filter fun e => !decide (e.k = k)
theorem remove7_c (A : Option Addr) (c : Nat) (es : List En) (k : List UInt8) (w : World) (hA : EA w A es) (hn : es.length ≤ 100000) (hk : k.length = 32) :
  Calls Tryz.prog 83 #[.slice A es.length c, .agg (bA k)] w fun e w' => ∃ v, e = .returned v ∧ OwnE w' (w.heap.size + 1) v (rmE es k) ∧ Below w.heap.size w w' := by
 obtain ⟨X, hX⟩ : ∃ X, X = w.alloc (.cells (bA k) 39) := ⟨_, rfl⟩
 have HX := Lib.hid hX
 have hb0 : Below w.heap.size w X := by rw [hX]; exact (Below.refl _ _).alloc (Nat.le_refl _) _
 have hsz : X.heap.size = w.heap.size + 1 := by rw [hX]; simp
 have hrow : X.heap[w.heap.size]? = some (.cells (bA k) 39 (0, 0)) := by rw [hX]; exact heap_alloc_new w _
 have HB0 := Lib.hid hb0
 have HSZ := Lib.hid hsz
 have HRW := Lib.hid hrow
 have HA := Lib.hid (hA.below hb0)
 have HK := Lib.hid hk
 clear hA hX hb0 hsz hrow hk
 go_enter Tryz.func83, Tryz.ntmps83
 go_wp2_with fail
 rw [← HX.out]
 clear HX
 go_loopg [5, 6] es.length (fun gg out i wr => ∃ m : Nat, i = .int .i64 m ∧ m ≤ es.length ∧ es.length - m = gg ∧ OwnE wr X.heap.size out (rmE (es.take m) k) ∧ Below X.heap.size X wr)
 case atStart => exact ⟨0, rfl, by omega, by omega, OwnE.nil _ _, Below.refl _ _⟩
 case round =>
  obtain ⟨m, rfl, hm, rfl, hO, hB⟩ := hrel
  have HO := Lib.hid hO
  have HB := Lib.hid hB
  obtain ⟨A3, c3, rfl, hc3⟩ := hO.len
  have hln : (rmE (es.take m) k).length ≤ es.length := filter_le es _ m
  obtain ⟨N, hN⟩ : ∃ N, N = (rmE (es.take m) k).length := ⟨_, rfl⟩
  rw [← hN] at HO hln ⊢
  have HN := Lib.hid hN
  clear hO hB hc3 hN
  by_cases hlt : m < es.length
  ·have hd : decide (m < es.length) = true := decide_eq_true hlt
   obtain ⟨e, he⟩ : ∃ e, es[m]? = some e := ⟨_, List.getElem?_eq_getElem hlt⟩
   obtain ⟨hok, g, o, rfl, hr⟩ := HA.out m e he
   have HR := Lib.hid (range_below hr HB.out)
   have HKL := Lib.hid hok.key
   have HE := Lib.hid he
   have lk : ∀ n, ldA 39 (wr.drewN n) (.pointer (some ⟨g, o + m * 33, none⟩)) = .ok (.value (.agg (bA e.k))) (wr.drewN n) := fun n => range_key (w := wr.drewN n) HR.out HKL.out
   have hrk : wr.heap[w.heap.size]? = some (.cells (bA k) 39 (0, 0)) := (Keep.of_below (L := fun _ => False) HB.out).heap HRW.out fun h => h
   have lb : ∀ n, ldA 39 (wr.drewN n) (.pointer (some ⟨w.heap.size, 0, none⟩)) = .ok (.value (.agg (bA k))) (wr.drewN n) := fun n => ldA_row (w := wr.drewN n) hrk Tryz.underlying39 (by rw [bA_size, HK.out]; exact infoKey)
   have le : ∀ n, ldA 80 (wr.drewN n) (.pointer (some ⟨g, o + m * 33, none⟩)) = .ok (.value (.agg (enC e).toArray)) (wr.drewN n) := fun n => range_ent (w := wr.drewN n) HR.out HKL.out
   have p0 : (0 : Int) ≤ (m : Int) := by omega
   have p1 : (m : Int) < (es.length : Int) := by omega
   clear he hok hr hrk
   by_cases hq : e.k = k
   ·have hp : (!decide (e.k = k)) = false := by rw [decide_eq_true hq]; rfl
    have ne : ∀ x y w, eqA .neq 39 x y w (.agg (bA e.k)) (.agg (bA k)) = .ok (.value (.bool false)) w := fun x y w => by rw [neKey e.k k HKL.out HK.out, hp]
    have HF : Hid (rmE (es.take (m + 1)) k = rmE (es.take m) k) := filter_no HE.out hp
    have HOn : Hid (∀ n, OwnE (wr.drewN n) X.heap.size (.slice A3 N c3) (rmE (es.take m) k)) := fun _ => HO.out
    clear hq hp
    go_wp2_with fail
    go_quiet (fail)
    clear le lk lb ne
    go_wp2_with fail
    go_roundg (es.length - (m + 1))
    case measure => omega
    case rel => exact ⟨m + 1, by go_num, by omega, rfl, by rw [HF.out]; exact HOn.out _, below_drewN HB.out _⟩
   ·have hp : (!decide (e.k = k)) = true := by rw [decide_eq_false hq]; rfl
    have ne : ∀ x y w, eqA .neq 39 x y w (.agg (bA e.k)) (.agg (bA k)) = .ok (.value (.bool true)) w := fun x y w => by rw [neKey e.k k HKL.out HK.out, hp]
    have HF : Hid (rmE (es.take (m + 1)) k = rmE (es.take m) k ++ [e]) := filter_yes HE.out hp
    have bs := bsE_one e HKL.out
    clear hq hp
    go_wp2_with fail
    go_quiet (fail)
    obtain ⟨w2, hw2⟩ : ∃ x, x = wr.drewN nq := ⟨_, rfl⟩
    have HB2 : Hid (Below X.heap.size X w2) := by show Below _ _ _; rw [hw2]; exact below_drewN HB.out _
    have HO2 : Hid (OwnE w2 X.heap.size (.slice A3 N c3) (rmE (es.take m) k)) := by show OwnE _ _ _ _; rw [hw2]; exact HO.out
    have le2 := le nq
    rw [← hw2] at le2 ⊢
    clear le lk lb ne hw2
    go_wp2_with (at_builtin; refine wpList_pushE rfl _ _ rfl X.heap.size _ (rmE (es.take m) k) rfl (OwnE.below HO2.out ((Below.refl _ _).alloc (Nat.le_refl _) _)) w2.heap.size e HKL.out rfl (ent_made w2 e _) (by rw [← HN.out]; omega) (by have := HB2.out.size; simp; omega) ?_; intro v4 w4 hO4 hB4; have HO4 := Lib.hid hO4; have HB4 := Lib.hid ((HB2.out.alloc HB2.out.size _).trans hB4); clear hO4 hB4)
    go_roundg (es.length - (m + 1))
    case measure => omega
    case rel => exact ⟨m + 1, by go_num, by omega, rfl, by rw [HF.out]; exact HO4.out, HB4.out⟩
  ·obtain rfl : m = es.length := by omega
   have hd : decide (es.length < es.length) = false := decide_eq_false (by omega)
   have HOf : Hid (OwnE wr (w.heap.size + 1) (.slice A3 N c3) (rmE es k)) := by
    have := HO.out
    rw [List.take_length, HSZ.out] at this
    exact this
   have HBf : Hid (Below w.heap.size w wr) := HB0.out.trans (HB.out.mono HB0.out.size)
   go_wp2_with fail
   go_ret
   exact ⟨_, rfl, HOf.out, HBf.out⟩
theorem few_no_len {es : List En} (h : 12 < es.length) : fewK (es.map En.ent) = false := by
 unfold fewK
 rw [List.length_map, decide_eq_false (by omega)]
 rfl
theorem few_no_at {es : List En} {k : Nat} {e : En} (he : es[k]? = some e) (h : 200 < e.v.length) : fewK (es.map En.ent) = false := by
 unfold fewK
 rw [Bool.and_eq_false_iff]
 right
 rw [List.all_eq_false]
 refine ⟨e.ent, List.mem_map.2 ⟨e, List.mem_of_getElem? he, rfl⟩, fun hh => ?_⟩
 have h2 : e.v.length ≤ 200 := of_decide_eq_true hh
 omega
theorem few_yes {es : List En} (h : es.length ≤ 12) (hv : ∀ j e, j < es.length → es[j]? = some e → e.v.length ≤ 200) : fewK (es.map En.ent) = true := by
 unfold fewK
 rw [List.length_map, decide_eq_true h, Bool.true_and, List.all_eq_true]
 intro x hx
 obtain ⟨e, he, rfl⟩ := List.mem_map.1 hx
 obtain ⟨j, hj, rfl⟩ := List.getElem_of_mem he
 exact decide_eq_true (hv j _ hj (List.getElem?_eq_getElem hj))
theorem few7_c (A : Option Addr) (c : Nat) (es : List En) (w : World) (hA : EA w A es) :
  Calls Tryz.prog 33 #[.slice A es.length c] w fun e w' => e = .returned (.bool (fewK (es.map En.ent))) ∧ w = w' := by
 have HA := Lib.hid hA
 clear hA
 rcases Nat.lt_or_ge 12 es.length with hl | hl
 ·have HF := Lib.hid (few_no_len hl)
  have d1 : decide (12 < es.length) = true := decide_eq_true hl
  have d2 : decide (12 < (es.length : Int)) = true := decide_eq_true (by omega)
  go_enter Tryz.func33, Tryz.ntmps33
  go_wp2_with fail
  go_ret
  exact ⟨ret_bool HF.out.symm, rfl⟩
 ·have d1 : decide (12 < es.length) = false := decide_eq_false (by omega)
  have d2 : decide (12 < (es.length : Int)) = false := decide_eq_false (by omega)
  go_enter Tryz.func33, Tryz.ntmps33
  go_wp2_with fail
  go_loopg [3] es.length (fun gg i wr => ∃ k : Nat, i = .int .i64 k ∧ k ≤ es.length ∧ es.length - k = gg ∧ Hid (∀ j e, j < k → es[j]? = some e → e.v.length ≤ 200) ∧ Hid (w = wr))
  case atStart => exact ⟨0, rfl, by omega, by omega, fun j e hj => absurd hj (Nat.not_lt_zero j), rfl⟩
  case round =>
   obtain ⟨k, rfl, hk, rfl, HV, HW⟩ := hrel
   by_cases hlt : k < es.length
   ·have hd : decide (k < es.length) = true := decide_eq_true hlt
    obtain ⟨e, he⟩ : ∃ e, es[k]? = some e := ⟨_, List.getElem?_eq_getElem hlt⟩
    obtain ⟨hok, g, o, rfl, hr⟩ := HA.out k e he
    have lv : wr.cell? ⟨g, o + k * 33 + 32, none⟩ = some (.slice e.A e.v.length e.c) := by rw [← HW.out]; exact range_val hr hok.key
    have HE := Lib.hid he
    have p0 : (0 : Int) ≤ (k : Int) := by omega
    have p1 : (k : Int) < (es.length : Int) := by omega
    clear he hok hr
    by_cases hv : 200 < e.v.length
    ·have HF := Lib.hid (few_no_at HE.out hv)
     have e1 : decide (200 < e.v.length) = true := decide_eq_true hv
     have e2 : decide (200 < (e.v.length : Int)) = true := decide_eq_true (by omega)
     go_wp2_with fail
     go_ret
     exact ⟨ret_bool HF.out.symm, HW.out⟩
    ·have e1 : decide (200 < e.v.length) = false := decide_eq_false hv
     have e2 : decide (200 < (e.v.length : Int)) = false := decide_eq_false (by omega)
     go_wp2_with fail
     go_roundg (es.length - (k + 1))
     case measure => omega
     case rel =>
      refine ⟨k + 1, by go_num, by omega, rfl, fun j x hj hx => ?_, HW⟩
      rcases Nat.lt_or_ge j k with h | h
      ·exact HV.out j x h hx
      ·obtain rfl : j = k := by omega
       obtain rfl : e = x := Option.some.inj (HE.out.symm.trans hx)
       omega
   ·obtain rfl : k = es.length := by omega
    have hd : decide (es.length < es.length) = false := decide_eq_false (by omega)
    have HF := Lib.hid (few_yes hl fun j e h => HV.out j e h)
    go_wp2_with fail
    go_ret
    exact ⟨ret_bool HF.out.symm, HW.out⟩
end
section
open Go.RowKit
def insE (e : En) : List En → List En
 | [] => [e]
 | x :: r => if cmpK e.k x.k < 0 then e :: x :: r else x :: insE e r
def putE (l : List En) (e : En) : List En := insE e (rmE l e.k)
theorem insE_split (e : En) : ∀ l, (∀ x ∈ l, ¬ cmpK e.k x.k < 0) → insE e l = l ++ [e]
 | [], _ => rfl
 | x :: r, h => by
  show (if _ then _ else _) = _
  rw [if_neg (h x (by simp)), insE_split e r fun y hy => h y (by simp [hy])]
  rfl
theorem insE_at (e : En) : ∀ (l : List En) (x : En) (r : List En), (∀ y ∈ l, ¬ cmpK e.k y.k < 0) → cmpK e.k x.k < 0 → insE e (l ++ x :: r) = l ++ e :: x :: r
 | [], x, r, _, hx => by
  show (if _ then _ else _) = _
  rw [if_pos hx]
  rfl
 | y :: l, x, r, h, hx => by
  show (if _ then _ else _) = _
  rw [if_neg (h y (by simp))]
  show y :: insE e (l ++ x :: r) = _
  rw [insE_at e l x r (fun z hz => h z (by simp [hz])) hx]
  rfl
theorem insE_snoc (e x : En) : ∀ l : List En, (∃ y ∈ l, cmpK e.k y.k < 0) → insE e (l ++ [x]) = insE e l ++ [x]
 | [], ⟨y, hy, _⟩ => by simp at hy
 | z :: r, ⟨y, hy, hl⟩ => by
  show (if _ then _ else _) = (if _ then _ else _ : List En) ++ [x]
  by_cases hz : cmpK e.k z.k < 0
  ·rw [if_pos hz, if_pos hz]; rfl
  ·rw [if_neg hz, if_neg hz]
   show z :: insE e (r ++ [x]) = _
   rw [insE_snoc e x r ⟨y, by
    rcases List.mem_cons.1 hy with rfl | h
    ·exact absurd hl hz
    ·exact h, hl⟩]
   rfl
theorem insE_len (e : En) : ∀ l, (insE e l).length = l.length + 1
 | [] => rfl
 | x :: r => by
  show (if _ then _ else _ : List En).length = _
  split
  ·rfl
  ·rw [List.length_cons, insE_len e r, List.length_cons]
theorem insE_mem (e y : En) : ∀ l, y ∈ insE e l ↔ y = e ∨ y ∈ l
 | [] => by simp [insE]
 | x :: r => by
  show y ∈ (if _ then _ else _ : List En) ↔ _
  split
  ·simp
  ·rw [List.mem_cons, insE_mem e y r, List.mem_cons]
   constructor
   ·rintro (h | h | h)
    ·exact .inr (.inl h)
    ·exact .inl h
    ·exact .inr (.inr h)
   ·rintro (h | h | h)
    ·exact .inr (.inl h)
    ·exact .inl h
    ·exact .inr (.inr h)
theorem insE_ent (e : En) : ∀ l : List En, (insE e l).map En.ent = insK e.ent (l.map En.ent)
 | [] => rfl
 | x :: r => by
  show (if _ then _ else _ : List En).map En.ent = (if cmpK e.k x.k < 0 then _ else _ : List Ent)
  split
  ·rfl
  ·rw [List.map_cons, insE_ent e r]
theorem rmE_ent (l : List En) (k : List UInt8) : (rmE l k).map En.ent = rmK (l.map En.ent) k := by
 unfold rmE rmK
 rw [List.filter_map]
 rfl
theorem putE_ent (l : List En) (e : En) : (putE l e).map En.ent = putK (l.map En.ent) e.ent := by
 unfold putE putK
 rw [insE_ent, rmE_ent]
 rfl
theorem rmE_len (l : List En) (k : List UInt8) : (rmE l k).length ≤ l.length := List.length_filter_le _ _
theorem putE_len (l : List En) (e : En) : (putE l e).length ≤ l.length + 1 := by
 unfold putE
 rw [insE_len]
 have := rmE_len l e.k
 omega
theorem putE_mem {l : List En} {e y : En} (h : y ∈ putE l e) : y = e ∨ y ∈ l := by
 rcases (insE_mem e y _).1 h with h | h
 ·exact .inl h
 ·exact .inr (List.mem_filter.1 h).1
theorem EA.mem {w : World} {A : Option Addr} {es : List En} (h : EA w A es) : ∀ e ∈ es, EnOk w e := fun e he => by
 obtain ⟨j, hj, rfl⟩ := List.getElem_of_mem he
 exact (h j _ (List.getElem?_eq_getElem hj)).1
theorem rmE_ok {w : World} {es : List En} {k : List UInt8} (h : ∀ e ∈ es, EnOk w e) : ∀ e ∈ rmE es k, EnOk w e := fun e he => h e (List.mem_filter.1 he).1
def PutSt (done : Value) (e : En) (l out : List En) : Prop :=
 (done = .bool false ∧ out = l ∧ ∀ x ∈ l, ¬ cmpK e.k x.k < 0) ∨ (done = .bool true ∧ out = insE e l ∧ ∃ y ∈ l, cmpK e.k y.k < 0)
theorem PutSt.len {d : Value} {e : En} {l out : List En} (h : PutSt d e l out) : out.length ≤ l.length + 1 := by
 rcases h with ⟨_, rfl, _⟩ | ⟨_, rfl, _⟩
 ·omega
 ·rw [insE_len]; omega
theorem put7_c (A : Option Addr) (c : Nat) (es : List En) (e : En) (w : World) (hA : EA w A es) (hn : es.length ≤ 100000) (he : EnOk w e) :
  Calls Tryz.prog 58 #[.slice A es.length c, .agg (bA e.k), .slice e.A e.v.length e.c] w fun x w' => ∃ v, x = .returned v ∧ OwnE w' w.heap.size v (putE es e) ∧ Below w.heap.size w w' := by
 obtain ⟨X, hX⟩ : ∃ X, X = w.alloc (.cells (bA e.k) 39) := ⟨_, rfl⟩
 have hb0 : Below w.heap.size w X := by rw [hX]; exact (Below.refl _ _).alloc (Nat.le_refl _) _
 have hsz : X.heap.size = w.heap.size + 1 := by rw [hX]; simp
 have hrow : X.heap[w.heap.size]? = some (.cells (bA e.k) 39 (0, 0)) := by rw [hX]; exact heap_alloc_new w _
 have HX := Lib.hid hX
 have HB0 := Lib.hid hb0
 have HSZ := Lib.hid hsz
 have HRW := Lib.hid hrow
 have HA := Lib.hid (hA.below hb0)
 have HK := Lib.hid he.key
 have lk0 : ldA 39 X (.pointer (some ⟨w.heap.size, 0, none⟩)) = .ok (.value (.agg (bA e.k))) X := ldA_row hrow Tryz.underlying39 (by rw [bA_size, HK.out]; exact infoKey)
 clear hA hX hb0 hsz hrow he
 go_enter Tryz.func58, Tryz.ntmps58
 go_wp2_with fail
 rw [← HX.out, lk0]
 go_wp2_with fail
 refine (remove7_c A c es e.k X HA.out hn HK.out).mono ?_
 rintro _ wR ⟨vR, rfl, hOR, hBR⟩
 obtain ⟨AR, cR, rfl, hcR, hER⟩ := hOR.ea (rmE_ok fun y hy => (HA.out.mem y hy).below hBR)
 have hlR := rmE_len es e.k
 obtain ⟨R, hR⟩ : ∃ R, R = rmE es e.k := ⟨_, rfl⟩
 rw [← hR] at hOR hER hlR hcR ⊢
 have HR := Lib.hid hR
 have HER := Lib.hid hER
 have HBR := Lib.hid hBR
 have HRW2 := Lib.hid ((Keep.of_below (L := fun _ => False) hBR).heap HRW.out fun h => h)
 clear hOR hER hBR hR HX lk0 hcR
 go_wp2_with fail
 go_loopg [7, 8, 10] R.length (fun gg out done i wr => ∃ (m : Nat) (O : List En), i = .int .i64 m ∧ m ≤ R.length ∧ R.length - m = gg ∧ PutSt done e (R.take m) O ∧ OwnE wr wR.heap.size out O ∧ Below wR.heap.size wR wr)
 case atStart => exact ⟨0, [], rfl, by omega, by omega, .inl ⟨rfl, rfl, fun x hx => by simp at hx⟩, OwnE.nil _ _, Below.refl _ _⟩
 case round =>
  obtain ⟨m, O, rfl, hm, rfl, hS, hO, hB⟩ := hrel
  have HS := Lib.hid hS
  have HO := Lib.hid hO
  have HB := Lib.hid hB
  obtain ⟨A3, c3, rfl, hc3⟩ := hO.len
  have hlO : O.length ≤ 100001 := by
   have h1 := hS.len
   rw [List.length_take] at h1
   omega
  have HLO := Lib.hid hlO
  clear hO hB hc3 hS hlO
  by_cases hlt : m < R.length
  ·have hd : decide (m < R.length) = true := decide_eq_true hlt
   obtain ⟨y, hy⟩ : ∃ y, R[m]? = some y := ⟨_, List.getElem?_eq_getElem hlt⟩
   obtain ⟨hok, g, o, rfl, hr⟩ := HER.out m y hy
   have HRR := Lib.hid hr
   have HR1 := Lib.hid (range_below hr HB.out)
   have HKL := Lib.hid hok.key
   have HT : Hid (R.take (m + 1) = R.take m ++ [y]) := take_some hy
   have HRW3 := Lib.hid ((Keep.of_below (L := fun _ => False) HB.out).heap HRW2.out fun h => h)
   have la : ∀ x : Later wr, ldA 39 x.w (.pointer (some ⟨w.heap.size, 0, none⟩)) = .ok (.value (.agg (bA e.k))) x.w := fun x => ldA_row (x.block HRW3.out) Tryz.underlying39 (by rw [bA_size, HK.out]; exact infoKey)
   have lb : ∀ x : Later wr, ldA 39 x.w (.pointer (some ⟨g, o + m * 33, none⟩)) = .ok (.value (.agg (bA y.k))) x.w := fun x => range_key (range_below HR1.out x.h) HKL.out
   have le : ∀ x : Later wr, ldA 80 x.w (.pointer (some ⟨g, o + m * 33, none⟩)) = .ok (.value (.agg (enC y).toArray)) x.w := fun x => range_ent (range_below HR1.out x.h) HKL.out
   have p0 : (0 : Int) ≤ (m : Int) := by omega
   have p1 : (m : Int) < (R.length : Int) := by omega
   have be := bldEntry e HK.out
   have bs := bsE_one e HK.out
   have bt := bsE_one y HKL.out
   clear hok hr hy
   rcases HS.out with ⟨rfl, rfl, hall⟩ | ⟨rfl, rfl, hex⟩
   ·have HALL := Lib.hid hall
    clear hall HS
    obtain ⟨N, hN⟩ : ∃ N, N = (R.take m).length := ⟨_, rfl⟩
    rw [← hN] at HO HLO ⊢
    have HN := Lib.hid hN
    clear hN
    by_cases hq : cmpK e.k y.k < 0
    ·have e1 : decide (cmpK e.k y.k < 0) = true := decide_eq_true hq
     have HF : Hid (insE e (R.take (m + 1)) = R.take m ++ [e] ++ [y]) := by
      show insE e (R.take (m + 1)) = _
      rw [HT.out, insE_at e _ y [] HALL.out hq, List.append_assoc]
      rfl
     have HEX : Hid (∃ z ∈ R.take (m + 1), cmpK e.k z.k < 0) := ⟨y, by rw [HT.out]; simp, hq⟩
     clear hq
     go_wp2_with fail
     refine wp_region_later (by kernel_rfl) (by kernel_rfl) ?_
     repeat (go_big_quiet_step ((go_at_call 66; exact Later.call (cmpK_c _ _ HK.out HKL.out _))))
     refine wpQuiet_nil ?_
     rintro _ ⟨x, rfl⟩
     have Hx : Hid (Below wR.heap.size wR x.w) := HB.out.trans (x.h.mono HB.out.size)
     have HOx := Lib.hid (OwnE.below HO.out x.h)
     have la1 := la x
     have le1 := le x
     clear la lb le
     go_wp2_with (first | (at_builtin; refine wpList_pushE rfl _ _ rfl wR.heap.size _ (R.take m) rfl (OwnE.below HOx.out ((Below.refl _ _).alloc (Nat.le_refl _) _)) x.w.heap.size e HK.out rfl (ent_made x.w e _) (by have := HLO.out; rw [← HN.out]; omega) (by have := Hx.out.size; simp; omega) ?_; intro v4 w4 hO4 hB4; have HO4 := Lib.hid hO4; have HB4 := Lib.hid ((Hx.out.alloc Hx.out.size _).trans hB4); have le4 := range_ent (w := w4) (range_below HRR.out HB4.out) HKL.out; clear hO4 hB4) | (at_builtin; refine wpList_pushE rfl _ _ rfl wR.heap.size _ (R.take m ++ [e]) rfl (OwnE.below HO4.out ((Below.refl _ _).alloc (Nat.le_refl _) _)) w4.heap.size y HKL.out rfl (ent_made w4 y _) (by have := HLO.out; rw [List.length_append, ← HN.out]; simp; omega) (by have := HB4.out.size; simp; omega) ?_; intro v6 w6 hO6 hB6; have HO6 := Lib.hid hO6; have HB6 := Lib.hid ((HB4.out.alloc HB4.out.size _).trans hB6); clear hO6 hB6))
     go_roundg (R.length - (m + 1))
     case measure => omega
     case rel => exact ⟨m + 1, _, by go_num, by omega, rfl, .inr ⟨rfl, HF.out.symm, HEX.out⟩, HO6.out, HB6.out⟩
    ·have e1 : decide (cmpK e.k y.k < 0) = false := decide_eq_false hq
     have HALL2 : Hid (∀ z ∈ R.take (m + 1), ¬ cmpK e.k z.k < 0) := by
      show ∀ z ∈ R.take (m + 1), _
      rw [HT.out]
      intro z hz
      rcases List.mem_append.1 hz with h | h
      ·exact HALL.out z h
      ·rw [List.mem_singleton.1 h]; exact hq
     clear hq
     go_wp2_with fail
     refine wp_region_later (by kernel_rfl) (by kernel_rfl) ?_
     repeat (go_big_quiet_step ((go_at_call 66; exact Later.call (cmpK_c _ _ HK.out HKL.out _))))
     refine wpQuiet_nil ?_
     rintro _ ⟨x, rfl⟩
     have Hx : Hid (Below wR.heap.size wR x.w) := HB.out.trans (x.h.mono HB.out.size)
     have HOx := Lib.hid (OwnE.below HO.out x.h)
     have la1 := la x
     have le1 := le x
     clear la lb le la1 be bs
     go_wp2_with (at_builtin; refine wpList_pushE rfl _ _ rfl wR.heap.size _ (R.take m) rfl (OwnE.below HOx.out ((Below.refl _ _).alloc (Nat.le_refl _) _)) x.w.heap.size y HKL.out rfl (ent_made x.w y _) (by have := HLO.out; rw [← HN.out]; omega) (by have := Hx.out.size; simp; omega) ?_; intro v6 w6 hO6 hB6; have HO6 := Lib.hid hO6; have HB6 := Lib.hid ((Hx.out.alloc Hx.out.size _).trans hB6); clear hO6 hB6)
     go_roundg (R.length - (m + 1))
     case measure => omega
     case rel => exact ⟨m + 1, _, by go_num, by omega, rfl, .inl ⟨rfl, HT.out.symm, fun z hz hh => absurd (HALL2.out z hz) (by omega)⟩, HO6.out, HB6.out⟩
   ·have HEX := Lib.hid hex
    have HF : Hid (insE e (R.take (m + 1)) = insE e (R.take m) ++ [y]) := by
     show insE e (R.take (m + 1)) = _
     rw [HT.out, insE_snoc e y _ HEX.out]
    have HEX2 : Hid (∃ z ∈ R.take (m + 1), cmpK e.k z.k < 0) := by
     obtain ⟨z, h1, h2⟩ := HEX.out
     exact ⟨z, by rw [HT.out]; simp [h1], h2⟩
    clear hex HS
    go_wp2_with fail
    refine wp_region_later (by kernel_rfl) (by kernel_rfl) ?_
    repeat (go_big_quiet_step ((go_at_call 66; exact Later.call (cmpK_c _ _ HK.out HKL.out _))))
    refine wpQuiet_nil ?_
    rintro _ ⟨x, rfl⟩
    have Hx : Hid (Below wR.heap.size wR x.w) := HB.out.trans (x.h.mono HB.out.size)
    have HOx := Lib.hid (OwnE.below HO.out x.h)
    have la1 := la x
    have le1 := le x
    clear la lb le la1 be bs
    go_wp2_with (at_builtin; refine wpList_pushE rfl _ _ rfl wR.heap.size _ (insE e (R.take m)) rfl (OwnE.below HOx.out ((Below.refl _ _).alloc (Nat.le_refl _) _)) x.w.heap.size y HKL.out rfl (ent_made x.w y _) (by have := HLO.out; omega) (by have := Hx.out.size; simp; omega) ?_; intro v6 w6 hO6 hB6; have HO6 := Lib.hid hO6; have HB6 := Lib.hid ((Hx.out.alloc Hx.out.size _).trans hB6); clear hO6 hB6)
    go_roundg (R.length - (m + 1))
    case measure => omega
    case rel => exact ⟨m + 1, _, by go_num, by omega, rfl, .inr ⟨rfl, HF.out.symm, HEX2.out⟩, HO6.out, HB6.out⟩
  ·obtain rfl : m = R.length := by omega
   have hd : decide (R.length < R.length) = false := decide_eq_false (by omega)
   have HOF := Lib.hid HO.out
   rw [List.take_length] at HS
   have HSZR : Hid (w.heap.size ≤ wR.heap.size) := by show _ ≤ _; have h1 := HSZ.out; have h2 := HBR.out.size; omega
   have HBW : Hid (Below w.heap.size w wr) := HB0.out.trans ((HBR.out.mono HB0.out.size).trans (HB.out.mono HSZR.out))
   have be := bldEntry e HK.out
   have bs := bsE_one e HK.out
   have HRW3 := Lib.hid ((Keep.of_below (L := fun _ => False) HB.out).heap HRW2.out fun h => h)
   have la : ldA 39 wr (.pointer (some ⟨w.heap.size, 0, none⟩)) = .ok (.value (.agg (bA e.k))) wr := ldA_row HRW3.out Tryz.underlying39 (by rw [bA_size, HK.out]; exact infoKey)
   rcases HS.out with ⟨rfl, rfl, hall⟩ | ⟨rfl, rfl, hex⟩
   ·have HF : Hid (putE es e = O ++ [e]) := by show insE e (rmE es e.k) = _; rw [← HR.out, insE_split e _ hall]
    clear hall HS
    go_wp2_with (at_builtin; refine wpList_pushE rfl _ _ rfl wR.heap.size _ O rfl (OwnE.below HO.out ((Below.refl _ _).alloc (Nat.le_refl _) _)) wr.heap.size e HK.out rfl (ent_made wr e _) (by have := HLO.out; omega) (by have := HB.out.size; simp; omega) ?_; intro v6 w6 hO6 hB6; have HO6 := Lib.hid hO6; have HB6 := Lib.hid ((HB.out.alloc HB.out.size _).trans hB6); clear hO6 hB6)
    go_ret
    exact ⟨_, rfl, by rw [HF.out]; exact HO6.out.mono HSZR.out, HB0.out.trans ((HBR.out.mono HB0.out.size).trans (HB6.out.mono HSZR.out))⟩
   ·have HF : Hid (putE es e = insE e R) := by show insE e (rmE es e.k) = _; rw [← HR.out]
    clear hex HS
    go_wp2_with fail
    go_ret
    exact ⟨_, rfl, by rw [HF.out]; exact HOF.out.mono HSZR.out, HBW.out⟩
end
section
open Go.RowKit
def ofE (es : List En) : List En := es.foldl putE []
theorem ofE_snoc (l : List En) (e : En) : ofE (l ++ [e]) = putE (ofE l) e := by
 unfold ofE
 rw [List.foldl_append]
 rfl
theorem foldE_mem : ∀ (l m : List En) (y : En), y ∈ l.foldl putE m → y ∈ m ∨ y ∈ l
 | [], m, y, h => .inl h
 | x :: r, m, y, h => by
  rcases foldE_mem r (putE m x) y h with h | h
  ·rcases putE_mem h with h | h
   ·exact .inr (by simp [h])
   ·exact .inl h
  ·exact .inr (by simp [h])
theorem foldE_len : ∀ (l m : List En), (l.foldl putE m).length ≤ m.length + l.length
 | [], m => by simp
 | x :: r, m => by
  have h1 := foldE_len r (putE m x)
  have h2 := putE_len m x
  rw [List.foldl_cons, List.length_cons]
  omega
theorem foldE_ent : ∀ (l m : List En), (l.foldl putE m).map En.ent = (l.map En.ent).foldl putK (m.map En.ent)
 | [], m => rfl
 | x :: r, m => by
  rw [List.foldl_cons, foldE_ent r, putE_ent]
  rfl
theorem ofE_mem {l : List En} {y : En} (h : y ∈ ofE l) : y ∈ l := by
 rcases foldE_mem l [] y h with h | h
 ·simp at h
 ·exact h
theorem ofE_len (l : List En) : (ofE l).length ≤ l.length := by
 have h := foldE_len l []
 rw [List.length_nil, Nat.zero_add] at h
 exact h
theorem ofE_ent (l : List En) : (ofE l).map En.ent = ofK (l.map En.ent) := foldE_ent l []
theorem of7_c (A : Option Addr) (c : Nat) (es : List En) (w : World) (hA : EA w A es) (hn : es.length ≤ 100000) :
  Calls Tryz.prog 34 #[.slice A es.length c] w fun x w' => ∃ v, x = .returned v ∧ OwnE w' w.heap.size v (ofE es) ∧ Below w.heap.size w w' := by
 have HA := Lib.hid hA
 clear hA
 go_enter Tryz.func34, Tryz.ntmps34
 go_wp2_with fail
 go_loopg [3, 4] es.length (fun gg out i wr => ∃ m : Nat, i = .int .i64 m ∧ m ≤ es.length ∧ es.length - m = gg ∧ OwnE wr w.heap.size out (ofE (es.take m)) ∧ Below w.heap.size w wr)
 case atStart => exact ⟨0, rfl, by omega, by omega, OwnE.nil _ _, Below.refl _ _⟩
 case round =>
  obtain ⟨m, rfl, hm, rfl, hO, hB⟩ := hrel
  have hok1 : ∀ y ∈ ofE (es.take m), EnOk wr y := fun y hy => (HA.out.mem y (List.mem_of_mem_take (ofE_mem hy))).below hB
  obtain ⟨A3, c3, rfl, hc3, hE3⟩ := hO.ea hok1
  have hl3 := ofE_len (es.take m)
  rw [List.length_take] at hl3
  obtain ⟨O, hOO⟩ : ∃ O, O = ofE (es.take m) := ⟨_, rfl⟩
  rw [← hOO] at hO hE3 hl3 hc3 ⊢
  have HOO := Lib.hid hOO
  have HO := Lib.hid hO
  have HB := Lib.hid hB
  have HE3 := Lib.hid hE3
  have HL3 := Lib.hid hl3
  clear hO hB hE3 hok1 hOO hc3 hl3
  by_cases hlt : m < es.length
  ·have hd : decide (m < es.length) = true := decide_eq_true hlt
   obtain ⟨y, hy⟩ : ∃ y, es[m]? = some y := ⟨_, List.getElem?_eq_getElem hlt⟩
   obtain ⟨hok, g, o, rfl, hr⟩ := HA.out m y hy
   have HT : Hid (ofE (es.take (m + 1)) = putE O y) := by
    show ofE (es.take (m + 1)) = _
    rw [take_some hy, ofE_snoc, ← HOO.out]
   have HOK := Lib.hid (hok.below HB.out)
   have hr1 := range_below hr HB.out
   have la : ∀ n, ldA 39 (wr.drewN n) (.pointer (some ⟨g, o + m * 33, none⟩)) = .ok (.value (.agg (bA y.k))) (wr.drewN n) := fun n => range_key (w := wr.drewN n) hr1 hok.key
   have lv : wr.cell? ⟨g, o + m * 33 + 32, none⟩ = some (.slice y.A y.v.length y.c) := range_val hr1 hok.key
   have p0 : (0 : Int) ≤ (m : Int) := by omega
   have p1 : (m : Int) < (es.length : Int) := by omega
   clear hok hr hr1 hy
   go_wp2_with fail
   refine wp_region_drawn_tail 11 (by kernel_rfl) (by kernel_rfl) ?_
   simp only [List.take_succ_cons, List.take_zero, List.drop_succ_cons, List.drop_zero]
   repeat (go_big_quiet_step (fail))
   refine wpQuiet_nil ?_
   rintro _ ⟨nq, rfl⟩
   go_wp2_with fail
   refine (put7_c A3 c3 O y (wr.drewN nq) (HE3.out.below (below_drewN (Below.refl _ _) nq)) (by have := HL3.out; omega) (HOK.out.below (below_drewN (Below.refl _ _) nq))).mono ?_
   rintro _ w2 ⟨v2, rfl, hO2, hB2⟩
   have HO2 := Lib.hid hO2
   have HB2 : Hid (Below wr.heap.size wr w2) := (below_drewN (Below.refl _ _) nq).trans hB2
   clear hO2 hB2 la lv
   go_wp2_with fail
   go_roundg (es.length - (m + 1))
   case measure => omega
   case rel => exact ⟨m + 1, by go_num, by omega, rfl, by rw [HT.out]; exact HO2.out.mono HB.out.size, HB.out.trans (HB2.out.mono HB.out.size)⟩
  ·obtain rfl : m = es.length := by omega
   have hd : decide (es.length < es.length) = false := decide_eq_false (by omega)
   have HOf : Hid (OwnE wr w.heap.size (.slice A3 O.length c3) (ofE es)) := by
    have h1 := HOO.out
    rw [List.take_length] at h1
    show OwnE _ _ _ _
    rw [← h1]
    exact HO.out
   clear HOO
   go_wp2_with fail
   go_ret
   exact ⟨_, rfl, HOf.out, HB.out⟩
end
end Go.Proofs.YtmfbhohjpkmllaaGreatDoor
