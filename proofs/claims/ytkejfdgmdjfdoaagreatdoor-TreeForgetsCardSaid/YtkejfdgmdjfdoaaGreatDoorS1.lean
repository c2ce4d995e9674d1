import Derived.Shelf.SlGeneric
import Derived.Shelf.SlSortCmp.WholeK
import Derived.Test.YtkejfdgmdjfdoaaGreatDoorProg
import Derived.Test.YtkejfdgmdjfdoaaGreatDoorM3
import Derived.Test.YtkejfdgmdjfdoaaGreatDoorM4
import Derived.Test.YtkejfdgmdjfdoaaGreatDoorML
import Derived.Shelf.SlSortCmp.NoneTotal
import Derived.Test.YtkejfdgmdjfdoaaGreatDoorT1
import Derived.Test.YtkejfdgmdjfdoaaGreatDoorM8
import Derived.Maps.OwnSet
import Derived.DeepKeys4
namespace Go.Proofs.YtkejfdgmdjfdoaaGreatDoor
set_option linter.unusedSimpArgs false
set_option linter.unusedVariables false
set_option maxRecDepth 100000
section
open Go.Shelf
def lsortP_ren : Go.Shelf.Ren := ⟨fun | 6 => 81 | 15 => 118 | 14 => 117 | 28 => 157 | 29 => 158 | 20 => 149 | 21 => 150 | 22 => 151 | 23 => 152 | 24 => 153 | 25 => 154 | 26 => 155 | 27 => 156 | 46 => 169 | 47 => 170 | 48 => 171 | 49 => 172 | 50 => 173 | 57 => 178 | n => n, fun | 22 => 110 | 24 => 154 | 25 => 156 | 3 => 3 | 39 => 211 | 0 => 0 | 53 => 234 | 55 => 266 | 4 => 4 | 46 => 258 | 45 => 257 | 50 => 262 | 5 => 5 | 9 => 9 | 66 => 277 | 70 => 281 | 76 => 284 | 77 => 82 | n => n, fun | n => n⟩
theorem lsortP : Go.Proofs.SlLaysF0.n6 Tryz.prog lsortP_ren := {
 mixed := by kernel_rfl
 f6 := ⟨Tryz.f81.name, by decide, Tryz.func81.trans (congrArg some (by kernel_rfl))⟩
 f14 := ⟨Tryz.f117.name, by decide, Tryz.func117.trans (congrArg some (by kernel_rfl))⟩
 f15 := Tryz.func118.trans (congrArg some (by kernel_rfl))
 f20 := ⟨Tryz.f149.name, by decide, Tryz.func149.trans (congrArg some (by kernel_rfl))⟩
 f21 := ⟨Tryz.f150.name, by decide, Tryz.func150.trans (congrArg some (by kernel_rfl))⟩
 f22 := ⟨Tryz.f151.name, by decide, Tryz.func151.trans (congrArg some (by kernel_rfl))⟩
 f23 := ⟨Tryz.f152.name, by decide, Tryz.func152.trans (congrArg some (by kernel_rfl))⟩
 f24 := ⟨Tryz.f153.name, by decide, Tryz.func153.trans (congrArg some (by kernel_rfl))⟩
 f25 := ⟨Tryz.f154.name, by decide, Tryz.func154.trans (congrArg some (by kernel_rfl))⟩
 f26 := ⟨Tryz.f155.name, by decide, Tryz.func155.trans (congrArg some (by kernel_rfl))⟩
 f27 := ⟨Tryz.f156.name, by decide, Tryz.func156.trans (congrArg some (by kernel_rfl))⟩
 f28 := Tryz.func157.trans (congrArg some (by kernel_rfl))
 f29 := Tryz.func158.trans (congrArg some (by kernel_rfl))
 f46 := ⟨Tryz.f169.name, by decide, Tryz.func169.trans (congrArg some (by kernel_rfl))⟩
 f47 := Tryz.func170.trans (congrArg some (by kernel_rfl))
 f48 := Tryz.func171.trans (congrArg some (by kernel_rfl))
 f49 := ⟨Tryz.f172.name, by decide, Tryz.func172.trans (congrArg some (by kernel_rfl))⟩
 f50 := ⟨Tryz.f173.name, by decide, Tryz.func173.trans (congrArg some (by kernel_rfl))⟩
 f57 := ⟨Tryz.f178.name, by decide, Tryz.func178.trans (congrArg some (by kernel_rfl))⟩
 t0 := Tryz.underlying0
 a0 := Tryz.isAgg0
 z0 := Tryz.sizeOf0
 v0 := Tryz.zeroValue0
 t3 := Tryz.underlying3
 a3 := Tryz.isAgg3
 z3 := Tryz.sizeOf3
 v3 := Tryz.zeroValue3
 t4 := Tryz.underlying4
 a4 := Tryz.isAgg4
 z4 := Tryz.sizeOf4
 v4 := Tryz.zeroValue4
 t5 := Tryz.underlying5
 a5 := Tryz.isAgg5
 z5 := Tryz.sizeOf5
 v5 := Tryz.zeroValue5
 t9 := Tryz.underlying9
 a9 := Tryz.isAgg9
 z9 := Tryz.sizeOf9
 v9 := Tryz.zeroValue9
 t22 := Tryz.underlying110
 a22 := Tryz.isAgg110
 z22 := Tryz.sizeOf110
 v22 := Tryz.zeroValue110
 t25 := Tryz.underlying156
 a25 := Tryz.isAgg156
 z25 := Tryz.sizeOf156
 v25 := Tryz.zeroValue156
 t39 := Tryz.underlying211
 a39 := Tryz.isAgg211
 z39 := Tryz.sizeOf211
 v39 := Tryz.zeroValue211
 t45 := Tryz.underlying257
 a45 := Tryz.isAgg257
 z45 := Tryz.sizeOf257
 v45 := Tryz.zeroValue257
 t46 := Tryz.underlying258
 a46 := Tryz.isAgg258
 z46 := Tryz.sizeOf258
 v46 := Tryz.zeroValue258
 t50 := Tryz.underlying262
 a50 := Tryz.isAgg262
 z50 := Tryz.sizeOf262
 v50 := Tryz.zeroValue262
 t53 := Tryz.underlying234
 a53 := Tryz.isAgg234
 z53 := Tryz.sizeOf234
 v53 := Tryz.zeroValue234
 t55 := Tryz.underlying266
 a55 := Tryz.isAgg266
 z55 := Tryz.sizeOf266
 v55 := Tryz.zeroValue266
 t66 := Tryz.underlying277
 a66 := Tryz.isAgg277
 z66 := Tryz.sizeOf277
 v66 := Tryz.zeroValue277
 t70 := Tryz.underlying281
 a70 := Tryz.isAgg281
 z70 := Tryz.sizeOf281
 v70 := Tryz.zeroValue281
 t76 := Tryz.underlying284
 a76 := Tryz.isAgg284
 z76 := Tryz.sizeOf284
 v76 := Tryz.zeroValue284
 t77 := Tryz.underlying82
 a77 := Tryz.isAgg82
 z77 := Tryz.sizeOf82
 v77 := Tryz.zeroValue82 }
end
section
open Go.RowKit
structure Pl where
 k : List UInt8
 i : Nat
 len : k.length = 32
instance : Inhabited Pl := ⟨⟨List.replicate 32 0, 0, by simp⟩⟩
def plC (p : Pl) : List Value := p.k.map bv ++ [.int .i64 (p.i : Int)]
theorem plC_len (p : Pl) : (plC p).length = 33 := by simp [plC, p.len]
theorem plC_one (p : Pl) : ∀ v ∈ plC p, v.oneCell' = true := fun v hv => by
 unfold plC at hv
 rcases List.mem_append.1 hv with h | h
 ·obtain ⟨x, _, rfl⟩ := List.mem_map.1 h
  rfl
 ·rw [List.mem_singleton.1 h]
  rfl
theorem flat_pl {l : List Pl} {i : Nat} {p : Pl} (hi : l[i]? = some p) {j : Nat} {v : Value} (hv : (plC p)[j]? = some v) : (l.flatMap plC)[i * 33 + j]? = some v := by
 induction l generalizing i with
 | nil => simp at hi
 | cons x r ih =>
  have hx : (plC x).length = 33 := plC_len x
  rw [List.flatMap_cons]
  cases i with
  | zero =>
   simp at hi
   subst hi
   rw [Nat.zero_mul, Nat.zero_add, List.getElem?_append_left (List.getElem?_eq_some_iff.1 hv).1]
   exact hv
  | succ i =>
   rw [List.getElem?_append_right (by rw [hx]; omega), hx, show (i + 1) * 33 + j - 33 = i * 33 + j by omega]
   exact ih hi
def OwnPl (w : World) (B : Nat) (v : Value) (l : List Pl) : Prop := w.ownsRow B 154 33 v l.length (l.flatMap plC)
theorem infoPl : (Tryz.prog.info? 154).map (fun i => (i.zero, i.size, i.bytes)) = some (some (.agg (((List.range 32).map fun _ => (0 : UInt8)).map bv ++ [Value.int .i64 0]).toArray), 33, 40) := by kernel_rfl
def mPl (n : Nat) : Array Value := madeCells (Value.agg (((List.range 32).map fun _ => (0 : UInt8)).map bv ++ [Value.int .i64 0]).toArray).cells (n * 33)
theorem make_pls (n : Nat) (hn : n ≤ 1000000) (w : World) : (Instr.makeSlice 110 (.int .i64 0) (.int .i64 (n : Int))).run Tryz.prog w = .ok (.slice (some ⟨w.heap.size, 0, none⟩) 0 n) (w.alloc (.cells (mPl n) 154)) := by
 obtain ⟨i, hi, hz, hs, hb⟩ := info_parts infoPl
 have hr := run_make (P := Tryz.prog) w 110 154 i _ Tryz.underlying110 hi hz .i64 .i64 0 (n : Int) (by omega) (by omega) (by rw [hb]; omega) (by omega)
 rw [Int.toNat_natCast, hs] at hr
 exact hr
theorem own_pls (w : World) (n : Nat) (hn : n ≤ 1000000) : OwnPl (w.alloc (.cells (mPl n) 154)) w.heap.size (.slice (some ⟨w.heap.size, 0, none⟩) 0 n) [] :=
 ⟨rfl, .inr ⟨w.heap.size, n, mPl n, rfl, Nat.le_refl _, heap_alloc_new w _, Nat.zero_le _, by unfold maxLen; omega, by unfold mPl; rw [size_madeCells], by simp⟩⟩
theorem wpList_pushPl {ops : Array Oper} {rest : List Oper} {o : Oper} {a : Act} {w : World} {Q : Exit → Act → World → Prop} (hgd : o.guard = none) (s x : Operand)
  (ho : o.op = .call { callee := .builtin .append, args := #[s, x], argTypes := #[110, 110] }) (B : Nat) (v : Value) (l : List Pl) (hs : a.eval s = v) (hown : OwnPl w B v l) (g : Nat) (p : Pl)
  (hx : a.eval x = .slice (some ⟨g, 0, none⟩) 1 1) (hr : w.rangeAt g 0 (plC p)) (hl : l.length ≤ 1000000) (hB : B ≤ w.heap.size)
  (h : ∀ v' w', OwnPl w' B v' (l ++ [p]) → Grown11 v v' w w' → wpList Tryz.prog ops Q rest (a.put o.dst v') w') : wpList Tryz.prog ops Q (o :: rest) a w := by
 obtain ⟨i0, hi, hz0, hz1, hz2⟩ := info_parts infoPl
 refine wpList_append_own_at (w := w) hgd s x 110 ho B 154 i0 _ 33 40 Tryz.underlying110 hi hz0 hz1 hz2 rfl (by decide) v l.length (l.flatMap plC) hs hown ⟨g, 0, none⟩ 1 1 (plC p) hx (by rw [plC_len])
  (fun j u hj => ?_) (fun u hu => plC_one p u hu) (by unfold maxLen; omega) (by omega) hB fun v' w' h1 h2 _ h4 => h v' w' ?_ ⟨h2, h4⟩
 ·have := hr j u hj
  rwa [show (⟨g, 0, none⟩ : Addr).add j = ⟨g, 0 + j, none⟩ from add_none g 0 j]
 ·unfold OwnPl
  rw [List.flatMap_append, List.length_append]
  simpa using h1
def PlA (w : World) (A : Option Addr) (l : List Pl) : Prop := ∀ i p, l[i]? = some p → ∃ g, A = some ⟨g, 0, none⟩ ∧ w.rangeAt g (i * 33) (plC p)
theorem PlA.below {w w' : World} {A : Option Addr} {l : List Pl} (h : PlA w A l) (hb : Below w.heap.size w w') : PlA w' A l := fun i p hi => by
 obtain ⟨g, rfl, h2⟩ := h i p hi
 exact ⟨g, rfl, range_below h2 hb⟩
theorem OwnPl.slice {w : World} {B : Nat} {v : Value} {l : List Pl} (h : OwnPl w B v l) : ∃ A c, v = .slice A l.length c := by
 obtain ⟨_, ⟨rfl, h⟩ | ⟨g, cap, cur, rfl, _⟩⟩ := h
 ·exact ⟨none, 0, by rw [h]⟩
 ·exact ⟨_, _, rfl⟩
def cfP (a b : Pl) : Int := cmpK a.k b.k
theorem cfP_lt {a b : Pl} (h : ltOf cfP a b = true) : LtB a.k b.k := LtB.of a.len b.len (of_decide_eq_true h)
theorem cfP_of {a b : Pl} (h : LtB a.k b.k) : ltOf cfP a b = true := decide_eq_true h.cmp
theorem swoP : Sort.SWO (ltOf cfP) where
 irrefl x := decide_eq_false (by show ¬ cmpK x.k x.k < 0; rw [cmpK_self]; decide)
 trans x y z h1 h2 := cfP_of ((cfP_lt h1).trans (cfP_lt h2))
 ntrans x y z h1 h2 := by
  refine decide_eq_false fun hc => ?_
  have hxz : LtB x.k z.k := LtB.of x.len z.len hc
  have n1 : ¬ cmpK x.k y.k < 0 := of_decide_eq_false h1
  have n2 : ¬ cmpK y.k z.k < 0 := of_decide_eq_false h2
  by_cases he : x.k = y.k
  ·rw [← he] at n2
   exact n2 hxz.cmp
  ·exact n2 ((LtB.or x.len y.len he n1).trans hxz).cmp
theorem OwnPl.holds {w : World} {B g cap : Nat} {l : List Pl} (h : OwnPl w B (.slice (some ⟨g, 0, none⟩) l.length cap) l) : Sort.HoldsK plC 33 w g 0 l.toArray := by
 obtain ⟨h0, ⟨h, _⟩ | ⟨g', cap', cur, e, hg, hh, hn, hc, hs, ht⟩⟩ := h
 ·cases h
 ·cases e
  intro j hj
  have hj' : j < l.length * 33 := by simpa using hj
  refine ⟨?_, frozen_of_row _ _ _ _ _ hh⟩
  rw [Sort.get_flatK _ _ _ _ (by simpa using hj')]
  have hl : j / 33 < l.length := by omega
  have e1 : l.toArray[j / 33]! = l[j / 33] := by rw [getElem!_pos _ _ (by simpa using hl)]; simp
  obtain ⟨v, hv⟩ : ∃ v, (plC l[j / 33])[j % 33]? = some v := ⟨_, List.getElem?_eq_getElem (show j % 33 < (plC l[j / 33]).length by rw [plC_len]; omega)⟩
  rw [e1, List.getElem!_eq_getElem?_getD, hv]
  have h1 := flat_pl (List.getElem?_eq_getElem hl) hv
  rw [show j / 33 * 33 + j % 33 = j by omega] at h1
  rw [Nat.zero_add, cell_of_cells hh, ← Array.getElem?_toList]
  have h2 : (cur.toList.take (l.length * 33))[j]? = some v := by rw [ht]; exact h1
  rw [List.getElem?_take_of_lt hj'] at h2
  exact h2
theorem pla_of_holds {w : World} {g : Nat} {d : Array Pl} (h : Sort.HoldsK plC 33 w g 0 d) : PlA w (some ⟨g, 0, none⟩) d.toList := fun i p hi => ⟨g, rfl, fun c v hv => by
 have hc : c < 33 := by
  rcases Nat.lt_or_ge c 33 with h | h
  ·exact h
  ·rw [List.getElem?_eq_none (by rw [plC_len]; exact h)] at hv; cases hv
 obtain ⟨hj, hk'⟩ := List.getElem?_eq_some_iff.1 hi
 have hj' : i < d.size := by simpa using hj
 have hlt : i * 33 + c < d.size * 33 := by omega
 have h1 := (h (i * 33 + c) (by simpa using hlt)).1
 rw [Sort.get_flatK _ _ _ _ hlt, show (i * 33 + c) / 33 = i by omega, show (i * 33 + c) % 33 = c by omega, getElem!_pos d i hj', show d[i] = p by simpa using hk', List.getElem!_eq_getElem?_getD, hv, Nat.zero_add] at h1
 exact h1⟩
theorem below_sortPl {w : World} {g n : Nat} {d : Array Pl} {os : Array Obj} {B : Nat} (hg : B ≤ g) (hB : B ≤ w.heap.size) : Below B w (sortWorldK plC 33 w g 0 n d os) := by
 refine ⟨rfl, rfl, rfl, by simp [sortWorldK, Sort.grow, Sort.putRowK, Sort.putRow, Sort.mapBlock, Sort.ahead], fun k hk => ?_⟩
 show ((Sort.putRowK plC 33 (Sort.ahead w n) g 0 d).heap ++ os)[k]? = _
 rw [Array.getElem?_append_left (by simp [Sort.putRowK, Sort.putRow, Sort.mapBlock, Sort.ahead]; omega)]
 simp [Sort.putRowK, Sort.putRow, Sort.mapBlock, Sort.ahead, Array.getElem?_modify, show g ≠ k by omega]
end
section
open Go.RowKit
theorem lastC_mem (k : List UInt8) : ∀ (cs : List Chg) (o : Option (List UInt8)) (c : Chg), (cs.map Chg.k).Pairwise (· ≠ ·) → c ∈ cs → c.k = k → lastC cs k o = if c.d then none else some c.v
 | [], _, _, _, h, _ => by cases h
 | x :: r, o, c, hp, h, hk => by
  rw [List.map_cons, List.pairwise_cons] at hp
  rcases List.mem_cons.1 h with rfl | h
  ·show lastC r k (if c.k = k then (if c.d then none else some c.v) else o) = _
   rw [if_pos hk]
   exact lastC_no k r _ fun y hy hyk => hp.1 y.k (List.mem_map.2 ⟨y, hy, rfl⟩) (hk.trans hyk.symm)
  ·exact lastC_mem k r _ c hp.2 h hk
theorem appC_permK {l : List Ent} {cs ds : List Chg} (ha : Asc l) (hl : Len32 l) (p : cs.Perm ds) (h32 : ∀ c ∈ cs, c.k.length = 32) (hne : (cs.map Chg.k).Pairwise (· ≠ ·)) : appC l cs = appC l ds := by
 have h32d : ∀ c ∈ ds, c.k.length = 32 := fun c hc => h32 c (p.mem_iff.2 hc)
 have hned : (ds.map Chg.k).Pairwise (· ≠ ·) := ((p.map Chg.k).pairwise_iff (fun h => Ne.symm h)).1 hne
 refine asc_ext (appC_keeps cs ha hl h32).1 (appC_keeps ds ha hl h32d).1 fun k => ?_
 rw [valK_app, valK_app]
 rcases Classical.em (∃ c ∈ cs, c.k = k) with ⟨c, hc, hk⟩ | hn
 ·rw [lastC_mem k cs _ c hne hc hk, lastC_mem k ds _ c hned (p.mem_iff.1 hc) hk]
 ·rw [lastC_no k cs _ fun c hc hk => hn ⟨c, hc, hk⟩, lastC_no k ds _ fun c hc hk => hn ⟨c, p.mem_iff.2 hc, hk⟩]
def Up.cut (u : Up) : Chg := ⟨u.k, u.val, u.d⟩
theorem stepC_cut (l : List Ent) (u : Up) : stepC l u.cut = stepC l u.chg := by
 unfold stepC Up.cut Up.chg Up.val
 cases u.d <;> rfl
theorem appC_cut : ∀ (us : List Up) (l : List Ent), appC l (us.map Up.cut) = appC l (us.map Up.chg)
 | [], _ => rfl
 | u :: r, l => by
  rw [List.map_cons, List.map_cons, appC_cons, appC_cons, stepC_cut, appC_cut r]
def chP (us : List Up) (p : Pl) : Chg := ((us[p.i]?).map Up.cut).getD ⟨[], [], false⟩
theorem chP_at {us : List Up} {p : Pl} {u : Up} (h : us[p.i]? = some u) : chP us p = u.cut := by unfold chP; rw [h]; rfl
structure Pls (us : List Up) (ps : List Pl) : Prop where
 idx : (ps.map Pl.i).Perm (List.range us.length)
 at_ : ∀ p ∈ ps, ∃ u, us[p.i]? = some u ∧ u.k = p.k
theorem Pls.perm {us : List Up} {ps qs : List Pl} (h : Pls us ps) (p : qs.Perm ps) : Pls us qs := ⟨(p.map Pl.i).trans h.idx, fun x hx => h.at_ x (p.mem_iff.1 hx)⟩
theorem Pls.chg {us : List Up} {ps : List Pl} (h : Pls us ps) : (ps.map (chP us)).Perm (us.map Up.cut) := by
 have h1 := h.idx.map fun i => ((us[i]?).map Up.cut).getD ⟨[], [], false⟩
 rw [List.map_map] at h1
 have h2 : (List.range us.length).map (fun i => ((us[i]?).map Up.cut).getD ⟨[], [], false⟩) = us.map Up.cut := by
  refine List.ext_getElem (by simp) fun i h3 h4 => ?_
  have h5 : i < us.length := by simpa using h4
  simp [List.getElem?_eq_getElem h5]
 rw [h2] at h1
 exact h1
theorem Pls.len {us : List Up} {ps : List Pl} (h : Pls us ps) : ps.length = us.length := by
 have := h.idx.length_eq
 simpa using this
theorem Pls.key {us : List Up} {ps : List Pl} (h : Pls us ps) {p : Pl} (hp : p ∈ ps) : (chP us p).k = p.k := by
 obtain ⟨u, hu, hk⟩ := h.at_ p hp
 rw [chP_at hu]
 exact hk
theorem Pls.app {us : List Up} {ps : List Pl} (h : Pls us ps) {l : List Ent} (ha : Asc l) (hl : Len32 l) (hne : (us.map Up.k).Pairwise (· ≠ ·)) (h32 : ∀ u ∈ us, u.k.length = 32) : appC l (ps.map (chP us)) = appU l us := by
 unfold appU
 rw [← appC_cut]
 refine (appC_permK ha hl h.chg.symm (fun c hc => ?_) ?_).symm
 ·obtain ⟨u, hu, rfl⟩ := List.mem_map.1 hc
  exact h32 u hu
 ·rw [List.map_map]
  exact hne
theorem Pls.asc {us : List Up} {ps : List Pl} (h : Pls us ps) (hne : (us.map Up.k).Pairwise (· ≠ ·)) (hs : ps.Pairwise fun a b => ¬ cmpK b.k a.k < 0) : AscS ((ps.map (chP us)).map Chg.k) := by
 have hk : (ps.map (chP us)).map Chg.k = ps.map Pl.k := by
  rw [List.map_map]
  exact List.map_congr_left fun p hp => h.key hp
 have hn : (ps.map Pl.k).Pairwise (· ≠ ·) := by
  rw [← hk]
  have h1 : ((us.map Up.cut).map Chg.k).Pairwise (· ≠ ·) := by rw [List.map_map]; exact hne
  exact ((h.chg.map Chg.k).symm.pairwise_iff (fun h => Ne.symm h)).1 h1
 rw [hk]
 unfold AscS
 rw [List.pairwise_map] at hn ⊢
 exact (hs.and hn).imp fun {a b} ⟨h1, h2⟩ => LtB.or b.len a.len (fun e => h2 e.symm) h1
theorem pls_made {us : List Up} {ps : List Pl} (hl : ps.length = us.length) (h : ∀ (i : Nat) (p : Pl), ps[i]? = some p → p.i = i ∧ ∃ u : Up, us[i]? = some u ∧ u.k = p.k) : Pls us ps where
 idx := by
  have : ps.map Pl.i = List.range us.length := by
   refine List.ext_getElem (by simp [hl]) fun i h1 h2 => ?_
   have h3 : i < ps.length := by simpa using h1
   simp [(h i ps[i] (List.getElem?_eq_getElem h3)).1]
  rw [this]
 at_ := fun p hp => by
  obtain ⟨i, hi⟩ := List.mem_iff_getElem?.1 hp
  obtain ⟨h1, u, hu, hk⟩ := h i p hi
  exact ⟨u, by rw [h1]; exact hu, hk⟩
end
section
open Go.RowKit Go.Maps
theorem bA_inj {a b : List UInt8} (h : bA a = bA b) : a = b := by
 have h1 : a.map bv = b.map bv := by
  have := congrArg Array.toList h
  simpa [bA] using this
 have h2 : a.length = b.length := by simpa using congrArg List.length h1
 refine List.ext_getElem h2 fun i hi hj => ?_
 have h3 : (a.map bv)[i]? = (b.map bv)[i]? := by rw [h1]
 rw [List.getElem?_map, List.getElem?_map, List.getElem?_eq_getElem hi, List.getElem?_eq_getElem hj] at h3
 have h4 : bv a[i] = bv b[i] := by simpa using h3
 unfold bv at h4
 injection h4 with _ h4
 exact UInt8.toNat_inj.1 (by omega)
theorem keyLaw13 : Keyed Tryz.prog 40 :=
 Keyed.of_law (deep_law_laid laidOut (m := 3) (by decide) (of_decide_eq_true (by kernel_rfl)) (by kernel_rfl) (by kernel_rfl))
theorem lits_byte (m : Nat) (x : UInt8) : Tryz.prog.keyLits (m + 1) 5 [bv x] = some [.int .u8 (x.toNat : Int)] := by
 have hx : x.toNat < 256 := UInt8.toNat_lt x
 have hw : (Lit.int .u8 (x.toNat : Int)).wf = true := WalkArith.wf_u8 ⟨by omega, by omega⟩
 unfold Program.keyLits
 simp only [Tryz.underlying5, bv]
 rw [if_pos ⟨trivial, hw⟩]
theorem mapM_all {α β : Type} {f : α → Option β} {g : α → β} : ∀ {l : List α}, (∀ i ∈ l, f i = some (g i)) → l.mapM f = some (l.map g)
 | [], _ => rfl
 | x :: r, h => by
  rw [List.mapM_cons, h x (by simp), mapM_all fun i hi => h i (by simp [hi])]
  rfl
theorem key13_cells : Tryz.prog.cellsOf 40 = 32 := by kernel_rfl
theorem key13_type : Tryz.prog.keyType 40 = true := by kernel_rfl
theorem key13_types : ∃ m, Tryz.prog.types.size + 1 = m + 2 := by
 have h : 40 < Tryz.prog.types.size := of_decide_eq_true (by kernel_rfl)
 exact ⟨Tryz.prog.types.size - 1, by omega⟩
theorem keyOf_ex {k : List UInt8} (hk : k.length = 32) : ∃ l, keyOf Tryz.prog 40 (.agg (bA k)) = some l := by
 obtain ⟨m, hm⟩ := key13_types
 have hl : Tryz.prog.keyLits (Tryz.prog.types.size + 1) 40 (bA k).toList = some ((List.range 32).map fun i => [Lit.int .u8 ((k.getD i 0).toNat : Int)]).flatten := by
  rw [hm]
  unfold Program.keyLits
  simp only [Tryz.underlying40]
  rw [if_pos (by rw [key13_cells]; simp [bA, hk]), mapM_all (g := fun i => [Lit.int .u8 ((k.getD i 0).toNat : Int)]) fun i hi => ?_]
  ·rfl
  ·have hi2 : i < k.length := by rw [hk]; exact List.mem_range.1 hi
   rw [cellsB, Nat.mul_one]
   have e : ((bA k).toList.drop i).take 1 = [bv (k.getD i 0)] := by
    have e1 : (bA k).toList = k.map bv := by simp [bA]
    rw [e1, List.drop_eq_getElem_cons (by simpa using hi2)]
    simp [List.getD, List.getElem?_eq_getElem hi2]
   rw [e]
   exact lits_byte m _
 refine ⟨.string (keyBytes ((List.range 32).map fun i => [Lit.int .u8 ((k.getD i 0).toNat : Int)]).flatten), ?_⟩
 unfold keyOf
 simp only [Tryz.underlying40]
 rw [if_pos (by simp [key13_type, Value.formed, Tryz.underlying40, key13_cells, bA, hk])]
 show (Tryz.prog.keyLits (Tryz.prog.types.size + 1) 40 (bA k).toList).map _ = _
 rw [hl]
 rfl
theorem plainElem_bool_inv {P : Program} {e : TypeId} (he : P.underlying e = some .bool) {v : Value} {z : DataW Unit × List MemPlace} (h : plainElem P e v = some z) : ∃ b, v = .bool b ∧ z = (.lit (.bool b), []) := by
 unfold plainElem at h
 rw [he] at h
 cases v <;> simp at h
 exact ⟨_, rfl, h.symm⟩
def SeenM (w : World) (B : Nat) (ks : List (List UInt8)) : Prop :=
 ∃ D : DataW Unit, w.ownsMap Tryz.prog 40 (plainElem Tryz.prog 4) B ks.length D ∧ ∀ k l, k.length = 32 → keyOf Tryz.prog 40 (.agg (bA k)) = some l → D.atKey l (.lit (.bool false)) = .lit (.bool (decide (k ∈ ks)))
theorem seen_made (w : World) : SeenM (w.alloc (.map #[] 0)) w.heap.size [] := ⟨.map [], World.ownsMap_made _ _ _ _, fun k l _ _ => by simp [DataW.atKey]⟩
theorem SeenM.lt {w : World} {B : Nat} {ks : List (List UInt8)} (h : SeenM w B ks) : B < w.heap.size := by
 obtain ⟨D, h1, _⟩ := h
 exact h1.lt
theorem SeenM.keep {L : Nat → Prop} {w w' : World} {B : Nat} {ks : List (List UInt8)} (h : SeenM w B ks) (k : Keep L w w') (hL : ¬ L B) : SeenM w' B ks := by
 obtain ⟨D, ⟨es, clock, hb, r⟩, h2⟩ := h
 exact ⟨D, ⟨es, clock, k.heap hb hL, r⟩, h2⟩
theorem SeenM.below {w w' : World} {B : Nat} {ks : List (List UInt8)} (h : SeenM w B ks) (k : Below w.heap.size w w') : SeenM w' B ks := h.keep (Keep.of_below (L := fun _ => False) k) fun h => h
theorem zeroBool13 (w : World) : (zeroValue 4).run Tryz.prog w = .ok (.bool false) w := by kernel_rfl
theorem wpList_see (w : World) {ops : Array Oper} {rest : List Oper} {o : Oper} {a : Act} {Q : Exit → Act → World → Prop} (hg : o.guard = none) (m x v : Operand) (hop : o.op = Op.mapUpdate 151 m x v)
  (B : Nat) (ks : List (List UInt8)) (hm : a.eval m = .map (some B)) (h : SeenM w B ks) (hn : ks.length ≤ 1000000) (k : List UInt8) (hk : k.length = 32) (hx : a.eval x = .agg (bA k)) (hv : a.eval v = .bool true)
  (hK : ∀ w', SeenM w' B (ks ++ [k]) → Keep (fun i => i = B) w w' → wpList Tryz.prog ops Q rest (a.put o.dst undef) w') : wpList Tryz.prog ops Q (o :: rest) a w := by
 obtain ⟨D, hown, hat⟩ := h
 obtain ⟨l, hl⟩ := keyOf_ex hk
 refine wpList_mapUpdate_own w hg m x v 151 hop 40 4 keyLaw13 Tryz.underlying151 _ B ks.length D hm hown (by unfold maxLen; omega) _ _ l hx hv hl _ [] (plainElem_bool Tryz.underlying4 true) fun w' h1 h2 => hK w' ⟨_, by rw [List.length_append]; exact h1, fun k' l' hk' hl' => ?_⟩ ⟨h2.os, h2.tape, h2.output, h2.size, fun i hi hl => h2.block i hi fun e => hl (Option.some.inj e)⟩
 by_cases he : k' = k
 ·subst he
  obtain rfl : l = l' := Option.some.inj (hl.symm.trans hl')
  rw [atKey_put_same hown.isMap (keyLaw13.key hl)]
  simp
 ·have hne : l' ≠ l := fun e => he (by
   subst e
   have := keyLaw13.inj hl hl'
   injection this with this
   exact (bA_inj this).symm)
  rw [atKey_put_other hne, hat k' l' hk' hl']
  simp [he]
end
end Go.Proofs.YtkejfdgmdjfdoaaGreatDoor
