import Derived.BigQuiet
import Derived.Test.YtjgdindjimbfeaaGreatDoorAD
import Derived.Laws.MakeOwn
import Derived.Test.YtjgdindjimbfeaaGreatDoorMR
import Derived.Laws.CopyOwn
import Derived.Laws.Bits64b
namespace Go.Proofs.YtjgdindjimbfeaaGreatDoor
set_option linter.unusedSimpArgs false
set_option linter.unusedVariables false
set_option maxHeartbeats 4000000
set_option maxRecDepth 100000
section
open Go.RowKit
theorem flatD_len {ds : List (List UInt8)} (hes : ∀ k ∈ ds, k.length = 32) : (ds.flatMap dC).length = ds.length * 32 := by
 induction ds with
 | nil => rfl
 | cons x r ih =>
  rw [List.flatMap_cons, List.length_append, ih fun k hk => hes k (by simp [hk])]
  have : (dC x).length = 32 := by unfold dC; rw [List.length_map]; exact hes x (by simp)
  rw [this, List.length_cons]; omega
theorem DS.cells {w : World} {a : Addr} {ds : List (List UInt8)} (h : DS w (some a) ds) : ∀ j u, (ds.flatMap dC)[j]? = some u → w.cell? (a.add j) = some u := fun j u hj => by
 have hlt : j < ds.length * 32 := by rw [← flatD_len h.len]; exact (List.getElem?_eq_some_iff.1 hj).1
 have hk : ds[j / 32]? = some ds[j / 32] := List.getElem?_eq_getElem (by omega)
 obtain ⟨h32, g, o, e, hr⟩ := h _ _ hk
 cases e
 have hv : (dC ds[j / 32])[j % 32]? = some ((dC ds[j / 32])[j % 32]'(by unfold dC; rw [List.length_map]; omega)) := List.getElem?_eq_getElem _
 have h1 := flatD_at h.len hk hv
 rw [show j / 32 * 32 + j % 32 = j by omega, hj] at h1
 have h2 := hr (j % 32) _ hv
 rw [Addr.add_mid, h1, ← h2, show o + j / 32 * 32 + j % 32 = o + j by omega]
end
section
open Go.RowKit
end
section
open Go.RowKit
theorem OwnD.put {w : World} {B g n cap : Nat} {ds : List (List UInt8)} (h : OwnD w B (.slice (some ⟨g, 0, none⟩) n cap) ds) (hd : ∀ s ∈ ds, s.length = 32) {i : Nat} {x : List UInt8} (hi : i < ds.length) (hx : x.length = 32) :
  stA 47 w (.pointer (some ⟨g, i * 32, none⟩)) (.agg (bA x)) = .ok .skip (w.setCells g (i * 32) (x.map bv)) ∧ OwnD (w.setCells g (i * 32) (x.map bv)) B (.slice (some ⟨g, 0, none⟩) n cap) (ds.set i x) := by
 obtain ⟨h0, ⟨e, _⟩ | ⟨g', cap', cur, e, hg, hh, hn, hc, hs, ht⟩⟩ := h
 ·cases e
 ·cases e
  obtain ⟨a, y, r, hda, hal⟩ : ∃ a y r, ds = a ++ y :: r ∧ a.length = i :=
   ⟨ds.take i, ds[i], ds.drop (i + 1), by rw [← List.drop_eq_getElem_cons hi, List.take_append_drop], by rw [List.length_take]; omega⟩
  have hyl : y.length = 32 := hd y (by rw [hda]; simp)
  have hpa : (a.flatMap dC).length = i * 32 := by rw [flatD_len (fun s hs => hd s (by rw [hda]; simp [hs])), hal]
  have hcur : cur = ((a.flatMap dC) ++ (dC y ++ (r.flatMap dC ++ cur.toList.drop (ds.length * 32)))).toArray := by
   apply Array.ext'
   have h1 := (List.take_append_drop (ds.length * 32) cur.toList).symm
   rw [ht] at h1
   rw [List.toList_toArray]
   refine h1.trans ?_
   have e : ds.flatMap dC = (a ++ y :: r).flatMap dC := by rw [← hda]
   rw [e, List.flatMap_append, List.flatMap_cons]
   simp only [List.append_assoc]
  obtain ⟨post, hpost⟩ : ∃ post, post = r.flatMap dC ++ cur.toList.drop (ds.length * 32) := ⟨_, rfl⟩
  rw [← hpost] at hcur
  have hh' : w.heap[g]? = some (.cells ((a.flatMap dC) ++ (dC y ++ post)).toArray 47 (0, 0)) := by rw [← hcur]; exact hh
  have hmid : setA cur (i * 32) (x.map bv) = ((a.flatMap dC) ++ (x.map bv ++ post)).toArray := by
   rw [hcur, ← hpa]
   exact setA_mid (dC y) (x.map bv) (a.flatMap dC) post (by unfold dC; rw [List.length_map, List.length_map, hx, hyl])
  refine ⟨?_, ?_⟩
  ·unfold stA
   have ht : w.there g (i * 32) 32 := fun j hj => ⟨by
    have := range_mid hh' j ((dC y)[j]'(by unfold dC; rw [List.length_map, hyl]; exact hj)) (List.getElem?_eq_getElem _)
    rw [hpa] at this
    rw [this]; rfl, frozen_of_row w g _ _ _ hh⟩
   rw [Sem.run_bind, run_storeAt_mid (P := Tryz.prog) w g (i * 32) 47 (bA x) (by rw [bA_size, hx]; exact ht) (by rw [bA_size, hx]; exact info26) (bA_one x)]
   simp [Sem.run_pure, Result.andThen_ok, bA]
  ·have hset := heap_setA g 47 (x.map bv) (i * 32) w cur hh
   have e : ds.set i x = a ++ x :: r := by rw [hda, ← hal, List.set_append_right _ _ (Nat.le_refl _), Nat.sub_self]; rfl
   have hfl : ((ds.set i x).flatMap dC) = (a.flatMap dC) ++ (x.map bv ++ r.flatMap dC) := by rw [e, List.flatMap_append, List.flatMap_cons]; rfl
   have hlen : ((ds.set i x).flatMap dC).length = ds.length * 32 := by
    have : ∀ s ∈ ds.set i x, s.length = 32 := fun s hs => by
     rcases List.mem_or_eq_of_mem_set hs with h | h
     ·exact hd s h
     ·rw [h]; exact hx
    rw [flatD_len this, List.length_set]
   have hv : (ds.set i x).length = ds.length := List.length_set
   refine ⟨by rw [hlen, hv], .inr ⟨g, cap, setA cur (i * 32) (x.map bv), by rw [hv], hg, hset, by rw [hv]; exact hn, hc, ?_, ?_⟩⟩
   ·rw [hmid, List.size_toArray, ← hs, hcur]
    simp [dC, hx, hyl]
   ·rw [hv, hmid, List.toList_toArray, hpost, ← List.append_assoc (x.map bv), ← List.append_assoc (a.flatMap dC), ← hfl, ← hlen, List.take_left]
def mD (n : Nat) : Array Value := madeCells (Value.agg (bA ((List.range 32).map fun _ => (0 : UInt8)))).cells (n * 32)
theorem zero_rep : (List.range 32).map (fun _ => (0 : UInt8)) = List.replicate 32 0 := by rfl
theorem mD_all (n : Nat) : (mD n).toList = List.replicate (n * 32) (bv 0) := by
 apply List.ext_getElem
 ·unfold mD; rw [Array.length_toList, size_madeCells, List.length_replicate]
 ·intro j h2 h3
  rw [List.getElem_replicate, Array.getElem_toList]
  have hz : (Value.agg (bA ((List.range 32).map fun _ => (0 : UInt8)))).cells = (List.replicate 32 (bv 0)).toArray := by
   show bA _ = _
   rw [zero_rep]; unfold bA; rw [List.map_replicate]
  have hsz : (List.replicate 32 (bv 0)).toArray.size = 32 := by rw [List.size_toArray, List.length_replicate]
  simp only [mD, madeCells, hz, Array.getElem_map, Array.getElem_range]
  rw [hsz, getElem!_pos _ _ (by rw [hsz]; omega), List.getElem_toArray, List.getElem_replicate]
theorem rep_flat : ∀ n, (List.replicate n (List.replicate 32 (0 : UInt8))).flatMap dC = List.replicate (n * 32) (bv 0)
 | 0 => by simp
 | n + 1 => by
  rw [List.replicate_succ', List.flatMap_append, rep_flat n]
  simp only [List.flatMap_cons, List.flatMap_nil, List.append_nil, dC, List.map_replicate]
  rw [List.replicate_append_replicate]
  congr 1; omega
theorem mD_rep (n : Nat) : (mD n).toList = (List.replicate n (List.replicate 32 (0 : UInt8))).flatMap dC := by rw [mD_all, rep_flat]
theorem make_digs (n : Nat) (hn : n ≤ 1000000) (w : World) : (Instr.makeSlice 51 (.int .i64 (n : Int)) (.int .i64 (n : Int))).run Tryz.prog w = .ok (.slice (some ⟨w.heap.size, 0, none⟩) n n) (w.alloc (.cells (mD n) 47)) := by
 obtain ⟨i, hi, hz, hs, hb⟩ := info_parts infoD3
 have hr := run_make (P := Tryz.prog) w 51 47 i _ Tryz.underlying51 hi hz .i64 .i64 (n : Int) (n : Int) (by omega) (by omega) (by rw [hb]; omega) (by omega)
 rw [Int.toNat_natCast, hs] at hr
 exact hr
end
section
open Go.RowKit
theorem and_low (n : Nat) (hn : n < 4294967296) : bits .and .u64 (n : Int) 4294967295 = (n : Int) := by
 have h := bits_and_u64_nat n 4294967295 (by omega) (by omega)
 have e : n &&& 4294967295 = n % 4294967296 := Nat.and_two_pow_sub_one_eq_mod n 32
 rw [e, Nat.mod_eq_of_lt hn] at h
 exact h
theorem mul64_c (n : Nat) (hn : n < 4294967296) (w : World) :
  Calls Tryz.prog 168 #[.int .u64 1, .int .u64 (n : Int)] w fun e w' => e = .returned (.tuple #[.int .u64 0, .int .u64 (n : Int)]) ∧ w' = w := by
 have a1 := and_low n hn
 have a2 : bits .and .u64 1 4294967295 = 1 := and_low 1 (by omega)
 have a3 : bits .and .u64 0 4294967295 = 0 := and_low 0 (by omega)
 have w1 : IntKind.u64.wrap (n : Int) = (n : Int) := by rw [IntKind.wrap_u64]; omega
 have d1 : (n : Int) / 4294967296 = 0 := by omega
 have d2 : (1 : Int) / 4294967296 = 0 := by omega
 clear hn
 go_enter Tryz.func168, Tryz.ntmps168
 go_wp2
 go_ret2
 exact ⟨rfl, rfl⟩
theorem mul_c (n : Nat) (hn : n < 4294967296) (w : World) :
  Calls Tryz.prog 164 #[.int .u64 1, .int .u64 (n : Int)] w fun e w' => e = .returned (.tuple #[.int .u64 0, .int .u64 (n : Int)]) ∧ w' = w := by
 have HM := Lib.hid (mul64_c n hn)
 clear hn
 go_enter Tryz.func164, Tryz.ntmps164
 go_wp2_with fail
 refine (HM.out _).mono ?_
 rintro _ w1 ⟨rfl, rfl⟩
 go_wp2
 go_ret2
 exact ⟨rfl, rfl⟩
theorem run_copyD (w : World) (dT sT ty : TypeId) (g o dLen dCap : Nat) (a : Addr) (sLen sCap : Nat) (cur : Array Value) (t : TypeId) (cs : List Value) (m : Nat)
  (hu : Tryz.prog.underlying dT = some (.slice 47)) (hg : w.heap[g]? = some (.cells cur t (0, 0))) (hm : m = Nat.min sLen dLen) (hn : cs.length = m * 32)
  (hsrc : ∀ j v, cs[j]? = some v → w.cell? (a.add j) = some v) (hfit : o + cs.length ≤ cur.size) (h1 : ∀ v ∈ cs, v.oneCell' = true) :
  (Builtin.copy_ #[dT, sT] ty #[.slice (some ⟨g, o, none⟩) dLen dCap, .slice (some a) sLen sCap]).run Tryz.prog w =
   .ok (goInt m) (w.setRow g (cur.toList.take o ++ cs ++ cur.toList.drop (o + cs.length)).toArray) := by
 have hl := run_loadCells_list (P := Tryz.prog) w a cs hsrc
 have hst := run_storeCells_at Tryz.prog g o t cs 0 cur w hg (by simpa using hfit) h1
 obtain ⟨i, hi, _, hs, _⟩ := info_parts infoD3
 simp [Builtin.copy_, run_underlying hu, Builtin.lenOf, Builtin.firstCells, sizeOf, typeInfo, hi, hs, ← hm, ← hn, hl, hst]
theorem copyD (w : World) (g off dLen dCap : Nat) (ad : Addr) (sLen sCap : Nat) (cur : List Value) (t : TypeId) (hg : w.heap[g]? = some (.cells cur.toArray t (0, 0))) (cs : List Value) (m : Nat) (hm : m = Nat.min sLen dLen) (hn : cs.length = m * 32)
  (hsrc : ∀ j v, cs[j]? = some v → w.cell? (ad.add j) = some v) (hfit : off + cs.length ≤ cur.length) (h1 : ∀ v ∈ cs, v.oneCell' = true)
  (new : List Value) (hnew : cur.take off ++ cs ++ cur.drop (off + cs.length) = new) :
  ∃ w', (Builtin.copy_ #[51, 51] 3 #[.slice (some ⟨g, off, none⟩) dLen dCap, .slice (some ad) sLen sCap]).run Tryz.prog w = .ok (.int .i64 (m : Int)) w' ∧
   w'.heap[g]? = some (.cells new.toArray t (0, 0)) ∧ Keep (fun i => i = g) w w' := by
 have hrun := run_copyD w 51 51 3 g off dLen dCap ad sLen sCap cur.toArray t cs m Tryz.underlying51 hg hm hn hsrc (by simpa using hfit) h1
 refine ⟨_, hrun, ?_, Keep.row w g _⟩
 rw [setRow_heap w g _ _ t _ hg, ← hnew]
def repL (D : Nat) (d : List UInt8) (k : Nat) : List Value := (List.replicate k d ++ List.replicate (D - k) (List.replicate 32 (0 : UInt8))).flatMap dC
theorem rep_len (k : Nat) (d : List UInt8) (hd : d.length = 32) : ((List.replicate k d).flatMap dC).length = k * 32 := by
 rw [flatD_len (fun s hs => by rw [(List.mem_replicate.1 hs).2]; exact hd), List.length_replicate]
theorem z32_len : (List.replicate 32 (0 : UInt8)).length = 32 := List.length_replicate
theorem repL_len (D : Nat) (d : List UInt8) (hd : d.length = 32) (k : Nat) (hk : k ≤ D) : (repL D d k).length = D * 32 := by
 unfold repL
 rw [List.flatMap_append, List.length_append, rep_len k d hd, rep_len _ _ z32_len]; omega
theorem repL_zero (D : Nat) (d : List UInt8) : mD D = (repL D d 0).toArray := by
 apply Array.ext'
 rw [mD_rep]; simp [repL]
theorem repL_next (D : Nat) (d : List UInt8) (hd : d.length = 32) (k m : Nat) (h : k + m ≤ D) :
  (repL D d k).take (k * 32) ++ (List.replicate m d).flatMap dC ++ (repL D d k).drop (k * 32 + ((List.replicate m d).flatMap dC).length) = repL D d (k + m) := by
 unfold repL
 rw [rep_len m d hd, List.flatMap_append, List.flatMap_append]
 have e1 : ∀ Y : List Value, (List.flatMap dC (List.replicate k d) ++ Y).take (k * 32) = List.flatMap dC (List.replicate k d) := fun Y => by
  rw [← rep_len k d hd, List.take_left]
 have e2 : ∀ Y : List Value, (List.flatMap dC (List.replicate k d) ++ Y).drop (k * 32 + m * 32) = Y.drop (m * 32) := fun Y => by
  rw [List.drop_append, rep_len k d hd, List.drop_of_length_le (by rw [rep_len k d hd]; omega), List.nil_append, show k * 32 + m * 32 - k * 32 = m * 32 by omega]
 rw [e1, e2]
 have e3 : (List.replicate (D - k) (List.replicate 32 (0 : UInt8))).flatMap dC = (List.replicate m (List.replicate 32 (0 : UInt8))).flatMap dC ++ (List.replicate (D - (k + m)) (List.replicate 32 (0 : UInt8))).flatMap dC := by
  rw [← List.flatMap_append, List.replicate_append_replicate, show m + (D - (k + m)) = D - k by omega]
 rw [e3, ← rep_len m _ z32_len, List.drop_left, ← List.replicate_append_replicate, List.flatMap_append]
theorem repL_head (D : Nat) (d : List UInt8) (k m : Nat) (h : m ≤ k) (j : Nat) (v : Value) (hv : ((List.replicate m d).flatMap dC)[j]? = some v) : (repL D d k)[j]? = some v := by
 unfold repL
 have e : List.replicate k d = List.replicate m d ++ List.replicate (k - m) d := by rw [List.replicate_append_replicate, show m + (k - m) = k by omega]
 rw [e, List.append_assoc, List.flatMap_append, List.getElem?_append_left (List.getElem?_eq_some_iff.1 hv).1]
 exact hv
theorem repL_cells (m : Nat) (d : List UInt8) : ∀ v ∈ (List.replicate m d).flatMap dC, v.oneCell' = true := fun v hv => by
 obtain ⟨x, _, hx⟩ := List.mem_flatMap.1 hv
 obtain ⟨y, _, rfl⟩ := List.mem_map.1 hx
 exact bv_one y
theorem repL_own {w : World} {B g D : Nat} {d : List UInt8} (hd : d.length = 32) (hD : D ≤ 1000000) (hB : B ≤ g) (h : w.heap[g]? = some (.cells (repL D d D).toArray 47 (0, 0))) :
  OwnD w B (.slice (some ⟨g, 0, none⟩) D D) (List.replicate D d) := by
 have e : repL D d D = (List.replicate D d).flatMap dC := by unfold repL; rw [Nat.sub_self, List.replicate_zero, List.append_nil]
 rw [e] at h
 refine ⟨by rw [rep_len D d hd, List.length_replicate], .inr ⟨g, D, _, by rw [List.length_replicate], hB, h, by rw [List.length_replicate]; exact Nat.le_refl _, by unfold maxLen; omega, by rw [List.size_toArray, rep_len D d hd], ?_⟩⟩
 rw [List.length_replicate, List.toList_toArray, List.take_of_length_le (by rw [rep_len D d hd]; exact Nat.le_refl _)]
theorem slD : Tryz.prog.underlying 51 = some (.slice (Tryz.prog.elem 51)) := by
 rw [show Tryz.prog.elem 51 = 47 by kernel_rfl]; exact Tryz.underlying51
theorem elD : Tryz.prog.elem 51 = 47 := by kernel_rfl
theorem szD (w : World) : (sizeOf 47).run Tryz.prog w = .ok 32 w := by
 obtain ⟨i, hi, _, hs, _⟩ := info_parts infoD3
 simp [sizeOf, typeInfo, hi, hs]
theorem cutD_from (g D k : Nat) (h : k < D) (w : World) :
  (Instr.sliceAt 51 (.slice (some ⟨g, 0, none⟩) D D) (some (.int .i64 (k : Int))) none none).run Tryz.prog w = .ok (.slice (some ⟨g, k * 32, none⟩) (D - k) (D - k)) w := by
 rw [run_sliceAt_slice w 51 _ _ _ _ slD, run_slice_l w 51 _ D D slD .i64 k (by omega) (by omega), elD, szD]
 have hadd : (⟨g, 0, none⟩ : Addr).add (k * 32) = ⟨g, k * 32, none⟩ := by rw [add_none, Nat.zero_add]
 simp [sliced, hadd, show ¬ D = k by omega]
theorem cutD_to (g D k : Nat) (h : k ≤ D) (w : World) :
  (Instr.sliceAt 51 (.slice (some ⟨g, 0, none⟩) D D) none (some (.int .i64 (k : Int))) none).run Tryz.prog w = .ok (.slice (some ⟨g, 0, none⟩) k D) w := by
 rw [run_sliceAt_slice w 51 _ _ _ _ slD, run_slice_h w 51 _ D D slD .i64 k (by omega) (by omega), elD, szD]
 have hadd : (⟨g, 0, none⟩ : Addr).add 0 = ⟨g, 0, none⟩ := by rw [add_none]
 by_cases h0 : D = 0
 ·simp [sliced, h0]
 ·simp [sliced, hadd, h0]
theorem drep_c (a : Addr) (c D : Nat) (d : List UInt8) (w : World) (hA : DS w (some a) [d]) (hD : D ≤ 1000) :
  Calls Tryz.prog 154 #[.slice (some a) 1 c, .int .i64 (D : Int)] w fun e w' => e = .returned (.slice (some ⟨w.heap.size, 0, none⟩) D D) ∧ OwnD w' w.heap.size (.slice (some ⟨w.heap.size, 0, none⟩) D D) (List.replicate D d) ∧ Below w.heap.size w w' := by
 have hd := hA.len d (by simp)
 have HDL := Lib.hid hd
 have HM := Lib.hid (mul_c D (by omega))
 have mk := make_digs D (by omega) w
 have cv1 : IntKind.u64.wrap (D : Int) = (D : Int) := by rw [IntKind.wrap_u64]; omega
 have cv2 : IntKind.i64.wrap (D : Int) = (D : Int) := Bt.wrap_inr (by omega) (by omega)
 have d0 : decide ((D : Int) < 0) = false := decide_eq_false (by omega)
 have d1 : decide ((9223372036854775807 : Int) < (D : Int)) = false := decide_eq_false (by omega)
 have d1' : decide (9223372036854775807 < D) = false := decide_eq_false (by omega)
 obtain ⟨V, hV⟩ : ∃ V, V = w.alloc (.cells (mD D) 47) := ⟨_, rfl⟩
 have hbV : Below w.heap.size w V := by rw [hV]; exact Bt.one_below _ _
 have HV0 : Hid (V.heap[w.heap.size]? = some (.cells (repL D d 0).toArray 47 (0, 0))) := by show _ = _; rw [hV, ← repL_zero]; exact heap_alloc_new w _
 obtain ⟨m, hm⟩ : ∃ m, m = Nat.min 1 D := ⟨_, rfl⟩
 have hm1 : m ≤ 1 := by rw [hm]; exact Nat.min_le_left 1 D
 have hmD : m ≤ D := by rw [hm]; exact Nat.min_le_right 1 D
 have HMP : Hid (m = 0 → D = 0) := fun e => by
  have h : Nat.min 1 D = 0 := by rw [← hm]; exact e
  by_cases hz : D = 0
  ·exact hz
  ·have : Nat.min 1 D = 1 := Nat.min_eq_left (by omega)
   omega
 have HAC : Hid (∀ j v, ((List.replicate m d).flatMap dC)[j]? = some v → V.cell? (a.add j) = some v) := fun j v hv => by
  refine (hA.below hbV).cells j v ?_
  have : ((List.replicate 1 d).flatMap dC)[j]? = some v := by
   have e : List.replicate 1 d = List.replicate m d ++ List.replicate (1 - m) d := by rw [List.replicate_append_replicate, show m + (1 - m) = 1 by omega]
   rw [e, List.flatMap_append, List.getElem?_append_left (List.getElem?_eq_some_iff.1 hv).1]; exact hv
  simpa using this
 have HMM := Lib.hid hm
 have HMD := Lib.hid hmD
 have HDD := Lib.hid hD
 have HBV := Lib.hid hbV
 rw [← hV] at mk
 have HV := Lib.hid hV
 clear hA hd hD hbV hV hm hm1 hmD
 go_enter Tryz.func154, Tryz.ntmps154
 go_wp2_with fail
 refine (HM.out _).mono ?_
 rintro _ w1 ⟨rfl, rfl⟩
 clear HM
 have z1 : ((List.replicate m d).flatMap dC).length = m * 32 := rep_len m d HDL.out
 have z2 : 0 + ((List.replicate m d).flatMap dC).length ≤ (repL D d 0).length := by rw [rep_len m d HDL.out, repL_len D d HDL.out 0 (Nat.zero_le _)]; have := HMD.out; omega
 have z3 : (repL D d 0).take 0 ++ (List.replicate m d).flatMap dC ++ (repL D d 0).drop (0 + ((List.replicate m d).flatMap dC).length) = repL D d m := by have := repL_next D d HDL.out 0 m (by have := HMD.out; omega); simp only [Nat.zero_mul, Nat.zero_add] at this ⊢; exact this
 have Z1 := Lib.hid z1
 have Z2 := Lib.hid z2
 have Z3 := Lib.hid z3
 clear z1 z2 z3
 obtain ⟨w2, cp, hg2, hk2⟩ := copyD V w1.heap.size 0 D D a 1 c (repL D d 0) 47 HV0.out ((List.replicate m d).flatMap dC) m HMM.out Z1.out HAC.out Z2.out (repL_cells m d) (repL D d m) Z3.out
 have HG2 := Lib.hid hg2
 have HB2 : Hid (Below w1.heap.size w1 w2) := HBV.out.trans (hk2.below (by have := HBV.out.size; omega) fun i hi => by have e : i = w1.heap.size := hi; omega)
 clear hg2 hk2 Z1 Z2 Z3 HAC HV0
 go_wp2_with fail
 clear mk cp
 go_loopg [8] D (fun gg n wr => ∃ k : Nat, n = .int .i64 (k : Int) ∧ k ≤ D ∧ D - k ≤ gg ∧ (k = 0 → D = 0) ∧ Hid (wr.heap[w1.heap.size]? = some (.cells (repL D d k).toArray 47 (0, 0))) ∧ Below w1.heap.size w1 wr)
 case atStart => exact ⟨m, rfl, HMD.out, by omega, HMP.out, HG2.out, HB2.out⟩
 case round =>
  obtain ⟨k, rfl, hk, hg, hz, HG, hb⟩ := hrel
  have HBW := Lib.hid hb
  clear hb
  by_cases hlt : k < D
  ·have dl : decide (k < D) = true := decide_eq_true hlt
   have dl' : decide ((k : Int) < (D : Int)) = true := decide_eq_true (by omega)
   have h1000 := HDD.out
   obtain ⟨mm, hmm⟩ : ∃ mm, mm = Nat.min k (D - k) := ⟨_, rfl⟩
   have hk1 : 1 ≤ k := by
    by_cases e : k = 0
    ·have := hz e; omega
    ·omega
   have h1 : mm ≤ k := by rw [hmm]; exact Nat.min_le_left _ _
   have h2 : mm ≤ D - k := by rw [hmm]; exact Nat.min_le_right _ _
   have HM1 : Hid (1 ≤ mm) := by show 1 ≤ mm; rw [hmm]; exact Nat.le_min.2 ⟨hk1, by omega⟩
   have HMI := Lib.hid hmm
   have HKM : Hid (k + mm ≤ D) := by show _ ≤ _; omega
   have HFI : Hid (k * 32 + ((List.replicate mm d).flatMap dC).length ≤ (repL D d k).length) := by
    show _ ≤ _
    rw [rep_len mm d HDL.out, repL_len D d HDL.out k hk]
    have := HKM.out; omega
   have HSR : Hid (∀ j v, ((List.replicate mm d).flatMap dC)[j]? = some v → wr.drew.cell? ((⟨w1.heap.size, 0, none⟩ : Addr).add j) = some v) := fun j v hv => by
    rw [add_none, Nat.zero_add, cell_of_cells (show wr.drew.heap[w1.heap.size]? = _ from HG.out), List.getElem?_toArray]
    exact repL_head D d k mm h1 j v hv
   have F1 := Lib.hid (cutD_from w1.heap.size D k hlt)
   have F2 := Lib.hid (cutD_to w1.heap.size D k hk)
   have hw1 : IntKind.i64.wrap ((k : Int) + (mm : Int)) = (k : Int) + (mm : Int) := Bt.wrap_inr (by omega) (by omega)
   clear hmm hk1 h1 h2 hz
   go_wp2_with fail
   refine region_heldT 9 (fun q => Keep (fun i => i = w1.heap.size) wr q) (by kernel_rfl) ?_
   have hHeld : Keep (fun i => i = w1.heap.size) wr wr.drew := (Keep.refl _ _).drew
   refine HeldT.take (i := 0) (oi := { dst := some 38, op := .move (.tmp 8), .. }) (v := ?_) rfl (by kernel_rfl) (by kernel_rfl) (by kernel_rfl) (by kernel_rfl) (fun _ _ _ h => h) (Or.inl ⟨by rfl, ?_⟩) (by assumption) ?_
   rotate_left 1
   ·intro v hSv
    clear hSv
    go_simp
    try with_reducible rfl
   try simp only [Act.put, x_A, x_0, x_1]
   refine HeldT.take (i := 1) (oi := { dst := some 39, op := .move (.tmp 7), .. }) (v := ?_) rfl (by kernel_rfl) (by kernel_rfl) (by kernel_rfl) (by kernel_rfl) (fun _ _ _ h => h) (Or.inl ⟨by rfl, ?_⟩) (by assumption) ?_
   rotate_left 1
   ·intro v hSv
    clear hSv
    go_simp
    try with_reducible rfl
   try simp only [Act.put, x_A, x_0, x_1]
   refine HeldT.take (i := 2) (oi := { dst := some 40, op := .move (.tmp 8), .. }) (v := ?_) rfl (by kernel_rfl) (by kernel_rfl) (by kernel_rfl) (by kernel_rfl) (fun _ _ _ h => h) (Or.inl ⟨by rfl, ?_⟩) (by assumption) ?_
   rotate_left 1
   ·intro v hSv
    clear hSv
    go_simp
    try with_reducible rfl
   try simp only [Act.put, x_A, x_0, x_1]
   refine HeldT.take (i := 3) (oi := { dst := some 41, op := .slice _ (.tmp 39) (some (.tmp 40)) none none, .. }) (v := ?_) rfl (by kernel_rfl) (by kernel_rfl) (by kernel_rfl) (by kernel_rfl) (fun _ _ _ h => h) (Or.inl ⟨by rfl, ?_⟩) (by assumption) ?_
   rotate_left 1
   ·intro v hSv
    have hv1 := F1.out v
    clear hSv
    go_simp
    try with_reducible rfl
   try simp only [Act.put, x_A, x_0, x_1]
   refine HeldT.take (i := 4) (oi := { dst := some 42, op := .move (.tmp 7), .. }) (v := ?_) rfl (by kernel_rfl) (by kernel_rfl) (by kernel_rfl) (by kernel_rfl) (fun _ _ _ h => h) (Or.inl ⟨by rfl, ?_⟩) (by assumption) ?_
   rotate_left 1
   ·intro v hSv
    clear hSv
    go_simp
    try with_reducible rfl
   try simp only [Act.put, x_A, x_0, x_1]
   refine HeldT.take (i := 5) (oi := { dst := some 43, op := .move (.tmp 8), .. }) (v := ?_) rfl (by kernel_rfl) (by kernel_rfl) (by kernel_rfl) (by kernel_rfl) (fun _ _ _ h => h) (Or.inl ⟨by rfl, ?_⟩) (by assumption) ?_
   rotate_left 1
   ·intro v hSv
    clear hSv
    go_simp
    try with_reducible rfl
   try simp only [Act.put, x_A, x_0, x_1]
   refine HeldT.take (i := 6) (oi := { dst := some 44, op := .slice _ (.tmp 42) none (some (.tmp 43)) none, .. }) (v := ?_) rfl (by kernel_rfl) (by kernel_rfl) (by kernel_rfl) (by kernel_rfl) (fun _ _ _ h => h) (Or.inl ⟨by rfl, ?_⟩) (by assumption) ?_
   rotate_left 1
   ·intro v hSv
    have hv1 := F2.out v
    clear hSv
    go_simp
    try with_reducible rfl
   try simp only [Act.put, x_A, x_0, x_1]
   refine HeldT.one (i := 7) (o := { dst := some 45, op := .call _, .. }) (by kernel_rfl) rfl rfl (fun K hK => ?_)
   obtain ⟨w3, cp, hg3, hk3⟩ := copyD wr.drew w1.heap.size (k * 32) (D - k) (D - k) ⟨w1.heap.size, 0, none⟩ k D (repL D d k) 47 HG.out ((List.replicate mm d).flatMap dC) mm HMI.out (rep_len mm d HDL.out) HSR.out HFI.out (repL_cells mm d) (repL D d (k + mm)) (repL_next D d HDL.out k mm HKM.out)
   have hK3 : Keep (fun i => i = w1.heap.size) wr w3 := ((Keep.refl _ _).drew).trans hk3
   have HG3 := Lib.hid hg3
   have HK3 := Lib.hid hK3
   clear hg3 hk3
   go_wp2_with fail
   refine hK.out _ _ (fun _ => hK3) (fun hS => ?_)
   have hHeld := hS (by decide)
   clear hS hK K
   try simp only [Act.put, x_A, x_0, x_1]
   clear hK3 cp
   refine HeldT.take (i := 8) (oi := { dst := some 46, op := .binOp .add _ (.tmp 38) (.tmp 45) _, .. }) (v := ?_) rfl (by kernel_rfl) (by kernel_rfl) (by kernel_rfl) (by kernel_rfl) (fun _ _ _ h => h) (Or.inl ⟨by rfl, ?_⟩) (by assumption) ?_
   rotate_left 1
   ·intro v hSv
    clear hSv
    go_simp
    try with_reducible rfl
   try simp only [Act.put, x_A, x_0, x_1]
   refine HeldT.one (i := 9) (o := { dst := some 8, op := .assign (.tmp 46), .. }) (by kernel_rfl) rfl rfl (fun K hK => ?_)
   go_wp2_with fail
   refine hK.out _ _ (fun h => absurd rfl h) (fun _ => ?_)
   clear hK K
   refine HeldT.done (by kernel_rfl) ?_ _
   go_wp2
   go_roundg (D - (k + mm))
   case measure => have := HKM.out; have := HM1.out; omega
   case rel => exact ⟨k + mm, by go_num, HKM.out, by omega, fun e => by have := HM1.out; omega, HG3.out, HBW.out.trans (HK3.out.below HBW.out.size fun i hi => by have e : i = w1.heap.size := hi; omega)⟩
  ·obtain rfl : k = D := by omega
   have dl : decide (k < k) = false := decide_eq_false (by omega)
   go_wp2_with fail
   go_ret
   exact ⟨rfl, repL_own HDL.out (by have := HDD.out; omega) (Nat.le_refl _) HG.out, HBW.out⟩
end
end Go.Proofs.YtjgdindjimbfeaaGreatDoor
