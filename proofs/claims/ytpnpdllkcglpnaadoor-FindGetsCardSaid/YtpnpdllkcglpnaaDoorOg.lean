/- alive of layer 8 over contracts. -/
import Derived.Test.YtpnpdllkcglpnaaDoorOf
namespace Go.Proofs.YtpnpdllkcglpnaaDoor
open Go.RowKit

/-- A row of entries in a block. -/
theorem ea_row {w : World} {g : Nat} {T : TypeId} {fr : Nat × Nat} {es : List En} (h : w.heap[g]? = some (.cells (es.flatMap enC).toArray T fr)) (hes : ∀ e ∈ es, EnOk w e) : EA w (some ⟨g, 0, none⟩) es := fun i e hi => by
  refine ⟨hes e (List.mem_of_getElem? hi), g, 0, rfl, fun j v hv => ?_⟩
  have := flat_at (fun e he => (hes e he).key) hi hv
  rw [Nat.zero_add, cell_of_cells h]
  simpa using this
def e8a (A : Option Addr) : En := ⟨z26, A, [1], 1⟩
def e8b (A : Option Addr) : En := ⟨k128, A, [2], 1⟩
theorem bldEntry_2 (A : Option Addr) (w : World) : bldA 37 w #[(0, .agg (bA k128)), (1, .slice A 1 1)] = .ok (.value (.agg (enC (e8b A)).toArray)) w := bldEntry (e8b A) rfl w
theorem bldEntry_1 (A : Option Addr) (w : World) : bldA 37 w #[(1, .slice A 1 1)] = .ok (.value (.agg (enC (e8a A)).toArray)) w := bldEntry_v A 1 1 w
theorem bsE_two (A B : Option Addr) (w : World) : bsE w 2 #[(0, .agg (enC (e8a A)).toArray), (1, .agg (enC (e8b B)).toArray)] = .ok (.value (.slice (some ⟨w.heap.size, 0, none⟩) 2 2)) (w.alloc (.cells ([e8a A, e8b B].flatMap enC).toArray 37)) := by kernel_rfl
def k77 : List UInt8 := 77 :: List.replicate 31 0
def k129 : List UInt8 := 129 :: List.replicate 31 0
theorem bldKey_77 (w : World) : bldA 24 w #[(0, .int .u8 77)] = .ok (.value (.agg (bA k77))) w := by kernel_rfl
theorem bldKey_129 (w : World) : bldA 24 w #[(0, .int .u8 129)] = .ok (.value (.agg (bA k129))) w := by kernel_rfl
theorem elemEs : Tryd.prog.elem 22 = 37 := by kernel_rfl
theorem sizeEs (w : World) : (sizeOf 37).run Tryd.prog w = .ok 33 w := by
  obtain ⟨i0, hi, hz0, hz1, hz2⟩ := info_parts infoE3
  simp [sizeOf, typeInfo, hi, hz1]
theorem sl_first (g : Nat) (w : World) : (Instr.sliceAt 22 (.slice (some ⟨g, 0, none⟩) 2 2) none (some (.int .i64 1)) none).run Tryd.prog w = .ok (.slice (some ⟨g, 0, none⟩) 1 2) w := by
  have ht : Tryd.prog.underlying 22 = some (.slice (Tryd.prog.elem 22)) := by rw [elemEs]; exact Tryd.underlying22
  rw [run_sliceAt_slice w 22 _ _ _ _ ht, run_slice_h w 22 _ _ _ ht .i64 1 (by decide) (by decide), elemEs, sizeEs]
  simp [sliced, add_none]
def E8a : Ent := ⟨z26, [1]⟩
def E8b : Ent := ⟨k128, [2]⟩
theorem bit_a : bitK z26 0 = 0 := by decide
theorem bit_b : bitK k128 0 = 1 := by decide
theorem bit_c9 : bitK k129 0 = 1 := by decide
theorem grow_ab : growT 257 [E8a, E8b] 0 = .inner (.leaf E8a) (.leaf E8b) := by
  rw [show (257 : Nat) = 256 + 1 from rfl, growT_two 256 _ 0 (by decide)]
  have h0 : partK [E8a, E8b] 0 0 = [E8a] := by simp [partK, E8a, E8b, bit_a, bit_b]
  have h1 : partK [E8a, E8b] 0 1 = [E8b] := by simp [partK, E8a, E8b, bit_a, bit_b]
  rw [h0, h1, growT_one, growT_one]
  rfl
theorem sep_ab : Sep 0 [E8a, E8b] where
  len := fun a ha => by
    simp only [List.mem_cons, List.not_mem_nil, or_false] at ha
    rcases ha with rfl | rfl <;> rfl
  ne := by
    refine List.pairwise_cons.2 ⟨fun b hb => ?_, List.pairwise_singleton _ _⟩
    rw [List.mem_singleton.1 hb]
    decide
  eq := fun _ _ _ _ i hi => by omega
theorem sep_a : Sep 0 [E8a] where
  len := fun a ha => by rw [List.mem_singleton.1 ha]; rfl
  ne := List.pairwise_singleton _ _
  eq := fun _ _ _ _ i hi => by omega
/-- What the two trees are. -/
structure Two (T : Tv) (v va vb : Value) : Prop where
  val : T.val = v
  f1 : T.fin z26 0 = .leaf va E8a
  d1 : T.dep z26 0 = 1
  s1 : (T.sibs z26 0).length = 1
  w1 : (T.way z26 0).length = 2
  g1 : getT (T.fin k128 0).tr k128 = some E8b
  g2 : getT (T.fin k129 0).tr k129 = none
  c0 : T.child 0 = .leaf va E8a
  u : T.under k128 256 = .leaf vb E8b
theorem two_of {T : Tv} (h : T.tr = growT 257 [E8a, E8b] 0) : ∃ v va vb, T = .inner v (.leaf va E8a) (.leaf vb E8b) := by
  rw [grow_ab] at h
  match T, h with
  | .inner v (.leaf va a) (.leaf vb b), h =>
    injection h with h1 h2
    injection h1 with h1
    injection h2 with h2
    subst h1 h2
    exact ⟨v, va, vb, rfl⟩
theorem com_self : 256 ≤ comK k128 k128 := (com_bits (Nat.le_refl 256)).2 fun _ _ => rfl
theorem two_is (v va vb : Value) : Two (.inner v (.leaf va E8a) (.leaf vb E8b)) v va vb where
  val := rfl
  f1 := by simp [Tv.fin, bit_a]
  d1 := by simp [Tv.dep, bit_a]
  s1 := by simp [Tv.sibs, bit_a]
  w1 := by simp [Tv.way, bit_a]
  g1 := by simp [Tv.fin, bit_b, Tv.tr, getT, E8b]
  g2 := by
    have : k128 ≠ k129 := by decide
    simp [Tv.fin, bit_c9, Tv.tr, getT, E8b, this]
  c0 := rfl
  u := by
    have h := com_self
    simp [Tv.under, Tv.way, Tv.fin, bit_b, E8b, h]
set_option maxHeartbeats 8000000 in
set_option maxRecDepth 100000 in
theorem alive8_c {M : World → Int → Tv → Prop} (nd : NdV M) (fv : FnV M) (w : World) (hvx : Vars w) : Calls Tryd.prog 10 #[] w (Aye w) := by
  have HVX := Lib.hid hvx
  have HH := Lib.hid (hash_in 8 w (by decide) (by decide))
  clear hvx
  go_enter Tryd.func10, Tryd.ntmps10
  go_wp2_with fail
  refine HH.out.mono ?_
  rintro _ w1 ⟨b, rfl, hb, hH, hB⟩
  have HB1 := Lib.hid hB
  have HN1 := Lib.hid hb
  have HH1 := Lib.hid hH
  have b1 := bldEntry_1
  have b2 := bldEntry_2
  have bk := bldKey_128
  have bt := bsE_two
  have bz := bldKey_none
  have b7 := bldKey_77
  have b9 := bldKey_129
  have sf := sl_first
  clear hb hH hB HH
  go_wp2_with fail
  obtain ⟨G, hG⟩ : ∃ G, G = w1.heap.size + 1 + 1 := ⟨_, rfl⟩
  obtain ⟨ea, hea⟩ : ∃ e, e = e8a (some ⟨w1.heap.size, 0, none⟩) := ⟨_, rfl⟩
  obtain ⟨eb, heb⟩ : ∃ e, e = e8b (some ⟨w1.heap.size + 1, 0, none⟩) := ⟨_, rfl⟩
  obtain ⟨Y, hY⟩ : ∃ Y, Y = ((w1.alloc (.cells #[Value.int .u8 1] 5)).alloc (.cells #[Value.int .u8 2] 5)).alloc (.cells (enC ea ++ enC eb).toArray 37) := ⟨_, rfl⟩
  have hbY : Below w1.heap.size w1 Y := by rw [hY]; exact (((Below.refl _ _).alloc (Nat.le_refl _) _).alloc (by simp) _).alloc (by simp; omega) _
  have hEY : EA Y (some ⟨G, 0, none⟩) [ea, eb] := by
    have hrow : Y.heap[G]? = some (.cells ([ea, eb].flatMap enC).toArray 37 (0, 0)) := by
      rw [hY, hG]
      have := heap_alloc_last ((w1.alloc (.cells #[Value.int .u8 1] 5)).alloc (.cells #[Value.int .u8 2] 5)) (.cells (enC ea ++ enC eb).toArray 37)
      simpa using this
    have hA : Y.heap[w1.heap.size]? = some (.cells (bA [1]) 5 (0, 0)) := by
      rw [hY]
      exact (Below.heap_alloc _ _ _ (by simp; omega)).trans ((Below.heap_alloc _ _ _ (by simp)).trans (heap_alloc_new _ _))
    have hB : Y.heap[w1.heap.size + 1]? = some (.cells (bA [2]) 5 (0, 0)) := by
      rw [hY]
      have := heap_alloc_new (w1.alloc (.cells #[Value.int .u8 1] 5)) (.cells #[Value.int .u8 2] 5)
      rw [World.size_alloc] at this
      exact (Below.heap_alloc _ _ _ (by simp)).trans this
    refine ea_row hrow fun e he => ?_
    simp only [List.mem_cons, List.not_mem_nil, or_false] at he
    rcases he with rfl | rfl
    · rw [hea]; exact ⟨rfl, Nat.le_refl 1, BA_row hA⟩
    · rw [heb]; exact ⟨rfl, Nat.le_refl 1, BA_row hB⟩
  have HME : Hid ([ea, eb].map En.ent = [E8a, E8b] ∧ [ea].map En.ent = [E8a] ∧ ea.v.length ≤ 1000 ∧ eb.v.length ≤ 1000) := by rw [hea, heb]; exact ⟨rfl, rfl, (show 1 ≤ 1000 by decide), (show 1 ≤ 1000 by decide)⟩
  rw [← hG, ← hea, ← heb, ← hY]
  have HBY := Lib.hid (HB1.out.trans (hbY.mono HB1.out.size))
  have HHY := Lib.hid (HH1.out.keep (Keep.of_below (L := fun _ => False) hbY) fun h => h)
  have HVY := Lib.hid ((HVX.out.below HB1.out).below hbY)
  have HEY := Lib.hid hEY
  clear hG hea heb hY hbY hEY HH1 HB1 b1 b2 bt
  have HG1 := Lib.hid (grow_c nd.c 8 b 257 (some ⟨G, 0, none⟩) 2 [ea, eb] 0 0 Y HEY.out (show 2 ≤ 100000 by decide) (fun e he => by
    simp only [List.mem_cons, List.not_mem_nil, or_false] at he
    rcases he with rfl | rfl
    · exact HME.out.2.2.1
    · exact HME.out.2.2.2) (.inr ⟨by decide, by decide, by decide⟩) HHY.out HVY.out (show 0 + (3 * 257 + 2) * 2 ≤ 900000 by decide))
  rw [HME.out.1] at HG1
  refine HG1.out.mono ?_
  rintro _ w4 ⟨_, m4, rfl, ⟨T, rfl, hT, hM⟩, hm4, hH4, hK4⟩
  have HF4 : Hid (Fs M w 8 (some ⟨G, 0, none⟩) [ea, eb] T w4) := ⟨keep_new HBY.out HN1.out hK4, HVY.out.hs HHY.out hK4, HHY.out.ea HEY.out hK4, hM⟩
  have HH4 := Lib.hid hH4
  have HM4 : Hid (m4 ≤ 2000) := Nat.le_trans hm4 (show 0 + (3 * 257 + 2) * 2 ≤ 2000 by decide)
  have HIS : Hid (IsMap [E8a, E8b] T) := ⟨sep_ab, hT⟩
  obtain ⟨v, va, vb, hTT⟩ := two_of hT
  obtain ⟨ad, had⟩ : ∃ a, v = .pointer (some a) := by
    rcases nd.addr hM with h | ⟨a, ha⟩
    · rw [hTT] at h; cases h
    · rw [hTT] at ha; exact ⟨a, ha⟩
  have hMa := (nd.kids (by rw [hTT] at hM; exact hM)).1
  obtain ⟨aa, haa⟩ : ∃ a, va = .pointer (some a) := by
    rcases nd.addr hMa with h | ⟨a, ha⟩
    · cases h
    · exact ⟨a, ha⟩
  subst had haa
  have HTW : Hid (Two T (.pointer (some ad)) (.pointer (some aa)) vb) := by rw [hTT]; exact two_is _ _ _
  clear hT hM hm4 hH4 hK4 HG1 HBY HHY HVY HEY hTT hMa
  rw [HTW.out.val]
  go_wp2_with fail
  have HC := Lib.hid (fv.locate w4 8 _ T z26 HF4.out.ms HIS.out rfl)
  rw [HTW.out.val, HTW.out.f1, HTW.out.d1] at HC
  refine HC.out.mono ?_
  rintro _ w5 ⟨rfl, hB5⟩
  rw [show (Tv.leaf (.pointer (some aa)) E8a).val = .pointer (some aa) from rfl]
  have HF5 := Lib.hid (HF4.out.below nd hB5)
  have HH5 := Lib.hid (HH4.out.keep (Keep.of_below (L := fun _ => False) hB5) fun h => h)
  have HE5 : Hid (EA w5 (some ⟨G, 0, none⟩) [ea]) := fun i e hi => HF5.out.ea i e (by
    cases i with
    | zero => exact hi
    | succ i => simp at hi)
  clear hB5 HC HF4 HH4
  go_wp2_with fail
  have HG2 := Lib.hid (grow_c nd.c 8 b 257 (some ⟨G, 0, none⟩) 2 [ea] 0 m4 w5 HE5.out (show 1 ≤ 100000 by decide) (fun e he => by rw [List.mem_singleton.1 he]; exact HME.out.2.2.1) (.inr ⟨by decide, by decide, (show 256 < (0 : Int) + (257 : Nat) by decide)⟩) HH5.out HF5.out.vars (by have := HM4.out; simp only [List.length_cons, List.length_nil]; omega))
  rw [HME.out.2.1] at HG2
  refine HG2.out.mono ?_
  rintro _ w6 ⟨_, m6, rfl, ⟨T2, rfl, hT2, hM2⟩, hm6, hH6, hK6⟩
  have HF6 := Lib.hid (HF5.out.hs nd HH5.out HN1.out hK6)
  have HM2 := Lib.hid hM2
  have HI2 : Hid (IsMap [E8a] T2) := ⟨sep_a, hT2⟩
  have HD2 : Hid (T2.dep k77 0 = 0) := by
    rw [growT_one] at hT2
    cases T2 with
    | nil => cases hT2
    | inner v a b => cases hT2
    | leaf v e => rfl
  clear hT2 hM2 hm6 hH6 hK6 HG2 HE5 HF5 HH5
  go_wp2_with fail
  have HC := Lib.hid (fv.locate w6 8 _ T2 k77 HM2.out HI2.out rfl)
  rw [HD2.out] at HC
  refine HC.out.mono ?_
  rintro _ w7 ⟨rfl, hB7⟩
  have HF7 := Lib.hid (HF6.out.below nd hB7)
  clear hB7 HC HF6
  go_wp2_with fail
  have HC := Lib.hid (fv.get w7 8 _ T k128 HF7.out.ms HIS.out rfl)
  rw [HTW.out.val, HTW.out.g1] at HC
  refine HC.out.mono ?_
  rintro _ w8 ⟨A8, c8, rfl, _, hB8⟩
  rw [show (valO (some E8b)).length = 1 from rfl, show (some E8b : Option Ent).isSome = true from rfl]
  have HF8 := Lib.hid (HF7.out.below nd hB8)
  clear hB8 HC HF7
  go_wp2_with fail
  have HC := Lib.hid (fv.get w8 8 _ T k129 HF8.out.ms HIS.out rfl)
  rw [HTW.out.val, HTW.out.g2] at HC
  refine HC.out.mono ?_
  rintro _ w9 ⟨A9, c9, rfl, _, hB9⟩
  rw [show (valO none).length = 0 from rfl, show (none : Option Ent).isSome = false from rfl]
  have HF9 := Lib.hid (HF8.out.below nd hB9)
  clear hB9 HC HF8
  go_wp2_with fail
  have HC := Lib.hid (nd.kind w9 8 (T.fin z26 0) (ms_fin nd z26 HF9.out.ms))
  rw [HTW.out.f1] at HC
  refine HC.out.mono ?_
  rintro _ wa ⟨rfl, hBa⟩
  rw [show kindT (Tv.leaf (.pointer (some aa)) E8a).tr = 1 from rfl]
  have HFa := Lib.hid (HF9.out.below nd hBa)
  clear hBa HC HF9
  go_wp2_with fail
  have HC := Lib.hid (fv.siblings wa 8 _ T z26 HFa.out.ms HIS.out rfl)
  rw [HTW.out.val, HTW.out.s1] at HC
  refine HC.out.mono ?_
  rintro _ wb ⟨Ab, cb, rfl, _, hBb⟩
  have HFb := Lib.hid (HFa.out.below nd hBb)
  clear hBb HC HFa
  go_wp2_with fail
  have HC := Lib.hid (fv.way wb 8 _ T z26 HFb.out.ms HIS.out rfl)
  rw [HTW.out.val, HTW.out.w1] at HC
  refine HC.out.mono ?_
  rintro _ wc ⟨Ac, cc, rfl, _, hBc⟩
  have HFc := Lib.hid (HFb.out.below nd hBc)
  clear hBc HC HFb
  go_wp2_with fail
  have HC := Lib.hid (fv.child wc 8 T 0 HFc.out.ms)
  rw [HTW.out.val, HTW.out.c0] at HC
  refine HC.out.mono ?_
  rintro _ wd ⟨rfl, hBd⟩
  rw [show (Tv.leaf (.pointer (some aa)) E8a).val = .pointer (some aa) from rfl]
  have HFd := Lib.hid (HFc.out.below nd hBd)
  clear hBd HC HFc
  go_wp2_with fail
  have HC := Lib.hid (fv.under wd 8 _ T k128 256 HFd.out.ms HIS.out rfl)
  rw [show limB 256 = 256 from rfl, HTW.out.val, HTW.out.u] at HC
  have HCK : Hid (∀ w', M w' 8 (T.under k128 256) → Calls Tryd.prog 14 #[vb] w' fun e w'' => e = .returned (.int .i64 1) ∧ Below w'.heap.size w' w'') := fun w' h => by
    have := nd.kind w' 8 _ h
    rw [HTW.out.u] at this
    exact this
  refine HC.out.mono ?_
  rintro _ we ⟨rfl, hBe⟩
  rw [show (Tv.leaf vb E8b).val = vb from rfl]
  have HFe := Lib.hid (HFd.out.below nd hBe)
  clear hBe HC HFd
  go_wp2_with fail
  refine (HCK.out we (ms_under nd k128 256 HFe.out.ms)).mono ?_
  rintro _ wf ⟨rfl, hBf⟩
  have HFf := Lib.hid (HFe.out.below nd hBf)
  clear hBf HFe
  go_wp2_with fail
  go_ret
  exact ⟨rfl, HFf.out.bel⟩
end Go.Proofs.YtpnpdllkcglpnaaDoor
