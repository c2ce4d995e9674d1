/- The walk of FindUnder over contracts (by program: gen-tpl8-laws.py). -/
import Derived.Test.YtpnpdllkcglpnaaDoorOk
namespace Go.Proofs.YtpnpdllkcglpnaaDoor
open Go.RowKit

/-- A key with a number in memory. -/
theorem kb_key {X w' : World} {g : Nat} {t : TypeId} {fr : Nat × Nat} {k : List UInt8} {d : Int} (h : Below X.heap.size X w') (hg : X.heap[g]? = some (.cells (k.map bv ++ [Value.int .i64 d]).toArray t fr)) (hk : k.length = 32) :
    ldA 24 w' (.pointer (some ⟨g, 0, none⟩)) = .ok (.value (.agg (bA k))) w' := by
  have hg2 : w'.heap[g]? = some (.cells (k.map bv ++ [Value.int .i64 d]).toArray t fr) := by rw [h.block g (lt_of_heap hg)]; exact hg
  have := ldA_of (t := 24) (w := w') (b := g) (o := 0) (cs := k.map bv) (fun j v hv => by
    rw [Nat.zero_add, cell_of_cells hg2]
    have hlt := (List.getElem?_eq_some_iff.1 hv).1
    simp only [List.getElem?_toArray]
    rw [List.getElem?_append_left hlt]
    exact hv) Tryd.underlying24 (by rw [List.length_map, hk]; exact infoKey)
  exact this
theorem kb_bits {X w' : World} {g : Nat} {t : TypeId} {fr : Nat × Nat} {k : List UInt8} {d : Int} (h : Below X.heap.size X w') (hg : X.heap[g]? = some (.cells (k.map bv ++ [Value.int .i64 d]).toArray t fr)) (hk : k.length = 32) :
    w'.cell? ⟨g, 32, none⟩ = some (.int .i64 d) := by
  have hg2 : w'.heap[g]? = some (.cells (k.map bv ++ [Value.int .i64 d]).toArray t fr) := by rw [h.block g (lt_of_heap hg)]; exact hg
  rw [cell_of_cells hg2]
  simp only [List.getElem?_toArray]
  rw [List.getElem?_append_right (by simp [hk])]
  simp [hk]
set_option maxHeartbeats 16000000 in
set_option maxRecDepth 100000 in
theorem under_in {M : World → Int → Tv → Prop} (nd : NdV M) (fv : FnV M) (n : Int) (A : Option Addr) (c : Nat) (es : List En) (k : List UInt8) (d : Int) (hk : k.length = 32) (W : World) (hA : EA W A es) (hl : es.length ≤ 12) (hvl : ∀ e ∈ es, e.v.length ≤ 1000) (hf : fewK (es.map En.ent) = true) (hvx : Vars W) (h0 : 0 ≤ n) (h1 : n ≤ 256) :
    Calls Tryd.prog 7 #[.int .i64 n, .slice A es.length c, .agg (k.map bv ++ [Value.int .i64 d]).toArray] W (Aye W) := by
  obtain ⟨X, hX⟩ : ∃ X, X = W.alloc (.cells (k.map bv ++ [Value.int .i64 d]).toArray 55) := ⟨_, rfl⟩
  have hb0 : Below W.heap.size W X := by rw [hX]; exact (Below.refl _ _).alloc (Nat.le_refl _) _
  have hgX : X.heap[W.heap.size]? = some (.cells (k.map bv ++ [Value.int .i64 d]).toArray 55 (0, 0)) := by rw [hX]; exact heap_alloc_new W _
  have LK : Hid (∀ w', Below X.heap.size X w' → ldA 24 w' (.pointer (some ⟨W.heap.size, 0, none⟩)) = .ok (.value (.agg (bA k))) w') := fun w' h => kb_key h hgX hk
  have LB : Hid (∀ w', Below X.heap.size X w' → w'.cell? ⟨W.heap.size, 32, none⟩ = some (.int .i64 d)) := fun w' h => kb_bits h hgX hk
  clear hgX
  have HX := Lib.hid hX
  have HB0 := Lib.hid hb0
  have HT := Lib.hid (tree_in nd n A c es X (hA.below hb0) hl hvl hf (hvx.below hb0) h0 h1)
  have HVE : Hid (∀ e ∈ ofE es, e.v.length ≤ 1000) := fun e he => hvl e (ofE_mem he)
  have HLE : Hid ((ofE es).length ≤ 12) := Nat.le_trans (ofE_len es) hl
  clear hA hvl hf hvx hX hb0
  go_enter Tryd.func7, Tryd.ntmps7
  go_wp2_with fail
  rw [← HX.out]
  clear HX
  refine HT.out.mono ?_
  rintro _ w2 ⟨A2, c2, T, rfl, hc2, hI, hF⟩
  have HI := Lib.hid hI
  have HF2 := Lib.hid hF
  have HC2 := Lib.hid hc2
  obtain ⟨O, hO⟩ : ∃ O, O = ofE es := ⟨_, rfl⟩
  rw [← hO] at HI HF2 HVE HLE HC2 ⊢
  clear hc2 hI hF HT hO
  have HH := Lib.hid (hash_in n w2 h0 h1)
  go_wp2_with fail
  refine HH.out.mono ?_
  rintro _ w3 ⟨b, rfl, hb, hH, hB⟩
  have HF3 := Lib.hid (HF2.out.below nd hB)
  have HH3 := Lib.hid hH
  have HN3 := Lib.hid (Nat.le_trans HF2.out.bel.size hb)
  have lb := LB.out w3 HF3.out.bel
  have lk := LK.out w3 HF3.out.bel
  clear hb hH hB HH HF2
  have hcs : d < 0 ∨ (∃ q : Nat, q ≤ 256 ∧ d = (q : Int)) ∨ 256 < d := by
    rcases Int.lt_or_le d 0 with h | h
    · exact .inl h
    · rcases Int.lt_or_le 256 d with h2 | h2
      · exact .inr (.inr h2)
      · exact .inr (.inl ⟨d.toNat, by omega, by omega⟩)
  rcases hcs with hd | ⟨q, hq, rfl⟩ | hd
  · have HLB : Hid (limB d = 0) := by show _ = _; unfold limB; omega
    have HD : Hid (0 ≤ 256) := by show _ ≤ _; omega
    have q1 : decide (0 < d) = false := decide_eq_false (by omega)
    have HC := Lib.hid (under8_c A2 c2 O k 0 w3 HF3.out.ea (by have := HLE.out; omega) hk HD.out)
    have HUB : Hid (lenT (T.under k 0).tr = (underE O k 0).length ∧ digT n (T.under k 0).tr = rootK (257 - 0) n ((underE O k 0).map En.ent) 0) := by
      have := under_both HI.out.sep (HI.out.at k) HD.out n
      rw [← underE_ent, List.length_map] at this
      exact this
    go_wp2_with fail
    refine HC.out.mono ?_
    rintro _ w4 ⟨v4, rfl, hO4, hB⟩
    obtain ⟨A4, c4, rfl, hc4, hE4⟩ := hO4.ea (fun e he => (HF3.out.ea.mem e (underE_mem he)).below hB)
    have HF4 := Lib.hid (HF3.out.below nd hB)
    have HH4 := Lib.hid (HH3.out.keep (Keep.of_below (L := fun _ => False) hB) fun h => h)
    have HE4 := Lib.hid hE4
    obtain ⟨V, hV⟩ : ∃ V, V = underE O k 0 := ⟨_, rfl⟩
    have HVV : Hid (V.length ≤ 12 ∧ ∀ e ∈ V, e.v.length ≤ 1000) := by
      rw [hV]
      exact ⟨Nat.le_trans (underE_len _ _ _) HLE.out, fun e he => HVE.out e (underE_mem he)⟩
    rw [← hV] at HE4 HUB ⊢
    clear hO4 hc4 hE4 hB HC HF3 HH3 lb lk hV
    have lb := LB.out w4 HF4.out.bel
    have lk := LK.out w4 HF4.out.bel
    have HC := Lib.hid (fv.under w4 n _ T k d HF4.out.ms HI.out hk)
    rw [HLB.out] at HC
    go_wp2_with fail
    refine HC.out.mono ?_
    rintro _ w5 ⟨rfl, hB⟩
    have HF5 := Lib.hid (HF4.out.below nd hB)
    have HH5 := Lib.hid (HH4.out.keep (Keep.of_below (L := fun _ => False) hB) fun h => h)
    have HE5 := Lib.hid (HE4.out.below hB)
    have HAL := Lib.hid (alive8_c nd fv w5 HF5.out.vars)
    clear hB HC HF4 HH4 HE4 lb lk
    go_wp2_with fail
    refine HAL.out.mono ?_
    rintro _ w6 ⟨rfl, hB⟩
    have HF6 := Lib.hid (HF5.out.below nd hB)
    have HH6 := Lib.hid (HH5.out.keep (Keep.of_below (L := fun _ => False) hB) fun h => h)
    have HE6 := Lib.hid (HE5.out.below hB)
    have HC := Lib.hid (nd.len w6 n (T.under k 0) (ms_under nd k 0 HF6.out.ms) (by rw [HUB.out.1]; have := HVV.out.1; omega))
    rw [HUB.out.1] at HC
    clear hB HAL HF5 HH5 HE5
    go_wp2_with fail
    refine HC.out.mono ?_
    rintro _ w7 ⟨rfl, hB⟩
    have HF7 := Lib.hid (HF6.out.below nd hB)
    have HH7 := Lib.hid (HH6.out.keep (Keep.of_below (L := fun _ => False) hB) fun h => h)
    have HE7 := Lib.hid (HE6.out.below hB)
    have ql : ((V.length : Int) == (V.length : Int)) = true := beq_self_eq_true _
    obtain ⟨g, hg⟩ : ∃ g, g = digT n (T.under k 0).tr := ⟨_, rfl⟩
    have hgl : g.length = 32 := by rw [hg]; exact digT_len _ _
    have HC := Lib.hid (nd.digest w7 b n 0 (T.under k 0) HH7.out (by decide) HF7.out.vars (ms_under nd k 0 HF7.out.ms))
    have HGR : Hid (rootK (257 - 0) n (V.map En.ent) 0 = g) := by show _ = _; rw [hg]; exact HUB.out.2.symm
    rw [← hg] at HC
    clear hB HF6 HH6 HE6 hg
    go_wp2_with fail
    refine HC.out.mono ?_
    rintro _ w8 ⟨m8, rfl, _, _, _, hK⟩
    have HE8 := Lib.hid (HH7.out.ea HE7.out hK)
    have HF8 := Lib.hid (HF7.out.hs nd HH7.out HN3.out hK)
    have HC := Lib.hid (root7_c n (257 - 0) A4 c4 V 0 w8 HE8.out (by have := HVV.out.1; omega) HVV.out.2 (.inr ⟨by omega, by omega, by omega⟩))
    rw [HGR.out] at HC
    have qg : ∀ x y w, eqA .eql 49 x y w (.agg (bA g)) (.agg (bA g)) = .ok (.value (.bool true)) w := fun x y w => by rw [eqDig g g hgl hgl, decide_eq_true rfl]
    clear hK HF7 HH7 HE7
    go_wp2_with fail
    refine HC.out.mono ?_
    rintro _ w9 ⟨rfl, hB⟩
    have HF9 := Lib.hid (HF8.out.below nd hB)
    clear hB HC HF8 HE8
    go_wp2_with fail
    go_ret
    exact ⟨rfl, HB0.out.trans (HF9.out.bel.mono HB0.out.size)⟩
  · have HLB : Hid (limB (q : Int) = q) := by show _ = _; unfold limB; omega
    have HD : Hid (q ≤ 256) := by show _ ≤ _; omega
    have q1 : (0 : Int) ≤ (q : Int) := by omega
    have q2 : (q : Int) ≤ 256 := by omega
    have HC := Lib.hid (under8_c A2 c2 O k q w3 HF3.out.ea (by have := HLE.out; omega) hk HD.out)
    have HUB : Hid (lenT (T.under k q).tr = (underE O k q).length ∧ digT n (T.under k q).tr = rootK (257 - q) n ((underE O k q).map En.ent) (q : Int)) := by
      have := under_both HI.out.sep (HI.out.at k) HD.out n
      rw [← underE_ent, List.length_map] at this
      exact this
    go_wp2_with fail
    refine HC.out.mono ?_
    rintro _ w4 ⟨v4, rfl, hO4, hB⟩
    obtain ⟨A4, c4, rfl, hc4, hE4⟩ := hO4.ea (fun e he => (HF3.out.ea.mem e (underE_mem he)).below hB)
    have HF4 := Lib.hid (HF3.out.below nd hB)
    have HH4 := Lib.hid (HH3.out.keep (Keep.of_below (L := fun _ => False) hB) fun h => h)
    have HE4 := Lib.hid hE4
    obtain ⟨V, hV⟩ : ∃ V, V = underE O k q := ⟨_, rfl⟩
    have HVV : Hid (V.length ≤ 12 ∧ ∀ e ∈ V, e.v.length ≤ 1000) := by
      rw [hV]
      exact ⟨Nat.le_trans (underE_len _ _ _) HLE.out, fun e he => HVE.out e (underE_mem he)⟩
    rw [← hV] at HE4 HUB ⊢
    clear hO4 hc4 hE4 hB HC HF3 HH3 lb lk hV
    have lb := LB.out w4 HF4.out.bel
    have lk := LK.out w4 HF4.out.bel
    have HC := Lib.hid (fv.under w4 n _ T k (q : Int) HF4.out.ms HI.out hk)
    rw [HLB.out] at HC
    go_wp2_with fail
    refine HC.out.mono ?_
    rintro _ w5 ⟨rfl, hB⟩
    have HF5 := Lib.hid (HF4.out.below nd hB)
    have HH5 := Lib.hid (HH4.out.keep (Keep.of_below (L := fun _ => False) hB) fun h => h)
    have HE5 := Lib.hid (HE4.out.below hB)
    have HAL := Lib.hid (alive8_c nd fv w5 HF5.out.vars)
    clear hB HC HF4 HH4 HE4 lb lk
    go_wp2_with fail
    refine HAL.out.mono ?_
    rintro _ w6 ⟨rfl, hB⟩
    have HF6 := Lib.hid (HF5.out.below nd hB)
    have HH6 := Lib.hid (HH5.out.keep (Keep.of_below (L := fun _ => False) hB) fun h => h)
    have HE6 := Lib.hid (HE5.out.below hB)
    have HC := Lib.hid (nd.len w6 n (T.under k q) (ms_under nd k q HF6.out.ms) (by rw [HUB.out.1]; have := HVV.out.1; omega))
    rw [HUB.out.1] at HC
    clear hB HAL HF5 HH5 HE5
    go_wp2_with fail
    refine HC.out.mono ?_
    rintro _ w7 ⟨rfl, hB⟩
    have HF7 := Lib.hid (HF6.out.below nd hB)
    have HH7 := Lib.hid (HH6.out.keep (Keep.of_below (L := fun _ => False) hB) fun h => h)
    have HE7 := Lib.hid (HE6.out.below hB)
    have ql : ((V.length : Int) == (V.length : Int)) = true := beq_self_eq_true _
    obtain ⟨g, hg⟩ : ∃ g, g = digT n (T.under k q).tr := ⟨_, rfl⟩
    have hgl : g.length = 32 := by rw [hg]; exact digT_len _ _
    have HC := Lib.hid (nd.digest w7 b n 0 (T.under k q) HH7.out (by decide) HF7.out.vars (ms_under nd k q HF7.out.ms))
    have HGR : Hid (rootK (257 - q) n (V.map En.ent) (q : Int) = g) := by show _ = _; rw [hg]; exact HUB.out.2.symm
    rw [← hg] at HC
    clear hB HF6 HH6 HE6 hg
    go_wp2_with fail
    refine HC.out.mono ?_
    rintro _ w8 ⟨m8, rfl, _, _, _, hK⟩
    have HE8 := Lib.hid (HH7.out.ea HE7.out hK)
    have HF8 := Lib.hid (HF7.out.hs nd HH7.out HN3.out hK)
    have HC := Lib.hid (root7_c n (257 - q) A4 c4 V (q : Int) w8 HE8.out (by have := HVV.out.1; omega) HVV.out.2 (.inr ⟨by omega, by omega, by omega⟩))
    rw [HGR.out] at HC
    have qg : ∀ x y w, eqA .eql 49 x y w (.agg (bA g)) (.agg (bA g)) = .ok (.value (.bool true)) w := fun x y w => by rw [eqDig g g hgl hgl, decide_eq_true rfl]
    clear hK HF7 HH7 HE7
    go_wp2_with fail
    refine HC.out.mono ?_
    rintro _ w9 ⟨rfl, hB⟩
    have HF9 := Lib.hid (HF8.out.below nd hB)
    clear hB HC HF8 HE8
    go_wp2_with fail
    go_ret
    exact ⟨rfl, HB0.out.trans (HF9.out.bel.mono HB0.out.size)⟩
  · have HLB : Hid (limB d = 256) := by show _ = _; unfold limB; omega
    have HD : Hid (256 ≤ 256) := by show _ ≤ _; omega
    have q1 : (0 : Int) < d := by omega
    have HC := Lib.hid (under8_c A2 c2 O k 256 w3 HF3.out.ea (by have := HLE.out; omega) hk HD.out)
    have HUB : Hid (lenT (T.under k 256).tr = (underE O k 256).length ∧ digT n (T.under k 256).tr = rootK (257 - 256) n ((underE O k 256).map En.ent) 256) := by
      have := under_both HI.out.sep (HI.out.at k) HD.out n
      rw [← underE_ent, List.length_map] at this
      exact this
    go_wp2_with fail
    refine HC.out.mono ?_
    rintro _ w4 ⟨v4, rfl, hO4, hB⟩
    obtain ⟨A4, c4, rfl, hc4, hE4⟩ := hO4.ea (fun e he => (HF3.out.ea.mem e (underE_mem he)).below hB)
    have HF4 := Lib.hid (HF3.out.below nd hB)
    have HH4 := Lib.hid (HH3.out.keep (Keep.of_below (L := fun _ => False) hB) fun h => h)
    have HE4 := Lib.hid hE4
    obtain ⟨V, hV⟩ : ∃ V, V = underE O k 256 := ⟨_, rfl⟩
    have HVV : Hid (V.length ≤ 12 ∧ ∀ e ∈ V, e.v.length ≤ 1000) := by
      rw [hV]
      exact ⟨Nat.le_trans (underE_len _ _ _) HLE.out, fun e he => HVE.out e (underE_mem he)⟩
    rw [← hV] at HE4 HUB ⊢
    clear hO4 hc4 hE4 hB HC HF3 HH3 lb lk hV
    have lb := LB.out w4 HF4.out.bel
    have lk := LK.out w4 HF4.out.bel
    have HC := Lib.hid (fv.under w4 n _ T k d HF4.out.ms HI.out hk)
    rw [HLB.out] at HC
    go_wp2_with fail
    refine HC.out.mono ?_
    rintro _ w5 ⟨rfl, hB⟩
    have HF5 := Lib.hid (HF4.out.below nd hB)
    have HH5 := Lib.hid (HH4.out.keep (Keep.of_below (L := fun _ => False) hB) fun h => h)
    have HE5 := Lib.hid (HE4.out.below hB)
    have HAL := Lib.hid (alive8_c nd fv w5 HF5.out.vars)
    clear hB HC HF4 HH4 HE4 lb lk
    go_wp2_with fail
    refine HAL.out.mono ?_
    rintro _ w6 ⟨rfl, hB⟩
    have HF6 := Lib.hid (HF5.out.below nd hB)
    have HH6 := Lib.hid (HH5.out.keep (Keep.of_below (L := fun _ => False) hB) fun h => h)
    have HE6 := Lib.hid (HE5.out.below hB)
    have HC := Lib.hid (nd.len w6 n (T.under k 256) (ms_under nd k 256 HF6.out.ms) (by rw [HUB.out.1]; have := HVV.out.1; omega))
    rw [HUB.out.1] at HC
    clear hB HAL HF5 HH5 HE5
    go_wp2_with fail
    refine HC.out.mono ?_
    rintro _ w7 ⟨rfl, hB⟩
    have HF7 := Lib.hid (HF6.out.below nd hB)
    have HH7 := Lib.hid (HH6.out.keep (Keep.of_below (L := fun _ => False) hB) fun h => h)
    have HE7 := Lib.hid (HE6.out.below hB)
    have ql : ((V.length : Int) == (V.length : Int)) = true := beq_self_eq_true _
    obtain ⟨g, hg⟩ : ∃ g, g = digT n (T.under k 256).tr := ⟨_, rfl⟩
    have hgl : g.length = 32 := by rw [hg]; exact digT_len _ _
    have HC := Lib.hid (nd.digest w7 b n 0 (T.under k 256) HH7.out (by decide) HF7.out.vars (ms_under nd k 256 HF7.out.ms))
    have HGR : Hid (rootK (257 - 256) n (V.map En.ent) 256 = g) := by show _ = _; rw [hg]; exact HUB.out.2.symm
    rw [← hg] at HC
    clear hB HF6 HH6 HE6 hg
    go_wp2_with fail
    refine HC.out.mono ?_
    rintro _ w8 ⟨m8, rfl, _, _, _, hK⟩
    have HE8 := Lib.hid (HH7.out.ea HE7.out hK)
    have HF8 := Lib.hid (HF7.out.hs nd HH7.out HN3.out hK)
    have HC := Lib.hid (root7_c n (257 - 256) A4 c4 V 256 w8 HE8.out (by have := HVV.out.1; omega) HVV.out.2 (.inr ⟨by omega, by omega, by omega⟩))
    rw [HGR.out] at HC
    have qg : ∀ x y w, eqA .eql 49 x y w (.agg (bA g)) (.agg (bA g)) = .ok (.value (.bool true)) w := fun x y w => by rw [eqDig g g hgl hgl, decide_eq_true rfl]
    clear hK HF7 HH7 HE7
    go_wp2_with fail
    refine HC.out.mono ?_
    rintro _ w9 ⟨rfl, hB⟩
    have HF9 := Lib.hid (HF8.out.below nd hB)
    clear hB HC HF8 HE8
    go_wp2_with fail
    go_ret
    exact ⟨rfl, HB0.out.trans (HF9.out.bel.mono HB0.out.size)⟩
set_option maxHeartbeats 4000000 in
set_option maxRecDepth 100000 in
/-- Other bits, or entries that are not few: alive. -/
theorem under_out {M : World → Int → Tv → Prop} (nd : NdV M) (fv : FnV M) (n : Int) (A : Option Addr) (c : Nat) (es : List En) (k : List UInt8) (d : Int) (W : World) (hA : EA W A es) (hvx : Vars W) (h : (n < 0 ∨ 256 < n) ∨ fewK (es.map En.ent) = false) :
    Calls Tryd.prog 7 #[.int .i64 n, .slice A es.length c, .agg (k.map bv ++ [Value.int .i64 d]).toArray] W (Aye W) := by
  obtain ⟨X, hX⟩ : ∃ X, X = W.alloc (.cells (k.map bv ++ [Value.int .i64 d]).toArray 55) := ⟨_, rfl⟩
  have hb0 : Below W.heap.size W X := by rw [hX]; exact (Below.refl _ _).alloc (Nat.le_refl _) _
  have HX := Lib.hid hX
  have HB0 := Lib.hid hb0
  have HVX := Lib.hid (hvx.below hb0)
  have HT := Lib.hid (tree_out n A c es X (hA.below hb0) h)
  have HAL := Lib.hid (fun w h => alive8_c nd fv w h)
  clear hA hvx h hX hb0
  go_enter Tryd.func7, Tryd.ntmps7
  go_wp2_with fail
  rw [← HX.out]
  clear HX
  refine HT.out.mono ?_
  rintro _ w2 ⟨rfl, hB⟩
  have HB := Lib.hid hB
  clear hB HT
  go_wp2_with fail
  refine (HAL.out w2 (HVX.out.below HB.out)).mono ?_
  rintro _ w3 ⟨rfl, hB3⟩
  have HB3 := Lib.hid (HB.out.trans (hB3.mono HB.out.size))
  clear hB3
  go_wp2_with fail
  go_ret
  exact ⟨rfl, HB0.out.trans (HB3.out.mono HB0.out.size)⟩
theorem under_w {M : World → Int → Tv → Prop} (nd : NdV M) (fv : FnV M) (n : Int) (A : Option Addr) (c : Nat) (es : List En) (k : List UInt8) (d : Int) (hk : k.length = 32) (W : World) (hA : EA W A es) (hvx : Vars W) :
    Calls Tryd.prog 7 #[.int .i64 n, .slice A es.length c, .agg (k.map bv ++ [Value.int .i64 d]).toArray] W (Aye W) := by
  rcases Classical.em ((n < 0 ∨ 256 < n) ∨ fewK (es.map En.ent) = false) with h | h
  · exact under_out nd fv n A c es k d W hA hvx h
  · have hf : fewK (es.map En.ent) = true := by
      cases hq : fewK (es.map En.ent) with
      | true => rfl
      | false => exact absurd (.inr hq) h
    have hl := few_len hf
    rw [List.length_map] at hl
    exact under_in nd fv n A c es k d hk W hA hl (fun e he => Nat.le_trans (few_val hf e.ent (List.mem_map.2 ⟨e, he, rfl⟩)) (by decide)) hf hvx (by omega) (by omega)
end Go.Proofs.YtpnpdllkcglpnaaDoor
