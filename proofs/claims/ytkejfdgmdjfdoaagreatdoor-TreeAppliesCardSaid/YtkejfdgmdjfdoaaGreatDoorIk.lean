import Derived.Test.YtkejfdgmdjfdoaaGreatDoorT2
import Derived.Test.YtkejfdgmdjfdoaaGreatDoorIj
import Derived.Test.YtkejfdgmdjfdoaaGreatDoorG1
namespace Go.Proofs.YtkejfdgmdjfdoaaGreatDoor
set_option linter.unusedSimpArgs false
set_option linter.unusedVariables false
open Go.RowKit
theorem doO_keeps {l : List Ent} {x : On} (ha : Asc l) (hl : Len32 l) : Asc (doO l x) ∧ Len32 (doO l x) := by
 unfold doO
 split
 ·split
  ·rename_i h
   have := stepC_keeps (c := ⟨x.k, x.v, false⟩) ha hl (rightK_zero h).1
   exact this
  ·exact ⟨ha, hl⟩
 ·split
  ·exact ⟨ha, hl⟩
  ·split
   ·split
    ·rename_i h
     have := stepC_keeps (c := ⟨x.k, x.v, true⟩) ha hl h
     exact this
    ·exact ⟨ha, hl⟩
   ·split
    ·rename_i h
     exact appC_keeps _ ha hl fun c hc => by
      obtain ⟨u, hu, rfl⟩ := List.mem_map.1 hc
      exact (rightK_zero ((checkU_right h).1 u hu)).1
    ·exact ⟨ha, hl⟩
structure RI (M : World → Int → Tv → Prop) (Tr : World → Nat → Nat → Int → Tv → Prop) (w : World) (p b : Nat) (n : Int) (l : List Ent) (k c : Nat) (A : Option Addr) (es : List En) (X : World) : Prop where
 ea : EA X A es
 map : es.map En.ent = l
 hvl : ∀ e ∈ es, e.v.length ≤ 70000
 len : es.length ≤ k
 asc : Asc l
 ts : TS M Tr X p b n c l
 bel : Below w.heap.size w X
 new : w.heap.size ≤ p ∧ w.heap.size ≤ b
theorem TS.len32 {M : World → Int → Tv → Prop} {Tr : World → Nat → Nat → Int → Tv → Prop} {w : World} {p b : Nat} {n : Int} {c : Nat} {l : List Ent} (h : TS M Tr w p b n c l) : Len32 l := by
 obtain ⟨⟨T, _, _, h3⟩, _⟩ := h
 exact h3.sep.len
theorem RI.below {M : World → Int → Tv → Prop} {Tr : World → Nat → Nat → Int → Tv → Prop} (nd : NdV M) (tv : TrV M Tr) {w X : World} {p b : Nat} {n : Int} {l : List Ent} {k c : Nat} {A : Option Addr} {es : List En} {X' : World} (h : RI M Tr w p b n l k c A es X) (hb : Below X.heap.size X X') : RI M Tr w p b n l k c A es X' :=
 ⟨h.ea.below hb, h.map, h.hvl, h.len, h.asc, h.ts.below nd tv hb, h.bel.trans (hb.mono h.bel.size), h.new⟩
theorem RI.start {M : World → Int → Tv → Prop} {Tr : World → Nat → Nat → Int → Tv → Prop} {w X : World} {p b : Nat} {n : Int} (hT : Tr X p b n .nil) (hH : Hs X b n 0) (hM : M X n .nil) (hb : Below w.heap.size w X) (hn : w.heap.size ≤ p ∧ w.heap.size ≤ b) : RI M Tr w p b n [] 0 0 none [] X :=
 ⟨fun i e hi => by simp at hi, rfl, fun e he => (by cases he), Nat.le_refl _, List.Pairwise.nil, ⟨⟨.nil, hT, hM, map_none⟩, 0, Nat.le_refl _, hH⟩, hb, hn⟩
theorem RI.keepBP {M : World → Int → Tv → Prop} {Tr : World → Nat → Nat → Int → Tv → Prop} {w X : World} {p b : Nat} {n : Int} {l : List Ent} {k c : Nat} {A : Option Addr} {es : List En} {X' : World} (h : RI M Tr w p b n l k c A es X) (hk : Keep (fun i => i = b ∨ i = p) X X') : Below w.heap.size w X' :=
 h.bel.trans (hk.below h.bel.size fun i hi => by rcases hi with e | e <;> (rw [e]; first | exact h.new.2 | exact h.new.1))
theorem RI.do {M : World → Int → Tv → Prop} {Tr : World → Nat → Nat → Int → Tv → Prop} (nd : NdV M) (tv : TrV M Tr) {w X : World} {p b : Nat} {n : Int} {l : List Ent} {k c : Nat} {A : Option Addr} {es : List En} (h : RI M Tr w p b n l k c A es X) (cA : Nat) (x : On) (hV : Vars w) (hE : Ft.ErrVar w) (hk : k ≤ 480) (hc : c ≤ 19000000) (hx : OnOk X x) (hf : x.k.length ≤ 100 ∧ x.v.length ≤ 70000 ∧ x.us.length ≤ 20 ∧ ∀ u ∈ x.us, u.k.length ≤ 100 ∧ u.v.length ≤ 70000) :
  Calls Tryz.prog 13 #[ptr p, .slice A es.length cA, .agg #[.int .i64 x.kind, .slice x.A x.k.length x.c, .slice x.B x.v.length x.e, .slice x.U x.us.length x.cu]] X fun e w' => ∃ (A' : Option Addr) (cA' : Nat) (es' : List En), e = .returned (.tuple #[.slice A' es'.length cA', .bool false]) ∧ RI M Tr w p b n (doO l x) (k + 20) (c + 90000) A' es' w' ∧ Keep (fun i => i = b ∨ i = p) X w' := by
 obtain ⟨⟨T, h1, h2, h3⟩, c', hc', h4⟩ := h.ts
 have hp : DoPre M Tr X p b n c' A es x T := ⟨h1, h4, by omega, hV.below h.bel, hE.below h.bel, h2, by rw [h.map]; exact h3, by rw [h.map]; exact h.asc, by have := h.len; omega, h.ea, h.hvl, hx, hf⟩
 refine (do_c nd tv X p b n c' A cA es x T hp).mono ?_
 rintro e w' ⟨A', cA', es', rfl, hE', hm, hv, hl, hts, hkp⟩
 rw [h.map] at hm hts
 obtain ⟨hT', c2, hc2, hh2⟩ := hts
 exact ⟨A', cA', es', rfl, ⟨hE', hm, hv, by have := h.len; omega, (doO_keeps h.asc h.ts.len32).1, ⟨hT', c2, by omega, hh2⟩, h.keepBP hkp, h.new⟩, hkp⟩
theorem RI.differs {M : World → Int → Tv → Prop} {Tr : World → Nat → Nat → Int → Tv → Prop} (nd : NdV M) (tv : TrV M Tr) {w X : World} {p b : Nat} {n : Int} {l : List Ent} {k c : Nat} {A : Option Addr} {es : List En} (h : RI M Tr w p b n l k c A es X) (cA : Nat) (hV : Vars w) (hk : k ≤ 500) (hc : c ≤ 20000000) :
  Calls Tryz.prog 14 #[ptr p, .int .i64 n, .slice A es.length cA] X fun e w' => e = .returned (.int .i64 0) ∧ RI M Tr w p b n l k (c + 10) A es w' ∧ Keep (fun i => i = b) X w' := by
 obtain ⟨⟨T, h1, h2, h3⟩, c', hc', h4⟩ := h.ts
 refine (differs_c nd tv X p b n c' T A cA es h1 h4 (by omega) (hV.below h.bel) h2 (by rw [h.map]; exact h3) (by rw [h.map]; exact h.asc) h.ea (by have := h.len; omega) h.hvl).mono ?_
 rintro e w' ⟨rfl, hi⟩
 obtain ⟨c2, hc2, hh2⟩ := hi.hs
 have hkp := hi.keep.mono (M := fun i => i = b ∨ i = p) fun _ h => .inl h
 refine ⟨rfl, ⟨h.ea.ctl hi.keep (fun i e => by have e2 : i = b := e; rw [e2]; exact h4.ctl), h.map, h.hvl, h.len, h.asc, ⟨⟨T, tv.keep h1 hi.keep (tv.ne h1 h4), nd.hs h2 h4 hi.keep, h3⟩, c2, by omega, hh2⟩, h.keepBP hkp, h.new⟩, hi.keep⟩
def runO (os : List On) : List Ent := os.foldl doO []
theorem runO_take {os : List On} {m : Nat} {x : On} (h : os[m]? = some x) : runO (os.take (m + 1)) = doO (runO (os.take m)) x := by
 obtain ⟨hi, rfl⟩ := List.getElem?_eq_some_iff.1 h
 unfold runO
 rw [List.take_succ_eq_append_getElem hi, List.foldl_append]
 rfl
theorem on_block {w : World} {g : Nat} {t : TypeId} {x : On} (h : w.heap[g]? = some (.cells #[.int .i64 x.kind, .slice x.A x.k.length x.c, .slice x.B x.v.length x.e, .slice x.U x.us.length x.cu] t (0, 0))) : w.cell? ⟨g, 0, none⟩ = some (.int .i64 x.kind) ∧ w.cell? ⟨g, 1, none⟩ = some (.slice x.A x.k.length x.c) ∧ w.cell? ⟨g, 2, none⟩ = some (.slice x.B x.v.length x.e) ∧ w.cell? ⟨g, 3, none⟩ = some (.slice x.U x.us.length x.cu) :=
 ⟨by rw [cell_of_cells h]; rfl, by rw [cell_of_cells h]; rfl, by rw [cell_of_cells h]; rfl, by rw [cell_of_cells h]; rfl⟩
theorem range_dec (n : Int) : decide (0 ≤ n ∧ n ≤ 256) = true ∨ decide (0 ≤ n ∧ n ≤ 256) = false := by cases decide (0 ≤ n ∧ n ≤ 256) <;> simp
theorem RI.more {M : World → Int → Tv → Prop} {Tr : World → Nat → Nat → Int → Tv → Prop} {w X : World} {p b : Nat} {n : Int} {l : List Ent} {k c : Nat} {A : Option Addr} {es : List En} {d : Nat} (h : RI M Tr w p b n l k c A es X) (hd : c ≤ d) : RI M Tr w p b n l k d A es X :=
 ⟨h.ea, h.map, h.hvl, h.len, h.asc, ⟨h.ts.1, h.ts.2.imp fun _ h => ⟨Nat.le_trans h.1 hd, h.2⟩⟩, h.bel, h.new⟩
end Go.Proofs.YtkejfdgmdjfdoaaGreatDoor
