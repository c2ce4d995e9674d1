/- Several texts in one: Ad Ae Af Ag Ah. -/
import Derived.Test.YtnmbbfndboohjaaGreatDoorAA
import Derived.Test.YtnmbbfndboohjaaGreatDoorM4
import Derived.Test.YtnmbbfndboohjaaGreatDoorHH
import Derived.Test.YtnmbbfndboohjaaGreatDoorMO
import Derived.Test.YtnmbbfndboohjaaGreatDoorM6
import Derived.Test.YtnmbbfndboohjaaGreatDoorMM
import Derived.Test.YtnmbbfndboohjaaGreatDoorMT
/- The reference of layer 15: Depths, Check, Supports, Equal, Expand (by program: gen-tpl15-ref.py). -/
namespace Go.Proofs.YtnmbbfndboohjaaGreatDoor
open Go.RowKit

/-- The order of the reference's questions. -/
theorem chk_split (p : Pf) : (p.kind ≠ 0 ∧ p.kind ≠ 1 ∧ chkP p = 7) ∨ ((p.kind = 0 ∨ p.kind = 1) ∧ (
    (p.dep < 0 ∧ chkP p = 5) ∨ (0 ≤ p.dep ∧ 256 < p.dep ∧ chkP p = 5) ∨ (0 ≤ p.dep ∧ p.dep ≤ 256 ∧ (
      (p.kind = 0 ∧ p.lf ≠ z64 ∧ chkP p = 5) ∨ ((p.kind = 1 ∨ p.lf = z64) ∧ (
        ((Bt.setZ (keyF p.bm) 256).length ≠ p.sib.length ∧ chkP p = 5) ∨ ((Bt.setZ (keyF p.bm) 256).length = p.sib.length ∧ (
          (0 < (Bt.setZ (keyF p.bm) 256).length ∧ (Bt.lastTo (keyF p.bm) 256 ≠ p.dep - 1 ∧ chkP p = 5 ∨ Bt.lastTo (keyF p.bm) 256 = p.dep - 1 ∧ chkP p = 0)) ∨
          ((Bt.setZ (keyF p.bm) 256).length = 0 ∧ (0 < p.dep ∧ chkP p = 5 ∨ p.dep = 0 ∧ chkP p = 0)))))))))) := by
  rcases chkP_cases p with ⟨h1, h2, h3⟩ | ⟨hk, h⟩
  · exact .inl ⟨h2, h3, h1⟩
  · refine .inr ⟨hk, ?_⟩
    have bad : ∀ {q : Prop}, (p.good → False) → chkP p = 5 := fun hn => by
      rcases h with ⟨h1, _⟩ | ⟨_, h2⟩
      · exact h1
      · exact (hn h2).elim
    have good : p.good → chkP p = 0 := fun hg => by
      rcases h with ⟨_, h2⟩ | ⟨h1, _⟩
      · exact (h2 hg).elim
      · exact h1
    by_cases d1 : p.dep < 0
    · exact .inl ⟨d1, bad (q := True) fun hg => by have := hg.1; omega⟩
    · by_cases d2 : 256 < p.dep
      · exact .inr (.inl ⟨by omega, d2, bad (q := True) fun hg => by have := hg.2.1; omega⟩)
      · refine .inr (.inr ⟨by omega, by omega, ?_⟩)
        by_cases d3 : p.kind = 0 ∧ p.lf ≠ z64
        · exact .inl ⟨d3.1, d3.2, bad (q := True) fun hg => d3.2 (hg.2.2.1 d3.1)⟩
        · have d3' : p.kind = 1 ∨ p.lf = z64 := by
            rcases hk with hk | hk
            · exact .inr (Classical.byContradiction fun hn => d3 ⟨hk, hn⟩)
            · exact .inl hk
          have g3 : p.kind = 0 → p.lf = z64 := fun h0 => by
            rcases d3' with h1 | h1
            · omega
            · exact h1
          refine .inr ⟨d3', ?_⟩
          by_cases d4 : (Bt.setZ (keyF p.bm) 256).length = p.sib.length
          · refine .inr ⟨d4, ?_⟩
            rcases setZ_last (keyF p.bm) 256 with ⟨s1, s2⟩ | ⟨s1, _⟩
            · refine .inr ⟨by rw [s1]; rfl, ?_⟩
              by_cases d5 : 0 < p.dep
              · exact .inl ⟨d5, bad (q := True) fun hg => by have := hg.2.2.2.2; omega⟩
              · exact .inr ⟨by omega, good ⟨by omega, by omega, g3, d4, by omega⟩⟩
            · refine .inl ⟨s1, ?_⟩
              by_cases d5 : Bt.lastTo (keyF p.bm) 256 = p.dep - 1
              · exact .inr ⟨d5, good ⟨by omega, by omega, g3, d4, d5⟩⟩
              · exact .inl ⟨d5, bad (q := True) fun hg => d5 hg.2.2.2.2⟩
          · exact .inl ⟨d4, bad (q := True) fun hg => d4 hg.2.2.2.1⟩
end Go.Proofs.YtnmbbfndboohjaaGreatDoor

/- The reference of layer 15: Supports, Equal. -/
namespace Go.Proofs.YtnmbbfndboohjaaGreatDoor
open Go.RowKit

theorem ret_b15 {a b : Bool} (h : a = b) : Ending.returned (.bool a) = .returned (.bool b) := by rw [h]
theorem three_below (w : World) (o p q : Obj) : Below w.heap.size w (((w.alloc o).alloc p).alloc q) := ((Bt.two_below w o p).alloc (by simp; omega) q)
end Go.Proofs.YtnmbbfndboohjaaGreatDoor

/- The reference of layer 15: Equal, Expand (by program: gen-tpl15-equal.py). -/
namespace Go.Proofs.YtnmbbfndboohjaaGreatDoor
open Go.RowKit

/-- Two proofs are equal. -/
def eqP (p q : Pf) : Bool := decide (p.kind = q.kind ∧ p.dep = q.dep ∧ p.lf = q.lf ∧ p.bm = q.bm ∧ p.sib = q.sib)
theorem eqP_no {p q : Pf} (h : p.kind ≠ q.kind ∨ p.dep ≠ q.dep ∨ p.lf ≠ q.lf ∨ p.bm ≠ q.bm ∨ p.sib ≠ q.sib) : eqP p q = false := by
  unfold eqP
  refine decide_eq_false ?_
  rintro ⟨h1, h2, h3, h4, h5⟩
  rcases h with h | h | h | h | h
  · exact h h1
  · exact h h2
  · exact h h3
  · exact h h4
  · exact h h5
theorem eqP_refl (p : Pf) : eqP p p = true := decide_eq_true ⟨rfl, rfl, rfl, rfl, rfl⟩
end Go.Proofs.YtnmbbfndboohjaaGreatDoor

/- What the law of layer 15 asks of the program: Prove, Check, Supports, Clone, Equal, Expand. -/
namespace Go.Proofs.YtnmbbfndboohjaaGreatDoor
open Go.RowKit

/-- A new row of digests that nothing older holds. -/
def NewD (w' : World) (B : Nat) (A : Option Addr) (c : Nat) (ds : List (List UInt8)) : Prop := ds.length ≤ c ∧ (ds = [] ∨ OwnD w' B (.slice A ds.length c) ds)
theorem NewD.ds {w' : World} {B : Nat} {A : Option Addr} {c : Nat} {ds : List (List UInt8)} (h : NewD w' B A c ds) (hl : ∀ s ∈ ds, s.length = 32) : DS w' A ds := by
  rcases h.2 with rfl | h
  · exact DS.nil _ _
  · obtain ⟨A', c', e, h1, _⟩ := h.ds hl
    cases e
    exact h1
theorem NewD.of {w' : World} {B : Nat} {v : Value} {ds : List (List UInt8)} (h : OwnD w' B v ds) (hl : ∀ s ∈ ds, s.length = 32) : ∃ A c, v = .slice A ds.length c ∧ NewD w' B A c ds := by
  have h' := h
  obtain ⟨A, c, rfl, _, hc⟩ := h.ds hl
  exact ⟨A, c, rfl, hc, .inr h'⟩
structure PfV (M : World → Int → Tv → Prop) : Prop where
  prove : ∀ (w : World) (b : Nat) (n : Int) (c : Nat) (l : List Ent) (T : Tv) (k : List UInt8), Hs w b n c → c ≤ 500000 → Vars w → M w n T → IsMap l T → k.length = 32 →
    Calls Tryz.prog 8 #[ptr b, T.val, .agg (bA k)] w fun e w' => ∃ A cp c', e = .returned (.agg (pfC (prK n l k (T.dep k 0)) (.slice A (prK n l k (T.dep k 0)).sib.length cp))) ∧ NewD w' w.heap.size A cp (prK n l k (T.dep k 0)).sib ∧ c' ≤ c + 1000 ∧ Hs w' b n c' ∧ Keep (fun i => i = b) w w'
  check : ∀ (w : World) (p : Pf) (A : Option Addr) (c : Nat), p.Ok → DS w A p.sib → p.sib.length ≤ c → p.sib.length ≤ 1000000 →
    Calls Tryz.prog 59 #[.agg (pfC p (.slice A p.sib.length c))] w fun e w' => e = .returned (.int .i64 (chkP p)) ∧ Below w.heap.size w w'
  expand : ∀ (w : World) (b : Nat) (n : Int) (m : Nat) (p : Pf) (A : Option Addr) (c : Nat), Hs w b n m → m ≤ 500000 → Vars w → p.Ok → DS w A p.sib → p.sib.length ≤ c → p.sib.length ≤ 1000000 → chkP p = 0 →
    Calls Tryz.prog 34 #[ptr b, .agg (pfC p (.slice A p.sib.length c))] w fun e w' => ∃ A' c' m', e = .returned (.tuple #[.slice A' (expL n p.bm p.sib p.dep.toNat).length c', .int .i64 0]) ∧ NewD w' w.heap.size A' c' (expL n p.bm p.sib p.dep.toNat) ∧ m' ≤ m + 1000 ∧ Hs w' b n m' ∧ Keep (fun i => i = b) w w'
  expandBad : ∀ (w : World) (b : Nat) (n : Int) (m : Nat) (p : Pf) (A : Option Addr) (c : Nat), Hs w b n m → m ≤ 500000 → Vars w → p.Ok → DS w A p.sib → p.sib.length ≤ c → p.sib.length ≤ 1000000 → chkP p ≠ 0 →
    Calls Tryz.prog 34 #[ptr b, .agg (pfC p (.slice A p.sib.length c))] w fun e w' => ∃ A' c' m', e = .returned (.tuple #[.slice A' 0 c', .int .i64 (chkP p)]) ∧ m' ≤ m + 1000 ∧ Hs w' b n m' ∧ Keep (fun i => i = b) w w'
theorem expL_mem {n : Int} {bm : List UInt8} {sib : List (List UInt8)} (hb : (Bt.setZ (keyF bm) 256).length = sib.length) (hs : ∀ s ∈ sib, s.length = 32) : ∀ {d : Nat}, d ≤ 256 → ∀ s ∈ expL n bm sib d, s.length = 32
  | 0, _, s, h => by simp [expL] at h
  | d + 1, hd, s, h => by
    unfold expL at h
    rcases List.mem_append.1 h with h | h
    · exact expL_mem hb hs (by omega) s h
    · rw [List.mem_singleton] at h
      subst h
      by_cases hbit : Bt.bit (keyF bm) d = 1
      · rw [if_pos hbit]
        have := cntB_lt (show d < 256 by omega) hbit
        rw [List.getD_eq_getElem?_getD, List.getElem?_eq_getElem (by omega)]
        exact hs _ (List.getElem_mem _)
      · rw [if_neg hbit]; exact dig_len _ _
end Go.Proofs.YtnmbbfndboohjaaGreatDoor

/- alive of layer 15 over contracts. -/
namespace Go.Proofs.YtnmbbfndboohjaaGreatDoor
open Go.RowKit

def k7 : List UInt8 := 7 :: List.replicate 31 0
def k255 : List UInt8 := 255 :: List.replicate 31 0
theorem bldKey_7 (w : World) : bldA 24 w #[(0, .int .u8 7)] = .ok (.value (.agg (bA k7))) w := by kernel_rfl
theorem bldKey_255 (w : World) : bldA 24 w #[(0, .int .u8 255)] = .ok (.value (.agg (bA k255))) w := by kernel_rfl
theorem bldDig_none (w : World) : bldA 31 w #[] = .ok (.value (.agg (bA z26))) w := by kernel_rfl
def e0 : En := ⟨z26, none, [], 0⟩
def eF : En := ⟨k255, none, [], 0⟩
def E0 : Ent := ⟨z26, []⟩
def EF : Ent := ⟨k255, []⟩
theorem bldEntry_z (w : World) : bldA 71 w #[] = .ok (.value (.agg (enC e0).toArray)) w := by kernel_rfl
theorem bldEntry_ff (w : World) : bldA 71 w #[(0, .agg (bA k255))] = .ok (.value (.agg (enC eF).toArray)) w := by kernel_rfl
theorem bsE_ff (w : World) : bsE w 2 #[(0, .agg (enC e0).toArray), (1, .agg (enC eF).toArray)] = .ok (.value (.slice (some ⟨w.heap.size, 0, none⟩) 2 2)) (w.alloc (.cells ([e0, eF].flatMap enC).toArray 71)) := by kernel_rfl
theorem cmp_ff : cmpK k255 z26 = 1 := by decide
theorem put_ff : ([e0, eF].map En.ent).foldl putK [] = [E0, EF] := by
  have h : z26 ≠ k255 := by decide
  show putK (putK [] E0) EF = _
  rw [show putK [] E0 = [E0] from rfl]
  unfold putK
  rw [show rmK [E0] EF.k = [E0] by simp [rmK, E0, EF, h]]
  simp [insK, E0, EF, cmp_ff]
theorem bit_ff : bitK k255 0 = 1 := by decide
theorem ea_ff {w : World} : EA (w.alloc (.cells ([e0, eF].flatMap enC).toArray 71)) (some ⟨w.heap.size, 0, none⟩) [e0, eF] := ea_row (heap_alloc_new w _) fun e he => by
  simp only [List.mem_cons, List.not_mem_nil, or_false] at he
  rcases he with rfl | rfl
  · exact ⟨rfl, Nat.le_refl 0, fun j x hj => by simp [e0] at hj⟩
  · exact ⟨rfl, Nat.le_refl 0, fun j x hj => by simp [eF] at hj⟩
theorem dK_ff : dK [E0, EF] k128 1 = [EF] := by
  show partK [E0, EF] 0 (bitK k128 0) = _
  rw [bit_b]
  simp [partK, E0, EF, bit_a, bit_ff]
theorem supP_no (p : Pf) (k v : List UInt8) : supP p k v false = supNo p k := by unfold supP; rw [if_neg (by simp)]
theorem supP_yes (p : Pf) (k v : List UInt8) : supP p k v true = supYes p k v := by unfold supP; rw [if_pos rfl]
/-- The two proofs of the chapter's examples. -/
structure Ex15 (p q : Pf) : Prop where
  pk : p.kind = 0
  pd : p.dep = 0
  ps : p.sib.length = 0
  po : p.Ok
  qk : q.kind = 1
  qd : q.dep = 1
  qs : q.sib.length = 1
  qo : q.Ok
  yes : supP q k128 z26 false = true
  no : supP q k255 z26 false = false
  chk : chkP q = 0
  ex : (expL 256 q.bm q.sib q.dep.toNat).length = 1
  eq : eqP q q = true
  ne : eqP p q = false
theorem ex15 (h : Sep 0 [E0, EF]) : Ex15 (prK 256 [] k7 0) (prK 256 [E0, EF] k128 1) := by
  have hf : kindO (dK [E0, EF] k128 1) = 1 := by rw [dK_ff]; rfl
  have h2 : (dK [E0, EF] k128 1).length ≤ 1 := by rw [dK_ff]; decide
  have h1 : ∀ j, j < 1 → 2 ≤ (dK [E0, EF] k128 j).length := fun j hj => by
    obtain rfl : j = 0 := by omega
    exact Nat.le_refl 2
  refine ⟨rfl, rfl, rfl, prK_ok sep_none _, hf, rfl, ?_, prK_ok h _, ?_, ?_, prK_good (by decide) h1 h2, rfl, eqP_refl _, ?_⟩
  · show (sibS 256 [E0, EF] k128 1).length = 1
    rw [sibS_yes (show sibK [E0, EF] k128 0 ≠ [] from ?_)]
    · rfl
    · show partK [E0, EF] 0 (1 - bitK k128 0) ≠ []
      rw [bit_b]
      simp [partK, E0, EF, bit_a]
  · rw [supP_no, sup_no h (by decide) h2 rfl]
    have : ([E0, EF].find? fun e => decide (e.k = k128)) = none := find_key.2 fun e he => by
      simp only [List.mem_cons, List.not_mem_nil, or_false] at he
      rcases he with rfl | rfl
      · show z26 ≠ k128; decide
      · show k255 ≠ k128; decide
    rw [this]; rfl
  · rw [supP_no]
    refine decide_eq_false ?_
    rintro (h3 | ⟨_, h4, _⟩)
    · have : kindO (dK [E0, EF] k128 1) = 0 := h3
      rw [hf] at this; exact absurd this (by decide)
    · refine h4 ?_
      show (leafO 256 (dK [E0, EF] k128 1)).take 32 = k255
      rw [dK_ff]; rfl
  · refine eqP_no (.inl ?_)
    show kindO [] ≠ kindO (dK [E0, EF] k128 1)
    rw [hf]; decide
theorem dep_ff {T : Tv} (h : IsMap [E0, EF] T) : T.dep k128 0 = 1 := dep_eq h.sep (h.at k128) (fun j hj => by
  obtain rfl : j = 0 := by omega
  exact Nat.le_refl 2) (by rw [dK_ff]; decide)
end Go.Proofs.YtnmbbfndboohjaaGreatDoor
