/- The program: Check, its six closures (by program: gen-tpl15-check.py). -/
import Derived.BigQuiet
import Derived.Test.YtbkokcfmndiedaaGreatDoorAD
import Derived.Test.YtbkokcfmndiedaaGreatDoorHH
namespace Go.Proofs.YtbkokcfmndiedaaGreatDoor
open Go.RowKit

/-! ### The form, condition by condition -/
theorem lastTo_ge (k : Nat → Nat) : ∀ n, -1 ≤ Bt.lastTo k n
  | 0 => Int.le_refl _
  | n + 1 => by
    have := lastTo_ge k n
    unfold Bt.lastTo
    split <;> omega
theorem lastTo_mono (k : Nat → Nat) {i : Nat} (h : Bt.bit k i = 1) : ∀ n, i < n → (i : Int) ≤ Bt.lastTo k n
  | 0, hi => by omega
  | n + 1, hi => by
    unfold Bt.lastTo
    split
    · omega
    · by_cases e : i = n
      · subst e; contradiction
      · exact lastTo_mono k h n (by omega)
theorem lastTo_bit (k : Nat → Nat) : ∀ n (i : Nat), Bt.lastTo k n = (i : Int) → Bt.bit k i = 1
  | 0, i, h => by
    have h' : (-1 : Int) = (i : Int) := h
    omega
  | n + 1, i, h => by
    unfold Bt.lastTo at h
    split at h
    · rename_i hb
      have : i = n := by omega
      rw [this]; exact hb
    · exact lastTo_bit k n i h
theorem last_dep {k : Nat → Nat} {d : Int} (h0 : 0 ≤ d) (h1 : d ≤ 256) : Bt.lastTo k 256 = d - 1 ↔ Bt.lastTo k 256 < d ∧ (d = 0 ∨ Bt.hasK k (d - 1) = true) := by
  have hg := lastTo_ge k 256
  obtain ⟨m, rfl⟩ : ∃ m : Nat, d = m := ⟨d.toNat, by omega⟩
  cases m with
  | zero => constructor <;> intro h <;> simp at h ⊢ <;> omega
  | succ m =>
    have hm : m < 256 := by omega
    rw [show ((m + 1 : Nat) : Int) - 1 = (m : Int) by omega, Bt.hasK_in k m hm]
    constructor
    · intro h
      exact ⟨by omega, .inr (decide_eq_true (lastTo_bit k 256 m h))⟩
    · rintro ⟨h2, h3 | h3⟩
      · omega
      · have := lastTo_mono k (of_decide_eq_true h3) 256 hm
        omega
/-! ### The array of conditions -/
@[go_sem ↓] theorem execOp_storeCd (ρ : Operand → Value) (dst : Option Tmp) (x y : Operand) (type : TypeId) (pos : String) (after : Array Edge) (guard : Option (Nat × Bool)) (w : World) :
    Sem.run Tryz.prog (execOp ρ { dst, op := .store 97 x y, type, pos, after, guard }) w = stA 97 w (ρ x) (ρ y) := rfl
@[go_sem ↓] theorem execOp_buildCd (ρ : Operand → Value) (dst : Option Tmp) (parts : Array (Nat × Operand)) (type : TypeId) (pos : String) (after : Array Edge) (guard : Option (Nat × Bool)) (w : World) :
    Sem.run Tryz.prog (execOp ρ { dst, op := .build 97 parts, type, pos, after, guard }) w = bldA 97 w (parts.map fun x => (x.1, ρ x.2)) := rfl
@[go_sem ↓] theorem execOp_loadCs (ρ : Operand → Value) (dst : Option Tmp) (x : Operand) (type : TypeId) (pos : String) (after : Array Edge) (guard : Option (Nat × Bool)) (w : World) :
    Sem.run Tryz.prog (execOp ρ { dst, op := .load 98 x, type, pos, after, guard }) w = ldA 98 w (ρ x) := rfl
@[go_sem ↓] theorem execOp_storeCs (ρ : Operand → Value) (dst : Option Tmp) (x y : Operand) (type : TypeId) (pos : String) (after : Array Edge) (guard : Option (Nat × Bool)) (w : World) :
    Sem.run Tryz.prog (execOp ρ { dst, op := .store 98 x y, type, pos, after, guard }) w = stA 98 w (ρ x) (ρ y) := rfl
@[go_sem ↓] theorem execOp_buildCs (ρ : Operand → Value) (dst : Option Tmp) (parts : Array (Nat × Operand)) (type : TypeId) (pos : String) (after : Array Edge) (guard : Option (Nat × Bool)) (w : World) :
    Sem.run Tryz.prog (execOp ρ { dst, op := .build 98 parts, type, pos, after, guard }) w = bldA 98 w (parts.map fun x => (x.1, ρ x.2)) := rfl
def cdC (n : Int) (v : Value) : Array Value := #[.int .i64 n, v]
def csC (b0 b1 : Nat) : Array Value := #[.int .i64 7, .func (.func 47) #[] #[.pointer (some ⟨b0, 0, none⟩)], .int .i64 5, .func (.func 48) #[] #[.pointer (some ⟨b0, 0, none⟩)], .int .i64 5, .func (.func 49) #[] #[.pointer (some ⟨b0, 0, none⟩)], .int .i64 5, .func (.func 50) #[] #[.pointer (some ⟨b1, 0, none⟩), .pointer (some ⟨b0, 0, none⟩)], .int .i64 5, .func (.func 52) #[] #[.pointer (some ⟨b0, 0, none⟩), .pointer (some ⟨b1, 0, none⟩)], .int .i64 5, .func (.func 54) #[] #[.pointer (some ⟨b0, 0, none⟩), .pointer (some ⟨b1, 0, none⟩)]]
def zCs : Array Value := #[.int .i64 0, .nilFunc, .int .i64 0, .nilFunc, .int .i64 0, .nilFunc, .int .i64 0, .nilFunc, .int .i64 0, .nilFunc, .int .i64 0, .nilFunc]
def zCd : Array Value := #[.int .i64 0, .nilFunc]
theorem infoCd : (Tryz.prog.info? 97).map (·.size) = some 2 := by kernel_rfl
theorem infoCs : (Tryz.prog.info? 98).map (·.size) = some 12 := by kernel_rfl
theorem zeroCd : ∀ w, (zeroValue 97).run Tryz.prog w = .ok (.agg zCd) w := fun _ => by kernel_rfl
theorem zeroCs : ∀ w, (zeroValue 98).run Tryz.prog w = .ok (.agg zCs) w := fun _ => by kernel_rfl
theorem bldCd (n : Int) (g : Fn) (cs : Array Value) (w : World) : bldA 97 w #[(0, .int .i64 n), (1, .func g #[] cs)] = .ok (.value (.agg #[.int .i64 n, .func g #[] cs])) w := by kernel_rfl
theorem bldCs (b0 b1 : Nat) (w : World) : bldA 98 w #[(0, .agg #[.int .i64 7, .func (.func 47) #[] #[.pointer (some ⟨b0, 0, none⟩)]]), (1, .agg #[.int .i64 5, .func (.func 48) #[] #[.pointer (some ⟨b0, 0, none⟩)]]), (2, .agg #[.int .i64 5, .func (.func 49) #[] #[.pointer (some ⟨b0, 0, none⟩)]]), (3, .agg #[.int .i64 5, .func (.func 50) #[] #[.pointer (some ⟨b1, 0, none⟩), .pointer (some ⟨b0, 0, none⟩)]]), (4, .agg #[.int .i64 5, .func (.func 52) #[] #[.pointer (some ⟨b0, 0, none⟩), .pointer (some ⟨b1, 0, none⟩)]]), (5, .agg #[.int .i64 5, .func (.func 54) #[] #[.pointer (some ⟨b0, 0, none⟩), .pointer (some ⟨b1, 0, none⟩)]])] = .ok (.value (.agg (csC b0 b1))) w := by kernel_rfl
theorem csC_size (b0 b1 : Nat) : (csC b0 b1).size = 12 := rfl
theorem csC_one (b0 b1 : Nat) : (csC b0 b1).all (·.oneCell') = true := by simp [csC, Value.oneCell']
theorem cd_one (n : Int) (g : Fn) (cs : Array Value) : (#[Value.int .i64 n, .func g #[] cs] : Array Value).all (·.oneCell') = true := by simp [Value.oneCell']
theorem ixCs0 (b0 b1 : Nat) (w : World) : (Instr.index 98 (.agg (csC b0 b1)) (.int .i64 0)).run Tryz.prog w = .ok (.agg #[.int .i64 7, .func (.func 47) #[] #[.pointer (some ⟨b0, 0, none⟩)]]) w := by kernel_rfl
theorem ixCs1 (b0 b1 : Nat) (w : World) : (Instr.index 98 (.agg (csC b0 b1)) (.int .i64 1)).run Tryz.prog w = .ok (.agg #[.int .i64 5, .func (.func 48) #[] #[.pointer (some ⟨b0, 0, none⟩)]]) w := by kernel_rfl
theorem ixCs2 (b0 b1 : Nat) (w : World) : (Instr.index 98 (.agg (csC b0 b1)) (.int .i64 2)).run Tryz.prog w = .ok (.agg #[.int .i64 5, .func (.func 49) #[] #[.pointer (some ⟨b0, 0, none⟩)]]) w := by kernel_rfl
theorem ixCs3 (b0 b1 : Nat) (w : World) : (Instr.index 98 (.agg (csC b0 b1)) (.int .i64 3)).run Tryz.prog w = .ok (.agg #[.int .i64 5, .func (.func 50) #[] #[.pointer (some ⟨b1, 0, none⟩), .pointer (some ⟨b0, 0, none⟩)]]) w := by kernel_rfl
theorem ixCs4 (b0 b1 : Nat) (w : World) : (Instr.index 98 (.agg (csC b0 b1)) (.int .i64 4)).run Tryz.prog w = .ok (.agg #[.int .i64 5, .func (.func 52) #[] #[.pointer (some ⟨b0, 0, none⟩), .pointer (some ⟨b1, 0, none⟩)]]) w := by kernel_rfl
theorem ixCs5 (b0 b1 : Nat) (w : World) : (Instr.index 98 (.agg (csC b0 b1)) (.int .i64 5)).run Tryz.prog w = .ok (.agg #[.int .i64 5, .func (.func 54) #[] #[.pointer (some ⟨b0, 0, none⟩), .pointer (some ⟨b1, 0, none⟩)]]) w := by kernel_rfl
def CdAt (w : World) (g : Nat) (n : Int) (v : Value) : Prop := w.heap[g]? = some (.cells #[.int .i64 n, v] 97 (0, 0))
theorem CdAt.errno {w : World} {g : Nat} {n : Int} {v : Value} (h : CdAt w g n v) : w.cell? ⟨g, 0, none⟩ = some (.int .i64 n) := by rw [cell_of_cells h]; rfl
theorem CdAt.holds {w : World} {g : Nat} {n : Int} {v : Value} (h : CdAt w g n v) : w.cell? ⟨g, 1, none⟩ = some v := by rw [cell_of_cells h]; rfl

/-! ### The closures -/
set_option linter.unusedSimpArgs false in
set_option maxHeartbeats 4000000 in
set_option maxRecDepth 100000 in
theorem pck1 (w : World) (b0 : Nat) (p : Pf) (s : Value) (hP : PfAt w b0 p s) :
    Calls Tryz.prog 47 #[.pointer (some ⟨b0, 0, none⟩)] w fun e w' => e = .returned (.bool (decide (p.kind = 0 ∨ p.kind = 1))) ∧ Below w.heap.size w w' := by
  have l0 := hP.kind
  obtain ⟨k, hk⟩ : ∃ k, k = p.kind := ⟨_, rfl⟩
  rw [← hk] at l0 ⊢
  clear hk hP
  by_cases h0 : k = 0
  · have e0 : (k == 0) = true := by simpa using h0
    have HE : Hid (decide (k = 0 ∨ k = 1) = true) := decide_eq_true (.inl h0)
    clear h0
    go_enter Tryz.func47, Tryz.ntmps47
    go_wp2
    go_ret
    exact ⟨ret_b15 HE.out.symm, Below.refl _ _⟩
  · have e0 : (k == 0) = false := by simpa using h0
    obtain ⟨q, hq⟩ : ∃ q, q = (k == 1) := ⟨_, rfl⟩
    have HE : Hid (decide (k = 0 ∨ k = 1) = q) := by
      show _ = _
      rw [hq]
      by_cases h1 : k = 1
      · rw [show (k == 1) = true from by simpa using h1]; exact decide_eq_true (.inr h1)
      · rw [show (k == 1) = false from by simpa using h1]; exact decide_eq_false fun h => h.elim h0 h1
    have e1 : (k == 1) = q := hq.symm
    clear h0 hq
    go_enter Tryz.func47, Tryz.ntmps47
    go_wp2
    go_ret
    exact ⟨ret_b15 HE.out.symm, Below.refl _ _⟩
set_option linter.unusedSimpArgs false in
set_option maxHeartbeats 4000000 in
set_option maxRecDepth 100000 in
theorem pck2 (w : World) (b0 : Nat) (p : Pf) (s : Value) (hP : PfAt w b0 p s) :
    Calls Tryz.prog 48 #[.pointer (some ⟨b0, 0, none⟩)] w fun e w' => e = .returned (.bool (decide (0 ≤ p.dep ∧ p.dep ≤ 256))) ∧ Below w.heap.size w w' := by
  have l0 := hP.dep
  obtain ⟨k, hk⟩ : ∃ k, k = p.dep := ⟨_, rfl⟩
  rw [← hk] at l0 ⊢
  clear hk hP
  by_cases h0 : 0 ≤ k
  · have e0 : decide (0 ≤ k) = true := decide_eq_true h0
    obtain ⟨q, hq⟩ : ∃ q, q = decide (k ≤ 256) := ⟨_, rfl⟩
    have HE : Hid (decide (0 ≤ k ∧ k ≤ 256) = q) := by
      show _ = _
      rw [hq]
      by_cases h1 : k ≤ 256
      · rw [decide_eq_true h1]; exact decide_eq_true ⟨h0, h1⟩
      · rw [decide_eq_false h1]; exact decide_eq_false fun h => h1 h.2
    have e1 : decide (k ≤ 256) = q := hq.symm
    clear h0 hq
    go_enter Tryz.func48, Tryz.ntmps48
    go_wp2
    go_ret
    exact ⟨ret_b15 HE.out.symm, Below.refl _ _⟩
  · have e0 : decide (0 ≤ k) = false := decide_eq_false h0
    have HE : Hid (decide (0 ≤ k ∧ k ≤ 256) = false) := decide_eq_false fun h => h0 h.1
    clear h0
    go_enter Tryz.func48, Tryz.ntmps48
    go_wp2
    go_ret
    exact ⟨ret_b15 HE.out.symm, Below.refl _ _⟩
set_option linter.unusedSimpArgs false in
set_option maxHeartbeats 4000000 in
set_option maxRecDepth 100000 in
theorem pck3 (w : World) (b0 : Nat) (p : Pf) (s : Value) (hp : p.Ok) (hP : PfAt w b0 p s) :
    Calls Tryz.prog 49 #[.pointer (some ⟨b0, 0, none⟩)] w fun e w' => e = .returned (.bool (decide (p.kind = 0 → p.lf = z64))) ∧ Below w.heap.size w w' := by
  have l0 := hP.kind
  have l1 := hP.leaf hp
  have el := fun x y w => eqLeaf p.lf z64 hp.lf rfl x y w
  have zl := bldLeaf_none
  obtain ⟨k, hk⟩ : ∃ k, k = p.kind := ⟨_, rfl⟩
  obtain ⟨l, hl⟩ : ∃ l, l = p.lf := ⟨_, rfl⟩
  rw [← hk] at l0 ⊢
  rw [← hl] at l1 el ⊢
  obtain ⟨q, hq⟩ : ∃ q, q = decide (l = z64) := ⟨_, rfl⟩
  simp only [← hq] at el
  by_cases h0 : k = 0
  · have e0 : (k != 0) = false := by simpa using h0
    have HE : Hid (decide (k = 0 → l = z64) = q) := by
      show _ = _
      rw [hq]
      by_cases h1 : l = z64
      · rw [decide_eq_true h1]; exact decide_eq_true fun _ => h1
      · rw [decide_eq_false h1]; exact decide_eq_false fun h => h1 (h h0)
    clear h0 hq hk hl hP hp
    go_enter Tryz.func49, Tryz.ntmps49
    go_wp2
    go_ret
    exact ⟨ret_b15 HE.out.symm, Below.refl _ _⟩
  · have e0 : (k != 0) = true := by simpa using h0
    have HE : Hid (decide (k = 0 → l = z64) = true) := decide_eq_true fun h => absurd h h0
    clear h0 hq hk hl hP hp el l1
    go_enter Tryz.func49, Tryz.ntmps49
    go_wp2
    go_ret
    exact ⟨ret_b15 HE.out.symm, Below.refl _ _⟩
set_option linter.unusedSimpArgs false in
set_option maxHeartbeats 4000000 in
set_option maxRecDepth 100000 in
theorem pck4 (w : World) (b0 b1 : Nat) (p : Pf) (s : Value) (k : Nat → Nat) (hk : Bt.Byt k) (hP : PfAt w b0 p s) (hB : Bt.BmAt w b1 k) :
    Calls Tryz.prog 50 #[.pointer (some ⟨b1, 0, none⟩), .pointer (some ⟨b0, 0, none⟩)] w fun e w' => e = .returned (.bool (decide (Bt.lastTo k 256 < p.dep))) ∧ Below w.heap.size w w' := by
  have l0 := fun x : Later w => (hP.below x.h hP.lt).dep
  have l1 := fun x : Later w => (hB.below x.h hB.lt).ld
  have HLC : Hid (∀ w, Calls Tryz.prog 51 #[.agg (Bt.kc k)] w fun e w' => e = .returned (.int .i64 (Bt.lastTo k 256)) ∧ Below w.heap.size w w') := Bt.last_c k hk
  obtain ⟨m, hm⟩ : ∃ m, m = Bt.lastTo k 256 := ⟨_, rfl⟩
  obtain ⟨d, hd⟩ : ∃ d, d = p.dep := ⟨_, rfl⟩
  rw [← hm] at HLC ⊢
  rw [← hd] at l0 ⊢
  obtain ⟨q, hq⟩ : ∃ q, q = decide (m < d) := ⟨_, rfl⟩
  rw [← hq]
  have e0 : decide (m < d) = q := hq.symm
  clear hq hd hm hP hB hk
  go_enter Tryz.func50, Tryz.ntmps50
  go_wp2_with fail
  refine wp_region_later (by kernel_rfl) (by kernel_rfl) ?_
  repeat (go_big_quiet_step ((go_at_call 51; exact Later.call (HLC.out _))))
  refine wpQuiet_nil ?_
  rintro _ ⟨x, rfl⟩
  have HB2 := Lib.hid x.h
  clear l0 l1
  go_wp2
  go_ret
  exact ⟨rfl, HB2.out⟩
set_option linter.unusedSimpArgs false in
set_option maxHeartbeats 4000000 in
set_option maxRecDepth 100000 in
theorem pck5 (w : World) (b0 b1 : Nat) (p : Pf) (s : Value) (k : Nat → Nat) (hk : Bt.Byt k) (h0 : 0 ≤ p.dep) (h1 : p.dep ≤ 256) (hP : PfAt w b0 p s) (hB : Bt.BmAt w b1 k) :
    Calls Tryz.prog 52 #[.pointer (some ⟨b0, 0, none⟩), .pointer (some ⟨b1, 0, none⟩)] w fun e w' => e = .returned (.bool (decide (p.dep = 0 ∨ Bt.hasK k (p.dep - 1) = true))) ∧ Below w.heap.size w w' := by
  have l0 := hP.dep
  have l1 := hB.ld
  obtain ⟨d, hd⟩ : ∃ d, d = p.dep := ⟨_, rfl⟩
  rw [← hd] at l0 h0 h1 ⊢
  by_cases hz : d = 0
  · have e0 : (d == 0) = true := by simpa using hz
    have HE : Hid (decide (d = 0 ∨ Bt.hasK k (d - 1) = true) = true) := decide_eq_true (.inl hz)
    clear hz hd hP hB h0 h1
    go_enter Tryz.func52, Tryz.ntmps52
    go_wp2
    go_ret
    exact ⟨ret_b15 HE.out.symm, Below.refl _ _⟩
  · have e0 : (d == 0) = false := by simpa using hz
    have hw : IntKind.i64.wrap (d - 1) = d - 1 := Bt.wrap_inr (by omega) (by omega)
    have HLC := Lib.hid (Bt.has_c k hk (d - 1))
    obtain ⟨q, hq⟩ : ∃ q, q = Bt.hasK k (d - 1) := ⟨_, rfl⟩
    have HE : Hid (decide (d = 0 ∨ Bt.hasK k (d - 1) = true) = q) := by
      show _ = _
      rw [← hq]
      cases q with
      | true => exact decide_eq_true (.inr rfl)
      | false => exact decide_eq_false fun h => h.elim hz fun h => by cases h
    rw [← hq] at HLC
    clear hz hd hP hB h0 h1 hq hk
    go_enter Tryz.func52, Tryz.ntmps52
    go_wp2_with fail
    refine (HLC.out _).mono ?_
    rintro _ w1 ⟨rfl, hb⟩
    have HB := Lib.hid hb
    clear hb l0 l1
    go_wp2
    go_ret
    exact ⟨ret_b15 HE.out.symm, HB.out⟩
set_option linter.unusedSimpArgs false in
set_option maxHeartbeats 4000000 in
set_option maxRecDepth 100000 in
theorem pck6 (w : World) (b0 b1 : Nat) (p : Pf) (A : Option Addr) (c : Nat) (k : Nat → Nat) (hk : Bt.Byt k) (hp : p.Ok) (hP : PfAt w b0 p (.slice A p.sib.length c)) (hB : Bt.BmAt w b1 k) :
    Calls Tryz.prog 54 #[.pointer (some ⟨b0, 0, none⟩), .pointer (some ⟨b1, 0, none⟩)] w fun e w' => e = .returned (.bool (decide (p.sib.length = (Bt.setZ k 256).length))) ∧ Below w.heap.size w w' := by
  have l0 := fun x : Later w => (hP.below x.h hP.lt).sib hp
  have l1 := fun x : Later w => (hB.below x.h hB.lt).ld
  have HLC : Hid (∀ w, Calls Tryz.prog 55 #[.agg (Bt.kc k)] w fun e w' => e = .returned (.int .i64 ((Bt.setZ k 256).length : Int)) ∧ Below w.heap.size w w') := Bt.len_c k hk
  obtain ⟨m, hm⟩ : ∃ m, m = (Bt.setZ k 256).length := ⟨_, rfl⟩
  obtain ⟨n, hn⟩ : ∃ n, n = p.sib.length := ⟨_, rfl⟩
  rw [← hm] at HLC ⊢
  rw [← hn] at l0 ⊢
  obtain ⟨q, hq⟩ : ∃ q, q = decide (n = m) := ⟨_, rfl⟩
  rw [← hq]
  have e0 : ((n : Int) == (m : Int)) = q := by rw [hq]; by_cases h : n = m <;> simp [h] <;> omega
  have e1 : (n == m) = q := by rw [hq]; by_cases h : n = m <;> simp [h]
  have e2 : decide (n = m) = q := hq.symm
  clear hq hn hm hP hB hk hp
  go_enter Tryz.func54, Tryz.ntmps54
  go_wp2_with fail
  refine wp_region_later (by kernel_rfl) (by kernel_rfl) ?_
  repeat (go_big_quiet_step ((go_at_call 55; exact Later.call (HLC.out _))))
  refine wpQuiet_nil ?_
  rintro _ ⟨x, rfl⟩
  have HB2 := Lib.hid x.h
  clear l0 l1
  go_wp2
  go_ret
  exact ⟨rfl, HB2.out⟩

/-! ### Check -/
def ckN (p : Pf) (k : Nat → Nat) (n : Nat) : Prop := (0 < n → (p.kind = 0 ∨ p.kind = 1)) ∧ (1 < n → (0 ≤ p.dep ∧ p.dep ≤ 256)) ∧ (2 < n → (p.kind = 0 → p.lf = z64)) ∧ (3 < n → Bt.lastTo k 256 < p.dep) ∧ (4 < n → (p.dep = 0 ∨ Bt.hasK k (p.dep - 1) = true)) ∧ (5 < n → p.sib.length = (Bt.setZ k 256).length)
theorem ckN_zero (p : Pf) (k : Nat → Nat) : ckN p k 0 := ⟨fun h => by omega, fun h => by omega, fun h => by omega, fun h => by omega, fun h => by omega, fun h => by omega⟩
theorem ckN_ok {p : Pf} (h : ckN p (keyF p.bm) 6) : chkP p = 0 := by
  obtain ⟨h1, h2, h3, h4, h5, h6⟩ := h
  have h2 := h2 (by omega)
  exact chkP_ok (h1 (by omega)) ⟨h2.1, h2.2, h3 (by omega), (h6 (by omega)).symm, (last_dep h2.1 h2.2).2 ⟨h4 (by omega), h5 (by omega)⟩⟩
theorem ckN_next1 {p : Pf} {k : Nat → Nat} (_h : ckN p k 0) (hc : p.kind = 0 ∨ p.kind = 1) : ckN p k 1 := ⟨fun _ => hc, fun e => by omega, fun e => by omega, fun e => by omega, fun e => by omega, fun e => by omega⟩
theorem ckN_bad1 {p : Pf} (_h : ckN p (keyF p.bm) 0) (hn : ¬ (p.kind = 0 ∨ p.kind = 1)) : chkP p = 7 := chkP_kind (by omega)
theorem ckN_next2 {p : Pf} {k : Nat → Nat} (h : ckN p k 1) (hc : 0 ≤ p.dep ∧ p.dep ≤ 256) : ckN p k 2 := ⟨fun _ => h.1 (by omega), fun _ => hc, fun e => by omega, fun e => by omega, fun e => by omega, fun e => by omega⟩
theorem ckN_bad2 {p : Pf} (h : ckN p (keyF p.bm) 1) (hn : ¬ (0 ≤ p.dep ∧ p.dep ≤ 256)) : chkP p = 5 := chkP_form (h.1 (by omega)) fun g => hn ⟨g.1, g.2.1⟩
theorem ckN_next3 {p : Pf} {k : Nat → Nat} (h : ckN p k 2) (hc : p.kind = 0 → p.lf = z64) : ckN p k 3 := ⟨fun _ => h.1 (by omega), fun _ => h.2.1 (by omega), fun _ => hc, fun e => by omega, fun e => by omega, fun e => by omega⟩
theorem ckN_bad3 {p : Pf} (h : ckN p (keyF p.bm) 2) (hn : ¬ (p.kind = 0 → p.lf = z64)) : chkP p = 5 := chkP_form (h.1 (by omega)) fun g => hn g.2.2.1
theorem ckN_next4 {p : Pf} {k : Nat → Nat} (h : ckN p k 3) (hc : Bt.lastTo k 256 < p.dep) : ckN p k 4 := ⟨fun _ => h.1 (by omega), fun _ => h.2.1 (by omega), fun _ => h.2.2.1 (by omega), fun _ => hc, fun e => by omega, fun e => by omega⟩
theorem ckN_bad4 {p : Pf} (h : ckN p (keyF p.bm) 3) (hn : ¬ (Bt.lastTo (keyF p.bm) 256 < p.dep)) : chkP p = 5 := chkP_form (h.1 (by omega)) fun g => hn ((last_dep g.1 g.2.1).1 g.2.2.2.2).1
theorem ckN_next5 {p : Pf} {k : Nat → Nat} (h : ckN p k 4) (hc : p.dep = 0 ∨ Bt.hasK k (p.dep - 1) = true) : ckN p k 5 := ⟨fun _ => h.1 (by omega), fun _ => h.2.1 (by omega), fun _ => h.2.2.1 (by omega), fun _ => h.2.2.2.1 (by omega), fun _ => hc, fun e => by omega⟩
theorem ckN_bad5 {p : Pf} (h : ckN p (keyF p.bm) 4) (hn : ¬ (p.dep = 0 ∨ Bt.hasK (keyF p.bm) (p.dep - 1) = true)) : chkP p = 5 := chkP_form (h.1 (by omega)) fun g => hn ((last_dep g.1 g.2.1).1 g.2.2.2.2).2
theorem ckN_next6 {p : Pf} {k : Nat → Nat} (h : ckN p k 5) (hc : p.sib.length = (Bt.setZ k 256).length) : ckN p k 6 := ⟨fun _ => h.1 (by omega), fun _ => h.2.1 (by omega), fun _ => h.2.2.1 (by omega), fun _ => h.2.2.2.1 (by omega), fun _ => h.2.2.2.2.1 (by omega), fun _ => hc⟩
theorem ckN_bad6 {p : Pf} (h : ckN p (keyF p.bm) 5) (hn : ¬ (p.sib.length = (Bt.setZ (keyF p.bm) 256).length)) : chkP p = 5 := chkP_form (h.1 (by omega)) fun g => hn g.2.2.2.1.symm
set_option linter.unusedSimpArgs false in
set_option maxHeartbeats 16000000 in
set_option maxRecDepth 100000 in
theorem pcheck_c (w : World) (p : Pf) (A : Option Addr) (c : Nat) (hp : p.Ok) (_hA : DS w A p.sib) (_hc : p.sib.length ≤ c) (_hl : p.sib.length ≤ 1000000) :
    Calls Tryz.prog 26 #[.agg (pfC p (.slice A p.sib.length c))] w fun e w' => e = .returned (.int .i64 (chkP p)) ∧ Below w.heap.size w w' := by
  obtain ⟨k, hk⟩ : ∃ k, k = keyF p.bm := ⟨_, rfl⟩
  obtain ⟨S, hS⟩ : ∃ S, S = Value.slice A p.sib.length c := ⟨_, rfl⟩
  obtain ⟨X, hX⟩ : ∃ X, X = ((w.alloc (.cells (pfC p S) 36)).alloc (.cells (Bt.kc k) 75)).alloc (.cells (csC w.heap.size (w.heap.size + 1)) 98) := ⟨_, rfl⟩
  have hB : Below w.heap.size w X := by rw [hX]; exact three_below _ _ _ _
  have hP0 : PfAt (w.alloc (.cells (pfC p S) 36)) w.heap.size p S := PfAt.one _ _ _
  have hP : PfAt X w.heap.size p S := by rw [hX]; exact (hP0.below (Bt.one_below _ _) (by simp)).below (Bt.one_below _ _) (by simp; omega)
  have hM : Bt.BmAt X (w.heap.size + 1) k := by rw [hX]; exact (Bt.BmAt.two' w k (.cells (pfC p S) 36)).below (Bt.one_below _ _) (by simp)
  have hQ : X.heap[w.heap.size + 1 + 1]? = some (.cells (csC w.heap.size (w.heap.size + 1)) 98 (0, 0)) := by
    have := heap_alloc_new ((w.alloc (.cells (pfC p S) 36)).alloc (.cells (Bt.kc k) 75)) (.cells (csC w.heap.size (w.heap.size + 1)) 98)
    rw [hX]; simpa using this
  have l3 := hP0.bm hp
  have l3' := hP0.bmA hp
  rw [bA_key p.bm hp.bm, ← hk] at l3 l3'
  have st2 := Bt.stBm_two w (.cells (pfC p S) 36) Bt.kz k
  have zc := zeroCs
  have zd := zeroCd
  have bd := bldCd
  have bs := fun w' => bldCs w.heap.size (w.heap.size + 1) w'
  have hmf : ∀ (fn : Fn) (first cap : Array Value) (w : World), (Instr.makeFunc fn first cap).run Tryz.prog w = .ok (.func fn first cap) w := fun _ _ _ _ => rfl
  have st6 := stA_new (t := 98) ((w.alloc (.cells (pfC p S) 36)).alloc (.cells (Bt.kc k) 75)) zCs (csC w.heap.size (w.heap.size + 1)) (by rw [csC_size]; exact infoCs) rfl (csC_one _ _)
  rw [show ((w.alloc (.cells (pfC p S) 36)).alloc (.cells (Bt.kc k) 75)).heap.size = w.heap.size + 1 + 1 by simp] at st6
  have ld6 : ldA 98 X (.pointer (some ⟨w.heap.size + 1 + 1, 0, none⟩)) = .ok (.value (.agg (csC w.heap.size (w.heap.size + 1)))) X := ldA_row (t' := 98) hQ Tryz.underlying98 (by rw [csC_size]; exact infoCs)
  rw [hX] at ld6
  have HX := Lib.hid hX
  have HB := Lib.hid hB
  have HSV := Lib.hid hS
  rw [hS] at hP
  have HP := Lib.hid hP
  have HM := Lib.hid hM
  have HPO := Lib.hid hp
  have HKB : Hid (Bt.Byt k) := by show Bt.Byt k; rw [hk]; exact keyF_byt _
  have HKK := Lib.hid hk
  rw [← hS]
  clear hp hX hB hP hP0 hM hQ hS hk
  go_enter Tryz.func26, Tryz.ntmps26
  go_wp2_with fail
  rw [← HX.out]
  clear l3 l3' st2 st6 ld6 zc bs hmf bd
  go_loopg [6, 23] 6 (fun gg _ i wr => ∃ m : Nat, i = .int .i64 (m : Int) ∧ m ≤ 6 ∧ 6 - m = gg ∧ ckN p k m ∧ Below X.heap.size X wr)
  case atStart => exact ⟨0, rfl, by omega, by omega, ckN_zero _ _, Below.refl _ _⟩
  case round =>
    obtain ⟨m, rfl, hm, rfl, hcn, hb⟩ := hrel
    have HCN := Lib.hid hcn
    have HBW := Lib.hid hb
    clear hcn hb
    obtain ⟨Y, hY⟩ : ∃ Y, Y = wr := ⟨_, rfl⟩
    have hcase : m = 0 ∨ m = 1 ∨ m = 2 ∨ m = 3 ∨ m = 4 ∨ m = 5 ∨ m = 6 := by omega
    clear hY Y
    rcases hcase with rfl | rfl | rfl | rfl | rfl | rfl | rfl
    · rw [show ((0 : Nat) : Int) = 0 from rfl]
      have ix := fun w' => ixCs0 w.heap.size (w.heap.size + 1) w'
      obtain ⟨Z, hZ⟩ : ∃ Z, Z = wr.alloc (.cells #[.int .i64 7, .func (.func 47) #[] #[.pointer (some ⟨w.heap.size, 0, none⟩)]] 97) := ⟨_, rfl⟩
      have hbZ : Below wr.heap.size wr Z := by rw [hZ]; exact Bt.one_below _ _
      have hd : CdAt Z wr.heap.size 7 (.func (.func 47) #[] #[.pointer (some ⟨w.heap.size, 0, none⟩)]) := by show _ = _; rw [hZ]; exact heap_alloc_new wr _
      have st := stA_new (t := 97) wr zCd #[.int .i64 7, .func (.func 47) #[] #[.pointer (some ⟨w.heap.size, 0, none⟩)]] infoCd rfl (cd_one _ _ _)
      have HBZ : Hid (Below X.heap.size X Z) := HBW.out.trans (hbZ.mono HBW.out.size)
      have h1 := hd.holds
      have HCA : Hid (Calls Tryz.prog 47 #[.pointer (some ⟨w.heap.size, 0, none⟩)] Z fun e w' => e = .returned (.bool (decide (p.kind = 0 ∨ p.kind = 1))) ∧ Below Z.heap.size Z w') := by
        have PZ : PfAt Z w.heap.size p (.slice A p.sib.length c) := HP.out.below HBZ.out HP.out.lt
        have BZ : Bt.BmAt Z (w.heap.size + 1) k := HM.out.below HBZ.out HM.out.lt
        exact pck1 Z w.heap.size p (.slice A p.sib.length c) PZ
      obtain ⟨q, hq⟩ : ∃ q, q = decide (p.kind = 0 ∨ p.kind = 1) := ⟨_, rfl⟩
      rw [← hq] at HCA
      have HQ := Lib.hid hq
      have HCD := Lib.hid hd
      rw [hZ] at h1
      have HZ := Lib.hid hZ
      clear hq hd hbZ hZ
      go_wp2_with fail
      rw [← HZ.out]
      clear h1 st ix
      refine HCA.out.mono ?_
      rintro _ w5 ⟨rfl, hb5⟩
      have HB5 : Hid (Below X.heap.size X w5) := HBZ.out.trans (hb5.mono HBZ.out.size)
      have h0 := (show CdAt w5 wr.heap.size 7 (.func (.func 47) #[] #[.pointer (some ⟨w.heap.size, 0, none⟩)]) from (hb5.block _ (lt_of_heap HCD.out)).trans HCD.out).errno
      clear hb5 HCA
      cases q with
      | true =>
        go_wp2_with fail
        go_roundg (6 - 1)
        case measure => omega
        case rel => exact ⟨1, rfl, by omega, by omega, ckN_next1 HCN.out (of_decide_eq_true HQ.out.symm), HB5.out⟩
      | false =>
        go_wp2_with fail
        go_ret
        have hbad := HCN.out
        have hnot := of_decide_eq_false HQ.out.symm
        rw [HKK.out] at hbad
        exact ⟨ret_int (ckN_bad1 hbad hnot).symm, HB.out.trans (HB5.out.mono HB.out.size)⟩
    · rw [show ((1 : Nat) : Int) = 1 from rfl]
      have ix := fun w' => ixCs1 w.heap.size (w.heap.size + 1) w'
      obtain ⟨Z, hZ⟩ : ∃ Z, Z = wr.alloc (.cells #[.int .i64 5, .func (.func 48) #[] #[.pointer (some ⟨w.heap.size, 0, none⟩)]] 97) := ⟨_, rfl⟩
      have hbZ : Below wr.heap.size wr Z := by rw [hZ]; exact Bt.one_below _ _
      have hd : CdAt Z wr.heap.size 5 (.func (.func 48) #[] #[.pointer (some ⟨w.heap.size, 0, none⟩)]) := by show _ = _; rw [hZ]; exact heap_alloc_new wr _
      have st := stA_new (t := 97) wr zCd #[.int .i64 5, .func (.func 48) #[] #[.pointer (some ⟨w.heap.size, 0, none⟩)]] infoCd rfl (cd_one _ _ _)
      have HBZ : Hid (Below X.heap.size X Z) := HBW.out.trans (hbZ.mono HBW.out.size)
      have h1 := hd.holds
      have HCA : Hid (Calls Tryz.prog 48 #[.pointer (some ⟨w.heap.size, 0, none⟩)] Z fun e w' => e = .returned (.bool (decide (0 ≤ p.dep ∧ p.dep ≤ 256))) ∧ Below Z.heap.size Z w') := by
        have PZ : PfAt Z w.heap.size p (.slice A p.sib.length c) := HP.out.below HBZ.out HP.out.lt
        have BZ : Bt.BmAt Z (w.heap.size + 1) k := HM.out.below HBZ.out HM.out.lt
        exact pck2 Z w.heap.size p (.slice A p.sib.length c) PZ
      obtain ⟨q, hq⟩ : ∃ q, q = decide (0 ≤ p.dep ∧ p.dep ≤ 256) := ⟨_, rfl⟩
      rw [← hq] at HCA
      have HQ := Lib.hid hq
      have HCD := Lib.hid hd
      rw [hZ] at h1
      have HZ := Lib.hid hZ
      clear hq hd hbZ hZ
      go_wp2_with fail
      rw [← HZ.out]
      clear h1 st ix
      refine HCA.out.mono ?_
      rintro _ w5 ⟨rfl, hb5⟩
      have HB5 : Hid (Below X.heap.size X w5) := HBZ.out.trans (hb5.mono HBZ.out.size)
      have h0 := (show CdAt w5 wr.heap.size 5 (.func (.func 48) #[] #[.pointer (some ⟨w.heap.size, 0, none⟩)]) from (hb5.block _ (lt_of_heap HCD.out)).trans HCD.out).errno
      clear hb5 HCA
      cases q with
      | true =>
        go_wp2_with fail
        go_roundg (6 - 2)
        case measure => omega
        case rel => exact ⟨2, rfl, by omega, by omega, ckN_next2 HCN.out (of_decide_eq_true HQ.out.symm), HB5.out⟩
      | false =>
        go_wp2_with fail
        go_ret
        have hbad := HCN.out
        have hnot := of_decide_eq_false HQ.out.symm
        rw [HKK.out] at hbad
        exact ⟨ret_int (ckN_bad2 hbad hnot).symm, HB.out.trans (HB5.out.mono HB.out.size)⟩
    · rw [show ((2 : Nat) : Int) = 2 from rfl]
      have ix := fun w' => ixCs2 w.heap.size (w.heap.size + 1) w'
      obtain ⟨Z, hZ⟩ : ∃ Z, Z = wr.alloc (.cells #[.int .i64 5, .func (.func 49) #[] #[.pointer (some ⟨w.heap.size, 0, none⟩)]] 97) := ⟨_, rfl⟩
      have hbZ : Below wr.heap.size wr Z := by rw [hZ]; exact Bt.one_below _ _
      have hd : CdAt Z wr.heap.size 5 (.func (.func 49) #[] #[.pointer (some ⟨w.heap.size, 0, none⟩)]) := by show _ = _; rw [hZ]; exact heap_alloc_new wr _
      have st := stA_new (t := 97) wr zCd #[.int .i64 5, .func (.func 49) #[] #[.pointer (some ⟨w.heap.size, 0, none⟩)]] infoCd rfl (cd_one _ _ _)
      have HBZ : Hid (Below X.heap.size X Z) := HBW.out.trans (hbZ.mono HBW.out.size)
      have h1 := hd.holds
      have HCA : Hid (Calls Tryz.prog 49 #[.pointer (some ⟨w.heap.size, 0, none⟩)] Z fun e w' => e = .returned (.bool (decide (p.kind = 0 → p.lf = z64))) ∧ Below Z.heap.size Z w') := by
        have PZ : PfAt Z w.heap.size p (.slice A p.sib.length c) := HP.out.below HBZ.out HP.out.lt
        have BZ : Bt.BmAt Z (w.heap.size + 1) k := HM.out.below HBZ.out HM.out.lt
        exact pck3 Z w.heap.size p (.slice A p.sib.length c) HPO.out PZ
      obtain ⟨q, hq⟩ : ∃ q, q = decide (p.kind = 0 → p.lf = z64) := ⟨_, rfl⟩
      rw [← hq] at HCA
      have HQ := Lib.hid hq
      have HCD := Lib.hid hd
      rw [hZ] at h1
      have HZ := Lib.hid hZ
      clear hq hd hbZ hZ
      go_wp2_with fail
      rw [← HZ.out]
      clear h1 st ix
      refine HCA.out.mono ?_
      rintro _ w5 ⟨rfl, hb5⟩
      have HB5 : Hid (Below X.heap.size X w5) := HBZ.out.trans (hb5.mono HBZ.out.size)
      have h0 := (show CdAt w5 wr.heap.size 5 (.func (.func 49) #[] #[.pointer (some ⟨w.heap.size, 0, none⟩)]) from (hb5.block _ (lt_of_heap HCD.out)).trans HCD.out).errno
      clear hb5 HCA
      cases q with
      | true =>
        go_wp2_with fail
        go_roundg (6 - 3)
        case measure => omega
        case rel => exact ⟨3, rfl, by omega, by omega, ckN_next3 HCN.out (of_decide_eq_true HQ.out.symm), HB5.out⟩
      | false =>
        go_wp2_with fail
        go_ret
        have hbad := HCN.out
        have hnot := of_decide_eq_false HQ.out.symm
        rw [HKK.out] at hbad
        exact ⟨ret_int (ckN_bad3 hbad hnot).symm, HB.out.trans (HB5.out.mono HB.out.size)⟩
    · rw [show ((3 : Nat) : Int) = 3 from rfl]
      have ix := fun w' => ixCs3 w.heap.size (w.heap.size + 1) w'
      obtain ⟨Z, hZ⟩ : ∃ Z, Z = wr.alloc (.cells #[.int .i64 5, .func (.func 50) #[] #[.pointer (some ⟨(w.heap.size + 1), 0, none⟩), .pointer (some ⟨w.heap.size, 0, none⟩)]] 97) := ⟨_, rfl⟩
      have hbZ : Below wr.heap.size wr Z := by rw [hZ]; exact Bt.one_below _ _
      have hd : CdAt Z wr.heap.size 5 (.func (.func 50) #[] #[.pointer (some ⟨(w.heap.size + 1), 0, none⟩), .pointer (some ⟨w.heap.size, 0, none⟩)]) := by show _ = _; rw [hZ]; exact heap_alloc_new wr _
      have st := stA_new (t := 97) wr zCd #[.int .i64 5, .func (.func 50) #[] #[.pointer (some ⟨(w.heap.size + 1), 0, none⟩), .pointer (some ⟨w.heap.size, 0, none⟩)]] infoCd rfl (cd_one _ _ _)
      have HBZ : Hid (Below X.heap.size X Z) := HBW.out.trans (hbZ.mono HBW.out.size)
      have h1 := hd.holds
      have HCA : Hid (Calls Tryz.prog 50 #[.pointer (some ⟨(w.heap.size + 1), 0, none⟩), .pointer (some ⟨w.heap.size, 0, none⟩)] Z fun e w' => e = .returned (.bool (decide (Bt.lastTo k 256 < p.dep))) ∧ Below Z.heap.size Z w') := by
        have PZ : PfAt Z w.heap.size p (.slice A p.sib.length c) := HP.out.below HBZ.out HP.out.lt
        have BZ : Bt.BmAt Z (w.heap.size + 1) k := HM.out.below HBZ.out HM.out.lt
        exact pck4 Z w.heap.size (w.heap.size + 1) p (.slice A p.sib.length c) k HKB.out PZ BZ
      obtain ⟨q, hq⟩ : ∃ q, q = decide (Bt.lastTo k 256 < p.dep) := ⟨_, rfl⟩
      rw [← hq] at HCA
      have HQ := Lib.hid hq
      have HCD := Lib.hid hd
      rw [hZ] at h1
      have HZ := Lib.hid hZ
      clear hq hd hbZ hZ
      go_wp2_with fail
      rw [← HZ.out]
      clear h1 st ix
      refine HCA.out.mono ?_
      rintro _ w5 ⟨rfl, hb5⟩
      have HB5 : Hid (Below X.heap.size X w5) := HBZ.out.trans (hb5.mono HBZ.out.size)
      have h0 := (show CdAt w5 wr.heap.size 5 (.func (.func 50) #[] #[.pointer (some ⟨(w.heap.size + 1), 0, none⟩), .pointer (some ⟨w.heap.size, 0, none⟩)]) from (hb5.block _ (lt_of_heap HCD.out)).trans HCD.out).errno
      clear hb5 HCA
      cases q with
      | true =>
        go_wp2_with fail
        go_roundg (6 - 4)
        case measure => omega
        case rel => exact ⟨4, rfl, by omega, by omega, ckN_next4 HCN.out (of_decide_eq_true HQ.out.symm), HB5.out⟩
      | false =>
        go_wp2_with fail
        go_ret
        have hbad := HCN.out
        have hnot := of_decide_eq_false HQ.out.symm
        rw [HKK.out] at hbad hnot
        exact ⟨ret_int (ckN_bad4 hbad hnot).symm, HB.out.trans (HB5.out.mono HB.out.size)⟩
    · rw [show ((4 : Nat) : Int) = 4 from rfl]
      have ix := fun w' => ixCs4 w.heap.size (w.heap.size + 1) w'
      obtain ⟨Z, hZ⟩ : ∃ Z, Z = wr.alloc (.cells #[.int .i64 5, .func (.func 52) #[] #[.pointer (some ⟨w.heap.size, 0, none⟩), .pointer (some ⟨(w.heap.size + 1), 0, none⟩)]] 97) := ⟨_, rfl⟩
      have hbZ : Below wr.heap.size wr Z := by rw [hZ]; exact Bt.one_below _ _
      have hd : CdAt Z wr.heap.size 5 (.func (.func 52) #[] #[.pointer (some ⟨w.heap.size, 0, none⟩), .pointer (some ⟨(w.heap.size + 1), 0, none⟩)]) := by show _ = _; rw [hZ]; exact heap_alloc_new wr _
      have st := stA_new (t := 97) wr zCd #[.int .i64 5, .func (.func 52) #[] #[.pointer (some ⟨w.heap.size, 0, none⟩), .pointer (some ⟨(w.heap.size + 1), 0, none⟩)]] infoCd rfl (cd_one _ _ _)
      have HBZ : Hid (Below X.heap.size X Z) := HBW.out.trans (hbZ.mono HBW.out.size)
      have h1 := hd.holds
      have HCA : Hid (Calls Tryz.prog 52 #[.pointer (some ⟨w.heap.size, 0, none⟩), .pointer (some ⟨(w.heap.size + 1), 0, none⟩)] Z fun e w' => e = .returned (.bool (decide (p.dep = 0 ∨ Bt.hasK k (p.dep - 1) = true))) ∧ Below Z.heap.size Z w') := by
        have PZ : PfAt Z w.heap.size p (.slice A p.sib.length c) := HP.out.below HBZ.out HP.out.lt
        have BZ : Bt.BmAt Z (w.heap.size + 1) k := HM.out.below HBZ.out HM.out.lt
        exact pck5 Z w.heap.size (w.heap.size + 1) p (.slice A p.sib.length c) k HKB.out (HCN.out.2.1 (by omega)).1 (HCN.out.2.1 (by omega)).2 PZ BZ
      obtain ⟨q, hq⟩ : ∃ q, q = decide (p.dep = 0 ∨ Bt.hasK k (p.dep - 1) = true) := ⟨_, rfl⟩
      rw [← hq] at HCA
      have HQ := Lib.hid hq
      have HCD := Lib.hid hd
      rw [hZ] at h1
      have HZ := Lib.hid hZ
      clear hq hd hbZ hZ
      go_wp2_with fail
      rw [← HZ.out]
      clear h1 st ix
      refine HCA.out.mono ?_
      rintro _ w5 ⟨rfl, hb5⟩
      have HB5 : Hid (Below X.heap.size X w5) := HBZ.out.trans (hb5.mono HBZ.out.size)
      have h0 := (show CdAt w5 wr.heap.size 5 (.func (.func 52) #[] #[.pointer (some ⟨w.heap.size, 0, none⟩), .pointer (some ⟨(w.heap.size + 1), 0, none⟩)]) from (hb5.block _ (lt_of_heap HCD.out)).trans HCD.out).errno
      clear hb5 HCA
      cases q with
      | true =>
        go_wp2_with fail
        go_roundg (6 - 5)
        case measure => omega
        case rel => exact ⟨5, rfl, by omega, by omega, ckN_next5 HCN.out (of_decide_eq_true HQ.out.symm), HB5.out⟩
      | false =>
        go_wp2_with fail
        go_ret
        have hbad := HCN.out
        have hnot := of_decide_eq_false HQ.out.symm
        rw [HKK.out] at hbad hnot
        exact ⟨ret_int (ckN_bad5 hbad hnot).symm, HB.out.trans (HB5.out.mono HB.out.size)⟩
    · rw [show ((5 : Nat) : Int) = 5 from rfl]
      have ix := fun w' => ixCs5 w.heap.size (w.heap.size + 1) w'
      obtain ⟨Z, hZ⟩ : ∃ Z, Z = wr.alloc (.cells #[.int .i64 5, .func (.func 54) #[] #[.pointer (some ⟨w.heap.size, 0, none⟩), .pointer (some ⟨(w.heap.size + 1), 0, none⟩)]] 97) := ⟨_, rfl⟩
      have hbZ : Below wr.heap.size wr Z := by rw [hZ]; exact Bt.one_below _ _
      have hd : CdAt Z wr.heap.size 5 (.func (.func 54) #[] #[.pointer (some ⟨w.heap.size, 0, none⟩), .pointer (some ⟨(w.heap.size + 1), 0, none⟩)]) := by show _ = _; rw [hZ]; exact heap_alloc_new wr _
      have st := stA_new (t := 97) wr zCd #[.int .i64 5, .func (.func 54) #[] #[.pointer (some ⟨w.heap.size, 0, none⟩), .pointer (some ⟨(w.heap.size + 1), 0, none⟩)]] infoCd rfl (cd_one _ _ _)
      have HBZ : Hid (Below X.heap.size X Z) := HBW.out.trans (hbZ.mono HBW.out.size)
      have h1 := hd.holds
      have HCA : Hid (Calls Tryz.prog 54 #[.pointer (some ⟨w.heap.size, 0, none⟩), .pointer (some ⟨(w.heap.size + 1), 0, none⟩)] Z fun e w' => e = .returned (.bool (decide (p.sib.length = (Bt.setZ k 256).length))) ∧ Below Z.heap.size Z w') := by
        have PZ : PfAt Z w.heap.size p (.slice A p.sib.length c) := HP.out.below HBZ.out HP.out.lt
        have BZ : Bt.BmAt Z (w.heap.size + 1) k := HM.out.below HBZ.out HM.out.lt
        exact pck6 Z w.heap.size (w.heap.size + 1) p A c k HKB.out HPO.out PZ BZ
      obtain ⟨q, hq⟩ : ∃ q, q = decide (p.sib.length = (Bt.setZ k 256).length) := ⟨_, rfl⟩
      rw [← hq] at HCA
      have HQ := Lib.hid hq
      have HCD := Lib.hid hd
      rw [hZ] at h1
      have HZ := Lib.hid hZ
      clear hq hd hbZ hZ
      go_wp2_with fail
      rw [← HZ.out]
      clear h1 st ix
      refine HCA.out.mono ?_
      rintro _ w5 ⟨rfl, hb5⟩
      have HB5 : Hid (Below X.heap.size X w5) := HBZ.out.trans (hb5.mono HBZ.out.size)
      have h0 := (show CdAt w5 wr.heap.size 5 (.func (.func 54) #[] #[.pointer (some ⟨w.heap.size, 0, none⟩), .pointer (some ⟨(w.heap.size + 1), 0, none⟩)]) from (hb5.block _ (lt_of_heap HCD.out)).trans HCD.out).errno
      clear hb5 HCA
      cases q with
      | true =>
        go_wp2_with fail
        go_roundg (6 - 6)
        case measure => omega
        case rel => exact ⟨6, rfl, by omega, by omega, ckN_next6 HCN.out (of_decide_eq_true HQ.out.symm), HB5.out⟩
      | false =>
        go_wp2_with fail
        go_ret
        have hbad := HCN.out
        have hnot := of_decide_eq_false HQ.out.symm
        rw [HKK.out] at hbad hnot
        exact ⟨ret_int (ckN_bad6 hbad hnot).symm, HB.out.trans (HB5.out.mono HB.out.size)⟩
    · rw [show ((6 : Nat) : Int) = 6 from rfl]
      go_wp2_with fail
      go_ret
      have hok := HCN.out
      rw [HKK.out] at hok
      exact ⟨ret_int (ckN_ok hok).symm, HB.out.trans (HBW.out.mono HB.out.size)⟩
end Go.Proofs.YtbkokcfmndiedaaGreatDoor
