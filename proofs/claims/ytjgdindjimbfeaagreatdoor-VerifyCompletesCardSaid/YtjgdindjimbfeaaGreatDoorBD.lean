import Derived.BigQuiet
import Derived.Test.YtjgdindjimbfeaaGreatDoorAD
import Derived.Test.YtjgdindjimbfeaaGreatDoorHH
import Derived.Test.YtjgdindjimbfeaaGreatDoorMD
import Derived.Test.YtjgdindjimbfeaaGreatDoorMP
import Derived.Test.YtjgdindjimbfeaaGreatDoorLM
import Derived.Test.YtjgdindjimbfeaaGreatDoorAW
import Derived.Test.YtjgdindjimbfeaaGreatDoorAY
import Derived.Test.YtjgdindjimbfeaaGreatDoorMR
namespace Go.Proofs.YtjgdindjimbfeaaGreatDoor
set_option linter.unusedSimpArgs false
set_option linter.unusedVariables false
set_option maxHeartbeats 16000000
set_option maxRecDepth 100000
section
open Go.RowKit
theorem lastTo_ge (k : Nat → Nat) : ∀ n, -1 ≤ Bt.lastTo k n
 | 0 => Int.le_refl _
 | n + 1 => by
  have := lastTo_ge k n
  unfold Bt.lastTo
  split <;> omega
theorem lastTo_mono (k : Nat → Nat) {i : Nat} (h : Bt.bit k i = 1) : ∀ n, i < n → (i : Int) ≤ Bt.lastTo k n
 | 0, hi => by omega
 | n + 1, hi => by
  unfold Bt.lastTo
  split
  ·omega
  ·by_cases e : i = n
   ·subst e; contradiction
   ·exact lastTo_mono k h n (by omega)
theorem lastTo_bit (k : Nat → Nat) : ∀ n (i : Nat), Bt.lastTo k n = (i : Int) → Bt.bit k i = 1
 | 0, i, h => by
  have h' : (-1 : Int) = (i : Int) := h
  omega
 | n + 1, i, h => by
  unfold Bt.lastTo at h
  split at h
  ·rename_i hb
   have : i = n := by omega
   rw [this]; exact hb
  ·exact lastTo_bit k n i h
theorem last_dep {k : Nat → Nat} {d : Int} (h0 : 0 ≤ d) (h1 : d ≤ 256) : Bt.lastTo k 256 = d - 1 ↔ Bt.lastTo k 256 < d ∧ (d = 0 ∨ Bt.hasK k (d - 1) = true) := by
 have hg := lastTo_ge k 256
 obtain ⟨m, rfl⟩ : ∃ m : Nat, d = m := ⟨d.toNat, by omega⟩
 cases m with
 | zero => constructor <;> intro h <;> simp at h ⊢ <;> omega
 | succ m =>
  have hm : m < 256 := by omega
  rw [show ((m + 1 : Nat) : Int) - 1 = (m : Int) by omega, Bt.hasK_in k m hm]
  constructor
  ·intro h
   exact ⟨by omega, .inr (decide_eq_true (lastTo_bit k 256 m h))⟩
  ·rintro ⟨h2, h3 | h3⟩
   ·omega
   ·have := lastTo_mono k (of_decide_eq_true h3) 256 hm
    omega
@[go_sem ↓] theorem execOp_storeCd (ρ : Operand → Value) (dst : Option Tmp) (x y : Operand) (type : TypeId) (pos : String) (after : Array Edge) (guard : Option (Nat × Bool)) (w : World) :
  Sem.run Tryz.prog (execOp ρ { dst, op := .store 152 x y, type, pos, after, guard }) w = stA 152 w (ρ x) (ρ y) := rfl
@[go_sem ↓] theorem execOp_buildCd (ρ : Operand → Value) (dst : Option Tmp) (parts : Array (Nat × Operand)) (type : TypeId) (pos : String) (after : Array Edge) (guard : Option (Nat × Bool)) (w : World) :
  Sem.run Tryz.prog (execOp ρ { dst, op := .build 152 parts, type, pos, after, guard }) w = bldA 152 w (parts.map fun x => (x.1, ρ x.2)) := rfl
@[go_sem ↓] theorem execOp_loadCs (ρ : Operand → Value) (dst : Option Tmp) (x : Operand) (type : TypeId) (pos : String) (after : Array Edge) (guard : Option (Nat × Bool)) (w : World) :
  Sem.run Tryz.prog (execOp ρ { dst, op := .load 153 x, type, pos, after, guard }) w = ldA 153 w (ρ x) := rfl
@[go_sem ↓] theorem execOp_storeCs (ρ : Operand → Value) (dst : Option Tmp) (x y : Operand) (type : TypeId) (pos : String) (after : Array Edge) (guard : Option (Nat × Bool)) (w : World) :
  Sem.run Tryz.prog (execOp ρ { dst, op := .store 153 x y, type, pos, after, guard }) w = stA 153 w (ρ x) (ρ y) := rfl
@[go_sem ↓] theorem execOp_buildCs (ρ : Operand → Value) (dst : Option Tmp) (parts : Array (Nat × Operand)) (type : TypeId) (pos : String) (after : Array Edge) (guard : Option (Nat × Bool)) (w : World) :
  Sem.run Tryz.prog (execOp ρ { dst, op := .build 153 parts, type, pos, after, guard }) w = bldA 153 w (parts.map fun x => (x.1, ρ x.2)) := rfl
def csC (b0 b1 : Nat) : Array Value := #[.int .i64 7, .func (.func 81) #[] #[.pointer (some ⟨b0, 0, none⟩)], .int .i64 5, .func (.func 82) #[] #[.pointer (some ⟨b0, 0, none⟩)], .int .i64 5, .func (.func 83) #[] #[.pointer (some ⟨b0, 0, none⟩)], .int .i64 5, .func (.func 84) #[] #[.pointer (some ⟨b1, 0, none⟩), .pointer (some ⟨b0, 0, none⟩)], .int .i64 5, .func (.func 86) #[] #[.pointer (some ⟨b0, 0, none⟩), .pointer (some ⟨b1, 0, none⟩)], .int .i64 5, .func (.func 88) #[] #[.pointer (some ⟨b0, 0, none⟩), .pointer (some ⟨b1, 0, none⟩)]]
def zCs : Array Value := #[.int .i64 0, .nilFunc, .int .i64 0, .nilFunc, .int .i64 0, .nilFunc, .int .i64 0, .nilFunc, .int .i64 0, .nilFunc, .int .i64 0, .nilFunc]
def zCd : Array Value := #[.int .i64 0, .nilFunc]
theorem infoCd : (Tryz.prog.info? 152).map (·.size) = some 2 := by kernel_rfl
theorem infoCs : (Tryz.prog.info? 153).map (·.size) = some 12 := by kernel_rfl
theorem zeroCd : ∀ w, (zeroValue 152).run Tryz.prog w = .ok (.agg zCd) w := fun _ => by kernel_rfl
theorem zeroCs : ∀ w, (zeroValue 153).run Tryz.prog w = .ok (.agg zCs) w := fun _ => by kernel_rfl
theorem bldCd (n : Int) (g : Fn) (cs : Array Value) (w : World) : bldA 152 w #[(0, .int .i64 n), (1, .func g #[] cs)] = .ok (.value (.agg #[.int .i64 n, .func g #[] cs])) w := by kernel_rfl
theorem bldCs (b0 b1 : Nat) (w : World) : bldA 153 w #[(0, .agg #[.int .i64 7, .func (.func 81) #[] #[.pointer (some ⟨b0, 0, none⟩)]]), (1, .agg #[.int .i64 5, .func (.func 82) #[] #[.pointer (some ⟨b0, 0, none⟩)]]), (2, .agg #[.int .i64 5, .func (.func 83) #[] #[.pointer (some ⟨b0, 0, none⟩)]]), (3, .agg #[.int .i64 5, .func (.func 84) #[] #[.pointer (some ⟨b1, 0, none⟩), .pointer (some ⟨b0, 0, none⟩)]]), (4, .agg #[.int .i64 5, .func (.func 86) #[] #[.pointer (some ⟨b0, 0, none⟩), .pointer (some ⟨b1, 0, none⟩)]]), (5, .agg #[.int .i64 5, .func (.func 88) #[] #[.pointer (some ⟨b0, 0, none⟩), .pointer (some ⟨b1, 0, none⟩)]])] = .ok (.value (.agg (csC b0 b1))) w := by kernel_rfl
theorem csC_size (b0 b1 : Nat) : (csC b0 b1).size = 12 := rfl
theorem csC_one (b0 b1 : Nat) : (csC b0 b1).all (·.oneCell') = true := by simp [csC, Value.oneCell']
theorem cd_one (n : Int) (g : Fn) (cs : Array Value) : (#[Value.int .i64 n, .func g #[] cs] : Array Value).all (·.oneCell') = true := by simp [Value.oneCell']
theorem ixCs0 (b0 b1 : Nat) (w : World) : (Instr.index 153 (.agg (csC b0 b1)) (.int .i64 0)).run Tryz.prog w = .ok (.agg #[.int .i64 7, .func (.func 81) #[] #[.pointer (some ⟨b0, 0, none⟩)]]) w := by kernel_rfl
theorem ixCs1 (b0 b1 : Nat) (w : World) : (Instr.index 153 (.agg (csC b0 b1)) (.int .i64 1)).run Tryz.prog w = .ok (.agg #[.int .i64 5, .func (.func 82) #[] #[.pointer (some ⟨b0, 0, none⟩)]]) w := by kernel_rfl
theorem ixCs2 (b0 b1 : Nat) (w : World) : (Instr.index 153 (.agg (csC b0 b1)) (.int .i64 2)).run Tryz.prog w = .ok (.agg #[.int .i64 5, .func (.func 83) #[] #[.pointer (some ⟨b0, 0, none⟩)]]) w := by kernel_rfl
theorem ixCs3 (b0 b1 : Nat) (w : World) : (Instr.index 153 (.agg (csC b0 b1)) (.int .i64 3)).run Tryz.prog w = .ok (.agg #[.int .i64 5, .func (.func 84) #[] #[.pointer (some ⟨b1, 0, none⟩), .pointer (some ⟨b0, 0, none⟩)]]) w := by kernel_rfl
theorem ixCs4 (b0 b1 : Nat) (w : World) : (Instr.index 153 (.agg (csC b0 b1)) (.int .i64 4)).run Tryz.prog w = .ok (.agg #[.int .i64 5, .func (.func 86) #[] #[.pointer (some ⟨b0, 0, none⟩), .pointer (some ⟨b1, 0, none⟩)]]) w := by kernel_rfl
theorem ixCs5 (b0 b1 : Nat) (w : World) : (Instr.index 153 (.agg (csC b0 b1)) (.int .i64 5)).run Tryz.prog w = .ok (.agg #[.int .i64 5, .func (.func 88) #[] #[.pointer (some ⟨b0, 0, none⟩), .pointer (some ⟨b1, 0, none⟩)]]) w := by kernel_rfl
def CdAt (w : World) (g : Nat) (n : Int) (v : Value) : Prop := w.heap[g]? = some (.cells #[.int .i64 n, v] 152 (0, 0))
theorem CdAt.errno {w : World} {g : Nat} {n : Int} {v : Value} (h : CdAt w g n v) : w.cell? ⟨g, 0, none⟩ = some (.int .i64 n) := by rw [cell_of_cells h]; rfl
theorem CdAt.holds {w : World} {g : Nat} {n : Int} {v : Value} (h : CdAt w g n v) : w.cell? ⟨g, 1, none⟩ = some v := by rw [cell_of_cells h]; rfl
theorem pck1 (w : World) (b0 : Nat) (p : Pf) (s : Value) (hP : PfAt w b0 p s) :
  Calls Tryz.prog 81 #[.pointer (some ⟨b0, 0, none⟩)] w fun e w' => e = .returned (.bool (decide (p.kind = 0 ∨ p.kind = 1))) ∧ Below w.heap.size w w' := by
 have l0 := hP.kind
 obtain ⟨k, hk⟩ : ∃ k, k = p.kind := ⟨_, rfl⟩
 rw [← hk] at l0 ⊢
 clear hk hP
 by_cases h0 : k = 0
 ·have e0 : (k == 0) = true := by simpa using h0
  have HE : Hid (decide (k = 0 ∨ k = 1) = true) := decide_eq_true (.inl h0)
  clear h0
  go_enter Tryz.func81, Tryz.ntmps81
  go_wp2
  go_ret
  exact ⟨ret_b15 HE.out.symm, Below.refl _ _⟩
 ·have e0 : (k == 0) = false := by simpa using h0
  obtain ⟨q, hq⟩ : ∃ q, q = (k == 1) := ⟨_, rfl⟩
  have HE : Hid (decide (k = 0 ∨ k = 1) = q) := by
   show _ = _
   rw [hq]
   by_cases h1 : k = 1
   ·rw [show (k == 1) = true from by simpa using h1]; exact decide_eq_true (.inr h1)
   ·rw [show (k == 1) = false from by simpa using h1]; exact decide_eq_false fun h => h.elim h0 h1
  have e1 : (k == 1) = q := hq.symm
  clear h0 hq
  go_enter Tryz.func81, Tryz.ntmps81
  go_wp2
  go_ret
  exact ⟨ret_b15 HE.out.symm, Below.refl _ _⟩
theorem pck2 (w : World) (b0 : Nat) (p : Pf) (s : Value) (hP : PfAt w b0 p s) :
  Calls Tryz.prog 82 #[.pointer (some ⟨b0, 0, none⟩)] w fun e w' => e = .returned (.bool (decide (0 ≤ p.dep ∧ p.dep ≤ 256))) ∧ Below w.heap.size w w' := by
 have l0 := hP.dep
 obtain ⟨k, hk⟩ : ∃ k, k = p.dep := ⟨_, rfl⟩
 rw [← hk] at l0 ⊢
 clear hk hP
 by_cases h0 : 0 ≤ k
 ·have e0 : decide (0 ≤ k) = true := decide_eq_true h0
  obtain ⟨q, hq⟩ : ∃ q, q = decide (k ≤ 256) := ⟨_, rfl⟩
  have HE : Hid (decide (0 ≤ k ∧ k ≤ 256) = q) := by
   show _ = _
   rw [hq]
   by_cases h1 : k ≤ 256
   ·rw [decide_eq_true h1]; exact decide_eq_true ⟨h0, h1⟩
   ·rw [decide_eq_false h1]; exact decide_eq_false fun h => h1 h.2
  have e1 : decide (k ≤ 256) = q := hq.symm
  clear h0 hq
  go_enter Tryz.func82, Tryz.ntmps82
  go_wp2
  go_ret
  exact ⟨ret_b15 HE.out.symm, Below.refl _ _⟩
 ·have e0 : decide (0 ≤ k) = false := decide_eq_false h0
  have HE : Hid (decide (0 ≤ k ∧ k ≤ 256) = false) := decide_eq_false fun h => h0 h.1
  clear h0
  go_enter Tryz.func82, Tryz.ntmps82
  go_wp2
  go_ret
  exact ⟨ret_b15 HE.out.symm, Below.refl _ _⟩
theorem pck3 (w : World) (b0 : Nat) (p : Pf) (s : Value) (hp : p.Ok) (hP : PfAt w b0 p s) :
  Calls Tryz.prog 83 #[.pointer (some ⟨b0, 0, none⟩)] w fun e w' => e = .returned (.bool (decide (p.kind = 0 → p.lf = z64))) ∧ Below w.heap.size w w' := by
 have l0 := hP.kind
 have l1 := hP.leaf hp
 have el := fun x y w => eqLeaf p.lf z64 hp.lf rfl x y w
 have zl := bldLeaf_none
 obtain ⟨k, hk⟩ : ∃ k, k = p.kind := ⟨_, rfl⟩
 obtain ⟨l, hl⟩ : ∃ l, l = p.lf := ⟨_, rfl⟩
 rw [← hk] at l0 ⊢
 rw [← hl] at l1 el ⊢
 obtain ⟨q, hq⟩ : ∃ q, q = decide (l = z64) := ⟨_, rfl⟩
 simp only [← hq] at el
 by_cases h0 : k = 0
 ·have e0 : (k != 0) = false := by simpa using h0
  have HE : Hid (decide (k = 0 → l = z64) = q) := by
   show _ = _
   rw [hq]
   by_cases h1 : l = z64
   ·rw [decide_eq_true h1]; exact decide_eq_true fun _ => h1
   ·rw [decide_eq_false h1]; exact decide_eq_false fun h => h1 (h h0)
  clear h0 hq hk hl hP hp
  go_enter Tryz.func83, Tryz.ntmps83
  go_wp2
  go_ret
  exact ⟨ret_b15 HE.out.symm, Below.refl _ _⟩
 ·have e0 : (k != 0) = true := by simpa using h0
  have HE : Hid (decide (k = 0 → l = z64) = true) := decide_eq_true fun h => absurd h h0
  clear h0 hq hk hl hP hp el l1
  go_enter Tryz.func83, Tryz.ntmps83
  go_wp2
  go_ret
  exact ⟨ret_b15 HE.out.symm, Below.refl _ _⟩
theorem pck4 (w : World) (b0 b1 : Nat) (p : Pf) (s : Value) (k : Nat → Nat) (hk : Bt.Byt k) (hP : PfAt w b0 p s) (hB : Bt.BmAt w b1 k) :
  Calls Tryz.prog 84 #[.pointer (some ⟨b1, 0, none⟩), .pointer (some ⟨b0, 0, none⟩)] w fun e w' => e = .returned (.bool (decide (Bt.lastTo k 256 < p.dep))) ∧ Below w.heap.size w w' := by
 have l0 := fun x : Later w => (hP.below x.h hP.lt).dep
 have l1 := fun x : Later w => (hB.below x.h hB.lt).ld
 have HLC : Hid (∀ w, Calls Tryz.prog 85 #[.agg (Bt.kc k)] w fun e w' => e = .returned (.int .i64 (Bt.lastTo k 256)) ∧ Below w.heap.size w w') := Bt.last_c k hk
 obtain ⟨m, hm⟩ : ∃ m, m = Bt.lastTo k 256 := ⟨_, rfl⟩
 obtain ⟨d, hd⟩ : ∃ d, d = p.dep := ⟨_, rfl⟩
 rw [← hm] at HLC ⊢
 rw [← hd] at l0 ⊢
 obtain ⟨q, hq⟩ : ∃ q, q = decide (m < d) := ⟨_, rfl⟩
 rw [← hq]
 have e0 : decide (m < d) = q := hq.symm
 clear hq hd hm hP hB hk
 go_enter Tryz.func84, Tryz.ntmps84
 go_wp2_with fail
 refine wp_region_later (by kernel_rfl) (by kernel_rfl) ?_
 repeat (go_big_quiet_step ((go_at_call 85; exact Later.call (HLC.out _))))
 refine wpQuiet_nil ?_
 rintro _ ⟨x, rfl⟩
 have HB2 := Lib.hid x.h
 clear l0 l1
 go_wp2
 go_ret
 exact ⟨rfl, HB2.out⟩
theorem pck5 (w : World) (b0 b1 : Nat) (p : Pf) (s : Value) (k : Nat → Nat) (hk : Bt.Byt k) (h0 : 0 ≤ p.dep) (h1 : p.dep ≤ 256) (hP : PfAt w b0 p s) (hB : Bt.BmAt w b1 k) :
  Calls Tryz.prog 86 #[.pointer (some ⟨b0, 0, none⟩), .pointer (some ⟨b1, 0, none⟩)] w fun e w' => e = .returned (.bool (decide (p.dep = 0 ∨ Bt.hasK k (p.dep - 1) = true))) ∧ Below w.heap.size w w' := by
 have l0 := hP.dep
 have l1 := hB.ld
 obtain ⟨d, hd⟩ : ∃ d, d = p.dep := ⟨_, rfl⟩
 rw [← hd] at l0 h0 h1 ⊢
 by_cases hz : d = 0
 ·have e0 : (d == 0) = true := by simpa using hz
  have HE : Hid (decide (d = 0 ∨ Bt.hasK k (d - 1) = true) = true) := decide_eq_true (.inl hz)
  clear hz hd hP hB h0 h1
  go_enter Tryz.func86, Tryz.ntmps86
  go_wp2
  go_ret
  exact ⟨ret_b15 HE.out.symm, Below.refl _ _⟩
 ·have e0 : (d == 0) = false := by simpa using hz
  have hw : IntKind.i64.wrap (d - 1) = d - 1 := Bt.wrap_inr (by omega) (by omega)
  have HLC := Lib.hid (Bt.has_c k hk (d - 1))
  obtain ⟨q, hq⟩ : ∃ q, q = Bt.hasK k (d - 1) := ⟨_, rfl⟩
  have HE : Hid (decide (d = 0 ∨ Bt.hasK k (d - 1) = true) = q) := by
   show _ = _
   rw [← hq]
   cases q with
   | true => exact decide_eq_true (.inr rfl)
   | false => exact decide_eq_false fun h => h.elim hz fun h => by cases h
  rw [← hq] at HLC
  clear hz hd hP hB h0 h1 hq hk
  go_enter Tryz.func86, Tryz.ntmps86
  go_wp2_with fail
  refine (HLC.out _).mono ?_
  rintro _ w1 ⟨rfl, hb⟩
  have HB := Lib.hid hb
  clear hb l0 l1
  go_wp2
  go_ret
  exact ⟨ret_b15 HE.out.symm, HB.out⟩
theorem pck6 (w : World) (b0 b1 : Nat) (p : Pf) (A : Option Addr) (c : Nat) (k : Nat → Nat) (hk : Bt.Byt k) (hp : p.Ok) (hP : PfAt w b0 p (.slice A p.sib.length c)) (hB : Bt.BmAt w b1 k) :
  Calls Tryz.prog 88 #[.pointer (some ⟨b0, 0, none⟩), .pointer (some ⟨b1, 0, none⟩)] w fun e w' => e = .returned (.bool (decide (p.sib.length = (Bt.setZ k 256).length))) ∧ Below w.heap.size w w' := by
 have l0 := fun x : Later w => (hP.below x.h hP.lt).sib hp
 have l1 := fun x : Later w => (hB.below x.h hB.lt).ld
 have HLC : Hid (∀ w, Calls Tryz.prog 89 #[.agg (Bt.kc k)] w fun e w' => e = .returned (.int .i64 ((Bt.setZ k 256).length : Int)) ∧ Below w.heap.size w w') := Bt.len_c k hk
 obtain ⟨m, hm⟩ : ∃ m, m = (Bt.setZ k 256).length := ⟨_, rfl⟩
 obtain ⟨n, hn⟩ : ∃ n, n = p.sib.length := ⟨_, rfl⟩
 rw [← hm] at HLC ⊢
 rw [← hn] at l0 ⊢
 obtain ⟨q, hq⟩ : ∃ q, q = decide (n = m) := ⟨_, rfl⟩
 rw [← hq]
 have e0 : ((n : Int) == (m : Int)) = q := by rw [hq]; by_cases h : n = m <;> simp [h] <;> omega
 have e1 : (n == m) = q := by rw [hq]; by_cases h : n = m <;> simp [h]
 have e2 : decide (n = m) = q := hq.symm
 clear hq hn hm hP hB hk hp
 go_enter Tryz.func88, Tryz.ntmps88
 go_wp2_with fail
 refine wp_region_later (by kernel_rfl) (by kernel_rfl) ?_
 repeat (go_big_quiet_step ((go_at_call 89; exact Later.call (HLC.out _))))
 refine wpQuiet_nil ?_
 rintro _ ⟨x, rfl⟩
 have HB2 := Lib.hid x.h
 clear l0 l1
 go_wp2
 go_ret
 exact ⟨rfl, HB2.out⟩
def ckN (p : Pf) (k : Nat → Nat) (n : Nat) : Prop := (0 < n → (p.kind = 0 ∨ p.kind = 1)) ∧ (1 < n → (0 ≤ p.dep ∧ p.dep ≤ 256)) ∧ (2 < n → (p.kind = 0 → p.lf = z64)) ∧ (3 < n → Bt.lastTo k 256 < p.dep) ∧ (4 < n → (p.dep = 0 ∨ Bt.hasK k (p.dep - 1) = true)) ∧ (5 < n → p.sib.length = (Bt.setZ k 256).length)
theorem ckN_zero (p : Pf) (k : Nat → Nat) : ckN p k 0 := ⟨fun h => by omega, fun h => by omega, fun h => by omega, fun h => by omega, fun h => by omega, fun h => by omega⟩
theorem ckN_ok {p : Pf} (h : ckN p (keyF p.bm) 6) : chkP p = 0 := by
 obtain ⟨h1, h2, h3, h4, h5, h6⟩ := h
 have h2 := h2 (by omega)
 exact chkP_ok (h1 (by omega)) ⟨h2.1, h2.2, h3 (by omega), (h6 (by omega)).symm, (last_dep h2.1 h2.2).2 ⟨h4 (by omega), h5 (by omega)⟩⟩
theorem ckN_next1 {p : Pf} {k : Nat → Nat} (_h : ckN p k 0) (hc : p.kind = 0 ∨ p.kind = 1) : ckN p k 1 := ⟨fun _ => hc, fun e => by omega, fun e => by omega, fun e => by omega, fun e => by omega, fun e => by omega⟩
theorem ckN_bad1 {p : Pf} (_h : ckN p (keyF p.bm) 0) (hn : ¬ (p.kind = 0 ∨ p.kind = 1)) : chkP p = 7 := chkP_kind (by omega)
theorem ckN_next2 {p : Pf} {k : Nat → Nat} (h : ckN p k 1) (hc : 0 ≤ p.dep ∧ p.dep ≤ 256) : ckN p k 2 := ⟨fun _ => h.1 (by omega), fun _ => hc, fun e => by omega, fun e => by omega, fun e => by omega, fun e => by omega⟩
theorem ckN_bad2 {p : Pf} (h : ckN p (keyF p.bm) 1) (hn : ¬ (0 ≤ p.dep ∧ p.dep ≤ 256)) : chkP p = 5 := chkP_form (h.1 (by omega)) fun g => hn ⟨g.1, g.2.1⟩
theorem ckN_next3 {p : Pf} {k : Nat → Nat} (h : ckN p k 2) (hc : p.kind = 0 → p.lf = z64) : ckN p k 3 := ⟨fun _ => h.1 (by omega), fun _ => h.2.1 (by omega), fun _ => hc, fun e => by omega, fun e => by omega, fun e => by omega⟩
theorem ckN_bad3 {p : Pf} (h : ckN p (keyF p.bm) 2) (hn : ¬ (p.kind = 0 → p.lf = z64)) : chkP p = 5 := chkP_form (h.1 (by omega)) fun g => hn g.2.2.1
theorem ckN_next4 {p : Pf} {k : Nat → Nat} (h : ckN p k 3) (hc : Bt.lastTo k 256 < p.dep) : ckN p k 4 := ⟨fun _ => h.1 (by omega), fun _ => h.2.1 (by omega), fun _ => h.2.2.1 (by omega), fun _ => hc, fun e => by omega, fun e => by omega⟩
theorem ckN_bad4 {p : Pf} (h : ckN p (keyF p.bm) 3) (hn : ¬ (Bt.lastTo (keyF p.bm) 256 < p.dep)) : chkP p = 5 := chkP_form (h.1 (by omega)) fun g => hn ((last_dep g.1 g.2.1).1 g.2.2.2.2).1
theorem ckN_next5 {p : Pf} {k : Nat → Nat} (h : ckN p k 4) (hc : p.dep = 0 ∨ Bt.hasK k (p.dep - 1) = true) : ckN p k 5 := ⟨fun _ => h.1 (by omega), fun _ => h.2.1 (by omega), fun _ => h.2.2.1 (by omega), fun _ => h.2.2.2.1 (by omega), fun _ => hc, fun e => by omega⟩
theorem ckN_bad5 {p : Pf} (h : ckN p (keyF p.bm) 4) (hn : ¬ (p.dep = 0 ∨ Bt.hasK (keyF p.bm) (p.dep - 1) = true)) : chkP p = 5 := chkP_form (h.1 (by omega)) fun g => hn ((last_dep g.1 g.2.1).1 g.2.2.2.2).2
theorem ckN_next6 {p : Pf} {k : Nat → Nat} (h : ckN p k 5) (hc : p.sib.length = (Bt.setZ k 256).length) : ckN p k 6 := ⟨fun _ => h.1 (by omega), fun _ => h.2.1 (by omega), fun _ => h.2.2.1 (by omega), fun _ => h.2.2.2.1 (by omega), fun _ => h.2.2.2.2.1 (by omega), fun _ => hc⟩
theorem ckN_bad6 {p : Pf} (h : ckN p (keyF p.bm) 5) (hn : ¬ (p.sib.length = (Bt.setZ (keyF p.bm) 256).length)) : chkP p = 5 := chkP_form (h.1 (by omega)) fun g => hn g.2.2.2.1.symm
theorem pcheck_c (w : World) (p : Pf) (A : Option Addr) (c : Nat) (hp : p.Ok) (_hA : DS w A p.sib) (_hc : p.sib.length ≤ c) (_hl : p.sib.length ≤ 1000000) :
  Calls Tryz.prog 46 #[.agg (pfC p (.slice A p.sib.length c))] w fun e w' => e = .returned (.int .i64 (chkP p)) ∧ Below w.heap.size w w' := by
 obtain ⟨k, hk⟩ : ∃ k, k = keyF p.bm := ⟨_, rfl⟩
 obtain ⟨S, hS⟩ : ∃ S, S = Value.slice A p.sib.length c := ⟨_, rfl⟩
 obtain ⟨X, hX⟩ : ∃ X, X = ((w.alloc (.cells (pfC p S) 53)).alloc (.cells (Bt.kc k) 119)).alloc (.cells (csC w.heap.size (w.heap.size + 1)) 153) := ⟨_, rfl⟩
 have hB : Below w.heap.size w X := by rw [hX]; exact three_below _ _ _ _
 have hP0 : PfAt (w.alloc (.cells (pfC p S) 53)) w.heap.size p S := PfAt.one _ _ _
 have hP : PfAt X w.heap.size p S := by rw [hX]; exact (hP0.below (Bt.one_below _ _) (by simp)).below (Bt.one_below _ _) (by simp; omega)
 have hM : Bt.BmAt X (w.heap.size + 1) k := by rw [hX]; exact (Bt.BmAt.two' w k (.cells (pfC p S) 53)).below (Bt.one_below _ _) (by simp)
 have hQ : X.heap[w.heap.size + 1 + 1]? = some (.cells (csC w.heap.size (w.heap.size + 1)) 153 (0, 0)) := by
  have := heap_alloc_new ((w.alloc (.cells (pfC p S) 53)).alloc (.cells (Bt.kc k) 119)) (.cells (csC w.heap.size (w.heap.size + 1)) 153)
  rw [hX]; simpa using this
 have l3 := hP0.bm hp
 have l3' := hP0.bmA hp
 rw [bA_key p.bm hp.bm, ← hk] at l3 l3'
 have st2 := Bt.stBm_two w (.cells (pfC p S) 53) Bt.kz k
 have zc := zeroCs
 have zd := zeroCd
 have bd := bldCd
 have bs := fun w' => bldCs w.heap.size (w.heap.size + 1) w'
 have hmf : ∀ (fn : Fn) (first cap : Array Value) (w : World), (Instr.makeFunc fn first cap).run Tryz.prog w = .ok (.func fn first cap) w := fun _ _ _ _ => rfl
 have st6 := stA_new (t := 153) ((w.alloc (.cells (pfC p S) 53)).alloc (.cells (Bt.kc k) 119)) zCs (csC w.heap.size (w.heap.size + 1)) (by rw [csC_size]; exact infoCs) rfl (csC_one _ _)
 rw [show ((w.alloc (.cells (pfC p S) 53)).alloc (.cells (Bt.kc k) 119)).heap.size = w.heap.size + 1 + 1 by simp] at st6
 have ld6 : ldA 153 X (.pointer (some ⟨w.heap.size + 1 + 1, 0, none⟩)) = .ok (.value (.agg (csC w.heap.size (w.heap.size + 1)))) X := ldA_row (t' := 153) hQ Tryz.underlying153 (by rw [csC_size]; exact infoCs)
 rw [hX] at ld6
 have HX := Lib.hid hX
 have HB := Lib.hid hB
 have HSV := Lib.hid hS
 rw [hS] at hP
 have HP := Lib.hid hP
 have HM := Lib.hid hM
 have HPO := Lib.hid hp
 have HKB : Hid (Bt.Byt k) := by show Bt.Byt k; rw [hk]; exact keyF_byt _
 have HKK := Lib.hid hk
 rw [← hS]
 clear hp hX hB hP hP0 hM hQ hS hk
 go_enter Tryz.func46, Tryz.ntmps46
 go_wp2_with fail
 rw [← HX.out]
 clear l3 l3' st2 st6 ld6 zc bs hmf bd
 go_loopg [6, 23] 6 (fun gg _ i wr => ∃ m : Nat, i = .int .i64 (m : Int) ∧ m ≤ 6 ∧ 6 - m = gg ∧ ckN p k m ∧ Below X.heap.size X wr)
 case atStart => exact ⟨0, rfl, by omega, by omega, ckN_zero _ _, Below.refl _ _⟩
 case round =>
  obtain ⟨m, rfl, hm, rfl, hcn, hb⟩ := hrel
  have HCN := Lib.hid hcn
  have HBW := Lib.hid hb
  clear hcn hb
  obtain ⟨Y, hY⟩ : ∃ Y, Y = wr := ⟨_, rfl⟩
  have hcase : m = 0 ∨ m = 1 ∨ m = 2 ∨ m = 3 ∨ m = 4 ∨ m = 5 ∨ m = 6 := by omega
  clear hY Y
  rcases hcase with rfl | rfl | rfl | rfl | rfl | rfl | rfl
  ·rw [show ((0 : Nat) : Int) = 0 from rfl]
   have ix := fun w' => ixCs0 w.heap.size (w.heap.size + 1) w'
   obtain ⟨Z, hZ⟩ : ∃ Z, Z = wr.alloc (.cells #[.int .i64 7, .func (.func 81) #[] #[.pointer (some ⟨w.heap.size, 0, none⟩)]] 152) := ⟨_, rfl⟩
   have hbZ : Below wr.heap.size wr Z := by rw [hZ]; exact Bt.one_below _ _
   have hd : CdAt Z wr.heap.size 7 (.func (.func 81) #[] #[.pointer (some ⟨w.heap.size, 0, none⟩)]) := by show _ = _; rw [hZ]; exact heap_alloc_new wr _
   have st := stA_new (t := 152) wr zCd #[.int .i64 7, .func (.func 81) #[] #[.pointer (some ⟨w.heap.size, 0, none⟩)]] infoCd rfl (cd_one _ _ _)
   have HBZ : Hid (Below X.heap.size X Z) := HBW.out.trans (hbZ.mono HBW.out.size)
   have h1 := hd.holds
   have HCA : Hid (Calls Tryz.prog 81 #[.pointer (some ⟨w.heap.size, 0, none⟩)] Z fun e w' => e = .returned (.bool (decide (p.kind = 0 ∨ p.kind = 1))) ∧ Below Z.heap.size Z w') := by
    have PZ : PfAt Z w.heap.size p (.slice A p.sib.length c) := HP.out.below HBZ.out HP.out.lt
    have BZ : Bt.BmAt Z (w.heap.size + 1) k := HM.out.below HBZ.out HM.out.lt
    exact pck1 Z w.heap.size p (.slice A p.sib.length c) PZ
   obtain ⟨q, hq⟩ : ∃ q, q = decide (p.kind = 0 ∨ p.kind = 1) := ⟨_, rfl⟩
   rw [← hq] at HCA
   have HQ := Lib.hid hq
   have HCD := Lib.hid hd
   rw [hZ] at h1
   have HZ := Lib.hid hZ
   clear hq hd hbZ hZ
   go_wp2_with fail
   rw [← HZ.out]
   clear h1 st ix
   refine HCA.out.mono ?_
   rintro _ w5 ⟨rfl, hb5⟩
   have HB5 : Hid (Below X.heap.size X w5) := HBZ.out.trans (hb5.mono HBZ.out.size)
   have h0 := (show CdAt w5 wr.heap.size 7 (.func (.func 81) #[] #[.pointer (some ⟨w.heap.size, 0, none⟩)]) from (hb5.block _ (lt_of_heap HCD.out)).trans HCD.out).errno
   clear hb5 HCA
   cases q with
   | true =>
    go_wp2_with fail
    go_roundg (6 - 1)
    case measure => omega
    case rel => exact ⟨1, rfl, by omega, by omega, ckN_next1 HCN.out (of_decide_eq_true HQ.out.symm), HB5.out⟩
   | false =>
    go_wp2_with fail
    go_ret
    have hbad := HCN.out
    have hnot := of_decide_eq_false HQ.out.symm
    rw [HKK.out] at hbad
    exact ⟨ret_int (ckN_bad1 hbad hnot).symm, HB.out.trans (HB5.out.mono HB.out.size)⟩
  ·rw [show ((1 : Nat) : Int) = 1 from rfl]
   have ix := fun w' => ixCs1 w.heap.size (w.heap.size + 1) w'
   obtain ⟨Z, hZ⟩ : ∃ Z, Z = wr.alloc (.cells #[.int .i64 5, .func (.func 82) #[] #[.pointer (some ⟨w.heap.size, 0, none⟩)]] 152) := ⟨_, rfl⟩
   have hbZ : Below wr.heap.size wr Z := by rw [hZ]; exact Bt.one_below _ _
   have hd : CdAt Z wr.heap.size 5 (.func (.func 82) #[] #[.pointer (some ⟨w.heap.size, 0, none⟩)]) := by show _ = _; rw [hZ]; exact heap_alloc_new wr _
   have st := stA_new (t := 152) wr zCd #[.int .i64 5, .func (.func 82) #[] #[.pointer (some ⟨w.heap.size, 0, none⟩)]] infoCd rfl (cd_one _ _ _)
   have HBZ : Hid (Below X.heap.size X Z) := HBW.out.trans (hbZ.mono HBW.out.size)
   have h1 := hd.holds
   have HCA : Hid (Calls Tryz.prog 82 #[.pointer (some ⟨w.heap.size, 0, none⟩)] Z fun e w' => e = .returned (.bool (decide (0 ≤ p.dep ∧ p.dep ≤ 256))) ∧ Below Z.heap.size Z w') := by
    have PZ : PfAt Z w.heap.size p (.slice A p.sib.length c) := HP.out.below HBZ.out HP.out.lt
    have BZ : Bt.BmAt Z (w.heap.size + 1) k := HM.out.below HBZ.out HM.out.lt
    exact pck2 Z w.heap.size p (.slice A p.sib.length c) PZ
   obtain ⟨q, hq⟩ : ∃ q, q = decide (0 ≤ p.dep ∧ p.dep ≤ 256) := ⟨_, rfl⟩
   rw [← hq] at HCA
   have HQ := Lib.hid hq
   have HCD := Lib.hid hd
   rw [hZ] at h1
   have HZ := Lib.hid hZ
   clear hq hd hbZ hZ
   go_wp2_with fail
   rw [← HZ.out]
   clear h1 st ix
   refine HCA.out.mono ?_
   rintro _ w5 ⟨rfl, hb5⟩
   have HB5 : Hid (Below X.heap.size X w5) := HBZ.out.trans (hb5.mono HBZ.out.size)
   have h0 := (show CdAt w5 wr.heap.size 5 (.func (.func 82) #[] #[.pointer (some ⟨w.heap.size, 0, none⟩)]) from (hb5.block _ (lt_of_heap HCD.out)).trans HCD.out).errno
   clear hb5 HCA
   cases q with
   | true =>
    go_wp2_with fail
    go_roundg (6 - 2)
    case measure => omega
    case rel => exact ⟨2, rfl, by omega, by omega, ckN_next2 HCN.out (of_decide_eq_true HQ.out.symm), HB5.out⟩
   | false =>
    go_wp2_with fail
    go_ret
    have hbad := HCN.out
    have hnot := of_decide_eq_false HQ.out.symm
    rw [HKK.out] at hbad
    exact ⟨ret_int (ckN_bad2 hbad hnot).symm, HB.out.trans (HB5.out.mono HB.out.size)⟩
  ·rw [show ((2 : Nat) : Int) = 2 from rfl]
   have ix := fun w' => ixCs2 w.heap.size (w.heap.size + 1) w'
   obtain ⟨Z, hZ⟩ : ∃ Z, Z = wr.alloc (.cells #[.int .i64 5, .func (.func 83) #[] #[.pointer (some ⟨w.heap.size, 0, none⟩)]] 152) := ⟨_, rfl⟩
   have hbZ : Below wr.heap.size wr Z := by rw [hZ]; exact Bt.one_below _ _
   have hd : CdAt Z wr.heap.size 5 (.func (.func 83) #[] #[.pointer (some ⟨w.heap.size, 0, none⟩)]) := by show _ = _; rw [hZ]; exact heap_alloc_new wr _
   have st := stA_new (t := 152) wr zCd #[.int .i64 5, .func (.func 83) #[] #[.pointer (some ⟨w.heap.size, 0, none⟩)]] infoCd rfl (cd_one _ _ _)
   have HBZ : Hid (Below X.heap.size X Z) := HBW.out.trans (hbZ.mono HBW.out.size)
   have h1 := hd.holds
   have HCA : Hid (Calls Tryz.prog 83 #[.pointer (some ⟨w.heap.size, 0, none⟩)] Z fun e w' => e = .returned (.bool (decide (p.kind = 0 → p.lf = z64))) ∧ Below Z.heap.size Z w') := by
    have PZ : PfAt Z w.heap.size p (.slice A p.sib.length c) := HP.out.below HBZ.out HP.out.lt
    have BZ : Bt.BmAt Z (w.heap.size + 1) k := HM.out.below HBZ.out HM.out.lt
    exact pck3 Z w.heap.size p (.slice A p.sib.length c) HPO.out PZ
   obtain ⟨q, hq⟩ : ∃ q, q = decide (p.kind = 0 → p.lf = z64) := ⟨_, rfl⟩
   rw [← hq] at HCA
   have HQ := Lib.hid hq
   have HCD := Lib.hid hd
   rw [hZ] at h1
   have HZ := Lib.hid hZ
   clear hq hd hbZ hZ
   go_wp2_with fail
   rw [← HZ.out]
   clear h1 st ix
   refine HCA.out.mono ?_
   rintro _ w5 ⟨rfl, hb5⟩
   have HB5 : Hid (Below X.heap.size X w5) := HBZ.out.trans (hb5.mono HBZ.out.size)
   have h0 := (show CdAt w5 wr.heap.size 5 (.func (.func 83) #[] #[.pointer (some ⟨w.heap.size, 0, none⟩)]) from (hb5.block _ (lt_of_heap HCD.out)).trans HCD.out).errno
   clear hb5 HCA
   cases q with
   | true =>
    go_wp2_with fail
    go_roundg (6 - 3)
    case measure => omega
    case rel => exact ⟨3, rfl, by omega, by omega, ckN_next3 HCN.out (of_decide_eq_true HQ.out.symm), HB5.out⟩
   | false =>
    go_wp2_with fail
    go_ret
    have hbad := HCN.out
    have hnot := of_decide_eq_false HQ.out.symm
    rw [HKK.out] at hbad
    exact ⟨ret_int (ckN_bad3 hbad hnot).symm, HB.out.trans (HB5.out.mono HB.out.size)⟩
  ·rw [show ((3 : Nat) : Int) = 3 from rfl]
   have ix := fun w' => ixCs3 w.heap.size (w.heap.size + 1) w'
   obtain ⟨Z, hZ⟩ : ∃ Z, Z = wr.alloc (.cells #[.int .i64 5, .func (.func 84) #[] #[.pointer (some ⟨(w.heap.size + 1), 0, none⟩), .pointer (some ⟨w.heap.size, 0, none⟩)]] 152) := ⟨_, rfl⟩
   have hbZ : Below wr.heap.size wr Z := by rw [hZ]; exact Bt.one_below _ _
   have hd : CdAt Z wr.heap.size 5 (.func (.func 84) #[] #[.pointer (some ⟨(w.heap.size + 1), 0, none⟩), .pointer (some ⟨w.heap.size, 0, none⟩)]) := by show _ = _; rw [hZ]; exact heap_alloc_new wr _
   have st := stA_new (t := 152) wr zCd #[.int .i64 5, .func (.func 84) #[] #[.pointer (some ⟨(w.heap.size + 1), 0, none⟩), .pointer (some ⟨w.heap.size, 0, none⟩)]] infoCd rfl (cd_one _ _ _)
   have HBZ : Hid (Below X.heap.size X Z) := HBW.out.trans (hbZ.mono HBW.out.size)
   have h1 := hd.holds
   have HCA : Hid (Calls Tryz.prog 84 #[.pointer (some ⟨(w.heap.size + 1), 0, none⟩), .pointer (some ⟨w.heap.size, 0, none⟩)] Z fun e w' => e = .returned (.bool (decide (Bt.lastTo k 256 < p.dep))) ∧ Below Z.heap.size Z w') := by
    have PZ : PfAt Z w.heap.size p (.slice A p.sib.length c) := HP.out.below HBZ.out HP.out.lt
    have BZ : Bt.BmAt Z (w.heap.size + 1) k := HM.out.below HBZ.out HM.out.lt
    exact pck4 Z w.heap.size (w.heap.size + 1) p (.slice A p.sib.length c) k HKB.out PZ BZ
   obtain ⟨q, hq⟩ : ∃ q, q = decide (Bt.lastTo k 256 < p.dep) := ⟨_, rfl⟩
   rw [← hq] at HCA
   have HQ := Lib.hid hq
   have HCD := Lib.hid hd
   rw [hZ] at h1
   have HZ := Lib.hid hZ
   clear hq hd hbZ hZ
   go_wp2_with fail
   rw [← HZ.out]
   clear h1 st ix
   refine HCA.out.mono ?_
   rintro _ w5 ⟨rfl, hb5⟩
   have HB5 : Hid (Below X.heap.size X w5) := HBZ.out.trans (hb5.mono HBZ.out.size)
   have h0 := (show CdAt w5 wr.heap.size 5 (.func (.func 84) #[] #[.pointer (some ⟨(w.heap.size + 1), 0, none⟩), .pointer (some ⟨w.heap.size, 0, none⟩)]) from (hb5.block _ (lt_of_heap HCD.out)).trans HCD.out).errno
   clear hb5 HCA
   cases q with
   | true =>
    go_wp2_with fail
    go_roundg (6 - 4)
    case measure => omega
    case rel => exact ⟨4, rfl, by omega, by omega, ckN_next4 HCN.out (of_decide_eq_true HQ.out.symm), HB5.out⟩
   | false =>
    go_wp2_with fail
    go_ret
    have hbad := HCN.out
    have hnot := of_decide_eq_false HQ.out.symm
    rw [HKK.out] at hbad hnot
    exact ⟨ret_int (ckN_bad4 hbad hnot).symm, HB.out.trans (HB5.out.mono HB.out.size)⟩
  ·rw [show ((4 : Nat) : Int) = 4 from rfl]
   have ix := fun w' => ixCs4 w.heap.size (w.heap.size + 1) w'
   obtain ⟨Z, hZ⟩ : ∃ Z, Z = wr.alloc (.cells #[.int .i64 5, .func (.func 86) #[] #[.pointer (some ⟨w.heap.size, 0, none⟩), .pointer (some ⟨(w.heap.size + 1), 0, none⟩)]] 152) := ⟨_, rfl⟩
   have hbZ : Below wr.heap.size wr Z := by rw [hZ]; exact Bt.one_below _ _
   have hd : CdAt Z wr.heap.size 5 (.func (.func 86) #[] #[.pointer (some ⟨w.heap.size, 0, none⟩), .pointer (some ⟨(w.heap.size + 1), 0, none⟩)]) := by show _ = _; rw [hZ]; exact heap_alloc_new wr _
   have st := stA_new (t := 152) wr zCd #[.int .i64 5, .func (.func 86) #[] #[.pointer (some ⟨w.heap.size, 0, none⟩), .pointer (some ⟨(w.heap.size + 1), 0, none⟩)]] infoCd rfl (cd_one _ _ _)
   have HBZ : Hid (Below X.heap.size X Z) := HBW.out.trans (hbZ.mono HBW.out.size)
   have h1 := hd.holds
   have HCA : Hid (Calls Tryz.prog 86 #[.pointer (some ⟨w.heap.size, 0, none⟩), .pointer (some ⟨(w.heap.size + 1), 0, none⟩)] Z fun e w' => e = .returned (.bool (decide (p.dep = 0 ∨ Bt.hasK k (p.dep - 1) = true))) ∧ Below Z.heap.size Z w') := by
    have PZ : PfAt Z w.heap.size p (.slice A p.sib.length c) := HP.out.below HBZ.out HP.out.lt
    have BZ : Bt.BmAt Z (w.heap.size + 1) k := HM.out.below HBZ.out HM.out.lt
    exact pck5 Z w.heap.size (w.heap.size + 1) p (.slice A p.sib.length c) k HKB.out (HCN.out.2.1 (by omega)).1 (HCN.out.2.1 (by omega)).2 PZ BZ
   obtain ⟨q, hq⟩ : ∃ q, q = decide (p.dep = 0 ∨ Bt.hasK k (p.dep - 1) = true) := ⟨_, rfl⟩
   rw [← hq] at HCA
   have HQ := Lib.hid hq
   have HCD := Lib.hid hd
   rw [hZ] at h1
   have HZ := Lib.hid hZ
   clear hq hd hbZ hZ
   go_wp2_with fail
   rw [← HZ.out]
   clear h1 st ix
   refine HCA.out.mono ?_
   rintro _ w5 ⟨rfl, hb5⟩
   have HB5 : Hid (Below X.heap.size X w5) := HBZ.out.trans (hb5.mono HBZ.out.size)
   have h0 := (show CdAt w5 wr.heap.size 5 (.func (.func 86) #[] #[.pointer (some ⟨w.heap.size, 0, none⟩), .pointer (some ⟨(w.heap.size + 1), 0, none⟩)]) from (hb5.block _ (lt_of_heap HCD.out)).trans HCD.out).errno
   clear hb5 HCA
   cases q with
   | true =>
    go_wp2_with fail
    go_roundg (6 - 5)
    case measure => omega
    case rel => exact ⟨5, rfl, by omega, by omega, ckN_next5 HCN.out (of_decide_eq_true HQ.out.symm), HB5.out⟩
   | false =>
    go_wp2_with fail
    go_ret
    have hbad := HCN.out
    have hnot := of_decide_eq_false HQ.out.symm
    rw [HKK.out] at hbad hnot
    exact ⟨ret_int (ckN_bad5 hbad hnot).symm, HB.out.trans (HB5.out.mono HB.out.size)⟩
  ·rw [show ((5 : Nat) : Int) = 5 from rfl]
   have ix := fun w' => ixCs5 w.heap.size (w.heap.size + 1) w'
   obtain ⟨Z, hZ⟩ : ∃ Z, Z = wr.alloc (.cells #[.int .i64 5, .func (.func 88) #[] #[.pointer (some ⟨w.heap.size, 0, none⟩), .pointer (some ⟨(w.heap.size + 1), 0, none⟩)]] 152) := ⟨_, rfl⟩
   have hbZ : Below wr.heap.size wr Z := by rw [hZ]; exact Bt.one_below _ _
   have hd : CdAt Z wr.heap.size 5 (.func (.func 88) #[] #[.pointer (some ⟨w.heap.size, 0, none⟩), .pointer (some ⟨(w.heap.size + 1), 0, none⟩)]) := by show _ = _; rw [hZ]; exact heap_alloc_new wr _
   have st := stA_new (t := 152) wr zCd #[.int .i64 5, .func (.func 88) #[] #[.pointer (some ⟨w.heap.size, 0, none⟩), .pointer (some ⟨(w.heap.size + 1), 0, none⟩)]] infoCd rfl (cd_one _ _ _)
   have HBZ : Hid (Below X.heap.size X Z) := HBW.out.trans (hbZ.mono HBW.out.size)
   have h1 := hd.holds
   have HCA : Hid (Calls Tryz.prog 88 #[.pointer (some ⟨w.heap.size, 0, none⟩), .pointer (some ⟨(w.heap.size + 1), 0, none⟩)] Z fun e w' => e = .returned (.bool (decide (p.sib.length = (Bt.setZ k 256).length))) ∧ Below Z.heap.size Z w') := by
    have PZ : PfAt Z w.heap.size p (.slice A p.sib.length c) := HP.out.below HBZ.out HP.out.lt
    have BZ : Bt.BmAt Z (w.heap.size + 1) k := HM.out.below HBZ.out HM.out.lt
    exact pck6 Z w.heap.size (w.heap.size + 1) p A c k HKB.out HPO.out PZ BZ
   obtain ⟨q, hq⟩ : ∃ q, q = decide (p.sib.length = (Bt.setZ k 256).length) := ⟨_, rfl⟩
   rw [← hq] at HCA
   have HQ := Lib.hid hq
   have HCD := Lib.hid hd
   rw [hZ] at h1
   have HZ := Lib.hid hZ
   clear hq hd hbZ hZ
   go_wp2_with fail
   rw [← HZ.out]
   clear h1 st ix
   refine HCA.out.mono ?_
   rintro _ w5 ⟨rfl, hb5⟩
   have HB5 : Hid (Below X.heap.size X w5) := HBZ.out.trans (hb5.mono HBZ.out.size)
   have h0 := (show CdAt w5 wr.heap.size 5 (.func (.func 88) #[] #[.pointer (some ⟨w.heap.size, 0, none⟩), .pointer (some ⟨(w.heap.size + 1), 0, none⟩)]) from (hb5.block _ (lt_of_heap HCD.out)).trans HCD.out).errno
   clear hb5 HCA
   cases q with
   | true =>
    go_wp2_with fail
    go_roundg (6 - 6)
    case measure => omega
    case rel => exact ⟨6, rfl, by omega, by omega, ckN_next6 HCN.out (of_decide_eq_true HQ.out.symm), HB5.out⟩
   | false =>
    go_wp2_with fail
    go_ret
    have hbad := HCN.out
    have hnot := of_decide_eq_false HQ.out.symm
    rw [HKK.out] at hbad hnot
    exact ⟨ret_int (ckN_bad6 hbad hnot).symm, HB.out.trans (HB5.out.mono HB.out.size)⟩
  ·rw [show ((6 : Nat) : Int) = 6 from rfl]
   go_wp2_with fail
   go_ret
   have hok := HCN.out
   rw [HKK.out] at hok
   exact ⟨ret_int (ckN_ok hok).symm, HB.out.trans (HBW.out.mono HB.out.size)⟩
end
section
open Go.RowKit
theorem Keep.new16 {L : Nat → Prop} {w w' : World} {g : Nat} (h : Keep L w w') (hg : w.heap.size ≤ g) (cs : Array Value) : Keep L w (w'.setRow g cs) :=
 h.step (Keep.row w' g cs) fun i hi => .inr (by have e : i = g := hi; omega)
theorem digN_c (w : World) (b : Nat) (n : Int) (c : Nat) (hh : Hs w b n c) (hc : c ≤ 2000000) (hvx : Vars w) :
  Calls Tryz.prog 59 #[ptr b, .pointer none] w fun x w' => ∃ c', x = .returned (.agg (bA (digL n emptyL))) ∧ c' ≤ c + 1 ∧ Hs w' b n c' ∧ Keep (fun i => i = b) w w' := by
 obtain ⟨X, hX⟩ : ∃ X, X = w.alloc (.cells (bA z26) 47) := ⟨_, rfl⟩
 have hb0 : Below w.heap.size w X := by rw [hX]; exact (Below.refl _ _).alloc (Nat.le_refl _) _
 have r0 : X.heap[w.heap.size]? = some (.cells (bA z26) 47 (0, 0)) := by rw [hX]; exact heap_alloc_new w _
 have HX := Lib.hid hX
 have HB0 := Lib.hid hb0
 have HR0 := Lib.hid r0
 have HH0 := Lib.hid (hh.keep (Keep.of_below (L := fun _ => False) hb0) fun h => h)
 have HV0 := Lib.hid (hvx.below hb0)
 have HGB : Hid (w.heap.size ≠ b) := by have := lt_of_heap hh; show _ ≠ _; omega
 obtain ⟨q, hq⟩ : ∃ q, q = digL n emptyL := ⟨_, rfl⟩
 have hql : q.length = 32 := by rw [hq]; exact dig_len _ _
 have HQ := Lib.hid hq
 have HQL := Lib.hid hql
 rw [← hq]
 have HC := Lib.hid (pempty_c X)
 clear hX hb0 r0 hvx hh hq hql
 go_enter Tryz.func59, Tryz.ntmps59
 go_wp2_with fail
 rw [← HX.out]
 refine HC.out.mono ?_
 rintro _ w1 ⟨A1, c1, rfl, hl1, hc1, hA1, hB⟩
 have HB1 := Lib.hid hB
 have HH1 := Lib.hid (HH0.out.keep (Keep.of_below (L := fun _ => False) hB) fun h => h)
 have HC1 := Lib.hid (sum_hs b n c A1 emptyL c1 w1 HH1.out (by omega) hA1 hc1 (by decide) (HV0.out.below hB))
 rw [show emptyL.length = 1 from rfl, ← HQ.out] at HC1
 clear hl1 hc1 hA1 hB HC
 go_wp2_with fail
 refine HC1.out.mono ?_
 rintro _ w2 ⟨rfl, hh2, hk2⟩
 have hr2 : w2.heap[w.heap.size]? = some (.cells (bA z26) 47 (0, 0)) := hk2.heap ((Keep.of_below (L := fun _ => False) HB1.out).heap HR0.out fun h => h) HGB.out
 have st := stA_row (t := 47) (v := bA q) hr2 (by rw [bA_size, HQL.out]; exact info26) (by rw [bA_size, bA_size, HQL.out]; rfl) (bA_one _)
 have HM := Lib.hid (setRow_heap w2 w.heap.size _ (bA q) 47 _ hr2)
 have HK : Hid (Keep (fun i => i = b) w (w2.setRow w.heap.size (bA q))) := (((Keep.of_below HB0.out).trans (Keep.of_below HB1.out)).trans hk2).new16 (Nat.le_refl _) _
 have HHF : Hid (Hs (w2.setRow w.heap.size (bA q)) b n (c + 1)) := by
  show Hs _ _ _ _
  unfold Hs
  rw [setRow_other _ _ _ _ (Ne.symm HGB.out)]
  exact hh2
 clear hh2 hk2 hr2 HC1
 go_wp2_with fail
 refine bodyPost_ret (v := .agg (bA q)) ?_ rfl ⟨c + 1, rfl, Nat.le_refl _, HHF.out, HK.out⟩
 exact results_cell_row Tryz.results59 _ _ w.heap.size 47 _ (0, 0) _ rfl HM.out Tryz.underlying47 rfl (by rw [bA_size, HQL.out]; exact info26)
end
section
open Go.RowKit
theorem setZ_at (k : Nat → Nat) : ∀ (n i : Nat) (x : Int), (Bt.setZ k n)[i]? = some x → ∃ j : Nat, j < n ∧ x = (j : Int) ∧ Bt.bit k j = 1 ∧ (Bt.setZ k j).length = i
 | 0, i, x, h => by
  have h' : ([] : List Int)[i]? = some x := h
  simp at h'
 | n + 1, i, x, h => by
  unfold Bt.setZ at h
  split at h
  ·rename_i hb
   rcases Nat.lt_or_ge i (Bt.setZ k n).length with hi | hi
   ·rw [List.getElem?_append_left hi] at h
    obtain ⟨j, h1, h2⟩ := setZ_at k n i x h
    exact ⟨j, by omega, h2⟩
   ·rw [List.getElem?_append_right hi] at h
    have h0 : i - (Bt.setZ k n).length = 0 := by
     have := (List.getElem?_eq_some_iff.1 h).1
     simp at this; omega
    rw [h0] at h
    exact ⟨n, by omega, by simpa using h.symm, hb, by omega⟩
  ·obtain ⟨j, h1, h2⟩ := setZ_at k n i x h
   exact ⟨j, by omega, h2⟩
theorem cntB_inj {bm : List UInt8} {i j : Nat} (hi : Bt.bit (keyF bm) i = 1) (hj : Bt.bit (keyF bm) j = 1) (h : cntB bm i = cntB bm j) : i = j := by
 have up : ∀ a c : Nat, a < c → Bt.bit (keyF bm) a = 1 → cntB bm a < cntB bm c := fun a c hac ha => by
  have h1 := cntB_succ bm a
  rw [if_pos ha] at h1
  have h2 := cntB_mono bm (show a + 1 ≤ c by omega)
  omega
 rcases Nat.lt_trichotomy i j with e | e | e
 ·have := up i j e hi; omega
 ·exact e
 ·have := up j i e hj; omega
structure RowK (n : Int) (bm : List UInt8) (sib : List (List UInt8)) (D m : Nat) (row : List (List UInt8)) : Prop where
 len : row.length = D
 there : ∀ j, j < D → row[j]? = some (if Bt.bit (keyF bm) j = 1 ∧ cntB bm j < m then sib.getD (cntB bm j) [] else digL n emptyL)
theorem RowK.zero (n : Int) (bm : List UInt8) (sib : List (List UInt8)) (D : Nat) : RowK n bm sib D 0 (List.replicate D (digL n emptyL)) :=
 ⟨List.length_replicate, fun j hj => by rw [if_neg (by omega), List.getElem?_replicate, if_pos hj]⟩
theorem RowK.next {n : Int} {bm : List UInt8} {sib row : List (List UInt8)} {D m j : Nat} {x : List UInt8} (h : RowK n bm sib D m row) (hj : j < D) (hb : Bt.bit (keyF bm) j = 1) (hc : cntB bm j = m) (hx : sib[m]? = some x) : RowK n bm sib D (m + 1) (row.set j x) := by
 refine ⟨by rw [List.length_set]; exact h.len, fun i hi => ?_⟩
 by_cases e : j = i
 ·subst e
  rw [List.getElem?_set_self (by rw [h.len]; exact hj), if_pos ⟨hb, by omega⟩, hc, List.getD_eq_getElem?_getD, hx]; rfl
 ·rw [List.getElem?_set_ne e, h.there i hi]
  by_cases hbi : Bt.bit (keyF bm) i = 1
  ·have hne : cntB bm i ≠ m := fun h1 => e (cntB_inj hb hbi (by rw [hc, h1]))
   by_cases hl : cntB bm i < m
   ·rw [if_pos ⟨hbi, hl⟩, if_pos ⟨hbi, by omega⟩]
   ·rw [if_neg (fun h => hl h.2), if_neg (fun h => by have := h.2; omega)]
  ·rw [if_neg (fun h => hbi h.1), if_neg (fun h => hbi h.1)]
theorem expL_at (n : Int) (bm : List UInt8) (sib : List (List UInt8)) : ∀ (D j : Nat), j < D → (expL n bm sib D)[j]? = some (if Bt.bit (keyF bm) j = 1 then sib.getD (cntB bm j) [] else digL n emptyL)
 | 0, j, h => by omega
 | D + 1, j, h => by
  unfold expL
  by_cases e : j = D
  ·subst e
   rw [List.getElem?_append_right (by rw [expL_len]; exact Nat.le_refl _), expL_len, Nat.sub_self]; rfl
  ·rw [List.getElem?_append_left (by rw [expL_len]; omega)]
   exact expL_at n bm sib D j (by omega)
theorem RowK.done {n : Int} {bm : List UInt8} {sib row : List (List UInt8)} {D m : Nat} (h : RowK n bm sib D m row) (hD : D ≤ 256) (hm : (Bt.setZ (keyF bm) 256).length = m) : row = expL n bm sib D := by
 apply List.ext_getElem?
 intro j
 rcases Nat.lt_or_ge j D with hj | hj
 ·rw [h.there j hj, expL_at n bm sib D j hj]
  by_cases hb : Bt.bit (keyF bm) j = 1
  ·have := cntB_lt (show j < 256 by omega) hb
   rw [if_pos ⟨hb, by omega⟩, if_pos hb]
  ·rw [if_neg (fun h => hb h.1), if_neg hb]
 ·rw [List.getElem?_eq_none (by rw [h.len]; exact hj), List.getElem?_eq_none (by rw [expL_len]; exact hj)]
theorem RowK.lens {n : Int} {bm : List UInt8} {sib row : List (List UInt8)} {D m : Nat} (h : RowK n bm sib D m row) (hD : D ≤ 256) (hb : (Bt.setZ (keyF bm) 256).length = sib.length) (hs : ∀ s ∈ sib, s.length = 32) : ∀ s ∈ row, s.length = 32 := fun s hs' => by
 obtain ⟨j, hj⟩ := List.mem_iff_getElem?.1 hs'
 have hjD : j < D := by have := (List.getElem?_eq_some_iff.1 hj).1; rw [h.len] at this; exact this
 rw [h.there j hjD] at hj
 cases hj
 by_cases hc : Bt.bit (keyF bm) j = 1 ∧ cntB bm j < m
 ·rw [if_pos hc]
  have := cntB_lt (show j < 256 by omega) hc.1
  rw [List.getD_eq_getElem?_getD, List.getElem?_eq_getElem (by omega)]
  exact hs _ (List.getElem_mem _)
 ·rw [if_neg hc]; exact dig_len _ _
theorem keep_setCells (g : Nat) : ∀ (vs : List Value) (o : Nat) (w : World), Keep (fun i => i = g) w (w.setCells g o vs)
 | [], _, _ => Keep.refl _ _
 | v :: r, o, w => (Keep.cell w ⟨g, o, none⟩ v).trans (keep_setCells g r (o + 1) _)
theorem pexp_1 (w : World) (b : Nat) (n : Int) (m : Nat) (p : Pf) (A : Option Addr) (c : Nat) (hH : Hs w b n m) (hm : m ≤ 500000) (hv : Vars w) (hp : p.Ok) (hA : DS w A p.sib) (hc : p.sib.length ≤ c) (hl : p.sib.length ≤ 1000000) (h0 : chkP p = 0) :
  Calls Tryz.prog 147 #[ptr b, .agg (pfC p (.slice A p.sib.length c))] w fun e w' => ∃ A' c' m', e = .returned (.tuple #[.slice A' (expL n p.bm p.sib p.dep.toNat).length c', .int .i64 0]) ∧ NewD w' w.heap.size A' c' (expL n p.bm p.sib p.dep.toNat) ∧ m' ≤ m + 1 ∧ Hs w' b n m' ∧ Keep (fun i => i = b) w w' := by
 obtain ⟨X, hX⟩ : ∃ X, X = w.alloc (.cells (pfC p (.slice A p.sib.length c)) 53) := ⟨_, rfl⟩
 have hB : Below w.heap.size w X := by rw [hX]; exact Bt.one_below _ _
 have hP : PfAt X w.heap.size p (.slice A p.sib.length c) := by rw [hX]; exact PfAt.one _ _ _
 have hgood : p.good := by
  rcases chkP_cases p with h | ⟨_, h | h⟩
  ·omega
  ·omega
  ·exact h.2
 obtain ⟨D, hD⟩ : ∃ D : Nat, D = p.dep.toNat := ⟨_, rfl⟩
 have hdep : p.dep = (D : Int) := by have := hgood.1; omega
 have HD2 : Hid (D ≤ 256) := by have := hgood.2.1; show D ≤ 256; omega
 have HGD := Lib.hid hgood
 have HCK := pcheck_c X p A c hp (hA.below hB) hc hl
 rw [h0] at HCK
 have HCK := Lib.hid HCK
 have ld := hP.ld hp
 rw [hX] at ld
 have HBL : Hid (b < w.heap.size) := lt_of_heap hH
 have HX := Lib.hid hX
 have HB := Lib.hid hB
 have HP := Lib.hid hP
 have HPO := Lib.hid hp
 have HAX := Lib.hid (hA.below hB)
 have HHX := Lib.hid (hH.keep (Keep.of_below (L := fun _ => False) hB) id)
 have HVX := Lib.hid (hv.below hB)
 have HMM := Lib.hid hm
 have HSL := Lib.hid hl
 obtain ⟨d, hd⟩ : ∃ d, d = digL n emptyL := ⟨_, rfl⟩
 have HDL : Hid (d.length = 32) := by show _ = _; rw [hd]; exact dig_len _ _
 have HDG := Lib.hid hd
 rw [← hD]
 have HDP := Lib.hid hdep
 clear hB hP hgood hp hA hc hl h0 hX hH hv hm hD hdep hd
 go_enter Tryz.func147, Tryz.ntmps147
 go_wp2_with fail
 rw [← HX.out]
 clear HX ld
 refine HCK.out.mono ?_
 rintro _ w1 ⟨rfl, hb1⟩
 have HB1 := Lib.hid hb1
 have HH1X : Hid (Hs w1 b n m) := HHX.out.keep (Keep.of_below (L := fun _ => False) hb1) id
 have HBW1 : Hid (Below w.heap.size w w1) := HB.out.trans (hb1.mono HB.out.size)
 have HP1 : Hid (PfAt w1 w.heap.size p (.slice A p.sib.length c)) := HP.out.below hb1 HP.out.lt
 have HNB : Hid (¬ w.heap.size = b) := fun e => by have := HBL.out; omega
 have LD : Hid (∀ q, Keep (fun i => i = b) w1 q → q.cell? ⟨w.heap.size, 1, none⟩ = some (.int .i64 (D : Int))) := fun q h => by
  have := (HP1.out.keep h HNB.out).dep
  rwa [HDP.out] at this
 have HRC : Hid (∀ q, Below w1.heap.size w1 q → Calls Tryz.prog 59 #[ptr b, .pointer none] q fun e w' => ∃ c2, e = .returned (.agg (bA d)) ∧ c2 ≤ m + 1 ∧ Hs w' b n c2 ∧ Keep (fun i => i = b) q w') := fun q h => by
  have := digN_c q b n m (HH1X.out.keep (Keep.of_below (L := fun _ => False) h) id) (by have := HMM.out; omega) ((HVX.out.below hb1).below h)
  rw [← HDG.out] at this
  exact this
 have bsx := bsD_one d HDL.out
 clear hb1 HCK
 go_wp2_with fail
 refine region_heldT 6 (fun q => Keep (fun i => i = b) w1 q) (by kernel_rfl) ?_
 have hHeld : Keep (fun i => i = b) w1 w1.drew := (Keep.refl _ _).drew
 refine HeldT.take (i := 0) (oi := { dst := some 15, op := .move (.tmp 0), .. }) (v := ?_) rfl (by kernel_rfl) (by kernel_rfl) (by kernel_rfl) (by kernel_rfl) (fun _ _ _ h => h) (Or.inl ⟨by rfl, ?_⟩) (by assumption) ?_
 rotate_left 1
 ·intro v hSv
  clear hSv
  go_simp
  try with_reducible rfl
 try simp only [Act.put, x_A, x_0, x_1]
 refine HeldT.take (i := 3) (oi := { dst := some 18, op := .fieldAddr _ (.tmp 3) 1, .. }) (v := ?_) rfl (by kernel_rfl) (by kernel_rfl) (by kernel_rfl) (by kernel_rfl) (fun _ _ _ h => h) (Or.inl ⟨by rfl, ?_⟩) (by assumption) ?_
 rotate_left 1
 ·intro v hSv
  clear hSv
  go_simp
  try with_reducible rfl
 try simp only [Act.put, x_A, x_0, x_1]
 refine HeldT.take (i := 4) (oi := { dst := some 19, op := .load _ (.tmp 18), .. }) (v := ?_) rfl (by kernel_rfl) (by kernel_rfl) (by kernel_rfl) (by kernel_rfl) (fun _ _ _ h => h) (Or.inl ⟨by rfl, ?_⟩) (by assumption) ?_
 rotate_left 1
 ·intro v hSv
  have hv1 := LD.out v hSv
  clear hSv
  go_simp
  try with_reducible rfl
 try simp only [Act.put, x_A, x_0, x_1]
 refine HeldT.one (i := 1) (o := { dst := some 16, op := .call _, .. }) (by kernel_rfl) rfl rfl (fun K hK => ?_)
 go_wp2_with fail
 refine (HRC.out _ ((Below.refl _ _).drew)).mono ?_
 rintro e y1 ⟨m1, rfl, hm1, hH1, hk1⟩
 have hq1 : Keep (fun i => i = b) w1 y1 := ((Keep.refl _ _).drew).trans hk1
 have HQ1 := Lib.hid hq1
 have HM1 := Lib.hid hm1
 have HH1 := Lib.hid hH1
 clear hk1 hm1 hH1
 go_wp2_with fail
 refine hK.out _ _ (fun _ => hq1) (fun hS => ?_)
 have hHeld := hS (by decide)
 clear hS hK K
 try simp only [Act.put, x_A, x_0, x_1]
 clear hq1
 refine HeldT.one (i := 2) (o := { dst := some 17, op := .buildSlice _ _ _, .. }) (by kernel_rfl) rfl rfl (fun K hK => ?_)
 obtain ⟨Z, hZ⟩ : ∃ Z, Z = y1.alloc (.cells (bA d) 47) := ⟨_, rfl⟩
 have hq2 : Keep (fun i => i = b) w1 Z := by rw [hZ]; exact HQ1.out.alloc _
 have HDZ : Hid (DS Z (some ⟨y1.heap.size, 0, none⟩) [d]) := fun i x hi => by
  cases i with
  | zero => cases hi; exact ⟨HDL.out, y1.heap.size, 0, rfl, by rw [hZ]; exact dig_made _ _ _⟩
  | succ i => simp at hi
 have HHZ : Hid (Hs Z b n m1) := by show Hs _ _ _ _; rw [hZ]; exact HH1.out.keep ((Keep.refl (fun _ => False) _).alloc _) id
 have HQ2 := Lib.hid hq2
 have HZ := Lib.hid hZ
 clear hZ HQ1 HH1
 go_wp2_with fail
 rw [← HZ.out]
 refine hK.out _ _ (fun _ => hq2) (fun hS => ?_)
 have hHeld := hS (by decide)
 clear hS hK K
 try simp only [Act.put, x_A, x_0, x_1]
 clear hq2 HZ
 refine HeldT.one (i := 5) (o := { dst := some 20, op := .call _, .. }) (by kernel_rfl) rfl rfl (fun K hK => ?_)
 have HRP := Lib.hid (drep_c ⟨y1.heap.size, 0, none⟩ 1 D d Z HDZ.out (by have := HD2.out; omega))
 go_wp2_with fail
 refine HRP.out.mono ?_
 rintro e V ⟨rfl, hO, hbV⟩
 have HO := Lib.hid hO
 have HBV := Lib.hid hbV
 have hq3 : Keep (fun i => i = b) w1 V := HQ2.out.trans (Keep.of_below hbV)
 have HQ3 := Lib.hid hq3
 clear hO hbV HRP
 go_wp2_with fail
 refine hK.out _ _ (fun _ => hq3) (fun hS => ?_)
 have hHeld := hS (by decide)
 clear hS hK K
 try simp only [Act.put, x_A, x_0, x_1]
 clear hq3
 refine HeldT.one (i := 6) (o := { dst := some 7, op := .assign (.tmp 20), .. }) (by kernel_rfl) rfl rfl (fun K hK => ?_)
 go_wp2_with fail
 refine hK.out _ _ (fun h => absurd rfl h) (fun _ => ?_)
 clear hK K
 refine HeldT.done (by kernel_rfl) ?_ _
 have HPZ : Hid (PfAt Z w.heap.size p (.slice A p.sib.length c)) := HP1.out.keep HQ2.out HNB.out
 have HPV := Lib.hid (HPZ.out.below HBV.out HPZ.out.lt)
 have HDSZ : Hid (DS Z A p.sib) := DS.hs (HAX.out.below HB1.out) HH1X.out HQ2.out
 have c3 := HPV.out.bm HPO.out
 have c3' := HPV.out.bmA HPO.out
 rw [bA_key p.bm HPO.out.bm] at c3 c3'
 have HLI := Lib.hid (Bt.list_c (keyF p.bm) (keyF_byt p.bm) V)
 clear bsx
 go_wp2_with fail
 clear c3 c3'
 refine HLI.out.mono ?_
 rintro e W ⟨lv, rfl, hOZ, hbW⟩
 obtain ⟨A4, c4, hlv, _⟩ := hOZ.is
 subst hlv
 obtain ⟨L, hL⟩ : ∃ L, L = Bt.setZ (keyF p.bm) 256 := ⟨_, rfl⟩
 rw [← hL] at hOZ ⊢
 obtain ⟨N, hN⟩ : ∃ N, N = L.length := ⟨_, rfl⟩
 have HLS := Lib.hid hL
 have HN : Hid (p.sib.length = N) := by show _ = _; rw [hN, hL]; exact HGD.out.2.2.2.1.symm
 have HNL := Lib.hid hN
 have HN2 : Hid (N ≤ 1000000) := by show _ ≤ _; rw [← HN.out]; exact HSL.out
 have HBW := Lib.hid hbW
 have HOZ := Lib.hid hOZ
 have HBZW : Hid (Below Z.heap.size Z W) := HBV.out.trans (hbW.mono HBV.out.size)
 have HZV : Hid (Z.heap.size < V.heap.size) := by
  obtain ⟨_, cs, hcs⟩ := row11_lt HO.out Z.heap.size rfl
  exact lt_of_heap hcs
 have HOW := Lib.hid (HO.out.below hbW)
 rw [← hN]
 clear hOZ hbW hL hN HLI
 go_wp2_with fail
 go_loopg [8, 9, 25] N (fun gg _ _ i wr => ∃ (t : Nat) (row : List (List UInt8)), i = .int .i64 (t : Int) ∧ t ≤ N ∧ N - t = gg ∧ OwnD wr Z.heap.size (.slice (some ⟨Z.heap.size, 0, none⟩) D D) row ∧ Hid (RowK n p.bm p.sib D t row) ∧ Keep (fun i => i = Z.heap.size) W wr)
 case atStart => exact ⟨0, _, rfl, by omega, by omega, HOW.out, by have := RowK.zero n p.bm p.sib D; rw [← HDG.out] at this; exact this, Keep.refl _ _⟩
 case round =>
  obtain ⟨t, row, rfl, ht, rfl, hO, HRK, hK⟩ := hrel
  have HO1 := Lib.hid hO
  have HK := Lib.hid hK
  have HBU : Hid (Below Z.heap.size Z wr) := keep_new HBZW.out (Nat.le_refl _) hK
  have HPR := Lib.hid (HPZ.out.below HBU.out HPZ.out.lt)
  have HLEN := Lib.hid (HRK.out.lens HD2.out HGD.out.2.2.2.1 HPO.out.sib)
  have HOZR : Hid (Bt.OwnZ wr V.heap.size (.slice A4 L.length c4) L) := row11_keep HOZ.out hK fun g h e => by
   have h1 := (row11_lt HOZ.out g h).1
   have h2 : g = Z.heap.size := e
   have := HZV.out; omega
  clear hO hK
  by_cases hlt : t < N
  ·have hd : decide (t < N) = true := decide_eq_true hlt
   have hd' : decide ((t : Int) < (N : Int)) = true := decide_eq_true (by omega)
   obtain ⟨x0, hx0⟩ : ∃ x0, L[t]? = some x0 := ⟨_, List.getElem?_eq_getElem (by rw [← HNL.out]; exact hlt)⟩
   obtain ⟨j, hj256, rfl, hbit, hcnt⟩ := setZ_at (keyF p.bm) 256 t x0 (by rw [← HLS.out]; exact hx0)
   obtain ⟨A5, c5, e5, hza⟩ := HOZR.out.is
   cases e5
   obtain ⟨g4, o4, rfl, hcell⟩ := hza t _ hx0
   have hjD : j < D := by
    have h1 := lastTo_mono (keyF p.bm) hbit 256 hj256
    have h2 := HGD.out.2.2.2.2
    have h3 := HDP.out
    omega
   obtain ⟨y, hy⟩ : ∃ y, p.sib[t]? = some y := ⟨_, List.getElem?_eq_getElem (by rw [HN.out]; exact hlt)⟩
   obtain ⟨hyl, bx, ox, hAe, hry⟩ := (HDSZ.out.below (HBU.out)) t y hy
   have s4 := HPR.out.sib HPO.out
   rw [hAe, HN.out] at s4
   have ldx := ldDig hry hyl
   have hrl : row.length = D := HRK.out.len
   obtain ⟨st, hO'⟩ := HO1.out.put (i := j) HLEN.out (by rw [hrl]; exact hjD) hyl
   have HRN : Hid (RowK n p.bm p.sib D (t + 1) (row.set j y)) := HRK.out.next hjD hbit hcnt hy
   have HO6 := Lib.hid hO'
   have HK6 : Hid (Keep (fun i => i = Z.heap.size) W (wr.setCells Z.heap.size (j * 32) (y.map bv))) := HK.out.trans (keep_setCells _ _ _ _)
   have i0 : (0 : Int) ≤ (t : Int) := by omega
   have i1 : (t : Int) < (N : Int) := by omega
   have j0 : (0 : Int) ≤ (j : Int) := by omega
   have j1 : (j : Int) < (D : Int) := by omega
   have hw1 : IntKind.i64.wrap ((t : Int) + 1) = (t : Int) + 1 := Bt.wrap_inr (by omega) (by have := HN2.out; omega)
   clear hx0 hj256 hbit hcnt hza hy hyl hry hrl hO' hAe
   go_wp2_with fail
   go_roundg (N - (t + 1))
   case measure => omega
   case rel => exact ⟨t + 1, _, by go_num, by omega, rfl, HO6.out, HRN, HK6.out⟩
  ·obtain rfl : t = N := by omega
   have hd : decide (t < t) = false := decide_eq_false (by omega)
   go_wp2_with fail
   go_ret2
   have hrow := HRK.out.done HD2.out (by rw [HGD.out.2.2.2.1]; exact HN.out)
   have hO := HO1.out
   rw [hrow] at hO
   have hZw : w.heap.size ≤ Z.heap.size := Nat.le_trans HBW1.out.size HQ2.out.size
   refine ⟨some ⟨Z.heap.size, 0, none⟩, D, m1, by rw [expL_len]; rfl, ⟨by rw [expL_len]; exact Nat.le_refl _, .inr (OwnD.mono (B := Z.heap.size) (by rw [expL_len]; exact hO) hZw)⟩, by have := HM1.out; omega, (HHZ.out.keep (Keep.of_below (L := fun _ => False) HBZW.out) id).keep HK.out fun e => by have := HBL.out; omega, ?_⟩
   have k1 : Keep (fun i => i = b) w W := ((Keep.of_below HBW1.out).trans HQ2.out).trans (Keep.of_below HBZW.out)
   exact k1.step HK.out fun i hi => .inr (by have e : i = Z.heap.size := hi; omega)
theorem pexp_ok (w : World) (b : Nat) (n : Int) (m : Nat) (p : Pf) (A : Option Addr) (c : Nat) (hH : Hs w b n m) (hm : m ≤ 500000) (hv : Vars w) (hp : p.Ok) (hA : DS w A p.sib) (hc : p.sib.length ≤ c) (hl : p.sib.length ≤ 1000000) (h0 : chkP p = 0) :
  Calls Tryz.prog 147 #[ptr b, .agg (pfC p (.slice A p.sib.length c))] w fun e w' => ∃ A' c' m', e = .returned (.tuple #[.slice A' (expL n p.bm p.sib p.dep.toNat).length c', .int .i64 0]) ∧ NewD w' w.heap.size A' c' (expL n p.bm p.sib p.dep.toNat) ∧ m' ≤ m + 1000 ∧ Hs w' b n m' ∧ Keep (fun i => i = b) w w' :=
 (pexp_1 w b n m p A c hH hm hv hp hA hc hl h0).mono fun _ _ ⟨A', c', m', h1, h2, h3, h4⟩ => ⟨A', c', m', h1, h2, by omega, h4⟩
theorem pexp_bad
  (w : World) (b : Nat) (n : Int) (m : Nat) (p : Pf) (A : Option Addr) (c : Nat) (hH : Hs w b n m) (hp : p.Ok) (hA : DS w A p.sib) (hc : p.sib.length ≤ c) (hl : p.sib.length ≤ 1000000) (h0 : chkP p ≠ 0) :
  Calls Tryz.prog 147 #[ptr b, .agg (pfC p (.slice A p.sib.length c))] w fun e w' => ∃ A' c' m', e = .returned (.tuple #[.slice A' 0 c', .int .i64 (chkP p)]) ∧ m' ≤ m + 1000 ∧ Hs w' b n m' ∧ Keep (fun i => i = b) w w' := by
 obtain ⟨X, hX⟩ : ∃ X, X = w.alloc (.cells (pfC p (.slice A p.sib.length c)) 53) := ⟨_, rfl⟩
 have hB : Below w.heap.size w X := by rw [hX]; exact Bt.one_below _ _
 have hP : PfAt X w.heap.size p (.slice A p.sib.length c) := by rw [hX]; exact PfAt.one _ _ _
 have HCK := Lib.hid (pcheck_c X p A c hp (hA.below hB) hc hl)
 have ld := hP.ld hp
 rw [hX] at ld
 obtain ⟨z, hz⟩ : ∃ z, z = chkP p := ⟨_, rfl⟩
 rw [← hz] at HCK h0 ⊢
 have nz : (z != 0) = true := by simpa using h0
 have HX := Lib.hid hX
 have HB := Lib.hid hB
 have HHX := Lib.hid (hH.keep (Keep.of_below (L := fun _ => False) hB) id)
 clear hB hP hp hA hc hl h0 hX hH hz
 go_enter Tryz.func147, Tryz.ntmps147
 go_wp2_with fail
 rw [← HX.out]
 clear HX ld
 refine HCK.out.mono ?_
 rintro _ w1 ⟨rfl, hb1⟩
 have HB1 := Lib.hid hb1
 clear hb1 HCK
 go_wp2_with fail
 go_ret2
 exact ⟨none, 0, m, rfl, by omega, HHX.out.keep (Keep.of_below (L := fun _ => False) HB1.out) id, Keep.of_below (HB.out.trans (HB1.out.mono HB.out.size))⟩
end
section
open Go.RowKit
theorem pprove_c {M : World → Int → Tv → Prop} (nd : NdV M) (fv : FnV M) (w : World) (b : Nat) (n : Int) (c : Nat) (l : List Ent) (T : Tv) (k : List UInt8) (hH : Hs w b n c) (hc : c ≤ 500000) (hv : Vars w) (hM : M w n T) (hI : IsMap l T) (hk : k.length = 32) :
  Calls Tryz.prog 28 #[ptr b, T.val, .agg (bA k)] w fun e w' => ∃ A cp c', e = .returned (.agg (pfC (prK n l k (T.dep k 0)) (.slice A (prK n l k (T.dep k 0)).sib.length cp))) ∧ NewD w' w.heap.size A cp (prK n l k (T.dep k 0)).sib ∧ c' ≤ c + 1000 ∧ Hs w' b n c' ∧ Keep (fun i => i = b) w w' := by
 obtain ⟨X, hX⟩ : ∃ X, X = (w.alloc (.cells (bA k) 48)).alloc (.cells (pfC zPf (.slice none 0 0)) 53) := ⟨_, rfl⟩
 have hB : Below w.heap.size w X := by rw [hX]; exact Bt.two_below _ _ _
 have HR0 : Hid (RowB X w.heap.size 48 k) := by show RowB _ _ _ _; rw [hX]; exact heap_alloc2_old w _ _
 have HRX : Hid (PfAt X (w.heap.size + 1) zPf (.slice none 0 0)) := by show PfAt _ _ _ _; rw [hX]; exact heap_alloc2_new w _ _
 have HL1 := Lib.hid (fv.locate X n l T k (nd.below hM hB) hI hk)
 have lk := HR0.out.ldKey hk
 rw [hX] at lk
 have HX := Lib.hid hX
 have HB := Lib.hid hB
 have HKK := Lib.hid hk
 have HHW0 := Lib.hid hH
 have HC0 := Lib.hid hc
 have HV0 := Lib.hid hv
 have HM := Lib.hid hM
 have HI := Lib.hid hI
 have HBL : Hid (b < w.heap.size) := lt_of_heap hH
 obtain ⟨D, hD⟩ : ∃ D, D = T.dep k 0 := ⟨_, rfl⟩
 have HDD := Lib.hid hD
 have HD2 : Hid (D ≤ 256) := by show D ≤ 256; rw [hD]; exact dep_le hI.sep (hI.at k)
 obtain ⟨hkd, hlv⟩ := fin_both hI.sep (hI.at k) n
 rw [← hD] at hkd hlv HL1
 have HLL : Hid ((leafO n (dK l k D)).length = 64) := leafO_len fun e he => hI.sep.len e (dK_mem.1 he).1
 have HKD0 := Lib.hid hkd
 have HLV0 := Lib.hid hlv
 clear hH hc hv hM hI hk hX hB hD hkd hlv
 go_enter Tryz.func28, Tryz.ntmps28
 go_wp2_with fail
 rw [← HX.out]
 clear HX lk
 refine HL1.out.mono ?_
 rintro _ w1 ⟨rfl, hb1⟩
 have HBW1 : Hid (Below w.heap.size w w1) := HB.out.trans (hb1.mono HB.out.size)
 have HMW : Hid (M w1 n (T.fin k 0)) := ms_fin nd k (d := 0) (nd.below HM.out HBW1.out)
 have HKD := nd.kind w1 n (T.fin k 0) HMW.out
 rw [HKD0.out] at HKD
 have HKD := Lib.hid HKD
 have HXW1 := Lib.hid hb1
 clear hb1 HL1
 go_wp2_with fail
 refine HKD.out.mono ?_
 rintro _ w2 ⟨rfl, hb2⟩
 have HXW2 : Hid (Below X.heap.size X w2) := HXW1.out.trans (hb2.mono HXW1.out.size)
 have HLF := nd.leafOf w2 n (T.fin k 0) (nd.below HMW.out hb2)
 rw [HLV0.out] at HLF
 have HLF := Lib.hid HLF
 clear hb2 HKD HXW1
 go_wp2_with fail
 refine HLF.out.mono ?_
 rintro _ w3 ⟨rfl, hb3⟩
 have HXW3 : Hid (Below X.heap.size X w3) := HXW2.out.trans (hb3.mono HXW2.out.size)
 have HGX : Hid (X.heap.size ≤ w3.heap.size) := HXW3.out.size
 have HGW : Hid (w.heap.size ≤ w3.heap.size) := Nat.le_trans HB.out.size HGX.out
 have HNE : Hid (b ≠ w3.heap.size) := fun e => by have := HBL.out; have := HGW.out; omega
 obtain ⟨kd, hkd⟩ : ∃ kd, kd = kindO (dK l k D) := ⟨_, rfl⟩
 obtain ⟨lf, hlf⟩ : ∃ lf, lf = leafO n (dK l k D) := ⟨_, rfl⟩
 have hlf64 : lf.length = 64 := by rw [hlf]; exact HLL.out
 have bd := fun w' => bldPf_kdl kd (D : Int) lf hlf64 w'
 have st2 := stPf_new w3 (p := ⟨kd, (D : Int), lf, z26, []⟩) (z := zPf) ⟨hlf64, rfl, fun s h => by simp at h⟩ zPf_ok none 0 0 (.slice none 0 0)
 obtain ⟨U, hU⟩ : ∃ U, U = w3.alloc (.cells (pfC ⟨kd, (D : Int), lf, z26, []⟩ (.slice none 0 0)) 53) := ⟨_, rfl⟩
 have hPU : PfAt U w3.heap.size ⟨kindO (dK l k D), D, leafO n (dK l k D), bmL (Bt.ofK (depS l k 0)), []⟩ (.slice none 0 0) := by
  rw [hU, hkd, hlf, show bmL (Bt.ofK (depS l k 0)) = z26 from bmL_zero]
  exact PfAt.one _ _ _
 have hXU : Below X.heap.size X U := by rw [hU]; exact HXW3.out.trans ((Bt.one_below _ _).mono HXW3.out.size)
 rw [← hkd, ← hlf]
 have lk := (HR0.out.below hXU).ldKey HKK.out
 have HSB := Lib.hid (fv.siblings U n l T k (nd.below HM.out (HB.out.trans (hXU.mono HB.out.size))) HI.out HKK.out)
 have HPU := Lib.hid hPU
 have HXU := Lib.hid hXU
 rw [hU] at lk
 have HU := Lib.hid hU
 clear hb3 HLF hkd hlf hlf64 hPU hXU hU
 go_wp2_with fail
 rw [← HU.out]
 clear bd st2 lk HU
 refine HSB.out.mono ?_
 rintro _ V ⟨A4, c4, rfl, hPA, hbV⟩
 obtain ⟨S, hS⟩ : ∃ S, S = T.sibs k 0 := ⟨_, rfl⟩
 have HSD : Hid (S.length = D) := by
  have := sibs_len k T 0
  show S.length = D
  rw [hS, HDD.out]; omega
 have HSS0 := Lib.hid hS
 rw [← hS] at hPA ⊢
 rw [HSD.out]
 have hPV : PfAt V w3.heap.size ⟨kindO (dK l k D), D, leafO n (dK l k D), bmL (Bt.ofK (depS l k 0)), []⟩ (.slice none 0 0) := HPU.out.below hbV HPU.out.lt
 have hXV : Below X.heap.size X V := HXU.out.trans (hbV.mono HXU.out.size)
 have HGV : Hid (w3.heap.size < V.heap.size) := hPV.lt
 have HVX := Lib.hid hXV
 have HP1 := Lib.hid hPV
 have HPA := Lib.hid hPA
 have HBWV : Hid (Below w.heap.size w V) := HB.out.trans (hXV.mono HB.out.size)
 have HBV : Hid (b < V.heap.size) := Nat.lt_of_lt_of_le HBL.out HBWV.out.size
 have hHV : Hs V b n c := HHW0.out.keep (Keep.of_below (L := fun _ => False) HBWV.out) id
 have HHV := Lib.hid hHV
 have HGB : Hid (¬ (w3.heap.size = b ∨ V.heap.size ≤ w3.heap.size)) := fun h => h.elim (fun e => HNE.out e.symm) fun e => by have := HGV.out; omega
 have HPM : Hid (∀ ds : List Int, Pf.Ok ⟨kindO (dK l k D), D, leafO n (dK l k D), bmL (Bt.ofK ds), []⟩) := fun ds => ⟨HLL.out, bmL_len _, fun s h => by simp at h⟩
 clear hPV hXV hPA hS hbV HSB hHV
 go_wp2_with fail
 go_loopg [10, 11, 28] D (fun g2 _ _ j wr => ∃ (m : Nat) (As : Option Addr) (cs c' : Nat), j = .int .i64 (m : Int) ∧ m ≤ D ∧ D - m ≤ g2 ∧ PfAt wr w3.heap.size ⟨kindO (dK l k D), D, leafO n (dK l k D), bmL (Bt.ofK (depS l k m)), []⟩ (.slice As (sibS n l k m).length cs) ∧ OwnD wr V.heap.size (.slice As (sibS n l k m).length cs) (sibS n l k m) ∧ Hs wr b n c' ∧ c' ≤ c + m ∧ Keep (fun i => i = b ∨ i = w3.heap.size) V wr)
 case atStart => exact ⟨0, none, 0, c, rfl, by omega, by omega, HP1.out, OwnD.nil _ _, HHV.out, Nat.le_refl _, Keep.refl _ _⟩
 case round =>
  obtain ⟨m, As, cs, c', rfl, hm, hg2, hP, hS, hH, hcm, hK⟩ := hrel
  have HVR : Hid (V.heap.size ≤ wr.heap.size) := hK.size
  have HKR := Lib.hid hK
  have HPR := Lib.hid hP
  have HS2 := Lib.hid hS
  have HHR := Lib.hid hH
  have HCM := Lib.hid hcm
  have HKW0 : Hid (Keep (fun i => i = b) w wr) := keep_low HBWV.out hK HGW.out
  by_cases hlt : m < D
  ·have hd : decide (m < D) = true := decide_eq_true hlt
   have hd' : decide ((m : Int) < (D : Int)) = true := decide_eq_true (by omega)
   have h256 : m < 256 := by have := HD2.out; omega
   obtain ⟨x, hx⟩ : ∃ x, S[m]? = some x := ⟨_, List.getElem?_eq_getElem (by rw [HSD.out]; exact hlt)⟩
   have hxs : (T.sibs k 0)[m]? = some x := by rw [← HSS0.out]; exact hx
   have hsb := sib_both HI.out.sep (HI.out.at k) hxs n
   have hse := sib_empty HI.out.sep (HI.out.at k) hxs
   have HMX : Hid (∀ {w : World}, M w n T → M w n x) := fun h => ms_sibs nd k T 0 h x (List.mem_of_getElem? hxs)
   have hPAr : PA wr A4 S := PA.two HHV.out HP1.out HPA.out (fun y hy => by rw [HSS0.out] at hy; exact val_ptr nd (ms_sibs nd k T 0 (nd.below HM.out HBWV.out) y hy)) hK
   obtain ⟨gp, op, rfl, hcell⟩ := hPAr m x hx
   have p0 : (0 : Int) ≤ (m : Int) := by omega
   have p1 : (m : Int) < (D : Int) := by omega
   have hw9 : IntKind.i64.wrap ((m : Int) + 1) = (m : Int) + 1 := Bt.wrap_inr (by omega) (by omega)
   have HMR : Hid (M wr n x) := HMX.out (nd.hs HM.out HHW0.out HKW0.out)
   clear hP hS hH hcm hK hx hxs hPAr
   by_cases hnil : x = .nil
   ·have hsk := hse.1 hnil
    have HDS := Lib.hid (depS_no hsk)
    have HSS := Lib.hid (sibS_no (n := n) hsk)
    rw [show x.val = .pointer none from by rw [hnil]; rfl] at hcell
    have HKX := nd.kind wr n x HMR.out
    rw [show x.val = .pointer none from by rw [hnil]; rfl, show kindT x.tr = 0 from by rw [hnil]; rfl] at HKX
    have HKX := Lib.hid HKX
    clear hnil hsk hsb hse
    go_wp2_with fail
    refine HKX.out.mono ?_
    rintro _ w5 ⟨rfl, hb5⟩
    have HB5 := Lib.hid hb5
    clear hb5 HKX hcell
    go_wp2_with fail
    go_roundg (D - (m + 1))
    case measure => omega
    case rel =>
     refine ⟨m + 1, As, cs, c', by go_num, by omega, by omega, ?_, ?_, HHR.out.keep (Keep.of_below (L := fun _ => False) HB5.out) id, by have := HCM.out; omega, HKR.out.trans (Keep.of_below HB5.out)⟩
     ·rw [HDS.out, HSS.out]; exact HPR.out.below HB5.out HPR.out.lt
     ·rw [HSS.out]; exact HS2.out.below HB5.out
   ·have hsk : sibK l k m ≠ [] := fun h => hnil (hse.2 h)
    have HDS := Lib.hid (depS_yes hsk)
    obtain ⟨ax, hax⟩ : ∃ ax, x.val = .pointer (some ax) := (nd.addr HMR.out).resolve_left hnil
    obtain ⟨rt, hrt⟩ : ∃ rt, rt = rootK (256 - m) n (sibK l k m) ((m : Int) + 1) := ⟨_, rfl⟩
    have HRX2 : Hid (digT n x.tr = rt) := by show _ = _; rw [hrt]; exact hsb.2.2
    have HSS : Hid (sibS n l k (m + 1) = sibS n l k m ++ [rt]) := by show _ = _; rw [hrt]; exact sibS_yes hsk
    have HRL : Hid (rt.length = 32) := by show _ = _; rw [hrt]; exact rootK_len _ _ _ _
    have HMM : Hid (∀ s ∈ sibS n l k m ++ [rt], s.length = 32) := fun s hs => by
     rcases List.mem_append.1 hs with h | h
     ·exact sibS_mem h
     ·rw [List.mem_singleton.1 h]; exact HRL.out
    have hdl := depS_le l k m
    have HSL : Hid ((sibS n l k m).length ≤ 1000000) := by show _ ≤ _; rw [← depS_len]; omega
    have HAX := Lib.hid hax
    obtain ⟨kx, hkx⟩ : ∃ kx, kx = kindT x.tr := ⟨_, rfl⟩
    have kz : (kx == 0) = false := by rw [hkx]; exact kind_two hnil
    have HKX := nd.kind wr n x HMR.out
    rw [hax, ← hkx] at HKX
    have HKX := Lib.hid HKX
    rw [hax] at hcell
    clear hnil hsk hsb hse hrt hax hkx hdl
    go_wp2_with fail
    refine HKX.out.mono ?_
    rintro _ w5 ⟨rfl, hb5⟩
    have HB5 := Lib.hid hb5
    have HP5 := Lib.hid (HPR.out.below hb5 HPR.out.lt)
    have c3 := HP5.out.bm (HPM.out _)
    have c3' := HP5.out.bmA (HPM.out _)
    have HWI := Lib.hid (withB_c (depS l k m) (m : Int) w5)
    clear hb5 HKX hcell
    go_wp2_with fail
    refine HWI.out.mono ?_
    rintro _ w6 ⟨rfl, hb6⟩
    have HB6 : Hid (Below wr.heap.size wr w6) := HB5.out.trans (hb6.mono HB5.out.size)
    have HP6 := Lib.hid (HP5.out.below hb6 HP5.out.lt)
    obtain ⟨st, hPY⟩ := HP6.out.stBm (HPM.out _) (bmL (Bt.ofK (depS l k m ++ [(m : Int)]))) (bmL_len _)
    have st' : Bt.stAr w6 (.pointer (some ⟨w3.heap.size, 66, none⟩)) (.agg (bA (bmL (Bt.ofK (depS l k m ++ [(m : Int)]))))) = .ok .skip (w6.setCells w3.heap.size 66 ((bmL (Bt.ofK (depS l k m ++ [(m : Int)]))).map bv)) := st
    obtain ⟨Y1, hY1⟩ : ∃ Y, Y = w6.setCells w3.heap.size 66 ((bmL (Bt.ofK (depS l k m ++ [(m : Int)]))).map bv) := ⟨_, rfl⟩
    rw [← hY1] at st st' hPY
    have HPY : Hid (PfAt Y1 w3.heap.size ⟨kindO (dK l k D), D, leafO n (dK l k D), bmL (Bt.ofK (depS l k m ++ [(m : Int)])), []⟩ (.slice As (sibS n l k m).length cs)) := hPY
    have hkY : Keep (fun i => i = w3.heap.size) w6 Y1 := by rw [hY1]; exact keep_set15 _ _ _ _
    have HS3 : Hid (OwnD Y1 V.heap.size (.slice As (sibS n l k m).length cs) (sibS n l k m)) := row11_keep (HS2.out.below HB6.out) hkY fun g h e => by have h1 := HS2.out.ge g h; have h2 : g = w3.heap.size := e; have := HGV.out; omega
    have HHY : Hid (Hs Y1 b n c') := (HHR.out.keep (Keep.of_below (L := fun _ => False) HB6.out) id).keep hkY fun e => HNE.out e
    have HKVY : Hid (Keep (fun i => i = b ∨ i = w3.heap.size) V Y1) := (HKR.out.trans (Keep.of_below HB6.out)).trans (hkY.mono fun i e => .inr e)
    have HKY : Hid (Keep (fun i => i = b) w Y1) := keep_low HBWV.out HKVY.out HGW.out
    have HVY : Hid (V.heap.size ≤ Y1.heap.size) := HKVY.out.size
    have HP1O := Lib.hid (HPM.out (depS l k m ++ [(m : Int)]))
    have LB : Hid (∀ q, Keep (fun i => i = b ∨ V.heap.size ≤ i) Y1 q → q.cell? ⟨w3.heap.size, 98, none⟩ = some (.slice As (sibS n l k m).length cs)) := fun q h => (HPY.out.keep h HGB.out).sib HP1O.out
    have HRC : Hid (∀ q, Below Y1.heap.size Y1 q → Calls Tryz.prog 59 #[ptr b, .pointer (some ax)] q fun e w' => ∃ c2, e = .returned (.agg (bA rt)) ∧ c2 ≤ c' + 1 ∧ Hs w' b n c2 ∧ Keep (fun i => i = b) q w') := fun q h => by
     have hq : Hs q b n c' := HHY.out.keep (Keep.of_below (L := fun _ => False) h) id
     have := nd.digest q b n c' x hq (by have := HCM.out; have := HC0.out; have := HD2.out; omega) ((HV0.out.hs HHW0.out HKY.out).below h) (nd.below (HMX.out (nd.hs HM.out HHW0.out HKY.out)) h)
     rw [HAX.out, HRX2.out] at this
     exact this.mono fun e w' ⟨c2, h1, h2, _, h4, h5⟩ => ⟨c2, h1, h2, h4, h5⟩
    have bsx := bsD_one rt HRL.out
    have HY1 := Lib.hid hY1
    clear hPY hkY hY1 hb6 HWI
    go_wp2_with fail
    clear c3 c3' st st'
    refine region_heldT 8 (fun q => Keep (fun i => i = b ∨ V.heap.size ≤ i) Y1 q) (by kernel_rfl) ?_
    have hHeld : Keep (fun i => i = b ∨ V.heap.size ≤ i) Y1 Y1.drew := (Keep.refl _ _).drew
    refine HeldT.take (i := 0) (oi := { dst := some 41, op := .fieldAddr _ (.tmp 9) 4, .. }) (v := ?_) rfl (by kernel_rfl) (by kernel_rfl) (by kernel_rfl) (by kernel_rfl) (fun _ _ _ h => h) (Or.inl ⟨by rfl, ?_⟩) (by assumption) ?_
    rotate_left 1
    ·intro v hSv
     clear hSv
     go_simp
     try with_reducible rfl
    try simp only [Act.put, x_A, x_0, x_1]
    refine HeldT.take (i := 1) (oi := { dst := some 42, op := .load _ (.tmp 41), .. }) (v := ?_) rfl (by kernel_rfl) (by kernel_rfl) (by kernel_rfl) (by kernel_rfl) (fun _ _ _ h => h) (Or.inl ⟨by rfl, ?_⟩) (by assumption) ?_
    rotate_left 1
    ·intro v hSv
     have hv1 := LB.out v hSv
     clear hSv
     go_simp
     try with_reducible rfl
    try simp only [Act.put, x_A, x_0, x_1]
    refine HeldT.take (i := 2) (oi := { dst := some 43, op := .move (.tmp 0), .. }) (v := ?_) rfl (by kernel_rfl) (by kernel_rfl) (by kernel_rfl) (by kernel_rfl) (fun _ _ _ h => h) (Or.inl ⟨by rfl, ?_⟩) (by assumption) ?_
    rotate_left 1
    ·intro v hSv
     clear hSv
     go_simp
     try with_reducible rfl
    try simp only [Act.put, x_A, x_0, x_1]
    refine HeldT.take (i := 3) (oi := { dst := some 44, op := .move (.tmp 11), .. }) (v := ?_) rfl (by kernel_rfl) (by kernel_rfl) (by kernel_rfl) (by kernel_rfl) (fun _ _ _ h => h) (Or.inl ⟨by rfl, ?_⟩) (by assumption) ?_
    rotate_left 1
    ·intro v hSv
     clear hSv
     go_simp
     try with_reducible rfl
    try simp only [Act.put, x_A, x_0, x_1]
    refine HeldT.one (i := 4) (o := { dst := some 45, op := .call _, .. }) (by kernel_rfl) rfl rfl (fun K hK => ?_)
    go_wp2_with fail
    refine (HRC.out _ ((Below.refl _ _).drew)).mono ?_
    rintro e y1 ⟨m4, rfl, hc4, hH4, hk4⟩
    have hq1 : Keep (fun i => i = b) Y1 y1 := ((Keep.refl _ _).drew).trans hk4
    have HQ1 := Lib.hid hq1
    have HC4 := Lib.hid hc4
    have HH4 := Lib.hid hH4
    clear hk4 hc4 hH4
    go_wp2_with fail
    refine hK.out _ _ (fun _ => hq1.mono fun i h => .inl h) (fun hS => ?_)
    have hHeld := hS (by decide)
    clear hS hK K
    try simp only [Act.put, x_A, x_0, x_1]
    clear hq1
    refine HeldT.one (i := 5) (o := { dst := some 46, op := .buildSlice _ _ _, .. }) (by kernel_rfl) rfl rfl (fun K hK => ?_)
    obtain ⟨Z, hZ⟩ : ∃ Z, Z = y1.alloc (.cells (bA rt) 47) := ⟨_, rfl⟩
    have hq2 : Keep (fun i => i = b) Y1 Z := by rw [hZ]; exact HQ1.out.alloc _
    have HZR : Hid (Z.rangeAt y1.heap.size 0 (dC rt)) := by show World.rangeAt _ _ _ _; rw [hZ]; exact dig_made _ _ _
    have HH5 : Hid (Hs Z b n m4) := by show Hs _ _ _ _; rw [hZ]; exact HH4.out.keep ((Keep.refl (fun _ => False) _).alloc _) id
    have HQ2 := Lib.hid hq2
    have HZ := Lib.hid hZ
    clear hZ HQ1 HH4
    go_wp2_with fail
    rw [← HZ.out]
    refine hK.out _ _ (fun _ => hq2.mono fun i h => .inl h) (fun hS => ?_)
    have hHeld := hS (by decide)
    clear hS hK K
    try simp only [Act.put, x_A, x_0, x_1]
    clear hq2 HZ
    refine HeldT.one (i := 6) (o := { dst := some 47, op := .call _, .. }) (by kernel_rfl) rfl rfl (fun K hK => ?_)
    have HOZ : Hid (OwnD Z V.heap.size (.slice As (sibS n l k m).length cs) (sibS n l k m)) := row11_keep HS3.out HQ2.out fun i h e => by have h1 := HS3.out.ge i h; have h2 : i = b := e; have := HBV.out; omega
    have hzs : V.heap.size ≤ Z.heap.size := Nat.le_trans HVY.out HQ2.out.size
    go_wp2_with (at_builtin; refine wpList_pushD rfl _ _ rfl V.heap.size (.slice As (sibS n l k m).length cs) (sibS n l k m) rfl HOZ.out y1.heap.size rt HRL.out rfl HZR.out HSL.out hzs ?_; intro v9 w9 hO9 hG9; obtain ⟨A9, c9, rfl, _, _⟩ := hO9.ds HMM.out)
    have HO9 := Lib.hid hO9
    have HG9 := Lib.hid hG9
    have HH9 : Hid (Hs w9 b n m4) := HH5.out.keep hG9.keep fun e => by have := HOZ.out.ge b e; have := HBV.out; omega
    have HS9 : Hid (Keep (fun i => i = b ∨ V.heap.size ≤ i) Y1 w9) := Keep.step (HQ2.out.mono fun i h => .inl h) hG9.keep fun i h => .inl (.inr (HOZ.out.ge i h))
    refine hK.out _ _ (fun _ => HS9.out) (fun hS => ?_)
    have hHeld := hS (by decide)
    clear hS hK K
    try simp only [Act.put, x_A, x_0, x_1]
    clear hO9 hG9 hzs HOZ HZR HH5
    refine HeldT.take (i := 7) (oi := { dst := some 48, op := .fieldAddr _ (.tmp 9) 4, .. }) (v := ?_) rfl (by kernel_rfl) (by kernel_rfl) (by kernel_rfl) (by kernel_rfl) (fun _ _ _ h => h) (Or.inl ⟨by rfl, ?_⟩) (by assumption) ?_
    rotate_left 1
    ·intro v hSv
     clear hSv
     go_simp
     try with_reducible rfl
    try simp only [Act.put, x_A, x_0, x_1]
    refine HeldT.one (i := 8) (o := { dst := none, op := .store _ (.tmp 48) (.tmp 47), .. }) (by kernel_rfl) rfl rfl (fun K hK => ?_)
    have hP9 : PfAt w9 w3.heap.size ⟨kindO (dK l k D), D, leafO n (dK l k D), bmL (Bt.ofK (depS l k m ++ [(m : Int)])), []⟩ (.slice As (sibS n l k m).length cs) := HPY.out.keep HS9.out HGB.out
    have hcell := hP9.sib HP1O.out
    have hfree : w9.frozen? ⟨w3.heap.size, 98, none⟩ = false := frozen_of_row w9 _ _ _ _ hP9
    obtain ⟨HPW, HOW, HKW⟩ := rp_end3 (s' := .slice A9 (sibS n l k m ++ [rt]).length c9) rfl HGV.out HP1O.out HKVY.out HS9.out HO9.out hP9
    have HHW : Hid (Hs (w9.setCell ⟨w3.heap.size, 98, none⟩ (.slice A9 (sibS n l k m ++ [rt]).length c9)) b n m4) := (HH9.out.keep (Keep.cell w9 ⟨w3.heap.size, 98, none⟩ _) (fun e => HNE.out e))
    clear hP9
    go_wp2_with fail
    refine hK.out _ _ (fun h => absurd rfl h) (fun _ => ?_)
    clear hK K
    refine HeldT.done (by kernel_rfl) ?_ _
    go_wp2
    go_roundg (D - (m + 1))
    case measure => omega
    case rel =>
     have e9 : (sibS n l k m ++ [rt]).length = (sibS n l k m).length + 1 := List.length_append
     rw [e9] at HPW HOW HKW HHW
     refine ⟨m + 1, A9, c9, m4, by go_num, by omega, by omega, ?_, ?_, HHW.out, by have := HC4.out; have := HCM.out; omega, HKW.out⟩
     ·rw [HDS.out, HSS.out, e9]; exact HPW.out
     ·rw [HSS.out, e9]; exact HOW.out
  ·have hd : decide (m < D) = false := decide_eq_false hlt
   have hd' : decide ((m : Int) < (D : Int)) = false := decide_eq_false (by omega)
   obtain rfl : m = D := by omega
   have hdl := depS_le l k m
   have h256 := HD2.out
   have hP7 : PfAt wr w3.heap.size (prK n l k m) (.slice As (prK n l k m).sib.length cs) := hP
   have hqo : (prK n l k m).Ok := prK_ok HI.out.sep k
   have hR6 : PfAt wr (w.heap.size + 1) zPf (.slice none 0 0) := by
    have h1 : PfAt V (w.heap.size + 1) zPf (.slice none 0 0) := HRX.out.below HVX.out HRX.out.lt
    exact h1.keep HKR.out fun e => e.elim (fun e => by have := HBL.out; omega) fun e => by have := HGX.out; have := HRX.out.lt; omega
   have ld6 := hP7.ld hqo
   obtain ⟨E, hE⟩ : ∃ E, E = wr.setRow (w.heap.size + 1) (pfC (prK n l k m) (.slice As (prK n l k m).sib.length cs)) := ⟨_, rfl⟩
   have st6 : stA 53 wr (.pointer (some ⟨w.heap.size + 1, 0, none⟩)) (.agg (pfC (prK n l k m) (.slice As (prK n l k m).sib.length cs))) = .ok .skip E := by rw [hE]; exact stA_row hR6 (by rw [pfC_size hqo]; exact infoPf) (by rw [pfC_size hqo, pfC_size zPf_ok]) (pfC_one _ _ _ _)
   have HROW : Hid (PfAt E (w.heap.size + 1) (prK n l k m) (.slice As (prK n l k m).sib.length cs)) := by show PfAt _ _ _ _; rw [hE]; exact setRow_heap _ _ _ _ _ _ hR6
   have hXW : w.heap.size + 1 < X.heap.size := HRX.out.lt
   have HFN : Hid (∀ j ob, j ≠ w.heap.size + 1 → wr.heap[j]? = some ob → E.heap[j]? = some ob) := fun j ob h2 h3 => by rw [hE, setRow_other _ _ _ _ h2]; exact h3
   have HNF : Hid (NewD E w.heap.size As cs (prK n l k m).sib) := by
    have h2 : OwnD E V.heap.size (.slice As (prK n l k m).sib.length cs) (prK n l k m).sib := row11_other HS2.out fun g cs' hg hh => by
     have hge := HS2.out.ge g hg
     exact HFN.out g _ (by have := HVX.out.size; omega) hh
    obtain ⟨_, _, e, _, hcap⟩ := h2.ds hqo.sib
    cases e
    exact ⟨hcap, .inr (h2.mono HBWV.out.size)⟩
   have HHF : Hid (Hs E b n c') := HFN.out b _ (by have := HBL.out; omega) HHR.out
   have HKF : Hid (Keep (fun i => i = b) w E) := by
    have h3 : Below w.heap.size wr E := by rw [hE]; exact Bt.below_row ((Below.refl _ wr).mono (Nat.le_trans HBWV.out.size HVR.out)) (by omega) _
    exact HKW0.out.step (Keep.ofB h3) fun i hi => .inr hi
   have HQO := Lib.hid hqo
   clear hP hS hH hcm hK hlt hm hg2 hP7 hqo hR6 hE HFN hXW
   go_wp2
   refine bodyPost_ret (v := .agg (pfC (prK n l k m) (.slice As (prK n l k m).sib.length cs))) ?_ rfl ⟨As, cs, c', by rw [← HDD.out], ?_⟩
   ·exact results_cell_row Tryz.results28 _ _ (w.heap.size + 1) 53 _ (0, 0) _ rfl HROW.out Tryz.underlying53 rfl (by rw [pfC_size HQO.out]; exact infoPf)
   ·rw [← HDD.out]
    exact ⟨HNF.out, by have := HCM.out; have := HD2.out; omega, HHF.out, HKF.out⟩
end
end Go.Proofs.YtjgdindjimbfeaaGreatDoor
