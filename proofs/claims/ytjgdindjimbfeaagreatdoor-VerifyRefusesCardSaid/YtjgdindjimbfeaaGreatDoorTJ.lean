import Derived.Test.YtjgdindjimbfeaaGreatDoorVA
import Derived.Test.YtjgdindjimbfeaaGreatDoorCA
import Derived.Test.YtjgdindjimbfeaaGreatDoorMT
import Derived.Test.YtjgdindjimbfeaaGreatDoorFT
namespace Go.Proofs.YtjgdindjimbfeaaGreatDoor
set_option linter.unusedSimpArgs false
set_option linter.unusedVariables false
set_option maxHeartbeats 4000000
set_option maxRecDepth 100000
section
open Go.RowKit
structure Cl where
 k : List UInt8
 v : List UInt8
 pr : Bool
def stC (c : Cl) : Int × Int := if c.k.length ≠ 32 then (1, 2) else if c.pr = true ∧ 65535 < c.v.length then (2, 3) else (0, 0)
def valD (n : Int) (c : Cl) : List UInt8 := if c.pr then digL n (valL c.v) else z26
noncomputable def lastV18 (n : Int) (root : List UInt8) (c : Cl) (p : Pf) : Int × Int := if supP p c.k (valD n c) c.pr = false then (4, 12) else if rootP n p c.k ≠ root then (5, 13) else (0, 0)
noncomputable def ckV (n : Int) (root : List UInt8) (c : Cl) (b : List UInt8) : Int × Int :=
 if root.length ≠ 32 then (0, 4) else if (stC c).2 ≠ 0 then stC c else if decE b ≠ 0 then (3, decE b) else lastV18 n root c (decQ b)
theorem stC_ok {c : Cl} (h : (stC c).2 = 0) : c.k.length = 32 ∧ (c.pr = true → c.v.length ≤ 65535) ∧ stC c = (0, 0) := by
 unfold stC at h ⊢
 split at h
 ·cases h
 ·rename_i h1
  split at h
  ·cases h
  ·rename_i h2
   refine ⟨by omega, fun hp => ?_, by rw [if_neg h1, if_neg h2]⟩
   rcases Nat.lt_or_ge 65535 c.v.length with h3 | h3
   ·exact absurd ⟨hp, h3⟩ h2
   ·exact h3
def clC (c : Cl) (A : Option Addr) (ca : Nat) (B : Option Addr) (cb : Nat) : Array Value := #[.slice A c.k.length ca, .slice B c.v.length cb, .bool c.pr]
def ClAt (w : World) (g : Nat) (c : Cl) (A : Option Addr) (ca : Nat) (B : Option Addr) (cb : Nat) : Prop := w.heap[g]? = some (.cells (clC c A ca B cb) 24 (0, 0))
theorem ClAt.below {w w' : World} {g D : Nat} {c : Cl} {A B : Option Addr} {ca cb : Nat} (h : ClAt w g c A ca B cb) (hb : Below D w w') (hg : g < D) : ClAt w' g c A ca B cb := by
 unfold ClAt
 rw [hb.block g hg]
 exact h
theorem ClAt.k {w : World} {g : Nat} {c : Cl} {A B : Option Addr} {ca cb : Nat} (h : ClAt w g c A ca B cb) : w.cell? ⟨g, 0, none⟩ = some (.slice A c.k.length ca) := by rw [cell_of_cells h]; rfl
theorem ClAt.v {w : World} {g : Nat} {c : Cl} {A B : Option Addr} {ca cb : Nat} (h : ClAt w g c A ca B cb) : w.cell? ⟨g, 1, none⟩ = some (.slice B c.v.length cb) := by rw [cell_of_cells h]; rfl
theorem ClAt.pr {w : World} {g : Nat} {c : Cl} {A B : Option Addr} {ca cb : Nat} (h : ClAt w g c A ca B cb) : w.cell? ⟨g, 2, none⟩ = some (.bool c.pr) := by rw [cell_of_cells h]; rfl
theorem ClAt.one (w : World) (c : Cl) (A : Option Addr) (ca : Nat) (B : Option Addr) (cb : Nat) : ClAt (w.alloc (.cells (clC c A ca B cb) 24)) w.heap.size c A ca B cb := heap_alloc_new w _
theorem infoCl : (Tryz.prog.info? 24).map (·.size) = some 3 := by kernel_rfl
@[go_sem ↓] theorem execOp_loadCl (ρ : Operand → Value) (dst : Option Tmp) (x : Operand) (type : TypeId) (pos : String) (after : Array Edge) (guard : Option (Nat × Bool)) (w : World) :
  Sem.run Tryz.prog (execOp ρ { dst, op := .load 24 x, type, pos, after, guard }) w = ldA 24 w (ρ x) := rfl
theorem ClAt.ld {w : World} {g : Nat} {c : Cl} {A B : Option Addr} {ca cb : Nat} (h : ClAt w g c A ca B cb) : ldA 24 w (.pointer (some ⟨g, 0, none⟩)) = .ok (.value (.agg (clC c A ca B cb))) w := by
 unfold ldA
 simp only [Instr.loadAt, Instr.sureAddr, Sem.run_bind, Sem.run_pure, Result.andThen_ok]
 rw [run_loadVar_row (P := Tryz.prog) w g 24 24 (clC c A ca B cb) (0, 0) _ h Tryz.underlying24 rfl (by exact infoCl)]
 rfl
end
section
open Go.RowKit
def vrfB : List UInt8 := [118, 101, 114, 105, 102, 121]
def Wr18 (w : World) (i code : Int) (v : Value) : Prop := ∃ b, Ft.Chain w (.iface 33 (.int .i64 code)) [⟨b, ⟨vrfB.toArray⟩, i⟩] v
structure ClOk (w : World) (c : Cl) (A : Option Addr) (ca : Nat) (B : Option Addr) (cb : Nat) : Prop where
 key : BA w A c.k
 kc : c.k.length ≤ ca
 val : BA w B c.v
 vc : c.v.length ≤ cb
theorem ClOk.below {w w' : World} {c : Cl} {A B : Option Addr} {ca cb : Nat} (h : ClOk w c A ca B cb) (hb : Below w.heap.size w w') : ClOk w' c A ca B cb := ⟨h.key.below hb, h.kc, h.val.below hb, h.vc⟩
noncomputable def accV (n : Int) (root : List UInt8) (c : Cl) (p : Pf) : Bool := (stC c).2 == 0 && chkP p == 0 && (lastV18 n root c p).2 == 0
structure VeV : Prop where
 check : ∀ (w : World) (b : Nat) (n : Int) (m : Nat) (root : List UInt8) (R : Option Addr) (cr : Nat) (c : Cl) (A B : Option Addr) (ca cb : Nat) (bs : List UInt8) (D : Option Addr) (cd : Nat), Hs w b n m → m ≤ 400000 → Vars w → Ft.ErrVar w → BA w R root → root.length ≤ cr → ClOk w c A ca B cb → BA w D bs → bs.length ≤ cd → bs.length ≤ 1000000 →
  Calls Tryz.prog 14 #[ptr b, .slice R root.length cr, .agg (clC c A ca B cb), .slice D bs.length cd] w fun e w' => ∃ m', e = .returned (.int .i64 (ckV n root c bs).2) ∧ m' ≤ m + 259 ∧ Hs w' b n m' ∧ Keep (fun i => i = b) w w'
 verify : ∀ (w : World) (b : Nat) (n : Int) (m : Nat) (root : List UInt8) (R : Option Addr) (cr : Nat) (c : Cl) (A B : Option Addr) (ca cb : Nat) (bs : List UInt8) (D : Option Addr) (cd : Nat), Hs w b n m → m ≤ 400000 → Vars w → BA w R root → root.length ≤ cr → ClOk w c A ca B cb → BA w D bs → bs.length ≤ cd → bs.length ≤ 1000000 →
  Calls Tryz.prog 16 #[ptr b, .slice R root.length cr, .agg (clC c A ca B cb), .slice D bs.length cd] w fun e w' => ∃ x m', e = .returned x ∧ ((ckV n root c bs).2 = 0 → x = .nilIface) ∧ ((ckV n root c bs).2 ≠ 0 → Wr18 w' (ckV n root c bs).1 (ckV n root c bs).2 x) ∧ m' ≤ m + 259 ∧ Hs w' b n m' ∧ Keep (fun i => i = b) w w'
 claim : ∀ (w : World) (c : Cl) (A B : Option Addr) (ca cb : Nat), Ft.ErrVar w →
  Calls Tryz.prog 20 #[.agg (clC c A ca B cb)] w fun e w' => e = .returned (.int .i64 (stC c).2) ∧ Below w.heap.size w w'
 accepts : ∀ (w : World) (b : Nat) (n : Int) (m : Nat) (root : List UInt8) (c : Cl) (A B : Option Addr) (ca cb : Nat) (p : Pf) (D : Option Addr) (cd : Nat), Hs w b n m → m ≤ 400000 → Vars w → root.length = 32 → ClOk w c A ca B cb → p.Ok → DS w D p.sib → p.sib.length ≤ cd → p.sib.length ≤ 1000000 →
  Calls Tryz.prog 23 #[ptr b, .agg (bA root), .agg (clC c A ca B cb), .agg (pfC p (.slice D p.sib.length cd))] w fun e w' => ∃ m', e = .returned (.bool (accV n root c p)) ∧ m' ≤ m + 259 ∧ Hs w' b n m' ∧ Keep (fun i => i = b) w w'
end
section
open Go.RowKit
theorem rclaim18_c (c : Cl) (A B : Option Addr) (ca cb : Nat) (w : World) :
  Calls Tryz.prog 19 #[.agg (clC c A ca B cb)] w fun e w' => e = .returned (.tuple #[.int .i64 (stC c).1, .int .i64 (stC c).2]) ∧ Below w.heap.size w w' := by
 obtain ⟨X, hX⟩ : ∃ X, X = w.alloc (.cells (clC c A ca B cb) 24) := ⟨_, rfl⟩
 have hB : Below w.heap.size w X := by rw [hX]; exact Bt.one_below _ _
 have hC : ClAt X w.heap.size c A ca B cb := by rw [hX]; exact ClAt.one _ _ _ _ _ _
 have c0 := hC.k
 have c1 := hC.v
 have c2 := hC.pr
 rw [hX] at c0 c1 c2
 have HB := Lib.hid hB
 have HX := Lib.hid hX
 by_cases h32 : c.k.length = 32
 ·have d1 : ((c.k.length : Int) = 32) := by omega
  cases hp : c.pr with
  | false =>
   have hs : stC c = (0, 0) := by unfold stC; rw [if_neg (by omega), if_neg (by rw [hp]; simp)]
   rw [hs]
   rw [hp] at c2
   clear hB hC hX hs hp h32
   go_enter Tryz.func19, Tryz.ntmps19
   go_wp2_with fail
   go_ret2
   exact ⟨rfl, by rw [← HX.out]; exact HB.out⟩
  | true =>
   by_cases hv : 65535 < c.v.length
   ·have hs : stC c = (2, 3) := by unfold stC; rw [if_neg (by omega), if_pos ⟨hp, hv⟩]
    have d2 : decide ((65535 : Int) < (c.v.length : Int)) = true := decide_eq_true (by omega)
    rw [hs]
    rw [hp] at c2
    clear hB hC hX hs hp h32 hv
    go_enter Tryz.func19, Tryz.ntmps19
    go_wp2_with fail
    go_ret2
    exact ⟨rfl, by rw [← HX.out]; exact HB.out⟩
   ·have hs : stC c = (0, 0) := by unfold stC; rw [if_neg (by omega), if_neg (fun h => hv h.2)]
    have d2 : decide ((65535 : Int) < (c.v.length : Int)) = false := decide_eq_false (by omega)
    rw [hs]
    rw [hp] at c2
    clear hB hC hX hs hp h32 hv
    go_enter Tryz.func19, Tryz.ntmps19
    go_wp2_with fail
    go_ret2
    exact ⟨rfl, by rw [← HX.out]; exact HB.out⟩
 ·have d1 : ¬ ((c.k.length : Int) = 32) := by omega
  have hs : stC c = (1, 2) := by unfold stC; rw [if_pos h32]
  rw [hs]
  clear hB hC hX hs h32
  go_enter Tryz.func19, Tryz.ntmps19
  go_wp2_with fail
  go_ret2
  exact ⟨rfl, by rw [← HX.out]; exact HB.out⟩
end
end Go.Proofs.YtjgdindjimbfeaaGreatDoor
