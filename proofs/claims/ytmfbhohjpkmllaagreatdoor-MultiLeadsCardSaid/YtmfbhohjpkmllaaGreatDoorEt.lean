import Derived.Test.YtmfbhohjpkmllaaGreatDoorTG
import Derived.Laws.StructEq
namespace Go.Proofs.YtmfbhohjpkmllaaGreatDoor
set_option linter.unusedSimpArgs false
set_option linter.unusedVariables false
set_option maxRecDepth 100000
open Go.RowKit
def z64 : List UInt8 := List.replicate 64 0
theorem infoLeaf : (Tryz.prog.info? 57).map (·.size) = some 64 := by kernel_rfl
theorem infoKey : (Tryz.prog.info? 39).map (·.size) = some 32 := by kernel_rfl
theorem zeroLeaf : ∀ w, (zeroValue 57).run Tryz.prog w = .ok (.agg (bA z64)) w := fun _ => by kernel_rfl
theorem zeroArr : ∀ w, (zeroValue 38).run Tryz.prog w = .ok (.agg (bA z26)) w := fun _ => by kernel_rfl
attribute [go_sem ↓] zeroLeaf
attribute [go_sem ↓] zeroArr
@[go_sem ↓] theorem execOp_loadLeaf (ρ : Operand → Value) (dst : Option Tmp) (x : Operand) (type : TypeId) (pos : String) (after : Array Edge) (guard : Option (Nat × Bool)) (w : World) :
  Sem.run Tryz.prog (execOp ρ { dst, op := .load 57 x, type, pos, after, guard }) w = ldA 57 w (ρ x) := rfl
@[go_sem ↓] theorem execOp_storeLeaf (ρ : Operand → Value) (dst : Option Tmp) (x y : Operand) (type : TypeId) (pos : String) (after : Array Edge) (guard : Option (Nat × Bool)) (w : World) :
  Sem.run Tryz.prog (execOp ρ { dst, op := .store 57 x y, type, pos, after, guard }) w = stA 57 w (ρ x) (ρ y) := rfl
@[go_sem ↓] theorem execOp_buildLeaf (ρ : Operand → Value) (dst : Option Tmp) (parts : Array (Nat × Operand)) (type : TypeId) (pos : String) (after : Array Edge) (guard : Option (Nat × Bool)) (w : World) :
  Sem.run Tryz.prog (execOp ρ { dst, op := .build 57 parts, type, pos, after, guard }) w = bldA 57 w (parts.map fun x => (x.1, ρ x.2)) := rfl
@[go_sem ↓] theorem execOp_loadKey (ρ : Operand → Value) (dst : Option Tmp) (x : Operand) (type : TypeId) (pos : String) (after : Array Edge) (guard : Option (Nat × Bool)) (w : World) :
  Sem.run Tryz.prog (execOp ρ { dst, op := .load 39 x, type, pos, after, guard }) w = ldA 39 w (ρ x) := rfl
@[go_sem ↓] theorem execOp_storeKey (ρ : Operand → Value) (dst : Option Tmp) (x y : Operand) (type : TypeId) (pos : String) (after : Array Edge) (guard : Option (Nat × Bool)) (w : World) :
  Sem.run Tryz.prog (execOp ρ { dst, op := .store 39 x y, type, pos, after, guard }) w = stA 39 w (ρ x) (ρ y) := rfl
@[go_sem ↓] theorem execOp_buildKey (ρ : Operand → Value) (dst : Option Tmp) (parts : Array (Nat × Operand)) (type : TypeId) (pos : String) (after : Array Edge) (guard : Option (Nat × Bool)) (w : World) :
  Sem.run Tryz.prog (execOp ρ { dst, op := .build 39 parts, type, pos, after, guard }) w = bldA 39 w (parts.map fun x => (x.1, ρ x.2)) := rfl
@[go_sem ↓] theorem execOp_buildDig (ρ : Operand → Value) (dst : Option Tmp) (parts : Array (Nat × Operand)) (type : TypeId) (pos : String) (after : Array Edge) (guard : Option (Nat × Bool)) (w : World) :
  Sem.run Tryz.prog (execOp ρ { dst, op := .build 45 parts, type, pos, after, guard }) w = bldA 45 w (parts.map fun x => (x.1, ρ x.2)) := rfl
@[go_sem ↓] theorem execOp_loadArr (ρ : Operand → Value) (dst : Option Tmp) (x : Operand) (type : TypeId) (pos : String) (after : Array Edge) (guard : Option (Nat × Bool)) (w : World) :
  Sem.run Tryz.prog (execOp ρ { dst, op := .load 38 x, type, pos, after, guard }) w = ldA 38 w (ρ x) := rfl
@[go_sem ↓] theorem execOp_storeArr (ρ : Operand → Value) (dst : Option Tmp) (x y : Operand) (type : TypeId) (pos : String) (after : Array Edge) (guard : Option (Nat × Bool)) (w : World) :
  Sem.run Tryz.prog (execOp ρ { dst, op := .store 38 x y, type, pos, after, guard }) w = stA 38 w (ρ x) (ρ y) := rfl
theorem bldLeaf_none (w : World) : bldA 57 w #[] = .ok (.value (.agg (bA z64))) w := by kernel_rfl
theorem list32 (l : List UInt8) (h : l.length = 32) : l = (List.range 32).map fun j => l.getD j 0 := by
 refine List.ext_getElem (by simp [h]) fun j h1 h2 => ?_
 simp [List.getD_eq_getElem?_getD, h1]
theorem bldLeaf_f (f g : Nat → UInt8) (w : World) : bldA 57 w #[(0, .agg (bA ((List.range 32).map f))), (1, .agg (bA ((List.range 32).map g)))] = .ok (.value (.agg (bA ((List.range 32).map f ++ (List.range 32).map g)))) w := by kernel_rfl
theorem bldLeaf (k d : List UInt8) (hk : k.length = 32) (hd : d.length = 32) (w : World) : bldA 57 w #[(0, .agg (bA k)), (1, .agg (bA d))] = .ok (.value (.agg (bA (k ++ d)))) w := by
 rw [list32 k hk, list32 d hd]
 exact bldLeaf_f _ _ w
noncomputable def eqA (o : BinOp) (t : TypeId) (x y : Operand) (w : World) (a b : Value) : Result Next := Sem.run Tryz.prog (do pure (.value (← (do eqGuard o t x y a b; binOp o t a b)))) w
@[go_sem ↓] theorem execOp_eqLeaf (ρ : Operand → Value) (dst : Option Tmp) (x y : Operand) (ty type : TypeId) (pos : String) (after : Array Edge) (guard : Option (Nat × Bool)) (w : World) :
  Sem.run Tryz.prog (execOp ρ { dst, op := .binOp .eql 57 x y ty, type, pos, after, guard }) w = eqA .eql 57 x y w (ρ x) (ρ y) := rfl
@[go_sem ↓] theorem execOp_neLeaf (ρ : Operand → Value) (dst : Option Tmp) (x y : Operand) (ty type : TypeId) (pos : String) (after : Array Edge) (guard : Option (Nat × Bool)) (w : World) :
  Sem.run Tryz.prog (execOp ρ { dst, op := .binOp .neq 57 x y ty, type, pos, after, guard }) w = eqA .neq 57 x y w (ρ x) (ρ y) := rfl
@[go_sem ↓] theorem execOp_eqDig (ρ : Operand → Value) (dst : Option Tmp) (x y : Operand) (ty type : TypeId) (pos : String) (after : Array Edge) (guard : Option (Nat × Bool)) (w : World) :
  Sem.run Tryz.prog (execOp ρ { dst, op := .binOp .eql 45 x y ty, type, pos, after, guard }) w = eqA .eql 45 x y w (ρ x) (ρ y) := rfl
@[go_sem ↓] theorem execOp_neDig (ρ : Operand → Value) (dst : Option Tmp) (x y : Operand) (ty type : TypeId) (pos : String) (after : Array Edge) (guard : Option (Nat × Bool)) (w : World) :
  Sem.run Tryz.prog (execOp ρ { dst, op := .binOp .neq 45 x y ty, type, pos, after, guard }) w = eqA .neq 45 x y w (ρ x) (ρ y) := rfl
@[go_sem ↓] theorem execOp_neKey (ρ : Operand → Value) (dst : Option Tmp) (x y : Operand) (ty type : TypeId) (pos : String) (after : Array Edge) (guard : Option (Nat × Bool)) (w : World) :
  Sem.run Tryz.prog (execOp ρ { dst, op := .binOp .neq 39 x y ty, type, pos, after, guard }) w = eqA .neq 39 x y w (ρ x) (ρ y) := rfl
theorem run_eqItems_g (w : World) (d : Nat) (l m : List UInt8) : ∀ is : List Nat, (∀ j ∈ is, j < l.length ∧ j < m.length) → (Op.eqItems (d + 1) 5 1 (bA l) (bA m) is).run Tryz.prog w = .ok (is.all fun j => l.getD j 0 == m.getD j 0) w
 | [], _ => rfl
 | j :: is, h => by
  have hj := h j (by simp)
  have ih := run_eqItems_g w d l m is (fun i hi => h i (by simp [hi]))
  have pa : ∀ (l : List UInt8), j < l.length → (part 5 (bA l) (j * 1)).run Tryz.prog w = .ok (.int .u8 ((l.getD j 0).toNat : Int)) w := fun l hl => by
   have := bA_at l j hl
   unfold bv at this
   simp only [part, Sem.run_bind, Tryz.isAgg5, Result.andThen_ok, Nat.mul_one, this]
   rfl
  have e : (((l.getD j 0).toNat : Int) == ((m.getD j 0).toNat : Int)) = (l.getD j 0 == m.getD j 0) := by
   rw [Bool.eq_iff_iff, beq_iff_eq, beq_iff_eq]
   constructor
   ·intro h; exact UInt8.toNat_inj.1 (by omega)
   ·intro h; rw [h]
  simp only [Op.eqItems, Sem.run_bind, pa l hj.1, pa m hj.2, Result.andThen_ok, run_equalIn_int w d 5 .u8 .u8 _ _ Tryz.underlying5, e, List.all_cons]
  cases hb : (l.getD j 0 == m.getD j 0)
  ·rfl
  ·simpa using ih
theorem all_eq {l m : List UInt8} {n : Nat} (hl : l.length = n) (hm : m.length = n) : ((List.range n).all fun j => l.getD j 0 == m.getD j 0) = decide (l = m) := by
 rw [Bool.eq_iff_iff, List.all_eq_true, decide_eq_true_eq]
 constructor
 ·intro h
  refine List.ext_getElem (by omega) fun j h1 h2 => ?_
  have := h j (by simp; omega)
  simpa [List.getD_eq_getElem?_getD, h1, h2] using this
 ·intro h; subst h; simp
theorem eq_arr {t n : Nat} (hu : Tryz.prog.underlying t = some (.array n 5)) (d : Nat) (l m : List UInt8) (hl : l.length = n) (hm : m.length = n) (w : World) :
  (Op.equalIn (d + 2) t (.agg (bA l)) (.agg (bA m))).run Tryz.prog w = .ok (decide (l = m)) w := by
 obtain ⟨i, hi⟩ : ∃ i, Tryz.prog.info? 5 = some i := ⟨_, rfl⟩
 rw [run_equalIn_array w (d + 1) (bA l) (bA m) hu hi]
 have : Tryz.prog.cellsOf 5 = 1 := by kernel_rfl
 rw [this, run_eqItems_g w d l m _ (fun j hj => by simp at hj; omega), all_eq hl hm]
theorem bA_extract (l : List UInt8) (a b : Nat) : (bA l).extract a b = bA ((l.drop a).take (b - a)) := by
 apply Array.toList_inj.1
 simp [bA, List.extract_eq_take_drop, List.map_take, List.map_drop]
theorem eq_leaf (d : Nat) (l m : List UInt8) (hl : l.length = 64) (hm : m.length = 64) (w : World) :
  (Op.equalIn (d + 3) 57 (.agg (bA l)) (.agg (bA m))).run Tryz.prog w = .ok (decide (l = m)) w := by
 rw [run_equalIn_struct w (d + 2) 57 _ _ (by kernel_rfl) (by kernel_rfl)]
 obtain ⟨f, g, hfg, f1, f2, f3, g1, g2, g3⟩ : ∃ f g, (Tryz.prog.fieldsOf 57).toList = [f, g] ∧ f.name = "Key" ∧ f.type = 39 ∧ f.offset = 0 ∧ g.name = "Value" ∧ g.type = 45 ∧ g.offset = 32 :=
  ⟨_, _, rfl, rfl, rfl, rfl, rfl, rfl, rfl⟩
 have pk : ∀ (x : List UInt8) (w : World), (part 39 (bA x) 0).run Tryz.prog w = .ok (.agg (bA (x.take 32))) w := fun x w => by
  simp only [part, Sem.run_bind, Tryz.isAgg39, Result.andThen_ok]
  simp [bA_extract]
 have pv : ∀ (x : List UInt8) (w : World), (part 45 (bA x) 32).run Tryz.prog w = .ok (.agg (bA ((x.drop 32).take 32))) w := fun x w => by
  simp only [part, Sem.run_bind, Tryz.isAgg45, Result.andThen_ok]
  simp [bA_extract]
 have e1 := eq_arr Tryz.underlying39 d (l.take 32) (m.take 32) (by simp [hl]) (by simp [hm])
 have e2 := eq_arr Tryz.underlying45 d ((l.drop 32).take 32) ((m.drop 32).take 32) (by simp [hl]) (by simp [hm])
 have hd : decide (l = m) = (decide (l.take 32 = m.take 32) && decide ((l.drop 32).take 32 = (m.drop 32).take 32)) := by
  rw [Bool.eq_iff_iff, Bool.and_eq_true, decide_eq_true_eq, decide_eq_true_eq, decide_eq_true_eq]
  rw [List.take_of_length_le (l := l.drop 32) (by simp [hl]), List.take_of_length_le (l := m.drop 32) (by simp [hm])]
  constructor
  ·intro h; subst h; exact ⟨rfl, rfl⟩
  ·rintro ⟨a, b⟩
   rw [← List.take_append_drop 32 l, a, b, List.take_append_drop]
 rw [hfg, hd]
 simp only [Op.eqFields, f1, f2, f3, g1, g2, g3, Sem.run_bind, Sem.run_ite, pk, pv, Result.andThen_ok, e1, e2]
 cases decide (l.take 32 = m.take 32) <;> cases decide ((l.drop 32).take 32 = (m.drop 32).take 32) <;> rfl
theorem guardLeaf : Tryz.prog.eqGuardType Tryz.prog.depth 57 = false := by kernel_rfl
theorem guardDig : Tryz.prog.eqGuardType Tryz.prog.depth 45 = false := by kernel_rfl
theorem guardKey : Tryz.prog.eqGuardType Tryz.prog.depth 39 = false := by kernel_rfl
theorem eqA_of {t : TypeId} {l m : List UInt8} (hg : Tryz.prog.eqGuardType Tryz.prog.depth t = false) (he : ∀ w, (Op.equalIn 10000 t (.agg (bA l)) (.agg (bA m))).run Tryz.prog w = .ok (decide (l = m)) w) (x y : Operand) (w : World) :
  eqA .eql t x y w (.agg (bA l)) (.agg (bA m)) = .ok (.value (.bool (decide (l = m)))) w ∧ eqA .neq t x y w (.agg (bA l)) (.agg (bA m)) = .ok (.value (.bool (!decide (l = m)))) w := by
 constructor
 ·simp [eqA, eqGuard, hg, binOp, Op.equal, Op.maxDepth, he, Sem.run_bind, Sem.run_pure]
 ·simp [eqA, eqGuard, hg, binOp, Op.equal, Op.maxDepth, he, Sem.run_bind, Sem.run_pure]
theorem eqLeaf (l m : List UInt8) (hl : l.length = 64) (hm : m.length = 64) (x y : Operand) (w : World) :
  eqA .eql 57 x y w (.agg (bA l)) (.agg (bA m)) = .ok (.value (.bool (decide (l = m)))) w := (eqA_of guardLeaf (eq_leaf 9997 l m hl hm) x y w).1
theorem neLeaf (l m : List UInt8) (hl : l.length = 64) (hm : m.length = 64) (x y : Operand) (w : World) :
  eqA .neq 57 x y w (.agg (bA l)) (.agg (bA m)) = .ok (.value (.bool (!decide (l = m)))) w := (eqA_of guardLeaf (eq_leaf 9997 l m hl hm) x y w).2
theorem eqDig (l m : List UInt8) (hl : l.length = 32) (hm : m.length = 32) (x y : Operand) (w : World) :
  eqA .eql 45 x y w (.agg (bA l)) (.agg (bA m)) = .ok (.value (.bool (decide (l = m)))) w := (eqA_of guardDig (eq_arr Tryz.underlying45 9998 l m hl hm) x y w).1
theorem neDig (l m : List UInt8) (hl : l.length = 32) (hm : m.length = 32) (x y : Operand) (w : World) :
  eqA .neq 45 x y w (.agg (bA l)) (.agg (bA m)) = .ok (.value (.bool (!decide (l = m)))) w := (eqA_of guardDig (eq_arr Tryz.underlying45 9998 l m hl hm) x y w).2
theorem neKey (l m : List UInt8) (hl : l.length = 32) (hm : m.length = 32) (x y : Operand) (w : World) :
  eqA .neq 39 x y w (.agg (bA l)) (.agg (bA m)) = .ok (.value (.bool (!decide (l = m)))) w := (eqA_of guardKey (eq_arr Tryz.underlying39 9998 l m hl hm) x y w).2
end Go.Proofs.YtmfbhohjpkmllaaGreatDoor
