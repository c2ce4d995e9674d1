import Derived.Test.YtmfbhohjpkmllaaGreatDoorMT
namespace Go.Proofs.YtmfbhohjpkmllaaGreatDoor
set_option linter.unusedSimpArgs false
set_option linter.unusedVariables false
open Go.RowKit
def k7 : List UInt8 := 7 :: List.replicate 31 0
def k255 : List UInt8 := 255 :: List.replicate 31 0
theorem bldKey_7 (w : World) : bldA 39 w #[(0, .int .u8 7)] = .ok (.value (.agg (bA k7))) w := by kernel_rfl
theorem bldKey_255 (w : World) : bldA 39 w #[(0, .int .u8 255)] = .ok (.value (.agg (bA k255))) w := by kernel_rfl
def e0 : En := ⟨z26, none, [], 0⟩
def eF : En := ⟨k255, none, [], 0⟩
def E0 : Ent := ⟨z26, []⟩
def EF : Ent := ⟨k255, []⟩
theorem bldEntry_z (w : World) : bldA 80 w #[] = .ok (.value (.agg (enC e0).toArray)) w := by kernel_rfl
theorem bldEntry_ff (w : World) : bldA 80 w #[(0, .agg (bA k255))] = .ok (.value (.agg (enC eF).toArray)) w := by kernel_rfl
theorem bsE_ff (w : World) : bsE w 2 #[(0, .agg (enC e0).toArray), (1, .agg (enC eF).toArray)] = .ok (.value (.slice (some ⟨w.heap.size, 0, none⟩) 2 2)) (w.alloc (.cells ([e0, eF].flatMap enC).toArray 80)) := by kernel_rfl
theorem cmp_ff : cmpK k255 z26 = 1 := by decide
theorem put_ff : ([e0, eF].map En.ent).foldl putK [] = [E0, EF] := by
 have h : z26 ≠ k255 := by decide
 show putK (putK [] E0) EF = _
 rw [show putK [] E0 = [E0] from rfl]
 unfold putK
 rw [show rmK [E0] EF.k = [E0] by simp [rmK, E0, EF, h]]
 simp [insK, E0, EF, cmp_ff]
theorem bit_ff : bitK k255 0 = 1 := by decide
theorem ea_ff {w : World} : EA (w.alloc (.cells ([e0, eF].flatMap enC).toArray 80)) (some ⟨w.heap.size, 0, none⟩) [e0, eF] := ea_row (heap_alloc_new w _) fun e he => by
 simp only [List.mem_cons, List.not_mem_nil, or_false] at he
 rcases he with rfl | rfl
 ·exact ⟨rfl, Nat.le_refl 0, fun j x hj => by simp [e0] at hj⟩
 ·exact ⟨rfl, Nat.le_refl 0, fun j x hj => by simp [eF] at hj⟩
end Go.Proofs.YtmfbhohjpkmllaaGreatDoor
