import Derived.Test.YtjgdindjimbfeaaGreatDoorTJ
import Derived.Test.YtjgdindjimbfeaaGreatDoorCD
import Derived.Test.YtjgdindjimbfeaaGreatDoorAD
import Derived.Test.YtjgdindjimbfeaaGreatDoorLM
import Derived.Test.YtjgdindjimbfeaaGreatDoorBtOf
import Derived.BigQuiet
import Derived.Test.YtjgdindjimbfeaaGreatDoorVd
import Derived.Test.YtjgdindjimbfeaaGreatDoorM6
namespace Go.Proofs.YtjgdindjimbfeaaGreatDoor
set_option linter.unusedSimpArgs false
set_option linter.unusedVariables false
section
open Go.RowKit
end
section
open Go.RowKit
def rpC (root : List UInt8) (p : Pf) (s : Value) : Array Value := (root.map bv ++ pfL p s).toArray
def RpAt (w : World) (g : Nat) (root : List UInt8) (p : Pf) (s : Value) : Prop := w.heap[g]? = some (.cells (rpC root p s) 55 (0, 0))
theorem RpAt.sib {w : World} {g : Nat} {root : List UInt8} {p : Pf} {s : Value} (h : RpAt w g root p s) (hr : root.length = 32) (hp : p.Ok) : w.cell? ⟨g, 130, none⟩ = some s := by
 have := cell_mid (w := w) (b := g) (pre := root.map bv ++ (.int .i64 p.kind :: .int .i64 p.dep :: (p.lf.map bv ++ p.bm.map bv))) (post := []) (v := s) (t := 55) (fr := (0, 0)) (by
  have h' : w.heap[g]? = some (.cells (rpC root p s) 55 (0, 0)) := h
  rw [h']
  simp [rpC, pfL])
 rwa [show (root.map bv ++ (Value.int .i64 p.kind :: .int .i64 p.dep :: (p.lf.map bv ++ p.bm.map bv))).length = 130 by simp [hp.lf, hp.bm, hr]] at this
end
section
open Go.RowKit
end
section
open Go.RowKit
end
end Go.Proofs.YtjgdindjimbfeaaGreatDoor
