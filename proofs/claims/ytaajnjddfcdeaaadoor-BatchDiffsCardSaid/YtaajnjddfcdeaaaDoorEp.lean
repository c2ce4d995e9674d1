/- Preimages as lists: plain facts. -/
import Derived.Test.YtaajnjddfcdeaaaDoorEt
namespace Go.Proofs.YtaajnjddfcdeaaaDoor

def leafL (k d : List UInt8) : List UInt8 := 0 :: (k ++ d)
def nodeL (a b : List UInt8) : List UInt8 := 1 :: (a ++ b)
def valL (b : List UInt8) : List UInt8 := 2 :: b
def emptyL : List UInt8 := [3]
theorem leaf_len {k d : List UInt8} (hk : k.length = 32) (hd : d.length = 32) : (leafL k d).length = 65 := by simp [leafL, hk, hd]
theorem node_len {k d : List UInt8} (hk : k.length = 32) (hd : d.length = 32) : (nodeL k d).length = 65 := by simp [nodeL, hk, hd]
theorem val_len (b : List UInt8) : (valL b).length = b.length + 1 := by simp [valL]
open Go.RowKit
end Go.Proofs.YtaajnjddfcdeaaaDoor
