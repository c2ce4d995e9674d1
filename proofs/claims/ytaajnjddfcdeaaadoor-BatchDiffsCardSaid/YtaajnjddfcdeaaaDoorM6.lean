/- Several texts in one: Na Nb Nc. -/
import Derived.Test.YtaajnjddfcdeaaaDoorMw
import Derived.Test.YtaajnjddfcdeaaaDoorMy
import Derived.Test.YtaajnjddfcdeaaaDoorRt
/- Hash of layer 7's law; the walk of NodeDigests over contracts. -/
namespace Go.Proofs.YtaajnjddfcdeaaaDoor
open Go.RowKit

set_option maxHeartbeats 1000000 in
set_option maxRecDepth 100000 in
theorem hash_in (n : Int) (w : World) (h0 : 0 ≤ n) (h1 : n ≤ 256) : Calls Tryd.prog 12 #[.int .i64 n] w fun e w' => ∃ b, e = .returned (ptr b) ∧ w.heap.size ≤ b ∧ Hs w' b n 0 ∧ Below w.heap.size w w' := by
  have HC := Lib.hid (new_c n w h0 h1)
  clear h0 h1
  go_enter Tryd.func12, Tryd.ntmps12
  go_wp2_with fail
  refine HC.out.mono ?_
  rintro _ w1 ⟨b, rfl, hb, hH, hB⟩
  have HP : Hid (w.heap.size ≤ b ∧ Hs w1 b n 0 ∧ Below w.heap.size w w1) := ⟨hb, hH, hB⟩
  clear hb hH hB
  go_wp2_with fail
  go_ret
  exact ⟨b, rfl, HP.out⟩
/-- The law's answer. -/
def Aye (W : World) (e : Ending) (w' : World) : Prop := e = .returned (.bool true) ∧ Below W.heap.size W w'
/-- A hasher that was made since: what was there is as it was. -/
theorem keep_new {W w w' : World} {b : Nat} (hB : Below W.heap.size W w) (hb : W.heap.size ≤ b) (k : Keep (fun i => i = b) w w') : Below W.heap.size W w' := hB.trans (k.below hB.size fun i hi => by have e : i = b := hi; omega)
end Go.Proofs.YtaajnjddfcdeaaaDoor

/- The walk of NodeCaches over contracts. -/
namespace Go.Proofs.YtaajnjddfcdeaaaDoor
open Go.RowKit
end Go.Proofs.YtaajnjddfcdeaaaDoor

/- The walk of NodeKeeps over contracts. -/
namespace Go.Proofs.YtaajnjddfcdeaaaDoor
open Go.RowKit

def LenC (N : World → Int → Value → Tr → Prop) : Prop := ∀ (w : World) (n : Int) (v : Value) (t : Tr), N w n v t → lenT t ≤ 1000000000 → Calls Tryd.prog 17 #[v] w fun e w' => e = .returned (.int .i64 (lenT t : Int)) ∧ Below w.heap.size w w'
end Go.Proofs.YtaajnjddfcdeaaaDoor
