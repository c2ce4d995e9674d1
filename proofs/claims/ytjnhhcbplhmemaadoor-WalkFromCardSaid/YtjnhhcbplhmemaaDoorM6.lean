/- Several texts in one: Na Nb Nc. -/
import Derived.Test.YtjnhhcbplhmemaaDoorMw
import Derived.Test.YtjnhhcbplhmemaaDoorMy
import Derived.Test.YtjnhhcbplhmemaaDoorRt
/- Hash of layer 7's law; the walk of NodeDigests over contracts. -/
namespace Go.Proofs.YtjnhhcbplhmemaaDoor
open Go.RowKit

set_option maxHeartbeats 1000000 in
set_option maxRecDepth 100000 in
theorem hash_in (n : Int) (w : World) (h0 : 0 ≤ n) (h1 : n ≤ 256) : Calls Tryd.prog 24 #[.int .i64 n] w fun e w' => ∃ b, e = .returned (ptr b) ∧ w.heap.size ≤ b ∧ Hs w' b n 0 ∧ Below w.heap.size w w' := by
  have HC := Lib.hid (new_c n w h0 h1)
  clear h0 h1
  go_enter Tryd.func24, Tryd.ntmps24
  go_wp2_with fail
  refine HC.out.mono ?_
  rintro _ w1 ⟨b, rfl, hb, hH, hB⟩
  have HP : Hid (w.heap.size ≤ b ∧ Hs w1 b n 0 ∧ Below w.heap.size w w1) := ⟨hb, hH, hB⟩
  clear hb hH hB
  go_wp2_with fail
  go_ret
  exact ⟨b, rfl, HP.out⟩
set_option maxHeartbeats 1000000 in
set_option maxRecDepth 100000 in
theorem hash_out (n : Int) (w : World) (h : n < 0 ∨ 256 < n) : Calls Tryd.prog 24 #[.int .i64 n] w fun e w' => e = .returned (.pointer none) ∧ Below w.heap.size w w' := by
  have HC := Lib.hid (out_c n w h)
  clear h
  go_enter Tryd.func24, Tryd.ntmps24
  go_wp2_with fail
  refine HC.out.mono ?_
  rintro _ w1 ⟨rfl, hB⟩
  have HB := Lib.hid hB
  clear hB
  go_wp2_with fail
  go_ret
  exact ⟨rfl, HB.out⟩
/-- The law's answer. -/
def Aye (W : World) (e : Ending) (w' : World) : Prop := e = .returned (.bool true) ∧ Below W.heap.size W w'
/-- What Digest keeps. -/
def DigestC (N : World → Int → Value → Tr → Prop) : Prop := ∀ (w : World) (b : Nat) (n : Int) (c : Nat) (v : Value) (t : Tr), Hs w b n c → c ≤ 1000000 → Vars w → N w n v t →
  Calls Tryd.prog 63 #[ptr b, v] w fun x w' => ∃ c', x = .returned (.agg (bA (digT n t))) ∧ c' ≤ c + 1 ∧ (t ≠ .nil → c' = c) ∧ Hs w' b n c' ∧ Keep (fun i => i = b) w w'
/-- A hasher that was made since: what was there is as it was. -/
theorem keep_new {W w w' : World} {b : Nat} (hB : Below W.heap.size W w) (hb : W.heap.size ≤ b) (k : Keep (fun i => i = b) w w') : Below W.heap.size W w' := hB.trans (k.below hB.size fun i hi => by have e : i = b := hi; omega)
theorem few_len {l : List Ent} (h : fewK l = true) : l.length ≤ 12 := of_decide_eq_true (Bool.and_eq_true_iff.1 h).1
theorem few_val {l : List Ent} (h : fewK l = true) : ∀ e ∈ l, e.v.length ≤ 200 := fun e he => of_decide_eq_true (List.all_eq_true.1 (Bool.and_eq_true_iff.1 h).2 e he)
end Go.Proofs.YtjnhhcbplhmemaaDoor

/- The walk of NodeCaches over contracts. -/
namespace Go.Proofs.YtjnhhcbplhmemaaDoor
open Go.RowKit
end Go.Proofs.YtjnhhcbplhmemaaDoor

/- The walk of NodeKeeps over contracts. -/
namespace Go.Proofs.YtjnhhcbplhmemaaDoor
open Go.RowKit

def LenC (N : World → Int → Value → Tr → Prop) : Prop := ∀ (w : World) (n : Int) (v : Value) (t : Tr), N w n v t → lenT t ≤ 1000000000 → Calls Tryd.prog 31 #[v] w fun e w' => e = .returned (.int .i64 (lenT t : Int)) ∧ Below w.heap.size w w'
end Go.Proofs.YtjnhhcbplhmemaaDoor
