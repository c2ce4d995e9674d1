/- Several texts in one: Tb Tc Cs Td. -/
import Derived.Test.YtjnhhcbplhmemaaDoorMT
import Derived.Test.YtjnhhcbplhmemaaDoorDm
import Derived.Test.YtjnhhcbplhmemaaDoorMO
import Derived.Test.YtjnhhcbplhmemaaDoorLa
import Derived.Test.YtjnhhcbplhmemaaDoorM7
import Derived.Lib.AppendZeros
import Derived.Test.YtjnhhcbplhmemaaDoorNg
/- The law's Is: a tree that is the map's. -/
namespace Go.Proofs.YtjnhhcbplhmemaaDoor
open Go.RowKit
end Go.Proofs.YtjnhhcbplhmemaaDoor

/- alive of layer 9 over contracts. -/
namespace Go.Proofs.YtjnhhcbplhmemaaDoor
open Go.RowKit

def k64 : List UInt8 := 64 :: List.replicate 31 0
def e9b (A : Option Addr) : En := ⟨k64, A, [2], 1⟩
def E9b : Ent := ⟨k64, [2]⟩
theorem bldKey_64 (w : World) : bldA 31 w #[(0, .int .u8 64)] = .ok (.value (.agg (bA k64))) w := by kernel_rfl
theorem bldEntry_64 (A : Option Addr) (w : World) : bldA 34 w #[(0, .agg (bA k64)), (1, .slice A 1 1)] = .ok (.value (.agg (enC (e9b A)).toArray)) w := bldEntry (e9b A) rfl w
theorem bit_64 : bitK k64 0 = 0 := by decide
theorem bit_64b : bitK k64 1 = 1 := by decide
theorem bit_a1 : bitK z26 1 = 0 := by decide
theorem cmp_64 : cmpK k64 z26 = 1 := by decide
theorem put_64 : putK [E8a] E9b = [E8a, E9b] := by
  have h : z26 ≠ k64 := by decide
  unfold putK
  rw [show rmK [E8a] E9b.k = [E8a] by simp [rmK, E8a, E9b, h]]
  simp [insK, E8a, E9b, cmp_64]
theorem grow_64 : growT 257 [E8a, E9b] 0 = .inner (.inner (.leaf E8a) (.leaf E9b)) .nil := by
  rw [show (257 : Nat) = 256 + 1 from rfl, growT_two 256 _ 0 (by decide)]
  have h0 : partK [E8a, E9b] 0 0 = [E8a, E9b] := by simp [partK, E8a, E9b, bit_a, bit_64]
  have h1 : partK [E8a, E9b] 0 1 = [] := by simp [partK, E8a, E9b, bit_a, bit_64]
  rw [h0, h1, growT_none, show (256 : Nat) = 255 + 1 from rfl, growT_two 255 _ (0 + 1) (by decide)]
  have h2 : partK [E8a, E9b] (0 + 1) 0 = [E8a] := by simp [partK, E8a, E9b, bit_a1, bit_64b]
  have h3 : partK [E8a, E9b] (0 + 1) 1 = [E9b] := by simp [partK, E8a, E9b, bit_a1, bit_64b]
  rw [h2, h3, growT_one, growT_one]
  rfl
theorem sep_none : Sep 0 [] := ⟨fun _ h => by simp at h, List.Pairwise.nil, fun _ h => by simp at h⟩
theorem map_none : IsMap [] .nil := ⟨sep_none, by rw [growT_none]; rfl⟩
theorem three_of {T : Tv} (h : T.tr = growT 257 [E8a, E9b] 0) : ∃ v v1 va vb, T = .inner v (.inner v1 (.leaf va E8a) (.leaf vb E9b)) .nil := by
  rw [grow_64] at h
  match T, h with
  | .inner v (.inner v1 (.leaf va a) (.leaf vb b)) .nil, h =>
    injection h with h1 h2
    injection h1 with h1 h2
    injection h1 with h1
    injection h2 with h2
    subst h1 h2
    exact ⟨v, v1, va, vb, rfl⟩
end Go.Proofs.YtjnhhcbplhmemaaDoor

/- The library's slices.Clone at bytes: new memory. -/
namespace Go.Proofs.YtjnhhcbplhmemaaDoor
open Go.RowKit
end Go.Proofs.YtjnhhcbplhmemaaDoor

/- What all the laws of layer 9 begin with. -/
namespace Go.Proofs.YtjnhhcbplhmemaaDoor
open Go.RowKit

theorem NewB.keep2 {w w' : World} {B : Nat} {A : Option Addr} {c : Nat} {l : List UInt8} {L : Nat → Prop} (h : NewB w B A c l) (k : Keep L w w') (hL : ∀ i, L i → i < B) : NewB w' B A c l :=
  ⟨h.1, h.2.imp id fun ⟨e0, h⟩ => ⟨e0, h.imp id fun ⟨g, cap, cur, e, hg, hh, hr⟩ => ⟨g, cap, cur, e, hg, k.heap hh fun hl => by have := hL _ hl; omega, hr⟩⟩⟩
theorem hash_any (n : Int) (w : World) : Calls Tryd.prog 24 #[.int .i64 n] w fun e w' => ∃ p, e = .returned (.pointer p) ∧ Below w.heap.size w w' := by
  rcases Classical.em (n < 0 ∨ 256 < n) with h | h
  · exact (hash_out n w h).mono fun e w' ⟨he, hb⟩ => ⟨none, he, hb⟩
  · exact (hash_in n w (by omega) (by omega)).mono fun e w' ⟨b, he, _, _, hb⟩ => ⟨some ⟨b, 0, none⟩, he, hb⟩
/-- What a law's walk knows behind the tree and the hasher. -/
structure Tf (M : World → Int → Tv → Prop) (W : World) (n : Int) (A : Option Addr) (m : List En) (T : Tv) (b c : Nat) (w : World) : Prop where
  fs : Fs M W n A m T w
  hs : ∃ c', c' ≤ c ∧ Hs w b n c'
  new : W.heap.size ≤ b
theorem Tf.below {M : World → Int → Tv → Prop} (nd : NdV M) {W w w' : World} {n : Int} {A : Option Addr} {m : List En} {T : Tv} {b c : Nat} (h : Tf M W n A m T b c w) (hb : Below w.heap.size w w') : Tf M W n A m T b c w' := by
  obtain ⟨c', hc, hh⟩ := h.hs
  exact ⟨h.fs.below nd hb, ⟨c', hc, hh.keep (Keep.of_below (L := fun _ => False) hb) fun h => h⟩, h.new⟩
theorem Tf.made {M : World → Int → Tv → Prop} (nd : NdV M) {W w w' : World} {n : Int} {A : Option Addr} {m : List En} {T : Tv} {b c d : Nat} (h : Tf M W n A m T b c w) (hk : Keep (fun i => i = b) w w') (hh : ∃ c', c' ≤ d ∧ Hs w' b n c') : Tf M W n A m T b d w' := by
  obtain ⟨c', _, h1⟩ := h.hs
  exact ⟨h.fs.hs nd h1 h.new hk, hh, h.new⟩
end Go.Proofs.YtjnhhcbplhmemaaDoor
