/- Several texts in one: Pure Kit Pr Ap. -/
import Derived.Test.YtaajnjddfcdeaaaDoorRows
import Derived.WalkKit
import Derived.Lib.Hide
import Derived.WalkLawsBesides
import Derived.WalkSpells
import Derived.BigQuiet
import Derived.Deep.LoopGhost
import Derived.Deep.QuietTactic
import Derived.Below
import Derived.Outline
import Derived.Laws.AppendOwn
import Derived.Laws.BitsAllLaws
import Derived.Test.YtaajnjddfcdeaaaDoorGn
import Derived.Deep.RegionLaw
import Derived.Deep.RegionLawGrows
/- SHA-256 on lists of bytes and words of 32 bits: plain functions. -/
namespace Go.Proofs.YtaajnjddfcdeaaaDoor

/-! ### Words -/
def rotr (x : UInt32) (n : Nat) : UInt32 := (x >>> UInt32.ofNat n) ||| (x <<< UInt32.ofNat (32 - n))
def sg0 (x : UInt32) : UInt32 := rotr x 7 ^^^ rotr x 18 ^^^ (x >>> 3)
def sg1 (x : UInt32) : UInt32 := rotr x 17 ^^^ rotr x 19 ^^^ (x >>> 10)
def Sg0 (x : UInt32) : UInt32 := rotr x 2 ^^^ rotr x 13 ^^^ rotr x 22
def Sg1 (x : UInt32) : UInt32 := rotr x 6 ^^^ rotr x 11 ^^^ rotr x 25
def ch (e f g : UInt32) : UInt32 := (e &&& f) ^^^ (~~~e &&& g)
def maj (a b c : UInt32) : UInt32 := (a &&& b) ^^^ (a &&& c) ^^^ (b &&& c)
def be32 (a b c d : UInt8) : UInt32 := (a.toUInt32 <<< 24) ||| (b.toUInt32 <<< 16) ||| (c.toUInt32 <<< 8) ||| d.toUInt32

/-! ### The schedule of a block -/
def word (b : Nat → UInt8) (i : Nat) : UInt32 := be32 (b (4 * i)) (b (4 * i + 1)) (b (4 * i + 2)) (b (4 * i + 3))
def words (b : Nat → UInt8) (n : Nat) : List UInt32 := (List.range n).map (word b)
def ext (w : List UInt32) : UInt32 := w.getD (w.length - 16) 0 + sg0 (w.getD (w.length - 15) 0) + w.getD (w.length - 7) 0 + sg1 (w.getD (w.length - 2) 0)
def grow (w : List UInt32) : Nat → List UInt32
  | 0 => w
  | k + 1 => grow w k ++ [ext (grow w k)]
def sched (b : Nat → UInt8) : List UInt32 := grow (words b 16) 48
theorem words_len (b : Nat → UInt8) (n : Nat) : (words b n).length = n := by simp [words]
theorem grow_len (w : List UInt32) (k : Nat) : (grow w k).length = w.length + k := by
  induction k with
  | zero => rfl
  | succ k ih => simp [grow, ih]; omega
theorem sched_len (b : Nat → UInt8) : (sched b).length = 64 := by unfold sched; rw [grow_len, words_len]

/-! ### The rounds -/
structure S8 where
  a : UInt32
  b : UInt32
  c : UInt32
  d : UInt32
  e : UInt32
  f : UInt32
  g : UInt32
  h : UInt32
def kTab : List UInt32 := [
  0x428a2f98, 0x71374491, 0xb5c0fbcf, 0xe9b5dba5, 0x3956c25b, 0x59f111f1, 0x923f82a4, 0xab1c5ed5,
  0xd807aa98, 0x12835b01, 0x243185be, 0x550c7dc3, 0x72be5d74, 0x80deb1fe, 0x9bdc06a7, 0xc19bf174,
  0xe49b69c1, 0xefbe4786, 0x0fc19dc6, 0x240ca1cc, 0x2de92c6f, 0x4a7484aa, 0x5cb0a9dc, 0x76f988da,
  0x983e5152, 0xa831c66d, 0xb00327c8, 0xbf597fc7, 0xc6e00bf3, 0xd5a79147, 0x06ca6351, 0x14292967,
  0x27b70a85, 0x2e1b2138, 0x4d2c6dfc, 0x53380d13, 0x650a7354, 0x766a0abb, 0x81c2c92e, 0x92722c85,
  0xa2bfe8a1, 0xa81a664b, 0xc24b8b70, 0xc76c51a3, 0xd192e819, 0xd6990624, 0xf40e3585, 0x106aa070,
  0x19a4c116, 0x1e376c08, 0x2748774c, 0x34b0bcb5, 0x391c0cb3, 0x4ed8aa4a, 0x5b9cca4f, 0x682e6ff3,
  0x748f82ee, 0x78a5636f, 0x84c87814, 0x8cc70208, 0x90befffa, 0xa4506ceb, 0xbef9a3f7, 0xc67178f2]
def init8 : S8 := ⟨0x6a09e667, 0xbb67ae85, 0x3c6ef372, 0xa54ff53a, 0x510e527f, 0x9b05688c, 0x1f83d9ab, 0x5be0cd19⟩
def S8.t1 (s : S8) (k w : UInt32) : UInt32 := s.h + Sg1 s.e + ch s.e s.f s.g + k + w
def S8.t2 (s : S8) : UInt32 := Sg0 s.a + maj s.a s.b s.c
def S8.rnd (s : S8) (k w : UInt32) : S8 := ⟨s.t1 k w + s.t2, s.a, s.b, s.c, s.d + s.t1 k w, s.e, s.f, s.g⟩
def rounds (s : S8) (w : List UInt32) : Nat → S8
  | 0 => s
  | n + 1 => (rounds s w n).rnd (kTab.getD n 0) (w.getD n 0)
def S8.add (s t : S8) : S8 := ⟨s.a + t.a, s.b + t.b, s.c + t.c, s.d + t.d, s.e + t.e, s.f + t.f, s.g + t.g, s.h + t.h⟩
def S8.list (s : S8) : List UInt32 := [s.a, s.b, s.c, s.d, s.e, s.f, s.g, s.h]
def blk (s : S8) (b : Nat → UInt8) : S8 := s.add (rounds s (sched b) 64)
/-- The state after the first m blocks of the padded bytes p. -/
def blks (p : List UInt8) : Nat → S8
  | 0 => init8
  | m + 1 => blk (blks p m) fun t => p.getD (64 * m + t) 0

/-! ### Padding, the digest -/
def be64 (n : Nat) : List UInt8 := (List.range 8).map fun i => UInt8.ofNat (n / 2 ^ (56 - 8 * i))
def zeros (n : Nat) : Nat := (119 - n % 64) % 64
def padL (b : List UInt8) : List UInt8 := b ++ 128 :: (List.replicate (zeros b.length) 0 ++ be64 (8 * b.length))
def byteOf (x : UInt32) (j : Nat) : UInt8 := UInt8.ofNat (x.toNat / 2 ^ (24 - 8 * j))
def outB (s : S8) : List UInt8 := s.list.flatMap fun x => (List.range 4).map (byteOf x)
theorem outB_len (s : S8) : (outB s).length = 32 := rfl
def sumL (b : List UInt8) : List UInt8 := outB (blks (padL b) ((padL b).length / 64))
theorem sumL_len (b : List UInt8) : (sumL b).length = 32 := rfl

/-! ### The examples of the chapter -/
end Go.Proofs.YtaajnjddfcdeaaaDoor

/- Laws for the walks over words of 32 bits: a word stays folded ('u x'). -/
namespace Go.Proofs.YtaajnjddfcdeaaaDoor
open Go.RowKit

/-- A word. -/
def u (x : UInt32) : Value := .int .u32 (x.toNat : Int)
theorem u_eq {x : UInt32} {m : Int} (h : m = x.toNat) : Value.int .u32 m = u x := by rw [h]; rfl
@[go_sem] theorem add_u (x y : UInt32) (w : World) : (binOp .add 137 (u x) (u y)).run Tryd.prog w = .ok (u (x + y)) w := by
  have e : (binOp .add 137 (u x) (u y)).run Tryd.prog w = .ok (.int .u32 (IntKind.u32.wrap ((x.toNat : Int) + y.toNat))) w := by
    unfold u; simp [binOp, go_sem]
  rw [e, u_eq (x := x + y)]
  rw [wrap_u32, UInt32.toNat_add]
  omega
theorem lt32 (x : UInt32) : x.toNat < 4294967296 := x.toNat_lt
@[go_sem] theorem xor_u (x y : UInt32) (w : World) : (binOp .xor 137 (u x) (u y)).run Tryd.prog w = .ok (u (x ^^^ y)) w := by
  have e : (binOp .xor 137 (u x) (u y)).run Tryd.prog w = .ok (.int .u32 (bits .xor .u32 (x.toNat : Int) y.toNat)) w := by
    unfold u; simp [binOp, go_sem]
  rw [e, u_eq (x := x ^^^ y)]
  rw [u32_xor_nat _ _ (lt32 x) (lt32 y), UInt32.toNat_xor]
@[go_sem] theorem and_u (x y : UInt32) (w : World) : (binOp .and 137 (u x) (u y)).run Tryd.prog w = .ok (u (x &&& y)) w := by
  have e : (binOp .and 137 (u x) (u y)).run Tryd.prog w = .ok (.int .u32 (bits .and .u32 (x.toNat : Int) y.toNat)) w := by
    unfold u; simp [binOp, go_sem]
  rw [e, u_eq (x := x &&& y)]
  rw [u32_and_nat _ _ (lt32 x) (lt32 y), UInt32.toNat_and]
@[go_sem] theorem or_u (x y : UInt32) (w : World) : (binOp .or 137 (u x) (u y)).run Tryd.prog w = .ok (u (x ||| y)) w := by
  have e : (binOp .or 137 (u x) (u y)).run Tryd.prog w = .ok (.int .u32 (bits .or .u32 (x.toNat : Int) y.toNat)) w := by
    unfold u; simp [binOp, go_sem]
  rw [e, u_eq (x := x ||| y)]
  rw [u32_or_nat _ _ (lt32 x) (lt32 y), UInt32.toNat_or]
@[go_sem] theorem not_u (x : UInt32) (w : World) : (Op.unary .xor (u x)).run Tryd.prog w = .ok (u (~~~x)) w := by
  have e : (Op.unary .xor (u x)).run Tryd.prog w = .ok (.int .u32 (bits .xor .u32 ((4294967295 : Nat) : Int) (x.toNat : Int))) w := by
    unfold u; rfl
  rw [e, u_eq (x := ~~~x)]
  rw [u32_xor_nat _ _ (by decide) (lt32 x), not_nat _ (lt32 x)]
  congr 1
  simp
theorem shr_u (x : UInt32) (n : Nat) (h : n < 32) (w : World) : (binOp .shr 137 (u x) (.int .u64 (n : Int))).run Tryd.prog w = .ok (u (x >>> UInt32.ofNat n)) w := by
  unfold u; simp [binOp, go_sem]
  rw [Nat.mod_eq_of_lt h, Int.shiftRight_eq_div_pow]
  simp
theorem shl_u (x : UInt32) (n : Nat) (h : n < 32) (w : World) : (binOp .shl 137 (u x) (.int .u64 (n : Int))).run Tryd.prog w = .ok (u (x <<< UInt32.ofNat n)) w := by
  unfold u; simp [binOp, go_sem]
  rw [Nat.mod_eq_of_lt h, wrap_u32, Int.shiftLeft_eq]
@[go_sem high] theorem conv_u (x : UInt8) (w : World) : (convert 5 137 (.int .u8 (x.toNat : Int))).run Tryd.prog w = .ok (u x.toUInt32) w := by
  unfold u; simp [go_sem]
  have := x.toNat_lt
  rw [wrap_u32]; omega
@[go_sem high] theorem conv_b (x : UInt32) (w : World) : (convert 137 5 (u x)).run Tryd.prog w = .ok (.int .u8 ((UInt8.ofNat x.toNat).toNat : Int)) w := by
  unfold u; simp [go_sem]
  rw [wrap_u8]
/-! ### The reference's turn -/
def rotrI (x : UInt32) (n : Int) : UInt32 := rotr x n.toNat
/-! ### Rows of words -/
theorem info38 : (Tryd.prog.info? 137).map (fun i => (i.zero, i.size, i.bytes)) = some (some (.int .u32 0), 1, 4) := by kernel_rfl
theorem u_one (x : UInt32) : (u x).oneCell' = true := rfl
def OwnW (w : World) (B : Nat) (v : Value) (l : List UInt32) : Prop := w.ownsRow B 137 1 v l.length (l.map u)
theorem OwnW.nil (w : World) (B : Nat) : OwnW w B (.slice none 0 0) [] := ⟨rfl, .inl ⟨rfl, rfl⟩⟩
theorem OwnW.below {w w' : World} {B : Nat} {v : Value} {l : List UInt32} (h : OwnW w B v l) (hb : Below w.heap.size w w') : OwnW w' B v l := by
  obtain ⟨h0, h | ⟨g, cap, cur, rfl, hg, hh, hr⟩⟩ := h
  · exact ⟨h0, .inl h⟩
  · exact ⟨h0, .inr ⟨g, cap, cur, rfl, hg, by rw [hb.block g (lt_of_heap hh)]; exact hh, hr⟩⟩
theorem OwnW.drew {w : World} {B : Nat} {v : Value} {l : List UInt32} (h : OwnW w B v l) : OwnW w.drew B v l := h
theorem OwnW.ge {w : World} {B : Nat} {v : Value} {l : List UInt32} (h : OwnW w B v l) : ∀ k, v.ownBlock = some k → B ≤ k := fun k hk => by
  obtain ⟨_, h | ⟨g, cap, cur, rfl, hg, _⟩⟩ := h
  · obtain ⟨rfl, _⟩ := h; simp [Value.ownBlock] at hk
  · simp [Value.ownBlock] at hk; omega
/-- The words at A. -/
def WA (w : World) (A : Option Addr) (l : List UInt32) : Prop := ∀ j x, l[j]? = some x → ∃ g, A = some ⟨g, 0, none⟩ ∧ w.cell? ⟨g, j, none⟩ = some (u x)
theorem WA.below {w w' : World} {A : Option Addr} {l : List UInt32} (h : WA w A l) (hb : Below w.heap.size w w') : WA w' A l := fun j x hj => by
  obtain ⟨g, rfl, h1⟩ := h j x hj
  exact ⟨g, rfl, by rw [hb.cell (lt_of_cell h1)]; exact h1⟩
theorem OwnW.row {w : World} {B : Nat} {v : Value} {l : List UInt32} (h : OwnW w B v l) : ∃ A c, v = .slice A l.length c ∧ l.length ≤ c ∧ WA w A l := by
  obtain ⟨h0, ⟨rfl, h⟩ | ⟨g, cap, cur, rfl, hg, hh, hn, hc, hs, ht⟩⟩ := h
  · refine ⟨none, 0, by rw [h], by omega, fun j f hj => ?_⟩
    have : l = [] := List.length_eq_zero_iff.1 h
    subst this; simp at hj
  · refine ⟨_, _, rfl, hn, fun j f hj => ⟨g, rfl, ?_⟩⟩
    rw [cell_of_cells hh, ← Array.getElem?_toList]
    have hlt : j < l.length := (List.getElem?_eq_some_iff.1 hj).1
    have : (cur.toList.take (l.length * 1))[j]? = some (u f) := by rw [ht]; simp [hj]
    rw [List.getElem?_take_of_lt (by omega)] at this
    exact this
end Go.Proofs.YtaajnjddfcdeaaaDoor

/- The reference's constants. -/
namespace Go.Proofs.YtaajnjddfcdeaaaDoor
open Go.RowKit
end Go.Proofs.YtaajnjddfcdeaaaDoor

/- One word is appended to a row that the call owns: the cells that stood there read as before. -/
namespace Go.Proofs.YtaajnjddfcdeaaaDoor
open Go.RowKit
end Go.Proofs.YtaajnjddfcdeaaaDoor
