/- Several texts in one: Pure Kit Pr Ap A B Pd. -/
import Derived.Test.YtbkokcfmndiedaaRows
import Derived.WalkKit
import Derived.Lib.Hide
import Derived.WalkLawsBesides
import Derived.WalkSpells
import Derived.BigQuiet
import Derived.Deep.LoopGhost
import Derived.Deep.QuietTactic
import Derived.Below
import Derived.Outline
import Derived.Laws.AppendOwn
import Derived.Laws.BitsAllLaws
import Derived.Test.YtbkokcfmndiedaaGn
import Derived.Deep.RegionLaw
import Derived.Deep.RegionLawGrows
import Derived.Deep.AppendLies
import Derived.Deep.RegionHeld3
import Derived.IntWalk
import Derived.Deep.AppendSrc
/- SHA-256 on lists of bytes and words of 32 bits: plain functions. -/
namespace Go.Proofs.Ytbkokcfmndiedaa

/-! ### Words -/
def rotr (x : UInt32) (n : Nat) : UInt32 := (x >>> UInt32.ofNat n) ||| (x <<< UInt32.ofNat (32 - n))
def sg0 (x : UInt32) : UInt32 := rotr x 7 ^^^ rotr x 18 ^^^ (x >>> 3)
def sg1 (x : UInt32) : UInt32 := rotr x 17 ^^^ rotr x 19 ^^^ (x >>> 10)
def Sg0 (x : UInt32) : UInt32 := rotr x 2 ^^^ rotr x 13 ^^^ rotr x 22
def Sg1 (x : UInt32) : UInt32 := rotr x 6 ^^^ rotr x 11 ^^^ rotr x 25
def ch (e f g : UInt32) : UInt32 := (e &&& f) ^^^ (~~~e &&& g)
def maj (a b c : UInt32) : UInt32 := (a &&& b) ^^^ (a &&& c) ^^^ (b &&& c)
def be32 (a b c d : UInt8) : UInt32 := (a.toUInt32 <<< 24) ||| (b.toUInt32 <<< 16) ||| (c.toUInt32 <<< 8) ||| d.toUInt32

/-! ### The schedule of a block -/
def word (b : Nat → UInt8) (i : Nat) : UInt32 := be32 (b (4 * i)) (b (4 * i + 1)) (b (4 * i + 2)) (b (4 * i + 3))
def words (b : Nat → UInt8) (n : Nat) : List UInt32 := (List.range n).map (word b)
def ext (w : List UInt32) : UInt32 := w.getD (w.length - 16) 0 + sg0 (w.getD (w.length - 15) 0) + w.getD (w.length - 7) 0 + sg1 (w.getD (w.length - 2) 0)
def grow (w : List UInt32) : Nat → List UInt32
  | 0 => w
  | k + 1 => grow w k ++ [ext (grow w k)]
def sched (b : Nat → UInt8) : List UInt32 := grow (words b 16) 48
theorem words_len (b : Nat → UInt8) (n : Nat) : (words b n).length = n := by simp [words]
theorem words_succ (b : Nat → UInt8) (n : Nat) : words b (n + 1) = words b n ++ [word b n] := by simp [words, List.range_succ]
theorem grow_len (w : List UInt32) (k : Nat) : (grow w k).length = w.length + k := by
  induction k with
  | zero => rfl
  | succ k ih => simp [grow, ih]; omega
theorem sched_len (b : Nat → UInt8) : (sched b).length = 64 := by unfold sched; rw [grow_len, words_len]

/-! ### The rounds -/
structure S8 where
  a : UInt32
  b : UInt32
  c : UInt32
  d : UInt32
  e : UInt32
  f : UInt32
  g : UInt32
  h : UInt32
def kTab : List UInt32 := [
  0x428a2f98, 0x71374491, 0xb5c0fbcf, 0xe9b5dba5, 0x3956c25b, 0x59f111f1, 0x923f82a4, 0xab1c5ed5,
  0xd807aa98, 0x12835b01, 0x243185be, 0x550c7dc3, 0x72be5d74, 0x80deb1fe, 0x9bdc06a7, 0xc19bf174,
  0xe49b69c1, 0xefbe4786, 0x0fc19dc6, 0x240ca1cc, 0x2de92c6f, 0x4a7484aa, 0x5cb0a9dc, 0x76f988da,
  0x983e5152, 0xa831c66d, 0xb00327c8, 0xbf597fc7, 0xc6e00bf3, 0xd5a79147, 0x06ca6351, 0x14292967,
  0x27b70a85, 0x2e1b2138, 0x4d2c6dfc, 0x53380d13, 0x650a7354, 0x766a0abb, 0x81c2c92e, 0x92722c85,
  0xa2bfe8a1, 0xa81a664b, 0xc24b8b70, 0xc76c51a3, 0xd192e819, 0xd6990624, 0xf40e3585, 0x106aa070,
  0x19a4c116, 0x1e376c08, 0x2748774c, 0x34b0bcb5, 0x391c0cb3, 0x4ed8aa4a, 0x5b9cca4f, 0x682e6ff3,
  0x748f82ee, 0x78a5636f, 0x84c87814, 0x8cc70208, 0x90befffa, 0xa4506ceb, 0xbef9a3f7, 0xc67178f2]
def init8 : S8 := ⟨0x6a09e667, 0xbb67ae85, 0x3c6ef372, 0xa54ff53a, 0x510e527f, 0x9b05688c, 0x1f83d9ab, 0x5be0cd19⟩
def S8.t1 (s : S8) (k w : UInt32) : UInt32 := s.h + Sg1 s.e + ch s.e s.f s.g + k + w
def S8.t2 (s : S8) : UInt32 := Sg0 s.a + maj s.a s.b s.c
def S8.rnd (s : S8) (k w : UInt32) : S8 := ⟨s.t1 k w + s.t2, s.a, s.b, s.c, s.d + s.t1 k w, s.e, s.f, s.g⟩
def rounds (s : S8) (w : List UInt32) : Nat → S8
  | 0 => s
  | n + 1 => (rounds s w n).rnd (kTab.getD n 0) (w.getD n 0)
def S8.add (s t : S8) : S8 := ⟨s.a + t.a, s.b + t.b, s.c + t.c, s.d + t.d, s.e + t.e, s.f + t.f, s.g + t.g, s.h + t.h⟩
def S8.list (s : S8) : List UInt32 := [s.a, s.b, s.c, s.d, s.e, s.f, s.g, s.h]
def blk (s : S8) (b : Nat → UInt8) : S8 := s.add (rounds s (sched b) 64)
/-- The state after the first m blocks of the padded bytes p. -/
def blks (p : List UInt8) : Nat → S8
  | 0 => init8
  | m + 1 => blk (blks p m) fun t => p.getD (64 * m + t) 0

/-! ### Padding, the digest -/
def be64 (n : Nat) : List UInt8 := (List.range 8).map fun i => UInt8.ofNat (n / 2 ^ (56 - 8 * i))
def zeros (n : Nat) : Nat := (119 - n % 64) % 64
def padL (b : List UInt8) : List UInt8 := b ++ 128 :: (List.replicate (zeros b.length) 0 ++ be64 (8 * b.length))
theorem padL_len (b : List UInt8) : (padL b).length = 64 * ((b.length + 72) / 64) := by
  simp [padL, be64, zeros]; omega
def byteOf (x : UInt32) (j : Nat) : UInt8 := UInt8.ofNat (x.toNat / 2 ^ (24 - 8 * j))
def outB (s : S8) : List UInt8 := s.list.flatMap fun x => (List.range 4).map (byteOf x)
theorem outB_len (s : S8) : (outB s).length = 32 := rfl
def sumL (b : List UInt8) : List UInt8 := outB (blks (padL b) ((padL b).length / 64))
theorem sumL_len (b : List UInt8) : (sumL b).length = 32 := rfl

/-! ### The examples of the chapter -/
theorem sum_none : (sumL []).take 4 = [0xe3, 0xb0, 0xc4, 0x42] := by decide +kernel
theorem sum_abc : (sumL [97, 98, 99]).take 4 = [0xba, 0x78, 0x16, 0xbf] := by decide +kernel
end Go.Proofs.Ytbkokcfmndiedaa

/- Laws for the walks over words of 32 bits: a word stays folded ('u x'). -/
namespace Go.Proofs.Ytbkokcfmndiedaa
open Go.RowKit

/-- A word. -/
def u (x : UInt32) : Value := .int .u32 (x.toNat : Int)
theorem u_eq {x : UInt32} {m : Int} (h : m = x.toNat) : Value.int .u32 m = u x := by rw [h]; rfl
@[go_sem] theorem add_u (x y : UInt32) (w : World) : (binOp .add 77 (u x) (u y)).run Try.prog w = .ok (u (x + y)) w := by
  have e : (binOp .add 77 (u x) (u y)).run Try.prog w = .ok (.int .u32 (IntKind.u32.wrap ((x.toNat : Int) + y.toNat))) w := by
    unfold u; simp [binOp, go_sem]
  rw [e, u_eq (x := x + y)]
  rw [wrap_u32, UInt32.toNat_add]
  omega
theorem lt32 (x : UInt32) : x.toNat < 4294967296 := x.toNat_lt
@[go_sem] theorem xor_u (x y : UInt32) (w : World) : (binOp .xor 77 (u x) (u y)).run Try.prog w = .ok (u (x ^^^ y)) w := by
  have e : (binOp .xor 77 (u x) (u y)).run Try.prog w = .ok (.int .u32 (bits .xor .u32 (x.toNat : Int) y.toNat)) w := by
    unfold u; simp [binOp, go_sem]
  rw [e, u_eq (x := x ^^^ y)]
  rw [u32_xor_nat _ _ (lt32 x) (lt32 y), UInt32.toNat_xor]
@[go_sem] theorem and_u (x y : UInt32) (w : World) : (binOp .and 77 (u x) (u y)).run Try.prog w = .ok (u (x &&& y)) w := by
  have e : (binOp .and 77 (u x) (u y)).run Try.prog w = .ok (.int .u32 (bits .and .u32 (x.toNat : Int) y.toNat)) w := by
    unfold u; simp [binOp, go_sem]
  rw [e, u_eq (x := x &&& y)]
  rw [u32_and_nat _ _ (lt32 x) (lt32 y), UInt32.toNat_and]
@[go_sem] theorem or_u (x y : UInt32) (w : World) : (binOp .or 77 (u x) (u y)).run Try.prog w = .ok (u (x ||| y)) w := by
  have e : (binOp .or 77 (u x) (u y)).run Try.prog w = .ok (.int .u32 (bits .or .u32 (x.toNat : Int) y.toNat)) w := by
    unfold u; simp [binOp, go_sem]
  rw [e, u_eq (x := x ||| y)]
  rw [u32_or_nat _ _ (lt32 x) (lt32 y), UInt32.toNat_or]
@[go_sem] theorem not_u (x : UInt32) (w : World) : (Op.unary .xor (u x)).run Try.prog w = .ok (u (~~~x)) w := by
  have e : (Op.unary .xor (u x)).run Try.prog w = .ok (.int .u32 (bits .xor .u32 ((4294967295 : Nat) : Int) (x.toNat : Int))) w := by
    unfold u; rfl
  rw [e, u_eq (x := ~~~x)]
  rw [u32_xor_nat _ _ (by decide) (lt32 x), not_nat _ (lt32 x)]
  congr 1
  simp
theorem shr_u (x : UInt32) (n : Nat) (h : n < 32) (w : World) : (binOp .shr 77 (u x) (.int .u64 (n : Int))).run Try.prog w = .ok (u (x >>> UInt32.ofNat n)) w := by
  unfold u; simp [binOp, go_sem]
  rw [Nat.mod_eq_of_lt h, Int.shiftRight_eq_div_pow]
  simp
theorem shl_u (x : UInt32) (n : Nat) (h : n < 32) (w : World) : (binOp .shl 77 (u x) (.int .u64 (n : Int))).run Try.prog w = .ok (u (x <<< UInt32.ofNat n)) w := by
  unfold u; simp [binOp, go_sem]
  rw [Nat.mod_eq_of_lt h, wrap_u32, Int.shiftLeft_eq]
@[go_sem high] theorem conv_u (x : UInt8) (w : World) : (convert 5 77 (.int .u8 (x.toNat : Int))).run Try.prog w = .ok (u x.toUInt32) w := by
  unfold u; simp [go_sem]
  have := x.toNat_lt
  rw [wrap_u32]; omega
@[go_sem high] theorem conv_b (x : UInt32) (w : World) : (convert 77 5 (u x)).run Try.prog w = .ok (.int .u8 ((UInt8.ofNat x.toNat).toNat : Int)) w := by
  unfold u; simp [go_sem]
  rw [wrap_u8]
/-! ### The reference's turn -/
def rotrI (x : UInt32) (n : Int) : UInt32 := rotr x n.toNat
/-! ### Rows of words -/
theorem info38 : (Try.prog.info? 77).map (fun i => (i.zero, i.size, i.bytes)) = some (some (.int .u32 0), 1, 4) := by kernel_rfl
theorem u_one (x : UInt32) : (u x).oneCell' = true := rfl
def OwnW (w : World) (B : Nat) (v : Value) (l : List UInt32) : Prop := w.ownsRow B 77 1 v l.length (l.map u)
theorem OwnW.nil (w : World) (B : Nat) : OwnW w B (.slice none 0 0) [] := ⟨rfl, .inl ⟨rfl, rfl⟩⟩
theorem OwnW.below {w w' : World} {B : Nat} {v : Value} {l : List UInt32} (h : OwnW w B v l) (hb : Below w.heap.size w w') : OwnW w' B v l := by
  obtain ⟨h0, h | ⟨g, cap, cur, rfl, hg, hh, hr⟩⟩ := h
  · exact ⟨h0, .inl h⟩
  · exact ⟨h0, .inr ⟨g, cap, cur, rfl, hg, by rw [hb.block g (lt_of_heap hh)]; exact hh, hr⟩⟩
theorem OwnW.drew {w : World} {B : Nat} {v : Value} {l : List UInt32} (h : OwnW w B v l) : OwnW w.drew B v l := h
theorem OwnW.ge {w : World} {B : Nat} {v : Value} {l : List UInt32} (h : OwnW w B v l) : ∀ k, v.ownBlock = some k → B ≤ k := fun k hk => by
  obtain ⟨_, h | ⟨g, cap, cur, rfl, hg, _⟩⟩ := h
  · obtain ⟨rfl, _⟩ := h; simp [Value.ownBlock] at hk
  · simp [Value.ownBlock] at hk; omega
/-- The words at A. -/
def WA (w : World) (A : Option Addr) (l : List UInt32) : Prop := ∀ j x, l[j]? = some x → ∃ g, A = some ⟨g, 0, none⟩ ∧ w.cell? ⟨g, j, none⟩ = some (u x)
theorem WA.below {w w' : World} {A : Option Addr} {l : List UInt32} (h : WA w A l) (hb : Below w.heap.size w w') : WA w' A l := fun j x hj => by
  obtain ⟨g, rfl, h1⟩ := h j x hj
  exact ⟨g, rfl, by rw [hb.cell (lt_of_cell h1)]; exact h1⟩
theorem OwnW.row {w : World} {B : Nat} {v : Value} {l : List UInt32} (h : OwnW w B v l) : ∃ A c, v = .slice A l.length c ∧ l.length ≤ c ∧ WA w A l := by
  obtain ⟨h0, ⟨rfl, h⟩ | ⟨g, cap, cur, rfl, hg, hh, hn, hc, hs, ht⟩⟩ := h
  · refine ⟨none, 0, by rw [h], by omega, fun j f hj => ?_⟩
    have : l = [] := List.length_eq_zero_iff.1 h
    subst this; simp at hj
  · refine ⟨_, _, rfl, hn, fun j f hj => ⟨g, rfl, ?_⟩⟩
    rw [cell_of_cells hh, ← Array.getElem?_toList]
    have hlt : j < l.length := (List.getElem?_eq_some_iff.1 hj).1
    have : (cur.toList.take (l.length * 1))[j]? = some (u f) := by rw [ht]; simp [hj]
    rw [List.getElem?_take_of_lt (by omega)] at this
    exact this
end Go.Proofs.Ytbkokcfmndiedaa

/- The reference's constants. -/
namespace Go.Proofs.Ytbkokcfmndiedaa
open Go.RowKit
end Go.Proofs.Ytbkokcfmndiedaa

/- One word is appended to a row that the call owns: the cells that stood there read as before. -/
namespace Go.Proofs.Ytbkokcfmndiedaa
open Go.RowKit
end Go.Proofs.Ytbkokcfmndiedaa

/- The reference's schedule. -/
namespace Go.Proofs.Ytbkokcfmndiedaa
open Go.RowKit

@[go_sem] theorem shl8 (x : UInt32) (w : World) : (binOp .shl 77 (u x) (.int .u64 8)).run Try.prog w = .ok (u (x <<< 8)) w := shl_u x 8 (by decide) w
@[go_sem] theorem shl16 (x : UInt32) (w : World) : (binOp .shl 77 (u x) (.int .u64 16)).run Try.prog w = .ok (u (x <<< 16)) w := shl_u x 16 (by decide) w
@[go_sem] theorem shl24 (x : UInt32) (w : World) : (binOp .shl 77 (u x) (.int .u64 24)).run Try.prog w = .ok (u (x <<< 24)) w := shl_u x 24 (by decide) w
@[go_sem] theorem shr3 (x : UInt32) (w : World) : (binOp .shr 77 (u x) (.int .u64 3)).run Try.prog w = .ok (u (x >>> 3)) w := shr_u x 3 (by decide) w
@[go_sem] theorem shr10 (x : UInt32) (w : World) : (binOp .shr 77 (u x) (.int .u64 10)).run Try.prog w = .ok (u (x >>> 10)) w := shr_u x 10 (by decide) w
end Go.Proofs.Ytbkokcfmndiedaa

/- The reference's padding. -/
namespace Go.Proofs.Ytbkokcfmndiedaa
open Go.RowKit

def padN (l : List UInt8) (j : Nat) : List UInt8 := padZ l (zeros l.length) ++ (be64 (8 * l.length)).take j
theorem padN_len (l : List UInt8) (j : Nat) (h : j ≤ 8) : (padN l j).length = l.length + 1 + zeros l.length + j := by
  unfold padN; rw [List.length_append, padZ_len, List.length_take]; simp [be64]; omega
theorem padN_succ (l : List UInt8) (j : Nat) (h : j < 8) : padN l (j + 1) = padN l j ++ [UInt8.ofNat (8 * l.length / 2 ^ (56 - 8 * j))] := by
  unfold padN
  rw [List.take_add_one, List.append_assoc]
  congr 2
  unfold be64
  rw [List.getElem?_map, List.getElem?_range h]
  rfl
theorem padN_end (l : List UInt8) : padN l 8 = padL l := by
  unfold padN padZ padL
  rw [List.take_of_length_le (by simp [be64])]
  simp
theorem zeros_go (n z : Nat) (h : z < zeros n) : (n + 1 + z) % 64 ≠ 56 := by unfold zeros at h; omega
theorem zeros_end (n : Nat) : (n + 1 + zeros n) % 64 = 56 := by unfold zeros; omega
theorem zeros_lt (n : Nat) : zeros n < 64 := by unfold zeros; omega
end Go.Proofs.Ytbkokcfmndiedaa

/- Plain functions for the program's own way: words out of bytes, streams of bytes, numbers as bytes. -/
namespace Go.Proofs.Ytbkokcfmndiedaa

/-! ### Words out of bytes, one byte at a time -/
def acc (b : Nat → UInt8) (t : Nat) : Nat → UInt32
  | 0 => 0
  | k + 1 => (acc b t k <<< 8) ||| (b (4 * t + k)).toUInt32
def accw (b : Nat → UInt8) (n t : Nat) : UInt32 := acc b t (min 4 (n - 4 * t))
theorem accw_zero (b : Nat → UInt8) (t : Nat) : accw b 0 t = 0 := by simp [accw, acc]
theorem accw_here (b : Nat → UInt8) (n : Nat) : accw b (n + 1) (n / 4) = (accw b n (n / 4) <<< 8) ||| (b n).toUInt32 := by
  unfold accw
  rw [show min 4 (n + 1 - 4 * (n / 4)) = n % 4 + 1 by omega, show min 4 (n - 4 * (n / 4)) = n % 4 by omega, acc, show 4 * (n / 4) + n % 4 = n by omega]
theorem accw_other (b : Nat → UInt8) (n t : Nat) (h : t ≠ n / 4) : accw b (n + 1) t = accw b n t := by
  unfold accw
  congr 1
  omega
theorem word_bits (a b c d : UInt32) : (((((((0 : UInt32) <<< 8) ||| a) <<< 8) ||| b) <<< 8 ||| c) <<< 8) ||| d = (a <<< 24) ||| (b <<< 16) ||| (c <<< 8) ||| d := by
  apply UInt32.eq_of_toBitVec_eq
  simp only [UInt32.toBitVec_or, UInt32.toBitVec_shiftLeft]
  apply BitVec.eq_of_getLsbD_eq
  intro i hi
  simp [BitVec.getLsbD_or, BitVec.getLsbD_shiftLeft]
  by_cases h1 : i < 8
  · simp [h1, show i < 16 by omega, show i < 24 by omega]
  · by_cases h2 : i < 16
    · simp [h1, h2, show i < 24 by omega, show i - 8 < 8 by omega]
    · by_cases h3 : i < 24
      · simp [h1, h2, h3, show ¬ i - 8 < 8 by omega, show i - 16 < 8 by omega, show i - 8 - 8 = i - 16 by omega, hi, show i - 8 < 32 by omega]
      · simp [h1, h2, h3, show ¬ i - 8 < 8 by omega, show ¬ i - 16 < 8 by omega, show i - 8 - 8 = i - 16 by omega, show i - 16 - 8 = i - 24 by omega, hi, show i - 8 < 32 by omega, show i - 16 < 32 by omega]
theorem accw_end (b : Nat → UInt8) (t : Nat) (h : t < 16) : accw b 64 t = word b t := by
  unfold accw
  rw [show min 4 (64 - 4 * t) = 4 by omega]
  simp only [acc, word, be32]
  exact word_bits _ _ _ _

/-! ### The schedule, place by place -/
def sw (b : Nat → UInt8) (t : Nat) : UInt32 := (sched b).getD t 0
theorem grow_get (w : List UInt32) (k t : Nat) (h : t < w.length) : (grow w k).getD t 0 = w.getD t 0 := by
  induction k with
  | zero => rfl
  | succ k ih =>
    rw [grow]
    have := grow_len w k
    simp only [List.getD_eq_getElem?_getD] at ih ⊢
    rw [List.getElem?_append_left (by omega)]; exact ih
theorem grow_add (w : List UInt32) (j k : Nat) : grow w (j + k) = grow (grow w j) k := by
  induction k with
  | zero => rfl
  | succ k ih => rw [Nat.add_succ, grow, grow, ih]
theorem sw_early (b : Nat → UInt8) (k t : Nat) (hk : k ≤ 48) (h : t < 16 + k) : (grow (words b 16) k).getD t 0 = sw b t := by
  unfold sw sched
  rw [show 48 = k + (48 - k) by omega, grow_add, grow_get _ (48 - k) t (by rw [grow_len, words_len]; omega)]
theorem sw_word (b : Nat → UInt8) (t : Nat) (h : t < 16) : sw b t = word b t := by
  rw [← sw_early b 0 t (by omega) (by omega)]
  simp [grow, words, List.getD_eq_getElem?_getD, h]
theorem sw_step (b : Nat → UInt8) (i : Nat) (h : 16 ≤ i) (h2 : i < 64) : sw b i = sw b (i - 16) + sg0 (sw b (i - 15)) + sw b (i - 7) + sg1 (sw b (i - 2)) := by
  have hl : (grow (words b 16) (i - 16)).length = i := by rw [grow_len, words_len]; omega
  rw [← sw_early b (i - 16 + 1) i (by omega) (by omega), grow, List.getD_eq_getElem?_getD, List.getElem?_append_right (by omega), hl]
  simp only [Nat.sub_self, List.getElem?_cons_zero, Option.getD_some, ext, hl]
  rw [sw_early b _ _ (by omega) (by omega), sw_early b _ _ (by omega) (by omega), sw_early b _ _ (by omega) (by omega), sw_early b _ _ (by omega) (by omega)]

/-! ### Numbers as bytes -/
def beN (n X : Nat) : List UInt8 := (List.range n).map fun j => UInt8.ofNat (X / 2 ^ (8 * (n - 1 - j)))
theorem beN_len (n X : Nat) : (beN n X).length = n := by simp [beN]
theorem beN_at (n X j : Nat) (h : j < n) : (beN n X).getD j 0 = UInt8.ofNat (X / 2 ^ (8 * (n - 1 - j))) := by simp [beN, List.getD_eq_getElem?_getD, h]
theorem be64_eq (n : Nat) : be64 n = beN 8 n := by
  unfold be64 beN
  refine List.map_congr_left fun j hj => ?_
  have : j < 8 := by simpa using hj
  rw [show 56 - 8 * j = 8 * (8 - 1 - j) by omega]
theorem outB_eq (s : S8) : outB s = s.list.flatMap fun x => beN 4 x.toNat := by
  unfold outB
  congr 1

/-! ### Streams -/
theorem words_congr (f g : Nat → UInt8) (h : ∀ t, t < 64 → f t = g t) : words f 16 = words g 16 := by
  unfold words
  refine List.map_congr_left fun i hi => ?_
  have : i < 16 := by simpa using hi
  unfold word
  rw [h (4 * i) (by omega), h (4 * i + 1) (by omega), h (4 * i + 2) (by omega), h (4 * i + 3) (by omega)]
theorem blk_congr (s : S8) (f g : Nat → UInt8) (h : ∀ t, t < 64 → f t = g t) : blk s f = blk s g := by
  unfold blk sched
  rw [words_congr f g h]
theorem blks_congr (p q : List UInt8) (m : Nat) (h : ∀ t, t < 64 * m → p.getD t 0 = q.getD t 0) : blks p m = blks q m := by
  induction m with
  | zero => rfl
  | succ m ih =>
    rw [blks, blks, ih (fun t ht => h t (by omega))]
    exact blk_congr _ _ _ fun t ht => h _ (by omega)
/-- The state after the stream T: its whole blocks. -/
def stOf (T : List UInt8) : S8 := blks T (T.length / 64)
/-- What stands in the block behind the stream T. -/
def left (T : List UInt8) : List UInt8 := T.drop (64 * (T.length / 64))
theorem left_len (T : List UInt8) : (left T).length = T.length % 64 := by simp [left]; omega
theorem getD_app (T r : List UInt8) (t : Nat) (h : t < T.length) : (T ++ r).getD t 0 = T.getD t 0 := by
  simp only [List.getD_eq_getElem?_getD]
  rw [List.getElem?_append_left h]
theorem st_part (T r : List UInt8) (h : T.length % 64 + r.length < 64) : stOf (T ++ r) = stOf T ∧ left (T ++ r) = left T ++ r := by
  have e : (T ++ r).length / 64 = T.length / 64 := by rw [List.length_append]; omega
  unfold stOf left
  rw [e]
  refine ⟨blks_congr _ _ _ fun t ht => getD_app T r t (by omega), ?_⟩
  rw [List.drop_append_of_le_length (by omega)]
theorem st_full (T r : List UInt8) (h : T.length % 64 + r.length = 64) : stOf (T ++ r) = blk (stOf T) (fun t => (left T ++ r).getD t 0) ∧ left (T ++ r) = [] := by
  have e : (T ++ r).length / 64 = T.length / 64 + 1 := by rw [List.length_append]; omega
  unfold stOf
  constructor
  · rw [e, blks, blks_congr (T ++ r) T _ fun t ht => getD_app T r t (by omega)]
    refine blk_congr _ _ _ fun t _ => ?_
    unfold left
    rw [← List.drop_append_of_le_length (by omega : 64 * (T.length / 64) ≤ T.length)]
    simp [List.getD_eq_getElem?_getD, List.getElem?_drop]
  · unfold left
    rw [e]
    apply List.drop_eq_nil_of_le
    rw [List.length_append]; omega
/-- What follows n bytes in the padded bytes. -/
def padTail (n : Nat) : List UInt8 := 128 :: (List.replicate (zeros n) 0 ++ beN 8 (8 * n))
theorem padL_eq (b : List UInt8) : padL b = b ++ padTail b.length := by unfold padL padTail; rw [be64_eq]
theorem padTail_len (n : Nat) : (padTail n).length = 64 * ((n + 72) / 64) - n := by
  unfold padTail zeros
  simp [beN_len]; omega
theorem sumL_eq (b : List UInt8) : sumL b = outB (stOf (padL b)) := rfl
end Go.Proofs.Ytbkokcfmndiedaa
