import Derived.Test.YtkejfdgmdjfdoaaGreatDoorRows
import Derived.WalkKit
import Derived.Lib.Hide
import Derived.WalkLawsBesides
import Derived.WalkSpells
import Derived.BigQuiet
import Derived.Deep.LoopGhost
import Derived.Deep.QuietTactic
import Derived.Below
import Derived.Outline
import Derived.Laws.AppendOwn
import Derived.Laws.BitsAllLaws
import Derived.Test.YtkejfdgmdjfdoaaGreatDoorGn
import Derived.Deep.RegionLaw
import Derived.Deep.RegionLawGrows
namespace Go.Proofs.YtkejfdgmdjfdoaaGreatDoor
set_option linter.unusedSimpArgs false
set_option linter.unusedVariables false
set_option maxRecDepth 100000
section
def rotr (x : UInt32) (n : Nat) : UInt32 := (x >>> UInt32.ofNat n) ||| (x <<< UInt32.ofNat (32 - n))
def sg0 (x : UInt32) : UInt32 := rotr x 7 ^^^ rotr x 18 ^^^ (x >>> 3)
def sg1 (x : UInt32) : UInt32 := rotr x 17 ^^^ rotr x 19 ^^^ (x >>> 10)
def Sg0 (x : UInt32) : UInt32 := rotr x 2 ^^^ rotr x 13 ^^^ rotr x 22
def Sg1 (x : UInt32) : UInt32 := rotr x 6 ^^^ rotr x 11 ^^^ rotr x 25
def ch (e f g : UInt32) : UInt32 := (e &&& f) ^^^ (~~~e &&& g)
def maj (a b c : UInt32) : UInt32 := (a &&& b) ^^^ (a &&& c) ^^^ (b &&& c)
def be32 (a b c d : UInt8) : UInt32 := (a.toUInt32 <<< 24) ||| (b.toUInt32 <<< 16) ||| (c.toUInt32 <<< 8) ||| d.toUInt32
def word (b : Nat → UInt8) (i : Nat) : UInt32 := be32 (b (4 * i)) (b (4 * i + 1)) (b (4 * i + 2)) (b (4 * i + 3))
def words (b : Nat → UInt8) (n : Nat) : List UInt32 := (List.range n).map (word b)
def ext (w : List UInt32) : UInt32 := w.getD (w.length - 16) 0 + sg0 (w.getD (w.length - 15) 0) + w.getD (w.length - 7) 0 + sg1 (w.getD (w.length - 2) 0)
def grow (w : List UInt32) : Nat → List UInt32
 | 0 => w
 | k + 1 => grow w k ++ [ext (grow w k)]
def sched (b : Nat → UInt8) : List UInt32 := grow (words b 16) 48
theorem words_len (b : Nat → UInt8) (n : Nat) : (words b n).length = n := by simp [words]
theorem words_succ (b : Nat → UInt8) (n : Nat) : words b (n + 1) = words b n ++ [word b n] := by simp [words, List.range_succ]
theorem grow_len (w : List UInt32) (k : Nat) : (grow w k).length = w.length + k := by
 induction k with
 | zero => rfl
 | succ k ih => simp [grow, ih]; omega
theorem sched_len (b : Nat → UInt8) : (sched b).length = 64 := by unfold sched; rw [grow_len, words_len]
structure S8 where
 a : UInt32
 b : UInt32
 c : UInt32
 d : UInt32
 e : UInt32
 f : UInt32
 g : UInt32
 h : UInt32
def kTab : List UInt32 := [
 0x428a2f98, 0x71374491, 0xb5c0fbcf, 0xe9b5dba5, 0x3956c25b, 0x59f111f1, 0x923f82a4, 0xab1c5ed5,
 0xd807aa98, 0x12835b01, 0x243185be, 0x550c7dc3, 0x72be5d74, 0x80deb1fe, 0x9bdc06a7, 0xc19bf174,
 0xe49b69c1, 0xefbe4786, 0x0fc19dc6, 0x240ca1cc, 0x2de92c6f, 0x4a7484aa, 0x5cb0a9dc, 0x76f988da,
 0x983e5152, 0xa831c66d, 0xb00327c8, 0xbf597fc7, 0xc6e00bf3, 0xd5a79147, 0x06ca6351, 0x14292967,
 0x27b70a85, 0x2e1b2138, 0x4d2c6dfc, 0x53380d13, 0x650a7354, 0x766a0abb, 0x81c2c92e, 0x92722c85,
 0xa2bfe8a1, 0xa81a664b, 0xc24b8b70, 0xc76c51a3, 0xd192e819, 0xd6990624, 0xf40e3585, 0x106aa070,
 0x19a4c116, 0x1e376c08, 0x2748774c, 0x34b0bcb5, 0x391c0cb3, 0x4ed8aa4a, 0x5b9cca4f, 0x682e6ff3,
 0x748f82ee, 0x78a5636f, 0x84c87814, 0x8cc70208, 0x90befffa, 0xa4506ceb, 0xbef9a3f7, 0xc67178f2]
def init8 : S8 := ⟨0x6a09e667, 0xbb67ae85, 0x3c6ef372, 0xa54ff53a, 0x510e527f, 0x9b05688c, 0x1f83d9ab, 0x5be0cd19⟩
def S8.t1 (s : S8) (k w : UInt32) : UInt32 := s.h + Sg1 s.e + ch s.e s.f s.g + k + w
def S8.t2 (s : S8) : UInt32 := Sg0 s.a + maj s.a s.b s.c
def S8.rnd (s : S8) (k w : UInt32) : S8 := ⟨s.t1 k w + s.t2, s.a, s.b, s.c, s.d + s.t1 k w, s.e, s.f, s.g⟩
def rounds (s : S8) (w : List UInt32) : Nat → S8
 | 0 => s
 | n + 1 => (rounds s w n).rnd (kTab.getD n 0) (w.getD n 0)
def S8.add (s t : S8) : S8 := ⟨s.a + t.a, s.b + t.b, s.c + t.c, s.d + t.d, s.e + t.e, s.f + t.f, s.g + t.g, s.h + t.h⟩
def S8.list (s : S8) : List UInt32 := [s.a, s.b, s.c, s.d, s.e, s.f, s.g, s.h]
def blk (s : S8) (b : Nat → UInt8) : S8 := s.add (rounds s (sched b) 64)
def blks (p : List UInt8) : Nat → S8
 | 0 => init8
 | m + 1 => blk (blks p m) fun t => p.getD (64 * m + t) 0
def be64 (n : Nat) : List UInt8 := (List.range 8).map fun i => UInt8.ofNat (n / 2 ^ (56 - 8 * i))
def zeros (n : Nat) : Nat := (119 - n % 64) % 64
def padL (b : List UInt8) : List UInt8 := b ++ 128 :: (List.replicate (zeros b.length) 0 ++ be64 (8 * b.length))
theorem padL_len (b : List UInt8) : (padL b).length = 64 * ((b.length + 72) / 64) := by
 simp [padL, be64, zeros]; omega
def byteOf (x : UInt32) (j : Nat) : UInt8 := UInt8.ofNat (x.toNat / 2 ^ (24 - 8 * j))
def outB (s : S8) : List UInt8 := s.list.flatMap fun x => (List.range 4).map (byteOf x)
theorem outB_len (s : S8) : (outB s).length = 32 := rfl
def sumL (b : List UInt8) : List UInt8 := outB (blks (padL b) ((padL b).length / 64))
theorem sumL_len (b : List UInt8) : (sumL b).length = 32 := rfl
end
section
open Go.RowKit
def u (x : UInt32) : Value := .int .u32 (x.toNat : Int)
theorem u_eq {x : UInt32} {m : Int} (h : m = x.toNat) : Value.int .u32 m = u x := by rw [h]; rfl
@[go_sem] theorem add_u (x y : UInt32) (w : World) : (binOp .add 234 (u x) (u y)).run Tryz.prog w = .ok (u (x + y)) w := by
 have e : (binOp .add 234 (u x) (u y)).run Tryz.prog w = .ok (.int .u32 (IntKind.u32.wrap ((x.toNat : Int) + y.toNat))) w := by
  unfold u; simp [binOp, go_sem]
 rw [e, u_eq (x := x + y)]
 rw [wrap_u32, UInt32.toNat_add]
 omega
theorem lt32 (x : UInt32) : x.toNat < 4294967296 := x.toNat_lt
@[go_sem] theorem xor_u (x y : UInt32) (w : World) : (binOp .xor 234 (u x) (u y)).run Tryz.prog w = .ok (u (x ^^^ y)) w := by
 have e : (binOp .xor 234 (u x) (u y)).run Tryz.prog w = .ok (.int .u32 (bits .xor .u32 (x.toNat : Int) y.toNat)) w := by
  unfold u; simp [binOp, go_sem]
 rw [e, u_eq (x := x ^^^ y)]
 rw [u32_xor_nat _ _ (lt32 x) (lt32 y), UInt32.toNat_xor]
@[go_sem] theorem and_u (x y : UInt32) (w : World) : (binOp .and 234 (u x) (u y)).run Tryz.prog w = .ok (u (x &&& y)) w := by
 have e : (binOp .and 234 (u x) (u y)).run Tryz.prog w = .ok (.int .u32 (bits .and .u32 (x.toNat : Int) y.toNat)) w := by
  unfold u; simp [binOp, go_sem]
 rw [e, u_eq (x := x &&& y)]
 rw [u32_and_nat _ _ (lt32 x) (lt32 y), UInt32.toNat_and]
@[go_sem] theorem or_u (x y : UInt32) (w : World) : (binOp .or 234 (u x) (u y)).run Tryz.prog w = .ok (u (x ||| y)) w := by
 have e : (binOp .or 234 (u x) (u y)).run Tryz.prog w = .ok (.int .u32 (bits .or .u32 (x.toNat : Int) y.toNat)) w := by
  unfold u; simp [binOp, go_sem]
 rw [e, u_eq (x := x ||| y)]
 rw [u32_or_nat _ _ (lt32 x) (lt32 y), UInt32.toNat_or]
@[go_sem] theorem not_u (x : UInt32) (w : World) : (Op.unary .xor (u x)).run Tryz.prog w = .ok (u (~~~x)) w := by
 have e : (Op.unary .xor (u x)).run Tryz.prog w = .ok (.int .u32 (bits .xor .u32 ((4294967295 : Nat) : Int) (x.toNat : Int))) w := by
  unfold u; rfl
 rw [e, u_eq (x := ~~~x)]
 rw [u32_xor_nat _ _ (by decide) (lt32 x), not_nat _ (lt32 x)]
 congr 1
 simp
theorem shr_u (x : UInt32) (n : Nat) (h : n < 32) (w : World) : (binOp .shr 234 (u x) (.int .u64 (n : Int))).run Tryz.prog w = .ok (u (x >>> UInt32.ofNat n)) w := by
 unfold u; simp [binOp, go_sem]
 rw [Nat.mod_eq_of_lt h, Int.shiftRight_eq_div_pow]
 simp
theorem shl_u (x : UInt32) (n : Nat) (h : n < 32) (w : World) : (binOp .shl 234 (u x) (.int .u64 (n : Int))).run Tryz.prog w = .ok (u (x <<< UInt32.ofNat n)) w := by
 unfold u; simp [binOp, go_sem]
 rw [Nat.mod_eq_of_lt h, wrap_u32, Int.shiftLeft_eq]
@[go_sem high] theorem conv_u (x : UInt8) (w : World) : (convert 5 234 (.int .u8 (x.toNat : Int))).run Tryz.prog w = .ok (u x.toUInt32) w := by
 unfold u; simp [go_sem]
 have := x.toNat_lt
 rw [wrap_u32]; omega
@[go_sem high] theorem conv_b (x : UInt32) (w : World) : (convert 234 5 (u x)).run Tryz.prog w = .ok (.int .u8 ((UInt8.ofNat x.toNat).toNat : Int)) w := by
 unfold u; simp [go_sem]
 rw [wrap_u8]
theorem turn_c (x : UInt32) (n : Nat) (N : Int) (hN : N = n) (h : n < 32) (h0 : 0 < n) (w : World) : Calls Tryz.prog 133 #[u x, .int .u64 N] w fun e w' => e = .returned (u (rotr x n)) ∧ w' = w := by
 subst hN
 have a1 := fun w => shr_u x n h w
 have a2 : ∀ w, (binOp .shl 234 (u x) (.int .u64 (32 - (n : Int)))).run Tryz.prog w = .ok (u (x <<< UInt32.ofNat (32 - n))) w := fun w => by
  rw [show (32 - (n : Int)) = ((32 - n : Nat) : Int) by omega]; exact shl_u x (32 - n) (by omega) w
 go_enter Tryz.func133, Tryz.ntmps133
 go_wp2
 go_ret
 exact ⟨rfl, rfl⟩
def rotrI (x : UInt32) (n : Int) : UInt32 := rotr x n.toNat
theorem turn_any (x : UInt32) (n : Int) (h : 0 < n ∧ n < 32) (w : World) : Calls Tryz.prog 133 #[u x, .int .u64 n] w fun e w' => e = .returned (u (rotrI x n)) ∧ w' = w :=
 turn_c x n.toNat n (by omega) (by omega) (by omega) w
theorem info38 : (Tryz.prog.info? 234).map (fun i => (i.zero, i.size, i.bytes)) = some (some (.int .u32 0), 1, 4) := by kernel_rfl
theorem u_one (x : UInt32) : (u x).oneCell' = true := rfl
def OwnW (w : World) (B : Nat) (v : Value) (l : List UInt32) : Prop := w.ownsRow B 234 1 v l.length (l.map u)
theorem OwnW.nil (w : World) (B : Nat) : OwnW w B (.slice none 0 0) [] := ⟨rfl, .inl ⟨rfl, rfl⟩⟩
theorem OwnW.below {w w' : World} {B : Nat} {v : Value} {l : List UInt32} (h : OwnW w B v l) (hb : Below w.heap.size w w') : OwnW w' B v l := by
 obtain ⟨h0, h | ⟨g, cap, cur, rfl, hg, hh, hr⟩⟩ := h
 ·exact ⟨h0, .inl h⟩
 ·exact ⟨h0, .inr ⟨g, cap, cur, rfl, hg, by rw [hb.block g (lt_of_heap hh)]; exact hh, hr⟩⟩
theorem OwnW.drew {w : World} {B : Nat} {v : Value} {l : List UInt32} (h : OwnW w B v l) : OwnW w.drew B v l := h
theorem OwnW.ge {w : World} {B : Nat} {v : Value} {l : List UInt32} (h : OwnW w B v l) : ∀ k, v.ownBlock = some k → B ≤ k := fun k hk => by
 obtain ⟨_, h | ⟨g, cap, cur, rfl, hg, _⟩⟩ := h
 ·obtain ⟨rfl, _⟩ := h; simp [Value.ownBlock] at hk
 ·simp [Value.ownBlock] at hk; omega
def WA (w : World) (A : Option Addr) (l : List UInt32) : Prop := ∀ j x, l[j]? = some x → ∃ g, A = some ⟨g, 0, none⟩ ∧ w.cell? ⟨g, j, none⟩ = some (u x)
theorem WA.below {w w' : World} {A : Option Addr} {l : List UInt32} (h : WA w A l) (hb : Below w.heap.size w w') : WA w' A l := fun j x hj => by
 obtain ⟨g, rfl, h1⟩ := h j x hj
 exact ⟨g, rfl, by rw [hb.cell (lt_of_cell h1)]; exact h1⟩
theorem OwnW.row {w : World} {B : Nat} {v : Value} {l : List UInt32} (h : OwnW w B v l) : ∃ A c, v = .slice A l.length c ∧ l.length ≤ c ∧ WA w A l := by
 obtain ⟨h0, ⟨rfl, h⟩ | ⟨g, cap, cur, rfl, hg, hh, hn, hc, hs, ht⟩⟩ := h
 ·refine ⟨none, 0, by rw [h], by omega, fun j f hj => ?_⟩
  have : l = [] := List.length_eq_zero_iff.1 h
  subst this; simp at hj
 ·refine ⟨_, _, rfl, hn, fun j f hj => ⟨g, rfl, ?_⟩⟩
  rw [cell_of_cells hh, ← Array.getElem?_toList]
  have hlt : j < l.length := (List.getElem?_eq_some_iff.1 hj).1
  have : (cur.toList.take (l.length * 1))[j]? = some (u f) := by rw [ht]; simp [hj]
  rw [List.getElem?_take_of_lt (by omega)] at this
  exact this
noncomputable def bsU (w : World) (n : Nat) (parts : Array (Nat × Value)) : Result Next := Sem.run Tryz.prog (do pure (.value (← Instr.buildSlice 236 n parts))) w
@[go_sem ↓] theorem execOp_build_u (ρ : Operand → Value) (dst : Option Tmp) (n : Nat) (parts : Array (Nat × Operand)) (type : TypeId) (pos : String) (after : Array Edge) (guard : Option (Nat × Bool)) (w : World) :
  Sem.run Tryz.prog (execOp ρ { dst, op := .buildSlice 236 n parts, type, pos, after, guard }) w = bsU w n (parts.map fun x => (x.1, ρ x.2)) := rfl
@[go_sem] theorem bsU_one (x : UInt32) (w : World) : bsU w 1 #[(0, u x)] = .ok (.value (.slice (some ⟨w.heap.size, 0, none⟩) 1 1)) (w.alloc (.cells #[u x] 234)) := by kernel_rfl
end
section
open Go.RowKit
theorem bsU_prim (w : World) : bsU w 64 #[(0, .int .u32 1116352408), (1, .int .u32 1899447441), (2, .int .u32 3049323471), (3, .int .u32 3921009573), (4, .int .u32 961987163), (5, .int .u32 1508970993), (6, .int .u32 2453635748), (7, .int .u32 2870763221), (8, .int .u32 3624381080), (9, .int .u32 310598401), (10, .int .u32 607225278), (11, .int .u32 1426881987), (12, .int .u32 1925078388), (13, .int .u32 2162078206), (14, .int .u32 2614888103), (15, .int .u32 3248222580), (16, .int .u32 3835390401), (17, .int .u32 4022224774), (18, .int .u32 264347078), (19, .int .u32 604807628), (20, .int .u32 770255983), (21, .int .u32 1249150122), (22, .int .u32 1555081692), (23, .int .u32 1996064986), (24, .int .u32 2554220882), (25, .int .u32 2821834349), (26, .int .u32 2952996808), (27, .int .u32 3210313671), (28, .int .u32 3336571891), (29, .int .u32 3584528711), (30, .int .u32 113926993), (31, .int .u32 338241895), (32, .int .u32 666307205), (33, .int .u32 773529912), (34, .int .u32 1294757372), (35, .int .u32 1396182291), (36, .int .u32 1695183700), (37, .int .u32 1986661051), (38, .int .u32 2177026350), (39, .int .u32 2456956037), (40, .int .u32 2730485921), (41, .int .u32 2820302411), (42, .int .u32 3259730800), (43, .int .u32 3345764771), (44, .int .u32 3516065817), (45, .int .u32 3600352804), (46, .int .u32 4094571909), (47, .int .u32 275423344), (48, .int .u32 430227734), (49, .int .u32 506948616), (50, .int .u32 659060556), (51, .int .u32 883997877), (52, .int .u32 958139571), (53, .int .u32 1322822218), (54, .int .u32 1537002063), (55, .int .u32 1747873779), (56, .int .u32 1955562222), (57, .int .u32 2024104815), (58, .int .u32 2227730452), (59, .int .u32 2361852424), (60, .int .u32 2428436474), (61, .int .u32 2756734187), (62, .int .u32 3204031479), (63, .int .u32 3329325298)] = .ok (.value (.slice (some ⟨w.heap.size, 0, none⟩) 64 64)) (w.alloc (.cells (kTab.map u).toArray 234)) := by kernel_rfl
theorem primes_c (w : World) : Calls Tryz.prog 130 #[] w fun e w' => e = .returned (.slice (some ⟨w.heap.size, 0, none⟩) 64 64) ∧ w' = w.alloc (.cells (kTab.map u).toArray 234) := by
 have hb := bsU_prim
 go_enter Tryz.func130, Tryz.ntmps130
 go_wp2
 go_ret
 exact ⟨rfl, rfl⟩
end
section
open Go.RowKit
theorem step_push_u {ops : Array Oper} {o : Oper} {a : Act} {w : World} {K : Act → World → Prop} {Q : Exit → Act → World → Prop} {E : Prop} (hgd : o.guard = none) (s x : Operand)
  (ho : o.op = .call { callee := .builtin .append, args := #[s, x], argTypes := #[236, 236] }) (B g n cap : Nat) (l : List UInt32) (hn : l.length = n) (hs : a.eval s = .slice (some ⟨g, 0, none⟩) n cap) (hown : OwnW w B (.slice (some ⟨g, 0, none⟩) n cap) l)
  (ad : Addr) (y : UInt32) (hx : a.eval x = .slice (some ad) 1 1) (hk : w.cell? ad = some (u y)) (hl : n ≤ 400000)
  (h : ∀ v' w', OwnW w' B v' (l ++ [y]) → w.grownBy w' (some g) → (∀ j, j < n → w'.cell? ⟨g, j, none⟩ = w.cell? ⟨g, j, none⟩) → K (a.put o.dst v') w') :
  if Region.wanted o (yielded ops a.tmps) = true then Oper.wp Tryz.prog o a w K Q else E := by
 subst hn
 obtain ⟨i0, hi, hz0, hz1, hz2⟩ := info_parts info38
 obtain ⟨h0, hx0 | ⟨g', cap', cur, e, hg, hh, hnc, hcm, hcs, hct⟩⟩ := hown
 ·obtain ⟨e, _⟩ := hx0; cases e
 ·cases e
  have hglt := lt_of_heap hh
  have hnews : ∀ j v, [u y][j]? = some v → w.cell? (ad.add j) = some v := fun j v hj => by
   match j, hj with
   | 0, hj => simp at hj; subst hj; simpa [Addr.add] using hk
  have hone : ∀ v ∈ [u y], v.oneCell' = true := fun v hv => by simp at hv; subst hv; rfl
  by_cases hroom : l.length + 1 ≤ cap
  ·refine step_append_room hgd s x 236 ho 234 i0 1 Tryz.underlying236 hi hz1 g 0 l.length cap hs ad 1 1 [u y] hx rfl hnews hone hroom (fun j hj => ?_) ?_
   ·have : j = 0 := by simpa using hj
    subst this
    constructor
    ·rw [cell_of_cells hh]; simp [show l.length < cur.size by omega]
    ·simp [World.frozen?, hh]
   ·have hw : w.setCells g (0 + l.length * 1) [u y] = w.setCell ⟨g, l.length, none⟩ (u y) := by simp [World.setCells]
    rw [hw]
    have hh2 : (w.setCell ⟨g, l.length, none⟩ (u y)).heap[g]? = some (.cells (cur.setIfInBounds l.length (u y)) 234 (0, 0)) := by simp [World.setCell, Array.getElem?_modify, hh]
    refine h _ _ ?_ ?_ ?_
    ·unfold OwnW
     rw [List.map_append, List.length_append]
     refine ⟨by simp [List.length_map], .inr ⟨g, cap, _, rfl, hg, hh2, hroom, hcm, by simpa using hcs, ?_⟩⟩
     rw [Nat.mul_one] at hct
     rw [Nat.mul_one]
     rw [Array.toList_setIfInBounds, show l.length + [y].length = l.length + 1 from rfl, List.take_add_one, List.take_set_of_le (Nat.le_refl l.length), hct, List.getElem?_set_self (by simp; omega)]
     rfl
    ·exact ⟨rfl, rfl, rfl, by simp [World.setCell], fun k _ hk => Below.heap_setCell _ _ _ _ (fun e => hk (by simp [e]))⟩
    ·intro j hj
     rw [cell_of_cells hh2, cell_of_cells hh, Array.getElem?_setIfInBounds_ne (by omega)]
  ·refine step_append_grows hgd s x 236 ho 234 i0 (.int .u32 0) 1 4 Tryz.underlying236 hi hz0 hz1 hz2 rfl (by decide) (some ⟨g, 0, none⟩) l.length cap (l.map u) hs (fun e => by cases e) (by simp) (fun b hb j v hj => ?_) ad 1 1 [u y] hx rfl hnews hone (by omega) (by unfold maxLen; omega) (by omega) fun v' w' h1 h2 => h v' w' ?_ ?_ ?_
   ·cases hb
    rw [show (⟨g, 0, none⟩ : Addr).add j = ⟨g, j, none⟩ by unfold Addr.add; split <;> simp_all, cell_of_cells hh, ← Array.getElem?_toList]
    have hjl : j < l.length := by simpa using (List.getElem?_eq_some_iff.1 hj).1
    rw [← hct, List.getElem?_take_of_lt (by omega)] at hj
    exact hj
   ·unfold OwnW
    rw [List.map_append, List.length_append]
    obtain ⟨h3, h4 | ⟨g2, c2, cur2, e2, hg2, hr2⟩⟩ := h1
    ·exact ⟨h3, .inl h4⟩
    ·exact ⟨h3, .inr ⟨g2, c2, cur2, e2, by omega, hr2⟩⟩
   ·exact ⟨h2.os, h2.tape, h2.output, h2.size, fun k hk _ => h2.block k hk (by simp)⟩
   ·intro j _
    exact World.cell?_of_block (w := w) (a := ⟨g, j, none⟩) (h2.block g hglt (by simp))
end
end Go.Proofs.YtkejfdgmdjfdoaaGreatDoor
