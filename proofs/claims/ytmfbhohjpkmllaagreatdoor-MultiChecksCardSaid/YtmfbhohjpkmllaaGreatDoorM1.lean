import Derived.Test.YtmfbhohjpkmllaaGreatDoorRows
import Derived.WalkKit
import Derived.Lib.Hide
import Derived.WalkLawsBesides
import Derived.WalkSpells
import Derived.BigQuiet
import Derived.Deep.LoopGhost
import Derived.Deep.QuietTactic
import Derived.Below
import Derived.Outline
import Derived.Laws.AppendOwn
import Derived.Laws.BitsAllLaws
import Derived.Test.YtmfbhohjpkmllaaGreatDoorTG
import Derived.Deep.RegionLaw
import Derived.Deep.RegionLawGrows
import Derived.Deep.AppendLies
import Derived.Deep.RegionHeld3
import Derived.IntWalk
import Derived.Deep.AppendSrc
namespace Go.Proofs.YtmfbhohjpkmllaaGreatDoor
set_option linter.unusedSimpArgs false
set_option linter.unusedVariables false
set_option maxHeartbeats 16000000
set_option maxRecDepth 100000
section
def rotr (x : UInt32) (n : Nat) : UInt32 := (x >>> UInt32.ofNat n) ||| (x <<< UInt32.ofNat (32 - n))
def sg0 (x : UInt32) : UInt32 := rotr x 7 ^^^ rotr x 18 ^^^ (x >>> 3)
def sg1 (x : UInt32) : UInt32 := rotr x 17 ^^^ rotr x 19 ^^^ (x >>> 10)
def Sg0 (x : UInt32) : UInt32 := rotr x 2 ^^^ rotr x 13 ^^^ rotr x 22
def Sg1 (x : UInt32) : UInt32 := rotr x 6 ^^^ rotr x 11 ^^^ rotr x 25
def ch (e f g : UInt32) : UInt32 := (e &&& f) ^^^ (~~~e &&& g)
def maj (a b c : UInt32) : UInt32 := (a &&& b) ^^^ (a &&& c) ^^^ (b &&& c)
def be32 (a b c d : UInt8) : UInt32 := (a.toUInt32 <<< 24) ||| (b.toUInt32 <<< 16) ||| (c.toUInt32 <<< 8) ||| d.toUInt32
def word (b : Nat → UInt8) (i : Nat) : UInt32 := be32 (b (4 * i)) (b (4 * i + 1)) (b (4 * i + 2)) (b (4 * i + 3))
def words (b : Nat → UInt8) (n : Nat) : List UInt32 := (List.range n).map (word b)
def ext (w : List UInt32) : UInt32 := w.getD (w.length - 16) 0 + sg0 (w.getD (w.length - 15) 0) + w.getD (w.length - 7) 0 + sg1 (w.getD (w.length - 2) 0)
def grow (w : List UInt32) : Nat → List UInt32
 | 0 => w
 | k + 1 => grow w k ++ [ext (grow w k)]
def sched (b : Nat → UInt8) : List UInt32 := grow (words b 16) 48
theorem words_len (b : Nat → UInt8) (n : Nat) : (words b n).length = n := by simp [words]
theorem words_succ (b : Nat → UInt8) (n : Nat) : words b (n + 1) = words b n ++ [word b n] := by simp [words, List.range_succ]
theorem grow_len (w : List UInt32) (k : Nat) : (grow w k).length = w.length + k := by
 induction k with
 | zero => rfl
 | succ k ih => simp [grow, ih]; omega
theorem sched_len (b : Nat → UInt8) : (sched b).length = 64 := by unfold sched; rw [grow_len, words_len]
structure S8 where
 a : UInt32
 b : UInt32
 c : UInt32
 d : UInt32
 e : UInt32
 f : UInt32
 g : UInt32
 h : UInt32
def kTab : List UInt32 := [
 0x428a2f98, 0x71374491, 0xb5c0fbcf, 0xe9b5dba5, 0x3956c25b, 0x59f111f1, 0x923f82a4, 0xab1c5ed5,
 0xd807aa98, 0x12835b01, 0x243185be, 0x550c7dc3, 0x72be5d74, 0x80deb1fe, 0x9bdc06a7, 0xc19bf174,
 0xe49b69c1, 0xefbe4786, 0x0fc19dc6, 0x240ca1cc, 0x2de92c6f, 0x4a7484aa, 0x5cb0a9dc, 0x76f988da,
 0x983e5152, 0xa831c66d, 0xb00327c8, 0xbf597fc7, 0xc6e00bf3, 0xd5a79147, 0x06ca6351, 0x14292967,
 0x27b70a85, 0x2e1b2138, 0x4d2c6dfc, 0x53380d13, 0x650a7354, 0x766a0abb, 0x81c2c92e, 0x92722c85,
 0xa2bfe8a1, 0xa81a664b, 0xc24b8b70, 0xc76c51a3, 0xd192e819, 0xd6990624, 0xf40e3585, 0x106aa070,
 0x19a4c116, 0x1e376c08, 0x2748774c, 0x34b0bcb5, 0x391c0cb3, 0x4ed8aa4a, 0x5b9cca4f, 0x682e6ff3,
 0x748f82ee, 0x78a5636f, 0x84c87814, 0x8cc70208, 0x90befffa, 0xa4506ceb, 0xbef9a3f7, 0xc67178f2]
def init8 : S8 := ⟨0x6a09e667, 0xbb67ae85, 0x3c6ef372, 0xa54ff53a, 0x510e527f, 0x9b05688c, 0x1f83d9ab, 0x5be0cd19⟩
def S8.t1 (s : S8) (k w : UInt32) : UInt32 := s.h + Sg1 s.e + ch s.e s.f s.g + k + w
def S8.t2 (s : S8) : UInt32 := Sg0 s.a + maj s.a s.b s.c
def S8.rnd (s : S8) (k w : UInt32) : S8 := ⟨s.t1 k w + s.t2, s.a, s.b, s.c, s.d + s.t1 k w, s.e, s.f, s.g⟩
def rounds (s : S8) (w : List UInt32) : Nat → S8
 | 0 => s
 | n + 1 => (rounds s w n).rnd (kTab.getD n 0) (w.getD n 0)
def S8.add (s t : S8) : S8 := ⟨s.a + t.a, s.b + t.b, s.c + t.c, s.d + t.d, s.e + t.e, s.f + t.f, s.g + t.g, s.h + t.h⟩
def S8.list (s : S8) : List UInt32 := [s.a, s.b, s.c, s.d, s.e, s.f, s.g, s.h]
def blk (s : S8) (b : Nat → UInt8) : S8 := s.add (rounds s (sched b) 64)
def blks (p : List UInt8) : Nat → S8
 | 0 => init8
 | m + 1 => blk (blks p m) fun t => p.getD (64 * m + t) 0
def be64 (n : Nat) : List UInt8 := (List.range 8).map fun i => UInt8.ofNat (n / 2 ^ (56 - 8 * i))
def zeros (n : Nat) : Nat := (119 - n % 64) % 64
def padL (b : List UInt8) : List UInt8 := b ++ 128 :: (List.replicate (zeros b.length) 0 ++ be64 (8 * b.length))
theorem padL_len (b : List UInt8) : (padL b).length = 64 * ((b.length + 72) / 64) := by
 simp [padL, be64, zeros]; omega
def byteOf (x : UInt32) (j : Nat) : UInt8 := UInt8.ofNat (x.toNat / 2 ^ (24 - 8 * j))
def outB (s : S8) : List UInt8 := s.list.flatMap fun x => (List.range 4).map (byteOf x)
theorem outB_len (s : S8) : (outB s).length = 32 := rfl
def sumL (b : List UInt8) : List UInt8 := outB (blks (padL b) ((padL b).length / 64))
theorem sumL_len (b : List UInt8) : (sumL b).length = 32 := rfl
end
section
open Go.RowKit
def u (x : UInt32) : Value := .int .u32 (x.toNat : Int)
theorem u_eq {x : UInt32} {m : Int} (h : m = x.toNat) : Value.int .u32 m = u x := by rw [h]; rfl
@[go_sem] theorem add_u (x y : UInt32) (w : World) : (binOp .add 156 (u x) (u y)).run Tryz.prog w = .ok (u (x + y)) w := by
 have e : (binOp .add 156 (u x) (u y)).run Tryz.prog w = .ok (.int .u32 (IntKind.u32.wrap ((x.toNat : Int) + y.toNat))) w := by
  unfold u; simp [binOp, go_sem]
 rw [e, u_eq (x := x + y)]
 rw [wrap_u32, UInt32.toNat_add]
 omega
theorem lt32 (x : UInt32) : x.toNat < 4294967296 := x.toNat_lt
@[go_sem] theorem xor_u (x y : UInt32) (w : World) : (binOp .xor 156 (u x) (u y)).run Tryz.prog w = .ok (u (x ^^^ y)) w := by
 have e : (binOp .xor 156 (u x) (u y)).run Tryz.prog w = .ok (.int .u32 (bits .xor .u32 (x.toNat : Int) y.toNat)) w := by
  unfold u; simp [binOp, go_sem]
 rw [e, u_eq (x := x ^^^ y)]
 rw [u32_xor_nat _ _ (lt32 x) (lt32 y), UInt32.toNat_xor]
@[go_sem] theorem and_u (x y : UInt32) (w : World) : (binOp .and 156 (u x) (u y)).run Tryz.prog w = .ok (u (x &&& y)) w := by
 have e : (binOp .and 156 (u x) (u y)).run Tryz.prog w = .ok (.int .u32 (bits .and .u32 (x.toNat : Int) y.toNat)) w := by
  unfold u; simp [binOp, go_sem]
 rw [e, u_eq (x := x &&& y)]
 rw [u32_and_nat _ _ (lt32 x) (lt32 y), UInt32.toNat_and]
@[go_sem] theorem or_u (x y : UInt32) (w : World) : (binOp .or 156 (u x) (u y)).run Tryz.prog w = .ok (u (x ||| y)) w := by
 have e : (binOp .or 156 (u x) (u y)).run Tryz.prog w = .ok (.int .u32 (bits .or .u32 (x.toNat : Int) y.toNat)) w := by
  unfold u; simp [binOp, go_sem]
 rw [e, u_eq (x := x ||| y)]
 rw [u32_or_nat _ _ (lt32 x) (lt32 y), UInt32.toNat_or]
@[go_sem] theorem not_u (x : UInt32) (w : World) : (Op.unary .xor (u x)).run Tryz.prog w = .ok (u (~~~x)) w := by
 have e : (Op.unary .xor (u x)).run Tryz.prog w = .ok (.int .u32 (bits .xor .u32 ((4294967295 : Nat) : Int) (x.toNat : Int))) w := by
  unfold u; rfl
 rw [e, u_eq (x := ~~~x)]
 rw [u32_xor_nat _ _ (by decide) (lt32 x), not_nat _ (lt32 x)]
 congr 1
 simp
theorem shr_u (x : UInt32) (n : Nat) (h : n < 32) (w : World) : (binOp .shr 156 (u x) (.int .u64 (n : Int))).run Tryz.prog w = .ok (u (x >>> UInt32.ofNat n)) w := by
 unfold u; simp [binOp, go_sem]
 rw [Nat.mod_eq_of_lt h, Int.shiftRight_eq_div_pow]
 simp
theorem shl_u (x : UInt32) (n : Nat) (h : n < 32) (w : World) : (binOp .shl 156 (u x) (.int .u64 (n : Int))).run Tryz.prog w = .ok (u (x <<< UInt32.ofNat n)) w := by
 unfold u; simp [binOp, go_sem]
 rw [Nat.mod_eq_of_lt h, wrap_u32, Int.shiftLeft_eq]
@[go_sem high] theorem conv_u (x : UInt8) (w : World) : (convert 5 156 (.int .u8 (x.toNat : Int))).run Tryz.prog w = .ok (u x.toUInt32) w := by
 unfold u; simp [go_sem]
 have := x.toNat_lt
 rw [wrap_u32]; omega
@[go_sem high] theorem conv_b (x : UInt32) (w : World) : (convert 156 5 (u x)).run Tryz.prog w = .ok (.int .u8 ((UInt8.ofNat x.toNat).toNat : Int)) w := by
 unfold u; simp [go_sem]
 rw [wrap_u8]
theorem turn_c (x : UInt32) (n : Nat) (N : Int) (hN : N = n) (h : n < 32) (h0 : 0 < n) (w : World) : Calls Tryz.prog 99 #[u x, .int .u64 N] w fun e w' => e = .returned (u (rotr x n)) ∧ w' = w := by
 subst hN
 have a1 := fun w => shr_u x n h w
 have a2 : ∀ w, (binOp .shl 156 (u x) (.int .u64 (32 - (n : Int)))).run Tryz.prog w = .ok (u (x <<< UInt32.ofNat (32 - n))) w := fun w => by
  rw [show (32 - (n : Int)) = ((32 - n : Nat) : Int) by omega]; exact shl_u x (32 - n) (by omega) w
 go_enter Tryz.func99, Tryz.ntmps99
 go_wp2
 go_ret
 exact ⟨rfl, rfl⟩
def rotrI (x : UInt32) (n : Int) : UInt32 := rotr x n.toNat
theorem turn_any (x : UInt32) (n : Int) (h : 0 < n ∧ n < 32) (w : World) : Calls Tryz.prog 99 #[u x, .int .u64 n] w fun e w' => e = .returned (u (rotrI x n)) ∧ w' = w :=
 turn_c x n.toNat n (by omega) (by omega) (by omega) w
theorem info38 : (Tryz.prog.info? 156).map (fun i => (i.zero, i.size, i.bytes)) = some (some (.int .u32 0), 1, 4) := by kernel_rfl
theorem u_one (x : UInt32) : (u x).oneCell' = true := rfl
def OwnW (w : World) (B : Nat) (v : Value) (l : List UInt32) : Prop := w.ownsRow B 156 1 v l.length (l.map u)
theorem OwnW.nil (w : World) (B : Nat) : OwnW w B (.slice none 0 0) [] := ⟨rfl, .inl ⟨rfl, rfl⟩⟩
theorem OwnW.below {w w' : World} {B : Nat} {v : Value} {l : List UInt32} (h : OwnW w B v l) (hb : Below w.heap.size w w') : OwnW w' B v l := by
 obtain ⟨h0, h | ⟨g, cap, cur, rfl, hg, hh, hr⟩⟩ := h
 ·exact ⟨h0, .inl h⟩
 ·exact ⟨h0, .inr ⟨g, cap, cur, rfl, hg, by rw [hb.block g (lt_of_heap hh)]; exact hh, hr⟩⟩
theorem OwnW.drew {w : World} {B : Nat} {v : Value} {l : List UInt32} (h : OwnW w B v l) : OwnW w.drew B v l := h
theorem OwnW.ge {w : World} {B : Nat} {v : Value} {l : List UInt32} (h : OwnW w B v l) : ∀ k, v.ownBlock = some k → B ≤ k := fun k hk => by
 obtain ⟨_, h | ⟨g, cap, cur, rfl, hg, _⟩⟩ := h
 ·obtain ⟨rfl, _⟩ := h; simp [Value.ownBlock] at hk
 ·simp [Value.ownBlock] at hk; omega
def WA (w : World) (A : Option Addr) (l : List UInt32) : Prop := ∀ j x, l[j]? = some x → ∃ g, A = some ⟨g, 0, none⟩ ∧ w.cell? ⟨g, j, none⟩ = some (u x)
theorem OwnW.row {w : World} {B : Nat} {v : Value} {l : List UInt32} (h : OwnW w B v l) : ∃ A c, v = .slice A l.length c ∧ l.length ≤ c ∧ WA w A l := by
 obtain ⟨h0, ⟨rfl, h⟩ | ⟨g, cap, cur, rfl, hg, hh, hn, hc, hs, ht⟩⟩ := h
 ·refine ⟨none, 0, by rw [h], by omega, fun j f hj => ?_⟩
  have : l = [] := List.length_eq_zero_iff.1 h
  subst this; simp at hj
 ·refine ⟨_, _, rfl, hn, fun j f hj => ⟨g, rfl, ?_⟩⟩
  rw [cell_of_cells hh, ← Array.getElem?_toList]
  have hlt : j < l.length := (List.getElem?_eq_some_iff.1 hj).1
  have : (cur.toList.take (l.length * 1))[j]? = some (u f) := by rw [ht]; simp [hj]
  rw [List.getElem?_take_of_lt (by omega)] at this
  exact this
noncomputable def bsU (w : World) (n : Nat) (parts : Array (Nat × Value)) : Result Next := Sem.run Tryz.prog (do pure (.value (← Instr.buildSlice 158 n parts))) w
@[go_sem ↓] theorem execOp_build_u (ρ : Operand → Value) (dst : Option Tmp) (n : Nat) (parts : Array (Nat × Operand)) (type : TypeId) (pos : String) (after : Array Edge) (guard : Option (Nat × Bool)) (w : World) :
  Sem.run Tryz.prog (execOp ρ { dst, op := .buildSlice 158 n parts, type, pos, after, guard }) w = bsU w n (parts.map fun x => (x.1, ρ x.2)) := rfl
@[go_sem] theorem bsU_one (x : UInt32) (w : World) : bsU w 1 #[(0, u x)] = .ok (.value (.slice (some ⟨w.heap.size, 0, none⟩) 1 1)) (w.alloc (.cells #[u x] 156)) := by kernel_rfl
end
section
open Go.RowKit
theorem bsU_prim (w : World) : bsU w 64 #[(0, .int .u32 1116352408), (1, .int .u32 1899447441), (2, .int .u32 3049323471), (3, .int .u32 3921009573), (4, .int .u32 961987163), (5, .int .u32 1508970993), (6, .int .u32 2453635748), (7, .int .u32 2870763221), (8, .int .u32 3624381080), (9, .int .u32 310598401), (10, .int .u32 607225278), (11, .int .u32 1426881987), (12, .int .u32 1925078388), (13, .int .u32 2162078206), (14, .int .u32 2614888103), (15, .int .u32 3248222580), (16, .int .u32 3835390401), (17, .int .u32 4022224774), (18, .int .u32 264347078), (19, .int .u32 604807628), (20, .int .u32 770255983), (21, .int .u32 1249150122), (22, .int .u32 1555081692), (23, .int .u32 1996064986), (24, .int .u32 2554220882), (25, .int .u32 2821834349), (26, .int .u32 2952996808), (27, .int .u32 3210313671), (28, .int .u32 3336571891), (29, .int .u32 3584528711), (30, .int .u32 113926993), (31, .int .u32 338241895), (32, .int .u32 666307205), (33, .int .u32 773529912), (34, .int .u32 1294757372), (35, .int .u32 1396182291), (36, .int .u32 1695183700), (37, .int .u32 1986661051), (38, .int .u32 2177026350), (39, .int .u32 2456956037), (40, .int .u32 2730485921), (41, .int .u32 2820302411), (42, .int .u32 3259730800), (43, .int .u32 3345764771), (44, .int .u32 3516065817), (45, .int .u32 3600352804), (46, .int .u32 4094571909), (47, .int .u32 275423344), (48, .int .u32 430227734), (49, .int .u32 506948616), (50, .int .u32 659060556), (51, .int .u32 883997877), (52, .int .u32 958139571), (53, .int .u32 1322822218), (54, .int .u32 1537002063), (55, .int .u32 1747873779), (56, .int .u32 1955562222), (57, .int .u32 2024104815), (58, .int .u32 2227730452), (59, .int .u32 2361852424), (60, .int .u32 2428436474), (61, .int .u32 2756734187), (62, .int .u32 3204031479), (63, .int .u32 3329325298)] = .ok (.value (.slice (some ⟨w.heap.size, 0, none⟩) 64 64)) (w.alloc (.cells (kTab.map u).toArray 156)) := by kernel_rfl
theorem primes_c (w : World) : Calls Tryz.prog 96 #[] w fun e w' => e = .returned (.slice (some ⟨w.heap.size, 0, none⟩) 64 64) ∧ w' = w.alloc (.cells (kTab.map u).toArray 156) := by
 have hb := bsU_prim
 go_enter Tryz.func96, Tryz.ntmps96
 go_wp2
 go_ret
 exact ⟨rfl, rfl⟩
end
section
open Go.RowKit
theorem step_push_u {ops : Array Oper} {o : Oper} {a : Act} {w : World} {K : Act → World → Prop} {Q : Exit → Act → World → Prop} {E : Prop} (hgd : o.guard = none) (s x : Operand)
  (ho : o.op = .call { callee := .builtin .append, args := #[s, x], argTypes := #[158, 158] }) (B g n cap : Nat) (l : List UInt32) (hn : l.length = n) (hs : a.eval s = .slice (some ⟨g, 0, none⟩) n cap) (hown : OwnW w B (.slice (some ⟨g, 0, none⟩) n cap) l)
  (ad : Addr) (y : UInt32) (hx : a.eval x = .slice (some ad) 1 1) (hk : w.cell? ad = some (u y)) (hl : n ≤ 400000)
  (h : ∀ v' w', OwnW w' B v' (l ++ [y]) → w.grownBy w' (some g) → (∀ j, j < n → w'.cell? ⟨g, j, none⟩ = w.cell? ⟨g, j, none⟩) → K (a.put o.dst v') w') :
  if Region.wanted o (yielded ops a.tmps) = true then Oper.wp Tryz.prog o a w K Q else E := by
 subst hn
 obtain ⟨i0, hi, hz0, hz1, hz2⟩ := info_parts info38
 obtain ⟨h0, hx0 | ⟨g', cap', cur, e, hg, hh, hnc, hcm, hcs, hct⟩⟩ := hown
 ·obtain ⟨e, _⟩ := hx0; cases e
 ·cases e
  have hglt := lt_of_heap hh
  have hnews : ∀ j v, [u y][j]? = some v → w.cell? (ad.add j) = some v := fun j v hj => by
   match j, hj with
   | 0, hj => simp at hj; subst hj; simpa [Addr.add] using hk
  have hone : ∀ v ∈ [u y], v.oneCell' = true := fun v hv => by simp at hv; subst hv; rfl
  by_cases hroom : l.length + 1 ≤ cap
  ·refine step_append_room hgd s x 158 ho 156 i0 1 Tryz.underlying158 hi hz1 g 0 l.length cap hs ad 1 1 [u y] hx rfl hnews hone hroom (fun j hj => ?_) ?_
   ·have : j = 0 := by simpa using hj
    subst this
    constructor
    ·rw [cell_of_cells hh]; simp [show l.length < cur.size by omega]
    ·simp [World.frozen?, hh]
   ·have hw : w.setCells g (0 + l.length * 1) [u y] = w.setCell ⟨g, l.length, none⟩ (u y) := by simp [World.setCells]
    rw [hw]
    have hh2 : (w.setCell ⟨g, l.length, none⟩ (u y)).heap[g]? = some (.cells (cur.setIfInBounds l.length (u y)) 156 (0, 0)) := by simp [World.setCell, Array.getElem?_modify, hh]
    refine h _ _ ?_ ?_ ?_
    ·unfold OwnW
     rw [List.map_append, List.length_append]
     refine ⟨by simp [List.length_map], .inr ⟨g, cap, _, rfl, hg, hh2, hroom, hcm, by simpa using hcs, ?_⟩⟩
     rw [Nat.mul_one] at hct
     rw [Nat.mul_one]
     rw [Array.toList_setIfInBounds, show l.length + [y].length = l.length + 1 from rfl, List.take_add_one, List.take_set_of_le (Nat.le_refl l.length), hct, List.getElem?_set_self (by simp; omega)]
     rfl
    ·exact ⟨rfl, rfl, rfl, by simp [World.setCell], fun k _ hk => Below.heap_setCell _ _ _ _ (fun e => hk (by simp [e]))⟩
    ·intro j hj
     rw [cell_of_cells hh2, cell_of_cells hh, Array.getElem?_setIfInBounds_ne (by omega)]
  ·refine step_append_grows hgd s x 158 ho 156 i0 (.int .u32 0) 1 4 Tryz.underlying158 hi hz0 hz1 hz2 rfl (by decide) (some ⟨g, 0, none⟩) l.length cap (l.map u) hs (fun e => by cases e) (by simp) (fun b hb j v hj => ?_) ad 1 1 [u y] hx rfl hnews hone (by omega) (by unfold maxLen; omega) (by omega) fun v' w' h1 h2 => h v' w' ?_ ?_ ?_
   ·cases hb
    rw [show (⟨g, 0, none⟩ : Addr).add j = ⟨g, j, none⟩ by unfold Addr.add; split <;> simp_all, cell_of_cells hh, ← Array.getElem?_toList]
    have hjl : j < l.length := by simpa using (List.getElem?_eq_some_iff.1 hj).1
    rw [← hct, List.getElem?_take_of_lt (by omega)] at hj
    exact hj
   ·unfold OwnW
    rw [List.map_append, List.length_append]
    obtain ⟨h3, h4 | ⟨g2, c2, cur2, e2, hg2, hr2⟩⟩ := h1
    ·exact ⟨h3, .inl h4⟩
    ·exact ⟨h3, .inr ⟨g2, c2, cur2, e2, by omega, hr2⟩⟩
   ·exact ⟨h2.os, h2.tape, h2.output, h2.size, fun k hk _ => h2.block k hk (by simp)⟩
   ·intro j _
    exact World.cell?_of_block (w := w) (a := ⟨g, j, none⟩) (h2.block g hglt (by simp))
end
section
open Go.RowKit
@[go_sem] theorem shl8 (x : UInt32) (w : World) : (binOp .shl 156 (u x) (.int .u64 8)).run Tryz.prog w = .ok (u (x <<< 8)) w := shl_u x 8 (by decide) w
@[go_sem] theorem shl16 (x : UInt32) (w : World) : (binOp .shl 156 (u x) (.int .u64 16)).run Tryz.prog w = .ok (u (x <<< 16)) w := shl_u x 16 (by decide) w
@[go_sem] theorem shl24 (x : UInt32) (w : World) : (binOp .shl 156 (u x) (.int .u64 24)).run Tryz.prog w = .ok (u (x <<< 24)) w := shl_u x 24 (by decide) w
@[go_sem] theorem shr3 (x : UInt32) (w : World) : (binOp .shr 156 (u x) (.int .u64 3)).run Tryz.prog w = .ok (u (x >>> 3)) w := shr_u x 3 (by decide) w
@[go_sem] theorem shr10 (x : UInt32) (w : World) : (binOp .shr 156 (u x) (.int .u64 10)).run Tryz.prog w = .ok (u (x >>> 10)) w := shr_u x 10 (by decide) w
theorem sched_c (b o c : Nat) (l : List UInt8) (w : World) (hl : l.length = 64) (hA : BA w (some ⟨b, o, none⟩) l) :
  Calls Tryz.prog 98 #[.slice (some ⟨b, o, none⟩) 64 c] w fun e w' => ∃ v, e = .returned v ∧ OwnW w' w.heap.size v (sched (fnOf l)) ∧ Below w.heap.size w w' := by
 obtain ⟨i0, hi, hz0, hz1, hz2⟩ := info_parts info38
 have HA := Lib.hid hA
 have HL := Lib.hid hl
 clear hA hl
 go_enter Tryz.func98, Tryz.ntmps98
 go_wp2
 go_loopg [3, 4] 16 (fun gg out i wr => ∃ k : Nat, i = .int .i64 k ∧ k ≤ 16 ∧ 16 - k = gg ∧ OwnW wr w.heap.size out (words (fnOf l) k) ∧ Below w.heap.size w wr)
 case atStart => exact ⟨0, rfl, by omega, by omega, OwnW.nil w _, Below.refl _ _⟩
 case round =>
  obtain ⟨k, rfl, hk, rfl, hO, hB⟩ := hrel
  have HO := Lib.hid hO
  have HB := Lib.hid hB
  clear hO hB
  by_cases hlt : k < 16
  ·have cell : ∀ j, j < 4 → wr.cell? ⟨b, o + (4 * k + j), none⟩ = some (.int .u8 ((fnOf l (4 * k + j)).toNat)) := fun j hj => by
    obtain ⟨b2, o2, e, h⟩ := HA.out (4 * k + j) _ (fnOf_at (by rw [HL.out]; omega))
    cases e
    rw [HB.out.cell (lt_of_cell h)]; exact h
   have c0 := cell 0 (by decide)
   have c1 := cell 1 (by decide)
   have c2 := cell 2 (by decide)
   have c3 := cell 3 (by decide)
   rw [Nat.add_zero] at c0
   clear cell
   have hsz := HB.out.size
   have hlk : (words (fnOf l) k).length ≤ 64 := by rw [words_len]; omega
   obtain ⟨x0, hx0⟩ : ∃ x, x = fnOf l (4 * k) := ⟨_, rfl⟩
   obtain ⟨x1, hx1⟩ : ∃ x, x = fnOf l (4 * k + 1) := ⟨_, rfl⟩
   obtain ⟨x2, hx2⟩ : ∃ x, x = fnOf l (4 * k + 2) := ⟨_, rfl⟩
   obtain ⟨x3, hx3⟩ : ∃ x, x = fnOf l (4 * k + 3) := ⟨_, rfl⟩
   rw [← hx0] at c0
   rw [← hx1] at c1
   rw [← hx2] at c2
   rw [← hx3] at c3
   have HX : Hid (words (fnOf l) (k + 1) = words (fnOf l) k ++ [x0.toUInt32 <<< 24 ||| x1.toUInt32 <<< 16 ||| x2.toUInt32 <<< 8 ||| x3.toUInt32]) := by
    show words _ _ = _
    rw [words_succ, hx0, hx1, hx2, hx3]; rfl
   clear hx0 hx1 hx2 hx3
   have w0 : IntKind.i64.wrap (4 * (k : Int)) = 4 * (k : Int) := IntWalk.i64_in _ (by omega)
   have p0 : (0 : Int) ≤ 4 * (k : Int) := by omega
   have q0 : 4 * (k : Int) < (64 : Int) := by omega
   have n0 : (4 * (k : Int)).toNat = 4 * k := by omega
   have w1 : IntKind.i64.wrap (4 * (k : Int) + 1) = 4 * (k : Int) + 1 := IntWalk.i64_in _ (by omega)
   have p1 : (0 : Int) ≤ 4 * (k : Int) + 1 := by omega
   have q1 : 4 * (k : Int) + 1 < (64 : Int) := by omega
   have n1 : (4 * (k : Int) + 1).toNat = 4 * k + 1 := by omega
   have w2 : IntKind.i64.wrap (4 * (k : Int) + 2) = 4 * (k : Int) + 2 := IntWalk.i64_in _ (by omega)
   have p2 : (0 : Int) ≤ 4 * (k : Int) + 2 := by omega
   have q2 : 4 * (k : Int) + 2 < (64 : Int) := by omega
   have n2 : (4 * (k : Int) + 2).toNat = 4 * k + 2 := by omega
   have w3 : IntKind.i64.wrap (4 * (k : Int) + 3) = 4 * (k : Int) + 3 := IntWalk.i64_in _ (by omega)
   have p3 : (0 : Int) ≤ 4 * (k : Int) + 3 := by omega
   have q3 : 4 * (k : Int) + 3 < (64 : Int) := by omega
   have n3 : (4 * (k : Int) + 3).toNat = 4 * k + 3 := by omega
   have hbw : b < w.heap.size := by
    obtain ⟨b2, o2, e, h⟩ := HA.out 0 _ (fnOf_at (by rw [HL.out]; omega))
    cases e
    exact lt_of_cell h
   have hblt : b < wr.heap.size := lt_of_cell c0
   have d0 : ∀ ob, (wr.alloc ob).cell? ⟨b, o + 4 * k, none⟩ = some (.int .u8 (x0.toNat : Int)) := fun ob => by rw [World.cell?_alloc_lt _ _ ⟨b, _, none⟩ hblt]; exact c0
   have d1 : ∀ ob, (wr.alloc ob).cell? ⟨b, o + (4 * k + 1), none⟩ = some (.int .u8 (x1.toNat : Int)) := fun ob => by rw [World.cell?_alloc_lt _ _ ⟨b, _, none⟩ hblt]; exact c1
   have d2 : ∀ ob, (wr.alloc ob).cell? ⟨b, o + (4 * k + 2), none⟩ = some (.int .u8 (x2.toNat : Int)) := fun ob => by rw [World.cell?_alloc_lt _ _ ⟨b, _, none⟩ hblt]; exact c2
   have d3 : ∀ ob, (wr.alloc ob).cell? ⟨b, o + (4 * k + 3), none⟩ = some (.int .u8 (x3.toNat : Int)) := fun ob => by rw [World.cell?_alloc_lt _ _ ⟨b, _, none⟩ hblt]; exact c3
   go_wp2_with fail
   go_region_held3 (fun w' => w'.cell? ⟨b, o + 4 * k, none⟩ = some (.int .u8 (x0.toNat : Int)) ∧ w'.cell? ⟨b, o + (4 * k + 1), none⟩ = some (.int .u8 (x1.toNat : Int)) ∧ w'.cell? ⟨b, o + (4 * k + 2), none⟩ = some (.int .u8 (x2.toNat : Int)) ∧ w'.cell? ⟨b, o + (4 * k + 3), none⟩ = some (.int .u8 (x3.toNat : Int))) ((first | exact ⟨c0, c1, c2, c3⟩ | exact ⟨d0 _, d1 _, d2 _, d3 _⟩ | (refine ⟨?_, ?_, ?_, ?_⟩ <;> assumption))) ((refine step_append_lies _ (by rfl) _ _ _ (by rfl) w.heap.size 156 i0 (.int .u32 0) 1 4 Tryz.underlying158 hi hz0 hz1 hz2 rfl (by omega) u3 (words (fnOf l) k).length ((words (fnOf l) k).map u) (by rfl) ((HO.out.alloc _).drew) ⟨wr.heap.size, 0, none⟩ 1 1 [u (x0.toUInt32 <<< 24 ||| x1.toUInt32 <<< 16 ||| x2.toUInt32 <<< 8 ||| x3.toUInt32)] (by rfl) (by rfl) (World.news_of_block (cs := #[u (x0.toUInt32 <<< 24 ||| x1.toUInt32 <<< 16 ||| x2.toUInt32 <<< 8 ||| x3.toUInt32)]) (t := 156) (fr := (0, 0)) (heap_alloc_new wr _)) (by simp [u_one]) (by omega) (by unfold maxLen; omega) (by omega) (by simp; omega) (wr.heap.size + 1) (by simp) ?_; intro gg cap w1 hown1 hgrow hat hlt1; have hb1 := (Below.refl w.heap.size _).grown hgrow (by simp; omega) HO.out.ge; have e0 := (hb1.cell (p := ⟨b, o + 4 * k, none⟩) hbw).trans (d0 _); have e1 := (hb1.cell (p := ⟨b, o + (4 * k + 1), none⟩) hbw).trans (d1 _); have e2 := (hb1.cell (p := ⟨b, o + (4 * k + 2), none⟩) hbw).trans (d2 _); have e3 := (hb1.cell (p := ⟨b, o + (4 * k + 3), none⟩) hbw).trans (d3 _)))
   have HO1 : Hid (OwnW w1 w.heap.size (.slice (some ⟨gg, 0, none⟩) ((words (fnOf l) k).length + 1) cap) (words (fnOf l) (k + 1))) := by
    show OwnW _ _ _ _
    unfold OwnW
    rw [HX.out, List.map_append, List.length_append]
    exact hown1
   have HB1 : Hid (Below w.heap.size w w1) := ((HB.out.alloc hsz _).drew).grown hgrow (by simp; omega) HO.out.ge
   clear hown1 hgrow hat hlt1 hb1 e0 e1 e2 e3 d0 d1 d2 d3 c0 c1 c2 c3
   go_wp2
   go_roundg (16 - (k + 1))
   case measure => omega
   case rel => exact ⟨k + 1, by go_num, by omega, rfl, HO1.out, HB1.out⟩
  ·have hkk : k = 16 := by omega
   subst hkk
   have HO16 := HO
   clear HO
   go_wp2_with fail
   go_loopg [3, 5] 48 (fun gg out i w2 => ∃ k : Nat, i = .int .i64 k ∧ 16 ≤ k ∧ k ≤ 64 ∧ 64 - k = gg ∧ OwnW w2 w.heap.size out (grow (words (fnOf l) 16) (k - 16)) ∧ Below w.heap.size w w2)
   case atStart => exact ⟨16, rfl, by omega, by omega, by omega, HO16.out, HB.out⟩
   case round =>
    obtain ⟨k, rfl, hk1, hk2, rfl, hO, hB2⟩ := hrel
    obtain ⟨L, hL⟩ : ∃ L, L = grow (words (fnOf l) 16) (k - 16) := ⟨_, rfl⟩
    rw [← hL] at hO
    have hLl : L.length = k := by rw [hL, grow_len, words_len]; omega
    have HO := Lib.hid hO
    have HB2 := Lib.hid hB2
    have HL2 := Lib.hid hL
    obtain ⟨A', c', rfl, hcc, hW⟩ := hO.row
    rw [hLl] at hcc ⊢
    clear hO hB2 hL
    by_cases hlt : k < 64
    ·have hx : ∀ d, d < 17 → 0 < d → ∃ g, A' = some ⟨g, 0, none⟩ ∧ wr.cell? ⟨g, k - d, none⟩ = some (u (L.getD (k - d) 0)) := fun d h1 h2 => by
      have : L[k - d]? = some (L.getD (k - d) 0) := by simp [List.getD, List.getElem?_eq_getElem (show k - d < L.length by omega)]
      exact hW (k - d) _ this
     obtain ⟨g, rfl, c16⟩ := hx 16 (by decide) (by decide)
     have c15 : wr.cell? ⟨g, k - 15, none⟩ = some (u (L.getD (k - 15) 0)) := by
      obtain ⟨g2, e, h⟩ := hx 15 (by decide) (by decide)
      cases e; exact h
     have c7 : wr.cell? ⟨g, k - 7, none⟩ = some (u (L.getD (k - 7) 0)) := by
      obtain ⟨g2, e, h⟩ := hx 7 (by decide) (by decide)
      cases e; exact h
     have c2 : wr.cell? ⟨g, k - 2, none⟩ = some (u (L.getD (k - 2) 0)) := by
      obtain ⟨g2, e, h⟩ := hx 2 (by decide) (by decide)
      cases e; exact h
     clear hx hW
     obtain ⟨X16, h16⟩ : ∃ x, x = L.getD (k - 16) 0 := ⟨_, rfl⟩
     obtain ⟨X15, h15⟩ : ∃ x, x = L.getD (k - 15) 0 := ⟨_, rfl⟩
     obtain ⟨X7, h7⟩ : ∃ x, x = L.getD (k - 7) 0 := ⟨_, rfl⟩
     obtain ⟨X2, h2⟩ : ∃ x, x = L.getD (k - 2) 0 := ⟨_, rfl⟩
     rw [← h16] at c16
     rw [← h15] at c15
     rw [← h7] at c7
     rw [← h2] at c2
     have HX : Hid (grow (words (fnOf l) 16) (k + 1 - 16) = L ++ [X16 + (rotrI X15 7 ^^^ rotrI X15 18 ^^^ X15 >>> 3) + X7 + (rotrI X2 17 ^^^ rotrI X2 19 ^^^ X2 >>> 10)]) := by
      show grow _ _ = _
      rw [show k + 1 - 16 = (k - 16) + 1 by omega, grow, ← HL2.out]
      unfold ext sg0 sg1
      rw [hLl, ← h16, ← h15, ← h7, ← h2]
      rfl
     have HOk : Hid (OwnW wr w.heap.size (.slice (some ⟨g, 0, none⟩) k c') L) := by
      have := HO.out
      rw [hLl] at this
      exact this
     clear h16 h15 h7 h2
     have w16 : IntKind.i64.wrap ((k : Int) - 16) = (k : Int) - 16 := IntWalk.i64_in _ (by omega)
     have p16 : (0 : Int) ≤ (k : Int) - 16 := by omega
     have q16 : (k : Int) - 16 < (k : Int) := by omega
     have r16 : (16 : Int) ≤ (k : Int) := by omega
     have s16 : k - 16 < k := by omega
     have n16 : ((k : Int) - 16).toNat = k - 16 := by omega
     have w15 : IntKind.i64.wrap ((k : Int) - 15) = (k : Int) - 15 := IntWalk.i64_in _ (by omega)
     have p15 : (0 : Int) ≤ (k : Int) - 15 := by omega
     have q15 : (k : Int) - 15 < (k : Int) := by omega
     have r15 : (15 : Int) ≤ (k : Int) := by omega
     have s15 : k - 15 < k := by omega
     have n15 : ((k : Int) - 15).toNat = k - 15 := by omega
     have w7 : IntKind.i64.wrap ((k : Int) - 7) = (k : Int) - 7 := IntWalk.i64_in _ (by omega)
     have p7 : (0 : Int) ≤ (k : Int) - 7 := by omega
     have q7 : (k : Int) - 7 < (k : Int) := by omega
     have r7 : (7 : Int) ≤ (k : Int) := by omega
     have s7 : k - 7 < k := by omega
     have n7 : ((k : Int) - 7).toNat = k - 7 := by omega
     have w2 : IntKind.i64.wrap ((k : Int) - 2) = (k : Int) - 2 := IntWalk.i64_in _ (by omega)
     have p2 : (0 : Int) ≤ (k : Int) - 2 := by omega
     have q2 : (k : Int) - 2 < (k : Int) := by omega
     have r2 : (2 : Int) ≤ (k : Int) := by omega
     have s2 : k - 2 < k := by omega
     have n2 : ((k : Int) - 2).toNat = k - 2 := by omega
     have d16 : ∀ ob, (wr.alloc ob).cell? ⟨g, k - 16, none⟩ = some (u X16) := fun ob => by rw [World.cell?_alloc_lt _ _ ⟨g, _, none⟩ (lt_of_cell c16)]; exact c16
     have d7 : ∀ ob, (wr.alloc ob).cell? ⟨g, k - 7, none⟩ = some (u X7) := fun ob => by rw [World.cell?_alloc_lt _ _ ⟨g, _, none⟩ (lt_of_cell c7)]; exact c7
     have hsz2 := HB2.out.size
     go_wp2_with fail
     go_region_held3 (fun w' => w'.cell? ⟨g, k - 16, none⟩ = some (u X16) ∧ w'.cell? ⟨g, k - 7, none⟩ = some (u X7)) ((first | exact ⟨c16, c7⟩ | exact ⟨d16 _, d7 _⟩ | (refine ⟨?_, ?_⟩ <;> assumption))) ((first | (go_at_call 99; (first | (with_reducible refine (turn_any _ 7 (by decide) _).mono ?_) | (with_reducible refine (turn_any _ 18 (by decide) _).mono ?_) | (with_reducible refine (turn_any _ 17 (by decide) _).mono ?_) | (with_reducible refine (turn_any _ 19 (by decide) _).mono ?_)); rintro e w' ⟨rfl, rfl⟩) | (refine step_push_u (by rfl) _ _ (by rfl) w.heap.size g k c' L hLl (by rfl) ((HOk.out.below ((Below.refl wr.heap.size wr).alloc (Nat.le_refl _) _)).drew) ⟨wr.heap.size, 0, none⟩ (X16 + (rotrI X15 7 ^^^ rotrI X15 18 ^^^ X15 >>> 3) + X7 + (rotrI X2 17 ^^^ rotrI X2 19 ^^^ X2 >>> 10)) (by rfl) (by simp) (by omega) ?_; intro v1 w1 hown1 hgrow hold; have e16 := (hold (k - 16) (by omega)).trans (d16 _); have e7 := (hold (k - 7) (by omega)).trans (d7 _))))
     rw [← HX.out] at hown1
     have HO1 := Lib.hid hown1
     have HB1 : Hid (Below w.heap.size w w1) := ((HB2.out.alloc hsz2 _).drew).grown hgrow (by simp; omega) (fun q hq => by cases hq; exact HO.out.ge _ rfl)
     clear hown1 hgrow hold e16 e7 d16 d7 c16 c15 c7 c2
     go_wp2
     go_roundg (64 - (k + 1))
     case measure => omega
     case rel => exact ⟨k + 1, by go_num, by omega, by omega, rfl, HO1.out, HB1.out⟩
    ·have hkk : k = 64 := by omega
     subst hkk
     rw [hLl] at HO
     have HS : Hid (L = sched (fnOf l)) := HL2.out
     clear hW hcc
     go_wp2_with fail
     go_ret
     refine ⟨_, rfl, ?_, HB2.out⟩
     rw [← HS.out]
     exact HO.out
end
section
open Go.RowKit
def padN (l : List UInt8) (j : Nat) : List UInt8 := padZ l (zeros l.length) ++ (be64 (8 * l.length)).take j
theorem padN_len (l : List UInt8) (j : Nat) (h : j ≤ 8) : (padN l j).length = l.length + 1 + zeros l.length + j := by
 unfold padN; rw [List.length_append, padZ_len, List.length_take]; simp [be64]; omega
theorem padN_succ (l : List UInt8) (j : Nat) (h : j < 8) : padN l (j + 1) = padN l j ++ [UInt8.ofNat (8 * l.length / 2 ^ (56 - 8 * j))] := by
 unfold padN
 rw [List.take_add_one, List.append_assoc]
 congr 2
 unfold be64
 rw [List.getElem?_map, List.getElem?_range h]
 rfl
theorem padN_end (l : List UInt8) : padN l 8 = padL l := by
 unfold padN padZ padL
 rw [List.take_of_length_le (by simp [be64])]
 simp
theorem zeros_go (n z : Nat) (h : z < zeros n) : (n + 1 + z) % 64 ≠ 56 := by unfold zeros at h; omega
theorem zeros_end (n : Nat) : (n + 1 + zeros n) % 64 = 56 := by unfold zeros; omega
theorem zeros_lt (n : Nat) : zeros n < 64 := by unfold zeros; omega
theorem pad_c (A : Option Addr) (c : Nat) (l : List UInt8) (w : World) (hA : BA w A l) (hl : l.length ≤ 1000000000) :
  Calls Tryz.prog 97 #[.slice A l.length c] w fun e w' => ∃ v, e = .returned v ∧ OwnB w' w.heap.size v (padL l) ∧ Below w.heap.size w w' := by
 have hB0 : Below w.heap.size w (w.alloc (.cells #[] 5)) := (Below.refl _ _).alloc (Nat.le_refl _) _
 have hO0 : OwnB (w.alloc (.cells #[] 5)) w.heap.size (.slice (some ⟨w.heap.size, 0, none⟩) 0 0) [] := World.ownsRow_made w #[] 0 (Nat.le_refl _) (by unfold maxLen; omega) rfl
 have HA := Lib.hid (hA.below hB0)
 have HB0 := Lib.hid hB0
 have HO0 := Lib.hid hO0
 have hzl := zeros_lt l.length
 clear hA hB0 hO0
 ·go_enter Tryz.func97, Tryz.ntmps97
  go_wp2_with (first | (at_builtin; refine wpList_catB0 rfl _ _ rfl w.heap.size w.heap.size 0 [] rfl (Nat.le_refl _) HO0.out A c l rfl HA.out (by simp; omega) (by simp) ?_; intro v1 w1 hO1 hB1; have HO1 := Lib.hid hO1; have HB1 := Lib.hid (HB0.out.trans hB1); clear hO1 hB1) | (at_builtin; refine wpList_pushB rfl _ _ rfl w.heap.size _ _ rfl (OwnB.below HO1.out ((Below.refl _ _).alloc (Nat.le_refl _) _)) w1.heap.size 128 rfl (by simp; rfl) (by simp; omega) (by have := HB1.out.size; simp; omega) ?_; intro v2 w2 hO2 hB2; have HO2 := Lib.hid hO2; have HB2 := Lib.hid ((HB1.out.alloc HB1.out.size _).trans hB2); clear hO2 hB2))
  go_loopg [3] (zeros l.length) (fun gg out wr => ∃ z : Nat, z ≤ zeros l.length ∧ zeros l.length - z = gg ∧ OwnB wr w.heap.size out (padZ l z) ∧ Below w.heap.size w wr)
  case atStart => exact ⟨0, by omega, by omega, by simpa [padZ] using HO2.out, HB2.out⟩
  case round =>
   obtain ⟨z, hz, rfl, hO, hB⟩ := hrel
   have HO := Lib.hid hO
   have HB := Lib.hid hB
   obtain ⟨A3, c3, rfl⟩ := hO.len
   rw [padZ_len] at HO ⊢
   clear hO hB
   by_cases hlt : z < zeros l.length
   ·have hc := zeros_go l.length z hlt
    have hd : ((((l.length + 1 + z : Nat) : Int) % 64) == 56) = false := by
     rw [beq_eq_false_iff_ne]; omega
    have HC := Lib.hid hc
    clear hc
    go_wp2_with (at_builtin; refine wpList_pushB rfl _ _ rfl w.heap.size _ _ rfl (OwnB.below HO.out ((Below.refl _ _).alloc (Nat.le_refl _) _)) wr.heap.size 0 rfl (by simp; rfl) (by rw [padZ_len]; omega) (by have := HB.out.size; simp; omega) ?_; intro v4 w4 hO4 hB4; have HO4 := Lib.hid hO4; have HB4 := Lib.hid ((HB.out.alloc HB.out.size _).trans hB4); clear hO4 hB4)
    go_roundg (zeros l.length - (z + 1))
    case measure => omega
    case rel => exact ⟨z + 1, by omega, rfl, by rw [padZ_succ]; exact HO4.out, HB4.out⟩
   ·have hzz : z = zeros l.length := by omega
    subst hzz
    have hc := zeros_end l.length
    have hd2 : (((l.length : Int) + 1 + (zeros l.length : Int)) % 64 != 56) = false := by
     rw [bne_eq_false_iff_eq]; omega
    have HO2' : Hid (OwnB wr w.heap.size (.slice A3 (l.length + 1 + zeros l.length) c3) (padN l 0)) := by
     have := HO.out
     show OwnB _ _ _ _
     unfold padN
     rw [List.take_zero, List.append_nil]
     exact this
    clear hc
    go_wp2_with fail
    go_loopg [3, 5] 9 (fun gg out i w5 => ∃ j : Nat, j ≤ 8 ∧ i = .int .i64 (56 - 8 * (j : Int)) ∧ 9 - j = gg ∧ OwnB w5 w.heap.size out (padN l j) ∧ Below w.heap.size w w5)
    case atStart => exact ⟨0, by omega, rfl, rfl, HO2'.out, HB.out⟩
    case round =>
     obtain ⟨j, hj, rfl, rfl, hO5, hB5⟩ := hrel
     have HO5 := Lib.hid hO5
     have HB5 := Lib.hid hB5
     clear hO5 hB5
     by_cases hlt2 : j < 8
     ·obtain ⟨M, hM⟩ : ∃ M, M = 8 * l.length / 2 ^ (56 - 8 * j) := ⟨_, rfl⟩
      have HV : Hid (Value.int .u8 ((l.length : Int) * 8 / 2 ^ (56 - 8 * j) % 256) = bv (UInt8.ofNat M)) := by
       show _ = bv _
       unfold bv
       congr 1
       rw [hM]
       have e : (l.length : Int) * 8 / 2 ^ (56 - 8 * j) = ((8 * l.length / 2 ^ (56 - 8 * j) : Nat) : Int) := by
        rw [show (l.length : Int) * 8 = ((8 * l.length : Nat) : Int) by omega]; simp
       rw [e]
       simp
      have HM := Lib.hid hM
      have p0 : (0 : Int) ≤ 56 - 8 * (j : Int) := by omega
      clear hM
      go_wp2_with (at_builtin; refine wpList_pushB rfl _ _ rfl w.heap.size _ _ rfl (OwnB.below HO5.out ((Below.refl _ _).alloc (Nat.le_refl _) _)) wr.heap.size (UInt8.ofNat M) rfl (by simp; exact HV.out) (by rw [padN_len _ _ hj]; omega) (by have := HB5.out.size; simp; omega) ?_; intro v6 w6 hO6 hB6; have HO6 := Lib.hid hO6; have HB6 := Lib.hid ((HB5.out.alloc HB5.out.size _).trans hB6); clear hO6 hB6)
      go_roundg (9 - (j + 1))
      case measure => omega
      case rel =>
       refine ⟨j + 1, by omega, ?_, rfl, ?_, HB6.out⟩
       ·congr 1; omega
       ·rw [padN_succ l j hlt2, ← HM.out]; exact HO6.out
     ·have hjj : j = 8 := by omega
      subst hjj
      rw [padN_end] at HO5
      go_wp2_with fail
      go_ret
      exact ⟨_, rfl, HO5.out, HB5.out⟩
end
section
def acc (b : Nat → UInt8) (t : Nat) : Nat → UInt32
 | 0 => 0
 | k + 1 => (acc b t k <<< 8) ||| (b (4 * t + k)).toUInt32
def accw (b : Nat → UInt8) (n t : Nat) : UInt32 := acc b t (min 4 (n - 4 * t))
theorem accw_zero (b : Nat → UInt8) (t : Nat) : accw b 0 t = 0 := by simp [accw, acc]
theorem accw_here (b : Nat → UInt8) (n : Nat) : accw b (n + 1) (n / 4) = (accw b n (n / 4) <<< 8) ||| (b n).toUInt32 := by
 unfold accw
 rw [show min 4 (n + 1 - 4 * (n / 4)) = n % 4 + 1 by omega, show min 4 (n - 4 * (n / 4)) = n % 4 by omega, acc, show 4 * (n / 4) + n % 4 = n by omega]
theorem accw_other (b : Nat → UInt8) (n t : Nat) (h : t ≠ n / 4) : accw b (n + 1) t = accw b n t := by
 unfold accw
 congr 1
 omega
theorem word_bits (a b c d : UInt32) : (((((((0 : UInt32) <<< 8) ||| a) <<< 8) ||| b) <<< 8 ||| c) <<< 8) ||| d = (a <<< 24) ||| (b <<< 16) ||| (c <<< 8) ||| d := by
 apply UInt32.eq_of_toBitVec_eq
 simp only [UInt32.toBitVec_or, UInt32.toBitVec_shiftLeft]
 apply BitVec.eq_of_getLsbD_eq
 intro i hi
 simp [BitVec.getLsbD_or, BitVec.getLsbD_shiftLeft]
 by_cases h1 : i < 8
 ·simp [h1, show i < 16 by omega, show i < 24 by omega]
 ·by_cases h2 : i < 16
  ·simp [h1, h2, show i < 24 by omega, show i - 8 < 8 by omega]
  ·by_cases h3 : i < 24
   ·simp [h1, h2, h3, show ¬ i - 8 < 8 by omega, show i - 16 < 8 by omega, show i - 8 - 8 = i - 16 by omega, hi, show i - 8 < 32 by omega]
   ·simp [h1, h2, h3, show ¬ i - 8 < 8 by omega, show ¬ i - 16 < 8 by omega, show i - 8 - 8 = i - 16 by omega, show i - 16 - 8 = i - 24 by omega, hi, show i - 8 < 32 by omega, show i - 16 < 32 by omega]
theorem accw_end (b : Nat → UInt8) (t : Nat) (h : t < 16) : accw b 64 t = word b t := by
 unfold accw
 rw [show min 4 (64 - 4 * t) = 4 by omega]
 simp only [acc, word, be32]
 exact word_bits _ _ _ _
def sw (b : Nat → UInt8) (t : Nat) : UInt32 := (sched b).getD t 0
theorem grow_get (w : List UInt32) (k t : Nat) (h : t < w.length) : (grow w k).getD t 0 = w.getD t 0 := by
 induction k with
 | zero => rfl
 | succ k ih =>
  rw [grow]
  have := grow_len w k
  simp only [List.getD_eq_getElem?_getD] at ih ⊢
  rw [List.getElem?_append_left (by omega)]; exact ih
theorem grow_add (w : List UInt32) (j k : Nat) : grow w (j + k) = grow (grow w j) k := by
 induction k with
 | zero => rfl
 | succ k ih => rw [Nat.add_succ, grow, grow, ih]
theorem sw_early (b : Nat → UInt8) (k t : Nat) (hk : k ≤ 48) (h : t < 16 + k) : (grow (words b 16) k).getD t 0 = sw b t := by
 unfold sw sched
 rw [show 48 = k + (48 - k) by omega, grow_add, grow_get _ (48 - k) t (by rw [grow_len, words_len]; omega)]
theorem sw_word (b : Nat → UInt8) (t : Nat) (h : t < 16) : sw b t = word b t := by
 rw [← sw_early b 0 t (by omega) (by omega)]
 simp [grow, words, List.getD_eq_getElem?_getD, h]
theorem sw_step (b : Nat → UInt8) (i : Nat) (h : 16 ≤ i) (h2 : i < 64) : sw b i = sw b (i - 16) + sg0 (sw b (i - 15)) + sw b (i - 7) + sg1 (sw b (i - 2)) := by
 have hl : (grow (words b 16) (i - 16)).length = i := by rw [grow_len, words_len]; omega
 rw [← sw_early b (i - 16 + 1) i (by omega) (by omega), grow, List.getD_eq_getElem?_getD, List.getElem?_append_right (by omega), hl]
 simp only [Nat.sub_self, List.getElem?_cons_zero, Option.getD_some, ext, hl]
 rw [sw_early b _ _ (by omega) (by omega), sw_early b _ _ (by omega) (by omega), sw_early b _ _ (by omega) (by omega), sw_early b _ _ (by omega) (by omega)]
def beN (n X : Nat) : List UInt8 := (List.range n).map fun j => UInt8.ofNat (X / 2 ^ (8 * (n - 1 - j)))
theorem beN_len (n X : Nat) : (beN n X).length = n := by simp [beN]
theorem beN_at (n X j : Nat) (h : j < n) : (beN n X).getD j 0 = UInt8.ofNat (X / 2 ^ (8 * (n - 1 - j))) := by simp [beN, List.getD_eq_getElem?_getD, h]
theorem be64_eq (n : Nat) : be64 n = beN 8 n := by
 unfold be64 beN
 refine List.map_congr_left fun j hj => ?_
 have : j < 8 := by simpa using hj
 rw [show 56 - 8 * j = 8 * (8 - 1 - j) by omega]
theorem words_congr (f g : Nat → UInt8) (h : ∀ t, t < 64 → f t = g t) : words f 16 = words g 16 := by
 unfold words
 refine List.map_congr_left fun i hi => ?_
 have : i < 16 := by simpa using hi
 unfold word
 rw [h (4 * i) (by omega), h (4 * i + 1) (by omega), h (4 * i + 2) (by omega), h (4 * i + 3) (by omega)]
theorem blk_congr (s : S8) (f g : Nat → UInt8) (h : ∀ t, t < 64 → f t = g t) : blk s f = blk s g := by
 unfold blk sched
 rw [words_congr f g h]
theorem blks_congr (p q : List UInt8) (m : Nat) (h : ∀ t, t < 64 * m → p.getD t 0 = q.getD t 0) : blks p m = blks q m := by
 induction m with
 | zero => rfl
 | succ m ih =>
  rw [blks, blks, ih (fun t ht => h t (by omega))]
  exact blk_congr _ _ _ fun t ht => h _ (by omega)
def stOf (T : List UInt8) : S8 := blks T (T.length / 64)
def left (T : List UInt8) : List UInt8 := T.drop (64 * (T.length / 64))
theorem left_len (T : List UInt8) : (left T).length = T.length % 64 := by simp [left]; omega
theorem getD_app (T r : List UInt8) (t : Nat) (h : t < T.length) : (T ++ r).getD t 0 = T.getD t 0 := by
 simp only [List.getD_eq_getElem?_getD]
 rw [List.getElem?_append_left h]
theorem st_part (T r : List UInt8) (h : T.length % 64 + r.length < 64) : stOf (T ++ r) = stOf T ∧ left (T ++ r) = left T ++ r := by
 have e : (T ++ r).length / 64 = T.length / 64 := by rw [List.length_append]; omega
 unfold stOf left
 rw [e]
 refine ⟨blks_congr _ _ _ fun t ht => getD_app T r t (by omega), ?_⟩
 rw [List.drop_append_of_le_length (by omega)]
theorem st_full (T r : List UInt8) (h : T.length % 64 + r.length = 64) : stOf (T ++ r) = blk (stOf T) (fun t => (left T ++ r).getD t 0) ∧ left (T ++ r) = [] := by
 have e : (T ++ r).length / 64 = T.length / 64 + 1 := by rw [List.length_append]; omega
 unfold stOf
 constructor
 ·rw [e, blks, blks_congr (T ++ r) T _ fun t ht => getD_app T r t (by omega)]
  refine blk_congr _ _ _ fun t _ => ?_
  unfold left
  rw [← List.drop_append_of_le_length (by omega : 64 * (T.length / 64) ≤ T.length)]
  simp [List.getD_eq_getElem?_getD, List.getElem?_drop]
 ·unfold left
  rw [e]
  apply List.drop_eq_nil_of_le
  rw [List.length_append]; omega
def padTail (n : Nat) : List UInt8 := 128 :: (List.replicate (zeros n) 0 ++ beN 8 (8 * n))
theorem padL_eq (b : List UInt8) : padL b = b ++ padTail b.length := by unfold padL padTail; rw [be64_eq]
theorem padTail_len (n : Nat) : (padTail n).length = 64 * ((n + 72) / 64) - n := by
 unfold padTail zeros
 simp [beN_len]; omega
theorem sumL_eq (b : List UInt8) : sumL b = outB (stOf (padL b)) := rfl
end
end Go.Proofs.YtmfbhohjpkmllaaGreatDoor
