import Derived.Test.YtjgdindjimbfeaaGreatDoorRows
import Derived.WalkKit
import Derived.Lib.Hide
import Derived.WalkLawsBesides
import Derived.WalkSpells
import Derived.BigQuiet
import Derived.Deep.LoopGhost
import Derived.Below
import Derived.Deep.QuietTactic
import Derived.Outline
import Derived.Laws.AppendOwn
import Derived.Deep.OwnRows
import Derived.Lib.ItoaNum
import Derived.LaidEql
import Derived.Stop.Asserts
import Derived.Laws.Externs
import Derived.RowKitTokens
set_option linter.unusedSimpArgs false
set_option linter.unusedVariables false
set_option maxHeartbeats 4000000
set_option maxRecDepth 100000
namespace Go.Proofs.YtjgdindjimbfeaaGreatDoor.Ft
open Go.RowKit
structure Fr where
 b : Nat
 op : ByteArray
 n : Int
def Fr.p (f : Fr) : Value := .pointer (some ⟨f.b, 0, none⟩)
def Chain (w : World) (leaf : Value) : List Fr → Value → Prop
 | [], v => v = leaf
 | f :: r, v => v = .iface 92 (.pointer (some ⟨f.b, 0, none⟩)) ∧ ∃ v', w.heap[f.b]? = some (.cells #[.string f.op, .int .i64 f.n, v'] 95 (0, 0)) ∧ Chain w leaf r v'
theorem lt_of_heap {w : World} {b : Nat} {o : Obj} (h : w.heap[b]? = some o) : b < w.heap.size := by
 rcases Nat.lt_or_ge b w.heap.size with h' | h'
 ·exact h'
 ·rw [Array.getElem?_eq_none h'] at h; cases h
theorem cell_of_cells {w : World} {b : Nat} {cs : Array Value} {T : TypeId} {fr : Nat × Nat} (hb : w.heap[b]? = some (.cells cs T fr)) (j : Nat) : w.cell? ⟨b, j, none⟩ = cs[j]? := by
 simp [World.cell?, hb]
theorem Chain.below {w w' : World} {leaf : Value} (hb : Below w.heap.size w w') : ∀ {fs : List Fr} {v : Value}, Chain w leaf fs v → Chain w' leaf fs v
 | [], _, h => h
 | f :: r, v, h => by
  obtain ⟨h1, v', h2, h3⟩ := h
  exact ⟨h1, v', by rw [hb.block _ (lt_of_heap h2)]; exact h2, Chain.below hb h3⟩
theorem Chain.iface {w : World} {t : TypeId} {x : Value} {fs : List Fr} {v : Value} (h : Chain w (.iface t x) fs v) : ∃ u y, v = .iface u y := by
 cases fs with
 | nil => exact ⟨t, x, h⟩
 | cons f r => exact ⟨_, _, h.1⟩
theorem lt_of_cell {w : World} {a : Addr} {v : Value} (h : w.cell? a = some v) : a.block < w.heap.size := by
 rcases Nat.lt_or_ge a.block w.heap.size with h' | h'
 ·exact h'
 ·simp [World.cell?, Array.getElem?_eq_none h'] at h
theorem ret_bool {a b : Bool} (h : a = b) : Ending.returned (.bool a) = .returned (.bool b) := by rw [h]
theorem below_drewN {B : Nat} {a w : World} (h : Below B a w) (n : Nat) : Below B a (w.drewN n) := ⟨h.os, h.tape, h.output, h.size, h.block⟩
@[go_sem] theorem ta44_hit (v : Value) (w : World) : (Instr.typeAssert (.iface 92 v) 38 92 true).run Tryz.prog w = .ok (.tuple #[v, .bool true]) w := by kernel_rfl
@[go_sem] theorem ta44_nil (w : World) : (Instr.typeAssert .nilIface 38 92 true).run Tryz.prog w = .ok (.tuple #[.pointer none, .bool false]) w := by kernel_rfl
@[go_sem] theorem ta44_errno (v : Value) (w : World) : (Instr.typeAssert (.iface 33 v) 38 92 true).run Tryz.prog w = .ok (.tuple #[.pointer none, .bool false]) w := by kernel_rfl
@[go_sem] theorem ta31_hit (v : Value) (w : World) : (Instr.typeAssert (.iface 33 v) 38 33 true).run Tryz.prog w = .ok (.tuple #[v, .bool true]) w := by kernel_rfl
@[go_sem] theorem ta31_nil (w : World) : (Instr.typeAssert .nilIface 38 33 true).run Tryz.prog w = .ok (.tuple #[.int .i64 0, .bool false]) w := by kernel_rfl
theorem unwrap_c (b : Nat) (s n v' : Value) (w : World) (h : w.heap[b]? = some (.cells #[s, n, v'] 95 (0, 0))) :
  Calls Tryz.prog 114 #[.pointer (some ⟨b, 0, none⟩)] w fun e w' => e = .returned v' ∧ w = w' := by
 have h2 : w.cell? ⟨b, 2, none⟩ = some v' := by rw [cell_of_cells h]; rfl
 clear h
 go_enter Tryz.func114, Tryz.ntmps114
 go_wp2
 go_ret
 exact ⟨rfl, rfl⟩
theorem new_c (s : ByteArray) (n : Int) (t : TypeId) (x : Value) (w : World) : Calls Tryz.prog 64 #[.string s, .int .i64 n, .iface t x] w fun e w' =>
  e = .returned (.iface 92 (.pointer (some ⟨w.heap.size, 0, none⟩))) ∧ w' = w.alloc (.cells #[.string s, .int .i64 n, .iface t x] 95) := by
 go_enter Tryz.func64, Tryz.ntmps64
 go_wp2
 go_ret
 exact ⟨rfl, rfl⟩
end Go.Proofs.YtjgdindjimbfeaaGreatDoor.Ft
namespace Go.Proofs.YtjgdindjimbfeaaGreatDoor.Ft
open Go.RowKit
theorem info44 : (Tryz.prog.info? 92).map (fun i => (i.zero, i.size, i.bytes)) = some (some (.pointer none), 1, 8) := by kernel_rfl
def Other (v : Value) : Prop := v = .nilIface ∨ (∃ c : Int, v = .iface 33 (.int .i64 c))
def OwnP (w : World) (B : Nat) (v : Value) (l : List Fr) : Prop := w.ownsRow B 92 1 v l.length (l.map Fr.p)
theorem OwnP.nil (w : World) (B : Nat) : OwnP w B (.slice none 0 0) [] := ⟨rfl, .inl ⟨rfl, rfl⟩⟩
theorem OwnP.below {w w' : World} {B : Nat} {v : Value} {l : List Fr} (h : OwnP w B v l) (hb : Below w.heap.size w w') : OwnP w' B v l := by
 obtain ⟨h0, h | ⟨g, cap, cur, rfl, hg, hh, hr⟩⟩ := h
 ·exact ⟨h0, .inl h⟩
 ·exact ⟨h0, .inr ⟨g, cap, cur, rfl, hg, by rw [hb.block g (lt_of_heap hh)]; exact hh, hr⟩⟩
theorem OwnP.ge {w : World} {B : Nat} {v : Value} {l : List Fr} (h : OwnP w B v l) : ∀ k, v.ownBlock = some k → B ≤ k := fun k hk => by
 obtain ⟨_, h | ⟨g, cap, cur, rfl, hg, _⟩⟩ := h
 ·obtain ⟨rfl, _⟩ := h; simp [Value.ownBlock] at hk
 ·simp [Value.ownBlock] at hk; omega
theorem wpList_pushP {ops : Array Oper} {rest : List Oper} {o : Oper} {a : Act} {w : World} {Q : Exit → Act → World → Prop} (hgd : o.guard = none) (s x : Operand)
  (ho : o.op = .call { callee := .builtin .append, args := #[s, x], argTypes := #[143, 143] }) (B : Nat) (v : Value) (l : List Fr) (hs : a.eval s = v) (hown : OwnP w B v l) (g : Nat) (y : Fr)
  (hx : a.eval x = .slice (some ⟨g, 0, none⟩) 1 1) (hk : w.cell? ⟨g, 0, none⟩ = some (.pointer (some ⟨y.b, 0, none⟩))) (hl : l.length ≤ 400000) (hB : B ≤ w.heap.size)
  (h : ∀ v' w', OwnP w' B v' (l ++ [y]) → Below B w w' → wpList Tryz.prog ops Q rest (a.put o.dst v') w') : wpList Tryz.prog ops Q (o :: rest) a w := by
 obtain ⟨i0, hi, hz0, hz1, hz2⟩ := info_parts info44
 refine wpList_append_own (w := w) hgd s x 143 ho B 92 i0 (.pointer none) 1 8 Tryz.underlying143 hi hz0 hz1 hz2 rfl (by decide) v l.length (l.map Fr.p) hs hown ⟨g, 0, none⟩ 1 1 [y.p] hx rfl
  (fun j u hj => ?_) (fun u hu => ?_) (by unfold maxLen; omega) (by omega) hB fun v' w' h1 h2 _ => h v' w' ?_ ?_
 ·match j, hj with
  | 0, hj => simp at hj; subst hj; simpa [Addr.add, Fr.p] using hk
 ·simp at hu; subst hu; rfl
 ·unfold OwnP
  rw [List.map_append, List.length_append]
  simpa using h1
 ·exact (Below.refl _ _).grown h2 hB hown.ge
def ApartPost (w : World) (leaf : Value) (fs : List Fr) (e : Ending) (w' : World) : Prop := ∃ v, e = .returned (.tuple #[v, leaf]) ∧ OwnP w' w.heap.size v fs ∧ Below w.heap.size w w'
theorem apart_c (fs : List Fr) (leaf v : Value) (w : World) (h : Chain w leaf fs v) (hleaf : Other leaf) (hl : fs.length ≤ 400000) :
  Calls Tryz.prog 77 #[v] w (ApartPost w leaf fs) := by
 go_enter Tryz.func77, Tryz.ntmps77
 go_wp2
 go_loopg [0, 2, 3] fs.length (fun gg err out _ wr => ∃ m : Nat, m ≤ fs.length ∧ fs.length - m = gg ∧ Chain w leaf (fs.drop m) err ∧ OwnP wr w.heap.size out (fs.take m) ∧ Below w.heap.size w wr)
 case atStart => exact ⟨0, by omega, by omega, by simpa using h, OwnP.nil w _, Below.refl _ _⟩
 case round =>
  obtain ⟨m, hm, rfl, hC, hO, hB⟩ := hrel
  by_cases hlt : m < fs.length
  ·obtain ⟨f, hf⟩ : ∃ f, fs[m]? = some f := ⟨_, List.getElem?_eq_getElem hlt⟩
   have hd : fs.drop m = f :: fs.drop (m + 1) := by
    rw [List.drop_eq_getElem_cons hlt]; congr 1; rw [List.getElem?_eq_getElem hlt] at hf; exact Option.some.inj hf
   have ht : fs.take (m + 1) = fs.take m ++ [f] := by rw [List.take_add_one, hf]; rfl
   rw [hd] at hC
   obtain ⟨rfl, v', hh, hC'⟩ := hC
   have HT := Lib.hid ht
   have HO := Lib.hid hO
   have HB := Lib.hid hB
   have HC := Lib.hid hC'
   have HH := Lib.hid hh
   have HF := Lib.hid hf
   have HL := Lib.hid h
   have hlo : (fs.take m).length ≤ 400000 := by simp; omega
   clear ht hO hB hC' hd hh hf h
   go_wp2_with (at_builtin; refine wpList_pushP rfl _ _ rfl w.heap.size _ _ rfl (OwnP.below HO.out ((Below.refl _ _).alloc (Nat.le_refl _) _)) wr.heap.size f rfl ?c1 hlo ?c2 ?_)
   case c1 => simp
   case c2 => have := HB.out.size; simp; omega
   intro v2 w2 hO2 hB2
   have hB3 : Below w.heap.size w w2 := (HB.out.trans ((Below.refl w.heap.size wr).alloc HB.out.size _)).trans hB2
   have hh2 : w2.heap[f.b]? = some (.cells #[.string f.op, .int .i64 f.n, v'] 95 (0, 0)) := by rw [hB3.block _ (lt_of_heap HH.out)]; exact HH.out
   rw [← HT.out] at hO2
   have HO2 := Lib.hid hO2
   have HB3 := Lib.hid hB3
   have HH2 := Lib.hid hh2
   clear hO2 hB2 hB3 hh2
   go_wp2_with (go_at_call 114; refine (unwrap_c f.b _ _ v' _ HH2.out).mono ?_; rintro e w' ⟨rfl, rfl⟩)
   go_roundg (fs.length - (m + 1))
   case measure => omega
   case rel => exact ⟨m + 1, by omega, rfl, HC.out, HO2.out, HB3.out⟩
  ·have hmm : m = fs.length := by omega
   subst hmm
   rw [List.drop_length] at hC
   obtain rfl : _ = leaf := hC
   rw [List.take_length] at hO
   have HO := Lib.hid hO
   have HB := Lib.hid hB
   clear hO hB h
   rcases hleaf with rfl | ⟨c, rfl⟩
   all_goals
    go_wp2
    go_ret2
    exact ⟨_, rfl, HO.out, HB.out⟩
end Go.Proofs.YtjgdindjimbfeaaGreatDoor.Ft
namespace Go.Proofs.YtjgdindjimbfeaaGreatDoor.Ft
open Go.RowKit
theorem coded_some (fs : List Fr) (c : Int) (v : Value) (w : World) (h : Chain w (.iface 33 (.int .i64 c)) fs v) (hl : fs.length ≤ 400000) :
  Calls Tryz.prog 42 #[v] w fun e w' => e = .returned v ∧ Below w.heap.size w w' := by
 have H := Lib.hid h
 clear h
 go_enter Tryz.func42, Tryz.ntmps42
 go_wp2_with (go_at_call 77; refine (apart_c fs _ v _ H.out (.inr ⟨c, rfl⟩) hl).mono ?_; rintro e w1 ⟨s, rfl, hO, hB⟩; have HB := Lib.hid hB; clear hB hO)
 go_ret
 exact ⟨rfl, HB.out⟩
theorem first_some (b : Nat) (op : ByteArray) (n : Int) (v' : Value) (w : World) (h : w.heap[b]? = some (.cells #[.string op, .int .i64 n, v'] 95 (0, 0))) :
  Calls Tryz.prog 17 #[.iface 92 (.pointer (some ⟨b, 0, none⟩))] w fun e w' => e = .returned (.tuple #[.string op, .int .i64 n, .bool true]) ∧ Below w.heap.size w w' := by
 have c0 : w.cell? ⟨b, 0, none⟩ = some (.string op) := by rw [cell_of_cells h]; rfl
 have c1 : w.cell? ⟨b, 1, none⟩ = some (.int .i64 n) := by rw [cell_of_cells h]; rfl
 clear h
 go_enter Tryz.func17, Tryz.ntmps17
 go_wp2
 go_quiet (fail)
 go_wp2
 go_ret3
 exact ⟨rfl, below_drewN (Below.refl _ _) _⟩
end Go.Proofs.YtjgdindjimbfeaaGreatDoor.Ft
namespace Go.Proofs.YtjgdindjimbfeaaGreatDoor.Ft
open Go.RowKit
end Go.Proofs.YtjgdindjimbfeaaGreatDoor.Ft
namespace Go.Proofs.YtjgdindjimbfeaaGreatDoor.Ft
structure St where
 op : ByteArray
 n : Int
def frag (s : St) : List UInt8 := s.op.data.toList ++ ([32] ++ (Lib.itoa s.n ++ [58, 32]))
theorem decDigits_len (u : Nat) : (Lib.decDigits u).length = Lib.nDigits u := by rw [Lib.decDigits_eq]; simp
theorem nDigits_le : ∀ (k u : Nat), u < 10 ^ (k + 1) → Lib.nDigits u ≤ k + 1
 | 0, u, h => by rw [Lib.nDigits_small (by simpa using h)]; omega
 | k + 1, u, h => by
  by_cases hu : u < 10
  ·rw [Lib.nDigits_small hu]; omega
  ·rw [Lib.nDigits_big hu]
   have := nDigits_le k (u / 10) (by rw [Nat.pow_succ] at h; omega)
   omega
theorem itoa_len (n : Int) (h0 : -9223372036854775808 ≤ n) (h1 : n ≤ 9223372036854775807) : (Lib.itoa n).length ≤ 21 := by
 unfold Lib.itoa
 split
 ·rw [List.length_cons, decDigits_len]
  have := nDigits_le 19 n.natAbs (by have : (10 : Nat) ^ (19 + 1) = 100000000000000000000 := by decide
                                     omega)
  omega
 ·rw [decDigits_len]
  have := nDigits_le 19 n.toNat (by have : (10 : Nat) ^ (19 + 1) = 100000000000000000000 := by decide
                                    omega)
  omega
def Fits (l : List St) : Prop := ∀ s ∈ l, -9223372036854775808 ≤ s.n ∧ s.n ≤ 9223372036854775807 ∧ s.op.size ≤ 5000
theorem frag_len {l : List St} (h : Fits l) {s : St} (hs : s ∈ l) : (frag s).length ≤ 5030 := by
 obtain ⟨h0, h1, h2⟩ := h s hs
 have := itoa_len s.n h0 h1
 have h3 : s.op.data.toList.length = s.op.size := Array.length_toList
 unfold frag
 rw [List.length_append, List.length_append, List.length_append, h3]
 simp only [List.length_cons, List.length_nil]
 omega
theorem flat_len : ∀ (l : List St), Fits l → (l.flatMap frag).length ≤ 5030 * l.length
 | [], _ => by simp
 | s :: r, h => by
  have h1 := frag_len h (s := s) (by simp)
  have h2 := flat_len r (fun x hx => h x (by simp [hx]))
  simp only [List.flatMap_cons, List.length_append, List.length_cons]
  omega
end Go.Proofs.YtjgdindjimbfeaaGreatDoor.Ft
namespace Go.Proofs.YtjgdindjimbfeaaGreatDoor.Ft
open Go.RowKit
end Go.Proofs.YtjgdindjimbfeaaGreatDoor.Ft
namespace Go.Proofs.YtjgdindjimbfeaaGreatDoor.Ft
open Go.RowKit Go.Extern.Stop Go.Stop Go.Extern
@[go_sem] theorem ta90_44 (v : Value) (w : World) : (Instr.typeAssert (.iface 92 v) 38 194 true).run Tryz.prog w = .ok (.tuple #[.iface 92 v, .bool true]) w := run_typeAssert_hasB Tryz.underlying194 (by kernel_rfl) v 38 w
@[go_sem] theorem ta90_31 (v : Value) (w : World) : (Instr.typeAssert (.iface 33 v) 38 194 true).run Tryz.prog w = .ok (.tuple #[.nilIface, .bool false]) w := run_typeAssert_lacksB Tryz.underlying194 (by kernel_rfl) (by kernel_rfl) v 38 w
@[go_sem] theorem ta91_31 (v : Value) (w : World) : (Instr.typeAssert (.iface 33 v) 38 196 true).run Tryz.prog w = .ok (.tuple #[.nilIface, .bool false]) w := run_typeAssert_lacksB Tryz.underlying196 (by kernel_rfl) (by kernel_rfl) v 38 w
@[go_sem] theorem eq_44_31 (x y : Value) (w : World) : (binOp .eql 38 (.iface 92 x) (.iface 33 y)).run Tryz.prog w = .ok (.bool false) w := run_eql_iface_types 92 33 x y Tryz.underlying38 (by decide) w
@[go_sem] theorem eq_nil_31 (x : Value) (w : World) : (binOp .eql 38 .nilIface (.iface 33 x)).run Tryz.prog w = .ok (.bool false) w := by kernel_rfl
theorem m_unwrap (h : Value) (w : World) : (Go.method 383 92 h "Unwrap").run Tryz.prog w = .ok (114, h) w := by kernel_rfl
theorem na_unwrap (a : Addr) (w : World) : (nilAhead 383 92 (.pointer (some a)) "Unwrap").run Tryz.prog w = .ok (some false) w := by kernel_rfl
theorem typeOf31 (v : Value) (w : World) : (ReflectliteType.typeOf #[.iface 33 v]).run Tryz.prog w = .ok (.iface 186 (.agg #[.pointer (some ⟨3, 33, none⟩)])) w := by kernel_rfl
theorem call_typeOf31 (v : Value) (w : World) : (callFunc 111 #[.iface 33 v]).run Tryz.prog w = .ok (.value (.iface 186 (.agg #[.pointer (some ⟨3, 33, none⟩)]))) w := by
 rw [@run_callFunc_extern Tryz.prog 111 _ ReflectliteType.typeOf Tryz.func111 (by kernel_rfl) (by kernel_rfl) (by kernel_rfl) (by kernel_rfl), typeOf31]
 rfl
end Go.Proofs.YtjgdindjimbfeaaGreatDoor.Ft
namespace Go.Proofs.YtjgdindjimbfeaaGreatDoor.Ft
open Go.RowKit Go.Extern.Stop Go.Stop Go.Extern
def hd (t : Nat) : Value := .agg #[.pointer (some ⟨3, t, none⟩)]
theorem x_typeOf44 (v : Value) (w : World) : (ReflectliteType.typeOf #[.iface 92 v]).run Tryz.prog w = .ok (.iface 186 (.agg #[.pointer (some ⟨3, 92, none⟩)])) w := by kernel_rfl
theorem call_typeOf44 (v : Value) (w : World) : (callFunc 111 #[.iface 92 v]).run Tryz.prog w = .ok (.value (.iface 186 (.agg #[.pointer (some ⟨3, 92, none⟩)]))) w := by
 rw [@run_callFunc_extern Tryz.prog 111 _ ReflectliteType.typeOf Tryz.func111 (by kernel_rfl) (by kernel_rfl) (by kernel_rfl) (by kernel_rfl), x_typeOf44]; rfl
theorem x_valueOf52 (t : Addr) (w : World) : (ReflectliteValue.unpack (.iface 98 (.pointer (some t)))).run Tryz.prog w
  = .ok (.agg #[.pointer (some ⟨3, 98, none⟩), .pointer (some ⟨w.heap.size, 0, none⟩), .int .u64 150]) (w.alloc (.cells #[.pointer (some t)] 98)) := by kernel_rfl
theorem call_valueOf52 (t : Addr) (w : World) : (callFunc 73 #[.iface 98 (.pointer (some t))]).run Tryz.prog w
  = .ok (.value (.agg #[.pointer (some ⟨3, 98, none⟩), .pointer (some ⟨w.heap.size, 0, none⟩), .int .u64 150])) (w.alloc (.cells #[.pointer (some t)] 98)) := by
 rw [@run_callFunc_extern Tryz.prog 73 _ (fun args => ReflectliteValue.unpack (args.getD 0 (.tuple #[]))) Tryz.func73 (by kernel_rfl) (by kernel_rfl) (by kernel_rfl) (by kernel_rfl)]
 show (Sem.run Tryz.prog (ReflectliteValue.unpack (.iface 98 (.pointer (some t)))) w).andThen _ = _
 rw [x_valueOf52]; rfl
theorem x_valueOf31 (c : Int) (w : World) : (ReflectliteValue.unpack (.iface 33 (.int .i64 c))).run Tryz.prog w
  = .ok (.agg #[.pointer (some ⟨3, 33, none⟩), .pointer (some ⟨w.heap.size, 0, none⟩), .int .u64 130]) (w.alloc (.cells #[.int .i64 c] 33)) := by kernel_rfl
theorem call_valueOf31 (c : Int) (w : World) : (callFunc 73 #[.iface 33 (.int .i64 c)]).run Tryz.prog w
  = .ok (.value (.agg #[.pointer (some ⟨3, 33, none⟩), .pointer (some ⟨w.heap.size, 0, none⟩), .int .u64 130])) (w.alloc (.cells #[.int .i64 c] 33)) := by
 rw [@run_callFunc_extern Tryz.prog 73 _ (fun args => ReflectliteValue.unpack (args.getD 0 (.tuple #[]))) Tryz.func73 (by kernel_rfl) (by kernel_rfl) (by kernel_rfl) (by kernel_rfl)]
 show (Sem.run Tryz.prog (ReflectliteValue.unpack (.iface 33 (.int .i64 c))) w).andThen _ = _
 rw [x_valueOf31]; rfl
theorem x_type52 (a : Addr) (w : World) : (ReflectliteValue.methodAny (ReflectliteValue.valueError "reflectlite.Value.Type" 0) (fun t _ _ _ => ReflectliteType.toType t) #[.agg #[.pointer (some ⟨3, 98, none⟩), .pointer (some a), .int .u64 150]]).run Tryz.prog w
  = .ok (.iface 186 (.agg #[.pointer (some ⟨3, 98, none⟩)])) w := by kernel_rfl
theorem call_type52 (a : Addr) (w : World) : (callFunc 74 #[.agg #[.pointer (some ⟨3, 98, none⟩), .pointer (some a), .int .u64 150]]).run Tryz.prog w
  = .ok (.value (.iface 186 (.agg #[.pointer (some ⟨3, 98, none⟩)]))) w := by
 rw [@run_callFunc_extern Tryz.prog 74 _ (ReflectliteValue.methodAny (ReflectliteValue.valueError "reflectlite.Value.Type" 0) (fun t _ _ _ => ReflectliteType.toType t)) Tryz.func74 (by kernel_rfl) (by kernel_rfl) (by kernel_rfl) (by kernel_rfl), x_type52]; rfl
theorem m_kind (h : Value) (w : World) : (Go.method 383 186 (.agg #[h]) "Kind").run Tryz.prog w = .ok (183, h) w := by kernel_rfl
theorem x_kind52 (w : World) : ((ReflectliteType.abiMethod fun t => do pure (.int .u8 (← Rtype.kind t))) #[.pointer (some ⟨3, 98, none⟩)]).run Tryz.prog w = .ok (.int .u8 22) w := by kernel_rfl
theorem x_kind31 (w : World) : ((ReflectliteType.abiMethod fun t => do pure (.int .u8 (← Rtype.kind t))) #[.pointer (some ⟨3, 33, none⟩)]).run Tryz.prog w = .ok (.int .u8 2) w := by kernel_rfl
theorem call_kind52 (w : World) : (callFunc 183 #[.pointer (some ⟨3, 98, none⟩)]).run Tryz.prog w = .ok (.value (.int .u8 22)) w := by
 rw [@run_callFunc_extern Tryz.prog 183 _ (ReflectliteType.abiMethod fun t => do pure (.int .u8 (← Rtype.kind t))) Tryz.func183 (by kernel_rfl) (by kernel_rfl) (by kernel_rfl) (by kernel_rfl), x_kind52]; rfl
theorem call_kind31 (w : World) : (callFunc 183 #[.pointer (some ⟨3, 33, none⟩)]).run Tryz.prog w = .ok (.value (.int .u8 2)) w := by
 rw [@run_callFunc_extern Tryz.prog 183 _ (ReflectliteType.abiMethod fun t => do pure (.int .u8 (← Rtype.kind t))) Tryz.func183 (by kernel_rfl) (by kernel_rfl) (by kernel_rfl) (by kernel_rfl), x_kind31]; rfl
theorem rlm (z : Sem Value) (f : TypeId → Addr → Nat → Nat → Sem Value) (v : Value) :
  ReflectliteValue.method z f #[v] = (do match ← ReflectliteValue.parts v with | none => z | some (t, a, fl) => f t a fl (fl % 32)) := rfl
theorem parts52 (a : Addr) (w : World) : (ReflectliteValue.parts (.agg #[.pointer (some ⟨3, 98, none⟩), .pointer (some a), .int .u64 150])).run Tryz.prog w = .ok (some (98, a, 150)) w := by kernel_rfl
theorem x_isNil52 (a p : Addr) (W : World) (ha : W.cell? a = some (.pointer (some p))) :
  (ReflectliteValue.method (ReflectliteValue.valueError "reflectlite.Value.IsNil" 0) ReflectliteValue.isNil #[.agg #[.pointer (some ⟨3, 98, none⟩), .pointer (some a), .int .u64 150]]).run Tryz.prog W = .ok (.bool false) W := by
 rw [rlm]
 simp only [Sem.run_bind, parts52, Result.andThen]
 simp [ReflectliteValue.isNil, loadVar, isAgg, underlying, Tryz.underlying98, ha, Result.andThen]
theorem call_isNil52 (a p : Addr) (W : World) (ha : W.cell? a = some (.pointer (some p))) :
  (callFunc 75 #[.agg #[.pointer (some ⟨3, 98, none⟩), .pointer (some a), .int .u64 150]]).run Tryz.prog W = .ok (.value (.bool false)) W := by
 rw [@run_callFunc_extern Tryz.prog 75 _ (ReflectliteValue.method (ReflectliteValue.valueError "reflectlite.Value.IsNil" 0) ReflectliteValue.isNil) Tryz.func75 (by kernel_rfl) (by kernel_rfl) (by kernel_rfl) (by kernel_rfl), x_isNil52 a p W ha]; rfl
theorem m_elem (h : Value) (w : World) : (Go.method 383 186 (.agg #[h]) "Elem").run Tryz.prog w = .ok (196, .agg #[h]) w := by kernel_rfl
theorem m_implements (h : Value) (w : World) : (Go.method 383 186 (.agg #[h]) "Implements").run Tryz.prog w = .ok (197, .agg #[h]) w := by kernel_rfl
theorem m_assignable (h : Value) (w : World) : (Go.method 383 186 (.agg #[h]) "AssignableTo").run Tryz.prog w = .ok (194, .agg #[h]) w := by kernel_rfl
theorem x_elem52 (w : World) : (ReflectliteType.method ReflectliteType.elem #[.agg #[.pointer (some ⟨3, 98, none⟩)]]).run Tryz.prog w = .ok (.iface 186 (.agg #[.pointer (some ⟨3, 33, none⟩)])) w := by kernel_rfl
theorem call_elem52 (w : World) : (callFunc 196 #[.agg #[.pointer (some ⟨3, 98, none⟩)]]).run Tryz.prog w = .ok (.value (.iface 186 (.agg #[.pointer (some ⟨3, 33, none⟩)]))) w := by
 rw [@run_callFunc_extern Tryz.prog 196 _ (ReflectliteType.method ReflectliteType.elem) Tryz.func196 (by kernel_rfl) (by kernel_rfl) (by kernel_rfl) (by kernel_rfl), x_elem52]; rfl
theorem x_implements31 (w : World) : (ReflectliteType.relation "Implements" ReflectliteType.implements_ #[.agg #[.pointer (some ⟨3, 33, none⟩)], .iface 186 (.agg #[.pointer (some ⟨3, 38, none⟩)])]).run Tryz.prog w = .ok (.bool true) w := by kernel_rfl
theorem call_implements31 (w : World) : (callFunc 197 #[.agg #[.pointer (some ⟨3, 33, none⟩)], .iface 186 (.agg #[.pointer (some ⟨3, 38, none⟩)])]).run Tryz.prog w = .ok (.value (.bool true)) w := by
 rw [@run_callFunc_extern Tryz.prog 197 _ (ReflectliteType.relation "Implements" ReflectliteType.implements_) Tryz.func197 (by kernel_rfl) (by kernel_rfl) (by kernel_rfl) (by kernel_rfl), x_implements31]; rfl
theorem x_assignable31 (w : World) : (ReflectliteType.relation "AssignableTo" ReflectliteType.assignableTo #[.agg #[.pointer (some ⟨3, 33, none⟩)], .iface 186 (.agg #[.pointer (some ⟨3, 33, none⟩)])]).run Tryz.prog w = .ok (.bool true) w := by kernel_rfl
theorem x_assignable44 (w : World) : (ReflectliteType.relation "AssignableTo" ReflectliteType.assignableTo #[.agg #[.pointer (some ⟨3, 92, none⟩)], .iface 186 (.agg #[.pointer (some ⟨3, 33, none⟩)])]).run Tryz.prog w = .ok (.bool false) w := by kernel_rfl
theorem call_assignable31 (w : World) : (callFunc 194 #[.agg #[.pointer (some ⟨3, 33, none⟩)], .iface 186 (.agg #[.pointer (some ⟨3, 33, none⟩)])]).run Tryz.prog w = .ok (.value (.bool true)) w := by
 rw [@run_callFunc_extern Tryz.prog 194 _ (ReflectliteType.relation "AssignableTo" ReflectliteType.assignableTo) Tryz.func194 (by kernel_rfl) (by kernel_rfl) (by kernel_rfl) (by kernel_rfl), x_assignable31]; rfl
theorem call_assignable44 (w : World) : (callFunc 194 #[.agg #[.pointer (some ⟨3, 92, none⟩)], .iface 186 (.agg #[.pointer (some ⟨3, 33, none⟩)])]).run Tryz.prog w = .ok (.value (.bool false)) w := by
 rw [@run_callFunc_extern Tryz.prog 194 _ (ReflectliteType.relation "AssignableTo" ReflectliteType.assignableTo) Tryz.func194 (by kernel_rfl) (by kernel_rfl) (by kernel_rfl) (by kernel_rfl), x_assignable44]; rfl
theorem elemOf52 (w : World) : (Rtype.elem? 98).run Tryz.prog w = .ok (some 33) w := by kernel_rfl
theorem mk31 (p : Addr) (w : World) : (ReflectliteValue.mk 33 p ReflectliteValue.flagAddr).run Tryz.prog w = .ok (.agg #[.pointer (some ⟨3, 33, none⟩), .pointer (some p), .int .u64 386]) w := by kernel_rfl
theorem x_elemV52 (a p : Addr) (W : World) (ha : W.cell? a = some (.pointer (some p))) :
  (ReflectliteValue.method (ReflectliteValue.valueError "reflectlite.Value.Elem" 0) ReflectliteValue.elem #[.agg #[.pointer (some ⟨3, 98, none⟩), .pointer (some a), .int .u64 150]]).run Tryz.prog W
   = .ok (.agg #[.pointer (some ⟨3, 33, none⟩), .pointer (some p), .int .u64 386]) W := by
 rw [rlm]
 simp only [Sem.run_bind, parts52, Result.andThen]
 simp [ReflectliteValue.elem, loadVar, isAgg, underlying, Tryz.underlying98, ha, Result.andThen, elemOf52, mk31]
theorem call_elemV52 (a p : Addr) (W : World) (ha : W.cell? a = some (.pointer (some p))) :
  (callFunc 112 #[.agg #[.pointer (some ⟨3, 98, none⟩), .pointer (some a), .int .u64 150]]).run Tryz.prog W
   = .ok (.value (.agg #[.pointer (some ⟨3, 33, none⟩), .pointer (some p), .int .u64 386])) W := by
 rw [@run_callFunc_extern Tryz.prog 112 _ (ReflectliteValue.method (ReflectliteValue.valueError "reflectlite.Value.Elem" 0) ReflectliteValue.elem) Tryz.func112 (by kernel_rfl) (by kernel_rfl) (by kernel_rfl) (by kernel_rfl), x_elemV52 a p W ha]; rfl
theorem rls (v x : Value) : ReflectliteValue.set #[v, x] = (do
  let (some (dst, a, fl), some (src, b, _)) := (← ReflectliteValue.parts v, ← ReflectliteValue.parts x)
   | unsupported (.noEntry "extern/(internal/reflectlite.Value).Set.zeroValue")
  if fl / ReflectliteValue.flagAddr % 2 == 0 then unsupported (.noEntry "extern/(internal/reflectlite.Value).Set.unaddressable")
  let val ← loadVar src b
  if ← Rtype.directlyAssignable dst src then storeVar dst a val
  else if ← Rtype.implements dst src then
   if (← Rtype.kind src) == 20 then
    match val with
    | .nilIface => unsupported (.noEntry "extern/reflectlite: a nil value of one interface type handed on as a value of another")
    | _ => storeVar dst a val
   else storeVar dst a (.iface src val)
  else panicString ("reflectlite.Set: value of type " ++ (← Rtype.spelt src) ++ " is not assignable to type " ++ (← Rtype.spelt dst))
  pure (.tuple #[])) := rfl
theorem parts31a (a : Addr) (w : World) : (ReflectliteValue.parts (.agg #[.pointer (some ⟨3, 33, none⟩), .pointer (some a), .int .u64 386])).run Tryz.prog w = .ok (some (33, a, 386)) w := by kernel_rfl
theorem parts31 (a : Addr) (w : World) : (ReflectliteValue.parts (.agg #[.pointer (some ⟨3, 33, none⟩), .pointer (some a), .int .u64 130])).run Tryz.prog w = .ok (some (33, a, 130)) w := by kernel_rfl
theorem direct31 (w : World) : (Rtype.directlyAssignable 33 33).run Tryz.prog w = .ok true w := by kernel_rfl
theorem x_set31 (ta b : Addr) (c : Int) (old : Value) (W : World) (hb : W.cell? b = some (.int .i64 c)) (ht : W.cell? ta = some old) (hf : W.frozen? ta = false) :
  (ReflectliteValue.set #[.agg #[.pointer (some ⟨3, 33, none⟩), .pointer (some ta), .int .u64 386], .agg #[.pointer (some ⟨3, 33, none⟩), .pointer (some b), .int .u64 130]]).run Tryz.prog W
   = .ok (.tuple #[]) (W.setCell ta (.int .i64 c)) := by
 rw [rls]
 simp only [Sem.run_bind, parts31a, parts31, Result.andThen]
 simp [ReflectliteValue.flagAddr, loadVar, isAgg, underlying, Tryz.underlying33, hb, Result.andThen, direct31, storeVar, Value.cells, storeCells, Addr.add]
 rw [run_store Tryz.prog W ta _ _ (by rfl)]
 simp [ht, hf]
theorem call_set31 (ta b : Addr) (c : Int) (old : Value) (W : World) (hb : W.cell? b = some (.int .i64 c)) (ht : W.cell? ta = some old) (hf : W.frozen? ta = false) :
  (callFunc 113 #[.agg #[.pointer (some ⟨3, 33, none⟩), .pointer (some ta), .int .u64 386], .agg #[.pointer (some ⟨3, 33, none⟩), .pointer (some b), .int .u64 130]]).run Tryz.prog W
   = .ok (.value (.tuple #[])) (W.setCell ta (.int .i64 c)) := by
 rw [@run_callFunc_extern Tryz.prog 113 _ ReflectliteValue.set Tryz.func113 (by kernel_rfl) (by kernel_rfl) (by kernel_rfl) (by kernel_rfl), x_set31 ta b c old W hb ht hf]; rfl
end Go.Proofs.YtjgdindjimbfeaaGreatDoor.Ft
namespace Go.Proofs.YtjgdindjimbfeaaGreatDoor.Ft
open Go.RowKit Go.Extern.Stop Go.Stop Go.Extern
@[go_sem] theorem ta87_44 (v : Value) (w : World) : (Instr.typeAssert (.iface 92 v) 38 191 true).run Tryz.prog w = .ok (.tuple #[.nilIface, .bool false]) w := run_typeAssert_lacksB Tryz.underlying191 (by kernel_rfl) (by kernel_rfl) v 38 w
def AsPost (w : World) (b : Nat) (c : Int) (e : Ending) (w' : World) : Prop := e = .returned (.bool true) ∧ w'.cell? ⟨b, 0, none⟩ = some (.int .i64 c) ∧ Below b w w'
theorem eas_c (fs : List Fr) (c : Int) (v tgt old : Value) (g b : Nat) (w : World) (h : Chain w (.iface 33 (.int .i64 c)) fs v) (hg : w.heap[g]? = some (.cells #[.pointer (some ⟨b, 0, none⟩)] 98 (0, 0)))
  (hb : w.heap[b]? = some (.cells #[old] 33 (0, 0))) :
  Calls Tryz.prog 76 #[v, tgt, .agg #[.pointer (some ⟨3, 98, none⟩), .pointer (some ⟨g, 0, none⟩), .int .u64 150], .iface 186 (.agg #[.pointer (some ⟨3, 33, none⟩)])] w (AsPost w b c) := by
 obtain ⟨W, hW⟩ : ∃ W, W = w.alloc (.cells #[.pointer (some ⟨3, 98, none⟩), .pointer (some ⟨g, 0, none⟩), .int .u64 150] 134) := ⟨_, rfl⟩
 have hbW : Below w.heap.size w W := by rw [hW]; exact (Below.refl _ _).alloc (Nat.le_refl _) _
 have h6 : W.heap[w.heap.size]? = some (.cells #[.pointer (some ⟨3, 98, none⟩), .pointer (some ⟨g, 0, none⟩), .int .u64 150] 134 (0, 0)) := by rw [hW]; exact heap_alloc_new w _
 have hg1 : W.heap[g]? = some (.cells #[.pointer (some ⟨b, 0, none⟩)] 98 (0, 0)) := by rw [hbW.block _ (lt_of_heap hg)]; exact hg
 have hb1 : W.heap[b]? = some (.cells #[old] 33 (0, 0)) := by rw [hbW.block _ (lt_of_heap hb)]; exact hb
 have hC1 := h.below hbW
 have hlt : b < w.heap.size := lt_of_heap hb
 have H6 := Lib.hid h6
 have HG := Lib.hid hg1
 have HB := Lib.hid hb1
 have HC := Lib.hid hC1
 have HW := Lib.hid hbW
 have HWW := Lib.hid hW
 clear h6 hg1 hb1 hC1 hbW h hg hb
 go_enter Tryz.func76, Tryz.ntmps76
 go_wp2
 rw [← HWW.out]
 clear hW
 go_loopg [0] fs.length (fun gg err wr => ∃ gs : List Fr, gs.length = gg ∧ Chain W (.iface 33 (.int .i64 c)) gs err ∧ wr = W)
 case atStart => exact ⟨fs, rfl, HC.out, rfl⟩
 case round =>
  obtain ⟨gs, rfl, hC, rfl⟩ := hrel
  have t44 := call_typeOf44
  have t31 := call_typeOf31
  have mA := m_assignable
  have nA : ∀ (h : Value) (w : World), (nilAhead 383 186 (.agg #[h]) "AssignableTo").run Tryz.prog w = .ok (some false) w := fun _ _ => by kernel_rfl
  cases gs with
  | nil =>
   obtain rfl : _ = Value.iface 33 (.int .i64 c) := hC
   have a31 := call_assignable31
   have v31 := call_valueOf31
   have c0 : wr.cell? ⟨w.heap.size, 0, none⟩ = some (.pointer (some ⟨3, 98, none⟩)) := by rw [cell_of_cells H6.out]; rfl
   have c1 : wr.cell? ⟨w.heap.size, 1, none⟩ = some (.pointer (some ⟨g, 0, none⟩)) := by rw [cell_of_cells H6.out]; rfl
   have c2 : wr.cell? ⟨w.heap.size, 2, none⟩ = some (.int .u64 150) := by rw [cell_of_cells H6.out]; rfl
   have eV := call_elemV52 ⟨g, 0, none⟩ ⟨b, 0, none⟩ wr (by rw [cell_of_cells HG.out]; rfl)
   have hblt : b < wr.heap.size := lt_of_heap HB.out
   have hb2 : (wr.alloc (.cells #[.int .i64 c] 33)).heap[b]? = some (.cells #[old] 33 (0, 0)) := by rw [Below.heap_alloc _ _ _ hblt]; exact HB.out
   have sV := call_set31 ⟨b, 0, none⟩ ⟨wr.heap.size, 0, none⟩ c old (wr.alloc (.cells #[.int .i64 c] 33)) (by simp) (by rw [cell_of_cells hb2]; rfl) (by simp [World.frozen?, hb2])
   have HB2 := Lib.hid hb2
   have HBL := Lib.hid hblt
   clear hb2 hblt
   go_wp2
   go_ret
   refine ⟨rfl, ?_, ((HW.out.mono (Nat.le_of_lt hlt)).alloc (Nat.le_of_lt HBL.out) _).setCell (p := ⟨b, 0, none⟩) (Nat.le_refl _) _⟩
   simp [World.setCell, World.cell?, Array.getElem?_modify, HB2.out]
  | cons f r =>
   obtain ⟨rfl, v', hh, hC'⟩ := hC
   obtain ⟨t, y, rfl⟩ := hC'.iface
   have HH := Lib.hid hh
   have HC2 := Lib.hid hC'
   clear hh hC'
   have a44 := call_assignable44
   have mU := m_unwrap
   have nU := na_unwrap
   go_wp2_with (go_at_call 114; refine (unwrap_c f.b _ _ _ _ HH.out).mono ?_; rintro e w' ⟨rfl, rfl⟩)
   go_roundg r.length
   case measure => simp
   case rel => exact ⟨r, rfl, HC2.out, rfl⟩
end Go.Proofs.YtjgdindjimbfeaaGreatDoor.Ft
namespace Go.Proofs.YtjgdindjimbfeaaGreatDoor.Ft
open Go.RowKit Go.Extern.Stop Go.Stop Go.Extern
def ErrVar (w : World) : Prop := w.cell? ⟨0, 0, none⟩ = some (.iface 186 (.agg #[.pointer (some ⟨3, 38, none⟩)]))
theorem ErrVar.below {w w' : World} (h : ErrVar w) (hb : Below w.heap.size w w') : ErrVar w' := by
 unfold ErrVar
 rw [hb.cell (lt_of_cell h)]; exact h
theorem errAs_nil (t : Value) (w : World) : Calls Tryz.prog 41 #[.nilIface, t] w fun e w' => e = .returned (.bool false) ∧ w = w' := by
 go_enter Tryz.func41, Tryz.ntmps41
 go_wp2
 go_ret
 exact ⟨rfl, rfl⟩
theorem errAs_c (fs : List Fr) (c : Int) (v old : Value) (b : Nat) (w : World) (h : Chain w (.iface 33 (.int .i64 c)) fs v) (hv : ErrVar w)
  (hb : w.heap[b]? = some (.cells #[old] 33 (0, 0))) :
  Calls Tryz.prog 41 #[v, .iface 98 (.pointer (some ⟨b, 0, none⟩))] w (AsPost w b c) := by
 obtain ⟨t, y, rfl⟩ := h.iface
 obtain ⟨W, hW⟩ : ∃ W, W = (w.alloc (.cells #[.pointer (some ⟨b, 0, none⟩)] 98)).alloc (.cells #[.pointer (some ⟨3, 98, none⟩), .pointer (some ⟨w.heap.size, 0, none⟩), .int .u64 150] 134) := ⟨_, rfl⟩
 have hbW : Below w.heap.size w W := by rw [hW]; exact ((Below.refl _ _).alloc (Nat.le_refl _) _).alloc (by simp) _
 have hg : W.heap[w.heap.size]? = some (.cells #[.pointer (some ⟨b, 0, none⟩)] 98 (0, 0)) := by
  rw [hW, Below.heap_alloc _ _ _ (by simp)]; exact heap_alloc_new w _
 have hb1 : W.heap[b]? = some (.cells #[old] 33 (0, 0)) := by rw [hbW.block _ (lt_of_heap hb)]; exact hb
 have hC := h.below hbW
 have hlt : b < w.heap.size := lt_of_heap hb
 have e0 := hv.below hbW
 unfold ErrVar at e0
 have n8 := call_isNil52 ⟨w.heap.size, 0, none⟩ ⟨b, 0, none⟩ W (by rw [cell_of_cells hg]; rfl)
 rw [hW] at e0 n8
 have HG := Lib.hid hg
 have HB := Lib.hid hb1
 have HC := Lib.hid hC
 have HW := Lib.hid hbW
 have HWW := Lib.hid hW
 clear hg hb1 hC hbW hW h hv hb
 have v52 := call_valueOf52
 have t52 := call_type52
 have mK := m_kind
 have k52 := call_kind52
 have k31 := call_kind31
 have mE := m_elem
 have el := call_elem52
 have mI := m_implements
 have im := call_implements31
 have nA : ∀ (h : Value) (w : World), (nilAhead 383 186 (.agg #[h]) "Kind").run Tryz.prog w = .ok (some false) w := fun _ _ => by kernel_rfl
 go_enter Tryz.func41, Tryz.ntmps41
 go_wp2_with fail
 rw [← HWW.out]
 clear v52 t52 mK k52 k31 mE el mI im nA n8 e0
 refine (eas_c fs c _ _ old w.heap.size b W HC.out HG.out HB.out).mono ?_
 rintro e w1 ⟨rfl, hc, hB⟩
 have HB2 := Lib.hid hB
 have HC2 := Lib.hid hc
 clear hB hc
 go_wp2
 go_ret
 exact ⟨rfl, HC2.out, (HW.out.mono (Nat.le_of_lt hlt)).trans HB2.out⟩
theorem code_some (fs : List Fr) (c : Int) (v : Value) (w : World) (h : Chain w (.iface 33 (.int .i64 c)) fs v) (hv : ErrVar w) (hl : fs.length ≤ 400000) :
  Calls Tryz.prog 18 #[v] w fun e w' => e = .returned (.int .i64 c) ∧ Below w.heap.size w w' := by
 obtain ⟨t, y, rfl⟩ := h.iface
 have hB0 : Below w.heap.size w (w.alloc (.cells #[.int .i64 0] 33)) := (Below.refl _ _).alloc (Nat.le_refl _) _
 have hb0 : (w.alloc (.cells #[.int .i64 0] 33)).heap[w.heap.size]? = some (.cells #[.int .i64 0] 33 (0, 0)) := heap_alloc_new w _
 have HC := Lib.hid (h.below hB0)
 have HV := Lib.hid (hv.below hB0)
 have HB0 := Lib.hid hB0
 have Hb0 := Lib.hid hb0
 clear h hv hB0 hb0
 go_enter Tryz.func18, Tryz.ntmps18
 go_wp2_with (go_at_call 42; refine (coded_some fs c _ _ HC.out hl).mono ?_; rintro e w1 ⟨rfl, hB⟩; have HB1 := Lib.hid hB; clear hB)
 have hb1 : w1.heap[w.heap.size]? = some (.cells #[.int .i64 0] 33 (0, 0)) := by rw [HB1.out.block _ (lt_of_heap Hb0.out)]; exact Hb0.out
 have Hb1 := Lib.hid hb1
 clear hb1
 go_wp2_with (go_at_call 41; refine (errAs_c fs c _ (.int .i64 0) w.heap.size _ (HC.out.below HB1.out) (HV.out.below HB1.out) Hb1.out).mono ?_; rintro e w2 ⟨rfl, hc, hB⟩; have HB2 := Lib.hid hB; clear hB)
 go_wp2
 go_ret
 exact ⟨rfl, (HB0.out.trans (HB1.out.mono (by simp))).trans HB2.out⟩
end Go.Proofs.YtjgdindjimbfeaaGreatDoor.Ft
