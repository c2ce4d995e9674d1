import Derived.Test.YtkejfdgmdjfdoaaGreatDoorRows
import Derived.WalkKit
import Derived.Lib.Hide
import Derived.WalkLawsBesides
import Derived.WalkSpells
import Derived.BigQuiet
import Derived.Deep.LoopGhost
import Derived.Below
import Derived.Deep.QuietTactic
import Derived.Outline
import Derived.Laws.AppendOwn
import Derived.Shelf.Strings.Builder1
import Derived.Shelf.Strconv.Itoa0
import Derived.Shelf.Strconv.Itoa1
import Derived.Shelf.LaysM
import Derived.Shelf.Strconv.Itoa2
import Derived.Shelf.Strconv.Itoa3
import Derived.Test.YtkejfdgmdjfdoaaGreatDoorProg
import Derived.Lib.Builder
import Derived.Lib.AppendStr
import Derived.Lib.UnsafeStr
import Derived.Laws.Externs
import Derived.Deep.OwnRows
import Derived.Lib.ItoaNum
import Derived.LaidEql
import Derived.Stop.Asserts
import Derived.RowKitTokens
import Derived.Lib.AppendIntMem
set_option linter.unusedSimpArgs false
set_option linter.unusedVariables false
set_option maxHeartbeats 4000000
set_option maxRecDepth 100000
namespace Go.Proofs.YtkejfdgmdjfdoaaGreatDoor.Ft
open Go.RowKit
structure Fr where
 b : Nat
 op : ByteArray
 n : Int
def Fr.p (f : Fr) : Value := .pointer (some ⟨f.b, 0, none⟩)
def Chain (w : World) (leaf : Value) : List Fr → Value → Prop
 | [], v => v = leaf
 | f :: r, v => v = .iface 142 (.pointer (some ⟨f.b, 0, none⟩)) ∧ ∃ v', w.heap[f.b]? = some (.cells #[.string f.op, .int .i64 f.n, v'] 145 (0, 0)) ∧ Chain w leaf r v'
theorem lt_of_heap {w : World} {b : Nat} {o : Obj} (h : w.heap[b]? = some o) : b < w.heap.size := by
 rcases Nat.lt_or_ge b w.heap.size with h' | h'
 ·exact h'
 ·rw [Array.getElem?_eq_none h'] at h; cases h
theorem cell_of_cells {w : World} {b : Nat} {cs : Array Value} {T : TypeId} {fr : Nat × Nat} (hb : w.heap[b]? = some (.cells cs T fr)) (j : Nat) : w.cell? ⟨b, j, none⟩ = cs[j]? := by
 simp [World.cell?, hb]
theorem Chain.below {w w' : World} {leaf : Value} (hb : Below w.heap.size w w') : ∀ {fs : List Fr} {v : Value}, Chain w leaf fs v → Chain w' leaf fs v
 | [], _, h => h
 | f :: r, v, h => by
  obtain ⟨h1, v', h2, h3⟩ := h
  exact ⟨h1, v', by rw [hb.block _ (lt_of_heap h2)]; exact h2, Chain.below hb h3⟩
theorem Chain.iface {w : World} {t : TypeId} {x : Value} {fs : List Fr} {v : Value} (h : Chain w (.iface t x) fs v) : ∃ u y, v = .iface u y := by
 cases fs with
 | nil => exact ⟨t, x, h⟩
 | cons f r => exact ⟨_, _, h.1⟩
theorem lt_of_cell {w : World} {a : Addr} {v : Value} (h : w.cell? a = some v) : a.block < w.heap.size := by
 rcases Nat.lt_or_ge a.block w.heap.size with h' | h'
 ·exact h'
 ·simp [World.cell?, Array.getElem?_eq_none h'] at h
theorem ret_bool {a b : Bool} (h : a = b) : Ending.returned (.bool a) = .returned (.bool b) := by rw [h]
theorem ret_str {a b : ByteArray} (h : a = b) : Ending.returned (.string a) = .returned (.string b) := by rw [h]
theorem below_drewN {B : Nat} {a w : World} (h : Below B a w) (n : Nat) : Below B a (w.drewN n) := ⟨h.os, h.tape, h.output, h.size, h.block⟩
@[go_sem] theorem ta44_hit (v : Value) (w : World) : (Instr.typeAssert (.iface 142 v) 44 142 true).run Tryz.prog w = .ok (.tuple #[v, .bool true]) w := by kernel_rfl
@[go_sem] theorem ta44_nil (w : World) : (Instr.typeAssert .nilIface 44 142 true).run Tryz.prog w = .ok (.tuple #[.pointer none, .bool false]) w := by kernel_rfl
@[go_sem] theorem ta44_errno (v : Value) (w : World) : (Instr.typeAssert (.iface 24 v) 44 142 true).run Tryz.prog w = .ok (.tuple #[.pointer none, .bool false]) w := by kernel_rfl
@[go_sem] theorem ta31_hit (v : Value) (w : World) : (Instr.typeAssert (.iface 24 v) 44 24 true).run Tryz.prog w = .ok (.tuple #[v, .bool true]) w := by kernel_rfl
@[go_sem] theorem ta31_nil (w : World) : (Instr.typeAssert .nilIface 44 24 true).run Tryz.prog w = .ok (.tuple #[.int .i64 0, .bool false]) w := by kernel_rfl
theorem unwrap_c (b : Nat) (s n v' : Value) (w : World) (h : w.heap[b]? = some (.cells #[s, n, v'] 145 (0, 0))) :
  Calls Tryz.prog 114 #[.pointer (some ⟨b, 0, none⟩)] w fun e w' => e = .returned v' ∧ w = w' := by
 have h2 : w.cell? ⟨b, 2, none⟩ = some v' := by rw [cell_of_cells h]; rfl
 clear h
 go_enter Tryz.func114, Tryz.ntmps114
 go_wp2
 go_ret
 exact ⟨rfl, rfl⟩
theorem new_c (s : ByteArray) (n : Int) (t : TypeId) (x : Value) (w : World) : Calls Tryz.prog 79 #[.string s, .int .i64 n, .iface t x] w fun e w' =>
  e = .returned (.iface 142 (.pointer (some ⟨w.heap.size, 0, none⟩))) ∧ w' = w.alloc (.cells #[.string s, .int .i64 n, .iface t x] 145) := by
 go_enter Tryz.func79, Tryz.ntmps79
 go_wp2
 go_ret
 exact ⟨rfl, rfl⟩
end Go.Proofs.YtkejfdgmdjfdoaaGreatDoor.Ft
namespace Go.Proofs.YtkejfdgmdjfdoaaGreatDoor.Ft
open Go.Shelf
def lays169_ren : Go.Shelf.Ren := ⟨fun | 169 => 213 | n => n, fun | 70 => 307 | 9 => 9 | 0 => 0 | 72 => 309 | 37 => 31 | 127 => 294 | 3 => 3 | 5 => 5 | n => n, fun | n => n⟩
theorem lays169 : Go.Proofs.Lays.n169 Tryz.prog lays169_ren := {
 mixed := by kernel_rfl
 f169 := Tryz.func213.trans (congrArg some (by kernel_rfl))
 t0 := Tryz.underlying0
 a0 := Tryz.isAgg0
 z0 := Tryz.sizeOf0
 v0 := Tryz.zeroValue0
 t3 := Tryz.underlying3
 a3 := Tryz.isAgg3
 z3 := Tryz.sizeOf3
 v3 := Tryz.zeroValue3
 t9 := Tryz.underlying9
 a9 := Tryz.isAgg9
 z9 := Tryz.sizeOf9
 v9 := Tryz.zeroValue9
 t37 := Tryz.underlying31
 a37 := Tryz.isAgg31
 z37 := Tryz.sizeOf31
 v37 := Tryz.zeroValue31
 t70 := Tryz.underlying307
 a70 := Tryz.isAgg307
 z70 := Tryz.sizeOf307
 v70 := Tryz.zeroValue307
 t72 := Tryz.underlying309
 a72 := Tryz.isAgg309
 z72 := Tryz.sizeOf309
 v72 := Tryz.zeroValue309
 t127 := Tryz.underlying294
 a127 := Tryz.isAgg294
 z127 := Tryz.sizeOf294
 v127 := Tryz.zeroValue294 }
theorem Builder_Extra_169 : Builder.Extra Tryz.prog lays169_ren := {
 sizeBuilder := by kernel_rfl
 liesBuilder := by kernel_rfl
 t5 := Tryz.underlying5
 a5 := Tryz.isAgg5
 z5 := Tryz.sizeOf5
 v5 := Tryz.zeroValue5
 infoByte := by kernel_rfl
 cellsByte := by kernel_rfl
 sizeByte := by kernel_rfl
 neB5 := by decide }
open Go.RowKit in
theorem Builder_String_any (B b : Nat) (l : List UInt8) (w : World) (h : Lib.IsBuilder 309 5 B b (Lib.byteCells l) w) (hBw : B ≤ w.heap.size) :
  Calls Tryz.prog 213 #[.pointer (some ⟨b, 0, none⟩)] w fun e w' => e = .returned (.string ⟨l.toArray⟩) ∧ Below B w w' := Any.Builder_String_any lays169 Builder_Extra_169 B b l w h hBw
def laysM246_ren : Go.Shelf.Ren := ⟨fun | 246 => 199 | 283 => 200 | 284 => 201 | 285 => 202 | 286 => 203 | 129 => 158 | 317 => 204 | 318 => 205 | 319 => 206 | 320 => 207 | 337 => 208 | 338 => 209 | n => n, fun | 2 => 2 | 3 => 3 | 9 => 9 | 4 => 4 | 171 => 301 | 0 => 0 | 53 => 266 | 37 => 31 | 5 => 5 | 173 => 302 | 212 => 305 | 51 => 234 | 20 => 20 | 213 => 306 | 46 => 211 | 232 => 39 | 233 => 269 | n => n, fun | 17 => 3 | 18 => 4 | 19 => 5 | n => n⟩
def laysM243_ren : Go.Shelf.Ren := ⟨fun | 243 => 198 | 246 => 199 | 283 => 200 | 284 => 201 | 285 => 202 | 286 => 203 | 129 => 158 | 317 => 204 | 318 => 205 | 319 => 206 | 320 => 207 | 337 => 208 | 338 => 209 | n => n, fun | 3 => 3 | 9 => 9 | 2 => 2 | 4 => 4 | 171 => 301 | 0 => 0 | 53 => 266 | 37 => 31 | 5 => 5 | 173 => 302 | 212 => 305 | 51 => 234 | 20 => 20 | 213 => 306 | 46 => 211 | 232 => 39 | 233 => 269 | n => n, fun | 17 => 3 | 18 => 4 | 19 => 5 | n => n⟩
def laysM171_ren : Go.Shelf.Ren := ⟨fun | 171 => 197 | 243 => 198 | 246 => 199 | 283 => 200 | 284 => 201 | 285 => 202 | 286 => 203 | 129 => 158 | 317 => 204 | 318 => 205 | 319 => 206 | 320 => 207 | 337 => 208 | 338 => 209 | n => n, fun | 3 => 3 | 9 => 9 | 2 => 2 | 4 => 4 | 171 => 301 | 0 => 0 | 53 => 266 | 37 => 31 | 5 => 5 | 173 => 302 | 212 => 305 | 51 => 234 | 20 => 20 | 213 => 306 | 46 => 211 | 232 => 39 | 233 => 269 | n => n, fun | 17 => 3 | 18 => 4 | 19 => 5 | n => n⟩
theorem laysM171 : Go.Proofs.LaysM.n171 Tryz.prog laysM171_ren := {
 mixed := by kernel_rfl
 f129 := Tryz.func158.trans (congrArg some (by kernel_rfl))
 f171 := Tryz.func197.trans (congrArg some (by kernel_rfl))
 f243 := Tryz.func198.trans (congrArg some (by kernel_rfl))
 f246 := Tryz.func199.trans (congrArg some (by kernel_rfl))
 f283 := Tryz.func200.trans (congrArg some (by kernel_rfl))
 f284 := Tryz.func201.trans (congrArg some (by kernel_rfl))
 f285 := Tryz.func202.trans (congrArg some (by kernel_rfl))
 f286 := Tryz.func203.trans (congrArg some (by kernel_rfl))
 f317 := Tryz.func204.trans (congrArg some (by kernel_rfl))
 f318 := Tryz.func205.trans (congrArg some (by kernel_rfl))
 f319 := Tryz.func206.trans (congrArg some (by kernel_rfl))
 f320 := Tryz.func207.trans (congrArg some (by kernel_rfl))
 f337 := Tryz.func208.trans (congrArg some (by kernel_rfl))
 f338 := Tryz.func209.trans (congrArg some (by kernel_rfl))
 t0 := Tryz.underlying0
 a0 := Tryz.isAgg0
 z0 := Tryz.sizeOf0
 v0 := Tryz.zeroValue0
 t2 := Tryz.underlying2
 a2 := Tryz.isAgg2
 z2 := Tryz.sizeOf2
 v2 := Tryz.zeroValue2
 t3 := Tryz.underlying3
 a3 := Tryz.isAgg3
 z3 := Tryz.sizeOf3
 v3 := Tryz.zeroValue3
 t4 := Tryz.underlying4
 a4 := Tryz.isAgg4
 z4 := Tryz.sizeOf4
 v4 := Tryz.zeroValue4
 t5 := Tryz.underlying5
 a5 := Tryz.isAgg5
 z5 := Tryz.sizeOf5
 v5 := Tryz.zeroValue5
 t9 := Tryz.underlying9
 a9 := Tryz.isAgg9
 z9 := Tryz.sizeOf9
 v9 := Tryz.zeroValue9
 t20 := Tryz.underlying20
 a20 := Tryz.isAgg20
 z20 := Tryz.sizeOf20
 v20 := Tryz.zeroValue20
 t37 := Tryz.underlying31
 a37 := Tryz.isAgg31
 z37 := Tryz.sizeOf31
 v37 := Tryz.zeroValue31
 t46 := Tryz.underlying211
 a46 := Tryz.isAgg211
 z46 := Tryz.sizeOf211
 v46 := Tryz.zeroValue211
 t51 := Tryz.underlying234
 a51 := Tryz.isAgg234
 z51 := Tryz.sizeOf234
 v51 := Tryz.zeroValue234
 t53 := Tryz.underlying266
 a53 := Tryz.isAgg266
 z53 := Tryz.sizeOf266
 v53 := Tryz.zeroValue266
 t171 := Tryz.underlying301
 a171 := Tryz.isAgg301
 z171 := Tryz.sizeOf301
 v171 := Tryz.zeroValue301
 t173 := Tryz.underlying302
 a173 := Tryz.isAgg302
 z173 := Tryz.sizeOf302
 v173 := Tryz.zeroValue302
 t212 := Tryz.underlying305
 a212 := Tryz.isAgg305
 z212 := Tryz.sizeOf305
 v212 := Tryz.zeroValue305
 t213 := Tryz.underlying306
 a213 := Tryz.isAgg306
 z213 := Tryz.sizeOf306
 t232 := Tryz.underlying39
 a232 := Tryz.isAgg39
 z232 := Tryz.sizeOf39
 v232 := Tryz.zeroValue39
 t233 := Tryz.underlying269
 a233 := Tryz.isAgg269
 z233 := Tryz.sizeOf269
 v233 := Tryz.zeroValue269
 g17 := by kernel_rfl
 g18 := by kernel_rfl
 g19 := by kernel_rfl
 i0 := by kernel_rfl
 i2 := by kernel_rfl
 i3 := by kernel_rfl
 i4 := by kernel_rfl
 i5 := by kernel_rfl
 i9 := by kernel_rfl
 i20 := by kernel_rfl
 i37 := by kernel_rfl
 i46 := by kernel_rfl
 i51 := by kernel_rfl
 i53 := by kernel_rfl
 i171 := by kernel_rfl
 i173 := by kernel_rfl
 i212 := by kernel_rfl
 i232 := by kernel_rfl
 i233 := by kernel_rfl
 m17 := by kernel_rfl
 m18 := by kernel_rfl
 m19 := by kernel_rfl }
open Go.RowKit Go.Sort Go.Lib in
theorem strconv_Itoa (n : Int) (h0 : -9223372036854775808 ≤ n) (h1 : n ≤ 9223372036854775807) (w : World) (htab : Lib.TabIs Tryz.prog w "internal/strconv.uint64pow10" .u64 Lib.pow10Tab) :
  Calls Tryz.prog 197 #[.int .i64 n] w fun e w' => e = .returned (.string ⟨(Lib.itoa n).toArray⟩) ∧ ∃ k os, w' = grow (w.drewN k) os := Any.strconv_Itoa laysM171 n h0 h1 w htab
def lays171_ren : Go.Shelf.Ren := ⟨fun | 171 => 197 | 243 => 198 | 246 => 199 | 283 => 200 | 284 => 201 | 285 => 202 | 286 => 203 | 129 => 158 | 317 => 204 | 318 => 205 | 319 => 206 | 320 => 207 | 337 => 208 | 338 => 209 | n => n, fun | 3 => 3 | 9 => 9 | 2 => 2 | 4 => 4 | 171 => 301 | 0 => 0 | 53 => 266 | 37 => 31 | 5 => 5 | 173 => 302 | 212 => 305 | 51 => 234 | 20 => 20 | 213 => 306 | 46 => 211 | 232 => 39 | 233 => 269 | n => n, fun | 17 => 3 | 18 => 4 | 19 => 5 | n => n⟩
theorem lays171 : Go.Proofs.Lays.n171 Tryz.prog lays171_ren := {
 mixed := by kernel_rfl
 f129 := Tryz.func158.trans (congrArg some (by kernel_rfl))
 f171 := Tryz.func197.trans (congrArg some (by kernel_rfl))
 f243 := Tryz.func198.trans (congrArg some (by kernel_rfl))
 f246 := Tryz.func199.trans (congrArg some (by kernel_rfl))
 f283 := Tryz.func200.trans (congrArg some (by kernel_rfl))
 f284 := Tryz.func201.trans (congrArg some (by kernel_rfl))
 f285 := Tryz.func202.trans (congrArg some (by kernel_rfl))
 f286 := Tryz.func203.trans (congrArg some (by kernel_rfl))
 f317 := Tryz.func204.trans (congrArg some (by kernel_rfl))
 f318 := Tryz.func205.trans (congrArg some (by kernel_rfl))
 f319 := Tryz.func206.trans (congrArg some (by kernel_rfl))
 f320 := Tryz.func207.trans (congrArg some (by kernel_rfl))
 f337 := Tryz.func208.trans (congrArg some (by kernel_rfl))
 f338 := Tryz.func209.trans (congrArg some (by kernel_rfl))
 t0 := Tryz.underlying0
 a0 := Tryz.isAgg0
 z0 := Tryz.sizeOf0
 v0 := Tryz.zeroValue0
 t2 := Tryz.underlying2
 a2 := Tryz.isAgg2
 z2 := Tryz.sizeOf2
 v2 := Tryz.zeroValue2
 t3 := Tryz.underlying3
 a3 := Tryz.isAgg3
 z3 := Tryz.sizeOf3
 v3 := Tryz.zeroValue3
 t4 := Tryz.underlying4
 a4 := Tryz.isAgg4
 z4 := Tryz.sizeOf4
 v4 := Tryz.zeroValue4
 t5 := Tryz.underlying5
 a5 := Tryz.isAgg5
 z5 := Tryz.sizeOf5
 v5 := Tryz.zeroValue5
 t9 := Tryz.underlying9
 a9 := Tryz.isAgg9
 z9 := Tryz.sizeOf9
 v9 := Tryz.zeroValue9
 t20 := Tryz.underlying20
 a20 := Tryz.isAgg20
 z20 := Tryz.sizeOf20
 v20 := Tryz.zeroValue20
 t37 := Tryz.underlying31
 a37 := Tryz.isAgg31
 z37 := Tryz.sizeOf31
 v37 := Tryz.zeroValue31
 t46 := Tryz.underlying211
 a46 := Tryz.isAgg211
 z46 := Tryz.sizeOf211
 v46 := Tryz.zeroValue211
 t51 := Tryz.underlying234
 a51 := Tryz.isAgg234
 z51 := Tryz.sizeOf234
 v51 := Tryz.zeroValue234
 t53 := Tryz.underlying266
 a53 := Tryz.isAgg266
 z53 := Tryz.sizeOf266
 v53 := Tryz.zeroValue266
 t171 := Tryz.underlying301
 a171 := Tryz.isAgg301
 z171 := Tryz.sizeOf301
 v171 := Tryz.zeroValue301
 t173 := Tryz.underlying302
 a173 := Tryz.isAgg302
 z173 := Tryz.sizeOf302
 v173 := Tryz.zeroValue302
 t212 := Tryz.underlying305
 a212 := Tryz.isAgg305
 z212 := Tryz.sizeOf305
 v212 := Tryz.zeroValue305
 t213 := Tryz.underlying306
 a213 := Tryz.isAgg306
 z213 := Tryz.sizeOf306
 t232 := Tryz.underlying39
 a232 := Tryz.isAgg39
 z232 := Tryz.sizeOf39
 v232 := Tryz.zeroValue39
 t233 := Tryz.underlying269
 a233 := Tryz.isAgg269
 z233 := Tryz.sizeOf269
 v233 := Tryz.zeroValue269
 g17 := by kernel_rfl
 g18 := by kernel_rfl
 g19 := by kernel_rfl }
open Go.RowKit Go.Sort Go.Lib in
theorem strconv_Itoa_small (i : Nat) (hi : i < 100) (w : World) :
  Calls Tryz.prog 197 #[.int .i64 i] w fun e w' => e = .returned (.string ⟨(Lib.decDigits i).toArray⟩) ∧ w' = w := Any.strconv_Itoa_small lays171 i hi w
end Go.Proofs.YtkejfdgmdjfdoaaGreatDoor.Ft
namespace Go.Proofs.YtkejfdgmdjfdoaaGreatDoor.Ft
open Go.RowKit
theorem info61 : (Tryz.prog.info? 309).map (·.size) = some 2 := by kernel_rfl
theorem lies61 : liesAt Tryz.prog Tryz.prog.depth 309 (2 / Tryz.prog.cellsOf 309) 0 309 1 = true := by kernel_rfl
theorem infoByte : (Tryz.prog.info? 5).map (fun i => (i.zero, i.size, i.bytes)) = some (some (.int .u8 0), 1, 1) := by kernel_rfl
theorem copyCheck_used (b : Nat) (w : World) (h0 : w.cell? ⟨b, 0, none⟩ = some (.pointer (some ⟨b, 0, none⟩))) :
  Calls Tryz.prog 214 #[.pointer (some ⟨b, 0, none⟩)] w fun e w' => e = .returned (.tuple #[]) ∧ w' = w := by
 obtain ⟨j, hj, _⟩ := Option.map_eq_some_iff.1 info61
 go_enter Tryz.func214, Tryz.ntmps214
 go_wp2
 rw [Lib.run_neq_ptr_same w _ Tryz.underlying307 hj]
 go_wp2
 go_end0
 exact ⟨rfl, rfl⟩
theorem copyCheck_fresh (b : Nat) (w : World) (h0 : w.cell? ⟨b, 0, none⟩ = some (.pointer none)) (hsh : w.shape? b = some (309, 2)) (hfz : w.frozen? ⟨b, 0, none⟩ = false) :
  Calls Tryz.prog 214 #[.pointer (some ⟨b, 0, none⟩)] w fun e w' => e = .returned (.tuple #[]) ∧ w' = w.setCell ⟨b, 0, none⟩ (.pointer (some ⟨b, 0, none⟩)) := by
 obtain ⟨j, hj, hjs⟩ := Option.map_eq_some_iff.1 info61
 go_enter Tryz.func214, Tryz.ntmps214
 go_wp2
 rw [Lib.run_to_unsafe w ⟨b, 0, none⟩ Tryz.underlying307 Tryz.underlying165 hj (by rw [hjs]; decide) hsh (Nat.zero_lt_succ 1)]
 simp only [Result.andThen]
 rw [Oper.upon_value]
 go_wp2
 rw [run_callFunc_extern Tryz.func216 (by kernel_rfl) (by kernel_rfl) (by kernel_rfl) (e := Extern.AbiNoEscape.same) (by kernel_rfl)]
 rw [Lib.run_noEscape]
 simp only [Result.andThen]
 rw [Oper.upon_value]
 go_wp2
 rw [Lib.run_from_unsafe w ⟨b, 0, none⟩ Tryz.underlying165 Tryz.underlying307 hj hsh lies61]
 simp only [Result.andThen]
 rw [Oper.upon_value]
 go_wp2
 go_end0
 exact ⟨rfl, rfl⟩
theorem copyCheck_c (B b : Nat) (bs : List Value) (w : World) (h : Lib.IsBuilder 309 5 B b bs w) :
  Calls Tryz.prog 214 #[.pointer (some ⟨b, 0, none⟩)] w fun e w' => e = .returned (.tuple #[]) ∧ (Lib.BuilderAt 309 5 B b (.pointer (some ⟨b, 0, none⟩)) bs w' ∧ Below B w w') := by
 rcases h with h | h
 ·refine (copyCheck_fresh b w h.cell0 h.shape h.frozen0).mono ?_
  rintro e w' ⟨rfl, rfl⟩
  exact ⟨rfl, h.used _, (Below.refl B w).setCell (p := ⟨b, 0, none⟩) h.1 _⟩
 ·refine (copyCheck_used b w h.cell0).mono ?_
  rintro e w' ⟨rfl, rfl⟩
  exact ⟨rfl, h, Below.refl B _⟩
theorem write_c (B b : Nat) (bs : List Value) (s : ByteArray) (w : World) (h : Lib.IsBuilder 309 5 B b bs w) (hlen : bs.length + s.size ≤ 140737488355328) (hBw : B ≤ w.heap.size) :
  Calls Tryz.prog 211 #[.pointer (some ⟨b, 0, none⟩), .string s] w fun e w' => e = .returned (.tuple #[.int .i64 s.size, .nilIface]) ∧ (Lib.BuilderAt 309 5 B b (.pointer (some ⟨b, 0, none⟩)) (bs ++ Lib.strCells s) w' ∧ Below B w w') := by
 obtain ⟨i0, hi, hz0, hz1, hz2⟩ := info_parts infoByte
 go_enter Tryz.func211, Tryz.ntmps211
 go_wp2_with (go_at_call 214; refine (copyCheck_c B b bs _ h).mono ?_)
 rintro e w1 ⟨rfl, h1, hb1⟩
 obtain ⟨hB, v, hbk, hown, hne⟩ := h1
 have c0 : w1.cell? ⟨b, 0, none⟩ = some (.pointer (some ⟨b, 0, none⟩)) := by rw [Lib.cell_of_heap hbk]; rfl
 have c1 : w1.cell? ⟨b, 1, none⟩ = some v := by rw [Lib.cell_of_heap hbk]; rfl
 go_wp2_with (at_builtin; refine Lib.wpList_append_own_string _ rfl _ _ 31 9 rfl B 5 i0 Tryz.underlying31 Tryz.underlying9 hi hz0 hz1 hz2 _ _ _ rfl hown s rfl ?c3 ?c4 ?c5 ?_)
 case c3 => unfold maxLen; omega
 case c4 => omega
 case c5 => have := hb1.size; omega
 intro v' w2 hown' hgrow _
 have hlt : b < w1.heap.size := lt_of_heap hbk
 have hb2 : w2.heap[b]? = some (.cells #[.pointer (some ⟨b, 0, none⟩), v] 309 (0, 0)) := by
  rw [hgrow.block b hlt (fun e => hne e.symm)]
  exact hbk
 have d0 : w2.cell? ⟨b, 0, none⟩ = some (.pointer (some ⟨b, 0, none⟩)) := by rw [Lib.cell_of_heap hb2]; rfl
 have d1 : w2.cell? ⟨b, 1, none⟩ = some v := by rw [Lib.cell_of_heap hb2]; rfl
 have f1 : w2.frozen? ⟨b, 1, none⟩ = false := Lib.frozen_of_heap hb2 1
 obtain ⟨ao, n', cap, rfl⟩ : ∃ ao n' cap, v' = .slice ao n' cap := by
  rcases hown'.2 with ⟨hv, _⟩ | ⟨g, cap, cur, hv, _⟩
  ·exact ⟨_, _, _, hv⟩
  ·exact ⟨_, _, _, hv⟩
 go_wp2
 go_ret2
 refine ⟨rfl, ?_, ?_⟩
 ·exact Lib.BuilderAt.put (T := 309) (e := 5) hB hb2 (bs' := bs ++ Lib.strCells s) (by simpa [Lib.strCells_length] using hown') (by decide)
 ·exact (hb1.grown hgrow (by have := hb1.size; omega) (fun k hk => (hown.lt k hk).1)).setCell (p := ⟨b, 1, none⟩) hB _
end Go.Proofs.YtkejfdgmdjfdoaaGreatDoor.Ft
namespace Go.Proofs.YtkejfdgmdjfdoaaGreatDoor.Ft
open Go.RowKit
theorem info44 : (Tryz.prog.info? 142).map (fun i => (i.zero, i.size, i.bytes)) = some (some (.pointer none), 1, 8) := by kernel_rfl
def Other (v : Value) : Prop := v = .nilIface ∨ (∃ c : Int, v = .iface 24 (.int .i64 c))
def OwnP (w : World) (B : Nat) (v : Value) (l : List Fr) : Prop := w.ownsRow B 142 1 v l.length (l.map Fr.p)
theorem OwnP.nil (w : World) (B : Nat) : OwnP w B (.slice none 0 0) [] := ⟨rfl, .inl ⟨rfl, rfl⟩⟩
theorem OwnP.below {w w' : World} {B : Nat} {v : Value} {l : List Fr} (h : OwnP w B v l) (hb : Below w.heap.size w w') : OwnP w' B v l := by
 obtain ⟨h0, h | ⟨g, cap, cur, rfl, hg, hh, hr⟩⟩ := h
 ·exact ⟨h0, .inl h⟩
 ·exact ⟨h0, .inr ⟨g, cap, cur, rfl, hg, by rw [hb.block g (lt_of_heap hh)]; exact hh, hr⟩⟩
theorem OwnP.ge {w : World} {B : Nat} {v : Value} {l : List Fr} (h : OwnP w B v l) : ∀ k, v.ownBlock = some k → B ≤ k := fun k hk => by
 obtain ⟨_, h | ⟨g, cap, cur, rfl, hg, _⟩⟩ := h
 ·obtain ⟨rfl, _⟩ := h; simp [Value.ownBlock] at hk
 ·simp [Value.ownBlock] at hk; omega
theorem OwnP.row {w : World} {B : Nat} {v : Value} {l : List Fr} (h : OwnP w B v l) : ∃ A c, v = .slice A l.length c ∧ l.length ≤ c ∧
  ∀ j f, l[j]? = some f → ∃ g, A = some ⟨g, 0, none⟩ ∧ w.cell? ⟨g, j, none⟩ = some (.pointer (some ⟨f.b, 0, none⟩)) := by
 obtain ⟨h0, ⟨rfl, h⟩ | ⟨g, cap, cur, rfl, hg, hh, hn, hc, hs, ht⟩⟩ := h
 ·refine ⟨none, 0, by rw [h], by omega, fun j f hj => ?_⟩
  have : l = [] := List.length_eq_zero_iff.1 h
  subst this; simp at hj
 ·refine ⟨_, _, rfl, hn, fun j f hj => ⟨g, rfl, ?_⟩⟩
  rw [cell_of_cells hh, ← Array.getElem?_toList]
  have hlt : j < l.length := (List.getElem?_eq_some_iff.1 hj).1
  have : (cur.toList.take (l.length * 1))[j]? = some (Fr.p f) := by rw [ht]; simp [hj]
  rw [List.getElem?_take_of_lt (by omega)] at this
  exact this
theorem wpList_pushP {ops : Array Oper} {rest : List Oper} {o : Oper} {a : Act} {w : World} {Q : Exit → Act → World → Prop} (hgd : o.guard = none) (s x : Operand)
  (ho : o.op = .call { callee := .builtin .append, args := #[s, x], argTypes := #[146, 146] }) (B : Nat) (v : Value) (l : List Fr) (hs : a.eval s = v) (hown : OwnP w B v l) (g : Nat) (y : Fr)
  (hx : a.eval x = .slice (some ⟨g, 0, none⟩) 1 1) (hk : w.cell? ⟨g, 0, none⟩ = some (.pointer (some ⟨y.b, 0, none⟩))) (hl : l.length ≤ 400000) (hB : B ≤ w.heap.size)
  (h : ∀ v' w', OwnP w' B v' (l ++ [y]) → Below B w w' → wpList Tryz.prog ops Q rest (a.put o.dst v') w') : wpList Tryz.prog ops Q (o :: rest) a w := by
 obtain ⟨i0, hi, hz0, hz1, hz2⟩ := info_parts info44
 refine wpList_append_own (w := w) hgd s x 146 ho B 142 i0 (.pointer none) 1 8 Tryz.underlying146 hi hz0 hz1 hz2 rfl (by decide) v l.length (l.map Fr.p) hs hown ⟨g, 0, none⟩ 1 1 [y.p] hx rfl
  (fun j u hj => ?_) (fun u hu => ?_) (by unfold maxLen; omega) (by omega) hB fun v' w' h1 h2 _ => h v' w' ?_ ?_
 ·match j, hj with
  | 0, hj => simp at hj; subst hj; simpa [Addr.add, Fr.p] using hk
 ·simp at hu; subst hu; rfl
 ·unfold OwnP
  rw [List.map_append, List.length_append]
  simpa using h1
 ·exact (Below.refl _ _).grown h2 hB hown.ge
def ApartPost (w : World) (leaf : Value) (fs : List Fr) (e : Ending) (w' : World) : Prop := ∃ v, e = .returned (.tuple #[v, leaf]) ∧ OwnP w' w.heap.size v fs ∧ Below w.heap.size w w'
theorem apart_c (fs : List Fr) (leaf v : Value) (w : World) (h : Chain w leaf fs v) (hleaf : Other leaf) (hl : fs.length ≤ 400000) :
  Calls Tryz.prog 77 #[v] w (ApartPost w leaf fs) := by
 go_enter Tryz.func77, Tryz.ntmps77
 go_wp2
 go_loopg [0, 2, 3] fs.length (fun gg err out _ wr => ∃ m : Nat, m ≤ fs.length ∧ fs.length - m = gg ∧ Chain w leaf (fs.drop m) err ∧ OwnP wr w.heap.size out (fs.take m) ∧ Below w.heap.size w wr)
 case atStart => exact ⟨0, by omega, by omega, by simpa using h, OwnP.nil w _, Below.refl _ _⟩
 case round =>
  obtain ⟨m, hm, rfl, hC, hO, hB⟩ := hrel
  by_cases hlt : m < fs.length
  ·obtain ⟨f, hf⟩ : ∃ f, fs[m]? = some f := ⟨_, List.getElem?_eq_getElem hlt⟩
   have hd : fs.drop m = f :: fs.drop (m + 1) := by
    rw [List.drop_eq_getElem_cons hlt]; congr 1; rw [List.getElem?_eq_getElem hlt] at hf; exact Option.some.inj hf
   have ht : fs.take (m + 1) = fs.take m ++ [f] := by rw [List.take_add_one, hf]; rfl
   rw [hd] at hC
   obtain ⟨rfl, v', hh, hC'⟩ := hC
   have HT := Lib.hid ht
   have HO := Lib.hid hO
   have HB := Lib.hid hB
   have HC := Lib.hid hC'
   have HH := Lib.hid hh
   have HF := Lib.hid hf
   have HL := Lib.hid h
   have hlo : (fs.take m).length ≤ 400000 := by simp; omega
   clear ht hO hB hC' hd hh hf h
   go_wp2_with (at_builtin; refine wpList_pushP rfl _ _ rfl w.heap.size _ _ rfl (OwnP.below HO.out ((Below.refl _ _).alloc (Nat.le_refl _) _)) wr.heap.size f rfl ?c1 hlo ?c2 ?_)
   case c1 => simp
   case c2 => have := HB.out.size; simp; omega
   intro v2 w2 hO2 hB2
   have hB3 : Below w.heap.size w w2 := (HB.out.trans ((Below.refl w.heap.size wr).alloc HB.out.size _)).trans hB2
   have hh2 : w2.heap[f.b]? = some (.cells #[.string f.op, .int .i64 f.n, v'] 145 (0, 0)) := by rw [hB3.block _ (lt_of_heap HH.out)]; exact HH.out
   rw [← HT.out] at hO2
   have HO2 := Lib.hid hO2
   have HB3 := Lib.hid hB3
   have HH2 := Lib.hid hh2
   clear hO2 hB2 hB3 hh2
   go_wp2_with (go_at_call 114; refine (unwrap_c f.b _ _ v' _ HH2.out).mono ?_; rintro e w' ⟨rfl, rfl⟩)
   go_roundg (fs.length - (m + 1))
   case measure => omega
   case rel => exact ⟨m + 1, by omega, rfl, HC.out, HO2.out, HB3.out⟩
  ·have hmm : m = fs.length := by omega
   subst hmm
   rw [List.drop_length] at hC
   obtain rfl : _ = leaf := hC
   rw [List.take_length] at hO
   have HO := Lib.hid hO
   have HB := Lib.hid hB
   clear hO hB h
   rcases hleaf with rfl | ⟨c, rfl⟩
   all_goals
    go_wp2
    go_ret2
    exact ⟨_, rfl, HO.out, HB.out⟩
end Go.Proofs.YtkejfdgmdjfdoaaGreatDoor.Ft
namespace Go.Proofs.YtkejfdgmdjfdoaaGreatDoor.Ft
open Go.RowKit
theorem coded_some (fs : List Fr) (c : Int) (v : Value) (w : World) (h : Chain w (.iface 24 (.int .i64 c)) fs v) (hl : fs.length ≤ 400000) :
  Calls Tryz.prog 57 #[v] w fun e w' => e = .returned v ∧ Below w.heap.size w w' := by
 have H := Lib.hid h
 clear h
 go_enter Tryz.func57, Tryz.ntmps57
 go_wp2_with (go_at_call 77; refine (apart_c fs _ v _ H.out (.inr ⟨c, rfl⟩) hl).mono ?_; rintro e w1 ⟨s, rfl, hO, hB⟩; have HB := Lib.hid hB; clear hB hO)
 go_ret
 exact ⟨rfl, HB.out⟩
theorem first_some (b : Nat) (op : ByteArray) (n : Int) (v' : Value) (w : World) (h : w.heap[b]? = some (.cells #[.string op, .int .i64 n, v'] 145 (0, 0))) :
  Calls Tryz.prog 50 #[.iface 142 (.pointer (some ⟨b, 0, none⟩))] w fun e w' => e = .returned (.tuple #[.string op, .int .i64 n, .bool true]) ∧ Below w.heap.size w w' := by
 have c0 : w.cell? ⟨b, 0, none⟩ = some (.string op) := by rw [cell_of_cells h]; rfl
 have c1 : w.cell? ⟨b, 1, none⟩ = some (.int .i64 n) := by rw [cell_of_cells h]; rfl
 clear h
 go_enter Tryz.func50, Tryz.ntmps50
 go_wp2
 go_quiet (fail)
 go_wp2
 go_ret3
 exact ⟨rfl, below_drewN (Below.refl _ _) _⟩
end Go.Proofs.YtkejfdgmdjfdoaaGreatDoor.Ft
namespace Go.Proofs.YtkejfdgmdjfdoaaGreatDoor.Ft
open Go.RowKit
theorem Chain.fault {w : World} {leaf : Value} : ∀ {fs : List Fr} {v : Value}, Chain w leaf fs v → ∀ (j : Nat) (f : Fr), fs[j]? = some f → ∃ v', w.heap[f.b]? = some (.cells #[.string f.op, .int .i64 f.n, v'] 145 (0, 0))
 | [], _, _, j, f, h => by simp at h
 | a :: r, v, hc, j, f, h => by
  obtain ⟨h1, v', h2, h3⟩ := hc
  cases j with
  | zero => simp at h; subst h; exact ⟨v', h2⟩
  | succ j => exact Chain.fault h3 j f (by simpa using h)
theorem info9 : (Tryz.prog.info? 9).map (fun i => (i.zero, i.size, i.bytes)) = some (some (.string ⟨#[]⟩), 1, 16) := by kernel_rfl
def opCells (fs : List Fr) (k : Nat) : Array Value := ((fs.take k).map (fun f : Fr => Value.string f.op) ++ List.replicate (fs.length - k) (Value.string ⟨#[]⟩)).toArray
theorem opCells_zero (fs : List Fr) : madeCells #[Value.string ⟨#[]⟩] fs.length = opCells fs 0 := by
 apply Array.ext_getElem?
 intro j
 rcases Nat.lt_or_ge j fs.length with h | h
 ·simp [opCells, madeCells, h, Nat.mod_one]
 ·rw [Array.getElem?_eq_none (by rw [size_madeCells]; omega), Array.getElem?_eq_none (by simp [opCells]; omega)]
theorem opCells_set (fs : List Fr) (k : Nat) (f : Fr) (h : fs[k]? = some f) : (opCells fs k).setIfInBounds k (.string f.op) = opCells fs (k + 1) := by
 have hlt := (List.getElem?_eq_some_iff.1 h).1
 have hr : fs.length - k = (fs.length - (k + 1)) + 1 := by omega
 unfold opCells
 rw [List.take_add_one, h, hr, List.replicate_succ]
 apply Array.ext'
 simp only [List.setIfInBounds_toArray, Option.toList_some, List.map_append, List.map_cons, List.map_nil, List.append_assoc, List.cons_append, List.nil_append]
 rw [List.set_append_right _ _ (by simp; omega)]
 have : k - min k fs.length = 0 := by omega
 simp [this]
theorem opCells_size (fs : List Fr) (k : Nat) (hk : k ≤ fs.length) : (opCells fs k).size = fs.length := by simp [opCells]; omega
def OpsPost (w : World) (fs : List Fr) (e : Ending) (w' : World) : Prop :=
 ∃ g, e = .returned (.slice (some ⟨g, 0, none⟩) fs.length fs.length) ∧ w'.heap[g]? = some (.cells (opCells fs fs.length) 9 (0, 0)) ∧ Below w.heap.size w w'
theorem ops_c (fs : List Fr) (leaf v : Value) (w : World) (h : Chain w leaf fs v) (hleaf : Other leaf) (hl : fs.length ≤ 400000) :
  Calls Tryz.prog 51 #[v] w (OpsPost w fs) := by
 obtain ⟨i9, hi9, hz9, hs9, hb9⟩ := info_parts info9
 have HH := Lib.hid h
 have HO := Lib.hid hleaf
 clear h hleaf
 go_enter Tryz.func51, Tryz.ntmps51
 go_wp2_with (go_at_call 77; refine (apart_c fs leaf v _ HH.out HO.out hl).mono ?_)
 rintro e w1 ⟨s, rfl, hP, hB⟩
 obtain ⟨A, c, rfl, hlc, hA⟩ := hP.row
 have HA := Lib.hid hA
 have HP := Lib.hid hP
 have HB := Lib.hid hB
 clear hA hP hB
 go_wp2_with (refine wpList_make_row _ rfl _ _ 107 rfl 9 i9 (.string ⟨#[]⟩) Tryz.underlying107 hi9 hz9 hs9 rfl .i64 .i64 fs.length rfl rfl ?b1 ?b2 ?_)
 case b1 => rw [hb9]; omega
 case b2 => omega
 rw [opCells_zero]
 obtain ⟨W, hW⟩ : ∃ W, W = w1.alloc (.cells (opCells fs 0) 9) := ⟨_, rfl⟩
 have hz : W.heap[w1.heap.size]? = some (.cells (opCells fs 0) 9 (0, 0)) := by rw [hW]; exact heap_alloc_new w1 _
 have hB2 : Below w1.heap.size w1 W := by rw [hW]; exact (Below.refl _ _).alloc (Nat.le_refl _) _
 rw [← hW]
 have HZ := Lib.hid hz
 have HB2 := Lib.hid hB2
 clear hW hz hB2
 go_wp2_with fail
 go_loopg [18] fs.length (fun gg i wr => ∃ k : Nat, i = .int .i64 k ∧ k ≤ fs.length ∧ fs.length - k = gg ∧ wr.heap[w1.heap.size]? = some (.cells (opCells fs k) 9 (0, 0)) ∧ Below w1.heap.size w1 wr)
 case atStart => exact ⟨0, rfl, by omega, by omega, HZ.out, HB2.out⟩
 case round =>
  obtain ⟨k, rfl, hk, rfl, hz, hB⟩ := hrel
  by_cases hlt : k < fs.length
  ·obtain ⟨f, hf⟩ : ∃ f, fs[k]? = some f := ⟨_, List.getElem?_eq_getElem hlt⟩
   obtain ⟨g, rfl, hg⟩ := HA.out k f hf
   obtain ⟨v', hv⟩ := HH.out.fault k f hf
   have hglt : g < w1.heap.size := lt_of_cell hg
   have c1 : wr.cell? ⟨g, k, none⟩ = some (.pointer (some ⟨f.b, 0, none⟩)) := by rw [hB.cell (p := ⟨g, k, none⟩) hglt]; exact hg
   have hv2 : wr.heap[f.b]? = some (.cells #[.string f.op, .int .i64 f.n, v'] 145 (0, 0)) := by
    rw [hB.block _ (Nat.lt_of_lt_of_le (lt_of_heap hv) HB.out.size), HB.out.block _ (lt_of_heap hv)]; exact hv
   have c2 : wr.cell? ⟨f.b, 0, none⟩ = some (.string f.op) := by rw [cell_of_cells hv2]; rfl
   have f3 : wr.frozen? ⟨w1.heap.size, k, none⟩ = false := by simp [World.frozen?, hz]
   have c3 : ∃ old, wr.cell? ⟨w1.heap.size, k, none⟩ = some old := ⟨_, by rw [cell_of_cells hz]; exact Array.getElem?_eq_getElem (by rw [opCells_size fs k hk]; exact hlt)⟩
   obtain ⟨old, c3⟩ := c3
   have hn : (wr.setCell ⟨w1.heap.size, k, none⟩ (.string f.op)).heap[w1.heap.size]? = some (.cells (opCells fs (k + 1)) 9 (0, 0)) := by
    rw [← opCells_set fs k f hf]; simp [World.setCell, Array.getElem?_modify, hz]
   have hn2 : Below w1.heap.size w1 (wr.setCell ⟨w1.heap.size, k, none⟩ (.string f.op)) := hB.setCell (p := ⟨w1.heap.size, k, none⟩) (Nat.le_refl _) _
   have HN := Lib.hid hn
   have HN2 := Lib.hid hn2
   have HF := Lib.hid hf
   clear hz hB hn hn2 hf hg hv hv2
   go_wp2
   go_roundg (fs.length - (k + 1))
   case measure => omega
   case rel => exact ⟨k + 1, by go_num, by omega, rfl, HN.out, HN2.out⟩
  ·have hkk : k = fs.length := by omega
   subst hkk
   have HN := Lib.hid hz
   have HN2 := Lib.hid hB
   clear hz hB
   go_wp2
   go_ret
   exact ⟨_, rfl, HN.out, HB.out.trans (HN2.out.mono HB.out.size)⟩
end Go.Proofs.YtkejfdgmdjfdoaaGreatDoor.Ft
namespace Go.Proofs.YtkejfdgmdjfdoaaGreatDoor.Ft
structure St where
 op : ByteArray
 n : Int
def frag (s : St) : List UInt8 := s.op.data.toList ++ ([32] ++ (Lib.itoa s.n ++ [58, 32]))
def textL : List St → List UInt8 → List UInt8
 | [], t => t
 | s :: r, t => frag s ++ textL r t
theorem textL_flat (a : List St) (t : List UInt8) : textL a t = a.flatMap frag ++ t := by
 induction a with
 | nil => rfl
 | cons s r ih => simp [textL, ih]
def errText (c : Int) : List UInt8 := [101, 114, 114, 111, 114, 32] ++ Lib.itoa c
theorem decDigits_len (u : Nat) : (Lib.decDigits u).length = Lib.nDigits u := by rw [Lib.decDigits_eq]; simp
theorem nDigits_le : ∀ (k u : Nat), u < 10 ^ (k + 1) → Lib.nDigits u ≤ k + 1
 | 0, u, h => by rw [Lib.nDigits_small (by simpa using h)]; omega
 | k + 1, u, h => by
  by_cases hu : u < 10
  ·rw [Lib.nDigits_small hu]; omega
  ·rw [Lib.nDigits_big hu]
   have := nDigits_le k (u / 10) (by rw [Nat.pow_succ] at h; omega)
   omega
theorem itoa_len (n : Int) (h0 : -9223372036854775808 ≤ n) (h1 : n ≤ 9223372036854775807) : (Lib.itoa n).length ≤ 21 := by
 unfold Lib.itoa
 split
 ·rw [List.length_cons, decDigits_len]
  have := nDigits_le 19 n.natAbs (by have : (10 : Nat) ^ (19 + 1) = 100000000000000000000 := by decide
                                     omega)
  omega
 ·rw [decDigits_len]
  have := nDigits_le 19 n.toNat (by have : (10 : Nat) ^ (19 + 1) = 100000000000000000000 := by decide
                                    omega)
  omega
def Fits (l : List St) : Prop := ∀ s ∈ l, -9223372036854775808 ≤ s.n ∧ s.n ≤ 9223372036854775807 ∧ s.op.size ≤ 5000
theorem frag_len {l : List St} (h : Fits l) {s : St} (hs : s ∈ l) : (frag s).length ≤ 5030 := by
 obtain ⟨h0, h1, h2⟩ := h s hs
 have := itoa_len s.n h0 h1
 have h3 : s.op.data.toList.length = s.op.size := Array.length_toList
 unfold frag
 rw [List.length_append, List.length_append, List.length_append, h3]
 simp only [List.length_cons, List.length_nil]
 omega
theorem flat_len : ∀ (l : List St), Fits l → (l.flatMap frag).length ≤ 5030 * l.length
 | [], _ => by simp
 | s :: r, h => by
  have h1 := frag_len h (s := s) (by simp)
  have h2 := flat_len r (fun x hx => h x (by simp [hx]))
  simp only [List.flatMap_cons, List.length_append, List.length_cons]
  omega
end Go.Proofs.YtkejfdgmdjfdoaaGreatDoor.Ft
namespace Go.Proofs.YtkejfdgmdjfdoaaGreatDoor.Ft
open Go.RowKit
def SA (w : World) (A : Option Addr) (l : List St) : Prop := ∀ j s, l[j]? = some s → ∃ b o, A = some ⟨b, o, none⟩ ∧ w.cell? ⟨b, o + j * 2, none⟩ = some (.string s.op) ∧ w.cell? ⟨b, o + j * 2 + 1, none⟩ = some (.int .i64 s.n)
theorem SA.below {w w' : World} {A : Option Addr} {l : List St} (h : SA w A l) (hb : Below w.heap.size w w') : SA w' A l := fun j s hj => by
 obtain ⟨b, o, rfl, h1, h2⟩ := h j s hj
 exact ⟨b, o, rfl, by rw [hb.cell (lt_of_cell h1)]; exact h1, by rw [hb.cell (lt_of_cell h2)]; exact h2⟩
def Fr.st (f : Fr) : St := ⟨f.op, f.n⟩
end Go.Proofs.YtkejfdgmdjfdoaaGreatDoor.Ft
namespace Go.Proofs.YtkejfdgmdjfdoaaGreatDoor.Ft
open Go.RowKit Go.Extern.Stop Go.Stop Go.Extern
@[go_sem] theorem ta94_44 (v : Value) (w : World) : (Instr.typeAssert (.iface 142 v) 44 253 true).run Tryz.prog w = .ok (.tuple #[.nilIface, .bool false]) w := run_typeAssert_lacksB Tryz.underlying253 (by kernel_rfl) (by kernel_rfl) v 44 w
@[go_sem] theorem ta94_31 (v : Value) (w : World) : (Instr.typeAssert (.iface 24 v) 44 253 true).run Tryz.prog w = .ok (.tuple #[.nilIface, .bool false]) w := run_typeAssert_lacksB Tryz.underlying253 (by kernel_rfl) (by kernel_rfl) v 44 w
@[go_sem] theorem ta90_44 (v : Value) (w : World) : (Instr.typeAssert (.iface 142 v) 44 229 true).run Tryz.prog w = .ok (.tuple #[.iface 142 v, .bool true]) w := run_typeAssert_hasB Tryz.underlying229 (by kernel_rfl) v 44 w
@[go_sem] theorem ta90_31 (v : Value) (w : World) : (Instr.typeAssert (.iface 24 v) 44 229 true).run Tryz.prog w = .ok (.tuple #[.nilIface, .bool false]) w := run_typeAssert_lacksB Tryz.underlying229 (by kernel_rfl) (by kernel_rfl) v 44 w
@[go_sem] theorem ta91_31 (v : Value) (w : World) : (Instr.typeAssert (.iface 24 v) 44 230 true).run Tryz.prog w = .ok (.tuple #[.nilIface, .bool false]) w := run_typeAssert_lacksB Tryz.underlying230 (by kernel_rfl) (by kernel_rfl) v 44 w
@[go_sem] theorem eq_44_31 (x y : Value) (w : World) : (binOp .eql 44 (.iface 142 x) (.iface 24 y)).run Tryz.prog w = .ok (.bool false) w := run_eql_iface_types 142 24 x y Tryz.underlying44 (by decide) w
@[go_sem] theorem eq_nil_31 (x : Value) (w : World) : (binOp .eql 44 .nilIface (.iface 24 x)).run Tryz.prog w = .ok (.bool false) w := by kernel_rfl
theorem eq_31_31 (c e : Int) (w : World) : (binOp .eql 44 (.iface 24 (.int .i64 c)) (.iface 24 (.int .i64 e))).run Tryz.prog w = .ok (.bool (c == e)) w := by
 kernel_rfl
theorem m_unwrap (h : Value) (w : World) : (Go.method 428 142 h "Unwrap").run Tryz.prog w = .ok (114, h) w := by kernel_rfl
theorem na_unwrap (a : Addr) (w : World) : (nilAhead 428 142 (.pointer (some a)) "Unwrap").run Tryz.prog w = .ok (some false) w := by kernel_rfl
theorem eis_c (fs : List Fr) (c x : Int) (v : Value) (w : World) (h : Chain w (.iface 24 (.int .i64 c)) fs v) :
  Calls Tryz.prog 116 #[v, .iface 24 (.int .i64 x), .bool true] w fun e w' => e = .returned (.bool (c == x)) ∧ Below w.heap.size w w' := by
 go_enter Tryz.func116, Tryz.ntmps116
 go_wp2
 go_loopg [0] fs.length (fun gg err wr => ∃ gs : List Fr, gs.length = gg ∧ Chain wr (.iface 24 (.int .i64 c)) gs err ∧ Below w.heap.size w wr)
 case atStart => exact ⟨fs, rfl, h, Below.refl _ _⟩
 case round =>
  obtain ⟨gs, rfl, hC, hB⟩ := hrel
  have HB := Lib.hid hB
  clear hB h
  cases gs with
  | nil =>
   obtain rfl : _ = Value.iface 24 (.int .i64 c) := hC
   have heq := eq_31_31 c x wr
   go_wp2
   ·have hx : (c == x) = true := by assumption
    go_ret
    exact ⟨ret_bool hx.symm, HB.out⟩
   ·have hx : (c == x) = false := by assumption
    go_ret
    exact ⟨ret_bool hx.symm, HB.out⟩
  | cons f r =>
   obtain ⟨rfl, v', hh, hC'⟩ := hC
   obtain ⟨t, y, rfl⟩ := hC'.iface
   have HH := Lib.hid hh
   have HC := Lib.hid hC'
   clear hh hC'
   have mU := m_unwrap
   have nU := na_unwrap
   go_wp2_with (go_at_call 114; refine (unwrap_c f.b _ _ _ _ HH.out).mono ?_; rintro e w' ⟨rfl, rfl⟩)
   go_roundg r.length
   case measure => simp
   case rel => exact ⟨r, rfl, HC.out, HB.out⟩
theorem typeOf31 (v : Value) (w : World) : (ReflectliteType.typeOf #[.iface 24 v]).run Tryz.prog w = .ok (.iface 222 (.agg #[.pointer (some ⟨6, 24, none⟩)])) w := by kernel_rfl
theorem na_comparable (h : Value) (w : World) : (nilAhead 428 222 (.agg #[h]) "Comparable").run Tryz.prog w = .ok (some false) w := by kernel_rfl
theorem comparable31 (w : World) : (ReflectliteType.method (fun t => do Rtype.noPackHeld "Comparable" t; pure (.bool (← typeInfo t).comparable)) #[.agg #[.pointer (some ⟨6, 24, none⟩)]]).run Tryz.prog w = .ok (.bool true) w := by kernel_rfl
theorem m_comparable (h : Value) (w : World) : (Go.method 428 222 (.agg #[h]) "Comparable").run Tryz.prog w = .ok (224, .agg #[h]) w := by kernel_rfl
theorem call_typeOf31 (v : Value) (w : World) : (callFunc 115 #[.iface 24 v]).run Tryz.prog w = .ok (.value (.iface 222 (.agg #[.pointer (some ⟨6, 24, none⟩)]))) w := by
 rw [@run_callFunc_extern Tryz.prog 115 _ ReflectliteType.typeOf Tryz.func115 (by kernel_rfl) (by kernel_rfl) (by kernel_rfl) (by kernel_rfl), typeOf31]
 rfl
theorem call_comparable31 (w : World) : (callFunc 224 #[.agg #[.pointer (some ⟨6, 24, none⟩)]]).run Tryz.prog w = .ok (.value (.bool true)) w := by
 rw [@run_callFunc_extern Tryz.prog 224 _ (ReflectliteType.method (fun t => do Rtype.noPackHeld "Comparable" t; pure (.bool (← typeInfo t).comparable))) Tryz.func224 (by kernel_rfl) (by kernel_rfl) (by kernel_rfl) (by kernel_rfl), comparable31]
 rfl
theorem errIs_c (fs : List Fr) (c x : Int) (v : Value) (w : World) (h : Chain w (.iface 24 (.int .i64 c)) fs v) :
  Calls Tryz.prog 78 #[v, .iface 24 (.int .i64 x)] w fun e w' => e = .returned (.bool (c == x)) ∧ Below w.heap.size w w' := by
 obtain ⟨t, y, rfl⟩ := h.iface
 have H := Lib.hid h
 clear h
 have h33 := call_typeOf31
 have h78 := call_comparable31
 have mC := m_comparable
 have nC := na_comparable
 go_enter Tryz.func78, Tryz.ntmps78
 go_wp2_with (go_at_call 116; refine (eis_c fs c x _ _ H.out).mono ?_; rintro e w1 ⟨rfl, hB⟩; have HB := Lib.hid hB; clear hB)
 go_ret
 exact ⟨rfl, HB.out⟩
end Go.Proofs.YtkejfdgmdjfdoaaGreatDoor.Ft
namespace Go.Proofs.YtkejfdgmdjfdoaaGreatDoor.Ft
open Go.RowKit Go.Extern.Stop Go.Stop Go.Extern
def hd (t : Nat) : Value := .agg #[.pointer (some ⟨6, t, none⟩)]
theorem x_typeOf44 (v : Value) (w : World) : (ReflectliteType.typeOf #[.iface 142 v]).run Tryz.prog w = .ok (.iface 222 (.agg #[.pointer (some ⟨6, 142, none⟩)])) w := by kernel_rfl
theorem call_typeOf44 (v : Value) (w : World) : (callFunc 115 #[.iface 142 v]).run Tryz.prog w = .ok (.value (.iface 222 (.agg #[.pointer (some ⟨6, 142, none⟩)]))) w := by
 rw [@run_callFunc_extern Tryz.prog 115 _ ReflectliteType.typeOf Tryz.func115 (by kernel_rfl) (by kernel_rfl) (by kernel_rfl) (by kernel_rfl), x_typeOf44]; rfl
theorem x_valueOf52 (t : Addr) (w : World) : (ReflectliteValue.unpack (.iface 119 (.pointer (some t)))).run Tryz.prog w
  = .ok (.agg #[.pointer (some ⟨6, 119, none⟩), .pointer (some ⟨w.heap.size, 0, none⟩), .int .u64 150]) (w.alloc (.cells #[.pointer (some t)] 119)) := by kernel_rfl
theorem call_valueOf52 (t : Addr) (w : World) : (callFunc 86 #[.iface 119 (.pointer (some t))]).run Tryz.prog w
  = .ok (.value (.agg #[.pointer (some ⟨6, 119, none⟩), .pointer (some ⟨w.heap.size, 0, none⟩), .int .u64 150])) (w.alloc (.cells #[.pointer (some t)] 119)) := by
 rw [@run_callFunc_extern Tryz.prog 86 _ (fun args => ReflectliteValue.unpack (args.getD 0 (.tuple #[]))) Tryz.func86 (by kernel_rfl) (by kernel_rfl) (by kernel_rfl) (by kernel_rfl)]
 show (Sem.run Tryz.prog (ReflectliteValue.unpack (.iface 119 (.pointer (some t)))) w).andThen _ = _
 rw [x_valueOf52]; rfl
theorem x_valueOf31 (c : Int) (w : World) : (ReflectliteValue.unpack (.iface 24 (.int .i64 c))).run Tryz.prog w
  = .ok (.agg #[.pointer (some ⟨6, 24, none⟩), .pointer (some ⟨w.heap.size, 0, none⟩), .int .u64 130]) (w.alloc (.cells #[.int .i64 c] 24)) := by kernel_rfl
theorem call_valueOf31 (c : Int) (w : World) : (callFunc 86 #[.iface 24 (.int .i64 c)]).run Tryz.prog w
  = .ok (.value (.agg #[.pointer (some ⟨6, 24, none⟩), .pointer (some ⟨w.heap.size, 0, none⟩), .int .u64 130])) (w.alloc (.cells #[.int .i64 c] 24)) := by
 rw [@run_callFunc_extern Tryz.prog 86 _ (fun args => ReflectliteValue.unpack (args.getD 0 (.tuple #[]))) Tryz.func86 (by kernel_rfl) (by kernel_rfl) (by kernel_rfl) (by kernel_rfl)]
 show (Sem.run Tryz.prog (ReflectliteValue.unpack (.iface 24 (.int .i64 c))) w).andThen _ = _
 rw [x_valueOf31]; rfl
theorem x_type52 (a : Addr) (w : World) : (ReflectliteValue.methodAny (ReflectliteValue.valueError "reflectlite.Value.Type" 0) (fun t _ _ _ => ReflectliteType.toType t) #[.agg #[.pointer (some ⟨6, 119, none⟩), .pointer (some a), .int .u64 150]]).run Tryz.prog w
  = .ok (.iface 222 (.agg #[.pointer (some ⟨6, 119, none⟩)])) w := by kernel_rfl
theorem call_type52 (a : Addr) (w : World) : (callFunc 87 #[.agg #[.pointer (some ⟨6, 119, none⟩), .pointer (some a), .int .u64 150]]).run Tryz.prog w
  = .ok (.value (.iface 222 (.agg #[.pointer (some ⟨6, 119, none⟩)]))) w := by
 rw [@run_callFunc_extern Tryz.prog 87 _ (ReflectliteValue.methodAny (ReflectliteValue.valueError "reflectlite.Value.Type" 0) (fun t _ _ _ => ReflectliteType.toType t)) Tryz.func87 (by kernel_rfl) (by kernel_rfl) (by kernel_rfl) (by kernel_rfl), x_type52]; rfl
theorem m_kind (h : Value) (w : World) : (Go.method 428 222 (.agg #[h]) "Kind").run Tryz.prog w = .ok (193, h) w := by kernel_rfl
theorem x_kind52 (w : World) : ((ReflectliteType.abiMethod fun t => do pure (.int .u8 (← Rtype.kind t))) #[.pointer (some ⟨6, 119, none⟩)]).run Tryz.prog w = .ok (.int .u8 22) w := by kernel_rfl
theorem x_kind31 (w : World) : ((ReflectliteType.abiMethod fun t => do pure (.int .u8 (← Rtype.kind t))) #[.pointer (some ⟨6, 24, none⟩)]).run Tryz.prog w = .ok (.int .u8 2) w := by kernel_rfl
theorem call_kind52 (w : World) : (callFunc 193 #[.pointer (some ⟨6, 119, none⟩)]).run Tryz.prog w = .ok (.value (.int .u8 22)) w := by
 rw [@run_callFunc_extern Tryz.prog 193 _ (ReflectliteType.abiMethod fun t => do pure (.int .u8 (← Rtype.kind t))) Tryz.func193 (by kernel_rfl) (by kernel_rfl) (by kernel_rfl) (by kernel_rfl), x_kind52]; rfl
theorem call_kind31 (w : World) : (callFunc 193 #[.pointer (some ⟨6, 24, none⟩)]).run Tryz.prog w = .ok (.value (.int .u8 2)) w := by
 rw [@run_callFunc_extern Tryz.prog 193 _ (ReflectliteType.abiMethod fun t => do pure (.int .u8 (← Rtype.kind t))) Tryz.func193 (by kernel_rfl) (by kernel_rfl) (by kernel_rfl) (by kernel_rfl), x_kind31]; rfl
theorem rlm (z : Sem Value) (f : TypeId → Addr → Nat → Nat → Sem Value) (v : Value) :
  ReflectliteValue.method z f #[v] = (do match ← ReflectliteValue.parts v with | none => z | some (t, a, fl) => f t a fl (fl % 32)) := rfl
theorem parts52 (a : Addr) (w : World) : (ReflectliteValue.parts (.agg #[.pointer (some ⟨6, 119, none⟩), .pointer (some a), .int .u64 150])).run Tryz.prog w = .ok (some (119, a, 150)) w := by kernel_rfl
theorem x_isNil52 (a p : Addr) (W : World) (ha : W.cell? a = some (.pointer (some p))) :
  (ReflectliteValue.method (ReflectliteValue.valueError "reflectlite.Value.IsNil" 0) ReflectliteValue.isNil #[.agg #[.pointer (some ⟨6, 119, none⟩), .pointer (some a), .int .u64 150]]).run Tryz.prog W = .ok (.bool false) W := by
 rw [rlm]
 simp only [Sem.run_bind, parts52, Result.andThen]
 simp [ReflectliteValue.isNil, loadVar, isAgg, underlying, Tryz.underlying119, ha, Result.andThen]
theorem call_isNil52 (a p : Addr) (W : World) (ha : W.cell? a = some (.pointer (some p))) :
  (callFunc 88 #[.agg #[.pointer (some ⟨6, 119, none⟩), .pointer (some a), .int .u64 150]]).run Tryz.prog W = .ok (.value (.bool false)) W := by
 rw [@run_callFunc_extern Tryz.prog 88 _ (ReflectliteValue.method (ReflectliteValue.valueError "reflectlite.Value.IsNil" 0) ReflectliteValue.isNil) Tryz.func88 (by kernel_rfl) (by kernel_rfl) (by kernel_rfl) (by kernel_rfl), x_isNil52 a p W ha]; rfl
theorem m_elem (h : Value) (w : World) : (Go.method 428 222 (.agg #[h]) "Elem").run Tryz.prog w = .ok (225, .agg #[h]) w := by kernel_rfl
theorem m_implements (h : Value) (w : World) : (Go.method 428 222 (.agg #[h]) "Implements").run Tryz.prog w = .ok (226, .agg #[h]) w := by kernel_rfl
theorem m_assignable (h : Value) (w : World) : (Go.method 428 222 (.agg #[h]) "AssignableTo").run Tryz.prog w = .ok (223, .agg #[h]) w := by kernel_rfl
theorem x_elem52 (w : World) : (ReflectliteType.method ReflectliteType.elem #[.agg #[.pointer (some ⟨6, 119, none⟩)]]).run Tryz.prog w = .ok (.iface 222 (.agg #[.pointer (some ⟨6, 24, none⟩)])) w := by kernel_rfl
theorem call_elem52 (w : World) : (callFunc 225 #[.agg #[.pointer (some ⟨6, 119, none⟩)]]).run Tryz.prog w = .ok (.value (.iface 222 (.agg #[.pointer (some ⟨6, 24, none⟩)]))) w := by
 rw [@run_callFunc_extern Tryz.prog 225 _ (ReflectliteType.method ReflectliteType.elem) Tryz.func225 (by kernel_rfl) (by kernel_rfl) (by kernel_rfl) (by kernel_rfl), x_elem52]; rfl
theorem x_implements31 (w : World) : (ReflectliteType.relation "Implements" ReflectliteType.implements_ #[.agg #[.pointer (some ⟨6, 24, none⟩)], .iface 222 (.agg #[.pointer (some ⟨6, 44, none⟩)])]).run Tryz.prog w = .ok (.bool true) w := by kernel_rfl
theorem call_implements31 (w : World) : (callFunc 226 #[.agg #[.pointer (some ⟨6, 24, none⟩)], .iface 222 (.agg #[.pointer (some ⟨6, 44, none⟩)])]).run Tryz.prog w = .ok (.value (.bool true)) w := by
 rw [@run_callFunc_extern Tryz.prog 226 _ (ReflectliteType.relation "Implements" ReflectliteType.implements_) Tryz.func226 (by kernel_rfl) (by kernel_rfl) (by kernel_rfl) (by kernel_rfl), x_implements31]; rfl
theorem x_assignable31 (w : World) : (ReflectliteType.relation "AssignableTo" ReflectliteType.assignableTo #[.agg #[.pointer (some ⟨6, 24, none⟩)], .iface 222 (.agg #[.pointer (some ⟨6, 24, none⟩)])]).run Tryz.prog w = .ok (.bool true) w := by kernel_rfl
theorem x_assignable44 (w : World) : (ReflectliteType.relation "AssignableTo" ReflectliteType.assignableTo #[.agg #[.pointer (some ⟨6, 142, none⟩)], .iface 222 (.agg #[.pointer (some ⟨6, 24, none⟩)])]).run Tryz.prog w = .ok (.bool false) w := by kernel_rfl
theorem call_assignable31 (w : World) : (callFunc 223 #[.agg #[.pointer (some ⟨6, 24, none⟩)], .iface 222 (.agg #[.pointer (some ⟨6, 24, none⟩)])]).run Tryz.prog w = .ok (.value (.bool true)) w := by
 rw [@run_callFunc_extern Tryz.prog 223 _ (ReflectliteType.relation "AssignableTo" ReflectliteType.assignableTo) Tryz.func223 (by kernel_rfl) (by kernel_rfl) (by kernel_rfl) (by kernel_rfl), x_assignable31]; rfl
theorem call_assignable44 (w : World) : (callFunc 223 #[.agg #[.pointer (some ⟨6, 142, none⟩)], .iface 222 (.agg #[.pointer (some ⟨6, 24, none⟩)])]).run Tryz.prog w = .ok (.value (.bool false)) w := by
 rw [@run_callFunc_extern Tryz.prog 223 _ (ReflectliteType.relation "AssignableTo" ReflectliteType.assignableTo) Tryz.func223 (by kernel_rfl) (by kernel_rfl) (by kernel_rfl) (by kernel_rfl), x_assignable44]; rfl
theorem elemOf52 (w : World) : (Rtype.elem? 119).run Tryz.prog w = .ok (some 24) w := by kernel_rfl
theorem mk31 (p : Addr) (w : World) : (ReflectliteValue.mk 24 p ReflectliteValue.flagAddr).run Tryz.prog w = .ok (.agg #[.pointer (some ⟨6, 24, none⟩), .pointer (some p), .int .u64 386]) w := by kernel_rfl
theorem x_elemV52 (a p : Addr) (W : World) (ha : W.cell? a = some (.pointer (some p))) :
  (ReflectliteValue.method (ReflectliteValue.valueError "reflectlite.Value.Elem" 0) ReflectliteValue.elem #[.agg #[.pointer (some ⟨6, 119, none⟩), .pointer (some a), .int .u64 150]]).run Tryz.prog W
   = .ok (.agg #[.pointer (some ⟨6, 24, none⟩), .pointer (some p), .int .u64 386]) W := by
 rw [rlm]
 simp only [Sem.run_bind, parts52, Result.andThen]
 simp [ReflectliteValue.elem, loadVar, isAgg, underlying, Tryz.underlying119, ha, Result.andThen, elemOf52, mk31]
theorem call_elemV52 (a p : Addr) (W : World) (ha : W.cell? a = some (.pointer (some p))) :
  (callFunc 127 #[.agg #[.pointer (some ⟨6, 119, none⟩), .pointer (some a), .int .u64 150]]).run Tryz.prog W
   = .ok (.value (.agg #[.pointer (some ⟨6, 24, none⟩), .pointer (some p), .int .u64 386])) W := by
 rw [@run_callFunc_extern Tryz.prog 127 _ (ReflectliteValue.method (ReflectliteValue.valueError "reflectlite.Value.Elem" 0) ReflectliteValue.elem) Tryz.func127 (by kernel_rfl) (by kernel_rfl) (by kernel_rfl) (by kernel_rfl), x_elemV52 a p W ha]; rfl
theorem rls (v x : Value) : ReflectliteValue.set #[v, x] = (do
  let (some (dst, a, fl), some (src, b, _)) := (← ReflectliteValue.parts v, ← ReflectliteValue.parts x)
   | unsupported (.noEntry "extern/(internal/reflectlite.Value).Set.zeroValue")
  if fl / ReflectliteValue.flagAddr % 2 == 0 then unsupported (.noEntry "extern/(internal/reflectlite.Value).Set.unaddressable")
  let val ← loadVar src b
  if ← Rtype.directlyAssignable dst src then storeVar dst a val
  else if ← Rtype.implements dst src then
   if (← Rtype.kind src) == 20 then
    match val with
    | .nilIface => unsupported (.noEntry "extern/reflectlite: a nil value of one interface type handed on as a value of another")
    | _ => storeVar dst a val
   else storeVar dst a (.iface src val)
  else panicString ("reflectlite.Set: value of type " ++ (← Rtype.spelt src) ++ " is not assignable to type " ++ (← Rtype.spelt dst))
  pure (.tuple #[])) := rfl
theorem parts31a (a : Addr) (w : World) : (ReflectliteValue.parts (.agg #[.pointer (some ⟨6, 24, none⟩), .pointer (some a), .int .u64 386])).run Tryz.prog w = .ok (some (24, a, 386)) w := by kernel_rfl
theorem parts31 (a : Addr) (w : World) : (ReflectliteValue.parts (.agg #[.pointer (some ⟨6, 24, none⟩), .pointer (some a), .int .u64 130])).run Tryz.prog w = .ok (some (24, a, 130)) w := by kernel_rfl
theorem direct31 (w : World) : (Rtype.directlyAssignable 24 24).run Tryz.prog w = .ok true w := by kernel_rfl
theorem x_set31 (ta b : Addr) (c : Int) (old : Value) (W : World) (hb : W.cell? b = some (.int .i64 c)) (ht : W.cell? ta = some old) (hf : W.frozen? ta = false) :
  (ReflectliteValue.set #[.agg #[.pointer (some ⟨6, 24, none⟩), .pointer (some ta), .int .u64 386], .agg #[.pointer (some ⟨6, 24, none⟩), .pointer (some b), .int .u64 130]]).run Tryz.prog W
   = .ok (.tuple #[]) (W.setCell ta (.int .i64 c)) := by
 rw [rls]
 simp only [Sem.run_bind, parts31a, parts31, Result.andThen]
 simp [ReflectliteValue.flagAddr, loadVar, isAgg, underlying, Tryz.underlying24, hb, Result.andThen, direct31, storeVar, Value.cells, storeCells, Addr.add]
 rw [run_store Tryz.prog W ta _ _ (by rfl)]
 simp [ht, hf]
theorem call_set31 (ta b : Addr) (c : Int) (old : Value) (W : World) (hb : W.cell? b = some (.int .i64 c)) (ht : W.cell? ta = some old) (hf : W.frozen? ta = false) :
  (callFunc 128 #[.agg #[.pointer (some ⟨6, 24, none⟩), .pointer (some ta), .int .u64 386], .agg #[.pointer (some ⟨6, 24, none⟩), .pointer (some b), .int .u64 130]]).run Tryz.prog W
   = .ok (.value (.tuple #[])) (W.setCell ta (.int .i64 c)) := by
 rw [@run_callFunc_extern Tryz.prog 128 _ ReflectliteValue.set Tryz.func128 (by kernel_rfl) (by kernel_rfl) (by kernel_rfl) (by kernel_rfl), x_set31 ta b c old W hb ht hf]; rfl
end Go.Proofs.YtkejfdgmdjfdoaaGreatDoor.Ft
namespace Go.Proofs.YtkejfdgmdjfdoaaGreatDoor.Ft
open Go.RowKit Go.Extern.Stop Go.Stop Go.Extern
@[go_sem] theorem ta87_44 (v : Value) (w : World) : (Instr.typeAssert (.iface 142 v) 44 226 true).run Tryz.prog w = .ok (.tuple #[.nilIface, .bool false]) w := run_typeAssert_lacksB Tryz.underlying226 (by kernel_rfl) (by kernel_rfl) v 44 w
def AsPost (w : World) (b : Nat) (c : Int) (e : Ending) (w' : World) : Prop := e = .returned (.bool true) ∧ w'.cell? ⟨b, 0, none⟩ = some (.int .i64 c) ∧ Below b w w'
theorem eas_c (fs : List Fr) (c : Int) (v tgt old : Value) (g b : Nat) (w : World) (h : Chain w (.iface 24 (.int .i64 c)) fs v) (hg : w.heap[g]? = some (.cells #[.pointer (some ⟨b, 0, none⟩)] 119 (0, 0)))
  (hb : w.heap[b]? = some (.cells #[old] 24 (0, 0))) :
  Calls Tryz.prog 89 #[v, tgt, .agg #[.pointer (some ⟨6, 119, none⟩), .pointer (some ⟨g, 0, none⟩), .int .u64 150], .iface 222 (.agg #[.pointer (some ⟨6, 24, none⟩)])] w (AsPost w b c) := by
 obtain ⟨W, hW⟩ : ∃ W, W = w.alloc (.cells #[.pointer (some ⟨6, 119, none⟩), .pointer (some ⟨g, 0, none⟩), .int .u64 150] 168) := ⟨_, rfl⟩
 have hbW : Below w.heap.size w W := by rw [hW]; exact (Below.refl _ _).alloc (Nat.le_refl _) _
 have h6 : W.heap[w.heap.size]? = some (.cells #[.pointer (some ⟨6, 119, none⟩), .pointer (some ⟨g, 0, none⟩), .int .u64 150] 168 (0, 0)) := by rw [hW]; exact heap_alloc_new w _
 have hg1 : W.heap[g]? = some (.cells #[.pointer (some ⟨b, 0, none⟩)] 119 (0, 0)) := by rw [hbW.block _ (lt_of_heap hg)]; exact hg
 have hb1 : W.heap[b]? = some (.cells #[old] 24 (0, 0)) := by rw [hbW.block _ (lt_of_heap hb)]; exact hb
 have hC1 := h.below hbW
 have hlt : b < w.heap.size := lt_of_heap hb
 have H6 := Lib.hid h6
 have HG := Lib.hid hg1
 have HB := Lib.hid hb1
 have HC := Lib.hid hC1
 have HW := Lib.hid hbW
 have HWW := Lib.hid hW
 clear h6 hg1 hb1 hC1 hbW h hg hb
 go_enter Tryz.func89, Tryz.ntmps89
 go_wp2
 rw [← HWW.out]
 clear hW
 go_loopg [0] fs.length (fun gg err wr => ∃ gs : List Fr, gs.length = gg ∧ Chain W (.iface 24 (.int .i64 c)) gs err ∧ wr = W)
 case atStart => exact ⟨fs, rfl, HC.out, rfl⟩
 case round =>
  obtain ⟨gs, rfl, hC, rfl⟩ := hrel
  have t44 := call_typeOf44
  have t31 := call_typeOf31
  have mA := m_assignable
  have nA : ∀ (h : Value) (w : World), (nilAhead 428 222 (.agg #[h]) "AssignableTo").run Tryz.prog w = .ok (some false) w := fun _ _ => by kernel_rfl
  cases gs with
  | nil =>
   obtain rfl : _ = Value.iface 24 (.int .i64 c) := hC
   have a31 := call_assignable31
   have v31 := call_valueOf31
   have c0 : wr.cell? ⟨w.heap.size, 0, none⟩ = some (.pointer (some ⟨6, 119, none⟩)) := by rw [cell_of_cells H6.out]; rfl
   have c1 : wr.cell? ⟨w.heap.size, 1, none⟩ = some (.pointer (some ⟨g, 0, none⟩)) := by rw [cell_of_cells H6.out]; rfl
   have c2 : wr.cell? ⟨w.heap.size, 2, none⟩ = some (.int .u64 150) := by rw [cell_of_cells H6.out]; rfl
   have eV := call_elemV52 ⟨g, 0, none⟩ ⟨b, 0, none⟩ wr (by rw [cell_of_cells HG.out]; rfl)
   have hblt : b < wr.heap.size := lt_of_heap HB.out
   have hb2 : (wr.alloc (.cells #[.int .i64 c] 24)).heap[b]? = some (.cells #[old] 24 (0, 0)) := by rw [Below.heap_alloc _ _ _ hblt]; exact HB.out
   have sV := call_set31 ⟨b, 0, none⟩ ⟨wr.heap.size, 0, none⟩ c old (wr.alloc (.cells #[.int .i64 c] 24)) (by simp) (by rw [cell_of_cells hb2]; rfl) (by simp [World.frozen?, hb2])
   have HB2 := Lib.hid hb2
   have HBL := Lib.hid hblt
   clear hb2 hblt
   go_wp2
   go_ret
   refine ⟨rfl, ?_, ((HW.out.mono (Nat.le_of_lt hlt)).alloc (Nat.le_of_lt HBL.out) _).setCell (p := ⟨b, 0, none⟩) (Nat.le_refl _) _⟩
   simp [World.setCell, World.cell?, Array.getElem?_modify, HB2.out]
  | cons f r =>
   obtain ⟨rfl, v', hh, hC'⟩ := hC
   obtain ⟨t, y, rfl⟩ := hC'.iface
   have HH := Lib.hid hh
   have HC2 := Lib.hid hC'
   clear hh hC'
   have a44 := call_assignable44
   have mU := m_unwrap
   have nU := na_unwrap
   go_wp2_with (go_at_call 114; refine (unwrap_c f.b _ _ _ _ HH.out).mono ?_; rintro e w' ⟨rfl, rfl⟩)
   go_roundg r.length
   case measure => simp
   case rel => exact ⟨r, rfl, HC2.out, rfl⟩
end Go.Proofs.YtkejfdgmdjfdoaaGreatDoor.Ft
namespace Go.Proofs.YtkejfdgmdjfdoaaGreatDoor.Ft
open Go.RowKit Go.Extern.Stop Go.Stop Go.Extern
def ErrVar (w : World) : Prop := w.cell? ⟨0, 0, none⟩ = some (.iface 222 (.agg #[.pointer (some ⟨6, 44, none⟩)]))
theorem ErrVar.below {w w' : World} (h : ErrVar w) (hb : Below w.heap.size w w') : ErrVar w' := by
 unfold ErrVar
 rw [hb.cell (lt_of_cell h)]; exact h
theorem errAs_c (fs : List Fr) (c : Int) (v old : Value) (b : Nat) (w : World) (h : Chain w (.iface 24 (.int .i64 c)) fs v) (hv : ErrVar w)
  (hb : w.heap[b]? = some (.cells #[old] 24 (0, 0))) :
  Calls Tryz.prog 56 #[v, .iface 119 (.pointer (some ⟨b, 0, none⟩))] w (AsPost w b c) := by
 obtain ⟨t, y, rfl⟩ := h.iface
 obtain ⟨W, hW⟩ : ∃ W, W = (w.alloc (.cells #[.pointer (some ⟨b, 0, none⟩)] 119)).alloc (.cells #[.pointer (some ⟨6, 119, none⟩), .pointer (some ⟨w.heap.size, 0, none⟩), .int .u64 150] 168) := ⟨_, rfl⟩
 have hbW : Below w.heap.size w W := by rw [hW]; exact ((Below.refl _ _).alloc (Nat.le_refl _) _).alloc (by simp) _
 have hg : W.heap[w.heap.size]? = some (.cells #[.pointer (some ⟨b, 0, none⟩)] 119 (0, 0)) := by
  rw [hW, Below.heap_alloc _ _ _ (by simp)]; exact heap_alloc_new w _
 have hb1 : W.heap[b]? = some (.cells #[old] 24 (0, 0)) := by rw [hbW.block _ (lt_of_heap hb)]; exact hb
 have hC := h.below hbW
 have hlt : b < w.heap.size := lt_of_heap hb
 have e0 := hv.below hbW
 unfold ErrVar at e0
 have n8 := call_isNil52 ⟨w.heap.size, 0, none⟩ ⟨b, 0, none⟩ W (by rw [cell_of_cells hg]; rfl)
 rw [hW] at e0 n8
 have HG := Lib.hid hg
 have HB := Lib.hid hb1
 have HC := Lib.hid hC
 have HW := Lib.hid hbW
 have HWW := Lib.hid hW
 clear hg hb1 hC hbW hW h hv hb
 have v52 := call_valueOf52
 have t52 := call_type52
 have mK := m_kind
 have k52 := call_kind52
 have k31 := call_kind31
 have mE := m_elem
 have el := call_elem52
 have mI := m_implements
 have im := call_implements31
 have nA : ∀ (h : Value) (w : World), (nilAhead 428 222 (.agg #[h]) "Kind").run Tryz.prog w = .ok (some false) w := fun _ _ => by kernel_rfl
 go_enter Tryz.func56, Tryz.ntmps56
 go_wp2_with fail
 rw [← HWW.out]
 clear v52 t52 mK k52 k31 mE el mI im nA n8 e0
 refine (eas_c fs c _ _ old w.heap.size b W HC.out HG.out HB.out).mono ?_
 rintro e w1 ⟨rfl, hc, hB⟩
 have HB2 := Lib.hid hB
 have HC2 := Lib.hid hc
 clear hB hc
 go_wp2
 go_ret
 exact ⟨rfl, HC2.out, (HW.out.mono (Nat.le_of_lt hlt)).trans HB2.out⟩
theorem code_some (fs : List Fr) (c : Int) (v : Value) (w : World) (h : Chain w (.iface 24 (.int .i64 c)) fs v) (hv : ErrVar w) (hl : fs.length ≤ 400000) :
  Calls Tryz.prog 33 #[v] w fun e w' => e = .returned (.int .i64 c) ∧ Below w.heap.size w w' := by
 obtain ⟨t, y, rfl⟩ := h.iface
 have hB0 : Below w.heap.size w (w.alloc (.cells #[.int .i64 0] 24)) := (Below.refl _ _).alloc (Nat.le_refl _) _
 have hb0 : (w.alloc (.cells #[.int .i64 0] 24)).heap[w.heap.size]? = some (.cells #[.int .i64 0] 24 (0, 0)) := heap_alloc_new w _
 have HC := Lib.hid (h.below hB0)
 have HV := Lib.hid (hv.below hB0)
 have HB0 := Lib.hid hB0
 have Hb0 := Lib.hid hb0
 clear h hv hB0 hb0
 go_enter Tryz.func33, Tryz.ntmps33
 go_wp2_with (go_at_call 57; refine (coded_some fs c _ _ HC.out hl).mono ?_; rintro e w1 ⟨rfl, hB⟩; have HB1 := Lib.hid hB; clear hB)
 have hb1 : w1.heap[w.heap.size]? = some (.cells #[.int .i64 0] 24 (0, 0)) := by rw [HB1.out.block _ (lt_of_heap Hb0.out)]; exact Hb0.out
 have Hb1 := Lib.hid hb1
 clear hb1
 go_wp2_with (go_at_call 56; refine (errAs_c fs c _ (.int .i64 0) w.heap.size _ (HC.out.below HB1.out) (HV.out.below HB1.out) Hb1.out).mono ?_; rintro e w2 ⟨rfl, hc, hB⟩; have HB2 := Lib.hid hB; clear hB)
 go_wp2
 go_ret
 exact ⟨rfl, (HB0.out.trans (HB1.out.mono (by simp))).trans HB2.out⟩
end Go.Proofs.YtkejfdgmdjfdoaaGreatDoor.Ft
namespace Go.Proofs.YtkejfdgmdjfdoaaGreatDoor.Ft
open Go.RowKit
def Tab (w : World) : Prop := Lib.TabIs Tryz.prog w "internal/strconv.uint64pow10" .u64 Lib.pow10Tab
theorem Tab.below {w w' : World} (h : Tab w) (hb : Below w.heap.size w w') : Tab w' := Lib.tabBelow_of_tabIs h w' hb
def Dig (w : World) (n : Int) : Prop := (∃ i : Nat, i < 100 ∧ n = i) ∨ ((-9223372036854775808 ≤ n ∧ n ≤ 9223372036854775807) ∧ Tab w)
theorem Dig.below {w w' : World} {n : Int} (h : Dig w n) (hb : Below w.heap.size w w') : Dig w' n := h.imp id fun ⟨a, b⟩ => ⟨a, b.below hb⟩
theorem Dig.bound {w : World} {n : Int} (h : Dig w n) : -9223372036854775808 ≤ n ∧ n ≤ 9223372036854775807 := by
 rcases h with ⟨i, hi, rfl⟩ | ⟨h, _⟩
 ·omega
 ·exact h
theorem Dig.len {w : World} {n : Int} (h : Dig w n) : (Lib.itoa n).length ≤ 21 := itoa_len n h.bound.1 h.bound.2
theorem below_grow (w : World) (os : Array Obj) : Below w.heap.size w (Sort.grow w os) :=
 ⟨rfl, rfl, rfl, by simp [Sort.grow], fun k hk => by simp [Sort.grow, Array.getElem?_append_left hk]⟩
theorem itoa_c (n : Int) (w : World) (h : Dig w n) : Calls Tryz.prog 197 #[.int .i64 n] w fun e w' => e = .returned (.string ⟨(Lib.itoa n).toArray⟩) ∧ Below w.heap.size w w' := by
 rcases h with ⟨i, hi, rfl⟩ | ⟨⟨h0, h1⟩, ht⟩
 ·refine (strconv_Itoa_small i hi w).mono ?_
  rintro e w' ⟨rfl, rfl⟩
  refine ⟨?_, Below.refl _ _⟩
  have : Lib.itoa (i : Int) = Lib.decDigits i := by unfold Lib.itoa; rw [if_neg (by omega)]; rfl
  rw [this]
 ·refine (strconv_Itoa n h0 h1 w ht).mono ?_
  rintro e w' ⟨rfl, k, os, rfl⟩
  exact ⟨rfl, (below_drewN (Below.refl _ _) k).trans (below_grow (w.drewN k) os)⟩
theorem ba_app (a : Array UInt8) (l : List UInt8) : (⟨a⟩ : ByteArray) ++ ⟨l.toArray⟩ = ⟨(a.toList ++ l).toArray⟩ := by
 apply ByteArray.ext
 simp
theorem errno_c (c : Int) (w : World) (h : Dig w c) : Calls Tryz.prog 196 #[.int .i64 c] w fun e w' => e = .returned (.string ⟨(errText c).toArray⟩) ∧ Below w.heap.size w w' := by
 have hl := h.len
 have H := Lib.hid h
 clear h
 go_enter Tryz.func196, Tryz.ntmps196
 go_wp2_with (go_at_call 197; refine (itoa_c c _ H.out).mono ?_; rintro e w1 ⟨rfl, hB⟩; have HB := Lib.hid hB; clear hB)
 go_ret
 exact ⟨ret_str (by rw [ba_app]; rfl), HB.out⟩
end Go.Proofs.YtkejfdgmdjfdoaaGreatDoor.Ft
