/- Arguments opened; what the listed variables give; a world for the witness. -/
import Derived.Test.YtnmjcfpmljahcaaDoorT
import Derived.ProofKit
import Derived.OpenShut
import Derived.Deep.Slices
import Derived.Deep.Fields
import Derived.Deep.MidRow
import Derived.Carry
import Derived.ChangeSlices
import Derived.ChangeSame
import Derived.ChangeVars
import Derived.ChangeMaps5
import Derived.JoinedOf
import Derived.LaidLaws
import Derived.LaidHandle
import Derived.Lib.SmallJoins
import Derived.Lib.LaidTab
import Derived.Stop.Joined
import Derived.Stop.LaidErr
namespace Go.Proofs.YtnmjcfpmljahcaaDoor
open Go.ChangeShapes Go.WideShapes Go.ChangeAt Go.RowKit Go.Joins Go.Deep
variable {H : Type} {enc : TypeId × Value → H}

theorem cells40 : Tryd.prog.cellsOf 40 = 2 := by kernel_rfl
theorem one40 : oneCellFields Tryd.prog #[{ name := "Op", type := 9, offset := 0, embedded := false, tag := "", pkgPath := "", byteOffset := 0 }, { name := "At", type := 3, offset := 1, embedded := false, tag := "", pkgPath := "", byteOffset := 16 }] = true := by kernel_rfl
theorem cells9 : Tryd.prog.cellsOf 9 = 1 := by kernel_rfl
theorem cells3 : Tryd.prog.cellsOf 3 = 1 := by kernel_rfl
theorem laidOut : laidOutB Tryd.prog = true := by kernel_rfl
theorem own : ownKnob Tryd.prog.godebug = none := by kernel_rfl

set_option maxRecDepth 100000 in
theorem step_of_trod {w : World} {base : Nat} {sp : Nat → Bool} {held : Bool} {fuel : Nat} {cs : List Value} {y : DataW H × List MemPlace}
    (hf : DataW.trod enc Tryd.prog w base sp held fuel 40 cs = some y) (hl : cs.length = 2) : ∃ s : St, cs = [.string s.op, .int .i64 s.n] ∧ y.2 = [] ∧ s.op.size ≤ maxLen ∧ (-9223372036854775808 ≤ s.n ∧ s.n ≤ 9223372036854775807) := by
  obtain ⟨c0, c1, rfl⟩ : ∃ a b, cs = [a, b] := by
    match cs, hl with
    | [a, b], _ => exact ⟨a, b, rfl⟩
  obtain ⟨xs, n, _, hx, _, hlen, hg⟩ := DataW.trod_struct Tryd.underlying40 hf
  obtain ⟨o0, k0⟩ := hone_of one40 0 _ rfl
  obtain ⟨o1, k1⟩ := hone_of one40 1 _ rfl
  match xs, hlen with
  | [y0, y1], _ =>
    have h0 : DataW.trod enc Tryd.prog w base sp held n 9 [c0] = some y0 := by simpa [o0, k0, cells9] using hg 0 _ rfl
    have h1 : DataW.trod enc Tryd.prog w base sp held n 3 [c1] = some y1 := by simpa [o1, k1, cells3] using hg 1 _ rfl
    obtain ⟨s, e0, rfl, hs⟩ := DataW.trod_string Tryd.underlying9 h0
    obtain ⟨m, e1, rfl, hw⟩ := DataW.trod_int Tryd.underlying3 h1
    obtain rfl : c0 = .string s := by simpa using e0
    obtain rfl : c1 = .int .i64 m := by simpa using e1
    exact ⟨⟨s, m⟩, rfl, by rw [hx]; rfl, hs, bounds_i64 hw⟩

set_option maxRecDepth 100000 in
theorem open_step {W : World} {base b0 : Nat} {sp : Nat → Bool} {held : Bool} {v : Value} {d : DataW H} {ps : List MemPlace}
    (hok : Value.okWide Tryd.prog W .any b0 40 v) (h : DataW.Trod enc Tryd.prog W base sp held 40 v d ps) : ∃ s : St, v = .agg #[.string s.op, .int .i64 s.n] ∧ ps = [] ∧ s.op.size ≤ maxLen := by
  obtain ⟨cs, rfl, hsz⟩ := okWide_struct Tryd.underlying40 hok
  rw [cells40] at hsz
  obtain ⟨fuel, hf⟩ := h
  obtain ⟨s, h1, h2, h3, _⟩ := step_of_trod hf (by rw [show (Value.agg cs).cells.toList = cs.toList from rfl, Array.length_toList, hsz])
  refine ⟨s, ?_, h2, h3⟩
  have : cs.toList = (#[Value.string s.op, .int .i64 s.n] : Array Value).toList := h1
  rw [Array.toList_inj.1 this]

set_option maxRecDepth 100000 in
theorem open_steps {W : World} {base b0 : Nat} {sp : Nat → Bool} {held : Bool} {v : Value} {d : DataW H} {ps : List MemPlace}
    (hok : Value.okWide Tryd.prog W .any b0 22 v) (h : DataW.Trod enc Tryd.prog W base sp held 22 v d ps) :
    ∃ A c l, v = .slice A (List.length l) c ∧ SA W A l ∧ l.length ≤ maxLen ∧ ∀ s ∈ l, -9223372036854775808 ≤ s.n ∧ s.n ≤ 9223372036854775807 := by
  obtain ⟨a1, len, cap, rfl⟩ := okWide_slice Tryd.underlying22 hok
  obtain ⟨fuel, hf⟩ := h
  rcases Go.Deep.open_slice Tryd.underlying22 hf with ⟨hcs, hx⟩ | ⟨a, len', cap', m, n, D, Pl, hcs, _, hl, hm, hmm, hx, hat⟩
  · simp [Value.cells] at hcs
    obtain ⟨rfl, rfl, rfl⟩ := hcs
    exact ⟨none, 0, [], rfl, fun j s hj => by simp at hj, Nat.zero_le _, fun s hs => by simp at hs⟩
  · simp [Value.cells] at hcs
    obtain ⟨rfl, rfl, rfl⟩ := hcs
    rw [cells40] at hat
    have hlm : len ≤ m := by rw [hmm]; split <;> omega
    have each : ∀ j, j < len → ∃ s : St, W.cell? ((a.add (j * 2)).add 0) = some (.string s.op) ∧ W.cell? ((a.add (j * 2)).add 1) = some (.int .i64 s.n) ∧ (-9223372036854775808 ≤ s.n ∧ s.n ≤ 9223372036854775807) := fun j hj => by
      obtain ⟨cs', h1, h2⟩ := hat j (by omega)
      obtain ⟨_, h3, h4⟩ := World.cells?_some h1
      obtain ⟨s, rfl, _, _, hb⟩ := step_of_trod h2 h3
      exact ⟨s, by rw [h4 0 (by decide)]; rfl, by rw [h4 1 (by decide)]; rfl, hb⟩
    refine ⟨some a, cap, (List.range len).map fun j => if h : j < len then Classical.choose (each j h) else ⟨⟨#[]⟩, 0⟩, by simp, fun j x hj => ?_, by simp; omega, fun s hs => ?_⟩
    · have hjl : j < len := by
        have := (List.getElem?_eq_some_iff.1 hj).1
        simpa using this
      rw [List.getElem?_map, List.getElem?_range hjl, Option.map_some, dif_pos hjl] at hj
      have hx2 : Classical.choose (each j hjl) = x := by simpa using hj
      have hk := Classical.choose_spec (each j hjl)
      rw [hx2] at hk
      have hz := (Classical.choose_spec (each 0 (by omega))).1
      obtain ⟨ab, ao, spot⟩ := a
      have hspot : spot = none := by simpa [Addr.add] using World.cell?_spot hz
      subst hspot
      refine ⟨ab, ao, rfl, ?_, ?_⟩
      · have := hk.1
        rw [Addr.add_mid, Addr.add_mid] at this
        simpa using this
      · have := hk.2.1
        rw [Addr.add_mid, Addr.add_mid] at this
        exact this
    · obtain ⟨j, hj, rfl⟩ := List.mem_map.1 hs
      have hjl : j < len := List.mem_range.1 hj
      rw [dif_pos hjl]
      exact (Classical.choose_spec (each j hjl)).2.2

/-! ### What the listed variables give -/
theorem gErr : Tryd.prog.globalNamed "errors.errorType" = some 0 := by kernel_rfl
theorem rtypeT : (Tryd.prog.cutTypes.find? (·.1 == "internal/reflectlite.rtype")).map (·.2) = some 83 := by kernel_rfl
theorem oneRow : ((List.range 142).filter fun t => Tryd.prog.rowNamed t [101, 114, 114, 111, 114]) = [26] := by kernel_rfl
theorem typesSize : Tryd.prog.types.size = 142 := by kernel_rfl
set_option maxRecDepth 100000 in
theorem errVar_of {W : World} {l : List (String × DataW Unit)} (h : handlesMet Tryd.prog l W) (hm : ("errors.errorType", Rows.laid_errors_errorType) ∈ l) : ErrVar W := by
  obtain ⟨name, u, ty, e1, e2, e3, e4, e5⟩ := h _ hm
  have en : name = [101, 114, 114, 111, 114] := (Option.some.inj e1).symm
  subst en
  obtain rfl := Option.some.inj (rtypeT.symm.trans e2)
  have hm : ty ∈ (List.range 142).filter fun t => Tryd.prog.rowNamed t [101, 114, 114, 111, 114] := List.mem_filter.2 ⟨List.mem_range.2 (by rw [← typesSize]; exact e3), e4⟩
  rw [oneRow] at hm
  obtain rfl := List.mem_singleton.1 hm
  have hh : typeHandle Tryd.prog 26 = .pointer (some ⟨4, 26, none⟩) := by kernel_rfl
  rw [hh] at e5
  have := World.var?_cell gErr e5 0
  unfold ErrVar
  rw [this]
  rfl

theorem gPow : Tryd.prog.globalNamed "internal/strconv.uint64pow10" = some 1 := by kernel_rfl
theorem gPowType : (Tryd.prog.globals[1]?).map (·.type) = some 106 := by kernel_rfl
theorem cells106 : Tryd.prog.cellsOf 106 = 20 := by kernel_rfl
theorem cells65 : Tryd.prog.cellsOf 65 = 1 := by kernel_rfl
theorem powData : (Rows.laid_internal_strconv_uint64pow10 : DataW Unit) = Lib.tabData .u64 Lib.pow10Tab := by kernel_rfl
theorem tab_of {W : World} (h : laidMet Tryd.prog [("math/bits.deBruijn32tab", Rows.laid_math_bits_deBruijn32tab), ("math/bits.deBruijn64tab", Rows.laid_math_bits_deBruijn64tab), ("internal/strconv.uint64pow10", Rows.laid_internal_strconv_uint64pow10)] W) : Tab W := by
  have h2 := laidMet.tail (laidMet.tail h)
  rw [powData] at h2
  exact Lib.tabIs_of_head (rest := []) gPow gPowType Tryd.underlying106 Tryd.underlying65 cells65 cells106 h2
/-- What the program's text lays in the two tables of package math/bits. -/
def db32 : List Int := [0, 1, 28, 2, 29, 14, 24, 3, 30, 22, 20, 15, 25, 17, 4, 8, 31, 27, 13, 23, 21, 19, 16, 7, 26, 12, 18, 6, 11, 5, 10, 9]
def db64 : List Int := [0, 1, 56, 2, 57, 49, 28, 3, 61, 58, 42, 50, 38, 29, 17, 4, 62, 47, 59, 36, 45, 43, 51, 22, 53, 39, 33, 30, 24, 18, 12, 5, 63, 55, 48, 27, 60, 41, 37, 16, 46, 35, 44, 21, 52, 32, 23, 11, 54, 26, 40, 15, 34, 20, 31, 10, 25, 14, 19, 9, 13, 8, 7, 6]
end Go.Proofs.YtnmjcfpmljahcaaDoor
