/- The contracts of apart and coded. -/
import Derived.Test.YtnmjcfpmljahcaaDoorKit
namespace Go.Proofs.YtnmjcfpmljahcaaDoor
open Go.RowKit

theorem info44 : (Tryd.prog.info? 44).map (fun i => (i.zero, i.size, i.bytes)) = some (some (.pointer none), 1, 8) := by kernel_rfl

/-- An error that is no Fault. -/
def Other (v : Value) : Prop := v = .nilIface ∨ (∃ c : Int, v = .iface 31 (.int .i64 c)) ∨ v = .iface 47 (.agg #[])

def OwnP (w : World) (B : Nat) (v : Value) (l : List Fr) : Prop := w.ownsRow B 44 1 v l.length (l.map Fr.p)
theorem OwnP.nil (w : World) (B : Nat) : OwnP w B (.slice none 0 0) [] := ⟨rfl, .inl ⟨rfl, rfl⟩⟩
theorem OwnP.below {w w' : World} {B : Nat} {v : Value} {l : List Fr} (h : OwnP w B v l) (hb : Below w.heap.size w w') : OwnP w' B v l := by
  obtain ⟨h0, h | ⟨g, cap, cur, rfl, hg, hh, hr⟩⟩ := h
  · exact ⟨h0, .inl h⟩
  · exact ⟨h0, .inr ⟨g, cap, cur, rfl, hg, by rw [hb.block g (lt_of_heap hh)]; exact hh, hr⟩⟩
theorem OwnP.ge {w : World} {B : Nat} {v : Value} {l : List Fr} (h : OwnP w B v l) : ∀ k, v.ownBlock = some k → B ≤ k := fun k hk => by
  obtain ⟨_, h | ⟨g, cap, cur, rfl, hg, _⟩⟩ := h
  · obtain ⟨rfl, _⟩ := h; simp [Value.ownBlock] at hk
  · simp [Value.ownBlock] at hk; omega
/-- What a row of Faults gives a walk. -/
theorem OwnP.row {w : World} {B : Nat} {v : Value} {l : List Fr} (h : OwnP w B v l) : ∃ A c, v = .slice A l.length c ∧ l.length ≤ c ∧
    ∀ j f, l[j]? = some f → ∃ g, A = some ⟨g, 0, none⟩ ∧ w.cell? ⟨g, j, none⟩ = some (.pointer (some ⟨f.b, 0, none⟩)) := by
  obtain ⟨h0, ⟨rfl, h⟩ | ⟨g, cap, cur, rfl, hg, hh, hn, hc, hs, ht⟩⟩ := h
  · refine ⟨none, 0, by rw [h], by omega, fun j f hj => ?_⟩
    have : l = [] := List.length_eq_zero_iff.1 h
    subst this; simp at hj
  · refine ⟨_, _, rfl, hn, fun j f hj => ⟨g, rfl, ?_⟩⟩
    rw [cell_of_cells hh, ← Array.getElem?_toList]
    have hlt : j < l.length := (List.getElem?_eq_some_iff.1 hj).1
    have : (cur.toList.take (l.length * 1))[j]? = some (Fr.p f) := by rw [ht]; simp [hj]
    rw [List.getElem?_take_of_lt (by omega)] at this
    exact this

/-- One Fault is appended. -/
theorem wpList_pushP {ops : Array Oper} {rest : List Oper} {o : Oper} {a : Act} {w : World} {Q : Exit → Act → World → Prop} (hgd : o.guard = none) (s x : Operand)
    (ho : o.op = .call { callee := .builtin .append, args := #[s, x], argTypes := #[54, 54] }) (B : Nat) (v : Value) (l : List Fr) (hs : a.eval s = v) (hown : OwnP w B v l) (g : Nat) (y : Fr)
    (hx : a.eval x = .slice (some ⟨g, 0, none⟩) 1 1) (hk : w.cell? ⟨g, 0, none⟩ = some (.pointer (some ⟨y.b, 0, none⟩))) (hl : l.length ≤ 400000) (hB : B ≤ w.heap.size)
    (h : ∀ v' w', OwnP w' B v' (l ++ [y]) → Below B w w' → wpList Tryd.prog ops Q rest (a.put o.dst v') w') : wpList Tryd.prog ops Q (o :: rest) a w := by
  obtain ⟨i0, hi, hz0, hz1, hz2⟩ := info_parts info44
  refine wpList_append_own (w := w) hgd s x 54 ho B 44 i0 (.pointer none) 1 8 Tryd.underlying54 hi hz0 hz1 hz2 rfl (by decide) v l.length (l.map Fr.p) hs hown ⟨g, 0, none⟩ 1 1 [y.p] hx rfl
    (fun j u hj => ?_) (fun u hu => ?_) (by unfold maxLen; omega) (by omega) hB fun v' w' h1 h2 _ => h v' w' ?_ ?_
  · match j, hj with
    | 0, hj => simp at hj; subst hj; simpa [Addr.add, Fr.p] using hk
  · simp at hu; subst hu; rfl
  · unfold OwnP
    rw [List.map_append, List.length_append]
    simpa using h1
  · exact (Below.refl _ _).grown h2 hB hown.ge

/-- What apart leaves. -/
def ApartPost (w : World) (leaf : Value) (fs : List Fr) (e : Ending) (w' : World) : Prop := ∃ v, e = .returned (.tuple #[v, leaf]) ∧ OwnP w' w.heap.size v fs ∧ Below w.heap.size w w'

set_option maxHeartbeats 4000000 in
set_option maxRecDepth 100000 in
theorem apart_c (fs : List Fr) (leaf v : Value) (w : World) (h : Chain w leaf fs v) (hleaf : Other leaf) (hl : fs.length ≤ 400000) :
    Calls Tryd.prog 24 #[v] w (ApartPost w leaf fs) := by
  go_enter Tryd.func24, Tryd.ntmps24
  go_wp2
  go_loopg [0, 2, 3] fs.length (fun gg err out _ wr => ∃ m : Nat, m ≤ fs.length ∧ fs.length - m = gg ∧ Chain w leaf (fs.drop m) err ∧ OwnP wr w.heap.size out (fs.take m) ∧ Below w.heap.size w wr)
  case atStart => exact ⟨0, by omega, by omega, by simpa using h, OwnP.nil w _, Below.refl _ _⟩
  case round =>
    obtain ⟨m, hm, rfl, hC, hO, hB⟩ := hrel
    by_cases hlt : m < fs.length
    · obtain ⟨f, hf⟩ : ∃ f, fs[m]? = some f := ⟨_, List.getElem?_eq_getElem hlt⟩
      have hd : fs.drop m = f :: fs.drop (m + 1) := by
        rw [List.drop_eq_getElem_cons hlt]; congr 1; rw [List.getElem?_eq_getElem hlt] at hf; exact Option.some.inj hf
      have ht : fs.take (m + 1) = fs.take m ++ [f] := by rw [List.take_add_one, hf]; rfl
      rw [hd] at hC
      obtain ⟨rfl, v', hh, hC'⟩ := hC
      have HT := Lib.hid ht
      have HO := Lib.hid hO
      have HB := Lib.hid hB
      have HC := Lib.hid hC'
      have HH := Lib.hid hh
      have HF := Lib.hid hf
      have HL := Lib.hid h
      have hlo : (fs.take m).length ≤ 400000 := by simp; omega
      clear ht hO hB hC' hd hh hf h
      go_wp2_with (at_builtin; refine wpList_pushP rfl _ _ rfl w.heap.size _ _ rfl (OwnP.below HO.out ((Below.refl _ _).alloc (Nat.le_refl _) _)) wr.heap.size f rfl ?c1 hlo ?c2 ?_)
      case c1 => simp
      case c2 => have := HB.out.size; simp; omega
      intro v2 w2 hO2 hB2
      have hB3 : Below w.heap.size w w2 := (HB.out.trans ((Below.refl w.heap.size wr).alloc HB.out.size _)).trans hB2
      have hh2 : w2.heap[f.b]? = some (.cells #[.string f.op, .int .i64 f.n, v'] 42 (0, 0)) := by rw [hB3.block _ (lt_of_heap HH.out)]; exact HH.out
      rw [← HT.out] at hO2
      have HO2 := Lib.hid hO2
      have HB3 := Lib.hid hB3
      have HH2 := Lib.hid hh2
      clear hO2 hB2 hB3 hh2
      go_wp2_with (go_at_call 17; refine (unwrap_c f.b _ _ v' _ HH2.out).mono ?_; rintro e w' ⟨rfl, rfl⟩)
      go_roundg (fs.length - (m + 1))
      case measure => omega
      case rel => exact ⟨m + 1, by omega, rfl, HC.out, HO2.out, HB3.out⟩
    · have hmm : m = fs.length := by omega
      subst hmm
      rw [List.drop_length] at hC
      obtain rfl : _ = leaf := hC
      rw [List.take_length] at hO
      have HO := Lib.hid hO
      have HB := Lib.hid hB
      clear hO hB h
      rcases hleaf with rfl | ⟨c, rfl⟩ | rfl
      all_goals
        go_wp2
        go_ret2
        exact ⟨_, rfl, HO.out, HB.out⟩
end Go.Proofs.YtnmjcfpmljahcaaDoor
