/- The contract of the reference's Parse. -/
import Derived.Test.YthpbfmjogecbmaaP
import Derived.Deep.LoopGhost
namespace Go.Proofs.Ythpbfmjogecbmaa
open Go.RowKit

/-- The first m bytes of what a text is worth. -/
def pfirst (l : List UInt8) (m : Nat) : List UInt8 := (List.range m).map fun j => UInt8.ofNat (16 * dgL l (2 * j) + dgL l (2 * j + 1))
theorem pfirst_succ (l : List UInt8) (m : Nat) : pfirst l (m + 1) = pfirst l m ++ [UInt8.ofNat (16 * dgL l (2 * m) + dgL l (2 * m + 1))] := by simp [pfirst, List.range_succ]
theorem pfirst_len (l : List UInt8) (m : Nat) : (pfirst l m).length = m := by simp [pfirst]
theorem OwnB.below {w w' : World} {B : Nat} {v : Value} {l : List UInt8} (h : OwnB w B v l) (hb : Below w.heap.size w w') : OwnB w' B v l := by
  obtain ⟨h0, h | ⟨g, cap, cur, rfl, hg, hh, hr⟩⟩ := h
  · exact ⟨h0, .inl h⟩
  · have hlt : g < w.heap.size := by
      rcases Nat.lt_or_ge g w.heap.size with h | h
      · exact h
      · rw [Array.getElem?_eq_none h] at hh; cases hh
    exact ⟨h0, .inr ⟨g, cap, cur, rfl, hg, by rw [hb.block g hlt]; exact hh, hr⟩⟩
/-- One byte is appended to a row of the call's own. -/
theorem wpList_pushB {ops : Array Oper} {rest : List Oper} {o : Oper} {a : Act} {w : World} {Q : Exit → Act → World → Prop} (hgd : o.guard = none) (s x : Operand)
    (ho : o.op = .call { callee := .builtin .append, args := #[s, x], argTypes := #[22, 22] }) (B : Nat) (v : Value) (l : List UInt8) (hs : a.eval s = v) (hown : OwnB w B v l) (g : Nat) (y : UInt8)
    (hx : a.eval x = .slice (some ⟨g, 0, none⟩) 1 1) (hk : w.cell? ⟨g, 0, none⟩ = some (.int .u8 y.toNat)) (hl : l.length ≤ 4000000000001) (hB : B ≤ w.heap.size)
    (h : ∀ v' w', OwnB w' B v' (l ++ [y]) → Below B w w' → wpList Try.prog ops Q rest (a.put o.dst v') w') : wpList Try.prog ops Q (o :: rest) a w := by
  obtain ⟨i0, hi, hz0, hz1, hz2⟩ := info_parts info5
  refine wpList_append_own (w := w) hgd s x 22 ho B 5 i0 (.int .u8 0) 1 1 Try.underlying22 hi hz0 hz1 hz2 rfl (by decide) v l.length (bcells l) hs hown ⟨g, 0, none⟩ 1 1 [.int .u8 y.toNat] hx rfl
    (fun j u hj => by
      cases j with
      | zero => simp at hj; subst hj; exact hk
      | succ j => simp at hj) (fun u hu => by simp at hu; subst hu; rfl) (by unfold maxLen; omega) (by omega) hB fun v' w' h1 h2 _ => h v' w' ?_ ?_
  · unfold OwnB
    rw [List.length_append]
    simpa [bcells] using h1
  · exact (Below.refl _ _).grown h2 hB hown.own_ge

noncomputable def idxS (w : World) (s : ByteArray) (v : Value) : Result Value := Sem.run Try.prog (Instr.index 9 (.string s) v) w
@[go_sem high] theorem run_index_idxS (w : World) (s : ByteArray) (v : Value) : Sem.run Try.prog (Instr.index 9 (.string s) v) w = idxS w s v := rfl
theorem idxS_of (s : ByteArray) (j : Nat) (h : j < s.size) (w : World) : idxS w s (.int .i64 (j : Int)) = .ok (.int .u8 (s[j]'h).toNat) w := by
  unfold idxS
  rw [run_index_string (P := Try.prog) w 9 s .i64 (j : Int) Try.underlying9, dif_pos ⟨by omega, by omega⟩]
  simp only [Int.toNat_natCast]

def RParsePost (l : List UInt8) (w : World) (e : Ending) (w' : World) : Prop :=
  if fine l = true then ∃ A c, e = .returned (.tuple #[.slice A (parsed l).length c, .bool true]) ∧ BA w' A (parsed l) ∧ Below w.heap.size w w'
  else e = .returned (.tuple #[.slice none 0 0, .bool false]) ∧ Below w.heap.size w w'

set_option maxHeartbeats 2000000 in
theorem rparse_c (s : ByteArray) (w : World) (hl : s.size ≤ 2000000000000) : Calls Try.prog 16 #[.string s] w (RParsePost s.data.toList w) := by
  obtain ⟨l, hl0⟩ : ∃ l, l = s.data.toList := ⟨_, rfl⟩
  rw [← hl0]
  have hsz : s.size = l.length := by rw [hl0]; rfl
  have HL := Lib.hid hl0
  clear hl0
  by_cases hev : l.length % 2 = 0
  · have hd : ((l.length : Int) % 2 == 1) = false := by simp; omega
    have HEV := Lib.hid hev
    go_enter Try.func16, Try.ntmps16
    go_wp2
    clear hd
    go_loopg [4, 5, 6, 7] l.length (fun gg out i _ _ wr => ∃ m : Nat, i = .int .i64 (2 * m : Nat) ∧ 2 * m ≤ l.length ∧ l.length - 2 * m ≤ gg ∧ Hid (∀ j, j < 2 * m → isDg (l.getD j 0).toNat = true) ∧
      OwnB wr w.heap.size out (pfirst l m) ∧ Below w.heap.size w wr)
    case atStart => exact ⟨0, rfl, by omega, by omega, fun j hj => absurd hj (by omega), ⟨rfl, .inl ⟨rfl, rfl⟩⟩, Below.refl _ _⟩
    case round =>
      obtain ⟨m, rfl, hm, hgg, HD, hO, hB⟩ := hrel
      have HB := Lib.hid hB
      have HO := Lib.hid hO
      clear hB hO
      by_cases hlt : 2 * m < l.length
      · have hlt1 : 2 * m + 1 < l.length := by omega
        have hps : 2 * m < s.size := by omega
        have hps1 : 2 * m + 1 < s.size := by omega
        have hcell : ∀ j (h : j < s.size), (s[j]'h).toNat = (l.getD j 0).toNat := fun j h => by
          have e : l[j]? = some (s[j]'h) := by
            rw [HL.out, Array.getElem?_toList, Array.getElem?_eq_getElem (by exact h)]
            rfl
          simp [List.getD, e]
        obtain ⟨c, hc⟩ : ∃ c, c = (l.getD (2 * m) 0).toNat := ⟨_, rfl⟩
        obtain ⟨d, hdd⟩ : ∃ d, d = (l.getD (2 * m + 1) 0).toNat := ⟨_, rfl⟩
        have hc256 : c < 256 := hc ▸ UInt8.toNat_lt _
        have hd256 : d < 256 := hdd ▸ UInt8.toNat_lt _
        have i1 : ∀ w, idxS w s (.int .i64 (2 * (m : Int))) = .ok (.int .u8 c) w := fun w => by
          have := idxS_of s (2 * m) hps w
          rwa [hcell _ hps, ← hc, show ((2 * m : Nat) : Int) = 2 * (m : Int) by omega] at this
        have i2 : ∀ w, idxS w s (.int .i64 (2 * (m : Int) + 1)) = .ok (.int .u8 d) w := fun w => by
          have := idxS_of s (2 * m + 1) hps1 w
          rwa [hcell _ hps1, ← hdd, show ((2 * m + 1 : Nat) : Int) = 2 * (m : Int) + 1 by omega] at this
        have hdl : decide (2 * (m : Int) < l.length) = true := by simp; omega
        have HCD := Lib.hid hc
        have HDD := Lib.hid hdd
        have b1 := dg_lt c
        have b2 := dg_lt d
        have hsz2 := HB.out.size
        have HEV2 := Lib.hid hev
        clear hcell hc hdd hev
        by_cases h1 : isDg c = true
        · have H1 := Lib.hid h1
          clear h1
          by_cases h2 : isDg d = true
          · have H2 := Lib.hid h2
            clear h2
            go_wp2_with fail
            refine (rdigit_yes c _ H1.out).mono ?_
            rintro e w' ⟨rfl, rfl⟩
            go_wp2_with fail
            refine (rdigit_yes d _ H2.out).mono ?_
            rintro e w' ⟨rfl, rfl⟩
            obtain ⟨Y, hY⟩ : ∃ Y, Y = UInt8.ofNat (16 * dg c + dg d) := ⟨_, rfl⟩
            have hby : Y.toNat = 16 * dg c + dg d := by rw [hY]; simp only [UInt8.toNat_ofNat']; omega
            have HBY := Lib.hid hby
            have HY := Lib.hid hY
            clear hby hY
            go_wp2_with (at_builtin; refine wpList_pushB rfl _ _ rfl w.heap.size _ (pfirst l m) rfl (HO.out.below (one_below _ _)) wr.heap.size Y rfl ?k1 (by rw [pfirst_len]; omega) (by simp; omega) ?_)
            case k1 =>
              rw [cell_of_row _ _ _ _ _ _ (heap_alloc_last wr _), HBY.out]
              simp
            intro v' w1 hv hb
            have HV : Hid (OwnB w1 w.heap.size v' (pfirst l (m + 1))) := by
              show OwnB _ _ _ _
              rw [pfirst_succ]
              unfold dgL
              rw [← HCD.out, ← HDD.out, ← HY.out]
              exact hv
            have HB1 : Hid (Below w.heap.size w w1) := (HB.out.alloc hsz2 _).trans hb
            clear hv hb i1 i2
            go_wp2
            go_roundg (l.length - 2 * (m + 1))
            case measure => omega
            case rel =>
              refine ⟨m + 1, by go_num, by omega, by omega, fun j hj => ?_, HV.out, HB1.out⟩
              rcases Nat.lt_or_ge j (2 * m) with h | h
              · exact HD.out j h
              · rcases Nat.lt_or_ge (2 * m) j with h' | h'
                · rw [show j = 2 * m + 1 by omega, ← HDD.out]; exact H2.out
                · rw [show j = 2 * m by omega, ← HCD.out]; exact H1.out
          · have h2' : isDg d = false := by simpa using h2
            have HF : Hid (fine l = false) := fine_no hlt1 (by rw [← HDD.out]; exact h2')
            have H2 := Lib.hid h2'
            clear h2 h2'
            go_wp2_with fail
            refine (rdigit_yes c _ H1.out).mono ?_
            rintro e w' ⟨rfl, rfl⟩
            go_wp2_with fail
            refine (rdigit_no d _ H2.out hd256).mono ?_
            rintro e w' ⟨rfl, rfl⟩
            go_wp2
            go_ret2
            unfold RParsePost
            rw [HF.out]
            exact ⟨rfl, HB.out⟩
        · have h1' : isDg c = false := by simpa using h1
          have HF : Hid (fine l = false) := fine_no hlt (by rw [← HCD.out]; exact h1')
          have H1 := Lib.hid h1'
          clear h1 h1'
          by_cases h2 : isDg d = true
          · have H2 := Lib.hid h2
            clear h2
            go_wp2_with fail
            refine (rdigit_no c _ H1.out hc256).mono ?_
            rintro e w' ⟨rfl, rfl⟩
            go_wp2_with fail
            refine (rdigit_yes d _ H2.out).mono ?_
            rintro e w' ⟨rfl, rfl⟩
            go_wp2
            go_ret2
            unfold RParsePost
            rw [HF.out]
            exact ⟨rfl, HB.out⟩
          · have h2' : isDg d = false := by simpa using h2
            have H2 := Lib.hid h2'
            clear h2 h2'
            go_wp2_with fail
            refine (rdigit_no c _ H1.out hc256).mono ?_
            rintro e w' ⟨rfl, rfl⟩
            go_wp2_with fail
            refine (rdigit_no d _ H2.out hd256).mono ?_
            rintro e w' ⟨rfl, rfl⟩
            go_wp2
            go_ret2
            unfold RParsePost
            rw [HF.out]
            exact ⟨rfl, HB.out⟩
      · have hF : fine l = true := fine_yes hev fun j hj => HD.out j (by omega)
        have e : pfirst l m = parsed l := by unfold pfirst parsed; rw [show m = l.length / 2 by omega]
        rw [e] at HO
        obtain ⟨A, c, rfl, hba⟩ := HO.out.ba
        have HBA := Lib.hid hba
        have HF := Lib.hid hF
        have hd : decide (2 * (m : Int) < l.length) = false := by simp; omega
        clear e hF hba HO
        go_wp2
        go_ret2
        unfold RParsePost
        rw [HF.out, if_pos rfl]
        exact ⟨A, c, rfl, HBA.out, HB.out⟩
  · have HF : Hid (fine l = false) := by show fine l = false; unfold fine; rw [show (l.length % 2 == 0) = false by simp; omega, Bool.false_and]
    have hd : ((l.length : Int) % 2 == 1) = true := by simp; omega
    go_enter Try.func16, Try.ntmps16
    go_wp2
    go_ret2
    unfold RParsePost
    rw [HF.out]
    exact ⟨rfl, Below.refl _ _⟩
end Go.Proofs.Ythpbfmjogecbmaa
