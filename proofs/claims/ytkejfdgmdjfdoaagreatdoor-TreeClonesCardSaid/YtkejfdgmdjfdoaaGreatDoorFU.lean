import Derived.Test.YtkejfdgmdjfdoaaGreatDoorFT
import Derived.Defers
import Derived.Recover
set_option linter.unusedSimpArgs false
set_option linter.unusedVariables false
set_option maxHeartbeats 8000000
set_option maxRecDepth 100000
namespace Go.Proofs.YtkejfdgmdjfdoaaGreatDoor.Ft
open Go.RowKit
theorem m_error31 (h : Value) (w : World) : (Go.method 428 24 h "Error").run Tryz.prog w = .ok (196, h) w := by kernel_rfl
theorem na_error31 (c : Int) (w : World) : (nilAhead 428 24 (.int .i64 c) "Error").run Tryz.prog w = .ok (some false) w := by kernel_rfl
theorem recover_idle (w : World) : CallsD Tryz.prog 215 #[] .returning w fun e u' w' => e = .returned (.tuple #[]) ∧ u' = .returning ∧ w' = w := by
 refine callsD_of_wpS Tryz.func215 rfl fun c₀ cs hu => ?_
 apply wpS_region
 simp [wpOpsS, go_sem, recoverD, hu, Tryz.ntmps215, bodyPostS, results, Tryz.results215]
 cases c₀
 simp_all
theorem textOf_c (c : Int) (w : World) (h : Dig w c) : Calls Tryz.prog 212 #[.iface 24 (.int .i64 c)] w fun e w' => e = .returned (.string ⟨(errText c).toArray⟩) ∧ Below w.heap.size w w' := by
 have H := Lib.hid h
 clear h
 have mE := m_error31
 have nE := na_error31
 go_enter_defers Tryz.func212, Tryz.ntmps212
 go_wp2_with (go_at_call 196; refine (errno_c c _ H.out).mono ?_; rintro e w1 ⟨rfl, hB⟩; have HB := Lib.hid hB; clear hB)
 refine leaves_cons (f := 215) (args := #[]) (by simp) (by simp [go_sem]) ?_
 refine (recover_idle w1).mono ?_
 rintro e u' w'' ⟨rfl, rfl, rfl⟩
 exact ⟨_, results_tmp rfl _ _ _, rfl, HB.out⟩
end Go.Proofs.YtkejfdgmdjfdoaaGreatDoor.Ft
namespace Go.Proofs.YtkejfdgmdjfdoaaGreatDoor.Ft
open Go.RowKit
def BLD (B : Nat) (l : List UInt8) (w : World) : Prop := Lib.IsBuilder 309 5 B B (Lib.byteCells l) w
theorem bc_app (l : List UInt8) (s : ByteArray) : Lib.byteCells l ++ Lib.strCells s = Lib.byteCells (l ++ s.data.toList) := by simp [Lib.byteCells, Lib.strCells]
theorem bc_len (l : List UInt8) : (Lib.byteCells l).length = l.length := by simp [Lib.byteCells]
theorem BLD.lt {B : Nat} {l : List UInt8} {w : World} (h : BLD B l w) : B < w.heap.size := by
 rcases h with h | h
 ·exact h.lt
 ·exact h.lt
theorem writeB_c (B : Nat) (l : List UInt8) (s : ByteArray) (w : World) (h : BLD B l w) (hl : l.length + s.size ≤ 140737488355328) :
  Calls Tryz.prog 211 #[.pointer (some ⟨B, 0, none⟩), .string s] w fun e w' => e = .returned (.tuple #[.int .i64 s.size, .nilIface]) ∧ BLD B (l ++ s.data.toList) w' ∧ Below B w w' := by
 refine (write_c B B _ s w h (by rw [bc_len]; exact hl) (Nat.le_of_lt h.lt)).mono ?_
 rintro e w' ⟨rfl, h1, h2⟩
 exact ⟨rfl, by rw [bc_app] at h1; exact .inr h1, h2⟩
theorem BLD.other {B : Nat} {l : List UInt8} {w w' : World} (h : BLD B l w) (hb : Below w.heap.size w w') : BLD B l w' := by
 rcases h with h | h
 ·left
  obtain ⟨h1, v, h2, h3, h4⟩ := h
  refine ⟨h1, v, by rw [hb.block _ (lt_of_heap h2)]; exact h2, ?_, h4⟩
  obtain ⟨h0, h | ⟨g, cap, cur, rfl, hg, hh, hr⟩⟩ := h3
  ·exact ⟨h0, .inl h⟩
  ·exact ⟨h0, .inr ⟨g, cap, cur, rfl, hg, by rw [hb.block g (lt_of_heap hh)]; exact hh, hr⟩⟩
 ·right
  obtain ⟨h1, v, h2, h3, h4⟩ := h
  refine ⟨h1, v, by rw [hb.block _ (lt_of_heap h2)]; exact h2, ?_, h4⟩
  obtain ⟨h0, h | ⟨g, cap, cur, rfl, hg, hh, hr⟩⟩ := h3
  ·exact ⟨h0, .inl h⟩
  ·exact ⟨h0, .inr ⟨g, cap, cur, rfl, hg, by rw [hb.block g (lt_of_heap hh)]; exact hh, hr⟩⟩
def pieces (fs : List Fr) (k : Nat) : List UInt8 := ((fs.take k).map Fr.st).flatMap frag
theorem pieces_succ (fs : List Fr) (k : Nat) (f : Fr) (h : fs[k]? = some f) : pieces fs (k + 1) = pieces fs k ++ frag f.st := by
 unfold pieces
 rw [List.take_add_one, h]
 simp
theorem pieces_len (fs : List Fr) (k : Nat) (h : Fits (fs.map Fr.st)) : (pieces fs k).length ≤ 5030 * fs.length := by
 have := flat_len ((fs.take k).map Fr.st) (fun s hs => h s (by
  rw [List.mem_map] at hs ⊢
  obtain ⟨f, hf, rfl⟩ := hs
  exact ⟨f, List.mem_of_mem_take hf, rfl⟩))
 have h2 : ((fs.take k).map Fr.st).length ≤ fs.length := by simp; omega
 have h3 : 5030 * ((fs.take k).map Fr.st).length ≤ 5030 * fs.length := Nat.mul_le_mul_left _ h2
 unfold pieces
 omega
theorem ferror_c (fs : List Fr) (c : Int) (b : Nat) (w : World) (h : Chain w (.iface 24 (.int .i64 c)) fs (.iface 142 (.pointer (some ⟨b, 0, none⟩)))) (hfit : Fits (fs.map Fr.st)) (hdig : ∀ f ∈ fs, Dig w f.n) (hc : Dig w c) (hl : fs.length ≤ 400000) :
  Calls Tryz.prog 210 #[.pointer (some ⟨b, 0, none⟩)] w fun e w' => e = .returned (.string ⟨(textL (fs.map Fr.st) (errText c)).toArray⟩) ∧ Below w.heap.size w w' := by
 have HH := Lib.hid h
 have HF := Lib.hid hfit
 have HD := Lib.hid hdig
 have HC := Lib.hid hc
 clear h hfit hdig hc
 go_enter Tryz.func210, Tryz.ntmps210
 go_wp2_with (go_at_call 77; refine (apart_c fs _ _ _ HH.out (.inr ⟨c, rfl⟩) hl).mono ?_)
 rintro e w1 ⟨s, rfl, hP, hB⟩
 obtain ⟨A, cc, rfl, hlc, hA⟩ := hP.row
 have HA := Lib.hid hA
 have HB := Lib.hid hB
 clear hA hP hB
 have hbl : BLD w1.heap.size [] (w1.alloc (.cells #[.pointer none, .slice none 0 0] 309)) := Lib.fresh_isBuilder 309 5 w1
 have HBL := Lib.hid hbl
 clear hbl
 go_wp2_with fail
 go_loopg [18] fs.length (fun gg i wr => ∃ k : Nat, i = .int .i64 k ∧ k ≤ fs.length ∧ fs.length - k = gg ∧ BLD w1.heap.size (pieces fs k) wr ∧ Below w1.heap.size w1 wr)
 case atStart => exact ⟨0, rfl, by omega, by omega, HBL.out, (Below.refl _ _).alloc (Nat.le_refl _) _⟩
 case round =>
  obtain ⟨k, rfl, hk, rfl, hz, hB1⟩ := hrel
  by_cases hlt : k < fs.length
  ·obtain ⟨f, hf⟩ : ∃ f, fs[k]? = some f := ⟨_, List.getElem?_eq_getElem hlt⟩
   obtain ⟨g, rfl, hg⟩ := HA.out k f hf
   obtain ⟨v', hv⟩ := HH.out.fault k f hf
   have hglt : g < w1.heap.size := lt_of_cell hg
   have hfm : f ∈ fs := List.mem_of_getElem? hf
   have hfr := HF.out f.st (List.mem_map.2 ⟨f, hfm, rfl⟩)
   have c1 : wr.cell? ⟨g, k, none⟩ = some (.pointer (some ⟨f.b, 0, none⟩)) := by rw [hB1.cell (p := ⟨g, k, none⟩) hglt]; exact hg
   have hv1 : w1.heap[f.b]? = some (.cells #[.string f.op, .int .i64 f.n, v'] 145 (0, 0)) := by rw [HB.out.block _ (lt_of_heap hv)]; exact hv
   have hv2 : wr.heap[f.b]? = some (.cells #[.string f.op, .int .i64 f.n, v'] 145 (0, 0)) := by rw [hB1.block _ (lt_of_heap hv1)]; exact hv1
   have c2 : wr.cell? ⟨f.b, 0, none⟩ = some (.string f.op) := by rw [cell_of_cells hv2]; rfl
   have hps := pieces_len fs k HF.out
   have hps2 : (pieces fs k).length ≤ 2012000000 := by omega
   have hos : f.op.size ≤ 5000 := hfr.2.2
   have hil : (Lib.itoa f.n).length ≤ 21 := itoa_len f.n hfr.1 hfr.2.1
   have HZ := Lib.hid hz
   have HB1 := Lib.hid hB1
   have HV := Lib.hid hv1
   have HDF := Lib.hid (HD.out f hfm)
   have Hf := Lib.hid hf
   clear hz hB1 hv1 hv2 hf hg hv hfr hps hfm
   go_wp2_with (go_at_call 211; refine (writeB_c w1.heap.size _ f.op _ HZ.out (by omega)).mono ?_)
   rintro e w2 ⟨rfl, hZ2, hB2⟩
   have HZ2 := Lib.hid hZ2
   have HB2 := Lib.hid (HB1.out.trans hB2)
   clear hZ2 hB2
   go_wp2_with fail
   refine (writeB_c w1.heap.size _ ⟨#[32]⟩ _ HZ2.out (by rw [List.length_append]; have : f.op.data.toList.length = f.op.size := Array.length_toList; have : (⟨#[32]⟩ : ByteArray).size = 1 := rfl; omega)).mono ?_
   rintro e w3 ⟨rfl, hZ3, hB3⟩
   have HZ3 := Lib.hid hZ3
   have hB3' := HB2.out.trans hB3
   have hv3 : w3.heap[f.b]? = some (.cells #[.string f.op, .int .i64 f.n, v'] 145 (0, 0)) := by rw [hB3'.block _ (lt_of_heap HV.out)]; exact HV.out
   have c3 : w3.cell? ⟨f.b, 1, none⟩ = some (.int .i64 f.n) := by rw [cell_of_cells hv3]; rfl
   have HB3 := Lib.hid hB3'
   clear hZ3 hB3 hv3 hB3'
   go_wp2_with fail
   refine (itoa_c f.n _ (HDF.out.below (HB.out.trans (HB3.out.mono HB.out.size)))).mono ?_
   rintro e w4 ⟨rfl, hB4⟩
   have HZ4 := Lib.hid (HZ3.out.other hB4)
   have HB4 := Lib.hid (HB3.out.trans (hB4.mono HB3.out.size))
   clear hB4
   go_wp2_with fail
   refine (writeB_c w1.heap.size _ ⟨(Lib.itoa f.n).toArray⟩ _ HZ4.out (by
    rw [List.length_append, List.length_append]
    have : f.op.data.toList.length = f.op.size := Array.length_toList
    have : ([32] : List UInt8).length = 1 := rfl
    have : (⟨(Lib.itoa f.n).toArray⟩ : ByteArray).size = (Lib.itoa f.n).length := by simp [ByteArray.size]
    omega)).mono ?_
   rintro e w5 ⟨rfl, hZ5, hB5⟩
   have HZ5 := Lib.hid hZ5
   have HB5 := Lib.hid (HB4.out.trans hB5)
   clear hZ5 hB5
   go_wp2_with fail
   refine (writeB_c w1.heap.size _ ⟨#[58, 32]⟩ _ HZ5.out (by
    rw [List.length_append, List.length_append, List.length_append]
    have : f.op.data.toList.length = f.op.size := Array.length_toList
    have : ([32] : List UInt8).length = 1 := rfl
    have : (⟨(Lib.itoa f.n).toArray⟩ : ByteArray).data.toList.length = (Lib.itoa f.n).length := by simp
    have : (⟨#[58, 32]⟩ : ByteArray).size = 2 := rfl
    omega)).mono ?_
   rintro e w6 ⟨rfl, hZ6, hB6⟩
   have HZ6 := Lib.hid hZ6
   have HB6 := Lib.hid (HB5.out.trans hB6)
   clear hZ6 hB6
   go_wp2
   go_roundg (fs.length - (k + 1))
   case measure => omega
   case rel =>
    refine ⟨k + 1, by go_num, by omega, rfl, ?_, HB6.out⟩
    rw [pieces_succ fs k f Hf.out]
    have := HZ6.out
    simpa [frag, Fr.st] using this
  ·have hkk : k = fs.length := by omega
   subst hkk
   have hps := pieces_len fs fs.length HF.out
   have hps2 : (pieces fs fs.length).length ≤ 2012000000 := by omega
   have hcl := HC.out.len
   have HZ := Lib.hid hz
   have HB1 := Lib.hid hB1
   have HDC := Lib.hid (HC.out.below (HB.out.trans (hB1.mono HB.out.size)))
   clear hz hB1 hps
   go_wp2_with fail
   refine (textOf_c c _ HDC.out).mono ?_
   rintro e w2 ⟨rfl, hB2⟩
   have HZ2 := Lib.hid (HZ.out.other hB2)
   have HB2 := Lib.hid (HB1.out.trans (hB2.mono HB1.out.size))
   clear hB2
   go_wp2_with fail
   refine (writeB_c w1.heap.size _ ⟨(errText c).toArray⟩ _ HZ2.out (by
    have : (⟨(errText c).toArray⟩ : ByteArray).size = (errText c).length := by simp [ByteArray.size]
    have : (errText c).length = 6 + (Lib.itoa c).length := by simp [errText]; omega
    omega)).mono ?_
   rintro e w3 ⟨rfl, hZ3, hB3⟩
   have HZ3 := Lib.hid hZ3
   have HB3 := Lib.hid (HB2.out.trans hB3)
   clear hZ3 hB3
   go_wp2_with fail
   refine (Builder_String_any w1.heap.size w1.heap.size _ _ HZ3.out HB3.out.size).mono ?_
   rintro e w4 ⟨rfl, hB4⟩
   have HB4 := Lib.hid (HB3.out.trans hB4)
   clear hB4
   go_wp2
   go_ret
   refine ⟨ret_str ?_, HB.out.trans (HB4.out.mono HB.out.size)⟩
   rw [textL_flat]
   simp [pieces]
end Go.Proofs.YtkejfdgmdjfdoaaGreatDoor.Ft
