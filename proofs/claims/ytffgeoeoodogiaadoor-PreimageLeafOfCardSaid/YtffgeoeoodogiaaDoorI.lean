/- The program's inBlocks and the function that it returns. -/
import Derived.Test.YtffgeoeoodogiaaDoorH
namespace Go.Proofs.YtffgeoeoodogiaaDoor
open Go.RowKit

def z56 : List UInt8 := List.replicate 64 0
theorem zero56 : ∀ w, (zeroValue 77).run Tryd.prog w = .ok (.agg (bA z56)) w := fun _ => by kernel_rfl
attribute [go_sem ↓] zero56
/-- The method value s.add. -/
def addV (sb : Nat) : Value := .func (.func 35) #[.pointer (some ⟨sb, 0, none⟩)] #[]
set_option maxRecDepth 100000 in
theorem inBlocks_c (sb : Nat) (w : World) : Calls Tryd.prog 34 #[addV sb] w fun e w' =>
    e = .returned (.func (.func 40) #[] #[.pointer (some ⟨w.heap.size + 1, 0, none⟩), .pointer (some ⟨w.heap.size + 1 + 1, 0, none⟩), .pointer (some ⟨w.heap.size, 0, none⟩)]) ∧
      w' = ((w.alloc (.cells #[addV sb] 72)).alloc (.cells (bA z56) 77)).alloc (.cells #[.int .i64 0] 3) := by
  have hmf : ∀ (fn : Fn) (first cap : Array Value) (w : World), (Instr.makeFunc fn first cap).run Tryd.prog w = .ok (.func fn first cap) w := fun _ _ _ _ => rfl
  unfold addV
  go_enter Tryd.func34, Tryd.ntmps34
  go_wp2
  go_ret
  exact ⟨rfl, rfl⟩

/-- What the program keeps between two pieces: the stream that came is T. -/
structure Str (w : World) (pA pB pF sb : Nat) (T : List UInt8) : Prop where
  fn : w.heap[pA]? = some (.cells #[addV sb] 72 (0, 0))
  blk : ∃ l : List UInt8, l.length = 64 ∧ l.take (T.length % 64) = left T ∧ w.heap[pB]? = some (.cells (bA l) 77 (0, 0))
  fill : w.heap[pF]? = some (.cells #[.int .i64 ((T.length % 64 : Nat) : Int)] 3 (0, 0))
  st : w.heap[sb]? = some (.cells (uA (stOf T).list) 69 (0, 0))
  kt : KT w
/-- The four blocks. -/
structure Four (pA pB pF sb : Nat) : Prop where
  n1 : pA ≠ pB
  n2 : pA ≠ pF
  n3 : pA ≠ sb
  n4 : pB ≠ pF
  n5 : pB ≠ sb
  n6 : pF ≠ sb
  k1 : 1 ≠ pB
  k2 : 1 ≠ pF
  k3 : 1 ≠ sb
def Wr (pB pF sb : Nat) (i : Nat) : Prop := i = pB ∨ i = pF ∨ i = sb
theorem Str.keep {L : Nat → Prop} {a b : World} {pA pB pF sb : Nat} {T : List UInt8} (h : Str a pA pB pF sb T) (k : Keep L a b) (h1 : ¬ L pA) (h2 : ¬ L pB) (h3 : ¬ L pF) (h4 : ¬ L sb) (h5 : ¬ L 1) : Str b pA pB pF sb T := by
  obtain ⟨l, e1, e2, e3⟩ := h.blk
  exact ⟨k.heap h.fn h1, ⟨l, e1, e2, k.heap e3 h2⟩, k.heap h.fill h3, k.heap h.st h4, h.kt.keep k h5⟩
theorem stream_step (T d r : List UInt8) (lb : List UInt8) (n : Nat) (hl : lb.length = 64) (hlb : lb.take ((T ++ d).length % 64) = left (T ++ d)) (hn : n ≤ r.length) (hf : (T ++ d).length % 64 + n ≤ 64) :
    (lb.take ((T ++ d).length % 64) ++ (r.take n ++ lb.drop ((T ++ d).length % 64 + n))).length = 64 ∧
    ((T ++ d).length % 64 + n < 64 → (T ++ (d ++ r.take n)).length % 64 = (T ++ d).length % 64 + n ∧ stOf (T ++ (d ++ r.take n)) = stOf (T ++ d) ∧ (lb.take ((T ++ d).length % 64) ++ (r.take n ++ lb.drop ((T ++ d).length % 64 + n))).take ((T ++ d).length % 64 + n) = left (T ++ (d ++ r.take n))) ∧
    ((T ++ d).length % 64 + n = 64 → (T ++ (d ++ r.take n)).length % 64 = 0 ∧ stOf (T ++ (d ++ r.take n)) = blk (stOf (T ++ d)) (fun t => (lb.take ((T ++ d).length % 64) ++ (r.take n ++ lb.drop ((T ++ d).length % 64 + n))).getD t 0) ∧ left (T ++ (d ++ r.take n)) = []) := by
  have hrl : (r.take n).length = n := by rw [List.length_take]; omega
  have e0 : T ++ (d ++ r.take n) = (T ++ d) ++ r.take n := by simp
  obtain ⟨U, hU⟩ : ∃ U, U = T ++ d := ⟨_, rfl⟩
  rw [e0, ← hU]
  rw [← hU] at hlb hf
  have hul := left_len U
  refine ⟨by simp only [List.length_append, List.length_take, List.length_drop]; omega, fun h => ?_, fun h => ?_⟩
  · obtain ⟨s1, s2⟩ := st_part U (r.take n) (by omega)
    refine ⟨by rw [List.length_append, hrl]; omega, s1, ?_⟩
    rw [s2, hlb, ← List.append_assoc]
    exact List.take_left' (by rw [List.length_append, hul, hrl])
  · obtain ⟨s1, s2⟩ := st_full U (r.take n) (by omega)
    refine ⟨by rw [List.length_append, hrl]; omega, ?_, s2⟩
    rw [s1, hlb, h, List.drop_of_length_le (by omega : lb.length ≤ 64), List.append_nil]

/-- What the program keeps behind a copy that does not fill the block, and behind one that does. -/
theorem after_part {pA pB pF sb : Nat} {T d m : List UInt8} {lb2 : List UInt8} {f n : Nat} {wr wc : World} (h4 : Four pA pB pF sb) (hS : Str wr pA pB pF sb (T ++ d)) (hwc : wc = wr.setRow pB (bA lb2)) (h64 : lb2.length = 64)
    (h1 : (T ++ (d ++ m)).length % 64 = f + n) (h2 : stOf (T ++ (d ++ m)) = stOf (T ++ d)) (h3 : lb2.take (f + n) = left (T ++ (d ++ m))) :
    Str (wc.setCell ⟨pF, 0, none⟩ (.int .i64 ((f : Int) + (n : Int)))) pA pB pF sb (T ++ (d ++ m)) ∧ Keep (Wr pB pF sb) wr (wc.setCell ⟨pF, 0, none⟩ (.int .i64 ((f : Int) + (n : Int)))) := by
  have k1 : Keep (fun i => i = pB) wr wc := by rw [hwc]; exact Keep.row _ _ _
  have k2 := Keep.cell wc ⟨pF, 0, none⟩ (.int .i64 ((f : Int) + (n : Int)))
  have kk : Keep (Wr pB pF sb) wr (wc.setCell ⟨pF, 0, none⟩ (.int .i64 ((f : Int) + (n : Int)))) := (k1.mono fun i hi => .inl hi).trans (k2.mono fun i hi => .inr (.inl hi))
  obtain ⟨lb, e1, e2, e3⟩ := hS.blk
  refine ⟨⟨k2.heap (k1.heap hS.fn h4.n1) h4.n2, ⟨lb2, h64, by rw [h1]; exact h3, ?_⟩, ?_, ?_, ?_⟩, kk⟩
  · refine k2.heap ?_ h4.n4
    rw [hwc]; exact setRow_heap wr pB _ _ _ _ e3
  · rw [h1]
    have := one_set (y := .int .i64 ((f : Int) + (n : Int))) (k1.heap hS.fill (Ne.symm h4.n4))
    rw [this]
    simp
  · rw [h2]; exact k2.heap (k1.heap hS.st (Ne.symm h4.n5)) (Ne.symm h4.n6)
  · exact (hS.kt.keep k1 h4.k1).keep k2 h4.k2
theorem after_full {pA pB pF sb : Nat} {T d m : List UInt8} {lb2 : List UInt8} {x : Value} {wr wc w6 : World} (h4 : Four pA pB pF sb) (hS : Str wr pA pB pF sb (T ++ d)) (hwc : wc = wr.setRow pB (bA lb2)) (h64 : lb2.length = 64)
    (h1 : (T ++ (d ++ m)).length % 64 = 0) (h3 : left (T ++ (d ++ m)) = []) (hs6 : w6.heap[sb]? = some (.cells (uA (stOf (T ++ (d ++ m))).list) 69 (0, 0))) (hk6 : Keep (fun i => i = sb) (wc.setCell ⟨pF, 0, none⟩ x) w6) :
    Str (w6.setCell ⟨pF, 0, none⟩ (.int .i64 0)) pA pB pF sb (T ++ (d ++ m)) ∧ Keep (Wr pB pF sb) wr (w6.setCell ⟨pF, 0, none⟩ (.int .i64 0)) := by
  have k1 : Keep (fun i => i = pB) wr wc := by rw [hwc]; exact Keep.row _ _ _
  have k2 := Keep.cell wc ⟨pF, 0, none⟩ x
  have k3 := Keep.cell w6 ⟨pF, 0, none⟩ (.int .i64 0)
  obtain ⟨lb, e1, e2, e3⟩ := hS.blk
  refine ⟨⟨k3.heap (hk6.heap (k2.heap (k1.heap hS.fn h4.n1) h4.n2) h4.n3) h4.n2, ⟨lb2, h64, by rw [h1, h3]; rfl, ?_⟩, ?_, k3.heap hs6 (Ne.symm h4.n6), ?_⟩, ?_⟩
  · refine k3.heap (hk6.heap (k2.heap ?_ h4.n4) h4.n5) h4.n4
    rw [hwc]; exact setRow_heap wr pB _ _ _ _ e3
  · rw [h1]
    exact one_set (hk6.heap (one_set (y := x) (k1.heap hS.fill (Ne.symm h4.n4))) h4.n6)
  · exact (((hS.kt.keep k1 h4.k1).keep k2 h4.k2).keep hk6 h4.k3).keep k3 h4.k2
  · exact (((k1.mono fun i hi => .inl hi).trans (k2.mono fun i hi => .inr (.inl hi))).trans (hk6.mono fun i hi => .inr (.inr hi))).trans (k3.mono fun i hi => .inr (.inl hi))
set_option maxHeartbeats 16000000 in
set_option maxRecDepth 100000 in
theorem write_c (pA pB pF sb : Nat) (T : List UInt8) (A : Option Addr) (c : Nat) (l : List UInt8) (w : World) (h4 : Four pA pB pF sb) (hS : Str w pA pB pF sb T) (hA : BX w (Wr pB pF sb) A l) (hc : l.length ≤ c) :
    Calls Tryd.prog 40 #[.slice A l.length c, .pointer (some ⟨pB, 0, none⟩), .pointer (some ⟨pF, 0, none⟩), .pointer (some ⟨pA, 0, none⟩)] w fun e w' =>
      e = .returned (.tuple #[]) ∧ Str w' pA pB pF sb (T ++ l) ∧ Keep (Wr pB pF sb) w w' := by
  have H4 := Lib.hid h4
  have HS := Lib.hid hS
  have HA := Lib.hid hA
  have HLL : Hid (l = [] ++ l) := rfl
  clear h4 hS hA
  go_enter Tryd.func40, Tryd.ntmps40
  go_wp2_with fail
  go_loopg [0] l.length (fun gg b wr => ∃ (d r : List UInt8) (A' : Option Addr) (c' : Nat), Hid (l = d ++ r) ∧ b = .slice A' r.length c' ∧ r.length = gg ∧ r.length ≤ c' ∧ Str wr pA pB pF sb (T ++ d) ∧ BX wr (Wr pB pF sb) A' r ∧ Keep (Wr pB pF sb) w wr)
  case atStart => exact ⟨[], l, A, c, HLL, rfl, rfl, hc, by rw [List.append_nil]; exact HS.out, HA.out, Keep.refl _ _⟩
  case round =>
    obtain ⟨d, r, A', c', hdr, rfl, rfl, hrc, hS, hA, hK⟩ := hrel
    have hlen : l.length = d.length + r.length := by rw [hdr.out, List.length_append]
    by_cases hlt : 0 < r.length
    · obtain ⟨b, o, rfl, hb, hb2⟩ := hA 0 _ (List.getElem?_eq_getElem hlt)
      obtain ⟨lb, hl64, hlb, hrow⟩ := hS.blk
      obtain ⟨f, hf⟩ : ∃ f, f = (T ++ d).length % 64 := ⟨_, rfl⟩
      obtain ⟨n, hn⟩ : ∃ n, n = Nat.min r.length (64 - f) := ⟨_, rfl⟩
      have hf64 : f < 64 := by rw [hf]; omega
      have hn' : n = min r.length (64 - f) := hn
      have hn0 : 0 < n := by omega
      have hnr : n ≤ r.length := by omega
      have hnf : f + n ≤ 64 := by omega
      have hstep := stream_step T d r lb n hl64 hlb hnr (by rw [← hf]; exact hnf)
      rw [← hf] at hstep hlb
      obtain ⟨lb2, hlb2⟩ : ∃ x, x = lb.take f ++ (r.take n ++ lb.drop (f + n)) := ⟨_, rfl⟩
      rw [← hlb2] at hstep
      have hfill := hS.fill
      rw [← hf] at hfill
      have cF : wr.cell? ⟨pF, 0, none⟩ = some (.int .i64 (f : Int)) := by rw [cell_of_cells hfill]; rfl
      have hsl := fun w => sl56 pB f hf64 (f : Int) rfl w
      have HST := Lib.hid hstep
      have HSS := Lib.hid hS
      have HKK := Lib.hid hK
      have HAA := Lib.hid hA
      have HROW := Lib.hid hrow
      have HFILL := Lib.hid hfill
      have HF := Lib.hid hf
      have HN := Lib.hid hn
      have HL2 := Lib.hid hlb2
      have hsrc : Hid (∀ j x, (r.take n)[j]? = some x → wr.cell? ((⟨b, o, none⟩ : Addr).add j) = some (bv x)) := by
        show ∀ _ _ _, _
        intro j x hx
        have hx2 : r[j]? = some x := by
          rw [List.getElem?_take] at hx
          split at hx
          · exact hx
          · cases hx
        obtain ⟨b2, o2, e, _, h2⟩ := hA j x hx2
        cases e
        rw [add_none]
        exact h2
      have hd1 : decide (0 < r.length) = true := decide_eq_true hlt
      have hd2 : decide (0 < (r.length : Int)) = true := decide_eq_true (by omega)
      have hf0 : (0 : Int) ≤ (f : Int) := by omega
      clear hlen hn hn' hf hstep hlb2 hlb hfill hrow hS hK hA
      have HL64 := Lib.hid hl64
      obtain ⟨A2, hA2⟩ : ∃ A2, A2 = if c' = n then some (⟨b, o, none⟩ : Addr) else (some (⟨b, o, none⟩ : Addr)).map (·.add n) := ⟨_, rfl⟩
      have hs2 := fun w => slice_from (some ⟨b, o, none⟩) r.length c' n hnr w
      simp only [← hA2] at hs2
      have HA2 := Lib.hid hA2
      clear hl64 hA2
      have hlen2 : (r.drop n).length = r.length - n := List.length_drop
      have HDR : Hid (l = (d ++ r.take n) ++ r.drop n) := by show _ = _; rw [List.append_assoc, List.take_append_drop]; exact hdr.out
      by_cases hq : f + n = 64
      · have hqb : (((f : Int) + (n : Int)) == 64) = true := by rw [beq_iff_eq]; omega
        obtain ⟨g1, _, g3⟩ := HST.out
        obtain ⟨g4, g5, g6⟩ := g3 hq
        have G1 := Lib.hid g1
        have G4 := Lib.hid g4
        have G5 := Lib.hid g5
        have G6 := Lib.hid g6
        have HL2n := Lib.hid hlen2
        clear g1 g3 g4 g5 g6 hq hlen2
        go_wp2_with (first | ((with_reducible refine wpList_copy_b rfl (.tmp 10) (.tmp 11) rfl pB f (64 - f) (64 - f) ⟨b, o, none⟩ r.length c' rfl rfl lb 77 HROW.out (r.take n) n (by rw [List.length_take]; omega) HN.out hsrc.out (by rw [HL64.out]; omega) ?_); intro wc hwc; rw [← HL2.out] at hwc; have hFc : wc.heap[pF]? = some (.cells #[Value.int .i64 (f : Int)] 3 (0, 0)) := (by rw [hwc, setRow_other _ _ _ _ (Ne.symm H4.out.n4)]; exact HFILL.out); have cFc : wc.cell? ⟨pF, 0, none⟩ = some (.int .i64 (f : Int)) := (by rw [cell_of_cells hFc]; rfl); have fFc : wc.frozen? ⟨pF, 0, none⟩ = false := frozen_of_row wc _ _ _ _ hFc; have cA : (wc.setCell ⟨pF, 0, none⟩ (.int .i64 ((f : Int) + (n : Int)))).cell? ⟨pA, 0, none⟩ = some (.func (.func 35) #[.pointer (some ⟨sb, 0, none⟩)] #[]) := (by rw [cell_of_cells (set_keep (by rw [hwc, setRow_other _ _ _ _ H4.out.n1]; exact HSS.out.fn) H4.out.n2)]; rfl); have ldB : ldA 77 (wc.setCell ⟨pF, 0, none⟩ (.int .i64 ((f : Int) + (n : Int)))) (.pointer (some ⟨pB, 0, none⟩)) = .ok (.value (.agg (bA lb2))) (wc.setCell ⟨pF, 0, none⟩ (.int .i64 ((f : Int) + (n : Int)))) := ldA_row (t' := 77) (fr := (0, 0)) (set_keep (by rw [hwc]; exact setRow_heap wr pB _ _ _ _ HROW.out) H4.out.n4) Tryd.underlying77 (by rw [bA_size, G1.out]; exact info56); have HWC := Lib.hid hwc; have HFC := Lib.hid hFc; clear hwc hFc cF) | fail)
        refine (add_c sb (stOf (T ++ d)) lb2 _ G1.out (set_keep (by rw [HWC.out, setRow_other _ _ _ _ (Ne.symm H4.out.n5)]; exact HSS.out.st) (Ne.symm H4.out.n6)) ((HSS.out.kt.keep (by rw [HWC.out]; exact Keep.row wr pB (bA lb2)) H4.out.k1).keep (Keep.cell wc ⟨pF, 0, none⟩ _) H4.out.k2)).mono ?_
        rintro e w6 ⟨rfl, hs6, hk6⟩
        rw [← G5.out] at hs6
        have hF6 : w6.heap[pF]? = some (.cells #[Value.int .i64 ((f : Int) + (n : Int))] 3 (0, 0)) := hk6.heap (one_set HFC.out) H4.out.n6
        have cF6 : w6.cell? ⟨pF, 0, none⟩ = some (.int .i64 ((f : Int) + (n : Int))) := by rw [cell_of_cells hF6]; rfl
        have fF6 : w6.frozen? ⟨pF, 0, none⟩ = false := frozen_of_row w6 _ _ _ _ hF6
        have HE := Lib.hid (after_full H4.out HSS.out HWC.out G1.out G4.out G6.out hs6 hk6)
        clear hs6 hk6 hF6 cA ldB cFc fFc
        go_wp2_with fail
        go_roundg (r.length - n)
        case measure => omega
        case rel => exact ⟨d ++ r.take n, r.drop n, A2, c' - n, HDR, by rw [HL2n.out], HL2n.out, by rw [HL2n.out]; omega, HE.out.1, by rw [HA2.out]; exact (HAA.out.from n c' hnr hrc).keep HE.out.2 (fun _ h => h), HKK.out.trans HE.out.2⟩
      · have hqb : (((f : Int) + (n : Int)) == 64) = false := by rw [beq_eq_false_iff_ne]; omega
        obtain ⟨g1, g2, _⟩ := HST.out
        obtain ⟨g4, g5, g6⟩ := g2 (by omega)
        have G1 := Lib.hid g1
        have G4 := Lib.hid g4
        have G5 := Lib.hid g5
        have G6 := Lib.hid g6
        have HL2n := Lib.hid hlen2
        clear g1 g2 g4 g5 g6 hq hlen2
        go_wp2_with (first | ((with_reducible refine wpList_copy_b rfl (.tmp 10) (.tmp 11) rfl pB f (64 - f) (64 - f) ⟨b, o, none⟩ r.length c' rfl rfl lb 77 HROW.out (r.take n) n (by rw [List.length_take]; omega) HN.out hsrc.out (by rw [HL64.out]; omega) ?_); intro wc hwc; rw [← HL2.out] at hwc; have hFc : wc.heap[pF]? = some (.cells #[Value.int .i64 (f : Int)] 3 (0, 0)) := (by rw [hwc, setRow_other _ _ _ _ (Ne.symm H4.out.n4)]; exact HFILL.out); have cFc : wc.cell? ⟨pF, 0, none⟩ = some (.int .i64 (f : Int)) := (by rw [cell_of_cells hFc]; rfl); have fFc : wc.frozen? ⟨pF, 0, none⟩ = false := frozen_of_row wc _ _ _ _ hFc; have HWC := Lib.hid hwc; have HFC := Lib.hid hFc; clear hwc hFc cF) | fail)
        have HE := Lib.hid (after_part H4.out HSS.out HWC.out G1.out G4.out G5.out G6.out)
        go_roundg (r.length - n)
        case measure => omega
        case rel => exact ⟨d ++ r.take n, r.drop n, A2, c' - n, HDR, by rw [HL2n.out], HL2n.out, by rw [HL2n.out]; omega, HE.out.1, by rw [HA2.out]; exact (HAA.out.from n c' hnr hrc).keep HE.out.2 (fun _ h => h), HKK.out.trans HE.out.2⟩
    · have hr : r = [] := List.length_eq_zero_iff.1 (by omega)
      subst hr
      have HE : Hid (d = l) := by show _ = _; rw [hdr.out, List.append_nil]
      have HSS := Lib.hid hS
      have HKK := Lib.hid hK
      clear hlen hS hK hA
      go_wp2_with fail
      go_end0
      exact ⟨rfl, by rw [← HE.out]; exact HSS.out, HKK.out⟩
end Go.Proofs.YtffgeoeoodogiaaDoor
