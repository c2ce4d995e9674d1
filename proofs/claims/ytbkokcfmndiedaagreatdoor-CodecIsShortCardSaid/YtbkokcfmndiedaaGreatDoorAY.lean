/- Several texts in one: Ao Ay Bg. -/
import Derived.Test.YtbkokcfmndiedaaGreatDoorAA
import Derived.Test.YtbkokcfmndiedaaGreatDoorHH
import Derived.Test.YtbkokcfmndiedaaGreatDoorMO
import Derived.Test.YtbkokcfmndiedaaGreatDoorM4
import Derived.Test.YtbkokcfmndiedaaGreatDoorAD
import Derived.Test.YtbkokcfmndiedaaGreatDoorLr
/- For the reference's Prove: the siblings' row is new; what the round's last store leaves. -/
namespace Go.Proofs.YtbkokcfmndiedaaGreatDoor
open Go.RowKit

theorem Keep.ofB {B : Nat} {a b : World} (h : Below B a b) : Keep (fun i => B ≤ i) a b := ⟨h.os, h.tape, h.output, h.size, fun i _ hl => h.block i (by omega)⟩
theorem range_keep15 {w w' : World} {L : Nat → Prop} {g o : Nat} {cs : List Value} (h : w.rangeAt g o cs) (hk : Keep L w w') (hl : ¬ L g) : w'.rangeAt g o cs := fun j v hv => hk.cellAt (h j v hv) hl
theorem rp_ea {B : Nat} {wr w2 Y1 : World} {v v3 : Value} {A : Option Addr} {es : List En} {o : Obj} {ds : List Int} (hE : EA w2 A es) (hA : ∀ a, A = some a → wr.heap.size ≤ a.block) (hG : Grown11 v v3 (w2.alloc o) Y1) (hZ : Bt.OwnZ wr B v ds) (hY : ∀ e ∈ es, EnOk Y1 e) : EA Y1 A es := fun i e he => by
  obtain ⟨_, g, j, rfl, hr⟩ := hE i e he
  refine ⟨hY e (List.mem_of_getElem? he), g, j, rfl, range_keep15 (range_below hr (Bt.one_below w2 o)) hG.keep fun h => ?_⟩
  obtain ⟨_, cs, hcs⟩ := row11_lt hZ g h
  have := lt_of_heap hcs
  have : wr.heap.size ≤ g := hA ⟨g, j, none⟩ rfl
  omega
theorem rp_end {B g : Nat} {V wr w2 Y1 Z w9 : World} {p : Pf} {v v3 s s' : Value} {o : Obj} {ds : List Int} {m : Int} {l : List (List UInt8)} {rt : List UInt8}
    (hgV : g < V.heap.size) (hB : B = V.heap.size) (hp : p.Ok) (hK : Keep (fun i => i = g) V wr) (hb2 : Below wr.heap.size wr w2) (hZ2 : Bt.OwnZ wr B v ds) (hS2 : OwnD wr B s l)
    (hdis : ∀ i, v.ownBlock = some i → s.ownBlock = some i → False) (hG3 : Grown11 v v3 (w2.alloc o) Y1) (hZ3 : Bt.OwnZ Y1 B v3 (ds ++ [m])) (hQ : Below Y1.heap.size Y1 Z) (hG9 : Grown11 s s' Z w9) (hO9 : OwnD w9 B s' (l ++ [rt])) (hP9 : PfAt w9 g p s) :
    Hid (Bt.OwnZ (w9.setCell ⟨g, 98, none⟩ s') B v3 (ds ++ [m])) ∧ Hid (PfAt (w9.setCell ⟨g, 98, none⟩ s') g p s') ∧ Hid (OwnD (w9.setCell ⟨g, 98, none⟩ s') B s' (l ++ [rt])) ∧
      Hid (∀ i, v3.ownBlock = some i → s'.ownBlock = some i → False) ∧ Hid (Keep (fun i => i = g) V (w9.setCell ⟨g, 98, none⟩ s')) := by
  have hVR : V.heap.size ≤ wr.heap.size := hK.size
  have hwY : wr.heap.size ≤ Y1.heap.size := Nat.le_trans hb2.size (Nat.le_trans (Nat.le_of_lt (by simp)) hG3.by_.size)
  have hsw : ∀ i, s.ownBlock = some i → i < wr.heap.size := fun i h => by obtain ⟨_, cs, hcs⟩ := row11_lt hS2 i h; exact lt_of_heap hcs
  have h3Y : ∀ i, v3.ownBlock = some i → i < Y1.heap.size := fun i h => by obtain ⟨_, cs, hcs⟩ := row11_lt hZ3 i h; exact lt_of_heap hcs
  have hvs : ∀ i, v3.ownBlock = some i → s.ownBlock = some i → False := fun i h1 h2 => by
    rcases hG3.blk with h | h
    · exact hdis i (h ▸ h1) h2
    · have e : (w2.alloc o).heap.size = i := by rw [h] at h1; exact Option.some.inj h1
      have := hsw i h2
      have := hb2.size
      have : w2.heap.size < (w2.alloc o).heap.size := by simp
      omega
  have kk : Keep (fun i => V.heap.size ≤ i) wr w9 := by
    have k1 : Keep (fun i => V.heap.size ≤ i) wr w2 := Keep.of_below hb2
    have k2 := k1.alloc o
    have k3 : Keep (fun i => V.heap.size ≤ i) wr Y1 := k2.step hG3.keep fun i h => .inl (hB ▸ Bt.OwnZ.ge hZ2 i h)
    have k4 : Keep (fun i => V.heap.size ≤ i) wr Z := k3.step (Keep.of_below (L := fun _ => False) hQ) fun _ h => h.elim
    exact k4.step hG9.keep fun i h => .inl (hB ▸ hS2.ge i h)
  refine ⟨?_, hP9.setSib hp s', ?_, fun i h1 h2 => ?_, ?_⟩
  · exact Bt.OwnZ.other (row11_keep (Bt.OwnZ.below hZ3 hQ) hG9.keep fun i h1 h2 => hvs i h1 h2) (hB ▸ hgV)
  · exact row11_other hO9 fun i cs h1 hh => by
      have := hO9.ge i h1
      rw [heap_setCell_other _ _ _ _ (show i ≠ g by omega)]
      exact hh
  · rcases hG9.blk with h | h
    · exact hvs i h1 (h ▸ h2)
    · have e : Z.heap.size = i := by rw [h] at h2; exact Option.some.inj h2
      have := h3Y i h1
      have := hQ.size
      omega
  · have k : Keep (fun i => i = g) w9 (w9.setCell ⟨g, 98, none⟩ s') := Keep.cell w9 ⟨g, 98, none⟩ s'
    exact ⟨k.os.trans (kk.os.trans hK.os), k.tape.trans (kk.tape.trans hK.tape), k.output.trans (kk.output.trans hK.output), Nat.le_trans hVR (Nat.le_trans kk.size k.size), fun i hi hl =>
      (k.block i (Nat.lt_of_lt_of_le hi (Nat.le_trans hVR kk.size)) hl).trans ((kk.block i (Nat.lt_of_lt_of_le hi hVR) (by omega)).trans (hK.block i hi hl))⟩
set_option maxHeartbeats 8000000 in
set_option maxRecDepth 100000 in
theorem sibling15_c (A : Option Addr) (c : Nat) (es : List En) (k : List UInt8) (D : Nat) (w : World) (hA : EA w A es) (hn : es.length ≤ 100000) (hk : k.length = 32) (hD : D < 256) :
    Calls Tryz.prog 23 #[.slice A es.length c, .agg (bA k), .int .i64 (D : Int)] w fun e w' => ∃ (A' : Option Addr) (c' : Nat), e = .returned (.slice A' (sibE es k D).length c') ∧ EA w' A' (sibE es k D) ∧ (∀ a, A' = some a → w.heap.size ≤ a.block) ∧ Below w.heap.size w w' := by
  obtain ⟨X, hX⟩ : ∃ X, X = w.alloc (.cells (bA k) 24) := ⟨_, rfl⟩
  have hb0 : Below w.heap.size w X := by rw [hX]; exact (Below.refl _ _).alloc (Nat.le_refl _) _
  have hr0 : RowB X w.heap.size 24 k := by rw [hX]; exact RowB.alloc w k _
  have HX := Lib.hid hX
  have HB0 := Lib.hid hb0
  have HR0 := Lib.hid hr0
  have HA := Lib.hid (hA.below hb0)
  clear hA hX hb0 hr0
  go_enter Tryz.func23, Tryz.ntmps23
  go_wp2_with fail
  rw [← HX.out]
  clear HX
  go_loopg [0, 7] D (fun gg l i wr => ∃ (d : Nat) (A' : Option Addr) (c' : Nat), l = .slice A' (dE es k d).length c' ∧ i = .int .i64 (d : Int) ∧ d ≤ D ∧ D - d = gg ∧ EA wr A' (dE es k d) ∧ Below X.heap.size X wr)
  case atStart => exact ⟨0, A, c, rfl, rfl, by omega, by omega, HA.out, Below.refl _ _⟩
  case round =>
    obtain ⟨d, A', c', rfl, rfl, hd, rfl, hE, hB⟩ := hrel
    have HE := Lib.hid hE
    have HB := Lib.hid hB
    have HL := Lib.hid (Nat.le_trans (dE_len es k d) hn)
    obtain ⟨L, hL⟩ : ∃ L, L = (dE es k d).length := ⟨_, rfl⟩
    rw [← hL]
    have HLL := Lib.hid hL
    have lk := (HR0.out.below HB.out).ldKey hk
    clear hE hB hL
    by_cases hlt : d < D
    · have dl : decide (d < D) = true := decide_eq_true hlt
      have hdi : (d : Int) < 256 := by omega
      go_wp2_with fail
      refine (bitK_c k hk d wr).mono ?_
      rintro _ w2 ⟨rfl, hb⟩
      have HB2 := Lib.hid (HB.out.trans (hb.mono HB.out.size))
      have HE2 := Lib.hid (HE.out.below hb)
      have HC := Lib.hid (part7_c A' c' (dE es k d) d (bitK k d) w2 HE2.out HL.out)
      rw [← HLL.out] at HC
      clear hb lk
      go_wp2_with fail
      refine HC.out.mono ?_
      rintro _ w3 ⟨v3, rfl, hO3, hB3⟩
      obtain ⟨A3, c3, rfl, hc3, hE3⟩ := hO3.ea (fun e he => (HE2.out.mem e (partE_mem he)).below hB3)
      have HE3 : Hid (EA w3 A3 (dE es k (d + 1))) := hE3
      have HB3 := Lib.hid (HB2.out.trans (hB3.mono HB2.out.size))
      have HL3 : Hid ((partE (dE es k d) d (bitK k d)).length = (dE es k (d + 1)).length) := rfl
      clear hO3 hc3 hE3 hB3 HC
      rw [HL3.out]
      go_wp2_with fail
      go_roundg (D - (d + 1))
      case measure => omega
      case rel => exact ⟨d + 1, A3, c3, rfl, by go_num, by omega, rfl, HE3.out, HB3.out⟩
    · obtain rfl : d = D := by omega
      have dl : decide (d < d) = false := decide_eq_false (by omega)
      have h01 := bitK_01 k d hD
      have HSB : Hid (∀ w, Calls Tryz.prog 33 #[.agg (bA k), .int .i64 (d : Int)] w fun e w' => e = .returned (.int .i64 (bitK k d)) ∧ Below w.heap.size w w') := fun w => bitK_c k hk d w
      have HCP : Hid (∀ w2, EA w2 A' (dE es k d) → Calls Tryz.prog 37 #[.slice A' L c', .int .i64 (d : Int), .int .i64 (1 - bitK k d)] w2 fun e w' => ∃ v, e = .returned v ∧ OwnE w' w2.heap.size v (sibE es k d) ∧ Below w2.heap.size w2 w') := fun w2 h => by
        rw [HLL.out]
        exact part7_c A' c' (dE es k d) d (1 - bitK k d) w2 h HL.out
      obtain ⟨q, hq⟩ : ∃ q, q = bitK k d := ⟨_, rfl⟩
      rw [← hq] at HSB HCP h01
      have q0 : 0 ≤ q := by omega
      have q1 : q ≤ 1 := by omega
      clear hq h01
      go_wp2_with fail
      refine (HSB.out wr).mono ?_
      rintro _ w2 ⟨rfl, hb⟩
      have HB2 := Lib.hid (HB.out.trans (hb.mono HB.out.size))
      have HE2 := Lib.hid (HE.out.below hb)
      have HC := Lib.hid (HCP.out w2 HE2.out)
      clear hb lk
      go_wp2_with fail
      refine HC.out.mono ?_
      rintro _ w3 ⟨v3, rfl, hO3, hB3⟩
      obtain ⟨A3, c3, rfl, hc3, hE3⟩ := hO3.ea (fun e he => (HE2.out.mem e (partE_mem he)).below hB3)
      have HE3 := Lib.hid hE3
      have HGE : Hid (∀ a, A3 = some a → w.heap.size ≤ a.block) := fun a ha => Nat.le_trans (Nat.le_trans HB0.out.size HB2.out.size) (hO3.ge a.block (by rw [ha]; rfl))
      have HB3 := Lib.hid (HB2.out.trans (hB3.mono HB2.out.size))
      clear hO3 hc3 hE3 hB3 HC
      go_wp2_with fail
      go_ret
      exact ⟨A3, c3, rfl, HE3.out, HGE.out, HB0.out.trans (HB3.out.mono HB0.out.size)⟩
end Go.Proofs.YtbkokcfmndiedaaGreatDoor

/- For the program's Prove: the end and the siblings of a way; what the round's last store leaves. -/
namespace Go.Proofs.YtbkokcfmndiedaaGreatDoor
open Go.RowKit

theorem keep_low {w V wr : World} {b g : Nat} (hB : Below w.heap.size w V) (hK : Keep (fun i => i = b ∨ i = g) V wr) (hg : w.heap.size ≤ g) : Keep (fun i => i = b) w wr :=
  ⟨hK.os.trans hB.os, hK.tape.trans hB.tape, hK.output.trans hB.output, Nat.le_trans hB.size hK.size, fun i hi hl => (hK.block i (Nat.lt_of_lt_of_le hi hB.size) (fun h => h.elim hl fun e => by omega)).trans (hB.block i hi)⟩
theorem pf_ptr {w : World} {g j : Nat} {p : Pf} {A : Option Addr} {n c : Nat} {q : Option Addr} (h : PfAt w g p (.slice A n c)) (hc : w.cell? ⟨g, j, none⟩ = some (.pointer q)) : False := by
  rw [cell_of_cells h] at hc
  have h1 := List.mem_of_getElem? (show (pfL p (.slice A n c))[j]? = some (.pointer q) from by simpa [pfC] using hc)
  simp [pfL, bv] at h1
theorem PA.two {w w' : World} {b g : Nat} {n : Int} {c m cs : Nat} {p : Pf} {A As : Option Addr} {ts : List Tv} (h : Hs w b n c) (hP : PfAt w g p (.slice As m cs)) (hA : PA w A ts) (hv : ∀ T ∈ ts, ∃ a, T.val = .pointer a)
    (k : Keep (fun i => i = b ∨ i = g) w w') : PA w' A ts := fun i T hi => by
  obtain ⟨u, o, rfl, h1⟩ := hA i T hi
  obtain ⟨a, ha⟩ := hv T (List.mem_of_getElem? hi)
  refine ⟨u, o, rfl, k.cellAt h1 fun e => ?_⟩
  rcases e with e | e
  · have e3 : u = b := e
    subst e3
    rw [ha] at h1
    have h0 : (#[Value.int .i64 (c : Int), .int .i64 n] : Array Value)[o + i]? = some (.pointer a) := by
      rw [← cell_of_cells h]; exact h1
    match o + i, h0 with
    | 0, h0 => simp at h0
    | 1, h0 => simp at h0
    | _ + 2, h0 => simp at h0
  · have e3 : u = g := e
    subst e3
    rw [ha] at h1
    exact pf_ptr hP h1
/-- The end of a way. -/
theorem fin_end {l : List Ent} {k : List UInt8} (hs : Sep 0 l) {T : Tv} (hT : At l k 0 T) (n : Int) :
    (dK l k (T.dep k 0) = [] ∧ kindT (T.fin k 0).tr = 0) ∨ (∃ e, dK l k (T.dep k 0) = [e] ∧ kindT (T.fin k 0).tr = 1 ∧ leafV n (T.fin k 0).tr = e.k ++ digL n (valL e.v)) := by
  obtain ⟨i1, i2, _⟩ := At.fin hs T 0 hT
  have hf := i1.few hs i2
  have htr := i1.tr
  have hle := i1.le
  obtain ⟨m, hm⟩ : ∃ m, 257 - T.dep k 0 = m + 1 := ⟨256 - T.dep k 0, by omega⟩
  rw [hm] at htr
  match hd : dK l k (T.dep k 0) with
  | [] => rw [hd] at htr; exact .inl ⟨rfl, by rw [htr]; rfl⟩
  | [e] => rw [hd] at htr; exact .inr ⟨e, rfl, by rw [htr]; rfl, by rw [htr]; rfl⟩
  | a :: b :: r => rw [hd] at hf; simp at hf
theorem sib_empty {l : List Ent} {k : List UInt8} (hs : Sep 0 l) {T : Tv} (hT : At l k 0 T) {i : Nat} {S : Tv} (hi : (T.sibs k 0)[i]? = some S) : S = .nil ↔ sibK l k i = [] := by
  have h3 := sib_both hs hT hi 0
  obtain ⟨h1, h2⟩ := At.sib hs T 0 hT i S hi
  rw [Nat.zero_add] at h1 h2
  constructor
  · rintro rfl
    have : (sibK l k i).length = 0 := h3.2.1.symm
    exact List.length_eq_zero_iff.1 this
  · intro h
    rw [h] at h2
    obtain ⟨m, hm⟩ : ∃ m, 256 - i = m + 1 := ⟨255 - i, by omega⟩
    rw [hm] at h2
    have h4 : S.tr = .nil := h2
    cases S with
    | nil => rfl
    | leaf v e => cases h4
    | inner v a b => cases h4
theorem rp_end2 {B g b : Nat} {V wr Y1 Z w9 : World} {p : Pf} {v v3 s s' : Value} {o : Obj} {ds : List Int} {m : Int} {l : List (List UInt8)} {rt : List UInt8}
    (hgV : g < V.heap.size) (hbV : b < V.heap.size) (hB : B = V.heap.size) (hp : p.Ok) (hK : Keep (fun i => i = b ∨ i = g) V wr) (hZ2 : Bt.OwnZ wr B v ds) (hS2 : OwnD wr B s l)
    (hdis : ∀ i, v.ownBlock = some i → s.ownBlock = some i → False) (hG3 : Grown11 v v3 (wr.alloc o) Y1) (hZ3 : Bt.OwnZ Y1 B v3 (ds ++ [m])) (hQ : Keep (fun i => i = b) Y1 Z) (hG9 : Grown11 s s' Z w9) (hO9 : OwnD w9 B s' (l ++ [rt])) (hP9 : PfAt w9 g p s) :
    Hid (Bt.OwnZ (w9.setCell ⟨g, 98, none⟩ s') B v3 (ds ++ [m])) ∧ Hid (PfAt (w9.setCell ⟨g, 98, none⟩ s') g p s') ∧ Hid (OwnD (w9.setCell ⟨g, 98, none⟩ s') B s' (l ++ [rt])) ∧
      Hid (∀ i, v3.ownBlock = some i → s'.ownBlock = some i → False) ∧ Hid (Keep (fun i => i = b ∨ i = g) V (w9.setCell ⟨g, 98, none⟩ s')) := by
  have hVR : V.heap.size ≤ wr.heap.size := hK.size
  have hwY : wr.heap.size ≤ Y1.heap.size := Nat.le_trans (Nat.le_of_lt (by simp)) hG3.by_.size
  have hsw : ∀ i, s.ownBlock = some i → i < wr.heap.size := fun i h => by obtain ⟨_, cs, hcs⟩ := row11_lt hS2 i h; exact lt_of_heap hcs
  have h3Y : ∀ i, v3.ownBlock = some i → i < Y1.heap.size := fun i h => by obtain ⟨_, cs, hcs⟩ := row11_lt hZ3 i h; exact lt_of_heap hcs
  have hvs : ∀ i, v3.ownBlock = some i → s.ownBlock = some i → False := fun i h1 h2 => by
    rcases hG3.blk with h | h
    · exact hdis i (h ▸ h1) h2
    · have e : (wr.alloc o).heap.size = i := by rw [h] at h1; exact Option.some.inj h1
      have := hsw i h2
      have : wr.heap.size < (wr.alloc o).heap.size := by simp
      omega
  have kk : Keep (fun i => i = b ∨ V.heap.size ≤ i) wr w9 := by
    have k2 : Keep (fun i => i = b ∨ V.heap.size ≤ i) wr (wr.alloc o) := (Keep.refl _ _).alloc o
    have k3 : Keep (fun i => i = b ∨ V.heap.size ≤ i) wr Y1 := k2.step hG3.keep fun i h => .inl (.inr (hB ▸ Bt.OwnZ.ge hZ2 i h))
    have k4 : Keep (fun i => i = b ∨ V.heap.size ≤ i) wr Z := k3.step hQ fun _ h => .inl (.inl h)
    exact k4.step hG9.keep fun i h => .inl (.inr (hB ▸ hS2.ge i h))
  refine ⟨?_, hP9.setSib hp s', ?_, fun i h1 h2 => ?_, ?_⟩
  · refine Bt.OwnZ.other (row11_keep (row11_keep hZ3 hQ fun i h e => ?_) hG9.keep fun i h1 h2 => hvs i h1 h2) (hB ▸ hgV)
    have h1 := Bt.OwnZ.ge hZ3 i h
    have h2 : i = b := e
    omega
  · exact row11_other hO9 fun i cs h1 hh => by
      have := hO9.ge i h1
      rw [heap_setCell_other _ _ _ _ (show i ≠ g by omega)]
      exact hh
  · rcases hG9.blk with h | h
    · exact hvs i h1 (h ▸ h2)
    · have e : Z.heap.size = i := by rw [h] at h2; exact Option.some.inj h2
      have := h3Y i h1
      have := hQ.size
      omega
  · have k : Keep (fun i => i = g) w9 (w9.setCell ⟨g, 98, none⟩ s') := Keep.cell w9 ⟨g, 98, none⟩ s'
    exact ⟨k.os.trans (kk.os.trans hK.os), k.tape.trans (kk.tape.trans hK.tape), k.output.trans (kk.output.trans hK.output), Nat.le_trans hVR (Nat.le_trans kk.size k.size), fun i hi hl =>
      (k.block i (Nat.lt_of_lt_of_le hi (Nat.le_trans hVR kk.size)) (fun e => hl (.inr e))).trans ((kk.block i (Nat.lt_of_lt_of_le hi hVR) (fun e => e.elim (fun e => hl (.inl e)) fun e => by omega)).trans (hK.block i hi hl))⟩
end Go.Proofs.YtbkokcfmndiedaaGreatDoor

/- For the program's Prove: the end of a way, a proof built of three parts, a set with one depth more, what a round leaves. -/
namespace Go.Proofs.YtbkokcfmndiedaaGreatDoor
open Go.RowKit

theorem list64 (l : List UInt8) (h : l.length = 64) : l = (List.range 64).map fun j => l.getD j 0 := by
  refine List.ext_getElem (by simp [h]) fun j h1 h2 => ?_
  simp [List.getD_eq_getElem?_getD, h1]
theorem bldPf_f (k d : Int) (f : Nat → UInt8) (w : World) : bldA 36 w #[(0, .int .i64 k), (1, .int .i64 d), (2, .agg (bA ((List.range 64).map f)))] = .ok (.value (.agg (pfC ⟨k, d, (List.range 64).map f, z26, []⟩ (.slice none 0 0)))) w := by kernel_rfl
theorem bldPf_kdl (k d : Int) (l : List UInt8) (hl : l.length = 64) (w : World) : bldA 36 w #[(0, .int .i64 k), (1, .int .i64 d), (2, .agg (bA l))] = .ok (.value (.agg (pfC ⟨k, d, l, z26, []⟩ (.slice none 0 0)))) w := by
  rw [list64 l hl]
  exact bldPf_f k d _ w
/-- The end of a way: its kind, its leaf. -/
theorem fin_both {l : List Ent} {k : List UInt8} (hs : Sep 0 l) {T : Tv} (hT : At l k 0 T) (n : Int) :
    kindT (T.fin k 0).tr = kindO (dK l k (T.dep k 0)) ∧ leafV n (T.fin k 0).tr = leafO n (dK l k (T.dep k 0)) := by
  obtain ⟨i1, i2, _⟩ := At.fin hs T 0 hT
  have hf := i1.few hs i2
  have htr := i1.tr
  have hle := i1.le
  obtain ⟨m, hm⟩ : ∃ m, 257 - T.dep k 0 = m + 1 := ⟨256 - T.dep k 0, by omega⟩
  rw [hm] at htr
  match hd : dK l k (T.dep k 0) with
  | [] => rw [hd] at htr; exact ⟨by rw [htr]; rfl, by rw [htr]; rfl⟩
  | [e] => rw [hd] at htr; exact ⟨by rw [htr]; rfl, by rw [htr]; rfl⟩
  | a :: b :: r => rw [hd] at hf; simp at hf
theorem kcb {k : Nat → Nat} (hk : Bt.Byt k) : Bt.kc k = bA (bmL k) := by
  rw [bA_key _ (bmL_len k)]
  exact Bt.kc_congr fun j hj => (keyF_bmL hk j hj).symm
theorem ofK_snoc (l : List Int) (d : Int) : Bt.ofK (l ++ [d]) = Bt.insK (Bt.ofK l) d := by
  unfold Bt.ofK Bt.ofFrom
  rw [List.foldl_append]; rfl
theorem bmL_zero : bmL (Bt.ofK []) = z26 := by kernel_rfl
theorem withB_c (l : List Int) (d : Int) (w : World) : Calls Tryz.prog 31 #[.agg (bA (bmL (Bt.ofK l))), .int .i64 d] w fun e w' => e = .returned (.agg (bA (bmL (Bt.ofK (l ++ [d]))))) ∧ Below w.heap.size w w' := by
  have := Bt.with_c (Bt.ofK l) (Bt.ofK_byt l) d w
  rwa [kcb (Bt.ofK_byt l), ← ofK_snoc, kcb (Bt.ofK_byt _)] at this
theorem kind_two {T : Tv} (h : T ≠ .nil) : (kindT T.tr == 0) = false := by
  cases T with
  | nil => exact absurd rfl h
  | leaf v e => rfl
  | inner v a b => rfl
theorem keep_set15 (g : Nat) : ∀ (vs : List Value) (o : Nat) (w : World), Keep (fun i => i = g) w (w.setCells g o vs)
  | [], _, _ => Keep.refl _ _
  | v :: r, o, w => (Keep.cell w ⟨g, o, none⟩ v).trans (keep_set15 g r (o + 1) _)
/-- What a round's last store leaves. -/
theorem rp_end3 {B g b : Nat} {V Y1 w9 : World} {p : Pf} {s s' : Value} {l : List (List UInt8)}
    (hB : B = V.heap.size) (hgV : g < V.heap.size) (hp : p.Ok) (hK : Keep (fun i => i = b ∨ i = g) V Y1) (hS : Keep (fun i => i = b ∨ V.heap.size ≤ i) Y1 w9) (hO : OwnD w9 B s' l) (hP : PfAt w9 g p s) :
    Hid (PfAt (w9.setCell ⟨g, 98, none⟩ s') g p s') ∧ Hid (OwnD (w9.setCell ⟨g, 98, none⟩ s') B s' l) ∧ Hid (Keep (fun i => i = b ∨ i = g) V (w9.setCell ⟨g, 98, none⟩ s')) := by
  have k : Keep (fun i => i = g) w9 (w9.setCell ⟨g, 98, none⟩ s') := Keep.cell w9 ⟨g, 98, none⟩ s'
  refine ⟨hP.setSib hp s', ?_, ?_⟩
  · exact row11_other hO fun i cs h1 hh => by
      have := hO.ge i h1
      rw [heap_setCell_other _ _ _ _ (show i ≠ g by omega)]
      exact hh
  · exact ⟨k.os.trans (hS.os.trans hK.os), k.tape.trans (hS.tape.trans hK.tape), k.output.trans (hS.output.trans hK.output), Nat.le_trans hK.size (Nat.le_trans hS.size k.size), fun i hi hl =>
      (k.block i (Nat.lt_of_lt_of_le hi (Nat.le_trans hK.size hS.size)) (fun e => hl (.inr e))).trans ((hS.block i (Nat.lt_of_lt_of_le hi hK.size) (fun e => e.elim (fun e => hl (.inl e)) fun e => by omega)).trans (hK.block i hi hl))⟩
end Go.Proofs.YtbkokcfmndiedaaGreatDoor
