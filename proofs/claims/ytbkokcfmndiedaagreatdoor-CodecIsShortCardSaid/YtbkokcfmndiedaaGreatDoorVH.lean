/- Several texts in one: Vh Vj. -/
import Derived.Test.YtbkokcfmndiedaaGreatDoorVA
import Derived.Test.YtbkokcfmndiedaaGreatDoorBd
import Derived.Test.YtbkokcfmndiedaaGreatDoorSl
/- The program: Kind, the size of the parts in front of the siblings, Size. -/
namespace Go.Proofs.YtbkokcfmndiedaaGreatDoor
open Go.RowKit

theorem cellP8 {A : Option Addr} {b : List UInt8} {W : World} (hA : BA W A b) (h : 0 < b.length) : ∃ g o, A = some ⟨g, o, none⟩ ∧ ∀ i, i < b.length → W.cell? ⟨g, o + i, none⟩ = some (.int .u8 (at8 b i : Int)) := by
  obtain ⟨g, o, e, _⟩ := hA 0 _ (List.getElem?_eq_getElem h)
  subst e
  refine ⟨g, o, rfl, fun i hi => ?_⟩
  obtain ⟨g', o', e, h⟩ := hA i _ (List.getElem?_eq_getElem hi)
  cases e
  rw [h]
  unfold at8
  rw [List.getD_eq_getElem?_getD, List.getElem?_eq_getElem hi]; rfl
set_option maxHeartbeats 4000000 in
set_option maxRecDepth 100000 in
theorem pkind17_c (w : World) (b : List UInt8) (A : Option Addr) (c : Nat) (hA : BA w A b) :
    Calls Tryz.prog 17 #[.slice A b.length c] w fun e w' => e = .returned (.tuple #[.int .i64 (kdV b), .int .i64 (kdE b)]) ∧ Below w.heap.size w w' := by
  by_cases h2 : b.length < 2
  · have d1 : decide ((b.length : Int) < 2) = true := decide_eq_true (by omega)
    rw [show kdV b = 0 by unfold kdV; rw [if_pos h2], show kdE b = 5 by unfold kdE; rw [if_pos h2]]
    clear h2 hA
    go_enter Tryz.func17, Tryz.ntmps17
    go_wp2
    go_ret2
    exact ⟨rfl, Below.refl _ _⟩
  · have d1 : decide ((b.length : Int) < 2) = false := decide_eq_false (by omega)
    obtain ⟨g, o, rfl, hcell⟩ := cellP8 hA (by omega)
    have c0 := hcell 0 (by omega)
    have c1 := hcell 1 (by omega)
    rw [Nat.add_zero] at c0
    have j1 : (1 : Int) < (b.length : Int) := by omega
    have hl1 := at8_lt b 1
    clear hcell
    by_cases h0 : at8 b 0 = 1
    · rw [show kdV b = at8 b 1 by unfold kdV; rw [if_neg h2, if_neg (by omega)], show kdE b = 0 by unfold kdE; rw [if_neg h2, if_neg (by omega)]]
      have c0z : w.cell? ⟨g, o, none⟩ = some (.int .u8 1) := by rw [c0, h0]; rfl
      obtain ⟨x1, hx1⟩ : ∃ x, x = at8 b 1 := ⟨_, rfl⟩
      rw [← hx1] at c1 hl1 ⊢
      clear h2 hA h0 hx1 c0
      go_enter Tryz.func17, Tryz.ntmps17
      go_wp2
      go_ret2
      exact ⟨rfl, Below.refl _ _⟩
    · rw [show kdV b = 0 by unfold kdV; rw [if_neg h2, if_pos h0], show kdE b = 6 by unfold kdE; rw [if_neg h2, if_pos h0]]
      have d2 : ¬ ((at8 b 0 : Int) = 1) := by omega
      clear h2 hA h0
      go_enter Tryz.func17, Tryz.ntmps17
      go_wp2
      go_ret2
      exact ⟨rfl, Below.refl _ _⟩
def headN (k : Int) : Int := if k = 1 then 100 else if k = 0 then 36 else 0
set_option maxHeartbeats 4000000 in
set_option maxRecDepth 100000 in
theorem phead17_c (w : World) (k : Int) : Calls Tryz.prog 40 #[.int .i64 k] w fun e w' => e = .returned (.int .i64 (headN k)) ∧ Below w.heap.size w w' := by
  by_cases h1 : k = 1
  · rw [show headN k = 100 by unfold headN; rw [if_pos h1]]
    subst h1
    go_enter Tryz.func40, Tryz.ntmps40
    go_wp2
    go_ret
    exact ⟨rfl, Below.refl _ _⟩
  · by_cases h0 : k = 0
    · rw [show headN k = 36 by unfold headN; rw [if_neg h1, if_pos h0]]
      subst h0
      clear h1
      go_enter Tryz.func40, Tryz.ntmps40
      go_wp2
      go_ret
      exact ⟨rfl, Below.refl _ _⟩
    · rw [show headN k = 0 by unfold headN; rw [if_neg h1, if_neg h0]]
      go_enter Tryz.func40, Tryz.ntmps40
      go_wp2
      go_ret
      exact ⟨rfl, Below.refl _ _⟩
set_option maxHeartbeats 4000000 in
set_option maxRecDepth 100000 in
theorem psize17_c (w : World) (p : Pf) (A : Option Addr) (c : Nat) (hp : p.Ok) (hA : DS w A p.sib) (hc : p.sib.length ≤ c) (hl : p.sib.length ≤ 1000000) :
    Calls Tryz.prog 20 #[.agg (pfC p (.slice A p.sib.length c))] w fun e w' => e = .returned (.int .i64 (sizP p)) ∧ Below w.heap.size w w' := by
  obtain ⟨X, hX⟩ : ∃ X, X = w.alloc (.cells (pfC p (.slice A p.sib.length c)) 36) := ⟨_, rfl⟩
  have hB : Below w.heap.size w X := by rw [hX]; exact Bt.one_below _ _
  have hP : PfAt X w.heap.size p (.slice A p.sib.length c) := by rw [hX]; exact PfAt.one _ _ _
  have lx := hP.ld hp
  rw [hX] at lx
  have HCK := pcheck_c X p A c hp (hA.below hB) hc hl
  have HX := Lib.hid hX
  have HB := Lib.hid hB
  have HP := Lib.hid hP
  have HPO := Lib.hid hp
  obtain ⟨z, hz⟩ : ∃ z, z = chkP p := ⟨_, rfl⟩
  rw [← hz] at HCK
  have HCK := Lib.hid HCK
  obtain ⟨S, hS⟩ : ∃ S, S = p.sib.length := ⟨_, rfl⟩
  have hlen := encP_len hp
  rw [← hS] at hlen
  by_cases hz0 : z = 0
  · have hk : p.kind = 0 ∨ p.kind = 1 := by
      rcases chkP_cases p with ⟨h1, _⟩ | ⟨h1, _⟩
      · omega
      · exact h1
    obtain ⟨L, hL⟩ : ∃ L : Nat, L = (encP p).length := ⟨_, rfl⟩
    have hsz : sizP p = (L : Int) := by unfold sizP; rw [if_pos (by omega), hL]
    rw [hsz]
    rw [← hL] at hlen
    have v1 : IntKind.i64.wrap (32 * (S : Int)) = 32 * (S : Int) := wrap17 (by omega) (by omega)
    have HSE := Lib.hid hS
    subst hz0
    clear hX hB hP hp hA hc hz hL hsz
    rcases hk with hk | hk
    · have HLE : Hid ((L : Int) = 36 + 32 * (S : Int)) := by show _ = _; rw [hk] at hlen; simp at hlen; omega
      have HKE := Lib.hid hk
      have v2 : IntKind.i64.wrap (36 + 32 * (S : Int)) = 36 + 32 * (S : Int) := wrap17 (by omega) (by omega)
      have HHD := Lib.hid (fun w => phead17_c w 0)
      rw [show headN 0 = 36 from rfl] at HHD
      clear hlen hk hS hl
      go_enter Tryz.func20, Tryz.ntmps20
      go_wp2_with fail
      rw [← HX.out]
      refine HCK.out.mono ?_
      rintro _ w2 ⟨rfl, hb2⟩
      have hP2 := HP.out.below hb2 HP.out.lt
      have k2 : ∀ x : Later w2, x.w.cell? ⟨w.heap.size, 0, none⟩ = some (.int .i64 0) := fun x => by
        have h := (hP2.below x.h hP2.lt).kind
        rwa [HKE.out] at h
      have s2 : ∀ x : Later w2, x.w.cell? ⟨w.heap.size, 98, none⟩ = some (.slice A S c) := fun x => by
        have h := (hP2.below x.h hP2.lt).sib HPO.out
        rwa [← HSE.out] at h
      have HB2 : Hid (Below w.heap.size w w2) := HB.out.trans (hb2.mono HB.out.size)
      clear hP2 hb2 lx HCK
      go_wp2_with fail
      refine wp_region_later (by kernel_rfl) (by kernel_rfl) ?_
      repeat (go_big_quiet_step ((go_at_call 40; exact Later.call (HHD.out _))))
      refine wpQuiet_nil ?_
      rintro _ ⟨x, rfl⟩
      have HB3 : Hid (Below w.heap.size w x.w) := HB2.out.trans (x.h.mono HB2.out.size)
      clear HHD k2 s2
      go_wp2
      go_ret
      exact ⟨by rw [HLE.out]; rfl, HB3.out⟩
    · have HLE : Hid ((L : Int) = 100 + 32 * (S : Int)) := by show _ = _; rw [hk] at hlen; simp at hlen; omega
      have HKE := Lib.hid hk
      have v2 : IntKind.i64.wrap (100 + 32 * (S : Int)) = 100 + 32 * (S : Int) := wrap17 (by omega) (by omega)
      have HHD := Lib.hid (fun w => phead17_c w 1)
      rw [show headN 1 = 100 from rfl] at HHD
      clear hlen hk hS hl
      go_enter Tryz.func20, Tryz.ntmps20
      go_wp2_with fail
      rw [← HX.out]
      refine HCK.out.mono ?_
      rintro _ w2 ⟨rfl, hb2⟩
      have hP2 := HP.out.below hb2 HP.out.lt
      have k2 : ∀ x : Later w2, x.w.cell? ⟨w.heap.size, 0, none⟩ = some (.int .i64 1) := fun x => by
        have h := (hP2.below x.h hP2.lt).kind
        rwa [HKE.out] at h
      have s2 : ∀ x : Later w2, x.w.cell? ⟨w.heap.size, 98, none⟩ = some (.slice A S c) := fun x => by
        have h := (hP2.below x.h hP2.lt).sib HPO.out
        rwa [← HSE.out] at h
      have HB2 : Hid (Below w.heap.size w w2) := HB.out.trans (hb2.mono HB.out.size)
      clear hP2 hb2 lx HCK
      go_wp2_with fail
      refine wp_region_later (by kernel_rfl) (by kernel_rfl) ?_
      repeat (go_big_quiet_step ((go_at_call 40; exact Later.call (HHD.out _))))
      refine wpQuiet_nil ?_
      rintro _ ⟨x, rfl⟩
      have HB3 : Hid (Below w.heap.size w x.w) := HB2.out.trans (x.h.mono HB2.out.size)
      clear HHD k2 s2
      go_wp2
      go_ret
      exact ⟨by rw [HLE.out]; rfl, HB3.out⟩
  · have hsz : sizP p = 0 := by unfold sizP; rw [if_neg (by omega)]
    rw [hsz]
    clear hX hB hP hp hA hc hz hsz hlen hS hl
    go_enter Tryz.func20, Tryz.ntmps20
    go_wp2_with fail
    rw [← HX.out]
    refine HCK.out.mono ?_
    rintro _ w2 ⟨rfl, hb2⟩
    have HB2 : Hid (Below w.heap.size w w2) := HB.out.trans (hb2.mono HB.out.size)
    clear hb2 lx HCK
    go_wp2
    go_ret
    exact ⟨rfl, HB2.out⟩
end Go.Proofs.YtbkokcfmndiedaaGreatDoor

/- The program: the check of the parts, a reader's next. -/
namespace Go.Proofs.YtbkokcfmndiedaaGreatDoor
open Go.RowKit

def chkB17 (b : List UInt8) : Int :=
  if b.length < 36 then 5 else if at8 b 0 ≠ 1 then 6 else if 1 < at8 b 1 then 7 else if b.length < restP b ∨ 8192 < b.length - restP b ∨ (b.length - restP b) % 32 ≠ 0 then 5 else 0
theorem headN_restP {b : List UInt8} (h : ¬ 1 < at8 b 1) : headN (at8 b 1) = restP b := by
  unfold headN restP
  rcases (show at8 b 1 = 0 ∨ at8 b 1 = 1 by omega) with e | e <;> rw [e] <;> rfl
set_option maxHeartbeats 4000000 in
set_option maxRecDepth 100000 in
theorem pparts17_c (w : World) (b : List UInt8) (A : Option Addr) (c : Nat) (hA : BA w A b) (hl : b.length ≤ 1000000) :
    Calls Tryz.prog 38 #[.slice A b.length c] w fun e w' => e = .returned (.int .i64 (chkB17 b)) ∧ Below w.heap.size w w' := by
  by_cases h36 : b.length < 36
  · have d1 : decide ((b.length : Int) < 36) = true := decide_eq_true (by omega)
    rw [show chkB17 b = 5 by unfold chkB17; rw [if_pos h36]]
    clear h36 hA
    go_enter Tryz.func38, Tryz.ntmps38
    go_wp2
    go_ret
    exact ⟨rfl, Below.refl _ _⟩
  have d1 : decide ((b.length : Int) < 36) = false := decide_eq_false (by omega)
  have HK := Lib.hid (pkind17_c w b A c hA)
  by_cases h0 : at8 b 0 = 1
  rotate_left 1
  · have ek : kdE b = 6 := by unfold kdE; rw [if_neg (by omega), if_pos h0]
    have ev : kdV b = 0 := by unfold kdV; rw [if_neg (by omega), if_pos h0]
    rw [ek, ev] at HK
    rw [show chkB17 b = 6 by unfold chkB17; rw [if_neg h36, if_pos h0]]
    clear h36 hA h0 ek ev hl
    go_enter Tryz.func38, Tryz.ntmps38
    go_wp2_with fail
    refine HK.out.mono ?_
    rintro _ w2 ⟨rfl, hb2⟩
    have HB2 := Lib.hid hb2
    clear HK hb2
    go_wp2
    go_ret
    exact ⟨rfl, HB2.out⟩
  have ek : kdE b = 0 := by unfold kdE; rw [if_neg (by omega), if_neg (by omega)]
  have ev : kdV b = at8 b 1 := by unfold kdV; rw [if_neg (by omega), if_neg (by omega)]
  rw [ek, ev] at HK
  have HHD := Lib.hid (fun w => phead17_c w (at8 b 1))
  have hge : 36 ≤ b.length := by omega
  obtain ⟨L, hL⟩ : ∃ L, L = b.length := ⟨_, rfl⟩
  by_cases h1 : 1 < at8 b 1
  · have eh : headN (at8 b 1) = 0 := by unfold headN; rw [if_neg (by omega), if_neg (by omega)]
    rw [eh] at HHD
    rw [show chkB17 b = 7 by unfold chkB17; rw [if_neg h36, if_neg (by omega), if_pos h1]]
    clear h36 hA h0 ek ev hl h1 eh hge hL
    go_enter Tryz.func38, Tryz.ntmps38
    go_wp2_with fail
    refine HK.out.mono ?_
    rintro _ w2 ⟨rfl, hb2⟩
    have HB2 := Lib.hid hb2
    clear HK hb2
    go_wp2_with fail
    refine (HHD.out _).mono ?_
    rintro _ w3 ⟨rfl, hb3⟩
    have HB3 := Lib.hid (HB2.out.trans (hb3.mono HB2.out.size))
    clear HHD hb3
    go_wp2
    go_ret
    exact ⟨rfl, HB3.out⟩
  obtain ⟨R, hR⟩ : ∃ R, R = restP b := ⟨_, rfl⟩
  have hR2 : R = 36 ∨ R = 100 := by rw [hR]; unfold restP; split <;> simp
  rw [headN_restP h1, ← hR] at HHD
  have hn0 : ¬ ((R : Int) = 0) := by omega
  have hw : IntKind.i64.wrap ((b.length : Int) - (R : Int)) = (b.length : Int) - (R : Int) := wrap17 (by omega) (by omega)
  have he : chkB17 b = if b.length < R ∨ 8192 < b.length - R ∨ (b.length - R) % 32 ≠ 0 then 5 else 0 := by
    unfold chkB17
    rw [if_neg h36, if_neg (by omega), if_neg h1, ← hR]
  rw [he]
  clear h36 hA h0 ek ev h1 he hR
  by_cases hlt : b.length < R
  · rw [if_pos (.inl hlt)]
    have d2 : decide ((b.length : Int) - (R : Int) < 0) = true := decide_eq_true (by omega)
    clear hL hlt hR2 hl hge
    go_enter Tryz.func38, Tryz.ntmps38
    go_wp2_with fail
    refine HK.out.mono ?_
    rintro _ w2 ⟨rfl, hb2⟩
    have HB2 := Lib.hid hb2
    clear HK hb2
    go_wp2_with fail
    refine (HHD.out _).mono ?_
    rintro _ w3 ⟨rfl, hb3⟩
    have HB3 := Lib.hid (HB2.out.trans (hb3.mono HB2.out.size))
    clear HHD hb3
    go_wp2
    go_ret
    exact ⟨rfl, HB3.out⟩
  obtain ⟨n, hn⟩ : ∃ n : Nat, n = b.length - R := ⟨_, rfl⟩
  have hw2 : IntKind.i64.wrap ((b.length : Int) - (R : Int)) = (n : Int) := by rw [hw]; omega
  rw [← hn]
  have d2 : decide ((n : Int) < 0) = false := decide_eq_false (by omega)
  have hnl : n ≤ 1000000 := by omega
  have HLT : Hid (¬ b.length < R) := hlt
  clear hL hR2 hl hge hn hlt hw
  by_cases hbig : 8192 < n
  · rw [if_pos (.inr (.inl hbig))]
    have d3 : decide ((8192 : Int) < (n : Int)) = true := decide_eq_true (by omega)
    clear hbig hnl
    go_enter Tryz.func38, Tryz.ntmps38
    go_wp2_with fail
    refine HK.out.mono ?_
    rintro _ w2 ⟨rfl, hb2⟩
    have HB2 := Lib.hid hb2
    clear HK hb2
    go_wp2_with fail
    refine (HHD.out _).mono ?_
    rintro _ w3 ⟨rfl, hb3⟩
    have HB3 := Lib.hid (HB2.out.trans (hb3.mono HB2.out.size))
    clear HHD hb3
    go_wp2
    go_ret
    exact ⟨rfl, HB3.out⟩
  have d3 : decide ((8192 : Int) < (n : Int)) = false := decide_eq_false (by omega)
  have HBIG : Hid (¬ 8192 < n) := hbig
  clear hbig hnl
  by_cases hm : n % 32 = 0
  · rw [if_neg (by have h1 := HLT.out; have h2 := HBIG.out; omega)]
    have hrm : ((n : Int) % 32 != 0) = false := by rw [show ((n : Int) % 32) = 0 by omega]; rfl
    clear hm
    go_enter Tryz.func38, Tryz.ntmps38
    go_wp2_with fail
    refine HK.out.mono ?_
    rintro _ w2 ⟨rfl, hb2⟩
    have HB2 := Lib.hid hb2
    clear HK hb2
    go_wp2_with fail
    refine (HHD.out _).mono ?_
    rintro _ w3 ⟨rfl, hb3⟩
    have HB3 := Lib.hid (HB2.out.trans (hb3.mono HB2.out.size))
    clear HHD hb3
    go_wp2
    go_ret
    exact ⟨rfl, HB3.out⟩
  · rw [if_pos (.inr (.inr hm))]
    have hrm : ((n : Int) % 32 != 0) = true := by simp; omega
    clear hm
    go_enter Tryz.func38, Tryz.ntmps38
    go_wp2_with fail
    refine HK.out.mono ?_
    rintro _ w2 ⟨rfl, hb2⟩
    have HB2 := Lib.hid hb2
    clear HK hb2
    go_wp2_with fail
    refine (HHD.out _).mono ?_
    rintro _ w3 ⟨rfl, hb3⟩
    have HB3 := Lib.hid (HB2.out.trans (hb3.mono HB2.out.size))
    clear HHD hb3
    go_wp2
    go_ret
    exact ⟨rfl, HB3.out⟩
/-- A reader in memory that stands at position i of the bytes at (q, o). -/
def RdAt (w : World) (g q o c n i : Nat) : Prop := ∃ A, w.heap[g]? = some (.cells #[.slice A (n - i) (c - i)] 119 (0, 0)) ∧ (i < c → A = some ⟨q, o + i, none⟩)
set_option maxHeartbeats 4000000 in
set_option maxRecDepth 100000 in
theorem next17_c (w : World) (g q o c n i k : Nat) (hg : RdAt w g q o c n i) (hk : 0 < k) (hi : i + k ≤ n) (hc : n ≤ c) (_hn : n ≤ 1000000) :
    Calls Tryz.prog 71 #[.pointer (some ⟨g, 0, none⟩), .int .i64 k] w fun e w' => e = .returned (.slice (some ⟨q, o + i, none⟩) k (c - i)) ∧ RdAt w' g q o c n (i + k) ∧ Keep (fun j => j = g) w w' := by
  obtain ⟨A, hb, hA⟩ := hg
  obtain rfl := hA (by omega)
  have c1 : w.cell? ⟨g, 0, none⟩ = some (.slice (some ⟨q, o + i, none⟩) (n - i) (c - i)) := by rw [cell_of_cells hb]; rfl
  have f1 : w.frozen? ⟨g, 0, none⟩ = false := frozen_of_row w _ _ _ _ hb
  obtain ⟨m, hm⟩ : ∃ m, m = n - i := ⟨_, rfl⟩
  obtain ⟨d, hd⟩ : ∃ d, d = c - i := ⟨_, rfl⟩
  rw [← hm, ← hd] at c1
  have j1 : (k : Int) ≤ (d : Int) := by omega
  have j2 : (k : Int) ≤ (m : Int) := by omega
  have HB := Lib.hid hb
  have HM := Lib.hid hm
  have HD := Lib.hid hd
  have HI := Lib.hid hi
  have HC := Lib.hid hc
  clear hA hb hk hi hc hm hd
  go_enter Tryz.func71, Tryz.ntmps71
  go_wp2_with fail
  · go_ret
    have e1 := HM.out
    have e2 := HD.out
    have e3 := HI.out
    have e4 := HC.out
    refine ⟨by rw [← e2, h]; rfl, ⟨some ⟨q, o + i, none⟩, ?_, fun h => by omega⟩, Keep.cell w ⟨g, 0, none⟩ _⟩
    rw [heap_setCell_same w g 0 _ _ _ HB.out, show n - (i + k) = m - k by omega, show c - (i + k) = 0 by omega]
    rfl
  · go_ret
    have e1 := HM.out
    have e2 := HD.out
    have e3 := HI.out
    have e4 := HC.out
    refine ⟨by rw [← e2]; rfl, ⟨some ⟨q, o + i + k, none⟩, ?_, fun _ => by rw [Nat.add_assoc]⟩, Keep.cell w ⟨g, 0, none⟩ _⟩
    rw [heap_setCell_same w g 0 _ _ _ HB.out, show n - (i + k) = m - k by omega, show c - (i + k) = d - k by omega]
    rfl
end Go.Proofs.YtbkokcfmndiedaaGreatDoor
