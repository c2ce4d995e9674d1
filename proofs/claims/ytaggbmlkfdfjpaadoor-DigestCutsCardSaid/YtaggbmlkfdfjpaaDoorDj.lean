/- The walks of DigestSums and DigestForks over a hasher's contracts. -/
import Derived.Test.YtaggbmlkfdfjpaaDoorDs
namespace Go.Proofs.YtaggbmlkfdfjpaaDoor
open Go.RowKit

/-! ### DigestSums -/
set_option maxHeartbeats 4000000 in
set_option maxRecDepth 100000 in
theorem sums_out (ha : AliveC) (n : Int) (A : Option Addr) (c k : Nat) (W : World) (hv : Vars W) (h : n < 0 ∨ 256 < n) : Calls Tryd.prog 5 #[.int .i64 n, .slice A k c] W (Yes W) := by
  have HR : Hid (∀ w, Calls Tryd.prog 10 #[.int .i64 n] w fun e w' => e = .returned (.bool false) ∧ w = w') := fun w => by
    have := right5_c n w
    rwa [decide_eq_false (by omega)] at this
  have HA := Lib.hid (ha W hv)
  clear ha hv h
  go_enter Tryd.func5, Tryd.ntmps5
  go_wp2_with fail
  refine (HR.out W).mono ?_
  rintro e w2 ⟨rfl, rfl⟩
  go_wp2_with fail
  refine HA.out.mono ?_
  rintro e w2 ⟨rfl, hb⟩
  go_wp2_with fail
  go_ret
  exact ⟨rfl, hb⟩
set_option maxHeartbeats 4000000 in
set_option maxRecDepth 100000 in
theorem sums_long (ha : AliveC) (n : Int) (A : Option Addr) (c k : Nat) (W : World) (hv : Vars W) (h0 : 0 ≤ n) (h1 : n ≤ 256) (hk : 20 < k) : Calls Tryd.prog 5 #[.int .i64 n, .slice A k c] W (Yes W) := by
  have HR : Hid (∀ w, Calls Tryd.prog 10 #[.int .i64 n] w fun e w' => e = .returned (.bool true) ∧ w = w') := fun w => by
    have := right5_c n w
    rwa [decide_eq_true ⟨h0, h1⟩] at this
  have HA := Lib.hid (ha W hv)
  have d1 : decide (20 < k) = true := decide_eq_true hk
  have d2 : decide (20 < (k : Int)) = true := decide_eq_true (by omega)
  clear ha hv
  go_enter Tryd.func5, Tryd.ntmps5
  go_wp2_with fail
  refine (HR.out W).mono ?_
  rintro e w2 ⟨rfl, rfl⟩
  go_wp2_with fail
  refine HA.out.mono ?_
  rintro e w2 ⟨rfl, hb⟩
  go_wp2_with fail
  go_ret
  exact ⟨rfl, hb⟩
set_option maxHeartbeats 8000000 in
set_option maxRecDepth 100000 in
theorem sums_in {H : World → Nat → Int → Nat → Prop} (hs : HsC H) (ha : AliveC) (n : Int) (A : Option Addr) (c : Nat) (ls : List Pc) (W : World) (hA : SL W A ls) (hv : Vars W) (h0 : 0 ≤ n) (h1 : n ≤ 256) (hk : ls.length ≤ 20) :
    Calls Tryd.prog 5 #[.int .i64 n, .slice A ls.length c] W (Yes W) := by
  have HR : Hid (∀ w, Calls Tryd.prog 10 #[.int .i64 n] w fun e w' => e = .returned (.bool true) ∧ w = w') := fun w => by
    have := right5_c n w
    rwa [decide_eq_true ⟨h0, h1⟩] at this
  have d1 : decide (20 < ls.length) = false := decide_eq_false (by omega)
  have d2 : decide (20 < (ls.length : Int)) = false := decide_eq_false (by omega)
  have HN := Lib.hid (hs.new n W h0 h1)
  have HS := Lib.hid hs
  have HA := Lib.hid ha
  have HV := Lib.hid hv
  have HSL := Lib.hid hA
  clear hs ha hv hA
  go_enter Tryd.func5, Tryd.ntmps5
  go_wp2_with fail
  refine (HR.out W).mono ?_
  rintro e w2 ⟨rfl, rfl⟩
  go_wp2_with fail
  refine HN.out.mono ?_
  rintro e w1 ⟨b, rfl, hb, hh, hbel⟩
  have HB := Lib.hid hb
  have HH := Lib.hid hh
  have HW := Lib.hid hbel
  clear hb hh hbel HN d1 d2
  go_wp2_with fail
  go_loopg [31] ls.length (fun gg i wr => ∃ k : Nat, i = .int .i64 k ∧ k ≤ ls.length ∧ ls.length - k = gg ∧ H wr b n k ∧ Below W.heap.size W wr)
  case atStart => exact ⟨0, rfl, by omega, by omega, HH.out, HW.out⟩
  case round =>
    clear HH HW
    obtain ⟨k, rfl, hkl, rfl, hh, hbel⟩ := hrel
    have HH := Lib.hid hh
    have HW := Lib.hid hbel
    clear hh hbel
    by_cases hlt : k < ls.length
    · have hd : decide (k < ls.length) = true := decide_eq_true hlt
      obtain ⟨x, hx⟩ : ∃ x, ls[k]? = some x := ⟨_, List.getElem?_eq_getElem hlt⟩
      obtain ⟨hxc, hxb, g, o, rfl, hcell⟩ := HSL.out k x hx
      have hcr : wr.cell? ⟨g, o + k, none⟩ = some (.slice x.A x.l.length x.c) := by rw [HW.out.cell (lt_of_cell hcell)]; exact hcell
      have HBW := Lib.hid hxb
      have HBX := Lib.hid (hxb.below HW.out)
      clear hx hcell hxb
      by_cases hbig : 1000 < x.l.length
      · have e1 : decide (1000 < x.l.length) = true := decide_eq_true hbig
        have e2 : decide (1000 < (x.l.length : Int)) = true := decide_eq_true (by omega)
        go_wp2_with fail
        refine (HA.out wr (HV.out.below HW.out)).mono ?_
        rintro e w3 ⟨rfl, hb3⟩
        have HB3 := Lib.hid (HW.out.trans (hb3.mono HW.out.size))
        clear hb3 hcr
        go_wp2_with fail
        go_ret
        exact ⟨rfl, HB3.out⟩
      · have e1 : decide (1000 < x.l.length) = false := decide_eq_false hbig
        have e2 : decide (1000 < (x.l.length : Int)) = false := decide_eq_false (by omega)
        have q := eq26 (digL n x.l) (dig_len _ _)
        go_wp2_with fail
        refine (HS.out.sum b n k x.A x.l x.c wr HH.out (by omega) HBX.out hxc (by omega) (HV.out.below HW.out)).mono ?_
        rintro e w3 ⟨rfl, hh3, hk3⟩
        have HB3 : Hid (Below W.heap.size W w3) := HW.out.trans (hk3.below HW.out.size fun i hi => by have := HB.out; omega)
        have HH3 := Lib.hid hh3
        have HBX3 : Hid (BA w3 x.A x.l) := HBW.out.below HB3.out
        clear hh3 hk3 hcr
        go_wp2_with fail
        refine (rdig_c n x.A x.c x.l w3 HBX3.out (by omega)).mono ?_
        rintro e w4 ⟨rfl, hb4⟩
        have HB4 : Hid (Below W.heap.size W w4) := HB3.out.trans (hb4.mono HB3.out.size)
        have HH4 := Lib.hid (HS.out.keep HH3.out (Keep.of_below (L := fun _ => False) hb4) fun h => h)
        clear hb4
        go_wp2_with fail
        refine (HS.out.calls b n (k + 1) w4 HH4.out).mono ?_
        rintro e w5 ⟨rfl, rfl⟩
        go_wp2_with fail
        go_roundg (ls.length - (k + 1))
        case measure => omega
        case rel => exact ⟨k + 1, by go_num, by omega, rfl, HH4.out, HB4.out⟩
    · obtain rfl : k = ls.length := by omega
      have hd : decide (ls.length < ls.length) = false := decide_eq_false (by omega)
      go_wp2_with fail
      refine (HA.out wr (HV.out.below HW.out)).mono ?_
      rintro e w3 ⟨rfl, hb3⟩
      have HB3 := Lib.hid (HW.out.trans (hb3.mono HW.out.size))
      clear hb3
      go_wp2_with fail
      go_ret
      exact ⟨rfl, HB3.out⟩
theorem sums_w {H : World → Nat → Int → Nat → Prop} (hs : HsC H) (ha : AliveC) (n : Int) (A : Option Addr) (c : Nat) (ls : List Pc) (W : World) (hA : SL W A ls) (hv : Vars W) :
    Calls Tryd.prog 5 #[.int .i64 n, .slice A ls.length c] W (Yes W) := by
  rcases Classical.em (n < 0 ∨ 256 < n) with h | h
  · exact sums_out ha n A c ls.length W hv h
  · rcases Nat.lt_or_ge 20 ls.length with hk | hk
    · exact sums_long ha n A c ls.length W hv (by omega) (by omega) hk
    · exact sums_in hs ha n A c ls W hA hv (by omega) (by omega) hk

/-! ### DigestForks -/
def one8 : List UInt8 := [1]
set_option maxHeartbeats 4000000 in
set_option maxRecDepth 100000 in
theorem forks_out (ha : AliveC) (n p q : Int) (W : World) (hv : Vars W) (h : n < 0 ∨ 256 < n) : Calls Tryd.prog 7 #[.int .i64 n, .int .u8 p, .int .u8 q] W (Yes W) := by
  have HR : Hid (∀ w, Calls Tryd.prog 10 #[.int .i64 n] w fun e w' => e = .returned (.bool false) ∧ w = w') := fun w => by
    have := right5_c n w
    rwa [decide_eq_false (by omega)] at this
  have HA := Lib.hid (ha W hv)
  clear ha hv h
  go_enter Tryd.func7, Tryd.ntmps7
  go_wp2_with fail
  refine (HR.out W).mono ?_
  rintro e w2 ⟨rfl, rfl⟩
  go_wp2_with fail
  refine HA.out.mono ?_
  rintro e w2 ⟨rfl, hb⟩
  go_wp2_with fail
  go_ret
  exact ⟨rfl, hb⟩
set_option maxHeartbeats 8000000 in
set_option maxRecDepth 100000 in
theorem forks_in {H : World → Nat → Int → Nat → Prop} (hs : HsC H) (ha : AliveC) (n p q : Int) (N M : Nat) (W : World) (hv : Vars W) (h0 : 0 ≤ n) (h1 : n ≤ 256) (hp0 : 0 ≤ p) (hp : p ≤ 255) (hq0 : 0 ≤ q) (hq : q ≤ 255) (hN : p % 9 = (N : Int)) (hM : q % 9 = (M : Int)) (hN8 : N ≤ 8) (hM8 : M ≤ 8) :
    Calls Tryd.prog 7 #[.int .i64 n, .int .u8 p, .int .u8 q] W (Yes W) := by
  have HR : Hid (∀ w, Calls Tryd.prog 10 #[.int .i64 n] w fun e w' => e = .returned (.bool true) ∧ w = w') := fun w => by
    have := right5_c n w
    rwa [decide_eq_true ⟨h0, h1⟩] at this
  have HNw := Lib.hid (hs.new n W h0 h1)
  have HS := Lib.hid hs
  have HA := Lib.hid ha
  have HV := Lib.hid hv
  clear hs ha hv
  go_enter Tryd.func7, Tryd.ntmps7
  go_wp2_with fail
  refine (HR.out W).mono ?_
  rintro e w2 ⟨rfl, rfl⟩
  go_wp2_with fail
  refine HNw.out.mono ?_
  rintro e w1 ⟨b, rfl, hb, hh, hbel⟩
  have HB := Lib.hid hb
  have HH := Lib.hid hh
  have HW := Lib.hid hbel
  clear hb hh hbel HNw
  go_wp2_with fail
  simp only [hN]
  go_loopg [27] N (fun gg i wr => ∃ k : Nat, i = .int .u8 k ∧ k ≤ N ∧ N - k = gg ∧ H wr b n k ∧ Below W.heap.size W wr)
  case atStart => exact ⟨0, rfl, by omega, by omega, HH.out, HW.out⟩
  case round =>
    clear HH HW
    obtain ⟨k, rfl, hkl, rfl, hh, hbel⟩ := hrel
    have HH := Lib.hid hh
    have HW := Lib.hid hbel
    clear hh hbel
    by_cases hlt : k < N
    · have hd : decide (k < N) = true := decide_eq_true hlt
      go_wp2_with fail
      refine (HS.out.sum b n k none [] 0 wr HH.out (by omega) (BA_nil _ _) (by decide) (by decide) (HV.out.below HW.out)).mono ?_
      rintro e w3 ⟨rfl, hh3, hk3⟩
      have HB3 : Hid (Below W.heap.size W w3) := HW.out.trans (hk3.below HW.out.size fun i hi => by have := HB.out; omega)
      have HH3 := Lib.hid hh3
      clear hh3 hk3
      go_wp2_with fail
      go_roundg (N - (k + 1))
      case measure => omega
      case rel => exact ⟨k + 1, by go_num, by omega, rfl, HH3.out, HB3.out⟩
    · obtain rfl : k = N := by omega
      have hd : decide (k < k) = false := decide_eq_false (by omega)
      clear hlt hkl
      go_wp2_with fail
      refine (HS.out.fork b n k wr HH.out).mono ?_
      rintro e w3 ⟨b2, rfl, hb2, hf3, hbel3⟩
      have HB3 : Hid (Below W.heap.size W w3) := HW.out.trans (hbel3.mono HW.out.size)
      have HH3 := Lib.hid (HS.out.keep HH.out (Keep.of_below (L := fun _ => False) hbel3) fun h => h)
      have ne : b ≠ b2 := by have := HS.out.lt HH.out; omega
      have HF3 := Lib.hid hf3
      have HB2 : Hid (W.heap.size ≤ b2) := Nat.le_trans HW.out.size hb2
      have NE := Lib.hid ne
      clear hb2 hf3 hbel3 HH HW ne hd
      go_wp2_with fail
      refine (HS.out.calls b2 n 0 w3 HF3.out).mono ?_
      rintro e w4 ⟨rfl, rfl⟩
      go_wp2_with fail
      refine (HS.out.bits b2 n 0 w3 HF3.out).mono ?_
      rintro e w4 ⟨rfl, rfl⟩
      go_wp2_with fail
      simp only [hM]
      go_loopg [49] M (fun gg i wr => ∃ j : Nat, i = .int .u8 j ∧ j ≤ M ∧ M - j = gg ∧ H wr b n k ∧ H wr b2 n j ∧ Below W.heap.size W wr)
      case atStart => exact ⟨0, rfl, by omega, by omega, HH3.out, HF3.out, HB3.out⟩
      case round =>
        clear HH3 HF3 HB3
        obtain ⟨j, rfl, hjl, rfl, hh, hf, hbel⟩ := hrel
        have HH := Lib.hid hh
        have HF := Lib.hid hf
        have HW := Lib.hid hbel
        clear hh hf hbel
        by_cases hlt : j < M
        · have hd : decide (j < M) = true := decide_eq_true hlt
          have K1 : Keep (fun _ => False) wr (wr.alloc (.cells (bA one8) 5)) := (Keep.refl _ wr).alloc _
          have HA1 := Lib.hid (HS.out.keep HH.out K1 fun h => h)
          have HF1 := Lib.hid (HS.out.keep HF.out K1 fun h => h)
          have HW1 := Lib.hid (HW.out.alloc HW.out.size (.cells (bA one8) 5))
          have HBA : Hid (BA (wr.alloc (.cells (bA one8) 5)) (some ⟨wr.heap.size, 0, none⟩) one8) := BA_row (heap_alloc_new wr _)
          clear K1 HH HF HW
          go_wp2_with fail
          refine (HS.out.sum b2 n j (some ⟨wr.heap.size, 0, none⟩) one8 1 (wr.alloc (.cells (bA one8) 5)) HF1.out (by omega) HBA.out (by decide) (by decide) (HV.out.below HW1.out)).mono ?_
          rintro e w4 ⟨rfl, hf4, hk4⟩
          have HB4 : Hid (Below W.heap.size W w4) := HW1.out.trans (hk4.below HW1.out.size fun i hi => by have := HB2.out; omega)
          have HF4 := Lib.hid hf4
          have HH4 := Lib.hid (HS.out.keep HA1.out hk4 NE.out)
          clear hf4 hk4 HBA HA1 HF1 HW1
          go_wp2_with fail
          go_roundg (M - (j + 1))
          case measure => omega
          case rel => exact ⟨j + 1, by go_num, by omega, rfl, HH4.out, HF4.out, HB4.out⟩
        · obtain rfl : j = M := by omega
          have hd : decide (j < j) = false := decide_eq_false (by omega)
          clear hlt hjl
          have qq := eq26 (digL n []) (dig_len _ _)
          go_wp2_with fail
          refine (HA.out wr (HV.out.below HW.out)).mono ?_
          rintro e w4 ⟨rfl, hb4⟩
          have HB4 : Hid (Below W.heap.size W w4) := HW.out.trans (hb4.mono HW.out.size)
          have HH4 := Lib.hid (HS.out.keep HH.out (Keep.of_below (L := fun _ => False) hb4) fun h => h)
          have HF4 := Lib.hid (HS.out.keep HF.out (Keep.of_below (L := fun _ => False) hb4) fun h => h)
          clear hb4 HH HF HW
          go_wp2_with fail
          refine (HS.out.calls b n k w4 HH4.out).mono ?_
          rintro e w5 ⟨rfl, rfl⟩
          go_wp2_with fail
          refine (HS.out.calls b2 n j w4 HF4.out).mono ?_
          rintro e w5 ⟨rfl, rfl⟩
          go_wp2_with fail
          refine (HS.out.sum b2 n j none [] 0 w4 HF4.out (by omega) (BA_nil _ _) (by decide) (by decide) (HV.out.below HB4.out)).mono ?_
          rintro e w5 ⟨rfl, hf5, hk5⟩
          have HB5 : Hid (Below W.heap.size W w5) := HB4.out.trans (hk5.below HB4.out.size fun i hi => by have := HB2.out; omega)
          have HH5 := Lib.hid (HS.out.keep HH4.out hk5 NE.out)
          clear hf5 hk5 HH4 HF4
          go_wp2_with fail
          refine (HS.out.sum b n k none [] 0 w5 HH5.out (by omega) (BA_nil _ _) (by decide) (by decide) (HV.out.below HB5.out)).mono ?_
          rintro e w6 ⟨rfl, hh6, hk6⟩
          have HB6 : Hid (Below W.heap.size W w6) := HB5.out.trans (hk6.below HB5.out.size fun i hi => by have := HB.out; omega)
          clear hh6 hk6
          go_wp2_with fail
          go_ret
          exact ⟨rfl, HB6.out⟩
theorem forks_w {H : World → Nat → Int → Nat → Prop} (hs : HsC H) (ha : AliveC) (n p q : Int) (W : World) (hv : Vars W) (hp0 : 0 ≤ p) (hp : p ≤ 255) (hq0 : 0 ≤ q) (hq : q ≤ 255) :
    Calls Tryd.prog 7 #[.int .i64 n, .int .u8 p, .int .u8 q] W (Yes W) := by
  rcases Classical.em (n < 0 ∨ 256 < n) with h | h
  · exact forks_out ha n p q W hv h
  · exact forks_in hs ha n p q (p % 9).toNat (q % 9).toNat W hv (by omega) (by omega) hp0 hp hq0 hq (by omega) (by omega) (by omega) (by omega)
end Go.Proofs.YtaggbmlkfdfjpaaDoor
