import Derived.Test.YtkejfdgmdjfdoaaGreatDoorM1
import Derived.Deep.AppendLies
import Derived.Deep.RegionHeld3
import Derived.IntWalk
namespace Go.Proofs.YtkejfdgmdjfdoaaGreatDoor
set_option linter.unusedSimpArgs false
set_option linter.unusedVariables false
set_option maxHeartbeats 16000000
set_option maxRecDepth 100000
open Go.RowKit
@[go_sem] theorem shl8 (x : UInt32) (w : World) : (binOp .shl 234 (u x) (.int .u64 8)).run Tryz.prog w = .ok (u (x <<< 8)) w := shl_u x 8 (by decide) w
@[go_sem] theorem shl16 (x : UInt32) (w : World) : (binOp .shl 234 (u x) (.int .u64 16)).run Tryz.prog w = .ok (u (x <<< 16)) w := shl_u x 16 (by decide) w
@[go_sem] theorem shl24 (x : UInt32) (w : World) : (binOp .shl 234 (u x) (.int .u64 24)).run Tryz.prog w = .ok (u (x <<< 24)) w := shl_u x 24 (by decide) w
@[go_sem] theorem shr3 (x : UInt32) (w : World) : (binOp .shr 234 (u x) (.int .u64 3)).run Tryz.prog w = .ok (u (x >>> 3)) w := shr_u x 3 (by decide) w
@[go_sem] theorem shr10 (x : UInt32) (w : World) : (binOp .shr 234 (u x) (.int .u64 10)).run Tryz.prog w = .ok (u (x >>> 10)) w := shr_u x 10 (by decide) w
theorem sched_c (b o c : Nat) (l : List UInt8) (w : World) (hl : l.length = 64) (hA : BA w (some ⟨b, o, none⟩) l) :
  Calls Tryz.prog 132 #[.slice (some ⟨b, o, none⟩) 64 c] w fun e w' => ∃ v, e = .returned v ∧ OwnW w' w.heap.size v (sched (fnOf l)) ∧ Below w.heap.size w w' := by
 obtain ⟨i0, hi, hz0, hz1, hz2⟩ := info_parts info38
 have HA := Lib.hid hA
 have HL := Lib.hid hl
 clear hA hl
 go_enter Tryz.func132, Tryz.ntmps132
 go_wp2
 go_loopg [3, 4] 16 (fun gg out i wr => ∃ k : Nat, i = .int .i64 k ∧ k ≤ 16 ∧ 16 - k = gg ∧ OwnW wr w.heap.size out (words (fnOf l) k) ∧ Below w.heap.size w wr)
 case atStart => exact ⟨0, rfl, by omega, by omega, OwnW.nil w _, Below.refl _ _⟩
 case round =>
  obtain ⟨k, rfl, hk, rfl, hO, hB⟩ := hrel
  have HO := Lib.hid hO
  have HB := Lib.hid hB
  clear hO hB
  by_cases hlt : k < 16
  ·have cell : ∀ j, j < 4 → wr.cell? ⟨b, o + (4 * k + j), none⟩ = some (.int .u8 ((fnOf l (4 * k + j)).toNat)) := fun j hj => by
    obtain ⟨b2, o2, e, h⟩ := HA.out (4 * k + j) _ (fnOf_at (by rw [HL.out]; omega))
    cases e
    rw [HB.out.cell (lt_of_cell h)]; exact h
   have c0 := cell 0 (by decide)
   have c1 := cell 1 (by decide)
   have c2 := cell 2 (by decide)
   have c3 := cell 3 (by decide)
   rw [Nat.add_zero] at c0
   clear cell
   have hsz := HB.out.size
   have hlk : (words (fnOf l) k).length ≤ 64 := by rw [words_len]; omega
   obtain ⟨x0, hx0⟩ : ∃ x, x = fnOf l (4 * k) := ⟨_, rfl⟩
   obtain ⟨x1, hx1⟩ : ∃ x, x = fnOf l (4 * k + 1) := ⟨_, rfl⟩
   obtain ⟨x2, hx2⟩ : ∃ x, x = fnOf l (4 * k + 2) := ⟨_, rfl⟩
   obtain ⟨x3, hx3⟩ : ∃ x, x = fnOf l (4 * k + 3) := ⟨_, rfl⟩
   rw [← hx0] at c0
   rw [← hx1] at c1
   rw [← hx2] at c2
   rw [← hx3] at c3
   have HX : Hid (words (fnOf l) (k + 1) = words (fnOf l) k ++ [x0.toUInt32 <<< 24 ||| x1.toUInt32 <<< 16 ||| x2.toUInt32 <<< 8 ||| x3.toUInt32]) := by
    show words _ _ = _
    rw [words_succ, hx0, hx1, hx2, hx3]; rfl
   clear hx0 hx1 hx2 hx3
   have w0 : IntKind.i64.wrap (4 * (k : Int)) = 4 * (k : Int) := IntWalk.i64_in _ (by omega)
   have p0 : (0 : Int) ≤ 4 * (k : Int) := by omega
   have q0 : 4 * (k : Int) < (64 : Int) := by omega
   have n0 : (4 * (k : Int)).toNat = 4 * k := by omega
   have w1 : IntKind.i64.wrap (4 * (k : Int) + 1) = 4 * (k : Int) + 1 := IntWalk.i64_in _ (by omega)
   have p1 : (0 : Int) ≤ 4 * (k : Int) + 1 := by omega
   have q1 : 4 * (k : Int) + 1 < (64 : Int) := by omega
   have n1 : (4 * (k : Int) + 1).toNat = 4 * k + 1 := by omega
   have w2 : IntKind.i64.wrap (4 * (k : Int) + 2) = 4 * (k : Int) + 2 := IntWalk.i64_in _ (by omega)
   have p2 : (0 : Int) ≤ 4 * (k : Int) + 2 := by omega
   have q2 : 4 * (k : Int) + 2 < (64 : Int) := by omega
   have n2 : (4 * (k : Int) + 2).toNat = 4 * k + 2 := by omega
   have w3 : IntKind.i64.wrap (4 * (k : Int) + 3) = 4 * (k : Int) + 3 := IntWalk.i64_in _ (by omega)
   have p3 : (0 : Int) ≤ 4 * (k : Int) + 3 := by omega
   have q3 : 4 * (k : Int) + 3 < (64 : Int) := by omega
   have n3 : (4 * (k : Int) + 3).toNat = 4 * k + 3 := by omega
   have hbw : b < w.heap.size := by
    obtain ⟨b2, o2, e, h⟩ := HA.out 0 _ (fnOf_at (by rw [HL.out]; omega))
    cases e
    exact lt_of_cell h
   have hblt : b < wr.heap.size := lt_of_cell c0
   have d0 : ∀ ob, (wr.alloc ob).cell? ⟨b, o + 4 * k, none⟩ = some (.int .u8 (x0.toNat : Int)) := fun ob => by rw [World.cell?_alloc_lt _ _ ⟨b, _, none⟩ hblt]; exact c0
   have d1 : ∀ ob, (wr.alloc ob).cell? ⟨b, o + (4 * k + 1), none⟩ = some (.int .u8 (x1.toNat : Int)) := fun ob => by rw [World.cell?_alloc_lt _ _ ⟨b, _, none⟩ hblt]; exact c1
   have d2 : ∀ ob, (wr.alloc ob).cell? ⟨b, o + (4 * k + 2), none⟩ = some (.int .u8 (x2.toNat : Int)) := fun ob => by rw [World.cell?_alloc_lt _ _ ⟨b, _, none⟩ hblt]; exact c2
   have d3 : ∀ ob, (wr.alloc ob).cell? ⟨b, o + (4 * k + 3), none⟩ = some (.int .u8 (x3.toNat : Int)) := fun ob => by rw [World.cell?_alloc_lt _ _ ⟨b, _, none⟩ hblt]; exact c3
   go_wp2_with fail
   go_region_held3 (fun w' => w'.cell? ⟨b, o + 4 * k, none⟩ = some (.int .u8 (x0.toNat : Int)) ∧ w'.cell? ⟨b, o + (4 * k + 1), none⟩ = some (.int .u8 (x1.toNat : Int)) ∧ w'.cell? ⟨b, o + (4 * k + 2), none⟩ = some (.int .u8 (x2.toNat : Int)) ∧ w'.cell? ⟨b, o + (4 * k + 3), none⟩ = some (.int .u8 (x3.toNat : Int))) ((first | exact ⟨c0, c1, c2, c3⟩ | exact ⟨d0 _, d1 _, d2 _, d3 _⟩ | (refine ⟨?_, ?_, ?_, ?_⟩ <;> assumption))) ((refine step_append_lies _ (by rfl) _ _ _ (by rfl) w.heap.size 234 i0 (.int .u32 0) 1 4 Tryz.underlying236 hi hz0 hz1 hz2 rfl (by omega) u3 (words (fnOf l) k).length ((words (fnOf l) k).map u) (by rfl) ((HO.out.alloc _).drew) ⟨wr.heap.size, 0, none⟩ 1 1 [u (x0.toUInt32 <<< 24 ||| x1.toUInt32 <<< 16 ||| x2.toUInt32 <<< 8 ||| x3.toUInt32)] (by rfl) (by rfl) (World.news_of_block (cs := #[u (x0.toUInt32 <<< 24 ||| x1.toUInt32 <<< 16 ||| x2.toUInt32 <<< 8 ||| x3.toUInt32)]) (t := 234) (fr := (0, 0)) (heap_alloc_new wr _)) (by simp [u_one]) (by omega) (by unfold maxLen; omega) (by omega) (by simp; omega) (wr.heap.size + 1) (by simp) ?_; intro gg cap w1 hown1 hgrow hat hlt1; have hb1 := (Below.refl w.heap.size _).grown hgrow (by simp; omega) HO.out.ge; have e0 := (hb1.cell (p := ⟨b, o + 4 * k, none⟩) hbw).trans (d0 _); have e1 := (hb1.cell (p := ⟨b, o + (4 * k + 1), none⟩) hbw).trans (d1 _); have e2 := (hb1.cell (p := ⟨b, o + (4 * k + 2), none⟩) hbw).trans (d2 _); have e3 := (hb1.cell (p := ⟨b, o + (4 * k + 3), none⟩) hbw).trans (d3 _)))
   have HO1 : Hid (OwnW w1 w.heap.size (.slice (some ⟨gg, 0, none⟩) ((words (fnOf l) k).length + 1) cap) (words (fnOf l) (k + 1))) := by
    show OwnW _ _ _ _
    unfold OwnW
    rw [HX.out, List.map_append, List.length_append]
    exact hown1
   have HB1 : Hid (Below w.heap.size w w1) := ((HB.out.alloc hsz _).drew).grown hgrow (by simp; omega) HO.out.ge
   clear hown1 hgrow hat hlt1 hb1 e0 e1 e2 e3 d0 d1 d2 d3 c0 c1 c2 c3
   go_wp2
   go_roundg (16 - (k + 1))
   case measure => omega
   case rel => exact ⟨k + 1, by go_num, by omega, rfl, HO1.out, HB1.out⟩
  ·have hkk : k = 16 := by omega
   subst hkk
   have HO16 := HO
   clear HO
   go_wp2_with fail
   go_loopg [3, 5] 48 (fun gg out i w2 => ∃ k : Nat, i = .int .i64 k ∧ 16 ≤ k ∧ k ≤ 64 ∧ 64 - k = gg ∧ OwnW w2 w.heap.size out (grow (words (fnOf l) 16) (k - 16)) ∧ Below w.heap.size w w2)
   case atStart => exact ⟨16, rfl, by omega, by omega, by omega, HO16.out, HB.out⟩
   case round =>
    obtain ⟨k, rfl, hk1, hk2, rfl, hO, hB2⟩ := hrel
    obtain ⟨L, hL⟩ : ∃ L, L = grow (words (fnOf l) 16) (k - 16) := ⟨_, rfl⟩
    rw [← hL] at hO
    have hLl : L.length = k := by rw [hL, grow_len, words_len]; omega
    have HO := Lib.hid hO
    have HB2 := Lib.hid hB2
    have HL2 := Lib.hid hL
    obtain ⟨A', c', rfl, hcc, hW⟩ := hO.row
    rw [hLl] at hcc ⊢
    clear hO hB2 hL
    by_cases hlt : k < 64
    ·have hx : ∀ d, d < 17 → 0 < d → ∃ g, A' = some ⟨g, 0, none⟩ ∧ wr.cell? ⟨g, k - d, none⟩ = some (u (L.getD (k - d) 0)) := fun d h1 h2 => by
      have : L[k - d]? = some (L.getD (k - d) 0) := by simp [List.getD, List.getElem?_eq_getElem (show k - d < L.length by omega)]
      exact hW (k - d) _ this
     obtain ⟨g, rfl, c16⟩ := hx 16 (by decide) (by decide)
     have c15 : wr.cell? ⟨g, k - 15, none⟩ = some (u (L.getD (k - 15) 0)) := by
      obtain ⟨g2, e, h⟩ := hx 15 (by decide) (by decide)
      cases e; exact h
     have c7 : wr.cell? ⟨g, k - 7, none⟩ = some (u (L.getD (k - 7) 0)) := by
      obtain ⟨g2, e, h⟩ := hx 7 (by decide) (by decide)
      cases e; exact h
     have c2 : wr.cell? ⟨g, k - 2, none⟩ = some (u (L.getD (k - 2) 0)) := by
      obtain ⟨g2, e, h⟩ := hx 2 (by decide) (by decide)
      cases e; exact h
     clear hx hW
     obtain ⟨X16, h16⟩ : ∃ x, x = L.getD (k - 16) 0 := ⟨_, rfl⟩
     obtain ⟨X15, h15⟩ : ∃ x, x = L.getD (k - 15) 0 := ⟨_, rfl⟩
     obtain ⟨X7, h7⟩ : ∃ x, x = L.getD (k - 7) 0 := ⟨_, rfl⟩
     obtain ⟨X2, h2⟩ : ∃ x, x = L.getD (k - 2) 0 := ⟨_, rfl⟩
     rw [← h16] at c16
     rw [← h15] at c15
     rw [← h7] at c7
     rw [← h2] at c2
     have HX : Hid (grow (words (fnOf l) 16) (k + 1 - 16) = L ++ [X16 + (rotrI X15 7 ^^^ rotrI X15 18 ^^^ X15 >>> 3) + X7 + (rotrI X2 17 ^^^ rotrI X2 19 ^^^ X2 >>> 10)]) := by
      show grow _ _ = _
      rw [show k + 1 - 16 = (k - 16) + 1 by omega, grow, ← HL2.out]
      unfold ext sg0 sg1
      rw [hLl, ← h16, ← h15, ← h7, ← h2]
      rfl
     have HOk : Hid (OwnW wr w.heap.size (.slice (some ⟨g, 0, none⟩) k c') L) := by
      have := HO.out
      rw [hLl] at this
      exact this
     clear h16 h15 h7 h2
     have w16 : IntKind.i64.wrap ((k : Int) - 16) = (k : Int) - 16 := IntWalk.i64_in _ (by omega)
     have p16 : (0 : Int) ≤ (k : Int) - 16 := by omega
     have q16 : (k : Int) - 16 < (k : Int) := by omega
     have r16 : (16 : Int) ≤ (k : Int) := by omega
     have s16 : k - 16 < k := by omega
     have n16 : ((k : Int) - 16).toNat = k - 16 := by omega
     have w15 : IntKind.i64.wrap ((k : Int) - 15) = (k : Int) - 15 := IntWalk.i64_in _ (by omega)
     have p15 : (0 : Int) ≤ (k : Int) - 15 := by omega
     have q15 : (k : Int) - 15 < (k : Int) := by omega
     have r15 : (15 : Int) ≤ (k : Int) := by omega
     have s15 : k - 15 < k := by omega
     have n15 : ((k : Int) - 15).toNat = k - 15 := by omega
     have w7 : IntKind.i64.wrap ((k : Int) - 7) = (k : Int) - 7 := IntWalk.i64_in _ (by omega)
     have p7 : (0 : Int) ≤ (k : Int) - 7 := by omega
     have q7 : (k : Int) - 7 < (k : Int) := by omega
     have r7 : (7 : Int) ≤ (k : Int) := by omega
     have s7 : k - 7 < k := by omega
     have n7 : ((k : Int) - 7).toNat = k - 7 := by omega
     have w2 : IntKind.i64.wrap ((k : Int) - 2) = (k : Int) - 2 := IntWalk.i64_in _ (by omega)
     have p2 : (0 : Int) ≤ (k : Int) - 2 := by omega
     have q2 : (k : Int) - 2 < (k : Int) := by omega
     have r2 : (2 : Int) ≤ (k : Int) := by omega
     have s2 : k - 2 < k := by omega
     have n2 : ((k : Int) - 2).toNat = k - 2 := by omega
     have d16 : ∀ ob, (wr.alloc ob).cell? ⟨g, k - 16, none⟩ = some (u X16) := fun ob => by rw [World.cell?_alloc_lt _ _ ⟨g, _, none⟩ (lt_of_cell c16)]; exact c16
     have d7 : ∀ ob, (wr.alloc ob).cell? ⟨g, k - 7, none⟩ = some (u X7) := fun ob => by rw [World.cell?_alloc_lt _ _ ⟨g, _, none⟩ (lt_of_cell c7)]; exact c7
     have hsz2 := HB2.out.size
     go_wp2_with fail
     go_region_held3 (fun w' => w'.cell? ⟨g, k - 16, none⟩ = some (u X16) ∧ w'.cell? ⟨g, k - 7, none⟩ = some (u X7)) ((first | exact ⟨c16, c7⟩ | exact ⟨d16 _, d7 _⟩ | (refine ⟨?_, ?_⟩ <;> assumption))) ((first | (go_at_call 133; (first | (with_reducible refine (turn_any _ 7 (by decide) _).mono ?_) | (with_reducible refine (turn_any _ 18 (by decide) _).mono ?_) | (with_reducible refine (turn_any _ 17 (by decide) _).mono ?_) | (with_reducible refine (turn_any _ 19 (by decide) _).mono ?_)); rintro e w' ⟨rfl, rfl⟩) | (refine step_push_u (by rfl) _ _ (by rfl) w.heap.size g k c' L hLl (by rfl) ((HOk.out.below ((Below.refl wr.heap.size wr).alloc (Nat.le_refl _) _)).drew) ⟨wr.heap.size, 0, none⟩ (X16 + (rotrI X15 7 ^^^ rotrI X15 18 ^^^ X15 >>> 3) + X7 + (rotrI X2 17 ^^^ rotrI X2 19 ^^^ X2 >>> 10)) (by rfl) (by simp) (by omega) ?_; intro v1 w1 hown1 hgrow hold; have e16 := (hold (k - 16) (by omega)).trans (d16 _); have e7 := (hold (k - 7) (by omega)).trans (d7 _))))
     rw [← HX.out] at hown1
     have HO1 := Lib.hid hown1
     have HB1 : Hid (Below w.heap.size w w1) := ((HB2.out.alloc hsz2 _).drew).grown hgrow (by simp; omega) (fun q hq => by cases hq; exact HO.out.ge _ rfl)
     clear hown1 hgrow hold e16 e7 d16 d7 c16 c15 c7 c2
     go_wp2
     go_roundg (64 - (k + 1))
     case measure => omega
     case rel => exact ⟨k + 1, by go_num, by omega, by omega, rfl, HO1.out, HB1.out⟩
    ·have hkk : k = 64 := by omega
     subst hkk
     rw [hLl] at HO
     have HS : Hid (L = sched (fnOf l)) := HL2.out
     clear hW hcc
     go_wp2_with fail
     go_ret
     refine ⟨_, rfl, ?_, HB2.out⟩
     rw [← HS.out]
     exact HO.out
end Go.Proofs.YtkejfdgmdjfdoaaGreatDoor
