import Derived.Test.YtjgdindjimbfeaaGreatDoorAA
import Derived.Test.YtjgdindjimbfeaaGreatDoorAD
namespace Go.Proofs.YtjgdindjimbfeaaGreatDoor
set_option linter.unusedSimpArgs false
set_option linter.unusedVariables false
section
open Go.RowKit
theorem wrap17 {z : Int} (h0 : -4611686018427387904 ≤ z) (h1 : z ≤ 4611686018427387904) : IntKind.i64.wrap z = z := by
 unfold IntKind.wrap
 simp [IntKind.signed, IntKind.bits]
 omega
theorem setZ_le17 (k : Nat → Nat) : ∀ n, (Bt.setZ k n).length ≤ n
 | 0 => Nat.le_refl _
 | n + 1 => by
  have := setZ_le17 k n
  unfold Bt.setZ
  split
  ·rw [List.length_append, List.length_singleton]; omega
  ·omega
def chunks (l : List UInt8) (n : Nat) : List (List UInt8) := (List.range n).map fun i => (l.drop (i * 32)).take 32
theorem chunks_len (l : List UInt8) (n : Nat) : (chunks l n).length = n := by simp [chunks]
theorem chunks_succ (l : List UInt8) (n : Nat) : chunks l (n + 1) = chunks l n ++ [(l.drop (n * 32)).take 32] := by simp [chunks, List.range_succ]
theorem chunks_each {l : List UInt8} {n : Nat} (h : 32 * n ≤ l.length) : ∀ s ∈ chunks l n, s.length = 32 := fun s hs => by
 unfold chunks at hs
 obtain ⟨i, hi, rfl⟩ := List.mem_map.1 hs
 have := List.mem_range.1 hi
 rw [List.length_take, List.length_drop]
 omega
theorem flat_chunks : ∀ (ss : List (List UInt8)), (∀ s ∈ ss, s.length = 32) → ∀ (r : List UInt8), chunks (ss.flatten ++ r) ss.length = ss
 | [], _, _ => by simp [chunks]
 | s :: t, h, r => by
  have hs := h s (by simp)
  have ih := flat_chunks t (fun x hx => h x (by simp [hx])) r
  unfold chunks at ih ⊢
  rw [List.length_cons, List.range_succ_eq_map, List.map_cons, List.map_map]
  congr 1
  ·simp [hs]
  ·refine Eq.trans (List.map_congr_left fun i _ => ?_) ih
   show List.take 32 (List.drop ((i + 1) * 32) ((s :: t).flatten ++ r)) = List.take 32 (List.drop (i * 32) (t.flatten ++ r))
   rw [List.flatten_cons, List.append_assoc, show (i + 1) * 32 = s.length + i * 32 by rw [hs]; omega, List.drop_length_add_append]
theorem flat_len : ∀ (ss : List (List UInt8)), (∀ s ∈ ss, s.length = 32) → ss.flatten.length = 32 * ss.length
 | [], _ => rfl
 | s :: t, h => by
  rw [List.flatten_cons, List.length_append, h s (by simp), flat_len t fun x hx => h x (by simp [hx]), List.length_cons]; omega
def headP (p : Pf) : List UInt8 := [1, UInt8.ofNat p.kind.toNat, UInt8.ofNat (p.dep.toNat / 256), UInt8.ofNat (p.dep.toNat % 256)]
def leafP (p : Pf) : List UInt8 := if p.kind = 1 then p.lf else []
def encP (p : Pf) : List UInt8 := headP p ++ (p.bm ++ (leafP p ++ p.sib.flatten))
theorem leafP_len {p : Pf} (h : p.Ok) : (leafP p).length = if p.kind = 1 then 64 else 0 := by
 unfold leafP
 split
 ·exact h.lf
 ·rfl
theorem encP_len {p : Pf} (h : p.Ok) : (encP p).length = 36 + (if p.kind = 1 then 64 else 0) + 32 * p.sib.length := by
 unfold encP
 rw [List.length_append, List.length_append, List.length_append, h.bm, leafP_len h, flat_len _ h.sib]
 simp [headP]
 omega
def at8 (b : List UInt8) (i : Nat) : Nat := (b.getD i 0).toNat
def restP (b : List UInt8) : Nat := if at8 b 1 = 1 then 100 else 36
def rawP (b : List UInt8) : Pf := ⟨at8 b 1, 256 * (at8 b 2 : Int) + at8 b 3, if at8 b 1 = 1 then (b.drop 36).take 64 else z64, (b.drop 4).take 32, chunks (b.drop (restP b)) ((b.length - restP b) / 32)⟩
noncomputable def decE (b : List UInt8) : Int :=
 if b.length < 36 then 5 else if at8 b 0 ≠ 1 then 6 else if 1 < at8 b 1 then 7 else if b.length < restP b then 5 else if (b.length - restP b) % 32 ≠ 0 ∨ chkP (rawP b) ≠ 0 then 5 else 0
noncomputable def decQ (b : List UInt8) : Pf := if decE b = 0 then rawP b else zPf
theorem rawP_ok {b : List UInt8} (h : 36 ≤ b.length) (h2 : restP b ≤ b.length) : (rawP b).Ok := by
 refine ⟨?_, ?_, ?_⟩
 ·unfold rawP restP at *
  dsimp only
  split
  ·rename_i h1
   rw [if_pos h1] at h2
   rw [List.length_take, List.length_drop]; omega
  ·rfl
 ·unfold rawP
  rw [List.length_take, List.length_drop]; omega
 ·unfold rawP
  refine chunks_each ?_
  rw [List.length_drop]
  omega
theorem decE_ok {b : List UInt8} (h : decE b = 0) : 36 ≤ b.length ∧ at8 b 0 = 1 ∧ at8 b 1 ≤ 1 ∧ restP b ≤ b.length ∧ (b.length - restP b) % 32 = 0 ∧ chkP (rawP b) = 0 := by
 unfold decE at h
 split at h
 ·cases h
 split at h
 ·cases h
 split at h
 ·cases h
 split at h
 ·cases h
 split at h
 ·cases h
 ·rename_i h1 h2 h3 h4 h5
  refine ⟨by omega, by omega, by omega, by omega, by omega, ?_⟩
  rcases Classical.em (chkP (rawP b) = 0) with e | e
  ·exact e
  ·exact absurd (.inr e) h5
theorem decQ_ok (b : List UInt8) : (decQ b).Ok := by
 unfold decQ
 split
 ·rename_i h
  obtain ⟨h1, _, _, h2, _⟩ := decE_ok h
  exact rawP_ok h1 h2
 ·exact zPf_ok
theorem decQ_raw {b : List UInt8} (h : decE b = 0) : decQ b = rawP b := by unfold decQ; rw [if_pos h]
theorem decQ_bad {b : List UInt8} (h : decE b ≠ 0) : decQ b = zPf := by unfold decQ; rw [if_neg h]
theorem at8_lt (b : List UInt8) (i : Nat) : at8 b i < 256 := (b.getD i 0).toNat_lt
theorem dec_enc {p : Pf} (hp : p.Ok) (h : chkP p = 0) : decE (encP p) = 0 ∧ decQ (encP p) = p := by
 have hc := chkP_cases p
 have hg : (p.kind = 0 ∨ p.kind = 1) ∧ p.good := by
  rcases hc with ⟨h1, _⟩ | ⟨h1, ⟨h2, _⟩ | ⟨_, h2⟩⟩
  ·omega
  ·omega
  ·exact ⟨h1, h2⟩
 obtain ⟨hk, hd0, hd1, hz, hn, _⟩ := hg
 have hlen := encP_len hp
 have a1 : at8 (encP p) 1 = p.kind.toNat := by
  show (UInt8.ofNat p.kind.toNat).toNat = _
  rw [UInt8.toNat_ofNat']; omega
 have a2 : at8 (encP p) 2 = p.dep.toNat / 256 := by
  show (UInt8.ofNat (p.dep.toNat / 256)).toNat = _
  rw [UInt8.toNat_ofNat']; omega
 have a3 : at8 (encP p) 3 = p.dep.toNat % 256 := by
  show (UInt8.ofNat (p.dep.toNat % 256)).toNat = _
  rw [UInt8.toNat_ofNat']; omega
 have hr : restP (encP p) = 36 + (if p.kind = 1 then 64 else 0) := by
  unfold restP
  rw [a1]
  by_cases e : p.kind = 1
  ·rw [if_pos e, if_pos (by omega)]
  ·rw [if_neg e, if_neg (by omega)]
 have d36 : (encP p).drop 36 = leafP p ++ p.sib.flatten := by
  unfold encP
  rw [← List.append_assoc, List.drop_append_of_le_length (by simp [headP, hp.bm]), List.drop_of_length_le (by simp [headP, hp.bm]), List.nil_append]
 have d4 : ((encP p).drop 4).take 32 = p.bm := by
  unfold encP
  rw [List.drop_append_of_le_length (by simp [headP]), List.drop_of_length_le (by simp [headP]), List.nil_append, List.take_append_of_le_length (by rw [hp.bm]; omega), List.take_of_length_le (by rw [hp.bm]; omega)]
 have dr : (encP p).drop (restP (encP p)) = p.sib.flatten := by
  rw [hr, ← List.drop_drop, d36, List.drop_append_of_le_length (by rw [leafP_len hp]; exact Nat.le_refl _), List.drop_of_length_le (by rw [leafP_len hp]; exact Nat.le_refl _), List.nil_append]
 have hq : rawP (encP p) = p := by
  cases p with
  | mk kd dp lf bm sib =>
   dsimp only at *
   unfold rawP
   rw [a1, a2, a3, d4, dr]
   have en : (encP ⟨kd, dp, lf, bm, sib⟩).length - restP (encP ⟨kd, dp, lf, bm, sib⟩) = 32 * sib.length := by rw [hlen, hr]; omega
   have ec : chunks sib.flatten (((encP ⟨kd, dp, lf, bm, sib⟩).length - restP (encP ⟨kd, dp, lf, bm, sib⟩)) / 32) = sib := by
    rw [en, Nat.mul_div_cancel_left _ (by omega)]
    have := flat_chunks sib hp.sib []
    rwa [List.append_nil] at this
   rw [ec]
   have ek : ((kd.toNat : Nat) : Int) = kd := by omega
   have ed : 256 * ((dp.toNat / 256 : Nat) : Int) + ((dp.toNat % 256 : Nat) : Int) = dp := by omega
   rw [ek, ed]
   congr 1
   by_cases e : kd = 1
   ·subst e
    rw [if_pos (show Int.toNat 1 = 1 from rfl), d36, List.take_append_of_le_length (by rw [leafP_len hp]; exact Nat.le_refl _)]
    show (if (1 : Int) = 1 then lf else []).take 64 = lf
    rw [if_pos rfl, List.take_of_length_le (by rw [hp.lf]; omega)]
   ·rw [if_neg (by omega)]
    exact (hz (by omega)).symm
 have he : decE (encP p) = 0 := by
  unfold decE
  rw [if_neg (by rw [hlen]; omega), if_neg (by show ¬ at8 (encP p) 0 ≠ 1; exact fun h => h rfl), if_neg (by rw [a1]; omega), if_neg (by rw [hr, hlen]; omega), if_neg]
  rw [hq]
  rintro (h1 | h1)
  ·rw [hr, hlen] at h1; omega
  ·exact h1 h
 exact ⟨he, by rw [decQ_raw he, hq]⟩
end
section
open Go.RowKit
def kdE (b : List UInt8) : Int := if b.length < 2 then 5 else if at8 b 0 ≠ 1 then 6 else 0
def kdV (b : List UInt8) : Int := if b.length < 2 then 0 else if at8 b 0 ≠ 1 then 0 else at8 b 1
structure CoV : Prop where
 encode : ∀ (w : World) (p : Pf) (A : Option Addr) (c : Nat), p.Ok → DS w A p.sib → p.sib.length ≤ c → p.sib.length ≤ 1000000 → chkP p = 0 →
  Calls Tryz.prog 27 #[.agg (pfC p (.slice A p.sib.length c))] w fun e w' => ∃ v, e = .returned (.tuple #[v, .int .i64 0]) ∧ OwnB w' w.heap.size v (encP p) ∧ Below w.heap.size w w'
 encodeBad : ∀ (w : World) (p : Pf) (A : Option Addr) (c : Nat), p.Ok → DS w A p.sib → p.sib.length ≤ c → p.sib.length ≤ 1000000 → chkP p ≠ 0 →
  Calls Tryz.prog 27 #[.agg (pfC p (.slice A p.sib.length c))] w fun e w' => ∃ A' c', e = .returned (.tuple #[.slice A' 0 c', .int .i64 (chkP p)]) ∧ Below w.heap.size w w'
 decode : ∀ (w : World) (b : List UInt8) (A : Option Addr) (c : Nat), BA w A b → b.length ≤ c → b.length ≤ 1000000 →
  Calls Tryz.prog 35 #[.slice A b.length c] w fun e w' => ∃ A' c', e = .returned (.tuple #[.agg (pfC (decQ b) (.slice A' (decQ b).sib.length c')), .int .i64 (decE b)]) ∧ NewD w' w.heap.size A' c' (decQ b).sib ∧ Below w.heap.size w w'
 kind : ∀ (w : World) (b : List UInt8) (A : Option Addr) (c : Nat), BA w A b → b.length ≤ c →
  Calls Tryz.prog 104 #[.slice A b.length c] w fun e w' => e = .returned (.tuple #[.int .i64 (kdV b), .int .i64 (kdE b)]) ∧ Below w.heap.size w w'
end
end Go.Proofs.YtjgdindjimbfeaaGreatDoor
