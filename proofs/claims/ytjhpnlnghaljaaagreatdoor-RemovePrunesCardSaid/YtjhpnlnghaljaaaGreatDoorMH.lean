/- Several texts in one: Zf Zh. -/
import Derived.Defers
import Derived.Recover
import Derived.Test.YtjhpnlnghaljaaaGreatDoorMX
import Derived.Test.YtjhpnlnghaljaaaGreatDoorMZ
import Derived.Test.YtjhpnlnghaljaaaGreatDoorMW
/- The program's keeps (a deferred recover), what Prune leaves: plain facts; pointers to nodes compared. -/
namespace Go.Proofs.YtjhpnlnghaljaaaGreatDoor
open Go.RowKit

theorem keeps_idle (w : World) : CallsD Tryz.prog 41 #[] .returning w fun e u' w' => e = .returned (.tuple #[]) ∧ u' = .returning ∧ w' = w := by
  refine callsD_of_wpS Tryz.func41 rfl fun c₀ cs hu => ?_
  apply wpS_region
  simp [wpOpsS, go_sem, recoverD, hu, Tryz.ntmps41, bodyPostS, results, Tryz.results41]
  cases c₀
  simp_all
set_option maxHeartbeats 4000000 in
set_option maxRecDepth 100000 in
theorem keeps10_p (s t : Nat) (k : List UInt8) (hk : k.length = 32) (w : World) (q : Bool) (G : World → Prop)
    (h : ∀ X, Below w.heap.size w X → Calls Tryz.prog 8 #[.agg (bA k), ptr s, ptr t] X fun e Y => e = .returned (.bool q) ∧ G Y) :
    Calls Tryz.prog 22 #[.func (.func 8) #[] #[ptr s, ptr t], .agg (bA k)] w fun e Y => e = .returned (.bool q) ∧ G Y := by
  obtain ⟨X, hX⟩ : ∃ X, X = w.alloc (.cells (bA k) 32) := ⟨_, rfl⟩
  have hb0 : Below w.heap.size w X := by rw [hX]; exact (Below.refl _ _).alloc (Nat.le_refl _) _
  have hr0 : RowB X w.heap.size 32 k := by rw [hX]; exact RowB.alloc w k _
  have lk := hr0.ldKey hk
  have H := Lib.hid (h X hb0)
  have HX := Lib.hid hX
  rw [hX] at lk
  unfold ptr at H ⊢
  clear hX hb0 hr0 hk h
  go_enter_defers Tryz.func22, Tryz.ntmps22
  go_wp2_with fail
  rw [← HX.out]
  clear HX lk
  refine H.out.mono ?_
  rintro _ Y ⟨rfl, hG⟩
  have HG := Lib.hid hG
  clear hG H
  go_wp2_with fail
  refine leaves_cons (f := 41) (args := #[]) (by simp) (by simp [go_sem]) ?_
  refine (keeps_idle Y).mono ?_
  rintro e u' w'' ⟨rfl, rfl, rfl⟩
  exact ⟨_, results_tmp rfl _ _ _, rfl, HG.out⟩
/-! ### Pointers to nodes -/
theorem Mn.blk {w : World} {n : Int} {T : Tv} (h : Mn w n T) : T.val = .pointer none ∨ ∃ g cs, T.val = .pointer (some ⟨g, 0, none⟩) ∧ w.heap[g]? = some (.cells cs 90 (0, 0)) := by
  match T, h with
  | .nil, _ => exact .inl rfl
  | .leaf v e, ⟨g, A, c, hv, hg, _⟩ => exact .inr ⟨g, _, hv, hg⟩
  | .inner v a b, ⟨g, hv, hg, _⟩ => exact .inr ⟨g, _, hv, hg⟩
theorem eql_ns (a : Addr) (w : World) : (binOp .eql 24 (.pointer none) (.pointer (some a))).run Tryz.prog w = .ok (.bool false) w := by kernel_rfl
theorem eql_sn (a : Addr) (w : World) : (binOp .eql 24 (.pointer (some a)) (.pointer none)).run Tryz.prog w = .ok (.bool false) w := by kernel_rfl
theorem eql_nodes {w : World} {n : Int} {S T : Tv} {p q : Option Addr} (hS : Mn w n S) (hT : Mn w n T) (hp : S.val = .pointer p) (hq : T.val = .pointer q) (hne : p ≠ q) : (binOp .eql 24 (.pointer p) (.pointer q)).run Tryz.prog w = .ok (.bool false) w := by
  rcases hS.blk with h | ⟨g, cs, h, hg⟩ <;> rcases hT.blk with h' | ⟨g', cs', h', hg'⟩
  · rw [h] at hp; rw [h'] at hq; cases hp; cases hq; exact absurd rfl hne
  · rw [h] at hp; rw [h'] at hq; cases hp; cases hq; exact eql_ns _ w
  · rw [h] at hp; rw [h'] at hq; cases hp; cases hq; exact eql_sn _ w
  · rw [h] at hp; rw [h'] at hq; cases hp; cases hq
    obtain ⟨i, hi, hs⟩ := Option.map_eq_some_iff.1 (show (Tryz.prog.info? 90).map (·.size) = some 33 by kernel_rfl)
    exact run_eql_ptr_other w Tryz.underlying24 hi (by rw [hs]; decide) (fun e => hne (by rw [e])) hg hg'
/-! ### What Prune leaves -/
abbrev JT := List (List UInt8) → (Nat → Prop) → World → Prop
def keysT (T : Tv) : List (List UInt8) := (entsT T.tr).map Ent.k
theorem keysT_inner (v : Value) (x y : Tv) : keysT (.inner v x y) = keysT x ++ keysT y := by
  unfold keysT
  rw [← List.map_append]
  rfl
/-- What is known of the closure. -/
structure Jc (b s t : Nat) (p : List UInt8 → Bool) (all : List (List UInt8)) (J : JT) : Prop where
  hk : ∀ pre R X Y, J pre R X → Keep (fun i => i = b) X Y → J pre R Y
  hv : ∀ pre R X, J pre R X → Vars X ∧ ¬ R b ∧ ∀ i, R i → i < X.heap.size
  hc : ∀ pre R X k, J pre R X → pre ++ [k] <+: all → Calls Tryz.prog 8 #[.agg (bA k), ptr s, ptr t] X fun e Y => ∃ R', e = .returned (.bool (p k)) ∧ J (pre ++ [k]) R' Y ∧ Keep R X Y ∧ ∀ i, R' i → R i ∨ X.heap.size ≤ i
theorem Jc.bel {b s t : Nat} {p : List UInt8 → Bool} {all : List (List UInt8)} {J : JT} (h : Jc b s t p all J) {pre : List (List UInt8)} {R : Nat → Prop} {X Y : World} (hj : J pre R X) (hb : Below X.heap.size X Y) : J pre R Y := h.hk pre R X Y hj (Keep.of_below hb)
/-- What a call of Prune leaves. -/
structure Pq (b : Nat) (n : Int) (p : List UInt8 → Bool) (J : JT) (T : Tv) (d : Nat) (l : List Ent) (pre : List (List UInt8)) (R : Nat → Prop) (X : World) (c : Nat) (T' : Tv) (R' : Nat → Prop) (Y : World) : Prop where
  sm : SubMap d (l.filter fun e => p e.k) T'
  ms : Mn Y n T'
  hs : ∃ c', c' ≤ c + 3 * innT T ∧ Hs Y b n c'
  js : J (pre ++ keysT T) R' Y
  kp : Keep (fun i => i = b ∨ R i) X Y
  rs : ∀ i, R' i → R i ∨ X.heap.size ≤ i
  af : ∀ Z, Keep (fun i => i = b ∨ R' i) Y Z → Mn Z n T → Mn Z n T'
theorem hs_bel {X Y : World} {b : Nat} {n : Int} {c : Nat} (h : Hs X b n c) (hb : Below X.heap.size X Y) : Hs Y b n c := h.keep (Keep.of_below (L := fun _ => False) hb) fun h => h
theorem SubMap.leaf {d : Nat} {l : List Ent} {v : Value} {x : Ent} (h : SubMap d l (.leaf v x)) (hd : d ≤ 256) : l = [x] := by
  have hl := h.few hd (by show (1 : Int) ≠ 2; decide)
  have ht := h.tr
  match l, hl with
  | [], _ => rw [growT_none] at ht; cases ht
  | [y], _ => rw [growT_one] at ht; injection ht with h1; rw [h1]
theorem SubMap.nilL {d : Nat} {l : List Ent} (h : SubMap d l .nil) (hd : d ≤ 256) : l = [] := by
  have hl := h.few hd (by show (0 : Int) ≠ 2; decide)
  have ht := h.tr
  match l, hl with
  | [], _ => rfl
  | [y], _ => rw [growT_one] at ht; cases ht
section
variable {b : Nat} {n : Int} {s t : Nat} {p : List UInt8 → Bool} {all : List (List UInt8)} {J : JT} {d : Nat} {l : List Ent} {pre : List (List UInt8)} {R R1 R2 : Nat → Prop} {X X2 X3 X4 X5 Xj Y : World} {c c1 c2 c' : Nat} {v u : Value} {x y T1 T2 : Tv}
theorem Pq.nil (hJ : Jc b s t p all J) (hT : SubMap d l .nil) (hd : d ≤ 256) (hj : J pre R X) (hH : Hs X b n c) (hb : Below X.heap.size X Y) : Pq b n p J .nil d l pre R X c .nil R Y := by
  have hl := hT.nilL hd
  subst hl
  exact ⟨hT, trivial, ⟨c, by omega, hs_bel hH hb⟩, by show J (pre ++ []) R Y; rw [List.append_nil]; exact hJ.bel hj hb, Keep.of_below hb, fun _ h => .inl h, fun _ _ h => h⟩
/-- What is known behind both calls. -/
theorem Pq.both (hJ : Jc b s t p all J) (q1 : Pq b n p J x (d + 1) (partK l d 0) pre R X2 c T1 R1 X3) (q2 : Pq b n p J y (d + 1) (partK l d 1) (pre ++ keysT x) R1 X4 c1 T2 R2 X5) (hc1 : c1 ≤ c + 3 * innT x) (h2 : Below X.heap.size X X2) (h4 : Below X3.heap.size X3 X4) (hj : Below X5.heap.size X5 Xj) (hM : ∀ pre R Y, J pre R Y → Mn Y n (.inner v x y)) :
    J (pre ++ keysT (.inner v x y)) R2 Xj ∧ Keep (fun i => i = b ∨ R i) X Xj ∧ (∀ i, R2 i → R i ∨ X.heap.size ≤ i) ∧ Mn Xj n T1 ∧ Mn Xj n T2 ∧ Mn Xj n x ∧ Mn Xj n y ∧ (∃ c', c' ≤ c + 3 * (innT x + innT y) ∧ Hs Xj b n c') ∧
      ∀ Z, Keep (fun i => i = b ∨ R2 i) Xj Z → Mn Z n (.inner v x y) → Mn Z n T1 ∧ Mn Z n T2 := by
  have hJj : J (pre ++ keysT (.inner v x y)) R2 Xj := by rw [keysT_inner, ← List.append_assoc]; exact hJ.bel q2.js hj
  obtain ⟨_, _, _, ha, hb⟩ := hM _ _ _ hJj
  have k35 : Keep (fun i => i = b ∨ R1 i) X3 X5 := (Keep.of_below h4).trans q2.kp
  have haf : ∀ Z, Keep (fun i => i = b ∨ R2 i) Xj Z → Mn Z n (.inner v x y) → Mn Z n T1 ∧ Mn Z n T2 := fun Z hZ ⟨_, _, _, hx, hy⟩ =>
    ⟨q1.af Z ((k35.trans (Keep.of_below hj)).step hZ fun i hi => by
      rcases hi with h | h
      · exact .inl (.inl h)
      · rcases q2.rs i h with h | h
        · exact .inl (.inr h)
        · exact .inr (Nat.le_trans h4.size h)) hx, q2.af Z ((Keep.of_below hj).trans hZ) hy⟩
  obtain ⟨m1, m2⟩ := haf Xj (Keep.refl _ _) (hM _ _ _ hJj)
  obtain ⟨c3, hc3, hh3⟩ := q2.hs
  refine ⟨hJj, (((Keep.of_below h2).trans q1.kp).step k35 fun i hi => ?_).trans (Keep.of_below hj), fun i hi => ?_, m1, m2, ha, hb, ⟨c3, by omega, hs_bel hh3 hj⟩, haf⟩
  · rcases hi with h | h
    · exact .inl (.inl h)
    · rcases q1.rs i h with h | h
      · exact .inl (.inr h)
      · exact .inr (Nat.le_trans h2.size h)
  · rcases q2.rs i hi with h | h
    · rcases q1.rs i h with h | h
      · exact .inl h
      · exact .inr (Nat.le_trans h2.size h)
    · exact .inr (Nat.le_trans (Nat.le_trans (Nat.le_trans h2.size q1.kp.size) h4.size) h)
theorem Pq.same (hJ : Jc b s t p all J) (hT : SubMap d l (.inner v x y)) (hd : d ≤ 256) (q1 : Pq b n p J x (d + 1) (partK l d 0) pre R X2 c T1 R1 X3) (q2 : Pq b n p J y (d + 1) (partK l d 1) (pre ++ keysT x) R1 X4 c1 T2 R2 X5) (hc1 : c1 ≤ c + 3 * innT x) (h2 : Below X.heap.size X X2) (h4 : Below X3.heap.size X3 X4) (hj : Below X5.heap.size X5 Xj) (hM : ∀ pre R Y, J pre R Y → Mn Y n (.inner v x y)) (e1 : T1.val = x.val) (e2 : T2.val = y.val) :
    Pq b n p J (.inner v x y) d l pre R X c (.inner v x y) R2 Xj := by
  obtain ⟨g1, g2, g3, m1, m2, ma, mb, ⟨c', hc', hh'⟩, _⟩ := Pq.both hJ q1 q2 hc1 h2 h4 hj hM
  have t1 := Mn.same m1 ma e1
  have t2 := Mn.same m2 mb e2
  subst t1 t2
  exact ⟨keep_same hT hd q1.sm q2.sm rfl rfl, hM _ _ _ g1, ⟨c', by show c' ≤ c + 3 * (innT T1 + innT T2 + 1); omega, hh'⟩, g1, g2, g3, fun _ _ h => h⟩
theorem Pq.join (hJ : Jc b s t p all J) (hT : SubMap d l (.inner v x y)) (hd : d ≤ 256) (q1 : Pq b n p J x (d + 1) (partK l d 0) pre R X2 c T1 R1 X3) (q2 : Pq b n p J y (d + 1) (partK l d 1) (pre ++ keysT x) R1 X4 c1 T2 R2 X5) (hc1 : c1 ≤ c + 3 * innT x) (h2 : Below X.heap.size X X2) (h4 : Below X3.heap.size X3 X4) (hj : Below X5.heap.size X5 Xj) (hM : ∀ pre R Y, J pre R Y → Mn Y n (.inner v x y))
    (hcj : c2 ≤ c + 3 * (innT x + innT y)) (hm : Mn Y n (joinV u T1 T2)) (hc' : c' ≤ c2 + 3) (hh : Hs Y b n c') (hk : Keep (fun i => i = b) Xj Y) (ha : ∀ w2, Keep (fun i => i < Xj.heap.size) Y w2 → Mn w2 n T1 → Mn w2 n T2 → Mn w2 n (joinV u T1 T2)) (hbj : b < Xj.heap.size) :
    Pq b n p J (.inner v x y) d l pre R X c (joinV u T1 T2) R2 Y := by
  obtain ⟨g1, g2, g3, m1, m2, ma, mb, _, haf⟩ := Pq.both hJ q1 q2 hc1 h2 h4 hj hM
  have hR := (hJ.hv _ _ _ g1).2.2
  refine ⟨keep_join hT hd q1.sm q2.sm, hm, ⟨c', by show c' ≤ c + 3 * (innT x + innT y + 1); omega, hh⟩, hJ.hk _ _ _ _ g1 hk, g2.trans (hk.mono fun _ h => .inl h), g3, fun Z hZ hm2 => ?_⟩
  obtain ⟨m3, m4⟩ := haf Z ((hk.mono fun _ h => .inl h).trans hZ) hm2
  exact ha Z (hZ.mono fun i hi => by
    rcases hi with h | h
    · omega
    · exact hR i h) m3 m4
theorem Pq.leaf (hJ : Jc b s t p all J) {e : Ent} {R' : Nat → Prop} (hT : SubMap d l (.leaf v e)) (hd : d ≤ 256) (hb : Below X.heap.size X X2) (hj : J pre R X2) (hH : Hs X2 b n c) (hjY : J (pre ++ [e.k]) R' Y) (hk : Keep R X2 Y) (hr : ∀ i, R' i → R i ∨ X2.heap.size ≤ i) (hM : ∀ pre R Y, J pre R Y → Mn Y n (.leaf v e)) :
    Pq b n p J (.leaf v e) d l pre R X c (if p e.k then .leaf v e else .nil) R' Y := by
  have hl := hT.leaf hd
  subst hl
  have hsep := keep_sep hT.sep fun e => p e.k
  have hRb := (hJ.hv _ _ _ hj).2.1
  refine ⟨⟨hsep, ?_⟩, ?_, ⟨c, by omega, hH.keep hk hRb⟩, hjY, (Keep.of_below hb).trans (hk.mono fun _ h => .inr h), fun i hi => ?_, fun Z _ h => ?_⟩
  · cases hp : p e.k with
    | true =>
      have h1 : [e].filter (fun e => p e.k) = [e] := by simp [hp]
      rw [h1, growT_one]; rfl
    | false =>
      have h1 : [e].filter (fun e => p e.k) = [] := by simp [hp]
      rw [h1, growT_none]; rfl
  · split
    · exact hM _ _ _ hjY
    · exact trivial
  · rcases hr i hi with h | h
    · exact .inl h
    · exact .inr (Nat.le_trans hb.size h)
  · split
    · exact h
    · exact trivial
end
end Go.Proofs.YtjhpnlnghaljaaaGreatDoor

/- The program's Prune; it keeps its contract. -/
namespace Go.Proofs.YtjhpnlnghaljaaaGreatDoor
open Go.RowKit

def cloP (s t : Nat) : Value := .func (.func 8) #[] #[ptr s, ptr t]
def Prune10 (b : Nat) (n : Int) (s t : Nat) (p : List UInt8 → Bool) (all : List (List UInt8)) (J : JT) (T : Tv) : Prop := ∀ (d : Nat) (l : List Ent) (pre : List (List UInt8)) (R : Nat → Prop) (X : World) (c : Nat), SubMap d l T → d ≤ 256 → l.length ≤ 100 → Hs X b n c → c + 3 * innT T ≤ 600000 → J pre R X → (∀ pre R Y, J pre R Y → Mn Y n T) → pre ++ keysT T <+: all →
  Calls Tryz.prog 7 #[ptr b, T.val, cloP s t] X fun e Y => ∃ T' R', e = .returned T'.val ∧ Pq b n p J T d l pre R X c T' R' Y
set_option maxHeartbeats 4000000 in
set_option maxRecDepth 100000 in
theorem prune_nil {b : Nat} {n : Int} {s t : Nat} {p : List UInt8 → Bool} {all : List (List UInt8)} {J : JT} (hJ : Jc b s t p all J) : Prune10 b n s t p all J .nil := by
  intro d l pre R X c hT hd hl hH hc hj hM hp
  have HK := Lib.hid (nd_c.kind X n .nil (nd_c.nil _ _))
  rw [show kindT Tv.nil.tr = 0 from rfl, show Tv.nil.val = .pointer none from rfl] at HK
  have HF : Hid (∀ Y, Below X.heap.size X Y → Pq b n p J .nil d l pre R X c .nil R Y) := fun Y hb => Pq.nil hJ hT hd hj hH hb
  rw [show Tv.nil.val = .pointer none from rfl]
  unfold cloP ptr
  clear hT hd hl hH hc hj hM hp
  go_enter Tryz.func7, Tryz.ntmps7
  go_wp2_with fail
  refine HK.out.mono ?_
  rintro _ Y ⟨rfl, hB⟩
  have HB := Lib.hid hB
  clear hB HK
  go_wp2_with fail
  go_ret
  exact ⟨.nil, R, rfl, HF.out Y HB.out⟩
set_option maxHeartbeats 4000000 in
set_option maxRecDepth 100000 in
theorem prune_leaf {b : Nat} {n : Int} {s t : Nat} {p : List UInt8 → Bool} {all : List (List UInt8)} {J : JT} (hJ : Jc b s t p all J) (v : Value) (x : Ent) : Prune10 b n s t p all J (.leaf v x) := by
  intro d l pre R X c hT hd hl hH hc hj hM hp
  have hMX := hM _ _ _ hj
  obtain ⟨pT, hpT⟩ := val_ptr nd_c hMX
  have hxk := (nd_c.key hMX).1
  have HK := Lib.hid (nd_c.kind X n _ hMX)
  have HL : Hid (∀ Y, Below X.heap.size X Y → Calls Tryz.prog 23 #[.pointer pT] Y fun e w' => e = .returned (.agg (bA (x.k ++ digL n (valL x.v)))) ∧ Below Y.heap.size Y w') := fun Y hb => by
    have := nd_c.leafOf Y n _ (nd_c.below hMX hb)
    rw [hpT] at this
    exact this
  have HKE : Hid (∀ Y, Below X.heap.size X Y → Calls Tryz.prog 22 #[.func (.func 8) #[] #[ptr s, ptr t], .agg (bA x.k)] Y fun e Z => e = .returned (.bool (p x.k)) ∧ ∃ R', Pq b n p J (.leaf v x) d l pre R X c (if p x.k then .leaf v x else .nil) R' Z) := fun Y hb =>
    keeps10_p s t x.k hxk Y (p x.k) _ fun Z hz => by
      have hz2 := hb.trans (hz.mono hb.size)
      refine (hJ.hc pre R Z x.k (hJ.bel hj hz2) hp).mono ?_
      rintro e W ⟨R', rfl, h1, h2, h3⟩
      exact ⟨rfl, R', Pq.leaf hJ hT hd hz2 (hJ.bel hj hz2) (hs_bel hH hz2) h1 h2 h3 hM⟩
  obtain ⟨g, hg⟩ : ∃ g, g = x.k ++ digL n (valL x.v) := ⟨_, rfl⟩
  have fx : ∀ w, (Instr.field 60 (.agg (bA g)) 0).run Tryz.prog w = .ok (.agg (bA x.k)) w := fun w => by
    rw [hg, field_leafKey _ (by rw [List.length_append, hxk, dig_len]) w, List.take_append_of_le_length (by omega), List.take_of_length_le (by omega)]
  rw [← hg] at HL
  rw [hpT, show kindT (Tv.leaf v x).tr = 1 from rfl] at HK
  obtain ⟨q, hq⟩ : ∃ q, q = p x.k := ⟨_, rfl⟩
  rw [← hq] at HKE
  have HPT := Lib.hid hpT
  rw [hpT]
  unfold cloP
  unfold ptr at HKE ⊢
  clear hT hd hl hH hc hj hM hp hMX hpT hxk hg hq
  go_enter Tryz.func7, Tryz.ntmps7
  go_wp2_with fail
  refine HK.out.mono ?_
  rintro _ X1 ⟨rfl, hB⟩
  have HB1 := Lib.hid hB
  clear hB HK
  go_wp2_with fail
  refine (HL.out X1 HB1.out).mono ?_
  rintro _ X2 ⟨rfl, hB⟩
  have HB2 := Lib.hid (HB1.out.trans (hB.mono HB1.out.size))
  clear hB HL
  go_wp2_with fail
  refine (HKE.out X2 HB2.out).mono ?_
  rintro _ Y ⟨rfl, R', hQ⟩
  have HQ := Lib.hid hQ
  clear hQ HKE fx
  cases q with
  | true =>
    go_wp2_with fail
    go_ret
    exact ⟨_, R', by rw [← HPT.out]; rfl, HQ.out⟩
  | false =>
    go_wp2_with fail
    go_ret
    exact ⟨_, R', rfl, HQ.out⟩
set_option maxHeartbeats 8000000 in
set_option maxRecDepth 100000 in
theorem prune_inner {b : Nat} {n : Int} {s t : Nat} {p : List UInt8 → Bool} {all : List (List UInt8)} {J : JT} (hJ : Jc b s t p all J) (v : Value) (x y : Tv) (ihx : Prune10 b n s t p all J x) (ihy : Prune10 b n s t p all J y) : Prune10 b n s t p all J (.inner v x y) := by
  intro d l pre R X c hT hd hl hH hc hj hM hp
  have hMX := hM _ _ _ hj
  obtain ⟨pT, hpT⟩ := val_ptr nd_c hMX
  obtain ⟨px, hpx⟩ := val_ptr nd_c (nd_c.kids hMX).1
  obtain ⟨py, hpy⟩ := val_ptr nd_c (nd_c.kids hMX).2
  obtain ⟨h256, hTx, hTy⟩ := hT.inner hd
  have HK := Lib.hid (nd_c.kind X n _ hMX)
  have HL : Hid (∀ Y, Mn Y n (.inner v x y) → Calls Tryz.prog 24 #[.pointer pT] Y fun e w' => e = .returned (.pointer px) ∧ Below Y.heap.size Y w') := fun Y hm => by
    have := nd_c.left Y n _ hm
    rw [hpT] at this
    rw [← hpx]
    exact this
  have HR : Hid (∀ Y, Mn Y n (.inner v x y) → Calls Tryz.prog 25 #[.pointer pT] Y fun e w' => e = .returned (.pointer py) ∧ Below Y.heap.size Y w') := fun Y hm => by
    have := nd_c.right Y n _ hm
    rw [hpT] at this
    rw [← hpy]
    exact this
  rw [hpT, show kindT (Tv.inner v x y).tr = 2 from rfl] at HK
  have hci : c + 3 * (innT x + innT y + 1) ≤ 600000 := hc
  rw [keysT_inner, ← List.append_assoc] at hp
  have HPX1 : Hid (pre ++ keysT x <+: all) := (List.prefix_append _ _).trans hp
  have HP2 := Lib.hid hp
  have HJ := Lib.hid hJ
  have HT := Lib.hid hT
  have HD := Lib.hid hd
  have HLN := Lib.hid hl
  have HH := Lib.hid hH
  have HC := Lib.hid hci
  have HJX := Lib.hid hj
  have HM := Lib.hid hM
  have H256 := Lib.hid h256
  have HTX := Lib.hid hTx
  have HTY := Lib.hid hTy
  have HIX := Lib.hid ihx
  have HIY := Lib.hid ihy
  have HPT := Lib.hid hpT
  have HPX := Lib.hid hpx
  have HPY := Lib.hid hpy
  rw [hpT]
  unfold cloP
  unfold ptr
  clear hT hd hl hH hc hj hM hp hMX hpT hpx hpy h256 hTx hTy ihx ihy hci hJ
  go_enter Tryz.func7, Tryz.ntmps7
  go_wp2_with fail
  refine HK.out.mono ?_
  rintro _ X1 ⟨rfl, hB⟩
  have HB1 := Lib.hid hB
  clear hB HK
  go_wp2_with fail
  refine (HL.out X1 (HM.out _ _ _ (HJ.out.bel HJX.out HB1.out))).mono ?_
  rintro _ X2 ⟨rfl, hB⟩
  have HB2 := Lib.hid (HB1.out.trans (hB.mono HB1.out.size))
  have HCX : Hid (Calls Tryz.prog 7 #[ptr b, .pointer px, cloP s t] X2 fun e Y => ∃ T' R', e = .returned T'.val ∧ Pq b n p J x (d + 1) (partK l d 0) pre R X2 c T' R' Y) := by
    have := HIX.out (d + 1) (partK l d 0) pre R X2 c HTX.out (by have := H256.out; omega) (Nat.le_trans (partK_len _ _ _) HLN.out) (hs_bel HH.out HB2.out) (by have := HC.out; omega) (HJ.out.bel HJX.out HB2.out) (fun pre R Y h => (nd_c.kids (HM.out pre R Y h)).1) HPX1.out
    rwa [HPX.out] at this
  unfold cloP ptr at HCX
  clear hB
  go_wp2_with fail
  refine HCX.out.mono ?_
  rintro _ X3 ⟨T1, R1, rfl, hq1⟩
  obtain ⟨p1, hp1⟩ := val_ptr nd_c hq1.ms
  rw [hp1]
  have HP1 := Lib.hid hp1
  have HQ1 := Lib.hid hq1
  clear hp1 hq1 HCX
  go_wp2_with fail
  refine (HR.out X3 (HM.out _ _ _ HQ1.out.js)).mono ?_
  rintro _ X4 ⟨rfl, hB⟩
  have HB4 := Lib.hid hB
  obtain ⟨c1, hc1, hh1⟩ := HQ1.out.hs
  have HC1 := Lib.hid hc1
  have HCY : Hid (Calls Tryz.prog 7 #[ptr b, .pointer py, cloP s t] X4 fun e Y => ∃ T' R', e = .returned T'.val ∧ Pq b n p J y (d + 1) (partK l d 1) (pre ++ keysT x) R1 X4 c1 T' R' Y) := by
    have := HIY.out (d + 1) (partK l d 1) (pre ++ keysT x) R1 X4 c1 HTY.out (by have := H256.out; omega) (Nat.le_trans (partK_len _ _ _) HLN.out) (hs_bel hh1 hB) (by have := HC.out; omega) (HJ.out.bel HQ1.out.js hB) (fun pre R Y h => (nd_c.kids (HM.out pre R Y h)).2) HP2.out
    rwa [HPY.out] at this
  unfold cloP ptr at HCY
  clear hB hc1 hh1
  go_wp2_with fail
  refine HCY.out.mono ?_
  rintro _ X5 ⟨T2, R2, rfl, hq2⟩
  obtain ⟨p2, hp2⟩ := val_ptr nd_c hq2.ms
  rw [hp2]
  have HP2v := Lib.hid hp2
  have HQ2 := Lib.hid hq2
  have HJ5 : Hid (J (pre ++ keysT (.inner v x y)) R2 X5) := by show J _ _ _; rw [keysT_inner, ← List.append_assoc]; exact hq2.js
  clear hp2 hq2 HCY
  go_wp2_with fail
  refine (HL.out X5 (HM.out _ _ _ HJ5.out)).mono ?_
  rintro _ X6 ⟨rfl, hB6⟩
  have HB6 := Lib.hid hB6
  have HBO : Hid (∀ Xj, Below X5.heap.size X5 Xj → _) := fun Xj hj => Pq.both HJ.out HQ1.out HQ2.out HC1.out HB2.out HB4.out hj HM.out
  clear hB6
  have HJN : Hid (∀ Xj, Below X5.heap.size X5 Xj → Calls Tryz.prog 26 #[ptr b, .pointer p1, .pointer p2] Xj fun e Y => ∃ T' R', e = .returned T'.val ∧ Pq b n p J (.inner v x y) d l pre R X c T' R' Y) := fun Xj hj => by
    obtain ⟨g1, g2, g3, m1, m2, ma, mb, ⟨c2, hc2, hh2⟩, _⟩ := HBO.out Xj hj
    have l1 := HQ1.out.sm.len_le
    have l2 := HQ2.out.sm.len_le
    have l3 : ((partK l d 0).filter fun e => p e.k).length ≤ (partK l d 0).length := List.length_filter_le _ _
    have l4 : ((partK l d 1).filter fun e => p e.k).length ≤ (partK l d 1).length := List.length_filter_le _ _
    have l5 := partK_len l d 0
    have l6 := partK_len l d 1
    have l7 := HLN.out
    have l8 := HC.out
    have := nd_c.join Xj b n c2 T1 T2 hh2 (by omega) (HJ.out.hv _ _ _ g1).1 m1 m2 (by omega)
    rw [HP1.out, HP2v.out] at this
    refine this.mono ?_
    rintro _ Y ⟨u, c', rfl, h1, h2, h3, h4, h5⟩
    exact ⟨_, R2, rfl, Pq.join HJ.out HT.out HD.out HQ1.out HQ2.out HC1.out HB2.out HB4.out hj HM.out hc2 h1 h2 h3 h4 h5 (lt_of_heap hh2)⟩
  unfold ptr at HJN
  obtain ⟨_, _, _, m1, _, mx, _⟩ := HBO.out X6 HB6.out
  by_cases e1 : p1 = px
  · subst e1
    have ep := eql_ptr p1 X6
    have HRX := Lib.hid (HR.out X6 (HM.out _ _ _ (HJ.out.bel HJ5.out HB6.out)))
    clear m1 mx
    go_wp2_with fail
    refine HRX.out.mono ?_
    rintro _ X7 ⟨rfl, hB⟩
    have HB7 := Lib.hid (HB6.out.trans (hB.mono HB6.out.size))
    clear hB HRX ep
    obtain ⟨_, _, _, _, m2, _, my, _⟩ := HBO.out X7 HB7.out
    by_cases e2 : p2 = py
    · subst e2
      have ep2 := eql_ptr p2 X7
      have HQ : Hid (Pq b n p J (.inner v x y) d l pre R X c (.inner v x y) R2 X7) := Pq.same HJ.out HT.out HD.out HQ1.out HQ2.out HC1.out HB2.out HB4.out HB7.out HM.out (HP1.out.trans HPX.out.symm) (HP2v.out.trans HPY.out.symm)
      clear m2 my HBO HJN
      go_wp2_with fail
      go_ret
      exact ⟨_, R2, by rw [HPT.out]; rfl, HQ.out⟩
    · have ep2 := eql_nodes m2 my HP2v.out HPY.out e2
      have HJ7 := Lib.hid (HJN.out X7 HB7.out)
      clear m2 my HBO HJN e2
      go_wp2_with fail
      refine HJ7.out.mono ?_
      rintro _ Y ⟨T', R', rfl, hQ⟩
      obtain ⟨p', hp'⟩ := val_ptr nd_c hQ.ms
      rw [hp']
      have HQ := Lib.hid hQ
      have HP' := Lib.hid hp'
      clear hQ hp' HJ7
      go_wp2_with fail
      go_ret
      exact ⟨T', R', by rw [HP'.out]; rfl, HQ.out⟩
  · have ep := eql_nodes m1 mx HP1.out HPX.out e1
    have HJ7 := Lib.hid (HJN.out X6 HB6.out)
    clear m1 mx HBO HJN e1
    go_wp2_with fail
    refine HJ7.out.mono ?_
    rintro _ Y ⟨T', R', rfl, hQ⟩
    obtain ⟨p', hp'⟩ := val_ptr nd_c hQ.ms
    rw [hp']
    have HQ := Lib.hid hQ
    have HP' := Lib.hid hp'
    clear hQ hp' HJ7
    go_wp2_with fail
    go_ret
    exact ⟨T', R', by rw [HP'.out]; rfl, HQ.out⟩
theorem prune_c {b : Nat} {n : Int} {s t : Nat} {p : List UInt8 → Bool} {all : List (List UInt8)} {J : JT} (hJ : Jc b s t p all J) : ∀ T : Tv, Prune10 b n s t p all J T
  | .nil => prune_nil hJ
  | .leaf v x => prune_leaf hJ v x
  | .inner v x y => prune_inner hJ v x y (prune_c hJ x) (prune_c hJ y)
theorem pr_c : PrV Mn where
  prune := fun w b n c l T s t p J R hh hc hI hl hj hk hv hcl => by
    have hJ : Jc b s t p ((entsT T.tr).map Ent.k) J := ⟨hk, fun pre R X h => (hv pre R X h).2, hcl⟩
    have hin := inn_le hI.sub (Nat.zero_le _)
    have h1 : l.length * (257 - 0) ≤ 100 * 257 := Nat.mul_le_mul_right _ hl
    refine (prune_c hJ T 0 l [] R w c hI.sub (Nat.zero_le _) hl hh (by omega) hj (fun pre R Y h => (hv pre R Y h).1) (by rw [List.nil_append]; exact List.prefix_rfl)).mono ?_
    rintro e Y ⟨T', R', rfl, q⟩
    obtain ⟨c', hc', hh'⟩ := q.hs
    exact ⟨T', R', c', rfl, q.sm.map, q.ms, by omega, hh', q.js⟩
end Go.Proofs.YtjhpnlnghaljaaaGreatDoor
