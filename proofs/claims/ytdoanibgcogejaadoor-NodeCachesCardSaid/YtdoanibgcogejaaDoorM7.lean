/- Several texts in one: Ne Nf. -/
import Derived.Test.YtdoanibgcogejaaDoorOa
import Derived.Test.YtdoanibgcogejaaDoorM6
/- What the program's subtrees keep, as one contract over subtrees with addresses; the walk of NodeNil. -/
namespace Go.Proofs.YtdoanibgcogejaaDoor
open Go.RowKit

/-- Join, with the new node's address. -/
def joinV (v : Value) : Tv → Tv → Tv
  | .nil, .nil => .nil
  | .nil, .leaf a e => .leaf a e
  | .leaf a e, .nil => .leaf a e
  | s, t => .inner v s t
theorem joinV_tr (v : Value) (S T : Tv) : (joinV v S T).tr = joinT S.tr T.tr := by
  cases S <;> cases T <;> rfl
/-- A leaf's entry (zeros for other subtrees), its key and the digest of its value. -/
def entT : Tr → Ent
  | .leaf e => e
  | _ => ⟨z26, []⟩
def leafV (n : Int) : Tr → List UInt8
  | .leaf e => e.k ++ digL n (valL e.v)
  | _ => z64
/-- Bytes that the call made. -/
def NewB (w' : World) (B : Nat) (A : Option Addr) (c : Nat) (l : List UInt8) : Prop := l.length ≤ c ∧ (l = [] ∨ OwnB w' B (.slice A l.length c) l)
theorem NewB.ba {w' : World} {B : Nat} {A : Option Addr} {c : Nat} {l : List UInt8} (h : NewB w' B A c l) : BA w' A l := by
  rcases h.2 with rfl | h
  · intro j x hj; simp at hj
  · obtain ⟨A', c', he, _, hb⟩ := h.any
    cases he
    exact hb
/-- What the program of layer 7 keeps: M says that the subtree lies in memory. -/
structure NdV (M : World → Int → Tv → Prop) : Prop where
  nil : ∀ w n, M w n .nil
  below : ∀ {w w' : World} {n : Int} {T : Tv}, M w n T → Below w.heap.size w w' → M w' n T
  hs : ∀ {w w' : World} {n : Int} {T : Tv} {b : Nat} {k : Int} {c : Nat}, M w n T → Hs w b k c → Keep (fun i => i = b) w w' → M w' n T
  addr : ∀ {w : World} {n : Int} {T : Tv}, M w n T → T = .nil ∨ ∃ a, T.val = .pointer (some a)
  kids : ∀ {w : World} {n : Int} {v : Value} {a b : Tv}, M w n (.inner v a b) → M w n a ∧ M w n b
  key : ∀ {w : World} {n : Int} {v : Value} {e : Ent}, M w n (.leaf v e) → e.k.length = 32 ∧ e.v.length ≤ 1000
  leaf : ∀ (w : World) (b : Nat) (n : Int) (c : Nat) (e : En), Hs w b n c → c ≤ 1000000 → Vars w → EnOk w e → e.v.length ≤ 1000 →
    Calls Tryd.prog 16 #[ptr b, .agg (enC e).toArray] w fun x w' => ∃ v c', x = .returned v ∧ M w' n (.leaf v e.ent) ∧ c' ≤ c + 2 ∧ Hs w' b n c' ∧ Keep (fun i => i = b) w w' ∧
      ∀ w2, Keep (fun i => i < w.heap.size) w' w2 → M w2 n (.leaf v e.ent)
  join : ∀ (w : World) (b : Nat) (n : Int) (c : Nat) (S T : Tv), Hs w b n c → c ≤ 1000000 → Vars w → M w n S → M w n T → lenT S.tr + lenT T.tr ≤ 1000000000 →
    Calls Tryd.prog 27 #[ptr b, S.val, T.val] w fun x w' => ∃ v c', x = .returned (joinV v S T).val ∧ M w' n (joinV v S T) ∧ c' ≤ c + 3 ∧ Hs w' b n c' ∧ Keep (fun i => i = b) w w'
  digest : ∀ (w : World) (b : Nat) (n : Int) (c : Nat) (T : Tv), Hs w b n c → c ≤ 1000000 → Vars w → M w n T →
    Calls Tryd.prog 13 #[ptr b, T.val] w fun x w' => ∃ c', x = .returned (.agg (bA (digT n T.tr))) ∧ c' ≤ c + 1 ∧ (T.tr ≠ .nil → c' = c) ∧ Hs w' b n c' ∧ Keep (fun i => i = b) w w'
  kind : ∀ (w : World) (n : Int) (T : Tv), M w n T → Calls Tryd.prog 21 #[T.val] w fun e w' => e = .returned (.int .i64 (kindT T.tr)) ∧ Below w.heap.size w w'
  len : ∀ (w : World) (n : Int) (T : Tv), M w n T → lenT T.tr ≤ 1000000000 → Calls Tryd.prog 22 #[T.val] w fun e w' => e = .returned (.int .i64 (lenT T.tr : Int)) ∧ Below w.heap.size w w'
  left : ∀ (w : World) (n : Int) (T : Tv), M w n T → Calls Tryd.prog 23 #[T.val] w fun e w' => e = .returned T.left.val ∧ Below w.heap.size w w'
  right : ∀ (w : World) (n : Int) (T : Tv), M w n T → Calls Tryd.prog 24 #[T.val] w fun e w' => e = .returned T.right.val ∧ Below w.heap.size w w'
  entry : ∀ (w : World) (n : Int) (T : Tv), M w n T → Calls Tryd.prog 17 #[T.val] w fun e w' => ∃ A c, e = .returned (.agg (enC ⟨(entT T.tr).k, A, (entT T.tr).v, c⟩).toArray) ∧ NewB w' w.heap.size A c (entT T.tr).v ∧ Below w.heap.size w w'
  leafOf : ∀ (w : World) (n : Int) (T : Tv), M w n T → Calls Tryd.prog 19 #[T.val] w fun e w' => e = .returned (.agg (bA (leafV n T.tr))) ∧ Below w.heap.size w w'
/-- .. as the contracts over subtrees without addresses. -/
def NM (M : World → Int → Tv → Prop) (w : World) (n : Int) (v : Value) (t : Tr) : Prop := ∃ T : Tv, T.val = v ∧ T.tr = t ∧ M w n T
theorem NdV.c {M : World → Int → Tv → Prop} (h : NdV M) : NdC (NM M) where
  nil := fun w n => ⟨.nil, rfl, rfl, h.nil w n⟩
  keep := fun ⟨T, h1, h2, h3⟩ hb hk => ⟨T, h1, h2, h.hs h3 hb hk⟩
  leaf := fun w b n c e hh hc hv he hl => (h.leaf w b n c e hh hc hv he hl).mono fun _ _ ⟨v, c', h1, h2, h3, h4, h5, _⟩ => ⟨v, c', h1, ⟨_, rfl, rfl, h2⟩, h3, h4, h5⟩
  join := fun w b n c p q s t hh hc hv ⟨S, hS1, hS2, hS⟩ ⟨T, hT1, hT2, hT⟩ hl => by
    subst hS1 hS2 hT1 hT2
    exact (h.join w b n c S T hh hc hv hS hT hl).mono fun _ _ ⟨v, c', h1, h2, h3, h4, h5⟩ => ⟨_, c', h1, ⟨_, rfl, joinV_tr v S T, h2⟩, h3, h4, h5⟩
theorem NdV.dg {M : World → Int → Tv → Prop} (h : NdV M) : DigestC (NM M) := fun w b n c v t hh hc hv ⟨T, h1, h2, hT⟩ => by
  subst h1 h2
  exact h.digest w b n c T hh hc hv hT
theorem NdV.ln {M : World → Int → Tv → Prop} (h : NdV M) : LenC (NM M) := fun w n v t ⟨T, h1, h2, hT⟩ hl => by
  subst h1 h2
  exact h.len w n T hT hl
/-! ### Entries in variables; keys compared -/
theorem zeroEntry : ∀ w, (zeroValue 39).run Tryd.prog w = .ok (.agg (enC ⟨z26, none, [], 0⟩).toArray) w := fun _ => by kernel_rfl
attribute [go_sem ↓] zeroEntry
@[go_sem ↓] theorem execOp_storeEntry (ρ : Operand → Value) (dst : Option Tmp) (x y : Operand) (type : TypeId) (pos : String) (after : Array Edge) (guard : Option (Nat × Bool)) (w : World) :
    Sem.run Tryd.prog (execOp ρ { dst, op := .store 39 x y, type, pos, after, guard }) w = stA 39 w (ρ x) (ρ y) := rfl
theorem stE_new {w : World} {e z : En} (he : e.k.length = 32) (hz : z.k.length = 32) :
    stA 39 (w.alloc (.cells (enC z).toArray 39)) (.pointer (some ⟨w.heap.size, 0, none⟩)) (.agg (enC e).toArray) = .ok .skip (w.alloc (.cells (enC e).toArray 39)) :=
  stA_new w _ _ (by rw [List.size_toArray, enC_len he]; exact infoEntry) (by rw [List.size_toArray, List.size_toArray, enC_len he, enC_len hz]) (by rw [List.all_toArray, List.all_eq_true]; exact enC_one e)
@[go_sem ↓] theorem execOp_eqKey (ρ : Operand → Value) (dst : Option Tmp) (x y : Operand) (ty type : TypeId) (pos : String) (after : Array Edge) (guard : Option (Nat × Bool)) (w : World) :
    Sem.run Tryd.prog (execOp ρ { dst, op := .binOp .eql 36 x y ty, type, pos, after, guard }) w = eqA .eql 36 x y w (ρ x) (ρ y) := rfl
theorem eqKey (l m : List UInt8) (hl : l.length = 32) (hm : m.length = 32) (x y : Operand) (w : World) :
    eqA .eql 36 x y w (.agg (bA l)) (.agg (bA m)) = .ok (.value (.bool (decide (l = m)))) w := (eqA_of guardKey (eq_arr Tryd.underlying36 9998 l m hl hm) x y w).1
theorem bldKey_none (w : World) : bldA 36 w #[] = .ok (.value (.agg (bA z26))) w := by kernel_rfl
set_option maxHeartbeats 8000000 in
set_option maxRecDepth 100000 in
theorem nil_in {M : World → Int → Tv → Prop} (nd : NdV M) (ha : Alive7) (n : Int) (W : World) (hvx : Vars W) (h0 : 0 ≤ n) (h1 : n ≤ 256) :
    Calls Tryd.prog 7 #[.int .i64 n] W (Aye W) := by
  have HR : Hid (∀ w, Calls Tryd.prog 9 #[.int .i64 n] w fun e w' => e = .returned (.bool true) ∧ w = w') := fun w => by
    have := right5_c n w
    rwa [decide_eq_true ⟨h0, h1⟩] at this
  have HVX := Lib.hid hvx
  have HAL := Lib.hid ha
  have HH := Lib.hid (hash_in n W h0 h1)
  clear hvx ha
  go_enter Tryd.func7, Tryd.ntmps7
  go_wp2_with fail
  refine HH.out.mono ?_
  rintro _ w1 ⟨b, rfl, hb, hH, hB⟩
  have HB := Lib.hid hB
  have HH1 := Lib.hid hH
  have HVX1 := Lib.hid (HVX.out.below hB)
  have HBB := Lib.hid hb
  clear hB hH hb HH
  go_wp2_with fail
  refine (HR.out w1).mono ?_
  rintro _ _ ⟨rfl, rfl⟩
  go_wp2_with fail
  refine (nd.entry w1 n .nil (nd.nil _ _)).mono ?_
  rintro _ w2 ⟨A, c, rfl, hN, hB2⟩
  have HB2 := Lib.hid (HB.out.trans (hB2.mono HB.out.size))
  have HH2 := Lib.hid (HH1.out.keep (Keep.of_below (L := fun _ => False) hB2) fun h => h)
  have HVX2 := Lib.hid (HVX1.out.below hB2)
  have st := stE_new (w := w2) (e := ⟨z26, A, [], c⟩) (z := ⟨z26, none, [], 0⟩) rfl rfl
  obtain ⟨X, hX⟩ : ∃ X, X = w2.alloc (.cells (enC ⟨z26, A, [], c⟩).toArray 39) := ⟨_, rfl⟩
  have hb0 : Below w2.heap.size w2 X := by rw [hX]; exact (Below.refl _ _).alloc (Nat.le_refl _) _
  have hr0 : X.rangeAt w2.heap.size 0 (enC ⟨z26, A, [], c⟩) := by rw [hX]; exact ent_made w2 _ _
  have HX := Lib.hid hX
  have HR0 := Lib.hid hr0
  have HB3 := Lib.hid (HB2.out.trans (hb0.mono HB2.out.size))
  have HH3 := Lib.hid (HH2.out.keep (Keep.of_below (L := fun _ => False) hb0) fun h => h)
  have HVX3 := Lib.hid (HVX2.out.below hb0)
  clear hN hB2 hX hb0 hr0 HB2 HH2 HVX2 HB HH1 HVX1
  rw [show (entT (Tv.nil).tr) = ⟨z26, []⟩ from rfl]
  go_wp2_with fail
  rw [← HX.out]
  refine (HAL.out X HVX3.out).mono ?_
  rintro _ w4 ⟨rfl, hB4⟩
  have HB4 := Lib.hid (HB3.out.trans (hB4.mono HB3.out.size))
  have HR4 := Lib.hid (range_below HR0.out hB4)
  have HH4 := Lib.hid (HH3.out.keep (Keep.of_below (L := fun _ => False) hB4) fun h => h)
  have HVX4 := Lib.hid (HVX3.out.below hB4)
  clear hB4 HB3 HR0 HH3 HVX3 HX st
  go_wp2_with fail
  refine (nd.kind w4 n .nil (nd.nil _ _)).mono ?_
  rintro _ w5 ⟨rfl, hB5⟩
  have HB5 := Lib.hid (HB4.out.trans (hB5.mono HB4.out.size))
  have hr5 := range_below HR4.out hB5
  have HH5 := Lib.hid (HH4.out.keep (Keep.of_below (L := fun _ => False) hB5) fun h => h)
  have HVX5 := Lib.hid (HVX4.out.below hB5)
  have lk := range_key hr5 rfl
  have lv := range_val hr5 rfl
  rw [Nat.zero_add] at lv
  have bk := bldKey_none w5
  have qk : ∀ x y w, eqA .eql 36 x y w (.agg (bA z26)) (.agg (bA z26)) = .ok (.value (.bool true)) w := fun x y w => by rw [eqKey z26 z26 rfl rfl, decide_eq_true rfl]
  clear hB5 HB4 HR4 HH4 HVX4 hr5
  rw [show kindT (Tv.nil).tr = 0 from rfl]
  go_wp2_with fail
  refine (nd.leafOf w5 n .nil (nd.nil _ _)).mono ?_
  rintro _ w6 ⟨rfl, hB6⟩
  have HB6 := Lib.hid (HB5.out.trans (hB6.mono HB5.out.size))
  have HH6 := Lib.hid (HH5.out.keep (Keep.of_below (L := fun _ => False) hB6) fun h => h)
  have HVX6 := Lib.hid (HVX5.out.below hB6)
  have bl := bldLeaf_none w6
  have ql : ∀ x y w, eqA .eql 44 x y w (.agg (bA z64)) (.agg (bA z64)) = .ok (.value (.bool true)) w := fun x y w => by rw [eqLeaf z64 z64 rfl rfl, decide_eq_true rfl]
  clear hB6 HB5 HH5 HVX5 lk lv bk qk
  rw [show leafV n (Tv.nil).tr = z64 from rfl]
  go_wp2_with fail
  refine (nd.left w6 n .nil (nd.nil _ _)).mono ?_
  rintro _ w7 ⟨rfl, hB7⟩
  have HB7 := Lib.hid (HB6.out.trans (hB7.mono HB6.out.size))
  have HH7 := Lib.hid (HH6.out.keep (Keep.of_below (L := fun _ => False) hB7) fun h => h)
  have HVX7 := Lib.hid (HVX6.out.below hB7)
  clear hB7 HB6 HH6 HVX6 bl ql
  rw [show (Tv.left .nil).val = .pointer none from rfl]
  go_wp2_with fail
  refine (nd.right w7 n .nil (nd.nil _ _)).mono ?_
  rintro _ w8 ⟨rfl, hB8⟩
  have HB8 := Lib.hid (HB7.out.trans (hB8.mono HB7.out.size))
  have HH8 := Lib.hid (HH7.out.keep (Keep.of_below (L := fun _ => False) hB8) fun h => h)
  have HVX8 := Lib.hid (HVX7.out.below hB8)
  clear hB8 HB7 HH7 HVX7
  rw [show (Tv.right .nil).val = .pointer none from rfl]
  go_wp2_with fail
  refine (nd.len w8 n .nil (nd.nil _ _) (by decide)).mono ?_
  rintro _ w9 ⟨rfl, hB9⟩
  have HB9 := Lib.hid (HB8.out.trans (hB9.mono HB8.out.size))
  have HH9 := Lib.hid (HH8.out.keep (Keep.of_below (L := fun _ => False) hB9) fun h => h)
  have HVX9 := Lib.hid (HVX8.out.below hB9)
  clear hB9 HB8 HH8 HVX8
  rw [show ((lenT (Tv.nil).tr : Nat) : Int) = 0 from rfl]
  go_wp2_with fail
  refine (nd.digest w9 b n 0 .nil HH9.out (by decide) HVX9.out (nd.nil _ _)).mono ?_
  rintro _ wa ⟨ma, rfl, hma, hza, hHa, hKa⟩
  have HBa := Lib.hid (keep_new HB9.out HBB.out hKa)
  obtain ⟨g, hg⟩ : ∃ g, g = digL n emptyL := ⟨_, rfl⟩
  have hgl : g.length = 32 := by rw [hg]; exact dig_len _ _
  have HE := Lib.hid (rempty_c n wa)
  rw [← hg] at HE
  rw [show digT n (Tv.nil).tr = digL n emptyL from rfl, ← hg]
  have q : ∀ x y w, eqA .eql 30 x y w (.agg (bA g)) (.agg (bA g)) = .ok (.value (.bool true)) w := fun x y w => by rw [eqDig g g hgl hgl, decide_eq_true rfl]
  clear hma hza hHa hKa HB9 HH9 HVX9 hg
  go_wp2_with fail
  refine HE.out.mono ?_
  rintro _ wb ⟨rfl, hBb⟩
  have HBb := Lib.hid (HBa.out.trans (hBb.mono HBa.out.size))
  clear hBb HBa HE
  go_wp2_with fail
  go_ret
  exact ⟨rfl, HBb.out⟩
set_option maxHeartbeats 4000000 in
set_option maxRecDepth 100000 in
theorem nil_out (ha : Alive7) (n : Int) (W : World) (hvx : Vars W) (hn : n < 0 ∨ 256 < n) :
    Calls Tryd.prog 7 #[.int .i64 n] W (Aye W) := by
  have HR : Hid (∀ w, Calls Tryd.prog 9 #[.int .i64 n] w fun e w' => e = .returned (.bool false) ∧ w = w') := fun w => by
    have := right5_c n w
    rwa [decide_eq_false (by omega)] at this
  have HVX := Lib.hid hvx
  have HAL := Lib.hid ha
  have HH := Lib.hid (hash_out n W hn)
  clear hn hvx ha
  go_enter Tryd.func7, Tryd.ntmps7
  go_wp2_with fail
  refine HH.out.mono ?_
  rintro _ w1 ⟨rfl, hB⟩
  have HB := Lib.hid hB
  clear hB
  go_wp2_with fail
  refine (HR.out w1).mono ?_
  rintro _ _ ⟨rfl, rfl⟩
  go_wp2_with fail
  refine (HAL.out w1 (HVX.out.below HB.out)).mono ?_
  rintro _ w2 ⟨rfl, hB2⟩
  have HB2 := Lib.hid (HB.out.trans (hB2.mono HB.out.size))
  clear hB2
  go_wp2_with fail
  go_ret
  exact ⟨rfl, HB2.out⟩
theorem nodenil_w {M : World → Int → Tv → Prop} (nd : NdV M) (ha : Alive7) (n : Int) (W : World) (hvx : Vars W) : Calls Tryd.prog 7 #[.int .i64 n] W (Aye W) := by
  rcases Classical.em (n < 0 ∨ 256 < n) with h | h
  · exact nil_out ha n W hvx h
  · exact nil_in nd ha n W hvx (by omega) (by omega)
end Go.Proofs.YtdoanibgcogejaaDoor

/- What a law's walk carries (a hasher, subtrees); alive of layer 7 over contracts. -/
namespace Go.Proofs.YtdoanibgcogejaaDoor
open Go.RowKit

/-- The state of a law's walk: nothing that lay has turned, the hasher, the variables, some subtrees. -/
structure St (M : World → Int → Tv → Prop) (W : World) (b : Nat) (n : Int) (c : Nat) (Ts : List Tv) (w : World) : Prop where
  bel : Below W.heap.size W w
  new : W.heap.size ≤ b
  hs : Hs w b n c
  vars : Vars w
  ms : ∀ T ∈ Ts, M w n T
theorem St.below {M : World → Int → Tv → Prop} (nd : NdV M) {W w w' : World} {b : Nat} {n : Int} {c : Nat} {Ts : List Tv} (h : St M W b n c Ts w) (hb : Below w.heap.size w w') : St M W b n c Ts w' where
  bel := h.bel.trans (hb.mono h.bel.size)
  new := h.new
  hs := h.hs.keep (Keep.of_below (L := fun _ => False) hb) fun h => h
  vars := h.vars.below hb
  ms := fun T hT => nd.below (h.ms T hT) hb
theorem St.keep {M : World → Int → Tv → Prop} (nd : NdV M) {W w w' : World} {b : Nat} {n : Int} {c c' : Nat} {Ts : List Tv} (h : St M W b n c Ts w) (hk : Keep (fun i => i = b) w w') (hh : Hs w' b n c') : St M W b n c' Ts w' where
  bel := keep_new h.bel h.new hk
  new := h.new
  hs := hh
  vars := h.vars.hs h.hs hk
  ms := fun T hT => nd.hs (h.ms T hT) h.hs hk
theorem St.add {M : World → Int → Tv → Prop} {W w : World} {b : Nat} {n : Int} {c : Nat} {Ts : List Tv} {T : Tv} (h : St M W b n c Ts w) (hT : M w n T) : St M W b n c (T :: Ts) w :=
  ⟨h.bel, h.new, h.hs, h.vars, fun S hS => by
    rcases List.mem_cons.1 hS with rfl | hS
    · exact hT
    · exact h.ms S hS⟩
theorem bldEntry_v (A : Option Addr) (n c : Nat) (w : World) : bldA 39 w #[(1, .slice A n c)] = .ok (.value (.agg (z26.map bv ++ [Value.slice A n c]).toArray)) w := by kernel_rfl
def k128 : List UInt8 := 128 :: List.replicate 31 0
theorem bldKey_128 (w : World) : bldA 36 w #[(0, .int .u8 128)] = .ok (.value (.agg (bA k128))) w := by kernel_rfl
theorem bldEntry_k (w : World) : bldA 39 w #[(0, .agg (bA k128))] = .ok (.value (.agg (k128.map bv ++ [Value.slice none 0 0]).toArray)) w := by kernel_rfl
set_option maxHeartbeats 8000000 in
set_option maxRecDepth 100000 in
theorem alive7_c {M : World → Int → Tv → Prop} (nd : NdV M) : Alive7 := fun W hvx => by
  have HVX := Lib.hid hvx
  have HH := Lib.hid (hash_in 256 W (by decide) (by decide))
  clear hvx
  go_enter Tryd.func11, Tryd.ntmps11
  go_wp2_with fail
  refine HH.out.mono ?_
  rintro _ w1 ⟨b, rfl, hb, hH, hB⟩
  have HS1 : Hid (St M W b 256 0 [] w1) := ⟨hB, hb, hH, HVX.out.below hB, fun T hT => by simp at hT⟩
  have be := fun A n c w => bldEntry_v A n c w
  have bk := fun w => bldKey_128 w
  have bf := fun w => bldEntry_k w
  clear hb hH hB HH
  go_wp2_with fail
  have hbx : Below w1.heap.size w1 (w1.alloc (.cells (bA [7]) 5)) := (Below.refl _ _).alloc (Nat.le_refl _) _
  have HS2 := Lib.hid (HS1.out.below nd hbx)
  have hok : EnOk (w1.alloc (.cells (bA [7]) 5)) ⟨z26, some ⟨w1.heap.size, 0, none⟩, [7], 1⟩ := ⟨rfl, Nat.le_refl 1, BA_row (heap_alloc_new w1 _)⟩
  have HC := Lib.hid (nd.leaf _ b 256 0 _ HS2.out.hs (by decide) HS2.out.vars hok (show 1 ≤ 1000 by decide))
  clear hbx hok
  refine HC.out.mono ?_
  rintro _ w3 ⟨va, c3, rfl, hM3, hc3, hH3, hK3, _⟩
  have HS3 := Lib.hid ((HS2.out.keep nd hK3 hH3).add hM3)
  have HC3 := Lib.hid hc3
  clear hM3 hc3 hH3 hK3 HC HS1 HS2
  go_wp2_with fail
  have hok : EnOk w3 ⟨k128, none, [], 0⟩ := ⟨rfl, by decide, fun j x hj => by simp at hj⟩
  have HC := Lib.hid (nd.leaf _ b 256 c3 _ HS3.out.hs (by have := HC3.out; omega) HS3.out.vars hok (by decide))
  clear hok
  refine HC.out.mono ?_
  rintro _ w4 ⟨vb, c4, rfl, hM4, hc4, hH4, hK4, _⟩
  have HS4 := Lib.hid ((HS3.out.keep nd hK4 hH4).add hM4)
  have HC4 : Hid (c4 ≤ 4) := by show _ ≤ _; have := HC3.out; omega
  clear hM4 hc4 hH4 hK4 HC HS3 HC3 be bk bf
  obtain ⟨aa, haa⟩ : ∃ a, va = .pointer (some a) := by
    rcases nd.addr (HS4.out.ms (.leaf va _) (List.mem_cons_of_mem _ List.mem_cons_self)) with h | h
    · cases h
    · exact h
  obtain ⟨ab, hab⟩ : ∃ a, vb = .pointer (some a) := by
    rcases nd.addr (HS4.out.ms (.leaf vb _) List.mem_cons_self) with h | h
    · cases h
    · exact h
  subst haa hab
  obtain ⟨TA, hTA⟩ : ∃ T : Tv, T = .leaf (.pointer (some aa)) (En.ent ⟨z26, some ⟨w1.heap.size, 0, none⟩, [7], 1⟩) := ⟨_, rfl⟩
  obtain ⟨TB, hTB⟩ : ∃ T : Tv, T = .leaf (.pointer (some ab)) (En.ent ⟨k128, none, [], 0⟩) := ⟨_, rfl⟩
  rw [← hTA, ← hTB] at HS4
  have HA : Hid (TA.tr = .leaf ⟨z26, [7]⟩ ∧ ∀ v, joinV v TA .nil = TA ∧ joinV v .nil TA = TA ∧ joinV v TA TB = .inner v TA TB) := by rw [hTA, hTB]; exact ⟨rfl, fun v => ⟨rfl, rfl, rfl⟩⟩
  have HBt : Hid (lenT TB.tr = 1) := by rw [hTB]; rfl
  have va : TA.val = .pointer (some aa) := by rw [hTA]; rfl
  have vb : TB.val = .pointer (some ab) := by rw [hTB]; rfl
  have HVa := Lib.hid va
  have HVb := Lib.hid vb
  clear hTA hTB va vb
  go_wp2_with fail
  have HC := Lib.hid (nd.join w4 b 256 c4 TA TB HS4.out.hs (by have := HC4.out; omega) HS4.out.vars (HS4.out.ms TA (by simp)) (HS4.out.ms TB (by simp)) (by rw [HA.out.1, HBt.out]; decide))
  rw [HVa.out, HVb.out] at HC
  refine HC.out.mono ?_
  rintro _ w5 ⟨vn, c5, rfl, hM5, hc5, hH5, hK5⟩
  rw [(HA.out.2 vn).2.2] at hM5 ⊢
  have HS5 := Lib.hid ((HS4.out.keep nd hK5 hH5).add hM5)
  have HC5 : Hid (c5 ≤ 7) := by show _ ≤ _; have := HC4.out; omega
  clear hM5 hc5 hH5 hK5 HC HS4 HC4
  obtain ⟨an, han⟩ : ∃ a, vn = .pointer (some a) := by
    rcases nd.addr (HS5.out.ms (.inner vn TA TB) (by simp)) with h | h
    · cases h
    · exact h
  subst han
  obtain ⟨TN, hTN⟩ : ∃ T : Tv, T = .inner (.pointer (some an)) TA TB := ⟨_, rfl⟩
  rw [← hTN] at HS5 ⊢
  have vn : TN.val = .pointer (some an) := by rw [hTN]; rfl
  have HN : Hid (kindT TN.tr = 2 ∧ lenT TN.tr = 2 ∧ ∀ v, joinV v .nil TN = .inner v .nil TN) := by
    rw [hTN]
    refine ⟨rfl, ?_, fun v => rfl⟩
    show lenT TA.tr + lenT TB.tr = 2
    rw [HA.out.1, HBt.out]
    rfl
  have HVn := Lib.hid vn
  rw [vn]
  clear hTN vn
  go_wp2_with fail
  have HC := Lib.hid (nd.join w5 b 256 c5 .nil TN HS5.out.hs (by have := HC5.out; omega) HS5.out.vars (nd.nil _ _) (HS5.out.ms TN (by simp)) (by rw [HN.out.2.1]; decide))
  rw [HVn.out] at HC
  refine HC.out.mono ?_
  rintro _ w6 ⟨vm, c6, rfl, hM6, hc6, hH6, hK6⟩
  rw [HN.out.2.2 vm] at hM6 ⊢
  have HS6 := Lib.hid ((HS5.out.keep nd hK6 hH6).add hM6)
  have HC6 : Hid (c6 ≤ 10) := by show _ ≤ _; have := HC5.out; omega
  clear hM6 hc6 hH6 hK6 HC HS5 HC5
  obtain ⟨am, ham⟩ : ∃ a, vm = .pointer (some a) := by
    rcases nd.addr (HS6.out.ms (.inner vm .nil TN) (by simp)) with h | h
    · cases h
    · exact h
  subst ham
  obtain ⟨TM, hTM⟩ : ∃ T : Tv, T = .inner (.pointer (some am)) .nil TN := ⟨_, rfl⟩
  rw [← hTM] at HS6 ⊢
  have vm : TM.val = .pointer (some am) := by rw [hTM]; rfl
  have HMM : Hid (kindT TM.tr = 2 ∧ lenT TM.tr = 2) := by
    rw [hTM]
    refine ⟨rfl, ?_⟩
    show lenT .nil + lenT TN.tr = 2
    rw [HN.out.2.1]
    rfl
  have HVm := Lib.hid vm
  rw [vm]
  clear hTM vm
  go_wp2_with fail
  have HC := Lib.hid (nd.join w6 b 256 c6 TA .nil HS6.out.hs (by have := HC6.out; omega) HS6.out.vars (HS6.out.ms TA (by simp)) (nd.nil _ _) (by rw [HA.out.1]; decide))
  rw [HVa.out] at HC
  refine HC.out.mono ?_
  rintro _ w7 ⟨v7, c7, rfl, _, hc7, hH7, hK7⟩
  rw [(HA.out.2 v7).1, HVa.out]
  have HS7 := Lib.hid (HS6.out.keep nd hK7 hH7)
  have HC7 : Hid (c7 ≤ 13) := by show _ ≤ _; have := HC6.out; omega
  clear hc7 hH7 hK7 HC HS6 HC6
  go_wp2_with fail
  have HC := Lib.hid (nd.kind w7 256 TA (HS7.out.ms TA (by simp)))
  rw [HVa.out, HA.out.1] at HC
  refine HC.out.mono ?_
  rintro _ w8 ⟨rfl, hB8⟩
  rw [show kindT (.leaf ⟨z26, [7]⟩) = 1 from rfl]
  have HS8 := Lib.hid (HS7.out.below nd hB8)
  clear hB8 HC HS7
  go_wp2_with fail
  have HC := Lib.hid (nd.kind w8 256 TN (HS8.out.ms TN (by simp)))
  rw [HVn.out, HN.out.1] at HC
  refine HC.out.mono ?_
  rintro _ w9 ⟨rfl, hB9⟩
  have HS9 := Lib.hid (HS8.out.below nd hB9)
  clear hB9 HC HS8
  go_wp2_with fail
  have HC := Lib.hid (nd.kind w9 256 TM (HS9.out.ms TM (by simp)))
  rw [HVm.out, HMM.out.1] at HC
  refine HC.out.mono ?_
  rintro _ wa ⟨rfl, hBa⟩
  have HSa := Lib.hid (HS9.out.below nd hBa)
  clear hBa HC HS9
  go_wp2_with fail
  have HC := Lib.hid (nd.len wa 256 TM (HSa.out.ms TM (by simp)) (by rw [HMM.out.2]; decide))
  rw [HVm.out, HMM.out.2] at HC
  refine HC.out.mono ?_
  rintro _ wb ⟨rfl, hBb⟩
  have HSb := Lib.hid (HSa.out.below nd hBb)
  clear hBb HC HSa
  go_wp2_with fail
  have HC := Lib.hid (nd.join wb b 256 c7 .nil .nil HSb.out.hs (by have := HC7.out; omega) HSb.out.vars (nd.nil _ _) (nd.nil _ _) (by decide))
  refine HC.out.mono ?_
  rintro _ wc ⟨vc, cc, rfl, _, hcc, hHc, hKc⟩
  rw [show (joinV vc .nil .nil).val = .pointer none from rfl]
  have HSc := Lib.hid (HSb.out.keep nd hKc hHc)
  have HCc : Hid (cc ≤ 16) := by show _ ≤ _; have := HC7.out; omega
  clear hcc hHc hKc HC HSb HC7
  go_wp2_with fail
  have HC := Lib.hid (nd.join wc b 256 cc .nil TA HSc.out.hs (by have := HCc.out; omega) HSc.out.vars (nd.nil _ _) (HSc.out.ms TA (by simp)) (by rw [HA.out.1]; decide))
  rw [HVa.out] at HC
  refine HC.out.mono ?_
  rintro _ wd ⟨vd, cd, rfl, _, hcd, hHd, hKd⟩
  rw [(HA.out.2 vd).2.1, HVa.out]
  have HSd := Lib.hid (HSc.out.keep nd hKd hHd)
  have HCd : Hid (cd ≤ 19) := by show _ ≤ _; have := HCc.out; omega
  clear hcd hHd hKd HC HSc HCc
  go_wp2_with fail
  obtain ⟨g, hg⟩ : ∃ g, g = digT 256 TA.tr := ⟨_, rfl⟩
  have hgl : g.length = 32 := by rw [hg]; exact digT_len _ _
  have HG := Lib.hid hg
  clear hg
  have HC := Lib.hid (nd.digest wd b 256 cd TA HSd.out.hs (by have := HCd.out; omega) HSd.out.vars (HSd.out.ms TA (by simp)))
  rw [HVa.out, ← HG.out] at HC
  refine HC.out.mono ?_
  rintro _ we ⟨ce, rfl, hce, _, hHe, hKe⟩
  have HSe := Lib.hid (HSd.out.keep nd hKe hHe)
  have HCe : Hid (ce ≤ 20) := by show _ ≤ _; have := HCd.out; omega
  clear hce hHe hKe HC HSd HCd
  go_wp2_with fail
  have HC := Lib.hid (nd.digest we b 256 ce TA HSe.out.hs (by have := HCe.out; omega) HSe.out.vars (HSe.out.ms TA (by simp)))
  rw [HVa.out, ← HG.out] at HC
  refine HC.out.mono ?_
  rintro _ wf ⟨cf, rfl, hcf, _, hHf, hKf⟩
  have HSf := Lib.hid (HSe.out.keep nd hKf hHf)
  have q : ∀ x y w, eqA .eql 30 x y w (.agg (bA g)) (.agg (bA g)) = .ok (.value (.bool true)) w := fun x y w => by rw [eqDig g g hgl hgl, decide_eq_true rfl]
  clear hcf hHf hKf HC HSe HCe
  go_wp2_with fail
  have HC := Lib.hid (nd.entry wf 256 TA (HSf.out.ms TA (by simp)))
  rw [HVa.out, HA.out.1] at HC
  refine HC.out.mono ?_
  rintro _ wg ⟨A, c, rfl, _, hBg⟩
  have HSg := Lib.hid (HSf.out.below nd hBg)
  have fe : ∀ w, (Instr.field 39 (.agg (enC ⟨z26, A, [7], c⟩).toArray) 1).run Tryd.prog w = .ok (.slice A 1 c) w := fun w => by kernel_rfl
  rw [show entT (.leaf ⟨z26, [7]⟩) = ⟨z26, [7]⟩ from rfl]
  clear hBg HC HSf q
  go_wp2_with fail
  go_ret
  exact ⟨rfl, HSg.out.bel⟩
end Go.Proofs.YtdoanibgcogejaaDoor
