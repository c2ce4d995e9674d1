import Derived.Test.YtkejfdgmdjfdoaaGreatDoorJ1
import Derived.Test.YtkejfdgmdjfdoaaGreatDoorML
import Derived.Test.YtkejfdgmdjfdoaaGreatDoorM4
import Derived.Test.YtkejfdgmdjfdoaaGreatDoorG6
import Derived.Test.YtkejfdgmdjfdoaaGreatDoorFT
import Derived.Test.YtkejfdgmdjfdoaaGreatDoorLd
import Derived.Test.YtkejfdgmdjfdoaaGreatDoorBO
namespace Go.Proofs.YtkejfdgmdjfdoaaGreatDoor
set_option linter.unusedSimpArgs false
set_option linter.unusedVariables false
set_option maxHeartbeats 8000000
set_option maxRecDepth 100000
section
open Go.RowKit
structure Up where
 k : List UInt8
 v : List UInt8
 d : Bool
def Up.chg (u : Up) : Chg := ⟨u.k, u.v, u.d⟩
def Up.val (u : Up) : List UInt8 := if u.d then [] else u.v
def rightK (k v : List UInt8) : Int := if k.length = 32 then (if 65535 < v.length then 3 else 0) else 2
theorem rightK_zero {k v : List UInt8} (h : rightK k v = 0) : k.length = 32 ∧ v.length ≤ 65535 := by
 unfold rightK at h
 split at h
 ·split at h
  ·cases h
  ·exact ⟨by assumption, by omega⟩
 ·cases h
def badU (us : List Up) (i : Nat) : Int :=
 match us[i]? with
 | none => 0
 | some u => if rightK u.k u.val ≠ 0 then rightK u.k u.val else if (us.take i).any (fun x => decide (x.k = u.k)) then 9 else 0
theorem badU_at {us : List Up} {i : Nat} {u : Up} (h : us[i]? = some u) : badU us i = if rightK u.k u.val ≠ 0 then rightK u.k u.val else if (us.take i).any (fun x => decide (x.k = u.k)) then 9 else 0 := by unfold badU; rw [h]
def checkU (us : List Up) : Nat × Int :=
 match (List.range us.length).find? fun i => decide (badU us i ≠ 0) with
 | none => (0, 0)
 | some i => (i, badU us i)
theorem find_range {p : Nat → Bool} : ∀ {n i : Nat}, i < n → p i = true → (∀ j, j < i → p j = false) → (List.range n).find? p = some i
 | 0, _, h, _, _ => absurd h (Nat.not_lt_zero _)
 | n + 1, i, h, hp, hb => by
  rw [List.range_succ, List.find?_append]
  rcases Nat.lt_or_ge i n with hlt | hge
  ·rw [find_range hlt hp hb]; rfl
  ·obtain rfl : i = n := by omega
   rw [List.find?_eq_none.2 fun j hj => by have := hb j (List.mem_range.1 hj); simp [this]]
   simp [hp]
theorem checkU_at {us : List Up} {i : Nat} (hi : i < us.length) (hb : ∀ j, j < i → badU us j = 0) (h : badU us i ≠ 0) : checkU us = (i, badU us i) := by
 unfold checkU
 rw [find_range (p := fun i => decide (badU us i ≠ 0)) hi (by simpa using h) fun j hj => by simp [hb j hj]]
theorem checkU_no {us : List Up} (hb : ∀ j, j < us.length → badU us j = 0) : checkU us = (0, 0) := by
 unfold checkU
 rw [List.find?_eq_none.2 fun j hj => by simp [hb j (List.mem_range.1 hj)]]
theorem checkU_zero {us : List Up} (h : (checkU us).2 = 0) : ∀ j, j < us.length → badU us j = 0 := by
 unfold checkU at h
 cases hf : (List.range us.length).find? fun i => decide (badU us i ≠ 0) with
 | none => exact fun j hj => by simpa using List.find?_eq_none.1 hf j (List.mem_range.2 hj)
 | some i =>
  rw [hf] at h
  have := List.find?_some hf
  simp at this
  exact absurd h this
theorem checkU_right {us : List Up} (h : (checkU us).2 = 0) : (∀ u ∈ us, rightK u.k u.val = 0) ∧ (us.map Up.k).Pairwise (· ≠ ·) := by
 have hz := checkU_zero h
 refine ⟨fun u hu => ?_, List.pairwise_iff_getElem.2 fun i j hi hj hij => ?_⟩
 ·obtain ⟨i, hi⟩ := List.getElem?_of_mem hu
  have h1 := hz i (List.getElem?_eq_some_iff.1 hi).1
  rw [badU_at hi] at h1
  refine Classical.byContradiction fun hn => ?_
  rw [if_pos hn] at h1
  exact hn h1
 ·rw [List.length_map] at hi hj
  rw [List.getElem_map, List.getElem_map]
  intro he
  have h1 := hz j hj
  rw [badU_at (List.getElem?_eq_getElem hj)] at h1
  split at h1
  ·rename_i hn; exact hn h1
  ·rw [if_pos (List.any_eq_true.2 ⟨us[i], by
    rw [List.mem_iff_getElem?]
    exact ⟨i, by rw [List.getElem?_take, if_pos hij, List.getElem?_eq_getElem hi]⟩, by simpa using he⟩)] at h1
   cases h1
def appU (l : List Ent) (us : List Up) : List Ent := appC l (us.map Up.chg)
structure Un where
 A : Option Addr
 k : List UInt8
 c : Nat
 B : Option Addr
 v : List UInt8
 e : Nat
 d : Bool
def Un.up (x : Un) : Up := ⟨x.k, x.v, x.d⟩
def unC (x : Un) : List Value := [.slice x.A x.k.length x.c, .slice x.B x.v.length x.e, .bool x.d]
structure UnOk (w : World) (x : Un) : Prop where
 key : BA w x.A x.k
 kc : x.k.length ≤ x.c
 val : BA w x.B x.v
 vc : x.v.length ≤ x.e
theorem UnOk.below {w w' : World} {x : Un} (h : UnOk w x) (hb : Below w.heap.size w w') : UnOk w' x := ⟨h.key.below hb, h.kc, h.val.below hb, h.vc⟩
def UA (w : World) (A : Option Addr) (us : List Un) : Prop := ∀ i x, us[i]? = some x → UnOk w x ∧ ∃ g o, A = some ⟨g, o, none⟩ ∧ w.rangeAt g (o + i * 3) (unC x)
theorem UA.below {w w' : World} {A : Option Addr} {us : List Un} (h : UA w A us) (hb : Below w.heap.size w w') : UA w' A us := fun i x hi => by
 obtain ⟨h1, g, o, rfl, h2⟩ := h i x hi
 exact ⟨h1.below hb, g, o, rfl, range_below h2 hb⟩
theorem range_ukey {w : World} {g o : Nat} {x : Un} (h : w.rangeAt g o (unC x)) : w.cell? ⟨g, o, none⟩ = some (.slice x.A x.k.length x.c) := h 0 _ rfl
theorem range_uval {w : World} {g o : Nat} {x : Un} (h : w.rangeAt g o (unC x)) : w.cell? ⟨g, o + 1, none⟩ = some (.slice x.B x.v.length x.e) := h 1 _ rfl
theorem range_udel {w : World} {g o : Nat} {x : Un} (h : w.rangeAt g o (unC x)) : w.cell? ⟨g, o + 2, none⟩ = some (.bool x.d) := h 2 _ rfl
def fewU (us : List Up) : Bool := decide (us.length ≤ 20) && us.all (fun u => decide (u.k.length ≤ 100) && decide (u.v.length ≤ 70000)) && decide ((us.countP fun u => decide (300 < u.v.length)) ≤ 2)
structure On where
 kind : Int
 A : Option Addr
 k : List UInt8
 c : Nat
 B : Option Addr
 v : List UInt8
 e : Nat
 U : Option Addr
 us : List Un
 cu : Nat
def onC (x : On) : List Value := [.int .i64 x.kind, .slice x.A x.k.length x.c, .slice x.B x.v.length x.e, .slice x.U x.us.length x.cu]
structure OnOk (w : World) (x : On) : Prop where
 key : BA w x.A x.k
 kc : x.k.length ≤ x.c
 val : BA w x.B x.v
 vc : x.v.length ≤ x.e
 ups : UA w x.U x.us
 uc : x.us.length ≤ x.cu
theorem OnOk.below {w w' : World} {x : On} (h : OnOk w x) (hb : Below w.heap.size w w') : OnOk w' x := ⟨h.key.below hb, h.kc, h.val.below hb, h.vc, h.ups.below hb, h.uc⟩
def OA (w : World) (A : Option Addr) (os : List On) : Prop := ∀ i x, os[i]? = some x → OnOk w x ∧ ∃ g o, A = some ⟨g, o, none⟩ ∧ w.rangeAt g (o + i * 4) (onC x)
theorem OA.below {w w' : World} {A : Option Addr} {os : List On} (h : OA w A os) (hb : Below w.heap.size w w') : OA w' A os := fun i x hi => by
 obtain ⟨h1, g, o, rfl, h2⟩ := h i x hi
 exact ⟨h1.below hb, g, o, rfl, range_below h2 hb⟩
def fewOn (x : On) : Bool := fewU [⟨x.k, x.v, false⟩] && fewU (x.us.map Un.up)
def fewO (os : List On) : Bool := decide (os.length ≤ 12) && os.all fewOn
end
section
open Go.RowKit
def Ctl (w : World) (i : Nat) : Prop := ∃ cs t, w.heap[i]? = some (.cells cs t (0, 0)) ∧ ∀ (j : Nat) (v : Value), cs[j]? = some v → (∃ z, v = .int .i64 z) ∨ ∃ q, v = .pointer q
theorem ctl_two {w : World} {i : Nat} {x y : Value} {t : TypeId} (h : w.heap[i]? = some (.cells #[x, y] t (0, 0))) (hx : (∃ z, x = .int .i64 z) ∨ ∃ q, x = .pointer q) (hy : (∃ z, y = .int .i64 z) ∨ ∃ q, y = .pointer q) : Ctl w i :=
 ⟨_, _, h, fun j v hv => by
  match j, hv with
  | 0, hv => obtain rfl : x = v := by simpa using hv
             exact hx
  | 1, hv => obtain rfl : y = v := by simpa using hv
             exact hy
  | j + 2, hv => simp at hv⟩
theorem Hs.ctl {w : World} {b : Nat} {n : Int} {c : Nat} (h : Hs w b n c) : Ctl w b := ctl_two h (.inl ⟨_, rfl⟩) (.inl ⟨_, rfl⟩)
theorem Ctl.cell {w : World} {g o : Nat} {v : Value} (h : Ctl w g) (hc : w.cell? ⟨g, o, none⟩ = some v) : (∃ z, v = .int .i64 z) ∨ ∃ q, v = .pointer q := by
 obtain ⟨cs, t, hb, hv⟩ := h
 rw [cell_of_cells hb] at hc
 exact hv o v hc
theorem BA.ctl {L : Nat → Prop} {w w' : World} {A : Option Addr} {l : List UInt8} (h : BA w A l) (k : Keep L w w') (hL : ∀ i, L i → Ctl w i) : BA w' A l := fun j x hj => by
 obtain ⟨b, o, e, hc⟩ := h j x hj
 exact ⟨b, o, e, k.cellAt hc fun hl => by rcases (hL _ hl).cell hc with ⟨z, e⟩ | ⟨q, e⟩ <;> cases e⟩
theorem EnOk.ctl {L : Nat → Prop} {w w' : World} {e : En} (h : EnOk w e) (k : Keep L w w') (hL : ∀ i, L i → Ctl w i) : EnOk w' e := ⟨h.key, h.cap, h.val.ctl k hL⟩
theorem EA.ctl {L : Nat → Prop} {w w' : World} {A : Option Addr} {es : List En} (h : EA w A es) (k : Keep L w w') (hL : ∀ i, L i → Ctl w i) : EA w' A es := fun i e hi => by
 obtain ⟨h1, g, o, rfl, h3⟩ := h i e hi
 have hg : ¬ L g := fun hl => by
  have h2 := h3 0 (bv (e.k.getD 0 0)) (by
   unfold enC
   rw [List.getElem?_append_left (by rw [List.length_map, h1.key]; decide), List.getElem?_map, List.getD_eq_getElem?_getD, List.getElem?_eq_getElem (by have := h1.key; omega)]
   rfl)
  rcases (hL _ hl).cell h2 with ⟨z, e⟩ | ⟨q, e⟩ <;> cases e
 exact ⟨h1.ctl k hL, g, o, rfl, fun j v hv => k.cellAt (h3 j v hv) hg⟩
theorem UnOk.ctl {L : Nat → Prop} {w w' : World} {x : Un} (h : UnOk w x) (k : Keep L w w') (hL : ∀ i, L i → Ctl w i) : UnOk w' x := ⟨h.key.ctl k hL, h.kc, h.val.ctl k hL, h.vc⟩
theorem UA.ctl {L : Nat → Prop} {w w' : World} {A : Option Addr} {us : List Un} (h : UA w A us) (k : Keep L w w') (hL : ∀ i, L i → Ctl w i) : UA w' A us := fun i x hi => by
 obtain ⟨h1, g, o, rfl, h3⟩ := h i x hi
 have hg : ¬ L g := fun hl => by
  rcases (hL _ hl).cell (range_ukey h3) with ⟨z, e⟩ | ⟨q, e⟩ <;> cases e
 exact ⟨h1.ctl k hL, g, o, rfl, fun j v hv => k.cellAt (h3 j v hv) hg⟩
theorem OnOk.ctl {L : Nat → Prop} {w w' : World} {x : On} (h : OnOk w x) (k : Keep L w w') (hL : ∀ i, L i → Ctl w i) : OnOk w' x := ⟨h.key.ctl k hL, h.kc, h.val.ctl k hL, h.vc, h.ups.ctl k hL, h.uc⟩
theorem range_okey {w : World} {g o : Nat} {x : On} (h : w.rangeAt g o (onC x)) : w.cell? ⟨g, o + 1, none⟩ = some (.slice x.A x.k.length x.c) := h 1 _ rfl
theorem OA.ctl {L : Nat → Prop} {w w' : World} {A : Option Addr} {os : List On} (h : OA w A os) (k : Keep L w w') (hL : ∀ i, L i → Ctl w i) : OA w' A os := fun i x hi => by
 obtain ⟨h1, g, o, rfl, h3⟩ := h i x hi
 have hg : ¬ L g := fun hl => by
  rcases (hL _ hl).cell (range_okey h3) with ⟨z, e⟩ | ⟨q, e⟩ <;> cases e
 exact ⟨h1.ctl k hL, g, o, rfl, fun j v hv => k.cellAt (h3 j v hv) hg⟩
theorem Vars.ctl {L : Nat → Prop} {w w' : World} (h : Vars w) (k : Keep L w w') (hL : ∀ i, L i → Ctl w i) : Vars w' :=
 h.keep k (fun hl => by rcases (hL _ hl).cell (h.kt 5 (by decide)) with ⟨z, e⟩ | ⟨q, e⟩ <;> cases e)
  (fun hl => by rcases (hL _ hl).cell (h.it 5 _ (show (init8.list.map u)[5]? = some (u (init8.list.getD 5 0)) from rfl)) with ⟨z, e⟩ | ⟨q, e⟩ <;> cases e)
theorem errVar_ctl {L : Nat → Prop} {w w' : World} (h : Ft.ErrVar w) (k : Keep L w w') (hL : ∀ i, L i → Ctl w i) : Ft.ErrVar w' :=
 k.cellAt h fun hl => by rcases (hL _ hl).cell h with ⟨z, e⟩ | ⟨q, e⟩ <;> cases e
def Wrong (w : World) (op : ByteArray) (i : Int) (code : Int) (v : Value) : Prop := ∃ b, Ft.Chain w (.iface 24 (.int .i64 code)) [⟨b, op, i⟩] v
structure Done (M : World → Int → Tv → Prop) (Tr : World → Nat → Nat → Int → Tv → Prop) (w : World) (p b : Nat) (n : Int) (l : List Ent) (T T' : Tv) (m : Nat) (w' : World) : Prop where
 tr : Tr w' p b n T'
 im : IsMap l T'
 ms : M w' n T'
 hs : ∃ c', c' ≤ m ∧ Hs w' b n c'
 keep : Keep (fun i => i = b ∨ i = p) w w'
 aft : ∀ w2, Keep (fun i => i < w.heap.size) w' w2 → M w2 n T → M w2 n T'
structure Idle (w : World) (b : Nat) (n : Int) (m : Nat) (w' : World) : Prop where
 hs : ∃ c', c' ≤ m ∧ Hs w' b n c'
 keep : Keep (fun i => i = b) w w'
def opB (l : List UInt8) : ByteArray := ⟨l.toArray⟩
def putB : List UInt8 := [112, 117, 116]
def getB : List UInt8 := [103, 101, 116]
def deleteB : List UInt8 := [100, 101, 108, 101, 116, 101]
def applyB : List UInt8 := [97, 112, 112, 108, 121]
structure TrV (M : World → Int → Tv → Prop) (Tr : World → Nat → Nat → Int → Tv → Prop) : Prop where
 lt : ∀ {w : World} {p b : Nat} {n : Int} {T : Tv}, Tr w p b n T → p < w.heap.size
 keep : ∀ {w w' : World} {p b : Nat} {n : Int} {T : Tv} {L : Nat → Prop}, Tr w p b n T → Keep L w w' → ¬ L p → Tr w' p b n T
 ne : ∀ {w : World} {p b b' : Nat} {n k : Int} {T : Tv} {c : Nat}, Tr w p b n T → Hs w b' k c → p ≠ b'
 ctl : ∀ {w : World} {p b : Nat} {n : Int} {T : Tv}, Tr w p b n T → Ctl w p
 ms : ∀ {w w' : World} {n : Int} {T : Tv} {L : Nat → Prop}, M w n T → Keep L w w' → (∀ i, L i → Ctl w i) → M w' n T
 new_yes : ∀ (w : World) (n : Int), 0 ≤ n → n ≤ 256 → Calls Tryz.prog 9 #[.int .i64 n] w fun e w' => ∃ p b, e = .returned (.tuple #[ptr p, .int .i64 0]) ∧ Tr w' p b n .nil ∧ Hs w' b n 0 ∧ w.heap.size ≤ p ∧ w.heap.size ≤ b ∧ Below w.heap.size w w'
 new_no : ∀ (w : World) (n : Int), n < 0 ∨ 256 < n → Calls Tryz.prog 9 #[.int .i64 n] w fun e w' => e = .returned (.tuple #[.pointer none, .int .i64 4]) ∧ Below w.heap.size w w'
 put : ∀ (w : World) (p b : Nat) (n : Int) (c : Nat) (l : List Ent) (T : Tv) (A B : Option Addr) (cA cB : Nat) (k v : List UInt8), Tr w p b n T → Hs w b n c → c ≤ 20000000 → Vars w → M w n T → IsMap l T → Asc l → l.length ≤ 500 → BA w A k → k.length ≤ cA → BA w B v → v.length ≤ cB → k.length ≤ 70000 → v.length ≤ 70000 →
  Calls Tryz.prog 15 #[ptr p, .slice A k.length cA, .slice B v.length cB] w fun e w' =>
   (rightK k v = 0 → ∃ T', e = .returned .nilIface ∧ Done M Tr w p b n (putK l ⟨k, v⟩) T T' (c + 1000) w') ∧
   (rightK k v ≠ 0 → ∃ x, e = .returned x ∧ Wrong w' (opB putB) 0 (rightK k v) x ∧ Idle w b n (c + 1000) w')
 get : ∀ (w : World) (p b : Nat) (n : Int) (l : List Ent) (T : Tv) (A : Option Addr) (cA : Nat) (k : List UInt8), Tr w p b n T → M w n T → IsMap l T → BA w A k → k.length ≤ cA → k.length ≤ 70000 →
  Calls Tryz.prog 22 #[ptr p, .slice A k.length cA] w fun e w' =>
   (k.length = 32 → ∃ B cB, e = .returned (.tuple #[.slice B ((valK l k).getD []).length cB, .bool (valK l k).isSome, .nilIface]) ∧ NewB w' w.heap.size B cB ((valK l k).getD []) ∧ Below w.heap.size w w') ∧
   (k.length ≠ 32 → ∃ B cB x, e = .returned (.tuple #[.slice B 0 cB, .bool false, x]) ∧ Wrong w' (opB getB) 0 2 x ∧ Below w.heap.size w w')
 delete : ∀ (w : World) (p b : Nat) (n : Int) (c : Nat) (l : List Ent) (T : Tv) (A : Option Addr) (cA : Nat) (k : List UInt8), Tr w p b n T → Hs w b n c → c ≤ 20000000 → Vars w → M w n T → IsMap l T → Asc l → l.length ≤ 500 → BA w A k → k.length ≤ cA → k.length ≤ 70000 →
  Calls Tryz.prog 29 #[ptr p, .slice A k.length cA] w fun e w' =>
   (k.length = 32 → ∃ T', e = .returned (.tuple #[.bool (hasK l k), .nilIface]) ∧ Done M Tr w p b n (rmK l k) T T' (c + 1000) w') ∧
   (k.length ≠ 32 → ∃ x, e = .returned (.tuple #[.bool false, x]) ∧ Wrong w' (opB deleteB) 0 2 x ∧ Idle w b n (c + 1000) w')
 apply : ∀ (w : World) (p b : Nat) (n : Int) (c : Nat) (l : List Ent) (T : Tv) (A : Option Addr) (cA : Nat) (us : List Un), Tr w p b n T → Hs w b n c → c ≤ 20000000 → Vars w → M w n T → IsMap l T → Asc l → l.length ≤ 500 → UA w A us → us.length ≤ cA → us.length ≤ 20 → (∀ u ∈ us, u.k.length ≤ 70000 ∧ u.v.length ≤ 70000) →
  Calls Tryz.prog 31 #[ptr p, .slice A us.length cA] w fun e w' =>
   ((checkU (us.map Un.up)).2 = 0 → ∃ T', e = .returned .nilIface ∧ Done M Tr w p b n (appU l (us.map Un.up)) T T' (c + 90000) w') ∧
   ((checkU (us.map Un.up)).2 ≠ 0 → ∃ x, e = .returned x ∧ Wrong w' (opB applyB) ((checkU (us.map Un.up)).1 : Int) (checkU (us.map Un.up)).2 x ∧ Idle w b n (c + 90000) w')
 root : ∀ (w : World) (p b : Nat) (n : Int) (c : Nat) (T : Tv), Tr w p b n T → Hs w b n c → c ≤ 20000000 → Vars w → M w n T → Calls Tryz.prog 16 #[ptr p] w fun e w' => e = .returned (.agg (bA (digT n T.tr))) ∧ Idle w b n (c + 10) w'
 len : ∀ (w : World) (p b : Nat) (n : Int) (l : List Ent) (T : Tv), Tr w p b n T → M w n T → IsMap l T → l.length ≤ 500 → Calls Tryz.prog 17 #[ptr p] w fun e w' => e = .returned (.int .i64 (l.length : Int)) ∧ Below w.heap.size w w'
 entries : ∀ (w : World) (p b : Nat) (n : Int) (l : List Ent) (T : Tv), Tr w p b n T → M w n T → IsMap l T → Asc l → l.length ≤ 500 → Calls Tryz.prog 23 #[ptr p] w fun e w' => ∃ (A : Option Addr) (c : Nat) (es : List En), e = .returned (.slice A es.length c) ∧ EA w' A es ∧ es.map En.ent = l ∧ Below w.heap.size w w' ∧ ∀ e ∈ es, FreshV w.heap.size A w' e
 clone : ∀ (w : World) (p b : Nat) (n : Int) (T : Tv), Tr w p b n T → Calls Tryz.prog 18 #[ptr p] w fun e w' => ∃ q, e = .returned (ptr q) ∧ Tr w' q b n T ∧ w.heap.size ≤ q ∧ Below w.heap.size w w'
 node : ∀ (w : World) (p b : Nat) (n : Int) (T : Tv), Tr w p b n T → Calls Tryz.prog 27 #[ptr p] w fun e w' => e = .returned T.val ∧ Below w.heap.size w w'
 hasher : ∀ (w : World) (p b : Nat) (n : Int) (T : Tv), Tr w p b n T → Calls Tryz.prog 24 #[ptr p] w fun e w' => e = .returned (ptr b) ∧ Below w.heap.size w w'
structure TrN : Prop where
 put : ∀ (w : World) (A B : Option Addr) (cA cB : Nat) (k v : List UInt8), Calls Tryz.prog 15 #[.pointer none, .slice A k.length cA, .slice B v.length cB] w fun e w' => ∃ x, e = .returned x ∧ Wrong w' (opB putB) 0 1 x ∧ Below w.heap.size w w'
 get : ∀ (w : World) (A : Option Addr) (cA : Nat) (k : List UInt8), Calls Tryz.prog 22 #[.pointer none, .slice A k.length cA] w fun e w' => ∃ B cB x, e = .returned (.tuple #[.slice B 0 cB, .bool false, x]) ∧ Wrong w' (opB getB) 0 1 x ∧ Below w.heap.size w w'
 delete : ∀ (w : World) (A : Option Addr) (cA : Nat) (k : List UInt8), Calls Tryz.prog 29 #[.pointer none, .slice A k.length cA] w fun e w' => ∃ x, e = .returned (.tuple #[.bool false, x]) ∧ Wrong w' (opB deleteB) 0 1 x ∧ Below w.heap.size w w'
 apply : ∀ (w : World) (A : Option Addr) (m cA : Nat), Calls Tryz.prog 31 #[.pointer none, .slice A m cA] w fun e w' => ∃ x, e = .returned x ∧ Wrong w' (opB applyB) 0 1 x ∧ Below w.heap.size w w'
 root : ∀ (w : World), Calls Tryz.prog 16 #[.pointer none] w fun e w' => e = .returned (.agg (bA z26)) ∧ Below w.heap.size w w'
 len : ∀ (w : World), Calls Tryz.prog 17 #[.pointer none] w fun e w' => e = .returned (.int .i64 0) ∧ Below w.heap.size w w'
 entries : ∀ (w : World), Calls Tryz.prog 23 #[.pointer none] w fun e w' => ∃ (A : Option Addr) (c : Nat), e = .returned (.slice A 0 c) ∧ Below w.heap.size w w'
 clone : ∀ (w : World), Calls Tryz.prog 18 #[.pointer none] w fun e w' => e = .returned (.pointer none) ∧ Below w.heap.size w w'
 node : ∀ (w : World), Calls Tryz.prog 27 #[.pointer none] w fun e w' => e = .returned (.pointer none) ∧ Below w.heap.size w w'
 hasher : ∀ (w : World), Calls Tryz.prog 24 #[.pointer none] w fun e w' => e = .returned (.pointer none) ∧ Below w.heap.size w w'
end
section
open Go.RowKit
theorem ret_i64 {a b : Int} (h : a = b) : Ending.returned (.int .i64 a) = .returned (.int .i64 b) := by rw [h]
theorem right13_c (A B : Option Addr) (cA cB : Nat) (k v : List UInt8) (w : World) :
  Calls Tryz.prog 20 #[.slice A k.length cA, .slice B v.length cB] w fun e w' => e = .returned (.int .i64 (rightK k v)) ∧ w = w' := by
 by_cases hk : k.length = 32
 ·have d1 : ((k.length : Int) != 32) = false := by simp; omega
  by_cases hv : 65535 < v.length
  ·have d2 : decide (65535 < v.length) = true := decide_eq_true hv
   have d3 : decide (65535 < (v.length : Int)) = true := decide_eq_true (by omega)
   have HR : Hid (rightK k v = 3) := by show rightK k v = 3; unfold rightK; rw [if_pos hk, if_pos hv]
   clear hk hv
   go_enter Tryz.func20, Tryz.ntmps20
   go_wp2_with fail
   go_ret
   exact ⟨ret_i64 HR.out.symm, rfl⟩
  ·have d2 : decide (65535 < v.length) = false := decide_eq_false hv
   have d3 : decide (65535 < (v.length : Int)) = false := decide_eq_false (by omega)
   have HR : Hid (rightK k v = 0) := by show rightK k v = 0; unfold rightK; rw [if_pos hk, if_neg hv]
   clear hk hv
   go_enter Tryz.func20, Tryz.ntmps20
   go_wp2_with fail
   go_ret
   exact ⟨ret_i64 HR.out.symm, rfl⟩
 ·have d1 : ((k.length : Int) != 32) = true := by simp; omega
  have HR : Hid (rightK k v = 2) := by show rightK k v = 2; unfold rightK; rw [if_neg hk]
  clear hk
  go_enter Tryz.func20, Tryz.ntmps20
  go_wp2_with fail
  go_ret
  exact ⟨ret_i64 HR.out.symm, rfl⟩
def bigN (us : List Un) (m : Nat) : Nat := (us.take m).countP fun u => decide (300 < u.v.length)
theorem bigN_yes {us : List Un} {m : Nat} {x : Un} (h : us[m]? = some x) (hx : 300 < x.v.length) : bigN us (m + 1) = bigN us m + 1 := by
 unfold bigN
 obtain ⟨hi, rfl⟩ := List.getElem?_eq_some_iff.1 h
 rw [List.take_succ_eq_append_getElem hi, List.countP_append]
 simp [hx]
theorem bigN_no {us : List Un} {m : Nat} {x : Un} (h : us[m]? = some x) (hx : ¬ 300 < x.v.length) : bigN us (m + 1) = bigN us m := by
 unfold bigN
 obtain ⟨hi, rfl⟩ := List.getElem?_eq_some_iff.1 h
 rw [List.take_succ_eq_append_getElem hi, List.countP_append]
 simp [hx]
theorem bigN_le (us : List Un) (m : Nat) : bigN us m ≤ m := by
 unfold bigN
 exact Nat.le_trans List.countP_le_length (by rw [List.length_take]; omega)
theorem few13_no_len {us : List Un} (h : 20 < us.length) : fewU (us.map Un.up) = false := by
 unfold fewU
 rw [List.length_map, decide_eq_false (by omega)]
 rfl
theorem few13_no_at {us : List Un} {i : Nat} {x : Un} (hx : us[i]? = some x) (h : 100 < x.k.length ∨ 70000 < x.v.length) : fewU (us.map Un.up) = false := by
 unfold fewU
 rw [Bool.and_eq_false_iff]
 left
 rw [Bool.and_eq_false_iff]
 right
 rw [List.all_eq_false]
 refine ⟨x.up, List.mem_map.2 ⟨x, List.mem_of_getElem? hx, rfl⟩, fun hh => ?_⟩
 rw [Bool.and_eq_true] at hh
 have h1 : x.k.length ≤ 100 := of_decide_eq_true hh.1
 have h2 : x.v.length ≤ 70000 := of_decide_eq_true hh.2
 omega
theorem few13_all {us : List Un} (h : us.length ≤ 20) (hv : ∀ j x, j < us.length → us[j]? = some x → x.k.length ≤ 100 ∧ x.v.length ≤ 70000) : fewU (us.map Un.up) = decide (bigN us us.length ≤ 2) := by
 unfold fewU bigN
 rw [List.length_map, decide_eq_true h, Bool.true_and, List.take_length, List.countP_map]
 rw [List.all_eq_true.2 fun u hu => by
  obtain ⟨x, hx, rfl⟩ := List.mem_map.1 hu
  obtain ⟨j, hj, rfl⟩ := List.getElem_of_mem hx
  have := hv j _ hj (List.getElem?_eq_getElem hj)
  rw [Bool.and_eq_true]
  exact ⟨decide_eq_true this.1, decide_eq_true this.2⟩, Bool.true_and]
 rfl
theorem few13_c (A : Option Addr) (c : Nat) (us : List Un) (w : World) (hA : UA w A us) :
  Calls Tryz.prog 19 #[.slice A us.length c] w fun e w' => e = .returned (.bool (fewU (us.map Un.up))) ∧ w = w' := by
 have HA := Lib.hid hA
 clear hA
 rcases Nat.lt_or_ge 20 us.length with hl | hl
 ·have HF := Lib.hid (few13_no_len hl)
  have d1 : decide (20 < us.length) = true := decide_eq_true hl
  have d2 : decide (20 < (us.length : Int)) = true := decide_eq_true (by omega)
  go_enter Tryz.func19, Tryz.ntmps19
  go_wp2_with fail
  go_ret
  exact ⟨ret_bool HF.out.symm, rfl⟩
 ·have d1 : decide (20 < us.length) = false := decide_eq_false (by omega)
  have d2 : decide (20 < (us.length : Int)) = false := decide_eq_false (by omega)
  go_enter Tryz.func19, Tryz.ntmps19
  go_wp2_with fail
  go_loopg [3, 4] us.length (fun gg n i wr => ∃ k N : Nat, n = .int .i64 N ∧ i = .int .i64 k ∧ k ≤ us.length ∧ us.length - k = gg ∧ Hid (N = bigN us k) ∧ Hid (∀ j x, j < k → us[j]? = some x → x.k.length ≤ 100 ∧ x.v.length ≤ 70000) ∧ Hid (w = wr))
  case atStart => exact ⟨0, 0, rfl, rfl, by omega, by omega, by show 0 = bigN us 0; simp [bigN], fun j e hj => absurd hj (Nat.not_lt_zero j), rfl⟩
  case round =>
   obtain ⟨k, N, rfl, rfl, hk, rfl, HN, HV, HW⟩ := hrel
   by_cases hlt : k < us.length
   ·have hd : decide (k < us.length) = true := decide_eq_true hlt
    obtain ⟨x, hx⟩ : ∃ x, us[k]? = some x := ⟨_, List.getElem?_eq_getElem hlt⟩
    obtain ⟨hok, g, o, rfl, hr⟩ := HA.out k x hx
    have lk : wr.cell? ⟨g, o + k * 3, none⟩ = some (.slice x.A x.k.length x.c) := by rw [← HW.out]; exact range_ukey hr
    have lv : wr.cell? ⟨g, o + k * 3 + 1, none⟩ = some (.slice x.B x.v.length x.e) := by rw [← HW.out]; exact range_uval hr
    have HE := Lib.hid hx
    have p0 : (0 : Int) ≤ (k : Int) := by omega
    have p1 : (k : Int) < (us.length : Int) := by omega
    clear hx hok hr
    by_cases hkk : 100 < x.k.length
    ·have HF := Lib.hid (few13_no_at HE.out (.inl hkk))
     have e1 : decide (100 < x.k.length) = true := decide_eq_true hkk
     have e2 : decide (100 < (x.k.length : Int)) = true := decide_eq_true (by omega)
     go_wp2_with fail
     go_ret
     exact ⟨ret_bool HF.out.symm, HW.out⟩
    ·have e1 : decide (100 < x.k.length) = false := decide_eq_false hkk
     have e2 : decide (100 < (x.k.length : Int)) = false := decide_eq_false (by omega)
     by_cases hv : 70000 < x.v.length
     ·have HF := Lib.hid (few13_no_at HE.out (.inr hv))
      have f1 : decide (70000 < x.v.length) = true := decide_eq_true hv
      have f2 : decide (70000 < (x.v.length : Int)) = true := decide_eq_true (by omega)
      go_wp2_with fail
      go_ret
      exact ⟨ret_bool HF.out.symm, HW.out⟩
     ·have f1 : decide (70000 < x.v.length) = false := decide_eq_false hv
      have f2 : decide (70000 < (x.v.length : Int)) = false := decide_eq_false (by omega)
      have HVV : Hid (∀ j y, j < k + 1 → us[j]? = some y → y.k.length ≤ 100 ∧ y.v.length ≤ 70000) := fun j y hj hy => by
       rcases Nat.lt_or_ge j k with h | h
       ·exact HV.out j y h hy
       ·obtain rfl : j = k := by omega
        obtain rfl : x = y := Option.some.inj (HE.out.symm.trans hy)
        omega
      have HN9 : Hid (N ≤ 20) := by show N ≤ 20; have := bigN_le us k; rw [HN.out]; omega
      by_cases hb : 300 < x.v.length
      ·have g1 : decide (300 < x.v.length) = true := decide_eq_true hb
       have g2 : decide (300 < (x.v.length : Int)) = true := decide_eq_true (by omega)
       have HN2 : Hid (N + 1 = bigN us (k + 1)) := by show _ = _; rw [bigN_yes HE.out hb, HN.out]
       have n9 := HN9.out
       go_wp2_with fail
       go_roundg (us.length - (k + 1))
       case measure => omega
       case rel => exact ⟨k + 1, N + 1, by go_num, by go_num, by omega, rfl, HN2.out, HVV.out, HW⟩
      ·have g1 : decide (300 < x.v.length) = false := decide_eq_false hb
       have g2 : decide (300 < (x.v.length : Int)) = false := decide_eq_false (by omega)
       have HN2 : Hid (N = bigN us (k + 1)) := by show _ = _; rw [bigN_no HE.out hb, HN.out]
       go_wp2_with fail
       go_roundg (us.length - (k + 1))
       case measure => omega
       case rel => exact ⟨k + 1, N, rfl, by go_num, by omega, rfl, HN2.out, HVV.out, HW⟩
   ·obtain rfl : k = us.length := by omega
    have hd : decide (us.length < us.length) = false := decide_eq_false (by omega)
    have HF : Hid (fewU (us.map Un.up) = decide (N ≤ 2)) := by show _ = _; rw [few13_all hl fun j e h => HV.out j e h, HN.out]
    by_cases h2 : N ≤ 2
    ·have g1 : decide (N ≤ 2) = true := decide_eq_true h2
     have g2 : decide ((N : Int) ≤ 2) = true := decide_eq_true (by omega)
     go_wp2_with fail
     go_ret
     exact ⟨ret_bool (by rw [HF.out, g1]), HW.out⟩
    ·have g1 : decide (N ≤ 2) = false := decide_eq_false h2
     have g2 : decide ((N : Int) ≤ 2) = false := decide_eq_false (by omega)
     go_wp2_with fail
     go_ret
     exact ⟨ret_bool (by rw [HF.out, g1]), HW.out⟩
end
section
open Go.RowKit
theorem ret_i64s {a b c d : Int} (h : a = c) (g : b = d) : Ending.returned (.tuple #[.int .i64 a, .int .i64 b]) = .returned (.tuple #[.int .i64 c, .int .i64 d]) := by rw [h, g]
theorem badU_right {us : List Un} {m : Nat} {x : Un} (h : us[m]? = some x) (hr : rightK x.k x.up.val ≠ 0) : badU (us.map Un.up) m = rightK x.k x.up.val := by
 rw [badU_at (u := x.up) (by rw [List.getElem?_map, h]; rfl)]
 exact if_pos hr
theorem badU_dup {us : List Un} {m j : Nat} {x y : Un} (h : us[m]? = some x) (hr : rightK x.k x.up.val = 0) (hj : j < m) (hy : us[j]? = some y) (he : x.k = y.k) : badU (us.map Un.up) m = 9 := by
 rw [badU_at (u := x.up) (by rw [List.getElem?_map, h]; rfl), if_neg (by show ¬ rightK x.k x.up.val ≠ 0; rw [hr]; simp)]
 refine if_pos (List.any_eq_true.2 ⟨y.up, ?_, by show decide (y.k = x.k) = true; rw [he]; simp⟩)
 rw [List.mem_iff_getElem?]
 exact ⟨j, by rw [List.getElem?_take, if_pos hj, List.getElem?_map, hy]; rfl⟩
theorem badU_ok {us : List Un} {m : Nat} {x : Un} (h : us[m]? = some x) (hr : rightK x.k x.up.val = 0) (hj : ∀ j y, j < m → us[j]? = some y → x.k ≠ y.k) : badU (us.map Un.up) m = 0 := by
 rw [badU_at (u := x.up) (by rw [List.getElem?_map, h]; rfl), if_neg (by show ¬ rightK x.k x.up.val ≠ 0; rw [hr]; simp)]
 refine if_neg (fun hh => ?_)
 obtain ⟨u, hu, he⟩ := List.any_eq_true.1 hh
 obtain ⟨j, hj2⟩ := List.mem_iff_getElem?.1 hu
 rw [List.getElem?_take] at hj2
 split at hj2
 ·rw [List.getElem?_map] at hj2
  cases hy : us[j]? with
  | none => rw [hy] at hj2; cases hj2
  | some y =>
   rw [hy] at hj2
   obtain rfl := Option.some.inj hj2
   exact hj j y (by assumption) hy (of_decide_eq_true he).symm
 ·cases hj2
theorem check13_c (A : Option Addr) (c : Nat) (us : List Un) (w : World) (hA : UA w A us) (hn : us.length ≤ 100000) (hk : ∀ u ∈ us, u.k.length ≤ 1000) :
  Calls Tryz.prog 38 #[.slice A us.length c] w fun e w' => e = .returned (.tuple #[.int .i64 ((checkU (us.map Un.up)).1 : Int), .int .i64 (checkU (us.map Un.up)).2]) ∧ Below w.heap.size w w' := by
 have HA := Lib.hid hA
 have HKL := Lib.hid hk
 have hn9 : us.length ≤ 100000 := hn
 clear hA hn hk
 go_enter Tryz.func38, Tryz.ntmps38
 go_wp2_with fail
 go_loopg [4] us.length (fun gg i wr => ∃ m : Nat, i = .int .i64 (m : Int) ∧ m ≤ us.length ∧ us.length - m = gg ∧ Hid (∀ j, j < m → badU (us.map Un.up) j = 0) ∧ Below w.heap.size w wr)
 case atStart => exact ⟨0, rfl, by omega, by omega, fun j hj => absurd hj (Nat.not_lt_zero j), Below.refl _ _⟩
 case round =>
  obtain ⟨m, rfl, hm, rfl, HZ, hB⟩ := hrel
  obtain ⟨wo, rfl⟩ : ∃ wo : World, wo = wr := ⟨_, rfl⟩
  have HB := Lib.hid hB
  clear hB
  by_cases hlt : m < us.length
  ·have hd : decide (m < us.length) = true := decide_eq_true hlt
   obtain ⟨x, hx⟩ : ∃ x, us[m]? = some x := ⟨_, List.getElem?_eq_getElem hlt⟩
   obtain ⟨hok, g, o, rfl, hr⟩ := HA.out m x hx
   have HX := Lib.hid hx
   have HR := Lib.hid (range_below hr HB.out)
   have HOK := Lib.hid (hok.below HB.out)
   have p0 : (0 : Int) ≤ (m : Int) := by omega
   have p1 : (m : Int) < (us.length : Int) := by omega
   have lk := range_ukey HR.out
   have lv := range_uval HR.out
   have ld := range_udel HR.out
   obtain ⟨dd, hdd⟩ : ∃ dd, dd = x.d := ⟨_, rfl⟩
   rw [← hdd] at ld
   obtain ⟨V, hV⟩ : ∃ V, V = x.up.val := ⟨_, rfl⟩
   have HVV := Lib.hid hV
   have HRI : Hid (∀ y, Calls Tryz.prog 20 #[.slice x.A x.k.length x.c, if dd then .slice none 0 0 else .slice x.B x.v.length x.e] y fun e w' => e = .returned (.int .i64 (rightK x.k V)) ∧ y = w') := fun y => by
    rw [hV]
    unfold Up.val
    rw [show x.up.d = dd from hdd.symm]
    cases dd with
    | true => exact right13_c x.A none x.c 0 x.k [] y
    | false => exact right13_c x.A x.B x.c x.e x.k x.v y
   obtain ⟨E, hE⟩ : ∃ E, E = rightK x.k V := ⟨_, rfl⟩
   have HE := Lib.hid hE
   rw [← hE] at HRI
   clear hx hok hr hdd hV hE
   cases dd
   all_goals
    simp only [Bool.false_eq_true, if_true, if_false] at HRI
    by_cases he : E = 0
    ·have q1 : (E != 0) = false := by rw [he]; rfl
     have HE0 : Hid (rightK x.k x.up.val = 0) := by show _ = _; rw [← HVV.out, ← HE.out]; exact he
     clear he
     go_wp2_with (go_at_call 20; refine (HRI.out _).mono ?_; rintro _ _ ⟨rfl, rfl⟩)
     go_loopg [7] m (fun gg jv wr => ∃ j : Nat, jv = .int .i64 (j : Int) ∧ j ≤ m ∧ m - j = gg ∧ Hid (∀ i y, i < j → us[i]? = some y → x.k ≠ y.k) ∧ Below wo.heap.size wo wr)
     case atStart => exact ⟨0, rfl, by omega, by omega, fun j y hj => absurd hj (Nat.not_lt_zero j), Below.refl _ _⟩
     case round =>
      obtain ⟨j, rfl, hj, rfl, HNE, hB2⟩ := hrel
      have HB2 := Lib.hid hB2
      clear hB2
      by_cases hjt : j < m
      ·have hd2 : decide (j < m) = true := decide_eq_true hjt
       obtain ⟨y, hy⟩ : ∃ y, us[j]? = some y := ⟨_, List.getElem?_eq_getElem (by omega)⟩
       obtain ⟨hok2, g2, o2, e2, hr2⟩ := HA.out j y hy
       obtain ⟨rfl, rfl⟩ : g = g2 ∧ o = o2 := by cases e2; exact ⟨rfl, rfl⟩
       have HY := Lib.hid hy
       have HBW := Lib.hid (HB.out.trans (HB2.out.mono HB.out.size))
       have HR2 := Lib.hid (range_below hr2 HBW.out)
       have l1 : ∀ q : Later wr, q.w.cell? ⟨g, o + m * 3, none⟩ = some (.slice x.A x.k.length x.c) := fun q => range_ukey (range_below (range_below HR.out HB2.out) q.h)
       have l2 : ∀ q : Later wr, q.w.cell? ⟨g, o + j * 3, none⟩ = some (.slice y.A y.k.length y.c) := fun q => range_ukey (range_below HR2.out q.h)
       have HKX := Lib.hid (HOK.out.key.below HB2.out)
       have HKY := Lib.hid (hok2.key.below HBW.out)
       have HLX : Hid (x.k.length ≤ 1000) := HKL.out x (List.mem_of_getElem? HX.out)
       have HLY : Hid (y.k.length ≤ 1000) := HKL.out y (List.mem_of_getElem? HY.out)
       have r0 : (0 : Int) ≤ (j : Int) := by omega
       have r1 : (j : Int) < (us.length : Int) := by omega
       obtain ⟨Q, hQ⟩ : ∃ Q, Q = decide (x.k = y.k) := ⟨_, rfl⟩
       have HQ := Lib.hid hQ
       have HC : Hid (∀ q : Later wr, Calls Tryz.prog 36 #[.slice x.A x.k.length x.c, .slice y.A y.k.length y.c] q.w fun x w' => x = .returned (.bool Q) ∧ Below q.w.heap.size q.w w') := fun q => by
        have := same_c x.A y.A x.c y.c x.k y.k q.w (HKX.out.below q.h) (HKY.out.below q.h) (by have := HLX.out; omega) (by have := HLY.out; omega)
        rwa [hQ]
       clear e2 hy hok2 hr2 hQ lk lv ld
       go_wp2_with fail
       refine wp_region_later (by kernel_rfl) (by kernel_rfl) ?_
       repeat (go_big_quiet_step ((go_at_call 36; exact Later.call (HC.out _))))
       refine wpQuiet_nil ?_
       rintro _ ⟨z, rfl⟩
       have HB3 := Lib.hid (HB2.out.trans (z.h.mono HB2.out.size))
       have HBW3 := Lib.hid (HBW.out.trans (z.h.mono HBW.out.size))
       clear l1 l2
       cases Q with
       | true =>
        have HF : Hid (checkU (us.map Un.up) = (m, 9)) := by
         have h9 := badU_dup HX.out HE0.out hjt HY.out (of_decide_eq_true HQ.out.symm)
         show _ = _
         rw [checkU_at (by rw [List.length_map]; omega) HZ.out (by rw [h9]; decide), h9]
        go_wp2_with fail
        go_ret2
        exact ⟨ret_i64s (by rw [HF.out]) (by rw [HF.out]), HBW3.out⟩
       | false =>
        have HNE2 : Hid (∀ i y, i < j + 1 → us[i]? = some y → x.k ≠ y.k) := fun i y2 hi hy2 => by
         rcases Nat.lt_or_ge i j with h | h
         ·exact HNE.out i y2 h hy2
         ·obtain rfl : i = j := by omega
          obtain rfl : y = y2 := Option.some.inj (HY.out.symm.trans hy2)
          exact of_decide_eq_false HQ.out.symm
        go_wp2_with fail
        go_roundg (m - (j + 1))
        case measure => omega
        case rel => exact ⟨j + 1, by go_num, by omega, rfl, HNE2, HB3.out⟩
      ·obtain rfl : j = m := by omega
       have hd2 : decide (j < j) = false := decide_eq_false (by omega)
       have HBW := Lib.hid (HB.out.trans (HB2.out.mono HB.out.size))
       have HZ2 : Hid (∀ i, i < j + 1 → badU (us.map Un.up) i = 0) := fun i hi => by
        rcases Nat.lt_or_ge i j with h | h
        ·exact HZ.out i h
        ·obtain rfl : i = j := by omega
         exact badU_ok HX.out HE0.out HNE.out
       go_wp2_with fail
       go_roundg (us.length - (j + 1))
       case measure => omega
       case rel => exact ⟨j + 1, by go_num, by omega, rfl, HZ2, HBW.out⟩
    ·have q1 : (E != 0) = true := by simp [he]
     have HF : Hid (checkU (us.map Un.up) = (m, E)) := by
      have h9 := badU_right HX.out (by rw [← HVV.out, ← HE.out]; exact he)
      show _ = _
      rw [checkU_at (by rw [List.length_map]; omega) HZ.out (by rw [h9, ← HVV.out, ← HE.out]; exact he), h9, ← HVV.out, ← HE.out]
     go_wp2_with (go_at_call 20; refine (HRI.out _).mono ?_; rintro _ _ ⟨rfl, rfl⟩)
     go_ret2
     exact ⟨ret_i64s (by rw [HF.out]) (by rw [HF.out]), HB.out⟩
  ·obtain rfl : m = us.length := by omega
   have hd : decide (us.length < us.length) = false := decide_eq_false (by omega)
   have HF : Hid (checkU (us.map Un.up) = (0, 0)) := checkU_no fun j hj => HZ.out j (by rw [List.length_map] at hj; exact hj)
   go_wp2_with fail
   go_ret2
   exact ⟨ret_i64s (by rw [HF.out]; rfl) (by rw [HF.out]), HB.out⟩
end
section
open Go.RowKit
theorem kc_kof {l : List UInt8} (h : l.length = 32) : Bt.kc (Bt.kof l 32) = bA l := by
 unfold Bt.kc bA
 refine congrArg List.toArray (List.ext_getElem (by simp [h]) fun j h1 h2 => ?_)
 have hj : j < 32 := by simpa using h1
 have hj2 : j < l.length := by omega
 simp [Bt.kof, bv, hj, List.getD, hj2]
theorem of2_c (A : Option Addr) (c : Nat) (l : List UInt8) (w : World) (hA : BA w A l) (hl : l.length = 32) :
  Calls Tryz.prog 21 #[.slice A l.length c] w fun e w' => e = .returned (.agg (bA l)) ∧ Below w.heap.size w w' := by
 have := Bt.rof_c A c l w hA hl
 rwa [kc_kof hl] at this
theorem take_up {us : List Un} {m : Nat} {x : Un} (h : us[m]? = some x) : (us.take (m + 1)).map (fun u => u.up.chg) = (us.take m).map (fun u => u.up.chg) ++ [x.up.chg] := by
 obtain ⟨hi, rfl⟩ := List.getElem?_eq_some_iff.1 h
 rw [List.take_succ_eq_append_getElem hi, List.map_append, List.map_singleton]
theorem appU_chg (l : List Ent) (us : List Un) : appU l (us.map Un.up) = appC l (us.map fun u => u.up.chg) := by unfold appU; rw [List.map_map]; rfl
theorem apply13_c (A : Option Addr) (c : Nat) (es : List En) (B : Option Addr) (cB : Nat) (us : List Un) (w : World) (hA : EA w A es) (hX : UA w B us) (hn : es.length ≤ 1000) (hm : us.length ≤ 1000) (hv : ∀ e ∈ es, e.v.length ≤ 70000) (hx : ∀ u ∈ us, u.k.length = 32 ∧ u.v.length ≤ 70000) :
  Calls Tryz.prog 39 #[.slice A es.length c, .slice B us.length cB] w fun e w' => ∃ (A' : Option Addr) (c' : Nat) (es' : List En), e = .returned (.slice A' es'.length c') ∧ EA w' A' es' ∧ es'.map En.ent = appC (es.map En.ent) (us.map fun u => u.up.chg) ∧ (∀ e ∈ es', e.v.length ≤ 70000) ∧ es'.length ≤ es.length + us.length ∧ Below w.heap.size w w' := by
 have HX := Lib.hid hX
 have HN := Lib.hid hn
 have HM := Lib.hid hm
 have HVX := Lib.hid hx
 obtain ⟨L0, hL0⟩ : ∃ L0, L0 = es.length := ⟨_, rfl⟩
 obtain ⟨l0, hl0⟩ : ∃ l0, l0 = es.map En.ent := ⟨_, rfl⟩
 rw [← hl0]
 have HL0 := Lib.hid hL0
 have hL9 : L0 ≤ 1000 := by omega
 have HST2 : Hid (EA w A es ∧ es.map En.ent = appC l0 ((us.take 0).map fun u => u.up.chg) ∧ (∀ e ∈ es, e.v.length ≤ 70000) ∧ es.length ≤ L0 + 0) := ⟨hA, by rw [hl0]; rfl, hv, by omega⟩
 have hm9 : us.length ≤ 1000 := HM.out
 clear hA hX hn hm hv hx hl0 hL0
 go_enter Tryz.func39, Tryz.ntmps39
 go_wp2_with fail
 go_loopg [0, 5] us.length (fun gg mv iv wr => ∃ (m : Nat) (A' : Option Addr) (c' : Nat) (fs : List En), mv = .slice A' fs.length c' ∧ iv = .int .i64 (m : Int) ∧ m ≤ us.length ∧ us.length - m = gg ∧ Hid (EA wr A' fs ∧ fs.map En.ent = appC l0 ((us.take m).map fun u => u.up.chg) ∧ (∀ e ∈ fs, e.v.length ≤ 70000) ∧ fs.length ≤ L0 + m) ∧ Below w.heap.size w wr)
 case atStart => exact ⟨0, A, c, es, rfl, rfl, by omega, by omega, HST2.out, Below.refl _ _⟩
 case round =>
  obtain ⟨m, A', c', fs, rfl, rfl, hm, rfl, HRR, hB⟩ := hrel
  have HB := Lib.hid hB
  clear hB
  by_cases hlt : m < us.length
  ·have hd : decide (m < us.length) = true := decide_eq_true hlt
   obtain ⟨x, hx⟩ : ∃ x, us[m]? = some x := ⟨_, List.getElem?_eq_getElem hlt⟩
   obtain ⟨hok, g, o, rfl, hr⟩ := HX.out m x hx
   have HR := Lib.hid (range_below hr HB.out)
   have HOK := Lib.hid (hok.below HB.out)
   have HTK := Lib.hid (take_up hx)
   have HXV : Hid (x.k.length = 32 ∧ x.v.length ≤ 70000) := HVX.out x (List.mem_of_getElem? hx)
   have lk := range_ukey HR.out
   have p0 : (0 : Int) ≤ (m : Int) := by omega
   have p1 : (m : Int) < (us.length : Int) := by omega
   obtain ⟨dd, hdd⟩ : ∃ dd, dd = x.d := ⟨_, rfl⟩
   have HDD := Lib.hid hdd
   have HFL : Hid (fs.length ≤ 2000) := by show _ ≤ _; have := HRR.out.2.2.2; have := HM.out; omega
   have HOF := Lib.hid (of2_c x.A x.c x.k wr HOK.out.key HXV.out.1)
   clear hx hok hr hdd
   cases dd with
   | true =>
    go_wp2_with (go_at_call 21; refine HOF.out.mono ?_; rintro _ w1 ⟨rfl, hB1⟩; have hBZ : Below wr.heap.size wr (w1.alloc (.cells (bA x.k) 40)) := hB1.alloc hB1.size _; have HBZ := Lib.hid hBZ; have hst := stA_new (t := 40) w1 (Bt.kc Bt.kz) (bA x.k) (by rw [bA_size, HXV.out.1]; exact infoKey) (by rw [bA_size, Bt.kc_size, HXV.out.1]) (bA_one _); have ld := range_udel (range_below HR.out hBZ); rw [← HDD.out] at ld; have lkk : ldA 40 (w1.alloc (.cells (bA x.k) 40)) (.pointer (some ⟨w1.heap.size, 0, none⟩)) = .ok (.value (.agg (bA x.k))) (w1.alloc (.cells (bA x.k) 40)) := ldA_row (heap_alloc_new w1 _) Tryz.underlying40 (by rw [bA_size, HXV.out.1]; exact infoKey); clear hB1 hBZ)
    refine (remove7_c A' c' fs x.k _ (HRR.out.1.below HBZ.out) (by have := HFL.out; omega) HXV.out.1).mono ?_
    rintro _ w2 ⟨v2, rfl, hO2, hB2⟩
    obtain ⟨A2, c2, rfl, _, hE2⟩ := hO2.ea (fun e he => ((HRR.out.1.below HBZ.out).mem e (List.mem_filter.1 he).1).below hB2)
    have HF : Hid (EA w2 A2 (rmE fs x.k) ∧ (rmE fs x.k).map En.ent = appC l0 ((us.take (m + 1)).map fun u => u.up.chg) ∧ (∀ e ∈ rmE fs x.k, e.v.length ≤ 70000) ∧ (rmE fs x.k).length ≤ L0 + (m + 1)) := by
     obtain ⟨q1, q2, q3, q4⟩ := HRR.out
     refine ⟨hE2, ?_, fun e he => q3 e (List.mem_filter.1 he).1, by have := List.length_filter_le (fun e : En => !decide (e.k = x.k)) fs; show (fs.filter _).length ≤ _; omega⟩
     rw [HTK.out, appC_snoc, rmE_ent, q2]
     unfold stepC
     rw [if_pos (show x.up.chg.d = true from HDD.out.symm)]
     rfl
    have HB2 := Lib.hid (HB.out.trans ((HBZ.out.trans (hB2.mono HBZ.out.size)).mono HB.out.size))
    clear hO2 hE2 hB2 hst ld lkk lk
    go_wp2_with fail
    go_roundg (us.length - (m + 1))
    case measure => omega
    case rel => exact ⟨m + 1, A2, c2, rmE fs x.k, rfl, by go_num, by omega, rfl, HF.out, HB2.out⟩
   | false =>
    go_wp2_with (go_at_call 21; refine HOF.out.mono ?_; rintro _ w1 ⟨rfl, hB1⟩; have hBZ : Below wr.heap.size wr (w1.alloc (.cells (bA x.k) 40)) := hB1.alloc hB1.size _; have HBZ := Lib.hid hBZ; have hst := stA_new (t := 40) w1 (Bt.kc Bt.kz) (bA x.k) (by rw [bA_size, HXV.out.1]; exact infoKey) (by rw [bA_size, Bt.kc_size, HXV.out.1]) (bA_one _); have ld := range_udel (range_below HR.out hBZ); rw [← HDD.out] at ld; have lkk : ldA 40 (w1.alloc (.cells (bA x.k) 40)) (.pointer (some ⟨w1.heap.size, 0, none⟩)) = .ok (.value (.agg (bA x.k))) (w1.alloc (.cells (bA x.k) 40)) := ldA_row (heap_alloc_new w1 _) Tryz.underlying40 (by rw [bA_size, HXV.out.1]; exact infoKey); clear hB1 hBZ)
    obtain ⟨Z, hZ⟩ : ∃ Z, Z = w1.alloc (.cells (bA x.k) 40) := ⟨_, rfl⟩
    have LK : Hid (∀ v, Below Z.heap.size Z v → ldA 40 v (.pointer (some ⟨w1.heap.size, 0, none⟩)) = .ok (.value (.agg (bA x.k))) v) := fun v hv => by
     have h0 : Z.heap[w1.heap.size]? = some (.cells (bA x.k) 40 (0, 0)) := by rw [hZ]; exact heap_alloc_new w1 _
     exact ldA_row (by rw [hv.block _ (lt_of_heap h0)]; exact h0) Tryz.underlying40 (by rw [bA_size, HXV.out.1]; exact infoKey)
    rw [← hZ] at HBZ ⊢
    obtain ⟨en, hen⟩ : ∃ en : En, en = ⟨x.k, x.B, x.v, x.e⟩ := ⟨_, rfl⟩
    have hek : EnOk Z en := by rw [hen]; exact ⟨HXV.out.1, HOK.out.vc, HOK.out.val.below HBZ.out⟩
    have LV : Hid (∀ v, Below Z.heap.size Z v → v.cell? ⟨g, o + m * 3 + 1, none⟩ = some (.slice x.B x.v.length x.e)) := fun v hv => range_uval (range_below (range_below HR.out HBZ.out) hv)
    have HPU : Hid (∀ y, Below Z.heap.size Z y → Calls Tryz.prog 34 #[.slice A' fs.length c', .agg (bA x.k), .slice x.B x.v.length x.e] y fun e w' => ∃ (A9 : Option Addr) (c9 : Nat), e = .returned (.slice A9 (putE fs en).length c9) ∧ Hid (EA w' A9 (putE fs en)) ∧ Below y.heap.size y w') := fun y hy => by
     have h1 := put7_c A' c' fs en y ((HRR.out.1.below HBZ.out).below hy) (by have := HFL.out; omega) (hek.below hy)
     rw [hen] at h1 ⊢
     refine h1.mono ?_
     rintro _ w' ⟨v, rfl, hO, hB⟩
     obtain ⟨A9, c9, rfl, _, hE⟩ := hO.ea (fun e he => by
      rcases putE_mem he with rfl | he
      ·exact (by rw [hen] at hek; exact (hek.below hy).below hB)
      ·exact (((HRR.out.1.below HBZ.out).mem e he).below hy).below hB)
     exact ⟨A9, c9, rfl, hE, hB⟩
    have HF : Hid ((putE fs en).map En.ent = appC l0 ((us.take (m + 1)).map fun u => u.up.chg) ∧ (∀ e ∈ putE fs en, e.v.length ≤ 70000) ∧ (putE fs en).length ≤ L0 + (m + 1)) := by
     obtain ⟨q1, q2, q3, q4⟩ := HRR.out
     refine ⟨?_, fun e he => ?_, by have := putE_len fs en; omega⟩
     ·rw [HTK.out, appC_snoc, putE_ent, q2]
      unfold stepC
      rw [if_neg (show ¬ x.up.chg.d = true from fun h => by have h2 : x.d = true := h; rw [← HDD.out] at h2; cases h2), hen]
      rfl
     ·rcases putE_mem he with rfl | he
      ·rw [hen]; exact HXV.out.2
      ·exact q3 e he
    obtain ⟨gs, hgs⟩ : ∃ gs, gs = putE fs en := ⟨_, rfl⟩
    rw [← hgs] at HPU HF
    clear hek hen hgs hst ld lkk lk hZ
    go_wp2_with fail
    refine wp_region_held_drew (S := fun w' => Below Z.heap.size Z w') (by kernel_rfl) ((Below.refl _ _).drew) (fun hHeld => ?_)
    have hb0 : Below Z.heap.size Z Z.drew := (Below.refl _ _).drew
    refine x_t (i := 0) (oi := { dst := some 27, op := .move (.tmp 0), .. }) (v := ?_) rfl (Or.inl ⟨by rfl, ?_⟩) ?_
    rotate_left 1
    ·intro v hSv
     clear hSv
     go_simp
     try with_reducible rfl
    try simp only [Act.put, x_A, x_0, x_1]
    refine x_t (i := 1) (oi := { dst := some 28, op := .load _ (.tmp 6), .. }) (v := ?_) rfl (Or.inl ⟨by rfl, ?_⟩) ?_
    rotate_left 1
    ·intro v hSv
     have hv1 := LK.out v hSv
     clear hSv
     go_simp
     try with_reducible rfl
    try simp only [Act.put, x_A, x_0, x_1]
    refine x_t (i := 2) (oi := { dst := some 29, op := .move (.tmp 1), .. }) (v := ?_) rfl (Or.inl ⟨by rfl, ?_⟩) ?_
    rotate_left 1
    ·intro v hSv
     clear hSv
     go_simp
     try with_reducible rfl
    try simp only [Act.put, x_A, x_0, x_1]
    refine x_t (i := 3) (oi := { dst := some 30, op := .move (.tmp 5), .. }) (v := ?_) rfl (Or.inl ⟨by rfl, ?_⟩) ?_
    rotate_left 1
    ·intro v hSv
     clear hSv
     go_simp
     try with_reducible rfl
    try simp only [Act.put, x_A, x_0, x_1]
    refine x_t (i := 4) (oi := { dst := some 31, op := .indexAddr _ (.tmp 29) (.tmp 30), .. }) (v := ?_) rfl (Or.inl ⟨by rfl, ?_⟩) ?_
    rotate_left 1
    ·intro v hSv
     clear hSv
     go_simp
     try with_reducible rfl
    try simp only [Act.put, x_A, x_0, x_1]
    refine x_t (i := 5) (oi := { dst := some 32, op := .fieldAddr _ (.tmp 31) 1, .. }) (v := ?_) rfl (Or.inl ⟨by rfl, ?_⟩) ?_
    rotate_left 1
    ·intro v hSv
     clear hSv
     go_simp
     try with_reducible rfl
    try simp only [Act.put, x_A, x_0, x_1]
    refine x_t (i := 6) (oi := { dst := some 33, op := .load _ (.tmp 32), .. }) (v := ?_) rfl (Or.inl ⟨by rfl, ?_⟩) ?_
    rotate_left 1
    ·intro v hSv
     have hv1 := LV.out v hSv
     clear hSv
     go_simp
     try with_reducible rfl
    try simp only [Act.put, x_A, x_0, x_1]
    refine wpAnyH_ready (rs := [7]) (by kernel_rfl) (by simp) ?_
    refine AllReadyH.cons (o := { dst := some 34, op := .call _, .. }) rfl (fun K hK => ?_) AllReadyH.nil
    go_simp
    refine (HPU.out Z.drew (hb0)).mono ?_
    rintro e y1 ⟨A9, c9, rfl, HE9, hb⟩
    have hb1 : Below Z.heap.size Z y1 := keeps (hb0) hb
    clear hb
    go_wp2_with fail
    refine hK.out _ _ (hb1) (fun hHeld => ?_)
    clear hK K
    try simp only [Act.put, x_A, x_0, x_1]
    refine x_t (i := 8) (oi := { dst := some 0, op := .assign (.tmp 34), .. }) (v := ?_) rfl (Or.inl ⟨by rfl, ?_⟩) ?_
    rotate_left 1
    ·intro v hSv
     clear hSv
     go_simp
     try with_reducible rfl
    try simp only [Act.put, x_A, x_0, x_1]
    refine wpAnyH_done (by kernel_rfl) ?_ _
    have HK9 := Lib.hid hHeld
    have HB2 : Hid (Below w.heap.size w _) := HB.out.trans ((HBZ.out.trans (HK9.out.mono HBZ.out.size)).mono HB.out.size)
    clear HPU hb0
    go_wp2_with fail
    go_roundg (us.length - (m + 1))
    case measure => omega
    case rel => exact ⟨m + 1, A9, c9, gs, rfl, by go_num, by omega, rfl, ⟨HE9.out, HF.out⟩, HB2.out⟩
  ·obtain rfl : m = us.length := by omega
   have hd : decide (us.length < us.length) = false := decide_eq_false (by omega)
   have HF : Hid (EA wr A' fs ∧ fs.map En.ent = appC l0 (us.map fun u => u.up.chg) ∧ (∀ e ∈ fs, e.v.length ≤ 70000) ∧ fs.length ≤ es.length + us.length) := by
    obtain ⟨q1, q2, q3, q4⟩ := HRR.out
    rw [List.take_length] at q2
    exact ⟨q1, q2, q3, by have := HL0.out; omega⟩
   go_wp2_with fail
   go_ret
   obtain ⟨q1, q2, q3, q4⟩ := HF.out
   exact ⟨A', c', fs, rfl, q1, q2, q3, q4, HB.out⟩
end
section
open Go.RowKit
theorem wrong_nil (op : ByteArray) (i : Int) (w : World) :
  Calls Tryz.prog 30 #[.nilIface, .string op, .int .i64 i, .int .i64 0] w fun e w' => e = .returned (.bool false) ∧ w = w' := by
 go_enter Tryz.func30, Tryz.ntmps30
 go_wp2_with fail
 go_ret
 exact ⟨rfl, rfl⟩
theorem Wrong.below {w w' : World} {op : ByteArray} {i code : Int} {v : Value} (h : Wrong w op i code v) (hb : Below w.heap.size w w') : Wrong w' op i code v := by
 obtain ⟨b, h⟩ := h
 exact ⟨b, h.below hb⟩
theorem wrong_c (op : ByteArray) (i code : Int) (v : Value) (w : World) (h : Wrong w op i code v) (hc : code ≠ 0) (hv : Ft.ErrVar w) :
  Calls Tryz.prog 30 #[v, .string op, .int .i64 i, .int .i64 code] w fun e w' => e = .returned (.bool false) ∧ Below w.heap.size w w' := by
 obtain ⟨b, h⟩ := h
 have HC := Lib.hid h
 have HV := Lib.hid hv
 obtain ⟨rfl, v', hb, rfl⟩ := h
 have H1 := Lib.hid (Ft.first_some b op i _ w hb)
 have q0 : (code == 0) = false := beq_eq_false_iff_ne.2 hc
 have q1 : (code != code) = false := bne_self_eq_false code
 have q2 : (i != i) = false := bne_self_eq_false i
 have q3 : decide (op = op) = true := decide_eq_true rfl
 have H2 : Hid (∀ w1, Below w.heap.size w w1 → Calls Tryz.prog 33 #[.iface 142 (.pointer (some ⟨b, 0, none⟩))] w1 fun e w' => e = .returned (.int .i64 code) ∧ Below w1.heap.size w1 w') := fun w1 hw => Ft.code_some [⟨b, op, i⟩] code _ w1 (HC.out.below hw) (HV.out.below hw) (by simp)
 have H3 : Hid (∀ w1, Below w.heap.size w w1 → Calls Tryz.prog 51 #[.iface 142 (.pointer (some ⟨b, 0, none⟩))] w1 fun e w' => ∃ g, e = .returned (.slice (some ⟨g, 0, none⟩) 1 1) ∧ Below w1.heap.size w1 w') := fun w1 hw => by
  refine (Ft.ops_c [⟨b, op, i⟩] _ _ w1 (HC.out.below hw) (.inr ⟨code, rfl⟩) (by simp)).mono ?_
  rintro _ w2 ⟨g, rfl, _, hB⟩
  exact ⟨g, rfl, hB⟩
 clear hb hc hv
 go_enter Tryz.func30, Tryz.ntmps30
 go_wp2_with (go_at_call 50; refine H1.out.mono ?_; rintro _ w1 ⟨rfl, hB⟩; have HB1 := Lib.hid hB; clear hB)
 refine (H2.out _ HB1.out).mono ?_
 rintro _ w2 ⟨rfl, hB⟩
 have HB2 := Lib.hid (HB1.out.trans (hB.mono HB1.out.size))
 clear hB
 go_wp2_with fail
 refine (H3.out _ HB2.out).mono ?_
 rintro _ w3 ⟨g, rfl, hB⟩
 have HB3 := Lib.hid (HB2.out.trans (hB.mono HB2.out.size))
 clear hB
 go_wp2_with fail
 go_ret
 exact ⟨rfl, HB3.out⟩
end
end Go.Proofs.YtkejfdgmdjfdoaaGreatDoor
