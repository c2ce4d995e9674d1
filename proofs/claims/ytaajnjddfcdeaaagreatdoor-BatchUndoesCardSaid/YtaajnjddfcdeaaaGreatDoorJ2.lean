/- Several texts in one: Jg Jh Ji Jj Jk Jl Jm Jn Jo Jq Jr Js Jt. -/
import Derived.Test.YtaajnjddfcdeaaaGreatDoorJ1
import Derived.Test.YtaajnjddfcdeaaaGreatDoorMO
import Derived.Test.YtaajnjddfcdeaaaGreatDoorMU
import Derived.Test.YtaajnjddfcdeaaaGreatDoorNg
/- The reference's Same of changes that are the same; the law's conversions of changes. -/
namespace Go.Proofs.YtaajnjddfcdeaaaGreatDoor
open Go.RowKit

set_option maxHeartbeats 16000000 in
set_option maxRecDepth 100000 in
theorem same12_yes (A B : Option Addr) (c d : Nat) (xs ys : List Cn) (w : World) (hA : CA w A xs) (hB : CA w B ys) (hn : xs.length ≤ 1000) (ha : ∀ e ∈ xs, e.v.length ≤ 1000) (he : xs.map Cn.chg = ys.map Cn.chg) :
    Calls Tryz.prog 24 #[.slice A xs.length c, .slice B ys.length d] w fun e w' => e = .returned (.bool true) ∧ Below w.heap.size w w' := by
  have HA := Lib.hid hA
  have HB := Lib.hid hB
  have HVA := Lib.hid ha
  have HE := Lib.hid he
  have hl : ys.length = xs.length := by
    have := congrArg List.length he
    rw [List.length_map, List.length_map] at this
    exact this.symm
  obtain ⟨N, hN⟩ : ∃ N, N = xs.length := ⟨_, rfl⟩
  rw [hl, ← hN]
  have HNX := Lib.hid hN
  have HNY : Hid (N = ys.length) := by show _ = _; rw [hN, hl]
  have hn9 : N ≤ 1000 := by omega
  have dn : ((N : Int) != (N : Int)) = false := by simp
  clear hA hB ha he hl hN hn
  go_enter Tryz.func24, Tryz.ntmps24
  go_wp2_with fail
  go_loopg [5] N (fun gg i wr => ∃ m : Nat, i = .int .i64 (m : Int) ∧ m ≤ N ∧ N - m = gg ∧ Below w.heap.size w wr)
  case atStart => exact ⟨0, rfl, by omega, by omega, Below.refl _ _⟩
  case round =>
    obtain ⟨m, rfl, hml, rfl, hBw⟩ := hrel
    have HBw := Lib.hid hBw
    clear hBw
    by_cases hlt : m < N
    · have hd : decide (m < N) = true := decide_eq_true hlt
      obtain ⟨e, he⟩ : ∃ e, xs[m]? = some e := ⟨_, List.getElem?_eq_getElem (by have := HNX.out; omega)⟩
      obtain ⟨f, hf⟩ : ∃ f, ys[m]? = some f := ⟨_, List.getElem?_eq_getElem (by have := HNY.out; omega)⟩
      obtain ⟨hok, g, o, rfl, hr⟩ := HA.out m e he
      obtain ⟨hok2, g2, o2, rfl, hr2⟩ := HB.out m f hf
      have hch : e.chg = f.chg := by
        have h1 : (xs.map Cn.chg)[m]? = (ys.map Cn.chg)[m]? := by rw [HE.out]
        rw [List.getElem?_map, List.getElem?_map, he, hf] at h1
        exact Option.some.inj h1
      have hk : e.k = f.k := congrArg Chg.k hch
      have hv : e.v = f.v := congrArg Chg.v hch
      have hdd : e.d = f.d := congrArg Chg.d hch
      have hve : e.v.length ≤ 1000 := HVA.out e (List.mem_of_getElem? he)
      have HR1 := Lib.hid (range_below hr HBw.out)
      have HR2 := Lib.hid (range_below hr2 HBw.out)
      have HK1 := Lib.hid hok.key
      have HK2 := Lib.hid hok2.key
      have HV1 := Lib.hid (hok.val.below HBw.out)
      have HV2 := Lib.hid (hok2.val.below HBw.out)
      have p0 : (0 : Int) ≤ (m : Int) := by omega
      have p1 : (m : Int) < (N : Int) := by omega
      obtain ⟨dd, hdq⟩ : ∃ dd, dd = e.d := ⟨_, rfl⟩
      have l1 : ∀ q : Later wr, ldA 31 q.w (.pointer (some ⟨g, o + m * 34, none⟩)) = .ok (.value (.agg (bA e.k))) q.w := fun q => range_ckey (range_below HR1.out q.h) HK1.out
      have l2 : ∀ q : Later wr, ldA 31 q.w (.pointer (some ⟨g2, o2 + m * 34, none⟩)) = .ok (.value (.agg (bA f.k))) q.w := fun q => range_ckey (range_below HR2.out q.h) HK2.out
      have l3 : ∀ q : Later wr, q.w.cell? ⟨g, o + m * 34 + 32, none⟩ = some (.slice e.A e.v.length e.c) := fun q => range_cval (range_below HR1.out q.h) HK1.out
      have l4 : ∀ q : Later wr, q.w.cell? ⟨g2, o2 + m * 34 + 32, none⟩ = some (.slice f.A f.v.length f.c) := fun q => range_cval (range_below HR2.out q.h) HK2.out
      have l5 : ∀ q : Later wr, q.w.cell? ⟨g, o + m * 34 + 33, none⟩ = some (.bool dd) := fun q => by rw [hdq]; exact range_cdel (range_below HR1.out q.h) HK1.out
      have l6 : ∀ q : Later wr, q.w.cell? ⟨g2, o2 + m * 34 + 33, none⟩ = some (.bool dd) := fun q => by rw [hdq, hdd]; exact range_cdel (range_below HR2.out q.h) HK2.out
      have HC : Hid (∀ q : Later wr, Calls Tryz.prog 38 #[.slice e.A e.v.length e.c, .slice f.A f.v.length f.c] q.w fun x w' => x = .returned (.bool true) ∧ Below q.w.heap.size q.w w') := fun q => by
        have := same_c e.A f.A e.c f.c e.v f.v q.w (HV1.out.below q.h) (HV2.out.below q.h) (by omega) (by rw [← hv]; omega)
        rwa [decide_eq_true hv] at this
      have qk : ∀ o p w, eqA .neq 31 o p w (.agg (bA e.k)) (.agg (bA f.k)) = .ok (.value (.bool false)) w := fun o p w => by rw [neKey e.k f.k HK1.out HK2.out, decide_eq_true hk]; rfl
      have qd : (dd != dd) = false := by cases dd <;> rfl
      clear he hf hok hok2 hr hr2 hch hk hv hdd hdq hve
      go_wp2_with fail
      refine wp_region_later (by kernel_rfl) (by kernel_rfl) ?_
      repeat (go_big_quiet_step ((go_at_call 38; exact Later.call (HC.out _))))
      refine wpQuiet_nil ?_
      rintro _ ⟨x, rfl⟩
      have HB2 := Lib.hid (HBw.out.trans (x.h.mono HBw.out.size))
      clear l1 l2 l3 l4 l5 l6 qk qd
      go_wp2_with fail
      go_roundg (N - (m + 1))
      case measure => omega
      case rel => exact ⟨m + 1, by go_num, by omega, rfl, HB2.out⟩
    · obtain rfl : m = N := by omega
      have hd : decide (m < m) = false := decide_eq_false (by omega)
      go_wp2_with fail
      go_ret
      exact ⟨rfl, HBw.out⟩
def zC12 : Cn := ⟨z26, none, [], 0, false⟩
theorem changes_c_z : ∀ w, (zeroValue 36).run Tryz.prog w = .ok (.agg (cnC zC12).toArray) w := fun _ => by kernel_rfl
theorem back_c_z : ∀ w, (zeroValue 69).run Tryz.prog w = .ok (.agg (cnC zC12).toArray) w := fun _ => by kernel_rfl
set_option maxHeartbeats 8000000 in
set_option maxRecDepth 100000 in
theorem changes_c (A : Option Addr) (c : Nat) (xs : List Cn) (w : World) (hA : CA w A xs) (hn : xs.length ≤ 1000) :
    Calls Tryz.prog 17 #[.slice A xs.length c] w fun e w' => ∃ (A' : Option Addr) (c' : Nat), e = .returned (.slice A' xs.length c') ∧ CA w' A' xs ∧ xs.length ≤ c' ∧ Below w.heap.size w w' := by
  have HA := Lib.hid hA
  have hn9 : xs.length ≤ 1000 := hn
  clear hA hn
  go_enter Tryz.func17, Tryz.ntmps17
  go_wp2_with fail
  go_loopg [3, 8] xs.length (fun gg ov iv wr => ∃ (m : Nat) (v : Value), v = ov ∧ iv = .int .i64 (m : Int) ∧ m ≤ xs.length ∧ xs.length - m = gg ∧ Hid (OwnC 69 wr w.heap.size v (xs.take m)) ∧ Below w.heap.size w wr)
  case atStart => exact ⟨0, _, rfl, rfl, by omega, by omega, OwnC.nil _ _ _, Below.refl _ _⟩
  case round =>
    obtain ⟨m, v, rfl, rfl, hm, rfl, HO, hB⟩ := hrel
    have HB := Lib.hid hB
    clear hB
    by_cases hlt : m < xs.length
    · have hd : decide (m < xs.length) = true := decide_eq_true hlt
      obtain ⟨x, hx⟩ : ∃ x, xs[m]? = some x := ⟨_, List.getElem?_eq_getElem hlt⟩
      obtain ⟨hok, g, o, rfl, hr⟩ := HA.out m x hx
      have HKL := Lib.hid hok.key
      have le := range_cr (range_below hr HB.out) hok.key
      obtain ⟨Y, hY⟩ : ∃ Y, Y = wr.alloc (.cells (cnC x).toArray 36) := ⟨_, rfl⟩
      have hbY : Below wr.heap.size wr Y := by rw [hY]; exact (Below.refl _ _).alloc (Nat.le_refl _) _
      have st : stA 36 (wr.alloc (.cells (cnC zC12).toArray 36)) (.pointer (some ⟨wr.heap.size, 0, none⟩)) (.agg (cnC x).toArray) = .ok .skip Y := by rw [hY]; exact stC_new infoCr1 hok.key rfl
      have le2 : ldA 36 Y (.pointer (some ⟨wr.heap.size, 0, none⟩)) = .ok (.value (.agg (cnC x).toArray)) Y := range_cr (by rw [hY]; exact cn_made wr x _) hok.key
      have zv := changes_c_z
      have bs := bsCb_one x hok.key
      have HOY := Lib.hid (OwnC.below HO.out hbY)
      have HBY := Lib.hid (HB.out.trans (hbY.mono HB.out.size))
      have HTK : Hid (xs.take (m + 1) = xs.take m ++ [x]) := by
        obtain ⟨h1, rfl⟩ := List.getElem?_eq_some_iff.1 hx
        exact List.take_succ_eq_append_getElem h1
      have HEL : Hid ((xs.take m).length ≤ 1000000) := by show _ ≤ _; rw [List.length_take]; omega
      have p0 : (0 : Int) ≤ (m : Int) := by omega
      have p1 : (m : Int) < (xs.length : Int) := by omega
      clear hx hok hr hY hbY
      go_wp2_with (at_builtin; refine wpList_pushC2 Tryz.underlying47 infoCb rfl _ _ rfl w.heap.size v (xs.take m) rfl HOY.out x HKL.out rfl HEL.out HBY.out.size ?_; intro A9 n9 c9 w9 hO hN hB; have HO9 := Lib.hid hO; have HB9 := Lib.hid (HBY.out.trans hB); clear hO hN hB)
      go_roundg (xs.length - (m + 1))
      case measure => omega
      case rel => exact ⟨m + 1, _, rfl, by go_num, by omega, rfl, by show OwnC _ _ _ _ _; rw [HTK.out]; exact HO9.out, HB9.out⟩
    · obtain rfl : m = xs.length := by omega
      have hd : decide (xs.length < xs.length) = false := decide_eq_false (by omega)
      have hO := HO.out
      rw [List.take_length] at hO
      obtain ⟨A', c', rfl, hc, hca⟩ := OwnC.ca hO fun x hx => (HA.out.ok x hx).below HB.out
      have HC := Lib.hid hca
      clear hO HO hca hlt
      go_wp2_with fail
      go_ret
      exact ⟨A', c', rfl, HC.out, hc, HB.out⟩
set_option maxHeartbeats 8000000 in
set_option maxRecDepth 100000 in
theorem back_c (A : Option Addr) (c : Nat) (xs : List Cn) (w : World) (hA : CA w A xs) (hn : xs.length ≤ 1000) :
    Calls Tryz.prog 25 #[.slice A xs.length c] w fun e w' => ∃ (A' : Option Addr) (c' : Nat), e = .returned (.slice A' xs.length c') ∧ CA w' A' xs ∧ xs.length ≤ c' ∧ Below w.heap.size w w' := by
  have HA := Lib.hid hA
  have hn9 : xs.length ≤ 1000 := hn
  clear hA hn
  go_enter Tryz.func25, Tryz.ntmps25
  go_wp2_with fail
  go_loopg [3, 8] xs.length (fun gg ov iv wr => ∃ (m : Nat) (v : Value), v = ov ∧ iv = .int .i64 (m : Int) ∧ m ≤ xs.length ∧ xs.length - m = gg ∧ Hid (OwnC 36 wr w.heap.size v (xs.take m)) ∧ Below w.heap.size w wr)
  case atStart => exact ⟨0, _, rfl, rfl, by omega, by omega, OwnC.nil _ _ _, Below.refl _ _⟩
  case round =>
    obtain ⟨m, v, rfl, rfl, hm, rfl, HO, hB⟩ := hrel
    have HB := Lib.hid hB
    clear hB
    by_cases hlt : m < xs.length
    · have hd : decide (m < xs.length) = true := decide_eq_true hlt
      obtain ⟨x, hx⟩ : ∃ x, xs[m]? = some x := ⟨_, List.getElem?_eq_getElem hlt⟩
      obtain ⟨hok, g, o, rfl, hr⟩ := HA.out m x hx
      have HKL := Lib.hid hok.key
      have le := range_cb (range_below hr HB.out) hok.key
      obtain ⟨Y, hY⟩ : ∃ Y, Y = wr.alloc (.cells (cnC x).toArray 69) := ⟨_, rfl⟩
      have hbY : Below wr.heap.size wr Y := by rw [hY]; exact (Below.refl _ _).alloc (Nat.le_refl _) _
      have st : stA 69 (wr.alloc (.cells (cnC zC12).toArray 69)) (.pointer (some ⟨wr.heap.size, 0, none⟩)) (.agg (cnC x).toArray) = .ok .skip Y := by rw [hY]; exact stC_new infoCb1 hok.key rfl
      have le2 : ldA 69 Y (.pointer (some ⟨wr.heap.size, 0, none⟩)) = .ok (.value (.agg (cnC x).toArray)) Y := range_cb (by rw [hY]; exact cn_made wr x _) hok.key
      have zv := back_c_z
      have bs := bsCr_one x hok.key
      have HOY := Lib.hid (OwnC.below HO.out hbY)
      have HBY := Lib.hid (HB.out.trans (hbY.mono HB.out.size))
      have HTK : Hid (xs.take (m + 1) = xs.take m ++ [x]) := by
        obtain ⟨h1, rfl⟩ := List.getElem?_eq_some_iff.1 hx
        exact List.take_succ_eq_append_getElem h1
      have HEL : Hid ((xs.take m).length ≤ 1000000) := by show _ ≤ _; rw [List.length_take]; omega
      have p0 : (0 : Int) ≤ (m : Int) := by omega
      have p1 : (m : Int) < (xs.length : Int) := by omega
      clear hx hok hr hY hbY
      go_wp2_with (at_builtin; refine wpList_pushC2 Tryz.underlying29 infoCr rfl _ _ rfl w.heap.size v (xs.take m) rfl HOY.out x HKL.out rfl HEL.out HBY.out.size ?_; intro A9 n9 c9 w9 hO hN hB; have HO9 := Lib.hid hO; have HB9 := Lib.hid (HBY.out.trans hB); clear hO hN hB)
      go_roundg (xs.length - (m + 1))
      case measure => omega
      case rel => exact ⟨m + 1, _, rfl, by go_num, by omega, rfl, by show OwnC _ _ _ _ _; rw [HTK.out]; exact HO9.out, HB9.out⟩
    · obtain rfl : m = xs.length := by omega
      have hd : decide (xs.length < xs.length) = false := decide_eq_false (by omega)
      have hO := HO.out
      rw [List.take_length] at hO
      obtain ⟨A', c', rfl, hc, hca⟩ := OwnC.ca hO fun x hx => (HA.out.ok x hx).below HB.out
      have HC := Lib.hid hca
      clear hO HO hca hlt
      go_wp2_with fail
      go_ret
      exact ⟨A', c', rfl, HC.out, hc, HB.out⟩
end Go.Proofs.YtaajnjddfcdeaaaGreatDoor

/- The reference's Diff of maps. -/
namespace Go.Proofs.YtaajnjddfcdeaaaGreatDoor
open Go.RowKit

theorem valK_get (es : List En) (k : List UInt8) : valK (es.map En.ent) k = (getE es k).map En.v := by
  unfold getE
  induction es with
  | nil => rfl
  | cons x r ih =>
    rw [List.map_cons, valK_cons]
    by_cases h : x.k = k
    · rw [if_pos (show x.ent.k = k from h), List.find?_cons_of_pos (by simpa using h)]; rfl
    · rw [if_neg (show ¬ x.ent.k = k from h), List.find?_cons_of_neg (by simpa using h), ih]
theorem getE_mem12 {es : List En} {k : List UInt8} {e : En} (h : getE es k = some e) : e ∈ es ∧ e.k = k := ⟨List.mem_of_find?_eq_some h, by simpa using List.find?_some h⟩
theorem dif_none {es fs : List En} {k : List UInt8} (h : getE fs k = none) : difC (es.map En.ent) (fs.map En.ent) k = [⟨k, [], true⟩] := by
  unfold difC
  rw [valK_get fs, h]
  rfl
theorem dif_new {es fs : List En} {k : List UInt8} {f : En} (h : getE fs k = some f) (h2 : getE es k = none) : difC (es.map En.ent) (fs.map En.ent) k = [⟨k, f.v, false⟩] := by
  unfold difC
  rw [valK_get fs, h, valK_get es, h2]
  rfl
theorem dif_same {es fs : List En} {k : List UInt8} {e f : En} (h : getE fs k = some f) (h2 : getE es k = some e) (hv : e.v = f.v) : difC (es.map En.ent) (fs.map En.ent) k = [] := by
  unfold difC
  rw [valK_get fs, h, valK_get es, h2]
  simp [hv]
theorem dif_other {es fs : List En} {k : List UInt8} {e f : En} (h : getE fs k = some f) (h2 : getE es k = some e) (hv : ¬ e.v = f.v) : difC (es.map En.ent) (fs.map En.ent) k = [⟨k, f.v, false⟩] := by
  unfold difC
  rw [valK_get fs, h, valK_get es, h2]
  simp [hv]
theorem bldCr_delf (f : Nat → UInt8) (w : World) : bldA 36 w #[(0, .agg (bA ((List.range 32).map f))), (2, .bool true)] = .ok (.value (.agg (((List.range 32).map f).map bv ++ [Value.slice none 0 0, Value.bool true]).toArray)) w := by kernel_rfl
theorem bldCr_del (k : List UInt8) (hk : k.length = 32) (w : World) : bldA 36 w #[(0, .agg (bA k)), (2, .bool true)] = .ok (.value (.agg (cnC ⟨k, none, [], 0, true⟩).toArray)) w := by
  have := bldCr_delf (fun j => k.getD j 0) w
  rw [← list32 k hk] at this
  exact this
theorem bldCr_putf (f : Nat → UInt8) (A : Option Addr) (n c : Nat) (w : World) : bldA 36 w #[(0, .agg (bA ((List.range 32).map f))), (1, .slice A n c)] = .ok (.value (.agg (((List.range 32).map f).map bv ++ [Value.slice A n c, Value.bool false]).toArray)) w := by kernel_rfl
theorem bldCr_put (k : List UInt8) (hk : k.length = 32) (A : Option Addr) (v : List UInt8) (c : Nat) (w : World) : bldA 36 w #[(0, .agg (bA k)), (1, .slice A v.length c)] = .ok (.value (.agg (cnC ⟨k, A, v, c, false⟩).toArray)) w := by
  have := bldCr_putf (fun j => k.getD j 0) A v.length c w
  rw [← list32 k hk] at this
  exact this
theorem ba_nil12 (w : World) (A : Option Addr) : BA w A [] := fun j x hj => by simp at hj
theorem take_ekey {es : List En} {m : Nat} {x : En} (h : es[m]? = some x) : (es.take (m + 1)).map En.k = (es.take m).map En.k ++ [x.k] := by
  obtain ⟨hi, rfl⟩ := List.getElem?_eq_some_iff.1 h
  rw [List.take_succ_eq_append_getElem hi, List.map_append, List.map_singleton]
theorem take_flat {S : List (List UInt8)} {m : Nat} {k : List UInt8} (f : List UInt8 → List Chg) (h : S[m]? = some k) : (S.take (m + 1)).flatMap f = (S.take m).flatMap f ++ f k := by
  obtain ⟨hi, rfl⟩ := List.getElem?_eq_some_iff.1 h
  rw [List.take_succ_eq_append_getElem hi, List.flatMap_append]
  simp
set_option maxHeartbeats 16000000 in
set_option maxRecDepth 100000 in
theorem diff12_c (A : Option Addr) (c : Nat) (es : List En) (B : Option Addr) (cB : Nat) (fs : List En) (w : World) (hA : EA w A es) (hB : EA w B fs) (hn : es.length ≤ 200) (hm : fs.length ≤ 200) (hv : ∀ e ∈ es, e.v.length ≤ 1000) (hx : ∀ x ∈ fs, x.v.length ≤ 1000) :
    Calls Tryz.prog 26 #[.slice A es.length c, .slice B fs.length cB] w fun e w' => ∃ (A' : Option Addr) (c' : Nat) (xs : List Cn), e = .returned (.slice A' xs.length c') ∧ CA w' A' xs ∧ xs.map Cn.chg = diffC (es.map En.ent) (fs.map En.ent) ∧ xs.length ≤ 400 ∧ Below w.heap.size w w' := by
  have HA := Lib.hid hA
  have HB := Lib.hid hB
  have HVE := Lib.hid hv
  have HVF := Lib.hid hx
  have hn9 : es.length ≤ 200 := hn
  have hm9 : fs.length ≤ 200 := hm
  have HEK : Hid (∀ e ∈ es, e.k.length = 32) := fun e he => (hA.mem e he).key
  have HFK : Hid (∀ e ∈ fs, e.k.length = 32) := fun e he => (hB.mem e he).key
  clear hA hB hv hx hn hm
  go_enter Tryz.func26, Tryz.ntmps26
  go_wp2_with fail
  go_loopg [5, 6] es.length (fun gg kv iv wr => ∃ (m : Nat) (v : Value), v = kv ∧ iv = .int .i64 (m : Int) ∧ m ≤ es.length ∧ es.length - m = gg ∧ Hid (OwnS wr w.heap.size v ((es.take m).map En.k)) ∧ Below w.heap.size w wr)
  case atStart => exact ⟨0, _, rfl, rfl, by omega, by omega, OwnS.nil _ _, Below.refl _ _⟩
  case round =>
    obtain ⟨m, v, rfl, rfl, hm, rfl, HO, hB⟩ := hrel
    have HBL := Lib.hid hB
    clear hB
    by_cases hlt : m < es.length
    · have hd : decide (m < es.length) = true := decide_eq_true hlt
      obtain ⟨x, hx⟩ : ∃ x, es[m]? = some x := ⟨_, List.getElem?_eq_getElem hlt⟩
      obtain ⟨hok, g, o, rfl, hr⟩ := HA.out m x hx
      have lk := range_key (range_below hr HBL.out) hok.key
      have HKL := Lib.hid hok.key
      have bs := bsS_one x.k hok.key
      have HTK := Lib.hid (take_ekey hx)
      have HEL : Hid (((es.take m).map En.k).length ≤ 1000000) := by show _ ≤ _; simp; omega
      have p0 : (0 : Int) ≤ (m : Int) := by omega
      have p1 : (m : Int) < (es.length : Int) := by omega
      clear hx hok hr
      go_wp2_with (at_builtin; refine wpList_pushS2 rfl _ _ rfl w.heap.size v ((es.take m).map En.k) rfl HO.out x.k HKL.out rfl HEL.out HBL.out.size ?_; intro A9 n9 c9 w9 hO hN hB; have HO9 := Lib.hid hO; have HB9 := Lib.hid (HBL.out.trans hB); clear hO hN hB)
      go_roundg (es.length - (m + 1))
      case measure => omega
      case rel => exact ⟨m + 1, _, rfl, by go_num, by omega, rfl, by show OwnS _ _ _ _; rw [HTK.out]; exact HO9.out, HB9.out⟩
    · obtain rfl : m = es.length := by omega
      have hd : decide (es.length < es.length) = false := decide_eq_false (by omega)
      have hO := HO.out
      rw [List.take_length] at hO
      clear HO
      have HO := Lib.hid hO
      clear hO hlt
      go_wp2_with fail
      go_loopg [5, 7] fs.length (fun gg kv iv wr => ∃ (m : Nat) (v : Value), v = kv ∧ iv = .int .i64 (m : Int) ∧ m ≤ fs.length ∧ fs.length - m = gg ∧ Hid (OwnS wr w.heap.size v (es.map En.k ++ (fs.take m).map En.k)) ∧ Below w.heap.size w wr)
      case atStart => exact ⟨0, _, rfl, rfl, by omega, by omega, by show OwnS _ _ _ _; simpa using HO.out, HBL.out⟩
      case round =>
        obtain ⟨m, v, rfl, rfl, hm, rfl, HO, hB⟩ := hrel
        have HBL := Lib.hid hB
        clear hB
        by_cases hlt : m < fs.length
        · have hd : decide (m < fs.length) = true := decide_eq_true hlt
          obtain ⟨x, hx⟩ : ∃ x, fs[m]? = some x := ⟨_, List.getElem?_eq_getElem hlt⟩
          obtain ⟨hok, g, o, rfl, hr⟩ := HB.out m x hx
          have lk := range_key (range_below hr HBL.out) hok.key
          have HKL := Lib.hid hok.key
          have bs := bsS_one x.k hok.key
          have HTK := Lib.hid (take_ekey hx)
          have HEL : Hid ((es.map En.k ++ (fs.take m).map En.k).length ≤ 1000000) := by show _ ≤ _; simp; omega
          have p0 : (0 : Int) ≤ (m : Int) := by omega
          have p1 : (m : Int) < (fs.length : Int) := by omega
          clear hx hok hr
          go_wp2_with (at_builtin; refine wpList_pushS2 rfl _ _ rfl w.heap.size v (es.map En.k ++ (fs.take m).map En.k) rfl HO.out x.k HKL.out rfl HEL.out HBL.out.size ?_; intro A9 n9 c9 w9 hO hN hB; have HO9 := Lib.hid hO; have HB9 := Lib.hid (HBL.out.trans hB); clear hO hN hB)
          go_roundg (fs.length - (m + 1))
          case measure => omega
          case rel => exact ⟨m + 1, _, rfl, by go_num, by omega, rfl, by show OwnS _ _ _ _; rw [HTK.out, ← List.append_assoc]; exact HO9.out, HB9.out⟩
        · obtain rfl : m = fs.length := by omega
          have hd : decide (fs.length < fs.length) = false := decide_eq_false (by omega)
          have hO := HO.out
          rw [List.take_length] at hO
          clear HO
          have HO := Lib.hid hO
          clear hO hlt
          obtain ⟨ks, hks⟩ : ∃ ks, ks = es.map En.k ++ fs.map En.k := ⟨_, rfl⟩
          rw [← hks] at HO
          have HKS := Lib.hid hks
          have h32 : K32 ks := fun k hk => by
            rw [hks] at hk
            rcases List.mem_append.1 hk with hk | hk
            · obtain ⟨e, he, rfl⟩ := List.mem_map.1 hk; exact HEK.out e he
            · obtain ⟨e, he, rfl⟩ := List.mem_map.1 hk; exact HFK.out e he
          have hkl : ks.length ≤ 400 := by rw [hks, List.length_append, List.length_map, List.length_map]; omega
          obtain ⟨A3, c3, hv3, hks3⟩ := OwnS.ks HO.out h32
          subst hv3
          have HSO := Lib.hid (sort2_c A3 c3 ks _ hks3 (by omega))
          obtain ⟨S, hS⟩ : ∃ S, S = sortS ks := ⟨_, rfl⟩
          rw [← hS] at HSO
          have HS32 : Hid (K32 S) := by rw [hS]; exact sortS_32 h32
          have hSl : S.length ≤ 400 := by rw [hS]; exact Nat.le_trans (sortS_len ks) hkl
          have HSE : Hid (diffC (es.map En.ent) (fs.map En.ent) = S.flatMap (difC (es.map En.ent) (fs.map En.ent))) := by
            show _ = _
            unfold diffC
            rw [List.map_map, List.map_map, hS, hks]
            rfl
          clear hks h32 hks3 HO hS HKS
          go_wp2_with fail
          refine HSO.out.mono ?_
          rintro _ ws ⟨A5, c5, rfl, hk5, hBs⟩
          have HK5 := Lib.hid hk5
          have HBS := Lib.hid (HBL.out.trans (hBs.mono HBL.out.size))
          have HEA := Lib.hid (HA.out.below HBS.out)
          have HFA := Lib.hid (HB.out.below HBS.out)
          clear hk5 hBs HSO
          go_wp2_with fail
          go_loopg [8, 9] S.length (fun gg ov iv wr => ∃ (m : Nat) (v : Value) (ys : List Cn), v = ov ∧ iv = .int .i64 (m : Int) ∧ m ≤ S.length ∧ S.length - m = gg ∧ Hid (OwnC 36 wr ws.heap.size v ys ∧ ys.map Cn.chg = (S.take m).flatMap (difC (es.map En.ent) (fs.map En.ent)) ∧ (∀ y ∈ ys, CnOk ws y) ∧ ys.length ≤ m) ∧ Below ws.heap.size ws wr)
          case atStart => exact ⟨0, _, [], rfl, rfl, by omega, by omega, ⟨OwnC.nil _ _ _, rfl, fun y hy => absurd hy List.not_mem_nil, by simp⟩, Below.refl _ _⟩
          case round =>
            obtain ⟨m, v, ys, rfl, rfl, hm, rfl, HRR, hB⟩ := hrel
            have HBI := Lib.hid hB
            clear hB
            by_cases hlt : m < S.length
            · have hd : decide (m < S.length) = true := decide_eq_true hlt
              obtain ⟨k, hk⟩ : ∃ k, S[m]? = some k := ⟨_, List.getElem?_eq_getElem hlt⟩
              obtain ⟨hkk, g, o, rfl, hr⟩ := HK5.out m k hk
              have HKK := Lib.hid hkk
              have LK : Hid (∀ y, Below ws.heap.size ws y → ldA 31 y (.pointer (some ⟨g, o + m * 32, none⟩)) = .ok (.value (.agg (bA k))) y) := fun y hy => range_keyS (range_below hr hy) hkk
              have HTF := Lib.hid (take_flat (difC (es.map En.ent) (fs.map En.ent)) hk)
              have HG1 : Hid (∀ y, Below ws.heap.size ws y → Calls Tryz.prog 51 #[.slice A es.length c, .agg (bA k)] y fun e w' => e = .returned (.tuple #[getVal (getE es k), .bool (getE es k).isSome]) ∧ Below y.heap.size y w') := fun y hy => get7_c A c es k y (HEA.out.below hy) (by omega) hkk
              have HG2 : Hid (∀ y, Below ws.heap.size ws y → Calls Tryz.prog 51 #[.slice B fs.length cB, .agg (bA k)] y fun e w' => e = .returned (.tuple #[getVal (getE fs k), .bool (getE fs k).isSome]) ∧ Below y.heap.size y w') := fun y hy => get7_c B cB fs k y (HFA.out.below hy) (by omega) hkk
              have HEL : Hid (ys.length ≤ 1000000) := by show _ ≤ _; have := HRR.out.2.2.2; omega
              have p0 : (0 : Int) ≤ (m : Int) := by omega
              have p1 : (m : Int) < (S.length : Int) := by omega
              have lk := LK.out wr HBI.out
              clear hk hr hkk
              cases hf : getE fs k with
              | none =>
                have HD := Lib.hid (dif_none (es := es) hf)
                rw [hf] at HG2
                clear hf
                obtain ⟨gv, hgv⟩ : ∃ gv, gv = getVal (getE es k) := ⟨_, rfl⟩
                obtain ⟨gb, hgb⟩ : ∃ gb, gb = (getE es k).isSome := ⟨_, rfl⟩
                rw [← hgv, ← hgb] at HG1
                rw [show getVal (none : Option En) = .slice none 0 0 from rfl, show (none : Option En).isSome = false from rfl] at HG2
                clear hgv hgb
                go_wp2_with fail
                refine (HG1.out wr HBI.out).mono ?_
                rintro _ w5 ⟨rfl, hB5⟩
                have HB5 := Lib.hid (HBI.out.trans (hB5.mono HBI.out.size))
                have HO5 := Lib.hid (OwnC.below HRR.out.1 hB5)
                clear hB5 lk
                have lk := LK.out w5 HB5.out
                go_wp2_with fail
                refine (HG2.out w5 HB5.out).mono ?_
                rintro _ w6 ⟨rfl, hB6⟩
                have HB6 := Lib.hid (HB5.out.trans (hB6.mono HB5.out.size))
                have HO6 := Lib.hid (OwnC.below HO5.out hB6)
                clear hB6 lk
                have lk := LK.out w6 HB6.out
                have bl := fun w => bldCr_del k HKK.out w
                obtain ⟨xx, hxx⟩ : ∃ xx : Cn, xx = ⟨k, none, [], 0, true⟩ := ⟨_, rfl⟩
                have HXK : Hid (xx.k.length = 32) := by rw [hxx]; exact HKK.out
                have HXC : Hid (xx.chg = ⟨k, [], true⟩) := by rw [hxx]; rfl
                have HXO : Hid (CnOk ws xx) := by rw [hxx]; exact ⟨HKK.out, Nat.le_refl 0, ba_nil12 _ _⟩
                rw [← hxx] at bl
                have bs := bsCr_one xx HXK.out
                clear hxx
                go_wp2_with (at_builtin; refine wpList_pushC2 Tryz.underlying29 infoCr rfl _ _ rfl ws.heap.size v ys rfl HO6.out xx HXK.out rfl HEL.out HB6.out.size ?_; intro A9 n9 c9 w9 hO hN hB; have HO9 := Lib.hid hO; have HB9 := Lib.hid (HB6.out.trans hB); clear hO hN hB)
                go_roundg (S.length - (m + 1))
                case measure => omega
                case rel =>
                  obtain ⟨q1, q2, q3, q4⟩ := HRR.out
                  refine ⟨m + 1, _, ys ++ [xx], rfl, by go_num, by omega, rfl, ⟨HO9.out, by rw [List.map_append, q2, HTF.out, HD.out, List.map_singleton, HXC.out], fun y hy => ?_, by simp; omega⟩, HB9.out⟩
                  rcases List.mem_append.1 hy with hy | hy
                  · exact q3 y hy
                  · rw [List.mem_singleton.1 hy]; exact HXO.out
              | some f =>
                obtain ⟨hfm, hfk⟩ := getE_mem12 hf
                have HFO := Lib.hid (HFA.out.mem f hfm)
                have HFV : Hid (f.v.length ≤ 1000) := HVF.out f hfm
                rw [hf] at HG2
                rw [show getVal (some f) = .slice f.A f.v.length f.c from rfl, show (some f).isSome = true from rfl] at HG2
                clear hfm hfk
                cases he : getE es k with
                | none =>
                  have HD := Lib.hid (dif_new hf he)
                  rw [he] at HG1
                  rw [show getVal (none : Option En) = .slice none 0 0 from rfl, show (none : Option En).isSome = false from rfl] at HG1
                  clear hf he
                  go_wp2_with fail
                  refine (HG1.out wr HBI.out).mono ?_
                  rintro _ w5 ⟨rfl, hB5⟩
                  have HB5 := Lib.hid (HBI.out.trans (hB5.mono HBI.out.size))
                  have HO5 := Lib.hid (OwnC.below HRR.out.1 hB5)
                  clear hB5 lk
                  have lk := LK.out w5 HB5.out
                  go_wp2_with fail
                  refine (HG2.out w5 HB5.out).mono ?_
                  rintro _ w6 ⟨rfl, hB6⟩
                  have HB6 := Lib.hid (HB5.out.trans (hB6.mono HB5.out.size))
                  have HO6 := Lib.hid (OwnC.below HO5.out hB6)
                  clear hB6 lk
                  have lk := LK.out w6 HB6.out
                  have bl := fun w => bldCr_put k HKK.out f.A f.v f.c w
                  obtain ⟨xx, hxx⟩ : ∃ xx : Cn, xx = ⟨k, f.A, f.v, f.c, false⟩ := ⟨_, rfl⟩
                  have HXK : Hid (xx.k.length = 32) := by rw [hxx]; exact HKK.out
                  have HXC : Hid (xx.chg = ⟨k, f.v, false⟩) := by rw [hxx]; rfl
                  have HXO : Hid (CnOk ws xx) := by rw [hxx]; exact ⟨HKK.out, HFO.out.cap, HFO.out.val⟩
                  rw [← hxx] at bl
                  have bs := bsCr_one xx HXK.out
                  clear hxx
                  go_wp2_with (at_builtin; refine wpList_pushC2 Tryz.underlying29 infoCr rfl _ _ rfl ws.heap.size v ys rfl HO6.out xx HXK.out rfl HEL.out HB6.out.size ?_; intro A9 n9 c9 w9 hO hN hB; have HO9 := Lib.hid hO; have HB9 := Lib.hid (HB6.out.trans hB); clear hO hN hB)
                  go_roundg (S.length - (m + 1))
                  case measure => omega
                  case rel =>
                    obtain ⟨q1, q2, q3, q4⟩ := HRR.out
                    refine ⟨m + 1, _, ys ++ [xx], rfl, by go_num, by omega, rfl, ⟨HO9.out, by rw [List.map_append, q2, HTF.out, HD.out, List.map_singleton, HXC.out], fun y hy => ?_, by simp; omega⟩, HB9.out⟩
                    rcases List.mem_append.1 hy with hy | hy
                    · exact q3 y hy
                    · rw [List.mem_singleton.1 hy]; exact HXO.out
                | some e =>
                  obtain ⟨hem, hek⟩ := getE_mem12 he
                  have HEO := Lib.hid (HEA.out.mem e hem)
                  have HEV : Hid (e.v.length ≤ 1000) := HVE.out e hem
                  rw [he] at HG1
                  rw [show getVal (some e) = .slice e.A e.v.length e.c from rfl, show (some e).isSome = true from rfl] at HG1
                  clear hem hek
                  have HSM : Hid (∀ y, Below ws.heap.size ws y → Calls Tryz.prog 38 #[.slice e.A e.v.length e.c, .slice f.A f.v.length f.c] y fun x w' => x = .returned (.bool (decide (e.v = f.v))) ∧ Below y.heap.size y w') := fun y hy => same_c e.A f.A e.c f.c e.v f.v y (HEO.out.val.below hy) (HFO.out.val.below hy) (by have := HEV.out; omega) (by have := HFV.out; omega)
                  by_cases hq : e.v = f.v
                  · skip
                    have HD := Lib.hid (dif_same hf he hq)
                    rw [decide_eq_true hq] at HSM
                    clear hf he hq
                    go_wp2_with fail
                    refine (HG1.out wr HBI.out).mono ?_
                    rintro _ w5 ⟨rfl, hB5⟩
                    have HB5 := Lib.hid (HBI.out.trans (hB5.mono HBI.out.size))
                    have HO5 := Lib.hid (OwnC.below HRR.out.1 hB5)
                    clear hB5 lk
                    have lk := LK.out w5 HB5.out
                    go_wp2_with fail
                    refine (HG2.out w5 HB5.out).mono ?_
                    rintro _ w6 ⟨rfl, hB6⟩
                    have HB6 := Lib.hid (HB5.out.trans (hB6.mono HB5.out.size))
                    have HO6 := Lib.hid (OwnC.below HO5.out hB6)
                    clear hB6 lk
                    have lk := LK.out w6 HB6.out
                    go_wp2_with fail
                    refine (HSM.out w6 HB6.out).mono ?_
                    rintro _ w7 ⟨rfl, hB7⟩
                    have HB7 := Lib.hid (HB6.out.trans (hB7.mono HB6.out.size))
                    have HO7 := Lib.hid (OwnC.below HO6.out hB7)
                    clear hB7 lk
                    go_wp2_with fail
                    go_roundg (S.length - (m + 1))
                    case measure => omega
                    case rel =>
                      obtain ⟨q1, q2, q3, q4⟩ := HRR.out
                      exact ⟨m + 1, v, ys, rfl, by go_num, by omega, rfl, ⟨HO7.out, by rw [q2, HTF.out, HD.out, List.append_nil], q3, by omega⟩, HB7.out⟩
                  · skip
                    have HD := Lib.hid (dif_other hf he hq)
                    rw [decide_eq_false hq] at HSM
                    clear hf he hq
                    go_wp2_with fail
                    refine (HG1.out wr HBI.out).mono ?_
                    rintro _ w5 ⟨rfl, hB5⟩
                    have HB5 := Lib.hid (HBI.out.trans (hB5.mono HBI.out.size))
                    have HO5 := Lib.hid (OwnC.below HRR.out.1 hB5)
                    clear hB5 lk
                    have lk := LK.out w5 HB5.out
                    go_wp2_with fail
                    refine (HG2.out w5 HB5.out).mono ?_
                    rintro _ w6 ⟨rfl, hB6⟩
                    have HB6 := Lib.hid (HB5.out.trans (hB6.mono HB5.out.size))
                    have HO6 := Lib.hid (OwnC.below HO5.out hB6)
                    clear hB6 lk
                    have lk := LK.out w6 HB6.out
                    go_wp2_with fail
                    refine (HSM.out w6 HB6.out).mono ?_
                    rintro _ w7 ⟨rfl, hB7⟩
                    have HB7 := Lib.hid (HB6.out.trans (hB7.mono HB6.out.size))
                    have HO7 := Lib.hid (OwnC.below HO6.out hB7)
                    clear hB7 lk
                    have lk := LK.out w7 HB7.out
                    have bl := fun w => bldCr_put k HKK.out f.A f.v f.c w
                    obtain ⟨xx, hxx⟩ : ∃ xx : Cn, xx = ⟨k, f.A, f.v, f.c, false⟩ := ⟨_, rfl⟩
                    have HXK : Hid (xx.k.length = 32) := by rw [hxx]; exact HKK.out
                    have HXC : Hid (xx.chg = ⟨k, f.v, false⟩) := by rw [hxx]; rfl
                    have HXO : Hid (CnOk ws xx) := by rw [hxx]; exact ⟨HKK.out, HFO.out.cap, HFO.out.val⟩
                    rw [← hxx] at bl
                    have bs := bsCr_one xx HXK.out
                    clear hxx
                    go_wp2_with (at_builtin; refine wpList_pushC2 Tryz.underlying29 infoCr rfl _ _ rfl ws.heap.size v ys rfl HO7.out xx HXK.out rfl HEL.out HB7.out.size ?_; intro A9 n9 c9 w9 hO hN hB; have HO9 := Lib.hid hO; have HB9 := Lib.hid (HB7.out.trans hB); clear hO hN hB)
                    go_roundg (S.length - (m + 1))
                    case measure => omega
                    case rel =>
                      obtain ⟨q1, q2, q3, q4⟩ := HRR.out
                      refine ⟨m + 1, _, ys ++ [xx], rfl, by go_num, by omega, rfl, ⟨HO9.out, by rw [List.map_append, q2, HTF.out, HD.out, List.map_singleton, HXC.out], fun y hy => ?_, by simp; omega⟩, HB9.out⟩
                      rcases List.mem_append.1 hy with hy | hy
                      · exact q3 y hy
                      · rw [List.mem_singleton.1 hy]; exact HXO.out
            · obtain rfl : m = S.length := by omega
              have hd : decide (S.length < S.length) = false := decide_eq_false (by omega)
              obtain ⟨q1, q2, q3, q4⟩ := HRR.out
              rw [List.take_length, ← HSE.out] at q2
              obtain ⟨A', c', rfl, hc, hca⟩ := OwnC.ca q1 fun y hy => (q3 y hy).below HBI.out
              have HF : Hid (CA wr A' ys ∧ ys.map Cn.chg = diffC (es.map En.ent) (fs.map En.ent) ∧ ys.length ≤ 400 ∧ Below w.heap.size w wr) := ⟨hca, q2, by omega, HBS.out.trans (HBI.out.mono HBS.out.size)⟩
              clear hca q1 q2 q3 hc HRR hlt
              go_wp2_with fail
              go_ret
              exact ⟨A', c', ys, rfl, HF.out⟩
end Go.Proofs.YtaajnjddfcdeaaaGreatDoor

/- What the program of layer 12 keeps, as a contract over maps and lists of changes. -/
namespace Go.Proofs.YtaajnjddfcdeaaaGreatDoor
open Go.RowKit

/-- Behind a call that refuses its list: the hasher is there. -/
structure Refused (w : World) (b : Nat) (n : Int) (m : Nat) (w' : World) : Prop where
  hs : ∃ c', c' ≤ m ∧ Hs w' b n c'
  keep : Keep (fun i => i = b) w w'
/-- What the program of layer 12 keeps. -/
structure BaV (M : World → Int → Tv → Prop) : Prop where
  build : ∀ (w : World) (b : Nat) (n : Int) (c : Nat) (A : Option Addr) (cA : Nat) (es : List En), Hs w b n c → c ≤ 400000 → Vars w → EA w A es → es.length ≤ 50 → (∀ e ∈ es, e.v.length ≤ 1000) →
    Calls Tryz.prog 11 #[ptr b, .slice A es.length cA] w fun x w' =>
      (chkK (es.map En.k) = 0 → ∃ T', x = .returned (.tuple #[T'.val, .int .i64 0]) ∧ IsMap (es.map En.ent) T' ∧ Made M w b n .nil T' (c + 90000) w') ∧
      (chkK (es.map En.k) ≠ 0 → x = .returned (.tuple #[.pointer none, .int .i64 (chkK (es.map En.k))]) ∧ Refused w b n (c + 90000) w')
  apply : ∀ (w : World) (b : Nat) (n : Int) (c : Nat) (l : List Ent) (T : Tv) (A : Option Addr) (cA : Nat) (xs : List Cn), Hs w b n c → c ≤ 400000 → Vars w → M w n T → IsMap l T → l.length ≤ 1000 → CA w A xs → xs.length ≤ cA → xs.length ≤ 50 → (∀ x ∈ xs, x.v.length ≤ 1000) →
    Calls Tryz.prog 16 #[ptr b, T.val, .slice A xs.length cA] w fun x w' =>
      (chkK (xs.map Cn.k) = 0 → ∃ T', x = .returned (.tuple #[T'.val, .int .i64 0]) ∧ IsMap (appC l (xs.map Cn.chg)) T' ∧ Made M w b n T T' (c + 90000) w') ∧
      (chkK (xs.map Cn.k) ≠ 0 → x = .returned (.tuple #[.pointer none, .int .i64 (chkK (xs.map Cn.k))]) ∧ Refused w b n (c + 90000) w')
  diff : ∀ (w : World) (n : Int) (S T : Tv) (a b : List Ent), M w n S → M w n T → IsMap a S → IsMap b T → Asc a → Asc b → a.length ≤ 100 → b.length ≤ 100 →
    Calls Tryz.prog 22 #[S.val, T.val] w fun x w' => ∃ (A : Option Addr) (c : Nat) (xs : List Cn), x = .returned (.slice A xs.length c) ∧ CA w' A xs ∧ xs.length ≤ c ∧ xs.map Cn.chg = diffC a b ∧ (∀ x ∈ xs, x.v.length ≤ 1000) ∧ Below w.heap.size w w'
  undo : ∀ (w : World) (n : Int) (T : Tv) (l : List Ent) (A : Option Addr) (cA : Nat) (xs : List Cn), M w n T → IsMap l T → Asc l → l.length ≤ 100 → CA w A xs → xs.length ≤ 50 → (∀ x ∈ xs, x.v.length ≤ 1000) →
    Calls Tryz.prog 23 #[T.val, .slice A xs.length cA] w fun x w' =>
      (chkK (xs.map Cn.k) = 0 → ∃ (A' : Option Addr) (c : Nat) (ys : List Cn), x = .returned (.tuple #[.slice A' ys.length c, .int .i64 0]) ∧ CA w' A' ys ∧ ys.length ≤ c ∧ ys.map Cn.chg = diffC (appC l (xs.map Cn.chg)) l ∧ (∀ y ∈ ys, y.v.length ≤ 1000) ∧ Below w.heap.size w w') ∧
      (chkK (xs.map Cn.k) ≠ 0 → ∃ (A' : Option Addr) (c : Nat), x = .returned (.tuple #[.slice A' 0 c, .int .i64 (chkK (xs.map Cn.k))]) ∧ Below w.heap.size w w')
end Go.Proofs.YtaajnjddfcdeaaaGreatDoor

/- Constants of layer 12's alive. -/
namespace Go.Proofs.YtaajnjddfcdeaaaGreatDoor
open Go.RowKit

def k1 : List UInt8 := 1 :: List.replicate 31 0
def k2 : List UInt8 := 2 :: List.replicate 31 0
def k3 : List UInt8 := 3 :: List.replicate 31 0
def e12a : En := ⟨k1, none, [], 0⟩
def e12b : En := ⟨k2, none, [], 0⟩
def c12a : Cn := ⟨k1, none, [], 0, true⟩
def c12b : Cn := ⟨k3, none, [], 0, false⟩
theorem bldKey12_1 (w : World) : bldA 31 w #[(0, .int .u8 1)] = .ok (.value (.agg (bA k1))) w := by kernel_rfl
theorem bldKey12_2 (w : World) : bldA 31 w #[(0, .int .u8 2)] = .ok (.value (.agg (bA k2))) w := by kernel_rfl
theorem bldKey12_3 (w : World) : bldA 31 w #[(0, .int .u8 3)] = .ok (.value (.agg (bA k3))) w := by kernel_rfl
theorem bldEnt12_1 (w : World) : bldA 34 w #[(0, .agg (bA k1))] = .ok (.value (.agg (enC e12a).toArray)) w := by kernel_rfl
theorem bldEnt12_2 (w : World) : bldA 34 w #[(0, .agg (bA k2))] = .ok (.value (.agg (enC e12b).toArray)) w := by kernel_rfl
theorem bldChg12_1 (w : World) : bldA 69 w #[(0, .agg (bA k1)), (2, .bool true)] = .ok (.value (.agg (cnC c12a).toArray)) w := by kernel_rfl
theorem bldChg12_3 (w : World) : bldA 69 w #[(0, .agg (bA k3))] = .ok (.value (.agg (cnC c12b).toArray)) w := by kernel_rfl
theorem bsE12_ab (w : World) : bsE w 2 #[(0, .agg (enC e12a).toArray), (1, .agg (enC e12b).toArray)] = .ok (.value (.slice (some ⟨w.heap.size, 0, none⟩) 2 2)) (w.alloc (.cells ([e12a, e12b].flatMap enC).toArray 34)) := by kernel_rfl
theorem bsE12_ba (w : World) : bsE w 2 #[(0, .agg (enC e12b).toArray), (1, .agg (enC e12a).toArray)] = .ok (.value (.slice (some ⟨w.heap.size, 0, none⟩) 2 2)) (w.alloc (.cells ([e12b, e12a].flatMap enC).toArray 34)) := by kernel_rfl
theorem bsC12 (w : World) : bsC 47 w 2 #[(0, .agg (cnC c12a).toArray), (1, .agg (cnC c12b).toArray)] = .ok (.value (.slice (some ⟨w.heap.size, 0, none⟩) 2 2)) (w.alloc (.cells ([c12a, c12b].flatMap cnC).toArray 69)) := by kernel_rfl
theorem flat_ea12 (w : World) (es : List En) (h : ∀ e ∈ es, EnOk w e) (t : TypeId) : EA (w.alloc (.cells (es.flatMap enC).toArray t)) (some ⟨w.heap.size, 0, none⟩) es := fun i e hi => by
  have hb : Below w.heap.size w (w.alloc (.cells (es.flatMap enC).toArray t)) := (Below.refl _ _).alloc (Nat.le_refl _) _
  refine ⟨(h e (List.mem_of_getElem? hi)).below hb, _, _, rfl, fun j v hv => ?_⟩
  rw [Nat.zero_add, cell_of_cells (heap_alloc_new w _)]
  simp only [List.getElem?_toArray]
  exact flat_at (fun e he => (h e he).key) hi hv
theorem flat_ca12 (w : World) (xs : List Cn) (h : ∀ x ∈ xs, CnOk w x) (t : TypeId) : CA (w.alloc (.cells (xs.flatMap cnC).toArray t)) (some ⟨w.heap.size, 0, none⟩) xs := fun i e hi => by
  have hb : Below w.heap.size w (w.alloc (.cells (xs.flatMap cnC).toArray t)) := (Below.refl _ _).alloc (Nat.le_refl _) _
  refine ⟨(h e (List.mem_of_getElem? hi)).below hb, _, _, rfl, fun j v hv => ?_⟩
  rw [Nat.zero_add, cell_of_cells (heap_alloc_new w _)]
  simp only [List.getElem?_toArray]
  exact flatC_at (fun e he => (h e he).key) hi hv
theorem ok12_e (w : World) : ∀ e ∈ [e12a, e12b], EnOk w e := fun e he => by
  rcases List.mem_cons.1 he with rfl | he
  · exact ⟨rfl, Nat.le_refl 0, fun j x h => by simp [e12a] at h⟩
  · rw [List.mem_singleton.1 he]; exact ⟨rfl, Nat.le_refl 0, fun j x h => by simp [e12b] at h⟩
theorem ok12_r (w : World) : ∀ e ∈ [e12b, e12a], EnOk w e := fun e he => by
  rcases List.mem_cons.1 he with rfl | he
  · exact ⟨rfl, Nat.le_refl 0, fun j x h => by simp [e12b] at h⟩
  · rw [List.mem_singleton.1 he]; exact ⟨rfl, Nat.le_refl 0, fun j x h => by simp [e12a] at h⟩
theorem ok12_c (w : World) : ∀ e ∈ [c12a, c12b], CnOk w e := fun e he => by
  rcases List.mem_cons.1 he with rfl | he
  · exact ⟨rfl, Nat.le_refl 0, fun j x h => by simp [c12a] at h⟩
  · rw [List.mem_singleton.1 he]; exact ⟨rfl, Nat.le_refl 0, fun j x h => by simp [c12b] at h⟩
theorem len12_e : ∀ e ∈ [e12a, e12b], e.v.length ≤ 1000 := fun e he => by
  rcases List.mem_cons.1 he with rfl | he
  · exact (show 0 ≤ 1000 by decide)
  · rw [List.mem_singleton.1 he]; exact (show 0 ≤ 1000 by decide)
theorem len12_r : ∀ e ∈ [e12b, e12a], e.v.length ≤ 1000 := fun e he => by
  rcases List.mem_cons.1 he with rfl | he
  · exact (show 0 ≤ 1000 by decide)
  · rw [List.mem_singleton.1 he]; exact (show 0 ≤ 1000 by decide)
theorem len12_c : ∀ e ∈ [c12a, c12b], e.v.length ≤ 1000 := fun e he => by
  rcases List.mem_cons.1 he with rfl | he
  · exact (show 0 ≤ 1000 by decide)
  · rw [List.mem_singleton.1 he]; exact (show 0 ≤ 1000 by decide)
theorem chk12_ab : chkK ([e12a, e12b].map En.k) = 0 := by decide +kernel
theorem chk12_ba : chkK ([e12b, e12a].map En.k) = 8 := by decide +kernel
theorem chk12_c : chkK ([c12a, c12b].map Cn.k) = 0 := by decide +kernel
def E12a : Ent := ⟨k1, []⟩
def E12b : Ent := ⟨k2, []⟩
def E12c : Ent := ⟨k3, []⟩
theorem app12 : appC ([e12a, e12b].map En.ent) ([c12a, c12b].map Cn.chg) = [E12b, E12c] := by kernel_rfl
theorem diff12 : diffC [E12a, E12b] [E12b, E12c] = [⟨k1, [], true⟩, ⟨k3, [], false⟩] := by kernel_rfl
theorem asc12_ab : Asc [E12a, E12b] := asc_keys (chk_asc _ (fun k hk => by
  rcases List.mem_cons.1 hk with rfl | hk
  · rfl
  · rw [List.mem_singleton.1 hk]; rfl) (show chkK [k1, k2] = 0 by decide +kernel))
theorem asc12_bc : Asc [E12b, E12c] := asc_keys (chk_asc _ (fun k hk => by
  rcases List.mem_cons.1 hk with rfl | hk
  · rfl
  · rw [List.mem_singleton.1 hk]; rfl) (show chkK [k2, k3] = 0 by decide +kernel))
theorem map12 (xs : List Cn) (h : xs.map Cn.chg = [⟨k1, [], true⟩, ⟨k3, [], false⟩]) : ∃ a b : Cn, xs = [a, b] ∧ a.k = k1 ∧ a.d = true ∧ b.k = k3 ∧ b.d = false := by
  match xs, h with
  | [], h => simp at h
  | [_], h => simp at h
  | _ :: _ :: _ :: _, h => simp at h
  | [a, b], h =>
    simp only [List.map_cons, List.map_nil, List.cons.injEq, and_true] at h
    obtain ⟨h1, h2⟩ := h
    exact ⟨a, b, rfl, congrArg Chg.k h1, congrArg Chg.d h1, congrArg Chg.k h2, congrArg Chg.d h2⟩
end Go.Proofs.YtaajnjddfcdeaaaGreatDoor

/- alive of layer 12 over contracts. -/
namespace Go.Proofs.YtaajnjddfcdeaaaGreatDoor
open Go.RowKit

set_option maxHeartbeats 16000000 in
set_option maxRecDepth 100000 in
theorem alive12_c {M : World → Int → Tv → Prop} (nd : NdV M) (ba : BaV M) (w : World) (hvx : Vars w) : Calls Tryz.prog 10 #[] w (Aye w) := by
  have HVX := Lib.hid hvx
  have HH := Lib.hid (hash_in 256 w (by decide) (by decide))
  clear hvx
  go_enter Tryz.func10, Tryz.ntmps10
  go_wp2_with fail
  refine HH.out.mono ?_
  rintro _ w1 ⟨b, rfl, hb, hH, hB⟩
  have HN1 := Lib.hid hb
  have b1 := bldKey12_1
  have b2 := bldKey12_2
  have b3 := bldKey12_3
  have b4 := bldEnt12_1
  have b5 := bldEnt12_2
  have b6 := bldChg12_1
  have b7 := bldChg12_3
  have s1 := bsE12_ab
  have s2 := bsE12_ba
  have s3 := bsC12
  obtain ⟨es, hes⟩ : ∃ es, es = [e12a, e12b] := ⟨_, rfl⟩
  obtain ⟨rs, hrs⟩ : ∃ rs, rs = [e12b, e12a] := ⟨_, rfl⟩
  obtain ⟨cs, hcs⟩ : ∃ cs, cs = [c12a, c12b] := ⟨_, rfl⟩
  obtain ⟨ec, hec⟩ : ∃ ec : List Value, ec = es.flatMap enC := ⟨_, rfl⟩
  obtain ⟨rc, hrc⟩ : ∃ rc : List Value, rc = rs.flatMap enC := ⟨_, rfl⟩
  obtain ⟨cc, hcc⟩ : ∃ cc : List Value, cc = cs.flatMap cnC := ⟨_, rfl⟩
  rw [← hes, ← hec] at s1
  rw [← hrs, ← hrc] at s2
  rw [← hcs, ← hcc] at s3
  obtain ⟨Y1, hY1⟩ : ∃ Y, Y = w1.alloc (.cells ec.toArray 34) := ⟨_, rfl⟩
  have hb1 : Below w1.heap.size w1 Y1 := by rw [hY1]; exact (Below.refl _ _).alloc (Nat.le_refl _) _
  have hEA : EA Y1 (some ⟨w1.heap.size, 0, none⟩) es := by rw [hY1, hec]; exact flat_ea12 w1 es (by rw [hes]; exact ok12_e w1) _
  have HH1 := Lib.hid (hH.keep (Keep.of_below (L := fun _ => False) hb1) fun h => h)
  have HV1 := Lib.hid ((HVX.out.below hB).below hb1)
  have HB1 := Lib.hid (hB.trans (hb1.mono hB.size))
  have hln : es.length = 2 := by rw [hes]; rfl
  have HBU := Lib.hid (ba.build Y1 b 256 0 (some ⟨w1.heap.size, 0, none⟩) 2 es HH1.out (by decide) HV1.out hEA (by rw [hln]; decide) (by rw [hes]; exact len12_e))
  rw [hln] at HBU
  unfold ptr at HBU ⊢
  have HES := Lib.hid hes
  have HRS := Lib.hid hrs
  have HCS := Lib.hid hcs
  have HRC := Lib.hid hrc
  have HCC := Lib.hid hcc
  have HY1 := Lib.hid hY1
  clear hb hH hB HH HVX hes hrs hcs hec hrc hcc hY1 hb1 hEA hln
  go_wp2_with fail
  rw [← HY1.out]
  clear HY1
  refine HBU.out.mono ?_
  rintro _ w2 ⟨h, _⟩
  obtain ⟨T1, rfl, hI1, hm1⟩ := h (by rw [HES.out]; exact chk12_ab)
  clear h
  obtain ⟨c1, hc1, hh1⟩ := hm1.hs
  obtain ⟨p1, hp1⟩ := val_ptr nd hm1.ms
  have HP1 := Lib.hid hp1
  have HI1 : Hid (IsMap [E12a, E12b] T1) := by rw [HES.out] at hI1; exact hI1
  have HM1 := Lib.hid hm1.ms
  have HKP1 := Lib.hid hm1.keep
  obtain ⟨Y2, hY2⟩ : ∃ Y, Y = w2.alloc (.cells cc.toArray 69) := ⟨_, rfl⟩
  have hb2 : Below w2.heap.size w2 Y2 := by rw [hY2]; exact (Below.refl _ _).alloc (Nat.le_refl _) _
  have hCA : CA Y2 (some ⟨w2.heap.size, 0, none⟩) cs := by rw [hY2, HCC.out]; exact flat_ca12 w2 cs (by rw [HCS.out]; exact ok12_c w2) _
  have HH2 := Lib.hid (hh1.keep (Keep.of_below (L := fun _ => False) hb2) fun h => h)
  have HV2 := Lib.hid ((HV1.out.hs HH1.out HKP1.out).below hb2)
  have hln : cs.length = 2 := by rw [HCS.out]; rfl
  have HAP := Lib.hid (ba.apply Y2 b 256 c1 [E12a, E12b] T1 (some ⟨w2.heap.size, 0, none⟩) 2 cs HH2.out (by omega) HV2.out (nd.below hm1.ms hb2) HI1.out (by decide) hCA (by rw [hln]; decide) (by rw [hln]; decide) (by rw [HCS.out]; exact len12_c))
  rw [hln, hp1] at HAP
  rw [hp1]
  unfold ptr at HAP
  have HC1 : Hid (c1 ≤ 90000) := by show _ ≤ _; omega
  have HB2 := Lib.hid hb2
  have HY2 := Lib.hid hY2
  clear hI1 hm1 hc1 hh1 hp1 hY2 hb2 hCA hln HBU
  go_wp2_with fail
  rw [← HY2.out]
  clear HY2
  refine HAP.out.mono ?_
  rintro _ w3 ⟨h, _⟩
  obtain ⟨T2, rfl, hI2, hm2⟩ := h (by rw [HCS.out]; exact chk12_c)
  clear h
  obtain ⟨c2, hc2, hh2⟩ := hm2.hs
  obtain ⟨p2, hp2⟩ := val_ptr nd hm2.ms
  have HP2 := Lib.hid hp2
  have HI2 : Hid (IsMap [E12b, E12c] T2) := by
    have h2 := hI2
    rw [HCS.out] at h2
    have h3 : appC [E12a, E12b] ([c12a, c12b].map Cn.chg) = [E12b, E12c] := app12
    rwa [h3] at h2
  have HM13 := Lib.hid (nd.hs (nd.below HM1.out HB2.out) HH2.out hm2.keep)
  have HM2 := Lib.hid hm2.ms
  have HKP2 := Lib.hid hm2.keep
  obtain ⟨Y3, hY3⟩ : ∃ Y, Y = w3.alloc (.cells rc.toArray 34) := ⟨_, rfl⟩
  have hb3 : Below w3.heap.size w3 Y3 := by rw [hY3]; exact (Below.refl _ _).alloc (Nat.le_refl _) _
  have hEA : EA Y3 (some ⟨w3.heap.size, 0, none⟩) rs := by rw [hY3, HRC.out]; exact flat_ea12 w3 rs (by rw [HRS.out]; exact ok12_r w3) _
  have HH3 := Lib.hid (hh2.keep (Keep.of_below (L := fun _ => False) hb3) fun h => h)
  have HV3 := Lib.hid ((HV2.out.hs HH2.out HKP2.out).below hb3)
  have hln : rs.length = 2 := by rw [HRS.out]; rfl
  have HBR := Lib.hid (ba.build Y3 b 256 c2 (some ⟨w3.heap.size, 0, none⟩) 2 rs HH3.out (by have := HC1.out; omega) HV3.out hEA (by rw [hln]; decide) (by rw [HRS.out]; exact len12_r))
  rw [hln] at HBR
  rw [hp2]
  unfold ptr at HBR
  have HB3 := Lib.hid hb3
  have HY3 := Lib.hid hY3
  clear hI2 hm2 hc2 hh2 hp2 hY3 hb3 hEA hln HAP
  go_wp2_with fail
  rw [← HY3.out]
  clear HY3
  refine HBR.out.mono ?_
  rintro _ w4 ⟨_, h⟩
  have hck : chkK (rs.map En.k) = 8 := by rw [HRS.out]; exact chk12_ba
  obtain ⟨rfl, hrf⟩ := h (by rw [hck]; decide)
  clear h
  rw [hck]
  have HM14 := Lib.hid (nd.hs (nd.below HM13.out HB3.out) HH3.out hrf.keep)
  have HM24 := Lib.hid (nd.hs (nd.below HM2.out HB3.out) HH3.out hrf.keep)
  have HB4 : Hid (Below w.heap.size w w4) := by
    have h1 := HB1.out.size
    have h2 := HN1.out
    have k1 : Below w.heap.size w w2 := HB1.out.trans (HKP1.out.below h1 fun i hi => by have e : i = b := hi; omega)
    have k2 : Below w.heap.size w Y2 := k1.trans (HB2.out.mono k1.size)
    have k3 : Below w.heap.size w w3 := k2.trans (HKP2.out.below k2.size fun i hi => by have e : i = b := hi; omega)
    have k4 : Below w.heap.size w Y3 := k3.trans (HB3.out.mono k3.size)
    exact k4.trans (hrf.keep.below k4.size fun i hi => by have e : i = b := hi; omega)
  have HDF := Lib.hid (ba.diff w4 256 T1 T2 [E12a, E12b] [E12b, E12c] HM14.out HM24.out HI1.out HI2.out asc12_ab asc12_bc (by decide) (by decide))
  rw [HP1.out, HP2.out] at HDF
  clear hrf hck HBR
  go_wp2_with fail
  refine HDF.out.mono ?_
  rintro _ w5 ⟨A5, c5, xs, rfl, hca, hcl, hxs, _, hB5⟩
  clear hcl
  rw [diff12] at hxs
  obtain ⟨x, y, rfl, hx1, hx2, hy1, hy2⟩ := map12 xs hxs
  obtain ⟨hokx, g, o, rfl, hrx⟩ := hca 0 x rfl
  obtain ⟨hoky, g2, o2, hA2, hry⟩ := hca 1 y rfl
  cases hA2
  have HRX := Lib.hid hrx
  have HRY := Lib.hid hry
  have HKX := Lib.hid hokx.key
  have HKY := Lib.hid hoky.key
  have HX1 := Lib.hid hx1
  have HX2 := Lib.hid hx2
  have HY1 := Lib.hid hy1
  have HY2 := Lib.hid hy2
  have HB5 := Lib.hid (HB4.out.trans (hB5.mono HB4.out.size))
  have HL1 := Lib.hid (nd.len w5 256 T1 (nd.below HM14.out hB5) (by rw [HI1.out.len]; decide))
  have HL2 := Lib.hid (fun y (hy : Below w5.heap.size w5 y) => nd.len y 256 T2 (nd.below (nd.below HM24.out hB5) hy) (by rw [HI2.out.len]; decide))
  rw [HI1.out.len, HP1.out] at HL1
  rw [HI2.out.len, HP2.out] at HL2
  clear hca hxs hx1 hx2 hy1 hy2 hrx hry hokx hoky hB5 HDF
  go_wp2_with fail
  refine HL1.out.mono ?_
  rintro _ w6 ⟨rfl, hB6⟩
  have HB6 := Lib.hid hB6
  clear hB6 HL1
  go_wp2_with fail
  refine (HL2.out w6 HB6.out).mono ?_
  rintro _ w7 ⟨rfl, hB7⟩
  have HB7 := Lib.hid (HB6.out.trans (hB7.mono HB6.out.size))
  have hrx := range_below HRX.out HB7.out
  have hry := range_below HRY.out HB7.out
  rw [Nat.zero_mul, Nat.add_zero] at hrx
  rw [Nat.one_mul] at hry
  have l1 : ldA 31 w7 (.pointer (some ⟨g, o, none⟩)) = .ok (.value (.agg (bA k1))) w7 := by rw [← HX1.out]; exact range_ckey hrx HKX.out
  have l2 : w7.cell? ⟨g, o + 33, none⟩ = some (.bool true) := by rw [← HX2.out]; exact range_cdel hrx HKX.out
  have l3 : ldA 31 w7 (.pointer (some ⟨g, o + 34, none⟩)) = .ok (.value (.agg (bA k3))) w7 := by rw [← HY1.out]; exact range_ckey hry HKY.out
  have l4 : w7.cell? ⟨g, o + 67, none⟩ = some (.bool false) := by rw [← HY2.out]; exact range_cdel hry HKY.out
  have l5 : w7.cell? ⟨g, o + 34 + 33, none⟩ = some (.bool false) := l4
  have q1 : ∀ o p w, eqA .eql 31 o p w (.agg (bA k1)) (.agg (bA k1)) = .ok (.value (.bool true)) w := fun o p w => by rw [eqKey k1 k1 rfl rfl, decide_eq_true rfl]
  have q3 : ∀ o p w, eqA .eql 31 o p w (.agg (bA k3)) (.agg (bA k3)) = .ok (.value (.bool true)) w := fun o p w => by rw [eqKey k3 k3 rfl rfl, decide_eq_true rfl]
  clear hB7 HL2 hrx hry
  go_wp2_with fail
  go_ret
  exact ⟨rfl, HB5.out.trans (HB7.out.mono HB5.out.size)⟩
end Go.Proofs.YtaajnjddfcdeaaaGreatDoor

/- The walk of BatchApplies over contracts. -/
namespace Go.Proofs.YtaajnjddfcdeaaaGreatDoor
open Go.RowKit

theorem few12_len {xs : List Cn} (h : fewC (xs.map Cn.chg) = true) : xs.length ≤ 20 ∧ ∀ x ∈ xs, x.v.length ≤ 1000 := by
  unfold fewC at h
  rw [Bool.and_eq_true, List.length_map] at h
  refine ⟨of_decide_eq_true h.1, fun x hx => ?_⟩
  have h1 := List.all_eq_true.1 h.2 x.chg (List.mem_map.2 ⟨x, hx, rfl⟩)
  have h2 : x.v.length ≤ 200 := of_decide_eq_true h1
  omega
set_option maxHeartbeats 16000000 in
set_option maxRecDepth 100000 in
theorem applies_in {M : World → Int → Tv → Prop} (nd : NdV M) (fv : FnV M) (ba : BaV M) (n : Int) (A : Option Addr) (c : Nat) (es : List En) (B : Option Addr) (cB : Nat) (xs : List Cn) (W : World) (hA : EA W A es) (hl : es.length ≤ 12) (hvl : ∀ e ∈ es, e.v.length ≤ 1000) (hf : fewK (es.map En.ent) = true) (hvx : Vars W) (h0 : 0 ≤ n) (h1 : n ≤ 256) (hX : CA W B xs) (hfc : fewC (xs.map Cn.chg) = true) :
    Calls Tryz.prog 4 #[.int .i64 n, .slice A es.length c, .slice B xs.length cB] W (Aye W) := by
  have HT := Lib.hid (tree_in nd n A c es W hA hl hvl hf hvx h0 h1)
  have HVE : Hid (∀ e ∈ ofE es, e.v.length ≤ 1000) := fun e he => hvl e (ofE_mem he)
  have HLE : Hid ((ofE es).length ≤ 12) := Nat.le_trans (ofE_len es) hl
  have HX := Lib.hid hX
  have HXL := Lib.hid (few12_len hfc).1
  have HXV := Lib.hid (few12_len hfc).2
  have HFC := Lib.hid hfc
  have HAL : Hid (∀ w, Vars w → Calls Tryz.prog 10 #[] w fun e w' => e = .returned (.bool true) ∧ Below w.heap.size w w') := fun w h => alive12_c nd ba w h
  clear hA hvl hf hvx hX hfc
  go_enter Tryz.func4, Tryz.ntmps4
  go_wp2_with fail
  refine HT.out.mono ?_
  rintro _ w2 ⟨A2, c2, T, rfl, hc2, hI, hF⟩
  have HI := Lib.hid hI
  have HF2 := Lib.hid hF
  obtain ⟨O, hO⟩ : ∃ O, O = ofE es := ⟨_, rfl⟩
  rw [← hO] at HI HF2 HVE HLE ⊢
  obtain ⟨pT, hpT⟩ := val_ptr nd hF.ms
  have HPT := Lib.hid hpT
  rw [hpT]
  have HH := Lib.hid (hash_in n w2 h0 h1)
  clear hc2 hI hF HT hO hpT
  go_wp2_with fail
  refine HH.out.mono ?_
  rintro _ w3 ⟨b, rfl, hbn, hH, hB⟩
  have HQ3 : Hid (Tf M W n A2 O T b 0 w3) := ⟨HF2.out.below nd hB, ⟨0, Nat.le_refl _, hH⟩, Nat.le_trans HF2.out.bel.size hbn⟩
  have HX3 := Lib.hid (HX.out.below HQ3.out.fs.bel)
  have HFW := Lib.hid (few12_c B cB xs w3 HX3.out)
  rw [HFC.out] at HFW
  clear hH hbn hB HH HF2
  unfold ptr
  go_wp2_with fail
  refine HFW.out.mono ?_
  rintro _ _ ⟨rfl, rfl⟩
  have HCH := Lib.hid (changes_c B cB xs w3 HX3.out (by have := HXL.out; omega))
  clear HFW
  go_wp2_with fail
  refine HCH.out.mono ?_
  rintro _ w4 ⟨A4, c4, rfl, hca, hcl, hB⟩
  have HQ4 := Lib.hid (HQ3.out.below nd hB)
  obtain ⟨m4, hm4, hh4⟩ := HQ4.out.hs
  have HAP := Lib.hid (ba.apply w4 b n m4 (O.map En.ent) T A4 c4 xs hh4 (by omega) HQ4.out.fs.vars HQ4.out.fs.ms HI.out (by rw [List.length_map]; have := HLE.out; omega) hca hcl (by have := HXL.out; omega) HXV.out)
  rw [HPT.out] at HAP
  unfold ptr at HAP
  have HM4 : Hid (m4 ≤ 0) := hm4
  clear hca hcl hB hm4 hh4 HCH HQ3
  go_wp2_with fail
  refine HAP.out.mono ?_
  rintro x w5 ⟨hy, hn⟩
  obtain ⟨ck, hck⟩ : ∃ ck, ck = chkK (xs.map Cn.k) := ⟨_, rfl⟩
  rw [← hck] at hy hn
  by_cases h0 : ck = 0
  · obtain ⟨T', rfl, hI', hm⟩ := hy h0
    have HI' := Lib.hid hI'
    have HM5 := Lib.hid hm.ms
    have HQ5 : Hid (Tf M W n A2 O T b 90000 w5) := HQ4.out.made nd hm.keep (by obtain ⟨c5, h5, h6⟩ := hm.hs; exact ⟨c5, by have := HM4.out; omega, h6⟩)
    obtain ⟨pN, hpN⟩ := val_ptr nd hm.ms
    rw [hpN]
    have HPN := Lib.hid hpN
    have HCK := Lib.hid (check12_c B cB xs w5 (HX.out.below HQ5.out.fs.bel) (by have := HXL.out; omega))
    rw [← hck, h0] at HCK
    clear hy hn hI' hm hpN hck h0 HAP HQ4
    go_wp2_with fail
    refine HCK.out.mono ?_
    rintro _ w6 ⟨rfl, hB⟩
    have HQ6 := Lib.hid (HQ5.out.below nd hB)
    have HM6 := Lib.hid (nd.below HM5.out hB)
    clear hB HCK HQ5 HM5
    go_wp2_with fail
    refine (HAL.out w6 HQ6.out.fs.vars).mono ?_
    rintro _ w7 ⟨rfl, hB⟩
    have HQ7 := Lib.hid (HQ6.out.below nd hB)
    have HM7 := Lib.hid (nd.below HM6.out hB)
    have HRA := Lib.hid (apply12_c A2 c2 O B cB xs w7 HQ7.out.fs.ea (HX.out.below HQ7.out.fs.bel) (by have := HLE.out; omega) (by have := HXL.out; omega) HVE.out HXV.out)
    clear hB HQ6 HM6
    go_wp2_with fail
    refine HRA.out.mono ?_
    rintro _ w8 ⟨A8, c8, fs, rfl, hE8, hmap, hv8, hl8, hB⟩
    have HQ8 := Lib.hid (HQ7.out.below nd hB)
    have HM8 := Lib.hid (nd.below HM7.out hB)
    obtain ⟨m8, hm8, hh8⟩ := HQ8.out.hs
    have HIS := Lib.hid (is_c nd fv w8 b n m8 T' A8 c8 fs hh8 (by omega) HQ8.out.fs.vars HM8.out (by rw [hmap]; exact HI'.out) hE8 (by have := HLE.out; have := HXL.out; omega) hv8)
    rw [HPN.out] at HIS
    unfold ptr at HIS
    have HML8 : Hid (m8 ≤ 90000) := hm8
    clear hE8 hmap hv8 hl8 hB hm8 hh8 HRA HQ7 HM7
    go_wp2_with fail
    refine HIS.out.mono ?_
    rintro _ w9 ⟨rfl, c9, hc9, hh9, hk9⟩
    have HQ9 := Lib.hid (HQ8.out.made nd hk9 ⟨c9, Nat.le_refl _, hh9⟩)
    have HC9 : Hid (c9 ≤ 90001) := by show _ ≤ _; have := HML8.out; omega
    have HIS2 := Lib.hid (is_c nd fv w9 b n c9 T A2 c2 O hh9 (by have := HC9.out; omega) HQ9.out.fs.vars HQ9.out.fs.ms HI.out HQ9.out.fs.ea (by have := HLE.out; omega) HVE.out)
    rw [HPT.out] at HIS2
    unfold ptr at HIS2
    clear hc9 hh9 hk9 HIS HQ8 HM8
    go_wp2_with fail
    refine HIS2.out.mono ?_
    rintro _ w10 ⟨rfl, c10, hc10, hh10, hk10⟩
    have HQ10 := Lib.hid (HQ9.out.made nd hk10 ⟨c10, Nat.le_refl _, hh10⟩)
    clear hc10 hh10 hk10 HIS2 HQ9
    go_wp2_with fail
    go_ret
    exact ⟨rfl, HQ10.out.fs.bel⟩
  · obtain ⟨rfl, hrf⟩ := hn h0
    have HQ5 : Hid (Tf M W n A2 O T b 90000 w5) := HQ4.out.made nd hrf.keep (by obtain ⟨c5, h5, h6⟩ := hrf.hs; exact ⟨c5, by have := HM4.out; omega, h6⟩)
    have HCK := Lib.hid (check12_c B cB xs w5 (HX.out.below HQ5.out.fs.bel) (by have := HXL.out; omega))
    rw [← hck] at HCK
    have bn : (ck != 0) = true := by simpa using h0
    have be : (ck == ck) = true := beq_self_eq_true ck
    clear hy hn hrf hck h0 HAP HQ4
    go_wp2_with fail
    refine HCK.out.mono ?_
    rintro _ w6 ⟨rfl, hB⟩
    have HQ6 := Lib.hid (HQ5.out.below nd hB)
    clear hB HCK HQ5
    go_wp2_with fail
    refine (HAL.out w6 HQ6.out.fs.vars).mono ?_
    rintro _ w7 ⟨rfl, hB⟩
    have HQ7 := Lib.hid (HQ6.out.below nd hB)
    clear hB HQ6
    go_wp2_with fail
    go_ret
    exact ⟨rfl, HQ7.out.fs.bel⟩
end Go.Proofs.YtaajnjddfcdeaaaGreatDoor

/- BatchApplies and BatchUndoes: the cases that say 'alive' only; changes beside a hasher. -/
namespace Go.Proofs.YtaajnjddfcdeaaaGreatDoor
open Go.RowKit

theorem Hs.ca {w w' : World} {b : Nat} {n : Int} {c : Nat} {A : Option Addr} {xs : List Cn} (h : Hs w b n c) (hA : CA w A xs) (k : Keep (fun i => i = b) w w') : CA w' A xs := fun i x hi => by
  obtain ⟨h1, g, o, rfl, h3⟩ := hA i x hi
  have hg : g ≠ b := by
    rintro rfl
    have h2 := h3 0 (bv (x.k.getD 0 0)) (by
      unfold cnC
      rw [List.getElem?_append_left (by rw [List.length_map, h1.key]; decide), List.getElem?_map, List.getD_eq_getElem?_getD, List.getElem?_eq_getElem (by have := h1.key; omega)]
      rfl)
    rw [cell_of_cells h, Nat.add_zero] at h2
    generalize o + i * 34 = q at h2
    match q, h2 with
    | 0, h2 => cases h2
    | 1, h2 => cases h2
    | q + 2, h2 => simp at h2
  exact ⟨⟨h1.key, h1.cap, h.ba h1.val k⟩, g, o, rfl, fun j v hv => k.cellAt (h3 j v hv) hg⟩
set_option maxHeartbeats 16000000 in
set_option maxRecDepth 100000 in
/-- Other bits, or entries that are not few: alive. -/
theorem applies_out {M : World → Int → Tv → Prop} (nd : NdV M) (ba : BaV M) (n : Int) (A : Option Addr) (c : Nat) (es : List En) (B : Option Addr) (cB : Nat) (xs : List Cn) (W : World) (hA : EA W A es) (hvx : Vars W) (h : (n < 0 ∨ 256 < n) ∨ fewK (es.map En.ent) = false) :
    Calls Tryz.prog 4 #[.int .i64 n, .slice A es.length c, .slice B xs.length cB] W (Aye W) := by
  have HVX := Lib.hid hvx
  have HT := Lib.hid (tree_out n A c es W hA h)
  have HAL : Hid (∀ w, Vars w → Calls Tryz.prog 10 #[] w fun e w' => e = .returned (.bool true) ∧ Below w.heap.size w w') := fun w h => alive12_c nd ba w h
  clear hA hvx h
  go_enter Tryz.func4, Tryz.ntmps4
  go_wp2_with fail
  refine HT.out.mono ?_
  rintro _ w2 ⟨rfl, hB⟩
  have HB := Lib.hid hB
  clear hB HT
  go_wp2_with fail
  refine (hash_any n w2).mono ?_
  rintro _ w3 ⟨p, rfl, hB⟩
  have HB3 := Lib.hid (HB.out.trans (hB.mono HB.out.size))
  clear hB HB
  go_wp2_with fail
  refine (HAL.out w3 (HVX.out.below HB3.out)).mono ?_
  rintro _ w4 ⟨rfl, hB⟩
  have HB4 := Lib.hid (HB3.out.trans (hB.mono HB3.out.size))
  clear hB
  go_wp2_with fail
  go_ret
  exact ⟨rfl, HB4.out⟩
set_option maxHeartbeats 16000000 in
set_option maxRecDepth 100000 in
/-- Changes that are not few: alive. -/
theorem applies_many {M : World → Int → Tv → Prop} (nd : NdV M) (ba : BaV M) (n : Int) (A : Option Addr) (c : Nat) (es : List En) (B : Option Addr) (cB : Nat) (xs : List Cn) (W : World) (hA : EA W A es) (hl : es.length ≤ 12) (hvl : ∀ e ∈ es, e.v.length ≤ 1000) (hf : fewK (es.map En.ent) = true) (hvx : Vars W) (h0 : 0 ≤ n) (h1 : n ≤ 256) (hX : CA W B xs) (hfc : fewC (xs.map Cn.chg) = false) :
    Calls Tryz.prog 4 #[.int .i64 n, .slice A es.length c, .slice B xs.length cB] W (Aye W) := by
  have HT := Lib.hid (tree_in nd n A c es W hA hl hvl hf hvx h0 h1)
  have HX := Lib.hid hX
  have HFC := Lib.hid hfc
  have HAL : Hid (∀ w, Vars w → Calls Tryz.prog 10 #[] w fun e w' => e = .returned (.bool true) ∧ Below w.heap.size w w') := fun w h => alive12_c nd ba w h
  clear hA hvl hf hvx hX hfc
  go_enter Tryz.func4, Tryz.ntmps4
  go_wp2_with fail
  refine HT.out.mono ?_
  rintro _ w2 ⟨A2, c2, T, rfl, hc2, hI, hF⟩
  obtain ⟨pT, hpT⟩ := val_ptr nd hF.ms
  rw [hpT]
  obtain ⟨O, hO⟩ : ∃ O, O = ofE es := ⟨_, rfl⟩
  rw [← hO]
  have HH := Lib.hid (hash_in n w2 h0 h1)
  have HB2 := Lib.hid hF.bel
  have HV2 := Lib.hid hF.vars
  clear hc2 hI hF HT hpT hO
  go_wp2_with fail
  refine HH.out.mono ?_
  rintro _ w3 ⟨b, rfl, hbn, hH, hB⟩
  have HB3 := Lib.hid (HB2.out.trans (hB.mono HB2.out.size))
  have HV3 := Lib.hid (HV2.out.below hB)
  have HFW := Lib.hid (few12_c B cB xs w3 (HX.out.below HB3.out))
  rw [HFC.out] at HFW
  clear hH hbn hB HH
  unfold ptr
  go_wp2_with fail
  refine HFW.out.mono ?_
  rintro _ _ ⟨rfl, rfl⟩
  clear HFW
  go_wp2_with fail
  refine (HAL.out w3 HV3.out).mono ?_
  rintro _ w4 ⟨rfl, hB⟩
  have HB4 := Lib.hid (HB3.out.trans (hB.mono HB3.out.size))
  clear hB
  go_wp2_with fail
  go_ret
  exact ⟨rfl, HB4.out⟩
set_option maxHeartbeats 16000000 in
set_option maxRecDepth 100000 in
/-- Other bits, or entries that are not few: alive. -/
theorem undoes_out {M : World → Int → Tv → Prop} (nd : NdV M) (ba : BaV M) (n : Int) (A : Option Addr) (c : Nat) (es : List En) (B : Option Addr) (cB : Nat) (xs : List Cn) (W : World) (hA : EA W A es) (hvx : Vars W) (h : (n < 0 ∨ 256 < n) ∨ fewK (es.map En.ent) = false) :
    Calls Tryz.prog 7 #[.int .i64 n, .slice A es.length c, .slice B xs.length cB] W (Aye W) := by
  have HVX := Lib.hid hvx
  have HT := Lib.hid (tree_out n A c es W hA h)
  have HAL : Hid (∀ w, Vars w → Calls Tryz.prog 10 #[] w fun e w' => e = .returned (.bool true) ∧ Below w.heap.size w w') := fun w h => alive12_c nd ba w h
  clear hA hvx h
  go_enter Tryz.func7, Tryz.ntmps7
  go_wp2_with fail
  refine HT.out.mono ?_
  rintro _ w2 ⟨rfl, hB⟩
  have HB := Lib.hid hB
  clear hB HT
  go_wp2_with fail
  refine (hash_any n w2).mono ?_
  rintro _ w3 ⟨p, rfl, hB⟩
  have HB3 := Lib.hid (HB.out.trans (hB.mono HB.out.size))
  clear hB HB
  go_wp2_with fail
  refine (HAL.out w3 (HVX.out.below HB3.out)).mono ?_
  rintro _ w4 ⟨rfl, hB⟩
  have HB4 := Lib.hid (HB3.out.trans (hB.mono HB3.out.size))
  clear hB
  go_wp2_with fail
  go_ret
  exact ⟨rfl, HB4.out⟩
set_option maxHeartbeats 16000000 in
set_option maxRecDepth 100000 in
/-- Changes that are not few: alive. -/
theorem undoes_many {M : World → Int → Tv → Prop} (nd : NdV M) (ba : BaV M) (n : Int) (A : Option Addr) (c : Nat) (es : List En) (B : Option Addr) (cB : Nat) (xs : List Cn) (W : World) (hA : EA W A es) (hl : es.length ≤ 12) (hvl : ∀ e ∈ es, e.v.length ≤ 1000) (hf : fewK (es.map En.ent) = true) (hvx : Vars W) (h0 : 0 ≤ n) (h1 : n ≤ 256) (hX : CA W B xs) (hfc : fewC (xs.map Cn.chg) = false) :
    Calls Tryz.prog 7 #[.int .i64 n, .slice A es.length c, .slice B xs.length cB] W (Aye W) := by
  have HT := Lib.hid (tree_in nd n A c es W hA hl hvl hf hvx h0 h1)
  have HX := Lib.hid hX
  have HFC := Lib.hid hfc
  have HAL : Hid (∀ w, Vars w → Calls Tryz.prog 10 #[] w fun e w' => e = .returned (.bool true) ∧ Below w.heap.size w w') := fun w h => alive12_c nd ba w h
  clear hA hvl hf hvx hX hfc
  go_enter Tryz.func7, Tryz.ntmps7
  go_wp2_with fail
  refine HT.out.mono ?_
  rintro _ w2 ⟨A2, c2, T, rfl, hc2, hI, hF⟩
  obtain ⟨pT, hpT⟩ := val_ptr nd hF.ms
  rw [hpT]
  obtain ⟨O, hO⟩ : ∃ O, O = ofE es := ⟨_, rfl⟩
  rw [← hO]
  have HH := Lib.hid (hash_in n w2 h0 h1)
  have HB2 := Lib.hid hF.bel
  have HV2 := Lib.hid hF.vars
  clear hc2 hI hF HT hpT hO
  go_wp2_with fail
  refine HH.out.mono ?_
  rintro _ w3 ⟨b, rfl, hbn, hH, hB⟩
  have HB3 := Lib.hid (HB2.out.trans (hB.mono HB2.out.size))
  have HV3 := Lib.hid (HV2.out.below hB)
  have HFW := Lib.hid (few12_c B cB xs w3 (HX.out.below HB3.out))
  rw [HFC.out] at HFW
  clear hH hbn hB HH
  unfold ptr
  go_wp2_with fail
  refine HFW.out.mono ?_
  rintro _ _ ⟨rfl, rfl⟩
  clear HFW
  go_wp2_with fail
  refine (HAL.out w3 HV3.out).mono ?_
  rintro _ w4 ⟨rfl, hB⟩
  have HB4 := Lib.hid (HB3.out.trans (hB.mono HB3.out.size))
  clear hB
  go_wp2_with fail
  go_ret
  exact ⟨rfl, HB4.out⟩
end Go.Proofs.YtaajnjddfcdeaaaGreatDoor

/- The walk of BatchUndoes over contracts. -/
namespace Go.Proofs.YtaajnjddfcdeaaaGreatDoor
open Go.RowKit

set_option maxHeartbeats 16000000 in
set_option maxRecDepth 100000 in
theorem undoes_in {M : World → Int → Tv → Prop} (nd : NdV M) (ba : BaV M) (n : Int) (A : Option Addr) (c : Nat) (es : List En) (B : Option Addr) (cB : Nat) (xs : List Cn) (W : World) (hA : EA W A es) (hl : es.length ≤ 12) (hvl : ∀ e ∈ es, e.v.length ≤ 1000) (hf : fewK (es.map En.ent) = true) (hvx : Vars W) (h0 : 0 ≤ n) (h1 : n ≤ 256) (hX : CA W B xs) (hfc : fewC (xs.map Cn.chg) = true) :
    Calls Tryz.prog 7 #[.int .i64 n, .slice A es.length c, .slice B xs.length cB] W (Aye W) := by
  have HT := Lib.hid (tree_in nd n A c es W hA hl hvl hf hvx h0 h1)
  have HVE : Hid (∀ e ∈ ofE es, e.v.length ≤ 1000) := fun e he => hvl e (ofE_mem he)
  have HLE : Hid ((ofE es).length ≤ 12) := Nat.le_trans (ofE_len es) hl
  have HAS : Hid (Asc ((ofE es).map En.ent) ∧ Len32 ((ofE es).map En.ent)) := by
    rw [ofE_ent]
    have h32 : ∀ x ∈ es.map En.ent, x.k.length = 32 := fun x hx => by
      obtain ⟨e, he, rfl⟩ := List.mem_map.1 hx
      obtain ⟨i, hi⟩ := List.getElem?_of_mem he
      exact (hA i e hi).1.key
    refine ⟨ofK_asc h32, fun x hx => ?_⟩
    rw [← ofE_ent] at hx
    obtain ⟨e, he, rfl⟩ := List.mem_map.1 hx
    exact h32 _ (List.mem_map.2 ⟨e, ofE_mem he, rfl⟩)
  have HX := Lib.hid hX
  have HXL := Lib.hid (few12_len hfc).1
  have HXV := Lib.hid (few12_len hfc).2
  have HFC := Lib.hid hfc
  have HXK : Hid (∀ c ∈ xs.map Cn.chg, c.k.length = 32) := fun y hy => by
    obtain ⟨x, hx, rfl⟩ := List.mem_map.1 hy
    exact (hX.ok x hx).key
  have HAL : Hid (∀ w, Vars w → Calls Tryz.prog 10 #[] w fun e w' => e = .returned (.bool true) ∧ Below w.heap.size w w') := fun w h => alive12_c nd ba w h
  clear hA hvl hf hvx hX hfc
  go_enter Tryz.func7, Tryz.ntmps7
  go_wp2_with fail
  refine HT.out.mono ?_
  rintro _ w2 ⟨A2, c2, T, rfl, hc2, hI, hF⟩
  have HI := Lib.hid hI
  have HF2 := Lib.hid hF
  obtain ⟨O, hO⟩ : ∃ O, O = ofE es := ⟨_, rfl⟩
  rw [← hO] at HI HF2 HVE HLE HAS ⊢
  obtain ⟨pT, hpT⟩ := val_ptr nd hF.ms
  have HPT := Lib.hid hpT
  rw [hpT]
  have HH := Lib.hid (hash_in n w2 h0 h1)
  clear hc2 hI hF HT hO hpT
  go_wp2_with fail
  refine HH.out.mono ?_
  rintro _ w3 ⟨b, rfl, hbn, hH, hB⟩
  have HQ3 : Hid (Tf M W n A2 O T b 0 w3) := ⟨HF2.out.below nd hB, ⟨0, Nat.le_refl _, hH⟩, Nat.le_trans HF2.out.bel.size hbn⟩
  have HX3 := Lib.hid (HX.out.below HQ3.out.fs.bel)
  have HFW := Lib.hid (few12_c B cB xs w3 HX3.out)
  rw [HFC.out] at HFW
  clear hH hbn hB HH HF2
  unfold ptr
  go_wp2_with fail
  refine HFW.out.mono ?_
  rintro _ _ ⟨rfl, rfl⟩
  have HCH := Lib.hid (changes_c B cB xs w3 HX3.out (by have := HXL.out; omega))
  obtain ⟨l, hl0⟩ : ∃ l, l = O.map En.ent := ⟨_, rfl⟩
  obtain ⟨cs, hcs⟩ : ∃ cs, cs = xs.map Cn.chg := ⟨_, rfl⟩
  rw [← hl0] at HI HAS
  rw [← hcs] at HXK
  have HL0 := Lib.hid hl0
  have HCS := Lib.hid hcs
  have HLL : Hid (l.length ≤ 12 ∧ cs.length ≤ 20) := by rw [hl0, hcs, List.length_map, List.length_map]; exact ⟨HLE.out, HXL.out⟩
  have HAC : Hid (Asc (appC l cs) ∧ Len32 (appC l cs)) := appC_keeps cs HAS.out.1 HAS.out.2 HXK.out
  have HACL : Hid ((appC l cs).length ≤ 32) := by show _ ≤ _; have := appC_len cs l; have := HLL.out; omega
  clear HFW hl0 hcs
  go_wp2_with fail
  refine HCH.out.mono ?_
  rintro _ w4 ⟨A4, c4, rfl, hca, _, hB⟩
  have HQ4 := Lib.hid (HQ3.out.below nd hB)
  have HU := Lib.hid (ba.undo w4 n T l A4 c4 xs HQ4.out.fs.ms HI.out HAS.out.1 (by have := HLL.out; omega) hca (by have := HXL.out; omega) HXV.out)
  rw [HPT.out, ← HCS.out] at HU
  clear hca hB HCH HQ3
  go_wp2_with fail
  refine HU.out.mono ?_
  rintro x w5 ⟨hy, hn⟩
  obtain ⟨ck, hck⟩ : ∃ ck, ck = chkK (xs.map Cn.k) := ⟨_, rfl⟩
  rw [← hck] at hy hn
  have HCKE := Lib.hid hck
  by_cases h0 : ck = 0
  · obtain ⟨A5, c5, ys, rfl, hca5, hcl5, hys, hyv, hB⟩ := hy h0
    have HCL5 := Lib.hid hcl5
    have HQ5 := Lib.hid (HQ4.out.below nd hB)
    have HCA5 := Lib.hid hca5
    have HYS := Lib.hid hys
    have HYV := Lib.hid hyv
    have HYL : Hid (ys.length ≤ 44) := by
      show _ ≤ _
      have h1 := congrArg List.length hys
      have h2 := diffC_len (appC l cs) l
      have h3 := HACL.out
      have h4 := HLL.out
      rw [List.length_map] at h1
      omega
    have HCK := Lib.hid (check12_c B cB xs w5 (HX.out.below HQ5.out.fs.bel) (by have := HXL.out; omega))
    rw [← hck, h0] at HCK
    clear hy hn hca5 hcl5 hys hyv hB hck HU HQ4
    go_wp2_with fail
    refine HCK.out.mono ?_
    rintro _ w6 ⟨rfl, hB⟩
    have HQ6 := Lib.hid (HQ5.out.below nd hB)
    have HCA6 := Lib.hid (HCA5.out.below hB)
    have HCH6 := Lib.hid (changes_c B cB xs w6 (HX.out.below HQ6.out.fs.bel) (by have := HXL.out; omega))
    clear hB HCK HQ5 HCA5
    go_wp2_with fail
    refine HCH6.out.mono ?_
    rintro _ w7 ⟨A7, c7, rfl, hca, hcl, hB⟩
    have HQ7 := Lib.hid (HQ6.out.below nd hB)
    have HCA7 := Lib.hid (HCA6.out.below hB)
    obtain ⟨m7, hm7, hh7⟩ := HQ7.out.hs
    have HH7 := Lib.hid hh7
    have HAP := Lib.hid (ba.apply w7 b n m7 l T A7 c7 xs hh7 (by omega) HQ7.out.fs.vars HQ7.out.fs.ms HI.out (by have := HLL.out; omega) hca hcl (by have := HXL.out; omega) HXV.out)
    rw [HPT.out, ← HCS.out] at HAP
    unfold ptr at HAP
    have HM7 : Hid (m7 ≤ 0) := hm7
    clear hca hcl hB hm7 hh7 HCH6 HQ6 HCA6
    go_wp2_with fail
    refine HAP.out.mono ?_
    rintro x w8 ⟨hy, _⟩
    obtain ⟨T', rfl, hI', hm⟩ := hy (by rw [← HCKE.out]; exact h0)
    have HI' := Lib.hid hI'
    have HM8 := Lib.hid hm.ms
    have HQ8 : Hid (Tf M W n A2 O T b 90000 w8) := HQ7.out.made nd hm.keep (by obtain ⟨c5, h5, h6⟩ := hm.hs; exact ⟨c5, by have := HM7.out; omega, h6⟩)
    have HCA8 := Lib.hid (HH7.out.ca HCA7.out hm.keep)
    obtain ⟨pN, hpN⟩ := val_ptr nd hm.ms
    rw [hpN]
    have HPN := Lib.hid hpN
    obtain ⟨m8, hm8, hh8⟩ := HQ8.out.hs
    have HH8 := Lib.hid hh8
    have HAP2 := Lib.hid (ba.apply w8 b n m8 (appC l cs) T' A5 c5 ys hh8 (by omega) HQ8.out.fs.vars HM8.out HI'.out (by have := HACL.out; omega) HCA8.out HCL5.out (by have := HYL.out; omega) HYV.out)
    rw [HPN.out] at HAP2
    unfold ptr at HAP2
    have HML8 : Hid (m8 ≤ 90000) := hm8
    have HYK : Hid (chkK (ys.map Cn.k) = 0) := by
      show _ = _
      have h1 : ys.map Cn.k = (ys.map Cn.chg).map Chg.k := by rw [List.map_map]; rfl
      rw [h1, HYS.out]
      exact diffC_chk HAC.out.2 HAS.out.2
    have HBK : Hid (appC (appC l cs) (ys.map Cn.chg) = l) := by show _ = _; rw [HYS.out]; exact app_diff HAC.out.1 HAS.out.1 HAC.out.2 HAS.out.2
    clear hy hI' hm hpN hm8 hh8 HAP HQ7 HCA7 h0
    go_wp2_with fail
    refine HAP2.out.mono ?_
    rintro x w9 ⟨hy, _⟩
    obtain ⟨T9, rfl, hI9, hm⟩ := hy HYK.out
    rw [HBK.out] at hI9
    have HI9 := Lib.hid hI9
    have HM9 := Lib.hid hm.ms
    have HQ9 : Hid (Tf M W n A2 O T b 180000 w9) := HQ8.out.made nd hm.keep (by obtain ⟨c5, h5, h6⟩ := hm.hs; exact ⟨c5, by have := HML8.out; omega, h6⟩)
    obtain ⟨p9, hp9⟩ := val_ptr nd hm.ms
    rw [hp9]
    have HP9 := Lib.hid hp9
    have HCA9 := Lib.hid (HH8.out.ca HCA8.out hm.keep)
    clear hy hI9 hm hp9 HAP2 HQ8 HM8 HCA8
    go_wp2_with fail
    refine (HAL.out w9 HQ9.out.fs.vars).mono ?_
    rintro _ w10 ⟨rfl, hB⟩
    have HQ10 := Lib.hid (HQ9.out.below nd hB)
    have HM10 := Lib.hid (nd.below HM9.out hB)
    have HBA := Lib.hid (back_c A5 c5 ys w10 (HCA9.out.below hB) (by have := HYL.out; omega))
    clear hB HQ9 HM9 HCA9
    go_wp2_with fail
    refine HBA.out.mono ?_
    rintro _ w11 ⟨A11, c11, rfl, hca, _, hB⟩
    have HQ11 := Lib.hid (HQ10.out.below nd hB)
    have HM11 := Lib.hid (nd.below HM10.out hB)
    have HCA11 := Lib.hid hca
    have HRA := Lib.hid (apply12_c A2 c2 O B cB xs w11 HQ11.out.fs.ea (HX.out.below HQ11.out.fs.bel) (by have := HLE.out; omega) (by have := HXL.out; omega) HVE.out HXV.out)
    clear hB hca HBA HQ10 HM10
    go_wp2_with fail
    refine HRA.out.mono ?_
    rintro _ w12 ⟨A12, c12, fs, rfl, hE12, hmap, hv12, hl12, hB⟩
    have HQ12 := Lib.hid (HQ11.out.below nd hB)
    have HM12 := Lib.hid (nd.below HM11.out hB)
    have HCA12 := Lib.hid (HCA11.out.below hB)
    have HMAP := Lib.hid hmap
    have HRD := Lib.hid (diff12_c A12 c12 fs A2 c2 O w12 hE12 HQ12.out.fs.ea (by have := HLE.out; have := HXL.out; omega) (by have := HLE.out; omega) hv12 HVE.out)
    clear hE12 hmap hv12 hl12 hB HRA HQ11 HM11 HCA11
    go_wp2_with fail
    refine HRD.out.mono ?_
    rintro _ w13 ⟨A13, c13, zs, rfl, hcz, hzs, _, hB⟩
    have HQ13 := Lib.hid (HQ12.out.below nd hB)
    have HM13 := Lib.hid (nd.below HM12.out hB)
    have HSM := Lib.hid (same12_yes A11 A13 c11 c13 ys zs w13 (HCA12.out.below hB) hcz (by have := HYL.out; omega) HYV.out (by rw [HYS.out, hzs, HMAP.out, HCS.out, HL0.out]))
    clear hcz hzs hB HRD HQ12 HM12 HCA12
    go_wp2_with fail
    refine HSM.out.mono ?_
    rintro _ w14 ⟨rfl, hB⟩
    have HQ14 := Lib.hid (HQ13.out.below nd hB)
    have HM14 := Lib.hid (nd.below HM13.out hB)
    obtain ⟨g, hg⟩ : ∃ g, g = rootK 257 n l 0 := ⟨_, rfl⟩
    have hgl : g.length = 32 := by rw [hg]; exact rootK_len _ _ _ _
    have HRT := Lib.hid (root7_c n 257 A2 c2 O 0 w14 HQ14.out.fs.ea (by have := HLE.out; omega) HVE.out (.inr ⟨by omega, by omega, by omega⟩))
    rw [← HL0.out, ← hg] at HRT
    have HDG : Hid (digT n T9.tr = g) := by show _ = _; rw [hg]; exact HI9.out.dig n
    have qd : ∀ x y w, eqA .eql 42 x y w (.agg (bA g)) (.agg (bA g)) = .ok (.value (.bool true)) w := fun x y w => by rw [eqDig g g hgl hgl, decide_eq_true rfl]
    clear hB hg HSM HQ13 HM13
    go_wp2_with fail
    refine HRT.out.mono ?_
    rintro _ w15 ⟨rfl, hB⟩
    have HQ15 := Lib.hid (HQ14.out.below nd hB)
    obtain ⟨m15, hm15, hh15⟩ := HQ15.out.hs
    have HD := Lib.hid (nd.digest w15 b n m15 T9 hh15 (by omega) HQ15.out.fs.vars (nd.below HM14.out hB))
    rw [HP9.out, HDG.out] at HD
    unfold ptr at HD
    clear hB hm15 hh15 HRT HQ14 HM14
    go_wp2_with fail
    refine HD.out.mono ?_
    rintro _ w16 ⟨c16, rfl, _, _, hh16, hk16⟩
    have HQ16 := Lib.hid (HQ15.out.made nd hk16 ⟨c16, Nat.le_refl _, hh16⟩)
    clear hh16 hk16 HD HQ15
    go_wp2_with fail
    go_ret
    exact ⟨rfl, HQ16.out.fs.bel⟩
  · obtain ⟨A5, c5, rfl, hB⟩ := hn h0
    have HQ5 := Lib.hid (HQ4.out.below nd hB)
    have HCK := Lib.hid (check12_c B cB xs w5 (HX.out.below HQ5.out.fs.bel) (by have := HXL.out; omega))
    rw [← hck] at HCK
    have bn : (ck != 0) = true := by simpa using h0
    have be : (ck == ck) = true := beq_self_eq_true ck
    clear hy hn hB hck h0 HU HQ4 HCKE
    go_wp2_with fail
    refine HCK.out.mono ?_
    rintro _ w6 ⟨rfl, hB⟩
    have HQ6 := Lib.hid (HQ5.out.below nd hB)
    clear hB HCK HQ5
    go_wp2_with fail
    refine (HAL.out w6 HQ6.out.fs.vars).mono ?_
    rintro _ w7 ⟨rfl, hB⟩
    have HQ7 := Lib.hid (HQ6.out.below nd hB)
    clear hB HQ6
    go_wp2_with fail
    go_ret
    exact ⟨rfl, HQ7.out.fs.bel⟩
end Go.Proofs.YtaajnjddfcdeaaaGreatDoor

/- The walk of BatchLeads over contracts. -/
namespace Go.Proofs.YtaajnjddfcdeaaaGreatDoor
open Go.RowKit

theorem few_cases12 (n : Int) (es : List En) : ((n < 0 ∨ 256 < n) ∨ fewK (es.map En.ent) = false) ∨ (0 ≤ n ∧ n ≤ 256 ∧ fewK (es.map En.ent) = true ∧ es.length ≤ 12 ∧ ∀ e ∈ es, e.v.length ≤ 1000) := by
  rcases Classical.em ((n < 0 ∨ 256 < n) ∨ fewK (es.map En.ent) = false) with h | h
  · exact .inl h
  · have hf : fewK (es.map En.ent) = true := by
      cases hq : fewK (es.map En.ent) with
      | true => rfl
      | false => exact absurd (.inr hq) h
    have h2 := hf
    unfold fewK at h2
    rw [Bool.and_eq_true, List.length_map] at h2
    refine .inr ⟨by omega, by omega, hf, of_decide_eq_true h2.1, fun e he => ?_⟩
    have h3 := List.all_eq_true.1 h2.2 e.ent (List.mem_map.2 ⟨e, he, rfl⟩)
    have h4 : e.v.length ≤ 200 := of_decide_eq_true h3
    omega
theorem tree_any {M : World → Int → Tv → Prop} (nd : NdV M) (n : Int) (A : Option Addr) (c : Nat) (es : List En) (W : World) (hA : EA W A es) (hvx : Vars W) :
    Calls Tryz.prog 8 #[.int .i64 n, .slice A es.length c] W fun e w' => ∃ (A' : Option Addr) (N c' : Nat) (p : Option Addr) (q : Bool), e = .returned (.tuple #[.slice A' N c', .pointer p, .bool q]) ∧ (((n < 0 ∨ 256 < n) ∨ fewK (es.map En.ent) = false) → q = false) ∧ Below W.heap.size W w' := by
  rcases few_cases12 n es with h | ⟨h0, h1, hf, hl, hvl⟩
  · exact (tree_out n A c es W hA h).mono fun e w' ⟨he, hb⟩ => ⟨none, 0, 0, none, false, he, fun _ => rfl, hb⟩
  · refine (tree_in nd n A c es W hA hl hvl hf hvx h0 h1).mono ?_
    rintro _ w' ⟨A', c', T, rfl, _, _, hF⟩
    obtain ⟨p, hp⟩ := val_ptr nd hF.ms
    have hq : ¬ ((n < 0 ∨ 256 < n) ∨ fewK (es.map En.ent) = false) := fun h => h.elim (fun h => by omega) fun h => by rw [hf] at h; cases h
    exact ⟨A', _, c', p, true, by rw [hp], fun h => absurd h hq, hF.bel⟩
set_option maxHeartbeats 16000000 in
set_option maxRecDepth 100000 in
/-- One of the two maps is none: alive. -/
theorem leads_no {M : World → Int → Tv → Prop} (nd : NdV M) (ba : BaV M) (n : Int) (A : Option Addr) (c : Nat) (es : List En) (B : Option Addr) (cB : Nat) (bs : List En) (W : World) (hA : EA W A es) (hB : EA W B bs) (hvx : Vars W) (h : ((n < 0 ∨ 256 < n) ∨ fewK (es.map En.ent) = false) ∨ ((n < 0 ∨ 256 < n) ∨ fewK (bs.map En.ent) = false)) :
    Calls Tryz.prog 6 #[.int .i64 n, .slice A es.length c, .slice B bs.length cB] W (Aye W) := by
  have HVX := Lib.hid hvx
  have HBB := Lib.hid hB
  have HT := Lib.hid (tree_any nd n A c es W hA hvx)
  have HC := Lib.hid h
  have HAL : Hid (∀ w, Vars w → Calls Tryz.prog 10 #[] w fun e w' => e = .returned (.bool true) ∧ Below w.heap.size w w') := fun w h => alive12_c nd ba w h
  clear hA hB hvx h
  go_enter Tryz.func6, Tryz.ntmps6
  go_wp2_with fail
  refine HT.out.mono ?_
  rintro _ w2 ⟨A2, N2, c2, p2, q2, rfl, hq2, hB⟩
  have HB2 := Lib.hid hB
  have HQ2 := Lib.hid hq2
  have HT2 := Lib.hid (tree_any nd n B cB bs w2 (HBB.out.below hB) (HVX.out.below hB))
  clear hB hq2 HT
  go_wp2_with fail
  refine HT2.out.mono ?_
  rintro _ w3 ⟨A3, N3, c3, p3, q3, rfl, hq3, hB⟩
  have HB3 := Lib.hid (HB2.out.trans (hB.mono HB2.out.size))
  have HQ3 := Lib.hid hq3
  clear hB hq3 HT2 HB2
  go_wp2_with fail
  refine (hash_any n w3).mono ?_
  rintro _ w4 ⟨p, rfl, hB⟩
  have HB4 := Lib.hid (HB3.out.trans (hB.mono HB3.out.size))
  clear hB
  cases q2 with
  | false =>
    clear HQ2 HQ3 HC
    go_wp2_with fail
    refine (HAL.out w4 (HVX.out.below HB4.out)).mono ?_
    rintro _ w5 ⟨rfl, hB⟩
    have HB5 := Lib.hid (HB4.out.trans (hB.mono HB4.out.size))
    clear hB
    go_wp2_with fail
    go_ret
    exact ⟨rfl, HB5.out⟩
  | true =>
    obtain rfl : q3 = false := by
      rcases HC.out with h | h
      · exact absurd (HQ2.out h) (by decide)
      · exact HQ3.out h
    clear HQ2 HQ3 HC
    go_wp2_with fail
    refine (HAL.out w4 (HVX.out.below HB4.out)).mono ?_
    rintro _ w5 ⟨rfl, hB⟩
    have HB5 := Lib.hid (HB4.out.trans (hB.mono HB4.out.size))
    clear hB
    go_wp2_with fail
    go_ret
    exact ⟨rfl, HB5.out⟩
set_option maxHeartbeats 16000000 in
set_option maxRecDepth 100000 in
theorem leads_in {M : World → Int → Tv → Prop} (nd : NdV M) (fv : FnV M) (ba : BaV M) (n : Int) (A : Option Addr) (c : Nat) (es : List En) (B : Option Addr) (cB : Nat) (bs : List En) (W : World) (hA : EA W A es) (hl : es.length ≤ 12) (hvl : ∀ e ∈ es, e.v.length ≤ 1000) (hf : fewK (es.map En.ent) = true) (hB : EA W B bs) (hl2 : bs.length ≤ 12) (hvl2 : ∀ e ∈ bs, e.v.length ≤ 1000) (hf2 : fewK (bs.map En.ent) = true) (hvx : Vars W) (h0 : 0 ≤ n) (h1 : n ≤ 256) :
    Calls Tryz.prog 6 #[.int .i64 n, .slice A es.length c, .slice B bs.length cB] W (Aye W) := by
  have HT := Lib.hid (tree_in nd n A c es W hA hl hvl hf hvx h0 h1)
  have HVE : Hid (∀ e ∈ ofE es, e.v.length ≤ 1000) := fun e he => hvl e (ofE_mem he)
  have HVP : Hid (∀ e ∈ ofE bs, e.v.length ≤ 1000) := fun e he => hvl2 e (ofE_mem he)
  have HLE : Hid ((ofE es).length ≤ 12) := Nat.le_trans (ofE_len es) hl
  have HLP : Hid ((ofE bs).length ≤ 12) := Nat.le_trans (ofE_len bs) hl2
  have HAS : Hid (Asc ((ofE es).map En.ent) ∧ Len32 ((ofE es).map En.ent)) := by
    rw [ofE_ent]
    have h32 : ∀ x ∈ es.map En.ent, x.k.length = 32 := fun x hx => by
      obtain ⟨e, he, rfl⟩ := List.mem_map.1 hx
      obtain ⟨i, hi⟩ := List.getElem?_of_mem he
      exact (hA i e hi).1.key
    refine ⟨ofK_asc h32, fun x hx => ?_⟩
    rw [← ofE_ent] at hx
    obtain ⟨e, he, rfl⟩ := List.mem_map.1 hx
    exact h32 _ (List.mem_map.2 ⟨e, ofE_mem he, rfl⟩)
  have HAP : Hid (Asc ((ofE bs).map En.ent) ∧ Len32 ((ofE bs).map En.ent)) := by
    rw [ofE_ent]
    have h32 : ∀ x ∈ bs.map En.ent, x.k.length = 32 := fun x hx => by
      obtain ⟨e, he, rfl⟩ := List.mem_map.1 hx
      obtain ⟨i, hi⟩ := List.getElem?_of_mem he
      exact (hB i e hi).1.key
    refine ⟨ofK_asc h32, fun x hx => ?_⟩
    rw [← ofE_ent] at hx
    obtain ⟨e, he, rfl⟩ := List.mem_map.1 hx
    exact h32 _ (List.mem_map.2 ⟨e, ofE_mem he, rfl⟩)
  have HT2 : Hid (∀ w2, Below W.heap.size W w2 → Calls Tryz.prog 8 #[.int .i64 n, .slice B bs.length cB] w2 fun e w' => ∃ A' c' T, e = .returned (.tuple #[.slice A' (ofE bs).length c', T.val, .bool true]) ∧ (ofE bs).length ≤ c' ∧ IsMap ((ofE bs).map En.ent) T ∧ Fs M w2 n A' (ofE bs) T w') := fun w2 hb => tree_in nd n B cB bs w2 (hB.below hb) hl2 hvl2 hf2 (hvx.below hb) h0 h1
  have HAL : Hid (∀ w, Vars w → Calls Tryz.prog 10 #[] w fun e w' => e = .returned (.bool true) ∧ Below w.heap.size w w') := fun w h => alive12_c nd ba w h
  clear hA hvl hf hB hvl2 hf2 hvx
  go_enter Tryz.func6, Tryz.ntmps6
  go_wp2_with fail
  refine HT.out.mono ?_
  rintro _ w2 ⟨A2, c2, T, rfl, _, hI, hF⟩
  have HI := Lib.hid hI
  have HF2 := Lib.hid hF
  have HT3 := Lib.hid (HT2.out w2 hF.bel)
  obtain ⟨O, hO⟩ : ∃ O, O = ofE es := ⟨_, rfl⟩
  rw [← hO] at HI HF2 HVE HLE HAS ⊢
  obtain ⟨P, hP⟩ : ∃ P, P = ofE bs := ⟨_, rfl⟩
  rw [← hP] at HT3 HVP HLP HAP
  obtain ⟨pT, hpT⟩ := val_ptr nd hF.ms
  have HPT := Lib.hid hpT
  rw [hpT]
  clear hI hF HT hO hpT hP HT2
  go_wp2_with fail
  refine HT3.out.mono ?_
  rintro _ w3 ⟨A3, c3, S, rfl, _, hI, hF⟩
  have HIS := Lib.hid hI
  have HF3 := Lib.hid hF
  obtain ⟨pS, hpS⟩ := val_ptr nd hF.ms
  have HPS := Lib.hid hpS
  rw [hpS]
  have HMT := Lib.hid (nd.below HF2.out.ms hF.bel)
  have HET := Lib.hid (HF2.out.ea.below hF.bel)
  have HH := Lib.hid (hash_in n w3 h0 h1)
  clear hI hF hpS HT3
  go_wp2_with fail
  refine HH.out.mono ?_
  rintro _ w4 ⟨b, rfl, hbn, hH, hB⟩
  have HQ4 : Hid (Tf M w2 n A3 P S b 0 w4) := ⟨HF3.out.below nd hB, ⟨0, Nat.le_refl _, hH⟩, Nat.le_trans HF3.out.bel.size hbn⟩
  have HMT4 := Lib.hid (nd.below HMT.out hB)
  have HDF := Lib.hid (ba.diff w4 n T S (O.map En.ent) (P.map En.ent) HMT4.out HQ4.out.fs.ms HI.out HIS.out HAS.out.1 HAP.out.1 (by rw [List.length_map]; have := HLE.out; omega) (by rw [List.length_map]; have := HLP.out; omega))
  rw [HPT.out, HPS.out] at HDF
  clear hH hbn hB HH HF3 HMT
  unfold ptr
  go_wp2_with fail
  refine HDF.out.mono ?_
  rintro _ w5 ⟨A5, c5, xs, rfl, hca, hcl, hxs, hxv, hB⟩
  have HQ5 := Lib.hid (HQ4.out.below nd hB)
  obtain ⟨m5, hm5, hh5⟩ := HQ5.out.hs
  have hxl : xs.length ≤ 24 := by
    have h1 := congrArg List.length hxs
    have h2 := diffC_len (O.map En.ent) (P.map En.ent)
    have h3 := HLE.out
    have h4 := HLP.out
    rw [List.length_map] at h1
    rw [List.length_map, List.length_map] at h2
    omega
  have HCK : Hid (chkK (xs.map Cn.k) = 0) := by
    show _ = _
    have h1 : xs.map Cn.k = (xs.map Cn.chg).map Chg.k := by rw [List.map_map]; rfl
    rw [h1, hxs]
    exact diffC_chk HAS.out.2 HAP.out.2
  have HAD : Hid (appC (O.map En.ent) (xs.map Cn.chg) = P.map En.ent) := by show _ = _; rw [hxs]; exact app_diff HAS.out.1 HAP.out.1 HAS.out.2 HAP.out.2
  have HPP := Lib.hid (ba.apply w5 b n m5 (O.map En.ent) T A5 c5 xs hh5 (by omega) HQ5.out.fs.vars (nd.below HMT4.out hB) HI.out (by rw [List.length_map]; have := HLE.out; omega) hca hcl (by omega) hxv)
  rw [HPT.out] at HPP
  unfold ptr at HPP
  have HM5 : Hid (m5 ≤ 0) := hm5
  clear hca hcl hxs hxv hB hm5 hh5 hxl HDF HQ4 HMT4
  go_wp2_with fail
  refine HPP.out.mono ?_
  rintro x w6 ⟨hy, _⟩
  obtain ⟨T', rfl, hI', hm⟩ := hy HCK.out
  rw [HAD.out] at hI'
  have HI' := Lib.hid hI'
  have HM6 := Lib.hid hm.ms
  have HQ6 : Hid (Tf M w2 n A3 P S b 90000 w6) := HQ5.out.made nd hm.keep (by obtain ⟨c5, h5, h6⟩ := hm.hs; exact ⟨c5, by have := HM5.out; omega, h6⟩)
  obtain ⟨pN, hpN⟩ := val_ptr nd hm.ms
  rw [hpN]
  have HPN := Lib.hid hpN
  clear hy hI' hm hpN HPP HQ5
  go_wp2_with fail
  refine (HAL.out w6 HQ6.out.fs.vars).mono ?_
  rintro _ w7 ⟨rfl, hB⟩
  have HQ7 := Lib.hid (HQ6.out.below nd hB)
  obtain ⟨m7, hm7, hh7⟩ := HQ7.out.hs
  have HQI := Lib.hid (is_c nd fv w7 b n m7 T' A3 c3 P hh7 (by omega) HQ7.out.fs.vars (nd.below HM6.out hB) HI'.out HQ7.out.fs.ea (by have := HLP.out; omega) HVP.out)
  rw [HPN.out] at HQI
  unfold ptr at HQI
  clear hB hm7 hh7 HQ6 HM6
  go_wp2_with fail
  refine HQI.out.mono ?_
  rintro _ w8 ⟨rfl, c8, hc8, hh8, hk8⟩
  have HQ8 := Lib.hid (HQ7.out.made nd hk8 ⟨c8, Nat.le_refl _, hh8⟩)
  clear hc8 hh8 hk8 HQI HQ7
  go_wp2_with fail
  go_ret
  exact ⟨rfl, HF2.out.bel.trans (HQ8.out.fs.bel.mono HF2.out.bel.size)⟩
end Go.Proofs.YtaajnjddfcdeaaaGreatDoor

/- The walk of BatchBuilds over contracts. -/
namespace Go.Proofs.YtaajnjddfcdeaaaGreatDoor
open Go.RowKit

def keyC (e : En) : Cn := ⟨e.k, none, [], 0, false⟩
theorem bldCr_keyf (f : Nat → UInt8) (w : World) : bldA 36 w #[(0, .agg (bA ((List.range 32).map f)))] = .ok (.value (.agg (((List.range 32).map f).map bv ++ [Value.slice none 0 0, Value.bool false]).toArray)) w := by kernel_rfl
theorem bldCr_key (e : En) (hk : e.k.length = 32) (w : World) : bldA 36 w #[(0, .agg (bA e.k))] = .ok (.value (.agg (cnC (keyC e)).toArray)) w := by
  have := bldCr_keyf (fun j => e.k.getD j 0) w
  rw [← list32 e.k hk] at this
  exact this
theorem take_keyC {es : List En} {m : Nat} {x : En} (h : es[m]? = some x) : (es.take (m + 1)).map keyC = (es.take m).map keyC ++ [keyC x] := by
  obtain ⟨hi, rfl⟩ := List.getElem?_eq_some_iff.1 h
  rw [List.take_succ_eq_append_getElem hi, List.map_append, List.map_singleton]
set_option maxHeartbeats 16000000 in
set_option maxRecDepth 100000 in
/-- Other bits, or entries that are not few: alive. -/
theorem builds_out {M : World → Int → Tv → Prop} (nd : NdV M) (ba : BaV M) (n : Int) (A : Option Addr) (c : Nat) (es : List En) (W : World) (hA : EA W A es) (hvx : Vars W) (h : (n < 0 ∨ 256 < n) ∨ fewK (es.map En.ent) = false) :
    Calls Tryz.prog 3 #[.int .i64 n, .slice A es.length c] W (Aye W) := by
  have HVX := Lib.hid hvx
  have HT := Lib.hid (tree_out n A c es W hA h)
  have HAL : Hid (∀ w, Vars w → Calls Tryz.prog 10 #[] w fun e w' => e = .returned (.bool true) ∧ Below w.heap.size w w') := fun w h => alive12_c nd ba w h
  clear hA hvx h
  go_enter Tryz.func3, Tryz.ntmps3
  go_wp2_with fail
  refine HT.out.mono ?_
  rintro _ w2 ⟨rfl, hB⟩
  have HB := Lib.hid hB
  clear hB HT
  go_wp2_with fail
  refine (hash_any n w2).mono ?_
  rintro _ w3 ⟨p, rfl, hB⟩
  have HB3 := Lib.hid (HB.out.trans (hB.mono HB.out.size))
  clear hB HB
  go_wp2_with fail
  refine (HAL.out w3 (HVX.out.below HB3.out)).mono ?_
  rintro _ w4 ⟨rfl, hB⟩
  have HB4 := Lib.hid (HB3.out.trans (hB.mono HB3.out.size))
  clear hB
  go_wp2_with fail
  go_ret
  exact ⟨rfl, HB4.out⟩
set_option maxHeartbeats 16000000 in
set_option maxRecDepth 100000 in
theorem builds_in {M : World → Int → Tv → Prop} (nd : NdV M) (fv : FnV M) (ba : BaV M) (n : Int) (A : Option Addr) (c : Nat) (es : List En) (W : World) (hA : EA W A es) (hl : es.length ≤ 12) (hvl : ∀ e ∈ es, e.v.length ≤ 1000) (hf : fewK (es.map En.ent) = true) (hvx : Vars W) (h0 : 0 ≤ n) (h1 : n ≤ 256) :
    Calls Tryz.prog 3 #[.int .i64 n, .slice A es.length c] W (Aye W) := by
  have HT := Lib.hid (tree_in nd n A c es W hA hl hvl hf hvx h0 h1)
  have HVE : Hid (∀ e ∈ ofE es, e.v.length ≤ 1000) := fun e he => hvl e (ofE_mem he)
  have HLE : Hid ((ofE es).length ≤ 12) := Nat.le_trans (ofE_len es) hl
  have HAS : Hid (Asc ((ofE es).map En.ent) ∧ Len32 ((ofE es).map En.ent)) := by
    rw [ofE_ent]
    have h32 : ∀ x ∈ es.map En.ent, x.k.length = 32 := fun x hx => by
      obtain ⟨e, he, rfl⟩ := List.mem_map.1 hx
      obtain ⟨i, hi⟩ := List.getElem?_of_mem he
      exact (hA i e hi).1.key
    refine ⟨ofK_asc h32, fun x hx => ?_⟩
    rw [← ofE_ent] at hx
    obtain ⟨e, he, rfl⟩ := List.mem_map.1 hx
    exact h32 _ (List.mem_map.2 ⟨e, ofE_mem he, rfl⟩)
  have HEA := Lib.hid hA
  have HVL := Lib.hid hvl
  have hl9 : es.length ≤ 12 := hl
  have H32 : Hid (∀ e ∈ es, e.k.length = 32) := fun e he => (hA.mem e he).key
  have HOE : Hid (chkK (es.map En.k) = 0 → (ofE es).map En.ent = es.map En.ent) := fun h => by
    rw [ofE_ent]
    refine ofK_sorted (asc_keys ?_)
    have h1 : (es.map En.ent).map Ent.k = es.map En.k := by rw [List.map_map]; rfl
    rw [h1]
    exact chk_asc _ (fun k hk => by
      obtain ⟨e, he, rfl⟩ := List.mem_map.1 hk
      exact (hA.mem e he).key) h
  have HAL : Hid (∀ w, Vars w → Calls Tryz.prog 10 #[] w fun e w' => e = .returned (.bool true) ∧ Below w.heap.size w w') := fun w h => alive12_c nd ba w h
  clear hA hvl hf hvx
  go_enter Tryz.func3, Tryz.ntmps3
  go_wp2_with fail
  refine HT.out.mono ?_
  rintro _ w2 ⟨A2, c2, T, rfl, hc2, hI, hF⟩
  have HI := Lib.hid hI
  have HF2 := Lib.hid hF
  obtain ⟨O, hO⟩ : ∃ O, O = ofE es := ⟨_, rfl⟩
  rw [← hO] at HI HF2 HVE HLE HAS HOE ⊢
  obtain ⟨pT, hpT⟩ := val_ptr nd hF.ms
  have HPT := Lib.hid hpT
  rw [hpT]
  have HH := Lib.hid (hash_in n w2 h0 h1)
  clear hc2 hI hF HT hO hpT
  go_wp2_with fail
  refine HH.out.mono ?_
  rintro _ w3 ⟨b, rfl, hbn, hH, hB⟩
  have HQ3 : Hid (Tf M W n A2 O T b 0 w3) := ⟨HF2.out.below nd hB, ⟨0, Nat.le_refl _, hH⟩, Nat.le_trans HF2.out.bel.size hbn⟩
  clear hH hbn hB HH HF2
  unfold ptr
  go_wp2_with fail
  go_loopg [9, 31] es.length (fun gg ov iv wr => ∃ (m : Nat) (v : Value), v = ov ∧ iv = .int .i64 (m : Int) ∧ m ≤ es.length ∧ es.length - m = gg ∧ Hid (OwnC 36 wr w3.heap.size v ((es.take m).map keyC)) ∧ Below w3.heap.size w3 wr)
  case atStart => exact ⟨0, _, rfl, rfl, by omega, by omega, OwnC.nil _ _ _, Below.refl _ _⟩
  case round =>
    obtain ⟨m, v, rfl, rfl, hm, rfl, HO, hB⟩ := hrel
    have HB := Lib.hid hB
    clear hB
    by_cases hlt : m < es.length
    · have hd : decide (m < es.length) = true := decide_eq_true hlt
      obtain ⟨x, hx⟩ : ∃ x, es[m]? = some x := ⟨_, List.getElem?_eq_getElem hlt⟩
      obtain ⟨hok, g, o, rfl, hr⟩ := HEA.out m x hx
      have HKL := Lib.hid hok.key
      have hWr : Below W.heap.size W wr := HQ3.out.fs.bel.trans (HB.out.mono HQ3.out.fs.bel.size)
      have le := range_ent (range_below hr hWr) hok.key
      obtain ⟨Y, hY⟩ : ∃ Y, Y = wr.alloc (.cells (enC x).toArray 34) := ⟨_, rfl⟩
      have hbY : Below wr.heap.size wr Y := by rw [hY]; exact (Below.refl _ _).alloc (Nat.le_refl _) _
      have st : stA 34 (wr.alloc (.cells (enC ⟨z26, none, [], 0⟩).toArray 34)) (.pointer (some ⟨wr.heap.size, 0, none⟩)) (.agg (enC x).toArray) = .ok .skip Y := by rw [hY]; exact stE_new hok.key rfl
      have lk : ldA 31 Y (.pointer (some ⟨wr.heap.size, 0, none⟩)) = .ok (.value (.agg (bA x.k))) Y := range_key (w := Y) (by rw [hY]; exact fun j u hu => by rw [Nat.zero_add, cell_of_cells (heap_alloc_new wr _)]; simpa using hu) hok.key
      have bl := bldCr_key x hok.key
      have bs := bsCr_one (keyC x) hok.key
      have HOY := Lib.hid (OwnC.below HO.out hbY)
      have HBY := Lib.hid (HB.out.trans (hbY.mono HB.out.size))
      have HTK := Lib.hid (take_keyC hx)
      have HXC : Hid ((keyC x).k.length = 32) := hok.key
      have HEL : Hid (((es.take m).map keyC).length ≤ 1000000) := by show _ ≤ _; rw [List.length_map, List.length_take]; omega
      have p0 : (0 : Int) ≤ (m : Int) := by omega
      have p1 : (m : Int) < (es.length : Int) := by omega
      clear hx hok hr hY hbY hWr
      go_wp2_with (at_builtin; refine wpList_pushC2 Tryz.underlying29 infoCr rfl _ _ rfl w3.heap.size v ((es.take m).map keyC) rfl HOY.out (keyC x) HXC.out rfl HEL.out HBY.out.size ?_; intro A9 n9 c9 w9 hO hN hB; have HO9 := Lib.hid hO; have HB9 := Lib.hid (HBY.out.trans hB); clear hO hN hB)
      go_roundg (es.length - (m + 1))
      case measure => omega
      case rel => exact ⟨m + 1, _, rfl, by go_num, by omega, rfl, by show OwnC _ _ _ _ _; rw [HTK.out]; exact HO9.out, HB9.out⟩
    · obtain rfl : m = es.length := by omega
      have hd : decide (es.length < es.length) = false := decide_eq_false (by omega)
      have hO := HO.out
      rw [List.take_length] at hO
      obtain ⟨cs, hcs⟩ : ∃ cs, cs = es.map keyC := ⟨_, rfl⟩
      rw [← hcs] at hO
      have hcl : cs.length = es.length := by rw [hcs, List.length_map]
      obtain ⟨A6, c6, rfl, _, hca⟩ := OwnC.ca hO fun x hx => by
        rw [hcs] at hx
        obtain ⟨e, he, rfl⟩ := List.mem_map.1 hx
        exact ⟨H32.out e he, Nat.le_refl 0, ba_nil12 _ _⟩
      have HCA := Lib.hid hca
      have HCK0 : Hid (chkK (cs.map Cn.k) = chkK (es.map En.k)) := by
        show _ = _
        rw [hcs, List.map_map]
        rfl
      have HQ4 := Lib.hid (HQ3.out.below nd HB.out)
      obtain ⟨m4, hm4, hh4⟩ := HQ4.out.hs
      have HH4 := Lib.hid hh4
      have HBU := Lib.hid (ba.build wr b n m4 A c es hh4 (by omega) HQ4.out.fs.vars (HEA.out.below HQ4.out.fs.bel) (by omega) HVL.out)
      unfold ptr at HBU
      have HM4 : Hid (m4 ≤ 0) := hm4
      have HCL := Lib.hid hcl
      clear hO hcs hcl hca HO hm4 hh4 hlt
      go_wp2_with fail
      refine HBU.out.mono ?_
      rintro x w5 ⟨hy, hn⟩
      obtain ⟨ck, hck⟩ : ∃ ck, ck = chkK (es.map En.k) := ⟨_, rfl⟩
      rw [← hck] at hy hn HCK0 HOE
      by_cases h0 : ck = 0
      · obtain ⟨T', rfl, hI', hm⟩ := hy h0
        have HI' : Hid (IsMap (O.map En.ent) T') := by rw [← HOE.out h0] at hI'; exact hI'
        have HM5 := Lib.hid hm.ms
        have HQ5 : Hid (Tf M W n A2 O T b 90000 w5) := HQ4.out.made nd hm.keep (by obtain ⟨c5, h5, h6⟩ := hm.hs; exact ⟨c5, by have := HM4.out; omega, h6⟩)
        obtain ⟨pN, hpN⟩ := val_ptr nd hm.ms
        rw [hpN]
        have HPN := Lib.hid hpN
        have HCK := Lib.hid (check12_c A6 c6 cs w5 (HH4.out.ca HCA.out hm.keep) (by have := HCL.out; omega))
        rw [HCK0.out, h0] at HCK
        clear hy hn hI' hm hpN hck h0 HBU HQ4 HCK0
        go_wp2_with fail
        refine HCK.out.mono ?_
        rintro _ w6 ⟨rfl, hB⟩
        have HQ6 := Lib.hid (HQ5.out.below nd hB)
        have HM6 := Lib.hid (nd.below HM5.out hB)
        obtain ⟨m6, hm6, hh6⟩ := HQ6.out.hs
        have HH6 := Lib.hid hh6
        have HOK : Hid (chkK (O.map En.k) = 0) := by
          show _ = _
          have h1 : O.map En.k = (O.map En.ent).map Ent.k := by rw [List.map_map]; rfl
          rw [h1]
          exact asc_chk _ (keys_asc HAS.out.1)
        have HBO := Lib.hid (ba.build w6 b n m6 A2 c2 O hh6 (by omega) HQ6.out.fs.vars HQ6.out.fs.ea (by have := HLE.out; omega) HVE.out)
        unfold ptr at HBO
        have HM6b : Hid (m6 ≤ 90000) := hm6
        clear hB hm6 hh6 HCK HQ5 HM5
        go_wp2_with fail
        refine HBO.out.mono ?_
        rintro x w7 ⟨hy, _⟩
        obtain ⟨T2, rfl, hI2, hm⟩ := hy HOK.out
        have HI2 := Lib.hid hI2
        have HMN := Lib.hid hm.ms
        have HM7 := Lib.hid (nd.hs HM6.out HH6.out hm.keep)
        have HQ7 : Hid (Tf M W n A2 O T b 180000 w7) := HQ6.out.made nd hm.keep (by obtain ⟨c5, h5, h6⟩ := hm.hs; exact ⟨c5, by have := HM6b.out; omega, h6⟩)
        obtain ⟨p2, hp2⟩ := val_ptr nd hm.ms
        rw [hp2]
        have HP2 := Lib.hid hp2
        clear hy hI2 hm hp2 HBO HQ6 HM6
        go_wp2_with fail
        refine (HAL.out w7 HQ7.out.fs.vars).mono ?_
        rintro _ w8 ⟨rfl, hB⟩
        have HQ8 := Lib.hid (HQ7.out.below nd hB)
        have HM8 := Lib.hid (nd.below HM7.out hB)
        have HMN8 := Lib.hid (nd.below HMN.out hB)
        obtain ⟨m8, hm8, hh8⟩ := HQ8.out.hs
        have HH8 := Lib.hid hh8
        have HIS := Lib.hid (is_c nd fv w8 b n m8 T' A2 c2 O hh8 (by omega) HQ8.out.fs.vars HM8.out HI'.out HQ8.out.fs.ea (by have := HLE.out; omega) HVE.out)
        rw [HPN.out] at HIS
        unfold ptr at HIS
        have HML8 : Hid (m8 ≤ 180000) := hm8
        clear hB hm8 hh8 HQ7 HM7 HMN
        go_wp2_with fail
        refine HIS.out.mono ?_
        rintro _ w9 ⟨rfl, c9, hc9, hh9, hk9⟩
        have HQ9 := Lib.hid (HQ8.out.made nd hk9 ⟨c9, Nat.le_refl _, hh9⟩)
        have HM9 := Lib.hid (nd.hs HM8.out HH8.out hk9)
        have HMN9 := Lib.hid (nd.hs HMN8.out HH8.out hk9)
        have HH9 := Lib.hid hh9
        obtain ⟨g, hg⟩ : ∃ g, g = rootK 257 n (O.map En.ent) 0 := ⟨_, rfl⟩
        have hgl : g.length = 32 := by rw [hg]; exact rootK_len _ _ _ _
        have HG1 : Hid (digT n T2.tr = g) := by show _ = _; rw [hg]; exact HI2.out.dig n
        have HG2 : Hid (digT n T'.tr = g) := by show _ = _; rw [hg]; exact HI'.out.dig n
        have HD := Lib.hid (nd.digest w9 b n c9 T2 hh9 (by have := HML8.out; omega) HQ9.out.fs.vars HMN9.out)
        rw [HP2.out, HG1.out] at HD
        unfold ptr at HD
        have HC9 : Hid (c9 ≤ 180001) := by show _ ≤ _; have := HML8.out; omega
        have qd : ∀ x y w, eqA .eql 42 x y w (.agg (bA g)) (.agg (bA g)) = .ok (.value (.bool true)) w := fun x y w => by rw [eqDig g g hgl hgl, decide_eq_true rfl]
        clear hc9 hh9 hk9 hg HIS HQ8 HM8 HMN8
        go_wp2_with fail
        refine HD.out.mono ?_
        rintro _ w10 ⟨c10, rfl, hc10, _, hh10, hk10⟩
        have HQ10 := Lib.hid (HQ9.out.made nd hk10 ⟨c10, Nat.le_refl _, hh10⟩)
        have HD2 := Lib.hid (nd.digest w10 b n c10 T' hh10 (by have := HC9.out; omega) HQ10.out.fs.vars (nd.hs HM9.out HH9.out hk10))
        rw [HPN.out, HG2.out] at HD2
        unfold ptr at HD2
        clear hc10 hh10 hk10 HD HQ9
        go_wp2_with fail
        refine HD2.out.mono ?_
        rintro _ w11 ⟨c11, rfl, _, _, hh11, hk11⟩
        have HQ11 := Lib.hid (HQ10.out.made nd hk11 ⟨c11, Nat.le_refl _, hh11⟩)
        clear hh11 hk11 HD2 HQ10
        go_wp2_with fail
        go_ret
        exact ⟨rfl, HQ11.out.fs.bel⟩
      · obtain ⟨rfl, hrf⟩ := hn h0
        have HQ5 : Hid (Tf M W n A2 O T b 90000 w5) := HQ4.out.made nd hrf.keep (by obtain ⟨c5, h5, h6⟩ := hrf.hs; exact ⟨c5, by have := HM4.out; omega, h6⟩)
        have HCK := Lib.hid (check12_c A6 c6 cs w5 (HH4.out.ca HCA.out hrf.keep) (by have := HCL.out; omega))
        rw [HCK0.out] at HCK
        have bn : (ck != 0) = true := by simpa using h0
        have be : (ck == ck) = true := beq_self_eq_true ck
        clear hy hn hrf hck h0 HBU HQ4 HCK0 HOE
        go_wp2_with fail
        refine HCK.out.mono ?_
        rintro _ w6 ⟨rfl, hB⟩
        have HQ6 := Lib.hid (HQ5.out.below nd hB)
        clear hB HCK HQ5
        go_wp2_with fail
        refine (HAL.out w6 HQ6.out.fs.vars).mono ?_
        rintro _ w7 ⟨rfl, hB⟩
        have HQ7 := Lib.hid (HQ6.out.below nd hB)
        clear hB HQ6
        go_wp2_with fail
        go_ret
        exact ⟨rfl, HQ7.out.fs.bel⟩
end Go.Proofs.YtaajnjddfcdeaaaGreatDoor

/- The walk of BatchDiffs over contracts. -/
namespace Go.Proofs.YtaajnjddfcdeaaaGreatDoor
open Go.RowKit

end Go.Proofs.YtaajnjddfcdeaaaGreatDoor

/- The walk of BatchAgrees over contracts. -/
namespace Go.Proofs.YtaajnjddfcdeaaaGreatDoor
open Go.RowKit

set_option maxHeartbeats 16000000 in
set_option maxRecDepth 100000 in
/-- Other bits, or entries that are not few: alive. -/
theorem agrees_out {M : World → Int → Tv → Prop} (nd : NdV M) (ba : BaV M) (n : Int) (A : Option Addr) (c : Nat) (es : List En) (B : Option Addr) (cB : Nat) (xs : List Cn) (W : World) (hA : EA W A es) (hvx : Vars W) (h : (n < 0 ∨ 256 < n) ∨ fewK (es.map En.ent) = false) :
    Calls Tryz.prog 5 #[.int .i64 n, .slice A es.length c, .slice B xs.length cB] W (Aye W) := by
  have HVX := Lib.hid hvx
  have HT := Lib.hid (tree_out n A c es W hA h)
  have HAL : Hid (∀ w, Vars w → Calls Tryz.prog 10 #[] w fun e w' => e = .returned (.bool true) ∧ Below w.heap.size w w') := fun w h => alive12_c nd ba w h
  clear hA hvx h
  go_enter Tryz.func5, Tryz.ntmps5
  go_wp2_with fail
  refine HT.out.mono ?_
  rintro _ w2 ⟨rfl, hB⟩
  have HB := Lib.hid hB
  clear hB HT
  go_wp2_with fail
  refine (hash_any n w2).mono ?_
  rintro _ w3 ⟨p, rfl, hB⟩
  have HB3 := Lib.hid (HB.out.trans (hB.mono HB.out.size))
  clear hB HB
  go_wp2_with fail
  refine (HAL.out w3 (HVX.out.below HB3.out)).mono ?_
  rintro _ w4 ⟨rfl, hB⟩
  have HB4 := Lib.hid (HB3.out.trans (hB.mono HB3.out.size))
  clear hB
  go_wp2_with fail
  go_ret
  exact ⟨rfl, HB4.out⟩
set_option maxHeartbeats 16000000 in
set_option maxRecDepth 100000 in
/-- Changes that are not few: alive. -/
theorem agrees_many {M : World → Int → Tv → Prop} (nd : NdV M) (ba : BaV M) (n : Int) (A : Option Addr) (c : Nat) (es : List En) (B : Option Addr) (cB : Nat) (xs : List Cn) (W : World) (hA : EA W A es) (hl : es.length ≤ 12) (hvl : ∀ e ∈ es, e.v.length ≤ 1000) (hf : fewK (es.map En.ent) = true) (hvx : Vars W) (h0 : 0 ≤ n) (h1 : n ≤ 256) (hX : CA W B xs) (hfc : fewC (xs.map Cn.chg) = false) :
    Calls Tryz.prog 5 #[.int .i64 n, .slice A es.length c, .slice B xs.length cB] W (Aye W) := by
  have HT := Lib.hid (tree_in nd n A c es W hA hl hvl hf hvx h0 h1)
  have HX := Lib.hid hX
  have HFC := Lib.hid hfc
  have HAL : Hid (∀ w, Vars w → Calls Tryz.prog 10 #[] w fun e w' => e = .returned (.bool true) ∧ Below w.heap.size w w') := fun w h => alive12_c nd ba w h
  clear hA hvl hf hvx hX hfc
  go_enter Tryz.func5, Tryz.ntmps5
  go_wp2_with fail
  refine HT.out.mono ?_
  rintro _ w2 ⟨A2, c2, T, rfl, hc2, hI, hF⟩
  obtain ⟨pT, hpT⟩ := val_ptr nd hF.ms
  rw [hpT]
  obtain ⟨O, hO⟩ : ∃ O, O = ofE es := ⟨_, rfl⟩
  rw [← hO]
  have HH := Lib.hid (hash_in n w2 h0 h1)
  have HB2 := Lib.hid hF.bel
  have HV2 := Lib.hid hF.vars
  clear hc2 hI hF HT hpT hO
  go_wp2_with fail
  refine HH.out.mono ?_
  rintro _ w3 ⟨b, rfl, hbn, hH, hB⟩
  have HB3 := Lib.hid (HB2.out.trans (hB.mono HB2.out.size))
  have HV3 := Lib.hid (HV2.out.below hB)
  have HFW := Lib.hid (few12_c B cB xs w3 (HX.out.below HB3.out))
  rw [HFC.out] at HFW
  clear hH hbn hB HH
  unfold ptr
  go_wp2_with fail
  refine HFW.out.mono ?_
  rintro _ _ ⟨rfl, rfl⟩
  clear HFW
  go_wp2_with fail
  refine (HAL.out w3 HV3.out).mono ?_
  rintro _ w4 ⟨rfl, hB⟩
  have HB4 := Lib.hid (HB3.out.trans (hB.mono HB3.out.size))
  clear hB
  go_wp2_with fail
  go_ret
  exact ⟨rfl, HB4.out⟩
set_option maxHeartbeats 16000000 in
set_option maxRecDepth 100000 in
/-- Changes that are not sorted: alive. -/
theorem agrees_uns {M : World → Int → Tv → Prop} (nd : NdV M) (ba : BaV M) (n : Int) (A : Option Addr) (c : Nat) (es : List En) (B : Option Addr) (cB : Nat) (xs : List Cn) (W : World) (hA : EA W A es) (hl : es.length ≤ 12) (hvl : ∀ e ∈ es, e.v.length ≤ 1000) (hf : fewK (es.map En.ent) = true) (hvx : Vars W) (h0 : 0 ≤ n) (h1 : n ≤ 256) (hX : CA W B xs) (hfc : fewC (xs.map Cn.chg) = true) (hck : chkK (xs.map Cn.k) ≠ 0) :
    Calls Tryz.prog 5 #[.int .i64 n, .slice A es.length c, .slice B xs.length cB] W (Aye W) := by
  have HT := Lib.hid (tree_in nd n A c es W hA hl hvl hf hvx h0 h1)
  have HX := Lib.hid hX
  have HFC := Lib.hid hfc
  have HXL := Lib.hid (few12_len hfc).1
  have HCK := Lib.hid hck
  have HAL : Hid (∀ w, Vars w → Calls Tryz.prog 10 #[] w fun e w' => e = .returned (.bool true) ∧ Below w.heap.size w w') := fun w h => alive12_c nd ba w h
  clear hA hvl hf hvx hX hfc hck
  go_enter Tryz.func5, Tryz.ntmps5
  go_wp2_with fail
  refine HT.out.mono ?_
  rintro _ w2 ⟨A2, c2, T, rfl, hc2, hI, hF⟩
  obtain ⟨pT, hpT⟩ := val_ptr nd hF.ms
  rw [hpT]
  obtain ⟨O, hO⟩ : ∃ O, O = ofE es := ⟨_, rfl⟩
  rw [← hO]
  have HH := Lib.hid (hash_in n w2 h0 h1)
  have HB2 := Lib.hid hF.bel
  have HV2 := Lib.hid hF.vars
  clear hc2 hI hF HT hpT hO
  go_wp2_with fail
  refine HH.out.mono ?_
  rintro _ w3 ⟨b, rfl, hbn, hH, hB⟩
  have HB3 := Lib.hid (HB2.out.trans (hB.mono HB2.out.size))
  have HV3 := Lib.hid (HV2.out.below hB)
  have HFW := Lib.hid (few12_c B cB xs w3 (HX.out.below HB3.out))
  rw [HFC.out] at HFW
  have HCH := Lib.hid (check12_c B cB xs w3 (HX.out.below HB3.out) (by have := HXL.out; omega))
  obtain ⟨ck, hck⟩ : ∃ ck, ck = chkK (xs.map Cn.k) := ⟨_, rfl⟩
  rw [← hck] at HCH HCK
  have bn : (ck != 0) = true := by simpa using HCK.out
  clear hH hbn hB HH hck
  unfold ptr
  go_wp2_with fail
  refine HFW.out.mono ?_
  rintro _ _ ⟨rfl, rfl⟩
  clear HFW
  go_wp2_with fail
  refine HCH.out.mono ?_
  rintro _ w4 ⟨rfl, hB⟩
  have HB4 := Lib.hid (HB3.out.trans (hB.mono HB3.out.size))
  have HV4 := Lib.hid (HV3.out.below hB)
  clear hB HCH HB3 HV3
  go_wp2_with fail
  refine (HAL.out w4 HV4.out).mono ?_
  rintro _ w5 ⟨rfl, hB⟩
  have HB5 := Lib.hid (HB4.out.trans (hB.mono HB4.out.size))
  clear hB
  go_wp2_with fail
  go_ret
  exact ⟨rfl, HB5.out⟩
set_option maxHeartbeats 16000000 in
set_option maxRecDepth 100000 in
theorem agrees_in {M : World → Int → Tv → Prop} (nd : NdV M) (pv : PtV M) (rm : RmV M) (ba : BaV M) (n : Int) (A : Option Addr) (c : Nat) (es : List En) (B : Option Addr) (cB : Nat) (xs : List Cn) (W : World) (hA : EA W A es) (hl : es.length ≤ 12) (hvl : ∀ e ∈ es, e.v.length ≤ 1000) (hf : fewK (es.map En.ent) = true) (hvx : Vars W) (h0 : 0 ≤ n) (h1 : n ≤ 256) (hX : CA W B xs) (hfc : fewC (xs.map Cn.chg) = true) (hck : chkK (xs.map Cn.k) = 0) :
    Calls Tryz.prog 5 #[.int .i64 n, .slice A es.length c, .slice B xs.length cB] W (Aye W) := by
  have HT := Lib.hid (tree_in nd n A c es W hA hl hvl hf hvx h0 h1)
  have HVE : Hid (∀ e ∈ ofE es, e.v.length ≤ 1000) := fun e he => hvl e (ofE_mem he)
  have HLE : Hid ((ofE es).length ≤ 12) := Nat.le_trans (ofE_len es) hl
  have HAS : Hid (Asc ((ofE es).map En.ent) ∧ Len32 ((ofE es).map En.ent)) := by
    rw [ofE_ent]
    have h32 : ∀ x ∈ es.map En.ent, x.k.length = 32 := fun x hx => by
      obtain ⟨e, he, rfl⟩ := List.mem_map.1 hx
      obtain ⟨i, hi⟩ := List.getElem?_of_mem he
      exact (hA i e hi).1.key
    refine ⟨ofK_asc h32, fun x hx => ?_⟩
    rw [← ofE_ent] at hx
    obtain ⟨e, he, rfl⟩ := List.mem_map.1 hx
    exact h32 _ (List.mem_map.2 ⟨e, ofE_mem he, rfl⟩)
  have HX := Lib.hid hX
  have HXL := Lib.hid (few12_len hfc).1
  have HXV := Lib.hid (few12_len hfc).2
  have HFC := Lib.hid hfc
  have HXK : Hid (∀ c ∈ xs.map Cn.chg, c.k.length = 32) := fun y hy => by
    obtain ⟨x, hx, rfl⟩ := List.mem_map.1 hy
    exact (hX.ok x hx).key
  have HAL : Hid (∀ w, Vars w → Calls Tryz.prog 10 #[] w fun e w' => e = .returned (.bool true) ∧ Below w.heap.size w w') := fun w h => alive12_c nd ba w h
  have HCKE := Lib.hid hck
  clear hA hvl hf hvx hX hfc hck
  go_enter Tryz.func5, Tryz.ntmps5
  go_wp2_with fail
  refine HT.out.mono ?_
  rintro _ w2 ⟨A2, c2, T, rfl, hc2, hI, hF⟩
  have HI := Lib.hid hI
  have HF2 := Lib.hid hF
  obtain ⟨O, hO⟩ : ∃ O, O = ofE es := ⟨_, rfl⟩
  rw [← hO] at HI HF2 HVE HLE HAS ⊢
  obtain ⟨pT, hpT⟩ := val_ptr nd hF.ms
  have HPT := Lib.hid hpT
  rw [hpT]
  have HH := Lib.hid (hash_in n w2 h0 h1)
  clear hc2 hI hF HT hO hpT
  go_wp2_with fail
  refine HH.out.mono ?_
  rintro _ w3 ⟨b, rfl, hbn, hH, hB⟩
  have HQ3 : Hid (Tf M W n A2 O T b 0 w3) := ⟨HF2.out.below nd hB, ⟨0, Nat.le_refl _, hH⟩, Nat.le_trans HF2.out.bel.size hbn⟩
  have HX3 := Lib.hid (HX.out.below HQ3.out.fs.bel)
  have HFW := Lib.hid (few12_c B cB xs w3 HX3.out)
  rw [HFC.out] at HFW
  clear hH hbn hB HH HF2
  unfold ptr
  go_wp2_with fail
  refine HFW.out.mono ?_
  rintro _ _ ⟨rfl, rfl⟩
  have HCH := Lib.hid (check12_c B cB xs w3 HX3.out (by have := HXL.out; omega))
  rw [HCKE.out] at HCH
  obtain ⟨l, hl0⟩ : ∃ l, l = O.map En.ent := ⟨_, rfl⟩
  rw [← hl0] at HI HAS
  have HLL : Hid (l.length ≤ 12) := by rw [hl0, List.length_map]; exact HLE.out
  have hxl9 : xs.length ≤ 20 := HXL.out
  clear HFW hl0
  go_wp2_with fail
  refine HCH.out.mono ?_
  rintro _ w4 ⟨rfl, hB⟩
  have HQ4 := Lib.hid (HQ3.out.below nd hB)
  have HCG := Lib.hid (changes_c B cB xs w4 (HX.out.below HQ4.out.fs.bel) (by omega))
  clear hB HCH HQ3 HX3
  go_wp2_with fail
  refine HCG.out.mono ?_
  rintro _ w5 ⟨A5, c5, rfl, hca, hcl, hB⟩
  have HQ5 := Lib.hid (HQ4.out.below nd hB)
  obtain ⟨m5, hm5, hh5⟩ := HQ5.out.hs
  have HAP := Lib.hid (ba.apply w5 b n m5 l T A5 c5 xs hh5 (by omega) HQ5.out.fs.vars HQ5.out.fs.ms HI.out (by have := HLL.out; omega) hca hcl (by omega) HXV.out)
  rw [HPT.out] at HAP
  unfold ptr at HAP
  have HM5 : Hid (m5 ≤ 0) := hm5
  clear hca hcl hB hm5 hh5 HCG HQ4
  go_wp2_with fail
  refine HAP.out.mono ?_
  rintro x w6 ⟨hy, _⟩
  obtain ⟨T', rfl, hI', hm⟩ := hy HCKE.out
  have HI' := Lib.hid hI'
  have HQ6 : Hid (Tf M W n A2 O T b (90000 + 1000 * 0) w6) := HQ5.out.made nd hm.keep (by obtain ⟨c5, h5, h6⟩ := hm.hs; exact ⟨c5, by have := HM5.out; omega, h6⟩)
  obtain ⟨pN, hpN⟩ := val_ptr nd hm.ms
  rw [hpN]
  have HPN := Lib.hid hpN
  have HST : Hid (T.val = .pointer pT ∧ IsMap (appC l ((xs.take 0).map Cn.chg)) T ∧ M w6 n T ∧ M w6 n T' ∧ Tf M W n A2 O T b (90000 + 1000 * 0) w6) := ⟨HPT.out, HI.out, HQ6.out.fs.ms, hm.ms, HQ6.out⟩
  clear hy hI' hm hpN HAP HQ5
  go_wp2_with fail
  go_loopg [13, 49] xs.length (fun gg yv iv wr => ∃ (m : Nat) (S : Tv) (pS : Option Addr), yv = .pointer pS ∧ iv = .int .i64 (m : Int) ∧ m ≤ xs.length ∧ xs.length - m = gg ∧ Hid (S.val = .pointer pS ∧ IsMap (appC l ((xs.take m).map Cn.chg)) S ∧ M wr n S ∧ M wr n T' ∧ Tf M W n A2 O T b (90000 + 1000 * m) wr))
  case atStart => exact ⟨0, T, pT, rfl, rfl, by omega, by omega, HST.out⟩
  case round =>
    obtain ⟨m, S, pS, rfl, rfl, hm, rfl, HRR⟩ := hrel
    by_cases hlt : m < xs.length
    · have hd : decide (m < xs.length) = true := decide_eq_true hlt
      obtain ⟨x, hx⟩ : ∃ x, xs[m]? = some x := ⟨_, List.getElem?_eq_getElem hlt⟩
      obtain ⟨hok, g, o, rfl, hr⟩ := HX.out m x hx
      obtain ⟨hpS, hIS, hMS, hMN, hTf⟩ := HRR.out
      have HOK := Lib.hid (hok.below hTf.fs.bel)
      have le := range_cr (range_below hr hTf.fs.bel) hok.key
      obtain ⟨Y, hY⟩ : ∃ Y, Y = wr.alloc (.cells (cnC x).toArray 36) := ⟨_, rfl⟩
      have hbY : Below wr.heap.size wr Y := by rw [hY]; exact (Below.refl _ _).alloc (Nat.le_refl _) _
      have st : stA 36 (wr.alloc (.cells (cnC zC12).toArray 36)) (.pointer (some ⟨wr.heap.size, 0, none⟩)) (.agg (cnC x).toArray) = .ok .skip Y := by rw [hY]; exact stC_new infoCr1 hok.key rfl
      have zv := changes_c_z
      have hrg : Y.rangeAt wr.heap.size 0 (cnC x) := by rw [hY]; exact cn_made wr x _
      have ld : Y.cell? ⟨wr.heap.size, 33, none⟩ = some (.bool x.d) := by have := range_cdel hrg hok.key; rwa [Nat.zero_add] at this
      have lk : ldA 31 Y (.pointer (some ⟨wr.heap.size, 0, none⟩)) = .ok (.value (.agg (bA x.k))) Y := range_ckey hrg hok.key
      have lv : Y.cell? ⟨wr.heap.size, 32, none⟩ = some (.slice x.A x.v.length x.c) := by have := range_cval hrg hok.key; rwa [Nat.zero_add] at this
      have HQY := Lib.hid (hTf.below nd hbY)
      have HMY := Lib.hid (nd.below hMS hbY)
      have HMN := Lib.hid (nd.below hMN hbY)
      obtain ⟨mm, hmm, hhm⟩ := HQY.out.hs
      have HHM := Lib.hid hhm
      have HIS := Lib.hid hIS
      have HTK := Lib.hid (take_chg hx)
      have HOY := Lib.hid (HOK.out.below hbY)
      have HXV1 : Hid (x.v.length ≤ 1000) := HXV.out x (List.mem_of_getElem? hx)
      have HLN : Hid ((appC l ((xs.take m).map Cn.chg)).length ≤ 32) := by
        show _ ≤ _
        have h1 := appC_len ((xs.take m).map Cn.chg) l
        rw [List.length_map, List.length_take] at h1
        have := HLL.out
        omega
      have HMM : Hid (mm ≤ 90000 + 1000 * m) := hmm
      have p0 : (0 : Int) ≤ (m : Int) := by omega
      have p1 : (m : Int) < (xs.length : Int) := by omega
      obtain ⟨dd, hdd⟩ : ∃ dd, dd = x.d := ⟨_, rfl⟩
      rw [← hdd] at ld
      have HDD := Lib.hid hdd
      have HRM := Lib.hid (rm.remove Y b n mm (appC l ((xs.take m).map Cn.chg)) S x.k hhm (by omega) HQY.out.fs.vars HMY.out hIS (by have := HLN.out; omega) hok.key)
      have HPT2 := Lib.hid (pv.put Y b n mm (appC l ((xs.take m).map Cn.chg)) S ⟨x.k, x.A, x.v, x.c⟩ hhm (by omega) HQY.out.fs.vars HMY.out hIS (by have := HLN.out; omega) ⟨HOY.out.key, HOY.out.cap, HOY.out.val⟩ HXV1.out)
      rw [hpS] at HRM HPT2
      unfold ptr at HRM HPT2
      clear hx hok hr hpS hIS hMS hMN hTf hY hbY hrg hmm hhm hdd HRR
      cases dd with
      | true =>
        clear HPT2
        go_wp2_with fail
        refine HRM.out.mono ?_
        rintro _ w7 ⟨T2, rfl, hI2, hm2, _⟩
        obtain ⟨p2, hp2⟩ := val_ptr nd hm2.ms
        rw [hp2]
        have HF : Hid (T2.val = .pointer p2 ∧ IsMap (appC l ((xs.take (m + 1)).map Cn.chg)) T2 ∧ M w7 n T2 ∧ M w7 n T' ∧ Tf M W n A2 O T b (90000 + 1000 * (m + 1)) w7) := by
          refine ⟨hp2, ?_, hm2.ms, nd.hs HMN.out HHM.out hm2.keep, HQY.out.made nd hm2.keep (by obtain ⟨c5, h5, h6⟩ := hm2.hs; exact ⟨c5, by have := HMM.out; omega, h6⟩)⟩
          rw [HTK.out, appC_snoc]
          unfold stepC
          rw [if_pos (show x.chg.d = true from HDD.out.symm)]
          exact hI2
        clear hI2 hm2 hp2 HRM lk lv ld st le
        go_wp2_with fail
        go_roundg (xs.length - (m + 1))
        case measure => omega
        case rel => exact ⟨m + 1, T2, p2, rfl, by go_num, by omega, rfl, HF.out⟩
      | false =>
        clear HRM
        have bl := fun w => bldEntry (⟨x.k, x.A, x.v, x.c⟩ : En) HOY.out.key w
        go_wp2_with fail
        refine HPT2.out.mono ?_
        rintro _ w7 ⟨T2, rfl, hI2, hm2⟩
        obtain ⟨p2, hp2⟩ := val_ptr nd hm2.ms
        rw [hp2]
        have HF : Hid (T2.val = .pointer p2 ∧ IsMap (appC l ((xs.take (m + 1)).map Cn.chg)) T2 ∧ M w7 n T2 ∧ M w7 n T' ∧ Tf M W n A2 O T b (90000 + 1000 * (m + 1)) w7) := by
          refine ⟨hp2, ?_, hm2.ms, nd.hs HMN.out HHM.out hm2.keep, HQY.out.made nd hm2.keep (by obtain ⟨c5, h5, h6⟩ := hm2.hs; exact ⟨c5, by have := HMM.out; omega, h6⟩)⟩
          rw [HTK.out, appC_snoc]
          unfold stepC
          rw [if_neg (show ¬ x.chg.d = true from fun h => by have h2 : x.d = true := h; rw [← HDD.out] at h2; cases h2)]
          exact hI2
        clear hI2 hm2 hp2 HPT2 lk lv ld st le bl
        go_wp2_with fail
        go_roundg (xs.length - (m + 1))
        case measure => omega
        case rel => exact ⟨m + 1, T2, p2, rfl, by go_num, by omega, rfl, HF.out⟩
    · obtain rfl : m = xs.length := by omega
      have hd : decide (xs.length < xs.length) = false := decide_eq_false (by omega)
      obtain ⟨hpS, hIS, hMS, hMN, hTf⟩ := HRR.out
      rw [List.take_length] at hIS
      have HIS := Lib.hid hIS
      have HMS := Lib.hid hMS
      have HMN := Lib.hid hMN
      have HTF : Hid (Tf M W n A2 O T b (90000 + 1000 * xs.length) wr) := hTf
      have HPS := Lib.hid hpS
      clear hpS hIS hMS hMN hTf HRR hlt
      go_wp2_with fail
      refine (HAL.out wr HTF.out.fs.vars).mono ?_
      rintro _ w8 ⟨rfl, hB⟩
      have HQ8 := Lib.hid (HTF.out.below nd hB)
      have HMS8 := Lib.hid (nd.below HMS.out hB)
      have HMN8 := Lib.hid (nd.below HMN.out hB)
      obtain ⟨m8, hm8, hh8⟩ := HQ8.out.hs
      have HH8 := Lib.hid hh8
      obtain ⟨R, hR⟩ : ∃ R, R = appC l (xs.map Cn.chg) := ⟨_, rfl⟩
      have HRL : Hid (R.length ≤ 32) := by
        show _ ≤ _
        have h1 := appC_len (xs.map Cn.chg) l
        rw [← hR, List.length_map] at h1
        have := HLL.out
        omega
      rw [← hR] at HIS HI'
      obtain ⟨q, hq⟩ : ∃ q, q = rootK 257 n R 0 := ⟨_, rfl⟩
      have hql : q.length = 32 := by rw [hq]; exact rootK_len _ _ _ _
      have HG1 : Hid (digT n T'.tr = q) := by show _ = _; rw [hq]; exact HI'.out.dig n
      have HG2 : Hid (digT n S.tr = q) := by show _ = _; rw [hq]; exact HIS.out.dig n
      have HD := Lib.hid (nd.digest w8 b n m8 T' hh8 (by omega) HQ8.out.fs.vars HMN8.out)
      rw [HPN.out, HG1.out] at HD
      unfold ptr at HD
      have HM8 : Hid (m8 ≤ 110000) := by show _ ≤ _; omega
      have qd : ∀ x y w, eqA .eql 42 x y w (.agg (bA q)) (.agg (bA q)) = .ok (.value (.bool true)) w := fun x y w => by rw [eqDig q q hql hql, decide_eq_true rfl]
      clear hB hm8 hh8 hR hq HTF HMS HMN
      go_wp2_with fail
      refine HD.out.mono ?_
      rintro _ w9 ⟨c9, rfl, hc9, _, hh9, hk9⟩
      have HQ9 := Lib.hid (HQ8.out.made nd hk9 ⟨c9, Nat.le_refl _, hh9⟩)
      have HMS9 := Lib.hid (nd.hs HMS8.out HH8.out hk9)
      have HMN9 := Lib.hid (nd.hs HMN8.out HH8.out hk9)
      have HH9 := Lib.hid hh9
      have HD2 := Lib.hid (nd.digest w9 b n c9 S hh9 (by have := HM8.out; omega) HQ9.out.fs.vars HMS9.out)
      rw [HPS.out, HG2.out] at HD2
      unfold ptr at HD2
      clear hc9 hh9 hk9 HD HQ8 HMS8 HMN8
      go_wp2_with fail
      refine HD2.out.mono ?_
      rintro _ w10 ⟨c10, rfl, _, _, hh10, hk10⟩
      have HQ10 := Lib.hid (HQ9.out.made nd hk10 ⟨c10, Nat.le_refl _, hh10⟩)
      have HMN10 := Lib.hid (nd.hs HMN9.out HH9.out hk10)
      have HMS10 := Lib.hid (nd.hs HMS9.out HH9.out hk10)
      have HL1 := Lib.hid (nd.len w10 n T' HMN10.out (by rw [HI'.out.len]; have := HRL.out; omega))
      rw [HI'.out.len, HPN.out] at HL1
      obtain ⟨N, hN⟩ : ∃ N, N = R.length := ⟨_, rfl⟩
      rw [← hN] at HL1
      have HN := Lib.hid hN
      have bq : ((N : Int) == (N : Int)) = true := beq_self_eq_true _
      clear hh10 hk10 HD2 HQ9 HMN9 HMS9 hN
      go_wp2_with fail
      refine HL1.out.mono ?_
      rintro _ w11 ⟨rfl, hB⟩
      have HQ11 := Lib.hid (HQ10.out.below nd hB)
      have HL2 := Lib.hid (nd.len w11 n S (nd.below HMS10.out hB) (by rw [HIS.out.len]; have := HRL.out; omega))
      rw [HIS.out.len, HPS.out, ← HN.out] at HL2
      clear hB HL1 HQ10
      go_wp2_with fail
      refine HL2.out.mono ?_
      rintro _ w12 ⟨rfl, hB⟩
      have HQ12 := Lib.hid (HQ11.out.below nd hB)
      clear hB HL2
      go_wp2_with fail
      go_ret
      exact ⟨rfl, HQ12.out.fs.bel⟩
end Go.Proofs.YtaajnjddfcdeaaaGreatDoor

/- The laws of layer 12, their cases together. -/
namespace Go.Proofs.YtaajnjddfcdeaaaGreatDoor
open Go.RowKit

theorem builds12_w {M : World → Int → Tv → Prop} (nd : NdV M) (fv : FnV M) (ba : BaV M) (n : Int) (A : Option Addr) (c : Nat) (es : List En) (W : World) (hA : EA W A es) (hvx : Vars W) : Calls Tryz.prog 3 #[.int .i64 n, .slice A es.length c] W (Aye W) := by
  rcases few_cases12 n es with h | ⟨h0, h1, hf, hl, hvl⟩
  · exact builds_out nd ba n A c es W hA hvx h
  · exact builds_in nd fv ba n A c es W hA hl hvl hf hvx h0 h1
theorem applies12_w {M : World → Int → Tv → Prop} (nd : NdV M) (fv : FnV M) (ba : BaV M) (n : Int) (A : Option Addr) (c : Nat) (es : List En) (B : Option Addr) (cB : Nat) (xs : List Cn) (W : World) (hA : EA W A es) (hvx : Vars W) (hX : CA W B xs) : Calls Tryz.prog 4 #[.int .i64 n, .slice A es.length c, .slice B xs.length cB] W (Aye W) := by
  rcases few_cases12 n es with h | ⟨h0, h1, hf, hl, hvl⟩
  · exact applies_out nd ba n A c es B cB xs W hA hvx h
  · cases hfc : fewC (xs.map Cn.chg)
    · exact applies_many nd ba n A c es B cB xs W hA hl hvl hf hvx h0 h1 hX hfc
    · exact applies_in nd fv ba n A c es B cB xs W hA hl hvl hf hvx h0 h1 hX hfc
theorem undoes12_w {M : World → Int → Tv → Prop} (nd : NdV M) (ba : BaV M) (n : Int) (A : Option Addr) (c : Nat) (es : List En) (B : Option Addr) (cB : Nat) (xs : List Cn) (W : World) (hA : EA W A es) (hvx : Vars W) (hX : CA W B xs) : Calls Tryz.prog 7 #[.int .i64 n, .slice A es.length c, .slice B xs.length cB] W (Aye W) := by
  rcases few_cases12 n es with h | ⟨h0, h1, hf, hl, hvl⟩
  · exact undoes_out nd ba n A c es B cB xs W hA hvx h
  · cases hfc : fewC (xs.map Cn.chg)
    · exact undoes_many nd ba n A c es B cB xs W hA hl hvl hf hvx h0 h1 hX hfc
    · exact undoes_in nd ba n A c es B cB xs W hA hl hvl hf hvx h0 h1 hX hfc
theorem leads12_w {M : World → Int → Tv → Prop} (nd : NdV M) (fv : FnV M) (ba : BaV M) (n : Int) (A : Option Addr) (c : Nat) (es : List En) (B : Option Addr) (cB : Nat) (bs : List En) (W : World) (hA : EA W A es) (hvx : Vars W) (hB : EA W B bs) : Calls Tryz.prog 6 #[.int .i64 n, .slice A es.length c, .slice B bs.length cB] W (Aye W) := by
  rcases few_cases12 n es with h | ⟨h0, h1, hf, hl, hvl⟩
  · exact leads_no nd ba n A c es B cB bs W hA hB hvx (.inl h)
  · rcases few_cases12 n bs with h | ⟨_, _, hf2, hl2, hvl2⟩
    · exact leads_no nd ba n A c es B cB bs W hA hB hvx (.inr h)
    · exact leads_in nd fv ba n A c es B cB bs W hA hl hvl hf hB hl2 hvl2 hf2 hvx h0 h1
theorem agrees12_w {M : World → Int → Tv → Prop} (nd : NdV M) (pv : PtV M) (rm : RmV M) (ba : BaV M) (n : Int) (A : Option Addr) (c : Nat) (es : List En) (B : Option Addr) (cB : Nat) (xs : List Cn) (W : World) (hA : EA W A es) (hvx : Vars W) (hX : CA W B xs) : Calls Tryz.prog 5 #[.int .i64 n, .slice A es.length c, .slice B xs.length cB] W (Aye W) := by
  rcases few_cases12 n es with h | ⟨h0, h1, hf, hl, hvl⟩
  · exact agrees_out nd ba n A c es B cB xs W hA hvx h
  · cases hfc : fewC (xs.map Cn.chg)
    · exact agrees_many nd ba n A c es B cB xs W hA hl hvl hf hvx h0 h1 hX hfc
    · by_cases hck : chkK (xs.map Cn.k) = 0
      · exact agrees_in nd pv rm ba n A c es B cB xs W hA hl hvl hf hvx h0 h1 hX hfc hck
      · exact agrees_uns nd ba n A c es B cB xs W hA hl hvl hf hvx h0 h1 hX hfc hck
end Go.Proofs.YtaajnjddfcdeaaaGreatDoor
