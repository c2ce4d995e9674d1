/- Several texts in one: Jg Jh Ji Jj Jk Jl Jm Jn Jo Jq Jr Js Jt. -/
import Derived.Test.YtaajnjddfcdeaaaDoorJ1
import Derived.Test.YtaajnjddfcdeaaaDoorMO
import Derived.Test.YtaajnjddfcdeaaaDoorMU
import Derived.Test.YtaajnjddfcdeaaaDoorNg
/- The reference's Same of changes that are the same; the law's conversions of changes. -/
namespace Go.Proofs.YtaajnjddfcdeaaaDoor
open Go.RowKit

set_option maxHeartbeats 16000000 in
set_option maxRecDepth 100000 in
theorem same12_yes (A B : Option Addr) (c d : Nat) (xs ys : List Cn) (w : World) (hA : CA w A xs) (hB : CA w B ys) (hn : xs.length ≤ 1000) (ha : ∀ e ∈ xs, e.v.length ≤ 1000) (he : xs.map Cn.chg = ys.map Cn.chg) :
    Calls Tryd.prog 6 #[.slice A xs.length c, .slice B ys.length d] w fun e w' => e = .returned (.bool true) ∧ Below w.heap.size w w' := by
  have HA := Lib.hid hA
  have HB := Lib.hid hB
  have HVA := Lib.hid ha
  have HE := Lib.hid he
  have hl : ys.length = xs.length := by
    have := congrArg List.length he
    rw [List.length_map, List.length_map] at this
    exact this.symm
  obtain ⟨N, hN⟩ : ∃ N, N = xs.length := ⟨_, rfl⟩
  rw [hl, ← hN]
  have HNX := Lib.hid hN
  have HNY : Hid (N = ys.length) := by show _ = _; rw [hN, hl]
  have hn9 : N ≤ 1000 := by omega
  have dn : ((N : Int) != (N : Int)) = false := by simp
  clear hA hB ha he hl hN hn
  go_enter Tryd.func6, Tryd.ntmps6
  go_wp2_with fail
  go_loopg [5] N (fun gg i wr => ∃ m : Nat, i = .int .i64 (m : Int) ∧ m ≤ N ∧ N - m = gg ∧ Below w.heap.size w wr)
  case atStart => exact ⟨0, rfl, by omega, by omega, Below.refl _ _⟩
  case round =>
    obtain ⟨m, rfl, hml, rfl, hBw⟩ := hrel
    have HBw := Lib.hid hBw
    clear hBw
    by_cases hlt : m < N
    · have hd : decide (m < N) = true := decide_eq_true hlt
      obtain ⟨e, he⟩ : ∃ e, xs[m]? = some e := ⟨_, List.getElem?_eq_getElem (by have := HNX.out; omega)⟩
      obtain ⟨f, hf⟩ : ∃ f, ys[m]? = some f := ⟨_, List.getElem?_eq_getElem (by have := HNY.out; omega)⟩
      obtain ⟨hok, g, o, rfl, hr⟩ := HA.out m e he
      obtain ⟨hok2, g2, o2, rfl, hr2⟩ := HB.out m f hf
      have hch : e.chg = f.chg := by
        have h1 : (xs.map Cn.chg)[m]? = (ys.map Cn.chg)[m]? := by rw [HE.out]
        rw [List.getElem?_map, List.getElem?_map, he, hf] at h1
        exact Option.some.inj h1
      have hk : e.k = f.k := congrArg Chg.k hch
      have hv : e.v = f.v := congrArg Chg.v hch
      have hdd : e.d = f.d := congrArg Chg.d hch
      have hve : e.v.length ≤ 1000 := HVA.out e (List.mem_of_getElem? he)
      have HR1 := Lib.hid (range_below hr HBw.out)
      have HR2 := Lib.hid (range_below hr2 HBw.out)
      have HK1 := Lib.hid hok.key
      have HK2 := Lib.hid hok2.key
      have HV1 := Lib.hid (hok.val.below HBw.out)
      have HV2 := Lib.hid (hok2.val.below HBw.out)
      have p0 : (0 : Int) ≤ (m : Int) := by omega
      have p1 : (m : Int) < (N : Int) := by omega
      obtain ⟨dd, hdq⟩ : ∃ dd, dd = e.d := ⟨_, rfl⟩
      have l1 : ∀ q : Later wr, ldA 44 q.w (.pointer (some ⟨g, o + m * 34, none⟩)) = .ok (.value (.agg (bA e.k))) q.w := fun q => range_ckey (range_below HR1.out q.h) HK1.out
      have l2 : ∀ q : Later wr, ldA 44 q.w (.pointer (some ⟨g2, o2 + m * 34, none⟩)) = .ok (.value (.agg (bA f.k))) q.w := fun q => range_ckey (range_below HR2.out q.h) HK2.out
      have l3 : ∀ q : Later wr, q.w.cell? ⟨g, o + m * 34 + 32, none⟩ = some (.slice e.A e.v.length e.c) := fun q => range_cval (range_below HR1.out q.h) HK1.out
      have l4 : ∀ q : Later wr, q.w.cell? ⟨g2, o2 + m * 34 + 32, none⟩ = some (.slice f.A f.v.length f.c) := fun q => range_cval (range_below HR2.out q.h) HK2.out
      have l5 : ∀ q : Later wr, q.w.cell? ⟨g, o + m * 34 + 33, none⟩ = some (.bool dd) := fun q => by rw [hdq]; exact range_cdel (range_below HR1.out q.h) HK1.out
      have l6 : ∀ q : Later wr, q.w.cell? ⟨g2, o2 + m * 34 + 33, none⟩ = some (.bool dd) := fun q => by rw [hdq, hdd]; exact range_cdel (range_below HR2.out q.h) HK2.out
      have HC : Hid (∀ q : Later wr, Calls Tryd.prog 18 #[.slice e.A e.v.length e.c, .slice f.A f.v.length f.c] q.w fun x w' => x = .returned (.bool true) ∧ Below q.w.heap.size q.w w') := fun q => by
        have := same_c e.A f.A e.c f.c e.v f.v q.w (HV1.out.below q.h) (HV2.out.below q.h) (by omega) (by rw [← hv]; omega)
        rwa [decide_eq_true hv] at this
      have qk : ∀ o p w, eqA .neq 44 o p w (.agg (bA e.k)) (.agg (bA f.k)) = .ok (.value (.bool false)) w := fun o p w => by rw [neKey e.k f.k HK1.out HK2.out, decide_eq_true hk]; rfl
      have qd : (dd != dd) = false := by cases dd <;> rfl
      clear he hf hok hok2 hr hr2 hch hk hv hdd hdq hve
      go_wp2_with fail
      refine wp_region_later (by kernel_rfl) (by kernel_rfl) ?_
      repeat (go_big_quiet_step ((go_at_call 18; exact Later.call (HC.out _))))
      refine wpQuiet_nil ?_
      rintro _ ⟨x, rfl⟩
      have HB2 := Lib.hid (HBw.out.trans (x.h.mono HBw.out.size))
      clear l1 l2 l3 l4 l5 l6 qk qd
      go_wp2_with fail
      go_roundg (N - (m + 1))
      case measure => omega
      case rel => exact ⟨m + 1, by go_num, by omega, rfl, HB2.out⟩
    · obtain rfl : m = N := by omega
      have hd : decide (m < m) = false := decide_eq_false (by omega)
      go_wp2_with fail
      go_ret
      exact ⟨rfl, HBw.out⟩
def zC12 : Cn := ⟨z26, none, [], 0, false⟩
theorem back_c_z : ∀ w, (zeroValue 50).run Tryd.prog w = .ok (.agg (cnC zC12).toArray) w := fun _ => by kernel_rfl
set_option maxHeartbeats 8000000 in
set_option maxRecDepth 100000 in
theorem back_c (A : Option Addr) (c : Nat) (xs : List Cn) (w : World) (hA : CA w A xs) (hn : xs.length ≤ 1000) :
    Calls Tryd.prog 7 #[.slice A xs.length c] w fun e w' => ∃ (A' : Option Addr) (c' : Nat), e = .returned (.slice A' xs.length c') ∧ CA w' A' xs ∧ xs.length ≤ c' ∧ Below w.heap.size w w' := by
  have HA := Lib.hid hA
  have hn9 : xs.length ≤ 1000 := hn
  clear hA hn
  go_enter Tryd.func7, Tryd.ntmps7
  go_wp2_with fail
  go_loopg [3, 8] xs.length (fun gg ov iv wr => ∃ (m : Nat) (v : Value), v = ov ∧ iv = .int .i64 (m : Int) ∧ m ≤ xs.length ∧ xs.length - m = gg ∧ Hid (OwnC 52 wr w.heap.size v (xs.take m)) ∧ Below w.heap.size w wr)
  case atStart => exact ⟨0, _, rfl, rfl, by omega, by omega, OwnC.nil _ _ _, Below.refl _ _⟩
  case round =>
    obtain ⟨m, v, rfl, rfl, hm, rfl, HO, hB⟩ := hrel
    have HB := Lib.hid hB
    clear hB
    by_cases hlt : m < xs.length
    · have hd : decide (m < xs.length) = true := decide_eq_true hlt
      obtain ⟨x, hx⟩ : ∃ x, xs[m]? = some x := ⟨_, List.getElem?_eq_getElem hlt⟩
      obtain ⟨hok, g, o, rfl, hr⟩ := HA.out m x hx
      have HKL := Lib.hid hok.key
      have le := range_cb (range_below hr HB.out) hok.key
      obtain ⟨Y, hY⟩ : ∃ Y, Y = wr.alloc (.cells (cnC x).toArray 50) := ⟨_, rfl⟩
      have hbY : Below wr.heap.size wr Y := by rw [hY]; exact (Below.refl _ _).alloc (Nat.le_refl _) _
      have st : stA 50 (wr.alloc (.cells (cnC zC12).toArray 50)) (.pointer (some ⟨wr.heap.size, 0, none⟩)) (.agg (cnC x).toArray) = .ok .skip Y := by rw [hY]; exact stC_new infoCb1 hok.key rfl
      have le2 : ldA 50 Y (.pointer (some ⟨wr.heap.size, 0, none⟩)) = .ok (.value (.agg (cnC x).toArray)) Y := range_cb (by rw [hY]; exact cn_made wr x _) hok.key
      have zv := back_c_z
      have bs := bsCr_one x hok.key
      have HOY := Lib.hid (OwnC.below HO.out hbY)
      have HBY := Lib.hid (HB.out.trans (hbY.mono HB.out.size))
      have HTK : Hid (xs.take (m + 1) = xs.take m ++ [x]) := by
        obtain ⟨h1, rfl⟩ := List.getElem?_eq_some_iff.1 hx
        exact List.take_succ_eq_append_getElem h1
      have HEL : Hid ((xs.take m).length ≤ 1000000) := by show _ ≤ _; rw [List.length_take]; omega
      have p0 : (0 : Int) ≤ (m : Int) := by omega
      have p1 : (m : Int) < (xs.length : Int) := by omega
      clear hx hok hr hY hbY
      go_wp2_with (at_builtin; refine wpList_pushC2 Tryd.underlying28 infoCr rfl _ _ rfl w.heap.size v (xs.take m) rfl HOY.out x HKL.out rfl HEL.out HBY.out.size ?_; intro A9 n9 c9 w9 hO hN hB; have HO9 := Lib.hid hO; have HB9 := Lib.hid (HBY.out.trans hB); clear hO hN hB)
      go_roundg (xs.length - (m + 1))
      case measure => omega
      case rel => exact ⟨m + 1, _, rfl, by go_num, by omega, rfl, by show OwnC _ _ _ _ _; rw [HTK.out]; exact HO9.out, HB9.out⟩
    · obtain rfl : m = xs.length := by omega
      have hd : decide (xs.length < xs.length) = false := decide_eq_false (by omega)
      have hO := HO.out
      rw [List.take_length] at hO
      obtain ⟨A', c', rfl, hc, hca⟩ := OwnC.ca hO fun x hx => (HA.out.ok x hx).below HB.out
      have HC := Lib.hid hca
      clear hO HO hca hlt
      go_wp2_with fail
      go_ret
      exact ⟨A', c', rfl, HC.out, hc, HB.out⟩
end Go.Proofs.YtaajnjddfcdeaaaDoor

/- The reference's Diff of maps. -/
namespace Go.Proofs.YtaajnjddfcdeaaaDoor
open Go.RowKit

theorem valK_get (es : List En) (k : List UInt8) : valK (es.map En.ent) k = (getE es k).map En.v := by
  unfold getE
  induction es with
  | nil => rfl
  | cons x r ih =>
    rw [List.map_cons, valK_cons]
    by_cases h : x.k = k
    · rw [if_pos (show x.ent.k = k from h), List.find?_cons_of_pos (by simpa using h)]; rfl
    · rw [if_neg (show ¬ x.ent.k = k from h), List.find?_cons_of_neg (by simpa using h), ih]
theorem getE_mem12 {es : List En} {k : List UInt8} {e : En} (h : getE es k = some e) : e ∈ es ∧ e.k = k := ⟨List.mem_of_find?_eq_some h, by simpa using List.find?_some h⟩
theorem dif_none {es fs : List En} {k : List UInt8} (h : getE fs k = none) : difC (es.map En.ent) (fs.map En.ent) k = [⟨k, [], true⟩] := by
  unfold difC
  rw [valK_get fs, h]
  rfl
theorem dif_new {es fs : List En} {k : List UInt8} {f : En} (h : getE fs k = some f) (h2 : getE es k = none) : difC (es.map En.ent) (fs.map En.ent) k = [⟨k, f.v, false⟩] := by
  unfold difC
  rw [valK_get fs, h, valK_get es, h2]
  rfl
theorem dif_same {es fs : List En} {k : List UInt8} {e f : En} (h : getE fs k = some f) (h2 : getE es k = some e) (hv : e.v = f.v) : difC (es.map En.ent) (fs.map En.ent) k = [] := by
  unfold difC
  rw [valK_get fs, h, valK_get es, h2]
  simp [hv]
theorem dif_other {es fs : List En} {k : List UInt8} {e f : En} (h : getE fs k = some f) (h2 : getE es k = some e) (hv : ¬ e.v = f.v) : difC (es.map En.ent) (fs.map En.ent) k = [⟨k, f.v, false⟩] := by
  unfold difC
  rw [valK_get fs, h, valK_get es, h2]
  simp [hv]
theorem bldCr_delf (f : Nat → UInt8) (w : World) : bldA 52 w #[(0, .agg (bA ((List.range 32).map f))), (2, .bool true)] = .ok (.value (.agg (((List.range 32).map f).map bv ++ [Value.slice none 0 0, Value.bool true]).toArray)) w := by kernel_rfl
theorem bldCr_del (k : List UInt8) (hk : k.length = 32) (w : World) : bldA 52 w #[(0, .agg (bA k)), (2, .bool true)] = .ok (.value (.agg (cnC ⟨k, none, [], 0, true⟩).toArray)) w := by
  have := bldCr_delf (fun j => k.getD j 0) w
  rw [← list32 k hk] at this
  exact this
theorem bldCr_putf (f : Nat → UInt8) (A : Option Addr) (n c : Nat) (w : World) : bldA 52 w #[(0, .agg (bA ((List.range 32).map f))), (1, .slice A n c)] = .ok (.value (.agg (((List.range 32).map f).map bv ++ [Value.slice A n c, Value.bool false]).toArray)) w := by kernel_rfl
theorem bldCr_put (k : List UInt8) (hk : k.length = 32) (A : Option Addr) (v : List UInt8) (c : Nat) (w : World) : bldA 52 w #[(0, .agg (bA k)), (1, .slice A v.length c)] = .ok (.value (.agg (cnC ⟨k, A, v, c, false⟩).toArray)) w := by
  have := bldCr_putf (fun j => k.getD j 0) A v.length c w
  rw [← list32 k hk] at this
  exact this
theorem ba_nil12 (w : World) (A : Option Addr) : BA w A [] := fun j x hj => by simp at hj
theorem take_ekey {es : List En} {m : Nat} {x : En} (h : es[m]? = some x) : (es.take (m + 1)).map En.k = (es.take m).map En.k ++ [x.k] := by
  obtain ⟨hi, rfl⟩ := List.getElem?_eq_some_iff.1 h
  rw [List.take_succ_eq_append_getElem hi, List.map_append, List.map_singleton]
theorem take_flat {S : List (List UInt8)} {m : Nat} {k : List UInt8} (f : List UInt8 → List Chg) (h : S[m]? = some k) : (S.take (m + 1)).flatMap f = (S.take m).flatMap f ++ f k := by
  obtain ⟨hi, rfl⟩ := List.getElem?_eq_some_iff.1 h
  rw [List.take_succ_eq_append_getElem hi, List.flatMap_append]
  simp
set_option maxHeartbeats 16000000 in
set_option maxRecDepth 100000 in
theorem diff12_c (A : Option Addr) (c : Nat) (es : List En) (B : Option Addr) (cB : Nat) (fs : List En) (w : World) (hA : EA w A es) (hB : EA w B fs) (hn : es.length ≤ 200) (hm : fs.length ≤ 200) (hv : ∀ e ∈ es, e.v.length ≤ 1000) (hx : ∀ x ∈ fs, x.v.length ≤ 1000) :
    Calls Tryd.prog 9 #[.slice A es.length c, .slice B fs.length cB] w fun e w' => ∃ (A' : Option Addr) (c' : Nat) (xs : List Cn), e = .returned (.slice A' xs.length c') ∧ CA w' A' xs ∧ xs.map Cn.chg = diffC (es.map En.ent) (fs.map En.ent) ∧ xs.length ≤ 400 ∧ Below w.heap.size w w' := by
  have HA := Lib.hid hA
  have HB := Lib.hid hB
  have HVE := Lib.hid hv
  have HVF := Lib.hid hx
  have hn9 : es.length ≤ 200 := hn
  have hm9 : fs.length ≤ 200 := hm
  have HEK : Hid (∀ e ∈ es, e.k.length = 32) := fun e he => (hA.mem e he).key
  have HFK : Hid (∀ e ∈ fs, e.k.length = 32) := fun e he => (hB.mem e he).key
  clear hA hB hv hx hn hm
  go_enter Tryd.func9, Tryd.ntmps9
  go_wp2_with fail
  go_loopg [5, 6] es.length (fun gg kv iv wr => ∃ (m : Nat) (v : Value), v = kv ∧ iv = .int .i64 (m : Int) ∧ m ≤ es.length ∧ es.length - m = gg ∧ Hid (OwnS wr w.heap.size v ((es.take m).map En.k)) ∧ Below w.heap.size w wr)
  case atStart => exact ⟨0, _, rfl, rfl, by omega, by omega, OwnS.nil _ _, Below.refl _ _⟩
  case round =>
    obtain ⟨m, v, rfl, rfl, hm, rfl, HO, hB⟩ := hrel
    have HBL := Lib.hid hB
    clear hB
    by_cases hlt : m < es.length
    · have hd : decide (m < es.length) = true := decide_eq_true hlt
      obtain ⟨x, hx⟩ : ∃ x, es[m]? = some x := ⟨_, List.getElem?_eq_getElem hlt⟩
      obtain ⟨hok, g, o, rfl, hr⟩ := HA.out m x hx
      have lk := range_key (range_below hr HBL.out) hok.key
      have HKL := Lib.hid hok.key
      have bs := bsS_one x.k hok.key
      have HTK := Lib.hid (take_ekey hx)
      have HEL : Hid (((es.take m).map En.k).length ≤ 1000000) := by show _ ≤ _; simp; omega
      have p0 : (0 : Int) ≤ (m : Int) := by omega
      have p1 : (m : Int) < (es.length : Int) := by omega
      clear hx hok hr
      go_wp2_with (at_builtin; refine wpList_pushS2 rfl _ _ rfl w.heap.size v ((es.take m).map En.k) rfl HO.out x.k HKL.out rfl HEL.out HBL.out.size ?_; intro A9 n9 c9 w9 hO hN hB; have HO9 := Lib.hid hO; have HB9 := Lib.hid (HBL.out.trans hB); clear hO hN hB)
      go_roundg (es.length - (m + 1))
      case measure => omega
      case rel => exact ⟨m + 1, _, rfl, by go_num, by omega, rfl, by show OwnS _ _ _ _; rw [HTK.out]; exact HO9.out, HB9.out⟩
    · obtain rfl : m = es.length := by omega
      have hd : decide (es.length < es.length) = false := decide_eq_false (by omega)
      have hO := HO.out
      rw [List.take_length] at hO
      clear HO
      have HO := Lib.hid hO
      clear hO hlt
      go_wp2_with fail
      go_loopg [5, 7] fs.length (fun gg kv iv wr => ∃ (m : Nat) (v : Value), v = kv ∧ iv = .int .i64 (m : Int) ∧ m ≤ fs.length ∧ fs.length - m = gg ∧ Hid (OwnS wr w.heap.size v (es.map En.k ++ (fs.take m).map En.k)) ∧ Below w.heap.size w wr)
      case atStart => exact ⟨0, _, rfl, rfl, by omega, by omega, by show OwnS _ _ _ _; simpa using HO.out, HBL.out⟩
      case round =>
        obtain ⟨m, v, rfl, rfl, hm, rfl, HO, hB⟩ := hrel
        have HBL := Lib.hid hB
        clear hB
        by_cases hlt : m < fs.length
        · have hd : decide (m < fs.length) = true := decide_eq_true hlt
          obtain ⟨x, hx⟩ : ∃ x, fs[m]? = some x := ⟨_, List.getElem?_eq_getElem hlt⟩
          obtain ⟨hok, g, o, rfl, hr⟩ := HB.out m x hx
          have lk := range_key (range_below hr HBL.out) hok.key
          have HKL := Lib.hid hok.key
          have bs := bsS_one x.k hok.key
          have HTK := Lib.hid (take_ekey hx)
          have HEL : Hid ((es.map En.k ++ (fs.take m).map En.k).length ≤ 1000000) := by show _ ≤ _; simp; omega
          have p0 : (0 : Int) ≤ (m : Int) := by omega
          have p1 : (m : Int) < (fs.length : Int) := by omega
          clear hx hok hr
          go_wp2_with (at_builtin; refine wpList_pushS2 rfl _ _ rfl w.heap.size v (es.map En.k ++ (fs.take m).map En.k) rfl HO.out x.k HKL.out rfl HEL.out HBL.out.size ?_; intro A9 n9 c9 w9 hO hN hB; have HO9 := Lib.hid hO; have HB9 := Lib.hid (HBL.out.trans hB); clear hO hN hB)
          go_roundg (fs.length - (m + 1))
          case measure => omega
          case rel => exact ⟨m + 1, _, rfl, by go_num, by omega, rfl, by show OwnS _ _ _ _; rw [HTK.out, ← List.append_assoc]; exact HO9.out, HB9.out⟩
        · obtain rfl : m = fs.length := by omega
          have hd : decide (fs.length < fs.length) = false := decide_eq_false (by omega)
          have hO := HO.out
          rw [List.take_length] at hO
          clear HO
          have HO := Lib.hid hO
          clear hO hlt
          obtain ⟨ks, hks⟩ : ∃ ks, ks = es.map En.k ++ fs.map En.k := ⟨_, rfl⟩
          rw [← hks] at HO
          have HKS := Lib.hid hks
          have h32 : K32 ks := fun k hk => by
            rw [hks] at hk
            rcases List.mem_append.1 hk with hk | hk
            · obtain ⟨e, he, rfl⟩ := List.mem_map.1 hk; exact HEK.out e he
            · obtain ⟨e, he, rfl⟩ := List.mem_map.1 hk; exact HFK.out e he
          have hkl : ks.length ≤ 400 := by rw [hks, List.length_append, List.length_map, List.length_map]; omega
          obtain ⟨A3, c3, hv3, hks3⟩ := OwnS.ks HO.out h32
          subst hv3
          have HSO := Lib.hid (sort2_c A3 c3 ks _ hks3 (by omega))
          obtain ⟨S, hS⟩ : ∃ S, S = sortS ks := ⟨_, rfl⟩
          rw [← hS] at HSO
          have HS32 : Hid (K32 S) := by rw [hS]; exact sortS_32 h32
          have hSl : S.length ≤ 400 := by rw [hS]; exact Nat.le_trans (sortS_len ks) hkl
          have HSE : Hid (diffC (es.map En.ent) (fs.map En.ent) = S.flatMap (difC (es.map En.ent) (fs.map En.ent))) := by
            show _ = _
            unfold diffC
            rw [List.map_map, List.map_map, hS, hks]
            rfl
          clear hks h32 hks3 HO hS HKS
          go_wp2_with fail
          refine HSO.out.mono ?_
          rintro _ ws ⟨A5, c5, rfl, hk5, hBs⟩
          have HK5 := Lib.hid hk5
          have HBS := Lib.hid (HBL.out.trans (hBs.mono HBL.out.size))
          have HEA := Lib.hid (HA.out.below HBS.out)
          have HFA := Lib.hid (HB.out.below HBS.out)
          clear hk5 hBs HSO
          go_wp2_with fail
          go_loopg [8, 9] S.length (fun gg ov iv wr => ∃ (m : Nat) (v : Value) (ys : List Cn), v = ov ∧ iv = .int .i64 (m : Int) ∧ m ≤ S.length ∧ S.length - m = gg ∧ Hid (OwnC 52 wr ws.heap.size v ys ∧ ys.map Cn.chg = (S.take m).flatMap (difC (es.map En.ent) (fs.map En.ent)) ∧ (∀ y ∈ ys, CnOk ws y) ∧ ys.length ≤ m) ∧ Below ws.heap.size ws wr)
          case atStart => exact ⟨0, _, [], rfl, rfl, by omega, by omega, ⟨OwnC.nil _ _ _, rfl, fun y hy => absurd hy List.not_mem_nil, by simp⟩, Below.refl _ _⟩
          case round =>
            obtain ⟨m, v, ys, rfl, rfl, hm, rfl, HRR, hB⟩ := hrel
            have HBI := Lib.hid hB
            clear hB
            by_cases hlt : m < S.length
            · have hd : decide (m < S.length) = true := decide_eq_true hlt
              obtain ⟨k, hk⟩ : ∃ k, S[m]? = some k := ⟨_, List.getElem?_eq_getElem hlt⟩
              obtain ⟨hkk, g, o, rfl, hr⟩ := HK5.out m k hk
              have HKK := Lib.hid hkk
              have LK : Hid (∀ y, Below ws.heap.size ws y → ldA 44 y (.pointer (some ⟨g, o + m * 32, none⟩)) = .ok (.value (.agg (bA k))) y) := fun y hy => range_keyS (range_below hr hy) hkk
              have HTF := Lib.hid (take_flat (difC (es.map En.ent) (fs.map En.ent)) hk)
              have HG1 : Hid (∀ y, Below ws.heap.size ws y → Calls Tryd.prog 22 #[.slice A es.length c, .agg (bA k)] y fun e w' => e = .returned (.tuple #[getVal (getE es k), .bool (getE es k).isSome]) ∧ Below y.heap.size y w') := fun y hy => get7_c A c es k y (HEA.out.below hy) (by omega) hkk
              have HG2 : Hid (∀ y, Below ws.heap.size ws y → Calls Tryd.prog 22 #[.slice B fs.length cB, .agg (bA k)] y fun e w' => e = .returned (.tuple #[getVal (getE fs k), .bool (getE fs k).isSome]) ∧ Below y.heap.size y w') := fun y hy => get7_c B cB fs k y (HFA.out.below hy) (by omega) hkk
              have HEL : Hid (ys.length ≤ 1000000) := by show _ ≤ _; have := HRR.out.2.2.2; omega
              have p0 : (0 : Int) ≤ (m : Int) := by omega
              have p1 : (m : Int) < (S.length : Int) := by omega
              have lk := LK.out wr HBI.out
              clear hk hr hkk
              cases hf : getE fs k with
              | none =>
                have HD := Lib.hid (dif_none (es := es) hf)
                rw [hf] at HG2
                clear hf
                obtain ⟨gv, hgv⟩ : ∃ gv, gv = getVal (getE es k) := ⟨_, rfl⟩
                obtain ⟨gb, hgb⟩ : ∃ gb, gb = (getE es k).isSome := ⟨_, rfl⟩
                rw [← hgv, ← hgb] at HG1
                rw [show getVal (none : Option En) = .slice none 0 0 from rfl, show (none : Option En).isSome = false from rfl] at HG2
                clear hgv hgb
                go_wp2_with fail
                refine (HG1.out wr HBI.out).mono ?_
                rintro _ w5 ⟨rfl, hB5⟩
                have HB5 := Lib.hid (HBI.out.trans (hB5.mono HBI.out.size))
                have HO5 := Lib.hid (OwnC.below HRR.out.1 hB5)
                clear hB5 lk
                have lk := LK.out w5 HB5.out
                go_wp2_with fail
                refine (HG2.out w5 HB5.out).mono ?_
                rintro _ w6 ⟨rfl, hB6⟩
                have HB6 := Lib.hid (HB5.out.trans (hB6.mono HB5.out.size))
                have HO6 := Lib.hid (OwnC.below HO5.out hB6)
                clear hB6 lk
                have lk := LK.out w6 HB6.out
                have bl := fun w => bldCr_del k HKK.out w
                obtain ⟨xx, hxx⟩ : ∃ xx : Cn, xx = ⟨k, none, [], 0, true⟩ := ⟨_, rfl⟩
                have HXK : Hid (xx.k.length = 32) := by rw [hxx]; exact HKK.out
                have HXC : Hid (xx.chg = ⟨k, [], true⟩) := by rw [hxx]; rfl
                have HXO : Hid (CnOk ws xx) := by rw [hxx]; exact ⟨HKK.out, Nat.le_refl 0, ba_nil12 _ _⟩
                rw [← hxx] at bl
                have bs := bsCr_one xx HXK.out
                clear hxx
                go_wp2_with (at_builtin; refine wpList_pushC2 Tryd.underlying28 infoCr rfl _ _ rfl ws.heap.size v ys rfl HO6.out xx HXK.out rfl HEL.out HB6.out.size ?_; intro A9 n9 c9 w9 hO hN hB; have HO9 := Lib.hid hO; have HB9 := Lib.hid (HB6.out.trans hB); clear hO hN hB)
                go_roundg (S.length - (m + 1))
                case measure => omega
                case rel =>
                  obtain ⟨q1, q2, q3, q4⟩ := HRR.out
                  refine ⟨m + 1, _, ys ++ [xx], rfl, by go_num, by omega, rfl, ⟨HO9.out, by rw [List.map_append, q2, HTF.out, HD.out, List.map_singleton, HXC.out], fun y hy => ?_, by simp; omega⟩, HB9.out⟩
                  rcases List.mem_append.1 hy with hy | hy
                  · exact q3 y hy
                  · rw [List.mem_singleton.1 hy]; exact HXO.out
              | some f =>
                obtain ⟨hfm, hfk⟩ := getE_mem12 hf
                have HFO := Lib.hid (HFA.out.mem f hfm)
                have HFV : Hid (f.v.length ≤ 1000) := HVF.out f hfm
                rw [hf] at HG2
                rw [show getVal (some f) = .slice f.A f.v.length f.c from rfl, show (some f).isSome = true from rfl] at HG2
                clear hfm hfk
                cases he : getE es k with
                | none =>
                  have HD := Lib.hid (dif_new hf he)
                  rw [he] at HG1
                  rw [show getVal (none : Option En) = .slice none 0 0 from rfl, show (none : Option En).isSome = false from rfl] at HG1
                  clear hf he
                  go_wp2_with fail
                  refine (HG1.out wr HBI.out).mono ?_
                  rintro _ w5 ⟨rfl, hB5⟩
                  have HB5 := Lib.hid (HBI.out.trans (hB5.mono HBI.out.size))
                  have HO5 := Lib.hid (OwnC.below HRR.out.1 hB5)
                  clear hB5 lk
                  have lk := LK.out w5 HB5.out
                  go_wp2_with fail
                  refine (HG2.out w5 HB5.out).mono ?_
                  rintro _ w6 ⟨rfl, hB6⟩
                  have HB6 := Lib.hid (HB5.out.trans (hB6.mono HB5.out.size))
                  have HO6 := Lib.hid (OwnC.below HO5.out hB6)
                  clear hB6 lk
                  have lk := LK.out w6 HB6.out
                  have bl := fun w => bldCr_put k HKK.out f.A f.v f.c w
                  obtain ⟨xx, hxx⟩ : ∃ xx : Cn, xx = ⟨k, f.A, f.v, f.c, false⟩ := ⟨_, rfl⟩
                  have HXK : Hid (xx.k.length = 32) := by rw [hxx]; exact HKK.out
                  have HXC : Hid (xx.chg = ⟨k, f.v, false⟩) := by rw [hxx]; rfl
                  have HXO : Hid (CnOk ws xx) := by rw [hxx]; exact ⟨HKK.out, HFO.out.cap, HFO.out.val⟩
                  rw [← hxx] at bl
                  have bs := bsCr_one xx HXK.out
                  clear hxx
                  go_wp2_with (at_builtin; refine wpList_pushC2 Tryd.underlying28 infoCr rfl _ _ rfl ws.heap.size v ys rfl HO6.out xx HXK.out rfl HEL.out HB6.out.size ?_; intro A9 n9 c9 w9 hO hN hB; have HO9 := Lib.hid hO; have HB9 := Lib.hid (HB6.out.trans hB); clear hO hN hB)
                  go_roundg (S.length - (m + 1))
                  case measure => omega
                  case rel =>
                    obtain ⟨q1, q2, q3, q4⟩ := HRR.out
                    refine ⟨m + 1, _, ys ++ [xx], rfl, by go_num, by omega, rfl, ⟨HO9.out, by rw [List.map_append, q2, HTF.out, HD.out, List.map_singleton, HXC.out], fun y hy => ?_, by simp; omega⟩, HB9.out⟩
                    rcases List.mem_append.1 hy with hy | hy
                    · exact q3 y hy
                    · rw [List.mem_singleton.1 hy]; exact HXO.out
                | some e =>
                  obtain ⟨hem, hek⟩ := getE_mem12 he
                  have HEO := Lib.hid (HEA.out.mem e hem)
                  have HEV : Hid (e.v.length ≤ 1000) := HVE.out e hem
                  rw [he] at HG1
                  rw [show getVal (some e) = .slice e.A e.v.length e.c from rfl, show (some e).isSome = true from rfl] at HG1
                  clear hem hek
                  have HSM : Hid (∀ y, Below ws.heap.size ws y → Calls Tryd.prog 18 #[.slice e.A e.v.length e.c, .slice f.A f.v.length f.c] y fun x w' => x = .returned (.bool (decide (e.v = f.v))) ∧ Below y.heap.size y w') := fun y hy => same_c e.A f.A e.c f.c e.v f.v y (HEO.out.val.below hy) (HFO.out.val.below hy) (by have := HEV.out; omega) (by have := HFV.out; omega)
                  by_cases hq : e.v = f.v
                  · skip
                    have HD := Lib.hid (dif_same hf he hq)
                    rw [decide_eq_true hq] at HSM
                    clear hf he hq
                    go_wp2_with fail
                    refine (HG1.out wr HBI.out).mono ?_
                    rintro _ w5 ⟨rfl, hB5⟩
                    have HB5 := Lib.hid (HBI.out.trans (hB5.mono HBI.out.size))
                    have HO5 := Lib.hid (OwnC.below HRR.out.1 hB5)
                    clear hB5 lk
                    have lk := LK.out w5 HB5.out
                    go_wp2_with fail
                    refine (HG2.out w5 HB5.out).mono ?_
                    rintro _ w6 ⟨rfl, hB6⟩
                    have HB6 := Lib.hid (HB5.out.trans (hB6.mono HB5.out.size))
                    have HO6 := Lib.hid (OwnC.below HO5.out hB6)
                    clear hB6 lk
                    have lk := LK.out w6 HB6.out
                    go_wp2_with fail
                    refine (HSM.out w6 HB6.out).mono ?_
                    rintro _ w7 ⟨rfl, hB7⟩
                    have HB7 := Lib.hid (HB6.out.trans (hB7.mono HB6.out.size))
                    have HO7 := Lib.hid (OwnC.below HO6.out hB7)
                    clear hB7 lk
                    go_wp2_with fail
                    go_roundg (S.length - (m + 1))
                    case measure => omega
                    case rel =>
                      obtain ⟨q1, q2, q3, q4⟩ := HRR.out
                      exact ⟨m + 1, v, ys, rfl, by go_num, by omega, rfl, ⟨HO7.out, by rw [q2, HTF.out, HD.out, List.append_nil], q3, by omega⟩, HB7.out⟩
                  · skip
                    have HD := Lib.hid (dif_other hf he hq)
                    rw [decide_eq_false hq] at HSM
                    clear hf he hq
                    go_wp2_with fail
                    refine (HG1.out wr HBI.out).mono ?_
                    rintro _ w5 ⟨rfl, hB5⟩
                    have HB5 := Lib.hid (HBI.out.trans (hB5.mono HBI.out.size))
                    have HO5 := Lib.hid (OwnC.below HRR.out.1 hB5)
                    clear hB5 lk
                    have lk := LK.out w5 HB5.out
                    go_wp2_with fail
                    refine (HG2.out w5 HB5.out).mono ?_
                    rintro _ w6 ⟨rfl, hB6⟩
                    have HB6 := Lib.hid (HB5.out.trans (hB6.mono HB5.out.size))
                    have HO6 := Lib.hid (OwnC.below HO5.out hB6)
                    clear hB6 lk
                    have lk := LK.out w6 HB6.out
                    go_wp2_with fail
                    refine (HSM.out w6 HB6.out).mono ?_
                    rintro _ w7 ⟨rfl, hB7⟩
                    have HB7 := Lib.hid (HB6.out.trans (hB7.mono HB6.out.size))
                    have HO7 := Lib.hid (OwnC.below HO6.out hB7)
                    clear hB7 lk
                    have lk := LK.out w7 HB7.out
                    have bl := fun w => bldCr_put k HKK.out f.A f.v f.c w
                    obtain ⟨xx, hxx⟩ : ∃ xx : Cn, xx = ⟨k, f.A, f.v, f.c, false⟩ := ⟨_, rfl⟩
                    have HXK : Hid (xx.k.length = 32) := by rw [hxx]; exact HKK.out
                    have HXC : Hid (xx.chg = ⟨k, f.v, false⟩) := by rw [hxx]; rfl
                    have HXO : Hid (CnOk ws xx) := by rw [hxx]; exact ⟨HKK.out, HFO.out.cap, HFO.out.val⟩
                    rw [← hxx] at bl
                    have bs := bsCr_one xx HXK.out
                    clear hxx
                    go_wp2_with (at_builtin; refine wpList_pushC2 Tryd.underlying28 infoCr rfl _ _ rfl ws.heap.size v ys rfl HO7.out xx HXK.out rfl HEL.out HB7.out.size ?_; intro A9 n9 c9 w9 hO hN hB; have HO9 := Lib.hid hO; have HB9 := Lib.hid (HB7.out.trans hB); clear hO hN hB)
                    go_roundg (S.length - (m + 1))
                    case measure => omega
                    case rel =>
                      obtain ⟨q1, q2, q3, q4⟩ := HRR.out
                      refine ⟨m + 1, _, ys ++ [xx], rfl, by go_num, by omega, rfl, ⟨HO9.out, by rw [List.map_append, q2, HTF.out, HD.out, List.map_singleton, HXC.out], fun y hy => ?_, by simp; omega⟩, HB9.out⟩
                      rcases List.mem_append.1 hy with hy | hy
                      · exact q3 y hy
                      · rw [List.mem_singleton.1 hy]; exact HXO.out
            · obtain rfl : m = S.length := by omega
              have hd : decide (S.length < S.length) = false := decide_eq_false (by omega)
              obtain ⟨q1, q2, q3, q4⟩ := HRR.out
              rw [List.take_length, ← HSE.out] at q2
              obtain ⟨A', c', rfl, hc, hca⟩ := OwnC.ca q1 fun y hy => (q3 y hy).below HBI.out
              have HF : Hid (CA wr A' ys ∧ ys.map Cn.chg = diffC (es.map En.ent) (fs.map En.ent) ∧ ys.length ≤ 400 ∧ Below w.heap.size w wr) := ⟨hca, q2, by omega, HBS.out.trans (HBI.out.mono HBS.out.size)⟩
              clear hca q1 q2 q3 hc HRR hlt
              go_wp2_with fail
              go_ret
              exact ⟨A', c', ys, rfl, HF.out⟩
end Go.Proofs.YtaajnjddfcdeaaaDoor

/- What the program of layer 12 keeps, as a contract over maps and lists of changes. -/
namespace Go.Proofs.YtaajnjddfcdeaaaDoor
open Go.RowKit

/-- Behind a call that refuses its list: the hasher is there. -/
structure Refused (w : World) (b : Nat) (n : Int) (m : Nat) (w' : World) : Prop where
  hs : ∃ c', c' ≤ m ∧ Hs w' b n c'
  keep : Keep (fun i => i = b) w w'
/-- What the program of layer 12 keeps. -/
structure BaV (M : World → Int → Tv → Prop) : Prop where
  build : ∀ (w : World) (b : Nat) (n : Int) (c : Nat) (A : Option Addr) (cA : Nat) (es : List En), Hs w b n c → c ≤ 400000 → Vars w → EA w A es → es.length ≤ 50 → (∀ e ∈ es, e.v.length ≤ 1000) →
    Calls Tryd.prog 15 #[ptr b, .slice A es.length cA] w fun x w' =>
      (chkK (es.map En.k) = 0 → ∃ T', x = .returned (.tuple #[T'.val, .int .i64 0]) ∧ IsMap (es.map En.ent) T' ∧ Made M w b n .nil T' (c + 90000) w') ∧
      (chkK (es.map En.k) ≠ 0 → x = .returned (.tuple #[.pointer none, .int .i64 (chkK (es.map En.k))]) ∧ Refused w b n (c + 90000) w')
  apply : ∀ (w : World) (b : Nat) (n : Int) (c : Nat) (l : List Ent) (T : Tv) (A : Option Addr) (cA : Nat) (xs : List Cn), Hs w b n c → c ≤ 400000 → Vars w → M w n T → IsMap l T → l.length ≤ 1000 → CA w A xs → xs.length ≤ cA → xs.length ≤ 50 → (∀ x ∈ xs, x.v.length ≤ 1000) →
    Calls Tryd.prog 16 #[ptr b, T.val, .slice A xs.length cA] w fun x w' =>
      (chkK (xs.map Cn.k) = 0 → ∃ T', x = .returned (.tuple #[T'.val, .int .i64 0]) ∧ IsMap (appC l (xs.map Cn.chg)) T' ∧ Made M w b n T T' (c + 90000) w') ∧
      (chkK (xs.map Cn.k) ≠ 0 → x = .returned (.tuple #[.pointer none, .int .i64 (chkK (xs.map Cn.k))]) ∧ Refused w b n (c + 90000) w')
  diff : ∀ (w : World) (n : Int) (S T : Tv) (a b : List Ent), M w n S → M w n T → IsMap a S → IsMap b T → Asc a → Asc b → a.length ≤ 100 → b.length ≤ 100 →
    Calls Tryd.prog 8 #[S.val, T.val] w fun x w' => ∃ (A : Option Addr) (c : Nat) (xs : List Cn), x = .returned (.slice A xs.length c) ∧ CA w' A xs ∧ xs.length ≤ c ∧ xs.map Cn.chg = diffC a b ∧ (∀ x ∈ xs, x.v.length ≤ 1000) ∧ Below w.heap.size w w'
end Go.Proofs.YtaajnjddfcdeaaaDoor

/- Constants of layer 12's alive. -/
namespace Go.Proofs.YtaajnjddfcdeaaaDoor
open Go.RowKit

def k1 : List UInt8 := 1 :: List.replicate 31 0
def k2 : List UInt8 := 2 :: List.replicate 31 0
def k3 : List UInt8 := 3 :: List.replicate 31 0
def e12a : En := ⟨k1, none, [], 0⟩
def e12b : En := ⟨k2, none, [], 0⟩
def c12a : Cn := ⟨k1, none, [], 0, true⟩
def c12b : Cn := ⟨k3, none, [], 0, false⟩
theorem bldKey12_1 (w : World) : bldA 44 w #[(0, .int .u8 1)] = .ok (.value (.agg (bA k1))) w := by kernel_rfl
theorem bldKey12_2 (w : World) : bldA 44 w #[(0, .int .u8 2)] = .ok (.value (.agg (bA k2))) w := by kernel_rfl
theorem bldKey12_3 (w : World) : bldA 44 w #[(0, .int .u8 3)] = .ok (.value (.agg (bA k3))) w := by kernel_rfl
theorem bldEnt12_1 (w : World) : bldA 47 w #[(0, .agg (bA k1))] = .ok (.value (.agg (enC e12a).toArray)) w := by kernel_rfl
theorem bldEnt12_2 (w : World) : bldA 47 w #[(0, .agg (bA k2))] = .ok (.value (.agg (enC e12b).toArray)) w := by kernel_rfl
theorem bldChg12_1 (w : World) : bldA 50 w #[(0, .agg (bA k1)), (2, .bool true)] = .ok (.value (.agg (cnC c12a).toArray)) w := by kernel_rfl
theorem bldChg12_3 (w : World) : bldA 50 w #[(0, .agg (bA k3))] = .ok (.value (.agg (cnC c12b).toArray)) w := by kernel_rfl
theorem bsE12_ab (w : World) : bsE w 2 #[(0, .agg (enC e12a).toArray), (1, .agg (enC e12b).toArray)] = .ok (.value (.slice (some ⟨w.heap.size, 0, none⟩) 2 2)) (w.alloc (.cells ([e12a, e12b].flatMap enC).toArray 47)) := by kernel_rfl
theorem bsE12_ba (w : World) : bsE w 2 #[(0, .agg (enC e12b).toArray), (1, .agg (enC e12a).toArray)] = .ok (.value (.slice (some ⟨w.heap.size, 0, none⟩) 2 2)) (w.alloc (.cells ([e12b, e12a].flatMap enC).toArray 47)) := by kernel_rfl
theorem bsC12 (w : World) : bsC 30 w 2 #[(0, .agg (cnC c12a).toArray), (1, .agg (cnC c12b).toArray)] = .ok (.value (.slice (some ⟨w.heap.size, 0, none⟩) 2 2)) (w.alloc (.cells ([c12a, c12b].flatMap cnC).toArray 50)) := by kernel_rfl
theorem flat_ea12 (w : World) (es : List En) (h : ∀ e ∈ es, EnOk w e) (t : TypeId) : EA (w.alloc (.cells (es.flatMap enC).toArray t)) (some ⟨w.heap.size, 0, none⟩) es := fun i e hi => by
  have hb : Below w.heap.size w (w.alloc (.cells (es.flatMap enC).toArray t)) := (Below.refl _ _).alloc (Nat.le_refl _) _
  refine ⟨(h e (List.mem_of_getElem? hi)).below hb, _, _, rfl, fun j v hv => ?_⟩
  rw [Nat.zero_add, cell_of_cells (heap_alloc_new w _)]
  simp only [List.getElem?_toArray]
  exact flat_at (fun e he => (h e he).key) hi hv
theorem flat_ca12 (w : World) (xs : List Cn) (h : ∀ x ∈ xs, CnOk w x) (t : TypeId) : CA (w.alloc (.cells (xs.flatMap cnC).toArray t)) (some ⟨w.heap.size, 0, none⟩) xs := fun i e hi => by
  have hb : Below w.heap.size w (w.alloc (.cells (xs.flatMap cnC).toArray t)) := (Below.refl _ _).alloc (Nat.le_refl _) _
  refine ⟨(h e (List.mem_of_getElem? hi)).below hb, _, _, rfl, fun j v hv => ?_⟩
  rw [Nat.zero_add, cell_of_cells (heap_alloc_new w _)]
  simp only [List.getElem?_toArray]
  exact flatC_at (fun e he => (h e he).key) hi hv
theorem ok12_e (w : World) : ∀ e ∈ [e12a, e12b], EnOk w e := fun e he => by
  rcases List.mem_cons.1 he with rfl | he
  · exact ⟨rfl, Nat.le_refl 0, fun j x h => by simp [e12a] at h⟩
  · rw [List.mem_singleton.1 he]; exact ⟨rfl, Nat.le_refl 0, fun j x h => by simp [e12b] at h⟩
theorem ok12_r (w : World) : ∀ e ∈ [e12b, e12a], EnOk w e := fun e he => by
  rcases List.mem_cons.1 he with rfl | he
  · exact ⟨rfl, Nat.le_refl 0, fun j x h => by simp [e12b] at h⟩
  · rw [List.mem_singleton.1 he]; exact ⟨rfl, Nat.le_refl 0, fun j x h => by simp [e12a] at h⟩
theorem ok12_c (w : World) : ∀ e ∈ [c12a, c12b], CnOk w e := fun e he => by
  rcases List.mem_cons.1 he with rfl | he
  · exact ⟨rfl, Nat.le_refl 0, fun j x h => by simp [c12a] at h⟩
  · rw [List.mem_singleton.1 he]; exact ⟨rfl, Nat.le_refl 0, fun j x h => by simp [c12b] at h⟩
theorem len12_e : ∀ e ∈ [e12a, e12b], e.v.length ≤ 1000 := fun e he => by
  rcases List.mem_cons.1 he with rfl | he
  · exact (show 0 ≤ 1000 by decide)
  · rw [List.mem_singleton.1 he]; exact (show 0 ≤ 1000 by decide)
theorem len12_r : ∀ e ∈ [e12b, e12a], e.v.length ≤ 1000 := fun e he => by
  rcases List.mem_cons.1 he with rfl | he
  · exact (show 0 ≤ 1000 by decide)
  · rw [List.mem_singleton.1 he]; exact (show 0 ≤ 1000 by decide)
theorem len12_c : ∀ e ∈ [c12a, c12b], e.v.length ≤ 1000 := fun e he => by
  rcases List.mem_cons.1 he with rfl | he
  · exact (show 0 ≤ 1000 by decide)
  · rw [List.mem_singleton.1 he]; exact (show 0 ≤ 1000 by decide)
theorem chk12_ab : chkK ([e12a, e12b].map En.k) = 0 := by decide +kernel
theorem chk12_ba : chkK ([e12b, e12a].map En.k) = 8 := by decide +kernel
theorem chk12_c : chkK ([c12a, c12b].map Cn.k) = 0 := by decide +kernel
def E12a : Ent := ⟨k1, []⟩
def E12b : Ent := ⟨k2, []⟩
def E12c : Ent := ⟨k3, []⟩
theorem app12 : appC ([e12a, e12b].map En.ent) ([c12a, c12b].map Cn.chg) = [E12b, E12c] := by kernel_rfl
theorem diff12 : diffC [E12a, E12b] [E12b, E12c] = [⟨k1, [], true⟩, ⟨k3, [], false⟩] := by kernel_rfl
theorem asc12_ab : Asc [E12a, E12b] := asc_keys (chk_asc _ (fun k hk => by
  rcases List.mem_cons.1 hk with rfl | hk
  · rfl
  · rw [List.mem_singleton.1 hk]; rfl) (show chkK [k1, k2] = 0 by decide +kernel))
theorem asc12_bc : Asc [E12b, E12c] := asc_keys (chk_asc _ (fun k hk => by
  rcases List.mem_cons.1 hk with rfl | hk
  · rfl
  · rw [List.mem_singleton.1 hk]; rfl) (show chkK [k2, k3] = 0 by decide +kernel))
theorem map12 (xs : List Cn) (h : xs.map Cn.chg = [⟨k1, [], true⟩, ⟨k3, [], false⟩]) : ∃ a b : Cn, xs = [a, b] ∧ a.k = k1 ∧ a.d = true ∧ b.k = k3 ∧ b.d = false := by
  match xs, h with
  | [], h => simp at h
  | [_], h => simp at h
  | _ :: _ :: _ :: _, h => simp at h
  | [a, b], h =>
    simp only [List.map_cons, List.map_nil, List.cons.injEq, and_true] at h
    obtain ⟨h1, h2⟩ := h
    exact ⟨a, b, rfl, congrArg Chg.k h1, congrArg Chg.d h1, congrArg Chg.k h2, congrArg Chg.d h2⟩
end Go.Proofs.YtaajnjddfcdeaaaDoor

/- alive of layer 12 over contracts. -/
namespace Go.Proofs.YtaajnjddfcdeaaaDoor
open Go.RowKit

set_option maxHeartbeats 16000000 in
set_option maxRecDepth 100000 in
theorem alive12_c {M : World → Int → Tv → Prop} (nd : NdV M) (ba : BaV M) (w : World) (hvx : Vars w) : Calls Tryd.prog 5 #[] w (Aye w) := by
  have HVX := Lib.hid hvx
  have HH := Lib.hid (hash_in 256 w (by decide) (by decide))
  clear hvx
  go_enter Tryd.func5, Tryd.ntmps5
  go_wp2_with fail
  refine HH.out.mono ?_
  rintro _ w1 ⟨b, rfl, hb, hH, hB⟩
  have HN1 := Lib.hid hb
  have b1 := bldKey12_1
  have b2 := bldKey12_2
  have b3 := bldKey12_3
  have b4 := bldEnt12_1
  have b5 := bldEnt12_2
  have b6 := bldChg12_1
  have b7 := bldChg12_3
  have s1 := bsE12_ab
  have s2 := bsE12_ba
  have s3 := bsC12
  obtain ⟨es, hes⟩ : ∃ es, es = [e12a, e12b] := ⟨_, rfl⟩
  obtain ⟨rs, hrs⟩ : ∃ rs, rs = [e12b, e12a] := ⟨_, rfl⟩
  obtain ⟨cs, hcs⟩ : ∃ cs, cs = [c12a, c12b] := ⟨_, rfl⟩
  obtain ⟨ec, hec⟩ : ∃ ec : List Value, ec = es.flatMap enC := ⟨_, rfl⟩
  obtain ⟨rc, hrc⟩ : ∃ rc : List Value, rc = rs.flatMap enC := ⟨_, rfl⟩
  obtain ⟨cc, hcc⟩ : ∃ cc : List Value, cc = cs.flatMap cnC := ⟨_, rfl⟩
  rw [← hes, ← hec] at s1
  rw [← hrs, ← hrc] at s2
  rw [← hcs, ← hcc] at s3
  obtain ⟨Y1, hY1⟩ : ∃ Y, Y = w1.alloc (.cells ec.toArray 47) := ⟨_, rfl⟩
  have hb1 : Below w1.heap.size w1 Y1 := by rw [hY1]; exact (Below.refl _ _).alloc (Nat.le_refl _) _
  have hEA : EA Y1 (some ⟨w1.heap.size, 0, none⟩) es := by rw [hY1, hec]; exact flat_ea12 w1 es (by rw [hes]; exact ok12_e w1) _
  have HH1 := Lib.hid (hH.keep (Keep.of_below (L := fun _ => False) hb1) fun h => h)
  have HV1 := Lib.hid ((HVX.out.below hB).below hb1)
  have HB1 := Lib.hid (hB.trans (hb1.mono hB.size))
  have hln : es.length = 2 := by rw [hes]; rfl
  have HBU := Lib.hid (ba.build Y1 b 256 0 (some ⟨w1.heap.size, 0, none⟩) 2 es HH1.out (by decide) HV1.out hEA (by rw [hln]; decide) (by rw [hes]; exact len12_e))
  rw [hln] at HBU
  unfold ptr at HBU ⊢
  have HES := Lib.hid hes
  have HRS := Lib.hid hrs
  have HCS := Lib.hid hcs
  have HRC := Lib.hid hrc
  have HCC := Lib.hid hcc
  have HY1 := Lib.hid hY1
  clear hb hH hB HH HVX hes hrs hcs hec hrc hcc hY1 hb1 hEA hln
  go_wp2_with fail
  rw [← HY1.out]
  clear HY1
  refine HBU.out.mono ?_
  rintro _ w2 ⟨h, _⟩
  obtain ⟨T1, rfl, hI1, hm1⟩ := h (by rw [HES.out]; exact chk12_ab)
  clear h
  obtain ⟨c1, hc1, hh1⟩ := hm1.hs
  obtain ⟨p1, hp1⟩ := val_ptr nd hm1.ms
  have HP1 := Lib.hid hp1
  have HI1 : Hid (IsMap [E12a, E12b] T1) := by rw [HES.out] at hI1; exact hI1
  have HM1 := Lib.hid hm1.ms
  have HKP1 := Lib.hid hm1.keep
  obtain ⟨Y2, hY2⟩ : ∃ Y, Y = w2.alloc (.cells cc.toArray 50) := ⟨_, rfl⟩
  have hb2 : Below w2.heap.size w2 Y2 := by rw [hY2]; exact (Below.refl _ _).alloc (Nat.le_refl _) _
  have hCA : CA Y2 (some ⟨w2.heap.size, 0, none⟩) cs := by rw [hY2, HCC.out]; exact flat_ca12 w2 cs (by rw [HCS.out]; exact ok12_c w2) _
  have HH2 := Lib.hid (hh1.keep (Keep.of_below (L := fun _ => False) hb2) fun h => h)
  have HV2 := Lib.hid ((HV1.out.hs HH1.out HKP1.out).below hb2)
  have hln : cs.length = 2 := by rw [HCS.out]; rfl
  have HAP := Lib.hid (ba.apply Y2 b 256 c1 [E12a, E12b] T1 (some ⟨w2.heap.size, 0, none⟩) 2 cs HH2.out (by omega) HV2.out (nd.below hm1.ms hb2) HI1.out (by decide) hCA (by rw [hln]; decide) (by rw [hln]; decide) (by rw [HCS.out]; exact len12_c))
  rw [hln, hp1] at HAP
  rw [hp1]
  unfold ptr at HAP
  have HC1 : Hid (c1 ≤ 90000) := by show _ ≤ _; omega
  have HB2 := Lib.hid hb2
  have HY2 := Lib.hid hY2
  clear hI1 hm1 hc1 hh1 hp1 hY2 hb2 hCA hln HBU
  go_wp2_with fail
  rw [← HY2.out]
  clear HY2
  refine HAP.out.mono ?_
  rintro _ w3 ⟨h, _⟩
  obtain ⟨T2, rfl, hI2, hm2⟩ := h (by rw [HCS.out]; exact chk12_c)
  clear h
  obtain ⟨c2, hc2, hh2⟩ := hm2.hs
  obtain ⟨p2, hp2⟩ := val_ptr nd hm2.ms
  have HP2 := Lib.hid hp2
  have HI2 : Hid (IsMap [E12b, E12c] T2) := by
    have h2 := hI2
    rw [HCS.out] at h2
    have h3 : appC [E12a, E12b] ([c12a, c12b].map Cn.chg) = [E12b, E12c] := app12
    rwa [h3] at h2
  have HM13 := Lib.hid (nd.hs (nd.below HM1.out HB2.out) HH2.out hm2.keep)
  have HM2 := Lib.hid hm2.ms
  have HKP2 := Lib.hid hm2.keep
  obtain ⟨Y3, hY3⟩ : ∃ Y, Y = w3.alloc (.cells rc.toArray 47) := ⟨_, rfl⟩
  have hb3 : Below w3.heap.size w3 Y3 := by rw [hY3]; exact (Below.refl _ _).alloc (Nat.le_refl _) _
  have hEA : EA Y3 (some ⟨w3.heap.size, 0, none⟩) rs := by rw [hY3, HRC.out]; exact flat_ea12 w3 rs (by rw [HRS.out]; exact ok12_r w3) _
  have HH3 := Lib.hid (hh2.keep (Keep.of_below (L := fun _ => False) hb3) fun h => h)
  have HV3 := Lib.hid ((HV2.out.hs HH2.out HKP2.out).below hb3)
  have hln : rs.length = 2 := by rw [HRS.out]; rfl
  have HBR := Lib.hid (ba.build Y3 b 256 c2 (some ⟨w3.heap.size, 0, none⟩) 2 rs HH3.out (by have := HC1.out; omega) HV3.out hEA (by rw [hln]; decide) (by rw [HRS.out]; exact len12_r))
  rw [hln] at HBR
  rw [hp2]
  unfold ptr at HBR
  have HB3 := Lib.hid hb3
  have HY3 := Lib.hid hY3
  clear hI2 hm2 hc2 hh2 hp2 hY3 hb3 hEA hln HAP
  go_wp2_with fail
  rw [← HY3.out]
  clear HY3
  refine HBR.out.mono ?_
  rintro _ w4 ⟨_, h⟩
  have hck : chkK (rs.map En.k) = 8 := by rw [HRS.out]; exact chk12_ba
  obtain ⟨rfl, hrf⟩ := h (by rw [hck]; decide)
  clear h
  rw [hck]
  have HM14 := Lib.hid (nd.hs (nd.below HM13.out HB3.out) HH3.out hrf.keep)
  have HM24 := Lib.hid (nd.hs (nd.below HM2.out HB3.out) HH3.out hrf.keep)
  have HB4 : Hid (Below w.heap.size w w4) := by
    have h1 := HB1.out.size
    have h2 := HN1.out
    have k1 : Below w.heap.size w w2 := HB1.out.trans (HKP1.out.below h1 fun i hi => by have e : i = b := hi; omega)
    have k2 : Below w.heap.size w Y2 := k1.trans (HB2.out.mono k1.size)
    have k3 : Below w.heap.size w w3 := k2.trans (HKP2.out.below k2.size fun i hi => by have e : i = b := hi; omega)
    have k4 : Below w.heap.size w Y3 := k3.trans (HB3.out.mono k3.size)
    exact k4.trans (hrf.keep.below k4.size fun i hi => by have e : i = b := hi; omega)
  have HDF := Lib.hid (ba.diff w4 256 T1 T2 [E12a, E12b] [E12b, E12c] HM14.out HM24.out HI1.out HI2.out asc12_ab asc12_bc (by decide) (by decide))
  rw [HP1.out, HP2.out] at HDF
  clear hrf hck HBR
  go_wp2_with fail
  refine HDF.out.mono ?_
  rintro _ w5 ⟨A5, c5, xs, rfl, hca, hcl, hxs, _, hB5⟩
  clear hcl
  rw [diff12] at hxs
  obtain ⟨x, y, rfl, hx1, hx2, hy1, hy2⟩ := map12 xs hxs
  obtain ⟨hokx, g, o, rfl, hrx⟩ := hca 0 x rfl
  obtain ⟨hoky, g2, o2, hA2, hry⟩ := hca 1 y rfl
  cases hA2
  have HRX := Lib.hid hrx
  have HRY := Lib.hid hry
  have HKX := Lib.hid hokx.key
  have HKY := Lib.hid hoky.key
  have HX1 := Lib.hid hx1
  have HX2 := Lib.hid hx2
  have HY1 := Lib.hid hy1
  have HY2 := Lib.hid hy2
  have HB5 := Lib.hid (HB4.out.trans (hB5.mono HB4.out.size))
  have HL1 := Lib.hid (nd.len w5 256 T1 (nd.below HM14.out hB5) (by rw [HI1.out.len]; decide))
  have HL2 := Lib.hid (fun y (hy : Below w5.heap.size w5 y) => nd.len y 256 T2 (nd.below (nd.below HM24.out hB5) hy) (by rw [HI2.out.len]; decide))
  rw [HI1.out.len, HP1.out] at HL1
  rw [HI2.out.len, HP2.out] at HL2
  clear hca hxs hx1 hx2 hy1 hy2 hrx hry hokx hoky hB5 HDF
  go_wp2_with fail
  refine HL1.out.mono ?_
  rintro _ w6 ⟨rfl, hB6⟩
  have HB6 := Lib.hid hB6
  clear hB6 HL1
  go_wp2_with fail
  refine (HL2.out w6 HB6.out).mono ?_
  rintro _ w7 ⟨rfl, hB7⟩
  have HB7 := Lib.hid (HB6.out.trans (hB7.mono HB6.out.size))
  have hrx := range_below HRX.out HB7.out
  have hry := range_below HRY.out HB7.out
  rw [Nat.zero_mul, Nat.add_zero] at hrx
  rw [Nat.one_mul] at hry
  have l1 : ldA 44 w7 (.pointer (some ⟨g, o, none⟩)) = .ok (.value (.agg (bA k1))) w7 := by rw [← HX1.out]; exact range_ckey hrx HKX.out
  have l2 : w7.cell? ⟨g, o + 33, none⟩ = some (.bool true) := by rw [← HX2.out]; exact range_cdel hrx HKX.out
  have l3 : ldA 44 w7 (.pointer (some ⟨g, o + 34, none⟩)) = .ok (.value (.agg (bA k3))) w7 := by rw [← HY1.out]; exact range_ckey hry HKY.out
  have l4 : w7.cell? ⟨g, o + 67, none⟩ = some (.bool false) := by rw [← HY2.out]; exact range_cdel hry HKY.out
  have l5 : w7.cell? ⟨g, o + 34 + 33, none⟩ = some (.bool false) := l4
  have q1 : ∀ o p w, eqA .eql 44 o p w (.agg (bA k1)) (.agg (bA k1)) = .ok (.value (.bool true)) w := fun o p w => by rw [eqKey k1 k1 rfl rfl, decide_eq_true rfl]
  have q3 : ∀ o p w, eqA .eql 44 o p w (.agg (bA k3)) (.agg (bA k3)) = .ok (.value (.bool true)) w := fun o p w => by rw [eqKey k3 k3 rfl rfl, decide_eq_true rfl]
  clear hB7 HL2 hrx hry
  go_wp2_with fail
  go_ret
  exact ⟨rfl, HB5.out.trans (HB7.out.mono HB5.out.size)⟩
end Go.Proofs.YtaajnjddfcdeaaaDoor

/- The walk of BatchApplies over contracts. -/
namespace Go.Proofs.YtaajnjddfcdeaaaDoor
open Go.RowKit

end Go.Proofs.YtaajnjddfcdeaaaDoor

/- BatchApplies and BatchUndoes: the cases that say 'alive' only; changes beside a hasher. -/
namespace Go.Proofs.YtaajnjddfcdeaaaDoor
open Go.RowKit

theorem Hs.ca {w w' : World} {b : Nat} {n : Int} {c : Nat} {A : Option Addr} {xs : List Cn} (h : Hs w b n c) (hA : CA w A xs) (k : Keep (fun i => i = b) w w') : CA w' A xs := fun i x hi => by
  obtain ⟨h1, g, o, rfl, h3⟩ := hA i x hi
  have hg : g ≠ b := by
    rintro rfl
    have h2 := h3 0 (bv (x.k.getD 0 0)) (by
      unfold cnC
      rw [List.getElem?_append_left (by rw [List.length_map, h1.key]; decide), List.getElem?_map, List.getD_eq_getElem?_getD, List.getElem?_eq_getElem (by have := h1.key; omega)]
      rfl)
    rw [cell_of_cells h, Nat.add_zero] at h2
    generalize o + i * 34 = q at h2
    match q, h2 with
    | 0, h2 => cases h2
    | 1, h2 => cases h2
    | q + 2, h2 => simp at h2
  exact ⟨⟨h1.key, h1.cap, h.ba h1.val k⟩, g, o, rfl, fun j v hv => k.cellAt (h3 j v hv) hg⟩
end Go.Proofs.YtaajnjddfcdeaaaDoor

/- The walk of BatchUndoes over contracts. -/
namespace Go.Proofs.YtaajnjddfcdeaaaDoor
open Go.RowKit

end Go.Proofs.YtaajnjddfcdeaaaDoor

/- The walk of BatchLeads over contracts. -/
namespace Go.Proofs.YtaajnjddfcdeaaaDoor
open Go.RowKit

theorem few_cases12 (n : Int) (es : List En) : ((n < 0 ∨ 256 < n) ∨ fewK (es.map En.ent) = false) ∨ (0 ≤ n ∧ n ≤ 256 ∧ fewK (es.map En.ent) = true ∧ es.length ≤ 12 ∧ ∀ e ∈ es, e.v.length ≤ 1000) := by
  rcases Classical.em ((n < 0 ∨ 256 < n) ∨ fewK (es.map En.ent) = false) with h | h
  · exact .inl h
  · have hf : fewK (es.map En.ent) = true := by
      cases hq : fewK (es.map En.ent) with
      | true => rfl
      | false => exact absurd (.inr hq) h
    have h2 := hf
    unfold fewK at h2
    rw [Bool.and_eq_true, List.length_map] at h2
    refine .inr ⟨by omega, by omega, hf, of_decide_eq_true h2.1, fun e he => ?_⟩
    have h3 := List.all_eq_true.1 h2.2 e.ent (List.mem_map.2 ⟨e, he, rfl⟩)
    have h4 : e.v.length ≤ 200 := of_decide_eq_true h3
    omega
theorem tree_any {M : World → Int → Tv → Prop} (nd : NdV M) (n : Int) (A : Option Addr) (c : Nat) (es : List En) (W : World) (hA : EA W A es) (hvx : Vars W) :
    Calls Tryd.prog 4 #[.int .i64 n, .slice A es.length c] W fun e w' => ∃ (A' : Option Addr) (N c' : Nat) (p : Option Addr) (q : Bool), e = .returned (.tuple #[.slice A' N c', .pointer p, .bool q]) ∧ (((n < 0 ∨ 256 < n) ∨ fewK (es.map En.ent) = false) → q = false) ∧ Below W.heap.size W w' := by
  rcases few_cases12 n es with h | ⟨h0, h1, hf, hl, hvl⟩
  · exact (tree_out n A c es W hA h).mono fun e w' ⟨he, hb⟩ => ⟨none, 0, 0, none, false, he, fun _ => rfl, hb⟩
  · refine (tree_in nd n A c es W hA hl hvl hf hvx h0 h1).mono ?_
    rintro _ w' ⟨A', c', T, rfl, _, _, hF⟩
    obtain ⟨p, hp⟩ := val_ptr nd hF.ms
    have hq : ¬ ((n < 0 ∨ 256 < n) ∨ fewK (es.map En.ent) = false) := fun h => h.elim (fun h => by omega) fun h => by rw [hf] at h; cases h
    exact ⟨A', _, c', p, true, by rw [hp], fun h => absurd h hq, hF.bel⟩
end Go.Proofs.YtaajnjddfcdeaaaDoor

/- The walk of BatchBuilds over contracts. -/
namespace Go.Proofs.YtaajnjddfcdeaaaDoor
open Go.RowKit

end Go.Proofs.YtaajnjddfcdeaaaDoor

/- The walk of BatchDiffs over contracts. -/
namespace Go.Proofs.YtaajnjddfcdeaaaDoor
open Go.RowKit

set_option maxHeartbeats 16000000 in
set_option maxRecDepth 100000 in
/-- One of the two maps is none: alive. -/
theorem diffs_no {M : World → Int → Tv → Prop} (nd : NdV M) (ba : BaV M) (n : Int) (A : Option Addr) (c : Nat) (es : List En) (B : Option Addr) (cB : Nat) (bs : List En) (W : World) (hA : EA W A es) (hB : EA W B bs) (hvx : Vars W) (h : ((n < 0 ∨ 256 < n) ∨ fewK (es.map En.ent) = false) ∨ ((n < 0 ∨ 256 < n) ∨ fewK (bs.map En.ent) = false)) :
    Calls Tryd.prog 3 #[.int .i64 n, .slice A es.length c, .slice B bs.length cB] W (Aye W) := by
  have HVX := Lib.hid hvx
  have HBB := Lib.hid hB
  have HT := Lib.hid (tree_any nd n A c es W hA hvx)
  have HC := Lib.hid h
  have HAL : Hid (∀ w, Vars w → Calls Tryd.prog 5 #[] w fun e w' => e = .returned (.bool true) ∧ Below w.heap.size w w') := fun w h => alive12_c nd ba w h
  clear hA hB hvx h
  go_enter Tryd.func3, Tryd.ntmps3
  go_wp2_with fail
  refine HT.out.mono ?_
  rintro _ w2 ⟨A2, N2, c2, p2, q2, rfl, hq2, hB⟩
  have HB2 := Lib.hid hB
  have HQ2 := Lib.hid hq2
  have HT2 := Lib.hid (tree_any nd n B cB bs w2 (HBB.out.below hB) (HVX.out.below hB))
  clear hB hq2 HT
  go_wp2_with fail
  refine HT2.out.mono ?_
  rintro _ w3 ⟨A3, N3, c3, p3, q3, rfl, hq3, hB⟩
  have HB3 := Lib.hid (HB2.out.trans (hB.mono HB2.out.size))
  have HQ3 := Lib.hid hq3
  clear hB hq3 HT2 HB2
  obtain ⟨w4, hw4⟩ : ∃ w4, w4 = w3 := ⟨_, rfl⟩
  have HB4 : Hid (Below W.heap.size W w4) := by rw [hw4]; exact HB3.out
  rw [← hw4]
  clear hw4
  cases q2 with
  | false =>
    clear HQ2 HQ3 HC
    go_wp2_with fail
    refine (HAL.out w4 (HVX.out.below HB4.out)).mono ?_
    rintro _ w5 ⟨rfl, hB⟩
    have HB5 := Lib.hid (HB4.out.trans (hB.mono HB4.out.size))
    clear hB
    go_wp2_with fail
    go_ret
    exact ⟨rfl, HB5.out⟩
  | true =>
    obtain rfl : q3 = false := by
      rcases HC.out with h | h
      · exact absurd (HQ2.out h) (by decide)
      · exact HQ3.out h
    clear HQ2 HQ3 HC
    go_wp2_with fail
    refine (HAL.out w4 (HVX.out.below HB4.out)).mono ?_
    rintro _ w5 ⟨rfl, hB⟩
    have HB5 := Lib.hid (HB4.out.trans (hB.mono HB4.out.size))
    clear hB
    go_wp2_with fail
    go_ret
    exact ⟨rfl, HB5.out⟩
set_option maxHeartbeats 16000000 in
set_option maxRecDepth 100000 in
theorem diffs_in {M : World → Int → Tv → Prop} (nd : NdV M) (ba : BaV M) (n : Int) (A : Option Addr) (c : Nat) (es : List En) (B : Option Addr) (cB : Nat) (bs : List En) (W : World) (hA : EA W A es) (hl : es.length ≤ 12) (hvl : ∀ e ∈ es, e.v.length ≤ 1000) (hf : fewK (es.map En.ent) = true) (hB : EA W B bs) (hl2 : bs.length ≤ 12) (hvl2 : ∀ e ∈ bs, e.v.length ≤ 1000) (hf2 : fewK (bs.map En.ent) = true) (hvx : Vars W) (h0 : 0 ≤ n) (h1 : n ≤ 256) :
    Calls Tryd.prog 3 #[.int .i64 n, .slice A es.length c, .slice B bs.length cB] W (Aye W) := by
  have HT := Lib.hid (tree_in nd n A c es W hA hl hvl hf hvx h0 h1)
  have HVE : Hid (∀ e ∈ ofE es, e.v.length ≤ 1000) := fun e he => hvl e (ofE_mem he)
  have HVP : Hid (∀ e ∈ ofE bs, e.v.length ≤ 1000) := fun e he => hvl2 e (ofE_mem he)
  have HLE : Hid ((ofE es).length ≤ 12) := Nat.le_trans (ofE_len es) hl
  have HLP : Hid ((ofE bs).length ≤ 12) := Nat.le_trans (ofE_len bs) hl2
  have HAS : Hid (Asc ((ofE es).map En.ent) ∧ Len32 ((ofE es).map En.ent)) := by
    rw [ofE_ent]
    have h32 : ∀ x ∈ es.map En.ent, x.k.length = 32 := fun x hx => by
      obtain ⟨e, he, rfl⟩ := List.mem_map.1 hx
      obtain ⟨i, hi⟩ := List.getElem?_of_mem he
      exact (hA i e hi).1.key
    refine ⟨ofK_asc h32, fun x hx => ?_⟩
    rw [← ofE_ent] at hx
    obtain ⟨e, he, rfl⟩ := List.mem_map.1 hx
    exact h32 _ (List.mem_map.2 ⟨e, ofE_mem he, rfl⟩)
  have HAP : Hid (Asc ((ofE bs).map En.ent) ∧ Len32 ((ofE bs).map En.ent)) := by
    rw [ofE_ent]
    have h32 : ∀ x ∈ bs.map En.ent, x.k.length = 32 := fun x hx => by
      obtain ⟨e, he, rfl⟩ := List.mem_map.1 hx
      obtain ⟨i, hi⟩ := List.getElem?_of_mem he
      exact (hB i e hi).1.key
    refine ⟨ofK_asc h32, fun x hx => ?_⟩
    rw [← ofE_ent] at hx
    obtain ⟨e, he, rfl⟩ := List.mem_map.1 hx
    exact h32 _ (List.mem_map.2 ⟨e, ofE_mem he, rfl⟩)
  have HT2 : Hid (∀ w2, Below W.heap.size W w2 → Calls Tryd.prog 4 #[.int .i64 n, .slice B bs.length cB] w2 fun e w' => ∃ A' c' T, e = .returned (.tuple #[.slice A' (ofE bs).length c', T.val, .bool true]) ∧ (ofE bs).length ≤ c' ∧ IsMap ((ofE bs).map En.ent) T ∧ Fs M w2 n A' (ofE bs) T w') := fun w2 hb => tree_in nd n B cB bs w2 (hB.below hb) hl2 hvl2 hf2 (hvx.below hb) h0 h1
  have HAL : Hid (∀ w, Vars w → Calls Tryd.prog 5 #[] w fun e w' => e = .returned (.bool true) ∧ Below w.heap.size w w') := fun w h => alive12_c nd ba w h
  clear hA hvl hf hB hvl2 hf2 hvx
  go_enter Tryd.func3, Tryd.ntmps3
  go_wp2_with fail
  refine HT.out.mono ?_
  rintro _ w2 ⟨A2, c2, T, rfl, _, hI, hF⟩
  have HI := Lib.hid hI
  have HF2 := Lib.hid hF
  have HT3 := Lib.hid (HT2.out w2 hF.bel)
  obtain ⟨O, hO⟩ : ∃ O, O = ofE es := ⟨_, rfl⟩
  rw [← hO] at HI HF2 HVE HLE HAS ⊢
  obtain ⟨P, hP⟩ : ∃ P, P = ofE bs := ⟨_, rfl⟩
  rw [← hP] at HT3 HVP HLP HAP
  obtain ⟨pT, hpT⟩ := val_ptr nd hF.ms
  have HPT := Lib.hid hpT
  rw [hpT]
  clear hI hF HT hO hpT hP HT2
  go_wp2_with fail
  refine HT3.out.mono ?_
  rintro _ w3 ⟨A3, c3, S, rfl, _, hI, hF⟩
  have HIS := Lib.hid hI
  have HF3 := Lib.hid hF
  obtain ⟨pS, hpS⟩ := val_ptr nd hF.ms
  have HPS := Lib.hid hpS
  rw [hpS]
  have HMT := Lib.hid (nd.below HF2.out.ms hF.bel)
  have HET := Lib.hid (HF2.out.ea.below hF.bel)
  clear hI hF hpS HT3
  go_wp2_with fail
  refine (HAL.out w3 HF3.out.vars).mono ?_
  rintro _ w4 ⟨rfl, hB⟩
  have HB4 := Lib.hid hB
  have HDF := Lib.hid (ba.diff w4 n T S (O.map En.ent) (P.map En.ent) (nd.below HMT.out hB) (nd.below HF3.out.ms hB) HI.out HIS.out HAS.out.1 HAP.out.1 (by rw [List.length_map]; have := HLE.out; omega) (by rw [List.length_map]; have := HLP.out; omega))
  rw [HPT.out, HPS.out] at HDF
  clear hB
  go_wp2_with fail
  refine HDF.out.mono ?_
  rintro _ w5 ⟨A5, c5, xs, rfl, hca, hcl, hxs, hxv, hB⟩
  clear hcl
  have HB5 := Lib.hid (HB4.out.trans (hB.mono HB4.out.size))
  have HXS := Lib.hid hxs
  have HXV := Lib.hid hxv
  have HXL : Hid (xs.length ≤ 24) := by
    show _ ≤ _
    have h1 := congrArg List.length hxs
    have h2 := diffC_len (O.map En.ent) (P.map En.ent)
    have h3 := HLE.out
    have h4 := HLP.out
    rw [List.length_map] at h1
    rw [List.length_map, List.length_map] at h2
    omega
  have HBK := Lib.hid (back_c A5 c5 xs w5 hca (by have := HXL.out; omega))
  clear hca hxs hxv hB HDF HB4
  go_wp2_with fail
  refine HBK.out.mono ?_
  rintro _ w6 ⟨A6, c6, rfl, hca, _, hB⟩
  have HB6 := Lib.hid (HB5.out.trans (hB.mono HB5.out.size))
  have HCA6 := Lib.hid hca
  have HRD := Lib.hid (diff12_c A2 c2 O A3 c3 P w6 (HET.out.below HB6.out) (HF3.out.ea.below HB6.out) (by have := HLE.out; omega) (by have := HLP.out; omega) HVE.out HVP.out)
  clear hca hB HBK HB5
  go_wp2_with fail
  refine HRD.out.mono ?_
  rintro _ w7 ⟨A7, c7, zs, rfl, hcz, hzs, _, hB⟩
  have HB7 := Lib.hid (HB6.out.trans (hB.mono HB6.out.size))
  have HSM := Lib.hid (same12_yes A6 A7 c6 c7 xs zs w7 (HCA6.out.below hB) hcz (by have := HXL.out; omega) HXV.out (by rw [HXS.out, hzs]))
  clear hcz hzs hB HRD HB6 HCA6
  go_wp2_with fail
  refine HSM.out.mono ?_
  rintro _ w8 ⟨rfl, hB⟩
  have HB8 := Lib.hid (HB7.out.trans (hB.mono HB7.out.size))
  have HD2 := Lib.hid (ba.diff w8 n T T (O.map En.ent) (O.map En.ent) (nd.below HMT.out HB8.out) (nd.below HMT.out HB8.out) HI.out HI.out HAS.out.1 HAS.out.1 (by rw [List.length_map]; have := HLE.out; omega) (by rw [List.length_map]; have := HLE.out; omega))
  rw [HPT.out] at HD2
  clear hB HSM HB7
  go_wp2_with fail
  refine HD2.out.mono ?_
  rintro _ w9 ⟨A9, c9, ys, rfl, _, hcl, hys, _, hB⟩
  clear hcl
  rw [diff_self HAS.out.2] at hys
  obtain rfl : ys = [] := List.map_eq_nil_iff.1 hys
  have HB9 := Lib.hid (HB8.out.trans (hB.mono HB8.out.size))
  clear hys hB HD2 HB8
  go_wp2_with fail
  go_ret
  have hb := HF2.out.bel.trans (HF3.out.bel.mono HF2.out.bel.size)
  exact ⟨rfl, hb.trans (HB9.out.mono hb.size)⟩
end Go.Proofs.YtaajnjddfcdeaaaDoor

/- The walk of BatchAgrees over contracts. -/
namespace Go.Proofs.YtaajnjddfcdeaaaDoor
open Go.RowKit

end Go.Proofs.YtaajnjddfcdeaaaDoor

/- The laws of layer 12, their cases together. -/
namespace Go.Proofs.YtaajnjddfcdeaaaDoor
open Go.RowKit

theorem diffs12_w {M : World → Int → Tv → Prop} (nd : NdV M) (ba : BaV M) (n : Int) (A : Option Addr) (c : Nat) (es : List En) (B : Option Addr) (cB : Nat) (bs : List En) (W : World) (hA : EA W A es) (hvx : Vars W) (hB : EA W B bs) : Calls Tryd.prog 3 #[.int .i64 n, .slice A es.length c, .slice B bs.length cB] W (Aye W) := by
  rcases few_cases12 n es with h | ⟨h0, h1, hf, hl, hvl⟩
  · exact diffs_no nd ba n A c es B cB bs W hA hB hvx (.inl h)
  · rcases few_cases12 n bs with h | ⟨_, _, hf2, hl2, hvl2⟩
    · exact diffs_no nd ba n A c es B cB bs W hA hB hvx (.inr h)
    · exact diffs_in nd ba n A c es B cB bs W hA hl hvl hf hB hl2 hvl2 hf2 hvx h0 h1
end Go.Proofs.YtaajnjddfcdeaaaDoor
