/- The reference of layer 8: Under; of layer 7: Get, Same. -/
import Derived.Test.YtpnpdllkcglpnaaDoorOc
import Derived.Test.YtpnpdllkcglpnaaDoorLd
namespace Go.Proofs.YtpnpdllkcglpnaaDoor
open Go.RowKit

theorem comK_c (a b : List UInt8) (ha : a.length = 32) (hb : b.length = 32) (w : World) : Calls Tryd.prog 51 #[.agg (bA a), .agg (bA b)] w fun e w' => e = .returned (.int .i64 (comK a b)) ∧ Below w.heap.size w w' := by
  rw [bA_key a ha, bA_key b hb]
  exact Bt.rcommon_c (keyF a) (keyF b) (keyF_byt a) (keyF_byt b) w
def underE (es : List En) (k : List UInt8) (b : Nat) : List En := es.filter fun e => decide (b ≤ comK e.k k)
theorem underE_ent (es : List En) (k : List UInt8) (b : Nat) : (underE es k b).map En.ent = underK (es.map En.ent) k b := by
  unfold underE underK
  rw [List.filter_map]
  rfl
theorem underE_mem {es : List En} {k : List UInt8} {b : Nat} {e : En} (h : e ∈ underE es k b) : e ∈ es := (List.mem_filter.1 h).1
theorem underE_len (es : List En) (k : List UInt8) (b : Nat) : (underE es k b).length ≤ es.length := List.length_filter_le _ _
set_option maxHeartbeats 8000000 in
set_option maxRecDepth 100000 in
theorem under8_c (A : Option Addr) (c : Nat) (es : List En) (k : List UInt8) (b : Nat) (w : World) (hA : EA w A es) (hn : es.length ≤ 100000) (hk : k.length = 32) (_hb : b ≤ 256) :
    Calls Tryd.prog 28 #[.slice A es.length c, .agg (bA k), .int .i64 (b : Int)] w fun e w' => ∃ v, e = .returned v ∧ OwnE w' w.heap.size v (underE es k b) ∧ Below w.heap.size w w' := by
  obtain ⟨X, hX⟩ : ∃ X, X = w.alloc (.cells (bA k) 24) := ⟨_, rfl⟩
  have hb0 : Below w.heap.size w X := by rw [hX]; exact (Below.refl _ _).alloc (Nat.le_refl _) _
  have hr0 : RowB X w.heap.size 24 k := by rw [hX]; exact RowB.alloc w k _
  have HX := Lib.hid hX
  have HB0 := Lib.hid hb0
  have HR0 := Lib.hid hr0
  have HA := Lib.hid (hA.below hb0)
  clear hA hX hb0 hr0
  go_enter Tryd.func28, Tryd.ntmps28
  go_wp2_with fail
  rw [← HX.out]
  clear HX
  go_loopg [7, 8] es.length (fun gg out i wr => ∃ m : Nat, i = .int .i64 (m : Int) ∧ m ≤ es.length ∧ es.length - m = gg ∧ OwnE wr X.heap.size out (underE (es.take m) k b) ∧ Below X.heap.size X wr)
  case atStart => exact ⟨0, rfl, by omega, by omega, OwnE.nil _ _, Below.refl _ _⟩
  case round =>
    obtain ⟨m, rfl, hm, rfl, hO, hB⟩ := hrel
    have HO := Lib.hid hO
    have HB := Lib.hid hB
    obtain ⟨A3, c3, rfl, hc3⟩ := hO.len
    have hln : (underE (es.take m) k b).length ≤ es.length := filter_le es _ m
    obtain ⟨N, hN⟩ : ∃ N, N = (underE (es.take m) k b).length := ⟨_, rfl⟩
    rw [← hN] at HO hln ⊢
    have HN := Lib.hid hN
    clear hO hB hc3 hN
    by_cases hlt : m < es.length
    · have hd : decide (m < es.length) = true := decide_eq_true hlt
      obtain ⟨e, he⟩ : ∃ e, es[m]? = some e := ⟨_, List.getElem?_eq_getElem hlt⟩
      obtain ⟨hok, g, o, rfl, hr⟩ := HA.out m e he
      have HR := Lib.hid (range_below hr HB.out)
      have HKL := Lib.hid hok.key
      have HE := Lib.hid he
      have p0 : (0 : Int) ≤ (m : Int) := by omega
      have p1 : (m : Int) < (es.length : Int) := by omega
      have l1 : ∀ q : Later wr, ldA 24 q.w (.pointer (some ⟨g, o + m * 33, none⟩)) = .ok (.value (.agg (bA e.k))) q.w := fun q => range_key (range_below HR.out q.h) HKL.out
      have l2 : ∀ q : Later wr, ldA 24 q.w (.pointer (some ⟨w.heap.size, 0, none⟩)) = .ok (.value (.agg (bA k))) q.w := fun q => ((HR0.out.below HB.out).below q.h).ldKey hk
      have HC := Lib.hid (fun w => comK_c e.k k HKL.out hk w)
      obtain ⟨q, hq⟩ : ∃ q, q = comK e.k k := ⟨_, rfl⟩
      rw [← hq] at HC
      have HQ := Lib.hid hq
      clear he hok hr hq
      by_cases hqb : b ≤ q
      · have hp : decide (b ≤ comK e.k k) = true := decide_eq_true (by rw [← HQ.out]; exact hqb)
        have e1 : decide (b ≤ q) = true := decide_eq_true hqb
        have e2 : decide ((b : Int) ≤ (q : Int)) = true := decide_eq_true (by omega)
        have HF : Hid (underE (es.take (m + 1)) k b = underE (es.take m) k b ++ [e]) := filter_yes HE.out hp
        have bs := bsE_one e HKL.out
        clear hqb hp
        go_wp2_with fail
        refine wp_region_later (by kernel_rfl) (by kernel_rfl) ?_
        repeat (go_big_quiet_step ((go_at_call 51; exact Later.call (HC.out _))))
        refine wpQuiet_nil ?_
        rintro _ ⟨x, rfl⟩
        have HB2 := Lib.hid (HB.out.trans (x.h.mono HB.out.size))
        have HR2 := Lib.hid (range_below HR.out x.h)
        have HO2 := Lib.hid (HO.out.below x.h)
        have le := range_ent HR2.out HKL.out
        clear l1 l2
        go_wp2_with (at_builtin; refine wpList_pushE rfl _ _ rfl X.heap.size _ (underE (es.take m) k b) rfl (OwnE.below HO2.out ((Below.refl _ _).alloc (Nat.le_refl _) _)) x.w.heap.size e HKL.out rfl (ent_made x.w e _) (by rw [← HN.out]; omega) (by have := HB2.out.size; simp; omega) ?_; intro v4 w4 hO4 hB4; have HO4 := Lib.hid hO4; have HB4 := Lib.hid ((HB2.out.alloc HB2.out.size _).trans hB4); clear hO4 hB4)
        go_roundg (es.length - (m + 1))
        case measure => omega
        case rel => exact ⟨m + 1, by go_num, by omega, rfl, by rw [HF.out]; exact HO4.out, HB4.out⟩
      · have hp : decide (b ≤ comK e.k k) = false := decide_eq_false (by rw [← HQ.out]; exact hqb)
        have e1 : decide (b ≤ q) = false := decide_eq_false hqb
        have e2 : decide ((b : Int) ≤ (q : Int)) = false := decide_eq_false (by omega)
        have HF : Hid (underE (es.take (m + 1)) k b = underE (es.take m) k b) := filter_no HE.out hp
        clear hqb hp
        go_wp2_with fail
        refine wp_region_later (by kernel_rfl) (by kernel_rfl) ?_
        repeat (go_big_quiet_step ((go_at_call 51; exact Later.call (HC.out _))))
        refine wpQuiet_nil ?_
        rintro _ ⟨x, rfl⟩
        have HB2 := Lib.hid (HB.out.trans (x.h.mono HB.out.size))
        have HR2 := Lib.hid (range_below HR.out x.h)
        have HO2 := Lib.hid (HO.out.below x.h)
        have le := range_ent HR2.out HKL.out
        clear l1 l2
        clear le
        go_wp2_with fail
        go_roundg (es.length - (m + 1))
        case measure => omega
        case rel => exact ⟨m + 1, by go_num, by omega, rfl, by rw [HF.out, HN.out] at *; exact HO2.out, HB2.out⟩
    · obtain rfl : m = es.length := by omega
      have hd : decide (es.length < es.length) = false := decide_eq_false (by omega)
      have HOf : Hid (OwnE wr X.heap.size (.slice A3 N c3) (underE es k b)) := by
        have := HO.out
        rw [List.take_length] at this
        exact this
      go_wp2_with fail
      go_ret
      exact ⟨_, rfl, HOf.out.mono HB0.out.size, HB0.out.trans (HB.out.mono HB0.out.size)⟩
/-- The entry of a key. -/
def getE (es : List En) (k : List UInt8) : Option En := es.find? fun e => decide (e.k = k)
def getVal : Option En → Value
  | none => .slice none 0 0
  | some e => .slice e.A e.v.length e.c
set_option maxHeartbeats 8000000 in
set_option maxRecDepth 100000 in
theorem get7_c (A : Option Addr) (c : Nat) (es : List En) (k : List UInt8) (w : World) (hA : EA w A es) (hn : es.length ≤ 100000) (hk : k.length = 32) :
    Calls Tryd.prog 18 #[.slice A es.length c, .agg (bA k)] w fun e w' => e = .returned (.tuple #[getVal (getE es k), .bool (getE es k).isSome]) ∧ Below w.heap.size w w' := by
  obtain ⟨X, hX⟩ : ∃ X, X = w.alloc (.cells (bA k) 24) := ⟨_, rfl⟩
  have hb0 : Below w.heap.size w X := by rw [hX]; exact (Below.refl _ _).alloc (Nat.le_refl _) _
  have hr0 : RowB X w.heap.size 24 k := by rw [hX]; exact RowB.alloc w k _
  have HX := Lib.hid hX
  have HB0 := Lib.hid hb0
  have HR0 := Lib.hid hr0
  have HA := Lib.hid (hA.below hb0)
  clear hA hX hb0 hr0
  go_enter Tryd.func18, Tryd.ntmps18
  go_wp2_with fail
  rw [← HX.out]
  clear HX
  go_loopg [6] es.length (fun gg i wr => ∃ m : Nat, i = .int .i64 (m : Int) ∧ m ≤ es.length ∧ es.length - m = gg ∧ Hid (∀ e ∈ es.take m, e.k ≠ k) ∧ Below X.heap.size X wr)
  case atStart => exact ⟨0, rfl, by omega, by omega, fun e he => by simp at he, Below.refl _ _⟩
  case round =>
    obtain ⟨m, rfl, hm, rfl, HN, hB⟩ := hrel
    have HB := Lib.hid hB
    clear hB
    by_cases hlt : m < es.length
    · have hd : decide (m < es.length) = true := decide_eq_true hlt
      obtain ⟨e, he⟩ : ∃ e, es[m]? = some e := ⟨_, List.getElem?_eq_getElem hlt⟩
      obtain ⟨hok, g, o, rfl, hr⟩ := HA.out m e he
      have HR := Lib.hid (range_below hr HB.out)
      have HKL := Lib.hid hok.key
      have HE := Lib.hid he
      have p0 : (0 : Int) ≤ (m : Int) := by omega
      have p1 : (m : Int) < (es.length : Int) := by omega
      have l1 : ∀ q : Later wr, ldA 24 q.w (.pointer (some ⟨g, o + m * 33, none⟩)) = .ok (.value (.agg (bA e.k))) q.w := fun q => range_key (range_below HR.out q.h) HKL.out
      have l2 : ∀ q : Later wr, ldA 24 q.w (.pointer (some ⟨w.heap.size, 0, none⟩)) = .ok (.value (.agg (bA k))) q.w := fun q => ((HR0.out.below HB.out).below q.h).ldKey hk
      clear he hok hr
      by_cases hek : e.k = k
      · have qk : ∀ o p w, eqA .eql 24 o p w (.agg (bA e.k)) (.agg (bA k)) = .ok (.value (.bool true)) w := fun o p w => by rw [eqKey e.k k HKL.out hk, decide_eq_true hek]
        have HG : Hid (getE es k = some e) := by
          show es.find? _ = _
          have h1 : es = es.take m ++ e :: es.drop (m + 1) := by
            have h2 : e = es[m] := Option.some.inj (HE.out.symm.trans (List.getElem?_eq_getElem hlt))
            rw [h2, ← List.drop_eq_getElem_cons hlt, List.take_append_drop]
          rw [h1, List.find?_append, List.find?_eq_none.2 (fun x hx => by simpa using HN.out x hx)]
          simp [hek]
        clear hek
        go_wp2_with fail
        refine wp_region_later (by kernel_rfl) (by kernel_rfl) ?_
        repeat (go_big_quiet_step (fail))
        refine wpQuiet_nil ?_
        rintro _ ⟨x, rfl⟩
        have HB2 := Lib.hid (HB.out.trans (x.h.mono HB.out.size))
        have lv := range_val (range_below HR.out x.h) HKL.out
        clear l1 l2 qk
        go_wp2_with fail
        go_ret2
        exact ⟨by rw [HG.out]; rfl, HB0.out.trans (HB2.out.mono HB0.out.size)⟩
      · have qk : ∀ o p w, eqA .eql 24 o p w (.agg (bA e.k)) (.agg (bA k)) = .ok (.value (.bool false)) w := fun o p w => by rw [eqKey e.k k HKL.out hk, decide_eq_false hek]
        have HEK := Lib.hid hek
        clear hek
        go_wp2_with fail
        refine wp_region_later (by kernel_rfl) (by kernel_rfl) ?_
        repeat (go_big_quiet_step (fail))
        refine wpQuiet_nil ?_
        rintro _ ⟨x, rfl⟩
        have HB2 := Lib.hid (HB.out.trans (x.h.mono HB.out.size))
        clear l1 l2 qk
        go_wp2_with fail
        go_roundg (es.length - (m + 1))
        case measure => omega
        case rel =>
          refine ⟨m + 1, by go_num, by omega, rfl, fun x hx => ?_, HB2.out⟩
          rw [take_some HE.out] at hx
          rcases List.mem_append.1 hx with hx | hx
          · exact HN.out x hx
          · rw [List.mem_singleton.1 hx]; exact HEK.out
    · obtain rfl : m = es.length := by omega
      have hd : decide (es.length < es.length) = false := decide_eq_false (by omega)
      have HG : Hid (getE es k = none) := by
        show es.find? _ = _
        refine List.find?_eq_none.2 fun x hx => ?_
        have := HN.out x (by rw [List.take_length]; exact hx)
        simpa using this
      go_wp2_with fail
      go_ret2
      exact ⟨by rw [HG.out]; rfl, HB0.out.trans (HB.out.mono HB0.out.size)⟩
end Go.Proofs.YtpnpdllkcglpnaaDoor
