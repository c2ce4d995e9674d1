/- The function of BitmapLists returns true (its region by program: gen-tpl14-laws.py). -/
import Derived.Test.YtpdmkojclgkcnaaHk
import Derived.Deep.RegionHeld
namespace Go.Proofs.Ytpdmkojclgkcnaa.Bt
open Go.RowKit

set_option maxHeartbeats 8000000 in
set_option maxRecDepth 100000 in
theorem blists_w (k : Nat → Nat) (hk : Byt k) (w : World) : Calls Try.prog 6 #[.agg (kc k)] w (Yes w) := by
  have HK := Lib.hid hk
  obtain ⟨L, hL⟩ : ∃ L, L = setZ k 256 := ⟨_, rfl⟩
  obtain ⟨N, hN⟩ : ∃ N, N = L.length := ⟨_, rfl⟩
  obtain ⟨Z, hZ⟩ : ∃ Z, Z = lastTo k 256 := ⟨_, rfl⟩
  obtain ⟨q, hq⟩ : ∃ q, q = ofK L := ⟨_, rfl⟩
  have hNl : N ≤ 256 := by rw [hN, hL]; exact setZ_len k 256
  have HLI : Hid (∀ w, Calls Try.prog 18 #[.agg (kc k)] w fun e w' => ∃ A c, e = .returned (.slice A N c) ∧ ZA w' A L ∧ Below w.heap.size w w') := fun w => by
    refine (list_c k hk w).mono ?_
    rintro e w' ⟨v, rfl, hO, hb⟩
    rw [← hL] at hO
    obtain ⟨A, c, rfl, hz⟩ := hO.is
    rw [← hN]
    exact ⟨A, c, rfl, hz, hb⟩
  have HLE : Hid (∀ w, Calls Try.prog 16 #[.agg (kc k)] w fun e w' => e = .returned (.int .i64 N) ∧ Below w.heap.size w w') := fun w => by rw [hN, hL]; exact len_c k hk w
  have HLA : Hid (∀ w, Calls Try.prog 19 #[.agg (kc k)] w fun e w' => e = .returned (.int .i64 Z) ∧ Below w.heap.size w w') := fun w => by rw [hZ]; exact last_c k hk w
  have HOF : Hid (∀ A c w, ZA w A L → Calls Try.prog 10 #[.slice A N c] w fun e w' => e = .returned (.agg (kc q)) ∧ Below w.heap.size w w') := fun A c w h => by rw [hN, hq]; exact ofs_c A c L w h (by omega)
  have HSA : Hid (∀ A B c d w, ZA w A L → ZA w B L → Calls Try.prog 17 #[.slice A N c, .slice B N d] w fun e w' => e = .returned (.bool true) ∧ Below w.heap.size w w') := fun A B c d w h1 h2 => by
    have := zsame_c A B c d L L w h1 h2 (by omega) (by omega)
    rw [decide_eq_true rfl] at this
    rw [hN]; exact this
  have hqk : keq q k = true := (keq_iff _ _).2 fun j hj => by rw [hq, hL]; exact ofK_setZ hk j hj
  have HR : Hid (∀ (m : Nat) w, m < 256 → Calls Try.prog 13 #[.agg (kc k), .int .i64 m] w fun e w' => e = .returned (.int .i64 (bit k m)) ∧ Below w.heap.size w w') := fun m w hm => by
    have := rbit_c k hk m w
    rwa [bitI_in k m hm] at this
  have HL := Lib.hid hL
  have HN := Lib.hid hN
  have HZ := Lib.hid hZ
  clear hk hL hN hZ hq
  go_enter Try.func6, Try.ntmps6
  go_wp2
  go_loopg [3, 4, 6] 256 (fun g v z j wr => ∃ m : Nat, j = .int .i64 m ∧ m ≤ 256 ∧ 256 - m ≤ g ∧ OwnZ wr (w.heap.size + 1) v (setZ k m) ∧ z = .int .i64 (lastTo k m) ∧ BmAt wr w.heap.size k ∧ Below w.heap.size w wr)
  case atStart => exact ⟨0, rfl, by omega, by omega, OwnZ.nil _ _, rfl, BmAt.one _ _, one_below _ _⟩
  case round =>
    obtain ⟨m, rfl, hm, hg, hO, rfl, hA, hB⟩ := hrel
    have HO := Lib.hid hO
    have HA := Lib.hid hA
    have HB := Lib.hid hB
    by_cases hlt : m < 256
    · have hd : decide ((m : Int) < 256) = true := by simp; omega
      have hl := hA.ld
      have hlen := setZ_len k m
      have hc := HR.out m
      rcases bit_01 k m with hb | hb
      · have HS := Lib.hid (setZ_no hb)
        have HT := Lib.hid (lastTo_no hb)
        rw [hb] at hc
        have HC := Lib.hid hc
        clear hO hA hB hb hc
        go_wp2_with fail
        refine (HC.out _ hlt).mono ?_
        rintro e w1 ⟨rfl, hb1⟩
        have HO1 := Lib.hid (HO.out.below hb1)
        have HA1 := Lib.hid (HA.out.below hb1 HA.out.lt)
        have HB1 := Lib.hid (HB.out.trans (hb1.mono HB.out.size))
        clear hb1 hl
        go_wp2
        go_roundg (256 - (m + 1))
        case measure => omega
        case rel => exact ⟨m + 1, by go_num, by omega, by omega, by rw [HS.out]; exact HO1.out, by rw [HT.out], HA1.out, HB1.out⟩
      · have HS := Lib.hid (setZ_yes hb)
        have HT := Lib.hid (lastTo_yes hb)
        rw [hb] at hc
        have HC := Lib.hid hc
        clear hO hA hB hb hc
        go_wp2_with fail
        refine (HC.out _ hlt).mono ?_
        rintro e w1 ⟨rfl, hb1⟩
        have HO1 := Lib.hid (HO.out.below hb1)
        have HA1 := Lib.hid (HA.out.below hb1 HA.out.lt)
        have HB1 := Lib.hid (HB.out.trans (hb1.mono HB.out.size))
        clear hb1 hl
        go_wp2_with (at_builtin; refine wpList_pushZ rfl _ _ rfl (w.heap.size + 1) _ (setZ k m) rfl (HO1.out.below (one_below _ _)) w1.heap.size (m : Int) rfl (cell_oneZ _ _ _) (by omega) (by have := HB1.out.size; have := HA1.out.lt; simp; omega) ?_)
        intro v' w2 hO2 hB2
        have HO2 := Lib.hid hO2
        have HB2 := Lib.hid ((HB1.out.alloc HB1.out.size _).trans (hB2.mono (by omega)))
        have HA2 := Lib.hid ((HA1.out.below (one_below _ _) HA1.out.lt).below hB2 (by omega))
        clear hO2 hB2
        go_wp2
        go_roundg (256 - (m + 1))
        case measure => omega
        case rel => exact ⟨m + 1, by go_num, by omega, by omega, by rw [HS.out]; exact HO2.out, by rw [HT.out], HA2.out, HB2.out⟩
    · have hd : decide ((m : Int) < 256) = false := by simp; omega
      obtain rfl : m = 256 := by omega
      obtain ⟨X, rfl⟩ : ∃ X : World, X = wr := ⟨_, rfl⟩
      rw [← HL.out] at hO
      rw [← HZ.out]
      obtain ⟨A1, c1, rfl, hz1⟩ := hO.is
      rw [← HN.out]
      have HZX := Lib.hid hz1
      have LD : Hid (∀ w', Below X.heap.size X w' → ldBm w' (.pointer (some ⟨w.heap.size, 0, none⟩)) = .ok (.value (.agg (kc k))) w') := fun w' h => (HA.out.below h HA.out.lt).ld
      have HBX : Hid (∀ w', Below X.heap.size X w' → Below w.heap.size w w') := fun w' h => HB.out.trans (h.mono HB.out.size)
      clear hO hA hB hz1 HL HZ HN HR HA HB HO HK hlt hg hm
      go_wp2_with fail
      refine wp_region_held_drew (S := fun w' => Below X.heap.size X w') (by kernel_rfl) ((Below.refl _ _).drew) (fun hHeld => ?_)
      have hb0 : Below X.heap.size X X.drew := (Below.refl _ _).drew
      refine wpAnyH_ready (rs := [0]) (by kernel_rfl) (by simp) ?_
      refine AllReadyH.cons (o := { dst := some 19, op := .call _, type := _, pos := _, after := _, guard := _ }) rfl (fun K hK => ?_) AllReadyH.nil
      go_simp
      refine (alive14_c _).mono ?_
      rintro e y1 ⟨rfl, hb⟩
      have hb1 : Below X.heap.size X y1 := keeps (hb0) hb
      clear hb
      go_wp2_with fail
      refine hK.out _ _ (hb1) (fun hHeld => ?_)
      clear hK K
      try simp only [Act.put, List.setIfInBounds_toArray, List.set_cons_zero, List.set_cons_succ]
      refine wpAnyH_take (i := 1) (oi := { dst := some 20, op := .move (.tmp 19), type := _, pos := _, after := _, guard := _ }) (v := ?_) rfl (by kernel_rfl) (by kernel_rfl) (by kernel_rfl) (fun _ _ _ h => h) (Or.inl ⟨by rfl, ?_⟩) (by assumption) ?_
      rotate_left 1
      · intro v hSv
        clear hSv
        go_simp
        try with_reducible rfl
      try simp only [Act.put, List.setIfInBounds_toArray, List.set_cons_zero, List.set_cons_succ]
      refine wpAnyH_take (i := 2) (oi := { dst := some 21, op := .load _ (.tmp 1), type := _, pos := _, after := _, guard := _ }) (v := ?_) rfl (by kernel_rfl) (by kernel_rfl) (by kernel_rfl) (fun _ _ _ h => h) (Or.inl ⟨by rfl, ?_⟩) (by assumption) ?_
      rotate_left 1
      · intro v hSv
        have hv1 := LD.out v hSv
        clear hSv
        go_simp
        try with_reducible rfl
      try simp only [Act.put, List.setIfInBounds_toArray, List.set_cons_zero, List.set_cons_succ]
      refine wpAnyH_take (i := 4) (oi := { dst := some 23, op := .move (.tmp 3), type := _, pos := _, after := _, guard := _ }) (v := ?_) rfl (by kernel_rfl) (by kernel_rfl) (by kernel_rfl) (fun _ _ _ h => h) (Or.inl ⟨by rfl, ?_⟩) (by assumption) ?_
      rotate_left 1
      · intro v hSv
        clear hSv
        go_simp
        try with_reducible rfl
      try simp only [Act.put, List.setIfInBounds_toArray, List.set_cons_zero, List.set_cons_succ]
      refine wpAnyH_ready (rs := [3]) (by kernel_rfl) (by simp) ?_
      refine AllReadyH.cons (o := { dst := some 22, op := .call _, type := _, pos := _, after := _, guard := _ }) rfl (fun K hK => ?_) AllReadyH.nil
      go_simp
      refine (HLI.out _).mono ?_
      rintro e y2 ⟨A2, c2, rfl, hz2, hb⟩
      have hb2 : Below X.heap.size X y2 := keeps (hb1) hb
      have HZ2 := Lib.hid hz2
      clear hz2
      clear hb
      go_wp2_with fail
      refine hK.out _ _ (hb2) (fun hHeld => ?_)
      clear hK K
      try simp only [Act.put, List.setIfInBounds_toArray, List.set_cons_zero, List.set_cons_succ]
      refine wpAnyH_ready (rs := [5]) (by kernel_rfl) (by simp) ?_
      refine AllReadyH.cons (o := { dst := some 24, op := .call _, type := _, pos := _, after := _, guard := _ }) rfl (fun K hK => ?_) AllReadyH.nil
      go_simp
      refine (HSA.out A2 A1 c2 c1 _ HZ2.out (HZX.out.below (hb2))).mono ?_
      rintro e y3 ⟨rfl, hb⟩
      have hb3 : Below X.heap.size X y3 := keeps (hb2) hb
      clear hb
      go_wp2_with fail
      refine hK.out _ _ (hb3) (fun hHeld => ?_)
      clear hK K
      try simp only [Act.put, List.setIfInBounds_toArray, List.set_cons_zero, List.set_cons_succ]
      refine wpAnyH_take (i := 6) (oi := { dst := some 25, op := .pick (.tmp 20) (.tmp 24) (.const (.bool false)), type := _, pos := _, after := _, guard := _ }) (v := ?_) rfl (by kernel_rfl) (by kernel_rfl) (by kernel_rfl) (fun _ _ _ h => h) (Or.inl ⟨by rfl, ?_⟩) (by assumption) ?_
      rotate_left 1
      · intro v hSv
        clear hSv
        go_simp
        try with_reducible rfl
      try simp only [Act.put, List.setIfInBounds_toArray, List.set_cons_zero, List.set_cons_succ]
      refine wpAnyH_take (i := 7) (oi := { dst := some 26, op := .move (.tmp 25), type := _, pos := _, after := _, guard := _ }) (v := ?_) rfl (by kernel_rfl) (by kernel_rfl) (by kernel_rfl) (fun _ _ _ h => h) (Or.inl ⟨by rfl, ?_⟩) (by assumption) ?_
      rotate_left 1
      · intro v hSv
        clear hSv
        go_simp
        try with_reducible rfl
      try simp only [Act.put, List.setIfInBounds_toArray, List.set_cons_zero, List.set_cons_succ]
      refine wpAnyH_take (i := 8) (oi := { dst := some 27, op := .load _ (.tmp 1), type := _, pos := _, after := _, guard := _ }) (v := ?_) rfl (by kernel_rfl) (by kernel_rfl) (by kernel_rfl) (fun _ _ _ h => h) (Or.inl ⟨by rfl, ?_⟩) (by assumption) ?_
      rotate_left 1
      · intro v hSv
        have hv1 := LD.out v hSv
        clear hSv
        go_simp
        try with_reducible rfl
      try simp only [Act.put, List.setIfInBounds_toArray, List.set_cons_zero, List.set_cons_succ]
      refine wpAnyH_take (i := 10) (oi := { dst := some 29, op := .move (.tmp 3), type := _, pos := _, after := _, guard := _ }) (v := ?_) rfl (by kernel_rfl) (by kernel_rfl) (by kernel_rfl) (fun _ _ _ h => h) (Or.inl ⟨by rfl, ?_⟩) (by assumption) ?_
      rotate_left 1
      · intro v hSv
        clear hSv
        go_simp
        try with_reducible rfl
      try simp only [Act.put, List.setIfInBounds_toArray, List.set_cons_zero, List.set_cons_succ]
      refine wpAnyH_take (i := 11) (oi := { dst := some 30, op := .call _, type := _, pos := _, after := _, guard := _ }) (v := ?_) rfl (by kernel_rfl) (by kernel_rfl) (by kernel_rfl) (fun _ _ _ h => h) (Or.inl ⟨by rfl, ?_⟩) (by assumption) ?_
      rotate_left 1
      · intro v hSv
        clear hSv
        go_simp
        try with_reducible rfl
      try simp only [Act.put, List.setIfInBounds_toArray, List.set_cons_zero, List.set_cons_succ]
      refine wpAnyH_ready (rs := [9]) (by kernel_rfl) (by simp) ?_
      refine AllReadyH.cons (o := { dst := some 28, op := .call _, type := _, pos := _, after := _, guard := _ }) rfl (fun K hK => ?_) AllReadyH.nil
      go_simp
      refine (HLE.out _).mono ?_
      rintro e y4 ⟨rfl, hb⟩
      have hb4 : Below X.heap.size X y4 := keeps (hb3) hb
      clear hb
      go_wp2_with fail
      refine hK.out _ _ (hb4) (fun hHeld => ?_)
      clear hK K
      try simp only [Act.put, List.setIfInBounds_toArray, List.set_cons_zero, List.set_cons_succ]
      refine wpAnyH_take (i := 12) (oi := { dst := some 31, op := .binOp .eql _ (.tmp 28) (.tmp 30) _, type := _, pos := _, after := _, guard := _ }) (v := ?_) rfl (by kernel_rfl) (by kernel_rfl) (by kernel_rfl) (fun _ _ _ h => h) (Or.inl ⟨by rfl, ?_⟩) (by assumption) ?_
      rotate_left 1
      · intro v hSv
        clear hSv
        go_simp
        try with_reducible rfl
      try simp only [Act.put, List.setIfInBounds_toArray, List.set_cons_zero, List.set_cons_succ]
      refine wpAnyH_take (i := 13) (oi := { dst := some 32, op := .pick (.tmp 26) (.tmp 31) (.const (.bool false)), type := _, pos := _, after := _, guard := _ }) (v := ?_) rfl (by kernel_rfl) (by kernel_rfl) (by kernel_rfl) (fun _ _ _ h => h) (Or.inl ⟨by rfl, ?_⟩) (by assumption) ?_
      rotate_left 1
      · intro v hSv
        clear hSv
        go_simp
        try with_reducible rfl
      try simp only [Act.put, List.setIfInBounds_toArray, List.set_cons_zero, List.set_cons_succ]
      refine wpAnyH_take (i := 14) (oi := { dst := some 33, op := .move (.tmp 32), type := _, pos := _, after := _, guard := _ }) (v := ?_) rfl (by kernel_rfl) (by kernel_rfl) (by kernel_rfl) (fun _ _ _ h => h) (Or.inl ⟨by rfl, ?_⟩) (by assumption) ?_
      rotate_left 1
      · intro v hSv
        clear hSv
        go_simp
        try with_reducible rfl
      try simp only [Act.put, List.setIfInBounds_toArray, List.set_cons_zero, List.set_cons_succ]
      refine wpAnyH_take (i := 15) (oi := { dst := some 34, op := .load _ (.tmp 1), type := _, pos := _, after := _, guard := _ }) (v := ?_) rfl (by kernel_rfl) (by kernel_rfl) (by kernel_rfl) (fun _ _ _ h => h) (Or.inl ⟨by rfl, ?_⟩) (by assumption) ?_
      rotate_left 1
      · intro v hSv
        have hv1 := LD.out v hSv
        clear hSv
        go_simp
        try with_reducible rfl
      try simp only [Act.put, List.setIfInBounds_toArray, List.set_cons_zero, List.set_cons_succ]
      refine wpAnyH_take (i := 17) (oi := { dst := some 36, op := .move (.tmp 4), type := _, pos := _, after := _, guard := _ }) (v := ?_) rfl (by kernel_rfl) (by kernel_rfl) (by kernel_rfl) (fun _ _ _ h => h) (Or.inl ⟨by rfl, ?_⟩) (by assumption) ?_
      rotate_left 1
      · intro v hSv
        clear hSv
        go_simp
        try with_reducible rfl
      try simp only [Act.put, List.setIfInBounds_toArray, List.set_cons_zero, List.set_cons_succ]
      refine wpAnyH_ready (rs := [16]) (by kernel_rfl) (by simp) ?_
      refine AllReadyH.cons (o := { dst := some 35, op := .call _, type := _, pos := _, after := _, guard := _ }) rfl (fun K hK => ?_) AllReadyH.nil
      go_simp
      refine (HLA.out _).mono ?_
      rintro e y5 ⟨rfl, hb⟩
      have hb5 : Below X.heap.size X y5 := keeps (hb4) hb
      clear hb
      go_wp2_with fail
      refine hK.out _ _ (hb5) (fun hHeld => ?_)
      clear hK K
      try simp only [Act.put, List.setIfInBounds_toArray, List.set_cons_zero, List.set_cons_succ]
      refine wpAnyH_take (i := 18) (oi := { dst := some 37, op := .binOp .eql _ (.tmp 35) (.tmp 36) _, type := _, pos := _, after := _, guard := _ }) (v := ?_) rfl (by kernel_rfl) (by kernel_rfl) (by kernel_rfl) (fun _ _ _ h => h) (Or.inl ⟨by rfl, ?_⟩) (by assumption) ?_
      rotate_left 1
      · intro v hSv
        clear hSv
        go_simp
        try with_reducible rfl
      try simp only [Act.put, List.setIfInBounds_toArray, List.set_cons_zero, List.set_cons_succ]
      refine wpAnyH_take (i := 19) (oi := { dst := some 38, op := .pick (.tmp 33) (.tmp 37) (.const (.bool false)), type := _, pos := _, after := _, guard := _ }) (v := ?_) rfl (by kernel_rfl) (by kernel_rfl) (by kernel_rfl) (fun _ _ _ h => h) (Or.inl ⟨by rfl, ?_⟩) (by assumption) ?_
      rotate_left 1
      · intro v hSv
        clear hSv
        go_simp
        try with_reducible rfl
      try simp only [Act.put, List.setIfInBounds_toArray, List.set_cons_zero, List.set_cons_succ]
      refine wpAnyH_take (i := 20) (oi := { dst := some 39, op := .move (.tmp 38), type := _, pos := _, after := _, guard := _ }) (v := ?_) rfl (by kernel_rfl) (by kernel_rfl) (by kernel_rfl) (fun _ _ _ h => h) (Or.inl ⟨by rfl, ?_⟩) (by assumption) ?_
      rotate_left 1
      · intro v hSv
        clear hSv
        go_simp
        try with_reducible rfl
      try simp only [Act.put, List.setIfInBounds_toArray, List.set_cons_zero, List.set_cons_succ]
      refine wpAnyH_take (i := 21) (oi := { dst := some 40, op := .load _ (.tmp 1), type := _, pos := _, after := _, guard := _ }) (v := ?_) rfl (by kernel_rfl) (by kernel_rfl) (by kernel_rfl) (fun _ _ _ h => h) (Or.inl ⟨by rfl, ?_⟩) (by assumption) ?_
      rotate_left 1
      · intro v hSv
        have hv1 := LD.out v hSv
        clear hSv
        go_simp
        try with_reducible rfl
      try simp only [Act.put, List.setIfInBounds_toArray, List.set_cons_zero, List.set_cons_succ]
      refine wpAnyH_take (i := 24) (oi := { dst := some 43, op := .load _ (.tmp 1), type := _, pos := _, after := _, guard := _ }) (v := ?_) rfl (by kernel_rfl) (by kernel_rfl) (by kernel_rfl) (fun _ _ _ h => h) (Or.inl ⟨by rfl, ?_⟩) (by assumption) ?_
      rotate_left 1
      · intro v hSv
        have hv1 := LD.out v hSv
        clear hSv
        go_simp
        try with_reducible rfl
      try simp only [Act.put, List.setIfInBounds_toArray, List.set_cons_zero, List.set_cons_succ]
      refine wpAnyH_ready (rs := [22]) (by kernel_rfl) (by simp) ?_
      refine AllReadyH.cons (o := { dst := some 41, op := .call _, type := _, pos := _, after := _, guard := _ }) rfl (fun K hK => ?_) AllReadyH.nil
      go_simp
      refine (HLI.out _).mono ?_
      rintro e y6 ⟨A6, c6, rfl, hz6, hb⟩
      have hb6 : Below X.heap.size X y6 := keeps (hb5) hb
      have HZ6 := Lib.hid hz6
      clear hz6
      clear hb
      go_wp2_with fail
      refine hK.out _ _ (hb6) (fun hHeld => ?_)
      clear hK K
      try simp only [Act.put, List.setIfInBounds_toArray, List.set_cons_zero, List.set_cons_succ]
      refine wpAnyH_ready (rs := [23]) (by kernel_rfl) (by simp) ?_
      refine AllReadyH.cons (o := { dst := some 42, op := .call _, type := _, pos := _, after := _, guard := _ }) rfl (fun K hK => ?_) AllReadyH.nil
      go_simp
      refine (HOF.out A6 c6 _ HZ6.out).mono ?_
      rintro e y7 ⟨rfl, hb⟩
      have hb7 : Below X.heap.size X y7 := keeps (hb6) hb
      clear hb
      go_wp2_with fail
      refine hK.out _ _ (hb7) (fun hHeld => ?_)
      clear hK K
      try simp only [Act.put, List.setIfInBounds_toArray, List.set_cons_zero, List.set_cons_succ]
      refine wpAnyH_take (i := 25) (oi := { dst := some 44, op := .binOp .eql _ (.tmp 42) (.tmp 43) _, type := _, pos := _, after := _, guard := _ }) (v := ?_) rfl (by kernel_rfl) (by kernel_rfl) (by kernel_rfl) (fun _ _ _ h => h) (Or.inl ⟨by rfl, ?_⟩) (by assumption) ?_
      rotate_left 1
      · intro v hSv
        clear hSv
        go_simp
        try with_reducible rfl
      try simp only [Act.put, List.setIfInBounds_toArray, List.set_cons_zero, List.set_cons_succ]
      refine wpAnyH_take (i := 26) (oi := { dst := some 45, op := .pick (.tmp 39) (.tmp 44) (.const (.bool false)), type := _, pos := _, after := _, guard := _ }) (v := ?_) rfl (by kernel_rfl) (by kernel_rfl) (by kernel_rfl) (fun _ _ _ h => h) (Or.inl ⟨by rfl, ?_⟩) (by assumption) ?_
      rotate_left 1
      · intro v hSv
        clear hSv
        go_simp
        try with_reducible rfl
      try simp only [Act.put, List.setIfInBounds_toArray, List.set_cons_zero, List.set_cons_succ]
      refine wpAnyH_take (i := 27) (oi := { dst := some 2, op := .assign (.tmp 45), type := _, pos := _, after := _, guard := _ }) (v := ?_) rfl (by kernel_rfl) (by kernel_rfl) (by kernel_rfl) (fun _ _ _ h => h) (Or.inl ⟨by rfl, ?_⟩) (by assumption) ?_
      rotate_left 1
      · intro v hSv
        clear hSv
        go_simp
        try with_reducible rfl
      try simp only [Act.put, List.setIfInBounds_toArray, List.set_cons_zero, List.set_cons_succ]
      refine wpAnyH_done (by kernel_rfl) ?_ _
      go_wp2_with fail
      go_ret
      exact ⟨rfl, HBX.out _ (hb7)⟩
end Go.Proofs.Ytpdmkojclgkcnaa.Bt
