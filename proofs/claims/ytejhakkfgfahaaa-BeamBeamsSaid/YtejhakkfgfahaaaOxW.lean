/- Lemmas: E25, E26. -/
import Derived.Test.YtejhakkfgfahaaaBx10
set_option linter.unusedVariables false
set_option linter.unusedSimpArgs false
/- Steering of the reference. -/
namespace Go.Proofs.Ytejhakkfgfahaaa
open Go.RowKit Go.Great
theorem st_ref {k : Nat} (hk : k ≤ 7) (j : Nat) : stF k 1 j = (-(j : Int) * (k : Int)) % 8 := by
  unfold stF
  rw [if_pos (Nat.mod_one j)]
  obtain ⟨u, hu⟩ : ∃ u, 8 - k = u := ⟨_, rfl⟩
  have e : (-(j : Int) * (k : Int)) = ((u * j : Nat) : Int) - 8 * (j : Int) := by
    have h1 : (k : Int) = 8 - (u : Int) := by omega
    rw [h1, Int.natCast_mul]
    grind
  rw [hu, e]
  omega
theorem OwnInts.setOther {w : World} {base n : Nat} {v : Value} {F : Nat → Int} {p : Addr} (h : OwnInts w base v n F) (hp : p.block < base) (u : Value) : OwnInts (w.setCell p u) base v n F := by
  rcases h with ⟨h1, h2⟩
  refine ⟨h1, ?_⟩
  rcases h2 with h2 | ⟨g, cap, cur, e, hb, hg, rest⟩
  · exact .inl h2
  · exact .inr ⟨g, cap, cur, e, hb, (Below.heap_setCell w p u g (by omega)).trans hg, rest⟩
set_option maxHeartbeats 8000000 in
set_option maxRecDepth 100000 in
theorem Steering_ref (n k : Nat) (w : World) (hn : n ≤ 8) (hk : k ≤ 7) :
    Calls Try.prog 20 #[.int .i64 (n : Int), .int .i64 (k : Int)] w fun e w' => ∃ B d, e = .returned (.agg #[.slice B n d]) ∧ OwnInts w' (w.heap.size + 1 + 1) (.slice B n d) n (stF k 1) ∧ Below w.heap.size w w' := by
  have HS := hide (fun j => st_ref hk j)
  obtain ⟨S, hS⟩ : ∃ z, stF k 1 = z := ⟨_, rfl⟩
  simp only [hS] at HS ⊢
  clear hS
  go_enter Try.func20, Try.ntmps20
  go_wp2_with fail
  go_loopw [6] (fun i wr => ∃ (j : Nat) (v : Value), j ≤ n ∧ i = .int .i64 (j : Int) ∧ Hid (Box wr w.heap.size 24 #[.slice none 0 0]) ∧ Hid (Box wr (w.heap.size + 1) 24 #[v]) ∧ Hid (OwnInts wr (w.heap.size + 1 + 1) v j S) ∧ Hid (Below w.heap.size w wr)) (fun i _ => n - (Go.RowKit.intOf i).toNat)
  case atStart => exact ⟨0, .slice none 0 0, Nat.zero_le _, rfl, hide ((Box.made rfl).alloc _), hide (Box.made (by simp)), hide (OwnInts.nil_ _ _ _), hide (by (repeat (first | (with_reducible exact Below.refl _ _) | (with_reducible refine Go.below_drewN ?_ _) | (with_reducible refine Below.drew ?_) | (with_reducible refine Below.alloc ?_ (by first | exact Nat.le_refl _ | (simp; done) | (simp; omega) | omega) _) | (with_reducible refine Below.setCell ?_ (by first | exact Nat.le_refl _ | (simp; done) | (simp; omega) | omega) _))))⟩
  case round =>
    obtain ⟨j, v, hj, rfl, HX0, HX1, HO, HB⟩ := hrel
    obtain ⟨wA, rfl⟩ : ∃ x : World, x = wr := ⟨_, rfl⟩
    have hl1 := HX1.out.lt
    by_cases hlt : j < n
    case pos =>
      have hltz : (j : Int) < (n : Int) := by omega
      obtain ⟨As, cs, rfl, hcs, hIs⟩ := HO.out.form
      clear hIs
      obtain ⟨m, hm⟩ : ∃ z : Int, -(j : Int) * (k : Int) = z := ⟨_, rfl⟩
      have hjk : j * k ≤ 56 := Nat.le_trans (Nat.mul_le_mul (show j ≤ 8 by omega) hk) (by decide)
      have hjk2 : (j : Int) * (k : Int) = ((j * k : Nat) : Int) := (Int.natCast_mul j k).symm
      have hmb : -56 ≤ m ∧ m ≤ 0 := by rw [← hm, Int.neg_mul, hjk2]; omega
      have q1 : IntKind.i64.wrap (-(j : Int)) = -(j : Int) := IntWalk.i64_in _ (by omega)
      have q2 : IntKind.i64.wrap (-(j : Int) * (k : Int)) = m := by rw [hm]; exact IntWalk.i64_in _ (by omega)
      obtain ⟨r, hr⟩ : ∃ z : Int, m % 8 = z := ⟨_, rfl⟩
      have HSJ := hide (show S j = r by rw [HS.out j, hm, hr])
      have HM := hide (fun W => mod8 m W)
      simp only [hr] at HM
      clear hm hr hjk hjk2 hmb
      go_upto_region 5 with fail
      refine wp_region_held_drew (S := fun w' => w'.cell? ⟨w.heap.size, 0, none⟩ = some (.slice none 0 0)) (by kernel_rfl) HX0.out.c1.1 (fun hHeld => ?_)
      obtain ⟨w_1, hw_1⟩ : ∃ q : World, q = wA.drew := ⟨_, rfl⟩
      rw [← hw_1] at hHeld ⊢
      have hc_1 : Below wA.heap.size wA w_1 := by rw [hw_1]; exact (Below.refl _ _).drew
      clear hw_1
      replace HX0 := hide (HX0.out.below hc_1)
      replace HX1 := hide (HX1.out.below hc_1)
      replace HO := hide (HO.out.below hc_1)
      replace HB := hide (HB.out.trans (hc_1.mono HB.out.size))
      clear hc_1
      refine wpAnyH_take (i := 0) (oi := ⟨some 12, _, _, _, _, _⟩) (v := ?_) rfl (by kernel_rfl) (by kernel_rfl) (by kernel_rfl) (fun _ _ _ h => h) (Or.inl ⟨by rfl, ?_⟩) (by assumption) ?_
      rotate_left
      · (intro w' hSw; (try dsimp only at hSw); go_simp <;> (with_reducible rfl))
      try simp only [Act.put, List.setIfInBounds_toArray, List.set_cons_zero, List.set_cons_succ]
      refine wpAnyH_take (i := 2) (oi := ⟨some 14, _, _, _, _, _⟩) (v := ?_) rfl (by kernel_rfl) (by kernel_rfl) (by kernel_rfl) (fun _ _ _ h => h) (Or.inl ⟨by rfl, ?_⟩) (by assumption) ?_
      rotate_left
      · (intro w' hSw; (try dsimp only at hSw); go_simp <;> (with_reducible rfl))
      try simp only [Act.put, List.setIfInBounds_toArray, List.set_cons_zero, List.set_cons_succ]
      refine wpAnyH_take (i := 3) (oi := ⟨some 15, _, _, _, _, _⟩) (v := ?_) rfl (by kernel_rfl) (by kernel_rfl) (by kernel_rfl) (fun _ _ _ h => h) (Or.inl ⟨by rfl, ?_⟩) (by assumption) ?_
      rotate_left
      · (intro w' hSw; (try dsimp only at hSw); go_simp <;> (with_reducible rfl))
      try simp only [Act.put, List.setIfInBounds_toArray, List.set_cons_zero, List.set_cons_succ]
      refine wpAnyH_take (i := 4) (oi := ⟨some 16, _, _, _, _, _⟩) (v := ?_) rfl (by kernel_rfl) (by kernel_rfl) (by kernel_rfl) (fun _ _ _ h => h) (Or.inl ⟨by rfl, ?_⟩) (by assumption) ?_
      rotate_left
      · (intro w' hSw; (try dsimp only at hSw); go_simp <;> (with_reducible rfl))
      try simp only [Act.put, List.setIfInBounds_toArray, List.set_cons_zero, List.set_cons_succ]
      refine wpAnyH_take (i := 5) (oi := ⟨some 17, _, _, _, _, _⟩) (v := ?_) rfl (by kernel_rfl) (by kernel_rfl) (by kernel_rfl) (fun _ _ _ h => h) (Or.inl ⟨by rfl, ?_⟩) (by assumption) ?_
      rotate_left
      · (intro w' hSw; (try dsimp only at hSw); go_simp <;> (with_reducible rfl))
      try simp only [Act.put, List.setIfInBounds_toArray, List.set_cons_zero, List.set_cons_succ]
      refine wpAnyH_ready (rs := [1, 6]) (by kernel_rfl) (by simp) ?_
      refine AllReadyH.cons (o := ⟨some 13, _, _, _, _, _⟩) rfl (fun K' hK => ?_) (AllReadyH.cons (o := ⟨some 18, _, _, _, _, _⟩) rfl (fun K' hK => ?_) AllReadyH.nil)
      · skip
        obtain ⟨y0, f0, hly⟩ := HX1.out.c1
        go_simp
        clear y0 f0 hly
        refine hK.out _ _ HX0.out.c1.1 (fun hHeld => ?_)
        clear hK K'
        try simp only [Act.put, List.setIfInBounds_toArray, List.set_cons_zero, List.set_cons_succ]
        refine wpAnyH_ready (rs := [6]) (by kernel_rfl) (by simp) ?_
        refine AllReadyH.cons (o := ⟨some 18, _, _, _, _, _⟩) rfl (fun K' hK => ?_) AllReadyH.nil
        go_simp
        go_at_call 53
        refine (HM.out _).mono ?_
        rintro e_ v_ ⟨rfl, rfl⟩
        go_wp2_with fail
        refine hK.out _ _ HX0.out.c1.1 (fun hHeld => ?_)
        clear hK K'
        try simp only [Act.put, List.setIfInBounds_toArray, List.set_cons_zero, List.set_cons_succ]
        refine wpAnyH_ready (rs := [7]) (by kernel_rfl) (by simp) ?_
        refine AllReadyH.cons (o := ⟨some 19, _, _, _, _, _⟩) rfl (fun K' hK => ?_) AllReadyH.nil
        go_simp
        obtain ⟨g7, hg7⟩ : ∃ q, w_1.heap.size = q := ⟨_, rfl⟩
        obtain ⟨w_2, hw_2⟩ : ∃ q : World, q = w_1.alloc (.cells #[.int .i64 r] 3) := ⟨_, rfl⟩
        try rw [← hw_2]
        have HN := hide (show Box w_2 g7 3 #[.int .i64 r] by rw [hw_2]; exact Box.made hg7.symm)
        have hc_2 : Below w_1.heap.size w_1 w_2 := by rw [hw_2]; exact (Below.refl _ _).alloc (Nat.le_refl _) _
        clear hw_2
        replace HX0 := hide (HX0.out.below hc_2)
        replace HX1 := hide (HX1.out.below hc_2)
        replace HO := hide (HO.out.below hc_2)
        replace HB := hide (HB.out.trans (hc_2.mono HB.out.size))
        clear hc_2
        try simp only [hg7]
        clear hg7
        refine hK.out _ _ HX0.out.c1.1 (fun hHeld => ?_)
        clear hK K'
        try simp only [Act.put, List.setIfInBounds_toArray, List.set_cons_zero, List.set_cons_succ]
        refine wpAnyH_ready (rs := [8]) (by kernel_rfl) (by simp) ?_
        refine AllReadyH.cons (o := ⟨some 20, _, _, _, _, _⟩) rfl (fun K' hK => ?_) AllReadyH.nil
        have hl1 := HX1.out.lt
        refine wp_append_ints _ (.tmp 13) (.tmp 19) rfl (w.heap.size + 1 + 1) 0 (.slice As j cs) j S rfl HO.out (some ⟨g7, 0, none⟩) 1 1 (fun _ => r) rfl (fun i hi => ⟨g7, 0, rfl, Nat.zero_le _, HN.out.lt, by obtain rfl : i = 0 := (by omega); exact HN.out.at_ 0⟩) (by omega) (by omega) ?_
        intro v2 w_3 ho_3 hb_3
        clear hl1
        obtain ⟨A2, c2, rfl, hc2, hi2⟩ := ho_3.form
        clear hi2
        replace HX0 := hide (HX0.out.kept hb_3 (by omega))
        replace HX1 := hide (HX1.out.kept hb_3 (by omega))
        replace HB := hide (HB.out.trans (hb_3.mono (by omega)))
        have HO2 := hide ho_3
        clear hb_3 ho_3 HN HO
        refine hK.out _ _ HX0.out.c1.1 (fun hHeld => ?_)
        clear hK K'
        try simp only [Act.put, List.setIfInBounds_toArray, List.set_cons_zero, List.set_cons_succ]
        refine wpAnyH_take (i := 9) (oi := ⟨some 21, _, _, _, _, _⟩) (v := ?_) rfl (by kernel_rfl) (by kernel_rfl) (by kernel_rfl) (fun _ _ _ h => h) (Or.inl ⟨by rfl, ?_⟩) (by assumption) ?_
        rotate_left
        · (intro w' hSw; (try dsimp only at hSw); go_simp <;> (with_reducible rfl))
        try simp only [Act.put, List.setIfInBounds_toArray, List.set_cons_zero, List.set_cons_succ]
        refine wpAnyH_ready (rs := [10]) (by kernel_rfl) (by simp) ?_
        refine AllReadyH.cons (o := ⟨none, _, _, _, _, _⟩) rfl (fun K' hK => ?_) AllReadyH.nil
        obtain ⟨y0, f0, hly⟩ := HX1.out.c1
        go_simp
        clear y0 f0 hly
        have ho3 : OwnInts (w_3.setCell ⟨w.heap.size + 1, 0, none⟩ (.slice A2 (j + 1) c2)) (w.heap.size + 1 + 1) (.slice A2 (j + 1) c2) (j + 1) _ := HO2.out.setOther (p := ⟨w.heap.size + 1, 0, none⟩) (by show w.heap.size + 1 < w.heap.size + 1 + 1; omega) _
        have HO3 := hide ho3
        replace HX0 := hide (HX0.out.other (p := ⟨w.heap.size + 1, 0, none⟩) (by show w.heap.size ≠ w.heap.size + 1; omega) (.slice A2 (j + 1) c2))
        replace HX1 := hide (HX1.out.put1 (.slice A2 (j + 1) c2))
        replace HB := hide (HB.out.setCell (p := ⟨w.heap.size + 1, 0, none⟩) (Nat.le_succ _) (.slice A2 (j + 1) c2))
        clear ho3 HO2
        obtain ⟨w_4, hw_4⟩ : ∃ q : World, w_3.setCell ⟨w.heap.size + 1, 0, none⟩ (.slice A2 (j + 1) c2) = q := ⟨_, rfl⟩
        rw [hw_4] at HX0 HX1 HO3 HB ⊢
        clear hw_4
        refine hK.out _ _ HX0.out.c1.1 (fun hHeld => ?_)
        clear hK K'
        try simp only [Act.put, List.setIfInBounds_toArray, List.set_cons_zero, List.set_cons_succ]
        refine wpAnyH_done (by kernel_rfl) ?_ _
        go_wp2_with fail
        go_roundw
        case rel => exact ⟨j + 1, _, by omega, by go_num, HX0, HX1, hide (HO3.out.congr fun i hi => by
            unfold catF
            by_cases e : i < j
            · rw [if_pos e]
            · rw [if_neg e, show i = j by omega]; exact HSJ.out.symm), HB⟩
        case measure => simp [Go.RowKit.intOf]; omega
      · skip
        go_simp
        go_at_call 53
        refine (HM.out _).mono ?_
        rintro e_ v_ ⟨rfl, rfl⟩
        go_wp2_with fail
        refine hK.out _ _ HX0.out.c1.1 (fun hHeld => ?_)
        clear hK K'
        try simp only [Act.put, List.setIfInBounds_toArray, List.set_cons_zero, List.set_cons_succ]
        refine wpAnyH_ready (rs := [1, 7]) (by kernel_rfl) (by simp) ?_
        refine AllReadyH.cons (o := ⟨some 13, _, _, _, _, _⟩) rfl (fun K' hK => ?_) (AllReadyH.cons (o := ⟨some 19, _, _, _, _, _⟩) rfl (fun K' hK => ?_) AllReadyH.nil)
        · skip
          obtain ⟨y0, f0, hly⟩ := HX1.out.c1
          go_simp
          clear y0 f0 hly
          refine hK.out _ _ HX0.out.c1.1 (fun hHeld => ?_)
          clear hK K'
          try simp only [Act.put, List.setIfInBounds_toArray, List.set_cons_zero, List.set_cons_succ]
          refine wpAnyH_ready (rs := [7]) (by kernel_rfl) (by simp) ?_
          refine AllReadyH.cons (o := ⟨some 19, _, _, _, _, _⟩) rfl (fun K' hK => ?_) AllReadyH.nil
          go_simp
          obtain ⟨g7, hg7⟩ : ∃ q, w_1.heap.size = q := ⟨_, rfl⟩
          obtain ⟨w_5, hw_5⟩ : ∃ q : World, q = w_1.alloc (.cells #[.int .i64 r] 3) := ⟨_, rfl⟩
          try rw [← hw_5]
          have HN := hide (show Box w_5 g7 3 #[.int .i64 r] by rw [hw_5]; exact Box.made hg7.symm)
          have hc_5 : Below w_1.heap.size w_1 w_5 := by rw [hw_5]; exact (Below.refl _ _).alloc (Nat.le_refl _) _
          clear hw_5
          replace HX0 := hide (HX0.out.below hc_5)
          replace HX1 := hide (HX1.out.below hc_5)
          replace HO := hide (HO.out.below hc_5)
          replace HB := hide (HB.out.trans (hc_5.mono HB.out.size))
          clear hc_5
          try simp only [hg7]
          clear hg7
          refine hK.out _ _ HX0.out.c1.1 (fun hHeld => ?_)
          clear hK K'
          try simp only [Act.put, List.setIfInBounds_toArray, List.set_cons_zero, List.set_cons_succ]
          refine wpAnyH_ready (rs := [8]) (by kernel_rfl) (by simp) ?_
          refine AllReadyH.cons (o := ⟨some 20, _, _, _, _, _⟩) rfl (fun K' hK => ?_) AllReadyH.nil
          have hl1 := HX1.out.lt
          refine wp_append_ints _ (.tmp 13) (.tmp 19) rfl (w.heap.size + 1 + 1) 0 (.slice As j cs) j S rfl HO.out (some ⟨g7, 0, none⟩) 1 1 (fun _ => r) rfl (fun i hi => ⟨g7, 0, rfl, Nat.zero_le _, HN.out.lt, by obtain rfl : i = 0 := (by omega); exact HN.out.at_ 0⟩) (by omega) (by omega) ?_
          intro v2 w_6 ho_6 hb_6
          clear hl1
          obtain ⟨A2, c2, rfl, hc2, hi2⟩ := ho_6.form
          clear hi2
          replace HX0 := hide (HX0.out.kept hb_6 (by omega))
          replace HX1 := hide (HX1.out.kept hb_6 (by omega))
          replace HB := hide (HB.out.trans (hb_6.mono (by omega)))
          have HO2 := hide ho_6
          clear hb_6 ho_6 HN HO
          refine hK.out _ _ HX0.out.c1.1 (fun hHeld => ?_)
          clear hK K'
          try simp only [Act.put, List.setIfInBounds_toArray, List.set_cons_zero, List.set_cons_succ]
          refine wpAnyH_take (i := 9) (oi := ⟨some 21, _, _, _, _, _⟩) (v := ?_) rfl (by kernel_rfl) (by kernel_rfl) (by kernel_rfl) (fun _ _ _ h => h) (Or.inl ⟨by rfl, ?_⟩) (by assumption) ?_
          rotate_left
          · (intro w' hSw; (try dsimp only at hSw); go_simp <;> (with_reducible rfl))
          try simp only [Act.put, List.setIfInBounds_toArray, List.set_cons_zero, List.set_cons_succ]
          refine wpAnyH_ready (rs := [10]) (by kernel_rfl) (by simp) ?_
          refine AllReadyH.cons (o := ⟨none, _, _, _, _, _⟩) rfl (fun K' hK => ?_) AllReadyH.nil
          obtain ⟨y0, f0, hly⟩ := HX1.out.c1
          go_simp
          clear y0 f0 hly
          have ho3 : OwnInts (w_6.setCell ⟨w.heap.size + 1, 0, none⟩ (.slice A2 (j + 1) c2)) (w.heap.size + 1 + 1) (.slice A2 (j + 1) c2) (j + 1) _ := HO2.out.setOther (p := ⟨w.heap.size + 1, 0, none⟩) (by show w.heap.size + 1 < w.heap.size + 1 + 1; omega) _
          have HO3 := hide ho3
          replace HX0 := hide (HX0.out.other (p := ⟨w.heap.size + 1, 0, none⟩) (by show w.heap.size ≠ w.heap.size + 1; omega) (.slice A2 (j + 1) c2))
          replace HX1 := hide (HX1.out.put1 (.slice A2 (j + 1) c2))
          replace HB := hide (HB.out.setCell (p := ⟨w.heap.size + 1, 0, none⟩) (Nat.le_succ _) (.slice A2 (j + 1) c2))
          clear ho3 HO2
          obtain ⟨w_7, hw_7⟩ : ∃ q : World, w_6.setCell ⟨w.heap.size + 1, 0, none⟩ (.slice A2 (j + 1) c2) = q := ⟨_, rfl⟩
          rw [hw_7] at HX0 HX1 HO3 HB ⊢
          clear hw_7
          refine hK.out _ _ HX0.out.c1.1 (fun hHeld => ?_)
          clear hK K'
          try simp only [Act.put, List.setIfInBounds_toArray, List.set_cons_zero, List.set_cons_succ]
          refine wpAnyH_done (by kernel_rfl) ?_ _
          go_wp2_with fail
          go_roundw
          case rel => exact ⟨j + 1, _, by omega, by go_num, HX0, HX1, hide (HO3.out.congr fun i hi => by
              unfold catF
              by_cases e : i < j
              · rw [if_pos e]
              · rw [if_neg e, show i = j by omega]; exact HSJ.out.symm), HB⟩
          case measure => simp [Go.RowKit.intOf]; omega
        · skip
          go_simp
          obtain ⟨g7, hg7⟩ : ∃ q, w_1.heap.size = q := ⟨_, rfl⟩
          obtain ⟨w_8, hw_8⟩ : ∃ q : World, q = w_1.alloc (.cells #[.int .i64 r] 3) := ⟨_, rfl⟩
          try rw [← hw_8]
          have HN := hide (show Box w_8 g7 3 #[.int .i64 r] by rw [hw_8]; exact Box.made hg7.symm)
          have hc_8 : Below w_1.heap.size w_1 w_8 := by rw [hw_8]; exact (Below.refl _ _).alloc (Nat.le_refl _) _
          clear hw_8
          replace HX0 := hide (HX0.out.below hc_8)
          replace HX1 := hide (HX1.out.below hc_8)
          replace HO := hide (HO.out.below hc_8)
          replace HB := hide (HB.out.trans (hc_8.mono HB.out.size))
          clear hc_8
          try simp only [hg7]
          clear hg7
          refine hK.out _ _ HX0.out.c1.1 (fun hHeld => ?_)
          clear hK K'
          try simp only [Act.put, List.setIfInBounds_toArray, List.set_cons_zero, List.set_cons_succ]
          refine wpAnyH_ready (rs := [1]) (by kernel_rfl) (by simp) ?_
          refine AllReadyH.cons (o := ⟨some 13, _, _, _, _, _⟩) rfl (fun K' hK => ?_) AllReadyH.nil
          obtain ⟨y0, f0, hly⟩ := HX1.out.c1
          go_simp
          clear y0 f0 hly
          refine hK.out _ _ HX0.out.c1.1 (fun hHeld => ?_)
          clear hK K'
          try simp only [Act.put, List.setIfInBounds_toArray, List.set_cons_zero, List.set_cons_succ]
          refine wpAnyH_ready (rs := [8]) (by kernel_rfl) (by simp) ?_
          refine AllReadyH.cons (o := ⟨some 20, _, _, _, _, _⟩) rfl (fun K' hK => ?_) AllReadyH.nil
          have hl1 := HX1.out.lt
          refine wp_append_ints _ (.tmp 13) (.tmp 19) rfl (w.heap.size + 1 + 1) 0 (.slice As j cs) j S rfl HO.out (some ⟨g7, 0, none⟩) 1 1 (fun _ => r) rfl (fun i hi => ⟨g7, 0, rfl, Nat.zero_le _, HN.out.lt, by obtain rfl : i = 0 := (by omega); exact HN.out.at_ 0⟩) (by omega) (by omega) ?_
          intro v2 w_9 ho_9 hb_9
          clear hl1
          obtain ⟨A2, c2, rfl, hc2, hi2⟩ := ho_9.form
          clear hi2
          replace HX0 := hide (HX0.out.kept hb_9 (by omega))
          replace HX1 := hide (HX1.out.kept hb_9 (by omega))
          replace HB := hide (HB.out.trans (hb_9.mono (by omega)))
          have HO2 := hide ho_9
          clear hb_9 ho_9 HN HO
          refine hK.out _ _ HX0.out.c1.1 (fun hHeld => ?_)
          clear hK K'
          try simp only [Act.put, List.setIfInBounds_toArray, List.set_cons_zero, List.set_cons_succ]
          refine wpAnyH_take (i := 9) (oi := ⟨some 21, _, _, _, _, _⟩) (v := ?_) rfl (by kernel_rfl) (by kernel_rfl) (by kernel_rfl) (fun _ _ _ h => h) (Or.inl ⟨by rfl, ?_⟩) (by assumption) ?_
          rotate_left
          · (intro w' hSw; (try dsimp only at hSw); go_simp <;> (with_reducible rfl))
          try simp only [Act.put, List.setIfInBounds_toArray, List.set_cons_zero, List.set_cons_succ]
          refine wpAnyH_ready (rs := [10]) (by kernel_rfl) (by simp) ?_
          refine AllReadyH.cons (o := ⟨none, _, _, _, _, _⟩) rfl (fun K' hK => ?_) AllReadyH.nil
          obtain ⟨y0, f0, hly⟩ := HX1.out.c1
          go_simp
          clear y0 f0 hly
          have ho3 : OwnInts (w_9.setCell ⟨w.heap.size + 1, 0, none⟩ (.slice A2 (j + 1) c2)) (w.heap.size + 1 + 1) (.slice A2 (j + 1) c2) (j + 1) _ := HO2.out.setOther (p := ⟨w.heap.size + 1, 0, none⟩) (by show w.heap.size + 1 < w.heap.size + 1 + 1; omega) _
          have HO3 := hide ho3
          replace HX0 := hide (HX0.out.other (p := ⟨w.heap.size + 1, 0, none⟩) (by show w.heap.size ≠ w.heap.size + 1; omega) (.slice A2 (j + 1) c2))
          replace HX1 := hide (HX1.out.put1 (.slice A2 (j + 1) c2))
          replace HB := hide (HB.out.setCell (p := ⟨w.heap.size + 1, 0, none⟩) (Nat.le_succ _) (.slice A2 (j + 1) c2))
          clear ho3 HO2
          obtain ⟨w_10, hw_10⟩ : ∃ q : World, w_9.setCell ⟨w.heap.size + 1, 0, none⟩ (.slice A2 (j + 1) c2) = q := ⟨_, rfl⟩
          rw [hw_10] at HX0 HX1 HO3 HB ⊢
          clear hw_10
          refine hK.out _ _ HX0.out.c1.1 (fun hHeld => ?_)
          clear hK K'
          try simp only [Act.put, List.setIfInBounds_toArray, List.set_cons_zero, List.set_cons_succ]
          refine wpAnyH_done (by kernel_rfl) ?_ _
          go_wp2_with fail
          go_roundw
          case rel => exact ⟨j + 1, _, by omega, by go_num, HX0, HX1, hide (HO3.out.congr fun i hi => by
              unfold catF
              by_cases e : i < j
              · rw [if_pos e]
              · rw [if_neg e, show i = j by omega]; exact HSJ.out.symm), HB⟩
          case measure => simp [Go.RowKit.intOf]; omega
    obtain rfl : j = n := by omega
    obtain ⟨As, cs, rfl, hcs, hIs⟩ := HO.out.form
    obtain ⟨x0, -, hlx⟩ := HX1.out.c1
    obtain ⟨z0, f0, hlz⟩ := HX0.out.c1
    have HY := hide ((HX0.out.put1 (.slice As j cs)).at_ 0)
    have HO4 := hide (HO.out.setOther (p := ⟨w.heap.size, 0, none⟩) (by show w.heap.size < w.heap.size + 1 + 1; omega) (.slice As j cs))
    have HB4 := hide (HB.out.setCell (p := ⟨w.heap.size, 0, none⟩) (Nat.le_refl _) (.slice As j cs))
    go_wp2_with fail
    have y0 := HY.out
    simp only [List.getElem?_toArray] at y0
    refine bodyPost_ret (v := .agg #[.slice As j cs]) ?_ rfl ⟨As, cs, rfl, HO4.out, HB4.out⟩
    simp [results, Try.results20, go_sem, y0]
end Go.Proofs.Ytejhakkfgfahaaa
/- The walk of BeamBeams. -/
namespace Go.Proofs.Ytejhakkfgfahaaa
open Go.RowKit Go.Great
theorem run_beam_field (A : Option Addr) (n c : Nat) (w : World) : (Instr.field 24 (.agg #[.slice A n c]) 0).run Try.prog w = .ok (.slice A n c) w := by kernel_rfl
theorem steE_cases (a s : Int) : steE a s = if withinB a 1 8 = true then stepE s else 2 := by
  unfold steE
  cases withinB a 1 8
  · rfl
  · show (if unI true 2 = 0 then (if stepE s = 0 then 0 else stepE s) else unI true 2) = if true = true then stepE s else 2
    rw [if_pos (show unI true 2 = 0 from rfl), if_pos rfl]
    split
    · rename_i h; rw [h]
    · rfl
set_option maxHeartbeats 8000000 in
set_option maxRecDepth 100000 in
theorem beamBeams_walk (A : Option Addr) (n c : Nat) (F : Nat → Int) (a s : Int) (w : World) (hn9 : n ≤ 9223372036854775807) (hI : IntsAt w 0 A n F) :
    Calls Try.prog 3 #[.agg #[.slice A n c], .int .i64 a, .int .i64 s] w fun e w' => e = .returned (.bool true) ∧ Below w.heap.size w w' := by
  have HI := hide hI
  clear hI
  have HAN := hide (fun W => antennas_any A n c W)
  by_cases h10 : n ≤ 10
  case neg =>
    have HAN2 := hide (fun W => (show Calls Try.prog 12 #[.agg #[.slice A n c]] W fun e w' => e = .returned (.bool false) ∧ Below W.heap.size W w' by
      have := HAN.out W
      rw [show decide ((n : Int) ≤ 10) = false by simp; omega] at this
      exact this))
    go_enter Try.func3, Try.ntmps3
    go_upto_region 1 with fail
    obtain ⟨w_1, hw_1⟩ : ∃ q : World, q = (w.alloc (.cells #[.slice A n c] 24)) := ⟨_, rfl⟩
    try rw [← hw_1]
    have HX0 := hide (show Box w_1 (w.heap.size) 24 #[.slice A n c] by rw [hw_1]; exact Box.made rfl)
    have HB := hide (show Below w.heap.size w w_1 by rw [hw_1]; (repeat (first | (with_reducible exact Below.refl _ _) | (with_reducible refine Go.below_drewN ?_ _) | (with_reducible refine Below.drew ?_) | (with_reducible refine Below.alloc ?_ (by first | exact Nat.le_refl _ | (simp; done) | (simp; omega) | omega) _) | (with_reducible refine Below.setCell ?_ (by first | exact Nat.le_refl _ | (simp; done) | (simp; omega) | omega) _))))
    clear hw_1
    go_wp2_with fail
    refine (awake_any _).mono ?_
    rintro e_ w_2 ⟨rfl, hb_2⟩
    replace HX0 := hide (HX0.out.below hb_2)
    replace HB := hide (HB.out.trans (hb_2.mono HB.out.size))
    clear hb_2
    obtain ⟨x0, -, hlx⟩ := HX0.out.c1
    go_wp2_with fail
    refine (HAN2.out _).mono ?_
    rintro e_ w_3 ⟨rfl, hb_3⟩
    replace HX0 := hide (HX0.out.below hb_3)
    replace HB := hide (HB.out.trans (hb_3.mono HB.out.size))
    clear hb_3
    clear x0 hlx
    go_wp2_with fail
    go_ret
    exact ⟨rfl, HB.out⟩
  have HAN2 := hide (fun W => (show Calls Try.prog 12 #[.agg #[.slice A n c]] W fun e w' => e = .returned (.bool true) ∧ Below W.heap.size W w' by
    have := HAN.out W
    rw [show decide ((n : Int) ≤ 10) = true by simp; omega] at this
    exact this))
  have HCP := hide (fun W (h : IntsAt W 0 A n F) => Copy_any A n c F W (by omega) h)
  have HCB := hide (fun (B : Option Addr) d W (h : IntsAt W 0 B n F) => CheckBeam_any B n d F W (by omega) h)
  have HCR := hide (fun W (h : IntsAt W 0 A n F) => CheckBeam_ref A n c F W hn9 h)
  have HST := hide (fun W => Steering_any a s W)
  have HSE := hide (fun W => StepErr_any s W)
  have HW := hide (fun W => within_any a 1 8 W)
  have HSZ := hide (steE_zero (a := a) (s := s))
  have HSC := hide (steE_cases a s)
  obtain ⟨V, hV⟩ : ∃ z, steE a s = z := ⟨_, rfl⟩
  obtain ⟨q, hq⟩ : ∃ z, stepE s = z := ⟨_, rfl⟩
  obtain ⟨b, hb⟩ : ∃ z, withinB a 1 8 = z := ⟨_, rfl⟩
  have hq2 : q = 0 ∨ q = 2 := by rw [← hq]; unfold stepE; cases withinB s 0 7; exact .inr rfl; exact .inl rfl
  simp only [hV, hq, hb] at HST HSE HW HSZ HSC
  generalize cbI n F = R at *
  generalize cbE n F = E at *
  clear hV hq hb HAN
  go_enter Try.func3, Try.ntmps3
  go_upto_region 1 with fail
  obtain ⟨w_1, hw_1⟩ : ∃ q : World, q = (w.alloc (.cells #[.slice A n c] 24)) := ⟨_, rfl⟩
  try rw [← hw_1]
  have HX0 := hide (show Box w_1 (w.heap.size) 24 #[.slice A n c] by rw [hw_1]; exact Box.made rfl)
  have HB := hide (show Below w.heap.size w w_1 by rw [hw_1]; (repeat (first | (with_reducible exact Below.refl _ _) | (with_reducible refine Go.below_drewN ?_ _) | (with_reducible refine Below.drew ?_) | (with_reducible refine Below.alloc ?_ (by first | exact Nat.le_refl _ | (simp; done) | (simp; omega) | omega) _) | (with_reducible refine Below.setCell ?_ (by first | exact Nat.le_refl _ | (simp; done) | (simp; omega) | omega) _))))
  clear hw_1
  go_wp2_with fail
  refine (awake_any _).mono ?_
  rintro e_ w_2 ⟨rfl, hb_2⟩
  replace HX0 := hide (HX0.out.below hb_2)
  replace HB := hide (HB.out.trans (hb_2.mono HB.out.size))
  clear hb_2
  obtain ⟨x0, -, hlx⟩ := HX0.out.c1
  go_wp2_with fail
  refine (HAN2.out _).mono ?_
  rintro e_ w_3 ⟨rfl, hb_3⟩
  replace HX0 := hide (HX0.out.below hb_3)
  replace HB := hide (HB.out.trans (hb_3.mono HB.out.size))
  clear hb_3
  clear x0 hlx
  obtain ⟨x0, -, hlx⟩ := HX0.out.c1
  go_wp2_with fail
  refine (HCP.out _ (HI.out.below HB.out)).mono ?_
  rintro e_ w_4 ⟨B, d, rfl, hd, hd9, hi, hb_4⟩
  replace HX0 := hide (HX0.out.below hb_4)
  replace HB := hide (HB.out.trans (hb_4.mono HB.out.size))
  clear hb_4
  have HC := hide (hi.weak (Nat.zero_le _))
  clear hi
  clear x0 hlx
  go_wp2_with fail
  refine (HCB.out _ _ _ HC.out).mono ?_
  rintro e_ w_5 ⟨rfl, hb_5⟩
  replace HX0 := hide (HX0.out.below hb_5)
  replace HC := hide (HC.out.below hb_5)
  replace HB := hide (HB.out.trans (hb_5.mono HB.out.size))
  clear hb_5
  clear HC
  go_wp2_with fail
  refine (HST.out _).mono ?_
  rintro e_ w_6 ⟨C, m, e, rfl, hm, hme, he8, hi, hb_6⟩
  replace HX0 := hide (HX0.out.below hb_6)
  replace HB := hide (HB.out.trans (hb_6.mono HB.out.size))
  clear hb_6
  have HS := hide (hi.weak (Nat.zero_le _))
  clear hi
  go_upto_region 7 with fail
  obtain ⟨g9, hg9⟩ : ∃ q, w_6.heap.size = q := ⟨_, rfl⟩
  obtain ⟨w_7, hw_7⟩ : ∃ q : World, q = w_6.alloc (.cells #[.slice C m e] 24) := ⟨_, rfl⟩
  try rw [← hw_7]
  have HX9 := hide (show Box w_7 g9 24 #[.slice C m e] by rw [hw_7]; exact Box.made hg9.symm)
  have hc_7 : Below w_6.heap.size w_6 w_7 := by rw [hw_7]; exact (Below.refl _ _).alloc (Nat.le_refl _) _
  clear hw_7
  replace HX0 := hide (HX0.out.below hc_7)
  replace HS := hide (HS.out.below hc_7)
  replace HB := hide (HB.out.trans (hc_7.mono HB.out.size))
  clear hc_7
  try simp only [hg9]
  clear hg9
  obtain ⟨x0, -, hlx⟩ := HX0.out.c1
  go_wp2_with fail
  refine (HCR.out _ (HI.out.below HB.out)).mono ?_
  rintro e_ w_8 ⟨rfl, hb_8⟩
  replace HX0 := hide (HX0.out.below hb_8)
  replace HS := hide (HS.out.below hb_8)
  replace HX9 := hide (HX9.out.below hb_8)
  replace HB := hide (HB.out.trans (hb_8.mono HB.out.size))
  clear hb_8
  clear x0 hlx
  go_wp2_with fail
  refine (HW.out _).mono ?_
  rintro e_ v_ ⟨rfl, rfl⟩
  obtain ⟨z0, -, hlz⟩ := HX9.out.c1
  cases b
  case false =>
    obtain rfl : V = 2 := HSC.out.trans (if_neg (by decide))
    obtain rfl : m = 0 := hm.2 (by decide)
    go_wp2_with fail
    go_ret
    exact ⟨by first | rfl | simp, HB.out⟩
  go_wp2_with fail
  refine (HSE.out _).mono ?_
  rintro e_ v_ ⟨rfl, rfl⟩
  rcases hq2 with hq2 | hq2
  rotate_left
  · subst hq2
    obtain rfl : V = 2 := HSC.out.trans (by simp)
    obtain rfl : m = 0 := hm.2 (by decide)
    go_wp2_with fail
    go_ret
    exact ⟨by first | rfl | simp, HB.out⟩
  subst hq2
  obtain rfl : V = 0 := HSC.out.trans (by simp)
  obtain ⟨⟨ha1, ha8⟩, hs0, hs7⟩ := HSZ.out (by first | rfl | trivial)
  obtain ⟨p, rfl⟩ : ∃ p : Nat, a = (p : Int) := ⟨a.toNat, by omega⟩
  obtain ⟨k, rfl⟩ : ∃ k : Nat, s = (k : Int) := ⟨s.toNat, by omega⟩
  obtain rfl : m = p := hm.1 (by first | rfl | trivial)
  have HSR := hide (fun W => Steering_ref m k W (by omega) (by omega))
  have HIN := hide (fun (B C : Option Addr) b c W (h : IntsAt W 0 B m (stF k 1)) (l : IntsAt W 0 C m (stF k 1)) => (show Calls Try.prog 19 #[.slice B m b, .slice C m c] W fun e w' => e = .returned (.bool true) ∧ ∃ q, w' = W.drewN q by
      have := ints_any B C m m b c (stF k 1) (stF k 1) W (by omega) (by omega) h l
      rw [intsB_iff.2 ⟨rfl, fun _ _ => rfl⟩] at this
      exact this))
  have HS2 := hide (show IntsAt _ 0 C m (stF k 1) from HS.out)
  have hfd := fun A n c W => run_beam_field A n c W
  clear z0 hlz HS hm HST HSE HW HSC HSZ
  go_upto_region 12 with fail
  refine wp_region_held_drew (S := fun w' => w'.cell? ⟨g9, 0, none⟩ = some (.slice C m e)) (by kernel_rfl) HX9.out.c1.1 (fun hHeld => ?_)
  obtain ⟨w_9, hw_9⟩ : ∃ q : World, q = w_8.drew := ⟨_, rfl⟩
  rw [← hw_9] at hHeld ⊢
  have hc_9 : Below w_8.heap.size w_8 w_9 := by rw [hw_9]; exact (Below.refl _ _).drew
  clear hw_9
  replace HX0 := hide (HX0.out.below hc_9)
  replace HX9 := hide (HX9.out.below hc_9)
  replace HS2 := hide (HS2.out.below hc_9)
  replace HB := hide (HB.out.trans (hc_9.mono HB.out.size))
  clear hc_9
  refine wpAnyH_take (i := 0) (oi := ⟨some 59, _, _, _, _, _⟩) (v := ?_) rfl (by kernel_rfl) (by kernel_rfl) (by kernel_rfl) (fun _ _ _ h => h) (Or.inl ⟨by rfl, ?_⟩) (by assumption) ?_
  rotate_left
  · (intro w' hSw; (try dsimp only at hSw); go_simp <;> (with_reducible rfl))
  try simp only [Act.put, List.setIfInBounds_toArray, List.set_cons_zero, List.set_cons_succ]
  refine wpAnyH_take (i := 1) (oi := ⟨some 60, _, _, _, _, _⟩) (v := ?_) rfl (by kernel_rfl) (by kernel_rfl) (by kernel_rfl) (fun _ _ _ h => h) (Or.inl ⟨by rfl, ?_⟩) (by assumption) ?_
  rotate_left
  · (intro w' hSw; (try dsimp only at hSw); go_simp <;> (with_reducible rfl))
  try simp only [Act.put, List.setIfInBounds_toArray, List.set_cons_zero, List.set_cons_succ]
  refine wpAnyH_take (i := 2) (oi := ⟨some 61, _, _, _, _, _⟩) (v := ?_) rfl (by kernel_rfl) (by kernel_rfl) (by kernel_rfl) (fun _ _ _ h => h) (Or.inl ⟨by rfl, ?_⟩) (by assumption) ?_
  rotate_left
  · (intro w' hSw; (try dsimp only at hSw); go_simp <;> (with_reducible rfl))
  try simp only [Act.put, List.setIfInBounds_toArray, List.set_cons_zero, List.set_cons_succ]
  refine wpAnyH_take (i := 3) (oi := ⟨some 62, _, _, _, _, _⟩) (v := ?_) rfl (by kernel_rfl) (by kernel_rfl) (by kernel_rfl) (fun _ _ _ h => h) (Or.inl ⟨by rfl, ?_⟩) (by assumption) ?_
  rotate_left
  · (intro w' hSw; (try dsimp only at hSw); go_simp <;> (with_reducible rfl))
  try simp only [Act.put, List.setIfInBounds_toArray, List.set_cons_zero, List.set_cons_succ]
  refine wpAnyH_take (i := 4) (oi := ⟨some 63, _, _, _, _, _⟩) (v := ?_) rfl (by kernel_rfl) (by kernel_rfl) (by kernel_rfl) (fun _ _ _ h => h) (Or.inl ⟨by rfl, ?_⟩) (by assumption) ?_
  rotate_left
  · (intro w' hSw; (try dsimp only at hSw); go_simp <;> (with_reducible rfl))
  try simp only [Act.put, List.setIfInBounds_toArray, List.set_cons_zero, List.set_cons_succ]
  refine wpAnyH_take (i := 5) (oi := ⟨some 64, _, _, _, _, _⟩) (v := ?_) rfl (by kernel_rfl) (by kernel_rfl) (by kernel_rfl) (fun _ _ _ h => h) (Or.inl ⟨by rfl, ?_⟩) (by assumption) ?_
  rotate_left
  · (intro w' hSw; (try dsimp only at hSw); go_simp <;> (with_reducible rfl))
  try simp only [Act.put, List.setIfInBounds_toArray, List.set_cons_zero, List.set_cons_succ]
  refine wpAnyH_take (i := 6) (oi := ⟨some 65, _, _, _, _, _⟩) (v := ?_) rfl (by kernel_rfl) (by kernel_rfl) (by kernel_rfl) (fun _ _ _ h => h) (Or.inl ⟨by rfl, ?_⟩) (by assumption) ?_
  rotate_left
  · (intro w' hSw; (try dsimp only at hSw); go_simp <;> (with_reducible rfl))
  try simp only [Act.put, List.setIfInBounds_toArray, List.set_cons_zero, List.set_cons_succ]
  refine wpAnyH_ready (rs := [7]) (by kernel_rfl) (by simp) ?_
  refine AllReadyH.cons (o := ⟨some 66, _, _, _, _, _⟩) rfl (fun K' hK => ?_) AllReadyH.nil
  go_simp
  go_at_call 20
  refine (HSR.out _).mono ?_
  rintro e_ w_10 ⟨D, f, rfl, ho, hb_10⟩
  obtain ⟨A7, c7, e7, -, hi⟩ := ho.form
  injection e7 with e71 e72 e73
  subst e71 e73
  have HG := hide (hi.weak (Nat.zero_le _))
  clear ho hi e72
  replace HX0 := hide (HX0.out.below hb_10)
  replace HX9 := hide (HX9.out.below hb_10)
  replace HS2 := hide (HS2.out.below hb_10)
  replace HB := hide (HB.out.trans (hb_10.mono HB.out.size))
  clear hb_10
  go_wp2_with fail
  refine hK.out _ _ HX9.out.c1.1 (fun hHeld => ?_)
  clear hK K'
  try simp only [Act.put, List.setIfInBounds_toArray, List.set_cons_zero, List.set_cons_succ]
  refine wpAnyH_take (i := 8) (oi := ⟨some 67, _, _, _, _, _⟩) (v := ?_) rfl (by kernel_rfl) (by kernel_rfl) (by kernel_rfl) (fun _ _ _ h => h) (Or.inl ⟨by rfl, ?_⟩) (by assumption) ?_
  rotate_left
  · (intro w' hSw; (try dsimp only at hSw); go_simp <;> (with_reducible rfl))
  try simp only [Act.put, List.setIfInBounds_toArray, List.set_cons_zero, List.set_cons_succ]
  refine wpAnyH_ready (rs := [9]) (by kernel_rfl) (by simp) ?_
  refine AllReadyH.cons (o := ⟨some 68, _, _, _, _, _⟩) rfl (fun K' hK => ?_) AllReadyH.nil
  go_simp
  go_at_call 19
  refine (HIN.out _ _ _ _ _ HS2.out HG.out).mono ?_
  rintro e_ v_11 ⟨rfl, q_11, rfl⟩
  obtain ⟨w_11, hw_11⟩ : ∃ z : World, z = w_10.drewN q_11 := ⟨_, rfl⟩
  rw [← hw_11]
  have hc_11 : Below w_10.heap.size w_10 w_11 := by rw [hw_11]; exact Go.below_drewN (Below.refl _ _) _
  clear hw_11
  replace HX0 := hide (HX0.out.below hc_11)
  replace HX9 := hide (HX9.out.below hc_11)
  replace HS2 := hide (HS2.out.below hc_11)
  replace HG := hide (HG.out.below hc_11)
  replace HB := hide (HB.out.trans (hc_11.mono HB.out.size))
  clear hc_11
  go_wp2_with fail
  refine hK.out _ _ HX9.out.c1.1 (fun hHeld => ?_)
  clear hK K'
  try simp only [Act.put, List.setIfInBounds_toArray, List.set_cons_zero, List.set_cons_succ]
  refine wpAnyH_take (i := 10) (oi := ⟨some 69, _, _, _, _, _⟩) (v := ?_) rfl (by kernel_rfl) (by kernel_rfl) (by kernel_rfl) (fun _ _ _ h => h) (Or.inl ⟨by rfl, ?_⟩) (by assumption) ?_
  rotate_left
  · (intro w' hSw; (try dsimp only at hSw); go_simp <;> (with_reducible rfl))
  try simp only [Act.put, List.setIfInBounds_toArray, List.set_cons_zero, List.set_cons_succ]
  refine wpAnyH_take (i := 11) (oi := ⟨some 6, _, _, _, _, _⟩) (v := ?_) rfl (by kernel_rfl) (by kernel_rfl) (by kernel_rfl) (fun _ _ _ h => h) (Or.inl ⟨by rfl, ?_⟩) (by assumption) ?_
  rotate_left
  · (intro w' hSw; (try dsimp only at hSw); go_simp <;> (with_reducible rfl))
  try simp only [Act.put, List.setIfInBounds_toArray, List.set_cons_zero, List.set_cons_succ]
  refine wpAnyH_done (by kernel_rfl) ?_ _
  go_wp2_with fail
  go_ret
  exact ⟨by first | rfl | simp, HB.out⟩
end Go.Proofs.Ytejhakkfgfahaaa
