/- Lemmas: E25, E30. -/
import Derived.Test.YtejhakkfgfahaaaBq10
import Derived.Test.YtejhakkfgfahaaaBq12
import Derived.Test.YtejhakkfgfahaaaBq15
set_option linter.unusedVariables false
set_option linter.unusedSimpArgs false
/- Steering of the reference. -/
namespace Go.Proofs.Ytejhakkfgfahaaa
open Go.RowKit Go.Great
theorem st_ref {k : Nat} (hk : k ≤ 7) (j : Nat) : stF k 1 j = (-(j : Int) * (k : Int)) % 8 := by
  unfold stF
  rw [if_pos (Nat.mod_one j)]
  obtain ⟨u, hu⟩ : ∃ u, 8 - k = u := ⟨_, rfl⟩
  have e : (-(j : Int) * (k : Int)) = ((u * j : Nat) : Int) - 8 * (j : Int) := by
    have h1 : (k : Int) = 8 - (u : Int) := by omega
    rw [h1, Int.natCast_mul]
    grind
  rw [hu, e]
  omega
theorem OwnInts.setOther {w : World} {base n : Nat} {v : Value} {F : Nat → Int} {p : Addr} (h : OwnInts w base v n F) (hp : p.block < base) (u : Value) : OwnInts (w.setCell p u) base v n F := by
  rcases h with ⟨h1, h2⟩
  refine ⟨h1, ?_⟩
  rcases h2 with h2 | ⟨g, cap, cur, e, hb, hg, rest⟩
  · exact .inl h2
  · exact .inr ⟨g, cap, cur, e, hb, (Below.heap_setCell w p u g (by omega)).trans hg, rest⟩
set_option maxHeartbeats 8000000 in
set_option maxRecDepth 100000 in
theorem Steering_ref (n k : Nat) (w : World) (hn : n ≤ 8) (hk : k ≤ 7) :
    Calls Try.prog 20 #[.int .i64 (n : Int), .int .i64 (k : Int)] w fun e w' => ∃ B d, e = .returned (.agg #[.slice B n d]) ∧ OwnInts w' (w.heap.size + 1 + 1) (.slice B n d) n (stF k 1) ∧ Below w.heap.size w w' := by
  have HS := hide (fun j => st_ref hk j)
  obtain ⟨S, hS⟩ : ∃ z, stF k 1 = z := ⟨_, rfl⟩
  simp only [hS] at HS ⊢
  clear hS
  go_enter Try.func20, Try.ntmps20
  go_wp2_with fail
  go_loopw [6] (fun i wr => ∃ (j : Nat) (v : Value), j ≤ n ∧ i = .int .i64 (j : Int) ∧ Hid (Box wr w.heap.size 24 #[.slice none 0 0]) ∧ Hid (Box wr (w.heap.size + 1) 24 #[v]) ∧ Hid (OwnInts wr (w.heap.size + 1 + 1) v j S) ∧ Hid (Below w.heap.size w wr)) (fun i _ => n - (Go.RowKit.intOf i).toNat)
  case atStart => exact ⟨0, .slice none 0 0, Nat.zero_le _, rfl, hide ((Box.made rfl).alloc _), hide (Box.made (by simp)), hide (OwnInts.nil_ _ _ _), hide (by (repeat (first | (with_reducible exact Below.refl _ _) | (with_reducible refine Go.below_drewN ?_ _) | (with_reducible refine Below.drew ?_) | (with_reducible refine Below.alloc ?_ (by first | exact Nat.le_refl _ | (simp; done) | (simp; omega) | omega) _) | (with_reducible refine Below.setCell ?_ (by first | exact Nat.le_refl _ | (simp; done) | (simp; omega) | omega) _))))⟩
  case round =>
    obtain ⟨j, v, hj, rfl, HX0, HX1, HO, HB⟩ := hrel
    obtain ⟨wA, rfl⟩ : ∃ x : World, x = wr := ⟨_, rfl⟩
    have hl1 := HX1.out.lt
    by_cases hlt : j < n
    case pos =>
      have hltz : (j : Int) < (n : Int) := by omega
      obtain ⟨As, cs, rfl, hcs, hIs⟩ := HO.out.form
      clear hIs
      obtain ⟨m, hm⟩ : ∃ z : Int, -(j : Int) * (k : Int) = z := ⟨_, rfl⟩
      have hjk : j * k ≤ 56 := Nat.le_trans (Nat.mul_le_mul (show j ≤ 8 by omega) hk) (by decide)
      have hjk2 : (j : Int) * (k : Int) = ((j * k : Nat) : Int) := (Int.natCast_mul j k).symm
      have hmb : -56 ≤ m ∧ m ≤ 0 := by rw [← hm, Int.neg_mul, hjk2]; omega
      have q1 : IntKind.i64.wrap (-(j : Int)) = -(j : Int) := IntWalk.i64_in _ (by omega)
      have q2 : IntKind.i64.wrap (-(j : Int) * (k : Int)) = m := by rw [hm]; exact IntWalk.i64_in _ (by omega)
      obtain ⟨r, hr⟩ : ∃ z : Int, m % 8 = z := ⟨_, rfl⟩
      have HSJ := hide (show S j = r by rw [HS.out j, hm, hr])
      have HM := hide (fun W => mod8 m W)
      simp only [hr] at HM
      clear hm hr hjk hjk2 hmb
      go_upto_region 5 with fail
      refine wp_region_held_drew (S := fun w' => w'.cell? ⟨w.heap.size, 0, none⟩ = some (.slice none 0 0)) (by kernel_rfl) HX0.out.c1.1 (fun hHeld => ?_)
      obtain ⟨w_1, hw_1⟩ : ∃ q : World, q = wA.drew := ⟨_, rfl⟩
      rw [← hw_1] at hHeld ⊢
      have hc_1 : Below wA.heap.size wA w_1 := by rw [hw_1]; exact (Below.refl _ _).drew
      clear hw_1
      replace HX0 := hide (HX0.out.below hc_1)
      replace HX1 := hide (HX1.out.below hc_1)
      replace HO := hide (HO.out.below hc_1)
      replace HB := hide (HB.out.trans (hc_1.mono HB.out.size))
      clear hc_1
      refine wpAnyH_take (i := 0) (oi := ⟨some 12, _, _, _, _, _⟩) (v := ?_) rfl (by kernel_rfl) (by kernel_rfl) (by kernel_rfl) (fun _ _ _ h => h) (Or.inl ⟨by rfl, ?_⟩) (by assumption) ?_
      rotate_left
      · (intro w' hSw; (try dsimp only at hSw); go_simp <;> (with_reducible rfl))
      try simp only [Act.put, List.setIfInBounds_toArray, List.set_cons_zero, List.set_cons_succ]
      refine wpAnyH_take (i := 2) (oi := ⟨some 14, _, _, _, _, _⟩) (v := ?_) rfl (by kernel_rfl) (by kernel_rfl) (by kernel_rfl) (fun _ _ _ h => h) (Or.inl ⟨by rfl, ?_⟩) (by assumption) ?_
      rotate_left
      · (intro w' hSw; (try dsimp only at hSw); go_simp <;> (with_reducible rfl))
      try simp only [Act.put, List.setIfInBounds_toArray, List.set_cons_zero, List.set_cons_succ]
      refine wpAnyH_take (i := 3) (oi := ⟨some 15, _, _, _, _, _⟩) (v := ?_) rfl (by kernel_rfl) (by kernel_rfl) (by kernel_rfl) (fun _ _ _ h => h) (Or.inl ⟨by rfl, ?_⟩) (by assumption) ?_
      rotate_left
      · (intro w' hSw; (try dsimp only at hSw); go_simp <;> (with_reducible rfl))
      try simp only [Act.put, List.setIfInBounds_toArray, List.set_cons_zero, List.set_cons_succ]
      refine wpAnyH_take (i := 4) (oi := ⟨some 16, _, _, _, _, _⟩) (v := ?_) rfl (by kernel_rfl) (by kernel_rfl) (by kernel_rfl) (fun _ _ _ h => h) (Or.inl ⟨by rfl, ?_⟩) (by assumption) ?_
      rotate_left
      · (intro w' hSw; (try dsimp only at hSw); go_simp <;> (with_reducible rfl))
      try simp only [Act.put, List.setIfInBounds_toArray, List.set_cons_zero, List.set_cons_succ]
      refine wpAnyH_take (i := 5) (oi := ⟨some 17, _, _, _, _, _⟩) (v := ?_) rfl (by kernel_rfl) (by kernel_rfl) (by kernel_rfl) (fun _ _ _ h => h) (Or.inl ⟨by rfl, ?_⟩) (by assumption) ?_
      rotate_left
      · (intro w' hSw; (try dsimp only at hSw); go_simp <;> (with_reducible rfl))
      try simp only [Act.put, List.setIfInBounds_toArray, List.set_cons_zero, List.set_cons_succ]
      refine wpAnyH_ready (rs := [1, 6]) (by kernel_rfl) (by simp) ?_
      refine AllReadyH.cons (o := ⟨some 13, _, _, _, _, _⟩) rfl (fun K' hK => ?_) (AllReadyH.cons (o := ⟨some 18, _, _, _, _, _⟩) rfl (fun K' hK => ?_) AllReadyH.nil)
      · skip
        obtain ⟨y0, f0, hly⟩ := HX1.out.c1
        go_simp
        clear y0 f0 hly
        refine hK.out _ _ HX0.out.c1.1 (fun hHeld => ?_)
        clear hK K'
        try simp only [Act.put, List.setIfInBounds_toArray, List.set_cons_zero, List.set_cons_succ]
        refine wpAnyH_ready (rs := [6]) (by kernel_rfl) (by simp) ?_
        refine AllReadyH.cons (o := ⟨some 18, _, _, _, _, _⟩) rfl (fun K' hK => ?_) AllReadyH.nil
        go_simp
        go_at_call 53
        refine (HM.out _).mono ?_
        rintro e_ v_ ⟨rfl, rfl⟩
        go_wp2_with fail
        refine hK.out _ _ HX0.out.c1.1 (fun hHeld => ?_)
        clear hK K'
        try simp only [Act.put, List.setIfInBounds_toArray, List.set_cons_zero, List.set_cons_succ]
        refine wpAnyH_ready (rs := [7]) (by kernel_rfl) (by simp) ?_
        refine AllReadyH.cons (o := ⟨some 19, _, _, _, _, _⟩) rfl (fun K' hK => ?_) AllReadyH.nil
        go_simp
        obtain ⟨g7, hg7⟩ : ∃ q, w_1.heap.size = q := ⟨_, rfl⟩
        obtain ⟨w_2, hw_2⟩ : ∃ q : World, q = w_1.alloc (.cells #[.int .i64 r] 3) := ⟨_, rfl⟩
        try rw [← hw_2]
        have HN := hide (show Box w_2 g7 3 #[.int .i64 r] by rw [hw_2]; exact Box.made hg7.symm)
        have hc_2 : Below w_1.heap.size w_1 w_2 := by rw [hw_2]; exact (Below.refl _ _).alloc (Nat.le_refl _) _
        clear hw_2
        replace HX0 := hide (HX0.out.below hc_2)
        replace HX1 := hide (HX1.out.below hc_2)
        replace HO := hide (HO.out.below hc_2)
        replace HB := hide (HB.out.trans (hc_2.mono HB.out.size))
        clear hc_2
        try simp only [hg7]
        clear hg7
        refine hK.out _ _ HX0.out.c1.1 (fun hHeld => ?_)
        clear hK K'
        try simp only [Act.put, List.setIfInBounds_toArray, List.set_cons_zero, List.set_cons_succ]
        refine wpAnyH_ready (rs := [8]) (by kernel_rfl) (by simp) ?_
        refine AllReadyH.cons (o := ⟨some 20, _, _, _, _, _⟩) rfl (fun K' hK => ?_) AllReadyH.nil
        have hl1 := HX1.out.lt
        refine wp_append_ints _ (.tmp 13) (.tmp 19) rfl (w.heap.size + 1 + 1) 0 (.slice As j cs) j S rfl HO.out (some ⟨g7, 0, none⟩) 1 1 (fun _ => r) rfl (fun i hi => ⟨g7, 0, rfl, Nat.zero_le _, HN.out.lt, by obtain rfl : i = 0 := (by omega); exact HN.out.at_ 0⟩) (by omega) (by omega) ?_
        intro v2 w_3 ho_3 hb_3
        clear hl1
        obtain ⟨A2, c2, rfl, hc2, hi2⟩ := ho_3.form
        clear hi2
        replace HX0 := hide (HX0.out.kept hb_3 (by omega))
        replace HX1 := hide (HX1.out.kept hb_3 (by omega))
        replace HB := hide (HB.out.trans (hb_3.mono (by omega)))
        have HO2 := hide ho_3
        clear hb_3 ho_3 HN HO
        refine hK.out _ _ HX0.out.c1.1 (fun hHeld => ?_)
        clear hK K'
        try simp only [Act.put, List.setIfInBounds_toArray, List.set_cons_zero, List.set_cons_succ]
        refine wpAnyH_take (i := 9) (oi := ⟨some 21, _, _, _, _, _⟩) (v := ?_) rfl (by kernel_rfl) (by kernel_rfl) (by kernel_rfl) (fun _ _ _ h => h) (Or.inl ⟨by rfl, ?_⟩) (by assumption) ?_
        rotate_left
        · (intro w' hSw; (try dsimp only at hSw); go_simp <;> (with_reducible rfl))
        try simp only [Act.put, List.setIfInBounds_toArray, List.set_cons_zero, List.set_cons_succ]
        refine wpAnyH_ready (rs := [10]) (by kernel_rfl) (by simp) ?_
        refine AllReadyH.cons (o := ⟨none, _, _, _, _, _⟩) rfl (fun K' hK => ?_) AllReadyH.nil
        obtain ⟨y0, f0, hly⟩ := HX1.out.c1
        go_simp
        clear y0 f0 hly
        have ho3 : OwnInts (w_3.setCell ⟨w.heap.size + 1, 0, none⟩ (.slice A2 (j + 1) c2)) (w.heap.size + 1 + 1) (.slice A2 (j + 1) c2) (j + 1) _ := HO2.out.setOther (p := ⟨w.heap.size + 1, 0, none⟩) (by show w.heap.size + 1 < w.heap.size + 1 + 1; omega) _
        have HO3 := hide ho3
        replace HX0 := hide (HX0.out.other (p := ⟨w.heap.size + 1, 0, none⟩) (by show w.heap.size ≠ w.heap.size + 1; omega) (.slice A2 (j + 1) c2))
        replace HX1 := hide (HX1.out.put1 (.slice A2 (j + 1) c2))
        replace HB := hide (HB.out.setCell (p := ⟨w.heap.size + 1, 0, none⟩) (Nat.le_succ _) (.slice A2 (j + 1) c2))
        clear ho3 HO2
        obtain ⟨w_4, hw_4⟩ : ∃ q : World, w_3.setCell ⟨w.heap.size + 1, 0, none⟩ (.slice A2 (j + 1) c2) = q := ⟨_, rfl⟩
        rw [hw_4] at HX0 HX1 HO3 HB ⊢
        clear hw_4
        refine hK.out _ _ HX0.out.c1.1 (fun hHeld => ?_)
        clear hK K'
        try simp only [Act.put, List.setIfInBounds_toArray, List.set_cons_zero, List.set_cons_succ]
        refine wpAnyH_done (by kernel_rfl) ?_ _
        go_wp2_with fail
        go_roundw
        case rel => exact ⟨j + 1, _, by omega, by go_num, HX0, HX1, hide (HO3.out.congr fun i hi => by
            unfold catF
            by_cases e : i < j
            · rw [if_pos e]
            · rw [if_neg e, show i = j by omega]; exact HSJ.out.symm), HB⟩
        case measure => simp [Go.RowKit.intOf]; omega
      · skip
        go_simp
        go_at_call 53
        refine (HM.out _).mono ?_
        rintro e_ v_ ⟨rfl, rfl⟩
        go_wp2_with fail
        refine hK.out _ _ HX0.out.c1.1 (fun hHeld => ?_)
        clear hK K'
        try simp only [Act.put, List.setIfInBounds_toArray, List.set_cons_zero, List.set_cons_succ]
        refine wpAnyH_ready (rs := [1, 7]) (by kernel_rfl) (by simp) ?_
        refine AllReadyH.cons (o := ⟨some 13, _, _, _, _, _⟩) rfl (fun K' hK => ?_) (AllReadyH.cons (o := ⟨some 19, _, _, _, _, _⟩) rfl (fun K' hK => ?_) AllReadyH.nil)
        · skip
          obtain ⟨y0, f0, hly⟩ := HX1.out.c1
          go_simp
          clear y0 f0 hly
          refine hK.out _ _ HX0.out.c1.1 (fun hHeld => ?_)
          clear hK K'
          try simp only [Act.put, List.setIfInBounds_toArray, List.set_cons_zero, List.set_cons_succ]
          refine wpAnyH_ready (rs := [7]) (by kernel_rfl) (by simp) ?_
          refine AllReadyH.cons (o := ⟨some 19, _, _, _, _, _⟩) rfl (fun K' hK => ?_) AllReadyH.nil
          go_simp
          obtain ⟨g7, hg7⟩ : ∃ q, w_1.heap.size = q := ⟨_, rfl⟩
          obtain ⟨w_5, hw_5⟩ : ∃ q : World, q = w_1.alloc (.cells #[.int .i64 r] 3) := ⟨_, rfl⟩
          try rw [← hw_5]
          have HN := hide (show Box w_5 g7 3 #[.int .i64 r] by rw [hw_5]; exact Box.made hg7.symm)
          have hc_5 : Below w_1.heap.size w_1 w_5 := by rw [hw_5]; exact (Below.refl _ _).alloc (Nat.le_refl _) _
          clear hw_5
          replace HX0 := hide (HX0.out.below hc_5)
          replace HX1 := hide (HX1.out.below hc_5)
          replace HO := hide (HO.out.below hc_5)
          replace HB := hide (HB.out.trans (hc_5.mono HB.out.size))
          clear hc_5
          try simp only [hg7]
          clear hg7
          refine hK.out _ _ HX0.out.c1.1 (fun hHeld => ?_)
          clear hK K'
          try simp only [Act.put, List.setIfInBounds_toArray, List.set_cons_zero, List.set_cons_succ]
          refine wpAnyH_ready (rs := [8]) (by kernel_rfl) (by simp) ?_
          refine AllReadyH.cons (o := ⟨some 20, _, _, _, _, _⟩) rfl (fun K' hK => ?_) AllReadyH.nil
          have hl1 := HX1.out.lt
          refine wp_append_ints _ (.tmp 13) (.tmp 19) rfl (w.heap.size + 1 + 1) 0 (.slice As j cs) j S rfl HO.out (some ⟨g7, 0, none⟩) 1 1 (fun _ => r) rfl (fun i hi => ⟨g7, 0, rfl, Nat.zero_le _, HN.out.lt, by obtain rfl : i = 0 := (by omega); exact HN.out.at_ 0⟩) (by omega) (by omega) ?_
          intro v2 w_6 ho_6 hb_6
          clear hl1
          obtain ⟨A2, c2, rfl, hc2, hi2⟩ := ho_6.form
          clear hi2
          replace HX0 := hide (HX0.out.kept hb_6 (by omega))
          replace HX1 := hide (HX1.out.kept hb_6 (by omega))
          replace HB := hide (HB.out.trans (hb_6.mono (by omega)))
          have HO2 := hide ho_6
          clear hb_6 ho_6 HN HO
          refine hK.out _ _ HX0.out.c1.1 (fun hHeld => ?_)
          clear hK K'
          try simp only [Act.put, List.setIfInBounds_toArray, List.set_cons_zero, List.set_cons_succ]
          refine wpAnyH_take (i := 9) (oi := ⟨some 21, _, _, _, _, _⟩) (v := ?_) rfl (by kernel_rfl) (by kernel_rfl) (by kernel_rfl) (fun _ _ _ h => h) (Or.inl ⟨by rfl, ?_⟩) (by assumption) ?_
          rotate_left
          · (intro w' hSw; (try dsimp only at hSw); go_simp <;> (with_reducible rfl))
          try simp only [Act.put, List.setIfInBounds_toArray, List.set_cons_zero, List.set_cons_succ]
          refine wpAnyH_ready (rs := [10]) (by kernel_rfl) (by simp) ?_
          refine AllReadyH.cons (o := ⟨none, _, _, _, _, _⟩) rfl (fun K' hK => ?_) AllReadyH.nil
          obtain ⟨y0, f0, hly⟩ := HX1.out.c1
          go_simp
          clear y0 f0 hly
          have ho3 : OwnInts (w_6.setCell ⟨w.heap.size + 1, 0, none⟩ (.slice A2 (j + 1) c2)) (w.heap.size + 1 + 1) (.slice A2 (j + 1) c2) (j + 1) _ := HO2.out.setOther (p := ⟨w.heap.size + 1, 0, none⟩) (by show w.heap.size + 1 < w.heap.size + 1 + 1; omega) _
          have HO3 := hide ho3
          replace HX0 := hide (HX0.out.other (p := ⟨w.heap.size + 1, 0, none⟩) (by show w.heap.size ≠ w.heap.size + 1; omega) (.slice A2 (j + 1) c2))
          replace HX1 := hide (HX1.out.put1 (.slice A2 (j + 1) c2))
          replace HB := hide (HB.out.setCell (p := ⟨w.heap.size + 1, 0, none⟩) (Nat.le_succ _) (.slice A2 (j + 1) c2))
          clear ho3 HO2
          obtain ⟨w_7, hw_7⟩ : ∃ q : World, w_6.setCell ⟨w.heap.size + 1, 0, none⟩ (.slice A2 (j + 1) c2) = q := ⟨_, rfl⟩
          rw [hw_7] at HX0 HX1 HO3 HB ⊢
          clear hw_7
          refine hK.out _ _ HX0.out.c1.1 (fun hHeld => ?_)
          clear hK K'
          try simp only [Act.put, List.setIfInBounds_toArray, List.set_cons_zero, List.set_cons_succ]
          refine wpAnyH_done (by kernel_rfl) ?_ _
          go_wp2_with fail
          go_roundw
          case rel => exact ⟨j + 1, _, by omega, by go_num, HX0, HX1, hide (HO3.out.congr fun i hi => by
              unfold catF
              by_cases e : i < j
              · rw [if_pos e]
              · rw [if_neg e, show i = j by omega]; exact HSJ.out.symm), HB⟩
          case measure => simp [Go.RowKit.intOf]; omega
        · skip
          go_simp
          obtain ⟨g7, hg7⟩ : ∃ q, w_1.heap.size = q := ⟨_, rfl⟩
          obtain ⟨w_8, hw_8⟩ : ∃ q : World, q = w_1.alloc (.cells #[.int .i64 r] 3) := ⟨_, rfl⟩
          try rw [← hw_8]
          have HN := hide (show Box w_8 g7 3 #[.int .i64 r] by rw [hw_8]; exact Box.made hg7.symm)
          have hc_8 : Below w_1.heap.size w_1 w_8 := by rw [hw_8]; exact (Below.refl _ _).alloc (Nat.le_refl _) _
          clear hw_8
          replace HX0 := hide (HX0.out.below hc_8)
          replace HX1 := hide (HX1.out.below hc_8)
          replace HO := hide (HO.out.below hc_8)
          replace HB := hide (HB.out.trans (hc_8.mono HB.out.size))
          clear hc_8
          try simp only [hg7]
          clear hg7
          refine hK.out _ _ HX0.out.c1.1 (fun hHeld => ?_)
          clear hK K'
          try simp only [Act.put, List.setIfInBounds_toArray, List.set_cons_zero, List.set_cons_succ]
          refine wpAnyH_ready (rs := [1]) (by kernel_rfl) (by simp) ?_
          refine AllReadyH.cons (o := ⟨some 13, _, _, _, _, _⟩) rfl (fun K' hK => ?_) AllReadyH.nil
          obtain ⟨y0, f0, hly⟩ := HX1.out.c1
          go_simp
          clear y0 f0 hly
          refine hK.out _ _ HX0.out.c1.1 (fun hHeld => ?_)
          clear hK K'
          try simp only [Act.put, List.setIfInBounds_toArray, List.set_cons_zero, List.set_cons_succ]
          refine wpAnyH_ready (rs := [8]) (by kernel_rfl) (by simp) ?_
          refine AllReadyH.cons (o := ⟨some 20, _, _, _, _, _⟩) rfl (fun K' hK => ?_) AllReadyH.nil
          have hl1 := HX1.out.lt
          refine wp_append_ints _ (.tmp 13) (.tmp 19) rfl (w.heap.size + 1 + 1) 0 (.slice As j cs) j S rfl HO.out (some ⟨g7, 0, none⟩) 1 1 (fun _ => r) rfl (fun i hi => ⟨g7, 0, rfl, Nat.zero_le _, HN.out.lt, by obtain rfl : i = 0 := (by omega); exact HN.out.at_ 0⟩) (by omega) (by omega) ?_
          intro v2 w_9 ho_9 hb_9
          clear hl1
          obtain ⟨A2, c2, rfl, hc2, hi2⟩ := ho_9.form
          clear hi2
          replace HX0 := hide (HX0.out.kept hb_9 (by omega))
          replace HX1 := hide (HX1.out.kept hb_9 (by omega))
          replace HB := hide (HB.out.trans (hb_9.mono (by omega)))
          have HO2 := hide ho_9
          clear hb_9 ho_9 HN HO
          refine hK.out _ _ HX0.out.c1.1 (fun hHeld => ?_)
          clear hK K'
          try simp only [Act.put, List.setIfInBounds_toArray, List.set_cons_zero, List.set_cons_succ]
          refine wpAnyH_take (i := 9) (oi := ⟨some 21, _, _, _, _, _⟩) (v := ?_) rfl (by kernel_rfl) (by kernel_rfl) (by kernel_rfl) (fun _ _ _ h => h) (Or.inl ⟨by rfl, ?_⟩) (by assumption) ?_
          rotate_left
          · (intro w' hSw; (try dsimp only at hSw); go_simp <;> (with_reducible rfl))
          try simp only [Act.put, List.setIfInBounds_toArray, List.set_cons_zero, List.set_cons_succ]
          refine wpAnyH_ready (rs := [10]) (by kernel_rfl) (by simp) ?_
          refine AllReadyH.cons (o := ⟨none, _, _, _, _, _⟩) rfl (fun K' hK => ?_) AllReadyH.nil
          obtain ⟨y0, f0, hly⟩ := HX1.out.c1
          go_simp
          clear y0 f0 hly
          have ho3 : OwnInts (w_9.setCell ⟨w.heap.size + 1, 0, none⟩ (.slice A2 (j + 1) c2)) (w.heap.size + 1 + 1) (.slice A2 (j + 1) c2) (j + 1) _ := HO2.out.setOther (p := ⟨w.heap.size + 1, 0, none⟩) (by show w.heap.size + 1 < w.heap.size + 1 + 1; omega) _
          have HO3 := hide ho3
          replace HX0 := hide (HX0.out.other (p := ⟨w.heap.size + 1, 0, none⟩) (by show w.heap.size ≠ w.heap.size + 1; omega) (.slice A2 (j + 1) c2))
          replace HX1 := hide (HX1.out.put1 (.slice A2 (j + 1) c2))
          replace HB := hide (HB.out.setCell (p := ⟨w.heap.size + 1, 0, none⟩) (Nat.le_succ _) (.slice A2 (j + 1) c2))
          clear ho3 HO2
          obtain ⟨w_10, hw_10⟩ : ∃ q : World, w_9.setCell ⟨w.heap.size + 1, 0, none⟩ (.slice A2 (j + 1) c2) = q := ⟨_, rfl⟩
          rw [hw_10] at HX0 HX1 HO3 HB ⊢
          clear hw_10
          refine hK.out _ _ HX0.out.c1.1 (fun hHeld => ?_)
          clear hK K'
          try simp only [Act.put, List.setIfInBounds_toArray, List.set_cons_zero, List.set_cons_succ]
          refine wpAnyH_done (by kernel_rfl) ?_ _
          go_wp2_with fail
          go_roundw
          case rel => exact ⟨j + 1, _, by omega, by go_num, HX0, HX1, hide (HO3.out.congr fun i hi => by
              unfold catF
              by_cases e : i < j
              · rw [if_pos e]
              · rw [if_neg e, show i = j by omega]; exact HSJ.out.symm), HB⟩
          case measure => simp [Go.RowKit.intOf]; omega
    obtain rfl : j = n := by omega
    obtain ⟨As, cs, rfl, hcs, hIs⟩ := HO.out.form
    obtain ⟨x0, -, hlx⟩ := HX1.out.c1
    obtain ⟨z0, f0, hlz⟩ := HX0.out.c1
    have HY := hide ((HX0.out.put1 (.slice As j cs)).at_ 0)
    have HO4 := hide (HO.out.setOther (p := ⟨w.heap.size, 0, none⟩) (by show w.heap.size < w.heap.size + 1 + 1; omega) (.slice As j cs))
    have HB4 := hide (HB.out.setCell (p := ⟨w.heap.size, 0, none⟩) (Nat.le_refl _) (.slice As j cs))
    go_wp2_with fail
    have y0 := HY.out
    simp only [List.getElem?_toArray] at y0
    refine bodyPost_ret (v := .agg #[.slice As j cs]) ?_ rfl ⟨As, cs, rfl, HO4.out, HB4.out⟩
    simp [results, Try.results20, go_sem, y0]
end Go.Proofs.Ytejhakkfgfahaaa
/- look of the reference. -/
namespace Go.Proofs.Ytejhakkfgfahaaa
open Go.RowKit Go.Great
structure LtW (a b : Nat) : Prop where lt : a < b
def mkF (k a i j : Nat) : Int := if j < i ∧ ¬ j % a = 0 then -1 else stF k 1 j
theorem mkF_end {k a j : Nat} (hj : j < 8) : mkF k a 8 j = stF k a j := by
  unfold mkF stF
  rw [if_pos (Nat.mod_one j)]
  by_cases h : j % a = 0
  · rw [if_neg (fun q => q.2 h), if_pos h]
  · rw [if_pos ⟨hj, h⟩, if_neg h]
set_option maxHeartbeats 8000000 in
set_option maxRecDepth 100000 in
theorem look_ref (a k s : Nat) (w : World) (ha : 1 ≤ a) (ha8 : a ≤ 8) (hk : k ≤ 7) (hs : s ≤ 7) :
    Calls Try.prog 65 #[.int .i64 (a : Int), .int .i64 (k : Int), .int .i64 (s : Int)] w fun e w' => ∃ D d, e = .returned (.agg #[.slice D 8 d, .int .i64 (lkN k a s).sqP, .int .i64 (lkN k a s).sqQ]) ∧ (8 ≤ d ∧ d ≤ 9223372036854775807) ∧ IntsAt w' w.heap.size D 8 (stF k a) ∧ Below w.heap.size w w' := by
  have HST := hide (fun W => (show Calls Try.prog 20 #[.int .i64 8, .int .i64 (k : Int)] W fun e w' => ∃ B d, e = .returned (.agg #[.slice B 8 d]) ∧ OwnInts w' (W.heap.size + 1 + 1) (.slice B 8 d) 8 (stF k 1) ∧ Below W.heap.size W w' from Steering_ref 8 k W (by decide) hk))
  have HRO := hide (fun A c W (h : IntsAt W 0 A 8 (stF k a)) => (show Calls Try.prog 26 #[.agg #[.slice A 8 c], .int .i64 (s : Int)] W fun e w' => e = .returned (.agg #[.int .i64 (lkN k a s).a, .int .i64 (lkN k a s).b, .int .i64 (lkN k a s).c, .int .i64 (lkN k a s).d]) ∧ Below W.heap.size W w' from ResponseOf_ref A 8 c (stF k a) s W (by decide) hs h (fun _ _ => stF_in)))
  have HSQ := hide (fun W => squareOfR_any (lkN k a s) W ((rsN_within (stF k a) s 8).more (by decide)))
  have HMK := hide (fun i j => (show mkF k a i j = if j < i ∧ ¬ j % a = 0 then -1 else stF k 1 j from rfl))
  have HEN := hide (fun j (h : j < 8) => mkF_end (k := k) (a := a) h)
  obtain ⟨S, hS⟩ : ∃ z, lkN k a s = z := ⟨_, rfl⟩
  simp only [hS] at HRO HSQ ⊢
  obtain ⟨P, hP⟩ : ∃ z, S.sqP = z := ⟨_, rfl⟩
  obtain ⟨Q, hQ⟩ : ∃ z, S.sqQ = z := ⟨_, rfl⟩
  simp only [hP, hQ] at HSQ ⊢
  obtain ⟨F, hF⟩ : ∃ z, stF k a = z := ⟨_, rfl⟩
  obtain ⟨F1, hF1⟩ : ∃ z, stF k 1 = z := ⟨_, rfl⟩
  simp only [hF, hF1] at HST HRO HMK HEN ⊢
  obtain ⟨s0, hs0⟩ : ∃ z, S.a = z := ⟨_, rfl⟩
  obtain ⟨s1, hs1⟩ : ∃ z, S.b = z := ⟨_, rfl⟩
  obtain ⟨s2, hs2⟩ : ∃ z, S.c = z := ⟨_, rfl⟩
  obtain ⟨s3, hs3⟩ : ∃ z, S.d = z := ⟨_, rfl⟩
  simp only [hs0, hs1, hs2, hs3] at HRO HSQ
  clear hS hP hQ hF hF1 hs0 hs1 hs2 hs3
  go_enter Try.func65, Try.ntmps65
  go_upto_region 1 with fail
  obtain ⟨w_1, hw_1⟩ : ∃ q : World, q = (w.alloc (.cells #[.slice none 0 0, .int .i64 0, .int .i64 0] 100)) := ⟨_, rfl⟩
  try rw [← hw_1]
  have HX0 := hide (show Box w_1 (w.heap.size) 100 #[.slice none 0 0, .int .i64 0, .int .i64 0] by rw [hw_1]; exact Box.made rfl)
  have HB := hide (show Below w.heap.size w w_1 by rw [hw_1]; (repeat (first | (with_reducible exact Below.refl _ _) | (with_reducible refine Go.below_drewN ?_ _) | (with_reducible refine Below.drew ?_) | (with_reducible refine Below.alloc ?_ (by first | exact Nat.le_refl _ | (simp; done) | (simp; omega) | omega) _) | (with_reducible refine Below.setCell ?_ (by first | exact Nat.le_refl _ | (simp; done) | (simp; omega) | omega) _))))
  clear hw_1
  go_wp2_with fail
  have HS0 := hide (LtW.mk HX0.out.lt)
  refine (HST.out _).mono ?_
  rintro e_ w_2 ⟨B, d, rfl, ho, hb_2⟩
  replace HX0 := hide (HX0.out.below hb_2)
  replace HB := hide (HB.out.trans (hb_2.mono HB.out.size))
  clear hb_2
  obtain ⟨gD, cD, eD, hgb, hgl⟩ := ho.row (by decide)
  injection eD with eB _ ed
  subst eB ed
  obtain ⟨bD, hbD⟩ : ∃ z, w_1.heap.size + 1 + 1 = z := ⟨_, rfl⟩
  rw [hbD] at ho hgb
  have hbw : w.heap.size < bD := by rw [← hbD]; have := HS0.out.lt; omega
  have HO := hide ho
  have HLT := hide (LtW.mk hgl)
  have hcap := ho.cap_any
  clear ho hgl hbD
  go_upto_region 2 with fail
  obtain ⟨g7, hg7⟩ : ∃ q, w_2.heap.size = q := ⟨_, rfl⟩
  obtain ⟨w_3, hw_3⟩ : ∃ q : World, q = w_2.alloc (.cells #[.slice (some ⟨gD, 0, none⟩) 8 d] 24) := ⟨_, rfl⟩
  try rw [← hw_3]
  have lt_HLT_g7 : gD < g7 := by rw [← hg7]; exact HLT.out.lt
  have lt_HX0_g7 : w.heap.size < g7 := by rw [← hg7]; exact HX0.out.lt
  have HX7 := hide (show Box w_3 g7 24 #[.slice (some ⟨gD, 0, none⟩) 8 d] by rw [hw_3]; exact Box.made hg7.symm)
  have hc_3 : Below w_2.heap.size w_2 w_3 := by rw [hw_3]; exact (Below.refl _ _).alloc (Nat.le_refl _) _
  clear hw_3
  replace HX0 := hide (HX0.out.below hc_3)
  replace HO := hide (HO.out.below hc_3)
  replace HB := hide (HB.out.trans (hc_3.mono HB.out.size))
  clear hc_3
  try simp only [hg7]
  clear hg7
  clear HLT HS0
  go_wp2_with fail
  go_loopw [8] (fun i wr => ∃ j : Nat, j ≤ 8 ∧ i = .int .i64 (j : Int) ∧ Hid (Box wr w.heap.size 100 #[.slice none 0 0, .int .i64 0, .int .i64 0]) ∧ Hid (Box wr g7 24 #[.slice (some ⟨gD, 0, none⟩) 8 d]) ∧ Hid (OwnInts wr bD (.slice (some ⟨gD, 0, none⟩) 8 d) 8 (mkF k a j)) ∧ Hid (Below w.heap.size w wr)) (fun i _ => 8 - (Go.RowKit.intOf i).toNat)
  case atStart => exact ⟨0, Nat.zero_le _, rfl, HX0, HX7, hide (HO.out.congr fun j hj => by rw [HMK.out, if_neg (fun q => absurd q.1 (Nat.not_lt_zero j))]), HB⟩
  case round =>
    clear HX0 HX7 HO HB
    obtain ⟨j, hj, rfl, HX0, HX7, HO, HB⟩ := hrel
    obtain ⟨wA, rfl⟩ : ∃ x : World, x = wr := ⟨_, rfl⟩
    by_cases hlt : j < 8
    case pos =>
      have hltz : (j : Int) < 8 := by omega
      have hna : ¬ (a : Int) = 0 := by omega
      obtain ⟨r, hr⟩ : ∃ z : Nat, j % a = z := ⟨_, rfl⟩
      have q1 : (j : Int).tmod (a : Int) = (r : Int) := by rw [Int.tmod_eq_emod_of_nonneg (by omega), ← Int.natCast_emod, hr]
      have HRJ := hide hr
      obtain ⟨x0, -, hlx⟩ := HX7.out.c1
      by_cases h0 : r = 0
      case pos =>
        have t1 : ((r : Int) != 0) = false := by simp; omega
        go_wp2_with fail
        go_roundw
        case rel =>
          exact ⟨j + 1, by omega, by go_num, HX0, HX7, hide (HO.out.congr fun i hi => by
            rw [HMK.out, HMK.out]
            by_cases e : i < j
            · by_cases e2 : i % a = 0
              · rw [if_neg (fun q => q.2 e2), if_neg (fun q => q.2 e2)]
              · rw [if_pos ⟨e, e2⟩, if_pos ⟨by omega, e2⟩]
            · rw [if_neg (fun q => e q.1), if_neg]
              intro q
              obtain rfl : i = j := by omega
              exact q.2 (by rw [HRJ.out]; exact h0)), HB⟩
        case measure => simp [Go.RowKit.intOf]; omega
      have t1 : ((r : Int) != 0) = true := by simp; omega
      have z0 := HO.out.cellAt hlt
      have zf := HO.out.frozen j
      have ne0 : w.heap.size ≠ gD := by omega
      have ne7 : g7 ≠ gD := by omega
      have HY0 := hide (HX0.out.other (p := ⟨gD, j, none⟩) (by show w.heap.size ≠ gD; exact ne0) (.int .i64 (-1)))
      have HY7 := hide (HX7.out.other (p := ⟨gD, j, none⟩) (by show g7 ≠ gD; exact ne7) (.int .i64 (-1)))
      have HOY := hide (HO.out.set_ j (-1))
      have HBY := hide (HB.out.setCell (p := ⟨gD, j, none⟩) (by show w.heap.size ≤ gD; omega) (.int .i64 (-1)))
      clear HX0 HX7 HO HB
      go_wp2_with fail
      go_roundw
      case rel =>
        exact ⟨j + 1, by omega, by go_num, HY0, HY7, hide (HOY.out.congr fun i hi => by
          unfold setF
          by_cases e : i = j
          · rw [if_pos e, HMK.out, if_pos ⟨by omega, by rw [e, HRJ.out]; exact h0⟩]
          · rw [if_neg e, HMK.out, HMK.out]
            by_cases e2 : i % a = 0
            · rw [if_neg (fun q => q.2 e2), if_neg (fun q => q.2 e2)]
            · by_cases e3 : i < j
              · rw [if_pos ⟨e3, e2⟩, if_pos ⟨by omega, e2⟩]
              · rw [if_neg (fun q => e3 q.1), if_neg (fun q => by omega)]), HBY⟩
      case measure => simp [Go.RowKit.intOf]; omega
    obtain rfl : j = 8 := by omega
    have HOF := hide (HO.out.congr fun j hj => HEN.out j hj)
    obtain ⟨A7, c7, e7, -, hi7⟩ := HOF.out.form
    injection e7 with e71 _ e72
    subst e71 e72
    have HI := hide (hi7.weak (show w.heap.size + 1 ≤ bD from hbw))
    clear hi7 HO HOF HST HMK HEN
    have lt_HX0_g7 : w.heap.size < g7 := by omega
    go_upto_region 7 with fail
    refine wp_region_held_drew (S := fun w' => w'.cell? ⟨g7, 0, none⟩ = some (.slice (some ⟨gD, 0, none⟩) 8 d)) (by kernel_rfl) HX7.out.c1.1 (fun hHeld => ?_)
    obtain ⟨w_4, hw_4⟩ : ∃ q : World, q = wA.drew := ⟨_, rfl⟩
    rw [← hw_4] at hHeld ⊢
    have hc_4 : Below wA.heap.size wA w_4 := by rw [hw_4]; exact (Below.refl _ _).drew
    clear hw_4
    replace HX0 := hide (HX0.out.below hc_4)
    replace HX7 := hide (HX7.out.below hc_4)
    replace HI := hide (HI.out.below hc_4)
    replace HB := hide (HB.out.trans (hc_4.mono HB.out.size))
    clear hc_4
    refine wpAnyH_take (i := 0) (oi := ⟨some 23, _, _, _, _, _⟩) (v := ?_) rfl (by kernel_rfl) (by kernel_rfl) (by kernel_rfl) (fun _ _ _ h => h) (Or.inl ⟨by rfl, ?_⟩) (by assumption) ?_
    rotate_left
    · (intro w' hSw; (try dsimp only at hSw); go_simp <;> (with_reducible rfl))
    try simp only [Act.put, List.setIfInBounds_toArray, List.set_cons_zero, List.set_cons_succ]
    refine wpAnyH_take (i := 1) (oi := ⟨some 24, _, _, _, _, _⟩) (v := ?_) rfl (by kernel_rfl) (by kernel_rfl) (by kernel_rfl) (fun _ _ _ h => h) (Or.inl ⟨by rfl, ?_⟩) (by assumption) ?_
    rotate_left
    · (intro w' hSw; (try dsimp only at hSw); go_simp <;> (with_reducible rfl))
    try simp only [Act.put, List.setIfInBounds_toArray, List.set_cons_zero, List.set_cons_succ]
    refine wpAnyH_take (i := 2) (oi := ⟨some 25, _, _, _, _, _⟩) (v := ?_) rfl (by kernel_rfl) (by kernel_rfl) (by kernel_rfl) (fun _ _ _ h => h) (Or.inl ⟨by rfl, ?_⟩) (by assumption) ?_
    rotate_left
    · (intro w' hSw; (try dsimp only at hSw); go_simp <;> (with_reducible rfl))
    try simp only [Act.put, List.setIfInBounds_toArray, List.set_cons_zero, List.set_cons_succ]
    refine wpAnyH_ready (rs := [3]) (by kernel_rfl) (by simp) ?_
    refine AllReadyH.cons (o := ⟨some 26, _, _, _, _, _⟩) rfl (fun K' hK => ?_) AllReadyH.nil
    go_simp
    go_at_call 26
    refine (HRO.out _ _ _ (HI.out.weak (Nat.zero_le _))).mono ?_
    rintro e_ w_5 ⟨rfl, hb_5⟩
    replace HX0 := hide (HX0.out.below hb_5)
    replace HX7 := hide (HX7.out.below hb_5)
    replace HI := hide (HI.out.below hb_5)
    replace HB := hide (HB.out.trans (hb_5.mono HB.out.size))
    clear hb_5
    go_wp2_with fail
    refine hK.out _ _ HX7.out.c1.1 (fun hHeld => ?_)
    clear hK K'
    try simp only [Act.put, List.setIfInBounds_toArray, List.set_cons_zero, List.set_cons_succ]
    refine wpAnyH_ready (rs := [4]) (by kernel_rfl) (by simp) ?_
    refine AllReadyH.cons (o := ⟨some 27, _, _, _, _, _⟩) rfl (fun K' hK => ?_) AllReadyH.nil
    go_simp
    go_at_call 27
    refine (HSQ.out _).mono ?_
    rintro e_ w_6 ⟨rfl, hb_6⟩
    replace HX0 := hide (HX0.out.below hb_6)
    replace HX7 := hide (HX7.out.below hb_6)
    replace HI := hide (HI.out.below hb_6)
    replace HB := hide (HB.out.trans (hb_6.mono HB.out.size))
    clear hb_6
    go_wp2_with fail
    refine hK.out _ _ HX7.out.c1.1 (fun hHeld => ?_)
    clear hK K'
    try simp only [Act.put, List.setIfInBounds_toArray, List.set_cons_zero, List.set_cons_succ]
    refine wpAnyH_take (i := 5) (oi := ⟨some 28, _, _, _, _, _⟩) (v := ?_) rfl (by kernel_rfl) (by kernel_rfl) (by kernel_rfl) (fun _ _ _ h => h) (Or.inl ⟨by rfl, ?_⟩) (by assumption) ?_
    rotate_left
    · (intro w' hSw; (try dsimp only at hSw); go_simp <;> (with_reducible rfl))
    try simp only [Act.put, List.setIfInBounds_toArray, List.set_cons_zero, List.set_cons_succ]
    refine wpAnyH_ready (rs := [6]) (by kernel_rfl) (by simp) ?_
    refine AllReadyH.cons (o := ⟨none, _, _, _, _, _⟩) rfl (fun K' hK => ?_) AllReadyH.nil
    obtain ⟨y0, y1, y2, f0, f1, f2, hly⟩ := HX0.out.cellsT
    go_simp
    clear y0 y1 y2 f0 f1 f2 hly
    have HZ := hide (HX0.out.putT (.slice (some ⟨gD, 0, none⟩) 8 d) (.int .i64 P) (.int .i64 Q)).cellsT
    have HBL := hide (Below.putT HB.out (c := w.heap.size) (Nat.le_refl _) (.slice (some ⟨gD, 0, none⟩) 8 d) (.int .i64 P) (.int .i64 Q))
    have HIL := hide ((((HI.out.other (p := ⟨w.heap.size, 0, none⟩) (Nat.lt_succ_self _) (.slice (some ⟨gD, 0, none⟩) 8 d)).other (p := ⟨w.heap.size, 1, none⟩) (Nat.lt_succ_self _) (.int .i64 P)).other (p := ⟨w.heap.size, 2, none⟩) (Nat.lt_succ_self _) (.int .i64 Q)).weak (Nat.le_succ _))
    have hS7 := ((HX7.out.other (p := ⟨w.heap.size, 0, none⟩) (Ne.symm (Nat.ne_of_lt lt_HX0_g7)) (.slice (some ⟨gD, 0, none⟩) 8 d)).other (p := ⟨w.heap.size, 1, none⟩) (Ne.symm (Nat.ne_of_lt lt_HX0_g7)) (.int .i64 P)).other (p := ⟨w.heap.size, 2, none⟩) (Ne.symm (Nat.ne_of_lt lt_HX0_g7)) (.int .i64 Q)
    refine hK.out _ _ hS7.c1.1 (fun hHeld => ?_)
    clear hK K'
    try simp only [Act.put, List.setIfInBounds_toArray, List.set_cons_zero, List.set_cons_succ]
    refine wpAnyH_done (by kernel_rfl) ?_ _
    clear hHeld hS7
    go_wp2_with fail
    obtain ⟨y0, y1, y2, -⟩ := HZ.out
    refine bodyPost_ret (v := .agg #[.slice (some ⟨gD, 0, none⟩) 8 d, .int .i64 P, .int .i64 Q]) ?_ rfl ⟨_, d, rfl, hcap, HIL.out, HBL.out⟩
    simp [results, Try.results65, go_sem, y0, y1, y2]
end Go.Proofs.Ytejhakkfgfahaaa
