/- Lemmas: E25, Bi, Ba, Bb. -/
import Derived.BigQuiet
import Derived.Test.YtejhakkfgfahaaaBz02
import Derived.Test.YtejhakkfgfahaaaBz03
import Derived.Test.YtejhakkfgfahaaaBz06
import Derived.Test.YtejhakkfgfahaaaBz07
import Derived.Test.YtejhakkfgfahaaaBz10
set_option linter.unusedVariables false
set_option linter.unusedSimpArgs false
/- Steering of the reference. -/
namespace Go.Proofs.Ytejhakkfgfahaaa
open Go.RowKit Go.Great
theorem st_ref {k : Nat} (hk : k ≤ 7) (j : Nat) : stF k 1 j = (-(j : Int) * (k : Int)) % 8 := by
  unfold stF
  rw [if_pos (Nat.mod_one j)]
  obtain ⟨u, hu⟩ : ∃ u, 8 - k = u := ⟨_, rfl⟩
  have e : (-(j : Int) * (k : Int)) = ((u * j : Nat) : Int) - 8 * (j : Int) := by
    have h1 : (k : Int) = 8 - (u : Int) := by omega
    rw [h1, Int.natCast_mul]
    grind
  rw [hu, e]
  omega
theorem OwnInts.setOther {w : World} {base n : Nat} {v : Value} {F : Nat → Int} {p : Addr} (h : OwnInts w base v n F) (hp : p.block < base) (u : Value) : OwnInts (w.setCell p u) base v n F := by
  rcases h with ⟨h1, h2⟩
  refine ⟨h1, ?_⟩
  rcases h2 with h2 | ⟨g, cap, cur, e, hb, hg, rest⟩
  · exact .inl h2
  · exact .inr ⟨g, cap, cur, e, hb, (Below.heap_setCell w p u g (by omega)).trans hg, rest⟩
set_option maxHeartbeats 8000000 in
set_option maxRecDepth 100000 in
theorem Steering_ref (n k : Nat) (w : World) (hn : n ≤ 8) (hk : k ≤ 7) :
    Calls Try.prog 20 #[.int .i64 (n : Int), .int .i64 (k : Int)] w fun e w' => ∃ B d, e = .returned (.agg #[.slice B n d]) ∧ OwnInts w' (w.heap.size + 1 + 1) (.slice B n d) n (stF k 1) ∧ Below w.heap.size w w' := by
  have HS := hide (fun j => st_ref hk j)
  obtain ⟨S, hS⟩ : ∃ z, stF k 1 = z := ⟨_, rfl⟩
  simp only [hS] at HS ⊢
  clear hS
  go_enter Try.func20, Try.ntmps20
  go_wp2_with fail
  go_loopw [6] (fun i wr => ∃ (j : Nat) (v : Value), j ≤ n ∧ i = .int .i64 (j : Int) ∧ Hid (Box wr w.heap.size 24 #[.slice none 0 0]) ∧ Hid (Box wr (w.heap.size + 1) 24 #[v]) ∧ Hid (OwnInts wr (w.heap.size + 1 + 1) v j S) ∧ Hid (Below w.heap.size w wr)) (fun i _ => n - (Go.RowKit.intOf i).toNat)
  case atStart => exact ⟨0, .slice none 0 0, Nat.zero_le _, rfl, hide ((Box.made rfl).alloc _), hide (Box.made (by simp)), hide (OwnInts.nil_ _ _ _), hide (by (repeat (first | (with_reducible exact Below.refl _ _) | (with_reducible refine Go.below_drewN ?_ _) | (with_reducible refine Below.drew ?_) | (with_reducible refine Below.alloc ?_ (by first | exact Nat.le_refl _ | (simp; done) | (simp; omega) | omega) _) | (with_reducible refine Below.setCell ?_ (by first | exact Nat.le_refl _ | (simp; done) | (simp; omega) | omega) _))))⟩
  case round =>
    obtain ⟨j, v, hj, rfl, HX0, HX1, HO, HB⟩ := hrel
    obtain ⟨wA, rfl⟩ : ∃ x : World, x = wr := ⟨_, rfl⟩
    have hl1 := HX1.out.lt
    by_cases hlt : j < n
    case pos =>
      have hltz : (j : Int) < (n : Int) := by omega
      obtain ⟨As, cs, rfl, hcs, hIs⟩ := HO.out.form
      clear hIs
      obtain ⟨m, hm⟩ : ∃ z : Int, -(j : Int) * (k : Int) = z := ⟨_, rfl⟩
      have hjk : j * k ≤ 56 := Nat.le_trans (Nat.mul_le_mul (show j ≤ 8 by omega) hk) (by decide)
      have hjk2 : (j : Int) * (k : Int) = ((j * k : Nat) : Int) := (Int.natCast_mul j k).symm
      have hmb : -56 ≤ m ∧ m ≤ 0 := by rw [← hm, Int.neg_mul, hjk2]; omega
      have q1 : IntKind.i64.wrap (-(j : Int)) = -(j : Int) := IntWalk.i64_in _ (by omega)
      have q2 : IntKind.i64.wrap (-(j : Int) * (k : Int)) = m := by rw [hm]; exact IntWalk.i64_in _ (by omega)
      obtain ⟨r, hr⟩ : ∃ z : Int, m % 8 = z := ⟨_, rfl⟩
      have HSJ := hide (show S j = r by rw [HS.out j, hm, hr])
      have HM := hide (fun W => mod8 m W)
      simp only [hr] at HM
      clear hm hr hjk hjk2 hmb
      go_upto_region 5 with fail
      refine wp_region_held_drew (S := fun w' => w'.cell? ⟨w.heap.size, 0, none⟩ = some (.slice none 0 0)) (by kernel_rfl) HX0.out.c1.1 (fun hHeld => ?_)
      obtain ⟨w_1, hw_1⟩ : ∃ q : World, q = wA.drew := ⟨_, rfl⟩
      rw [← hw_1] at hHeld ⊢
      have hc_1 : Below wA.heap.size wA w_1 := by rw [hw_1]; exact (Below.refl _ _).drew
      clear hw_1
      replace HX0 := hide (HX0.out.below hc_1)
      replace HX1 := hide (HX1.out.below hc_1)
      replace HO := hide (HO.out.below hc_1)
      replace HB := hide (HB.out.trans (hc_1.mono HB.out.size))
      clear hc_1
      refine wpAnyH_take (i := 0) (oi := ⟨some 12, _, _, _, _, _⟩) (v := ?_) rfl (by kernel_rfl) (by kernel_rfl) (by kernel_rfl) (fun _ _ _ h => h) (Or.inl ⟨by rfl, ?_⟩) (by assumption) ?_
      rotate_left
      · (intro w' hSw; (try dsimp only at hSw); go_simp <;> (with_reducible rfl))
      try simp only [Act.put, List.setIfInBounds_toArray, List.set_cons_zero, List.set_cons_succ]
      refine wpAnyH_take (i := 2) (oi := ⟨some 14, _, _, _, _, _⟩) (v := ?_) rfl (by kernel_rfl) (by kernel_rfl) (by kernel_rfl) (fun _ _ _ h => h) (Or.inl ⟨by rfl, ?_⟩) (by assumption) ?_
      rotate_left
      · (intro w' hSw; (try dsimp only at hSw); go_simp <;> (with_reducible rfl))
      try simp only [Act.put, List.setIfInBounds_toArray, List.set_cons_zero, List.set_cons_succ]
      refine wpAnyH_take (i := 3) (oi := ⟨some 15, _, _, _, _, _⟩) (v := ?_) rfl (by kernel_rfl) (by kernel_rfl) (by kernel_rfl) (fun _ _ _ h => h) (Or.inl ⟨by rfl, ?_⟩) (by assumption) ?_
      rotate_left
      · (intro w' hSw; (try dsimp only at hSw); go_simp <;> (with_reducible rfl))
      try simp only [Act.put, List.setIfInBounds_toArray, List.set_cons_zero, List.set_cons_succ]
      refine wpAnyH_take (i := 4) (oi := ⟨some 16, _, _, _, _, _⟩) (v := ?_) rfl (by kernel_rfl) (by kernel_rfl) (by kernel_rfl) (fun _ _ _ h => h) (Or.inl ⟨by rfl, ?_⟩) (by assumption) ?_
      rotate_left
      · (intro w' hSw; (try dsimp only at hSw); go_simp <;> (with_reducible rfl))
      try simp only [Act.put, List.setIfInBounds_toArray, List.set_cons_zero, List.set_cons_succ]
      refine wpAnyH_take (i := 5) (oi := ⟨some 17, _, _, _, _, _⟩) (v := ?_) rfl (by kernel_rfl) (by kernel_rfl) (by kernel_rfl) (fun _ _ _ h => h) (Or.inl ⟨by rfl, ?_⟩) (by assumption) ?_
      rotate_left
      · (intro w' hSw; (try dsimp only at hSw); go_simp <;> (with_reducible rfl))
      try simp only [Act.put, List.setIfInBounds_toArray, List.set_cons_zero, List.set_cons_succ]
      refine wpAnyH_ready (rs := [1, 6]) (by kernel_rfl) (by simp) ?_
      refine AllReadyH.cons (o := ⟨some 13, _, _, _, _, _⟩) rfl (fun K' hK => ?_) (AllReadyH.cons (o := ⟨some 18, _, _, _, _, _⟩) rfl (fun K' hK => ?_) AllReadyH.nil)
      · skip
        obtain ⟨y0, f0, hly⟩ := HX1.out.c1
        go_simp
        clear y0 f0 hly
        refine hK.out _ _ HX0.out.c1.1 (fun hHeld => ?_)
        clear hK K'
        try simp only [Act.put, List.setIfInBounds_toArray, List.set_cons_zero, List.set_cons_succ]
        refine wpAnyH_ready (rs := [6]) (by kernel_rfl) (by simp) ?_
        refine AllReadyH.cons (o := ⟨some 18, _, _, _, _, _⟩) rfl (fun K' hK => ?_) AllReadyH.nil
        go_simp
        go_at_call 53
        refine (HM.out _).mono ?_
        rintro e_ v_ ⟨rfl, rfl⟩
        go_wp2_with fail
        refine hK.out _ _ HX0.out.c1.1 (fun hHeld => ?_)
        clear hK K'
        try simp only [Act.put, List.setIfInBounds_toArray, List.set_cons_zero, List.set_cons_succ]
        refine wpAnyH_ready (rs := [7]) (by kernel_rfl) (by simp) ?_
        refine AllReadyH.cons (o := ⟨some 19, _, _, _, _, _⟩) rfl (fun K' hK => ?_) AllReadyH.nil
        go_simp
        obtain ⟨g7, hg7⟩ : ∃ q, w_1.heap.size = q := ⟨_, rfl⟩
        obtain ⟨w_2, hw_2⟩ : ∃ q : World, q = w_1.alloc (.cells #[.int .i64 r] 3) := ⟨_, rfl⟩
        try rw [← hw_2]
        have HN := hide (show Box w_2 g7 3 #[.int .i64 r] by rw [hw_2]; exact Box.made hg7.symm)
        have hc_2 : Below w_1.heap.size w_1 w_2 := by rw [hw_2]; exact (Below.refl _ _).alloc (Nat.le_refl _) _
        clear hw_2
        replace HX0 := hide (HX0.out.below hc_2)
        replace HX1 := hide (HX1.out.below hc_2)
        replace HO := hide (HO.out.below hc_2)
        replace HB := hide (HB.out.trans (hc_2.mono HB.out.size))
        clear hc_2
        try simp only [hg7]
        clear hg7
        refine hK.out _ _ HX0.out.c1.1 (fun hHeld => ?_)
        clear hK K'
        try simp only [Act.put, List.setIfInBounds_toArray, List.set_cons_zero, List.set_cons_succ]
        refine wpAnyH_ready (rs := [8]) (by kernel_rfl) (by simp) ?_
        refine AllReadyH.cons (o := ⟨some 20, _, _, _, _, _⟩) rfl (fun K' hK => ?_) AllReadyH.nil
        have hl1 := HX1.out.lt
        refine wp_append_ints _ (.tmp 13) (.tmp 19) rfl (w.heap.size + 1 + 1) 0 (.slice As j cs) j S rfl HO.out (some ⟨g7, 0, none⟩) 1 1 (fun _ => r) rfl (fun i hi => ⟨g7, 0, rfl, Nat.zero_le _, HN.out.lt, by obtain rfl : i = 0 := (by omega); exact HN.out.at_ 0⟩) (by omega) (by omega) ?_
        intro v2 w_3 ho_3 hb_3
        clear hl1
        obtain ⟨A2, c2, rfl, hc2, hi2⟩ := ho_3.form
        clear hi2
        replace HX0 := hide (HX0.out.kept hb_3 (by omega))
        replace HX1 := hide (HX1.out.kept hb_3 (by omega))
        replace HB := hide (HB.out.trans (hb_3.mono (by omega)))
        have HO2 := hide ho_3
        clear hb_3 ho_3 HN HO
        refine hK.out _ _ HX0.out.c1.1 (fun hHeld => ?_)
        clear hK K'
        try simp only [Act.put, List.setIfInBounds_toArray, List.set_cons_zero, List.set_cons_succ]
        refine wpAnyH_take (i := 9) (oi := ⟨some 21, _, _, _, _, _⟩) (v := ?_) rfl (by kernel_rfl) (by kernel_rfl) (by kernel_rfl) (fun _ _ _ h => h) (Or.inl ⟨by rfl, ?_⟩) (by assumption) ?_
        rotate_left
        · (intro w' hSw; (try dsimp only at hSw); go_simp <;> (with_reducible rfl))
        try simp only [Act.put, List.setIfInBounds_toArray, List.set_cons_zero, List.set_cons_succ]
        refine wpAnyH_ready (rs := [10]) (by kernel_rfl) (by simp) ?_
        refine AllReadyH.cons (o := ⟨none, _, _, _, _, _⟩) rfl (fun K' hK => ?_) AllReadyH.nil
        obtain ⟨y0, f0, hly⟩ := HX1.out.c1
        go_simp
        clear y0 f0 hly
        have ho3 : OwnInts (w_3.setCell ⟨w.heap.size + 1, 0, none⟩ (.slice A2 (j + 1) c2)) (w.heap.size + 1 + 1) (.slice A2 (j + 1) c2) (j + 1) _ := HO2.out.setOther (p := ⟨w.heap.size + 1, 0, none⟩) (by show w.heap.size + 1 < w.heap.size + 1 + 1; omega) _
        have HO3 := hide ho3
        replace HX0 := hide (HX0.out.other (p := ⟨w.heap.size + 1, 0, none⟩) (by show w.heap.size ≠ w.heap.size + 1; omega) (.slice A2 (j + 1) c2))
        replace HX1 := hide (HX1.out.put1 (.slice A2 (j + 1) c2))
        replace HB := hide (HB.out.setCell (p := ⟨w.heap.size + 1, 0, none⟩) (Nat.le_succ _) (.slice A2 (j + 1) c2))
        clear ho3 HO2
        obtain ⟨w_4, hw_4⟩ : ∃ q : World, w_3.setCell ⟨w.heap.size + 1, 0, none⟩ (.slice A2 (j + 1) c2) = q := ⟨_, rfl⟩
        rw [hw_4] at HX0 HX1 HO3 HB ⊢
        clear hw_4
        refine hK.out _ _ HX0.out.c1.1 (fun hHeld => ?_)
        clear hK K'
        try simp only [Act.put, List.setIfInBounds_toArray, List.set_cons_zero, List.set_cons_succ]
        refine wpAnyH_done (by kernel_rfl) ?_ _
        go_wp2_with fail
        go_roundw
        case rel => exact ⟨j + 1, _, by omega, by go_num, HX0, HX1, hide (HO3.out.congr fun i hi => by
            unfold catF
            by_cases e : i < j
            · rw [if_pos e]
            · rw [if_neg e, show i = j by omega]; exact HSJ.out.symm), HB⟩
        case measure => simp [Go.RowKit.intOf]; omega
      · skip
        go_simp
        go_at_call 53
        refine (HM.out _).mono ?_
        rintro e_ v_ ⟨rfl, rfl⟩
        go_wp2_with fail
        refine hK.out _ _ HX0.out.c1.1 (fun hHeld => ?_)
        clear hK K'
        try simp only [Act.put, List.setIfInBounds_toArray, List.set_cons_zero, List.set_cons_succ]
        refine wpAnyH_ready (rs := [1, 7]) (by kernel_rfl) (by simp) ?_
        refine AllReadyH.cons (o := ⟨some 13, _, _, _, _, _⟩) rfl (fun K' hK => ?_) (AllReadyH.cons (o := ⟨some 19, _, _, _, _, _⟩) rfl (fun K' hK => ?_) AllReadyH.nil)
        · skip
          obtain ⟨y0, f0, hly⟩ := HX1.out.c1
          go_simp
          clear y0 f0 hly
          refine hK.out _ _ HX0.out.c1.1 (fun hHeld => ?_)
          clear hK K'
          try simp only [Act.put, List.setIfInBounds_toArray, List.set_cons_zero, List.set_cons_succ]
          refine wpAnyH_ready (rs := [7]) (by kernel_rfl) (by simp) ?_
          refine AllReadyH.cons (o := ⟨some 19, _, _, _, _, _⟩) rfl (fun K' hK => ?_) AllReadyH.nil
          go_simp
          obtain ⟨g7, hg7⟩ : ∃ q, w_1.heap.size = q := ⟨_, rfl⟩
          obtain ⟨w_5, hw_5⟩ : ∃ q : World, q = w_1.alloc (.cells #[.int .i64 r] 3) := ⟨_, rfl⟩
          try rw [← hw_5]
          have HN := hide (show Box w_5 g7 3 #[.int .i64 r] by rw [hw_5]; exact Box.made hg7.symm)
          have hc_5 : Below w_1.heap.size w_1 w_5 := by rw [hw_5]; exact (Below.refl _ _).alloc (Nat.le_refl _) _
          clear hw_5
          replace HX0 := hide (HX0.out.below hc_5)
          replace HX1 := hide (HX1.out.below hc_5)
          replace HO := hide (HO.out.below hc_5)
          replace HB := hide (HB.out.trans (hc_5.mono HB.out.size))
          clear hc_5
          try simp only [hg7]
          clear hg7
          refine hK.out _ _ HX0.out.c1.1 (fun hHeld => ?_)
          clear hK K'
          try simp only [Act.put, List.setIfInBounds_toArray, List.set_cons_zero, List.set_cons_succ]
          refine wpAnyH_ready (rs := [8]) (by kernel_rfl) (by simp) ?_
          refine AllReadyH.cons (o := ⟨some 20, _, _, _, _, _⟩) rfl (fun K' hK => ?_) AllReadyH.nil
          have hl1 := HX1.out.lt
          refine wp_append_ints _ (.tmp 13) (.tmp 19) rfl (w.heap.size + 1 + 1) 0 (.slice As j cs) j S rfl HO.out (some ⟨g7, 0, none⟩) 1 1 (fun _ => r) rfl (fun i hi => ⟨g7, 0, rfl, Nat.zero_le _, HN.out.lt, by obtain rfl : i = 0 := (by omega); exact HN.out.at_ 0⟩) (by omega) (by omega) ?_
          intro v2 w_6 ho_6 hb_6
          clear hl1
          obtain ⟨A2, c2, rfl, hc2, hi2⟩ := ho_6.form
          clear hi2
          replace HX0 := hide (HX0.out.kept hb_6 (by omega))
          replace HX1 := hide (HX1.out.kept hb_6 (by omega))
          replace HB := hide (HB.out.trans (hb_6.mono (by omega)))
          have HO2 := hide ho_6
          clear hb_6 ho_6 HN HO
          refine hK.out _ _ HX0.out.c1.1 (fun hHeld => ?_)
          clear hK K'
          try simp only [Act.put, List.setIfInBounds_toArray, List.set_cons_zero, List.set_cons_succ]
          refine wpAnyH_take (i := 9) (oi := ⟨some 21, _, _, _, _, _⟩) (v := ?_) rfl (by kernel_rfl) (by kernel_rfl) (by kernel_rfl) (fun _ _ _ h => h) (Or.inl ⟨by rfl, ?_⟩) (by assumption) ?_
          rotate_left
          · (intro w' hSw; (try dsimp only at hSw); go_simp <;> (with_reducible rfl))
          try simp only [Act.put, List.setIfInBounds_toArray, List.set_cons_zero, List.set_cons_succ]
          refine wpAnyH_ready (rs := [10]) (by kernel_rfl) (by simp) ?_
          refine AllReadyH.cons (o := ⟨none, _, _, _, _, _⟩) rfl (fun K' hK => ?_) AllReadyH.nil
          obtain ⟨y0, f0, hly⟩ := HX1.out.c1
          go_simp
          clear y0 f0 hly
          have ho3 : OwnInts (w_6.setCell ⟨w.heap.size + 1, 0, none⟩ (.slice A2 (j + 1) c2)) (w.heap.size + 1 + 1) (.slice A2 (j + 1) c2) (j + 1) _ := HO2.out.setOther (p := ⟨w.heap.size + 1, 0, none⟩) (by show w.heap.size + 1 < w.heap.size + 1 + 1; omega) _
          have HO3 := hide ho3
          replace HX0 := hide (HX0.out.other (p := ⟨w.heap.size + 1, 0, none⟩) (by show w.heap.size ≠ w.heap.size + 1; omega) (.slice A2 (j + 1) c2))
          replace HX1 := hide (HX1.out.put1 (.slice A2 (j + 1) c2))
          replace HB := hide (HB.out.setCell (p := ⟨w.heap.size + 1, 0, none⟩) (Nat.le_succ _) (.slice A2 (j + 1) c2))
          clear ho3 HO2
          obtain ⟨w_7, hw_7⟩ : ∃ q : World, w_6.setCell ⟨w.heap.size + 1, 0, none⟩ (.slice A2 (j + 1) c2) = q := ⟨_, rfl⟩
          rw [hw_7] at HX0 HX1 HO3 HB ⊢
          clear hw_7
          refine hK.out _ _ HX0.out.c1.1 (fun hHeld => ?_)
          clear hK K'
          try simp only [Act.put, List.setIfInBounds_toArray, List.set_cons_zero, List.set_cons_succ]
          refine wpAnyH_done (by kernel_rfl) ?_ _
          go_wp2_with fail
          go_roundw
          case rel => exact ⟨j + 1, _, by omega, by go_num, HX0, HX1, hide (HO3.out.congr fun i hi => by
              unfold catF
              by_cases e : i < j
              · rw [if_pos e]
              · rw [if_neg e, show i = j by omega]; exact HSJ.out.symm), HB⟩
          case measure => simp [Go.RowKit.intOf]; omega
        · skip
          go_simp
          obtain ⟨g7, hg7⟩ : ∃ q, w_1.heap.size = q := ⟨_, rfl⟩
          obtain ⟨w_8, hw_8⟩ : ∃ q : World, q = w_1.alloc (.cells #[.int .i64 r] 3) := ⟨_, rfl⟩
          try rw [← hw_8]
          have HN := hide (show Box w_8 g7 3 #[.int .i64 r] by rw [hw_8]; exact Box.made hg7.symm)
          have hc_8 : Below w_1.heap.size w_1 w_8 := by rw [hw_8]; exact (Below.refl _ _).alloc (Nat.le_refl _) _
          clear hw_8
          replace HX0 := hide (HX0.out.below hc_8)
          replace HX1 := hide (HX1.out.below hc_8)
          replace HO := hide (HO.out.below hc_8)
          replace HB := hide (HB.out.trans (hc_8.mono HB.out.size))
          clear hc_8
          try simp only [hg7]
          clear hg7
          refine hK.out _ _ HX0.out.c1.1 (fun hHeld => ?_)
          clear hK K'
          try simp only [Act.put, List.setIfInBounds_toArray, List.set_cons_zero, List.set_cons_succ]
          refine wpAnyH_ready (rs := [1]) (by kernel_rfl) (by simp) ?_
          refine AllReadyH.cons (o := ⟨some 13, _, _, _, _, _⟩) rfl (fun K' hK => ?_) AllReadyH.nil
          obtain ⟨y0, f0, hly⟩ := HX1.out.c1
          go_simp
          clear y0 f0 hly
          refine hK.out _ _ HX0.out.c1.1 (fun hHeld => ?_)
          clear hK K'
          try simp only [Act.put, List.setIfInBounds_toArray, List.set_cons_zero, List.set_cons_succ]
          refine wpAnyH_ready (rs := [8]) (by kernel_rfl) (by simp) ?_
          refine AllReadyH.cons (o := ⟨some 20, _, _, _, _, _⟩) rfl (fun K' hK => ?_) AllReadyH.nil
          have hl1 := HX1.out.lt
          refine wp_append_ints _ (.tmp 13) (.tmp 19) rfl (w.heap.size + 1 + 1) 0 (.slice As j cs) j S rfl HO.out (some ⟨g7, 0, none⟩) 1 1 (fun _ => r) rfl (fun i hi => ⟨g7, 0, rfl, Nat.zero_le _, HN.out.lt, by obtain rfl : i = 0 := (by omega); exact HN.out.at_ 0⟩) (by omega) (by omega) ?_
          intro v2 w_9 ho_9 hb_9
          clear hl1
          obtain ⟨A2, c2, rfl, hc2, hi2⟩ := ho_9.form
          clear hi2
          replace HX0 := hide (HX0.out.kept hb_9 (by omega))
          replace HX1 := hide (HX1.out.kept hb_9 (by omega))
          replace HB := hide (HB.out.trans (hb_9.mono (by omega)))
          have HO2 := hide ho_9
          clear hb_9 ho_9 HN HO
          refine hK.out _ _ HX0.out.c1.1 (fun hHeld => ?_)
          clear hK K'
          try simp only [Act.put, List.setIfInBounds_toArray, List.set_cons_zero, List.set_cons_succ]
          refine wpAnyH_take (i := 9) (oi := ⟨some 21, _, _, _, _, _⟩) (v := ?_) rfl (by kernel_rfl) (by kernel_rfl) (by kernel_rfl) (fun _ _ _ h => h) (Or.inl ⟨by rfl, ?_⟩) (by assumption) ?_
          rotate_left
          · (intro w' hSw; (try dsimp only at hSw); go_simp <;> (with_reducible rfl))
          try simp only [Act.put, List.setIfInBounds_toArray, List.set_cons_zero, List.set_cons_succ]
          refine wpAnyH_ready (rs := [10]) (by kernel_rfl) (by simp) ?_
          refine AllReadyH.cons (o := ⟨none, _, _, _, _, _⟩) rfl (fun K' hK => ?_) AllReadyH.nil
          obtain ⟨y0, f0, hly⟩ := HX1.out.c1
          go_simp
          clear y0 f0 hly
          have ho3 : OwnInts (w_9.setCell ⟨w.heap.size + 1, 0, none⟩ (.slice A2 (j + 1) c2)) (w.heap.size + 1 + 1) (.slice A2 (j + 1) c2) (j + 1) _ := HO2.out.setOther (p := ⟨w.heap.size + 1, 0, none⟩) (by show w.heap.size + 1 < w.heap.size + 1 + 1; omega) _
          have HO3 := hide ho3
          replace HX0 := hide (HX0.out.other (p := ⟨w.heap.size + 1, 0, none⟩) (by show w.heap.size ≠ w.heap.size + 1; omega) (.slice A2 (j + 1) c2))
          replace HX1 := hide (HX1.out.put1 (.slice A2 (j + 1) c2))
          replace HB := hide (HB.out.setCell (p := ⟨w.heap.size + 1, 0, none⟩) (Nat.le_succ _) (.slice A2 (j + 1) c2))
          clear ho3 HO2
          obtain ⟨w_10, hw_10⟩ : ∃ q : World, w_9.setCell ⟨w.heap.size + 1, 0, none⟩ (.slice A2 (j + 1) c2) = q := ⟨_, rfl⟩
          rw [hw_10] at HX0 HX1 HO3 HB ⊢
          clear hw_10
          refine hK.out _ _ HX0.out.c1.1 (fun hHeld => ?_)
          clear hK K'
          try simp only [Act.put, List.setIfInBounds_toArray, List.set_cons_zero, List.set_cons_succ]
          refine wpAnyH_done (by kernel_rfl) ?_ _
          go_wp2_with fail
          go_roundw
          case rel => exact ⟨j + 1, _, by omega, by go_num, HX0, HX1, hide (HO3.out.congr fun i hi => by
              unfold catF
              by_cases e : i < j
              · rw [if_pos e]
              · rw [if_neg e, show i = j by omega]; exact HSJ.out.symm), HB⟩
          case measure => simp [Go.RowKit.intOf]; omega
    obtain rfl : j = n := by omega
    obtain ⟨As, cs, rfl, hcs, hIs⟩ := HO.out.form
    obtain ⟨x0, -, hlx⟩ := HX1.out.c1
    obtain ⟨z0, f0, hlz⟩ := HX0.out.c1
    have HY := hide ((HX0.out.put1 (.slice As j cs)).at_ 0)
    have HO4 := hide (HO.out.setOther (p := ⟨w.heap.size, 0, none⟩) (by show w.heap.size < w.heap.size + 1 + 1; omega) (.slice As j cs))
    have HB4 := hide (HB.out.setCell (p := ⟨w.heap.size, 0, none⟩) (Nat.le_refl _) (.slice As j cs))
    go_wp2_with fail
    have y0 := HY.out
    simp only [List.getElem?_toArray] at y0
    refine bodyPost_ret (v := .agg #[.slice As j cs]) ?_ rfl ⟨As, cs, rfl, HO4.out, HB4.out⟩
    simp [results, Try.results20, go_sem, y0]
end Go.Proofs.Ytejhakkfgfahaaa
/- SquareOf and Compared of the code. -/
namespace Go.Proofs.Ytejhakkfgfahaaa
open Go.RowKit
def sqRP (x : Num) : Int := if x.err 1000000 = 0 then x.sqP else 0
def sqRQ (x : Num) : Int := if x.err 1000000 = 0 then x.sqQ else 0
/-- The error of two squares that are compared, and what Compared hands back. -/
def cmE (a b c d : Int) : Int := Num.err 10000000000000 ⟨a, b, c, d⟩
def cmR (a b c d : Int) : Int := if cmE a b c d = 0 then compI (a - c) (d - b) else 0
end Go.Proofs.Ytejhakkfgfahaaa
/- Numbers of any size (downtiltbase): mathematics of digits; trimmed, wideOf. -/
namespace Go.Proofs.Ytejhakkfgfahaaa
open Go.RowKit
def BB : Int := 1000000000
def valD (D : Nat → Int) : Nat → Int
  | 0 => 0
  | k + 1 => valD D k + D k * BB ^ k
def Dig (n : Nat) (D : Nat → Int) : Prop := ∀ j, j < n → 0 ≤ D j ∧ D j < BB
def Norm (n : Nat) (D : Nat → Int) : Prop := n = 0 ∨ D (n - 1) ≠ 0
def trimN (D : Nat → Int) : Nat → Nat
  | 0 => 0
  | k + 1 => if D k = 0 then trimN D k else k + 1
theorem pow_pos_BB (k : Nat) : 0 < BB ^ k := Int.pow_pos (by decide)
theorem valD_congr {D E : Nat → Int} : ∀ n, (∀ j, j < n → D j = E j) → valD D n = valD E n
  | 0, _ => rfl
  | k + 1, h => by
    show valD D k + D k * BB ^ k = valD E k + E k * BB ^ k
    rw [valD_congr k fun j hj => h j (by omega), h k (Nat.lt_succ_self k)]
theorem valD_range {D : Nat → Int} : ∀ n, Dig n D → 0 ≤ valD D n ∧ valD D n < BB ^ n
  | 0, _ => ⟨Int.le_refl _, (by decide : (0 : Int) < BB ^ 0)⟩
  | k + 1, h => by
    obtain ⟨h1, h2⟩ := valD_range k fun j hj => h j (by omega)
    obtain ⟨d0, d1⟩ := h k (Nat.lt_succ_self k)
    have hp := pow_pos_BB k
    show 0 ≤ valD D k + D k * BB ^ k ∧ valD D k + D k * BB ^ k < BB ^ (k + 1)
    rw [Int.pow_succ, Int.mul_comm (BB ^ k) BB]
    have a1 : 0 ≤ D k * BB ^ k := Int.mul_nonneg d0 (by omega)
    have a2 : (D k + 1) * BB ^ k ≤ BB * BB ^ k := Int.mul_le_mul_of_nonneg_right (by omega) (by omega)
    rw [Int.add_mul, Int.one_mul] at a2
    omega
theorem trimN_le (D : Nat → Int) : ∀ n, trimN D n ≤ n
  | 0 => Nat.le_refl _
  | k + 1 => by
    unfold trimN
    split
    · have := trimN_le D k; omega
    · exact Nat.le_refl _
theorem trimN_norm (D : Nat → Int) : ∀ n, Norm (trimN D n) D
  | 0 => .inl rfl
  | k + 1 => by
    unfold trimN
    split
    · exact trimN_norm D k
    · rename_i h; exact .inr (by simpa using h)
theorem trimN_val (D : Nat → Int) : ∀ n, valD D (trimN D n) = valD D n
  | 0 => rfl
  | k + 1 => by
    unfold trimN
    split
    · rename_i h
      rw [trimN_val D k]
      show valD D k = valD D k + D k * BB ^ k
      rw [h, Int.zero_mul, Int.add_zero]
    · rfl
theorem norm_ge {D : Nat → Int} {n : Nat} (hd : Dig (n + 1) D) (hn : Norm (n + 1) D) : BB ^ n ≤ valD D (n + 1) := by
  rcases hn with h | h
  · exact absurd h (Nat.succ_ne_zero n)
  · rw [Nat.add_sub_cancel] at h
    have h1 := (valD_range n fun j hj => hd j (by omega)).1
    obtain ⟨d0, -⟩ := hd n (Nat.lt_succ_self n)
    have hp := pow_pos_BB n
    show BB ^ n ≤ valD D n + D n * BB ^ n
    have a2 : 1 * BB ^ n ≤ D n * BB ^ n := Int.mul_le_mul_of_nonneg_right (by omega) (by omega)
    omega
theorem norm_pos {D : Nat → Int} {n : Nat} (hd : Dig n D) (hn : Norm n D) (h : 0 < n) : 0 < valD D n := by
  obtain ⟨k, rfl⟩ : ∃ k, n = k + 1 := ⟨n - 1, by omega⟩
  have := norm_ge hd hn
  have := pow_pos_BB k
  omega
theorem pow_mono_BB {a b : Nat} (h : a ≤ b) : BB ^ a ≤ BB ^ b := by
  obtain ⟨d, rfl⟩ : ∃ d, b = a + d := ⟨b - a, by omega⟩
  induction d with
  | zero => exact Int.le_refl _
  | succ d ih =>
    have := ih (by omega)
    rw [← Nat.add_assoc, Int.pow_succ]
    have hp := pow_pos_BB (a + d)
    have : BB ^ (a + d) * 1 ≤ BB ^ (a + d) * BB := Int.mul_le_mul_of_nonneg_left (by decide) (by omega)
    omega
theorem valD_fewer {D E : Nat → Int} {n m : Nat} (h : n < m) (hd : Dig n D) (he : Dig m E) (hn : Norm m E) : valD D n < valD E m := by
  obtain ⟨k, rfl⟩ : ∃ k, m = k + 1 := ⟨m - 1, by omega⟩
  have h1 := (valD_range n hd).2
  have h2 := norm_ge he hn
  have h3 := pow_mono_BB (show n ≤ k by omega)
  omega
theorem valD_less {D E : Nat → Int} {i : Nat} : ∀ {n : Nat}, Dig n D → Dig n E → i < n → D i < E i → (∀ j, i < j → j < n → D j = E j) → valD D n < valD E n
  | 0, _, _, h, _, _ => absurd h (Nat.not_lt_zero i)
  | k + 1, hd, he, hi, hl, hq => by
    show valD D k + D k * BB ^ k < valD E k + E k * BB ^ k
    have hp := pow_pos_BB k
    by_cases e : i = k
    · subst e
      have h1 := (valD_range i fun j hj => hd j (by omega)).2
      have h2 := (valD_range i fun j hj => he j (by omega)).1
      have a2 : (D i + 1) * BB ^ i ≤ E i * BB ^ i := Int.mul_le_mul_of_nonneg_right (by omega) (by omega)
      rw [Int.add_mul, Int.one_mul] at a2
      omega
    · have h1 := valD_less (D := D) (E := E) (i := i) (n := k) (fun j hj => hd j (by omega)) (fun j hj => he j (by omega)) (by omega) hl fun j h1 h2 => hq j h1 (by omega)
      rw [hq k (by omega) (Nat.lt_succ_self k)]
      omega
set_option maxHeartbeats 1000000 in
theorem trimmed_any (A : Option Addr) (n c : Nat) (D : Nat → Int) (w : World) (hn : n ≤ 1000) (hc : n ≤ c) (hI : IntsAt w 0 A n D) :
    Calls Try.prog 86 #[.slice A n c] w fun e w' => e = .returned (.slice A (trimN D n) c) ∧ w = w' := by
  have HI := hide hI
  clear hI
  go_enter Try.func86, Try.ntmps86
  go_wp2_with fail
  go_loopw [3] (fun x wr => ∃ k : Nat, k ≤ n ∧ x = .int .i64 (k : Int) ∧ Hid (trimN D k = trimN D n) ∧ w = wr) (fun x _ => (Go.RowKit.intOf x).toNat)
  case atStart => exact ⟨n, Nat.le_refl _, rfl, hide rfl, rfl⟩
  case round =>
    obtain ⟨k, hk, rfl, HT, rfl⟩ := hrel
    have hkc : (k : Int) ≤ (c : Int) := by omega
    rcases k with _ | j
    · go_wp2_with fail
      go_ret
      exact ⟨by rw [show trimN D n = 0 from HT.out.symm]; rfl, rfl⟩
    · have h0 : ((j + 1 : Nat) : Int) > 0 := by omega
      have q1 : IntKind.i64.wrap (((j + 1 : Nat) : Int) - 1) = (j : Int) := by have h := IntWalk.i64_in (((j + 1 : Nat) : Int) - 1) (by omega); rw [h]; first | done | omega
      have hjn : (j : Int) < (n : Int) := by omega
      obtain ⟨b, o, rfl, -, -, x0⟩ := HI.out j (by omega)
      by_cases hz : D j = 0
      · have HT2 := hide (show trimN D j = trimN D n from by rw [← HT.out]; show _ = if D j = 0 then trimN D j else j + 1; rw [if_pos hz])
        rw [hz] at x0
        clear hz HT
        go_wp2_with fail
        go_roundw
        case rel => exact ⟨j, by omega, by first | rfl | go_num, HT2, by first | rfl | trivial⟩
        case measure => (simp [Go.RowKit.intOf]; first | done | omega)
      · have HT2 := hide (show trimN D n = j + 1 from by rw [← HT.out]; show (if D j = 0 then trimN D j else j + 1) = _; rw [if_neg hz])
        have t1 : (D j == 0) = false := by simpa using hz
        generalize D j = x at *
        clear hz HT
        go_wp2_with fail
        go_ret
        exact ⟨by rw [HT2.out]; rfl, rfl⟩
end Go.Proofs.Ytejhakkfgfahaaa
/- Numbers of any size: wideOf, cmpDigits, digit, WideNeg. -/
namespace Go.Proofs.Ytejhakkfgfahaaa
open Go.RowKit
def sgnT (s : Int) (t : Nat) : Int := if t = 0 then 0 else s
set_option maxHeartbeats 1000000 in
theorem wideOf_any (s : Int) (A : Option Addr) (n c : Nat) (D : Nat → Int) (w : World) (hn : n ≤ 1000) (hc : n ≤ c) (hI : IntsAt w 0 A n D) :
    Calls Try.prog 79 #[.int .i64 s, .slice A n c] w fun e w' => e = .returned (.agg #[.int .i64 (sgnT s (trimN D n)), .slice A (trimN D n) c]) ∧ Below w.heap.size w w' := by
  have HT := hide (fun W (h : IntsAt W 0 A n D) => trimmed_any A n c D W hn hc h)
  have HI := hide hI
  have HS := hide (show sgnT s (trimN D n) = if trimN D n = 0 then 0 else s from rfl)
  have hl := trimN_le D n
  generalize trimN D n = t at *
  clear hI
  have ht9 : t ≤ 1000 := by omega
  by_cases h0 : t = 0
  · have HS2 := hide (HS.out.trans (if_pos h0))
    subst h0
    clear HS
    go_enter Try.func79, Try.ntmps79
    go_upto_region 1 with fail
    obtain ⟨W, hW⟩ : ∃ q : World, q = w.alloc (.cells #[.int .i64 0, .slice none 0 0] 93) := ⟨_, rfl⟩
    rw [← hW]
    have b0 : Box W w.heap.size 93 #[.int .i64 0, .slice none 0 0] := by rw [hW]; exact Box.made rfl
    have hB : Below w.heap.size w W := by rw [hW]; (repeat (first | (with_reducible exact Below.refl _ _) | (with_reducible refine Go.below_drewN ?_ _) | (with_reducible refine Below.drew ?_) | (with_reducible refine Below.alloc ?_ (by first | exact Nat.le_refl _ | (simp; done) | (simp; omega) | omega) _) | (with_reducible refine Below.setCell ?_ (by first | exact Nat.le_refl _ | (simp; done) | (simp; omega) | omega) _)))
    clear hW
    have h0 := b0.at_ 0
    have h1 := b0.at_ 1
    simp only [List.getElem?_toArray] at h0 h1
    have f0 := b0.free 0
    have f1 := b0.free 1
    have hlt := b0.lt
    have HC := hide ((b0.set_ 0 (.int .i64 0)).set_ 1 (.slice A 0 c))
    have HL := hide ((hB.setCell (p := ⟨w.heap.size, 0, none⟩) (Nat.le_refl _) (.int .i64 0)).setCell (p := ⟨w.heap.size, 1, none⟩) (Nat.le_refl _) (.slice A 0 c))
    have HIW := hide (HI.out.below hB)
    clear b0 hB
    go_wp2_with (go_at_call 86; refine (HT.out _ HIW.out).mono ?_; rintro e w' ⟨rfl, rfl⟩)
    clear h0 h1
    have h0 := HC.out.at_ 0
    have h1 := HC.out.at_ 1
    simp only [Array.getElem?_setIfInBounds, List.setIfInBounds_toArray, List.getElem?_toArray] at h0 h1
    refine bodyPost_ret (v := .agg #[.int .i64 0, .slice A 0 c]) ?_ rfl ⟨by rw [HS2.out], HL.out⟩
    simp [results, Try.results79, go_sem, h0, h1]
  · have HS2 := hide (HS.out.trans (if_neg h0))
    have ht : ((t : Int) == 0) = false := by simp; omega
    clear HS h0
    go_enter Try.func79, Try.ntmps79
    go_upto_region 1 with fail
    obtain ⟨W, hW⟩ : ∃ q : World, q = w.alloc (.cells #[.int .i64 0, .slice none 0 0] 93) := ⟨_, rfl⟩
    rw [← hW]
    have b0 : Box W w.heap.size 93 #[.int .i64 0, .slice none 0 0] := by rw [hW]; exact Box.made rfl
    have hB : Below w.heap.size w W := by rw [hW]; (repeat (first | (with_reducible exact Below.refl _ _) | (with_reducible refine Go.below_drewN ?_ _) | (with_reducible refine Below.drew ?_) | (with_reducible refine Below.alloc ?_ (by first | exact Nat.le_refl _ | (simp; done) | (simp; omega) | omega) _) | (with_reducible refine Below.setCell ?_ (by first | exact Nat.le_refl _ | (simp; done) | (simp; omega) | omega) _)))
    clear hW
    have h0 := b0.at_ 0
    have h1 := b0.at_ 1
    simp only [List.getElem?_toArray] at h0 h1
    have f0 := b0.free 0
    have f1 := b0.free 1
    have hlt := b0.lt
    have HC := hide ((b0.set_ 0 (.int .i64 s)).set_ 1 (.slice A t c))
    have HL := hide ((hB.setCell (p := ⟨w.heap.size, 0, none⟩) (Nat.le_refl _) (.int .i64 s)).setCell (p := ⟨w.heap.size, 1, none⟩) (Nat.le_refl _) (.slice A t c))
    have HIW := hide (HI.out.below hB)
    clear b0 hB
    go_wp2_with (go_at_call 86; refine (HT.out _ HIW.out).mono ?_; rintro e w' ⟨rfl, rfl⟩)
    clear h0 h1
    have h0 := HC.out.at_ 0
    have h1 := HC.out.at_ 1
    simp only [Array.getElem?_setIfInBounds, List.setIfInBounds_toArray, List.getElem?_toArray] at h0 h1
    refine bodyPost_ret (v := .agg #[.int .i64 s, .slice A t c]) ?_ rfl ⟨by rw [HS2.out], HL.out⟩
    simp [results, Try.results79, go_sem, h0, h1]
set_option maxHeartbeats 1000000 in
theorem wideNeg_any (s : Int) (A : Option Addr) (n c : Nat) (w : World) (hs : -1 ≤ s ∧ s ≤ 1) :
    Calls Try.prog 88 #[.agg #[.int .i64 s, .slice A n c]] w fun e w' => e = .returned (.agg #[.int .i64 (-s), .slice A n c]) ∧ Below w.heap.size w w' := by
  have q1 : IntKind.i64.wrap (-s) = -s := IntWalk.i64_in _ (by omega)
  clear hs
  go_enter Try.func88, Try.ntmps88
  go_wp2_with fail
  have hb : Box ((w.alloc (.cells #[.int .i64 s, .slice A n c] 93)).alloc (.cells #[.int .i64 (-s), .slice A n c] 93)) (w.heap.size + 1) 93 #[.int .i64 (-s), .slice A n c] := Box.made (by simp)
  have h0 := hb.at_ 0
  have h1 := hb.at_ 1
  simp only [List.getElem?_toArray] at h0 h1
  refine bodyPost_ret (v := .agg #[.int .i64 (-s), .slice A n c]) ?_ rfl ⟨rfl, by (repeat (first | (with_reducible exact Below.refl _ _) | (with_reducible refine Go.below_drewN ?_ _) | (with_reducible refine Below.drew ?_) | (with_reducible refine Below.alloc ?_ (by first | exact Nat.le_refl _ | (simp; done) | (simp; omega) | omega) _) | (with_reducible refine Below.setCell ?_ (by first | exact Nat.le_refl _ | (simp; done) | (simp; omega) | omega) _)))⟩
  simp [results, Try.results88, go_sem, h0, h1]
def digN (n : Nat) (D : Nat → Int) (i : Nat) : Int := if i < n then D i else 0
set_option maxHeartbeats 1000000 in
theorem digit_any (A : Option Addr) (n c : Nat) (D : Nat → Int) (i : Nat) (w : World) (hI : IntsAt w 0 A n D) :
    Calls Try.prog 92 #[.slice A n c, .int .i64 (i : Int)] w fun e w' => e = .returned (.int .i64 (digN n D i)) ∧ w = w' := by
  by_cases h : i < n
  · have hz : (i : Int) < (n : Int) := by omega
    have HV := hide (show digN n D i = D i from if_pos h)
    obtain ⟨b, o, rfl, -, -, x0⟩ := hI i h
    generalize digN n D i = v at *
    generalize D i = x at *
    clear hI h
    go_enter Try.func92, Try.ntmps92
    go_wp2_with fail
    go_ret
    exact ⟨by rw [HV.out]; rfl, rfl⟩
  · have hz : ¬ (i : Int) < (n : Int) := by omega
    have HV := hide (show digN n D i = 0 from if_neg h)
    generalize digN n D i = v at *
    clear hI h
    go_enter Try.func92, Try.ntmps92
    go_wp2_with fail
    go_ret
    exact ⟨by rw [HV.out]; rfl, rfl⟩
set_option maxHeartbeats 2000000 in
theorem cmpDigits_any (A B : Option Addr) (n c m d : Nat) (D E : Nat → Int) (w : World) (hn : n ≤ 1000) (hm : m ≤ 1000) (hI : IntsAt w 0 A n D) (hJ : IntsAt w 0 B m E) (hD : Dig n D) (hE : Dig m E) (hDn : Norm n D) (hEn : Norm m E) :
    Calls Try.prog 90 #[.slice A n c, .slice B m d] w fun e w' => e = .returned (.int .i64 (cmpI (valD D n) (valD E m))) ∧ Below w.heap.size w w' := by
  rcases Nat.lt_trichotomy n m with h | h | h
  · have HV := hide (cmpI_lt (valD_fewer h hD hE hEn))
    have t1 : ((n : Int) != (m : Int)) = true := by simp; omega
    have t2 : (n : Int) < (m : Int) := by omega
    generalize cmpI (valD D n) (valD E m) = v at *
    clear hI hJ hD hE hDn hEn h
    go_enter Try.func90, Try.ntmps90
    go_wp2_with fail
    go_ret
    exact ⟨by rw [HV.out]; rfl, Below.refl _ _⟩
  · subst h
    have HI := hide hI
    have HJ := hide hJ
    have t1 : ((n : Int) != (n : Int)) = false := by simp
    have HLT := hide (fun i (hi : i < n) (h1 : D i < E i) (h2 : ∀ j, i < j → j < n → D j = E j) => cmpI_lt (valD_less hD hE hi h1 h2))
    have HGT := hide (fun i (hi : i < n) (h1 : E i < D i) (h2 : ∀ j, i < j → j < n → D j = E j) => cmpI_gt (valD_less hE hD hi h1 fun j a b => (h2 j a b).symm))
    have HEQ := hide (fun (h2 : ∀ j, j < n → D j = E j) => cmpI_eq (valD_congr n h2))
    have q0 : IntKind.i64.wrap ((n : Int) - 1) = (n : Int) - 1 := IntWalk.i64_in _ (by omega)
    generalize cmpI (valD D n) (valD E n) = v at *
    clear hI hJ hD hE hDn hEn hm
    go_enter Try.func90, Try.ntmps90
    go_wp2_with fail
    go_loopw [5] (fun x wr => ∃ k : Nat, k ≤ n ∧ x = .int .i64 ((k : Int) - 1) ∧ Hid (∀ j, k ≤ j → j < n → D j = E j) ∧ Below w.heap.size w wr) (fun x _ => (Go.RowKit.intOf x + 1).toNat)
    case atStart => exact ⟨n, Nat.le_refl _, rfl, hide (fun j h1 h2 => absurd h2 (by omega)), Below.refl _ _⟩
    case round =>
      obtain ⟨k, hk, rfl, HQ, hB⟩ := hrel
      obtain ⟨wA, rfl⟩ : ∃ x : World, x = wr := ⟨_, rfl⟩
      rcases k with _ | j
      · have hv := HEQ.out fun j hj => HQ.out j (Nat.zero_le _) hj
        have t3 : ¬ (((0 : Nat) : Int) - 1 ≥ 0) := by omega
        go_wp2_with fail
        go_ret
        exact ⟨by first | rfl | (rw [hv]; rfl), hB⟩
      · have e0 : ((j + 1 : Nat) : Int) - 1 = (j : Int) := by omega
        have hjn : (j : Int) < (n : Int) := by omega
        rw [e0]
        have t3 : (j : Int) ≥ 0 := by omega
        have q1 : IntKind.i64.wrap ((j : Int) - 1) = (j : Int) - 1 := IntWalk.i64_in _ (by omega)
        obtain ⟨b, o, rfl, -, -, x0⟩ := (HI.out.below hB) j (by omega)
        obtain ⟨b', o', rfl, -, -, y0⟩ := (HJ.out.below hB) j (by omega)
        have h2 : ∀ q, j < q → q < n → D q = E q := fun q a b => HQ.out q (by omega) b
        have HLj := hide (fun h1 => HLT.out j (by omega) h1 h2)
        have HGj := hide (fun h1 => HGT.out j (by omega) h1 h2)
        have HQj := hide (show D j = E j → ∀ q, j ≤ q → q < n → D q = E q from fun e q a b => by
          by_cases h : q = j
          · rw [h]; exact e
          · exact h2 q (by omega) b)
        generalize D j = x at *
        generalize E j = y at *
        rcases Int.lt_trichotomy x y with h | h | h
        · have hv := HLj.out h
          clear HLj HGj HQj h2
          go_wp2_with fail
          go_quiet (fail)
          go_wp2_with fail
          go_ret
          exact ⟨by first | rfl | (rw [hv]; rfl), ⟨hB.os, hB.tape, hB.output, hB.size, hB.block⟩⟩
        · subst h
          have HN := hide (HQj.out rfl)
          have t4 : ¬ (x < x) := by omega
          have t5 : ¬ (x > x) := by omega
          clear HLj HGj HQj h2
          go_wp2_with fail
          go_quiet (fail)
          go_wp2_with fail
          go_quiet (fail)
          go_wp2_with fail
          go_roundw
          case rel => exact ⟨j, by omega, by first | rfl | go_num, HN, ⟨hB.os, hB.tape, hB.output, hB.size, hB.block⟩⟩
          case measure => (simp [Go.RowKit.intOf]; first | done | omega)
        · have hv := HGj.out h
          have t4 : ¬ (x < y) := by omega
          have t5 : x > y := h
          clear HLj HGj HQj h2 h
          go_wp2_with fail
          go_quiet (fail)
          go_wp2_with fail
          go_quiet (fail)
          go_wp2_with fail
          go_ret
          exact ⟨by first | rfl | (rw [hv]; rfl), ⟨hB.os, hB.tape, hB.output, hB.size, hB.block⟩⟩
  · have HV := hide (cmpI_gt (valD_fewer h hE hD hDn))
    have t1 : ((n : Int) != (m : Int)) = true := by simp; omega
    have t2 : ¬ ((n : Int) < (m : Int)) := by omega
    generalize cmpI (valD D n) (valD E m) = v at *
    clear hI hJ hD hE hDn hEn h
    go_enter Try.func90, Try.ntmps90
    go_wp2_with fail
    go_ret
    exact ⟨by rw [HV.out]; rfl, Below.refl _ _⟩
end Go.Proofs.Ytejhakkfgfahaaa
