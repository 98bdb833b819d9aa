/- Lemmas: E14, E15. -/
import Derived.Test.YtejhakkfgfahaaaBk03
import Derived.Test.YtejhakkfgfahaaaBk10
set_option linter.unusedVariables false
set_option linter.unusedSimpArgs false
/- TiltLoss of the code and of the reference. -/
namespace Go.Proofs.Ytejhakkfgfahaaa
open Go.RowKit Go.Great
theorem Box.c3 {w : World} {b : Nat} {t : TypeId} {x y z : Value} (h : Box w b t #[x, y, z]) : w.cell? ⟨b, 0, none⟩ = some x ∧ w.cell? ⟨b, 1, none⟩ = some y ∧ w.cell? ⟨b, 2, none⟩ = some z ∧ b < w.heap.size := ⟨h.at_ 0, h.at_ 1, h.at_ 2, h.lt⟩
/-- The errors of TiltLoss. -/
def tlE (C D Z T : Int) : Int := firstE [unI (withinB C (-900) 900) 2, unI (withinB D 1 900) 2, unI (withinB Z 0 400) 2, unI (withinB T (-900) 900) 2]
def tlQ (C D T : Int) : Int := (120 * (T - C) * (T - C)).tdiv (D * D)
def tlR (C D Z T : Int) : Int := if tlE C D Z T = 0 then min (tlQ C D T) Z else 0
theorem tlE_zero {C D Z T : Int} (h : tlE C D Z T = 0) : (-900 ≤ C ∧ C ≤ 900) ∧ (1 ≤ D ∧ D ≤ 900) ∧ (0 ≤ Z ∧ Z ≤ 400) ∧ -900 ≤ T ∧ T ≤ 900 := by
  obtain ⟨h1, h2⟩ := firstE_nil h
  obtain ⟨h3, h4⟩ := firstE_nil h2
  obtain ⟨h5, h6⟩ := firstE_nil h4
  obtain ⟨h7, -⟩ := firstE_nil h6
  exact ⟨withinB_iff.1 (unI_zero (by decide) h1), withinB_iff.1 (unI_zero (by decide) h3), withinB_iff.1 (unI_zero (by decide) h5), withinB_iff.1 (unI_zero (by decide) h7)⟩
/-- The numbers of a loss, named. -/
theorem tl_names {C D T : Int} (hC : -900 ≤ C ∧ C ≤ 900) (hD : 1 ≤ D ∧ D ≤ 900) (hT : -900 ≤ T ∧ T ≤ 900) : ∃ q m1 m2 dd QQ : Int, IntKind.i64.wrap (T - C) = q ∧ IntKind.i64.wrap (120 * q) = m1 ∧ IntKind.i64.wrap (m1 * q) = m2 ∧ IntKind.i64.wrap (D * D) = dd ∧ m2.tdiv dd = QQ ∧ IntKind.i64.wrap QQ = QQ ∧ dd ≠ 0 ∧ QQ = tlQ C D T := by
  have b1 : -(1800 * 1800) ≤ (T - C) * (T - C) ∧ (T - C) * (T - C) ≤ 1800 * 1800 := mul_within ⟨by omega, by omega⟩ ⟨by omega, by omega⟩
  have b2 : -(900 * 900) ≤ D * D ∧ D * D ≤ 900 * 900 := mul_within ⟨by omega, by omega⟩ ⟨by omega, by omega⟩
  have b3 : 0 < D * D := Int.mul_pos (by omega) (by omega)
  have b4 : 0 ≤ (T - C) * (T - C) := by
    rcases Int.le_total 0 (T - C) with h | h
    · exact Int.mul_nonneg h h
    · have := Int.mul_nonneg (show 0 ≤ -(T - C) by omega) (show 0 ≤ -(T - C) by omega)
      rwa [Int.neg_mul_neg] at this
  have e1 : 120 * (T - C) * (T - C) = 120 * ((T - C) * (T - C)) := Int.mul_assoc _ _ _
  refine ⟨T - C, 120 * (T - C), 120 * (T - C) * (T - C), D * D, tlQ C D T, IntWalk.i64_in _ (by omega), IntWalk.i64_in _ (by omega), IntWalk.i64_in _ (by rw [e1]; omega), IntWalk.i64_in _ (by omega), rfl, ?_, by omega, rfl⟩
  have h0 : 0 ≤ tlQ C D T := by
    unfold tlQ
    rw [e1]
    exact Int.tdiv_nonneg (by omega) (by omega)
  have h1 : tlQ C D T ≤ 120 * ((T - C) * (T - C)) := by
    unfold tlQ
    rw [e1, Int.tdiv_eq_ediv_of_nonneg (by omega)]
    exact Int.ediv_le_self _ (by omega)
  exact IntWalk.i64_in _ (by omega)
set_option maxHeartbeats 1000000 in
theorem isAngle_any (n : Int) (w : World) :
    Calls Try.prog 71 #[.int .i64 n] w fun e w' => e = .returned (.bool (withinB n (-900) 900)) ∧ w = w' := by
  go_enter Try.func71, Try.ntmps71
  go_wp2_with (go_at_call 50; refine (isWithin_any _ _ _ _).mono ?_; rintro e_ v_ ⟨rfl, rfl⟩)
  go_ret
  exact ⟨rfl, rfl⟩
set_option maxHeartbeats 4000000 in
set_option maxRecDepth 100000 in
theorem TiltLoss_any (C D Z T : Int) (w : World) :
    Calls Try.prog 41 #[.agg #[.int .i64 C, .int .i64 D, .int .i64 Z], .int .i64 T] w fun e w' => e = .returned (.tuple #[.int .i64 (tlR C D Z T), .int .i64 (tlE C D Z T)]) ∧ Below w.heap.size w w' := by
  have HE := hide (show firstE [unI (withinB C (-900) 900) 2, unI (withinB D 1 900) 2, unI (withinB Z 0 400) 2, unI (withinB T (-900) 900) 2] = tlE C D Z T from rfl)
  have HR := hide (show tlR C D Z T = if tlE C D Z T = 0 then min (tlQ C D T) Z else 0 from rfl)
  have HZ := hide (tlE_zero (C := C) (D := D) (Z := Z) (T := T))
  generalize tlR C D Z T = R at *
  generalize tlE C D Z T = V at *
  go_enter Try.func41, Try.ntmps41
  go_upto_region 1 with fail
  obtain ⟨w_1, hw_1⟩ : ∃ q : World, q = (w.alloc (.cells #[.int .i64 C, .int .i64 D, .int .i64 Z] 76)) := ⟨_, rfl⟩
  try rw [← hw_1]
  have HX0 := hide (show Box w_1 (w.heap.size) 76 #[.int .i64 C, .int .i64 D, .int .i64 Z] by rw [hw_1]; exact Box.made rfl)
  have HB := hide (show Below w.heap.size w w_1 by rw [hw_1]; (repeat (first | (with_reducible exact Below.refl _ _) | (with_reducible refine Go.below_drewN ?_ _) | (with_reducible refine Below.drew ?_) | (with_reducible refine Below.alloc ?_ (by first | exact Nat.le_refl _ | (simp; done) | (simp; omega) | omega) _) | (with_reducible refine Below.setCell ?_ (by first | exact Nat.le_refl _ | (simp; done) | (simp; omega) | omega) _))))
  clear hw_1
  refine wp_region_held_drew (S := fun w' => w'.cell? ⟨w.heap.size, 0, none⟩ = some (.int .i64 C) ∧ w'.cell? ⟨w.heap.size, 1, none⟩ = some (.int .i64 D) ∧ w'.cell? ⟨w.heap.size, 2, none⟩ = some (.int .i64 Z)) (by kernel_rfl) ⟨HX0.out.c3.1, HX0.out.c3.2.1, HX0.out.c3.2.2.1⟩ (fun hHeld => ?_)
  obtain ⟨w_2, hw_2⟩ : ∃ q : World, q = w_1.drew := ⟨_, rfl⟩
  rw [← hw_2] at hHeld ⊢
  have hc_2 : Below w_1.heap.size w_1 w_2 := by rw [hw_2]; exact (Below.refl _ _).drew
  clear hw_2
  replace HX0 := hide (HX0.out.below hc_2)
  replace HB := hide (HB.out.trans (hc_2.mono HB.out.size))
  clear hc_2
  refine wpAnyH_take (i := 0) (oi := ⟨some 8, _, _, _, _, _⟩) (v := ?_) rfl (by kernel_rfl) (by kernel_rfl) (by kernel_rfl) (fun _ _ _ h => h) (Or.inl ⟨by rfl, ?_⟩) (by assumption) ?_
  rotate_left
  · (intro w' hSw; (try dsimp only at hSw); go_simp <;> (with_reducible rfl))
  try simp only [Act.put, List.setIfInBounds_toArray, List.set_cons_zero, List.set_cons_succ]
  refine wpAnyH_take (i := 1) (oi := ⟨some 9, _, _, _, _, _⟩) (v := ?_) rfl (by kernel_rfl) (by kernel_rfl) (by kernel_rfl) (fun _ _ _ h => h) (Or.inl ⟨by rfl, ?_⟩) (by assumption) ?_
  rotate_left
  · (intro w' hSw; (try dsimp only at hSw); go_simp <;> (with_reducible rfl))
  try simp only [Act.put, List.setIfInBounds_toArray, List.set_cons_zero, List.set_cons_succ]
  refine wpAnyH_take (i := 4) (oi := ⟨some 12, _, _, _, _, _⟩) (v := ?_) rfl (by kernel_rfl) (by kernel_rfl) (by kernel_rfl) (fun _ _ _ h => h) (Or.inl ⟨by rfl, ?_⟩) (by assumption) ?_
  rotate_left
  · (intro w' hSw; (try dsimp only at hSw); go_simp <;> (with_reducible rfl))
  try simp only [Act.put, List.setIfInBounds_toArray, List.set_cons_zero, List.set_cons_succ]
  refine wpAnyH_take (i := 5) (oi := ⟨some 13, _, _, _, _, _⟩) (v := ?_) rfl (by kernel_rfl) (by kernel_rfl) (by kernel_rfl) (fun _ _ _ h => h) (Or.inl ⟨by rfl, ?_⟩) (by assumption) ?_
  rotate_left
  · (intro w' hSw; (try dsimp only at hSw); go_simp <;> (with_reducible rfl))
  try simp only [Act.put, List.setIfInBounds_toArray, List.set_cons_zero, List.set_cons_succ]
  refine wpAnyH_take (i := 8) (oi := ⟨some 16, _, _, _, _, _⟩) (v := ?_) rfl (by kernel_rfl) (by kernel_rfl) (by kernel_rfl) (fun _ _ _ h => h) (Or.inl ⟨by rfl, ?_⟩) (by assumption) ?_
  rotate_left
  · (intro w' hSw; (try dsimp only at hSw); go_simp <;> (with_reducible rfl))
  try simp only [Act.put, List.setIfInBounds_toArray, List.set_cons_zero, List.set_cons_succ]
  refine wpAnyH_take (i := 9) (oi := ⟨some 17, _, _, _, _, _⟩) (v := ?_) rfl (by kernel_rfl) (by kernel_rfl) (by kernel_rfl) (fun _ _ _ h => h) (Or.inl ⟨by rfl, ?_⟩) (by assumption) ?_
  rotate_left
  · (intro w' hSw; (try dsimp only at hSw); go_simp <;> (with_reducible rfl))
  try simp only [Act.put, List.setIfInBounds_toArray, List.set_cons_zero, List.set_cons_succ]
  refine wpAnyH_take (i := 12) (oi := ⟨some 20, _, _, _, _, _⟩) (v := ?_) rfl (by kernel_rfl) (by kernel_rfl) (by kernel_rfl) (fun _ _ _ h => h) (Or.inl ⟨by rfl, ?_⟩) (by assumption) ?_
  rotate_left
  · (intro w' hSw; (try dsimp only at hSw); go_simp <;> (with_reducible rfl))
  try simp only [Act.put, List.setIfInBounds_toArray, List.set_cons_zero, List.set_cons_succ]
  refine wpAnyH_ready (rs := [2]) (by kernel_rfl) (by simp) ?_
  refine AllReadyH.cons (o := ⟨some 10, _, _, _, _, _⟩) rfl (fun K' hK => ?_) AllReadyH.nil
  go_simp
  go_at_call 71
  refine (isAngle_any _ _).mono ?_
  rintro e_ v_ ⟨rfl, rfl⟩
  go_wp2_with fail
  refine hK.out _ _ ⟨HX0.out.c3.1, HX0.out.c3.2.1, HX0.out.c3.2.2.1⟩ (fun hHeld => ?_)
  clear hK K'
  try simp only [Act.put, List.setIfInBounds_toArray, List.set_cons_zero, List.set_cons_succ]
  refine wpAnyH_ready (rs := [3]) (by kernel_rfl) (by simp) ?_
  refine AllReadyH.cons (o := ⟨some 11, _, _, _, _, _⟩) rfl (fun K' hK => ?_) AllReadyH.nil
  go_simp
  go_at_call 45
  refine (unless_any _ _ _).mono ?_
  rintro e_ v_ ⟨rfl, rfl⟩
  go_wp2_with fail
  refine hK.out _ _ ⟨HX0.out.c3.1, HX0.out.c3.2.1, HX0.out.c3.2.2.1⟩ (fun hHeld => ?_)
  clear hK K'
  try simp only [Act.put, List.setIfInBounds_toArray, List.set_cons_zero, List.set_cons_succ]
  refine wpAnyH_ready (rs := [6]) (by kernel_rfl) (by simp) ?_
  refine AllReadyH.cons (o := ⟨some 14, _, _, _, _, _⟩) rfl (fun K' hK => ?_) AllReadyH.nil
  go_simp
  go_at_call 50
  refine (isWithin_any _ _ _ _).mono ?_
  rintro e_ v_ ⟨rfl, rfl⟩
  go_wp2_with fail
  refine hK.out _ _ ⟨HX0.out.c3.1, HX0.out.c3.2.1, HX0.out.c3.2.2.1⟩ (fun hHeld => ?_)
  clear hK K'
  try simp only [Act.put, List.setIfInBounds_toArray, List.set_cons_zero, List.set_cons_succ]
  refine wpAnyH_ready (rs := [7]) (by kernel_rfl) (by simp) ?_
  refine AllReadyH.cons (o := ⟨some 15, _, _, _, _, _⟩) rfl (fun K' hK => ?_) AllReadyH.nil
  go_simp
  go_at_call 45
  refine (unless_any _ _ _).mono ?_
  rintro e_ v_ ⟨rfl, rfl⟩
  go_wp2_with fail
  refine hK.out _ _ ⟨HX0.out.c3.1, HX0.out.c3.2.1, HX0.out.c3.2.2.1⟩ (fun hHeld => ?_)
  clear hK K'
  try simp only [Act.put, List.setIfInBounds_toArray, List.set_cons_zero, List.set_cons_succ]
  refine wpAnyH_ready (rs := [10]) (by kernel_rfl) (by simp) ?_
  refine AllReadyH.cons (o := ⟨some 18, _, _, _, _, _⟩) rfl (fun K' hK => ?_) AllReadyH.nil
  go_simp
  go_at_call 50
  refine (isWithin_any _ _ _ _).mono ?_
  rintro e_ v_ ⟨rfl, rfl⟩
  go_wp2_with fail
  refine hK.out _ _ ⟨HX0.out.c3.1, HX0.out.c3.2.1, HX0.out.c3.2.2.1⟩ (fun hHeld => ?_)
  clear hK K'
  try simp only [Act.put, List.setIfInBounds_toArray, List.set_cons_zero, List.set_cons_succ]
  refine wpAnyH_ready (rs := [11]) (by kernel_rfl) (by simp) ?_
  refine AllReadyH.cons (o := ⟨some 19, _, _, _, _, _⟩) rfl (fun K' hK => ?_) AllReadyH.nil
  go_simp
  go_at_call 45
  refine (unless_any _ _ _).mono ?_
  rintro e_ v_ ⟨rfl, rfl⟩
  go_wp2_with fail
  refine hK.out _ _ ⟨HX0.out.c3.1, HX0.out.c3.2.1, HX0.out.c3.2.2.1⟩ (fun hHeld => ?_)
  clear hK K'
  try simp only [Act.put, List.setIfInBounds_toArray, List.set_cons_zero, List.set_cons_succ]
  refine wpAnyH_ready (rs := [13]) (by kernel_rfl) (by simp) ?_
  refine AllReadyH.cons (o := ⟨some 21, _, _, _, _, _⟩) rfl (fun K' hK => ?_) AllReadyH.nil
  go_simp
  go_at_call 71
  refine (isAngle_any _ _).mono ?_
  rintro e_ v_ ⟨rfl, rfl⟩
  go_wp2_with fail
  refine hK.out _ _ ⟨HX0.out.c3.1, HX0.out.c3.2.1, HX0.out.c3.2.2.1⟩ (fun hHeld => ?_)
  clear hK K'
  try simp only [Act.put, List.setIfInBounds_toArray, List.set_cons_zero, List.set_cons_succ]
  refine wpAnyH_ready (rs := [14]) (by kernel_rfl) (by simp) ?_
  refine AllReadyH.cons (o := ⟨some 22, _, _, _, _, _⟩) rfl (fun K' hK => ?_) AllReadyH.nil
  go_simp
  go_at_call 45
  refine (unless_any _ _ _).mono ?_
  rintro e_ v_ ⟨rfl, rfl⟩
  go_wp2_with fail
  refine hK.out _ _ ⟨HX0.out.c3.1, HX0.out.c3.2.1, HX0.out.c3.2.2.1⟩ (fun hHeld => ?_)
  clear hK K'
  try simp only [Act.put, List.setIfInBounds_toArray, List.set_cons_zero, List.set_cons_succ]
  refine wpAnyH_ready (rs := [15]) (by kernel_rfl) (by simp) ?_
  refine AllReadyH.cons (o := ⟨some 23, _, _, _, _, _⟩) rfl (fun K' hK => ?_) AllReadyH.nil
  go_simp
  obtain ⟨g2, hg2⟩ : ∃ q, w_2.heap.size = q := ⟨_, rfl⟩
  obtain ⟨w_3, hw_3⟩ : ∃ q : World, q = w_2.alloc (.cells #[.int .i64 (unI (withinB C (-900) 900) 2), .int .i64 (unI (withinB D 1 900) 2), .int .i64 (unI (withinB Z 0 400) 2), .int .i64 (unI (withinB T (-900) 900) 2)] 27) := ⟨_, rfl⟩
  try rw [← hw_3]
  have HE2 := hide (show Box w_3 g2 27 #[.int .i64 (unI (withinB C (-900) 900) 2), .int .i64 (unI (withinB D 1 900) 2), .int .i64 (unI (withinB Z 0 400) 2), .int .i64 (unI (withinB T (-900) 900) 2)] by rw [hw_3]; exact Box.made hg2.symm)
  have hc_3 : Below w_2.heap.size w_2 w_3 := by rw [hw_3]; exact (Below.refl _ _).alloc (Nat.le_refl _) _
  clear hw_3
  replace HX0 := hide (HX0.out.below hc_3)
  replace HB := hide (HB.out.trans (hc_3.mono HB.out.size))
  clear hc_3
  try simp only [hg2]
  clear hg2
  refine hK.out _ _ ⟨HX0.out.c3.1, HX0.out.c3.2.1, HX0.out.c3.2.2.1⟩ (fun hHeld => ?_)
  clear hK K'
  try simp only [Act.put, List.setIfInBounds_toArray, List.set_cons_zero, List.set_cons_succ]
  refine wpAnyH_ready (rs := [16]) (by kernel_rfl) (by simp) ?_
  refine AllReadyH.cons (o := ⟨some 24, _, _, _, _, _⟩) rfl (fun K' hK => ?_) AllReadyH.nil
  go_simp
  go_at_call 44
  refine (firstError_box g2 4 [unI (withinB C (-900) 900) 2, unI (withinB D 1 900) 2, unI (withinB Z 0 400) 2, unI (withinB T (-900) 900) 2] _ _ rfl (by decide) HE2.out).mono ?_
  rintro e_ v_ ⟨rfl, rfl⟩
  go_wp2_with fail
  refine hK.out _ _ ⟨HX0.out.c3.1, HX0.out.c3.2.1, HX0.out.c3.2.2.1⟩ (fun hHeld => ?_)
  clear hK K'
  try simp only [Act.put, List.setIfInBounds_toArray, List.set_cons_zero, List.set_cons_succ]
  refine wpAnyH_take (i := 17) (oi := ⟨some 6, _, _, _, _, _⟩) (v := ?_) rfl (by kernel_rfl) (by kernel_rfl) (by kernel_rfl) (fun _ _ _ h => h) (Or.inl ⟨by rfl, ?_⟩) (by assumption) ?_
  rotate_left
  · (intro w' hSw; (try dsimp only at hSw); go_simp <;> (with_reducible rfl))
  try simp only [Act.put, List.setIfInBounds_toArray, List.set_cons_zero, List.set_cons_succ]
  refine wpAnyH_done (by kernel_rfl) ?_ _
  rw [HE.out]
  clear HE
  by_cases hv : V = 0
  case neg =>
    have tv : (V != 0) = true := by simpa using hv
    have hr : R = 0 := HR.out.trans (if_neg hv)
    subst hr
    clear hv HZ
    go_wp2_with fail
    go_ret2
    exact ⟨rfl, HB.out⟩
  have tv : (V != 0) = false := by simpa using hv
  obtain ⟨hC, hD, hZ, hT⟩ := HZ.out hv
  have HRR := hide (HR.out.trans (if_pos hv))
  clear HR HZ
  obtain ⟨q, m1, m2, dd, QQ, q1, q2, q3, q4, q5, q6, q7, hQ⟩ := tl_names hC hD hT
  rw [← hQ] at HRR
  clear hQ hC hD hZ hT
  obtain ⟨x0, x1, x2, hlx⟩ := HX0.out.c3
  have HV := hide hv
  clear hv
  go_upto_region 5 with fail
  refine wp_region_held_drew (S := fun w' => w'.cell? ⟨w.heap.size, 0, none⟩ = some (.int .i64 C) ∧ w'.cell? ⟨w.heap.size, 1, none⟩ = some (.int .i64 D) ∧ w'.cell? ⟨w.heap.size, 2, none⟩ = some (.int .i64 Z)) (by kernel_rfl) ⟨HX0.out.c3.1, HX0.out.c3.2.1, HX0.out.c3.2.2.1⟩ (fun hHeld => ?_)
  obtain ⟨w_4, hw_4⟩ : ∃ q : World, q = w_3.drew := ⟨_, rfl⟩
  rw [← hw_4] at hHeld ⊢
  have hc_4 : Below w_3.heap.size w_3 w_4 := by rw [hw_4]; exact (Below.refl _ _).drew
  clear hw_4
  replace HX0 := hide (HX0.out.below hc_4)
  replace HE2 := hide (HE2.out.below hc_4)
  replace HB := hide (HB.out.trans (hc_4.mono HB.out.size))
  clear hc_4
  refine wpAnyH_take (i := 0) (oi := ⟨some 32, _, _, _, _, _⟩) (v := ?_) rfl (by kernel_rfl) (by kernel_rfl) (by kernel_rfl) (fun _ _ _ h => h) (Or.inl ⟨by rfl, ?_⟩) (by assumption) ?_
  rotate_left
  · (intro w' hSw; (try dsimp only at hSw); go_simp <;> (with_reducible rfl))
  try simp only [Act.put, List.setIfInBounds_toArray, List.set_cons_zero, List.set_cons_succ]
  refine wpAnyH_take (i := 1) (oi := ⟨some 33, _, _, _, _, _⟩) (v := ?_) rfl (by kernel_rfl) (by kernel_rfl) (by kernel_rfl) (fun _ _ _ h => h) (Or.inl ⟨by rfl, ?_⟩) (by assumption) ?_
  rotate_left
  · (intro w' hSw; (try dsimp only at hSw); go_simp <;> (with_reducible rfl))
  try simp only [Act.put, List.setIfInBounds_toArray, List.set_cons_zero, List.set_cons_succ]
  refine wpAnyH_take (i := 2) (oi := ⟨some 34, _, _, _, _, _⟩) (v := ?_) rfl (by kernel_rfl) (by kernel_rfl) (by kernel_rfl) (fun _ _ _ h => h) (Or.inl ⟨by rfl, ?_⟩) (by assumption) ?_
  rotate_left
  · (intro w' hSw; (try dsimp only at hSw); go_simp <;> (with_reducible rfl))
  try simp only [Act.put, List.setIfInBounds_toArray, List.set_cons_zero, List.set_cons_succ]
  refine wpAnyH_take (i := 3) (oi := ⟨some 35, _, _, _, _, _⟩) (v := ?_) rfl (by kernel_rfl) (by kernel_rfl) (by kernel_rfl) (fun _ _ _ h => h) (Or.inl ⟨by rfl, ?_⟩) (by assumption) ?_
  rotate_left
  · (intro w' hSw; (try dsimp only at hSw); go_simp <;> (with_reducible rfl))
  try simp only [Act.put, List.setIfInBounds_toArray, List.set_cons_zero, List.set_cons_succ]
  refine wpAnyH_take (i := 4) (oi := ⟨some 36, _, _, _, _, _⟩) (v := ?_) rfl (by kernel_rfl) (by kernel_rfl) (by kernel_rfl) (fun _ _ _ h => h) (Or.inl ⟨by rfl, ?_⟩) (by assumption) ?_
  rotate_left
  · (intro w' hSw; (try dsimp only at hSw); go_simp <;> (with_reducible rfl))
  try simp only [Act.put, List.setIfInBounds_toArray, List.set_cons_zero, List.set_cons_succ]
  refine wpAnyH_take (i := 5) (oi := ⟨some 37, _, _, _, _, _⟩) (v := ?_) rfl (by kernel_rfl) (by kernel_rfl) (by kernel_rfl) (fun _ _ _ h => h) (Or.inl ⟨by rfl, ?_⟩) (by assumption) ?_
  rotate_left
  · (intro w' hSw; (try dsimp only at hSw); go_simp <;> (with_reducible rfl))
  try simp only [Act.put, List.setIfInBounds_toArray, List.set_cons_zero, List.set_cons_succ]
  refine wpAnyH_take (i := 6) (oi := ⟨some 38, _, _, _, _, _⟩) (v := ?_) rfl (by kernel_rfl) (by kernel_rfl) (by kernel_rfl) (fun _ _ _ h => h) (Or.inl ⟨by rfl, ?_⟩) (by assumption) ?_
  rotate_left
  · (intro w' hSw; (try dsimp only at hSw); go_simp <;> (with_reducible rfl))
  try simp only [Act.put, List.setIfInBounds_toArray, List.set_cons_zero, List.set_cons_succ]
  refine wpAnyH_take (i := 7) (oi := ⟨some 39, _, _, _, _, _⟩) (v := ?_) rfl (by kernel_rfl) (by kernel_rfl) (by kernel_rfl) (fun _ _ _ h => h) (Or.inl ⟨by rfl, ?_⟩) (by assumption) ?_
  rotate_left
  · (intro w' hSw; (try dsimp only at hSw); go_simp <;> (with_reducible rfl))
  try simp only [Act.put, List.setIfInBounds_toArray, List.set_cons_zero, List.set_cons_succ]
  refine wpAnyH_take (i := 8) (oi := ⟨some 40, _, _, _, _, _⟩) (v := ?_) rfl (by kernel_rfl) (by kernel_rfl) (by kernel_rfl) (fun _ _ _ h => h) (Or.inl ⟨by rfl, ?_⟩) (by assumption) ?_
  rotate_left
  · (intro w' hSw; (try dsimp only at hSw); go_simp <;> (with_reducible rfl))
  try simp only [Act.put, List.setIfInBounds_toArray, List.set_cons_zero, List.set_cons_succ]
  refine wpAnyH_take (i := 9) (oi := ⟨some 41, _, _, _, _, _⟩) (v := ?_) rfl (by kernel_rfl) (by kernel_rfl) (by kernel_rfl) (fun _ _ _ h => h) (Or.inl ⟨by rfl, ?_⟩) (by assumption) ?_
  rotate_left
  · (intro w' hSw; (try dsimp only at hSw); go_simp <;> (with_reducible rfl))
  try simp only [Act.put, List.setIfInBounds_toArray, List.set_cons_zero, List.set_cons_succ]
  refine wpAnyH_take (i := 10) (oi := ⟨some 42, _, _, _, _, _⟩) (v := ?_) rfl (by kernel_rfl) (by kernel_rfl) (by kernel_rfl) (fun _ _ _ h => h) (Or.inl ⟨by rfl, ?_⟩) (by assumption) ?_
  rotate_left
  · (intro w' hSw; (try dsimp only at hSw); go_simp <;> (with_reducible rfl))
  try simp only [Act.put, List.setIfInBounds_toArray, List.set_cons_zero, List.set_cons_succ]
  refine wpAnyH_take (i := 11) (oi := ⟨some 43, _, _, _, _, _⟩) (v := ?_) rfl (by kernel_rfl) (by kernel_rfl) (by kernel_rfl) (fun _ _ _ h => h) (Or.inl ⟨by rfl, ?_⟩) (by assumption) ?_
  rotate_left
  · (intro w' hSw; (try dsimp only at hSw); go_simp <;> (with_reducible rfl))
  try simp only [Act.put, List.setIfInBounds_toArray, List.set_cons_zero, List.set_cons_succ]
  refine wpAnyH_take (i := 12) (oi := ⟨some 44, _, _, _, _, _⟩) (v := ?_) rfl (by kernel_rfl) (by kernel_rfl) (by kernel_rfl) (fun _ _ _ h => h) (Or.inl ⟨by rfl, ?_⟩) (by assumption) ?_
  rotate_left
  · (intro w' hSw; (try dsimp only at hSw); go_simp <;> (with_reducible rfl))
  try simp only [Act.put, List.setIfInBounds_toArray, List.set_cons_zero, List.set_cons_succ]
  refine wpAnyH_take (i := 13) (oi := ⟨some 4, _, _, _, _, _⟩) (v := ?_) rfl (by kernel_rfl) (by kernel_rfl) (by kernel_rfl) (fun _ _ _ h => h) (Or.inl ⟨by rfl, ?_⟩) (by assumption) ?_
  rotate_left
  · (intro w' hSw; (try dsimp only at hSw); go_simp <;> (with_reducible rfl))
  try simp only [Act.put, List.setIfInBounds_toArray, List.set_cons_zero, List.set_cons_succ]
  refine wpAnyH_take (i := 14) (oi := ⟨some 5, _, _, _, _, _⟩) (v := ?_) rfl (by kernel_rfl) (by kernel_rfl) (by kernel_rfl) (fun _ _ _ h => h) (Or.inl ⟨by rfl, ?_⟩) (by assumption) ?_
  rotate_left
  · (intro w' hSw; (try dsimp only at hSw); go_simp <;> (with_reducible rfl))
  try simp only [Act.put, List.setIfInBounds_toArray, List.set_cons_zero, List.set_cons_succ]
  refine wpAnyH_done (by kernel_rfl) ?_ _
  go_wp2_with fail
  go_ret2
  exact ⟨by rw [HRR.out, HV.out]; rfl, HB.out⟩
/-- The error that the reference finds. -/
theorem tlE_ref (C D Z T : Int) : tlE C D Z T = if withinB C (-900) 900 = true ∧ withinB D 1 900 = true ∧ withinB Z 0 400 = true ∧ withinB T (-900) 900 = true then 0 else 2 := by
  unfold tlE
  cases withinB C (-900) 900 <;> cases withinB D 1 900 <;> cases withinB Z 0 400 <;> cases withinB T (-900) 900 <;> rfl
set_option maxHeartbeats 4000000 in
set_option maxRecDepth 100000 in
theorem TiltErr_any (C D Z T : Int) (w : World) :
    Calls Try.prog 42 #[.agg #[.int .i64 C, .int .i64 D, .int .i64 Z], .int .i64 T] w fun e w' => e = .returned (.int .i64 (tlE C D Z T)) ∧ Below w.heap.size w w' := by
  rw [tlE_ref]
  have HW := hide (fun a b c W => within_any a b c W)
  obtain ⟨b0, h0⟩ : ∃ z, withinB C (-900) 900 = z := ⟨_, rfl⟩
  obtain ⟨b1, h1⟩ : ∃ z, withinB D 1 900 = z := ⟨_, rfl⟩
  obtain ⟨b2, h2⟩ : ∃ z, withinB Z 0 400 = z := ⟨_, rfl⟩
  obtain ⟨b3, h3⟩ : ∃ z, withinB T (-900) 900 = z := ⟨_, rfl⟩
  have W0 := hide (fun W => HW.out C (-900) 900 W)
  have W1 := hide (fun W => HW.out D 1 900 W)
  have W2 := hide (fun W => HW.out Z 0 400 W)
  have W3 := hide (fun W => HW.out T (-900) 900 W)
  simp only [h0, h1, h2, h3] at W0 W1 W2 W3 ⊢
  clear h0 h1 h2 h3 HW
  obtain ⟨r, hr⟩ : ∃ z : Int, (if b0 = true ∧ b1 = true ∧ b2 = true ∧ b3 = true then 0 else 2) = z := ⟨_, rfl⟩
  have HRR := hide hr
  rw [hr]
  clear hr
  go_enter Try.func42, Try.ntmps42
  go_upto_region 1 with fail
  obtain ⟨w_1, hw_1⟩ : ∃ q : World, q = (w.alloc (.cells #[.int .i64 C, .int .i64 D, .int .i64 Z] 76)) := ⟨_, rfl⟩
  try rw [← hw_1]
  have HX0 := hide (show Box w_1 (w.heap.size) 76 #[.int .i64 C, .int .i64 D, .int .i64 Z] by rw [hw_1]; exact Box.made rfl)
  have HB := hide (show Below w.heap.size w w_1 by rw [hw_1]; (repeat (first | (with_reducible exact Below.refl _ _) | (with_reducible refine Go.below_drewN ?_ _) | (with_reducible refine Below.drew ?_) | (with_reducible refine Below.alloc ?_ (by first | exact Nat.le_refl _ | (simp; done) | (simp; omega) | omega) _) | (with_reducible refine Below.setCell ?_ (by first | exact Nat.le_refl _ | (simp; done) | (simp; omega) | omega) _))))
  clear hw_1
  obtain ⟨x0, x1, x2, hlx⟩ := HX0.out.c3
  go_wp2_with fail
  refine (W0.out _).mono ?_
  rintro e_ v_ ⟨rfl, rfl⟩
  cases b0
  case false =>
    obtain rfl : r = 2 := HRR.out.symm.trans (if_neg (by simp))
    go_wp2_with fail
    go_ret
    exact ⟨rfl, HB.out⟩
  go_wp2_with fail
  refine (W1.out _).mono ?_
  rintro e_ v_ ⟨rfl, rfl⟩
  cases b1
  case false =>
    obtain rfl : r = 2 := HRR.out.symm.trans (if_neg (by simp))
    go_wp2_with fail
    go_ret
    exact ⟨rfl, HB.out⟩
  go_wp2_with fail
  refine (W2.out _).mono ?_
  rintro e_ v_ ⟨rfl, rfl⟩
  cases b2
  case false =>
    obtain rfl : r = 2 := HRR.out.symm.trans (if_neg (by simp))
    go_wp2_with fail
    go_ret
    exact ⟨rfl, HB.out⟩
  go_wp2_with fail
  refine (W3.out _).mono ?_
  rintro e_ v_ ⟨rfl, rfl⟩
  cases b3
  case false =>
    obtain rfl : r = 2 := HRR.out.symm.trans (if_neg (by simp))
    go_wp2_with fail
    go_ret
    exact ⟨rfl, HB.out⟩
  obtain rfl : r = 0 := HRR.out.symm.trans (if_pos (by simp))
  go_wp2_with fail
  go_ret
  exact ⟨rfl, HB.out⟩
set_option maxHeartbeats 4000000 in
set_option maxRecDepth 100000 in
theorem TiltLoss_ref (C D Z T : Int) (w : World) (h : tlE C D Z T = 0) :
    Calls Try.prog 43 #[.agg #[.int .i64 C, .int .i64 D, .int .i64 Z], .int .i64 T] w fun e w' => e = .returned (.int .i64 (tlR C D Z T)) ∧ Below w.heap.size w w' := by
  obtain ⟨hC, hD, hZ, hT⟩ := tlE_zero h
  obtain ⟨q, m1, m2, dd, QQ, q1, q2, q3, q4, q5, q6, q7, hQ⟩ := tl_names hC hD hT
  have HRR := hide (show tlR C D Z T = min Z QQ by rw [hQ, Int.min_comm]; exact if_pos h)
  rw [HRR.out]
  clear HRR hQ hC hD hZ hT h
  go_enter Try.func43, Try.ntmps43
  go_upto_region 1 with fail
  obtain ⟨w_1, hw_1⟩ : ∃ q : World, q = (w.alloc (.cells #[.int .i64 C, .int .i64 D, .int .i64 Z] 76)) := ⟨_, rfl⟩
  try rw [← hw_1]
  have HX0 := hide (show Box w_1 (w.heap.size) 76 #[.int .i64 C, .int .i64 D, .int .i64 Z] by rw [hw_1]; exact Box.made rfl)
  have HB := hide (show Below w.heap.size w w_1 by rw [hw_1]; (repeat (first | (with_reducible exact Below.refl _ _) | (with_reducible refine Go.below_drewN ?_ _) | (with_reducible refine Below.drew ?_) | (with_reducible refine Below.alloc ?_ (by first | exact Nat.le_refl _ | (simp; done) | (simp; omega) | omega) _) | (with_reducible refine Below.setCell ?_ (by first | exact Nat.le_refl _ | (simp; done) | (simp; omega) | omega) _))))
  clear hw_1
  obtain ⟨x0, x1, x2, hlx⟩ := HX0.out.c3
  go_upto_region 2 with fail
  refine wp_region_held_drew (S := fun w' => w'.cell? ⟨w.heap.size, 0, none⟩ = some (.int .i64 C) ∧ w'.cell? ⟨w.heap.size, 1, none⟩ = some (.int .i64 D) ∧ w'.cell? ⟨w.heap.size, 2, none⟩ = some (.int .i64 Z)) (by kernel_rfl) ⟨HX0.out.c3.1, HX0.out.c3.2.1, HX0.out.c3.2.2.1⟩ (fun hHeld => ?_)
  obtain ⟨w_2, hw_2⟩ : ∃ q : World, q = w_1.drew := ⟨_, rfl⟩
  rw [← hw_2] at hHeld ⊢
  have hc_2 : Below w_1.heap.size w_1 w_2 := by rw [hw_2]; exact (Below.refl _ _).drew
  clear hw_2
  replace HX0 := hide (HX0.out.below hc_2)
  replace HB := hide (HB.out.trans (hc_2.mono HB.out.size))
  clear hc_2
  refine wpAnyH_take (i := 0) (oi := ⟨some 10, _, _, _, _, _⟩) (v := ?_) rfl (by kernel_rfl) (by kernel_rfl) (by kernel_rfl) (fun _ _ _ h => h) (Or.inl ⟨by rfl, ?_⟩) (by assumption) ?_
  rotate_left
  · (intro w' hSw; (try dsimp only at hSw); go_simp <;> (with_reducible rfl))
  try simp only [Act.put, List.setIfInBounds_toArray, List.set_cons_zero, List.set_cons_succ]
  refine wpAnyH_take (i := 1) (oi := ⟨some 11, _, _, _, _, _⟩) (v := ?_) rfl (by kernel_rfl) (by kernel_rfl) (by kernel_rfl) (fun _ _ _ h => h) (Or.inl ⟨by rfl, ?_⟩) (by assumption) ?_
  rotate_left
  · (intro w' hSw; (try dsimp only at hSw); go_simp <;> (with_reducible rfl))
  try simp only [Act.put, List.setIfInBounds_toArray, List.set_cons_zero, List.set_cons_succ]
  refine wpAnyH_take (i := 2) (oi := ⟨some 12, _, _, _, _, _⟩) (v := ?_) rfl (by kernel_rfl) (by kernel_rfl) (by kernel_rfl) (fun _ _ _ h => h) (Or.inl ⟨by rfl, ?_⟩) (by assumption) ?_
  rotate_left
  · (intro w' hSw; (try dsimp only at hSw); go_simp <;> (with_reducible rfl))
  try simp only [Act.put, List.setIfInBounds_toArray, List.set_cons_zero, List.set_cons_succ]
  refine wpAnyH_take (i := 3) (oi := ⟨some 13, _, _, _, _, _⟩) (v := ?_) rfl (by kernel_rfl) (by kernel_rfl) (by kernel_rfl) (fun _ _ _ h => h) (Or.inl ⟨by rfl, ?_⟩) (by assumption) ?_
  rotate_left
  · (intro w' hSw; (try dsimp only at hSw); go_simp <;> (with_reducible rfl))
  try simp only [Act.put, List.setIfInBounds_toArray, List.set_cons_zero, List.set_cons_succ]
  refine wpAnyH_take (i := 4) (oi := ⟨some 14, _, _, _, _, _⟩) (v := ?_) rfl (by kernel_rfl) (by kernel_rfl) (by kernel_rfl) (fun _ _ _ h => h) (Or.inl ⟨by rfl, ?_⟩) (by assumption) ?_
  rotate_left
  · (intro w' hSw; (try dsimp only at hSw); go_simp <;> (with_reducible rfl))
  try simp only [Act.put, List.setIfInBounds_toArray, List.set_cons_zero, List.set_cons_succ]
  refine wpAnyH_take (i := 5) (oi := ⟨some 15, _, _, _, _, _⟩) (v := ?_) rfl (by kernel_rfl) (by kernel_rfl) (by kernel_rfl) (fun _ _ _ h => h) (Or.inl ⟨by rfl, ?_⟩) (by assumption) ?_
  rotate_left
  · (intro w' hSw; (try dsimp only at hSw); go_simp <;> (with_reducible rfl))
  try simp only [Act.put, List.setIfInBounds_toArray, List.set_cons_zero, List.set_cons_succ]
  refine wpAnyH_take (i := 6) (oi := ⟨some 16, _, _, _, _, _⟩) (v := ?_) rfl (by kernel_rfl) (by kernel_rfl) (by kernel_rfl) (fun _ _ _ h => h) (Or.inl ⟨by rfl, ?_⟩) (by assumption) ?_
  rotate_left
  · (intro w' hSw; (try dsimp only at hSw); go_simp <;> (with_reducible rfl))
  try simp only [Act.put, List.setIfInBounds_toArray, List.set_cons_zero, List.set_cons_succ]
  refine wpAnyH_take (i := 7) (oi := ⟨some 17, _, _, _, _, _⟩) (v := ?_) rfl (by kernel_rfl) (by kernel_rfl) (by kernel_rfl) (fun _ _ _ h => h) (Or.inl ⟨by rfl, ?_⟩) (by assumption) ?_
  rotate_left
  · (intro w' hSw; (try dsimp only at hSw); go_simp <;> (with_reducible rfl))
  try simp only [Act.put, List.setIfInBounds_toArray, List.set_cons_zero, List.set_cons_succ]
  refine wpAnyH_take (i := 8) (oi := ⟨some 18, _, _, _, _, _⟩) (v := ?_) rfl (by kernel_rfl) (by kernel_rfl) (by kernel_rfl) (fun _ _ _ h => h) (Or.inl ⟨by rfl, ?_⟩) (by assumption) ?_
  rotate_left
  · (intro w' hSw; (try dsimp only at hSw); go_simp <;> (with_reducible rfl))
  try simp only [Act.put, List.setIfInBounds_toArray, List.set_cons_zero, List.set_cons_succ]
  refine wpAnyH_take (i := 9) (oi := ⟨some 19, _, _, _, _, _⟩) (v := ?_) rfl (by kernel_rfl) (by kernel_rfl) (by kernel_rfl) (fun _ _ _ h => h) (Or.inl ⟨by rfl, ?_⟩) (by assumption) ?_
  rotate_left
  · (intro w' hSw; (try dsimp only at hSw); go_simp <;> (with_reducible rfl))
  try simp only [Act.put, List.setIfInBounds_toArray, List.set_cons_zero, List.set_cons_succ]
  refine wpAnyH_take (i := 10) (oi := ⟨some 20, _, _, _, _, _⟩) (v := ?_) rfl (by kernel_rfl) (by kernel_rfl) (by kernel_rfl) (fun _ _ _ h => h) (Or.inl ⟨by rfl, ?_⟩) (by assumption) ?_
  rotate_left
  · (intro w' hSw; (try dsimp only at hSw); go_simp <;> (with_reducible rfl))
  try simp only [Act.put, List.setIfInBounds_toArray, List.set_cons_zero, List.set_cons_succ]
  refine wpAnyH_take (i := 11) (oi := ⟨some 21, _, _, _, _, _⟩) (v := ?_) rfl (by kernel_rfl) (by kernel_rfl) (by kernel_rfl) (fun _ _ _ h => h) (Or.inl ⟨by rfl, ?_⟩) (by assumption) ?_
  rotate_left
  · (intro w' hSw; (try dsimp only at hSw); go_simp <;> (with_reducible rfl))
  try simp only [Act.put, List.setIfInBounds_toArray, List.set_cons_zero, List.set_cons_succ]
  refine wpAnyH_take (i := 12) (oi := ⟨some 22, _, _, _, _, _⟩) (v := ?_) rfl (by kernel_rfl) (by kernel_rfl) (by kernel_rfl) (fun _ _ _ h => h) (Or.inl ⟨by rfl, ?_⟩) (by assumption) ?_
  rotate_left
  · (intro w' hSw; (try dsimp only at hSw); go_simp <;> (with_reducible rfl))
  try simp only [Act.put, List.setIfInBounds_toArray, List.set_cons_zero, List.set_cons_succ]
  refine wpAnyH_take (i := 13) (oi := ⟨some 4, _, _, _, _, _⟩) (v := ?_) rfl (by kernel_rfl) (by kernel_rfl) (by kernel_rfl) (fun _ _ _ h => h) (Or.inl ⟨by rfl, ?_⟩) (by assumption) ?_
  rotate_left
  · (intro w' hSw; (try dsimp only at hSw); go_simp <;> (with_reducible rfl))
  try simp only [Act.put, List.setIfInBounds_toArray, List.set_cons_zero, List.set_cons_succ]
  refine wpAnyH_done (by kernel_rfl) ?_ _
  go_wp2_with fail
  go_ret
  exact ⟨rfl, HB.out⟩
end Go.Proofs.Ytejhakkfgfahaaa
/- The walk of BeamTilts. -/
namespace Go.Proofs.Ytejhakkfgfahaaa
open Go.RowKit Go.Great
theorem tlE_of {C D Z T : Int} (h1 : -900 ≤ C ∧ C ≤ 900) (h2 : 1 ≤ D ∧ D ≤ 900) (h3 : 0 ≤ Z ∧ Z ≤ 400) (h4 : -900 ≤ T ∧ T ≤ 900) : tlE C D Z T = 0 := by
  rw [tlE_ref, if_pos ⟨withinB_iff.2 h1, withinB_iff.2 h2, withinB_iff.2 h3, withinB_iff.2 h4⟩]
theorem tl_centre {C D Z T : Int} (h : tlE C D Z T = 0) : tlE C D Z C = 0 ∧ tlR C D Z C = 0 := by
  obtain ⟨h1, h2, h3, -⟩ := tlE_zero h
  have h4 := tlE_of h1 h2 h3 h1
  refine ⟨h4, ?_⟩
  unfold tlR tlQ
  rw [if_pos h4, Int.sub_self, Int.mul_zero, Int.zero_tdiv]
  omega
theorem tl_further {C D Z T U : Int} (h : tlE C D Z T = 0) (hu : -900 ≤ U ∧ U ≤ 900) (hU : (T < C ∧ U = T - 1) ∨ (¬ T < C ∧ U = T + 1)) : tlE C D Z U = 0 ∧ tlR C D Z T ≤ tlR C D Z U := by
  obtain ⟨h1, h2, h3, -⟩ := tlE_zero h
  have h4 := tlE_of h1 h2 h3 hu
  refine ⟨h4, ?_⟩
  unfold tlR tlQ
  rw [if_pos h, if_pos h4]
  have e1 : (T - C) * (T - C) ≤ (U - C) * (U - C) := by
    obtain ⟨x, hx⟩ : ∃ z, T - C = z := ⟨_, rfl⟩
    rcases hU with ⟨k1, k2⟩ | ⟨k1, k2⟩
    · rw [show U - C = x - 1 by omega, hx]
      have : (x - 1) * (x - 1) = x * x + (1 - 2 * x) := by grind
      omega
    · rw [show U - C = x + 1 by omega, hx]
      have : (x + 1) * (x + 1) = x * x + (1 + 2 * x) := by grind
      omega
  have e0 : 0 ≤ (T - C) * (T - C) := by
    rcases Int.le_total 0 (T - C) with k | k
    · exact Int.mul_nonneg k k
    · have := Int.mul_nonneg (show 0 ≤ -(T - C) by omega) (show 0 ≤ -(T - C) by omega)
      rwa [Int.neg_mul_neg] at this
  have b3 : 0 < D * D := Int.mul_pos (by omega) (by omega)
  rw [Int.mul_assoc, Int.mul_assoc, Int.tdiv_eq_ediv_of_nonneg (by omega), Int.tdiv_eq_ediv_of_nonneg (by omega)]
  have := Int.ediv_le_ediv b3 (show 120 * ((T - C) * (T - C)) ≤ 120 * ((U - C) * (U - C)) by omega)
  omega
set_option maxHeartbeats 4000000 in
set_option maxRecDepth 100000 in
theorem beamTilts_walk (C D Z T : Int) (w : World) :
    Calls Try.prog 10 #[.agg #[.int .i64 C, .int .i64 D, .int .i64 Z], .int .i64 T] w fun e w' => e = .returned (.bool true) ∧ Below w.heap.size w w' := by
  have HL := hide (fun T W => TiltLoss_any C D Z T W)
  have HTE := hide (fun W => TiltErr_any C D Z T W)
  have HRF := hide (fun W h => TiltLoss_ref C D Z T W h)
  have HC := hide (tl_centre (C := C) (D := D) (Z := Z) (T := T))
  have HFU := hide (fun U => tl_further (C := C) (D := D) (Z := Z) (T := T) (U := U))
  have HZ := hide (tlE_zero (C := C) (D := D) (Z := Z) (T := T))
  have HR := hide (show tlR C D Z T = if tlE C D Z T = 0 then min (tlQ C D T) Z else 0 from rfl)
  have HLT := hide (HL.out T)
  obtain ⟨R, hr⟩ : ∃ z, tlR C D Z T = z := ⟨_, rfl⟩
  obtain ⟨V, hv⟩ : ∃ z, tlE C D Z T = z := ⟨_, rfl⟩
  simp only [hr, hv] at HLT HTE HRF HC HFU HZ HR
  clear hr hv
  go_enter Try.func10, Try.ntmps10
  go_upto_region 1 with fail
  obtain ⟨w_1, hw_1⟩ : ∃ q : World, q = (w.alloc (.cells #[.int .i64 C, .int .i64 D, .int .i64 Z] 76)) := ⟨_, rfl⟩
  try rw [← hw_1]
  have HX0 := hide (show Box w_1 (w.heap.size) 76 #[.int .i64 C, .int .i64 D, .int .i64 Z] by rw [hw_1]; exact Box.made rfl)
  have HB := hide (show Below w.heap.size w w_1 by rw [hw_1]; (repeat (first | (with_reducible exact Below.refl _ _) | (with_reducible refine Go.below_drewN ?_ _) | (with_reducible refine Below.drew ?_) | (with_reducible refine Below.alloc ?_ (by first | exact Nat.le_refl _ | (simp; done) | (simp; omega) | omega) _) | (with_reducible refine Below.setCell ?_ (by first | exact Nat.le_refl _ | (simp; done) | (simp; omega) | omega) _))))
  clear hw_1
  go_wp2_with fail
  refine (awake_any _).mono ?_
  rintro e_ w_2 ⟨rfl, hb_2⟩
  replace HX0 := hide (HX0.out.below hb_2)
  replace HB := hide (HB.out.trans (hb_2.mono HB.out.size))
  clear hb_2
  obtain ⟨x0, x1, x2, hlx⟩ := HX0.out.c3
  go_wp2_with fail
  refine (HLT.out _).mono ?_
  rintro e_ w_3 ⟨rfl, hb_3⟩
  replace HX0 := hide (HX0.out.below hb_3)
  replace HB := hide (HB.out.trans (hb_3.mono HB.out.size))
  clear hb_3
  clear x0 x1 x2 hlx
  obtain ⟨x0, x1, x2, hlx⟩ := HX0.out.c3
  go_wp2_with fail
  refine (HTE.out _).mono ?_
  rintro e_ w_4 ⟨rfl, hb_4⟩
  replace HX0 := hide (HX0.out.below hb_4)
  replace HB := hide (HB.out.trans (hb_4.mono HB.out.size))
  clear hb_4
  clear x0 x1 x2 hlx
  by_cases h0 : V = 0
  case neg =>
    have tv : (V != 0) = true := by simpa using h0
    have hR0 : R = 0 := HR.out.trans (if_neg h0)
    subst hR0
    go_wp2_with fail
    go_ret
    exact ⟨by first | rfl | simp, HB.out⟩
  subst h0
  obtain ⟨hC, hD, hZ, hT⟩ := HZ.out rfl
  obtain ⟨hc1, hc2⟩ := HC.out rfl
  have HL0 := hide (HL.out C)
  simp only [hc1, hc2] at HL0
  clear HC HZ HR HLT HTE hc1 hc2
  obtain ⟨x0, x1, x2, hlx⟩ := HX0.out.c3
  go_wp2_with fail
  refine (HRF.out _ trivial).mono ?_
  rintro e_ w_5 ⟨rfl, hb_5⟩
  replace HX0 := hide (HX0.out.below hb_5)
  replace HB := hide (HB.out.trans (hb_5.mono HB.out.size))
  clear hb_5
  clear x0 x1 x2 hlx
  obtain ⟨x0, x1, x2, hlx⟩ := HX0.out.c3
  go_wp2_with fail
  refine (HL0.out _).mono ?_
  rintro e_ w_6 ⟨rfl, hb_6⟩
  replace HX0 := hide (HX0.out.below hb_6)
  replace HB := hide (HB.out.trans (hb_6.mono HB.out.size))
  clear hb_6
  clear x0 x1 x2 hlx
  obtain ⟨x0, x1, x2, hlx⟩ := HX0.out.c3
  have q1 : IntKind.i64.wrap (T + 1) = T + 1 := IntWalk.i64_in _ (by omega)
  have q2 : IntKind.i64.wrap (T - 1) = T - 1 := IntWalk.i64_in _ (by omega)
  clear HL0 HRF
  by_cases hlt : T < C
  all_goals
    obtain ⟨U, hU, hUU⟩ : ∃ U : Int, ((T < C ∧ U = T - 1) ∨ (¬ T < C ∧ U = T + 1)) ∧ (if T < C then T - 1 else T + 1) = U := by
      by_cases h : T < C
      · exact ⟨_, .inl ⟨h, rfl⟩, if_pos h⟩
      · exact ⟨_, .inr ⟨h, rfl⟩, if_neg h⟩
    have HU := hide hU
    have HLU := hide (HL.out U)
    have HFUU := hide (HFU.out U)
    first | rw [if_pos hlt] at hUU | rw [if_neg hlt] at hUU
    skip
    clear hU
    have HW := hide (fun W => within_any U (-900) 900 W)
    obtain ⟨b, hb⟩ : ∃ z, withinB U (-900) 900 = z := ⟨_, rfl⟩
    simp only [hb] at HW
    have HBB := hide hb
    clear hb
    cases b
    case false =>
      go_wp2_with (go_at_call 17; refine (HW.out _).mono ?_; rintro e_ v_ ⟨rfl, rfl⟩)
      go_ret
      exact ⟨rfl, HB.out⟩
    obtain ⟨hu0, hur⟩ := HFUU.out trivial (withinB_iff.1 HBB.out) (by have := HU.out; omega)
    rw [hu0] at HLU
    clear hu0
    go_wp2_with (go_at_call 17; refine (HW.out _).mono ?_; rintro e_ v_ ⟨rfl, rfl⟩)
    refine (HLU.out _).mono ?_
    rintro e_ w_7 ⟨rfl, hb_7⟩
    replace HX0 := hide (HX0.out.below hb_7)
    replace HB := hide (HB.out.trans (hb_7.mono HB.out.size))
    clear hb_7
    clear x0 x1 x2 hlx
    go_wp2_with fail
    go_ret
    exact ⟨by first | rfl | simp, HB.out⟩
end Go.Proofs.Ytejhakkfgfahaaa
