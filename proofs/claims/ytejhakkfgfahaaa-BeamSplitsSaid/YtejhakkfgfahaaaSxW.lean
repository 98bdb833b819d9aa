/- Lemmas: E20. -/
import Derived.Test.YtejhakkfgfahaaaBk10
import Derived.Test.YtejhakkfgfahaaaBk11
set_option linter.unusedVariables false
set_option linter.unusedSimpArgs false
/- The walk of BeamSplits. -/
namespace Go.Proofs.Ytejhakkfgfahaaa
open Go.RowKit Go.Great
set_option maxHeartbeats 8000000 in
set_option maxRecDepth 100000 in
theorem beamSplits_walk (P M : Int) (A : Option Addr) (n c : Nat) (X : Nat → Int) (w : World) (hn9 : n ≤ 9223372036854775807) (hnc : n ≤ c) (hc9 : c ≤ 9223372036854775807) (hI : IntsAt w 0 A n X) :
    Calls Try.prog 8 #[.agg #[.int .i64 P, .int .i64 M], .slice A n c] w fun e w' => e = .returned (.bool true) ∧ Below w.heap.size w w' := by
  have HI := hide hI
  clear hI
  by_cases h14 : n ≤ 14
  case neg =>
    have hz : (14 : Int) < (n : Int) := by omega
    go_enter Try.func8, Try.ntmps8
    go_upto_region 1 with fail
    obtain ⟨w_1, hw_1⟩ : ∃ q : World, q = (w.alloc (.cells #[.int .i64 P, .int .i64 M] 67)) := ⟨_, rfl⟩
    try rw [← hw_1]
    have HX0 := hide (show Box w_1 (w.heap.size) 67 #[.int .i64 P, .int .i64 M] by rw [hw_1]; exact Box.made rfl)
    have HB := hide (show Below w.heap.size w w_1 by rw [hw_1]; (repeat (first | (with_reducible exact Below.refl _ _) | (with_reducible refine Go.below_drewN ?_ _) | (with_reducible refine Below.drew ?_) | (with_reducible refine Below.alloc ?_ (by first | exact Nat.le_refl _ | (simp; done) | (simp; omega) | omega) _) | (with_reducible refine Below.setCell ?_ (by first | exact Nat.le_refl _ | (simp; done) | (simp; omega) | omega) _))))
    clear hw_1
    go_wp2_with fail
    refine (awake_any _).mono ?_
    rintro e_ w_2 ⟨rfl, hb_2⟩
    replace HX0 := hide (HX0.out.below hb_2)
    replace HB := hide (HB.out.trans (hb_2.mono HB.out.size))
    clear hb_2
    go_wp2_with fail
    go_ret
    exact ⟨rfl, HB.out⟩
  have hz : ¬ (14 : Int) < (n : Int) := by omega
  have HCI := hide (fun W (h : IntsAt W 0 A n X) => copyInts_own A n c X W (by omega) h)
  have HCS := hide (fun (B : Option Addr) d W (h : IntsAt W 0 B n X) => CheckSplit_any P M B n d X W (by omega) h)
  have HSO := hide (fun (B : Option Addr) d W (h : IntsAt W 0 B n X) => SplitOf_any P M B n d X W (by omega) h)
  have HRC := hide (fun W (h : IntsAt W 0 A n X) => CheckSplit_ref P M A n c X W (by omega) h)
  have HWE := hide (fun W (h : IntsAt W 0 A n X) => WantsErr_any P M A n c X W hn9 h)
  have HZ := hide (waE_zero (P := P) (M := M) (n := n) (X := X))
  have HRS := hide (fun (N : Nat) W (e : M = (N : Int)) (h1 : 0 ≤ P ∧ P ≤ 1000000) (h2 : N ≤ 1000000) (h3 : n ≤ 12) (h4 : ∀ j, j < n → 0 ≤ X j ∧ X j ≤ 1000000) (h : IntsAt W 0 A n X) => (show Calls Try.prog 40 #[.agg #[.int .i64 P, .int .i64 M], .slice A n c] W fun e w' => ∃ B d, e = .returned (.slice B n d) ∧ n ≤ d ∧ d ≤ 9223372036854775807 ∧ IntsAt w' W.heap.size B n (spV P M n X) ∧ Below W.heap.size W w' by subst e; exact SplitOf_ref P N A n c X W h1 h2 h3 h4 h))
  obtain ⟨S, hS⟩ : ∃ z, spV P M n X = z := ⟨_, rfl⟩
  obtain ⟨V, hV⟩ : ∃ z, waE P M n X = z := ⟨_, rfl⟩
  obtain ⟨Cv, hCv⟩ : ∃ z, csV P M n X = z := ⟨_, rfl⟩
  obtain ⟨Cc, hCc⟩ : ∃ z, csC P M n X = z := ⟨_, rfl⟩
  simp only [hS, hV, hCv, hCc] at HCS HSO HRC HWE HZ HRS
  clear hS hV hCv hCc
  have HIN := hide (fun (B C : Option Addr) b c W (h : IntsAt W 0 B n S) (k : IntsAt W 0 C n S) => (show Calls Try.prog 19 #[.slice B n b, .slice C n c] W fun e w' => e = .returned (.bool true) ∧ ∃ q, w' = W.drewN q by
    have := ints_any B C n n b c S S W (by omega) (by omega) h k
    rw [intsB_iff.2 ⟨rfl, fun _ _ => rfl⟩] at this
    exact this))
  go_enter Try.func8, Try.ntmps8
  go_upto_region 1 with fail
  obtain ⟨w_1, hw_1⟩ : ∃ q : World, q = (w.alloc (.cells #[.int .i64 P, .int .i64 M] 67)) := ⟨_, rfl⟩
  try rw [← hw_1]
  have HX0 := hide (show Box w_1 (w.heap.size) 67 #[.int .i64 P, .int .i64 M] by rw [hw_1]; exact Box.made rfl)
  have HB := hide (show Below w.heap.size w w_1 by rw [hw_1]; (repeat (first | (with_reducible exact Below.refl _ _) | (with_reducible refine Go.below_drewN ?_ _) | (with_reducible refine Below.drew ?_) | (with_reducible refine Below.alloc ?_ (by first | exact Nat.le_refl _ | (simp; done) | (simp; omega) | omega) _) | (with_reducible refine Below.setCell ?_ (by first | exact Nat.le_refl _ | (simp; done) | (simp; omega) | omega) _))))
  clear hw_1
  go_wp2_with fail
  refine (awake_any _).mono ?_
  rintro e_ w_2 ⟨rfl, hb_2⟩
  replace HX0 := hide (HX0.out.below hb_2)
  replace HB := hide (HB.out.trans (hb_2.mono HB.out.size))
  clear hb_2
  go_upto_region 5 with fail
  refine wp_region_held_drew (S := fun w' => w'.cell? ⟨w.heap.size, 0, none⟩ = some (.int .i64 P) ∧ w'.cell? ⟨w.heap.size, 1, none⟩ = some (.int .i64 M)) (by kernel_rfl) ⟨HX0.out.c2.1, HX0.out.c2.2.1⟩ (fun hHeld => ?_)
  obtain ⟨w_3, hw_3⟩ : ∃ q : World, q = w_2.drew := ⟨_, rfl⟩
  rw [← hw_3] at hHeld ⊢
  have hc_3 : Below w_2.heap.size w_2 w_3 := by rw [hw_3]; exact (Below.refl _ _).drew
  clear hw_3
  replace HX0 := hide (HX0.out.below hc_3)
  replace HB := hide (HB.out.trans (hc_3.mono HB.out.size))
  clear hc_3
  refine wpAnyH_take (i := 0) (oi := ⟨some 17, _, _, _, _, _⟩) (v := ?_) rfl (by kernel_rfl) (by kernel_rfl) (by kernel_rfl) (fun _ _ _ h => h) (Or.inl ⟨by rfl, ?_⟩) (by assumption) ?_
  rotate_left
  · (intro w' hSw; (try dsimp only at hSw); go_simp <;> (with_reducible rfl))
  try simp only [Act.put, List.setIfInBounds_toArray, List.set_cons_zero, List.set_cons_succ]
  refine wpAnyH_take (i := 1) (oi := ⟨some 18, _, _, _, _, _⟩) (v := ?_) rfl (by kernel_rfl) (by kernel_rfl) (by kernel_rfl) (fun _ _ _ h => h) (Or.inl ⟨by rfl, ?_⟩) (by assumption) ?_
  rotate_left
  · (intro w' hSw; (try dsimp only at hSw); go_simp <;> (with_reducible rfl))
  try simp only [Act.put, List.setIfInBounds_toArray, List.set_cons_zero, List.set_cons_succ]
  refine wpAnyH_ready (rs := [2]) (by kernel_rfl) (by simp) ?_
  refine AllReadyH.cons (o := ⟨some 19, _, _, _, _, _⟩) rfl (fun K' hK => ?_) AllReadyH.nil
  go_simp
  go_at_call 36
  refine (HCI.out _ (HI.out.below HB.out)).mono ?_
  rintro e_ w_4 ⟨v, rfl, ho_4, hb_4⟩
  obtain ⟨B_4, d_4, rfl, hd_4, hi_4⟩ := ho_4.form
  have HC := hide (hi_4.weak (Nat.zero_le _))
  clear ho_4 hi_4
  replace HX0 := hide (HX0.out.below hb_4)
  replace HB := hide (HB.out.trans (hb_4.mono HB.out.size))
  clear hb_4
  go_wp2_with fail
  refine hK.out _ _ ⟨HX0.out.c2.1, HX0.out.c2.2.1⟩ (fun hHeld => ?_)
  clear hK K'
  try simp only [Act.put, List.setIfInBounds_toArray, List.set_cons_zero, List.set_cons_succ]
  refine wpAnyH_ready (rs := [3]) (by kernel_rfl) (by simp) ?_
  refine AllReadyH.cons (o := ⟨some 20, _, _, _, _, _⟩) rfl (fun K' hK => ?_) AllReadyH.nil
  go_simp
  go_at_call 35
  refine (HCS.out _ _ _ HC.out).mono ?_
  rintro e_ w_5 ⟨rfl, hb_5⟩
  replace HX0 := hide (HX0.out.below hb_5)
  replace HC := hide (HC.out.below hb_5)
  replace HB := hide (HB.out.trans (hb_5.mono HB.out.size))
  clear hb_5
  go_wp2_with fail
  clear HC
  refine hK.out _ _ ⟨HX0.out.c2.1, HX0.out.c2.2.1⟩ (fun hHeld => ?_)
  clear hK K'
  try simp only [Act.put, List.setIfInBounds_toArray, List.set_cons_zero, List.set_cons_succ]
  refine wpAnyH_take (i := 4) (oi := ⟨some 16, _, _, _, _, _⟩) (v := ?_) rfl (by kernel_rfl) (by kernel_rfl) (by kernel_rfl) (fun _ _ _ h => h) (Or.inl ⟨by rfl, ?_⟩) (by assumption) ?_
  rotate_left
  · (intro w' hSw; (try dsimp only at hSw); go_simp <;> (with_reducible rfl))
  try simp only [Act.put, List.setIfInBounds_toArray, List.set_cons_zero, List.set_cons_succ]
  refine wpAnyH_take (i := 5) (oi := ⟨some 21, _, _, _, _, _⟩) (v := ?_) rfl (by kernel_rfl) (by kernel_rfl) (by kernel_rfl) (fun _ _ _ h => h) (Or.inl ⟨by rfl, ?_⟩) (by assumption) ?_
  rotate_left
  · (intro w' hSw; (try dsimp only at hSw); go_simp <;> (with_reducible rfl))
  try simp only [Act.put, List.setIfInBounds_toArray, List.set_cons_zero, List.set_cons_succ]
  refine wpAnyH_take (i := 6) (oi := ⟨some 22, _, _, _, _, _⟩) (v := ?_) rfl (by kernel_rfl) (by kernel_rfl) (by kernel_rfl) (fun _ _ _ h => h) (Or.inl ⟨by rfl, ?_⟩) (by assumption) ?_
  rotate_left
  · (intro w' hSw; (try dsimp only at hSw); go_simp <;> (with_reducible rfl))
  try simp only [Act.put, List.setIfInBounds_toArray, List.set_cons_zero, List.set_cons_succ]
  refine wpAnyH_take (i := 7) (oi := ⟨some 5, _, _, _, _, _⟩) (v := ?_) rfl (by kernel_rfl) (by kernel_rfl) (by kernel_rfl) (fun _ _ _ h => h) (Or.inl ⟨by rfl, ?_⟩) (by assumption) ?_
  rotate_left
  · (intro w' hSw; (try dsimp only at hSw); go_simp <;> (with_reducible rfl))
  try simp only [Act.put, List.setIfInBounds_toArray, List.set_cons_zero, List.set_cons_succ]
  refine wpAnyH_take (i := 8) (oi := ⟨some 6, _, _, _, _, _⟩) (v := ?_) rfl (by kernel_rfl) (by kernel_rfl) (by kernel_rfl) (fun _ _ _ h => h) (Or.inl ⟨by rfl, ?_⟩) (by assumption) ?_
  rotate_left
  · (intro w' hSw; (try dsimp only at hSw); go_simp <;> (with_reducible rfl))
  try simp only [Act.put, List.setIfInBounds_toArray, List.set_cons_zero, List.set_cons_succ]
  refine wpAnyH_done (by kernel_rfl) ?_ _
  clear HCS
  go_upto_region 6 with fail
  refine wp_region_held_drew (S := fun w' => w'.cell? ⟨w.heap.size, 0, none⟩ = some (.int .i64 P) ∧ w'.cell? ⟨w.heap.size, 1, none⟩ = some (.int .i64 M)) (by kernel_rfl) ⟨HX0.out.c2.1, HX0.out.c2.2.1⟩ (fun hHeld => ?_)
  obtain ⟨w_6, hw_6⟩ : ∃ q : World, q = w_5.drew := ⟨_, rfl⟩
  rw [← hw_6] at hHeld ⊢
  have hc_6 : Below w_5.heap.size w_5 w_6 := by rw [hw_6]; exact (Below.refl _ _).drew
  clear hw_6
  replace HX0 := hide (HX0.out.below hc_6)
  replace HB := hide (HB.out.trans (hc_6.mono HB.out.size))
  clear hc_6
  refine wpAnyH_take (i := 0) (oi := ⟨some 24, _, _, _, _, _⟩) (v := ?_) rfl (by kernel_rfl) (by kernel_rfl) (by kernel_rfl) (fun _ _ _ h => h) (Or.inl ⟨by rfl, ?_⟩) (by assumption) ?_
  rotate_left
  · (intro w' hSw; (try dsimp only at hSw); go_simp <;> (with_reducible rfl))
  try simp only [Act.put, List.setIfInBounds_toArray, List.set_cons_zero, List.set_cons_succ]
  refine wpAnyH_take (i := 1) (oi := ⟨some 25, _, _, _, _, _⟩) (v := ?_) rfl (by kernel_rfl) (by kernel_rfl) (by kernel_rfl) (fun _ _ _ h => h) (Or.inl ⟨by rfl, ?_⟩) (by assumption) ?_
  rotate_left
  · (intro w' hSw; (try dsimp only at hSw); go_simp <;> (with_reducible rfl))
  try simp only [Act.put, List.setIfInBounds_toArray, List.set_cons_zero, List.set_cons_succ]
  refine wpAnyH_ready (rs := [2]) (by kernel_rfl) (by simp) ?_
  refine AllReadyH.cons (o := ⟨some 26, _, _, _, _, _⟩) rfl (fun K' hK => ?_) AllReadyH.nil
  go_simp
  go_at_call 36
  refine (HCI.out _ (HI.out.below HB.out)).mono ?_
  rintro e_ w_7 ⟨v, rfl, ho_7, hb_7⟩
  obtain ⟨B_7, d_7, rfl, hd_7, hi_7⟩ := ho_7.form
  have HC := hide (hi_7.weak (Nat.zero_le _))
  clear ho_7 hi_7
  replace HX0 := hide (HX0.out.below hb_7)
  replace HB := hide (HB.out.trans (hb_7.mono HB.out.size))
  clear hb_7
  go_wp2_with fail
  refine hK.out _ _ ⟨HX0.out.c2.1, HX0.out.c2.2.1⟩ (fun hHeld => ?_)
  clear hK K'
  try simp only [Act.put, List.setIfInBounds_toArray, List.set_cons_zero, List.set_cons_succ]
  refine wpAnyH_ready (rs := [3]) (by kernel_rfl) (by simp) ?_
  refine AllReadyH.cons (o := ⟨some 27, _, _, _, _, _⟩) rfl (fun K' hK => ?_) AllReadyH.nil
  go_simp
  go_at_call 37
  refine (HSO.out _ _ _ HC.out).mono ?_
  rintro e_ w_8 ⟨D, m, q, rfl, hm, hmq, hq12, hi_8, hb_8⟩
  have HS := hide (hi_8.weak (Nat.zero_le _))
  clear hi_8
  replace HX0 := hide (HX0.out.below hb_8)
  replace HC := hide (HC.out.below hb_8)
  replace HB := hide (HB.out.trans (hb_8.mono HB.out.size))
  clear hb_8
  clear HC
  have HM := hide hm
  clear hm hmq
  go_wp2_with fail
  refine hK.out _ _ ⟨HX0.out.c2.1, HX0.out.c2.2.1⟩ (fun hHeld => ?_)
  clear hK K'
  try simp only [Act.put, List.setIfInBounds_toArray, List.set_cons_zero, List.set_cons_succ]
  refine wpAnyH_take (i := 4) (oi := ⟨some 23, _, _, _, _, _⟩) (v := ?_) rfl (by kernel_rfl) (by kernel_rfl) (by kernel_rfl) (fun _ _ _ h => h) (Or.inl ⟨by rfl, ?_⟩) (by assumption) ?_
  rotate_left
  · (intro w' hSw; (try dsimp only at hSw); go_simp <;> (with_reducible rfl))
  try simp only [Act.put, List.setIfInBounds_toArray, List.set_cons_zero, List.set_cons_succ]
  refine wpAnyH_take (i := 5) (oi := ⟨some 28, _, _, _, _, _⟩) (v := ?_) rfl (by kernel_rfl) (by kernel_rfl) (by kernel_rfl) (fun _ _ _ h => h) (Or.inl ⟨by rfl, ?_⟩) (by assumption) ?_
  rotate_left
  · (intro w' hSw; (try dsimp only at hSw); go_simp <;> (with_reducible rfl))
  try simp only [Act.put, List.setIfInBounds_toArray, List.set_cons_zero, List.set_cons_succ]
  refine wpAnyH_take (i := 6) (oi := ⟨some 29, _, _, _, _, _⟩) (v := ?_) rfl (by kernel_rfl) (by kernel_rfl) (by kernel_rfl) (fun _ _ _ h => h) (Or.inl ⟨by rfl, ?_⟩) (by assumption) ?_
  rotate_left
  · (intro w' hSw; (try dsimp only at hSw); go_simp <;> (with_reducible rfl))
  try simp only [Act.put, List.setIfInBounds_toArray, List.set_cons_zero, List.set_cons_succ]
  refine wpAnyH_take (i := 7) (oi := ⟨some 7, _, _, _, _, _⟩) (v := ?_) rfl (by kernel_rfl) (by kernel_rfl) (by kernel_rfl) (fun _ _ _ h => h) (Or.inl ⟨by rfl, ?_⟩) (by assumption) ?_
  rotate_left
  · (intro w' hSw; (try dsimp only at hSw); go_simp <;> (with_reducible rfl))
  try simp only [Act.put, List.setIfInBounds_toArray, List.set_cons_zero, List.set_cons_succ]
  refine wpAnyH_take (i := 8) (oi := ⟨some 8, _, _, _, _, _⟩) (v := ?_) rfl (by kernel_rfl) (by kernel_rfl) (by kernel_rfl) (fun _ _ _ h => h) (Or.inl ⟨by rfl, ?_⟩) (by assumption) ?_
  rotate_left
  · (intro w' hSw; (try dsimp only at hSw); go_simp <;> (with_reducible rfl))
  try simp only [Act.put, List.setIfInBounds_toArray, List.set_cons_zero, List.set_cons_succ]
  refine wpAnyH_done (by kernel_rfl) ?_ _
  clear HSO
  obtain ⟨x0, x1, -, -, hlx⟩ := HX0.out.c2
  go_wp2_with fail
  refine (HRC.out _ (HI.out.below HB.out)).mono ?_
  rintro e_ w_9 ⟨rfl, hb_9⟩
  replace HX0 := hide (HX0.out.below hb_9)
  replace HS := hide (HS.out.below hb_9)
  replace HB := hide (HB.out.trans (hb_9.mono HB.out.size))
  clear hb_9
  clear x0 x1 hlx
  obtain ⟨x0, x1, -, -, hlx⟩ := HX0.out.c2
  go_wp2_with fail
  refine (HWE.out _ (HI.out.below HB.out)).mono ?_
  rintro e_ w_10 ⟨rfl, hb_10⟩
  replace HX0 := hide (HX0.out.below hb_10)
  replace HS := hide (HS.out.below hb_10)
  replace HB := hide (HB.out.trans (hb_10.mono HB.out.size))
  clear hb_10
  clear x0 x1 hlx
  obtain ⟨x0, x1, -, -, hlx⟩ := HX0.out.c2
  clear HRC HWE HCI
  by_cases hv : V = 0
  case neg =>
    have tv : (V != 0) = true := by simpa using hv
    obtain rfl : m = 0 := HM.out.2 hv
    go_wp2_with fail
    go_ret
    exact ⟨by first | rfl | simp, HB.out⟩
  subst hv
  obtain rfl : m = n := HM.out.1 rfl
  obtain ⟨⟨hP, hM⟩, hn12, hX⟩ := HZ.out (by first | rfl | trivial)
  have HRR := hide (fun W h => HRS.out M.toNat W (by omega) hP (by omega) hn12 hX h)
  clear HRS HZ HM hP hM hX hn12
  go_wp2_with fail
  refine (HRR.out _ (HI.out.below HB.out)).mono ?_
  rintro e_ w_11 ⟨G, e, rfl, he, he9, hG, hb_11⟩
  replace HX0 := hide (HX0.out.below hb_11)
  replace HS := hide (HS.out.below hb_11)
  replace HB := hide (HB.out.trans (hb_11.mono HB.out.size))
  clear hb_11
  have HG := hide (hG.weak (Nat.zero_le _))
  clear hG
  clear x0 x1 hlx
  go_wp2_with fail
  refine (HIN.out _ _ _ _ _ HS.out HG.out).mono ?_
  rintro e_ v_ ⟨rfl, q_, rfl⟩
  go_wp2_with fail
  go_ret
  exact ⟨by first | rfl | simp, Go.below_drewN HB.out _⟩
end Go.Proofs.Ytejhakkfgfahaaa
