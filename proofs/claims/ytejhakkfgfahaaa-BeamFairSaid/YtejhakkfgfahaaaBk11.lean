/- Lemmas: E18. -/
import Derived.Test.YtejhakkfgfahaaaBk07
import Derived.Test.YtejhakkfgfahaaaBk09
import Derived.Test.YtejhakkfgfahaaaBk10
set_option linter.unusedVariables false
set_option linter.unusedSimpArgs false
/- SplitOf of the reference. -/
namespace Go.Proofs.Ytejhakkfgfahaaa
open Go.RowKit Go.Great
/-- What is left behind k beams in the reference. -/
def rlN (P M : Int) (X : Nat → Int) (L : Nat) (u f : Int) (k : Nat) : Int := if (L : Int) < M then lfN (L : Int) X f k else P - u
theorem rl_step {P M u f : Int} {X : Nat → Int} {L : Nat} (hf : f = if (L : Int) < M then P - u else 0) (hu : u ≤ P) (k : Nat) :
    rlN P M X L u f (k + 1) = (if 0 < rlN P M X L u f k ∧ (L : Int) < X k ∧ (L : Int) < M then rlN P M X L u f k - 1 else rlN P M X L u f k) ∧ spF (L : Int) X f k = (if 0 < rlN P M X L u f k ∧ (L : Int) < X k ∧ (L : Int) < M then min (X k) (L : Int) + 1 else min (X k) (L : Int)) ∧ 0 ≤ rlN P M X L u f k ∧ rlN P M X L u f k ≤ P - u := by
  by_cases h : (L : Int) < M
  · rw [if_pos h] at hf
    have hb := lfN_bounds (r := (L : Int)) (X := X) (l0 := f) (by omega) k
    unfold rlN
    rw [if_pos h, if_pos h]
    refine ⟨?_, ?_, by omega, by omega⟩
    · show (if (L : Int) < X k ∧ 0 < lfN (L : Int) X f k then lfN (L : Int) X f k - 1 else lfN (L : Int) X f k) = _
      by_cases h1 : (L : Int) < X k <;> by_cases h2 : 0 < lfN (L : Int) X f k <;> simp [h1, h2, h]
    · unfold spF
      by_cases h1 : (L : Int) < X k <;> by_cases h2 : 0 < lfN (L : Int) X f k <;> simp [h1, h2, h]
  · rw [if_neg h] at hf
    subst hf
    have hb := lfN_bounds (r := (L : Int)) (X := X) (l0 := 0) (Int.le_refl _) k
    unfold rlN
    rw [if_neg h, if_neg h]
    refine ⟨by rw [if_neg (fun q => h q.2.2)], ?_, by omega, by omega⟩
    unfold spF
    rw [if_neg (fun q => by omega), if_neg (fun q => h q.2.2)]
set_option maxHeartbeats 8000000 in
set_option maxRecDepth 100000 in
theorem SplitOf_ref (P : Int) (M : Nat) (A : Option Addr) (n c : Nat) (X : Nat → Int) (w : World) (hP : 0 ≤ P ∧ P ≤ 1000000) (hM : M ≤ 1000000) (hn : n ≤ 12) (hX : ∀ j, j < n → 0 ≤ X j ∧ X j ≤ 1000000) (hI : IntsAt w 0 A n X) :
    Calls Try.prog 40 #[.agg #[.int .i64 P, .int .i64 (M : Int)], .slice A n c] w fun e w' => ∃ B d, e = .returned (.slice B n d) ∧ n ≤ d ∧ d ≤ 9223372036854775807 ∧ IntsAt w' w.heap.size B n (spV P (M : Int) n X) ∧ Below w.heap.size w w' := by
  have HUS := hide (fun (L : Nat) W (hL : L ≤ 1000000) (h : IntsAt W 0 A n X) => used_any (L : Int) A n c X W (by omega) (by omega) hX h)
  have HLI := hide (fun r h => level_is (P := P) (X := X) (n := n) (N := M) (r := r) h)
  have HLD := hide (level_does (P := P) (X := X) (n := n) (N := M) hP.1 (fun j hj => (hX j hj).1))
  have HSV := hide (fun j => (show spV P (M : Int) n X j = spF (lvN P X n M : Int) X (lf0 P (M : Int) X n (lvN P X n M : Int)) j from rfl))
  have HUB := hide (fun (L : Nat) => usN_bounds (L := (L : Int)) (X := X) (M := 1000000) (by omega) n hX)
  have HLE := hide (lvN_le (P := P) (X := X) (n := n) M)
  have HOV := hide (fun r => (show ovB P X n r = decide (P < usN ((r : Int) + 1) X n) from rfl))
  have HXX := hide hX
  obtain ⟨S, hS⟩ : ∃ z, spV P (M : Int) n X = z := ⟨_, rfl⟩
  simp only [hS] at HSV ⊢
  have HI := hide hI
  clear hI hS hX
  go_enter Try.func40, Try.ntmps40
  go_upto_region 1 with fail
  obtain ⟨w_1, hw_1⟩ : ∃ q : World, q = (w.alloc (.cells #[.int .i64 P, .int .i64 (M : Int)] 67)) := ⟨_, rfl⟩
  try rw [← hw_1]
  have HX0 := hide (show Box w_1 (w.heap.size) 67 #[.int .i64 P, .int .i64 (M : Int)] by rw [hw_1]; exact Box.made rfl)
  have HB := hide (show Below w.heap.size w w_1 by rw [hw_1]; (repeat (first | (with_reducible exact Below.refl _ _) | (with_reducible refine Go.below_drewN ?_ _) | (with_reducible refine Below.drew ?_) | (with_reducible refine Below.alloc ?_ (by first | exact Nat.le_refl _ | (simp; done) | (simp; omega) | omega) _) | (with_reducible refine Below.setCell ?_ (by first | exact Nat.le_refl _ | (simp; done) | (simp; omega) | omega) _))))
  clear hw_1
  obtain ⟨x0, x1, -, -, hlx⟩ := HX0.out.c2
  have q0 : IntKind.i64.wrap ((M : Int) + 1) = ((M + 1 : Nat) : Int) := by rw [show (M : Int) + 1 = ((M + 1 : Nat) : Int) by omega]; exact IntWalk.i64_in _ (by omega)
  refine wp_region_held_drew (S := fun w' => w'.cell? ⟨w.heap.size, 1, none⟩ = some (.int .i64 (M : Int))) (by kernel_rfl) HX0.out.c2.2.1 (fun hHeld => ?_)
  obtain ⟨w_2, hw_2⟩ : ∃ q : World, q = w_1.drew := ⟨_, rfl⟩
  rw [← hw_2] at hHeld ⊢
  have hc_2 : Below w_1.heap.size w_1 w_2 := by rw [hw_2]; exact (Below.refl _ _).drew
  clear hw_2
  replace HX0 := hide (HX0.out.below hc_2)
  replace HB := hide (HB.out.trans (hc_2.mono HB.out.size))
  clear hc_2
  refine wpAnyH_take (i := 0) (oi := ⟨some 12, _, _, _, _, _⟩) (v := ?_) rfl (by kernel_rfl) (by kernel_rfl) (by kernel_rfl) (fun _ _ _ h => h) (Or.inl ⟨by rfl, ?_⟩) (by assumption) ?_
  rotate_left
  · (intro w' hSw; (try dsimp only at hSw); go_simp <;> (with_reducible rfl))
  try simp only [Act.put, List.setIfInBounds_toArray, List.set_cons_zero, List.set_cons_succ]
  refine wpAnyH_take (i := 1) (oi := ⟨some 13, _, _, _, _, _⟩) (v := ?_) rfl (by kernel_rfl) (by kernel_rfl) (by kernel_rfl) (fun _ _ _ h => h) (Or.inl ⟨by rfl, ?_⟩) (by assumption) ?_
  rotate_left
  · (intro w' hSw; (try dsimp only at hSw); go_simp <;> (with_reducible rfl))
  try simp only [Act.put, List.setIfInBounds_toArray, List.set_cons_zero, List.set_cons_succ]
  refine wpAnyH_take (i := 2) (oi := ⟨some 14, _, _, _, _, _⟩) (v := ?_) rfl (by kernel_rfl) (by kernel_rfl) (by kernel_rfl) (fun _ _ _ h => h) (Or.inl ⟨by rfl, ?_⟩) (by assumption) ?_
  rotate_left
  · (intro w' hSw; (try dsimp only at hSw); go_simp <;> (with_reducible rfl))
  try simp only [Act.put, List.setIfInBounds_toArray, List.set_cons_zero, List.set_cons_succ]
  refine wpAnyH_take (i := 3) (oi := ⟨some 5, _, _, _, _, _⟩) (v := ?_) rfl (by kernel_rfl) (by kernel_rfl) (by kernel_rfl) (fun _ _ _ h => h) (Or.inl ⟨by rfl, ?_⟩) (by assumption) ?_
  rotate_left
  · (intro w' hSw; (try dsimp only at hSw); go_simp <;> (with_reducible rfl))
  try simp only [Act.put, List.setIfInBounds_toArray, List.set_cons_zero, List.set_cons_succ]
  refine wpAnyH_take (i := 4) (oi := ⟨some 6, _, _, _, _, _⟩) (v := ?_) rfl (by kernel_rfl) (by kernel_rfl) (by kernel_rfl) (fun _ _ _ h => h) (Or.inl ⟨by rfl, ?_⟩) (by assumption) ?_
  rotate_left
  · (intro w' hSw; (try dsimp only at hSw); go_simp <;> (with_reducible rfl))
  try simp only [Act.put, List.setIfInBounds_toArray, List.set_cons_zero, List.set_cons_succ]
  refine wpAnyH_done (by kernel_rfl) ?_ _
  clear x0 x1 hlx
  go_wp2_with fail
  go_loopg [5, 6, 7] (M + 1) (fun gg a b _ wr => ∃ i j : Nat, i < j ∧ j ≤ M + 1 ∧ j - i ≤ gg ∧ a = .int .i64 (i : Int) ∧ b = .int .i64 (j : Int) ∧ Hid (j = M + 1 ∨ P < usN (j : Int) X n) ∧ Hid (i = 0 ∨ usN (i : Int) X n ≤ P) ∧ Hid (Box wr w.heap.size 67 #[.int .i64 P, .int .i64 (M : Int)]) ∧ Hid (Below w.heap.size w wr))
  case atStart => exact ⟨0, M + 1, Nat.succ_pos _, Nat.le_refl _, by omega, rfl, by first | rfl | (rw [q0]), hide (.inl rfl), hide (.inl rfl), HX0, HB⟩
  case round =>
    clear HX0 HB q0
    obtain ⟨i, j, hij, hjM, hg, rfl, rfl, HJ, HL, HX0, HB⟩ := hrel
    obtain ⟨wA, rfl⟩ : ∃ x : World, x = wr := ⟨_, rfl⟩
    have q0 : IntKind.i64.wrap ((j : Int) - (i : Int)) = (j : Int) - (i : Int) := IntWalk.i64_in _ (by omega)
    by_cases hlt : 1 < j - i
    case pos =>
      have hltz : (1 : Int) < (j : Int) - (i : Int) := by omega
      obtain ⟨h, hh⟩ : ∃ h : Nat, (i + j) / 2 = h := ⟨_, rfl⟩
      have h1 : i < h := by omega
      have h2 : h < j := by omega
      have q1 : IntKind.i64.wrap ((i : Int) + (j : Int)) = ((i + j : Nat) : Int) := by rw [IntWalk.i64_in _ (by omega)]; omega
      have hz : ((i : Int) + (j : Int)) / 2 = (h : Int) := by omega
      have hz2 : ((i + j : Nat) : Int).tdiv 2 = (h : Int) := by rw [Int.tdiv_eq_ediv_of_nonneg (by omega)]; omega
      have hz3 : ((i : Int) + (j : Int)).tdiv 2 = (h : Int) := by rw [Int.tdiv_eq_ediv_of_nonneg (by omega)]; omega
      have HUH := hide (fun W (k : IntsAt W 0 A n X) => HUS.out h W (by omega) k)
      obtain ⟨u, hu⟩ : ∃ z, usN (h : Int) X n = z := ⟨_, rfl⟩
      simp only [hu] at HUH
      have HUU := hide hu
      clear hu hh
      go_upto_region 4 with fail
      refine wp_region_held_drew (S := fun w' => w'.cell? ⟨w.heap.size, 0, none⟩ = some (.int .i64 P)) (by kernel_rfl) HX0.out.c2.1 (fun hHeld => ?_)
      obtain ⟨w_3, hw_3⟩ : ∃ q : World, q = wA.drew := ⟨_, rfl⟩
      rw [← hw_3] at hHeld ⊢
      have hc_3 : Below wA.heap.size wA w_3 := by rw [hw_3]; exact (Below.refl _ _).drew
      clear hw_3
      replace HX0 := hide (HX0.out.below hc_3)
      replace HB := hide (HB.out.trans (hc_3.mono HB.out.size))
      clear hc_3
      refine wpAnyH_take (i := 0) (oi := ⟨some 23, _, _, _, _, _⟩) (v := ?_) rfl (by kernel_rfl) (by kernel_rfl) (by kernel_rfl) (fun _ _ _ h => h) (Or.inl ⟨by rfl, ?_⟩) (by assumption) ?_
      rotate_left
      · (intro w' hSw; (try dsimp only at hSw); go_simp <;> (with_reducible rfl))
      try simp only [Act.put, List.setIfInBounds_toArray, List.set_cons_zero, List.set_cons_succ]
      refine wpAnyH_take (i := 1) (oi := ⟨some 24, _, _, _, _, _⟩) (v := ?_) rfl (by kernel_rfl) (by kernel_rfl) (by kernel_rfl) (fun _ _ _ h => h) (Or.inl ⟨by rfl, ?_⟩) (by assumption) ?_
      rotate_left
      · (intro w' hSw; (try dsimp only at hSw); go_simp <;> (with_reducible rfl))
      try simp only [Act.put, List.setIfInBounds_toArray, List.set_cons_zero, List.set_cons_succ]
      refine wpAnyH_take (i := 3) (oi := ⟨some 26, _, _, _, _, _⟩) (v := ?_) rfl (by kernel_rfl) (by kernel_rfl) (by kernel_rfl) (fun _ _ _ h => h) (Or.inl ⟨by rfl, ?_⟩) (by assumption) ?_
      rotate_left
      · (intro w' hSw; (try dsimp only at hSw); go_simp <;> (with_reducible rfl))
      try simp only [Act.put, List.setIfInBounds_toArray, List.set_cons_zero, List.set_cons_succ]
      refine wpAnyH_take (i := 4) (oi := ⟨some 27, _, _, _, _, _⟩) (v := ?_) rfl (by kernel_rfl) (by kernel_rfl) (by kernel_rfl) (fun _ _ _ h => h) (Or.inl ⟨by rfl, ?_⟩) (by assumption) ?_
      rotate_left
      · (intro w' hSw; (try dsimp only at hSw); go_simp <;> (with_reducible rfl))
      try simp only [Act.put, List.setIfInBounds_toArray, List.set_cons_zero, List.set_cons_succ]
      refine wpAnyH_ready (rs := [2]) (by kernel_rfl) (by simp) ?_
      refine AllReadyH.cons (o := ⟨some 25, _, _, _, _, _⟩) rfl (fun K' hK => ?_) AllReadyH.nil
      go_simp
      go_at_call 70
      refine (HUH.out _ (HI.out.below HB.out)).mono ?_
      rintro e_ v_ ⟨rfl, rfl⟩
      go_wp2_with fail
      refine hK.out _ _ HX0.out.c2.1 (fun hHeld => ?_)
      clear hK K'
      try simp only [Act.put, List.setIfInBounds_toArray, List.set_cons_zero, List.set_cons_succ]
      refine wpAnyH_take (i := 5) (oi := ⟨some 28, _, _, _, _, _⟩) (v := ?_) rfl (by kernel_rfl) (by kernel_rfl) (by kernel_rfl) (fun _ _ _ h => h) (Or.inl ⟨by rfl, ?_⟩) (by assumption) ?_
      rotate_left
      · (intro w' hSw; (try dsimp only at hSw); go_simp <;> (with_reducible rfl))
      try simp only [Act.put, List.setIfInBounds_toArray, List.set_cons_zero, List.set_cons_succ]
      refine wpAnyH_done (by kernel_rfl) ?_ _
      clear hz hz2 hz3 q1 q0
      by_cases hc : u ≤ P
      case pos =>
        go_wp2_with fail
        go_roundg (j - h)
        case measure => omega
        case rel => exact ⟨h, j, h2, hjM, by omega, by go_num, rfl, HJ, hide (.inr (by rw [HUU.out]; exact hc)), HX0, HB⟩
      go_wp2_with fail
      go_roundg (h - i)
      case measure => omega
      case rel => exact ⟨i, h, h1, by omega, by omega, rfl, by go_num, hide (.inr (by rw [HUU.out]; omega)), HL, HX0, HB⟩
    obtain rfl : j = i + 1 := by omega
    have hltz : ¬ (1 : Int) < ((i + 1 : Nat) : Int) - (i : Int) := by omega
    obtain rfl : i = lvN P X n M := HLI.out i ⟨by omega, by
        rcases HJ.out with h | h
        · exact .inl (by omega)
        · exact .inr ((HOV.out i).trans (decide_eq_true (by rw [Int.natCast_succ] at h; exact h))), by
        rcases HL.out with h | h
        · exact .inl h
        · by_cases h0 : i = 0
          · exact .inl h0
          · exact .inr ((HOV.out (i - 1)).trans (decide_eq_false (by rw [show ((i - 1 : Nat) : Int) + 1 = (i : Int) by omega]; omega)))⟩
    have hLM := HLE.out
    have HUL := hide (fun W (k : IntsAt W 0 A n X) => HUS.out (lvN P X n M) W (by omega) k)
    have HL0 := hide (show lf0 P (M : Int) X n (lvN P X n M : Int) = if (lvN P X n M : Int) < (M : Int) then P - usN (lvN P X n M : Int) X n else 0 from rfl)
    have hud := HLD.out
    have hub := HUB.out (lvN P X n M)
    generalize lvN P X n M = L at *
    obtain ⟨f, hf⟩ : ∃ z, lf0 P (M : Int) X n (L : Int) = z := ⟨_, rfl⟩
    simp only [hf] at HSV HL0
    obtain ⟨u, hu⟩ : ∃ z, usN (L : Int) X n = z := ⟨_, rfl⟩
    simp only [hu] at HL0 HUL hud hub
    clear hf hu HUS HLI HLD HOV HLE HJ HL HUB hg
    have HST := hide (fun k => rl_step (P := P) (M := (M : Int)) (X := X) (L := L) HL0.out hud k)
    have q1 : IntKind.i64.wrap (P - u) = P - u := IntWalk.i64_in _ (by omega)
    go_upto_region 7 with fail
    refine wp_region_held_drew (S := fun w' => w'.cell? ⟨w.heap.size, 0, none⟩ = some (.int .i64 P)) (by kernel_rfl) HX0.out.c2.1 (fun hHeld => ?_)
    obtain ⟨w_4, hw_4⟩ : ∃ q : World, q = wA.drew := ⟨_, rfl⟩
    rw [← hw_4] at hHeld ⊢
    have hc_4 : Below wA.heap.size wA w_4 := by rw [hw_4]; exact (Below.refl _ _).drew
    clear hw_4
    replace HX0 := hide (HX0.out.below hc_4)
    replace HB := hide (HB.out.trans (hc_4.mono HB.out.size))
    clear hc_4
    refine wpAnyH_take (i := 0) (oi := ⟨some 31, _, _, _, _, _⟩) (v := ?_) rfl (by kernel_rfl) (by kernel_rfl) (by kernel_rfl) (fun _ _ _ h => h) (Or.inl ⟨by rfl, ?_⟩) (by assumption) ?_
    rotate_left
    · (intro w' hSw; (try dsimp only at hSw); go_simp <;> (with_reducible rfl))
    try simp only [Act.put, List.setIfInBounds_toArray, List.set_cons_zero, List.set_cons_succ]
    refine wpAnyH_take (i := 1) (oi := ⟨some 32, _, _, _, _, _⟩) (v := ?_) rfl (by kernel_rfl) (by kernel_rfl) (by kernel_rfl) (fun _ _ _ h => h) (Or.inl ⟨by rfl, ?_⟩) (by assumption) ?_
    rotate_left
    · (intro w' hSw; (try dsimp only at hSw); go_simp <;> (with_reducible rfl))
    try simp only [Act.put, List.setIfInBounds_toArray, List.set_cons_zero, List.set_cons_succ]
    refine wpAnyH_take (i := 2) (oi := ⟨some 33, _, _, _, _, _⟩) (v := ?_) rfl (by kernel_rfl) (by kernel_rfl) (by kernel_rfl) (fun _ _ _ h => h) (Or.inl ⟨by rfl, ?_⟩) (by assumption) ?_
    rotate_left
    · (intro w' hSw; (try dsimp only at hSw); go_simp <;> (with_reducible rfl))
    try simp only [Act.put, List.setIfInBounds_toArray, List.set_cons_zero, List.set_cons_succ]
    refine wpAnyH_take (i := 3) (oi := ⟨some 34, _, _, _, _, _⟩) (v := ?_) rfl (by kernel_rfl) (by kernel_rfl) (by kernel_rfl) (fun _ _ _ h => h) (Or.inl ⟨by rfl, ?_⟩) (by assumption) ?_
    rotate_left
    · (intro w' hSw; (try dsimp only at hSw); go_simp <;> (with_reducible rfl))
    try simp only [Act.put, List.setIfInBounds_toArray, List.set_cons_zero, List.set_cons_succ]
    refine wpAnyH_ready (rs := [4]) (by kernel_rfl) (by simp) ?_
    refine AllReadyH.cons (o := ⟨some 35, _, _, _, _, _⟩) rfl (fun K' hK => ?_) AllReadyH.nil
    go_simp
    go_at_call 70
    refine (HUL.out _ (HI.out.below HB.out)).mono ?_
    rintro e_ v_ ⟨rfl, rfl⟩
    go_wp2_with fail
    refine hK.out _ _ HX0.out.c2.1 (fun hHeld => ?_)
    clear hK K'
    try simp only [Act.put, List.setIfInBounds_toArray, List.set_cons_zero, List.set_cons_succ]
    refine wpAnyH_take (i := 5) (oi := ⟨some 36, _, _, _, _, _⟩) (v := ?_) rfl (by kernel_rfl) (by kernel_rfl) (by kernel_rfl) (fun _ _ _ h => h) (Or.inl ⟨by rfl, ?_⟩) (by assumption) ?_
    rotate_left
    · (intro w' hSw; (try dsimp only at hSw); go_simp <;> (with_reducible rfl))
    try simp only [Act.put, List.setIfInBounds_toArray, List.set_cons_zero, List.set_cons_succ]
    refine wpAnyH_take (i := 6) (oi := ⟨some 8, _, _, _, _, _⟩) (v := ?_) rfl (by kernel_rfl) (by kernel_rfl) (by kernel_rfl) (fun _ _ _ h => h) (Or.inl ⟨by rfl, ?_⟩) (by assumption) ?_
    rotate_left
    · (intro w' hSw; (try dsimp only at hSw); go_simp <;> (with_reducible rfl))
    try simp only [Act.put, List.setIfInBounds_toArray, List.set_cons_zero, List.set_cons_succ]
    refine wpAnyH_done (by kernel_rfl) ?_ _
    clear q1 q0 HUL
    go_wp2_with fail
    obtain ⟨wB, hwB⟩ : ∃ z : World, z = w_4 := ⟨_, rfl⟩
    try rw [← hwB]
    rw [← hwB] at HX0 HB
    clear hwB
    go_loopw [8, 9, 10, 11] (fun l v i _ wr => ∃ k : Nat, k ≤ n ∧ i = .int .i64 (k : Int) ∧ l = .int .i64 (rlN P (M : Int) X L u f k) ∧ OwnInts wr (w.heap.size + 1) v k S ∧ Hid (Box wr w.heap.size 67 #[.int .i64 P, .int .i64 (M : Int)]) ∧ Hid (Below w.heap.size w wr)) (fun _ _ i _ _ => n - (Go.RowKit.intOf i).toNat)
    case atStart =>
      refine ⟨0, Nat.zero_le _, rfl, ?_, OwnInts.nil_ _ _ _, HX0, HB⟩
      have h0 : P - u = rlN P (M : Int) X L u f 0 := by
        unfold rlN
        split
        · rename_i h; show P - u = f; rw [HL0.out, if_pos h]
        · rfl
      rw [h0]
    case round =>
      clear HX0 HB HL0
      obtain ⟨k, hk, rfl, rfl, hown, HX0, HB⟩ := hrel
      obtain ⟨wC, rfl⟩ : ∃ x : World, x = wr := ⟨_, rfl⟩
      have hBs := HB.out.size
      have hl1 := HX0.out.lt
      by_cases hlt : k < n
      case neg =>
        obtain rfl : k = n := by omega
        obtain ⟨As, cs, rfl, hcs, hIs⟩ := hown.form
        have hcap := hown.cap_any
        go_wp2_with fail
        go_ret
        exact ⟨As, cs, rfl, hcap.1, hcap.2, hIs.weak (Nat.le_succ _), HB.out⟩
      have hltz : (k : Int) < (n : Int) := by omega
      obtain ⟨As, cs, rfl, hcs, hIs⟩ := hown.form
      obtain ⟨b, o, rfl, -, hbl, hcell⟩ := (HI.out.below HB.out) k hlt
      have hx := HXX.out k hlt
      have HFS := hide (HST.out k)
      have HSK := hide (HSV.out k)
      obtain ⟨x1, x2, x3, x4⟩ := HFS.out
      obtain ⟨x, hxx⟩ : ∃ z, X k = z := ⟨_, rfl⟩
      obtain ⟨l, hll⟩ : ∃ z, rlN P (M : Int) X L u f k = z := ⟨_, rfl⟩
      rw [hxx] at hcell hx x1 x2
      rw [hll] at x1 x2 x3 x4
      simp only [hll]
      have HN := hide x1
      have HSS := hide (HSK.out.trans x2)
      clear x1 x2 HFS HSK hxx hll
      obtain ⟨m, hm⟩ : ∃ z, min x (L : Int) = z := ⟨_, rfl⟩
      rw [hm] at HSS
      have hmb : 0 ≤ m ∧ m ≤ 1000000 := by omega
      have q1 : IntKind.i64.wrap (m + 1) = m + 1 := IntWalk.i64_in _ (by omega)
      have q2 : IntKind.i64.wrap (l - 1) = l - 1 := IntWalk.i64_in _ (by omega)
      obtain ⟨y0, y1, -, -, hly⟩ := HX0.out.c2
      have hMz : (M : Int) ≤ 1000000 := by omega
      by_cases h1 : 0 < l
      case neg =>
        have t1 : decide (0 < l) = false := by simpa using h1
        rw [if_neg (fun q => h1 q.1)] at HN HSS
        go_wp2_with (at_builtin; (try simp only [hm]); refine wpList_append_ints _ rfl (.tmp 69) (.tmp 71) rfl (w.heap.size + 1) 0 (.slice As k cs) k _ rfl (hown.alloc _) (some ⟨wC.heap.size, 0, none⟩) 1 1 (fun _ => m) rfl (IntsAt.one wC 0 (m) 3 (Nat.zero_le _)) (by omega) (by simp; omega) ?_; intro v' w' h1 hb2)
        go_roundw
        case rel =>
          refine ⟨k + 1, by omega, by go_num, by rw [HN.out], h1.congr (fun j hj => ?_), hide ((HX0.out.alloc _).kept hb2 (Nat.lt_succ_self _)), hide ((HB.out.alloc hBs _).trans (hb2.mono (Nat.le_succ _)))⟩
          unfold catF
          by_cases e : j < k
          · rw [if_pos e]
          · rw [if_neg e, show j = k by omega, HSS.out]
        case measure => simp [Go.RowKit.intOf]; omega
      have t1 : decide (0 < l) = true := by simpa using h1
      by_cases h2 : (L : Int) < x
      case neg =>
        have t2 : decide ((L : Int) < x) = false := by simpa using h2
        rw [if_neg (fun q => h2 q.2.1)] at HN HSS
        go_wp2_with (at_builtin; (try simp only [hm]); refine wpList_append_ints _ rfl (.tmp 69) (.tmp 71) rfl (w.heap.size + 1) 0 (.slice As k cs) k _ rfl (hown.alloc _) (some ⟨wC.heap.size, 0, none⟩) 1 1 (fun _ => m) rfl (IntsAt.one wC 0 (m) 3 (Nat.zero_le _)) (by omega) (by simp; omega) ?_; intro v' w' h1 hb2)
        go_roundw
        case rel =>
          refine ⟨k + 1, by omega, by go_num, by rw [HN.out], h1.congr (fun j hj => ?_), hide ((HX0.out.alloc _).kept hb2 (Nat.lt_succ_self _)), hide ((HB.out.alloc hBs _).trans (hb2.mono (Nat.le_succ _)))⟩
          unfold catF
          by_cases e : j < k
          · rw [if_pos e]
          · rw [if_neg e, show j = k by omega, HSS.out]
        case measure => simp [Go.RowKit.intOf]; omega
      have t2 : decide ((L : Int) < x) = true := by simpa using h2
      by_cases h3 : (L : Int) < (M : Int)
      case neg =>
        have t3 : decide ((L : Int) < (M : Int)) = false := by simpa using h3
        rw [if_neg (fun q => h3 q.2.2)] at HN HSS
        go_wp2_with (at_builtin; (try simp only [hm]); refine wpList_append_ints _ rfl (.tmp 69) (.tmp 71) rfl (w.heap.size + 1) 0 (.slice As k cs) k _ rfl (hown.alloc _) (some ⟨wC.heap.size, 0, none⟩) 1 1 (fun _ => m) rfl (IntsAt.one wC 0 (m) 3 (Nat.zero_le _)) (by omega) (by simp; omega) ?_; intro v' w' h1 hb2)
        go_roundw
        case rel =>
          refine ⟨k + 1, by omega, by go_num, by rw [HN.out], h1.congr (fun j hj => ?_), hide ((HX0.out.alloc _).kept hb2 (Nat.lt_succ_self _)), hide ((HB.out.alloc hBs _).trans (hb2.mono (Nat.le_succ _)))⟩
          unfold catF
          by_cases e : j < k
          · rw [if_pos e]
          · rw [if_neg e, show j = k by omega, HSS.out]
        case measure => simp [Go.RowKit.intOf]; omega
      have t3 : decide ((L : Int) < (M : Int)) = true := by simpa using h3
      rw [if_pos ⟨h1, h2, h3⟩] at HN HSS
      go_wp2_with (at_builtin; (try simp only [hm]); refine wpList_append_ints _ rfl (.tmp 69) (.tmp 71) rfl (w.heap.size + 1) 0 (.slice As k cs) k _ rfl (hown.alloc _) (some ⟨wC.heap.size, 0, none⟩) 1 1 (fun _ => m + 1) rfl (IntsAt.one wC 0 (m + 1) 3 (Nat.zero_le _)) (by omega) (by simp; omega) ?_; intro v' w' h1 hb2)
      go_roundw
      case rel =>
        refine ⟨k + 1, by omega, by go_num, by rw [HN.out], h1.congr (fun j hj => ?_), hide ((HX0.out.alloc _).kept hb2 (Nat.lt_succ_self _)), hide ((HB.out.alloc hBs _).trans (hb2.mono (Nat.le_succ _)))⟩
        unfold catF
        by_cases e : j < k
        · rw [if_pos e]
        · rw [if_neg e, show j = k by omega, HSS.out]
      case measure => simp [Go.RowKit.intOf]; omega
end Go.Proofs.Ytejhakkfgfahaaa
