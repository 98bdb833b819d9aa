/- Lemmas: S74. -/
import Derived.Test.YtceohaeebdhmjaaBk11
import Derived.Test.YtceohaeebdhmjaaBk23
set_option linter.unusedVariables false
set_option linter.unusedSimpArgs false
/- Determinant of the reference. -/
namespace Go.Proofs.Ytceohaeebdhmjaa
open Go Go.RowKit Go.Lib
theorem detE_ok {n : Nat} {L : Nat → Nat} {F : Nat → Nat → Gau} (h : matE n L F = 0) : detE n L F = if n = L 0 then if 2 < n then 8 else 0 else 13 := if_pos h
set_option maxHeartbeats 16000000 in
set_option maxRecDepth 100000 in
theorem DeterminantR_any (A : Option Addr) (n c : Nat) (L : Nat → Nat) (F : Nat → Nat → Gau) (w : World) (hX : matE n L F = 0) (hI : MatsAt w 0 A n L F) :
    Calls Try.prog 26 #[.slice A n c] w fun e w' => e = .returned (.tuple #[.agg #[.int .i64 (detV n L F).re, .int .i64 (detV n L F).im], .int .i64 (detE n L F)]) ∧ Below w.heap.size w w' := by
  have hok := matE_zero hX
  have HDE := hide (detE_ok hX)
  have HDV := hide (show detV n L F = if detE n L F = 0 then detG n F else Gau.zero from rfl)
  obtain ⟨E, hE⟩ : ∃ z, detE n L F = z := ⟨_, rfl⟩
  obtain ⟨d, hd⟩ : ∃ z, detV n L F = z := ⟨_, rfl⟩
  rw [hE] at HDE HDV
  rw [hd] at HDV
  rw [hE, hd]
  have HI := hide hI
  have hn1 := hok.n1
  have hm1 := hok.m1
  obtain ⟨b, o, A0, c0, rfl, -, -, y0, hc0, hc09, hR0⟩ := HI.out 0 (by omega)
  simp only [Nat.add_zero] at y0
  clear hI hE hd hX hc0 hc09
  by_cases hq : n = L 0
  case neg =>
    obtain rfl : E = 13 := HDE.out.trans (if_neg hq)
    obtain rfl : d = Gau.zero := HDV.out.trans (if_neg (by decide))
    have tq : ((n : Int) != (L 0 : Int)) = true := by simp; omega
    obtain ⟨l0, hl0⟩ : ∃ z, L 0 = z := ⟨_, rfl⟩
    rw [hl0] at y0 tq
    clear hl0 hq hm1
    clear HDE HDV HI hok hR0
    have HY0 := hide (fun W1 (h : Below w.heap.size w W1) => bcellW h y0)
    go_enter Try.func26, Try.ntmps26
    go_upto_region 1 with fail
    obtain ⟨b2, hb2⟩ : ∃ z, w.heap.size = z := ⟨_, rfl⟩
    obtain ⟨w1, hw1⟩ : ∃ z : World, z = w.alloc (.cells #[.int .i64 0, .int .i64 0] 43) := ⟨_, rfl⟩
    try rw [← hw1]
    have HX := hide (show Box w1 b2 43 #[.int .i64 0, .int .i64 0] by rw [hw1]; exact Box.made hb2.symm)
    have HB := hide (show Below w.heap.size w w1 by rw [hw1]; (repeat (first | (with_reducible exact Below.refl _ _) | (with_reducible refine Go.below_drewN ?_ _) | (with_reducible refine Below.drew ?_) | (with_reducible refine Below.alloc ?_ (by first | exact Nat.le_refl _ | (simp; done) | (simp; omega) | omega) _) | (with_reducible refine Below.setCell ?_ (by first | exact Nat.le_refl _ | (simp; done) | (simp; omega) | omega) _))))
    simp only [hb2]
    have hb2w : w.heap.size ≤ b2 := by omega
    clear hw1
    replace y0 := HY0.out _ HB.out
    obtain ⟨x0, x1, f0, f1, hly⟩ := HX.out.t2
    go_wp2_with fail
    obtain ⟨z0, z1⟩ := pairS_cells (HX.out.t2put (.int .i64 0) (.int .i64 0))
    refine bodyPost_ret (v := .tuple #[.agg #[(.int .i64 0), (.int .i64 0)], .int .i64 13]) ?_ rfl ⟨rfl, (by first | exact (HB.out.setCell (p := ⟨b2, 0, none⟩) hb2w _).setCell (p := ⟨b2, 1, none⟩) hb2w _ | exact hb2 ▸ (HB.out.setCell (p := ⟨b2, 0, none⟩) hb2w (.int .i64 0)).setCell (p := ⟨b2, 1, none⟩) hb2w (.int .i64 0))⟩
    simp [results, Try.results26, go_sem, z0, z1]
  have tq : ((n : Int) != (L 0 : Int)) = false := by simp; omega
  have HQ := hide hq
  replace HDE := hide (HDE.out.trans (if_pos hq))
  clear hq
  by_cases h2 : 2 < n
  case pos =>
    obtain rfl : E = 8 := HDE.out.trans (if_pos h2)
    obtain rfl : d = Gau.zero := HDV.out.trans (if_neg (by decide))
    have t2 : (2 : Int) < (n : Int) := by omega
    obtain ⟨l0, hl0⟩ : ∃ z, L 0 = z := ⟨_, rfl⟩
    rw [hl0] at y0 tq
    clear hl0 HQ hm1 h2
    clear HDE HDV HI hok hR0
    have HY0 := hide (fun W1 (h : Below w.heap.size w W1) => bcellW h y0)
    go_enter Try.func26, Try.ntmps26
    go_upto_region 1 with fail
    obtain ⟨b2, hb2⟩ : ∃ z, w.heap.size = z := ⟨_, rfl⟩
    obtain ⟨w1, hw1⟩ : ∃ z : World, z = w.alloc (.cells #[.int .i64 0, .int .i64 0] 43) := ⟨_, rfl⟩
    try rw [← hw1]
    have HX := hide (show Box w1 b2 43 #[.int .i64 0, .int .i64 0] by rw [hw1]; exact Box.made hb2.symm)
    have HB := hide (show Below w.heap.size w w1 by rw [hw1]; (repeat (first | (with_reducible exact Below.refl _ _) | (with_reducible refine Go.below_drewN ?_ _) | (with_reducible refine Below.drew ?_) | (with_reducible refine Below.alloc ?_ (by first | exact Nat.le_refl _ | (simp; done) | (simp; omega) | omega) _) | (with_reducible refine Below.setCell ?_ (by first | exact Nat.le_refl _ | (simp; done) | (simp; omega) | omega) _))))
    simp only [hb2]
    have hb2w : w.heap.size ≤ b2 := by omega
    clear hw1
    replace y0 := HY0.out _ HB.out
    obtain ⟨x0, x1, f0, f1, hly⟩ := HX.out.t2
    go_wp2_with fail
    obtain ⟨z0, z1⟩ := pairS_cells (HX.out.t2put (.int .i64 0) (.int .i64 0))
    refine bodyPost_ret (v := .tuple #[.agg #[(.int .i64 0), (.int .i64 0)], .int .i64 8]) ?_ rfl ⟨rfl, (by first | exact (HB.out.setCell (p := ⟨b2, 0, none⟩) hb2w _).setCell (p := ⟨b2, 1, none⟩) hb2w _ | exact hb2 ▸ (HB.out.setCell (p := ⟨b2, 0, none⟩) hb2w (.int .i64 0)).setCell (p := ⟨b2, 1, none⟩) hb2w (.int .i64 0))⟩
    simp [results, Try.results26, go_sem, z0, z1]
  obtain rfl : E = 0 := HDE.out.trans (if_neg h2)
  have t2 : ¬ (2 : Int) < (n : Int) := by omega
  have hdd : d = detG n F := HDV.out.trans (if_pos rfl)
  have hin := hok.inside
  have hlen := hok.len
  obtain ⟨l0, hl0⟩ : ∃ z, L 0 = z := ⟨_, rfl⟩
  have hn0 : n = l0 := HQ.out.trans hl0
  rw [hl0] at y0 tq hm1 hin hlen
  rw [hlen 0 (by omega)] at hR0
  obtain ⟨b0, o0, rfl, -, -⟩ := gaus_some hR0 (by omega)
  obtain ⟨y00, z00⟩ := gaus_at hR0 (i := 0) (by omega)
  simp only [Nat.zero_mul, Nat.add_zero] at y00 z00
  by_cases h1 : n = 1
  case pos =>
    have t1 : ((n : Int) == 1) = true := by simp; omega
    have hd1 : d = F 0 0 := by rw [hdd]; exact if_pos h1
    subst hd1
    obtain ⟨x, hx⟩ : ∃ z, F 0 0 = z := ⟨_, rfl⟩
    rw [hx] at y00 z00 ⊢
    have hl00 : 0 < l0 := by omega
    clear hx h1 h2 hdd hin hlen HDE HDV HI HQ hok hR0 hl0 hn0
    have HY1 := hide (fun W1 (h : Below w.heap.size w W1) => bcellW h y00)
    have HY2 := hide (fun W1 (h : Below w.heap.size w W1) => bcellW h z00)
    have HY0 := hide (fun W1 (h : Below w.heap.size w W1) => bcellW h y0)
    go_enter Try.func26, Try.ntmps26
    go_upto_region 1 with fail
    obtain ⟨b2, hb2⟩ : ∃ z, w.heap.size = z := ⟨_, rfl⟩
    obtain ⟨w1, hw1⟩ : ∃ z : World, z = w.alloc (.cells #[.int .i64 0, .int .i64 0] 43) := ⟨_, rfl⟩
    try rw [← hw1]
    have HX := hide (show Box w1 b2 43 #[.int .i64 0, .int .i64 0] by rw [hw1]; exact Box.made hb2.symm)
    have HB := hide (show Below w.heap.size w w1 by rw [hw1]; (repeat (first | (with_reducible exact Below.refl _ _) | (with_reducible refine Go.below_drewN ?_ _) | (with_reducible refine Below.drew ?_) | (with_reducible refine Below.alloc ?_ (by first | exact Nat.le_refl _ | (simp; done) | (simp; omega) | omega) _) | (with_reducible refine Below.setCell ?_ (by first | exact Nat.le_refl _ | (simp; done) | (simp; omega) | omega) _))))
    simp only [hb2]
    have hb2w : w.heap.size ≤ b2 := by omega
    clear hw1
    replace y0 := HY0.out _ HB.out
    replace y00 := HY1.out _ HB.out
    replace z00 := HY2.out _ HB.out
    obtain ⟨x0, x1, f0, f1, hly⟩ := HX.out.t2
    go_wp2_with fail
    obtain ⟨z0, z1⟩ := pairS_cells (HX.out.t2put (.int .i64 x.re) (.int .i64 x.im))
    refine bodyPost_ret (v := .tuple #[.agg #[(.int .i64 x.re), (.int .i64 x.im)], .int .i64 0]) ?_ rfl ⟨rfl, (by first | exact (HB.out.setCell (p := ⟨b2, 0, none⟩) hb2w _).setCell (p := ⟨b2, 1, none⟩) hb2w _ | exact hb2 ▸ (HB.out.setCell (p := ⟨b2, 0, none⟩) hb2w (.int .i64 x.re)).setCell (p := ⟨b2, 1, none⟩) hb2w (.int .i64 x.im))⟩
    simp [results, Try.results26, go_sem, z0, z1]
  have hn2 : n = 2 := by omega
  have t1 : ((n : Int) == 1) = false := by simp; omega
  obtain ⟨A1, c1, y1, -, -, hR1, -, -⟩ := mat_row HI.out (i := 1) (by omega)
  rw [hlen 1 (by omega)] at y1 hR1
  obtain ⟨b1, o1, rfl, -, -⟩ := gaus_some hR1 (by omega)
  obtain ⟨y01, z01⟩ := gaus_at hR0 (i := 1) (by omega)
  obtain ⟨y10, z10⟩ := gaus_at hR1 (i := 0) (by omega)
  obtain ⟨y11, z11⟩ := gaus_at hR1 (i := 1) (by omega)
  simp only [Nat.zero_mul, Nat.one_mul, Nat.add_zero] at y01 z01 y10 z10 y11 z11
  have HM1 := hide (fun W => gmulS_any (F 0 0) (F 1 1) 1000 1000 W (hin 0 0 (by omega) (by omega)) (hin 1 1 (by omega) (by omega)) (by decide))
  have HM2 := hide (fun W => gmulS_any (F 0 1) (F 1 0) 1000 1000 W (hin 0 1 (by omega) (by omega)) (hin 1 0 (by omega) (by omega)) (by decide))
  have hd2 : d = ((F 0 0).mul (F 1 1)).less ((F 0 1).mul (F 1 0)) := by rw [hdd]; exact if_neg h1
  have HSB := hide (fun W => gsubS_any ((F 0 0).mul (F 1 1)) ((F 0 1).mul (F 1 0)) 4000000 W (Gau.less_within (Gau.mul_within (hin 0 0 (by omega) (by omega)) (hin 1 1 (by omega) (by omega))) (Gau.mul_within (hin 0 1 (by omega) (by omega)) (hin 1 0 (by omega) (by omega)))) (by decide))
  rw [← hd2] at HSB
  obtain ⟨p, hp⟩ : ∃ z, (F 0 0).mul (F 1 1) = z := ⟨_, rfl⟩
  obtain ⟨s, hs⟩ : ∃ z, (F 0 1).mul (F 1 0) = z := ⟨_, rfl⟩
  simp only [hp, hs] at HM1 HM2 HSB
  obtain ⟨p0, hp0⟩ : ∃ z, (F 0 0).re = z := ⟨_, rfl⟩
  obtain ⟨q0, hq0⟩ : ∃ z, (F 0 0).im = z := ⟨_, rfl⟩
  obtain ⟨p1, hp1⟩ : ∃ z, (F 0 1).re = z := ⟨_, rfl⟩
  obtain ⟨q1, hq1⟩ : ∃ z, (F 0 1).im = z := ⟨_, rfl⟩
  obtain ⟨p2, hp2⟩ : ∃ z, (F 1 0).re = z := ⟨_, rfl⟩
  obtain ⟨q2, hq2⟩ : ∃ z, (F 1 0).im = z := ⟨_, rfl⟩
  obtain ⟨p3, hp3⟩ : ∃ z, (F 1 1).re = z := ⟨_, rfl⟩
  obtain ⟨q3, hq3⟩ : ∃ z, (F 1 1).im = z := ⟨_, rfl⟩
  simp only [hp0, hq0, hp1, hq1, hp2, hq2, hp3, hq3] at y00 z00 y01 z01 y10 z10 y11 z11 HM1 HM2
  have HYC := hide (fun W1 (h : Below w.heap.size w W1) => (⟨bcellW h y0, bcellW h y1, bcellW h y00, bcellW h z00, bcellW h y01, bcellW h z01, bcellW h y10, bcellW h z10, bcellW h y11, bcellW h z11⟩ : W1.cell? ⟨b, o, none⟩ = some (.slice (some ⟨b0, o0, none⟩) l0 c0) ∧ W1.cell? ⟨b, o + 1, none⟩ = some (.slice (some ⟨b1, o1, none⟩) l0 c1) ∧ W1.cell? ⟨b0, o0, none⟩ = some (.int .i64 p0) ∧ W1.cell? ⟨b0, o0 + 1, none⟩ = some (.int .i64 q0) ∧ W1.cell? ⟨b0, o0 + 2, none⟩ = some (.int .i64 p1) ∧ W1.cell? ⟨b0, o0 + 2 + 1, none⟩ = some (.int .i64 q1) ∧ W1.cell? ⟨b1, o1, none⟩ = some (.int .i64 p2) ∧ W1.cell? ⟨b1, o1 + 1, none⟩ = some (.int .i64 q2) ∧ W1.cell? ⟨b1, o1 + 2, none⟩ = some (.int .i64 p3) ∧ W1.cell? ⟨b1, o1 + 2 + 1, none⟩ = some (.int .i64 q3)))
  have hl1 : 1 < l0 := by omega
  have hn0p : 0 < n := by omega
  have hl0p : 0 < l0 := by omega
  have hn1p : 1 < n := by omega
  have hl1z : (1 : Int) < (l0 : Int) := by omega
  have hn1z : (1 : Int) < (n : Int) := by omega
  have HY0 := hide (fun W1 (h : Below w.heap.size w W1) => bcellW h y0)
  clear y1 y00 z00 y01 z01 y10 z10 y11 z11 hp hs hd2 hdd h1 h2 hn2 hin hlen HDE HDV HI HQ hok hR0 hR1 hl0 hn0 hp0 hq0 hp1 hq1 hp2 hq2 hp3 hq3
  go_enter Try.func26, Try.ntmps26
  go_upto_region 1 with fail
  obtain ⟨b2, hb2⟩ : ∃ z, w.heap.size = z := ⟨_, rfl⟩
  obtain ⟨w1, hw1⟩ : ∃ z : World, z = w.alloc (.cells #[.int .i64 0, .int .i64 0] 43) := ⟨_, rfl⟩
  try rw [← hw1]
  have HX := hide (show Box w1 b2 43 #[.int .i64 0, .int .i64 0] by rw [hw1]; exact Box.made hb2.symm)
  have HB := hide (show Below w.heap.size w w1 by rw [hw1]; (repeat (first | (with_reducible exact Below.refl _ _) | (with_reducible refine Go.below_drewN ?_ _) | (with_reducible refine Below.drew ?_) | (with_reducible refine Below.alloc ?_ (by first | exact Nat.le_refl _ | (simp; done) | (simp; omega) | omega) _) | (with_reducible refine Below.setCell ?_ (by first | exact Nat.le_refl _ | (simp; done) | (simp; omega) | omega) _))))
  simp only [hb2]
  have hb2w : w.heap.size ≤ b2 := by omega
  clear hw1
  clear y0
  have y0 := HY0.out _ HB.out
  go_upto_region 7 with fail
  clear y0
  refine wp_region_held_drew (S := fun w' => w'.cell? ⟨b, o, none⟩ = some (.slice (some ⟨b0, o0, none⟩) l0 c0) ∧ w'.cell? ⟨b, o + 1, none⟩ = some (.slice (some ⟨b1, o1, none⟩) l0 c1) ∧ w'.cell? ⟨b0, o0, none⟩ = some (.int .i64 p0) ∧ w'.cell? ⟨b0, o0 + 1, none⟩ = some (.int .i64 q0) ∧ w'.cell? ⟨b0, o0 + 2, none⟩ = some (.int .i64 p1) ∧ w'.cell? ⟨b0, o0 + 2 + 1, none⟩ = some (.int .i64 q1) ∧ w'.cell? ⟨b1, o1, none⟩ = some (.int .i64 p2) ∧ w'.cell? ⟨b1, o1 + 1, none⟩ = some (.int .i64 q2) ∧ w'.cell? ⟨b1, o1 + 2, none⟩ = some (.int .i64 p3) ∧ w'.cell? ⟨b1, o1 + 2 + 1, none⟩ = some (.int .i64 q3)) (by kernel_rfl) (HYC.out _ HB.out.drew) (fun hHeld => ?_)
  obtain ⟨w_1, hw_1⟩ : ∃ q : World, q = w1.drew := ⟨_, rfl⟩
  rw [← hw_1] at hHeld ⊢
  have hc_1 : Below w1.heap.size w1 w_1 := by rw [hw_1]; exact (Below.refl _ _).drew
  clear hw_1
  replace HX := hide (HX.out.below hc_1)
  replace HB := hide (HB.out.trans (hc_1.mono (by have := HB.out.size; omega)))
  clear hc_1
  refine wpAnyH_take (i := 0) (oi := ⟨some 24, _, _, _, _, _⟩) (v := ?_) rfl (by kernel_rfl) (by kernel_rfl) (by kernel_rfl) (fun _ _ _ h => h) (Or.inl ⟨by rfl, ?_⟩) (by assumption) ?_
  rotate_left
  · (intro w' hSw; (try dsimp only at hSw); go_simp <;> (with_reducible rfl))
  try simp only [Act.put, List.setIfInBounds_toArray, List.set_cons_zero, List.set_cons_succ]
  refine wpAnyH_take (i := 1) (oi := ⟨some 25, _, _, _, _, _⟩) (v := ?_) rfl (by kernel_rfl) (by kernel_rfl) (by kernel_rfl) (fun _ _ _ h => h) (Or.inl ⟨by rfl, ?_⟩) (by assumption) ?_
  rotate_left
  · (intro w' hSw; (try dsimp only at hSw); go_simp <;> (with_reducible rfl))
  try simp only [Act.put, List.setIfInBounds_toArray, List.set_cons_zero, List.set_cons_succ]
  refine wpAnyH_take (i := 2) (oi := ⟨some 26, _, _, _, _, _⟩) (v := ?_) rfl (by kernel_rfl) (by kernel_rfl) (by kernel_rfl) (fun _ _ _ h => h) (Or.inl ⟨by rfl, ?_⟩) (by assumption) ?_
  rotate_left
  · (intro w' hSw; (try dsimp only at hSw); go_simp <;> (with_reducible rfl))
  try simp only [Act.put, List.setIfInBounds_toArray, List.set_cons_zero, List.set_cons_succ]
  refine wpAnyH_take (i := 3) (oi := ⟨some 27, _, _, _, _, _⟩) (v := ?_) rfl (by kernel_rfl) (by kernel_rfl) (by kernel_rfl) (fun _ _ _ h => h) (Or.inl ⟨by rfl, ?_⟩) (by assumption) ?_
  rotate_left
  · (intro w' hSw; (try dsimp only at hSw); go_simp <;> (with_reducible rfl))
  try simp only [Act.put, List.setIfInBounds_toArray, List.set_cons_zero, List.set_cons_succ]
  refine wpAnyH_take (i := 4) (oi := ⟨some 28, _, _, _, _, _⟩) (v := ?_) rfl (by kernel_rfl) (by kernel_rfl) (by kernel_rfl) (fun _ _ _ h => h) (Or.inl ⟨by rfl, ?_⟩) (by assumption) ?_
  rotate_left
  · (intro w' hSw; (try dsimp only at hSw); go_simp <;> (with_reducible rfl))
  try simp only [Act.put, List.setIfInBounds_toArray, List.set_cons_zero, List.set_cons_succ]
  refine wpAnyH_take (i := 5) (oi := ⟨some 29, _, _, _, _, _⟩) (v := ?_) rfl (by kernel_rfl) (by kernel_rfl) (by kernel_rfl) (fun _ _ _ h => h) (Or.inl ⟨by rfl, ?_⟩) (by assumption) ?_
  rotate_left
  · (intro w' hSw; (try dsimp only at hSw); go_simp <;> (with_reducible rfl))
  try simp only [Act.put, List.setIfInBounds_toArray, List.set_cons_zero, List.set_cons_succ]
  refine wpAnyH_take (i := 6) (oi := ⟨some 30, _, _, _, _, _⟩) (v := ?_) rfl (by kernel_rfl) (by kernel_rfl) (by kernel_rfl) (fun _ _ _ h => h) (Or.inl ⟨by rfl, ?_⟩) (by assumption) ?_
  rotate_left
  · (intro w' hSw; (try dsimp only at hSw); go_simp <;> (with_reducible rfl))
  try simp only [Act.put, List.setIfInBounds_toArray, List.set_cons_zero, List.set_cons_succ]
  refine wpAnyH_take (i := 7) (oi := ⟨some 31, _, _, _, _, _⟩) (v := ?_) rfl (by kernel_rfl) (by kernel_rfl) (by kernel_rfl) (fun _ _ _ h => h) (Or.inl ⟨by rfl, ?_⟩) (by assumption) ?_
  rotate_left
  · (intro w' hSw; (try dsimp only at hSw); go_simp <;> (with_reducible rfl))
  try simp only [Act.put, List.setIfInBounds_toArray, List.set_cons_zero, List.set_cons_succ]
  refine wpAnyH_take (i := 8) (oi := ⟨some 32, _, _, _, _, _⟩) (v := ?_) rfl (by kernel_rfl) (by kernel_rfl) (by kernel_rfl) (fun _ _ _ h => h) (Or.inl ⟨by rfl, ?_⟩) (by assumption) ?_
  rotate_left
  · (intro w' hSw; (try dsimp only at hSw); go_simp <;> (with_reducible rfl))
  try simp only [Act.put, List.setIfInBounds_toArray, List.set_cons_zero, List.set_cons_succ]
  refine wpAnyH_take (i := 9) (oi := ⟨some 33, _, _, _, _, _⟩) (v := ?_) rfl (by kernel_rfl) (by kernel_rfl) (by kernel_rfl) (fun _ _ _ h => h) (Or.inl ⟨by rfl, ?_⟩) (by assumption) ?_
  rotate_left
  · (intro w' hSw; (try dsimp only at hSw); go_simp <;> (with_reducible rfl))
  try simp only [Act.put, List.setIfInBounds_toArray, List.set_cons_zero, List.set_cons_succ]
  refine wpAnyH_take (i := 11) (oi := ⟨some 35, _, _, _, _, _⟩) (v := ?_) rfl (by kernel_rfl) (by kernel_rfl) (by kernel_rfl) (fun _ _ _ h => h) (Or.inl ⟨by rfl, ?_⟩) (by assumption) ?_
  rotate_left
  · (intro w' hSw; (try dsimp only at hSw); go_simp <;> (with_reducible rfl))
  try simp only [Act.put, List.setIfInBounds_toArray, List.set_cons_zero, List.set_cons_succ]
  refine wpAnyH_take (i := 12) (oi := ⟨some 36, _, _, _, _, _⟩) (v := ?_) rfl (by kernel_rfl) (by kernel_rfl) (by kernel_rfl) (fun _ _ _ h => h) (Or.inl ⟨by rfl, ?_⟩) (by assumption) ?_
  rotate_left
  · (intro w' hSw; (try dsimp only at hSw); go_simp <;> (with_reducible rfl))
  try simp only [Act.put, List.setIfInBounds_toArray, List.set_cons_zero, List.set_cons_succ]
  refine wpAnyH_take (i := 13) (oi := ⟨some 37, _, _, _, _, _⟩) (v := ?_) rfl (by kernel_rfl) (by kernel_rfl) (by kernel_rfl) (fun _ _ _ h => h) (Or.inl ⟨by rfl, ?_⟩) (by assumption) ?_
  rotate_left
  · (intro w' hSw; (try dsimp only at hSw); go_simp <;> (with_reducible rfl))
  try simp only [Act.put, List.setIfInBounds_toArray, List.set_cons_zero, List.set_cons_succ]
  refine wpAnyH_take (i := 14) (oi := ⟨some 38, _, _, _, _, _⟩) (v := ?_) rfl (by kernel_rfl) (by kernel_rfl) (by kernel_rfl) (fun _ _ _ h => h) (Or.inl ⟨by rfl, ?_⟩) (by assumption) ?_
  rotate_left
  · (intro w' hSw; (try dsimp only at hSw); go_simp <;> (with_reducible rfl))
  try simp only [Act.put, List.setIfInBounds_toArray, List.set_cons_zero, List.set_cons_succ]
  refine wpAnyH_take (i := 15) (oi := ⟨some 39, _, _, _, _, _⟩) (v := ?_) rfl (by kernel_rfl) (by kernel_rfl) (by kernel_rfl) (fun _ _ _ h => h) (Or.inl ⟨by rfl, ?_⟩) (by assumption) ?_
  rotate_left
  · (intro w' hSw; (try dsimp only at hSw); go_simp <;> (with_reducible rfl))
  try simp only [Act.put, List.setIfInBounds_toArray, List.set_cons_zero, List.set_cons_succ]
  refine wpAnyH_take (i := 16) (oi := ⟨some 40, _, _, _, _, _⟩) (v := ?_) rfl (by kernel_rfl) (by kernel_rfl) (by kernel_rfl) (fun _ _ _ h => h) (Or.inl ⟨by rfl, ?_⟩) (by assumption) ?_
  rotate_left
  · (intro w' hSw; (try dsimp only at hSw); go_simp <;> (with_reducible rfl))
  try simp only [Act.put, List.setIfInBounds_toArray, List.set_cons_zero, List.set_cons_succ]
  refine wpAnyH_take (i := 17) (oi := ⟨some 41, _, _, _, _, _⟩) (v := ?_) rfl (by kernel_rfl) (by kernel_rfl) (by kernel_rfl) (fun _ _ _ h => h) (Or.inl ⟨by rfl, ?_⟩) (by assumption) ?_
  rotate_left
  · (intro w' hSw; (try dsimp only at hSw); go_simp <;> (with_reducible rfl))
  try simp only [Act.put, List.setIfInBounds_toArray, List.set_cons_zero, List.set_cons_succ]
  refine wpAnyH_take (i := 18) (oi := ⟨some 42, _, _, _, _, _⟩) (v := ?_) rfl (by kernel_rfl) (by kernel_rfl) (by kernel_rfl) (fun _ _ _ h => h) (Or.inl ⟨by rfl, ?_⟩) (by assumption) ?_
  rotate_left
  · (intro w' hSw; (try dsimp only at hSw); go_simp <;> (with_reducible rfl))
  try simp only [Act.put, List.setIfInBounds_toArray, List.set_cons_zero, List.set_cons_succ]
  refine wpAnyH_take (i := 19) (oi := ⟨some 43, _, _, _, _, _⟩) (v := ?_) rfl (by kernel_rfl) (by kernel_rfl) (by kernel_rfl) (fun _ _ _ h => h) (Or.inl ⟨by rfl, ?_⟩) (by assumption) ?_
  rotate_left
  · (intro w' hSw; (try dsimp only at hSw); go_simp <;> (with_reducible rfl))
  try simp only [Act.put, List.setIfInBounds_toArray, List.set_cons_zero, List.set_cons_succ]
  refine wpAnyH_take (i := 20) (oi := ⟨some 44, _, _, _, _, _⟩) (v := ?_) rfl (by kernel_rfl) (by kernel_rfl) (by kernel_rfl) (fun _ _ _ h => h) (Or.inl ⟨by rfl, ?_⟩) (by assumption) ?_
  rotate_left
  · (intro w' hSw; (try dsimp only at hSw); go_simp <;> (with_reducible rfl))
  try simp only [Act.put, List.setIfInBounds_toArray, List.set_cons_zero, List.set_cons_succ]
  refine wpAnyH_ready (rs := [10]) (by kernel_rfl) (by simp) ?_
  refine AllReadyH.cons (o := ⟨some 34, _, _, _, _, _⟩) rfl (fun K' hK => ?_) AllReadyH.nil
  go_simp
  go_at_call 33
  refine (HM1.out _).mono ?_
  rintro e_ w_2 ⟨rfl, hb_2⟩
  replace HX := hide (HX.out.below hb_2)
  replace HB := hide (HB.out.trans (hb_2.mono (by have := HB.out.size; omega)))
  clear hb_2
  go_wp2_with fail
  refine hK.out _ _ (HYC.out _ HB.out) (fun hHeld => ?_)
  clear hK K'
  try simp only [Act.put, List.setIfInBounds_toArray, List.set_cons_zero, List.set_cons_succ]
  refine wpAnyH_ready (rs := [21]) (by kernel_rfl) (by simp) ?_
  refine AllReadyH.cons (o := ⟨some 45, _, _, _, _, _⟩) rfl (fun K' hK => ?_) AllReadyH.nil
  go_simp
  go_at_call 33
  refine (HM2.out _).mono ?_
  rintro e_ w_3 ⟨rfl, hb_3⟩
  replace HX := hide (HX.out.below hb_3)
  replace HB := hide (HB.out.trans (hb_3.mono (by have := HB.out.size; omega)))
  clear hb_3
  go_wp2_with fail
  refine hK.out _ _ (HYC.out _ HB.out) (fun hHeld => ?_)
  clear hK K'
  try simp only [Act.put, List.setIfInBounds_toArray, List.set_cons_zero, List.set_cons_succ]
  refine wpAnyH_ready (rs := [22]) (by kernel_rfl) (by simp) ?_
  refine AllReadyH.cons (o := ⟨some 46, _, _, _, _, _⟩) rfl (fun K' hK => ?_) AllReadyH.nil
  go_simp
  go_at_call 65
  refine (HSB.out _).mono ?_
  rintro e_ w_4 ⟨rfl, hb_4⟩
  replace HX := hide (HX.out.below hb_4)
  replace HB := hide (HB.out.trans (hb_4.mono (by have := HB.out.size; omega)))
  clear hb_4
  go_wp2_with fail
  refine hK.out _ _ (HYC.out _ HB.out) (fun hHeld => ?_)
  clear hK K'
  try simp only [Act.put, List.setIfInBounds_toArray, List.set_cons_zero, List.set_cons_succ]
  refine wpAnyH_ready (rs := [23]) (by kernel_rfl) (by simp) ?_
  refine AllReadyH.cons (o := ⟨none, _, _, _, _, _⟩) rfl (fun K' hK => ?_) AllReadyH.nil
  obtain ⟨x0, x1, f0, f1, hly⟩ := HX.out.t2
  go_simp
  clear x0 x1 f0 f1 hly
  have HX2 := hide (HX.out.t2put (.int .i64 d.re) (.int .i64 d.im))
  replace HB := hide ((HB.out.setCell (p := ⟨b2, 0, none⟩) hb2w (.int .i64 d.re)).setCell (p := ⟨b2, 1, none⟩) hb2w (.int .i64 d.im))
  obtain ⟨w_5, hw_5⟩ : ∃ z : World, (w_4.setCell ⟨b2, 0, none⟩ (.int .i64 d.re)).setCell ⟨b2, 1, none⟩ (.int .i64 d.im) = z := ⟨_, rfl⟩
  rw [hw_5] at HX2 HB ⊢
  clear hw_5 HX
  have HX := HX2
  clear HX2
  refine hK.out _ _ (HYC.out _ HB.out) (fun hHeld => ?_)
  clear hK K'
  try simp only [Act.put, List.setIfInBounds_toArray, List.set_cons_zero, List.set_cons_succ]
  refine wpAnyH_take (i := 24) (oi := ⟨some 3, _, _, _, _, _⟩) (v := ?_) rfl (by kernel_rfl) (by kernel_rfl) (by kernel_rfl) (fun _ _ _ h => h) (Or.inl ⟨by rfl, ?_⟩) (by assumption) ?_
  rotate_left
  · (intro w' hSw; (try dsimp only at hSw); go_simp <;> (with_reducible rfl))
  try simp only [Act.put, List.setIfInBounds_toArray, List.set_cons_zero, List.set_cons_succ]
  refine wpAnyH_done (by kernel_rfl) ?_ _
  clear hHeld HYC
  go_wp2_with fail
  obtain ⟨z0, z1⟩ := pairS_cells HX.out
  refine bodyPost_ret (v := .tuple #[.agg #[.int .i64 d.re, .int .i64 d.im], .int .i64 0]) ?_ rfl ⟨rfl, HB.out⟩
  simp [results, Try.results26, go_sem, z0, z1]
end Go.Proofs.Ytceohaeebdhmjaa
