/- Lemmas: S41. -/
import Derived.Test.YtcdplfjegopmdaaGreatBk21
set_option linter.unusedVariables false
set_option linter.unusedSimpArgs false
/- adjugate of the code. -/
namespace Go.Proofs.YtcdplfjegopmdaaGreat
open Go Go.RowKit Go.Lib Ieee
/-- The adjugate of one or two rows. -/
def adjF (n : Nat) (F : Nat → Nat → Gau) (i k : Nat) : Gau := if n = 1 then ⟨1, 0⟩ else if i = 0 then if k = 0 then F 1 1 else (F 0 1).neg else if k = 0 then (F 1 0).neg else F 0 0
theorem Gau.neg_within {x : Gau} {M : Int} (h : x.Within M) : x.neg.Within M := ⟨by have := h.re; show -M ≤ -x.re ∧ -x.re ≤ M; omega, by have := h.im; show -M ≤ -x.im ∧ -x.im ≤ M; omega⟩
theorem adjF_within {n m : Nat} {L : Nat → Nat} {F : Nat → Nat → Gau} (h : MatOk n m L F) (hnm : n = m) (hn : n ≤ 2) (i k : Nat) : (adjF n F i k).Within 1000 := by
  have h1 := h.n1
  unfold adjF
  by_cases e : n = 1
  · rw [if_pos e]; exact ⟨by decide, by decide⟩
  · rw [if_neg e]
    have f := fun i j (hi : i < 2) (hj : j < 2) => h.inside i j (by omega) (by omega)
    by_cases h2 : i = 0
    · rw [if_pos h2]
      by_cases h3 : k = 0
      · rw [if_pos h3]; exact f 1 1 (by decide) (by decide)
      · rw [if_neg h3]; exact Gau.neg_within (f 0 1 (by decide) (by decide))
    · rw [if_neg h2]
      by_cases h3 : k = 0
      · rw [if_pos h3]; exact Gau.neg_within (f 1 0 (by decide) (by decide))
      · rw [if_neg h3]; exact f 0 0 (by decide) (by decide)
/-- A matrix of the call's own, with n rows and columns. -/
structure MineAt (W : World) (B g n : Nat) (gs : Nat → Nat) (F : Nat → Nat → Gau) : Prop where
  low : B ≤ g
  lt : g < W.heap.size
  cell : ∀ i, i < n → W.cell? ⟨g, i, none⟩ = some (.slice (some ⟨gs i, 0, none⟩) n n)
  row : ∀ i, i < n → OwnGaus W B (.slice (some ⟨gs i, 0, none⟩) n n) n (F i)
  far : ∀ i, i < n → gs i ≠ g
  apart : ∀ i j, i < n → j < n → i ≠ j → gs i ≠ gs j
theorem MineAt.below {W W' : World} {B g n : Nat} {gs : Nat → Nat} {F : Nat → Nat → Gau} (h : MineAt W B g n gs F) (hb : Below W.heap.size W W') : MineAt W' B g n gs F :=
  ⟨h.low, Nat.lt_of_lt_of_le h.lt hb.size, fun i hi => bcellW hb (h.cell i hi), fun i hi => (h.row i hi).below hb, h.far, h.apart⟩
theorem MineAt.mats {W : World} {B g n : Nat} {gs : Nat → Nat} {F : Nat → Nat → Gau} (h : MineAt W B g n gs F) : MatsAt W B (some ⟨g, 0, none⟩) n (fun _ => n) F := fun i hi =>
  ⟨g, 0, some ⟨gs i, 0, none⟩, n, rfl, h.low, h.lt, by rw [Nat.zero_add]; exact h.cell i hi, Nat.le_refl _, (h.row i hi).cap_any.2, (h.row i hi).gaus⟩
theorem ownG_one (W : World) (B g : Nat) (x : Gau) (hg : B ≤ g) (h : Box W g 62 #[.int .i64 x.re, .int .i64 x.im]) : OwnGaus W B (.slice (some ⟨g, 0, none⟩) 1 1) 1 (fun _ => x) :=
  ⟨by rw [gauVals_len], .inr ⟨g, 1, _, rfl, hg, h, Nat.le_refl _, by unfold maxLen; omega, rfl, rfl⟩⟩
theorem ownG_two (W : World) (B g : Nat) (x y : Gau) (F : Nat → Gau) (hg : B ≤ g) (h : Box W g 62 #[.int .i64 x.re, .int .i64 x.im, .int .i64 y.re, .int .i64 y.im]) (h0 : F 0 = x) (h1 : F 1 = y) : OwnGaus W B (.slice (some ⟨g, 0, none⟩) 2 2) 2 F :=
  ⟨by rw [gauVals_len], .inr ⟨g, 2, _, rfl, hg, h, Nat.le_refl _, by unfold maxLen; omega, rfl, by rw [← h0, ← h1]; rfl⟩⟩
set_option maxHeartbeats 4000000 in
set_option maxRecDepth 100000 in
theorem adjugate_one (a ao ca n : Nat) (F : Nat → Nat → Gau) (w : World) (hn : n = 1) :
    Calls Tryz.prog 105 #[.slice (some ⟨a, ao, none⟩) n ca] w fun e w' => ∃ g gs, e = .returned (.slice (some ⟨g, 0, none⟩) n n) ∧ MineAt w' w.heap.size g n gs (adjF n F) ∧ Below w.heap.size w w' := by
  have t1 : ((n : Int) == 1) = true := by simp; omega
  have HN := hide hn
  clear hn
  go_enter Tryz.func105, Tryz.ntmps105
  go_wp2_with fail
  go_ret
  have e1 : n = 1 := HN.out
  subst e1
  obtain ⟨w1, hw1⟩ : ∃ z : World, z = w.alloc (.cells #[.int .i64 1, .int .i64 0] 62) := ⟨_, rfl⟩
  rw [← hw1]
  have hb1 : Box w1 w.heap.size 62 #[.int .i64 1, .int .i64 0] := by rw [hw1]; exact Box.made rfl
  have hs : w1.heap.size = w.heap.size + 1 := by rw [hw1]; simp
  have hB : Below w.heap.size w w1 := by rw [hw1]; (repeat (first | (with_reducible exact Below.refl _ _) | (with_reducible refine Go.below_drewN ?_ _) | (with_reducible refine Below.drew ?_) | (with_reducible refine Below.alloc ?_ (by first | exact Nat.le_refl _ | (simp; done) | (simp; omega) | omega) _) | (with_reducible refine Below.setCell ?_ (by first | exact Nat.le_refl _ | (simp; done) | (simp; omega) | omega) _)))
  refine ⟨w.heap.size + 1, fun _ => w.heap.size, rfl, ⟨by omega, by simp; omega, fun i hi => ?_, fun i hi => ?_, fun i _ => by omega, fun i j hi hj hne => by omega⟩, hB.alloc (by omega) _⟩
  · obtain rfl : i = 0 := by omega
    rw [← hs]
    exact (Box.made rfl : Box (w1.alloc _) w1.heap.size _ #[_]).at_ 0
  · obtain rfl : i = 0 := by omega
    exact ownG_one _ _ _ ⟨1, 0⟩ (Nat.le_refl _) (hb1.alloc _)

set_option maxHeartbeats 16000000 in
set_option maxRecDepth 100000 in
theorem adjugate_two (a ao ca n m : Nat) (F : Nat → Nat → Gau) (w : World) (hn : n = 2) (hm : 2 ≤ m) (hA : MatsAt w 0 (some ⟨a, ao, none⟩) n (fun _ => m) F) (hF : ∀ i j, i < 2 → j < 2 → (F i j).Within 1000) :
    Calls Tryz.prog 105 #[.slice (some ⟨a, ao, none⟩) n ca] w fun e w' => ∃ g gs, e = .returned (.slice (some ⟨g, 0, none⟩) 2 2) ∧ MineAt w' w.heap.size g 2 gs (adjF 2 F) ∧ Below w.heap.size w w' := by
  obtain ⟨A0, c0, r0, hc0, -, hR0, -, -⟩ := mat_row hA (i := 0) (by omega)
  obtain ⟨b0, o0, rfl, -, -⟩ := gaus_some hR0 (by omega)
  obtain ⟨y00, z00⟩ := gaus_at hR0 (i := 0) (by omega)
  obtain ⟨y01, z01⟩ := gaus_at hR0 (i := 1) (by omega)
  obtain ⟨A1, c1, r1, hc1, -, hR1, -, -⟩ := mat_row hA (i := 1) (by omega)
  obtain ⟨b1, o1, rfl, -, -⟩ := gaus_some hR1 (by omega)
  obtain ⟨y10, z10⟩ := gaus_at hR1 (i := 0) (by omega)
  obtain ⟨y11, z11⟩ := gaus_at hR1 (i := 1) (by omega)
  simp only [Nat.add_zero, Nat.zero_mul, Nat.one_mul] at r0 r1 y00 z00 y01 z01 y10 z10 y11 z11
  have n01 := (hF 0 1 (by decide) (by decide)).more (N := 9000000000000000000) (by decide)
  have n10 := (hF 1 0 (by decide) (by decide)).more (N := 9000000000000000000) (by decide)
  have HOP1 := hide (fun W => opposite_any (F 0 1) W n01)
  have HOP2 := hide (fun W => opposite_any (F 1 0) W n10)
  clear n01 n10
  have HD0 := hide (show adjF 2 F 0 0 = ⟨(F 1 1).re, (F 1 1).im⟩ from rfl)
  have HD1 := hide (show adjF 2 F 0 1 = ⟨-(F 0 1).re, -(F 0 1).im⟩ from rfl)
  have HD2 := hide (show adjF 2 F 1 0 = ⟨-(F 1 0).re, -(F 1 0).im⟩ from rfl)
  have HD3 := hide (show adjF 2 F 1 1 = ⟨(F 0 0).re, (F 0 0).im⟩ from rfl)
  obtain ⟨D, hD⟩ : ∃ z, adjF 2 F = z := ⟨_, rfl⟩
  simp only [hD] at HD0 HD1 HD2 HD3 ⊢
  clear hD
  obtain ⟨p00, hp00⟩ : ∃ z, (F 0 0).re = z := ⟨_, rfl⟩
  obtain ⟨q00, hq00⟩ : ∃ z, (F 0 0).im = z := ⟨_, rfl⟩
  simp only [hp00, hq00] at y00 z00 HD3
  clear hp00 hq00
  obtain ⟨p01, hp01⟩ : ∃ z, (F 0 1).re = z := ⟨_, rfl⟩
  obtain ⟨q01, hq01⟩ : ∃ z, (F 0 1).im = z := ⟨_, rfl⟩
  simp only [hp01, hq01] at y01 z01 HD1 HOP1
  clear hp01 hq01
  obtain ⟨p10, hp10⟩ : ∃ z, (F 1 0).re = z := ⟨_, rfl⟩
  obtain ⟨q10, hq10⟩ : ∃ z, (F 1 0).im = z := ⟨_, rfl⟩
  simp only [hp10, hq10] at y10 z10 HD2 HOP2
  clear hp10 hq10
  obtain ⟨p11, hp11⟩ : ∃ z, (F 1 1).re = z := ⟨_, rfl⟩
  obtain ⟨q11, hq11⟩ : ∃ z, (F 1 1).im = z := ⟨_, rfl⟩
  simp only [hp11, hq11] at y11 z11 HD0
  clear hp11 hq11
  have HAT := hide (fun W (h : Below w.heap.size w W) => (⟨bcellW h r0, bcellW h r1, bcellW h y00, bcellW h z00, bcellW h y01, bcellW h z01, bcellW h y10, bcellW h z10, bcellW h y11, bcellW h z11⟩ : W.cell? ⟨a, ao, none⟩ = some (.slice (some ⟨b0, o0, none⟩) m c0) ∧ W.cell? ⟨a, ao + 1, none⟩ = some (.slice (some ⟨b1, o1, none⟩) m c1) ∧ W.cell? ⟨b0, o0, none⟩ = some (.int .i64 p00) ∧ W.cell? ⟨b0, o0 + 1, none⟩ = some (.int .i64 q00) ∧ W.cell? ⟨b0, o0 + 2, none⟩ = some (.int .i64 p01) ∧ W.cell? ⟨b0, o0 + 2 + 1, none⟩ = some (.int .i64 q01) ∧ W.cell? ⟨b1, o1, none⟩ = some (.int .i64 p10) ∧ W.cell? ⟨b1, o1 + 1, none⟩ = some (.int .i64 q10) ∧ W.cell? ⟨b1, o1 + 2, none⟩ = some (.int .i64 p11) ∧ W.cell? ⟨b1, o1 + 2 + 1, none⟩ = some (.int .i64 q11)))
  clear r0 r1 y00 z00 y01 z01 y10 z10 y11 z11 hA hF hR0 hR1
  have tn1 : ((n : Int) == 1) = false := by simp; omega
  have hn1 : 1 < n := by omega
  have hn0 : 0 < n := by omega
  have hm0 : 0 < m := by omega
  have hm1 : 1 < m := by omega
  have hm1z : (1 : Int) < (m : Int) := by omega
  have hn1z : (1 : Int) < (n : Int) := by omega
  clear hn
  go_enter Tryz.func105, Tryz.ntmps105
  have HB := hide (Below.refl w.heap.size w)
  go_wp2_with fail
  refine wp_region_held_drew (S := fun w' => w'.cell? ⟨a, ao, none⟩ = some (.slice (some ⟨b0, o0, none⟩) m c0) ∧ w'.cell? ⟨a, ao + 1, none⟩ = some (.slice (some ⟨b1, o1, none⟩) m c1) ∧ w'.cell? ⟨b0, o0, none⟩ = some (.int .i64 p00) ∧ w'.cell? ⟨b0, o0 + 1, none⟩ = some (.int .i64 q00) ∧ w'.cell? ⟨b0, o0 + 2, none⟩ = some (.int .i64 p01) ∧ w'.cell? ⟨b0, o0 + 2 + 1, none⟩ = some (.int .i64 q01) ∧ w'.cell? ⟨b1, o1, none⟩ = some (.int .i64 p10) ∧ w'.cell? ⟨b1, o1 + 1, none⟩ = some (.int .i64 q10) ∧ w'.cell? ⟨b1, o1 + 2, none⟩ = some (.int .i64 p11) ∧ w'.cell? ⟨b1, o1 + 2 + 1, none⟩ = some (.int .i64 q11)) (by kernel_rfl) (HAT.out _ HB.out.drew) (fun hHeld => ?_)
  obtain ⟨w_1, hw_1⟩ : ∃ q : World, q = w.drew := ⟨_, rfl⟩
  rw [← hw_1] at hHeld ⊢
  have hc_1 : Below w.heap.size w w_1 := by rw [hw_1]; exact (Below.refl _ _).drew
  clear hw_1
  replace HB := hide (HB.out.trans (hc_1.mono HB.out.size))
  clear hc_1
  refine wpAnyH_take (i := 0) (oi := ⟨some 9, _, _, _, _, _⟩) (v := ?_) rfl (by kernel_rfl) (by kernel_rfl) (by kernel_rfl) (fun _ _ _ h => h) (Or.inl ⟨by rfl, ?_⟩) (by assumption) ?_
  rotate_left
  · (intro w' hSw; (try dsimp only at hSw); go_simp <;> (with_reducible rfl))
  try simp only [Act.put, List.setIfInBounds_toArray, List.set_cons_zero, List.set_cons_succ]
  refine wpAnyH_take (i := 1) (oi := ⟨some 10, _, _, _, _, _⟩) (v := ?_) rfl (by kernel_rfl) (by kernel_rfl) (by kernel_rfl) (fun _ _ _ h => h) (Or.inl ⟨by rfl, ?_⟩) (by assumption) ?_
  rotate_left
  · (intro w' hSw; (try dsimp only at hSw); go_simp <;> (with_reducible rfl))
  try simp only [Act.put, List.setIfInBounds_toArray, List.set_cons_zero, List.set_cons_succ]
  refine wpAnyH_take (i := 2) (oi := ⟨some 11, _, _, _, _, _⟩) (v := ?_) rfl (by kernel_rfl) (by kernel_rfl) (by kernel_rfl) (fun _ _ _ h => h) (Or.inl ⟨by rfl, ?_⟩) (by assumption) ?_
  rotate_left
  · (intro w' hSw; (try dsimp only at hSw); go_simp <;> (with_reducible rfl))
  try simp only [Act.put, List.setIfInBounds_toArray, List.set_cons_zero, List.set_cons_succ]
  refine wpAnyH_take (i := 3) (oi := ⟨some 12, _, _, _, _, _⟩) (v := ?_) rfl (by kernel_rfl) (by kernel_rfl) (by kernel_rfl) (fun _ _ _ h => h) (Or.inl ⟨by rfl, ?_⟩) (by assumption) ?_
  rotate_left
  · (intro w' hSw; (try dsimp only at hSw); go_simp <;> (with_reducible rfl))
  try simp only [Act.put, List.setIfInBounds_toArray, List.set_cons_zero, List.set_cons_succ]
  refine wpAnyH_take (i := 4) (oi := ⟨some 13, _, _, _, _, _⟩) (v := ?_) rfl (by kernel_rfl) (by kernel_rfl) (by kernel_rfl) (fun _ _ _ h => h) (Or.inl ⟨by rfl, ?_⟩) (by assumption) ?_
  rotate_left
  · (intro w' hSw; (try dsimp only at hSw); go_simp <;> (with_reducible rfl))
  try simp only [Act.put, List.setIfInBounds_toArray, List.set_cons_zero, List.set_cons_succ]
  refine wpAnyH_take (i := 5) (oi := ⟨some 14, _, _, _, _, _⟩) (v := ?_) rfl (by kernel_rfl) (by kernel_rfl) (by kernel_rfl) (fun _ _ _ h => h) (Or.inl ⟨by rfl, ?_⟩) (by assumption) ?_
  rotate_left
  · (intro w' hSw; (try dsimp only at hSw); go_simp <;> (with_reducible rfl))
  try simp only [Act.put, List.setIfInBounds_toArray, List.set_cons_zero, List.set_cons_succ]
  refine wpAnyH_take (i := 6) (oi := ⟨some 15, _, _, _, _, _⟩) (v := ?_) rfl (by kernel_rfl) (by kernel_rfl) (by kernel_rfl) (fun _ _ _ h => h) (Or.inl ⟨by rfl, ?_⟩) (by assumption) ?_
  rotate_left
  · (intro w' hSw; (try dsimp only at hSw); go_simp <;> (with_reducible rfl))
  try simp only [Act.put, List.setIfInBounds_toArray, List.set_cons_zero, List.set_cons_succ]
  refine wpAnyH_take (i := 7) (oi := ⟨some 16, _, _, _, _, _⟩) (v := ?_) rfl (by kernel_rfl) (by kernel_rfl) (by kernel_rfl) (fun _ _ _ h => h) (Or.inl ⟨by rfl, ?_⟩) (by assumption) ?_
  rotate_left
  · (intro w' hSw; (try dsimp only at hSw); go_simp <;> (with_reducible rfl))
  try simp only [Act.put, List.setIfInBounds_toArray, List.set_cons_zero, List.set_cons_succ]
  refine wpAnyH_take (i := 8) (oi := ⟨some 17, _, _, _, _, _⟩) (v := ?_) rfl (by kernel_rfl) (by kernel_rfl) (by kernel_rfl) (fun _ _ _ h => h) (Or.inl ⟨by rfl, ?_⟩) (by assumption) ?_
  rotate_left
  · (intro w' hSw; (try dsimp only at hSw); go_simp <;> (with_reducible rfl))
  try simp only [Act.put, List.setIfInBounds_toArray, List.set_cons_zero, List.set_cons_succ]
  refine wpAnyH_take (i := 9) (oi := ⟨some 18, _, _, _, _, _⟩) (v := ?_) rfl (by kernel_rfl) (by kernel_rfl) (by kernel_rfl) (fun _ _ _ h => h) (Or.inl ⟨by rfl, ?_⟩) (by assumption) ?_
  rotate_left
  · (intro w' hSw; (try dsimp only at hSw); go_simp <;> (with_reducible rfl))
  try simp only [Act.put, List.setIfInBounds_toArray, List.set_cons_zero, List.set_cons_succ]
  refine wpAnyH_take (i := 12) (oi := ⟨some 21, _, _, _, _, _⟩) (v := ?_) rfl (by kernel_rfl) (by kernel_rfl) (by kernel_rfl) (fun _ _ _ h => h) (Or.inl ⟨by rfl, ?_⟩) (by assumption) ?_
  rotate_left
  · (intro w' hSw; (try dsimp only at hSw); go_simp <;> (with_reducible rfl))
  try simp only [Act.put, List.setIfInBounds_toArray, List.set_cons_zero, List.set_cons_succ]
  refine wpAnyH_take (i := 13) (oi := ⟨some 22, _, _, _, _, _⟩) (v := ?_) rfl (by kernel_rfl) (by kernel_rfl) (by kernel_rfl) (fun _ _ _ h => h) (Or.inl ⟨by rfl, ?_⟩) (by assumption) ?_
  rotate_left
  · (intro w' hSw; (try dsimp only at hSw); go_simp <;> (with_reducible rfl))
  try simp only [Act.put, List.setIfInBounds_toArray, List.set_cons_zero, List.set_cons_succ]
  refine wpAnyH_take (i := 14) (oi := ⟨some 23, _, _, _, _, _⟩) (v := ?_) rfl (by kernel_rfl) (by kernel_rfl) (by kernel_rfl) (fun _ _ _ h => h) (Or.inl ⟨by rfl, ?_⟩) (by assumption) ?_
  rotate_left
  · (intro w' hSw; (try dsimp only at hSw); go_simp <;> (with_reducible rfl))
  try simp only [Act.put, List.setIfInBounds_toArray, List.set_cons_zero, List.set_cons_succ]
  refine wpAnyH_take (i := 15) (oi := ⟨some 24, _, _, _, _, _⟩) (v := ?_) rfl (by kernel_rfl) (by kernel_rfl) (by kernel_rfl) (fun _ _ _ h => h) (Or.inl ⟨by rfl, ?_⟩) (by assumption) ?_
  rotate_left
  · (intro w' hSw; (try dsimp only at hSw); go_simp <;> (with_reducible rfl))
  try simp only [Act.put, List.setIfInBounds_toArray, List.set_cons_zero, List.set_cons_succ]
  refine wpAnyH_take (i := 16) (oi := ⟨some 25, _, _, _, _, _⟩) (v := ?_) rfl (by kernel_rfl) (by kernel_rfl) (by kernel_rfl) (fun _ _ _ h => h) (Or.inl ⟨by rfl, ?_⟩) (by assumption) ?_
  rotate_left
  · (intro w' hSw; (try dsimp only at hSw); go_simp <;> (with_reducible rfl))
  try simp only [Act.put, List.setIfInBounds_toArray, List.set_cons_zero, List.set_cons_succ]
  refine wpAnyH_take (i := 18) (oi := ⟨some 27, _, _, _, _, _⟩) (v := ?_) rfl (by kernel_rfl) (by kernel_rfl) (by kernel_rfl) (fun _ _ _ h => h) (Or.inl ⟨by rfl, ?_⟩) (by assumption) ?_
  rotate_left
  · (intro w' hSw; (try dsimp only at hSw); go_simp <;> (with_reducible rfl))
  try simp only [Act.put, List.setIfInBounds_toArray, List.set_cons_zero, List.set_cons_succ]
  refine wpAnyH_take (i := 19) (oi := ⟨some 28, _, _, _, _, _⟩) (v := ?_) rfl (by kernel_rfl) (by kernel_rfl) (by kernel_rfl) (fun _ _ _ h => h) (Or.inl ⟨by rfl, ?_⟩) (by assumption) ?_
  rotate_left
  · (intro w' hSw; (try dsimp only at hSw); go_simp <;> (with_reducible rfl))
  try simp only [Act.put, List.setIfInBounds_toArray, List.set_cons_zero, List.set_cons_succ]
  refine wpAnyH_take (i := 20) (oi := ⟨some 29, _, _, _, _, _⟩) (v := ?_) rfl (by kernel_rfl) (by kernel_rfl) (by kernel_rfl) (fun _ _ _ h => h) (Or.inl ⟨by rfl, ?_⟩) (by assumption) ?_
  rotate_left
  · (intro w' hSw; (try dsimp only at hSw); go_simp <;> (with_reducible rfl))
  try simp only [Act.put, List.setIfInBounds_toArray, List.set_cons_zero, List.set_cons_succ]
  refine wpAnyH_take (i := 21) (oi := ⟨some 30, _, _, _, _, _⟩) (v := ?_) rfl (by kernel_rfl) (by kernel_rfl) (by kernel_rfl) (fun _ _ _ h => h) (Or.inl ⟨by rfl, ?_⟩) (by assumption) ?_
  rotate_left
  · (intro w' hSw; (try dsimp only at hSw); go_simp <;> (with_reducible rfl))
  try simp only [Act.put, List.setIfInBounds_toArray, List.set_cons_zero, List.set_cons_succ]
  refine wpAnyH_take (i := 22) (oi := ⟨some 31, _, _, _, _, _⟩) (v := ?_) rfl (by kernel_rfl) (by kernel_rfl) (by kernel_rfl) (fun _ _ _ h => h) (Or.inl ⟨by rfl, ?_⟩) (by assumption) ?_
  rotate_left
  · (intro w' hSw; (try dsimp only at hSw); go_simp <;> (with_reducible rfl))
  try simp only [Act.put, List.setIfInBounds_toArray, List.set_cons_zero, List.set_cons_succ]
  refine wpAnyH_ready (rs := [10]) (by kernel_rfl) (by simp) ?_
  refine AllReadyH.cons (o := ⟨some 19, _, _, _, _, _⟩) rfl (fun K' hK => ?_) AllReadyH.nil
  go_simp
  go_at_call 120
  refine (HOP1.out _).mono ?_
  rintro e_ w_2 ⟨rfl, hb_2⟩
  replace HB := hide (HB.out.trans (hb_2.mono HB.out.size))
  clear hb_2
  go_wp2_with fail
  refine hK.out _ _ (HAT.out _ HB.out) (fun hHeld => ?_)
  clear hK K'
  try simp only [Act.put, List.setIfInBounds_toArray, List.set_cons_zero, List.set_cons_succ]
  refine wpAnyH_ready (rs := [11, 17]) (by kernel_rfl) (by simp) ?_
  refine AllReadyH.cons (o := ⟨some 20, _, _, _, _, _⟩) rfl (fun K' hK => ?_) (AllReadyH.cons (o := ⟨some 26, _, _, _, _, _⟩) rfl (fun K' hK => ?_) AllReadyH.nil)
  · skip
    go_simp
    obtain ⟨gA, hgA⟩ : ∃ z, w_2.heap.size = z := ⟨_, rfl⟩
    obtain ⟨w_3, hw_3⟩ : ∃ z : World, z = w_2.alloc (.cells #[.int .i64 p11, .int .i64 q11, .int .i64 (-p01), .int .i64 (-q01)] 62) := ⟨_, rfl⟩
    try rw [← hw_3]
    have HXA := hide (show Box w_3 gA 62 #[.int .i64 p11, .int .i64 q11, .int .i64 (-p01), .int .i64 (-q01)] by rw [hw_3]; exact Box.made hgA.symm)
    have lo_gA : w.heap.size ≤ gA := by rw [← hgA]; exact HB.out.size
    have hc_3 : Below w_2.heap.size w_2 w_3 := by rw [hw_3]; exact (Below.refl _ _).alloc (Nat.le_refl _) _
    clear hw_3
    replace HB := hide (HB.out.trans (hc_3.mono HB.out.size))
    clear hc_3
    try simp only [hgA]
    clear hgA
    refine hK.out _ _ (HAT.out _ HB.out) (fun hHeld => ?_)
    clear hK K'
    try simp only [Act.put, List.setIfInBounds_toArray, List.set_cons_zero, List.set_cons_succ]
    refine wpAnyH_ready (rs := [17]) (by kernel_rfl) (by simp) ?_
    refine AllReadyH.cons (o := ⟨some 26, _, _, _, _, _⟩) rfl (fun K' hK => ?_) AllReadyH.nil
    go_simp
    go_at_call 120
    refine (HOP2.out _).mono ?_
    rintro e_ w_4 ⟨rfl, hb_4⟩
    replace HXA := hide (HXA.out.below hb_4)
    replace HB := hide (HB.out.trans (hb_4.mono HB.out.size))
    clear hb_4
    go_wp2_with fail
    refine hK.out _ _ (HAT.out _ HB.out) (fun hHeld => ?_)
    clear hK K'
    try simp only [Act.put, List.setIfInBounds_toArray, List.set_cons_zero, List.set_cons_succ]
    refine wpAnyH_ready (rs := [23]) (by kernel_rfl) (by simp) ?_
    refine AllReadyH.cons (o := ⟨some 32, _, _, _, _, _⟩) rfl (fun K' hK => ?_) AllReadyH.nil
    go_simp
    obtain ⟨gC, hgC⟩ : ∃ z, w_4.heap.size = z := ⟨_, rfl⟩
    obtain ⟨w_5, hw_5⟩ : ∃ z : World, z = w_4.alloc (.cells #[.int .i64 (-p10), .int .i64 (-q10), .int .i64 p00, .int .i64 q00] 62) := ⟨_, rfl⟩
    try rw [← hw_5]
    have lt_HXA_gC : gA < gC := by rw [← hgC]; exact HXA.out.lt
    have HXC := hide (show Box w_5 gC 62 #[.int .i64 (-p10), .int .i64 (-q10), .int .i64 p00, .int .i64 q00] by rw [hw_5]; exact Box.made hgC.symm)
    have lo_gC : w.heap.size ≤ gC := by rw [← hgC]; exact HB.out.size
    have hc_5 : Below w_4.heap.size w_4 w_5 := by rw [hw_5]; exact (Below.refl _ _).alloc (Nat.le_refl _) _
    clear hw_5
    replace HXA := hide (HXA.out.below hc_5)
    replace HB := hide (HB.out.trans (hc_5.mono HB.out.size))
    clear hc_5
    try simp only [hgC]
    clear hgC
    refine hK.out _ _ (HAT.out _ HB.out) (fun hHeld => ?_)
    clear hK K'
    try simp only [Act.put, List.setIfInBounds_toArray, List.set_cons_zero, List.set_cons_succ]
    refine wpAnyH_ready (rs := [24]) (by kernel_rfl) (by simp) ?_
    refine AllReadyH.cons (o := ⟨some 33, _, _, _, _, _⟩) rfl (fun K' hK => ?_) AllReadyH.nil
    go_simp
    obtain ⟨gM, hgM⟩ : ∃ z, w_5.heap.size = z := ⟨_, rfl⟩
    obtain ⟨w_6, hw_6⟩ : ∃ z : World, z = w_5.alloc (.cells #[.slice (some ⟨gA, 0, none⟩) 2 2, .slice (some ⟨gC, 0, none⟩) 2 2] 32) := ⟨_, rfl⟩
    try rw [← hw_6]
    have lt_HXA_gM : gA < gM := by rw [← hgM]; exact HXA.out.lt
    have lt_HXC_gM : gC < gM := by rw [← hgM]; exact HXC.out.lt
    have HXM := hide (show Box w_6 gM 32 #[.slice (some ⟨gA, 0, none⟩) 2 2, .slice (some ⟨gC, 0, none⟩) 2 2] by rw [hw_6]; exact Box.made hgM.symm)
    have lo_gM : w.heap.size ≤ gM := by rw [← hgM]; exact HB.out.size
    have hc_6 : Below w_5.heap.size w_5 w_6 := by rw [hw_6]; exact (Below.refl _ _).alloc (Nat.le_refl _) _
    clear hw_6
    replace HXA := hide (HXA.out.below hc_6)
    replace HXC := hide (HXC.out.below hc_6)
    replace HB := hide (HB.out.trans (hc_6.mono HB.out.size))
    clear hc_6
    try simp only [hgM]
    clear hgM
    refine hK.out _ _ (HAT.out _ HB.out) (fun hHeld => ?_)
    clear hK K'
    try simp only [Act.put, List.setIfInBounds_toArray, List.set_cons_zero, List.set_cons_succ]
    refine wpAnyH_take (i := 25) (oi := ⟨some 2, _, _, _, _, _⟩) (v := ?_) rfl (by kernel_rfl) (by kernel_rfl) (by kernel_rfl) (fun _ _ _ h => h) (Or.inl ⟨by rfl, ?_⟩) (by assumption) ?_
    rotate_left
    · (intro w' hSw; (try dsimp only at hSw); go_simp <;> (with_reducible rfl))
    try simp only [Act.put, List.setIfInBounds_toArray, List.set_cons_zero, List.set_cons_succ]
    refine wpAnyH_done (by kernel_rfl) ?_ _
    clear hHeld HAT
    go_wp2_with fail
    go_ret
    have hne : gA ≠ gC := by omega
    refine ⟨gM, fun i => if i = 0 then gA else gC, rfl, ⟨lo_gM, HXM.out.lt, fun i hi => ?_, fun i hi => ?_, fun i hi => ?_, fun i j hi hj hij => ?_⟩, HB.out⟩
    · obtain rfl | rfl : i = 0 ∨ i = 1 := by omega
      · exact HXM.out.at_ 0
      · exact HXM.out.at_ 1
    · obtain rfl | rfl : i = 0 ∨ i = 1 := by omega
      · exact ownG_two _ _ _ ⟨p11, q11⟩ ⟨-p01, -q01⟩ _ lo_gA HXA.out HD0.out HD1.out
      · exact ownG_two _ _ _ ⟨-p10, -q10⟩ ⟨p00, q00⟩ _ lo_gC HXC.out HD2.out HD3.out
    · obtain rfl | rfl : i = 0 ∨ i = 1 := by omega
      · show gA ≠ gM; omega
      · show gC ≠ gM; omega
    · obtain rfl | rfl : i = 0 ∨ i = 1 := by omega
      · obtain rfl : j = 1 := by omega
        show gA ≠ gC; exact hne
      · obtain rfl : j = 0 := by omega
        show gC ≠ gA; exact fun h => hne h.symm
  · skip
    go_simp
    go_at_call 120
    refine (HOP2.out _).mono ?_
    rintro e_ w_7 ⟨rfl, hb_7⟩
    replace HB := hide (HB.out.trans (hb_7.mono HB.out.size))
    clear hb_7
    go_wp2_with fail
    refine hK.out _ _ (HAT.out _ HB.out) (fun hHeld => ?_)
    clear hK K'
    try simp only [Act.put, List.setIfInBounds_toArray, List.set_cons_zero, List.set_cons_succ]
    refine wpAnyH_ready (rs := [11, 23]) (by kernel_rfl) (by simp) ?_
    refine AllReadyH.cons (o := ⟨some 20, _, _, _, _, _⟩) rfl (fun K' hK => ?_) (AllReadyH.cons (o := ⟨some 32, _, _, _, _, _⟩) rfl (fun K' hK => ?_) AllReadyH.nil)
    · skip
      go_simp
      obtain ⟨gA, hgA⟩ : ∃ z, w_7.heap.size = z := ⟨_, rfl⟩
      obtain ⟨w_8, hw_8⟩ : ∃ z : World, z = w_7.alloc (.cells #[.int .i64 p11, .int .i64 q11, .int .i64 (-p01), .int .i64 (-q01)] 62) := ⟨_, rfl⟩
      try rw [← hw_8]
      have HXA := hide (show Box w_8 gA 62 #[.int .i64 p11, .int .i64 q11, .int .i64 (-p01), .int .i64 (-q01)] by rw [hw_8]; exact Box.made hgA.symm)
      have lo_gA : w.heap.size ≤ gA := by rw [← hgA]; exact HB.out.size
      have hc_8 : Below w_7.heap.size w_7 w_8 := by rw [hw_8]; exact (Below.refl _ _).alloc (Nat.le_refl _) _
      clear hw_8
      replace HB := hide (HB.out.trans (hc_8.mono HB.out.size))
      clear hc_8
      try simp only [hgA]
      clear hgA
      refine hK.out _ _ (HAT.out _ HB.out) (fun hHeld => ?_)
      clear hK K'
      try simp only [Act.put, List.setIfInBounds_toArray, List.set_cons_zero, List.set_cons_succ]
      refine wpAnyH_ready (rs := [23]) (by kernel_rfl) (by simp) ?_
      refine AllReadyH.cons (o := ⟨some 32, _, _, _, _, _⟩) rfl (fun K' hK => ?_) AllReadyH.nil
      go_simp
      obtain ⟨gC, hgC⟩ : ∃ z, w_8.heap.size = z := ⟨_, rfl⟩
      obtain ⟨w_9, hw_9⟩ : ∃ z : World, z = w_8.alloc (.cells #[.int .i64 (-p10), .int .i64 (-q10), .int .i64 p00, .int .i64 q00] 62) := ⟨_, rfl⟩
      try rw [← hw_9]
      have lt_HXA_gC : gA < gC := by rw [← hgC]; exact HXA.out.lt
      have HXC := hide (show Box w_9 gC 62 #[.int .i64 (-p10), .int .i64 (-q10), .int .i64 p00, .int .i64 q00] by rw [hw_9]; exact Box.made hgC.symm)
      have lo_gC : w.heap.size ≤ gC := by rw [← hgC]; exact HB.out.size
      have hc_9 : Below w_8.heap.size w_8 w_9 := by rw [hw_9]; exact (Below.refl _ _).alloc (Nat.le_refl _) _
      clear hw_9
      replace HXA := hide (HXA.out.below hc_9)
      replace HB := hide (HB.out.trans (hc_9.mono HB.out.size))
      clear hc_9
      try simp only [hgC]
      clear hgC
      refine hK.out _ _ (HAT.out _ HB.out) (fun hHeld => ?_)
      clear hK K'
      try simp only [Act.put, List.setIfInBounds_toArray, List.set_cons_zero, List.set_cons_succ]
      refine wpAnyH_ready (rs := [24]) (by kernel_rfl) (by simp) ?_
      refine AllReadyH.cons (o := ⟨some 33, _, _, _, _, _⟩) rfl (fun K' hK => ?_) AllReadyH.nil
      go_simp
      obtain ⟨gM, hgM⟩ : ∃ z, w_9.heap.size = z := ⟨_, rfl⟩
      obtain ⟨w_10, hw_10⟩ : ∃ z : World, z = w_9.alloc (.cells #[.slice (some ⟨gA, 0, none⟩) 2 2, .slice (some ⟨gC, 0, none⟩) 2 2] 32) := ⟨_, rfl⟩
      try rw [← hw_10]
      have lt_HXA_gM : gA < gM := by rw [← hgM]; exact HXA.out.lt
      have lt_HXC_gM : gC < gM := by rw [← hgM]; exact HXC.out.lt
      have HXM := hide (show Box w_10 gM 32 #[.slice (some ⟨gA, 0, none⟩) 2 2, .slice (some ⟨gC, 0, none⟩) 2 2] by rw [hw_10]; exact Box.made hgM.symm)
      have lo_gM : w.heap.size ≤ gM := by rw [← hgM]; exact HB.out.size
      have hc_10 : Below w_9.heap.size w_9 w_10 := by rw [hw_10]; exact (Below.refl _ _).alloc (Nat.le_refl _) _
      clear hw_10
      replace HXA := hide (HXA.out.below hc_10)
      replace HXC := hide (HXC.out.below hc_10)
      replace HB := hide (HB.out.trans (hc_10.mono HB.out.size))
      clear hc_10
      try simp only [hgM]
      clear hgM
      refine hK.out _ _ (HAT.out _ HB.out) (fun hHeld => ?_)
      clear hK K'
      try simp only [Act.put, List.setIfInBounds_toArray, List.set_cons_zero, List.set_cons_succ]
      refine wpAnyH_take (i := 25) (oi := ⟨some 2, _, _, _, _, _⟩) (v := ?_) rfl (by kernel_rfl) (by kernel_rfl) (by kernel_rfl) (fun _ _ _ h => h) (Or.inl ⟨by rfl, ?_⟩) (by assumption) ?_
      rotate_left
      · (intro w' hSw; (try dsimp only at hSw); go_simp <;> (with_reducible rfl))
      try simp only [Act.put, List.setIfInBounds_toArray, List.set_cons_zero, List.set_cons_succ]
      refine wpAnyH_done (by kernel_rfl) ?_ _
      clear hHeld HAT
      go_wp2_with fail
      go_ret
      have hne : gA ≠ gC := by omega
      refine ⟨gM, fun i => if i = 0 then gA else gC, rfl, ⟨lo_gM, HXM.out.lt, fun i hi => ?_, fun i hi => ?_, fun i hi => ?_, fun i j hi hj hij => ?_⟩, HB.out⟩
      · obtain rfl | rfl : i = 0 ∨ i = 1 := by omega
        · exact HXM.out.at_ 0
        · exact HXM.out.at_ 1
      · obtain rfl | rfl : i = 0 ∨ i = 1 := by omega
        · exact ownG_two _ _ _ ⟨p11, q11⟩ ⟨-p01, -q01⟩ _ lo_gA HXA.out HD0.out HD1.out
        · exact ownG_two _ _ _ ⟨-p10, -q10⟩ ⟨p00, q00⟩ _ lo_gC HXC.out HD2.out HD3.out
      · obtain rfl | rfl : i = 0 ∨ i = 1 := by omega
        · show gA ≠ gM; omega
        · show gC ≠ gM; omega
      · obtain rfl | rfl : i = 0 ∨ i = 1 := by omega
        · obtain rfl : j = 1 := by omega
          show gA ≠ gC; exact hne
        · obtain rfl : j = 0 := by omega
          show gC ≠ gA; exact fun h => hne h.symm
    · skip
      go_simp
      obtain ⟨gC, hgC⟩ : ∃ z, w_7.heap.size = z := ⟨_, rfl⟩
      obtain ⟨w_11, hw_11⟩ : ∃ z : World, z = w_7.alloc (.cells #[.int .i64 (-p10), .int .i64 (-q10), .int .i64 p00, .int .i64 q00] 62) := ⟨_, rfl⟩
      try rw [← hw_11]
      have HXC := hide (show Box w_11 gC 62 #[.int .i64 (-p10), .int .i64 (-q10), .int .i64 p00, .int .i64 q00] by rw [hw_11]; exact Box.made hgC.symm)
      have lo_gC : w.heap.size ≤ gC := by rw [← hgC]; exact HB.out.size
      have hc_11 : Below w_7.heap.size w_7 w_11 := by rw [hw_11]; exact (Below.refl _ _).alloc (Nat.le_refl _) _
      clear hw_11
      replace HB := hide (HB.out.trans (hc_11.mono HB.out.size))
      clear hc_11
      try simp only [hgC]
      clear hgC
      refine hK.out _ _ (HAT.out _ HB.out) (fun hHeld => ?_)
      clear hK K'
      try simp only [Act.put, List.setIfInBounds_toArray, List.set_cons_zero, List.set_cons_succ]
      refine wpAnyH_ready (rs := [11]) (by kernel_rfl) (by simp) ?_
      refine AllReadyH.cons (o := ⟨some 20, _, _, _, _, _⟩) rfl (fun K' hK => ?_) AllReadyH.nil
      go_simp
      obtain ⟨gA, hgA⟩ : ∃ z, w_11.heap.size = z := ⟨_, rfl⟩
      obtain ⟨w_12, hw_12⟩ : ∃ z : World, z = w_11.alloc (.cells #[.int .i64 p11, .int .i64 q11, .int .i64 (-p01), .int .i64 (-q01)] 62) := ⟨_, rfl⟩
      try rw [← hw_12]
      have lt_HXC_gA : gC < gA := by rw [← hgA]; exact HXC.out.lt
      have HXA := hide (show Box w_12 gA 62 #[.int .i64 p11, .int .i64 q11, .int .i64 (-p01), .int .i64 (-q01)] by rw [hw_12]; exact Box.made hgA.symm)
      have lo_gA : w.heap.size ≤ gA := by rw [← hgA]; exact HB.out.size
      have hc_12 : Below w_11.heap.size w_11 w_12 := by rw [hw_12]; exact (Below.refl _ _).alloc (Nat.le_refl _) _
      clear hw_12
      replace HXC := hide (HXC.out.below hc_12)
      replace HB := hide (HB.out.trans (hc_12.mono HB.out.size))
      clear hc_12
      try simp only [hgA]
      clear hgA
      refine hK.out _ _ (HAT.out _ HB.out) (fun hHeld => ?_)
      clear hK K'
      try simp only [Act.put, List.setIfInBounds_toArray, List.set_cons_zero, List.set_cons_succ]
      refine wpAnyH_ready (rs := [24]) (by kernel_rfl) (by simp) ?_
      refine AllReadyH.cons (o := ⟨some 33, _, _, _, _, _⟩) rfl (fun K' hK => ?_) AllReadyH.nil
      go_simp
      obtain ⟨gM, hgM⟩ : ∃ z, w_12.heap.size = z := ⟨_, rfl⟩
      obtain ⟨w_13, hw_13⟩ : ∃ z : World, z = w_12.alloc (.cells #[.slice (some ⟨gA, 0, none⟩) 2 2, .slice (some ⟨gC, 0, none⟩) 2 2] 32) := ⟨_, rfl⟩
      try rw [← hw_13]
      have lt_HXC_gM : gC < gM := by rw [← hgM]; exact HXC.out.lt
      have lt_HXA_gM : gA < gM := by rw [← hgM]; exact HXA.out.lt
      have HXM := hide (show Box w_13 gM 32 #[.slice (some ⟨gA, 0, none⟩) 2 2, .slice (some ⟨gC, 0, none⟩) 2 2] by rw [hw_13]; exact Box.made hgM.symm)
      have lo_gM : w.heap.size ≤ gM := by rw [← hgM]; exact HB.out.size
      have hc_13 : Below w_12.heap.size w_12 w_13 := by rw [hw_13]; exact (Below.refl _ _).alloc (Nat.le_refl _) _
      clear hw_13
      replace HXC := hide (HXC.out.below hc_13)
      replace HXA := hide (HXA.out.below hc_13)
      replace HB := hide (HB.out.trans (hc_13.mono HB.out.size))
      clear hc_13
      try simp only [hgM]
      clear hgM
      refine hK.out _ _ (HAT.out _ HB.out) (fun hHeld => ?_)
      clear hK K'
      try simp only [Act.put, List.setIfInBounds_toArray, List.set_cons_zero, List.set_cons_succ]
      refine wpAnyH_take (i := 25) (oi := ⟨some 2, _, _, _, _, _⟩) (v := ?_) rfl (by kernel_rfl) (by kernel_rfl) (by kernel_rfl) (fun _ _ _ h => h) (Or.inl ⟨by rfl, ?_⟩) (by assumption) ?_
      rotate_left
      · (intro w' hSw; (try dsimp only at hSw); go_simp <;> (with_reducible rfl))
      try simp only [Act.put, List.setIfInBounds_toArray, List.set_cons_zero, List.set_cons_succ]
      refine wpAnyH_done (by kernel_rfl) ?_ _
      clear hHeld HAT
      go_wp2_with fail
      go_ret
      have hne : gA ≠ gC := by omega
      refine ⟨gM, fun i => if i = 0 then gA else gC, rfl, ⟨lo_gM, HXM.out.lt, fun i hi => ?_, fun i hi => ?_, fun i hi => ?_, fun i j hi hj hij => ?_⟩, HB.out⟩
      · obtain rfl | rfl : i = 0 ∨ i = 1 := by omega
        · exact HXM.out.at_ 0
        · exact HXM.out.at_ 1
      · obtain rfl | rfl : i = 0 ∨ i = 1 := by omega
        · exact ownG_two _ _ _ ⟨p11, q11⟩ ⟨-p01, -q01⟩ _ lo_gA HXA.out HD0.out HD1.out
        · exact ownG_two _ _ _ ⟨-p10, -q10⟩ ⟨p00, q00⟩ _ lo_gC HXC.out HD2.out HD3.out
      · obtain rfl | rfl : i = 0 ∨ i = 1 := by omega
        · show gA ≠ gM; omega
        · show gC ≠ gM; omega
      · obtain rfl | rfl : i = 0 ∨ i = 1 := by omega
        · obtain rfl : j = 1 := by omega
          show gA ≠ gC; exact hne
        · obtain rfl : j = 0 := by omega
          show gC ≠ gA; exact fun h => hne h.symm
end Go.Proofs.YtcdplfjegopmdaaGreat
