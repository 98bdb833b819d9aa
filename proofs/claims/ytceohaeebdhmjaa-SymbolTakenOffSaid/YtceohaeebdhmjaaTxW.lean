/- Lemmas: S80, S81, S82. -/
import Derived.Deep.DeepCutAuto
import Derived.Test.YtceohaeebdhmjaaBk21
import Derived.Test.YtceohaeebdhmjaaBk23
import Derived.Test.YtceohaeebdhmjaaBk26
import Derived.Test.YtceohaeebdhmjaaBk27
set_option linter.unusedVariables false
set_option linter.unusedSimpArgs false
/- Mathematics of SymbolTakenOff. -/
namespace Go.Proofs.Ytceohaeebdhmjaa
open Go Go.RowKit Go.Lib
theorem Gau.plus_mul (x y z : Gau) : (x.plus y).mul z = (x.mul z).plus (y.mul z) := by
  apply Gau.same <;> simp only [Gau.mul, Gau.plus] <;> grind
theorem Gau.zero_mul (x : Gau) : Gau.zero.mul x = Gau.zero := by
  apply Gau.same <;> simp [Gau.mul, Gau.zero]
theorem Gau.plus_plus (x y z t : Gau) : (x.plus y).plus (z.plus t) = (x.plus z).plus (y.plus t) := by
  apply Gau.same <;> simp only [Gau.plus] <;> omega
theorem Gau.zero_plus (x : Gau) : Gau.zero.plus x = x := by
  apply Gau.same <;> simp [Gau.plus, Gau.zero]
theorem Gau.plus_zero (x : Gau) : x.plus Gau.zero = x := by
  apply Gau.same <;> simp [Gau.plus, Gau.zero]
theorem gsum_congr {A A' Y Y' : Nat → Nat → Gau} {r r' c c' : Nat} : ∀ {n : Nat}, (∀ k, k < n → A r k = A' r' k ∧ Y k c = Y' k c') → gsum A Y r c n = gsum A' Y' r' c' n
  | 0, _ => rfl
  | n + 1, h => by
    show (gsum A Y r c n).plus ((A r n).mul (Y n c)) = (gsum A' Y' r' c' n).plus ((A' r' n).mul (Y' n c'))
    rw [gsum_congr (n := n) fun k hk => h k (by omega), (h n (Nat.lt_succ_self n)).1, (h n (Nat.lt_succ_self n)).2]
theorem gsum_none (A : Nat → Nat → Gau) (r c : Nat) : ∀ n, gsum A (fun _ _ => Gau.zero) r c n = Gau.zero
  | 0 => rfl
  | n + 1 => by
    show (gsum A (fun _ _ => Gau.zero) r c n).plus ((A r n).mul Gau.zero) = Gau.zero
    rw [gsum_none A r c n, Gau.mul_zero, Gau.zero_plus]
theorem gsum_add (A U V : Nat → Nat → Gau) (r c : Nat) : ∀ n, gsum A (fun j d => (U j d).plus (V j d)) r c n = (gsum A U r c n).plus (gsum A V r c n)
  | 0 => by show Gau.zero = Gau.zero.plus Gau.zero; rw [Gau.zero_plus]
  | n + 1 => by
    show (gsum A (fun j d => (U j d).plus (V j d)) r c n).plus ((A r n).mul ((U n c).plus (V n c))) = ((gsum A U r c n).plus ((A r n).mul (U n c))).plus ((gsum A V r c n).plus ((A r n).mul (V n c)))
    rw [gsum_add A U V r c n, Gau.mul_plus, Gau.plus_plus]
theorem gsum_right (A U : Nat → Nat → Gau) (z : Gau) (r c : Nat) : ∀ n, gsum A (fun j d => (U j d).mul z) r c n = (gsum A U r c n).mul z
  | 0 => (Gau.zero_mul z).symm
  | n + 1 => by
    show (gsum A (fun j d => (U j d).mul z) r c n).plus ((A r n).mul ((U n c).mul z)) = ((gsum A U r c n).plus ((A r n).mul (U n c))).mul z
    rw [gsum_right A U z r c n, Gau.plus_mul, Gau.mul_mul]
/-- Applying a product is applying both. -/
theorem gsum_assoc (A B Y : Nat → Nat → Gau) (r c n : Nat) : ∀ m, gsum (fun r j => gsum A B r j n) Y r c m = gsum A (fun j d => gsum B Y j d m) r c n
  | 0 => (gsum_none A r c n).symm
  | m + 1 => by
    show (gsum (fun r j => gsum A B r j n) Y r c m).plus ((gsum A B r m n).mul (Y m c)) = gsum A (fun j d => (gsum B Y j d m).plus ((B j m).mul (Y m d))) r c n
    rw [gsum_assoc A B Y r c n m, gsum_add, gsum_congr (A := A) (A' := A) (Y := fun j d => (B j m).mul (Y m d)) (Y' := fun j _ => (B j m).mul (Y m c)) (r := r) (r' := r) (c := c) (c' := c) (n := n) (fun _ _ => ⟨rfl, rfl⟩), gsum_right A (fun j _ => B j m) (Y m c) r c n,
      gsum_congr (A := A) (A' := A) (Y := fun j _ => B j m) (Y' := B) (r := r) (r' := r) (c := c) (c' := m) (n := n) (fun _ _ => ⟨rfl, rfl⟩)]
/-- The adjugate times the matrix is the determinant. -/
theorem adj_det {n : Nat} (B : Nat → Nat → Gau) (hn : n = 1 ∨ n = 2) (i j : Nat) (hi : i < n) (hj : j < n) : gsum (adjF n B) B i j n = if i = j then detG n B else Gau.zero := by
  rcases hn with rfl | rfl
  · obtain rfl : i = 0 := by omega
    obtain rfl : j = 0 := by omega
    rw [if_pos rfl]
    apply Gau.same <;> simp [gsum, adjF, detG, Gau.mul, Gau.plus, Gau.zero]
  · obtain rfl | rfl : i = 0 ∨ i = 1 := by omega
    · obtain rfl | rfl : j = 0 ∨ j = 1 := by omega
      · rw [if_pos rfl]
        apply Gau.same <;> simp only [gsum, adjF, detG, Gau.mul, Gau.plus, Gau.less, Gau.zero, Gau.neg, if_true, if_false, Nat.reduceEqDiff, Nat.zero_ne_one, Nat.one_ne_zero] <;> grind
      · rw [if_neg (by decide)]
        apply Gau.same <;> simp only [gsum, adjF, detG, Gau.mul, Gau.plus, Gau.less, Gau.zero, Gau.neg, if_true, if_false, Nat.reduceEqDiff, Nat.zero_ne_one, Nat.one_ne_zero] <;> grind
    · obtain rfl | rfl : j = 0 ∨ j = 1 := by omega
      · rw [if_neg (by decide)]
        apply Gau.same <;> simp only [gsum, adjF, detG, Gau.mul, Gau.plus, Gau.less, Gau.zero, Gau.neg, if_true, if_false, Nat.reduceEqDiff, Nat.zero_ne_one, Nat.one_ne_zero] <;> grind
      · rw [if_pos rfl]
        apply Gau.same <;> simp only [gsum, adjF, detG, Gau.mul, Gau.plus, Gau.less, Gau.zero, Gau.neg, if_true, if_false, Nat.reduceEqDiff, Nat.zero_ne_one, Nat.one_ne_zero] <;> grind
/-- A matrix of one entry d times a vector. -/
theorem gsum_diag {n : Nat} (X Y : Nat → Nat → Gau) (d : Gau) (i c : Nat) (hn : n = 1 ∨ n = 2) (hi : i < n) (h : ∀ j, j < n → X i j = if i = j then d else Gau.zero) : gsum X Y i c n = d.mul (Y i c) := by
  rcases hn with rfl | rfl
  · obtain rfl : i = 0 := by omega
    show Gau.zero.plus ((X 0 0).mul (Y 0 c)) = _
    rw [Gau.zero_plus, h 0 (by decide), if_pos rfl]
  · have h0 := h 0 (by decide)
    have h1 := h 1 (by decide)
    show (Gau.zero.plus ((X i 0).mul (Y 0 c))).plus ((X i 1).mul (Y 1 c)) = _
    rw [Gau.zero_plus, h0, h1]
    obtain rfl | rfl : i = 0 ∨ i = 1 := by omega
    · rw [if_pos rfl, if_neg (by decide), Gau.zero_mul, Gau.plus_zero]
    · rw [if_neg (by decide), if_pos rfl, Gau.zero_mul, Gau.zero_plus]
theorem conj_gain (d y : Gau) : d.conj.mul (d.mul y) = ⟨gainG d * y.re, gainG d * y.im⟩ := by
  apply Gau.same <;> simp only [Gau.mul, Gau.conj, gainG] <;> grind
/-- What was put on is taken off. -/
theorem taken_off {n : Nat} (B Y : Nat → Nat → Gau) (hn : n = 1 ∨ n = 2) (i c : Nat) (hi : i < n) :
    gsum (eqF n B (detG n B)) (fun j d => gsum B Y j d n) i c n = ⟨gainG (detG n B) * (Y i c).re, gainG (detG n B) * (Y i c).im⟩ := by
  rw [eqF_sum, ← gsum_assoc, gsum_diag (fun r j => gsum (adjF n B) B r j n) Y (detG n B) i c hn hi fun j hj => adj_det B hn i j hi hj, conj_gain]
/-- The determinant of a product is the product of both. -/
theorem det_product {n : Nat} (A B : Nat → Nat → Gau) (hn : n = 1 ∨ n = 2) : detG n (fun r c => gsum A B r c n) = (detG n A).mul (detG n B) := by
  rcases hn with rfl | rfl
  · apply Gau.same <;> simp [gsum, detG, Gau.mul, Gau.plus, Gau.zero]
  · simp only [detG, gsum, Gau.zero_plus, show ¬ (2 = 1) by decide, if_false]
    generalize A 0 0 = a; generalize A 0 1 = b; generalize A 1 0 = c; generalize A 1 1 = d
    generalize B 0 0 = p; generalize B 0 1 = q; generalize B 1 0 = r; generalize B 1 1 = s
    apply Gau.same <;> simp only [Gau.mul, Gau.plus, Gau.less] <;> grind
/-- Layers whose parts are within are right. -/
theorem laysE_ok {n q : Nat} {F : Nat → Nat → Gau} (h1 : 1 ≤ n) (h4 : n ≤ 4) (q1 : 1 ≤ q) (q9 : q ≤ 200) (h : rowsB 100000000 n q F = true) : laysE n (fun _ => q) F = 0 := by
  unfold laysE
  rw [if_neg (by omega), if_neg (by omega)]
  have hr := rowsB_iff.1 h
  have hz : ∀ i, i < n → layE q q (F i) = 0 := fun i hi => by
    unfold layE
    rw [if_pos (symsE_ok (by omega) q9 (insideB_iff.1 (hr i hi))), if_pos rfl]
  have : ∀ m, m ≤ n → badE (fun i => layE q q (F i)) m = 0 := fun m => by
    induction m with
    | zero => exact fun _ => rfl
    | succ m ih => exact fun hm => (badE_succ (ih (by omega))).trans (hz m (by omega))
  exact this n (Nat.le_refl n)
theorem matE_ok {n m : Nat} {F : Nat → Nat → Gau} (h1 : 1 ≤ n) (h4 : n ≤ 4) (m1 : 1 ≤ m) (m4 : m ≤ 4) (h : rowsB 1000 n m F = true) : matE n (fun _ => m) F = 0 := by
  unfold matE
  rw [if_neg (by omega), if_neg (by omega)]
  have hr := rowsB_iff.1 h
  have hz : ∀ i, i < n → rowE m m (F i) = 0 := fun i hi => by
    unfold rowE
    rw [if_neg (by omega), if_neg (by omega), hr i hi]
    rfl
  have : ∀ k, k ≤ n → badE (fun i => rowE m m (F i)) k = 0 := fun k => by
    induction k with
    | zero => exact fun _ => rfl
    | succ k ih => exact fun hm => (badE_succ (ih (by omega))).trans (hz k (by omega))
  exact this n (Nat.le_refl n)
theorem rowsB_congr {M : Int} {n q : Nat} {F G : Nat → Nat → Gau} (h : ∀ r c, r < n → c < q → F r c = G r c) : rowsB M n q F = rowsB M n q G := by
  rw [Bool.eq_iff_iff, rowsB_iff, rowsB_iff]
  refine forall_congr' fun r => imp_congr_right fun hr => ?_
  rw [insideB_iff, insideB_iff]
  exact forall_congr' fun c => imp_congr_right fun hc => by rw [h r c hr hc]
theorem lpE_cases (M : Int) (n m k q : Nat) (X Y : Nat → Nat → Gau) : lpE M n m k q X Y = 0 ∨ lpE M n m k q X Y = 13 ∨ lpE M n m k q X Y = 8 := by
  unfold lpE
  by_cases h : m = k
  · rw [if_pos h]
    cases rowsB M n q fun r c => gsum X Y r c m
    · exact .inr (.inr rfl)
    · exact .inl rfl
  · rw [if_neg h]; exact .inr (.inl rfl)
theorem lpE_zero {M : Int} {n m k q : Nat} {X Y : Nat → Nat → Gau} (h : lpE M n m k q X Y = 0) : m = k ∧ rowsB M n q (fun r c => gsum X Y r c m) = true := by
  unfold lpE at h
  by_cases e : m = k
  · rw [if_pos e] at h
    refine ⟨e, ?_⟩
    cases hb : rowsB M n q fun r c => gsum X Y r c m
    · rw [hb] at h; exact absurd h (by decide)
    · rfl
  · rw [if_neg e] at h; exact absurd h (by decide)
end Go.Proofs.Ytceohaeebdhmjaa
/- GPart of base. -/
namespace Go.Proofs.Ytceohaeebdhmjaa
open Go Go.RowKit Go.Lib
set_option maxHeartbeats 4000000 in
set_option maxRecDepth 100000 in
theorem gpart_any (x : Gau) (w : World) (hx : x.Within 9000000000000000000) :
    Calls Try.prog 32 #[.agg #[.int .i64 x.re, .int .i64 x.im]] w fun e w' => e = .returned (.int .i64 (max (x.re.natAbs : Int) (x.im.natAbs : Int))) ∧ Below w.heap.size w w' := by
  have HR := hide (fun W => sizeB_any x.re W (by have := hx.re; omega))
  have HI := hide (fun W => sizeB_any x.im W (by have := hx.im; omega))
  clear hx
  obtain ⟨a, ha⟩ : ∃ z, (x.re.natAbs : Int) = z := ⟨_, rfl⟩
  obtain ⟨b, hb⟩ : ∃ z, (x.im.natAbs : Int) = z := ⟨_, rfl⟩
  obtain ⟨xr, hxr⟩ : ∃ z, x.re = z := ⟨_, rfl⟩
  obtain ⟨xi, hxi⟩ : ∃ z, x.im = z := ⟨_, rfl⟩
  simp only [ha] at HR
  simp only [hxr] at HR
  simp only [hb] at HI
  simp only [hxi] at HI
  rw [ha, hb, hxr, hxi]
  clear ha hb hxr hxi
  rcases Int.lt_or_le a b with hab | hab
  all_goals
    rw [show max a b = _ from by first | exact Int.max_eq_right (Int.le_of_lt hab) | exact Int.max_eq_left hab]
    have hab2 : a < b ∨ ¬ a < b := by omega
    first | (have hab3 : ¬ a < b := by omega) | skip
    clear hab2
    go_enter Try.func32, Try.ntmps32
    go_upto_region 1 with fail
    obtain ⟨w1, hw1⟩ : ∃ z : World, z = w.alloc (.cells #[.int .i64 xr, .int .i64 xi] 43) := ⟨_, rfl⟩
    try rw [← hw1]
    have HX := hide (show Box w1 w.heap.size 43 #[.int .i64 xr, .int .i64 xi] by rw [hw1]; exact Box.made rfl)
    have HB := hide (show Below w.heap.size w w1 by rw [hw1]; (repeat (first | (with_reducible exact Below.refl _ _) | (with_reducible refine Go.below_drewN ?_ _) | (with_reducible refine Below.drew ?_) | (with_reducible refine Below.alloc ?_ (by first | exact Nat.le_refl _ | (simp; done) | (simp; omega) | omega) _) | (with_reducible refine Below.setCell ?_ (by first | exact Nat.le_refl _ | (simp; done) | (simp; omega) | omega) _))))
    clear hw1
    obtain ⟨y0, y1⟩ := pairS_cells HX.out
    have hly := HX.out.lt
    go_wp2_with fail
    go_quiet ((go_at_call 71; first | exact Calls.quiet_of_same ((HR.out _).mono fun _ _ h => ⟨h.1, h.2⟩) | exact Calls.quiet_of_same ((HI.out _).mono fun _ _ h => ⟨h.1, h.2⟩)))
    go_wp2_with fail
    go_ret
    exact ⟨rfl, Go.below_drewN HB.out _⟩
end Go.Proofs.Ytceohaeebdhmjaa
/- The walk of SymbolTakenOff. -/
namespace Go.Proofs.Ytceohaeebdhmjaa
open Go Go.RowKit Go.Lib Ieee
theorem eqE_parts {n k : Nat} {L K : Nat → Nat} {X Y : Nat → Nat → Gau} (h : eqE n L X k K Y = 0) : detE n L X = 0 ∧ 1 ≤ gainG (detV n L X) ∧ gainG (detV n L X) ≤ 10000000 := by
  have hn := sq_nn (detV n L X).re
  have hm := sq_nn (detV n L X).im
  unfold eqE at h
  by_cases e : orS (detE n L X) (laysE k K Y) = 0
  · rw [if_pos e] at h
    refine ⟨(orS_zero e).1, ?_⟩
    by_cases e2 : k = n
    · rw [if_pos e2] at h
      by_cases e3 : gainG (detV n L X) = 0
      · rw [if_pos e3] at h; exact absurd h (by decide)
      · rw [if_neg e3] at h
        by_cases e4 : 10000000 < gainG (detV n L X)
        · rw [if_pos e4] at h; exact absurd h (by decide)
        · unfold gainG at e3 e4 ⊢
          omega
    · rw [if_neg e2] at h; exact absurd h (by decide)
  · rw [if_neg e] at h; exact absurd h e
theorem part_within {x : Gau} {M : Int} (h : x.Within M) : 0 ≤ max (x.re.natAbs : Int) (x.im.natAbs : Int) ∧ max (x.re.natAbs : Int) (x.im.natAbs : Int) ≤ M := by
  have h1 := h.re
  have h2 := h.im
  omega
set_option maxHeartbeats 64000000 in
set_option maxRecDepth 100000 in
theorem symbolTakenOff_walk (A B C : Option Addr) (n1 n2 n3 ca cb cc : Nat) (L1 L2 L3 : Nat → Nat) (X1 X2 X3 : Nat → Nat → Gau) (w : World) (hA : MatsAt w 0 A n1 L1 X1) (hB : MatsAt w 0 B n2 L2 X2) (hC : MatsAt w 0 C n3 L3 X3) :
    Calls Try.prog 6 #[.slice A n1 ca, .slice B n2 cb, .slice C n3 cc] w fun e w' => e = .returned (.bool true) ∧ Below w.heap.size w w' := by
  have HAA := hide hA
  have HBB := hide hB
  have HCC := hide hC
  have HSA := hide (fun W h => smallS_any A n1 ca L1 X1 W h)
  have HSB := hide (fun W h => smallS_any B n2 cb L2 X2 W h)
  have HSC := hide (fun W h => smallS_any C n3 cc L3 X3 W h)
  have HB := hide (Below.refl w.heap.size w)
  clear hA hB hC
  go_enter Try.func6, Try.ntmps6
  go_wp2_with fail
  refine (awakeS_any _).mono ?_
  rintro e_ v1 ⟨rfl, hb1⟩
  replace HAA := hide (HAA.out.below hb1)
  replace HBB := hide (HBB.out.below hb1)
  replace HCC := hide (HCC.out.below hb1)
  replace HB := hide (HB.out.trans (hb1.mono HB.out.size))
  clear hb1
  go_wp2_with fail
  by_cases sa : smallB n1 L1 = true
  case neg =>
    rw [Bool.not_eq_true] at sa
    simp only [sa] at HSA
    refine (HSA.out _ HAA.out).mono ?_
    rintro e_ v_ ⟨rfl, rfl⟩
    go_wp2_with fail
    go_ret
    exact ⟨rfl, HB.out⟩
  simp only [sa] at HSA
  refine (HSA.out _ HAA.out).mono ?_
  rintro e_ v_ ⟨rfl, rfl⟩
  go_wp2_with fail
  clear HSA
  obtain ⟨sa1, sa2⟩ := smallB_iff.1 sa
  by_cases sb : smallB n2 L2 = true
  case neg =>
    rw [Bool.not_eq_true] at sb
    simp only [sb] at HSB
    refine (HSB.out _ HBB.out).mono ?_
    rintro e_ v_ ⟨rfl, rfl⟩
    go_wp2_with fail
    go_ret
    exact ⟨rfl, HB.out⟩
  simp only [sb] at HSB
  refine (HSB.out _ HBB.out).mono ?_
  rintro e_ v_ ⟨rfl, rfl⟩
  go_wp2_with fail
  clear HSB
  obtain ⟨sb1, sb2⟩ := smallB_iff.1 sb
  by_cases sc : smallB n3 L3 = true
  case neg =>
    rw [Bool.not_eq_true] at sc
    simp only [sc] at HSC
    refine (HSC.out _ HCC.out).mono ?_
    rintro e_ v_ ⟨rfl, rfl⟩
    go_wp2_with fail
    go_ret
    exact ⟨rfl, HB.out⟩
  simp only [sc] at HSC
  refine (HSC.out _ HCC.out).mono ?_
  rintro e_ v_ ⟨rfl, rfl⟩
  go_wp2_with fail
  clear HSC
  obtain ⟨sc1, sc2⟩ := smallB_iff.1 sc
  have hL1 : ∀ i, i < n1 → L1 i ≤ 100000 := fun i hi => by have := sa2 i hi; omega
  have hL2 : ∀ i, i < n2 → L2 i ≤ 100000 := fun i hi => by have := sb2 i hi; omega
  have hL3 : ∀ i, i < n3 → L3 i ≤ 100000 := fun i hi => by have := sc2 i hi; omega
  have HRC := hide (fun W h => CheckMatrixR_any A n1 ca L1 X1 W (by omega) hL1 h)
  obtain ⟨r1, hr1⟩ : ∃ z, matE n1 L1 X1 = z := ⟨_, rfl⟩
  simp only [hr1] at HRC
  by_cases hz1 : r1 = 0
  case neg =>
    have tr : (r1 != 0) = true := by simpa using hz1
    refine (HRC.out _ HAA.out).mono ?_
    rintro e_ v2 ⟨rfl, hb2⟩
    replace HAA := hide (HAA.out.below hb2)
    replace HBB := hide (HBB.out.below hb2)
    replace HCC := hide (HCC.out.below hb2)
    replace HB := hide (HB.out.trans (hb2.mono HB.out.size))
    clear hb2
    go_wp2_with fail
    go_ret
    exact ⟨rfl, HB.out⟩
  subst hz1
  have t00 : ((0 : Int) != 0) = false := by decide
  refine (HRC.out _ HAA.out).mono ?_
  rintro e_ v3 ⟨rfl, hb3⟩
  replace HAA := hide (HAA.out.below hb3)
  replace HBB := hide (HBB.out.below hb3)
  replace HCC := hide (HCC.out.below hb3)
  replace HB := hide (HB.out.trans (hb3.mono HB.out.size))
  clear hb3
  go_wp2_with fail
  clear HRC
  have ok1 := matE_zero hr1
  have HRC := hide (fun W h => CheckMatrixR_any B n2 cb L2 X2 W (by omega) hL2 h)
  obtain ⟨r2, hr2⟩ : ∃ z, matE n2 L2 X2 = z := ⟨_, rfl⟩
  simp only [hr2] at HRC
  by_cases hz2 : r2 = 0
  case neg =>
    have tr : (r2 != 0) = true := by simpa using hz2
    refine (HRC.out _ HBB.out).mono ?_
    rintro e_ v4 ⟨rfl, hb4⟩
    replace HAA := hide (HAA.out.below hb4)
    replace HBB := hide (HBB.out.below hb4)
    replace HCC := hide (HCC.out.below hb4)
    replace HB := hide (HB.out.trans (hb4.mono HB.out.size))
    clear hb4
    go_wp2_with fail
    go_ret
    exact ⟨rfl, HB.out⟩
  subst hz2
  have t00 : ((0 : Int) != 0) = false := by decide
  refine (HRC.out _ HBB.out).mono ?_
  rintro e_ v5 ⟨rfl, hb5⟩
  replace HAA := hide (HAA.out.below hb5)
  replace HBB := hide (HBB.out.below hb5)
  replace HCC := hide (HCC.out.below hb5)
  replace HB := hide (HB.out.trans (hb5.mono HB.out.size))
  clear hb5
  go_wp2_with fail
  clear HRC
  have ok2 := matE_zero hr2
  have HRC := hide (fun W h => LayersErrR_any C n3 cc L3 X3 W (by omega) hL3 h)
  obtain ⟨r3, hr3⟩ : ∃ z, laysE n3 L3 X3 = z := ⟨_, rfl⟩
  simp only [hr3] at HRC
  by_cases hz3 : r3 = 0
  case neg =>
    have tr : (r3 != 0) = true := by simpa using hz3
    refine (HRC.out _ HCC.out).mono ?_
    rintro e_ v6 ⟨rfl, hb6⟩
    replace HAA := hide (HAA.out.below hb6)
    replace HBB := hide (HBB.out.below hb6)
    replace HCC := hide (HCC.out.below hb6)
    replace HB := hide (HB.out.trans (hb6.mono HB.out.size))
    clear hb6
    go_wp2_with fail
    go_ret
    exact ⟨rfl, HB.out⟩
  subst hz3
  have t00 : ((0 : Int) != 0) = false := by decide
  refine (HRC.out _ HCC.out).mono ?_
  rintro e_ v7 ⟨rfl, hb7⟩
  replace HAA := hide (HAA.out.below hb7)
  replace HBB := hide (HBB.out.below hb7)
  replace HCC := hide (HCC.out.below hb7)
  replace HB := hide (HB.out.trans (hb7.mono HB.out.size))
  clear hb7
  go_wp2_with fail
  clear HRC
  have ok3 := laysE_zero hr3
  have OK1 := hide ok1
  have OK2 := hide ok2
  have OK3 := hide ok3
  have HR1 := hide hr1
  have HR2 := hide hr2
  have HR3 := hide hr3
  have a1 := ok1.n1
  have a4 := ok1.n4
  have b1 := ok2.n1
  have b4 := ok2.n4
  have c1 := ok3.n1
  have c4 := ok3.n4
  obtain ⟨m1, hm1⟩ : ∃ z, L1 0 = z := ⟨_, rfl⟩
  obtain ⟨m2, hm2⟩ : ∃ z, L2 0 = z := ⟨_, rfl⟩
  obtain ⟨q, hq⟩ : ∃ z, L3 0 = z := ⟨_, rfl⟩
  rw [hm1] at ok1
  rw [hm2] at ok2
  rw [hq] at ok3
  have am1 := ok1.m1
  have am4 := ok1.m4
  have bm1 := ok2.m1
  have bm4 := ok2.m4
  have q1 := ok3.q1
  have q9 := ok3.q9
  have HCA := hide (fun W h => copyAll_any A n1 ca L1 X1 W (by omega) hL1 h)
  have HCB := hide (fun W h => copyAll_any B n2 cb L2 X2 W (by omega) hL2 h)
  have HCC2 := hide (fun W h => copyAll_any C n3 cc L3 X3 W (by omega) hL3 h)
  have HL1 := hide hL1
  have HL2 := hide hL2
  have HL3 := hide hL3
  have HM1 := hide hm1
  have HM2 := hide hm2
  have HQ := hide hq
  have HAP := hide (fun A C c d W h h2 => AppliedC_any A C n2 n3 c d L2 L3 X2 X3 W (by omega) (by omega) hL2 hL3 h h2)
  have he1 : appE n2 L2 X2 n3 L3 X3 = lpE 100000000 n2 m2 n3 q X2 X3 := by unfold appE; rw [hr2, hr3, orS_right, if_pos rfl, hm2, hq]
  simp only [he1, hm2, hq] at HAP
  obtain ⟨e1, h1⟩ : ∃ z, lpE 100000000 n2 m2 n3 q X2 X3 = z := ⟨_, rfl⟩
  have hcs := lpE_cases 100000000 n2 m2 n3 q X2 X3
  have hzz := fun h => lpE_zero (M := 100000000) (n := n2) (m := m2) (k := n3) (q := q) (X := X2) (Y := X3) h
  simp only [h1] at HAP hcs hzz
  obtain ⟨F1, hF1⟩ : ∃ z, (fun r c => gsum X2 X3 r c m2) = z := ⟨_, rfl⟩
  simp only [hF1] at HAP hzz
  have HF1 := hide hF1
  have HZ1 := hide hzz
  have HE1 := hide hcs
  clear he1 hcs hzz hF1 h1 ok1 ok2 ok3 hr1 hr2 hr3 hm1 hm2 hq hL1 hL2 hL3 sa sb sc sa2 sb2 sc2
  refine (HCB.out _ HBB.out).mono ?_
  rintro e_ v8 ⟨y1, rfl, ho1, hb8⟩
  obtain ⟨A1, c1, rfl, -, -, hm1⟩ := ho1.form
  replace HAA := hide (HAA.out.below hb8)
  replace HBB := hide (HBB.out.below hb8)
  replace HCC := hide (HCC.out.below hb8)
  replace HB := hide (HB.out.trans (hb8.mono HB.out.size))
  clear hb8
  have HM1 := hide (hm1.weak (Nat.zero_le _))
  clear hm1 ho1
  go_wp2_with fail
  refine (HCC2.out _ HCC.out).mono ?_
  rintro e_ v9 ⟨y2, rfl, ho2, hb9⟩
  obtain ⟨A2, c2, rfl, -, -, hm2⟩ := ho2.form
  replace HAA := hide (HAA.out.below hb9)
  replace HBB := hide (HBB.out.below hb9)
  replace HCC := hide (HCC.out.below hb9)
  replace HM1 := hide (HM1.out.below hb9)
  replace HB := hide (HB.out.trans (hb9.mono HB.out.size))
  clear hb9
  have HM2 := hide (hm2.weak (Nat.zero_le _))
  clear hm2 ho2
  go_wp2_with fail
  refine (HAP.out A1 A2 c1 c2 _ HM1.out HM2.out).mono ?_
  rintro e_ v10 ⟨yx, rfl, ⟨Ax, Nx, cx, rfl, hNx, hmx⟩, hb10⟩
  replace HAA := hide (HAA.out.below hb10)
  replace HBB := hide (HBB.out.below hb10)
  replace HCC := hide (HCC.out.below hb10)
  replace HM1 := hide (HM1.out.below hb10)
  replace HM2 := hide (HM2.out.below hb10)
  replace HB := hide (HB.out.trans (hb10.mono HB.out.size))
  clear hb10
  have HNx := hide hNx
  have HMx := hide hmx
  clear hNx hmx
  clear HM1 HM2
  clear HAP
  by_cases h0e : e1 = 0
  case neg =>
    have hcs := HE1.out
    clear HE1 HZ1 HNx
    rcases hcs with h9 | h9 | h9
    · exact absurd h9 h0e
    · subst h9
      clear h0e
      go_wp2_with fail
      go_ret
      exact ⟨rfl, HB.out⟩
    · subst h9
      clear h0e
      go_wp2_with fail
      go_ret
      exact ⟨rfl, HB.out⟩
  obtain ⟨hmn, hrow⟩ := HZ1.out h0e
  have hnx : Nx = n2 := HNx.out.trans (if_pos h0e)
  subst h0e
  subst hnx
  subst hmn
  have hlx := laysE_ok b1 b4 q1 q9 hrow
  have HLX := hide hlx
  have HLR := hide (fun W h => LayersErrR_any Ax Nx cx (fun _ => q) F1 W (by omega) (fun _ _ => by omega) h)
  simp only [hlx] at HLR
  clear hlx hrow HE1 HZ1 HNx
  go_wp2_with fail
  refine (HLR.out _ HMx.out).mono ?_
  rintro e_ v11 ⟨rfl, hb11⟩
  replace HAA := hide (HAA.out.below hb11)
  replace HBB := hide (HBB.out.below hb11)
  replace HCC := hide (HCC.out.below hb11)
  replace HMx := hide (HMx.out.below hb11)
  replace HB := hide (HB.out.trans (hb11.mono HB.out.size))
  clear hb11
  go_wp2_with fail
  clear HLR
  have HEQ := hide (fun A C c d W h h2 => Equalized_any A C Nx Nx c d L2 (fun _ => q) X2 F1 W (by omega) (by omega) HL2.out (fun _ _ => by omega) h h2)
  have HCX := hide (fun W h => copyAll_any Ax Nx cx (fun _ => q) F1 W (by omega) (fun _ _ => by omega) h)
  have HEP := hide (fun h => eqE_parts (n := Nx) (k := Nx) (L := L2) (K := fun _ => q) (X := X2) (Y := F1) h)
  have HEG := hide (fun h : eqE Nx L2 X2 Nx (fun _ => q) F1 = 0 => (show eqG Nx L2 X2 Nx (fun _ => q) F1 = gainG (detV Nx L2 X2) from if_pos h))
  obtain ⟨e2, h2⟩ : ∃ z, eqE Nx L2 X2 Nx (fun _ => q) F1 = z := ⟨_, rfl⟩
  obtain ⟨G, hG⟩ : ∃ z, eqG Nx L2 X2 Nx (fun _ => q) F1 = z := ⟨_, rfl⟩
  simp only [h2, hG] at HEQ HEG
  simp only [h2] at HEP
  clear h2 hG
  refine (HCB.out _ HBB.out).mono ?_
  rintro e_ v12 ⟨y3, rfl, ho3, hb12⟩
  obtain ⟨A3, c3, rfl, -, -, hm3⟩ := ho3.form
  replace HAA := hide (HAA.out.below hb12)
  replace HBB := hide (HBB.out.below hb12)
  replace HCC := hide (HCC.out.below hb12)
  replace HMx := hide (HMx.out.below hb12)
  replace HB := hide (HB.out.trans (hb12.mono HB.out.size))
  clear hb12
  have HM3 := hide (hm3.weak (Nat.zero_le _))
  clear hm3 ho3
  go_wp2_with fail
  refine (HCX.out _ HMx.out).mono ?_
  rintro e_ v13 ⟨y4, rfl, ho4, hb13⟩
  obtain ⟨A4, c4, rfl, -, -, hm4⟩ := ho4.form
  replace HAA := hide (HAA.out.below hb13)
  replace HBB := hide (HBB.out.below hb13)
  replace HCC := hide (HCC.out.below hb13)
  replace HMx := hide (HMx.out.below hb13)
  replace HM3 := hide (HM3.out.below hb13)
  replace HB := hide (HB.out.trans (hb13.mono HB.out.size))
  clear hb13
  have HM4 := hide (hm4.weak (Nat.zero_le _))
  clear hm4 ho4
  go_wp2_with fail
  refine (HEQ.out A3 A4 c3 c4 _ HM3.out HM4.out).mono ?_
  rintro e_ v14 ⟨yy, rfl, hg, hb14⟩
  obtain ⟨Ay, Ny, cy, rfl, hNy, hmy⟩ := hg.got
  replace HAA := hide (HAA.out.below hb14)
  replace HBB := hide (HBB.out.below hb14)
  replace HCC := hide (HCC.out.below hb14)
  replace HMx := hide (HMx.out.below hb14)
  replace HM3 := hide (HM3.out.below hb14)
  replace HM4 := hide (HM4.out.below hb14)
  replace HB := hide (HB.out.trans (hb14.mono HB.out.size))
  clear hb14
  have HNy := hide hNy
  have HMy := hide hmy
  clear hNy hmy hg HEQ
  clear HM3 HM4
  go_upto_if 85 with fail
  go_cut [12, 13] (fun _ _ wy => Hid (Below v14.heap.size v14 wy))
  case first =>
    by_cases he2 : e2 = 0
    case neg =>
      have te : (e2 == 0) = false := by simpa using he2
      clear HEP HEG HNy he2
      go_wp2_with fail
      go_meet
      case rel => exact hide (Below.refl _ _)
    obtain ⟨hdz, hg1, hg7⟩ := HEP.out he2
    have hgg := HEG.out he2
    have hdv : detV Nx L2 X2 = detG Nx X2 := if_pos hdz
    have hn2 := (detE_zero hdz).2.2
    have hny : Ny = Nx := HNy.out.trans (if_pos he2)
    subst hny
    have hnm := (detE_zero hdz).2.1
    rw [HM2.out] at hnm
    subst he2
    rw [hdv] at hg1 hg7 hgg
    have HYV := hide (fun r c (hr : r < Ny) => (show gsum (eqF Ny X2 (detV Ny L2 X2)) F1 r c Ny = ⟨G * (X3 r c).re, G * (X3 r c).im⟩ by rw [hdv, hgg, ← HF1.out, ← hnm]; exact taken_off X2 X3 (by omega) r c hr))
    rw [← hgg] at hg1 hg7
    have HWG := hide (fun W => within_any G 1 10000000 W)
    simp only [withinB_yes (show 1 ≤ G ∧ G ≤ 10000000 from ⟨hg1, hg7⟩)] at HWG
    have HXW := hide (fun r c hr hc => OK3.out.inside r c hr (by rw [HQ.out]; exact hc))
    have HY2 := hide (HMy.out.congr (L' := fun _ => q) (F' := fun r c => ⟨G * (X3 r c).re, G * (X3 r c).im⟩) (fun r hr => ⟨rfl, fun c _ => HYV.out r c (by omega)⟩))
    have HC3 := hide (HCC.out.len (m := q) (fun r hr => by rw [← HQ.out]; exact OK3.out.len r hr))
    have te : ((0 : Int) == 0) = true := by decide
    have tny : ((Ny : Int) != (m2 : Int)) = false := by simp; omega
    have HNM := hide hnm
    clear HEP HEG HNy hdz hdv hgg HYV HLX hnm HMy HCC HAA HBB HMx HCA HCB HCC2 HCX
    go_wp2_with fail
    refine (HWG.out _).mono ?_
    rintro e_ v_ ⟨rfl, rfl⟩
    go_wp2_with fail
    clear HWG
    go_loopw [12, 13] (fun i _ wr => ∃ p : Nat, p ≤ Ny ∧ i = .int .i64 (p : Int) ∧ Hid (Below v14.heap.size v14 wr)) (fun i _ _ => Ny - (Go.RowKit.intOf i).toNat)
    case atStart => exact ⟨0, Nat.zero_le _, rfl, hide (Below.refl _ _)⟩
    case round =>
      obtain ⟨p, hp, rfl, HW⟩ := hrel
      obtain ⟨wA, rfl⟩ : ∃ x : World, x = wr := ⟨_, rfl⟩
      by_cases hlt : p < Ny
      case neg =>
        obtain rfl : Ny = p := by omega
        have hltz : ¬ (Ny : Int) < (Ny : Int) := by omega
        clear HY2 HC3 HXW
        go_wp2_with fail
        go_meet
        case rel => exact HW
      have hltz : (p : Int) < (Ny : Int) := by omega
      have hltn : p < m2 := by have h9 := HNM.out; omega
      have hltm : (p : Int) < (m2 : Int) := by omega
      obtain ⟨by_, oy, Ayr, cyr, rfl, -, hbA, yr0, hcyr, -, hRy⟩ := (HY2.out.below HW.out) p hlt
      obtain ⟨bc, oc, Acr, ccr, rfl, -, hbB, yc0, hccr, -, hRc⟩ := (HC3.out.below HW.out) p hltn
      have HRY := hide hRy
      have HRC := hide hRc
      clear hRy hRc
      have tqq : ((q : Int) != (q : Int)) = false := by simp
      have HYR := hide (fun W (h : Below wA.heap.size wA W) => (⟨bcellW h yr0, bcellW h yc0⟩ : _ ∧ _))
      go_wp2_with fail
      go_quiet (fail)
      obtain ⟨wB, hwB⟩ : ∃ z, wA.drewN nq = z := ⟨_, rfl⟩
      rw [hwB]
      have HAB := hide (show Below wA.heap.size wA wB by rw [← hwB]; exact Go.below_drewN (Below.refl _ _) _)
      clear hwB yr0 yc0
      obtain ⟨yr0, yc0⟩ := HYR.out _ HAB.out
      go_wp2_with fail
      go_loopw [13] (fun i wr => ∃ c : Nat, c ≤ q ∧ i = .int .i64 (c : Int) ∧ Hid (Below wA.heap.size wA wr)) (fun i _ => q - (Go.RowKit.intOf i).toNat)
      case atStart => exact ⟨0, Nat.zero_le _, rfl, HAB⟩
      case round =>
        clear HAB yr0 yc0
        obtain ⟨c, hc, rfl, HC⟩ := hrel
        obtain ⟨wC, rfl⟩ : ∃ x : World, x = wr := ⟨_, rfl⟩
        obtain ⟨yr0, yc0⟩ := HYR.out _ HC.out
        by_cases hltc : c < q
        case neg =>
          obtain rfl : q = c := by omega
          have hltcz : ¬ (q : Int) < (q : Int) := by omega
          have HW2 := hide (HW.out.trans (HC.out.mono HW.out.size))
          clear HRY HRC HYR HXW
          go_wp2_with fail
          go_roundw
          case rel => exact ⟨p + 1, by omega, by go_num, HW2⟩
          case measure => simp [Go.RowKit.intOf]; omega
        have hltcz : (c : Int) < (q : Int) := by omega
        obtain ⟨b2, o2, rfl, -, -, d0, d1⟩ := (HRY.out.below HC.out) c hltc
        obtain ⟨b3, o3, rfl, -, -, f0, f1⟩ := (HRC.out.below HC.out) c hltc
        have hxw := HXW.out p c hltn hltc
        have hm1 := mul_size (M := 10000000) (N := 100000000) (show -10000000 ≤ G ∧ G ≤ 10000000 by omega) hxw.re
        have hm2 := mul_size (M := 10000000) (N := 100000000) (show -10000000 ≤ G ∧ G ≤ 10000000 by omega) hxw.im
        obtain ⟨xr, hxr⟩ : ∃ z, (X3 p c).re = z := ⟨_, rfl⟩
        obtain ⟨xi, hxi⟩ : ∃ z, (X3 p c).im = z := ⟨_, rfl⟩
        rw [hxr] at hm1 f0
        rw [hxi] at hm2 f1
        simp only [hxr, hxi] at d0 d1
        have qm1 : IntKind.i64.wrap (G * xr) = G * xr := IntWalk.i64_in _ (by omega)
        have qm2 : IntKind.i64.wrap (G * xi) = G * xi := IntWalk.i64_in _ (by omega)
        clear hxw hm1 hm2 hxr hxi
        obtain ⟨P, hP⟩ : ∃ z, G * xr = z := ⟨_, rfl⟩
        obtain ⟨Q, hQ⟩ : ∃ z, G * xi = z := ⟨_, rfl⟩
        rw [hP] at d0
        rw [hQ] at d1
        replace qm1 : IntKind.i64.wrap (G * xr) = P := qm1.trans hP
        replace qm2 : IntKind.i64.wrap (G * xi) = Q := qm2.trans hQ
        clear hP hQ
        go_wp2_with fail
        go_quiet (fail)
        go_wp2_with fail
        go_roundw
        case rel => exact ⟨c + 1, by omega, by go_num, hide (Go.below_drewN HC.out _)⟩
        case measure => simp [Go.RowKit.intOf]; omega
  case rest =>
    obtain ⟨w5, rfl⟩ : ∃ x : World, x = wc := ⟨_, rfl⟩
    have hbc := hcut.out
    replace HAA := hide (HAA.out.below hbc)
    replace HBB := hide (HBB.out.below hbc)
    replace HCC := hide (HCC.out.below hbc)
    replace HMx := hide (HMx.out.below hbc)
    replace HMy := hide (HMy.out.below hbc)
    replace HB := hide (HB.out.trans (hbc.mono HB.out.size))
    clear hbc
    clear HMy
    clear HEP HEG HNy
    have HPR := hide (fun A C c d W h h2 => ProductC_any A C n1 Nx c d L1 L2 X1 X2 W (by omega) (by omega) HL1.out HL2.out h h2)
    have he3 : prdE n1 L1 X1 Nx L2 X2 = lpE 1000 n1 m1 Nx m2 X1 X2 := by unfold prdE; rw [HR1.out, HR2.out, orS_right, if_pos rfl, HM1.out, HM2.out]
    simp only [he3, HM1.out, HM2.out] at HPR
    have hcs := lpE_cases 1000 n1 m1 Nx m2 X1 X2
    have hzz := fun h => lpE_zero (M := 1000) (n := n1) (m := m1) (k := Nx) (q := m2) (X := X1) (Y := X2) h
    obtain ⟨e3, h3⟩ : ∃ z, lpE 1000 n1 m1 Nx m2 X1 X2 = z := ⟨_, rfl⟩
    simp only [h3] at HPR hcs hzz
    obtain ⟨F3, hF3⟩ : ∃ z, (fun r c => gsum X1 X2 r c m1) = z := ⟨_, rfl⟩
    simp only [hF3] at HPR hzz
    have HF3 := hide hF3
    have HE3 := hide hcs
    have HZ3 := hide hzz
    clear he3 hcs hzz hF3 h3
    go_wp2_with fail
    refine (HCA.out _ HAA.out).mono ?_
    rintro e_ v15 ⟨y5, rfl, ho5, hb15⟩
    obtain ⟨A5, c5, rfl, -, -, hm5⟩ := ho5.form
    replace HAA := hide (HAA.out.below hb15)
    replace HBB := hide (HBB.out.below hb15)
    replace HCC := hide (HCC.out.below hb15)
    replace HMx := hide (HMx.out.below hb15)
    replace HB := hide (HB.out.trans (hb15.mono HB.out.size))
    clear hb15
    have HM5 := hide (hm5.weak (Nat.zero_le _))
    clear hm5 ho5
    go_wp2_with fail
    refine (HCB.out _ HBB.out).mono ?_
    rintro e_ v16 ⟨y6, rfl, ho6, hb16⟩
    obtain ⟨A6, c6, rfl, -, -, hm6⟩ := ho6.form
    replace HAA := hide (HAA.out.below hb16)
    replace HBB := hide (HBB.out.below hb16)
    replace HCC := hide (HCC.out.below hb16)
    replace HMx := hide (HMx.out.below hb16)
    replace HM5 := hide (HM5.out.below hb16)
    replace HB := hide (HB.out.trans (hb16.mono HB.out.size))
    clear hb16
    have HM6 := hide (hm6.weak (Nat.zero_le _))
    clear hm6 ho6
    go_wp2_with fail
    refine (HPR.out A5 A6 c5 c6 _ HM5.out HM6.out).mono ?_
    rintro e_ v17 ⟨yp, rfl, ⟨Ap, Np, cp, rfl, hNp, hmp⟩, hb17⟩
    replace HAA := hide (HAA.out.below hb17)
    replace HBB := hide (HBB.out.below hb17)
    replace HCC := hide (HCC.out.below hb17)
    replace HMx := hide (HMx.out.below hb17)
    replace HM5 := hide (HM5.out.below hb17)
    replace HM6 := hide (HM6.out.below hb17)
    replace HB := hide (HB.out.trans (hb17.mono HB.out.size))
    clear hb17
    have HNp := hide hNp
    have HMp := hide hmp
    clear hNp hmp
    clear HM5 HM6
    clear HPR
    go_wp2_with fail
    have HAZ := hide (fun A C c d W h h2 => AppliedC_any A C n1 Nx c d L1 (fun _ => q) X1 F1 W (by omega) (by omega) HL1.out (fun _ _ => by omega) h h2)
    have he4 : appE n1 L1 X1 Nx (fun _ => q) F1 = lpE 100000000 n1 m1 Nx q X1 F1 := by unfold appE; rw [HR1.out, HLX.out, orS_right, if_pos rfl, HM1.out]
    simp only [he4, HM1.out] at HAZ
    have HD4 := hide (show lpE 100000000 n1 m1 Nx q X1 F1 = lpE 100000000 n1 m1 Nx q X1 F1 from rfl)
    obtain ⟨e4, h4⟩ : ∃ z, lpE 100000000 n1 m1 Nx q X1 F1 = z := ⟨_, rfl⟩
    obtain ⟨F4, hF4⟩ : ∃ z, (fun r c => gsum X1 F1 r c m1) = z := ⟨_, rfl⟩
    simp only [h4, hF4] at HAZ
    have HV4 := hide h4
    have HF4 := hide hF4
    clear he4 h4 hF4 HD4
    refine (HCA.out _ HAA.out).mono ?_
    rintro e_ v18 ⟨y7, rfl, ho7, hb18⟩
    obtain ⟨A7, c7, rfl, -, -, hm7⟩ := ho7.form
    replace HAA := hide (HAA.out.below hb18)
    replace HBB := hide (HBB.out.below hb18)
    replace HCC := hide (HCC.out.below hb18)
    replace HMx := hide (HMx.out.below hb18)
    replace HMp := hide (HMp.out.below hb18)
    replace HB := hide (HB.out.trans (hb18.mono HB.out.size))
    clear hb18
    have HM7 := hide (hm7.weak (Nat.zero_le _))
    clear hm7 ho7
    go_wp2_with fail
    refine (HCX.out _ HMx.out).mono ?_
    rintro e_ v19 ⟨y8, rfl, ho8, hb19⟩
    obtain ⟨A8, c8, rfl, -, -, hm8⟩ := ho8.form
    replace HAA := hide (HAA.out.below hb19)
    replace HBB := hide (HBB.out.below hb19)
    replace HCC := hide (HCC.out.below hb19)
    replace HMx := hide (HMx.out.below hb19)
    replace HMp := hide (HMp.out.below hb19)
    replace HM7 := hide (HM7.out.below hb19)
    replace HB := hide (HB.out.trans (hb19.mono HB.out.size))
    clear hb19
    have HM8 := hide (hm8.weak (Nat.zero_le _))
    clear hm8 ho8
    go_wp2_with fail
    refine (HAZ.out A7 A8 c7 c8 _ HM7.out HM8.out).mono ?_
    rintro e_ v20 ⟨yz, rfl, ⟨Az, Nz, cz, rfl, hNz, hmz⟩, hb20⟩
    replace HAA := hide (HAA.out.below hb20)
    replace HBB := hide (HBB.out.below hb20)
    replace HCC := hide (HCC.out.below hb20)
    replace HMx := hide (HMx.out.below hb20)
    replace HMp := hide (HMp.out.below hb20)
    replace HM7 := hide (HM7.out.below hb20)
    replace HM8 := hide (HM8.out.below hb20)
    replace HB := hide (HB.out.trans (hb20.mono HB.out.size))
    clear hb20
    have HNz := hide hNz
    have HMz := hide hmz
    clear hNz hmz
    clear HM7 HM8
    clear HAZ HCX
    clear HMx
    by_cases h0e : e3 = 0
    case neg =>
      have hcs := HE3.out
      clear HE3 HZ3
      rcases hcs with h9 | h9 | h9
      · exact absurd h9 h0e
      · subst h9
        clear h0e
        go_wp2_with fail
        go_ret
        exact ⟨rfl, HB.out⟩
      · subst h9
        clear h0e
        go_wp2_with fail
        go_ret
        exact ⟨rfl, HB.out⟩
    obtain ⟨hmn, hrow⟩ := HZ3.out h0e
    have hnp : Np = n1 := HNp.out.trans (if_pos h0e)
    subst h0e
    subst hnp
    subst hmn
    have hmp := matE_ok a1 a4 bm1 bm4 hrow
    have HMP := hide hmp
    have HCP := hide (fun W h => CheckMatrixR_any Ap Np cp (fun _ => m2) F3 W (by omega) (fun _ _ => by omega) h)
    simp only [hmp] at HCP
    clear hmp hrow HE3 HZ3 HNp
    go_wp2_with fail
    refine (HCP.out _ HMp.out).mono ?_
    rintro e_ v21 ⟨rfl, hb21⟩
    replace HAA := hide (HAA.out.below hb21)
    replace HBB := hide (HBB.out.below hb21)
    replace HCC := hide (HCC.out.below hb21)
    replace HMp := hide (HMp.out.below hb21)
    replace HMz := hide (HMz.out.below hb21)
    replace HB := hide (HB.out.trans (hb21.mono HB.out.size))
    clear hb21
    go_wp2_with fail
    clear HCP
    have HAW := hide (fun A C c d W h h2 => AppliedC_any A C Np m2 c d (fun _ => m2) L3 F3 X3 W (by omega) (by omega) (fun _ _ => by omega) HL3.out h h2)
    have HCX := hide (fun W h => copyAll_any Ap Np cp (fun _ => m2) F3 W (by omega) (fun _ _ => by omega) h)
    have hFF : (fun r c => gsum F3 X3 r c m2) = F4 := by
      funext r c
      rw [← HF3.out, ← HF4.out, ← HF1.out]
      exact gsum_assoc X1 X2 X3 r c m1 m2
    have he5 : appE Np (fun _ => m2) F3 m2 L3 X3 = e4 := by
      unfold appE
      rw [HMP.out, HR3.out, orS_right, if_pos rfl, HQ.out, ← HV4.out]
      unfold lpE
      rw [if_pos rfl, if_pos rfl, hFF, HF4.out]
    simp only [he5, HQ.out, hFF] at HAW
    clear he5 hFF
    refine (HCX.out _ HMp.out).mono ?_
    rintro e_ v22 ⟨y9, rfl, ho9, hb22⟩
    obtain ⟨A9, c9, rfl, -, -, hm9⟩ := ho9.form
    replace HAA := hide (HAA.out.below hb22)
    replace HBB := hide (HBB.out.below hb22)
    replace HCC := hide (HCC.out.below hb22)
    replace HMp := hide (HMp.out.below hb22)
    replace HMz := hide (HMz.out.below hb22)
    replace HB := hide (HB.out.trans (hb22.mono HB.out.size))
    clear hb22
    have HM9 := hide (hm9.weak (Nat.zero_le _))
    clear hm9 ho9
    go_wp2_with fail
    refine (HCC2.out _ HCC.out).mono ?_
    rintro e_ v23 ⟨y10, rfl, ho10, hb23⟩
    obtain ⟨A10, c10, rfl, -, -, hm10⟩ := ho10.form
    replace HAA := hide (HAA.out.below hb23)
    replace HBB := hide (HBB.out.below hb23)
    replace HCC := hide (HCC.out.below hb23)
    replace HMp := hide (HMp.out.below hb23)
    replace HMz := hide (HMz.out.below hb23)
    replace HM9 := hide (HM9.out.below hb23)
    replace HB := hide (HB.out.trans (hb23.mono HB.out.size))
    clear hb23
    have HM10 := hide (hm10.weak (Nat.zero_le _))
    clear hm10 ho10
    go_wp2_with fail
    refine (HAW.out A9 A10 c9 c10 _ HM9.out HM10.out).mono ?_
    rintro e_ v24 ⟨yw, rfl, ⟨Aw, Nw, cw, rfl, hNw, hmw⟩, hb24⟩
    replace HAA := hide (HAA.out.below hb24)
    replace HBB := hide (HBB.out.below hb24)
    replace HCC := hide (HCC.out.below hb24)
    replace HMp := hide (HMp.out.below hb24)
    replace HMz := hide (HMz.out.below hb24)
    replace HM9 := hide (HM9.out.below hb24)
    replace HM10 := hide (HM10.out.below hb24)
    replace HB := hide (HB.out.trans (hb24.mono HB.out.size))
    clear hb24
    have HNw := hide hNw
    have HMw := hide hmw
    clear hNw hmw
    clear HM9 HM10
    clear HAW HCC2
    have hnw : Nw = Nz := HNw.out.trans HNz.out.symm
    subst hnw
    have hN5 : Nw ≤ 100000 := by rw [HNw.out]; split <;> omega
    have t44 : (e4 != e4) = false := by simp
    have HSM := hide (fun W h1 h2 => same_got (w := W) (A := Az) (C := Aw) (N := Nw) (c := cz) (d := cw) (q := q) (F := F4) hN5 (by omega) h1 h2)
    clear HNw HNz hN5 HV4
    have HDA := hide (fun A c W h => Determinant_any A Np c L1 X1 W (by omega) HL1.out h)
    have HDB := hide (fun A c W h => Determinant_any A m1 c L2 X2 W (by omega) HL2.out h)
    have HDP := hide (fun A c W h => Determinant_any A Np c (fun _ => m2) F3 W (by omega) (fun _ _ => by omega) h)
    have HD6 := hide (fun h : detE Np L1 X1 = 0 => (⟨(detE_zero h).2.1, (detE_zero h).2.2, if_pos h⟩ : Np = L1 0 ∧ Np ≤ 2 ∧ detV Np L1 X1 = detG Np X1))
    have HD7 := hide (fun h : detE m1 L2 X2 = 0 => (⟨(detE_zero h).2.1, (detE_zero h).2.2, if_pos h⟩ : m1 = L2 0 ∧ m1 ≤ 2 ∧ detV m1 L2 X2 = detG m1 X2))
    have HD8 := hide (fun h : detE Np (fun _ => m2) F3 = 0 => (show detV Np (fun _ => m2) F3 = detG Np F3 from if_pos h))
    have HWU := hide (detV_within (n := Np) (L := L1) (F := X1))
    have HWV := hide (detV_within (n := m1) (L := L2) (F := X2))
    obtain ⟨e6, he6⟩ : ∃ z, detE Np L1 X1 = z := ⟨_, rfl⟩
    simp only [he6] at HDA HD6
    clear he6
    obtain ⟨e7, he7⟩ : ∃ z, detE m1 L2 X2 = z := ⟨_, rfl⟩
    simp only [he7] at HDB HD7
    clear he7
    obtain ⟨e8, he8⟩ : ∃ z, detE Np (fun _ => m2) F3 = z := ⟨_, rfl⟩
    simp only [he8] at HDP HD8
    clear he8
    obtain ⟨U, hU⟩ : ∃ z, detV Np L1 X1 = z := ⟨_, rfl⟩
    simp only [hU] at HDA HD6 HWU
    clear hU
    obtain ⟨V, hV⟩ : ∃ z, detV m1 L2 X2 = z := ⟨_, rfl⟩
    simp only [hV] at HDB HD7 HWV
    clear hV
    obtain ⟨D, hD⟩ : ∃ z, detV Np (fun _ => m2) F3 = z := ⟨_, rfl⟩
    simp only [hD] at HDP HD8
    clear hD
    by_cases h40 : e4 = 0
    case neg =>
      have t40 : (e4 == 0) = false := by simpa using h40
      clear HSM h40
      go_wp2_with fail
      refine (HCA.out _ HAA.out).mono ?_
      rintro e_ v25 ⟨y11, rfl, ho11, hb25⟩
      obtain ⟨A11, c11, rfl, -, -, hm11⟩ := ho11.form
      replace HAA := hide (HAA.out.below hb25)
      replace HBB := hide (HBB.out.below hb25)
      replace HCC := hide (HCC.out.below hb25)
      replace HMp := hide (HMp.out.below hb25)
      replace HMz := hide (HMz.out.below hb25)
      replace HMw := hide (HMw.out.below hb25)
      replace HB := hide (HB.out.trans (hb25.mono HB.out.size))
      clear hb25
      have HM11 := hide (hm11.weak (Nat.zero_le _))
      clear hm11 ho11
      go_wp2_with fail
      refine (HDA.out A11 c11 _ HM11.out).mono ?_
      rintro e_ v26 ⟨rfl, hb26⟩
      replace HAA := hide (HAA.out.below hb26)
      replace HBB := hide (HBB.out.below hb26)
      replace HCC := hide (HCC.out.below hb26)
      replace HMp := hide (HMp.out.below hb26)
      replace HMz := hide (HMz.out.below hb26)
      replace HMw := hide (HMw.out.below hb26)
      replace HM11 := hide (HM11.out.below hb26)
      replace HB := hide (HB.out.trans (hb26.mono HB.out.size))
      clear hb26
      clear HM11
      go_upto_region 32 with fail
      obtain ⟨v27, hv27⟩ : ∃ z : World, z = (v26.alloc (.cells #[.int .i64 U.re, .int .i64 U.im] 43)) := ⟨_, rfl⟩
      try rw [← hv27]
      have HXu := hide (show Box v27 (v26.heap.size) 43 #[.int .i64 U.re, .int .i64 U.im] by rw [hv27]; exact Box.made rfl)
      have hb27 : Below v26.heap.size v26 v27 := by rw [hv27]; (repeat (first | (with_reducible exact Below.refl _ _) | (with_reducible refine Go.below_drewN ?_ _) | (with_reducible refine Below.drew ?_) | (with_reducible refine Below.alloc ?_ (by first | exact Nat.le_refl _ | (simp; done) | (simp; omega) | omega) _) | (with_reducible refine Below.setCell ?_ (by first | exact Nat.le_refl _ | (simp; done) | (simp; omega) | omega) _)))
      clear hv27
      replace HAA := hide (HAA.out.below hb27)
      replace HBB := hide (HBB.out.below hb27)
      replace HCC := hide (HCC.out.below hb27)
      replace HMp := hide (HMp.out.below hb27)
      replace HMz := hide (HMz.out.below hb27)
      replace HMw := hide (HMw.out.below hb27)
      replace HB := hide (HB.out.trans (hb27.mono HB.out.size))
      clear hb27
      obtain ⟨b27, eb27⟩ : ∃ z, v26.heap.size = z := ⟨_, rfl⟩
      simp only [eb27] at HXu
      try simp only [eb27]
      clear eb27
      go_wp2_with fail
      refine (HCB.out _ HBB.out).mono ?_
      rintro e_ v28 ⟨y12, rfl, ho12, hb28⟩
      obtain ⟨A12, c12, rfl, -, -, hm12⟩ := ho12.form
      replace HAA := hide (HAA.out.below hb28)
      replace HBB := hide (HBB.out.below hb28)
      replace HCC := hide (HCC.out.below hb28)
      replace HMp := hide (HMp.out.below hb28)
      replace HMz := hide (HMz.out.below hb28)
      replace HMw := hide (HMw.out.below hb28)
      replace HXu := hide (HXu.out.below hb28)
      replace HB := hide (HB.out.trans (hb28.mono HB.out.size))
      clear hb28
      have HM12 := hide (hm12.weak (Nat.zero_le _))
      clear hm12 ho12
      go_wp2_with fail
      refine (HDB.out A12 c12 _ HM12.out).mono ?_
      rintro e_ v29 ⟨rfl, hb29⟩
      replace HAA := hide (HAA.out.below hb29)
      replace HBB := hide (HBB.out.below hb29)
      replace HCC := hide (HCC.out.below hb29)
      replace HMp := hide (HMp.out.below hb29)
      replace HMz := hide (HMz.out.below hb29)
      replace HMw := hide (HMw.out.below hb29)
      replace HXu := hide (HXu.out.below hb29)
      replace HM12 := hide (HM12.out.below hb29)
      replace HB := hide (HB.out.trans (hb29.mono HB.out.size))
      clear hb29
      clear HM12
      go_upto_region 33 with fail
      obtain ⟨v30, hv30⟩ : ∃ z : World, z = (v29.alloc (.cells #[.int .i64 V.re, .int .i64 V.im] 43)) := ⟨_, rfl⟩
      try rw [← hv30]
      have HXv := hide (show Box v30 (v29.heap.size) 43 #[.int .i64 V.re, .int .i64 V.im] by rw [hv30]; exact Box.made rfl)
      have hb30 : Below v29.heap.size v29 v30 := by rw [hv30]; (repeat (first | (with_reducible exact Below.refl _ _) | (with_reducible refine Go.below_drewN ?_ _) | (with_reducible refine Below.drew ?_) | (with_reducible refine Below.alloc ?_ (by first | exact Nat.le_refl _ | (simp; done) | (simp; omega) | omega) _) | (with_reducible refine Below.setCell ?_ (by first | exact Nat.le_refl _ | (simp; done) | (simp; omega) | omega) _)))
      clear hv30
      replace HAA := hide (HAA.out.below hb30)
      replace HBB := hide (HBB.out.below hb30)
      replace HCC := hide (HCC.out.below hb30)
      replace HMp := hide (HMp.out.below hb30)
      replace HMz := hide (HMz.out.below hb30)
      replace HMw := hide (HMw.out.below hb30)
      replace HXu := hide (HXu.out.below hb30)
      replace HB := hide (HB.out.trans (hb30.mono HB.out.size))
      clear hb30
      obtain ⟨b30, eb30⟩ : ∃ z, v29.heap.size = z := ⟨_, rfl⟩
      simp only [eb30] at HXv
      try simp only [eb30]
      clear eb30
      go_wp2_with fail
      refine (HCX.out _ HMp.out).mono ?_
      rintro e_ v31 ⟨y13, rfl, ho13, hb31⟩
      obtain ⟨A13, c13, rfl, -, -, hm13⟩ := ho13.form
      replace HAA := hide (HAA.out.below hb31)
      replace HBB := hide (HBB.out.below hb31)
      replace HCC := hide (HCC.out.below hb31)
      replace HMp := hide (HMp.out.below hb31)
      replace HMz := hide (HMz.out.below hb31)
      replace HMw := hide (HMw.out.below hb31)
      replace HXu := hide (HXu.out.below hb31)
      replace HXv := hide (HXv.out.below hb31)
      replace HB := hide (HB.out.trans (hb31.mono HB.out.size))
      clear hb31
      have HM13 := hide (hm13.weak (Nat.zero_le _))
      clear hm13 ho13
      go_wp2_with fail
      refine (HDP.out A13 c13 _ HM13.out).mono ?_
      rintro e_ v32 ⟨rfl, hb32⟩
      replace HAA := hide (HAA.out.below hb32)
      replace HBB := hide (HBB.out.below hb32)
      replace HCC := hide (HCC.out.below hb32)
      replace HMp := hide (HMp.out.below hb32)
      replace HMz := hide (HMz.out.below hb32)
      replace HMw := hide (HMw.out.below hb32)
      replace HXu := hide (HXu.out.below hb32)
      replace HXv := hide (HXv.out.below hb32)
      replace HM13 := hide (HM13.out.below hb32)
      replace HB := hide (HB.out.trans (hb32.mono HB.out.size))
      clear hb32
      clear HM13
      go_upto_region 34 with fail
      obtain ⟨v33, hv33⟩ : ∃ z : World, z = (v32.alloc (.cells #[.int .i64 D.re, .int .i64 D.im] 43)) := ⟨_, rfl⟩
      try rw [← hv33]
      have HXd := hide (show Box v33 (v32.heap.size) 43 #[.int .i64 D.re, .int .i64 D.im] by rw [hv33]; exact Box.made rfl)
      have hb33 : Below v32.heap.size v32 v33 := by rw [hv33]; (repeat (first | (with_reducible exact Below.refl _ _) | (with_reducible refine Go.below_drewN ?_ _) | (with_reducible refine Below.drew ?_) | (with_reducible refine Below.alloc ?_ (by first | exact Nat.le_refl _ | (simp; done) | (simp; omega) | omega) _) | (with_reducible refine Below.setCell ?_ (by first | exact Nat.le_refl _ | (simp; done) | (simp; omega) | omega) _)))
      clear hv33
      replace HAA := hide (HAA.out.below hb33)
      replace HBB := hide (HBB.out.below hb33)
      replace HCC := hide (HCC.out.below hb33)
      replace HMp := hide (HMp.out.below hb33)
      replace HMz := hide (HMz.out.below hb33)
      replace HMw := hide (HMw.out.below hb33)
      replace HXu := hide (HXu.out.below hb33)
      replace HXv := hide (HXv.out.below hb33)
      replace HB := hide (HB.out.trans (hb33.mono HB.out.size))
      clear hb33
      obtain ⟨b33, eb33⟩ : ∃ z, v32.heap.size = z := ⟨_, rfl⟩
      simp only [eb33] at HXd
      try simp only [eb33]
      clear eb33
      clear HDA HDB HDP HCA HCB HCX
      by_cases he6 : e6 = 0
      case neg =>
        have te6 : (e6 != 0) = true := by simpa using he6
        clear HD6 HD7 HD8 he6
        go_wp2_with fail
        go_ret
        exact ⟨rfl, HB.out⟩
      subst he6
      by_cases he7 : e7 = 0
      case neg =>
        have te7 : (e7 != 0) = true := by simpa using he7
        clear HD6 HD7 HD8 he7
        go_wp2_with fail
        go_ret
        exact ⟨rfl, HB.out⟩
      subst he7
      by_cases he8 : e8 = 0
      case neg =>
        have te8 : (e8 != 0) = true := by simpa using he8
        clear HD6 HD7 HD8 he8
        go_wp2_with fail
        go_ret
        exact ⟨rfl, HB.out⟩
      subst he8
      obtain ⟨k1, k2, k3⟩ := HD6.out (by trivial)
      obtain ⟨k4, k5, k6⟩ := HD7.out (by trivial)
      have k7 := HD8.out (by trivial)
      rw [HM1.out] at k1
      have hdm : D = U.mul V := by
        rw [k7, k3, k6, ← HF3.out, ← k1]
        exact det_product X1 X2 (by omega)
      have HMU := hide (fun W => gmulS_any U V 4000000 4000000 W HWU.out HWV.out (by decide))
      rw [← hdm] at HMU
      have HGU := hide (fun W => gpart_any U W (HWU.out.more (by decide)))
      have HGV := hide (fun W => gpart_any V W (HWV.out.more (by decide)))
      obtain ⟨pu, hpu⟩ : ∃ z, max (U.re.natAbs : Int) (U.im.natAbs : Int) = z := ⟨_, rfl⟩
      obtain ⟨pv, hpv⟩ : ∃ z, max (V.re.natAbs : Int) (V.im.natAbs : Int) = z := ⟨_, rfl⟩
      have HPU := hide (fun W => within_any pu 0 4000000 W)
      have HPV := hide (fun W => within_any pv 0 4000000 W)
      simp only [withinB_yes (show 0 ≤ pu ∧ pu ≤ 4000000 by rw [← hpu]; exact part_within HWU.out)] at HPU
      simp only [withinB_yes (show 0 ≤ pv ∧ pv ≤ 4000000 by rw [← hpv]; exact part_within HWV.out)] at HPV
      simp only [hpu] at HGU
      simp only [hpv] at HGV
      clear hpu hpv hdm k1 k2 k3 k4 k5 k6 k7 HD6 HD7 HD8 HWU HWV
      obtain ⟨ur, hur⟩ : ∃ z, U.re = z := ⟨_, rfl⟩
      obtain ⟨ui, hui⟩ : ∃ z, U.im = z := ⟨_, rfl⟩
      obtain ⟨vr, hvr⟩ : ∃ z, V.re = z := ⟨_, rfl⟩
      obtain ⟨vi, hvi⟩ : ∃ z, V.im = z := ⟨_, rfl⟩
      obtain ⟨dr, hdr⟩ : ∃ z, D.re = z := ⟨_, rfl⟩
      obtain ⟨di, hdi⟩ : ∃ z, D.im = z := ⟨_, rfl⟩
      simp only [hur, hui, hvr, hvi, hdr, hdi] at HXu HXv HXd HMU HGU HGV
      try simp only [hur, hui, hvr, hvi, hdr, hdi]
      clear hur hui hvr hvi hdr hdi
      go_upto_region 36 with fail
      refine wp_region_held_drew (S := fun w' => w'.cell? ⟨b27, 0, none⟩ = some (.int .i64 ur) ∧ w'.cell? ⟨b27, 1, none⟩ = some (.int .i64 ui) ∧ w'.cell? ⟨b30, 0, none⟩ = some (.int .i64 vr) ∧ w'.cell? ⟨b30, 1, none⟩ = some (.int .i64 vi) ∧ w'.cell? ⟨b33, 0, none⟩ = some (.int .i64 dr) ∧ w'.cell? ⟨b33, 1, none⟩ = some (.int .i64 di)) (by kernel_rfl) ⟨HXu.out.at_ 0, HXu.out.at_ 1, HXv.out.at_ 0, HXv.out.at_ 1, HXd.out.at_ 0, HXd.out.at_ 1⟩ (fun hHeld => ?_)
      obtain ⟨w_501, hw_501⟩ : ∃ q : World, q = v33.drew := ⟨_, rfl⟩
      rw [← hw_501] at hHeld ⊢
      have hc_501 : Below v33.heap.size v33 w_501 := by rw [hw_501]; exact (Below.refl _ _).drew
      clear hw_501
      replace HXu := hide (HXu.out.below hc_501)
      replace HXv := hide (HXv.out.below hc_501)
      replace HXd := hide (HXd.out.below hc_501)
      replace HB := hide (HB.out.trans (hc_501.mono HB.out.size))
      clear hc_501
      refine wpAnyH_take (i := 0) (oi := ⟨some 229, _, _, _, _, _⟩) (v := ?_) rfl (by kernel_rfl) (by kernel_rfl) (by kernel_rfl) (fun _ _ _ h => h) (Or.inl ⟨by rfl, ?_⟩) (by assumption) ?_
      rotate_left
      · (intro w' hSw; (try dsimp only at hSw); go_simp <;> (with_reducible rfl))
      try simp only [Act.put, List.setIfInBounds_toArray, List.set_cons_zero, List.set_cons_succ]
      refine wpAnyH_ready (rs := [1]) (by kernel_rfl) (by simp) ?_
      refine AllReadyH.cons (o := ⟨some 230, _, _, _, _, _⟩) rfl (fun K' hK => ?_) AllReadyH.nil
      go_simp
      go_at_call 32
      refine (HGU.out _).mono ?_
      rintro e_ w_502 ⟨rfl, hb_502⟩
      replace HXu := hide (HXu.out.below hb_502)
      replace HXv := hide (HXv.out.below hb_502)
      replace HXd := hide (HXd.out.below hb_502)
      replace HB := hide (HB.out.trans (hb_502.mono HB.out.size))
      clear hb_502
      go_wp2_with fail
      refine hK.out _ _ ⟨HXu.out.at_ 0, HXu.out.at_ 1, HXv.out.at_ 0, HXv.out.at_ 1, HXd.out.at_ 0, HXd.out.at_ 1⟩ (fun hHeld => ?_)
      clear hK K'
      try simp only [Act.put, List.setIfInBounds_toArray, List.set_cons_zero, List.set_cons_succ]
      refine wpAnyH_ready (rs := [2]) (by kernel_rfl) (by simp) ?_
      refine AllReadyH.cons (o := ⟨some 231, _, _, _, _, _⟩) rfl (fun K' hK => ?_) AllReadyH.nil
      go_simp
      go_at_call 31
      refine (HPU.out _).mono ?_
      rintro e_ v_ ⟨rfl, rfl⟩
      go_wp2_with fail
      refine hK.out _ _ ⟨HXu.out.at_ 0, HXu.out.at_ 1, HXv.out.at_ 0, HXv.out.at_ 1, HXd.out.at_ 0, HXd.out.at_ 1⟩ (fun hHeld => ?_)
      clear hK K'
      try simp only [Act.put, List.setIfInBounds_toArray, List.set_cons_zero, List.set_cons_succ]
      refine wpAnyH_take (i := 3) (oi := ⟨some 232, _, _, _, _, _⟩) (v := ?_) rfl (by kernel_rfl) (by kernel_rfl) (by kernel_rfl) (fun _ _ _ h => h) (Or.inl ⟨by rfl, ?_⟩) (by assumption) ?_
      rotate_left
      · (intro w' hSw; (try dsimp only at hSw); go_simp <;> (with_reducible rfl))
      try simp only [Act.put, List.setIfInBounds_toArray, List.set_cons_zero, List.set_cons_succ]
      refine wpAnyH_take (i := 4) (oi := ⟨some 233, _, _, _, _, _⟩) (v := ?_) rfl (by kernel_rfl) (by kernel_rfl) (by kernel_rfl) (fun _ _ _ h => h) (Or.inl ⟨by rfl, ?_⟩) (by assumption) ?_
      rotate_left
      · (intro w' hSw; (try dsimp only at hSw); go_simp <;> (with_reducible rfl))
      try simp only [Act.put, List.setIfInBounds_toArray, List.set_cons_zero, List.set_cons_succ]
      refine wpAnyH_ready (rs := [5]) (by kernel_rfl) (by simp) ?_
      refine AllReadyH.cons (o := ⟨some 234, _, _, _, _, _⟩) rfl (fun K' hK => ?_) AllReadyH.nil
      go_simp
      go_at_call 32
      refine (HGV.out _).mono ?_
      rintro e_ w_503 ⟨rfl, hb_503⟩
      replace HXu := hide (HXu.out.below hb_503)
      replace HXv := hide (HXv.out.below hb_503)
      replace HXd := hide (HXd.out.below hb_503)
      replace HB := hide (HB.out.trans (hb_503.mono HB.out.size))
      clear hb_503
      go_wp2_with fail
      refine hK.out _ _ ⟨HXu.out.at_ 0, HXu.out.at_ 1, HXv.out.at_ 0, HXv.out.at_ 1, HXd.out.at_ 0, HXd.out.at_ 1⟩ (fun hHeld => ?_)
      clear hK K'
      try simp only [Act.put, List.setIfInBounds_toArray, List.set_cons_zero, List.set_cons_succ]
      refine wpAnyH_ready (rs := [6]) (by kernel_rfl) (by simp) ?_
      refine AllReadyH.cons (o := ⟨some 235, _, _, _, _, _⟩) rfl (fun K' hK => ?_) AllReadyH.nil
      go_simp
      go_at_call 31
      refine (HPV.out _).mono ?_
      rintro e_ v_ ⟨rfl, rfl⟩
      go_wp2_with fail
      refine hK.out _ _ ⟨HXu.out.at_ 0, HXu.out.at_ 1, HXv.out.at_ 0, HXv.out.at_ 1, HXd.out.at_ 0, HXd.out.at_ 1⟩ (fun hHeld => ?_)
      clear hK K'
      try simp only [Act.put, List.setIfInBounds_toArray, List.set_cons_zero, List.set_cons_succ]
      refine wpAnyH_take (i := 7) (oi := ⟨some 236, _, _, _, _, _⟩) (v := ?_) rfl (by kernel_rfl) (by kernel_rfl) (by kernel_rfl) (fun _ _ _ h => h) (Or.inl ⟨by rfl, ?_⟩) (by assumption) ?_
      rotate_left
      · (intro w' hSw; (try dsimp only at hSw); go_simp <;> (with_reducible rfl))
      try simp only [Act.put, List.setIfInBounds_toArray, List.set_cons_zero, List.set_cons_succ]
      refine wpAnyH_take (i := 8) (oi := ⟨some 237, _, _, _, _, _⟩) (v := ?_) rfl (by kernel_rfl) (by kernel_rfl) (by kernel_rfl) (fun _ _ _ h => h) (Or.inl ⟨by rfl, ?_⟩) (by assumption) ?_
      rotate_left
      · (intro w' hSw; (try dsimp only at hSw); go_simp <;> (with_reducible rfl))
      try simp only [Act.put, List.setIfInBounds_toArray, List.set_cons_zero, List.set_cons_succ]
      refine wpAnyH_take (i := 9) (oi := ⟨some 238, _, _, _, _, _⟩) (v := ?_) rfl (by kernel_rfl) (by kernel_rfl) (by kernel_rfl) (fun _ _ _ h => h) (Or.inl ⟨by rfl, ?_⟩) (by assumption) ?_
      rotate_left
      · (intro w' hSw; (try dsimp only at hSw); go_simp <;> (with_reducible rfl))
      try simp only [Act.put, List.setIfInBounds_toArray, List.set_cons_zero, List.set_cons_succ]
      refine wpAnyH_take (i := 10) (oi := ⟨some 239, _, _, _, _, _⟩) (v := ?_) rfl (by kernel_rfl) (by kernel_rfl) (by kernel_rfl) (fun _ _ _ h => h) (Or.inl ⟨by rfl, ?_⟩) (by assumption) ?_
      rotate_left
      · (intro w' hSw; (try dsimp only at hSw); go_simp <;> (with_reducible rfl))
      try simp only [Act.put, List.setIfInBounds_toArray, List.set_cons_zero, List.set_cons_succ]
      refine wpAnyH_take (i := 11) (oi := ⟨some 240, _, _, _, _, _⟩) (v := ?_) rfl (by kernel_rfl) (by kernel_rfl) (by kernel_rfl) (fun _ _ _ h => h) (Or.inl ⟨by rfl, ?_⟩) (by assumption) ?_
      rotate_left
      · (intro w' hSw; (try dsimp only at hSw); go_simp <;> (with_reducible rfl))
      try simp only [Act.put, List.setIfInBounds_toArray, List.set_cons_zero, List.set_cons_succ]
      refine wpAnyH_ready (rs := [12]) (by kernel_rfl) (by simp) ?_
      refine AllReadyH.cons (o := ⟨some 241, _, _, _, _, _⟩) rfl (fun K' hK => ?_) AllReadyH.nil
      go_simp
      go_at_call 33
      refine (HMU.out _).mono ?_
      rintro e_ w_504 ⟨rfl, hb_504⟩
      replace HXu := hide (HXu.out.below hb_504)
      replace HXv := hide (HXv.out.below hb_504)
      replace HXd := hide (HXd.out.below hb_504)
      replace HB := hide (HB.out.trans (hb_504.mono HB.out.size))
      clear hb_504
      go_wp2_with fail
      refine hK.out _ _ ⟨HXu.out.at_ 0, HXu.out.at_ 1, HXv.out.at_ 0, HXv.out.at_ 1, HXd.out.at_ 0, HXd.out.at_ 1⟩ (fun hHeld => ?_)
      clear hK K'
      try simp only [Act.put, List.setIfInBounds_toArray, List.set_cons_zero, List.set_cons_succ]
      refine wpAnyH_take (i := 13) (oi := ⟨some 242, _, _, _, _, _⟩) (v := ?_) rfl (by kernel_rfl) (by kernel_rfl) (by kernel_rfl) (fun _ _ _ h => h) (Or.inl ⟨by rfl, ?_⟩) (by assumption) ?_
      rotate_left
      · (intro w' hSw; (try dsimp only at hSw); go_simp <;> (with_reducible rfl))
      try simp only [Act.put, List.setIfInBounds_toArray, List.set_cons_zero, List.set_cons_succ]
      refine wpAnyH_take (i := 14) (oi := ⟨some 243, _, _, _, _, _⟩) (v := ?_) rfl (by kernel_rfl) (by kernel_rfl) (by kernel_rfl) (fun _ _ _ h => h) (Or.inl ⟨by rfl, ?_⟩) (by assumption) ?_
      rotate_left
      · (intro w' hSw; (try dsimp only at hSw); go_simp <;> (with_reducible rfl))
      try simp only [Act.put, List.setIfInBounds_toArray, List.set_cons_zero, List.set_cons_succ]
      refine wpAnyH_take (i := 15) (oi := ⟨some 6, _, _, _, _, _⟩) (v := ?_) rfl (by kernel_rfl) (by kernel_rfl) (by kernel_rfl) (fun _ _ _ h => h) (Or.inl ⟨by rfl, ?_⟩) (by assumption) ?_
      rotate_left
      · (intro w' hSw; (try dsimp only at hSw); go_simp <;> (with_reducible rfl))
      try simp only [Act.put, List.setIfInBounds_toArray, List.set_cons_zero, List.set_cons_succ]
      refine wpAnyH_done (by kernel_rfl) ?_ _
      clear hHeld
      go_wp2_with fail
      go_ret
      exact ⟨rfl, HB.out⟩
    subst h40
    go_wp2_with fail
    refine (HSM.out _ HMz.out HMw.out).mono ?_
    rintro e_ v34 ⟨rfl, hb34⟩
    replace HAA := hide (HAA.out.below hb34)
    replace HBB := hide (HBB.out.below hb34)
    replace HCC := hide (HCC.out.below hb34)
    replace HMp := hide (HMp.out.below hb34)
    replace HMz := hide (HMz.out.below hb34)
    replace HMw := hide (HMw.out.below hb34)
    replace HB := hide (HB.out.trans (hb34.mono HB.out.size))
    clear hb34
    go_wp2_with fail
    clear HSM
    refine (HCA.out _ HAA.out).mono ?_
    rintro e_ v35 ⟨y11, rfl, ho11, hb35⟩
    obtain ⟨A11, c11, rfl, -, -, hm11⟩ := ho11.form
    replace HAA := hide (HAA.out.below hb35)
    replace HBB := hide (HBB.out.below hb35)
    replace HCC := hide (HCC.out.below hb35)
    replace HMp := hide (HMp.out.below hb35)
    replace HMz := hide (HMz.out.below hb35)
    replace HMw := hide (HMw.out.below hb35)
    replace HB := hide (HB.out.trans (hb35.mono HB.out.size))
    clear hb35
    have HM11 := hide (hm11.weak (Nat.zero_le _))
    clear hm11 ho11
    go_wp2_with fail
    refine (HDA.out A11 c11 _ HM11.out).mono ?_
    rintro e_ v36 ⟨rfl, hb36⟩
    replace HAA := hide (HAA.out.below hb36)
    replace HBB := hide (HBB.out.below hb36)
    replace HCC := hide (HCC.out.below hb36)
    replace HMp := hide (HMp.out.below hb36)
    replace HMz := hide (HMz.out.below hb36)
    replace HMw := hide (HMw.out.below hb36)
    replace HM11 := hide (HM11.out.below hb36)
    replace HB := hide (HB.out.trans (hb36.mono HB.out.size))
    clear hb36
    clear HM11
    go_upto_region 32 with fail
    obtain ⟨v37, hv37⟩ : ∃ z : World, z = (v36.alloc (.cells #[.int .i64 U.re, .int .i64 U.im] 43)) := ⟨_, rfl⟩
    try rw [← hv37]
    have HXu := hide (show Box v37 (v36.heap.size) 43 #[.int .i64 U.re, .int .i64 U.im] by rw [hv37]; exact Box.made rfl)
    have hb37 : Below v36.heap.size v36 v37 := by rw [hv37]; (repeat (first | (with_reducible exact Below.refl _ _) | (with_reducible refine Go.below_drewN ?_ _) | (with_reducible refine Below.drew ?_) | (with_reducible refine Below.alloc ?_ (by first | exact Nat.le_refl _ | (simp; done) | (simp; omega) | omega) _) | (with_reducible refine Below.setCell ?_ (by first | exact Nat.le_refl _ | (simp; done) | (simp; omega) | omega) _)))
    clear hv37
    replace HAA := hide (HAA.out.below hb37)
    replace HBB := hide (HBB.out.below hb37)
    replace HCC := hide (HCC.out.below hb37)
    replace HMp := hide (HMp.out.below hb37)
    replace HMz := hide (HMz.out.below hb37)
    replace HMw := hide (HMw.out.below hb37)
    replace HB := hide (HB.out.trans (hb37.mono HB.out.size))
    clear hb37
    obtain ⟨b37, eb37⟩ : ∃ z, v36.heap.size = z := ⟨_, rfl⟩
    simp only [eb37] at HXu
    try simp only [eb37]
    clear eb37
    go_wp2_with fail
    refine (HCB.out _ HBB.out).mono ?_
    rintro e_ v38 ⟨y12, rfl, ho12, hb38⟩
    obtain ⟨A12, c12, rfl, -, -, hm12⟩ := ho12.form
    replace HAA := hide (HAA.out.below hb38)
    replace HBB := hide (HBB.out.below hb38)
    replace HCC := hide (HCC.out.below hb38)
    replace HMp := hide (HMp.out.below hb38)
    replace HMz := hide (HMz.out.below hb38)
    replace HMw := hide (HMw.out.below hb38)
    replace HXu := hide (HXu.out.below hb38)
    replace HB := hide (HB.out.trans (hb38.mono HB.out.size))
    clear hb38
    have HM12 := hide (hm12.weak (Nat.zero_le _))
    clear hm12 ho12
    go_wp2_with fail
    refine (HDB.out A12 c12 _ HM12.out).mono ?_
    rintro e_ v39 ⟨rfl, hb39⟩
    replace HAA := hide (HAA.out.below hb39)
    replace HBB := hide (HBB.out.below hb39)
    replace HCC := hide (HCC.out.below hb39)
    replace HMp := hide (HMp.out.below hb39)
    replace HMz := hide (HMz.out.below hb39)
    replace HMw := hide (HMw.out.below hb39)
    replace HXu := hide (HXu.out.below hb39)
    replace HM12 := hide (HM12.out.below hb39)
    replace HB := hide (HB.out.trans (hb39.mono HB.out.size))
    clear hb39
    clear HM12
    go_upto_region 33 with fail
    obtain ⟨v40, hv40⟩ : ∃ z : World, z = (v39.alloc (.cells #[.int .i64 V.re, .int .i64 V.im] 43)) := ⟨_, rfl⟩
    try rw [← hv40]
    have HXv := hide (show Box v40 (v39.heap.size) 43 #[.int .i64 V.re, .int .i64 V.im] by rw [hv40]; exact Box.made rfl)
    have hb40 : Below v39.heap.size v39 v40 := by rw [hv40]; (repeat (first | (with_reducible exact Below.refl _ _) | (with_reducible refine Go.below_drewN ?_ _) | (with_reducible refine Below.drew ?_) | (with_reducible refine Below.alloc ?_ (by first | exact Nat.le_refl _ | (simp; done) | (simp; omega) | omega) _) | (with_reducible refine Below.setCell ?_ (by first | exact Nat.le_refl _ | (simp; done) | (simp; omega) | omega) _)))
    clear hv40
    replace HAA := hide (HAA.out.below hb40)
    replace HBB := hide (HBB.out.below hb40)
    replace HCC := hide (HCC.out.below hb40)
    replace HMp := hide (HMp.out.below hb40)
    replace HMz := hide (HMz.out.below hb40)
    replace HMw := hide (HMw.out.below hb40)
    replace HXu := hide (HXu.out.below hb40)
    replace HB := hide (HB.out.trans (hb40.mono HB.out.size))
    clear hb40
    obtain ⟨b40, eb40⟩ : ∃ z, v39.heap.size = z := ⟨_, rfl⟩
    simp only [eb40] at HXv
    try simp only [eb40]
    clear eb40
    go_wp2_with fail
    refine (HCX.out _ HMp.out).mono ?_
    rintro e_ v41 ⟨y13, rfl, ho13, hb41⟩
    obtain ⟨A13, c13, rfl, -, -, hm13⟩ := ho13.form
    replace HAA := hide (HAA.out.below hb41)
    replace HBB := hide (HBB.out.below hb41)
    replace HCC := hide (HCC.out.below hb41)
    replace HMp := hide (HMp.out.below hb41)
    replace HMz := hide (HMz.out.below hb41)
    replace HMw := hide (HMw.out.below hb41)
    replace HXu := hide (HXu.out.below hb41)
    replace HXv := hide (HXv.out.below hb41)
    replace HB := hide (HB.out.trans (hb41.mono HB.out.size))
    clear hb41
    have HM13 := hide (hm13.weak (Nat.zero_le _))
    clear hm13 ho13
    go_wp2_with fail
    refine (HDP.out A13 c13 _ HM13.out).mono ?_
    rintro e_ v42 ⟨rfl, hb42⟩
    replace HAA := hide (HAA.out.below hb42)
    replace HBB := hide (HBB.out.below hb42)
    replace HCC := hide (HCC.out.below hb42)
    replace HMp := hide (HMp.out.below hb42)
    replace HMz := hide (HMz.out.below hb42)
    replace HMw := hide (HMw.out.below hb42)
    replace HXu := hide (HXu.out.below hb42)
    replace HXv := hide (HXv.out.below hb42)
    replace HM13 := hide (HM13.out.below hb42)
    replace HB := hide (HB.out.trans (hb42.mono HB.out.size))
    clear hb42
    clear HM13
    go_upto_region 34 with fail
    obtain ⟨v43, hv43⟩ : ∃ z : World, z = (v42.alloc (.cells #[.int .i64 D.re, .int .i64 D.im] 43)) := ⟨_, rfl⟩
    try rw [← hv43]
    have HXd := hide (show Box v43 (v42.heap.size) 43 #[.int .i64 D.re, .int .i64 D.im] by rw [hv43]; exact Box.made rfl)
    have hb43 : Below v42.heap.size v42 v43 := by rw [hv43]; (repeat (first | (with_reducible exact Below.refl _ _) | (with_reducible refine Go.below_drewN ?_ _) | (with_reducible refine Below.drew ?_) | (with_reducible refine Below.alloc ?_ (by first | exact Nat.le_refl _ | (simp; done) | (simp; omega) | omega) _) | (with_reducible refine Below.setCell ?_ (by first | exact Nat.le_refl _ | (simp; done) | (simp; omega) | omega) _)))
    clear hv43
    replace HAA := hide (HAA.out.below hb43)
    replace HBB := hide (HBB.out.below hb43)
    replace HCC := hide (HCC.out.below hb43)
    replace HMp := hide (HMp.out.below hb43)
    replace HMz := hide (HMz.out.below hb43)
    replace HMw := hide (HMw.out.below hb43)
    replace HXu := hide (HXu.out.below hb43)
    replace HXv := hide (HXv.out.below hb43)
    replace HB := hide (HB.out.trans (hb43.mono HB.out.size))
    clear hb43
    obtain ⟨b43, eb43⟩ : ∃ z, v42.heap.size = z := ⟨_, rfl⟩
    simp only [eb43] at HXd
    try simp only [eb43]
    clear eb43
    clear HDA HDB HDP HCA HCB HCX
    by_cases he6 : e6 = 0
    case neg =>
      have te6 : (e6 != 0) = true := by simpa using he6
      clear HD6 HD7 HD8 he6
      go_wp2_with fail
      go_ret
      exact ⟨rfl, HB.out⟩
    subst he6
    by_cases he7 : e7 = 0
    case neg =>
      have te7 : (e7 != 0) = true := by simpa using he7
      clear HD6 HD7 HD8 he7
      go_wp2_with fail
      go_ret
      exact ⟨rfl, HB.out⟩
    subst he7
    by_cases he8 : e8 = 0
    case neg =>
      have te8 : (e8 != 0) = true := by simpa using he8
      clear HD6 HD7 HD8 he8
      go_wp2_with fail
      go_ret
      exact ⟨rfl, HB.out⟩
    subst he8
    obtain ⟨k1, k2, k3⟩ := HD6.out (by trivial)
    obtain ⟨k4, k5, k6⟩ := HD7.out (by trivial)
    have k7 := HD8.out (by trivial)
    rw [HM1.out] at k1
    have hdm : D = U.mul V := by
      rw [k7, k3, k6, ← HF3.out, ← k1]
      exact det_product X1 X2 (by omega)
    have HMU := hide (fun W => gmulS_any U V 4000000 4000000 W HWU.out HWV.out (by decide))
    rw [← hdm] at HMU
    have HGU := hide (fun W => gpart_any U W (HWU.out.more (by decide)))
    have HGV := hide (fun W => gpart_any V W (HWV.out.more (by decide)))
    obtain ⟨pu, hpu⟩ : ∃ z, max (U.re.natAbs : Int) (U.im.natAbs : Int) = z := ⟨_, rfl⟩
    obtain ⟨pv, hpv⟩ : ∃ z, max (V.re.natAbs : Int) (V.im.natAbs : Int) = z := ⟨_, rfl⟩
    have HPU := hide (fun W => within_any pu 0 4000000 W)
    have HPV := hide (fun W => within_any pv 0 4000000 W)
    simp only [withinB_yes (show 0 ≤ pu ∧ pu ≤ 4000000 by rw [← hpu]; exact part_within HWU.out)] at HPU
    simp only [withinB_yes (show 0 ≤ pv ∧ pv ≤ 4000000 by rw [← hpv]; exact part_within HWV.out)] at HPV
    simp only [hpu] at HGU
    simp only [hpv] at HGV
    clear hpu hpv hdm k1 k2 k3 k4 k5 k6 k7 HD6 HD7 HD8 HWU HWV
    obtain ⟨ur, hur⟩ : ∃ z, U.re = z := ⟨_, rfl⟩
    obtain ⟨ui, hui⟩ : ∃ z, U.im = z := ⟨_, rfl⟩
    obtain ⟨vr, hvr⟩ : ∃ z, V.re = z := ⟨_, rfl⟩
    obtain ⟨vi, hvi⟩ : ∃ z, V.im = z := ⟨_, rfl⟩
    obtain ⟨dr, hdr⟩ : ∃ z, D.re = z := ⟨_, rfl⟩
    obtain ⟨di, hdi⟩ : ∃ z, D.im = z := ⟨_, rfl⟩
    simp only [hur, hui, hvr, hvi, hdr, hdi] at HXu HXv HXd HMU HGU HGV
    try simp only [hur, hui, hvr, hvi, hdr, hdi]
    clear hur hui hvr hvi hdr hdi
    go_upto_region 36 with fail
    refine wp_region_held_drew (S := fun w' => w'.cell? ⟨b37, 0, none⟩ = some (.int .i64 ur) ∧ w'.cell? ⟨b37, 1, none⟩ = some (.int .i64 ui) ∧ w'.cell? ⟨b40, 0, none⟩ = some (.int .i64 vr) ∧ w'.cell? ⟨b40, 1, none⟩ = some (.int .i64 vi) ∧ w'.cell? ⟨b43, 0, none⟩ = some (.int .i64 dr) ∧ w'.cell? ⟨b43, 1, none⟩ = some (.int .i64 di)) (by kernel_rfl) ⟨HXu.out.at_ 0, HXu.out.at_ 1, HXv.out.at_ 0, HXv.out.at_ 1, HXd.out.at_ 0, HXd.out.at_ 1⟩ (fun hHeld => ?_)
    obtain ⟨w_501, hw_501⟩ : ∃ q : World, q = v43.drew := ⟨_, rfl⟩
    rw [← hw_501] at hHeld ⊢
    have hc_501 : Below v43.heap.size v43 w_501 := by rw [hw_501]; exact (Below.refl _ _).drew
    clear hw_501
    replace HXu := hide (HXu.out.below hc_501)
    replace HXv := hide (HXv.out.below hc_501)
    replace HXd := hide (HXd.out.below hc_501)
    replace HB := hide (HB.out.trans (hc_501.mono HB.out.size))
    clear hc_501
    refine wpAnyH_take (i := 0) (oi := ⟨some 229, _, _, _, _, _⟩) (v := ?_) rfl (by kernel_rfl) (by kernel_rfl) (by kernel_rfl) (fun _ _ _ h => h) (Or.inl ⟨by rfl, ?_⟩) (by assumption) ?_
    rotate_left
    · (intro w' hSw; (try dsimp only at hSw); go_simp <;> (with_reducible rfl))
    try simp only [Act.put, List.setIfInBounds_toArray, List.set_cons_zero, List.set_cons_succ]
    refine wpAnyH_ready (rs := [1]) (by kernel_rfl) (by simp) ?_
    refine AllReadyH.cons (o := ⟨some 230, _, _, _, _, _⟩) rfl (fun K' hK => ?_) AllReadyH.nil
    go_simp
    go_at_call 32
    refine (HGU.out _).mono ?_
    rintro e_ w_502 ⟨rfl, hb_502⟩
    replace HXu := hide (HXu.out.below hb_502)
    replace HXv := hide (HXv.out.below hb_502)
    replace HXd := hide (HXd.out.below hb_502)
    replace HB := hide (HB.out.trans (hb_502.mono HB.out.size))
    clear hb_502
    go_wp2_with fail
    refine hK.out _ _ ⟨HXu.out.at_ 0, HXu.out.at_ 1, HXv.out.at_ 0, HXv.out.at_ 1, HXd.out.at_ 0, HXd.out.at_ 1⟩ (fun hHeld => ?_)
    clear hK K'
    try simp only [Act.put, List.setIfInBounds_toArray, List.set_cons_zero, List.set_cons_succ]
    refine wpAnyH_ready (rs := [2]) (by kernel_rfl) (by simp) ?_
    refine AllReadyH.cons (o := ⟨some 231, _, _, _, _, _⟩) rfl (fun K' hK => ?_) AllReadyH.nil
    go_simp
    go_at_call 31
    refine (HPU.out _).mono ?_
    rintro e_ v_ ⟨rfl, rfl⟩
    go_wp2_with fail
    refine hK.out _ _ ⟨HXu.out.at_ 0, HXu.out.at_ 1, HXv.out.at_ 0, HXv.out.at_ 1, HXd.out.at_ 0, HXd.out.at_ 1⟩ (fun hHeld => ?_)
    clear hK K'
    try simp only [Act.put, List.setIfInBounds_toArray, List.set_cons_zero, List.set_cons_succ]
    refine wpAnyH_take (i := 3) (oi := ⟨some 232, _, _, _, _, _⟩) (v := ?_) rfl (by kernel_rfl) (by kernel_rfl) (by kernel_rfl) (fun _ _ _ h => h) (Or.inl ⟨by rfl, ?_⟩) (by assumption) ?_
    rotate_left
    · (intro w' hSw; (try dsimp only at hSw); go_simp <;> (with_reducible rfl))
    try simp only [Act.put, List.setIfInBounds_toArray, List.set_cons_zero, List.set_cons_succ]
    refine wpAnyH_take (i := 4) (oi := ⟨some 233, _, _, _, _, _⟩) (v := ?_) rfl (by kernel_rfl) (by kernel_rfl) (by kernel_rfl) (fun _ _ _ h => h) (Or.inl ⟨by rfl, ?_⟩) (by assumption) ?_
    rotate_left
    · (intro w' hSw; (try dsimp only at hSw); go_simp <;> (with_reducible rfl))
    try simp only [Act.put, List.setIfInBounds_toArray, List.set_cons_zero, List.set_cons_succ]
    refine wpAnyH_ready (rs := [5]) (by kernel_rfl) (by simp) ?_
    refine AllReadyH.cons (o := ⟨some 234, _, _, _, _, _⟩) rfl (fun K' hK => ?_) AllReadyH.nil
    go_simp
    go_at_call 32
    refine (HGV.out _).mono ?_
    rintro e_ w_503 ⟨rfl, hb_503⟩
    replace HXu := hide (HXu.out.below hb_503)
    replace HXv := hide (HXv.out.below hb_503)
    replace HXd := hide (HXd.out.below hb_503)
    replace HB := hide (HB.out.trans (hb_503.mono HB.out.size))
    clear hb_503
    go_wp2_with fail
    refine hK.out _ _ ⟨HXu.out.at_ 0, HXu.out.at_ 1, HXv.out.at_ 0, HXv.out.at_ 1, HXd.out.at_ 0, HXd.out.at_ 1⟩ (fun hHeld => ?_)
    clear hK K'
    try simp only [Act.put, List.setIfInBounds_toArray, List.set_cons_zero, List.set_cons_succ]
    refine wpAnyH_ready (rs := [6]) (by kernel_rfl) (by simp) ?_
    refine AllReadyH.cons (o := ⟨some 235, _, _, _, _, _⟩) rfl (fun K' hK => ?_) AllReadyH.nil
    go_simp
    go_at_call 31
    refine (HPV.out _).mono ?_
    rintro e_ v_ ⟨rfl, rfl⟩
    go_wp2_with fail
    refine hK.out _ _ ⟨HXu.out.at_ 0, HXu.out.at_ 1, HXv.out.at_ 0, HXv.out.at_ 1, HXd.out.at_ 0, HXd.out.at_ 1⟩ (fun hHeld => ?_)
    clear hK K'
    try simp only [Act.put, List.setIfInBounds_toArray, List.set_cons_zero, List.set_cons_succ]
    refine wpAnyH_take (i := 7) (oi := ⟨some 236, _, _, _, _, _⟩) (v := ?_) rfl (by kernel_rfl) (by kernel_rfl) (by kernel_rfl) (fun _ _ _ h => h) (Or.inl ⟨by rfl, ?_⟩) (by assumption) ?_
    rotate_left
    · (intro w' hSw; (try dsimp only at hSw); go_simp <;> (with_reducible rfl))
    try simp only [Act.put, List.setIfInBounds_toArray, List.set_cons_zero, List.set_cons_succ]
    refine wpAnyH_take (i := 8) (oi := ⟨some 237, _, _, _, _, _⟩) (v := ?_) rfl (by kernel_rfl) (by kernel_rfl) (by kernel_rfl) (fun _ _ _ h => h) (Or.inl ⟨by rfl, ?_⟩) (by assumption) ?_
    rotate_left
    · (intro w' hSw; (try dsimp only at hSw); go_simp <;> (with_reducible rfl))
    try simp only [Act.put, List.setIfInBounds_toArray, List.set_cons_zero, List.set_cons_succ]
    refine wpAnyH_take (i := 9) (oi := ⟨some 238, _, _, _, _, _⟩) (v := ?_) rfl (by kernel_rfl) (by kernel_rfl) (by kernel_rfl) (fun _ _ _ h => h) (Or.inl ⟨by rfl, ?_⟩) (by assumption) ?_
    rotate_left
    · (intro w' hSw; (try dsimp only at hSw); go_simp <;> (with_reducible rfl))
    try simp only [Act.put, List.setIfInBounds_toArray, List.set_cons_zero, List.set_cons_succ]
    refine wpAnyH_take (i := 10) (oi := ⟨some 239, _, _, _, _, _⟩) (v := ?_) rfl (by kernel_rfl) (by kernel_rfl) (by kernel_rfl) (fun _ _ _ h => h) (Or.inl ⟨by rfl, ?_⟩) (by assumption) ?_
    rotate_left
    · (intro w' hSw; (try dsimp only at hSw); go_simp <;> (with_reducible rfl))
    try simp only [Act.put, List.setIfInBounds_toArray, List.set_cons_zero, List.set_cons_succ]
    refine wpAnyH_take (i := 11) (oi := ⟨some 240, _, _, _, _, _⟩) (v := ?_) rfl (by kernel_rfl) (by kernel_rfl) (by kernel_rfl) (fun _ _ _ h => h) (Or.inl ⟨by rfl, ?_⟩) (by assumption) ?_
    rotate_left
    · (intro w' hSw; (try dsimp only at hSw); go_simp <;> (with_reducible rfl))
    try simp only [Act.put, List.setIfInBounds_toArray, List.set_cons_zero, List.set_cons_succ]
    refine wpAnyH_ready (rs := [12]) (by kernel_rfl) (by simp) ?_
    refine AllReadyH.cons (o := ⟨some 241, _, _, _, _, _⟩) rfl (fun K' hK => ?_) AllReadyH.nil
    go_simp
    go_at_call 33
    refine (HMU.out _).mono ?_
    rintro e_ w_504 ⟨rfl, hb_504⟩
    replace HXu := hide (HXu.out.below hb_504)
    replace HXv := hide (HXv.out.below hb_504)
    replace HXd := hide (HXd.out.below hb_504)
    replace HB := hide (HB.out.trans (hb_504.mono HB.out.size))
    clear hb_504
    go_wp2_with fail
    refine hK.out _ _ ⟨HXu.out.at_ 0, HXu.out.at_ 1, HXv.out.at_ 0, HXv.out.at_ 1, HXd.out.at_ 0, HXd.out.at_ 1⟩ (fun hHeld => ?_)
    clear hK K'
    try simp only [Act.put, List.setIfInBounds_toArray, List.set_cons_zero, List.set_cons_succ]
    refine wpAnyH_take (i := 13) (oi := ⟨some 242, _, _, _, _, _⟩) (v := ?_) rfl (by kernel_rfl) (by kernel_rfl) (by kernel_rfl) (fun _ _ _ h => h) (Or.inl ⟨by rfl, ?_⟩) (by assumption) ?_
    rotate_left
    · (intro w' hSw; (try dsimp only at hSw); go_simp <;> (with_reducible rfl))
    try simp only [Act.put, List.setIfInBounds_toArray, List.set_cons_zero, List.set_cons_succ]
    refine wpAnyH_take (i := 14) (oi := ⟨some 243, _, _, _, _, _⟩) (v := ?_) rfl (by kernel_rfl) (by kernel_rfl) (by kernel_rfl) (fun _ _ _ h => h) (Or.inl ⟨by rfl, ?_⟩) (by assumption) ?_
    rotate_left
    · (intro w' hSw; (try dsimp only at hSw); go_simp <;> (with_reducible rfl))
    try simp only [Act.put, List.setIfInBounds_toArray, List.set_cons_zero, List.set_cons_succ]
    refine wpAnyH_take (i := 15) (oi := ⟨some 6, _, _, _, _, _⟩) (v := ?_) rfl (by kernel_rfl) (by kernel_rfl) (by kernel_rfl) (fun _ _ _ h => h) (Or.inl ⟨by rfl, ?_⟩) (by assumption) ?_
    rotate_left
    · (intro w' hSw; (try dsimp only at hSw); go_simp <;> (with_reducible rfl))
    try simp only [Act.put, List.setIfInBounds_toArray, List.set_cons_zero, List.set_cons_succ]
    refine wpAnyH_done (by kernel_rfl) ?_ _
    clear hHeld
    go_wp2_with fail
    go_ret
    exact ⟨rfl, HB.out⟩
end Go.Proofs.Ytceohaeebdhmjaa
