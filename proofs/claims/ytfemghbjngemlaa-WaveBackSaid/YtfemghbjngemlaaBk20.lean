/- Lemmas: Ar. -/
import Derived.Test.YtfemghbjngemlaaBk19
set_option linter.unusedVariables false
set_option linter.unusedSimpArgs false
/- Samples, Transform, Spectrum of the code. -/
namespace Go.Proofs.Ytfemghbjngemlaa
open Go.RowKit Go.Great
def trnR (X : Nat → Num) : Int := if numsE 1000000000 X 8 = 0 then unI (numsE 1000000000 (trnF X) 8 == 0) 8 else numsE 1000000000 X 8
def okS (y : Num) : Bool := y.b == 0 && y.d == 0 && y.a.tmod 8 == 0 && y.c.tmod 8 == 0
def spAll (Y : Nat → Num) : Nat → Bool
  | 0 => true
  | n + 1 => spAll Y n && okS (Y n)
def spG (y : Num) : Gau := ⟨y.a.tdiv 8, y.c.tdiv 8⟩
theorem spAll_false {Y : Nat → Num} : ∀ {n j : Nat}, j < n → okS (Y j) = false → spAll Y n = false
  | 0, j, h, _ => absurd h (Nat.not_lt_zero _)
  | n + 1, j, h, e => by
    by_cases hj : j = n
    · subst hj; simp [spAll, e]
    · simp [spAll, spAll_false (n := n) (j := j) (by omega) e]
theorem spAll_true {Y : Nat → Num} : ∀ {n : Nat}, spAll Y n = true → ∀ j, j < n → okS (Y j) = true
  | 0, _, j, h => absurd h (Nat.not_lt_zero _)
  | n + 1, h, j, hj => by
    simp only [spAll, Bool.and_eq_true] at h
    by_cases e : j = n
    · subst e; exact h.2
    · exact spAll_true h.1 j (by omega)
def spcR (X : Nat → Num) : Int := if numsE 1000000000 X 8 = 0 then (if spAll (trnF X) 8 = true then 0 else 3) else numsE 1000000000 X 8
theorem trnF_within {X : Nat → Num} (h : ∀ n, n < 8 → (X n).Within 1000000000) (k : Nat) : (trnF X k).Within 8000000000 := (sumF_within fun n hn => tz_within (h n hn) _).more (by decide)
theorem okS_cases (y : Num) : (okS y = true ∧ y.b = 0 ∧ y.d = 0 ∧ y.a.tmod 8 = 0 ∧ y.c.tmod 8 = 0) ∨ (okS y = false ∧ ((¬ y.b = 0) ∨ (y.b = 0 ∧ ¬ y.d = 0) ∨ (y.b = 0 ∧ y.d = 0 ∧ ¬ y.a.tmod 8 = 0) ∨ (y.b = 0 ∧ y.d = 0 ∧ y.a.tmod 8 = 0 ∧ ¬ y.c.tmod 8 = 0))) := by
  unfold okS
  by_cases h1 : y.b = 0 <;> by_cases h2 : y.d = 0 <;> by_cases h3 : y.a.tmod 8 = 0 <;> by_cases h4 : y.c.tmod 8 = 0 <;> simp [h1, h2, h3, h4]
theorem tdiv8_size {a : Int} (h : -8000000000 ≤ a ∧ a ≤ 8000000000) : IntKind.i64.wrap (a.tdiv 8) = a.tdiv 8 := by
  have h1 := Int.mul_tdiv_add_tmod a 8
  obtain ⟨f1, f2, -⟩ := tmod_facts a 8 (by decide)
  have f1b : -8 < a.tmod 8 := f1
  have f2b : a.tmod 8 < 8 := f2
  exact IntWalk.i64_in _ (by omega)
set_option maxHeartbeats 4000000 in
set_option maxRecDepth 100000 in
theorem Samples_any (F : Nat → Gau) (w : World) :
    Calls Try.prog 9 #[.agg (arrG8 F)] w fun e w' => e = .returned (.tuple #[.agg (arr8 fun n => if gausE 10000 F 8 = 0 then smpF F n else Num.zero), .int .i64 (gausE 10000 F 8)]) ∧ Below w.heap.size w w' := by
  have HEE := hide (fun A W (h : GausAt W 0 A 8 F) => entriesError_any A 8 8 F W (by decide) h)
  have HSM := hide (fun W (h : gausE 10000 F 8 = 0) => samplesOf_any F (gausE_within h) W)
  obtain ⟨E, hE⟩ : ∃ z, gausE 10000 F 8 = z := ⟨_, rfl⟩
  rw [hE] at HSM ⊢
  simp only [hE] at HEE
  clear hE
  obtain ⟨Y, hY⟩ : ∃ z, smpF F = z := ⟨_, rfl⟩
  simp only [hY] at HSM
  rw [hY]
  clear hY
  obtain ⟨G, hG⟩ : ∃ z : Nat → Num, (fun n => if E = 0 then Y n else Num.zero) = z := ⟨_, rfl⟩
  rw [hG]
  have HG := hide hG
  clear hG
  go_enter Try.func9, Try.ntmps9
  go_upto_region 1 with (first
    | (refine wpList_boxTo rfl 24 (.tmp 0) rfl _ rfl w.heap.size rfl (arrG8 F) rfl ?_; obtain ⟨W0, hW0⟩ : ∃ q : World, w.alloc (.cells (arrG8 F) 24) = q := ⟨_, rfl⟩; rw [hW0])
    | (refine wpList_allocTo rfl (some 2) rfl (.pointer (some ⟨W0.heap.size, 0, none⟩)) (.cells (arr8 fun _ => Num.zero) 27) (by kernel_rfl) ?_))
  have x0 : ArrG8 W0 w.heap.size F := by rw [← hW0]; exact ArrG8.at_alloc w _ _ rfl
  have hB0 : Below w.heap.size w W0 := by rw [← hW0]; (repeat (first | (with_reducible exact Below.refl _ _) | (with_reducible refine Go.below_drewN ?_ _) | (with_reducible refine Below.drew ?_) | (with_reducible refine Below.alloc ?_ (by first | exact Nat.le_refl _ | (simp; done) | (simp; omega) | omega) _) | (with_reducible refine Below.setCell ?_ (by first | exact Nat.le_refl _ | (simp; done) | (simp; omega) | omega) _)))
  have hs0 : w.heap.size < W0.heap.size := by rw [← hW0]; simp
  clear hW0
  obtain ⟨b0, hb0⟩ : ∃ g, w.heap.size = g := ⟨_, rfl⟩
  obtain ⟨b1, hb1⟩ : ∃ g, W0.heap.size = g := ⟨_, rfl⟩
  obtain ⟨W1, hW1⟩ : ∃ q : World, q = W0.alloc (.cells (arr8 fun _ => Num.zero) 27) := ⟨_, rfl⟩
  rw [← hW1]
  have r1 : ArrNums W1 b1 (fun _ => Num.zero) := by rw [hW1]; exact arrNums_alloc W0 _ _ hb1.symm
  have x1 : ArrG8 W1 b0 F := by rw [hW1, ← hb0]; exact x0.alloc _
  have hB1 : Below b0 w W1 := by rw [hW1, ← hb0]; exact hB0.alloc hB0.size _
  have hs1 : b1 < W1.heap.size := by rw [hW1, ← hb1]; simp
  have h01 : b0 ≠ b1 := by omega
  have h01' : b0 ≤ b1 := by omega
  have HW0 := hide hb0
  simp only [hb0, hb1]
  clear hW1 x0 hB0 hs0
  go_wp2_with fail
  refine (HEE.out _ _ x1.slice).mono ?_
  rintro e w2 ⟨rfl, hb2⟩
  have HX2 := hide (x1.below hb2)
  have HZ2 := hide (r1.below hb2)
  have hB2 := hB1.trans (hb2.mono (by omega))
  have hs2 : b1 < w2.heap.size := HZ2.out.lt
  clear hb2 hB1 x1 r1 HEE
  by_cases hE : E = 0
  case neg =>
    have t1 : (E != 0) = true := by simpa using hE
    have hG : G = fun _ => Num.zero := HG.out.symm.trans (funext fun n => if_neg hE)
    subst hG
    clear hE HG HSM
    go_upto_region 3 with fail
    have hz8 : ∀ a : Act, (execOp a.eval (⟨some 9, .build 27 #[], 27, "", #[], none⟩ : Oper)).run Try.prog w2 = .ok (.value (.agg (arr8 fun _ => Num.zero))) w2 := fun a => by kernel_rfl
    go_wp2_with (refine wpList_store8 rfl (.tmp 2) (.tmp 9) rfl b1 (fun _ => Num.zero) (fun _ => Num.zero) rfl (by first | rfl | kernel_rfl) HZ2.out ?_; intro W9 r9 o9)
    refine bodyPost_ret (v := .tuple #[.agg (arr8 fun _ => Num.zero), .int .i64 E]) (result8 rfl _ rfl rfl r9) rfl ⟨rfl, ?_⟩
    rw [HW0.out]
    exact hB2.trans (o9.to_below h01' (by omega))
  case pos =>
  subst hE
  have hG : G = Y := HG.out.symm.trans (funext fun n => if_pos rfl)
  subst hG
  have HSS := hide (fun W => HSM.out W rfl)
  clear HG HSM
  go_wp2_with (refine wpList_loadG8 rfl (.tmp 1) rfl b0 F rfl HX2.out ?_)
  refine (HSS.out _).mono ?_
  rintro e w3 ⟨rfl, hb3⟩
  have HZ3 := hide (HZ2.out.below hb3)
  have hB3 := hB2.trans (hb3.mono (by omega))
  have hs3 : b1 < w3.heap.size := HZ3.out.lt
  go_wp2_with (refine wpList_store8 rfl (.tmp 2) (.tmp 12) rfl b1 (fun _ => Num.zero) G rfl rfl HZ3.out ?_; intro W9 r9 o9)
  refine bodyPost_ret (v := .tuple #[.agg (arr8 G), .int .i64 0]) (result8 rfl _ rfl rfl r9) rfl ⟨rfl, ?_⟩
  rw [HW0.out]
  exact hB3.trans (o9.to_below h01' (by omega))
set_option maxHeartbeats 4000000 in
set_option maxRecDepth 100000 in
theorem Transform_any (X : Nat → Num) (w : World) :
    Calls Try.prog 10 #[.agg (arr8 X)] w fun e w' => e = .returned (.tuple #[.agg (arr8 fun k => if trnR X = 0 then trnF X k else Num.zero), .int .i64 (trnR X)]) ∧ Below w.heap.size w w' := by
  have HEE := hide (fun A W (h : NumsAt W 0 A 8 X) => smallError_any A 8 8 X W (by decide) h)
  have HTS := hide (fun W (h : numsE 1000000000 X 8 = 0) => turnedSums_transform X (numsE_zero h) W)
  have HRE := hide (fun A W (h : NumsAt W 0 A 8 (trnF X)) => resultError_any A 8 8 (trnF X) W (by decide) h)
  obtain ⟨V, hV⟩ : ∃ z, trnR X = z := ⟨_, rfl⟩
  have HV := hide hV
  rw [hV]
  clear hV
  unfold trnR at HV
  obtain ⟨E, hE⟩ : ∃ z, numsE 1000000000 X 8 = z := ⟨_, rfl⟩
  rw [hE] at HV
  simp only [hE] at HEE HTS
  obtain ⟨D, hD⟩ : ∃ z, unI (numsE 1000000000 (trnF X) 8 == 0) 8 = z := ⟨_, rfl⟩
  rw [hD] at HV
  simp only [hD] at HRE
  obtain ⟨Y, hY⟩ : ∃ z, trnF X = z := ⟨_, rfl⟩
  rw [hY] at HRE HTS ⊢
  clear hE hD hY
  obtain ⟨G, hG⟩ : ∃ z : Nat → Num, (fun n => if V = 0 then Y n else Num.zero) = z := ⟨_, rfl⟩
  rw [hG]
  have HG := hide hG
  clear hG
  go_enter Try.func10, Try.ntmps10
  go_upto_region 1 with (first
    | (refine wpList_boxTo rfl 27 (.tmp 0) rfl _ rfl w.heap.size rfl (arr8 X) rfl ?_; obtain ⟨W0, hW0⟩ : ∃ q : World, w.alloc (.cells (arr8 X) 27) = q := ⟨_, rfl⟩; rw [hW0])
    | (refine wpList_allocTo rfl (some 2) rfl (.pointer (some ⟨W0.heap.size, 0, none⟩)) (.cells (arr8 fun _ => Num.zero) 27) (by kernel_rfl) ?_))
  have x0 : ArrNums W0 w.heap.size X := by rw [← hW0]; exact arrNums_alloc w _ _ rfl
  have hB0 : Below w.heap.size w W0 := by rw [← hW0]; (repeat (first | (with_reducible exact Below.refl _ _) | (with_reducible refine Go.below_drewN ?_ _) | (with_reducible refine Below.drew ?_) | (with_reducible refine Below.alloc ?_ (by first | exact Nat.le_refl _ | (simp; done) | (simp; omega) | omega) _) | (with_reducible refine Below.setCell ?_ (by first | exact Nat.le_refl _ | (simp; done) | (simp; omega) | omega) _)))
  have hs0 : w.heap.size < W0.heap.size := by rw [← hW0]; simp
  clear hW0
  obtain ⟨b0, hb0⟩ : ∃ g, w.heap.size = g := ⟨_, rfl⟩
  obtain ⟨b1, hb1⟩ : ∃ g, W0.heap.size = g := ⟨_, rfl⟩
  obtain ⟨W1, hW1⟩ : ∃ q : World, q = W0.alloc (.cells (arr8 fun _ => Num.zero) 27) := ⟨_, rfl⟩
  rw [← hW1]
  have r1 : ArrNums W1 b1 (fun _ => Num.zero) := by rw [hW1]; exact arrNums_alloc W0 _ _ hb1.symm
  have x1 : ArrNums W1 b0 X := by rw [hW1, ← hb0]; exact x0.alloc _
  have hB1 : Below b0 w W1 := by rw [hW1, ← hb0]; exact hB0.alloc hB0.size _
  have hs1 : b1 < W1.heap.size := by rw [hW1, ← hb1]; simp
  have h01 : b0 ≠ b1 := by omega
  have h01' : b0 ≤ b1 := by omega
  have HW0 := hide hb0
  simp only [hb0, hb1]
  clear hW1 x0 hB0 hs0
  go_wp2_with fail
  refine (HEE.out _ _ x1.slice).mono ?_
  rintro e w2 ⟨rfl, hb2⟩
  have HX2 := hide (x1.below hb2)
  have HZ2 := hide (r1.below hb2)
  have hB2 := hB1.trans (hb2.mono (by omega))
  have hs2 : b1 < w2.heap.size := HZ2.out.lt
  clear hb2 hB1 x1 r1 HEE
  by_cases hE : E = 0
  case neg =>
    have t1 : (E != 0) = true := by simpa using hE
    have hVE : V = E := by rw [← HV.out, if_neg hE]
    subst hVE
    have hG : G = fun _ => Num.zero := HG.out.symm.trans (funext fun n => if_neg hE)
    subst hG
    clear hE HG HV HTS HRE
    go_upto_region 3 with fail
    have hz8 : ∀ a : Act, (execOp a.eval (⟨some 11, .build 27 #[], 27, "", #[], none⟩ : Oper)).run Try.prog w2 = .ok (.value (.agg (arr8 fun _ => Num.zero))) w2 := fun a => by kernel_rfl
    go_wp2_with (refine wpList_store8 rfl (.tmp 2) (.tmp 11) rfl b1 (fun _ => Num.zero) (fun _ => Num.zero) rfl (by first | rfl | kernel_rfl) HZ2.out ?_; intro W9 r9 o9)
    refine bodyPost_ret (v := .tuple #[.agg (arr8 fun _ => Num.zero), .int .i64 V]) (result8 rfl _ rfl rfl r9) rfl ⟨rfl, ?_⟩
    rw [HW0.out]
    exact hB2.trans (o9.to_below h01' (by omega))
  case pos =>
  subst hE
  have hVD : V = D := by rw [← HV.out, if_pos rfl]
  subst hVD
  have HSS := hide (fun W => HTS.out W rfl)
  clear HV HTS
  go_wp2_with (refine wpList_load8G rfl (.tmp 1) rfl b0 X rfl HX2.out ?_)
  refine (HSS.out _).mono ?_
  rintro e w3 ⟨rfl, hb3⟩
  have HZ3 := hide (HZ2.out.below hb3)
  have hB3 := hB2.trans (hb3.mono (by omega))
  have hs3 : b1 < w3.heap.size := HZ3.out.lt
  clear hb3 hB2 HX2 HZ2 HSS
  obtain ⟨b5, hb5⟩ : ∃ z, w3.heap.size = z := ⟨_, rfl⟩
  go_upto_region 5 with (first
    | (refine wpList_store8 rfl (.tmp 5) (.tmp 14) rfl b5 (fun _ => Num.zero) Y rfl rfl (arrNums_alloc _ _ _ hb5.symm) ?_; intro W5 r5 o5)
    | (refine wpList_allocTo rfl (some 5) rfl (.pointer (some ⟨b5, 0, none⟩)) (.cells (arr8 fun _ => Num.zero) 27) (by rw [← hb5]; kernel_rfl) ?_))
  have hc5 : Below w3.heap.size w3 W5 := ((Below.refl _ _).alloc (Nat.le_refl _) _).trans (o5.to_below (by omega) (by simp))
  have HZ5 := hide (HZ3.out.below hc5)
  have hB5 := hB3.trans (hc5.mono (by omega))
  clear o5 hc5 hB3 HZ3 hb5
  go_wp2_with fail
  refine (HRE.out _ _ r5.slice).mono ?_
  rintro e w6 ⟨rfl, hb6⟩
  have HY6 := hide (r5.below hb6)
  have HZ6 := hide (HZ5.out.below hb6)
  have hB6 := hB5.trans (hb6.mono (by have := HZ5.out.lt; omega))
  have hs6 : b1 < w6.heap.size := HZ6.out.lt
  clear hb6 hB5 r5 HZ5 HRE
  by_cases hV : V = 0
  case neg =>
    have t1 : (V != 0) = true := by simpa using hV
    have hG : G = fun _ => Num.zero := HG.out.symm.trans (funext fun n => if_neg hV)
    subst hG
    clear hV HG
    go_upto_region 7 with fail
    have hz8 : ∀ a : Act, (execOp a.eval (⟨some 19, .build 27 #[], 27, "", #[], none⟩ : Oper)).run Try.prog w6 = .ok (.value (.agg (arr8 fun _ => Num.zero))) w6 := fun a => by kernel_rfl
    go_wp2_with (refine wpList_store8 rfl (.tmp 2) (.tmp 19) rfl b1 (fun _ => Num.zero) (fun _ => Num.zero) rfl (by first | rfl | kernel_rfl) HZ6.out ?_; intro W9 r9 o9)
    refine bodyPost_ret (v := .tuple #[.agg (arr8 fun _ => Num.zero), .int .i64 V]) (result8 rfl _ rfl rfl r9) rfl ⟨rfl, ?_⟩
    rw [HW0.out]
    exact hB6.trans (o9.to_below h01' (by omega))
  case pos =>
  subst hV
  have hG : G = Y := HG.out.symm.trans (funext fun n => if_pos rfl)
  subst hG
  clear HG
  go_wp2_with (first | (refine wpList_store8 rfl (.tmp 2) (.tmp 21) rfl b1 (fun _ => Num.zero) G rfl rfl HZ6.out ?_; intro W9 r9 o9) | (refine wpList_load8G rfl (.tmp 5) rfl b5 G rfl HY6.out ?_))
  refine bodyPost_ret (v := .tuple #[.agg (arr8 G), .int .i64 0]) (result8 rfl _ rfl rfl r9) rfl ⟨rfl, ?_⟩
  rw [HW0.out]
  exact hB6.trans (o9.to_below h01' (by omega))
set_option maxHeartbeats 8000000 in
set_option maxRecDepth 100000 in
theorem Spectrum_any (X : Nat → Num) (w : World) :
    Calls Try.prog 11 #[.agg (arr8 X)] w fun e w' => e = .returned (.tuple #[.agg (arrG8 fun k => if spcR X = 0 then spG (trnF X k) else Gau.zero), .int .i64 (spcR X)]) ∧ Below w.heap.size w w' := by
  have HEE := hide (fun A W (h : NumsAt W 0 A 8 X) => smallError_any A 8 8 X W (by decide) h)
  have HTS := hide (fun W (h : numsE 1000000000 X 8 = 0) => turnedSums_transform X (numsE_zero h) W)
  have HYW := hide (fun (h : numsE 1000000000 X 8 = 0) k => trnF_within (numsE_zero h) k)
  obtain ⟨V, hV⟩ : ∃ z, spcR X = z := ⟨_, rfl⟩
  have HV := hide hV
  rw [hV]
  clear hV
  unfold spcR at HV
  obtain ⟨E, hE⟩ : ∃ z, numsE 1000000000 X 8 = z := ⟨_, rfl⟩
  rw [hE] at HV
  simp only [hE] at HEE HTS HYW
  obtain ⟨Y, hY⟩ : ∃ z, trnF X = z := ⟨_, rfl⟩
  rw [hY] at HTS HV HYW ⊢
  clear hE hY
  obtain ⟨G, hG⟩ : ∃ z : Nat → Gau, (fun n => if V = 0 then spG (Y n) else Gau.zero) = z := ⟨_, rfl⟩
  rw [hG]
  have HG := hide hG
  clear hG
  go_enter Try.func11, Try.ntmps11
  go_upto_region 1 with (first
    | (refine wpList_boxTo rfl 27 (.tmp 0) rfl _ rfl w.heap.size rfl (arr8 X) rfl ?_; obtain ⟨W0, hW0⟩ : ∃ q : World, w.alloc (.cells (arr8 X) 27) = q := ⟨_, rfl⟩; rw [hW0])
    | (refine wpList_allocTo rfl (some 2) rfl (.pointer (some ⟨W0.heap.size, 0, none⟩)) (.cells (arrG8 fun _ => Gau.zero) 24) (by kernel_rfl) ?_))
  have x0 : ArrNums W0 w.heap.size X := by rw [← hW0]; exact arrNums_alloc w _ _ rfl
  have hB0 : Below w.heap.size w W0 := by rw [← hW0]; (repeat (first | (with_reducible exact Below.refl _ _) | (with_reducible refine Go.below_drewN ?_ _) | (with_reducible refine Below.drew ?_) | (with_reducible refine Below.alloc ?_ (by first | exact Nat.le_refl _ | (simp; done) | (simp; omega) | omega) _) | (with_reducible refine Below.setCell ?_ (by first | exact Nat.le_refl _ | (simp; done) | (simp; omega) | omega) _)))
  have hs0 : w.heap.size < W0.heap.size := by rw [← hW0]; simp
  clear hW0
  obtain ⟨b0, hb0⟩ : ∃ g, w.heap.size = g := ⟨_, rfl⟩
  obtain ⟨b1, hb1⟩ : ∃ g, W0.heap.size = g := ⟨_, rfl⟩
  obtain ⟨W1, hW1⟩ : ∃ q : World, q = W0.alloc (.cells (arrG8 fun _ => Gau.zero) 24) := ⟨_, rfl⟩
  rw [← hW1]
  have r1 : ArrG8 W1 b1 (fun _ => Gau.zero) := by rw [hW1]; exact ArrG8.at_alloc W0 _ _ hb1.symm
  have x1 : ArrNums W1 b0 X := by rw [hW1, ← hb0]; exact x0.alloc _
  have hB1 : Below b0 w W1 := by rw [hW1, ← hb0]; exact hB0.alloc hB0.size _
  have hs1 : b1 < W1.heap.size := by rw [hW1, ← hb1]; simp
  have h01 : b0 ≠ b1 := by omega
  have h01' : b0 ≤ b1 := by omega
  have HW0 := hide hb0
  simp only [hb0, hb1]
  clear hW1 x0 hB0 hs0
  go_wp2_with fail
  refine (HEE.out _ _ x1.slice).mono ?_
  rintro e w2 ⟨rfl, hb2⟩
  have HX2 := hide (x1.below hb2)
  have HZ2 := hide (r1.below hb2)
  have hB2 := hB1.trans (hb2.mono (by omega))
  have hs2 : b1 < w2.heap.size := HZ2.out.lt
  clear hb2 hB1 x1 r1 HEE
  by_cases hE : E = 0
  case neg =>
    have t1 : (E != 0) = true := by simpa using hE
    have hVE : V = E := by rw [← HV.out, if_neg hE]
    subst hVE
    have hG : G = fun _ => Gau.zero := HG.out.symm.trans (funext fun n => if_neg hE)
    subst hG
    clear hE HG HV HTS HYW
    go_upto_region 3 with fail
    have hz8 : ∀ a : Act, (execOp a.eval (⟨some 12, .build 24 #[], 24, "", #[], none⟩ : Oper)).run Try.prog w2 = .ok (.value (.agg (arrG8 fun _ => Gau.zero))) w2 := fun a => by kernel_rfl
    go_wp2_with (refine wpList_storeG8 rfl (.tmp 2) (.tmp 12) rfl b1 (fun _ => Gau.zero) (fun _ => Gau.zero) rfl (by first | rfl | kernel_rfl) HZ2.out ?_; intro W9 r9 o9)
    refine bodyPost_ret (v := .tuple #[.agg (arrG8 fun _ => Gau.zero), .int .i64 V]) (result2G8 rfl _ rfl rfl r9) rfl ⟨rfl, ?_⟩
    rw [HW0.out]
    exact hB2.trans (o9.to_below h01' (by omega))
  case pos =>
  subst hE
  have HSS := hide (fun W => HTS.out W rfl)
  have HYY := hide (HYW.out rfl)
  have HVV := hide (show (if spAll Y 8 = true then (0 : Int) else 3) = V from by rw [← HV.out, if_pos rfl])
  clear HV HTS HYW
  go_upto_region 5 with (refine wpList_allocTo rfl (some 5) rfl (.pointer (some ⟨w2.heap.size, 0, none⟩)) (.cells (arrG8 fun _ => Gau.zero) 24) (by kernel_rfl) ?_)
  obtain ⟨b5, hb5⟩ : ∃ z, w2.heap.size = z := ⟨_, rfl⟩
  obtain ⟨W3, hW3⟩ : ∃ q : World, q = w2.alloc (.cells (arrG8 fun _ => Gau.zero) 24) := ⟨_, rfl⟩
  rw [← hW3]
  simp only [hb5]
  have a3 : ArrG8 W3 b5 (fun _ => Gau.zero) := by rw [hW3]; exact ArrG8.at_alloc w2 _ _ hb5.symm
  have HX3 := hide (show ArrNums W3 b0 X by rw [hW3]; exact HX2.out.alloc _)
  have r3 : ArrG8 W3 b1 (fun _ => Gau.zero) := by rw [hW3]; exact HZ2.out.alloc _
  have hB3 : Below b0 w W3 := by rw [hW3]; exact hB2.alloc (by omega) _
  have hs3 : b0 ≤ W3.heap.size := by have := r3.lt; omega
  have h15 : b1 ≠ b5 := by omega
  have h05 : b0 ≤ b5 := by omega
  clear hW3 hB2 HX2 HZ2 hb5
  go_wp2_with (refine wpList_load8G rfl (.tmp 1) rfl b0 X rfl HX3.out ?_)
  refine (HSS.out _).mono ?_
  rintro e w4 ⟨rfl, hb4⟩
  have a4 := a3.below hb4
  have r4 := r3.below hb4
  have hB4 := hB3.trans (hb4.mono hs3)
  clear hb4 hB3 a3 r3 HX3 HSS hs3 hs2
  go_wp2_with fail
  go_loopw [16] (fun i wr => ∃ k : Nat, k ≤ 8 ∧ i = .int .i64 (k : Int) ∧ spAll Y k = true ∧ ArrG8 wr b1 (fun _ => Gau.zero) ∧ ArrG8 wr b5 (fun q => if q < k then spG (Y q) else Gau.zero) ∧ Below b0 w wr) (fun i _ => 8 - (Go.RowKit.intOf i).toNat)
  case atStart => exact ⟨0, by decide, rfl, rfl, r4, a4.congr fun q _ => by rw [if_neg (Nat.not_lt_zero q)], hB4⟩
  case round =>
    clear a4 r4 hB4
    obtain ⟨k, hk, rfl, hS, hZ, hA, hB⟩ := hrel
    obtain ⟨wA, rfl⟩ : ∃ q : World, q = wr := ⟨_, rfl⟩
    have HS := hide hS
    clear hS
    by_cases hk8 : k < 8
    · have hk8z : (k : Int) < 8 := by omega
      obtain ⟨E, hE⟩ : ∃ E : Nat → Gau, E = fun q => if q < k then spG (Y q) else Gau.zero := ⟨_, rfl⟩
      have HE := hide hE
      rw [← hE] at hA
      clear hE
      go_upto_region 8 with (refine wpList_index8 rfl (.tmp 15) (.tmp 16) rfl Y k rfl rfl hk8 ?_)
      have HOC := hide (okS_cases (Y k))
      have HOF := hide (fun (h : okS (Y k) = false) => spAll_false hk8 h)
      have HON := hide (fun (h : okS (Y k) = true) => (show spAll Y (k + 1) = true from by show (spAll Y k && okS (Y k)) = true; rw [HS.out, h]; rfl))
      have hyw := HYY.out k
      have HPU := hide (show ∀ q, q < 8 → setG8 E k (spG (Y k)) q = if q < k + 1 then spG (Y q) else Gau.zero from fun q _ => by
        show (if q = k then _ else E q) = _
        by_cases e : q = k
        · subst e; rw [if_pos rfl, if_pos (by omega)]
        · rw [if_neg e, HE.out]
          show (if q < k then _ else Gau.zero) = _
          by_cases e2 : q < k
          · rw [if_pos e2, if_pos (by omega)]
          · rw [if_neg e2, if_neg (by omega)])
      obtain ⟨y, hy⟩ : ∃ z, Y k = z := ⟨_, rfl⟩
      rw [hy] at hyw HPU HOC HOF HON ⊢
      clear hy
      obtain ⟨W1, hW1⟩ : ∃ q : World, q = wA.alloc (.cells #[.int .i64 y.a, .int .i64 y.b, .int .i64 y.c, .int .i64 y.d] 26) := ⟨_, rfl⟩
      rw [← hW1]
      obtain ⟨g8, hg8⟩ : ∃ g, wA.heap.size = g := ⟨_, rfl⟩
      have b8 : Box W1 g8 26 #[.int .i64 y.a, .int .i64 y.b, .int .i64 y.c, .int .i64 y.d] := by rw [hW1]; exact Box.made hg8.symm
      have hb05 : b0 ≤ wA.heap.size := by have := hA.lt; omega
      replace hA : ArrG8 W1 b5 E := by rw [hW1]; exact hA.alloc _
      replace hZ : ArrG8 W1 b1 (fun _ => Gau.zero) := by rw [hW1]; exact hZ.alloc _
      have hB1 : Below b0 w W1 := by rw [hW1]; exact hB.alloc hb05 _
      clear hW1 hB
      simp only [hg8]
      have e0 := b8.at_ 0
      have e1 := b8.at_ 1
      have e2 := b8.at_ 2
      have e3 := b8.at_ 3
      simp only [List.getElem?_toArray] at e0 e1 e2 e3
      rcases HOC.out with ⟨hok, h1, h2, h3, h4⟩ | ⟨hok, hc⟩
      · have HON1 := hide (HON.out hok)
        have t1 : (y.b != 0) = false := by simpa using h1
        have t2 : (y.d != 0) = false := by simpa using h2
        have t3 : (y.a.tmod 8 != 0) = false := by simpa using h3
        have t4 : (y.c.tmod 8 != 0) = false := by simpa using h4
        have q1 := tdiv8_size hyw.a
        have q2 := tdiv8_size hyw.c
        obtain ⟨p, hp⟩ : ∃ z, y.a.tdiv 8 = z := ⟨_, rfl⟩
        obtain ⟨r, hr⟩ : ∃ z, y.c.tdiv 8 = z := ⟨_, rfl⟩
        have hG : spG y = ⟨p, r⟩ := by unfold spG; rw [hp, hr]
        rw [hG] at HPU
        rw [hp] at q1
        rw [hr] at q2
        clear hok h1 h2 h3 h4 hG HON HOF HOC hyw
        obtain ⟨z0, z1⟩ := hA.cells hk8
        obtain ⟨f0, f1⟩ := hA.frozen2 k
        have HA2 := hide (show ArrG8 ((W1.setCell ⟨b5, k * 2, none⟩ (.int .i64 p)).setCell ⟨b5, k * 2 + 1, none⟩ (.int .i64 r)) b5 (setG8 E k ⟨p, r⟩) from hA.put k ⟨p, r⟩)
        have HZ2 := hide (hZ.other (c := b5) (o := k * 2) h15 (.int .i64 p) (.int .i64 r))
        have HL2 := hide ((hB1.setCell (p := ⟨b5, k * 2, none⟩) h05 (.int .i64 p)).setCell (p := ⟨b5, k * 2 + 1, none⟩) h05 (.int .i64 r))
        go_wp2_with fail
        go_roundw
        case rel => exact ⟨k + 1, by omega, by go_num, HON1.out, HZ2.out, HA2.out.congr HPU.out, HL2.out⟩
        case measure => simp [Go.RowKit.intOf]; omega
      · have hVV := HVV.out
        rw [HOF.out hok, if_neg (by decide)] at hVV
        subst hVV
        have hG : G = fun _ => Gau.zero := HG.out.symm.trans (funext fun n => if_neg (by decide))
        subst hG
        have HZ3 := hide hZ
        have hs3 : b1 < W1.heap.size := hZ.lt
        clear hok HON HOF HOC hyw HG HPU HVV
        rcases hc with h1 | ⟨h1, h2⟩ | ⟨h1, h2, h3⟩ | ⟨h1, h2, h3, h4⟩
        · have t1 : (y.b != 0) = true := by simpa using h1
          clear h1
          go_upto_region 9 with fail
          have hz8 : ∀ a : Act, (execOp a.eval (⟨some 40, .build 24 #[], 24, "", #[], none⟩ : Oper)).run Try.prog W1 = .ok (.value (.agg (arrG8 fun _ => Gau.zero))) W1 := fun a => by kernel_rfl
          go_wp2_with (refine wpList_storeG8 rfl (.tmp 2) (.tmp 40) rfl b1 (fun _ => Gau.zero) (fun _ => Gau.zero) rfl (by first | rfl | kernel_rfl) HZ3.out ?_; intro W9 r9 o9)
          refine bodyPost_ret (v := .tuple #[.agg (arrG8 fun _ => Gau.zero), .int .i64 3]) (result2G8 rfl _ rfl rfl r9) rfl ⟨rfl, ?_⟩
          rw [HW0.out]
          exact hB1.trans (o9.to_below h01' (by omega))
        · have t1 : (y.b != 0) = false := by simpa using h1
          have t2 : (y.d != 0) = true := by simpa using h2
          clear h1 h2
          go_upto_region 9 with fail
          have hz8 : ∀ a : Act, (execOp a.eval (⟨some 40, .build 24 #[], 24, "", #[], none⟩ : Oper)).run Try.prog W1 = .ok (.value (.agg (arrG8 fun _ => Gau.zero))) W1 := fun a => by kernel_rfl
          go_wp2_with (refine wpList_storeG8 rfl (.tmp 2) (.tmp 40) rfl b1 (fun _ => Gau.zero) (fun _ => Gau.zero) rfl (by first | rfl | kernel_rfl) HZ3.out ?_; intro W9 r9 o9)
          refine bodyPost_ret (v := .tuple #[.agg (arrG8 fun _ => Gau.zero), .int .i64 3]) (result2G8 rfl _ rfl rfl r9) rfl ⟨rfl, ?_⟩
          rw [HW0.out]
          exact hB1.trans (o9.to_below h01' (by omega))
        · have t1 : (y.b != 0) = false := by simpa using h1
          have t2 : (y.d != 0) = false := by simpa using h2
          have t3 : (y.a.tmod 8 != 0) = true := by simpa using h3
          clear h1 h2 h3
          go_upto_region 9 with fail
          have hz8 : ∀ a : Act, (execOp a.eval (⟨some 40, .build 24 #[], 24, "", #[], none⟩ : Oper)).run Try.prog W1 = .ok (.value (.agg (arrG8 fun _ => Gau.zero))) W1 := fun a => by kernel_rfl
          go_wp2_with (refine wpList_storeG8 rfl (.tmp 2) (.tmp 40) rfl b1 (fun _ => Gau.zero) (fun _ => Gau.zero) rfl (by first | rfl | kernel_rfl) HZ3.out ?_; intro W9 r9 o9)
          refine bodyPost_ret (v := .tuple #[.agg (arrG8 fun _ => Gau.zero), .int .i64 3]) (result2G8 rfl _ rfl rfl r9) rfl ⟨rfl, ?_⟩
          rw [HW0.out]
          exact hB1.trans (o9.to_below h01' (by omega))
        · have t1 : (y.b != 0) = false := by simpa using h1
          have t2 : (y.d != 0) = false := by simpa using h2
          have t3 : (y.a.tmod 8 != 0) = false := by simpa using h3
          have t4 : (y.c.tmod 8 != 0) = true := by simpa using h4
          clear h1 h2 h3 h4
          go_upto_region 9 with fail
          have hz8 : ∀ a : Act, (execOp a.eval (⟨some 40, .build 24 #[], 24, "", #[], none⟩ : Oper)).run Try.prog W1 = .ok (.value (.agg (arrG8 fun _ => Gau.zero))) W1 := fun a => by kernel_rfl
          go_wp2_with (refine wpList_storeG8 rfl (.tmp 2) (.tmp 40) rfl b1 (fun _ => Gau.zero) (fun _ => Gau.zero) rfl (by first | rfl | kernel_rfl) HZ3.out ?_; intro W9 r9 o9)
          refine bodyPost_ret (v := .tuple #[.agg (arrG8 fun _ => Gau.zero), .int .i64 3]) (result2G8 rfl _ rfl rfl r9) rfl ⟨rfl, ?_⟩
          rw [HW0.out]
          exact hB1.trans (o9.to_below h01' (by omega))
    · obtain rfl : k = 8 := by omega
      have hVV := HVV.out
      rw [HS.out, if_pos rfl] at hVV
      subst hVV
      have hG : (fun n => spG (Y n)) = G := (funext fun n => (if_pos rfl).symm : (fun n => spG (Y n)) = _).trans HG.out
      clear HVV HG
      have HZ := hide hZ
      have HA := hide (show ArrG8 wA b5 G by rw [← hG]; exact hA.congr fun q hq => if_pos hq)
      have hs3 := hZ.lt
      clear hZ hA hG
      go_wp2_with (first | (refine wpList_storeG8 rfl (.tmp 2) (.tmp 51) rfl b1 (fun _ => Gau.zero) G rfl rfl HZ.out ?_; intro W9 r9 o9) | (refine wpList_loadG8 rfl (.tmp 5) rfl b5 G rfl HA.out ?_))
      refine bodyPost_ret (v := .tuple #[.agg (arrG8 G), .int .i64 0]) (result2G8 rfl _ rfl rfl r9) rfl ⟨rfl, ?_⟩
      rw [HW0.out]
      exact hB.trans (o9.to_below h01' (by omega))
end Go.Proofs.Ytfemghbjngemlaa
