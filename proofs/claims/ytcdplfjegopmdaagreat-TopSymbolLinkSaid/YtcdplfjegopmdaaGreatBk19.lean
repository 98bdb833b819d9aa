/- Lemmas: S35. -/
import Derived.Test.YtcdplfjegopmdaaGreatBk08
import Derived.Test.YtcdplfjegopmdaaGreatBk12
import Derived.Test.YtcdplfjegopmdaaGreatBk14
set_option linter.unusedVariables false
set_option linter.unusedSimpArgs false
/- Products and sums of complex numbers that are whole; asComplex, asGauss, opposite of the code. -/
namespace Go.Proofs.YtcdplfjegopmdaaGreat
open Go Go.RowKit Go.Lib Ieee
theorem absLtS {a M : Int} (h : -M ≤ a ∧ a ≤ M) (hM : M < 9007199254740992) : a.natAbs < 2 ^ 53 := by
  have e : (2 : Nat) ^ 53 = 9007199254740992 := by decide
  rw [e]
  omega
def Gau.mul (x y : Gau) : Gau := ⟨x.re * y.re - x.im * y.im, x.re * y.im + x.im * y.re⟩
def Gau.plus (x y : Gau) : Gau := ⟨x.re + y.re, x.im + y.im⟩
def Gau.less (x y : Gau) : Gau := ⟨x.re - y.re, x.im - y.im⟩
def Gau.neg (x : Gau) : Gau := ⟨-x.re, -x.im⟩
def Gau.conj (x : Gau) : Gau := ⟨x.re, -x.im⟩
theorem mul_size {a b M N : Int} (ha : -M ≤ a ∧ a ≤ M) (hb : -N ≤ b ∧ b ≤ N) : -(M * N) ≤ a * b ∧ a * b ≤ M * N := by
  have hM : 0 ≤ M := by omega
  have hN : 0 ≤ N := by omega
  have h1 : a.natAbs ≤ M.natAbs := by omega
  have h2 : b.natAbs ≤ N.natAbs := by omega
  have h3 : (a * b).natAbs ≤ (M * N).natAbs := by rw [Int.natAbs_mul, Int.natAbs_mul]; exact Nat.mul_le_mul h1 h2
  have h4 : 0 ≤ M * N := Int.mul_nonneg hM hN
  omega
theorem Gau.mul_within {x y : Gau} {M N : Int} (hx : x.Within M) (hy : y.Within N) : (x.mul y).Within (2 * (M * N)) := by
  have a := mul_size hx.re hy.re
  have b := mul_size hx.im hy.im
  have c := mul_size hx.re hy.im
  have d := mul_size hx.im hy.re
  constructor
  · show -(2 * (M * N)) ≤ x.re * y.re - x.im * y.im ∧ x.re * y.re - x.im * y.im ≤ 2 * (M * N)
    omega
  · show -(2 * (M * N)) ≤ x.re * y.im + x.im * y.re ∧ x.re * y.im + x.im * y.re ≤ 2 * (M * N)
    omega
theorem Gau.plus_within {x y : Gau} {M N : Int} (hx : x.Within M) (hy : y.Within N) : (x.plus y).Within (M + N) := by
  have a := hx.re
  have b := hy.re
  have c := hx.im
  have d := hy.im
  constructor
  · show -(M + N) ≤ x.re + y.re ∧ x.re + y.re ≤ M + N
    omega
  · show -(M + N) ≤ x.im + y.im ∧ x.im + y.im ≤ M + N
    omega
theorem Gau.less_within {x y : Gau} {M N : Int} (hx : x.Within M) (hy : y.Within N) : (x.less y).Within (M + N) := by
  have a := hx.re
  have b := hy.re
  have c := hx.im
  have d := hy.im
  constructor
  · show -(M + N) ≤ x.re - y.re ∧ x.re - y.re ≤ M + N
    omega
  · show -(M + N) ≤ x.im - y.im ∧ x.im - y.im ≤ M + N
    omega
/-- Two floats that are the parts of a whole complex number. -/
def Cpx (u v : Nat) (x : Gau) : Prop := Whole u x.re ∧ Whole v x.im
theorem cpx_of {x : Gau} {M : Int} (h : x.Within M) (hM : M < 9007199254740992) : Cpx (floatOfInt .f64 x.re) (floatOfInt .f64 x.im) x := ⟨whole_ofInt (absLtS h.re hM), whole_ofInt (absLtS h.im hM)⟩
theorem cpx_zero : Cpx 0 0 Gau.zero := ⟨whole_zero, whole_zero⟩
theorem cpx_mul {u v s t : Nat} {x y : Gau} {M N : Int} (h1 : Cpx u v x) (h2 : Cpx s t y) (hx : x.Within M) (hy : y.Within N) (hb : 2 * (M * N) < 9007199254740992) : ∃ a b, cMulBits u v s t = some (a, b) ∧ Cpx a b (x.mul y) := by
  have a := mul_size hx.re hy.re
  have b := mul_size hx.im hy.im
  have c := mul_size hx.re hy.im
  have d := mul_size hx.im hy.re
  have hm := Gau.mul_within hx hy
  have h0 : 0 ≤ M * N := by omega
  obtain ⟨p, q, e1, e2, e3⟩ := whole_cmul h1.1 h1.2 h2.1 h2.2 (absLtS a (by omega)) (absLtS b (by omega)) (absLtS hm.re hb) (absLtS c (by omega)) (absLtS d (by omega)) (absLtS hm.im hb)
  exact ⟨p, q, e1, e2, e3⟩
theorem cpx_sum {u v s t : Nat} {x y : Gau} {M : Int} (h1 : Cpx u v x) (h2 : Cpx s t y) (hs : (x.plus y).Within M) (hb : M < 9007199254740992) : ∃ a b, cSumBits .add .f64 u v s t = some (a, b) ∧ Cpx a b (x.plus y) := by
  obtain ⟨p, q, e1, e2, e3⟩ := whole_csum h1.1 h1.2 h2.1 h2.2 (absLtS hs.re hb) (absLtS hs.im hb)
  exact ⟨p, q, e1, e2, e3⟩
theorem cpx_less {u v s t : Nat} {x y : Gau} {M : Int} (h1 : Cpx u v x) (h2 : Cpx s t y) (hs : (x.less y).Within M) (hb : M < 9007199254740992) : ∃ a b, cSumBits .sub .f64 u v s t = some (a, b) ∧ Cpx a b (x.less y) := by
  obtain ⟨p, e1, e2⟩ := whole_sub h1.1 h2.1 (absLtS hs.re hb)
  obtain ⟨q, e3, e4⟩ := whole_sub h1.2 h2.2 (absLtS hs.im hb)
  exact ⟨p, q, by simp [cSumBits, e1, e3], e2, e4⟩
set_option maxHeartbeats 1000000 in
theorem asComplexS_any (a b : Int) (w : World) :
    Calls Tryz.prog 104 #[.agg #[.int .i64 a, .int .i64 b]] w fun e w' => e = .returned (.complex .f64 (floatOfInt .f64 a) (floatOfInt .f64 b)) ∧ Below w.heap.size w w' := by
  go_enter Tryz.func104, Tryz.ntmps104
  go_wp2_with fail
  go_ret
  exact ⟨rfl, by (repeat (first | (with_reducible exact Below.refl _ _) | (with_reducible refine Go.below_drewN ?_ _) | (with_reducible refine Below.drew ?_) | (with_reducible refine Below.alloc ?_ (by first | exact Nat.le_refl _ | (simp; done) | (simp; omega) | omega) _) | (with_reducible refine Below.setCell ?_ (by first | exact Nat.le_refl _ | (simp; done) | (simp; omega) | omega) _)))⟩
set_option maxHeartbeats 2000000 in
set_option maxRecDepth 100000 in
theorem asGauss_any (u v : Nat) (x : Gau) (w : World) (hc : Cpx u v x) (hx : x.Within 9007199254740991) :
    Calls Tryz.prog 106 #[.complex .f64 u v] w fun e w' => e = .returned (.agg #[.int .i64 x.re, .int .i64 x.im]) ∧ Below w.heap.size w w' := by
  have d1 := whole_toInt hc.1 (absLtS hx.re (by decide))
  have d2 := whole_toInt hc.2 (absLtS hx.im (by decide))
  have HC1 := hide (fun W => run_convert_float_int (P := Tryz.prog) W 140 3 .f64 .i64 u x.re rfl Tryz.underlying3 d1)
  have HC2 := hide (fun W => run_convert_float_int (P := Tryz.prog) W 140 3 .f64 .i64 v x.im rfl Tryz.underlying3 d2)
  obtain ⟨p, hp⟩ : ∃ z, x.re = z := ⟨_, rfl⟩
  obtain ⟨q, hq⟩ : ∃ z, x.im = z := ⟨_, rfl⟩
  rw [hp] at HC1 d1
  rw [hq] at HC2 d2
  rw [hp, hq]
  clear hp hq hc hx
  have c1 := HC1.out
  have c2 := HC2.out
  go_enter Tryz.func106, Tryz.ntmps106
  go_upto_region 1 with fail
  obtain ⟨w1, hw1⟩ : ∃ z : World, z = w.alloc (.cells #[.int .i64 0, .int .i64 0] 62) := ⟨_, rfl⟩
  try rw [← hw1]
  have HX := hide (show Box w1 w.heap.size 62 #[.int .i64 0, .int .i64 0] by rw [hw1]; exact Box.made rfl)
  have HB := hide (show Below w.heap.size w w1 by rw [hw1]; (repeat (first | (with_reducible exact Below.refl _ _) | (with_reducible refine Go.below_drewN ?_ _) | (with_reducible refine Below.drew ?_) | (with_reducible refine Below.alloc ?_ (by first | exact Nat.le_refl _ | (simp; done) | (simp; omega) | omega) _) | (with_reducible refine Below.setCell ?_ (by first | exact Nat.le_refl _ | (simp; done) | (simp; omega) | omega) _))))
  clear hw1
  obtain ⟨y0, y1, f0, f1, hlx⟩ := HX.out.t2
  have HY := hide (HX.out.t2put (.int .i64 p) (.int .i64 q))
  have HB2 := hide ((HB.out.setCell (p := ⟨w.heap.size, 0, none⟩) (Nat.le_refl _) (.int .i64 p)).setCell (p := ⟨w.heap.size, 1, none⟩) (Nat.le_refl _) (.int .i64 q))
  go_wp2_with fail
  obtain ⟨z0, z1, -, -, -⟩ := HY.out.t2
  refine bodyPost_ret (v := .agg #[.int .i64 p, .int .i64 q]) ?_ rfl ⟨rfl, HB2.out⟩
  simp [results, Tryz.results106, go_sem, z0, z1]
set_option maxHeartbeats 2000000 in
theorem opposite_any (x : Gau) (w : World) (hx : x.Within 9000000000000000000) :
    Calls Tryz.prog 120 #[.agg #[.int .i64 x.re, .int .i64 x.im]] w fun e w' => e = .returned (.agg #[.int .i64 (-x.re), .int .i64 (-x.im)]) ∧ Below w.heap.size w w' := by
  have q1 : IntKind.i64.wrap (-x.re) = -x.re := IntWalk.i64_in _ (by have := hx.re; omega)
  have q2 : IntKind.i64.wrap (-x.im) = -x.im := IntWalk.i64_in _ (by have := hx.im; omega)
  obtain ⟨p, hp⟩ : ∃ z, x.re = z := ⟨_, rfl⟩
  obtain ⟨q, hq⟩ : ∃ z, x.im = z := ⟨_, rfl⟩
  rw [hp] at q1
  rw [hq] at q2
  rw [hp, hq]
  clear hp hq hx
  go_enter Tryz.func120, Tryz.ntmps120
  go_upto_region 1 with fail
  obtain ⟨w1, hw1⟩ : ∃ z : World, z = (w.alloc (.cells #[.int .i64 p, .int .i64 q] 62)).alloc (.cells #[.int .i64 0, .int .i64 0] 62) := ⟨_, rfl⟩
  try rw [← hw1]
  have HG := hide (show Box w1 w.heap.size 62 #[.int .i64 p, .int .i64 q] by rw [hw1]; exact (Box.made rfl).alloc _)
  have HX := hide (show Box w1 (w.heap.size + 1) 62 #[.int .i64 0, .int .i64 0] by rw [hw1]; exact Box.made (by simp))
  have HB := hide (show Below w.heap.size w w1 by rw [hw1]; (repeat (first | (with_reducible exact Below.refl _ _) | (with_reducible refine Go.below_drewN ?_ _) | (with_reducible refine Below.drew ?_) | (with_reducible refine Below.alloc ?_ (by first | exact Nat.le_refl _ | (simp; done) | (simp; omega) | omega) _) | (with_reducible refine Below.setCell ?_ (by first | exact Nat.le_refl _ | (simp; done) | (simp; omega) | omega) _))))
  clear hw1
  obtain ⟨y0, y1, f0, f1, hlx⟩ := HX.out.t2
  obtain ⟨x0, x1, -, -, hlg⟩ := HG.out.t2
  have HY := hide (HX.out.t2put (.int .i64 (-p)) (.int .i64 (-q)))
  have HB2 := hide ((HB.out.setCell (p := ⟨w.heap.size + 1, 0, none⟩) (Nat.le_succ _) (.int .i64 (-p))).setCell (p := ⟨w.heap.size + 1, 1, none⟩) (Nat.le_succ _) (.int .i64 (-q)))
  go_wp2_with fail
  obtain ⟨z0, z1, -, -, -⟩ := HY.out.t2
  refine bodyPost_ret (v := .agg #[.int .i64 (-p), .int .i64 (-q)]) ?_ rfl ⟨rfl, HB2.out⟩
  simp [results, Tryz.results120, go_sem, z0, z1]
end Go.Proofs.YtcdplfjegopmdaaGreat
