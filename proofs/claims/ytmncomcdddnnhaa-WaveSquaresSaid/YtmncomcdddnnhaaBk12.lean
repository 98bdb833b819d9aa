/- Lemmas: Ua, Bj, Bm. -/
import Derived.Deep.QuietTactic
import Derived.Test.YtmncomcdddnnhaaBk04
import Derived.Test.YtmncomcdddnnhaaBk09
import Derived.Test.YtmncomcdddnnhaaBk11
set_option linter.unusedVariables false
set_option linter.unusedSimpArgs false
/- within, IsSmall, EighthsErr, Turn, Plus of the reference; Mod of the base. -/
namespace Go.Proofs.Ytmncomcdddnnhaa
open Go.RowKit
set_option maxHeartbeats 400000 in
theorem modN_any (n m : Int) (w : World) (h0 : 0 < m) (h1 : m ≤ 1000000000) :
    Calls Try.prog 84 #[.int .i64 n, .int .i64 m] w fun e w' => e = .returned (.int .i64 (n % m)) ∧ w = w' := by
  have hm0 : ¬ m = 0 := by omega
  by_cases hn : 0 ≤ n
  · have hb := Int.emod_nonneg n (show m ≠ 0 by omega)
    have hb2 := Int.emod_lt_of_pos n h0
    go_enter Try.func84, Try.ntmps84
    go_wp2_with fail
    go_ret
    exact ⟨rfl, rfl⟩
  · have hneg : n < 0 := by omega
    obtain ⟨r, hr⟩ : ∃ r, r = n.tmod m := ⟨_, rfl⟩
    have hr' := hr.symm
    have hle : -m < r ∧ r ≤ 0 := by
      rw [hr]
      have e := Int.neg_tmod (-n) m
      rw [Int.neg_neg] at e
      rw [e]
      have h2 : (-n).tmod m = (-n) % m := Int.tmod_eq_emod_of_nonneg (by omega)
      rw [h2]
      have := Int.emod_nonneg (-n) (show m ≠ 0 by omega)
      have := Int.emod_lt_of_pos (-n) h0
      omega
    have hdm : n % m = if r < 0 then r + m else r := by
      have h3 := Int.mul_tdiv_add_tmod n m
      rw [← hr] at h3
      split
      · have : n = (r + m) + m * (n.tdiv m - 1) := by rw [Int.mul_sub]; omega
        rw [this, Int.add_mul_emod_self_left]
        exact Int.emod_eq_of_lt (by omega) (by omega)
      · have h0r : r = 0 := by omega
        have : n = 0 + m * n.tdiv m := by omega
        rw [this, Int.add_mul_emod_self_left, h0r]
        rfl
    have HD := hide hdm
    obtain ⟨l1, l2⟩ := hle
    have hnn : ¬ 0 ≤ n := hn
    clear hdm hr hn
    by_cases hrz : r < 0
    · go_enter Try.func84, Try.ntmps84
      go_wp2_with fail
      go_ret
      exact ⟨ret_int (by rw [HD.out, if_pos hrz]), rfl⟩
    · have hr0 : 0 ≤ r := by omega
      have HRZ := hide hrz
      clear hrz
      go_enter Try.func84, Try.ntmps84
      go_wp2_with fail
      go_ret
      exact ⟨ret_int (by rw [HD.out, if_neg (Int.not_lt.2 HRZ.out)]), rfl⟩


theorem mod8 (n : Int) (w : World) : Calls Try.prog 84 #[.int .i64 n, .int .i64 8] w fun e w' => e = .returned (.int .i64 (n % 8)) ∧ w = w' := modN_any n 8 w (by decide) (by decide)
set_option maxHeartbeats 2000000 in
theorem turnR_any (x : Num) (n : Int) (w : World) (hx : x.Within 4611686018427387904) :
    Calls Try.prog 59 #[.agg #[.int .i64 x.a, .int .i64 x.b, .int .i64 x.c, .int .i64 x.d], .int .i64 n] w fun e w' => e = .returned (.agg #[.int .i64 (x.turns (n % 8).toNat).a, .int .i64 (x.turns (n % 8).toNat).b, .int .i64 (x.turns (n % 8).toNat).c, .int .i64 (x.turns (n % 8).toNat).d]) ∧ Below w.heap.size w w' := by
  have HX := hide hx
  clear hx
  obtain ⟨k, hk⟩ : ∃ k, k = (n % 8).toNat := ⟨_, rfl⟩
  have hkz : n % 8 = (k : Int) := by have := Int.emod_nonneg n (show (8 : Int) ≠ 0 by decide); omega
  have hk8 : k < 8 := by have := Int.emod_lt_of_pos n (show (0 : Int) < 8 by decide); omega
  rw [← hk]
  have HM := hide (fun W => mod8 n W)
  rw [hkz] at HM
  clear hk hkz
  go_enter Try.func59, Try.ntmps59
  go_wp2_with fail
  go_loopw [5] (fun i wr => ∃ j : Nat, j ≤ k ∧ i = .int .i64 (j : Int) ∧ Box wr w.heap.size 41 #[.int .i64 (x.turns j).a, .int .i64 (x.turns j).b, .int .i64 (x.turns j).c, .int .i64 (x.turns j).d] ∧ Box wr (w.heap.size + 1) 41 #[.int .i64 0, .int .i64 0, .int .i64 0, .int .i64 0] ∧ Below w.heap.size w wr) (fun i _ => k - (Go.RowKit.intOf i).toNat)
  case atStart => exact ⟨0, Nat.zero_le _, rfl, (Box.made rfl).alloc _, Box.made (by simp), by (repeat (first | (with_reducible exact Below.refl _ _) | (with_reducible refine Go.below_drewN ?_ _) | (with_reducible refine Below.drew ?_) | (with_reducible refine Below.alloc ?_ (by first | exact Nat.le_refl _ | (simp; done) | (simp; omega) | omega) _) | (with_reducible refine Below.setCell ?_ (by first | exact Nat.le_refl _ | (simp; done) | (simp; omega) | omega) _)))⟩
  case round =>
    obtain ⟨j, hj, rfl, bx, by', hB⟩ := hrel
    have hy := HX.out.turns j
    have HT := hide (show x.turns (j + 1) = (x.turns j).turn from rfl)
    obtain ⟨y, hyx⟩ : ∃ y, x.turns j = y := ⟨_, rfl⟩
    rw [hyx] at bx hy HT
    have HYX := hide hyx
    clear hyx
    obtain ⟨h1, h2, h3, h4⟩ := hy
    obtain ⟨z0, z1, z2, z3, f0, f1, f2, f3, hl⟩ := bx.cells4
    by_cases hlt : j < k
    · have hltz : (j : Int) < (k : Int) := by omega
      have q1 : IntKind.i64.wrap (-y.d) = -y.d := IntWalk.i64_in _ (by omega)
      have HBX := hide (bx.put4 (.int .i64 (-y.d)) (.int .i64 y.a) (.int .i64 y.b) (.int .i64 y.c))
      have HBY := hide (by'.other4 (c := w.heap.size) (by omega) (.int .i64 (-y.d)) (.int .i64 y.a) (.int .i64 y.b) (.int .i64 y.c))
      have HBL := hide (Below.put4 hB (Nat.le_refl _) (.int .i64 (-y.d)) (.int .i64 y.a) (.int .i64 y.b) (.int .i64 y.c))
      clear bx by' hB h1 h2 h3 h4
      go_wp2_with (go_at_call 84; refine (HM.out _).mono ?_; rintro e w' ⟨rfl, rfl⟩)
      go_roundw
      case rel => exact ⟨j + 1, by omega, by go_num, by rw [HT.out]; exact HBX.out, HBY.out, HBL.out⟩
      case measure => simp [Go.RowKit.intOf]; omega
    · obtain rfl : j = k := by omega
      obtain ⟨y0, y1, y2, y3, g0, g1, g2, g3, hl'⟩ := by'.cells4
      have HBY := hide (by'.put4 (.int .i64 y.a) (.int .i64 y.b) (.int .i64 y.c) (.int .i64 y.d))
      have HBL := hide (Below.put4 hB (Nat.le_succ _) (.int .i64 y.a) (.int .i64 y.b) (.int .i64 y.c) (.int .i64 y.d))
      clear bx by' hB h1 h2 h3 h4
      go_wp2_with (go_at_call 84; refine (HM.out _).mono ?_; rintro e w' ⟨rfl, rfl⟩)
      refine bodyPost_ret (v := .agg #[.int .i64 y.a, .int .i64 y.b, .int .i64 y.c, .int .i64 y.d]) ?_ rfl ⟨by rw [HYX.out], HBL.out⟩
      obtain ⟨y0, y1, y2, y3, -⟩ := HBY.out.cells4
      simp [results, Try.results59, go_sem, y0, y1, y2, y3]

set_option maxHeartbeats 2000000 in
theorem withinR_any (x : Num) (M : Int) (w : World) (hM : 0 ≤ M ∧ M ≤ 9000000000000000000) :
    Calls Try.prog 46 #[.agg #[.int .i64 x.a, .int .i64 x.b, .int .i64 x.c, .int .i64 x.d], .int .i64 M] w fun e w' => e = .returned (.bool (x.isIn M)) ∧ Below w.heap.size w w' := by
  have q1 : IntKind.i64.wrap (-M) = -M := IntWalk.i64_in _ (by omega)
  have HI := hide (show x.isIn M = (((withinB x.a (-M) M && withinB x.b (-M) M) && withinB x.c (-M) M) && withinB x.d (-M) M) from by
    unfold Num.isIn
    cases withinB x.a (-M) M <;> cases withinB x.b (-M) M <;> cases withinB x.c (-M) M <;> cases withinB x.d (-M) M <;> rfl)
  generalize x.isIn M = v at *
  clear hM
  cases ea : withinB x.a (-M) M
  · have HV := hide (show v = false from by rw [HI.out, ea]; rfl)
    clear HI
    go_enter Try.func46, Try.ntmps46
    go_wp2_with (go_at_call 41; refine (within_any _ _ _ _).mono ?_; rintro e w' ⟨rfl, rfl⟩; rw [ea])
    go_ret
    exact ⟨by rw [HV.out]; rfl, by (repeat (first | (with_reducible exact Below.refl _ _) | (with_reducible refine Go.below_drewN ?_ _) | (with_reducible refine Below.drew ?_) | (with_reducible refine Below.alloc ?_ (by first | exact Nat.le_refl _ | (simp; done) | (simp; omega) | omega) _) | (with_reducible refine Below.setCell ?_ (by first | exact Nat.le_refl _ | (simp; done) | (simp; omega) | omega) _)))⟩
  cases eb : withinB x.b (-M) M
  · have HV := hide (show v = false from by rw [HI.out, ea, eb]; rfl)
    clear HI
    go_enter Try.func46, Try.ntmps46
    go_wp2_with (go_at_call 41; refine (within_any _ _ _ _).mono ?_; rintro e w' ⟨rfl, rfl⟩; first | rw [ea] | rw [eb])
    go_ret
    exact ⟨by rw [HV.out]; rfl, by (repeat (first | (with_reducible exact Below.refl _ _) | (with_reducible refine Go.below_drewN ?_ _) | (with_reducible refine Below.drew ?_) | (with_reducible refine Below.alloc ?_ (by first | exact Nat.le_refl _ | (simp; done) | (simp; omega) | omega) _) | (with_reducible refine Below.setCell ?_ (by first | exact Nat.le_refl _ | (simp; done) | (simp; omega) | omega) _)))⟩
  cases ec : withinB x.c (-M) M
  · have HV := hide (show v = false from by rw [HI.out, ea, eb, ec]; rfl)
    clear HI
    go_enter Try.func46, Try.ntmps46
    go_wp2_with (go_at_call 41; refine (within_any _ _ _ _).mono ?_; rintro e w' ⟨rfl, rfl⟩; first | rw [ea] | rw [eb] | rw [ec])
    go_ret
    exact ⟨by rw [HV.out]; rfl, by (repeat (first | (with_reducible exact Below.refl _ _) | (with_reducible refine Go.below_drewN ?_ _) | (with_reducible refine Below.drew ?_) | (with_reducible refine Below.alloc ?_ (by first | exact Nat.le_refl _ | (simp; done) | (simp; omega) | omega) _) | (with_reducible refine Below.setCell ?_ (by first | exact Nat.le_refl _ | (simp; done) | (simp; omega) | omega) _)))⟩
  have HV := hide (show v = withinB x.d (-M) M from by rw [HI.out, ea, eb, ec]; simp)
  clear HI
  go_enter Try.func46, Try.ntmps46
  go_wp2_with (go_at_call 41; refine (within_any _ _ _ _).mono ?_; rintro e w' ⟨rfl, rfl⟩; first | rw [ea] | rw [eb] | rw [ec] | skip)
  go_ret
  exact ⟨by rw [HV.out]; rfl, by (repeat (first | (with_reducible exact Below.refl _ _) | (with_reducible refine Go.below_drewN ?_ _) | (with_reducible refine Below.drew ?_) | (with_reducible refine Below.alloc ?_ (by first | exact Nat.le_refl _ | (simp; done) | (simp; omega) | omega) _) | (with_reducible refine Below.setCell ?_ (by first | exact Nat.le_refl _ | (simp; done) | (simp; omega) | omega) _)))⟩
theorem isSmall_any (x : Num) (w : World) :
    Calls Try.prog 83 #[.agg #[.int .i64 x.a, .int .i64 x.b, .int .i64 x.c, .int .i64 x.d]] w fun e w' => e = .returned (.bool (x.isIn 1000000000)) ∧ Below w.heap.size w w' := by
  have HX := hide (fun W => withinR_any x 1000000000 W (by decide))
  generalize x.isIn 1000000000 = v at *
  go_enter Try.func83, Try.ntmps83
  go_wp2_with fail
  refine (HX.out _).mono ?_
  rintro e w' ⟨rfl, hb⟩
  go_wp2_with fail
  go_ret
  exact ⟨rfl, ((Below.refl _ _).alloc (Nat.le_refl _) _).trans (hb.mono (by simp))⟩
theorem eighthsErr_any (n : Int) (w : World) :
    Calls Try.prog 27 #[.int .i64 n] w fun e w' => e = .returned (.int .i64 (unI (withinB n 0 7) 2)) ∧ w = w' := by
  have HX := hide (fun W => within_any n 0 7 W)
  generalize withinB n 0 7 = v at *
  cases v
  all_goals
    go_enter Try.func27, Try.ntmps27
    go_wp2_with (go_at_call 41; refine (HX.out _).mono ?_; rintro e w' ⟨rfl, rfl⟩)
    go_ret
    exact ⟨rfl, rfl⟩
set_option maxHeartbeats 2000000 in
set_option maxRecDepth 100000 in
theorem plusR_any (x y : Num) (M : Int) (w : World) (hx : (x.add y).Within M) (hM : M ≤ 9223372036854775807) :
    Calls Try.prog 60 #[.agg #[.int .i64 x.a, .int .i64 x.b, .int .i64 x.c, .int .i64 x.d], .agg #[.int .i64 y.a, .int .i64 y.b, .int .i64 y.c, .int .i64 y.d]] w fun e w' => e = .returned (.agg #[.int .i64 (x.add y).a, .int .i64 (x.add y).b, .int .i64 (x.add y).c, .int .i64 (x.add y).d]) ∧ Below w.heap.size w w' := by
  obtain ⟨h1, h2, h3, h4⟩ := hx
  have q1 : IntKind.i64.wrap (x.a + y.a) = x.a + y.a := IntWalk.i64_in _ (by have : -M ≤ x.a + y.a ∧ x.a + y.a ≤ M := h1; omega)
  have q2 : IntKind.i64.wrap (x.b + y.b) = x.b + y.b := IntWalk.i64_in _ (by have : -M ≤ x.b + y.b ∧ x.b + y.b ≤ M := h2; omega)
  have q3 : IntKind.i64.wrap (x.c + y.c) = x.c + y.c := IntWalk.i64_in _ (by have : -M ≤ x.c + y.c ∧ x.c + y.c ≤ M := h3; omega)
  have q4 : IntKind.i64.wrap (x.d + y.d) = x.d + y.d := IntWalk.i64_in _ (by have : -M ≤ x.d + y.d ∧ x.d + y.d ≤ M := h4; omega)
  clear h1 h2 h3 h4 hM
  go_enter Try.func60, Try.ntmps60
  go_wp2_with fail
  have hb : Box (((w.alloc (.cells #[.int .i64 x.a, .int .i64 x.b, .int .i64 x.c, .int .i64 x.d] 41)).alloc (.cells #[.int .i64 y.a, .int .i64 y.b, .int .i64 y.c, .int .i64 y.d] 41)).alloc (.cells #[.int .i64 (x.a + y.a), .int .i64 (x.b + y.b), .int .i64 (x.c + y.c), .int .i64 (x.d + y.d)] 41)) (w.heap.size + 1 + 1) 41 #[.int .i64 (x.a + y.a), .int .i64 (x.b + y.b), .int .i64 (x.c + y.c), .int .i64 (x.d + y.d)] := Box.made (by simp)
  obtain ⟨y0, y1, y2, y3, -⟩ := hb.cells4
  refine bodyPost_ret (v := .agg #[.int .i64 (x.a + y.a), .int .i64 (x.b + y.b), .int .i64 (x.c + y.c), .int .i64 (x.d + y.d)]) ?_ rfl ⟨rfl, by (repeat (first | (with_reducible exact Below.refl _ _) | (with_reducible refine Go.below_drewN ?_ _) | (with_reducible refine Below.drew ?_) | (with_reducible refine Below.alloc ?_ (by first | exact Nat.le_refl _ | (simp; done) | (simp; omega) | omega) _) | (with_reducible refine Below.setCell ?_ (by first | exact Nat.le_refl _ | (simp; done) | (simp; omega) | omega) _)))⟩
  simp [results, Try.results60, go_sem, y0, y1, y2, y3]
end Go.Proofs.Ytmncomcdddnnhaa
/- SquareErr, SquareOf, SquaresErr and Compared of the reference. -/
namespace Go.Proofs.Ytmncomcdddnnhaa
open Go.RowKit
set_option maxHeartbeats 1000000 in
theorem squareErrR_any (x : Num) (w : World) :
    Calls Try.prog 19 #[.agg #[.int .i64 x.a, .int .i64 x.b, .int .i64 x.c, .int .i64 x.d]] w fun e w' => e = .returned (.int .i64 (x.err 1000000)) ∧ Below w.heap.size w w' := by
  have HX := hide (fun W => withinR_any x 1000000 W (by decide))
  have HV := hide (show x.err 1000000 = unI (x.isIn 1000000) 2 from rfl)
  generalize x.err 1000000 = V at *
  generalize x.isIn 1000000 = v at *
  have hB : ∀ w3 o, Below (w.alloc o).heap.size (w.alloc o) w3 → Below w.heap.size w w3 := fun w3 o h => ((Below.refl _ _).alloc (Nat.le_refl _) _).trans (h.mono (by simp))
  have HB := hide hB
  clear hB
  cases v
  all_goals
    go_enter Try.func19, Try.ntmps19
    go_wp2_with fail
    refine (HX.out _).mono ?_
    rintro e w' ⟨rfl, hb⟩
    have HL := hide (HB.out _ _ hb)
    clear hb
    go_wp2_with fail
    go_ret
    exact ⟨by rw [HV.out]; rfl, HL.out⟩
set_option maxHeartbeats 2000000 in
set_option maxRecDepth 100000 in
theorem squareOfR_any (x : Num) (w : World) (hx : x.Within 1000000) :
    Calls Try.prog 20 #[.agg #[.int .i64 x.a, .int .i64 x.b, .int .i64 x.c, .int .i64 x.d]] w fun e w' => e = .returned (.agg #[.int .i64 x.sqP, .int .i64 x.sqQ]) ∧ Below w.heap.size w w' := by
  obtain ⟨ha, hb, hc, hd⟩ := hx
  have HP := hide (show x.sqP = x.a * x.a + x.b * x.b + x.c * x.c + x.d * x.d from rfl)
  have HQ := hide (show x.sqQ = x.a * x.b + x.b * x.c + x.c * x.d - x.a * x.d from rfl)
  obtain ⟨a, b, c, d⟩ := x
  simp only at ha hb hc hd HP HQ ⊢
  have m1 := mul_within ha ha
  have m2 := mul_within hb hb
  have m3 := mul_within hc hc
  have m4 := mul_within hd hd
  have m5 := mul_within ha hb
  have m6 := mul_within hb hc
  have m7 := mul_within hc hd
  have m8 := mul_within ha hd
  obtain ⟨P, hP⟩ : ∃ P, P = (⟨a, b, c, d⟩ : Num).sqP := ⟨_, rfl⟩
  obtain ⟨Q, hQ⟩ : ∃ Q, Q = (⟨a, b, c, d⟩ : Num).sqQ := ⟨_, rfl⟩
  rw [← hP] at HP ⊢
  rw [← hQ] at HQ ⊢
  clear hP hQ ha hb hc hd
  generalize e1 : a * a = aa at *
  generalize e2 : b * b = bb at *
  generalize e3 : c * c = cc at *
  generalize e4 : d * d = dd at *
  generalize e5 : a * b = ab at *
  generalize e6 : b * c = bc at *
  generalize e7 : c * d = cd at *
  generalize e8 : a * d = ad at *
  have q1 : IntKind.i64.wrap aa = aa := IntWalk.i64_in _ (by omega)
  have q2 : IntKind.i64.wrap bb = bb := IntWalk.i64_in _ (by omega)
  have q3 : IntKind.i64.wrap cc = cc := IntWalk.i64_in _ (by omega)
  have q4 : IntKind.i64.wrap dd = dd := IntWalk.i64_in _ (by omega)
  have q5 : IntKind.i64.wrap ab = ab := IntWalk.i64_in _ (by omega)
  have q6 : IntKind.i64.wrap bc = bc := IntWalk.i64_in _ (by omega)
  have q7 : IntKind.i64.wrap cd = cd := IntWalk.i64_in _ (by omega)
  have q8 : IntKind.i64.wrap ad = ad := IntWalk.i64_in _ (by omega)
  have q9 : IntKind.i64.wrap (aa + bb) = aa + bb := IntWalk.i64_in _ (by omega)
  have q10 : IntKind.i64.wrap (aa + bb + cc) = aa + bb + cc := IntWalk.i64_in _ (by omega)
  have q11 : IntKind.i64.wrap (aa + bb + cc + dd) = P := by rw [HP.out]; exact IntWalk.i64_in _ (by omega)
  have q12 : IntKind.i64.wrap (ab + bc) = ab + bc := IntWalk.i64_in _ (by omega)
  have q13 : IntKind.i64.wrap (ab + bc + cd) = ab + bc + cd := IntWalk.i64_in _ (by omega)
  have q14 : IntKind.i64.wrap (ab + bc + cd - ad) = Q := by rw [HQ.out]; exact IntWalk.i64_in _ (by omega)
  clear m1 m2 m3 m4 m5 m6 m7 m8
  go_enter Try.func20, Try.ntmps20
  go_wp2_with fail
  have hbx : Box ((w.alloc (.cells #[.int .i64 a, .int .i64 b, .int .i64 c, .int .i64 d] 41)).alloc (.cells #[.int .i64 P, .int .i64 Q] 43)) (w.heap.size + 1) 43 #[.int .i64 P, .int .i64 Q] := Box.made (by simp)
  have y0 := hbx.at_ 0
  have y1 := hbx.at_ 1
  simp only [List.getElem?_toArray] at y0 y1
  refine bodyPost_ret (v := .agg #[.int .i64 P, .int .i64 Q]) ?_ rfl ⟨rfl, by (repeat (first | (with_reducible exact Below.refl _ _) | (with_reducible refine Go.below_drewN ?_ _) | (with_reducible refine Below.drew ?_) | (with_reducible refine Below.alloc ?_ (by first | exact Nat.le_refl _ | (simp; done) | (simp; omega) | omega) _) | (with_reducible refine Below.setCell ?_ (by first | exact Nat.le_refl _ | (simp; done) | (simp; omega) | omega) _)))⟩
  simp [results, Try.results20, go_sem, y0, y1]
set_option maxHeartbeats 1000000 in
theorem squaresErrR_any (p q : Int) (w : World) :
    Calls Try.prog 21 #[.agg #[.int .i64 p, .int .i64 q]] w fun e w' => e = .returned (.int .i64 (unI (withinB p (-10000000000000) 10000000000000 && withinB q (-10000000000000) 10000000000000) 2)) ∧ Below w.heap.size w w' := by
  cases ea : withinB p (-10000000000000) 10000000000000
  · go_enter Try.func21, Try.ntmps21
    go_wp2_with (go_at_call 41; refine (within_any _ _ _ _).mono ?_; rintro e w' ⟨rfl, rfl⟩; rw [ea])
    go_ret
    exact ⟨rfl, by (repeat (first | (with_reducible exact Below.refl _ _) | (with_reducible refine Go.below_drewN ?_ _) | (with_reducible refine Below.drew ?_) | (with_reducible refine Below.alloc ?_ (by first | exact Nat.le_refl _ | (simp; done) | (simp; omega) | omega) _) | (with_reducible refine Below.setCell ?_ (by first | exact Nat.le_refl _ | (simp; done) | (simp; omega) | omega) _)))⟩
  · cases eb : withinB q (-10000000000000) 10000000000000
    all_goals
      go_enter Try.func21, Try.ntmps21
      go_wp2_with (go_at_call 41; refine (within_any _ _ _ _).mono ?_; rintro e w' ⟨rfl, rfl⟩; first | rw [ea] | rw [eb])
      go_ret
      exact ⟨rfl, by (repeat (first | (with_reducible exact Below.refl _ _) | (with_reducible refine Go.below_drewN ?_ _) | (with_reducible refine Below.drew ?_) | (with_reducible refine Below.alloc ?_ (by first | exact Nat.le_refl _ | (simp; done) | (simp; omega) | omega) _) | (with_reducible refine Below.setCell ?_ (by first | exact Nat.le_refl _ | (simp; done) | (simp; omega) | omega) _)))⟩
/-- Twice a square is no square. -/
theorem no_root : ∀ (n p q : Nat), q ≤ n → p * p = 2 * (q * q) → q = 0
  | 0, _, _, h, _ => by omega
  | n + 1, p, q, h, e => by
    rcases Nat.mod_two_eq_zero_or_one p with h2 | h2
    · obtain ⟨k, rfl⟩ : ∃ k, p = 2 * k := ⟨p / 2, by omega⟩
      have e0 : 2 * k * (2 * k) = 2 * 2 * (k * k) := Nat.mul_mul_mul_comm 2 k 2 k
      have e1 : q * q = 2 * (k * k) := by omega
      rcases Nat.eq_zero_or_pos q with hq | hq
      · exact hq
      · have hqq := Nat.mul_pos hq hq
        have hk : k < q := by
          rcases Nat.lt_or_ge k q with h' | h'
          · exact h'
          · have := Nat.mul_le_mul h' h'
            omega
        have hk0 := no_root n q k (by omega) e1
        subst hk0
        omega
    · obtain ⟨k, rfl⟩ : ∃ k, p = 2 * k + 1 := ⟨p / 2, by omega⟩
      rw [Nat.add_mul, Nat.one_mul, Nat.mul_assoc] at e
      omega
theorem no_rootI {p q : Int} (hq : q ≠ 0) : p * p ≠ 2 * (q * q) := fun e => by
  have e1 := congrArg Int.natAbs e
  rw [Int.natAbs_mul, Int.natAbs_mul, Int.natAbs_mul] at e1
  have := no_root q.natAbs p.natAbs q.natAbs (Nat.le_refl _) e1
  omega
/-- What the reference's Compared says of the differences of two squares. -/
def refC (p q : Int) : Int := if 0 ≤ p ∧ 0 ≤ q then (if p = 0 ∧ q = 0 then 0 else 1) else if p ≤ 0 ∧ q ≤ 0 then -1 else if (0 < cmpI (p * p) (2 * (q * q))) = (0 < p) then 1 else -1
theorem refC_comp (p q : Int) : refC p q = compI p (-q) := by
  unfold refC compI
  have e1 : -q * (-q * 2) = 2 * (q * q) := by rw [Int.neg_mul, Int.neg_mul, Int.mul_neg, Int.neg_neg, Int.mul_comm 2, Int.mul_assoc]
  rw [e1]
  rcases Int.lt_trichotomy p 0 with hp | hp | hp
  · rcases Int.lt_trichotomy q 0 with hq | hq | hq
    · rw [if_neg (by omega), if_pos (by omega), cmpI_lt hp, cmpI_gt (show 0 < -q by omega)]; rw [if_neg (by decide)]; decide
    · subst hq
      rw [if_neg (by omega), if_pos (by omega), cmpI_lt hp]; rw [if_neg (by decide)]; decide
    · have hn := no_rootI (p := p) (q := q) (by omega)
      rw [if_neg (by omega), if_neg (by omega), cmpI_lt hp, cmpI_lt (show -q < 0 by omega), if_pos rfl]
      rcases Int.lt_trichotomy (p * p) (2 * (q * q)) with h | h | h
      · rw [cmpI_lt h, if_pos (by simp; omega)]; decide
      · exact absurd h hn
      · rw [cmpI_gt h, if_neg (by simp; omega)]; decide
  · subst hp
    rcases Int.lt_trichotomy q 0 with hq | hq | hq
    · rw [if_neg (by omega), if_pos (by omega), cmpI_gt (show 0 < -q by omega)]; rw [if_neg (by decide)]; decide
    · subst hq; decide
    · rw [if_pos (by omega), if_neg (by omega), cmpI_lt (show -q < 0 by omega)]; rw [if_neg (by decide)]; decide
  · rcases Int.lt_trichotomy q 0 with hq | hq | hq
    · have hn := no_rootI (p := p) (q := q) (by omega)
      rw [if_neg (by omega), if_neg (by omega), cmpI_gt hp, cmpI_gt (show 0 < -q by omega), if_pos rfl]
      rcases Int.lt_trichotomy (p * p) (2 * (q * q)) with h | h | h
      · rw [cmpI_lt h, if_neg (by simp; omega)]; decide
      · exact absurd h hn
      · rw [cmpI_gt h, if_pos (by simp; omega)]; decide
    · subst hq
      rw [if_pos (by omega), if_neg (by omega), cmpI_gt hp]; rw [if_neg (by decide)]; decide
    · rw [if_pos (by omega), if_neg (by omega), cmpI_gt hp, cmpI_lt (show -q < 0 by omega)]; rw [if_neg (by decide)]; decide
end Go.Proofs.Ytmncomcdddnnhaa
/- Compared of the reference. -/
namespace Go.Proofs.Ytmncomcdddnnhaa
open Go.RowKit
theorem wideOfI (x : Int) (w : World) (hx : -1000000000000000000 ≤ x ∧ x ≤ 1000000000000000000) :
    Calls Try.prog 48 #[.int .i64 x] w fun e w' => ∃ V, e = .returned V ∧ WideAt w' 0 V 3 x ∧ Below w.heap.size w w' :=
  (wideOf1_any x x.natAbs w (by omega) (by omega)).mono fun _ _ ⟨V, h1, h2, h3⟩ => ⟨V, h1, h2.weak (Nat.zero_le _) (Nat.le_refl _), h3⟩
set_option maxHeartbeats 8000000 in
set_option maxRecDepth 100000 in
theorem comparedR_any (a b c d : Int) (w : World) (ha : -10000000000000 ≤ a ∧ a ≤ 10000000000000) (hb : -10000000000000 ≤ b ∧ b ≤ 10000000000000) (hc : -10000000000000 ≤ c ∧ c ≤ 10000000000000) (hd : -10000000000000 ≤ d ∧ d ≤ 10000000000000) :
    Calls Try.prog 22 #[.agg #[.int .i64 a, .int .i64 b], .agg #[.int .i64 c, .int .i64 d]] w fun e w' => e = .returned (.int .i64 (refC (a - c) (b - d))) ∧ Below w.heap.size w w' := by
  obtain ⟨p, hp⟩ : ∃ p, p = a - c := ⟨_, rfl⟩
  obtain ⟨q, hq⟩ : ∃ q, q = b - d := ⟨_, rfl⟩
  have q1 : IntKind.i64.wrap (a - c) = p := by rw [hp]; exact IntWalk.i64_in _ (by omega)
  have q2 : IntKind.i64.wrap (b - d) = q := by rw [hq]; exact IntWalk.i64_in _ (by omega)
  have hpb : -1000000000000000000 ≤ p ∧ p ≤ 1000000000000000000 := by omega
  have hqb : -1000000000000000000 ≤ q ∧ q ≤ 1000000000000000000 := by omega
  rw [← hp, ← hq]
  have HWP := hide (fun W => wideOfI p W hpb)
  have HWQ := hide (fun W => wideOfI q W hqb)
  have HW2 := hide (fun W => wideOfI 2 W (by decide))
  obtain ⟨R, hR⟩ : ∃ R, R = refC p q := ⟨_, rfl⟩
  have HR := hide (show R = if 0 ≤ p ∧ 0 ≤ q then (if p = 0 ∧ q = 0 then 0 else 1) else if p ≤ 0 ∧ q ≤ 0 then -1 else if (0 < cmpI (p * p) (2 * (q * q))) = (0 < p) then 1 else -1 from hR)
  rw [← hR]
  clear hR hp hq ha hb hc hd
  by_cases hA : 0 ≤ p ∧ 0 ≤ q
  · have t1 : p ≥ 0 := hA.1
    have t2 : q ≥ 0 := hA.2
    by_cases h0 : p = 0 ∧ q = 0
    · have HV := hide (show R = 0 by rw [HR.out, if_pos hA, if_pos h0])
      obtain ⟨h1, h2⟩ := h0
      have e1 : (p == 0) = true := by simp [h1]
      have e2 : (q == 0) = true := by simp [h2]
      clear HR hpb hqb HWP HWQ HW2 h1 h2 hA
      go_enter Try.func22, Try.ntmps22
      go_wp2_with fail
      go_quiet (fail)
      clear q1 q2
      obtain ⟨W, hW⟩ : ∃ y : World, y = ((w.alloc (.cells #[.int .i64 a, .int .i64 b] 43)).alloc (.cells #[.int .i64 c, .int .i64 d] 43)).drewN nq := ⟨_, rfl⟩
      rw [← hW]
      have hX : Below w.heap.size w ((w.alloc (.cells #[.int .i64 a, .int .i64 b] 43)).alloc (.cells #[.int .i64 c, .int .i64 d] 43)) := by (repeat (first | (with_reducible exact Below.refl _ _) | (with_reducible refine Go.below_drewN ?_ _) | (with_reducible refine Below.drew ?_) | (with_reducible refine Below.alloc ?_ (by first | exact Nat.le_refl _ | (simp; done) | (simp; omega) | omega) _) | (with_reducible refine Below.setCell ?_ (by first | exact Nat.le_refl _ | (simp; done) | (simp; omega) | omega) _)))
      have HB := hide (show Below w.heap.size w W by rw [hW]; exact ⟨hX.os, hX.tape, hX.output, hX.size, hX.block⟩)
      clear hW hX
      go_wp2_with fail
      go_ret
      exact ⟨by rw [HV.out]; rfl, HB.out⟩
    · have HV := hide (show R = 1 by rw [HR.out, if_pos hA, if_neg h0])
      by_cases h1 : p = 0
      · have e1 : (p == 0) = true := by simp [h1]
        have e2 : (q == 0) = false := by simp; omega
        clear HR hpb hqb HWP HWQ HW2 h0 h1 hA
        go_enter Try.func22, Try.ntmps22
        go_wp2_with fail
        go_quiet (fail)
        clear q1 q2
        obtain ⟨W, hW⟩ : ∃ y : World, y = ((w.alloc (.cells #[.int .i64 a, .int .i64 b] 43)).alloc (.cells #[.int .i64 c, .int .i64 d] 43)).drewN nq := ⟨_, rfl⟩
        rw [← hW]
        have hX : Below w.heap.size w ((w.alloc (.cells #[.int .i64 a, .int .i64 b] 43)).alloc (.cells #[.int .i64 c, .int .i64 d] 43)) := by (repeat (first | (with_reducible exact Below.refl _ _) | (with_reducible refine Go.below_drewN ?_ _) | (with_reducible refine Below.drew ?_) | (with_reducible refine Below.alloc ?_ (by first | exact Nat.le_refl _ | (simp; done) | (simp; omega) | omega) _) | (with_reducible refine Below.setCell ?_ (by first | exact Nat.le_refl _ | (simp; done) | (simp; omega) | omega) _)))
        have HB := hide (show Below w.heap.size w W by rw [hW]; exact ⟨hX.os, hX.tape, hX.output, hX.size, hX.block⟩)
        clear hW hX
        go_wp2_with fail
        go_ret
        exact ⟨by rw [HV.out]; rfl, HB.out⟩
      · have e1 : (p == 0) = false := by simp; omega
        clear HR hpb hqb HWP HWQ HW2 h0 h1 hA
        go_enter Try.func22, Try.ntmps22
        go_wp2_with fail
        go_quiet (fail)
        clear q1 q2
        obtain ⟨W, hW⟩ : ∃ y : World, y = ((w.alloc (.cells #[.int .i64 a, .int .i64 b] 43)).alloc (.cells #[.int .i64 c, .int .i64 d] 43)).drewN nq := ⟨_, rfl⟩
        rw [← hW]
        have hX : Below w.heap.size w ((w.alloc (.cells #[.int .i64 a, .int .i64 b] 43)).alloc (.cells #[.int .i64 c, .int .i64 d] 43)) := by (repeat (first | (with_reducible exact Below.refl _ _) | (with_reducible refine Go.below_drewN ?_ _) | (with_reducible refine Below.drew ?_) | (with_reducible refine Below.alloc ?_ (by first | exact Nat.le_refl _ | (simp; done) | (simp; omega) | omega) _) | (with_reducible refine Below.setCell ?_ (by first | exact Nat.le_refl _ | (simp; done) | (simp; omega) | omega) _)))
        have HB := hide (show Below w.heap.size w W by rw [hW]; exact ⟨hX.os, hX.tape, hX.output, hX.size, hX.block⟩)
        clear hW hX
        go_wp2_with fail
        go_ret
        exact ⟨by rw [HV.out]; rfl, HB.out⟩
  · by_cases hB : p ≤ 0 ∧ q ≤ 0
    · have HV := hide (show R = -1 by rw [HR.out, if_neg hA, if_pos hB])
      have t1 : p ≤ 0 := hB.1
      have t2 : q ≤ 0 := hB.2
      by_cases h1 : p = 0
      · have t3 : p ≥ 0 := by omega
        have t4 : ¬ (q ≥ 0) := by omega
        clear HR hpb hqb HWP HWQ HW2 h1 hA hB
        go_enter Try.func22, Try.ntmps22
        go_wp2_with fail
        go_quiet (fail)
        clear q1 q2
        obtain ⟨W, hW⟩ : ∃ y : World, y = ((w.alloc (.cells #[.int .i64 a, .int .i64 b] 43)).alloc (.cells #[.int .i64 c, .int .i64 d] 43)).drewN nq := ⟨_, rfl⟩
        rw [← hW]
        have hX : Below w.heap.size w ((w.alloc (.cells #[.int .i64 a, .int .i64 b] 43)).alloc (.cells #[.int .i64 c, .int .i64 d] 43)) := by (repeat (first | (with_reducible exact Below.refl _ _) | (with_reducible refine Go.below_drewN ?_ _) | (with_reducible refine Below.drew ?_) | (with_reducible refine Below.alloc ?_ (by first | exact Nat.le_refl _ | (simp; done) | (simp; omega) | omega) _) | (with_reducible refine Below.setCell ?_ (by first | exact Nat.le_refl _ | (simp; done) | (simp; omega) | omega) _)))
        have HB := hide (show Below w.heap.size w W by rw [hW]; exact ⟨hX.os, hX.tape, hX.output, hX.size, hX.block⟩)
        clear hW hX
        go_wp2_with fail
        go_ret
        exact ⟨by rw [HV.out]; rfl, HB.out⟩
      · have t3 : ¬ (p ≥ 0) := by omega
        clear HR hpb hqb HWP HWQ HW2 h1 hA hB
        go_enter Try.func22, Try.ntmps22
        go_wp2_with fail
        go_quiet (fail)
        clear q1 q2
        obtain ⟨W, hW⟩ : ∃ y : World, y = ((w.alloc (.cells #[.int .i64 a, .int .i64 b] 43)).alloc (.cells #[.int .i64 c, .int .i64 d] 43)).drewN nq := ⟨_, rfl⟩
        rw [← hW]
        have hX : Below w.heap.size w ((w.alloc (.cells #[.int .i64 a, .int .i64 b] 43)).alloc (.cells #[.int .i64 c, .int .i64 d] 43)) := by (repeat (first | (with_reducible exact Below.refl _ _) | (with_reducible refine Go.below_drewN ?_ _) | (with_reducible refine Below.drew ?_) | (with_reducible refine Below.alloc ?_ (by first | exact Nat.le_refl _ | (simp; done) | (simp; omega) | omega) _) | (with_reducible refine Below.setCell ?_ (by first | exact Nat.le_refl _ | (simp; done) | (simp; omega) | omega) _)))
        have HB := hide (show Below w.heap.size w W by rw [hW]; exact ⟨hX.os, hX.tape, hX.output, hX.size, hX.block⟩)
        clear hW hX
        go_wp2_with fail
        go_ret
        exact ⟨by rw [HV.out]; rfl, HB.out⟩
    · have hp0 : p ≠ 0 := by omega
      have hq0 : q ≠ 0 := by omega
      have hpp : 0 < p * p := by
        rcases Int.lt_or_gt_of_ne hp0 with h | h
        · exact Int.mul_pos_of_neg_of_neg h h
        · exact Int.mul_pos h h
      have hqq : 0 < q * q := by
        rcases Int.lt_or_gt_of_ne hq0 with h | h
        · exact Int.mul_pos_of_neg_of_neg h h
        · exact Int.mul_pos h h
      have HSP := hide (fun (V U : Value) (W : World) (h1 : WideAt W 0 V 3 p) (h2 : WideAt W 0 U 3 p) => wideMul_self V U 3 3 p W h1 h2 (by decide) (by decide) hp0)
      have HSQ := hide (fun (V U : Value) (W : World) (h1 : WideAt W 0 V 3 q) (h2 : WideAt W 0 U 3 q) => wideMul_self V U 3 3 q W h1 h2 (by decide) (by decide) hq0)
      have HS2 := hide (fun (V U : Value) (W : World) (h1 : WideAt W 0 V 3 2) (h2 : WideAt W 0 U 7 (q * q)) => wideMul_pos V U 3 7 2 (q * q) W h1 h2 (by decide) (by decide) (by decide) hqq)
      have HCM := hide (fun (V U : Value) (W : World) (h1 : WideAt W 0 V 7 (p * p)) (h2 : WideAt W 0 U 11 (2 * (q * q))) => wideCmp_pos V U 7 11 (p * p) (2 * (q * q)) W h1 h2 hpp (by omega) (by decide) (by decide))
      have HRR := hide (show R = if (0 < cmpI (p * p) (2 * (q * q))) = (0 < p) then 1 else -1 by rw [HR.out, if_neg hA, if_neg hB])
      have HPP := hide hpp
      have HQQ := hide (show 0 < 2 * (q * q) by omega)
      have HNA := hide hA
      have HNB := hide hB
      clear HR hp0 hq0 hpp hqq hpb hqb hA hB
      generalize p * p = pp at *
      generalize q * q = qq at *
      generalize cmpI pp (2 * qq) = z at *
      have hsides : (p < 0 ∧ 0 < q) ∨ (0 < p ∧ q < 0) := by have h1 := HNA.out; have h2 := HNB.out; omega
      have HE := hide HNA.out
      clear HNA HNB HE
      rcases hsides with ⟨hp, hq⟩ | ⟨hp, hq⟩
      · have t1 : ¬ (p ≥ 0) := by omega
        have t2 : p ≤ 0 := by omega
        have t3 : ¬ (q ≤ 0) := by omega
        have t5 : ¬ (p > 0) := by omega
        go_enter Try.func22, Try.ntmps22
        go_wp2_with fail
        go_quiet (fail)
        clear q1 q2
        obtain ⟨W, hW⟩ : ∃ y : World, y = ((w.alloc (.cells #[.int .i64 a, .int .i64 b] 43)).alloc (.cells #[.int .i64 c, .int .i64 d] 43)).drewN nq := ⟨_, rfl⟩
        rw [← hW]
        have hX : Below w.heap.size w ((w.alloc (.cells #[.int .i64 a, .int .i64 b] 43)).alloc (.cells #[.int .i64 c, .int .i64 d] 43)) := by (repeat (first | (with_reducible exact Below.refl _ _) | (with_reducible refine Go.below_drewN ?_ _) | (with_reducible refine Below.drew ?_) | (with_reducible refine Below.alloc ?_ (by first | exact Nat.le_refl _ | (simp; done) | (simp; omega) | omega) _) | (with_reducible refine Below.setCell ?_ (by first | exact Nat.le_refl _ | (simp; done) | (simp; omega) | omega) _)))
        have HB := hide (show Below w.heap.size w W by rw [hW]; exact ⟨hX.os, hX.tape, hX.output, hX.size, hX.block⟩)
        clear hW hX
        go_wp2_with fail
        refine (HWP.out _).mono ?_
        rintro e w1 ⟨V1, rfl, hV1, hb1⟩
        have HB1 := hide (HB.out.trans (hb1.mono HB.out.size))
        have HV1 := hide hV1
        clear hb1 hV1 HB
        go_wp2_with fail
        refine (HWP.out _).mono ?_
        rintro e w2 ⟨V2, rfl, hV2, hb2⟩
        have HB2 := hide (HB1.out.trans (hb2.mono HB1.out.size))
        have HV1b := hide (HV1.out.below hb2)
        have HV2 := hide hV2
        clear hb2 hV2 HB1 HV1 HWP
        go_wp2_with fail
        refine (HSP.out V1 V2 _ HV1b.out HV2.out).mono ?_
        rintro e w3 ⟨V3, rfl, hV3, hb3⟩
        have HB3 := hide (HB2.out.trans (hb3.mono HB2.out.size))
        replace hV3 := hV3.weak (Nat.zero_le _) (Nat.le_refl _)
        obtain ⟨A3, n3, c3, D3, rfl, -⟩ := hV3.sign_pos HPP.out
        have HV3 := hide hV3
        clear hb3 hV3 HB2 HV1b HV2 HSP
        go_wp2_with fail
        obtain ⟨W4, hW4⟩ : ∃ y : World, y = w3.alloc (.cells #[.int .i64 1, .slice A3 n3 c3] 81) := ⟨_, rfl⟩
        rw [← hW4]
        have b7 : Box W4 w3.heap.size 81 #[.int .i64 1, .slice A3 n3 c3] := by rw [hW4]; exact Box.made rfl
        have hb4 : Below w3.heap.size w3 W4 := by rw [hW4]; exact (Below.refl _ _).alloc (Nat.le_refl _) _
        have HB4 := hide (HB3.out.trans (hb4.mono HB3.out.size))
        have HV4 := hide (HV3.out.below hb4)
        have HB7 := hide b7
        clear hW4 hb4 b7 HB3 HV3
        refine (HW2.out _).mono ?_
        rintro e w5 ⟨V5, rfl, hV5, hb5⟩
        have HB5 := hide (HB4.out.trans (hb5.mono HB4.out.size))
        have HX5 := hide (HB7.out.below hb5)
        have HP5 := hide (HV4.out.below hb5)
        have HV5 := hide hV5
        clear hb5 hV5 HB4 HB7 HV4 HW2
        go_wp2_with fail
        refine (HWQ.out _).mono ?_
        rintro e w6 ⟨V6, rfl, hV6, hb6⟩
        have HB6 := hide (HB5.out.trans (hb6.mono HB5.out.size))
        have HX6 := hide (HX5.out.below hb6)
        have HP6 := hide (HP5.out.below hb6)
        have HT6 := hide (HV5.out.below hb6)
        have HV6 := hide hV6
        clear hb6 hV6 HB5 HX5 HP5 HV5
        go_wp2_with fail
        refine (HWQ.out _).mono ?_
        rintro e w7 ⟨V7, rfl, hV7, hb7⟩
        have HB7 := hide (HB6.out.trans (hb7.mono HB6.out.size))
        have HX7 := hide (HX6.out.below hb7)
        have HP7 := hide (HP6.out.below hb7)
        have HT7 := hide (HT6.out.below hb7)
        have HQ7 := hide (HV6.out.below hb7)
        have HV7 := hide hV7
        clear hb7 hV7 HB6 HX6 HP6 HT6 HV6 HWQ
        go_wp2_with fail
        refine (HSQ.out V6 V7 _ HQ7.out HV7.out).mono ?_
        rintro e w8 ⟨V8, rfl, hV8, hb8⟩
        have HB8 := hide (HB7.out.trans (hb8.mono HB7.out.size))
        have HX8 := hide (HX7.out.below hb8)
        have HP8 := hide (HP7.out.below hb8)
        have HT8 := hide (HT7.out.below hb8)
        have HV8 := hide (hV8.weak (Nat.zero_le _) (Nat.le_refl _))
        clear hb8 hV8 HB7 HX7 HP7 HT7 HQ7 HV7 HSQ
        go_wp2_with fail
        refine (HS2.out V5 V8 _ HT8.out HV8.out).mono ?_
        rintro e w9 ⟨V9, rfl, hV9, hb9⟩
        have HB9 := hide (HB8.out.trans (hb9.mono HB8.out.size))
        have HX9 := hide (HX8.out.below hb9)
        have HP9 := hide (HP8.out.below hb9)
        replace hV9 := hV9.weak (Nat.zero_le _) (Nat.le_refl _)
        obtain ⟨A9, n9, c9, D9, rfl, -⟩ := hV9.sign_pos HQQ.out
        have HV9 := hide hV9
        clear hb9 hV9 HB8 HX8 HP8 HT8 HV8 HS2
        go_upto_region 10 with fail
        obtain ⟨Wa, hWa⟩ : ∃ y : World, y = w9.alloc (.cells #[.int .i64 1, .slice A9 n9 c9] 81) := ⟨_, rfl⟩
        rw [← hWa]
        have b8 : Box Wa w9.heap.size 81 #[.int .i64 1, .slice A9 n9 c9] := by rw [hWa]; exact Box.made rfl
        have hba : Below w9.heap.size w9 Wa := by rw [hWa]; exact (Below.refl _ _).alloc (Nat.le_refl _) _
        have HBa := hide (HB9.out.trans (hba.mono HB9.out.size))
        have HPa := hide (HP9.out.below hba)
        have HQa := hide (HV9.out.below hba)
        have b7 := HX9.out.below hba
        have x0 := b7.at_ 0
        have x1 := b7.at_ 1
        have y0 := b8.at_ 0
        have y1 := b8.at_ 1
        simp only [List.getElem?_toArray] at x0 x1 y0 y1
        clear hWa hba b7 b8 HB9 HP9 HV9 HX9
        go_wp2_with fail
        refine (HCM.out _ _ _ HPa.out HQa.out).mono ?_
        rintro e wz ⟨rfl, hbz⟩
        have HBz := hide (HBa.out.trans (hbz.mono HBa.out.size))
        clear x0 x1 y0 y1 hbz HBa HPa HQa HCM
        by_cases hz : z > 0
        · have HV := hide (show R = -1 by rw [HRR.out, if_neg (by simp; omega)])
          clear HRR
          go_wp2_with fail
          go_ret
          exact ⟨by rw [HV.out]; rfl, HBz.out⟩
        · have HV := hide (show R = 1 by rw [HRR.out, if_pos (by simp; omega)])
          have te : (decide (0 < z) == decide (0 < p)) = true := by rw [decide_eq_false (by omega), decide_eq_false (by omega)]; rfl
          clear HRR
          go_wp2_with fail
          go_ret
          exact ⟨by rw [HV.out]; rfl, HBz.out⟩
      · have t1 : p ≥ 0 := by omega
        have t2 : ¬ (q ≥ 0) := by omega
        have t3 : ¬ (p ≤ 0) := by omega
        have t5 : p > 0 := by omega
        go_enter Try.func22, Try.ntmps22
        go_wp2_with fail
        go_quiet (fail)
        clear q1 q2
        obtain ⟨W, hW⟩ : ∃ y : World, y = ((w.alloc (.cells #[.int .i64 a, .int .i64 b] 43)).alloc (.cells #[.int .i64 c, .int .i64 d] 43)).drewN nq := ⟨_, rfl⟩
        rw [← hW]
        have hX : Below w.heap.size w ((w.alloc (.cells #[.int .i64 a, .int .i64 b] 43)).alloc (.cells #[.int .i64 c, .int .i64 d] 43)) := by (repeat (first | (with_reducible exact Below.refl _ _) | (with_reducible refine Go.below_drewN ?_ _) | (with_reducible refine Below.drew ?_) | (with_reducible refine Below.alloc ?_ (by first | exact Nat.le_refl _ | (simp; done) | (simp; omega) | omega) _) | (with_reducible refine Below.setCell ?_ (by first | exact Nat.le_refl _ | (simp; done) | (simp; omega) | omega) _)))
        have HB := hide (show Below w.heap.size w W by rw [hW]; exact ⟨hX.os, hX.tape, hX.output, hX.size, hX.block⟩)
        clear hW hX
        go_wp2_with fail
        refine (HWP.out _).mono ?_
        rintro e w1 ⟨V1, rfl, hV1, hb1⟩
        have HB1 := hide (HB.out.trans (hb1.mono HB.out.size))
        have HV1 := hide hV1
        clear hb1 hV1 HB
        go_wp2_with fail
        refine (HWP.out _).mono ?_
        rintro e w2 ⟨V2, rfl, hV2, hb2⟩
        have HB2 := hide (HB1.out.trans (hb2.mono HB1.out.size))
        have HV1b := hide (HV1.out.below hb2)
        have HV2 := hide hV2
        clear hb2 hV2 HB1 HV1 HWP
        go_wp2_with fail
        refine (HSP.out V1 V2 _ HV1b.out HV2.out).mono ?_
        rintro e w3 ⟨V3, rfl, hV3, hb3⟩
        have HB3 := hide (HB2.out.trans (hb3.mono HB2.out.size))
        replace hV3 := hV3.weak (Nat.zero_le _) (Nat.le_refl _)
        obtain ⟨A3, n3, c3, D3, rfl, -⟩ := hV3.sign_pos HPP.out
        have HV3 := hide hV3
        clear hb3 hV3 HB2 HV1b HV2 HSP
        go_wp2_with fail
        obtain ⟨W4, hW4⟩ : ∃ y : World, y = w3.alloc (.cells #[.int .i64 1, .slice A3 n3 c3] 81) := ⟨_, rfl⟩
        rw [← hW4]
        have b7 : Box W4 w3.heap.size 81 #[.int .i64 1, .slice A3 n3 c3] := by rw [hW4]; exact Box.made rfl
        have hb4 : Below w3.heap.size w3 W4 := by rw [hW4]; exact (Below.refl _ _).alloc (Nat.le_refl _) _
        have HB4 := hide (HB3.out.trans (hb4.mono HB3.out.size))
        have HV4 := hide (HV3.out.below hb4)
        have HB7 := hide b7
        clear hW4 hb4 b7 HB3 HV3
        refine (HW2.out _).mono ?_
        rintro e w5 ⟨V5, rfl, hV5, hb5⟩
        have HB5 := hide (HB4.out.trans (hb5.mono HB4.out.size))
        have HX5 := hide (HB7.out.below hb5)
        have HP5 := hide (HV4.out.below hb5)
        have HV5 := hide hV5
        clear hb5 hV5 HB4 HB7 HV4 HW2
        go_wp2_with fail
        refine (HWQ.out _).mono ?_
        rintro e w6 ⟨V6, rfl, hV6, hb6⟩
        have HB6 := hide (HB5.out.trans (hb6.mono HB5.out.size))
        have HX6 := hide (HX5.out.below hb6)
        have HP6 := hide (HP5.out.below hb6)
        have HT6 := hide (HV5.out.below hb6)
        have HV6 := hide hV6
        clear hb6 hV6 HB5 HX5 HP5 HV5
        go_wp2_with fail
        refine (HWQ.out _).mono ?_
        rintro e w7 ⟨V7, rfl, hV7, hb7⟩
        have HB7 := hide (HB6.out.trans (hb7.mono HB6.out.size))
        have HX7 := hide (HX6.out.below hb7)
        have HP7 := hide (HP6.out.below hb7)
        have HT7 := hide (HT6.out.below hb7)
        have HQ7 := hide (HV6.out.below hb7)
        have HV7 := hide hV7
        clear hb7 hV7 HB6 HX6 HP6 HT6 HV6 HWQ
        go_wp2_with fail
        refine (HSQ.out V6 V7 _ HQ7.out HV7.out).mono ?_
        rintro e w8 ⟨V8, rfl, hV8, hb8⟩
        have HB8 := hide (HB7.out.trans (hb8.mono HB7.out.size))
        have HX8 := hide (HX7.out.below hb8)
        have HP8 := hide (HP7.out.below hb8)
        have HT8 := hide (HT7.out.below hb8)
        have HV8 := hide (hV8.weak (Nat.zero_le _) (Nat.le_refl _))
        clear hb8 hV8 HB7 HX7 HP7 HT7 HQ7 HV7 HSQ
        go_wp2_with fail
        refine (HS2.out V5 V8 _ HT8.out HV8.out).mono ?_
        rintro e w9 ⟨V9, rfl, hV9, hb9⟩
        have HB9 := hide (HB8.out.trans (hb9.mono HB8.out.size))
        have HX9 := hide (HX8.out.below hb9)
        have HP9 := hide (HP8.out.below hb9)
        replace hV9 := hV9.weak (Nat.zero_le _) (Nat.le_refl _)
        obtain ⟨A9, n9, c9, D9, rfl, -⟩ := hV9.sign_pos HQQ.out
        have HV9 := hide hV9
        clear hb9 hV9 HB8 HX8 HP8 HT8 HV8 HS2
        go_upto_region 10 with fail
        obtain ⟨Wa, hWa⟩ : ∃ y : World, y = w9.alloc (.cells #[.int .i64 1, .slice A9 n9 c9] 81) := ⟨_, rfl⟩
        rw [← hWa]
        have b8 : Box Wa w9.heap.size 81 #[.int .i64 1, .slice A9 n9 c9] := by rw [hWa]; exact Box.made rfl
        have hba : Below w9.heap.size w9 Wa := by rw [hWa]; exact (Below.refl _ _).alloc (Nat.le_refl _) _
        have HBa := hide (HB9.out.trans (hba.mono HB9.out.size))
        have HPa := hide (HP9.out.below hba)
        have HQa := hide (HV9.out.below hba)
        have b7 := HX9.out.below hba
        have x0 := b7.at_ 0
        have x1 := b7.at_ 1
        have y0 := b8.at_ 0
        have y1 := b8.at_ 1
        simp only [List.getElem?_toArray] at x0 x1 y0 y1
        clear hWa hba b7 b8 HB9 HP9 HV9 HX9
        go_wp2_with fail
        refine (HCM.out _ _ _ HPa.out HQa.out).mono ?_
        rintro e wz ⟨rfl, hbz⟩
        have HBz := hide (HBa.out.trans (hbz.mono HBa.out.size))
        clear x0 x1 y0 y1 hbz HBa HPa HQa HCM
        by_cases hz : z > 0
        · have HV := hide (show R = 1 by rw [HRR.out, if_pos (by simp; omega)])
          clear HRR
          go_wp2_with fail
          go_ret
          exact ⟨by rw [HV.out]; rfl, HBz.out⟩
        · have HV := hide (show R = -1 by rw [HRR.out, if_neg (by simp; omega)])
          clear HRR
          go_wp2_with fail
          go_ret
          exact ⟨by rw [HV.out]; rfl, HBz.out⟩
end Go.Proofs.Ytmncomcdddnnhaa
