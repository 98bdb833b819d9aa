/- Lemmas: Rc, Rd, Re, Ae, Af. -/
import Derived.Lib.MinMax
import Derived.BigQuiet
import Derived.Test.YtcndeegfkgfnkaaBy04
import Derived.Test.YtcndeegfkgfnkaaBy06
import Derived.Test.YtcndeegfkgfnkaaBy09
import Derived.Test.YtcndeegfkgfnkaaBy11
set_option linter.unusedVariables false
set_option linter.unusedSimpArgs false
/- clipped, Clipped of the code. -/
namespace Go.Proofs.Ytcndeegfkgfnkaa
open Go.RowKit
/-- A part that is clipped. -/
def clipI (m p : Int) : Int := max (-m) (min p m)
def clipG (m : Int) (x : Gau) : Gau := ⟨clipI m x.re, clipI m x.im⟩
theorem clipI_within {m : Int} (h : 0 ≤ m) (p : Int) : -m ≤ clipI m p ∧ clipI m p ≤ m := by unfold clipI; omega
theorem clipI_le {m : Int} (h : 0 ≤ m) (p : Int) (M : Int) (hM : m ≤ M) : -M ≤ clipI m p ∧ clipI m p ≤ M := by unfold clipI; omega
/-- The error of clipped numbers. -/
def clipE (n : Nat) (F : Nat → Gau) (m : Int) : Int := firstE [unI (decide ((n : Int) ≤ 120)) 8, gausE 10000 F n, unI (withinB m 0 10000) 2]
theorem clipE_zero {n : Nat} {F : Nat → Gau} {m : Int} (h : clipE n F m = 0) : n ≤ 120 ∧ gausE 10000 F n = 0 ∧ 0 ≤ m ∧ m ≤ 10000 := by
  unfold clipE at h
  obtain ⟨h1, h⟩ := firstE_nil h
  obtain ⟨h2, h⟩ := firstE_nil h
  obtain ⟨h3, -⟩ := firstE_nil h
  have h1 := unI_zero (by decide) h1
  have h3 := withinB_iff.1 (unI_zero (by decide) h3)
  simp at h1
  exact ⟨by omega, h2, h3⟩
/-- What a call that gives numbers hands back beside its error V. -/
def GotG (W : World) (V : Int) (v : Value) (m : Nat) (F : Nat → Gau) : Prop := (V = 0 ∧ ∃ X x, v = .slice X m x ∧ GausAt W 0 X m F) ∨ (V ≠ 0 ∧ v = .slice none 0 0)
theorem GotG.below {W W' : World} {V : Int} {v : Value} {m : Nat} {F : Nat → Gau} (h : GotG W V v m F) (hb : Below W.heap.size W W') : GotG W' V v m F := by
  rcases h with ⟨h0, X, x, h1, h2⟩ | h
  · exact .inl ⟨h0, X, x, h1, h2.below hb⟩
  · exact .inr h
theorem World.cell_put2 {w : World} {b c o p : Nat} {v : Value} (h : w.cell? ⟨b, p, none⟩ = some v) (hn : b ≠ c) (u0 u1 : Value) : ((w.setCell ⟨c, o, none⟩ u0).setCell ⟨c, o + 1, none⟩ u1).cell? ⟨b, p, none⟩ = some v := by
  have f := fun (W : World) (q : Nat) (u : Value) (h : W.cell? ⟨b, p, none⟩ = some v) => (World.cell?_of_block (w := W) (w' := W.setCell ⟨c, q, none⟩ u) (a := ⟨b, p, none⟩) (heap_setCell_other W ⟨c, q, none⟩ b u hn)).trans h
  exact f _ _ _ (f _ _ _ h)
end Go.Proofs.Ytcndeegfkgfnkaa
/- ErrorOf of the code. -/
namespace Go.Proofs.Ytcndeegfkgfnkaa
open Go.RowKit
def sqG (x y : Gau) : Int := (x.re - y.re) * (x.re - y.re) + (x.im - y.im) * (x.im - y.im)
/-- The sum of the squares of the first n differences. -/
def errS (F G : Nat → Gau) : Nat → Int
  | 0 => 0
  | n + 1 => errS F G n + sqG (F n) (G n)
theorem sq_le {a M : Int} (h : -M ≤ a ∧ a ≤ M) : 0 ≤ a * a ∧ a * a ≤ M * M := by
  have h1 : 0 ≤ (M - a) * (M + a) := Int.mul_nonneg (by omega) (by omega)
  have h2 : 0 ≤ a * a := by
    rcases Int.le_total 0 a with h | h
    · exact Int.mul_nonneg h h
    · exact Int.mul_nonneg_of_nonpos_of_nonpos h h
  simp only [Int.sub_mul, Int.mul_add] at h1
  have h3 : M * a = a * M := Int.mul_comm _ _
  omega
theorem sqG_le {x y : Gau} {M N : Int} (hx : x.Within M) (hy : y.Within N) : (0 ≤ (x.re - y.re) * (x.re - y.re) ∧ (x.re - y.re) * (x.re - y.re) ≤ (M + N) * (M + N)) ∧ 0 ≤ (x.im - y.im) * (x.im - y.im) ∧ (x.im - y.im) * (x.im - y.im) ≤ (M + N) * (M + N) :=
  ⟨sq_le (by have := hx.re; have := hy.re; omega), sq_le (by have := hx.im; have := hy.im; omega)⟩
theorem errS_le {F G : Nat → Gau} : ∀ {n : Nat}, (∀ j, j < n → (F j).Within 10000) → (∀ j, j < n → (G j).Within 10000) → 0 ≤ errS F G n ∧ errS F G n ≤ 800000000 * (n : Int)
  | 0, _, _ => by show (0 : Int) ≤ 0 ∧ (0 : Int) ≤ _; simp
  | n + 1, h, k => by
    have h1 := errS_le (n := n) (fun j hj => h j (by omega)) (fun j hj => k j (by omega))
    have h2 := sqG_le (h n (by omega)) (k n (by omega))
    unfold errS sqG
    simp only [show ((10000 : Int) + 10000) * (10000 + 10000) = 400000000 from rfl] at h2
    omega
/-- The error of the error of two lists. -/
def errE (n m : Nat) (F G : Nat → Gau) : Int := firstE [unI (decide ((n : Int) ≤ 120)) 8, unI ((m : Int) == (n : Int)) 10, gausE 10000 F n, gausE 10000 G m]
theorem errE_zero {n m : Nat} {F G : Nat → Gau} (h : errE n m F G = 0) : n ≤ 120 ∧ m = n ∧ gausE 10000 F n = 0 ∧ gausE 10000 G n = 0 := by
  unfold errE at h
  obtain ⟨h1, h⟩ := firstE_nil h
  obtain ⟨h2, h⟩ := firstE_nil h
  obtain ⟨h3, h⟩ := firstE_nil h
  obtain ⟨h4, -⟩ := firstE_nil h
  have h1 := unI_zero (by decide) h1
  have h2 := unI_zero (by decide) h2
  simp at h1 h2
  have h2 : m = n := by omega
  subst h2
  exact ⟨by omega, rfl, h3, h4⟩
/-- What two lists come to. -/
def errV (n m : Nat) (F G : Nat → Gau) : Int := if errE n m F G = 0 then errS F G n else 0
end Go.Proofs.Ytcndeegfkgfnkaa
/- The reference on whole complex numbers: IsEntry, EntriesErr, CopyGausses, Gausses, GSub, GNorm, ErrorOf, Clipped. -/
namespace Go.Proofs.Ytcndeegfkgfnkaa
open Go.RowKit
theorem cellB {W W' : World} {b o : Nat} {v : Value} (hb : Below W.heap.size W W') (h : W.cell? ⟨b, o, none⟩ = some v) : W'.cell? ⟨b, o, none⟩ = some v :=
  (hb.cell (p := ⟨b, o, none⟩) (World.block_lt_of_cell? W _ h)).trans h
set_option maxHeartbeats 2000000 in
theorem isEntryR_any (x : Gau) (M : Int) (w : World) (hM : 0 ≤ M ∧ M ≤ 9000000000000000000) :
    Calls Try.prog 50 #[.agg #[.int .i64 x.re, .int .i64 x.im], .int .i64 M] w fun e w' => e = .returned (.bool (x.isIn M)) ∧ Below w.heap.size w w' := by
  have q1 : IntKind.i64.wrap (-M) = -M := IntWalk.i64_in _ (by omega)
  have HI := hide (show x.isIn M = (withinB x.re (-M) M && withinB x.im (-M) M) from rfl)
  generalize x.isIn M = v at *
  clear hM
  cases ea : withinB x.re (-M) M
  · have HV := hide (show v = false from by rw [HI.out, ea]; rfl)
    clear HI
    go_enter Try.func50, Try.ntmps50
    go_wp2_with (go_at_call 7; refine (within_any _ _ _ _).mono ?_; rintro e w' ⟨rfl, rfl⟩; rw [ea])
    go_ret
    exact ⟨by rw [HV.out]; rfl, by (repeat (first | (with_reducible exact Below.refl _ _) | (with_reducible refine Go.below_drewN ?_ _) | (with_reducible refine Below.drew ?_) | (with_reducible refine Below.alloc ?_ (by first | exact Nat.le_refl _ | (simp; done) | (simp; omega) | omega) _) | (with_reducible refine Below.setCell ?_ (by first | exact Nat.le_refl _ | (simp; done) | (simp; omega) | omega) _)))⟩
  have HV := hide (show v = withinB x.im (-M) M from by rw [HI.out, ea]; rfl)
  clear HI
  go_enter Try.func50, Try.ntmps50
  go_wp2_with (go_at_call 7; refine (within_any _ _ _ _).mono ?_; rintro e w' ⟨rfl, rfl⟩; first | rw [ea] | skip)
  go_ret
  exact ⟨by rw [HV.out]; rfl, by (repeat (first | (with_reducible exact Below.refl _ _) | (with_reducible refine Go.below_drewN ?_ _) | (with_reducible refine Below.drew ?_) | (with_reducible refine Below.alloc ?_ (by first | exact Nat.le_refl _ | (simp; done) | (simp; omega) | omega) _) | (with_reducible refine Below.setCell ?_ (by first | exact Nat.le_refl _ | (simp; done) | (simp; omega) | omega) _)))⟩
end Go.Proofs.Ytcndeegfkgfnkaa
/- The reference: Entry, Times, CopyPaths, AreSmall, CheckPaths. -/
namespace Go.Proofs.Ytcndeegfkgfnkaa
open Go.RowKit
/-- A whole complex number as a number. -/
def gN (r i : Int) : Num := ⟨r, 0, i, 0⟩
theorem gN_prod (r i : Int) (x : Num) : (gN r i).prod x = ⟨r * x.a + i * (x.turns 2).a, r * x.b + i * (x.turns 2).b, r * x.c + i * (x.turns 2).c, r * x.d + i * (x.turns 2).d⟩ := by
  obtain ⟨a, b, c, d⟩ := x
  apply Num.same <;> (simp [gN, Num.prod, Num.prodTo, Num.part, Num.turns, Num.turn, Num.add, Num.zero, Num.times])
/-- A path list's parts. -/
theorem paths_pats {w : World} {lo n : Nat} {A : Option Addr} {D R I : Nat → Int} (h : PathsAt w lo A n D R I) : PatsAt w lo A n (fun i => ⟨D i, R i, I i⟩) := h
theorem pats_paths {w : World} {lo n : Nat} {A : Option Addr} {D R I : Nat → Int} (h : PatsAt w lo A n (fun i => ⟨D i, R i, I i⟩)) : PathsAt w lo A n D R I := h
theorem pathEs_wrong {D R I : Nat → Int} {k : Nat} (h : withinB (D k) 0 7 = false ∨ (⟨R k, I k⟩ : Gau).isIn 100 = false) : pathEs D R I k = 2 := by
  unfold pathEs pathE
  rw [size2 100 (R k) (I k) _ rfl rfl]
  rcases h with h | h
  · rw [h]; rfl
  · unfold Gau.err
    rw [h]
    cases withinB (D k) 0 7 <;> rfl
theorem pathEs_right {D R I : Nat → Int} {k : Nat} (h1 : withinB (D k) 0 7 = true) (h2 : (⟨R k, I k⟩ : Gau).isIn 100 = true) : pathEs D R I k = unI (decide (prevD D k < D k)) 9 := by
  unfold pathEs pathE
  rw [size2 100 (R k) (I k) _ rfl rfl]
  unfold Gau.err
  rw [h1, h2]
  show firstE [0, 0, unI (decide (prevD D k < D k)) 9] = _
  rw [firstE, if_pos rfl, firstE, if_pos rfl, firstE]
  by_cases h : unI (decide (prevD D k < D k)) 9 = 0
  · rw [if_pos h, h]; rfl
  · rw [if_neg h]
set_option maxHeartbeats 8000000 in
set_option maxRecDepth 100000 in
theorem checkPathsR_any (A : Option Addr) (n c : Nat) (D R I : Nat → Int) (w : World) (hn : n ≤ 100000) (hI : PathsAt w 0 A n D R I) :
    Calls Try.prog 26 #[.slice A n c] w fun e w' => e = .returned (.tuple #[.int .i64 (chkI n D R I : Nat), .int .i64 (chkE n D R I)]) ∧ Below w.heap.size w w' := by
  have HI := hide hI
  clear hI
  by_cases h0 : n = 0
  · have t0 : ((n : Int) == 0) = true := by simp; omega
    subst h0
    clear HI hn
    go_enter Try.func26, Try.ntmps26
    go_wp2_with fail
    go_ret2
    exact ⟨rfl, Below.refl _ _⟩
  have t0 : ((n : Int) == 0) = false := by simp; omega
  by_cases h6 : 6 < n
  · have hz : (n : Int) > 6 := by omega
    have hl : lenE n = 8 := by
      unfold lenE
      rw [show decide (0 < n) = true by simp; omega, show decide ((n : Int) ≤ 6) = false by simp; omega]
      rfl
    have HU := hide (show chkI n D R I = 0 by unfold chkI; rw [hl]; rfl)
    have HV := hide (show chkE n D R I = 8 by unfold chkE; rw [hl]; rfl)
    generalize chkI n D R I = U at *
    generalize chkE n D R I = V at *
    clear HI hl h0 h6
    go_enter Try.func26, Try.ntmps26
    go_wp2_with fail
    go_ret2
    exact ⟨by rw [HU.out, HV.out]; rfl, Below.refl _ _⟩
  have hz : ¬ (n : Int) > 6 := by omega
  have hl : lenE n = 0 := by
    unfold lenE
    rw [show decide (0 < n) = true by simp; omega, show decide ((n : Int) ≤ 6) = true by simp; omega]
    rfl
  have HU := hide (show chkI n D R I = badI (pathEs D R I) n by unfold chkI; rw [if_pos hl])
  have HV := hide (show chkE n D R I = badE (pathEs D R I) n by unfold chkE; rw [if_pos hl])
  have HIE := hide (fun k W => isEntryR_any ⟨R k, I k⟩ 100 W (by decide))
  generalize chkI n D R I = U at *
  generalize chkE n D R I = V at *
  clear hl h0 h6
  go_enter Try.func26, Try.ntmps26
  go_wp2_with fail
  go_loopw [4] (fun iv wr => ∃ k : Nat, k ≤ n ∧ iv = .int .i64 (k : Int) ∧ Hid (badE (pathEs D R I) k = 0) ∧ Below w.heap.size w wr) (fun iv _ => n - (Go.RowKit.intOf iv).toNat)
  case atStart => exact ⟨0, Nat.zero_le _, rfl, hide rfl, Below.refl _ _⟩
  case round =>
    obtain ⟨k, hk, rfl, HZ, hB⟩ := hrel
    obtain ⟨wA, rfl⟩ : ∃ x : World, x = wr := ⟨_, rfl⟩
    have hBs := hB.size
    by_cases hlt : k < n
    · have hltz : (k : Int) < (n : Int) := by omega
      have HQ := hide (show pathEs D R I k ≠ 0 → badE (pathEs D R I) n = pathEs D R I k ∧ badI (pathEs D R I) n = k from fun h => ⟨badE_at (g := pathEs D R I) HZ.out h n hlt, badI_at (g := pathEs D R I) HZ.out h n hlt⟩)
      have HN := hide (show pathEs D R I k = 0 → badE (pathEs D R I) (k + 1) = 0 from fun h => by rw [badE_succ HZ.out]; exact h)
      have HW := hide (pathEs_wrong (D := D) (R := R) (I := I) (k := k))
      have HR := hide (pathEs_right (D := D) (R := R) (I := I) (k := k))
      have HIk := hide (fun W => HIE.out k W)
      obtain ⟨b, o, rfl, -, hb, c0, c1, c2⟩ := (HI.out.below hB) k hlt
      have HB := hide hB
      clear HZ
      cases h1 : withinB (D k) 0 7
      · have h3 := HW.out (.inl h1)
        have HE := hide (show U = k ∧ V = 2 from ⟨HU.out.trans (HQ.out (by rw [h3]; decide)).2, HV.out.trans ((HQ.out (by rw [h3]; decide)).1.trans h3)⟩)
        clear HQ HN HW HR h3 hB
        go_wp2_with (go_at_call 7; refine (within_any _ _ _ _).mono ?_; rintro e w' ⟨rfl, rfl⟩; rw [h1])
        go_ret2
        exact ⟨by rw [HE.out.1, HE.out.2]; rfl, HB.out⟩
      cases h2 : (⟨R k, I k⟩ : Gau).isIn 100
      · have h3 := HW.out (.inr h2)
        have HE := hide (show U = k ∧ V = 2 from ⟨HU.out.trans (HQ.out (by rw [h3]; decide)).2, HV.out.trans ((HQ.out (by rw [h3]; decide)).1.trans h3)⟩)
        rw [h2] at HIk
        clear HQ HN HW HR h3 hB
        go_wp2_with (go_at_call 7; refine (within_any _ _ _ _).mono ?_; rintro e w' ⟨rfl, rfl⟩; rw [h1])
        refine (HIk.out _).mono ?_
        rintro e w2 ⟨rfl, hb2⟩
        have HB2 := hide (HB.out.trans (hb2.mono hBs))
        clear hb2
        go_wp2_with fail
        go_ret2
        exact ⟨by rw [HE.out.1, HE.out.2]; rfl, HB2.out⟩
      rw [h2] at HIk
      have h3 := HR.out h1 h2
      clear HW HR hB
      go_wp2_with (go_at_call 7; refine (within_any _ _ _ _).mono ?_; rintro e w' ⟨rfl, rfl⟩; rw [h1])
      refine (HIk.out _).mono ?_
      rintro e w2 ⟨rfl, hb2⟩
      have HB2 := hide (HB.out.trans (hb2.mono hBs))
      clear hb2 c0 c1 c2
      rcases Nat.eq_zero_or_pos k with hk0 | hk0
      · have tk : decide ((k : Int) > 0) = false := decide_eq_false (by omega)
        have hd0 := (withinB_iff.1 h1).1
        have h4 : pathEs D R I k = 0 := by
          rw [h3]
          subst hk0
          rw [show decide (prevD D 0 < D 0) = true from decide_eq_true (by show (-1 : Int) < D 0; omega)]
          rfl
        have HN2 := hide (HN.out h4)
        clear HQ HN h3 h4 h1 h2 hd0
        go_wp2_with fail
        go_quiet (fail)
        go_wp2_with fail
        go_roundw
        case rel => exact ⟨k + 1, by omega, by go_num, HN2, Go.below_drewN HB2.out _⟩
        case measure => simp [Go.RowKit.intOf]; omega
      · obtain ⟨j, hj⟩ : ∃ j, k = j + 1 := ⟨k - 1, by omega⟩
        have tk : decide ((k : Int) > 0) = true := decide_eq_true (by omega)
        have p1 : IntKind.i64.wrap ((k : Int) - 1) = (j : Int) := by rw [show (k : Int) - 1 = (j : Int) by omega]; exact IntWalk.i64_in _ (by omega)
        have hjz : (j : Int) < (n : Int) := by omega
        obtain ⟨b', o', e', -, -, c0, -, -⟩ := (HI.out.below HB2.out) k hlt
        injection e' with e'
        injection e' with e1 e2
        subst e1
        subst e2
        obtain ⟨b', o', e', -, -, d0, -, -⟩ := (HI.out.below HB2.out) j (by omega)
        injection e' with e'
        injection e' with e1 e2
        subst e1
        subst e2
        have h4 : pathEs D R I k = unI (decide (D j < D k)) 9 := by rw [h3, hj]; rfl
        by_cases hd : D j < D k
        · have t1 : decide (D k ≤ D j) = false := decide_eq_false (by omega)
          have HN2 := hide (HN.out (by rw [h4, decide_eq_true hd]; rfl))
          clear HQ HN h3 h4 h1 h2 hj
          generalize D k = x at *
          generalize D j = y at *
          go_wp2_with fail
          go_quiet (fail)
          go_wp2_with fail
          go_roundw
          case rel => exact ⟨k + 1, by omega, by go_num, HN2, Go.below_drewN HB2.out _⟩
          case measure => simp [Go.RowKit.intOf]; omega
        · have t1 : decide (D k ≤ D j) = true := decide_eq_true (by omega)
          have h5 : pathEs D R I k = 9 := by rw [h4, decide_eq_false hd]; rfl
          have HE := hide (show U = k ∧ V = 9 from ⟨HU.out.trans (HQ.out (by rw [h5]; decide)).2, HV.out.trans ((HQ.out (by rw [h5]; decide)).1.trans h5)⟩)
          clear HQ HN h3 h4 h5 h1 h2 hj
          generalize D k = x at *
          generalize D j = y at *
          go_wp2_with fail
          go_quiet (fail)
          go_wp2_with fail
          go_ret2
          exact ⟨by rw [HE.out.1, HE.out.2]; rfl, Go.below_drewN HB2.out _⟩
    · obtain rfl : k = n := by omega
      have hltz : ¬ ((k : Int) < (k : Int)) := by omega
      have HE := hide (show U = 0 ∧ V = 0 from ⟨HU.out.trans (badI_zero HZ.out), HV.out.trans HZ.out⟩)
      have HB := hide hB
      clear HZ hB
      go_wp2_with fail
      go_ret2
      exact ⟨by rw [HE.out.1, HE.out.2]; rfl, HB.out⟩
end Go.Proofs.Ytcndeegfkgfnkaa
/- Samples behind paths: mathematics of Through. -/
namespace Go.Proofs.Ytcndeegfkgfnkaa
open Go.RowKit
theorem gN_prod_within {r i : Int} {x : Num} {M : Int} (hr : -100 ≤ r ∧ r ≤ 100) (hi : -100 ≤ i ∧ i ≤ 100) (hx : x.Within M) : ((gN r i).prod x).Within (200 * M) := by
  rw [gN_prod]
  have hy := hx.turns 2
  have e : (200 : Int) * M = 100 * M + 100 * M := by omega
  have s : ∀ {p q : Int}, -M ≤ p ∧ p ≤ M → -M ≤ q ∧ q ≤ M → -(200 * M) ≤ r * p + i * q ∧ r * p + i * q ≤ 200 * M := fun {p q} hp hq => by
    have h1 := mul_within hr hp
    have h2 := mul_within hi hq
    omega
  exact ⟨s hx.a hy.a, s hx.b hy.b, s hx.c hy.c, s hx.d hy.d⟩
/-- What the first j paths make of the samples X, at time n. -/
def thrTo (D R I : Nat → Int) (X : Nat → Num) : Nat → Nat → Num
  | 0, _ => Num.zero
  | j + 1, n => if D j ≤ (n : Int) then (thrTo D R I X j n).add ((gN (R j) (I j)).prod (X (n - (D j).toNat))) else thrTo D R I X j n
theorem thrTo_within {D R I : Nat → Int} {X : Nat → Num} {M : Int} (h0 : 0 ≤ M) {m : Nat} (hX : ∀ i, i < m → (X i).Within M) : ∀ {j : Nat}, (∀ q, q < j → -100 ≤ R q ∧ R q ≤ 100 ∧ -100 ≤ I q ∧ I q ≤ 100) → ∀ {n : Nat}, n < m → (thrTo D R I X j n).Within (j * (200 * M))
  | 0, _, n, _ => by
    have e : ((0 : Nat) : Int) * (200 * M) = 0 := by simp
    rw [e]
    show Num.zero.Within 0
    exact ⟨⟨by decide, by decide⟩, ⟨by decide, by decide⟩, ⟨by decide, by decide⟩, ⟨by decide, by decide⟩⟩
  | j + 1, h, n, hn => by
    obtain ⟨h1, h2, h3, h4⟩ := h j (Nat.lt_succ_self j)
    have ih := thrTo_within (D := D) h0 hX (j := j) (fun q hq => h q (by omega)) hn
    obtain ⟨q, hq⟩ : ∃ q : Int, q = (j : Int) * (200 * M) := ⟨_, rfl⟩
    have e : (((j + 1 : Nat)) : Int) * (200 * M) = q + 200 * M := by rw [hq, Int.natCast_succ, Int.add_mul, Int.one_mul]
    rw [← hq] at ih
    rw [e]
    unfold thrTo
    split
    · exact ih.add (gN_prod_within ⟨h1, h2⟩ ⟨h3, h4⟩ (hX _ (by omega)))
    · exact ih.more (by omega)
/-- The samples in the midst of path j, that has been added at the times below m. -/
def thrMid (D R I : Nat → Int) (X : Nat → Num) (j m n : Nat) : Num := if n < m then thrTo D R I X (j + 1) n else thrTo D R I X j n
theorem thrMid_start {D R I : Nat → Int} {X : Nat → Num} {j m n : Nat} (h : (m : Int) ≤ D j) : thrMid D R I X j m n = thrTo D R I X j n := by
  unfold thrMid
  split
  · show (if D j ≤ (n : Int) then _ else _) = _
    rw [if_neg (by omega)]
  · rfl
theorem thrMid_end {D R I : Nat → Int} {X : Nat → Num} {j m n : Nat} (h : n < m) : thrMid D R I X j m n = thrTo D R I X (j + 1) n := if_pos h
/-- Where a path's delay is behind the last sample it adds nothing. -/
theorem thrTo_late {D R I : Nat → Int} {X : Nat → Num} {j n : Nat} (h : (n : Int) < D j) : thrTo D R I X (j + 1) n = thrTo D R I X j n := by
  show (if D j ≤ (n : Int) then _ else _) = _
  rw [if_neg (by omega)]
theorem thrMid_at {D R I : Nat → Int} {X : Nat → Num} {j m : Nat} : thrMid D R I X j m m = thrTo D R I X j m := if_neg (Nat.lt_irrefl m)
theorem thrMid_step {D R I : Nat → Int} {X : Nat → Num} {j m : Nat} (h : D j ≤ (m : Int)) (n : Nat) : thrMid D R I X j (m + 1) n = setNum (thrMid D R I X j m) m ((thrTo D R I X j m).add ((gN (R j) (I j)).prod (X (m - (D j).toNat)))) n := by
  unfold setNum
  by_cases e : n = m
  · subst e
    rw [if_pos rfl, thrMid_end (Nat.lt_succ_self n)]
    show (if D j ≤ (n : Int) then _ else _) = _
    rw [if_pos h]
  · rw [if_neg e]
    unfold thrMid
    by_cases l : n < m
    · rw [if_pos l, if_pos (by omega)]
    · rw [if_neg l, if_neg (by omega)]
theorem chkE_right {n : Nat} {D R I : Nat → Int} (h : chkE n D R I = 0) : 0 < n ∧ n ≤ 6 ∧ ∀ j, j < n → (0 ≤ D j ∧ D j ≤ 7) ∧ (-100 ≤ R j ∧ R j ≤ 100) ∧ -100 ≤ I j ∧ I j ≤ 100 := by
  unfold chkE at h
  by_cases hl : lenE n = 0
  · rw [if_pos hl] at h
    refine ⟨lenE_zero hl, ?_, fun j hj => ?_⟩
    · unfold lenE at hl
      have := (firstE_nil (firstE_nil hl).2).1
      have := unI_zero (by decide) this
      have := of_decide_eq_true this
      omega
    · have h0 := badE_zero h j hj
      cases h1 : withinB (D j) 0 7 with
      | false => rw [pathEs_wrong (.inl h1)] at h0; exact absurd h0 (by decide)
      | true =>
        cases h2 : (⟨R j, I j⟩ : Gau).isIn 100 with
        | false => rw [pathEs_wrong (.inr h2)] at h0; exact absurd h0 (by decide)
        | true =>
          have h3 := withinB_iff.1 h1
          unfold Gau.isIn at h2
          simp only [Bool.and_eq_true, withinB_iff] at h2
          exact ⟨h3, h2.1, h2.2⟩
  · rw [if_neg hl] at h; exact absurd h hl
end Go.Proofs.Ytcndeegfkgfnkaa
