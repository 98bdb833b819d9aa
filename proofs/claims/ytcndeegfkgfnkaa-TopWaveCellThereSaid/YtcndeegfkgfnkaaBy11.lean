/- Lemmas: Oh, Oi, Aa, Oj, Ab, Ra, Rb. -/
import Derived.Laws.MakeOwn
import Derived.Laws.OwnMore
import Derived.OwnWalk
import Derived.Shelf.Abstract
import Derived.Test.YtcndeegfkgfnkaaBy01
import Derived.Test.YtcndeegfkgfnkaaBy04
import Derived.Test.YtcndeegfkgfnkaaBy10
set_option linter.unusedVariables false
set_option linter.unusedSimpArgs false
/- The theorem of offsets without a walk: pairs that are totally not below 0. -/
namespace Go.Proofs.Ytcndeegfkgfnkaa
open Go.RowKit
/-- p + q r, r r = 2, and p - q r are not below 0. -/
def TN (p q : Int) : Prop := 0 ≤ p ∧ 2 * (q * q) ≤ p * p
theorem sq_lt {x y : Int} (h : y < x) (hy : 0 ≤ y) : y * y < x * x := by
  have h2 : y * y ≤ y * x := Int.mul_le_mul_of_nonneg_left (by omega) hy
  have h3 : y * x < x * x := Int.mul_lt_mul_of_pos_right h (by omega)
  omega
theorem le_of_sq {x y : Int} (h : x * x ≤ y * y) (hy : 0 ≤ y) : x ≤ y ∧ -y ≤ x := by
  constructor
  · by_cases h1 : y < x
    · have h2 := sq_lt h1 hy
      omega
    · omega
  · by_cases h1 : y < -x
    · have h2 := sq_lt h1 hy
      rw [Int.neg_mul_neg] at h2
      omega
    · omega
theorem TN.cross {p q r s : Int} (h : TN p q) (k : TN r s) : 2 * (q * s) ≤ p * r ∧ -(p * r) ≤ 2 * (q * s) := by
  have h1 : (2 * (q * q)) * (2 * (s * s)) ≤ (p * p) * (r * r) := Int.mul_le_mul h.2 k.2 (by have := sq_nonneg s; omega) (sq_nonneg p)
  refine le_of_sq ?_ (Int.mul_nonneg h.1 k.1)
  have e1 : 2 * (q * s) * (2 * (q * s)) = (2 * (q * q)) * (2 * (s * s)) := by grind
  have e2 : p * r * (p * r) = (p * p) * (r * r) := by grind
  omega
theorem TN.add {p q r s : Int} (h : TN p q) (k : TN r s) : TN (p + r) (q + s) := by
  have hc := (h.cross k).1
  obtain ⟨h1, h2⟩ := h
  obtain ⟨k1, k2⟩ := k
  refine ⟨by omega, ?_⟩
  have e1 : 2 * ((q + s) * (q + s)) = 2 * (q * q) + 2 * (s * s) + 2 * (2 * (q * s)) := by grind
  have e2 : (p + r) * (p + r) = p * p + r * r + 2 * (p * r) := by grind
  omega
theorem TN.mul {p q r s : Int} (h : TN p q) (k : TN r s) : TN (p * r + 2 * (q * s)) (p * s + q * r) := by
  have hc := (h.cross k).2
  refine ⟨by omega, ?_⟩
  have h3 : 0 ≤ (p * p - 2 * (q * q)) * (r * r - 2 * (s * s)) := Int.mul_nonneg (by have := h.2; omega) (by have := k.2; omega)
  have e1 : (p * r + 2 * (q * s)) * (p * r + 2 * (q * s)) - 2 * ((p * s + q * r) * (p * s + q * r)) = (p * p - 2 * (q * q)) * (r * r - 2 * (s * s)) := by grind
  omega
theorem TN.zero : TN 0 0 := ⟨Int.le_refl _, by decide⟩
theorem sq_TN (x : Num) : TN x.sqP x.sqQ := ⟨sqP_nonneg x, sq_norm x⟩
/-- A real number as a number. -/
def realN (p q : Int) : Num := ⟨p, q, 0, -q⟩
/-- Twice the real part of a number times the conjugate of another. -/
def reP (x y : Num) : Int := 2 * (x.a * y.a + x.b * y.b + x.c * y.c + x.d * y.d)
def reQ (x y : Num) : Int := x.a * y.b + x.b * y.a + x.b * y.c + x.c * y.b + x.c * y.d + x.d * y.c - x.a * y.d - x.d * y.a
theorem sqP_add (x y : Num) : (x.add y).sqP = x.sqP + y.sqP + reP x y := by
  obtain ⟨a, b, c, d⟩ := x
  obtain ⟨e, f, g, h⟩ := y
  simp only [Num.add, Num.sqP, reP]
  grind
theorem sqQ_add (x y : Num) : (x.add y).sqQ = x.sqQ + y.sqQ + reQ x y := by
  obtain ⟨a, b, c, d⟩ := x
  obtain ⟨e, f, g, h⟩ := y
  simp only [Num.add, Num.sqQ, reQ]
  grind
theorem reP_turn (x y : Num) : reP x.turn y.turn = reP x y := by
  obtain ⟨a, b, c, d⟩ := x
  obtain ⟨e, f, g, h⟩ := y
  simp only [Num.turn, reP]
  grind
theorem reQ_turn (x y : Num) : reQ x.turn y.turn = reQ x y := by
  obtain ⟨a, b, c, d⟩ := x
  obtain ⟨e, f, g, h⟩ := y
  simp only [Num.turn, reQ]
  grind
theorem sqP_turn (x : Num) : x.turn.sqP = x.sqP := by
  obtain ⟨a, b, c, d⟩ := x
  simp only [Num.turn, Num.sqP]
  grind
theorem sqQ_turn (x : Num) : x.turn.sqQ = x.sqQ := by
  obtain ⟨a, b, c, d⟩ := x
  simp only [Num.turn, Num.sqQ]
  grind
theorem sq_turns (x : Num) : ∀ k, (x.turns k).sqP = x.sqP ∧ (x.turns k).sqQ = x.sqQ
  | 0 => ⟨rfl, rfl⟩
  | k + 1 => by
    obtain ⟨h1, h2⟩ := sq_turns x k
    exact ⟨(sqP_turn _).trans h1, (sqQ_turn _).trans h2⟩
theorem re_turns (x y : Num) : ∀ k, reP (x.turns k) (y.turns k) = reP x y ∧ reQ (x.turns k) (y.turns k) = reQ x y
  | 0 => ⟨rfl, rfl⟩
  | k + 1 => by
    obtain ⟨h1, h2⟩ := re_turns x y k
    exact ⟨(reP_turn _ _).trans h1, (reQ_turn _ _).trans h2⟩
/-- The squares of two real numbers, less what two turned ones have in common. -/
theorem pair_TN {p q r s : Int} (h : TN p q) (k : TN r s) (m : Nat) (hm : m < 8) :
    TN (2 * (p * r + 2 * (q * s)) - reP ((realN p q).turns m) (realN r s)) (2 * (p * s + q * r) - reQ ((realN p q).turns m) (realN r s)) := by
  have hpr := h.mul k
  have c0 := hpr.mul (show TN 0 0 from TN.zero)
  have c1 := hpr.mul (show TN 2 (-1) from ⟨by decide, by decide⟩)
  have c2 := hpr.mul (show TN 2 0 from ⟨by decide, by decide⟩)
  have c3 := hpr.mul (show TN 2 1 from ⟨by decide, by decide⟩)
  have c4 := hpr.mul (show TN 4 0 from ⟨by decide, by decide⟩)
  have hcase : ∀ {u v u' v' : Int}, TN u v → u = u' → v = v' → TN u' v' := fun h e1 e2 => e1 ▸ e2 ▸ h
  match m, hm with
  | 0, _ => exact hcase c0 (by simp only [Num.turns, Num.turn, realN, reP]; grind) (by simp only [Num.turns, Num.turn, realN, reQ]; grind)
  | 1, _ => exact hcase c1 (by simp only [Num.turns, Num.turn, realN, reP]; grind) (by simp only [Num.turns, Num.turn, realN, reQ]; grind)
  | 2, _ => exact hcase c2 (by simp only [Num.turns, Num.turn, realN, reP]; grind) (by simp only [Num.turns, Num.turn, realN, reQ]; grind)
  | 3, _ => exact hcase c3 (by simp only [Num.turns, Num.turn, realN, reP]; grind) (by simp only [Num.turns, Num.turn, realN, reQ]; grind)
  | 4, _ => exact hcase c4 (by simp only [Num.turns, Num.turn, realN, reP]; grind) (by simp only [Num.turns, Num.turn, realN, reQ]; grind)
  | 5, _ => exact hcase c3 (by simp only [Num.turns, Num.turn, realN, reP]; grind) (by simp only [Num.turns, Num.turn, realN, reQ]; grind)
  | 6, _ => exact hcase c2 (by simp only [Num.turns, Num.turn, realN, reP]; grind) (by simp only [Num.turns, Num.turn, realN, reQ]; grind)
  | 7, _ => exact hcase c1 (by simp only [Num.turns, Num.turn, realN, reP]; grind) (by simp only [Num.turns, Num.turn, realN, reQ]; grind)
end Go.Proofs.Ytcndeegfkgfnkaa
/- The theorem of offsets without a walk: sums of turned real numbers. -/
namespace Go.Proofs.Ytcndeegfkgfnkaa
open Go.RowKit
theorem turns_add (x : Num) (a : Nat) : ∀ b, (x.turns a).turns b = x.turns (a + b)
  | 0 => rfl
  | b + 1 => congrArg Num.turn (turns_add x a b)
theorem turns_8 (x : Num) : x.turns 8 = x := by
  obtain ⟨a, b, c, d⟩ := x
  simp only [Num.turns, Num.turn, Int.neg_neg]
theorem turns_more (x : Num) (k : Nat) : ∀ t, x.turns (k + 8 * t) = x.turns k
  | 0 => rfl
  | t + 1 => by
    rw [show k + 8 * (t + 1) = (k + 8 * t) + 8 by omega, ← turns_add, turns_8]
    exact turns_more x k t
theorem turns_mod (x : Num) (k : Nat) : x.turns k = x.turns (k % 8) := by
  have h := turns_more x (k % 8) (k / 8)
  rw [Nat.mod_add_div] at h
  exact h
theorem pair2_TN {p q r s : Int} (h : TN p q) (k : TN r s) (a b : Nat) (hb : b < 8) :
    TN (2 * (p * r + 2 * (q * s)) - reP ((realN p q).turns a) ((realN r s).turns b)) (2 * (p * s + q * r) - reQ ((realN p q).turns a) ((realN r s).turns b)) := by
  have e : (realN p q).turns a = ((realN p q).turns ((a + (8 - b)) % 8)).turns b := by
    rw [turns_add, turns_mod _ ((a + (8 - b)) % 8 + b), turns_mod _ a]
    congr 1
    omega
  rw [e, (re_turns _ _ b).1, (re_turns _ _ b).2]
  exact pair_TN h k _ (Nat.mod_lt _ (by decide))
def sumI (g : Nat → Int) : Nat → Int
  | 0 => 0
  | k + 1 => sumI g k + g k
/-- The sum of the first k real numbers, each turned. -/
def sumT (p q : Nat → Int) (m : Nat → Nat) : Nat → Num := sumF fun i => (realN (p i) (q i)).turns (m i)
theorem reP_add (x y z : Num) : reP (x.add y) z = reP x z + reP y z := by
  simp only [Num.add, reP]
  grind
theorem reQ_add (x y z : Num) : reQ (x.add y) z = reQ x z + reQ y z := by
  simp only [Num.add, reQ]
  grind
theorem cross_TN {p q : Nat → Int} {m : Nat → Nat} {r s : Int} (k : TN r s) (b : Nat) (hb : b < 8) : ∀ j, (∀ i, i < j → TN (p i) (q i)) →
    TN (2 * (sumI p j * r + 2 * (sumI q j * s)) - reP (sumT p q m j) ((realN r s).turns b)) (2 * (sumI p j * s + sumI q j * r) - reQ (sumT p q m j) ((realN r s).turns b))
  | 0, _ => by
    have e1 : reP (sumT p q m 0) ((realN r s).turns b) = 0 := by simp only [sumT, sumF, Num.zero, reP]; grind
    have e2 : reQ (sumT p q m 0) ((realN r s).turns b) = 0 := by simp only [sumT, sumF, Num.zero, reQ]; grind
    rw [e1, e2]
    simp only [sumI, Int.zero_mul]
    exact TN.zero
  | j + 1, h => by
    have ih := cross_TN (p := p) (q := q) (m := m) k b hb j fun i hi => h i (by omega)
    have hj := pair2_TN (h j (Nat.lt_succ_self j)) k (m j) b hb
    have hs := ih.add hj
    have e1 : sumT p q m (j + 1) = (sumT p q m j).add ((realN (p j) (q j)).turns (m j)) := rfl
    rw [e1, reP_add, reQ_add]
    generalize reP (sumT p q m j) ((realN r s).turns b) = u1 at *
    generalize reQ (sumT p q m j) ((realN r s).turns b) = u2 at *
    generalize reP ((realN (p j) (q j)).turns (m j)) ((realN r s).turns b) = v1 at *
    generalize reQ ((realN (p j) (q j)).turns (m j)) ((realN r s).turns b) = v2 at *
    have hc : ∀ {u v u' v' : Int}, TN u v → u = u' → v = v' → TN u' v' := fun h e1 e2 => e1 ▸ e2 ▸ h
    refine hc hs ?_ ?_
    · simp only [sumI]; grind
    · simp only [sumI]; grind
/-- The square of the sum, less that of the sum of turned ones. -/
def defP (p q : Nat → Int) (m : Nat → Nat) (k : Nat) : Int := sumI p k * sumI p k + 2 * (sumI q k * sumI q k) - (sumT p q m k).sqP
def defQ (p q : Nat → Int) (m : Nat → Nat) (k : Nat) : Int := 2 * (sumI p k * sumI q k) - (sumT p q m k).sqQ
theorem sqP_real (p q : Int) : (realN p q).sqP = p * p + 2 * (q * q) := by simp only [realN, Num.sqP]; grind
theorem sqQ_real (p q : Int) : (realN p q).sqQ = 2 * (p * q) := by simp only [realN, Num.sqQ]; grind
theorem def_step {p q : Nat → Int} {m : Nat → Nat} {j : Nat} (hm : m j < 8) (h : ∀ i, i ≤ j → TN (p i) (q i)) :
    ∃ u v, TN u v ∧ defP p q m (j + 1) = defP p q m j + u ∧ defQ p q m (j + 1) = defQ p q m j + v ∧ u = 2 * (sumI p j * p j + 2 * (sumI q j * q j)) - reP (sumT p q m j) ((realN (p j) (q j)).turns (m j)) := by
  refine ⟨_, _, cross_TN (p := p) (q := q) (m := m) (h j (Nat.le_refl _)) (m j) hm j (fun i hi => h i (by omega)), ?_, ?_, rfl⟩
  · unfold defP
    rw [show sumT p q m (j + 1) = (sumT p q m j).add ((realN (p j) (q j)).turns (m j)) from rfl, sqP_add, (sq_turns _ _).1, sqP_real]
    simp only [sumI]
    grind
  · unfold defQ
    rw [show sumT p q m (j + 1) = (sumT p q m j).add ((realN (p j) (q j)).turns (m j)) from rfl, sqQ_add, (sq_turns _ _).2, sqQ_real]
    simp only [sumI]
    grind
theorem def_TN {p q : Nat → Int} {m : Nat → Nat} : ∀ k, (∀ i, i < k → TN (p i) (q i) ∧ m i < 8) → TN (defP p q m k) (defQ p q m k)
  | 0, _ => by
    have e1 : defP p q m 0 = 0 := by simp only [defP, sumI, sumT, sumF, Num.zero, Num.sqP]; decide
    have e2 : defQ p q m 0 = 0 := by simp only [defQ, sumI, sumT, sumF, Num.zero, Num.sqQ]; decide
    rw [e1, e2]
    exact TN.zero
  | k + 1, h => by
    obtain ⟨u, v, h1, h2, h3, -⟩ := def_step (p := p) (q := q) (m := m) (j := k) (h k (by omega)).2 fun i hi => (h i (by omega)).1
    rw [h2, h3]
    exact (def_TN k fun i hi => h i (by omega)).add h1
theorem def_mono {p q : Nat → Int} {m : Nat → Nat} {a : Nat} : ∀ d, (∀ i, i < a + d → TN (p i) (q i) ∧ m i < 8) → defP p q m a ≤ defP p q m (a + d)
  | 0, _ => Int.le_refl _
  | d + 1, h => by
    obtain ⟨u, v, h1, h2, h3, -⟩ := def_step (p := p) (q := q) (m := m) (j := a + d) (h _ (by omega)).2 fun i hi => (h i (by omega)).1
    have ih := def_mono (p := p) (q := q) (m := m) (a := a) d fun i hi => h i (by omega)
    have := h1.1
    rw [← Nat.add_assoc, h2]
    omega
theorem refC_pos {p q : Int} (h : TN p q) (hp : 0 < p) : refC p q = 1 ∧ refC (-p) (-q) = -1 := by
  have h2 := h.2
  unfold refC
  rw [Int.neg_mul_neg, Int.neg_mul_neg]
  constructor
  · by_cases hq : 0 ≤ q
    · rw [if_pos ⟨by omega, hq⟩, if_neg (by omega)]
    · have hn := no_rootI (p := p) (q := q) (by omega)
      rw [if_neg (by omega), if_neg (by omega), cmpI_gt (show 2 * (q * q) < p * p by omega), if_pos (by simp; omega)]
  · by_cases hq : 0 ≤ q
    · rw [if_neg (by omega), if_pos (by omega)]
    · have hn := no_rootI (p := p) (q := q) (by omega)
      rw [if_neg (by omega), if_neg (by omega), cmpI_gt (show 2 * (q * q) < p * p by omega), if_neg (by simp; omega)]
end Go.Proofs.Ytcndeegfkgfnkaa
/- Transforms of eight points (without a walk): there and back. -/
namespace Go.Proofs.Ytcndeegfkgfnkaa
open Go.RowKit
/-- Turned by any number of eighths. -/
def tz (x : Num) (k : Int) : Num := x.turns (k % 8).toNat
theorem tz_nat (x : Num) (k : Nat) : tz x (k : Int) = x.turns k := by
  unfold tz
  rw [show ((k : Int) % 8).toNat = k % 8 by omega, ← turns_mod]
theorem tz_mod (x : Num) (k : Int) : tz x (k % 8) = tz x k := by
  unfold tz
  rw [show k % 8 % 8 = k % 8 by omega]
theorem tz_tz (x : Num) (a b : Int) : tz (tz x a) b = tz x (a + b) := by
  unfold tz
  rw [turns_add, turns_mod]
  congr 1
  omega
/-- The transform of eight numbers (their order turned back), and the samples of eight. -/
def dft (x : Nat → Num) (k : Int) : Num := sumF (fun n => tz (x n) (-(k * (n : Int)))) 8
def idft (x : Nat → Num) (n : Int) : Num := sumF (fun k => tz (x k) ((k : Int) * n)) 8
set_option maxHeartbeats 8000000 in
set_option maxRecDepth 100000 in
theorem back8 (e0 e1 e2 e3 e4 e5 e6 e7 : Num) : ∀ k : Nat, k < 8 →
    dft (fun n => idft (fun j => if j = 0 then e0 else if j = 1 then e1 else if j = 2 then e2 else if j = 3 then e3 else if j = 4 then e4 else if j = 5 then e5 else if j = 6 then e6 else e7) (n : Int)) (k : Int) = Num.times 8 (if k = 0 then e0 else if k = 1 then e1 else if k = 2 then e2 else if k = 3 then e3 else if k = 4 then e4 else if k = 5 then e5 else if k = 6 then e6 else e7) := by
  intro k hk
  obtain rfl | rfl | rfl | rfl | rfl | rfl | rfl | rfl : k = 0 ∨ k = 1 ∨ k = 2 ∨ k = 3 ∨ k = 4 ∨ k = 5 ∨ k = 6 ∨ k = 7 := by omega
  all_goals
    apply Num.same <;> (simp [dft, idft, sumF, tz, Num.turns, Num.turn, Num.add, Num.zero, Num.times]; omega)
end Go.Proofs.Ytcndeegfkgfnkaa
/- The theorem of offsets without a walk: what is turned on has its offset. -/
namespace Go.Proofs.Ytcndeegfkgfnkaa
open Go.RowKit
theorem TN.strict {p q : Int} (h : TN p q) (hp : 0 < p) : 2 * (q * q) < p * p := by
  by_cases hq : q = 0
  · subst hq
    have := Int.mul_pos hp hp
    omega
  · have hn := no_rootI (p := p) (q := q) hq
    have := h.2
    omega
theorem TN.mul_pos {p q r s : Int} (h : TN p q) (hp : 0 < p) (k : TN r s) (hr : 0 < r) : 0 < p * r + 2 * (q * s) := by
  have hc := (h.cross k).2
  have h1 := h.strict hp
  have hrr := Int.mul_pos hr hr
  have h2 : (2 * (q * q)) * (2 * (s * s)) ≤ (2 * (q * q)) * (r * r) := Int.mul_le_mul_of_nonneg_left k.2 (by have := sq_nonneg q; omega)
  have h3 : (2 * (q * q)) * (r * r) < (p * p) * (r * r) := Int.mul_lt_mul_of_pos_right h1 hrr
  by_cases e : p * r + 2 * (q * s) = 0
  · exfalso
    have e1 : (2 * (q * q)) * (2 * (s * s)) = (p * p) * (r * r) := by
      have e2 : 2 * (q * s) = -(p * r) := by omega
      have e3 : (2 * (q * q)) * (2 * (s * s)) = (2 * (q * s)) * (2 * (q * s)) := by grind
      rw [e3, e2]
      grind
    omega
  · omega
theorem pair_pos {p q r s : Int} (h : TN p q) (hp : 0 < p) (k : TN r s) (hr : 0 < r) (m : Nat) (hm : m < 8) (h0 : 0 < m) :
    0 < 2 * (p * r + 2 * (q * s)) - reP ((realN p q).turns m) (realN r s) := by
  have hpr := h.mul k
  have hps := h.mul_pos hp k hr
  have c1 := hpr.mul_pos hps (show TN 2 (-1) from ⟨by decide, by decide⟩) (by decide)
  have c2 := hpr.mul_pos hps (show TN 2 0 from ⟨by decide, by decide⟩) (by decide)
  have c3 := hpr.mul_pos hps (show TN 2 1 from ⟨by decide, by decide⟩) (by decide)
  have c4 := hpr.mul_pos hps (show TN 4 0 from ⟨by decide, by decide⟩) (by decide)
  have hcase : ∀ {u u' : Int}, 0 < u → u = u' → 0 < u' := fun h e1 => e1 ▸ h
  match m, hm, h0 with
  | 1, _, _ => exact hcase c1 (by simp only [Num.turns, Num.turn, realN, reP]; grind)
  | 2, _, _ => exact hcase c2 (by simp only [Num.turns, Num.turn, realN, reP]; grind)
  | 3, _, _ => exact hcase c3 (by simp only [Num.turns, Num.turn, realN, reP]; grind)
  | 4, _, _ => exact hcase c4 (by simp only [Num.turns, Num.turn, realN, reP]; grind)
  | 5, _, _ => exact hcase c3 (by simp only [Num.turns, Num.turn, realN, reP]; grind)
  | 6, _, _ => exact hcase c2 (by simp only [Num.turns, Num.turn, realN, reP]; grind)
  | 7, _, _ => exact hcase c1 (by simp only [Num.turns, Num.turn, realN, reP]; grind)
theorem pair2_pos {p q r s : Int} (h : TN p q) (hp : 0 < p) (k : TN r s) (hr : 0 < r) (a b : Nat) (ha : a < 8) (hb : b < 8) (hab : a ≠ b) :
    0 < 2 * (p * r + 2 * (q * s)) - reP ((realN p q).turns a) ((realN r s).turns b) := by
  have e : (realN p q).turns a = ((realN p q).turns ((a + (8 - b)) % 8)).turns b := by
    rw [turns_add, turns_mod _ ((a + (8 - b)) % 8 + b), turns_mod _ a]
    congr 1
    omega
  rw [e, (re_turns _ _ b).1]
  exact pair_pos h hp k hr _ (Nat.mod_lt _ (by decide)) (by omega)
theorem def2_pos {p q : Nat → Int} {m : Nat → Nat} (h0 : TN (p 0) (q 0)) (h1 : TN (p 1) (q 1)) (p0 : 0 < p 0) (p1 : 0 < p 1) (m0 : m 0 < 8) (m1 : m 1 < 8) (hm : m 0 ≠ m 1) : 0 < defP p q m 2 := by
  have hT : ∀ i, i < 1 → TN (p i) (q i) ∧ m i < 8 := fun i hi => by
    obtain rfl : i = 0 := by omega
    exact ⟨h0, m0⟩
  obtain ⟨u, v, -, e2, -, e4⟩ := def_step (p := p) (q := q) (m := m) (j := 1) m1 (fun i hi => by
    obtain rfl | rfl : i = 0 ∨ i = 1 := by omega
    · exact h0
    · exact h1)
  have hd := (def_TN (p := p) (q := q) (m := m) 1 hT).1
  have hp := pair2_pos h0 p0 h1 p1 (m 0) (m 1) m0 m1 hm
  have e5 : sumT p q m 1 = (realN (p 0) (q 0)).turns (m 0) := by
    show Num.zero.add ((realN (p 0) (q 0)).turns (m 0)) = _
    generalize (realN (p 0) (q 0)).turns (m 0) = y
    obtain ⟨a, b, c, d⟩ := y
    simp only [Num.zero, Num.add, Int.zero_add]
  rw [e5] at e4
  have e6 : sumI p 1 = p 0 := Int.zero_add _
  have e7 : sumI q 1 = q 0 := Int.zero_add _
  rw [e6, e7] at e4
  rw [show (2 : Nat) = 1 + 1 from rfl, e2]
  omega
/-- The square of a turned sum is less than that of the sum. -/
theorem def_pos {p q : Nat → Int} {m : Nat → Nat} {n : Nat} (hn : 2 ≤ n) (h : ∀ i, i < n → TN (p i) (q i) ∧ m i < 8) (p0 : 0 < p 0) (p1 : 0 < p 1) (hm : m 0 ≠ m 1) : TN (defP p q m n) (defQ p q m n) ∧ 0 < defP p q m n := by
  have h2 := def2_pos (h 0 (by omega)).1 (h 1 (by omega)).1 p0 p1 (h 0 (by omega)).2 (h 1 (by omega)).2 hm
  obtain ⟨d, rfl⟩ : ∃ d, n = 2 + d := ⟨n - 2, by omega⟩
  have h3 := def_mono (p := p) (q := q) (m := m) (a := 2) d h
  exact ⟨def_TN _ h, by omega⟩
theorem prod_turn (x y : Num) : x.prod y.turn = (x.prod y).turn := by
  obtain ⟨a, b, c, d⟩ := x
  obtain ⟨e, f, g, h⟩ := y
  apply Num.same
  all_goals
    simp only [Num.prod, Num.prodTo, Num.turns, Num.turn, Num.add, Num.times, Num.part, Num.zero] <;> first | (simp; done) | (simp; grind)
theorem prod_turns (x y : Num) : ∀ k, x.prod (y.turns k) = (x.prod y).turns k
  | 0 => rfl
  | k + 1 => (prod_turn x (y.turns k)).trans (congrArg Num.turn (prod_turns x y k))
theorem conj_prod (x : Num) : x.conj.prod x = realN x.sqP x.sqQ := by
  obtain ⟨a, b, c, d⟩ := x
  apply Num.same
  all_goals
    simp only [Num.conj, Num.prod, Num.prodTo, Num.turns, Num.turn, Num.add, Num.times, Num.part, Num.zero, realN, Num.sqP, Num.sqQ] <;> first | (simp; done) | (simp; grind)
theorem sqP_pos {x : Num} (h : x ≠ Num.zero) : 0 < x.sqP := by
  obtain ⟨a, b, c, d⟩ := x
  have h1 := sq_nonneg a
  have h2 := sq_nonneg b
  have h3 := sq_nonneg c
  have h4 := sq_nonneg d
  have hz : ∀ {z : Int}, z * z = 0 → z = 0 := fun h => by rcases Int.mul_eq_zero.1 h with e | e <;> exact e
  simp only [Num.sqP]
  by_cases e : a * a + b * b + c * c + d * d = 0
  · exfalso
    apply h
    rw [hz (z := a) (by omega), hz (z := b) (by omega), hz (z := c) (by omega), hz (z := d) (by omega)]
    rfl
  · omega
/-- Samples turned on, times the conjugates of the known ones, are real numbers turned on. -/
theorem offP_shift (F : Nat → Num) (e : Int) (i : Nat) : offP F (shiftN F e) i = (realN (F i).sqP (F i).sqQ).turns ((e * (i : Int)) % 8).toNat := by
  unfold offP shiftN
  rw [prod_turns, conj_prod]
theorem sumF_congr {F G : Nat → Num} : ∀ {n : Nat}, (∀ i, i < n → F i = G i) → sumF F n = sumF G n
  | 0, _ => rfl
  | n + 1, h => by
    show (sumF F n).add (F n) = (sumF G n).add (G n)
    rw [sumF_congr fun i hi => h i (by omega), h n (Nat.lt_succ_self n)]
/-- By how much the place i is turned, if samples turned on by e are turned back by f. -/
def offM (e f : Int) (i : Nat) : Nat := (((e - f) * (i : Int)) % 8).toNat
theorem offM_lt (e f : Int) (i : Nat) : offM e f i < 8 := by
  unfold offM
  have h1 := Int.emod_nonneg ((e - f) * (i : Int)) (show (8 : Int) ≠ 0 by decide)
  have h2 := Int.emod_lt_of_pos ((e - f) * (i : Int)) (show (0 : Int) < 8 by decide)
  omega
theorem offS_shift (F : Nat → Num) (e : Int) (n f : Nat) : offS (offP F (shiftN F e)) n f = sumT (fun i => (F i).sqP) (fun i => (F i).sqQ) (offM e f) n := by
  unfold offS sumT
  refine sumF_congr fun i _ => ?_
  show ((offP F (shiftN F e) i).turns ((-(f : Int) * (i : Int)) % 8).toNat) = (realN (F i).sqP (F i).sqQ).turns (offM e f i)
  rw [offP_shift, turns_add, turns_mod]
  congr 1
  unfold offM
  rw [Int.sub_mul, Int.neg_mul]
  generalize e * (i : Int) = u
  generalize (f : Int) * (i : Int) = v
  omega
/-- Without a turn the sum is real, and its square is that of the sum. -/
theorem sumT_plain {p q : Nat → Int} {m : Nat → Nat} : ∀ n, (∀ i, i < n → m i = 0) → sumT p q m n = realN (sumI p n) (sumI q n)
  | 0, _ => rfl
  | n + 1, h => by
    show (sumT p q m n).add ((realN (p n) (q n)).turns (m n)) = _
    rw [sumT_plain n fun i hi => h i (by omega), h n (Nat.lt_succ_self n)]
    show (realN (sumI p n) (sumI q n)).add (realN (p n) (q n)) = realN (sumI p n + p n) (sumI q n + q n)
    simp only [realN, Num.add]
    apply Num.same
    all_goals first | rfl | (simp only []; omega)
end Go.Proofs.Ytcndeegfkgfnkaa
/- The channel is a product (without a walk): what paths make of the samples of a symbol, transformed, is eight times the response times the entry. -/
namespace Go.Proofs.Ytcndeegfkgfnkaa
open Go.RowKit
theorem prod_comm (x y : Num) : x.prod y = y.prod x := by
  obtain ⟨a, b, c, d⟩ := x
  obtain ⟨e, f, g, h⟩ := y
  apply Num.same <;> (simp [Num.prod, Num.prodTo, Num.part, Num.turns, Num.turn, Num.add, Num.zero, Num.times]; grind)
theorem prod_add (x y z : Num) : x.prod (y.add z) = (x.prod y).add (x.prod z) := by
  obtain ⟨a, b, c, d⟩ := x
  obtain ⟨e, f, g, h⟩ := y
  obtain ⟨i, j, k, l⟩ := z
  apply Num.same <;> (simp [Num.prod, Num.prodTo, Num.part, Num.turns, Num.turn, Num.add, Num.zero, Num.times]; grind)
theorem prod_zero (x : Num) : x.prod Num.zero = Num.zero := by
  obtain ⟨a, b, c, d⟩ := x
  apply Num.same <;> simp [Num.prod, Num.prodTo, Num.part, Num.turns, Num.turn, Num.add, Num.zero, Num.times]
theorem add_comm4 (x y u v : Num) : (x.add y).add (u.add v) = (x.add u).add (y.add v) := by
  apply Num.same <;> (simp [Num.add]; omega)
theorem prod_tz (x y : Num) (k : Int) : x.prod (tz y k) = tz (x.prod y) k := prod_turns x y _
theorem tz_prod (x y : Num) (k : Int) : (tz x k).prod y = tz (x.prod y) k := by rw [prod_comm, prod_tz, prod_comm]
theorem turn_add (x y : Num) : (x.add y).turn = x.turn.add y.turn := by apply Num.same <;> (simp [Num.add, Num.turn]; try omega)
theorem turns_add2 (x y : Num) : ∀ k, (x.add y).turns k = (x.turns k).add (y.turns k)
  | 0 => rfl
  | k + 1 => by
    show ((x.add y).turns k).turn = (x.turns k).turn.add (y.turns k).turn
    rw [turns_add2 x y k, turn_add]
theorem tz_add (x y : Num) (k : Int) : tz (x.add y) k = (tz x k).add (tz y k) := turns_add2 x y _
theorem turns_zero : ∀ k, Num.zero.turns k = Num.zero
  | 0 => rfl
  | k + 1 => by show (Num.zero.turns k).turn = _; rw [turns_zero k]; rfl
theorem prod_sumF (x : Num) (F : Nat → Num) : ∀ n, x.prod (sumF F n) = sumF (fun i => x.prod (F i)) n
  | 0 => prod_zero x
  | n + 1 => by
    show x.prod ((sumF F n).add (F n)) = _
    rw [prod_add, prod_sumF x F n]
    rfl
theorem sumF_prod (x : Num) (F : Nat → Num) (n : Nat) : (sumF F n).prod x = sumF (fun i => (F i).prod x) n := by
  rw [prod_comm, prod_sumF]
  exact sumF_congr fun i _ => prod_comm _ _
theorem tz_sumF (F : Nat → Num) (k : Int) : ∀ n, tz (sumF F n) k = sumF (fun i => tz (F i) k) n
  | 0 => turns_zero _
  | n + 1 => by
    show tz ((sumF F n).add (F n)) k = _
    rw [tz_add, tz_sumF F k n]
    rfl
theorem sumF_add (F G : Nat → Num) : ∀ n, (sumF F n).add (sumF G n) = sumF (fun i => (F i).add (G i)) n
  | 0 => rfl
  | n + 1 => by
    show ((sumF F n).add (F n)).add ((sumF G n).add (G n)) = _
    rw [add_comm4, sumF_add F G n]
    rfl
/-- Sums are exchanged. -/
theorem sumF_swap (F : Nat → Nat → Num) (m : Nat) : ∀ n, sumF (fun i => sumF (fun j => F i j) m) n = sumF (fun j => sumF (fun i => F i j) n) m
  | 0 => by
    show Num.zero = _
    induction m with
    | zero => rfl
    | succ m ih =>
      show Num.zero = (sumF (fun j => sumF (fun i => F i j) 0) m).add Num.zero
      rw [← ih]
      rfl
  | n + 1 => by
    show (sumF (fun i => sumF (fun j => F i j) m) n).add (sumF (fun j => F n j) m) = _
    rw [sumF_swap F m n, sumF_add]
    rfl
/-- There and back, of any eight numbers. -/
theorem dft_idft (E : Nat → Num) (k : Nat) (hk : k < 8) : dft (fun n => idft E (n : Int)) (k : Int) = Num.times 8 (E k) := by
  have h := back8 (E 0) (E 1) (E 2) (E 3) (E 4) (E 5) (E 6) (E 7) k hk
  have e : ∀ j, j < 8 → (if j = 0 then E 0 else if j = 1 then E 1 else if j = 2 then E 2 else if j = 3 then E 3 else if j = 4 then E 4 else if j = 5 then E 5 else if j = 6 then E 6 else E 7) = E j := fun j hj => by
    obtain rfl | rfl | rfl | rfl | rfl | rfl | rfl | rfl : j = 0 ∨ j = 1 ∨ j = 2 ∨ j = 3 ∨ j = 4 ∨ j = 5 ∨ j = 6 ∨ j = 7 := by omega
    all_goals rfl
  rw [e k hk] at h
  rw [← h]
  unfold dft idft
  refine sumF_congr fun n _ => ?_
  congr 1
theorem idft_shift (E : Nat → Num) (n d : Int) : idft E (n - d) = idft (fun m => tz (E m) (-((m : Int) * d))) n := by
  unfold idft
  refine sumF_congr fun m _ => ?_
  show tz (E m) _ = tz (tz (E m) _) _
  rw [tz_tz, show (m : Int) * (n - d) = -((m : Int) * d) + (m : Int) * n by grind]
theorem prod_idft (g : Num) (E : Nat → Num) (n : Int) : g.prod (idft E n) = idft (fun m => g.prod (E m)) n := by
  unfold idft
  rw [prod_sumF]
  exact sumF_congr fun m _ => prod_tz _ _ _
theorem sum_idft (E : Nat → Nat → Num) (p : Nat) (n : Int) : sumF (fun i => idft (E i) n) p = idft (fun m => sumF (fun i => E i m) p) n := by
  unfold idft
  rw [sumF_swap (fun i m => tz (E i m) ((m : Int) * n)) 8 p]
  exact sumF_congr fun m _ => (tz_sumF (fun i => E i m) _ p).symm
theorem times_prod (n : Int) (x y : Num) : Num.times n (x.prod y) = x.prod (Num.times n y) := by
  obtain ⟨a, b, c, d⟩ := x
  obtain ⟨e, f, g, h⟩ := y
  apply Num.same <;> (simp [Num.prod, Num.prodTo, Num.part, Num.turns, Num.turn, Num.add, Num.zero, Num.times]; grind)
/-- THE CHANNEL IS A PRODUCT. -/
theorem channel_product (G : Nat → Num) (D : Nat → Int) (E : Nat → Num) (p k : Nat) (hk : k < 8) :
    dft (fun n => sumF (fun i => (G i).prod (idft E ((n : Int) - D i))) p) (k : Int) = (sumF (fun i => tz (G i) (-(k : Int) * D i)) p).prod (Num.times 8 (E k)) := by
  have e : (fun n : Nat => sumF (fun i => (G i).prod (idft E ((n : Int) - D i))) p) = fun n : Nat => idft (fun m => sumF (fun i => (G i).prod (tz (E m) (-((m : Int) * D i)))) p) (n : Int) := by
    funext n
    rw [← sum_idft]
    exact sumF_congr fun i _ => by rw [idft_shift, prod_idft]
  rw [e, dft_idft _ k hk, ← times_prod, sumF_prod]
  congr 1
  refine sumF_congr fun i _ => ?_
  rw [prod_tz, tz_prod, show -(k : Int) * D i = -((k : Int) * D i) by grind]
end Go.Proofs.Ytcndeegfkgfnkaa
/- Whole complex numbers of chapter 4 in memory: slices of structs of two cells, those of the call's own, an append to one. -/
namespace Go.Proofs.Ytcndeegfkgfnkaa
open Go.RowKit
/-- A whole complex number. -/
structure Gau where
  re : Int
  im : Int
theorem Gau.same {x y : Gau} (h1 : x.re = y.re) (h2 : x.im = y.im) : x = y := by
  cases x; cases y; simp_all
def Gau.zero : Gau := ⟨0, 0⟩
def Gau.part (x : Gau) (i : Nat) : Int := if i = 0 then x.re else x.im
/-- No part is greater in size than M. -/
structure Gau.Within (M : Int) (x : Gau) : Prop where
  re : -M ≤ x.re ∧ x.re ≤ M
  im : -M ≤ x.im ∧ x.im ≤ M
def Gau.isIn (M : Int) (x : Gau) : Bool := withinB x.re (-M) M && withinB x.im (-M) M
theorem Gau.isIn_iff {M : Int} {x : Gau} : x.isIn M = true ↔ x.Within M := by
  unfold Gau.isIn
  simp only [Bool.and_eq_true, withinB_iff]
  exact ⟨fun ⟨h1, h2⟩ => ⟨h1, h2⟩, fun ⟨h1, h2⟩ => ⟨h1, h2⟩⟩
def Gau.err (x : Gau) (M : Int) : Int := unI (x.isIn M) 2
theorem Gau.err_zero {M : Int} {x : Gau} (h : x.err M = 0) : x.Within M := by
  unfold Gau.err unI at h
  by_cases hb : x.isIn M = true
  · exact Gau.isIn_iff.1 hb
  · rw [if_neg hb] at h; exact absurd h (by decide)
theorem Gau.Within.more {M N : Int} {x : Gau} (h : x.Within M) (hm : M ≤ N) : x.Within N := ⟨by have := h.re; omega, by have := h.im; omega⟩
def GausAt (w : World) (lo : Nat) (A : Option Addr) (n : Nat) (F : Nat → Gau) : Prop :=
  ∀ i, i < n → ∃ b o, A = some ⟨b, o, none⟩ ∧ lo ≤ b ∧ b < w.heap.size ∧ w.cell? ⟨b, o + i * 2, none⟩ = some (.int .i64 (F i).re) ∧ w.cell? ⟨b, o + i * 2 + 1, none⟩ = some (.int .i64 (F i).im)
section
variable {w w' : World} {lo n : Nat} {A : Option Addr} {F : Nat → Gau}
theorem GausAt.nil_ : GausAt w lo A 0 F := fun i h => absurd h (Nat.not_lt_zero i)
theorem GausAt.below (h : GausAt w lo A n F) (hb : Below w.heap.size w w') : GausAt w' lo A n F := fun i hi => by
  obtain ⟨b, o, e, h1, h2, h3, h4⟩ := h i hi
  exact ⟨b, o, e, h1, Nat.lt_of_lt_of_le h2 hb.size, (hb.cell (p := ⟨b, _, none⟩) h2).trans h3, (hb.cell (p := ⟨b, _, none⟩) h2).trans h4⟩
theorem GausAt.alloc (h : GausAt w lo A n F) (x : Obj) : GausAt (w.alloc x) lo A n F := h.below ((Below.refl _ _).alloc (Nat.le_refl _) _)
theorem GausAt.drewN (h : GausAt w lo A n F) (m : Nat) : GausAt (w.drewN m) lo A n F := h
theorem GausAt.weak {lo' : Nat} (h : GausAt w lo A n F) (hl : lo' ≤ lo) : GausAt w lo' A n F := fun i hi => by
  obtain ⟨b, o, e, h1, h2⟩ := h i hi
  exact ⟨b, o, e, Nat.le_trans hl h1, h2⟩
theorem GausAt.congr {G : Nat → Gau} (h : GausAt w lo A n F) (e : ∀ i, i < n → F i = G i) : GausAt w lo A n G := fun i hi => by
  rw [← e i hi]; exact h i hi
theorem GausAt.fewer {m : Nat} (h : GausAt w lo A n F) (hm : m ≤ n) : GausAt w lo A m F := fun i hi => h i (Nat.lt_of_lt_of_le hi hm)
theorem GausAt.one {b : Nat} {x : Gau} {t : TypeId} (h : Box w b t #[.int .i64 x.re, .int .i64 x.im]) : GausAt w 0 (some ⟨b, 0, none⟩) 1 (fun _ => x) := fun i hi => by
  obtain rfl : i = 0 := by omega
  exact ⟨b, 0, rfl, Nat.zero_le _, h.lt, h.at_ 0, h.at_ 1⟩
end
/-- The error of n numbers of size M at most. -/
def gausE (M : Int) (F : Nat → Gau) (n : Nat) : Int := badE (fun j => (F j).err M) n
theorem gausE_within {M : Int} {F : Nat → Gau} : ∀ {n : Nat}, gausE M F n = 0 → ∀ j, j < n → (F j).Within M
  | 0, _, j, hj => absurd hj (Nat.not_lt_zero _)
  | n + 1, h, j, hj => by
    unfold gausE badE at h
    by_cases h1 : badE (fun j => (F j).err M) n = 0
    · rw [if_pos h1] at h
      rcases Nat.lt_or_ge j n with h2 | h2
      · exact gausE_within h1 j h2
      · obtain rfl : j = n := by omega
        exact Gau.err_zero h
    · rw [if_neg h1] at h; exact absurd h h1
theorem gausE_cases (M : Int) (F : Nat → Gau) : ∀ n, gausE M F n = 0 ∨ gausE M F n = 2
  | 0 => .inl rfl
  | n + 1 => by
    rcases gausE_cases M F n with h | h
    · have h' : badE (fun j => (F j).err M) n = 0 := h
      unfold gausE badE
      rw [if_pos h']
      show (F n).err M = 0 ∨ (F n).err M = 2
      unfold Gau.err unI
      cases (F n).isIn M
      · exact .inr rfl
      · exact .inl rfl
    · have h' : badE (fun j => (F j).err M) n = 2 := h
      have h2 : ¬ badE (fun j => (F j).err M) n = 0 := by rw [h']; decide
      unfold gausE badE
      rw [if_neg h2]
      exact .inr h'
def gauVals (n : Nat) (F : Nat → Gau) : List Value := (List.range (n * 2)).map fun j => Value.int .i64 ((F (j / 2)).part (j % 2))
theorem gauVals_len (n : Nat) (F : Nat → Gau) : (gauVals n F).length = n * 2 := by simp [gauVals]
theorem gauVals_get (n : Nat) (F : Nat → Gau) (j : Nat) : (gauVals n F)[j]? = if j < n * 2 then some (.int .i64 ((F (j / 2)).part (j % 2))) else none := by
  unfold gauVals
  by_cases h : j < n * 2
  · rw [if_pos h]; simp [h]
  · rw [if_neg h, List.getElem?_eq_none (by simp; omega)]
theorem gauVals_congr {n : Nat} {F G : Nat → Gau} (h : ∀ j, j < n → F j = G j) : gauVals n F = gauVals n G := by
  unfold gauVals
  exact List.map_congr_left fun j hj => by
    have := List.mem_range.1 hj
    rw [h (j / 2) (by omega)]
def setGau (F : Nat → Gau) (k : Nat) (x : Gau) (j : Nat) : Gau := if j = k then x else F j
/-- A slice of the call's own, of n numbers F, in a block that is not ahead of base. -/
def OwnGaus (w : World) (base : Nat) (v : Value) (n : Nat) (F : Nat → Gau) : Prop := w.ownsRow base 39 2 v n (gauVals n F)
theorem OwnGaus.congr {w : World} {base n : Nat} {v : Value} {F G : Nat → Gau} (h : OwnGaus w base v n F) (e : ∀ j, j < n → F j = G j) : OwnGaus w base v n G := by
  unfold OwnGaus at h ⊢
  rwa [← gauVals_congr e]
theorem OwnGaus.drew {w : World} {base n : Nat} {v : Value} {F : Nat → Gau} (h : OwnGaus w base v n F) : OwnGaus w.drew base v n F := h
theorem OwnGaus.drewN {w : World} {base n : Nat} {v : Value} {F : Nat → Gau} (h : OwnGaus w base v n F) (q : Nat) : OwnGaus (w.drewN q) base v n F := h
theorem OwnGaus.alloc {w : World} {base n : Nat} {v : Value} {F : Nat → Gau} (h : OwnGaus w base v n F) (o : Obj) : OwnGaus (w.alloc o) base v n F := World.ownsRow.alloc h o
theorem OwnGaus.below {w w' : World} {base n : Nat} {v : Value} {F : Nat → Gau} (h : OwnGaus w base v n F) (hb : Below w.heap.size w w') : OwnGaus w' base v n F :=
  World.ownsRow.kept h (row := none) ⟨hb.os, hb.tape, hb.output, hb.size, fun k hk _ => hb.block k hk⟩ (by cases v.ownBlock <;> simp)
theorem OwnGaus.weak {w : World} {base base' n : Nat} {v : Value} {F : Nat → Gau} (h : OwnGaus w base v n F) (hb : base' ≤ base) : OwnGaus w base' v n F :=
  ⟨h.1, h.2.elim Or.inl (fun ⟨g, cap, cur, hv, hg, r⟩ => Or.inr ⟨g, cap, cur, hv, Nat.le_trans hb hg, r⟩)⟩
theorem OwnGaus.lt {w : World} {base n g c : Nat} {F : Nat → Gau} (h : OwnGaus w base (.slice (some ⟨g, 0, none⟩) n c) n F) : base ≤ g ∧ g < w.heap.size := World.ownsRow.lt h g rfl
theorem OwnGaus.part {w : World} {base n g c : Nat} {F : Nat → Gau} (h : OwnGaus w base (.slice (some ⟨g, 0, none⟩) n c) n F) {k i : Nat} (hk : k < n) (hi : i < 2) : w.cell? ⟨g, k * 2 + i, none⟩ = some (.int .i64 ((F k).part i)) := by
  rw [World.ownsRow.cellAt h (k * 2 + i) (by omega), gauVals_get, if_pos (by omega), show (k * 2 + i) / 2 = k by omega, show (k * 2 + i) % 2 = i by omega]
theorem OwnGaus.cells {w : World} {base n g c : Nat} {F : Nat → Gau} (h : OwnGaus w base (.slice (some ⟨g, 0, none⟩) n c) n F) {k : Nat} (hk : k < n) :
    w.cell? ⟨g, k * 2, none⟩ = some (.int .i64 (F k).re) ∧ w.cell? ⟨g, k * 2 + 1, none⟩ = some (.int .i64 (F k).im) :=
  ⟨h.part hk (show 0 < 2 by decide), h.part hk (show 1 < 2 by decide)⟩
theorem OwnGaus.frozen {w : World} {base n g c : Nat} {F : Nat → Gau} (h : OwnGaus w base (.slice (some ⟨g, 0, none⟩) n c) n F) (k : Nat) : w.frozen? ⟨g, k, none⟩ = false := World.ownsRow.frozenAt h k
theorem OwnGaus.frozen2 {w : World} {base n g c : Nat} {F : Nat → Gau} (h : OwnGaus w base (.slice (some ⟨g, 0, none⟩) n c) n F) (k : Nat) : w.frozen? ⟨g, k * 2, none⟩ = false ∧ w.frozen? ⟨g, k * 2 + 1, none⟩ = false := ⟨h.frozen _, h.frozen _⟩
theorem OwnGaus.gaus {w : World} {base n c : Nat} {A : Option Addr} {F : Nat → Gau} (h : OwnGaus w base (.slice A n c) n F) : GausAt w base A n F := fun i hi => by
  rcases h.2 with ⟨e, hx⟩ | ⟨g, cap, cur, e, hb, hg, hnc, hm, hsz, htake⟩
  · omega
  · injection e with e1 e2 e3
    subst e1
    have h' : OwnGaus w base (.slice (some ⟨g, 0, none⟩) n c) n F := h
    obtain ⟨k0, k1⟩ := h'.cells hi
    exact ⟨g, 0, rfl, hb, (Array.getElem?_eq_some_iff.1 hg).1, by rwa [Nat.zero_add], by rwa [Nat.zero_add]⟩
theorem OwnGaus.other {w : World} {base n : Nat} {v : Value} {F : Nat → Gau} (h : OwnGaus w base v n F) {k : Nat} (o : Nat) (u : Value) (hk : v.ownBlock ≠ some k) : OwnGaus (w.setCell ⟨k, o, none⟩ u) base v n F := by
  refine World.ownsRow.kept h (row := some k) ⟨rfl, rfl, rfl, by simp, fun j _ hj => heap_setCell_other w ⟨k, o, none⟩ j u (fun e => hj (by simp [e]))⟩ (.inr hk)
theorem OwnGaus.put {w : World} {base n g c : Nat} {F : Nat → Gau} (h : OwnGaus w base (.slice (some ⟨g, 0, none⟩) n c) n F) (k : Nat) (x : Gau) :
    OwnGaus ((w.setCell ⟨g, k * 2, none⟩ (.int .i64 x.re)).setCell ⟨g, k * 2 + 1, none⟩ (.int .i64 x.im)) base (.slice (some ⟨g, 0, none⟩) n c) n (setGau F k x) := by
  have h1 := (World.ownsRow.stored (World.ownsRow.stored h (k * 2) (.int .i64 x.re)).1 (k * 2 + 1) (.int .i64 x.im)).1
  have e : ((gauVals n F).set (k * 2) (.int .i64 x.re)).set (k * 2 + 1) (.int .i64 x.im) = gauVals n (setGau F k x) := by
    apply List.ext_getElem?
    intro j
    simp only [List.getElem?_set, List.length_set, gauVals_len, gauVals_get]
    by_cases hj : j < n * 2
    · have hd := Nat.div_add_mod j 2
      rw [if_pos hj]
      by_cases hk : j / 2 = k
      · have hs : setGau F k x (j / 2) = x := by unfold setGau; rw [if_pos hk]
        have hlt := Nat.mod_lt j (show 0 < 2 by decide)
        rw [hs, if_pos hj]
        obtain e | e : j % 2 = 0 ∨ j % 2 = 1 := by omega
        · rw [if_neg (by omega), if_pos (by omega), if_pos (by omega), e]; rfl
        · rw [if_pos (by omega), if_pos (by omega), e]; rfl
      · have hs : setGau F k x (j / 2) = F (j / 2) := by unfold setGau; rw [if_neg hk]
        rw [hs, if_neg (by omega), if_neg (by omega), if_pos hj]
    · rw [if_neg hj]
      simp only [if_neg hj]
      repeat' split
      all_goals first | rfl | omega
  rw [e] at h1
  exact h1
theorem Below.put2at {B c o : Nat} {w W : World} (h : Below B w W) (hc : B ≤ c) (u0 u1 : Value) : Below B w ((W.setCell ⟨c, o, none⟩ u0).setCell ⟨c, o + 1, none⟩ u1) := (h.setCell hc u0).setCell hc u1
theorem OwnGaus.made (w : World) (base g f : Nat) (hb : base ≤ w.heap.size) (hg : g = w.heap.size) (hf : f ≤ maxLen) : OwnGaus (w.alloc (.cells (madeCells #[.int .i64 0, .int .i64 0] (f * 2)) 39)) base (.slice (some ⟨g, 0, none⟩) f f) f (fun _ => Gau.zero) :=
  hg ▸ ⟨by rw [gauVals_len], .inr ⟨w.heap.size, f, _, rfl, hb, heap_alloc_new w _, Nat.le_refl _, hf, by simp [madeCells], by
    apply List.ext_getElem?
    intro j
    rw [gauVals_get]
    have hlt := Nat.mod_lt j (show 0 < 2 by decide)
    by_cases hj : j < f * 2
    · rw [if_pos hj]
      obtain e | e : j % 2 = 0 ∨ j % 2 = 1 := by omega
      all_goals (simp [madeCells, hj, e, Gau.part, Gau.zero])
    · rw [if_neg hj]; simp [madeCells]; omega⟩⟩
theorem gauInfo : (Try.prog.info? 39).map (fun i => (i.zero, i.size, i.bytes)) = some (some (.agg #[.int .i64 0, .int .i64 0]), 2, 16) := by kernel_rfl
/-- F, and then G. -/
def catG (n : Nat) (F G : Nat → Gau) : Nat → Gau := fun j => if j < n then F j else G (j - n)
theorem gauVals_cat (n m : Nat) (F G : Nat → Gau) : gauVals n F ++ gauVals m G = gauVals (n + m) (catG n F G) := by
  apply List.ext_getElem?
  intro j
  rw [List.getElem?_append, gauVals_len, gauVals_get, gauVals_get, gauVals_get]
  unfold catG
  by_cases h1 : j < n * 2
  · rw [if_pos h1, if_pos h1, if_pos (by omega), if_pos (by omega)]
  · rw [if_neg h1]
    by_cases h2 : j - n * 2 < m * 2
    · rw [if_pos h2, if_pos (by omega), if_neg (by omega), show (j - n * 2) / 2 = j / 2 - n by omega, show (j - n * 2) % 2 = j % 2 by omega]
    · rw [if_neg h2, if_neg (by omega)]
theorem ownGaus_nil (w : World) (base : Nat) (F : Nat → Gau) : OwnGaus w base (.slice none 0 0) 0 F := World.ownsRow_nil _ _ _ _
theorem OwnGaus.empty (w : World) (g : Nat) (hg : g = w.heap.size) (F : Nat → Gau) : OwnGaus (w.alloc (.cells #[] 39)) w.heap.size (.slice (some ⟨g, 0, none⟩) 0 0) 0 F := by
  subst hg
  exact World.ownsRow_made w #[] 0 (Nat.le_refl _) (by decide) rfl
theorem ownGaus_form {w : World} {base n : Nat} {v : Value} {F : Nat → Gau} (h : OwnGaus w base v n F) : ∃ A c, v = .slice A n c ∧ n ≤ c ∧ GausAt w base A n F := by
  rcases h.2 with ⟨rfl, hx⟩ | ⟨g, cap, cur, rfl, hb, hg, hnc, hm, hsz, htake⟩
  · subst hx
    exact ⟨_, _, rfl, Nat.le_refl _, GausAt.nil_⟩
  · exact ⟨_, _, rfl, hnc, OwnGaus.gaus h⟩
theorem GausAt.part {w : World} {lo n : Nat} {A : Option Addr} {F : Nat → Gau} (h : GausAt w lo A n F) {j : Nat} (hj : j < n * 2) : ∃ b o, A = some ⟨b, o, none⟩ ∧ w.cell? ⟨b, o + j, none⟩ = some (.int .i64 ((F (j / 2)).part (j % 2))) := by
  obtain ⟨b, o, rfl, -, -, h0, h1⟩ := h (j / 2) (by omega)
  refine ⟨b, o, rfl, ?_⟩
  have hlt := Nat.mod_lt j (show 0 < 2 by decide)
  have hd := Nat.div_add_mod j 2
  obtain e | e : j % 2 = 0 ∨ j % 2 = 1 := by omega
  · rw [e, show o + j = o + j / 2 * 2 by omega]; exact h0
  · rw [e, show o + j = o + j / 2 * 2 + 1 by omega]; exact h1
end Go.Proofs.Ytcndeegfkgfnkaa
/- gaussWithin, firstWrong and itemsError of whole complex numbers, entriesError of the code. -/
namespace Go.Proofs.Ytcndeegfkgfnkaa
open Go.RowKit
theorem size2 (M a b : Int) (F : Nat → Int) (h0 : F 0 = a) (h1 : F 1 = b) : sizeE M F 2 = (⟨a, b⟩ : Gau).err M := by
  unfold sizeE badE badE badE Gau.err Gau.isIn
  rw [h0, h1]
  cases withinB a (-M) M <;> cases withinB b (-M) M <;> simp [unI]
theorem Box.cells2 {w : World} {b : Nat} {t : TypeId} {p0 p1 : Value} (h : Box w b t #[p0, p1]) :
    w.cell? ⟨b, 0, none⟩ = some p0 ∧ w.cell? ⟨b, 1, none⟩ = some p1 ∧ w.frozen? ⟨b, 0, none⟩ = false ∧ w.frozen? ⟨b, 1, none⟩ = false ∧ b < w.heap.size :=
  ⟨h.at_ 0, h.at_ 1, h.free 0, h.free 1, h.lt⟩
end Go.Proofs.Ytcndeegfkgfnkaa
