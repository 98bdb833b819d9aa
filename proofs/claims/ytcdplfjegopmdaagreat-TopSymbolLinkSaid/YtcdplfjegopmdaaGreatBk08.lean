/- Lemmas: F1, Wa, Ra. -/
import Derived.Test.YtcdplfjegopmdaaGreatRows
import Derived.Laws.ComplexArith
import Derived.Laws.Cover2
import Derived.Laws.MakeOwn
import Derived.Laws.OwnMore
import Derived.OwnWalk
import Derived.Test.YtcdplfjegopmdaaGreatBk01
set_option linter.unusedVariables false
set_option linter.unusedSimpArgs false
/- Floats whose values are whole numbers: sums, differences and products of them are exact, as long as they are below 2^53; the same for complex numbers. -/
namespace Go.Proofs.YtcdplfjegopmdaaGreat
open Ieee
/-- A datum that is a whole number. -/
def WholeD (d : Datum) (n : Int) : Prop := ∃ (s : Bool) (k : Nat), d = .number s (n.natAbs * 2 ^ k) (-(k : Int)) ∧ (n ≠ 0 → s = decide (n < 0))
/-- The bits of a whole number (a zero of either sign). -/
def Whole (b : Nat) (n : Int) : Prop := WholeD (double.read b) n
theorem dbl_binade : double.binade = 4503599627370496 := by decide
theorem dbl_sign : double.signWeight = 9223372036854775808 := by decide
theorem dbl_inf : double.infRung = 9218868437227405312 := by decide
theorem dbl_least : double.leastPlace = -1074 := by decide
theorem dbl_frac : double.fractionBits = 52 := rfl
theorem log2_mul_pow {a : Nat} (h : 0 < a) (k : Nat) : (a * 2 ^ k).log2 = a.log2 + k := by
  have h0 : a ≠ 0 := by omega
  have hp : 0 < 2 ^ k := Nat.two_pow_pos k
  have hm : a * 2 ^ k ≠ 0 := Nat.mul_ne_zero h0 (by omega)
  have h1 := Nat.log2_self_le h0
  have h2 : a < 2 ^ (a.log2 + 1) := Nat.lt_log2_self
  apply Nat.le_antisymm
  · have : (a * 2 ^ k).log2 < a.log2 + k + 1 := (Nat.log2_lt hm).2 (by
      rw [show a.log2 + k + 1 = (a.log2 + 1) + k by omega, Nat.pow_add]
      exact Nat.mul_lt_mul_of_pos_right h2 hp)
    omega
  · exact (Nat.le_log2 hm).2 (by rw [Nat.pow_add]; exact Nat.mul_le_mul_right _ h1)
theorem cut_keep (s : Bool) (M : Nat) : Toward.even.cut s M 0 = M := by
  simp [Toward.cut, Nat.mod_one]
theorem cut_drop (s : Bool) {a d e : Nat} (h : 0 < a) : Toward.even.cut s (a * 2 ^ (e + d)) d = a * 2 ^ e := by
  have hl := log2_mul_pow h (e + d)
  have hg : (1 <<< min d ((a * 2 ^ (e + d)).log2 + 2)) = 2 ^ d := by
    rw [hl, Nat.min_eq_left (by omega), Nat.one_shiftLeft]
  have hp : 0 < 2 ^ d := Nat.two_pow_pos d
  have e1 : a * 2 ^ (e + d) = a * 2 ^ e * 2 ^ d := by rw [Nat.pow_add, Nat.mul_assoc]
  unfold Toward.cut
  simp only [hg]
  rw [e1, Nat.mul_div_cancel _ hp, Nat.mul_mod_left]
  have h2 : (2 ^ d == 2 * 0) = false := by simp
  simp [h2]
theorem nearest_whole (s : Bool) {a : Nat} (k : Nat) (h : 0 < a) (ha : a < 2 ^ 53) : double.nearest s (a * 2 ^ k) (-(k : Int)) = double.word s ((a.log2 + 1022) * 4503599627370496 + a * 2 ^ (52 - a.log2)) ∧ 4503599627370496 ≤ a * 2 ^ (52 - a.log2) ∧ a * 2 ^ (52 - a.log2) < 9007199254740992 ∧ a.log2 ≤ 52 := by
  have h0 : a ≠ 0 := by omega
  have hL : a.log2 ≤ 52 := by have := (Nat.log2_lt h0).2 ha; omega
  obtain ⟨L, hLe⟩ : ∃ L, a.log2 = L := ⟨_, rfl⟩
  have hl := log2_mul_pow h k
  have h1 := Nat.log2_self_le h0
  have h2 : a < 2 ^ (a.log2 + 1) := Nat.lt_log2_self
  rw [hLe] at hL hl h1 h2 ⊢
  have hM1 : 4503599627370496 ≤ a * 2 ^ (52 - L) := by
    have : 2 ^ L * 2 ^ (52 - L) = 4503599627370496 := by rw [← Nat.pow_add, show L + (52 - L) = 52 by omega]
    rw [← this]
    exact Nat.mul_le_mul_right _ h1
  have hM2 : a * 2 ^ (52 - L) < 9007199254740992 := by
    have : 2 ^ (L + 1) * 2 ^ (52 - L) = 9007199254740992 := by rw [← Nat.pow_add, show L + 1 + (52 - L) = 53 by omega]
    rw [← this]
    exact Nat.mul_lt_mul_of_pos_right h2 (Nat.two_pow_pos _)
  refine ⟨?_, hM1, hM2, hL⟩
  have hm : ¬ a * 2 ^ k = 0 := Nat.mul_ne_zero h0 (by have := Nat.two_pow_pos k; omega)
  unfold Format.nearest
  rw [if_neg hm]
  simp only [hl, dbl_frac, dbl_least, dbl_binade, dbl_inf]
  have hlast : max (-(k : Int) + ((L + k : Nat) : Int) - ((52 : Nat) : Int)) (-1074) = (L : Int) - 52 := by omega
  rw [hlast]
  have hsh : ((L : Int) - 52 - -1074).toNat = L + 1022 := by omega
  rw [hsh]
  by_cases hk : k ≤ 52 - L
  · rw [show (-(k : Int) - ((L : Int) - 52)).toNat = 52 - L - k by omega, show ((L : Int) - 52 - -(k : Int)).toNat = 0 by omega, Nat.shiftLeft_eq, Nat.mul_assoc, ← Nat.pow_add, show k + (52 - L - k) = 52 - L by omega, cut_keep, Nat.min_eq_left (by omega)]
  · obtain ⟨d, hd⟩ : ∃ d, k = (52 - L) + d := ⟨k - (52 - L), by omega⟩
    rw [show (-(k : Int) - ((L : Int) - 52)).toNat = 0 by omega, show ((L : Int) - 52 - -(k : Int)).toNat = d by omega, Nat.shiftLeft_zero, hd, cut_drop s h, Nat.min_eq_left (by omega)]
theorem write_whole {s : Bool} {n : Int} (k : Nat) (hn : n.natAbs < 2 ^ 53) (hs : n ≠ 0 → s = decide (n < 0)) : Whole (double.write (.number s (n.natAbs * 2 ^ k) (-(k : Int)))) n := by
  show WholeD (double.read (double.nearest s (n.natAbs * 2 ^ k) (-(k : Int)))) n
  by_cases h0 : n = 0
  · subst h0
    have e : double.nearest s (Int.natAbs 0 * 2 ^ k) (-(k : Int)) = double.word s 0 := by
      unfold Format.nearest
      rw [if_pos (by simp)]
    rw [e]
    obtain ⟨q, hq⟩ : ∃ q : Nat, (q : Int) = 1074 := ⟨1074, rfl⟩
    refine ⟨s, q, ?_, fun h => absurd rfl h⟩
    rw [hq, show Int.natAbs 0 * 2 ^ q = 0 from Nat.zero_mul _]
    cases s <;> decide
  · have ha : 0 < n.natAbs := by omega
    obtain ⟨h1, h2, h3, h4⟩ := nearest_whole s k ha hn
    rw [h1]
    refine ⟨s, 52 - n.natAbs.log2, ?_, hs⟩
    obtain ⟨L, hL⟩ : ∃ L, n.natAbs.log2 = L := ⟨_, rfl⟩
    rw [hL] at h2 h3 h4 ⊢
    obtain ⟨M, hM⟩ : ∃ M, n.natAbs * 2 ^ (52 - L) = M := ⟨_, rfl⟩
    rw [hM] at h2 h3 ⊢
    obtain ⟨R, hR⟩ : ∃ R, (L + 1022) * 4503599627370496 + M = R := ⟨_, rfl⟩
    rw [hR]
    have r1 : R / 4503599627370496 = L + 1023 := by omega
    have r2 : R % 4503599627370496 = M - 4503599627370496 := by omega
    unfold Format.read Format.word
    simp only [dbl_binade, dbl_sign, dbl_inf, dbl_least]
    have w1 : (if s = true then 9223372036854775808 + R else R) % 9223372036854775808 = R := by split <;> omega
    have w2 : ((if s = true then 9223372036854775808 + R else R) / 9223372036854775808 % 2 == 1) = s := by
      cases s
      · rw [if_neg (by decide), show R / 9223372036854775808 = 0 by omega]; rfl
      · rw [if_pos rfl, show (9223372036854775808 + R) / 9223372036854775808 = 1 by omega]; rfl
    have e1 : 4503599627370496 + (M - 4503599627370496) = M := Nat.add_sub_of_le h2
    have e2 : (-1074 : Int) + ((L + 1023 - 1 : Nat) : Int) = -((52 - L : Nat) : Int) := by omega
    rw [w1, w2, if_neg (by omega), if_pos (by omega), r2, r1, e1, e2]
theorem signed_whole {s : Bool} {n : Int} (hs : n ≠ 0 → s = decide (n < 0)) (k u : Nat) : signed s (n.natAbs * 2 ^ k) u = n * 2 ^ (k + u) := by
  unfold signed
  rw [Nat.shiftLeft_eq, Nat.mul_assoc, ← Nat.pow_add]
  by_cases h0 : n = 0
  · subst h0; simp
  · rw [hs h0]
    by_cases hn : n < 0
    · simp only [hn, decide_true, if_true]
      push_cast
      rw [← Int.neg_mul]
      congr 1
      omega
    · simp only [hn, decide_false]
      push_cast
      congr 1
      omega
theorem whole_sumD {d e : Datum} {n m : Int} (h1 : WholeD d n) (h2 : WholeD e m) (hb : (n + m).natAbs < 2 ^ 53) : ∃ r, (d.sum e).map double.write = some r ∧ Whole r (n + m) := by
  obtain ⟨s, k, rfl, hs⟩ := h1
  obtain ⟨t, j, rfl, ht⟩ := h2
  obtain ⟨u, hu⟩ : ∃ u, u = max k j := ⟨_, rfl⟩
  have hbase : min (-(k : Int)) (-(j : Int)) = -(u : Int) := by omega
  simp only [Datum.sum, hbase]
  have e1 : (-(k : Int) - -(u : Int)).toNat = u - k := by omega
  have e2 : (-(j : Int) - -(u : Int)).toNat = u - j := by omega
  rw [e1, e2, signed_whole hs, signed_whole ht, show k + (u - k) = u by omega, show j + (u - j) = u by omega, ← Int.add_mul]
  have hp : (0 : Int) < 2 ^ u := by have := Nat.two_pow_pos u; exact_mod_cast this
  have e3 : ((n + m) * 2 ^ u).natAbs = (n + m).natAbs * 2 ^ u := by rw [Int.natAbs_mul]; congr 1
  rw [e3]
  refine ⟨_, rfl, write_whole u hb fun hne => ?_⟩
  have hne2 : ¬ (n + m) * 2 ^ u = 0 := Int.mul_ne_zero hne (by omega)
  rw [if_neg hne2]
  by_cases hlt : n + m < 0
  · simp [hlt, Int.mul_neg_of_neg_of_pos hlt hp]
  · have : ¬ (n + m) * 2 ^ u < 0 := by have := Int.mul_nonneg (show 0 ≤ n + m by omega) (Int.le_of_lt hp); omega
    simp [hlt, this]
theorem whole_add {x y : Nat} {n m : Int} (h1 : Whole x n) (h2 : Whole y m) (hb : (n + m).natAbs < 2 ^ 53) : ∃ r, floatBits .add .f64 x y = some r ∧ Whole r (n + m) := whole_sumD h1 h2 hb
theorem whole_opposite {d : Datum} {n : Int} (h : WholeD d n) : WholeD d.opposite (-n) := by
  obtain ⟨s, k, rfl, hs⟩ := h
  refine ⟨!s, k, by simp [Datum.opposite], fun hne => ?_⟩
  have hn : n ≠ 0 := by omega
  rw [hs hn]
  by_cases hlt : n < 0
  · have : ¬ -n < 0 := by omega
    simp [hlt]
    omega
  · have : -n < 0 := by omega
    simp [hlt]
    omega
theorem whole_sub {x y : Nat} {n m : Int} (h1 : Whole x n) (h2 : Whole y m) (hb : (n - m).natAbs < 2 ^ 53) : ∃ r, floatBits .sub .f64 x y = some r ∧ Whole r (n - m) := by
  rw [Int.sub_eq_add_neg] at hb ⊢
  exact whole_sumD h1 (whole_opposite h2) hb
theorem whole_mul {x y : Nat} {n m : Int} (h1 : Whole x n) (h2 : Whole y m) (hb : (n * m).natAbs < 2 ^ 53) : ∃ r, floatBits .mul .f64 x y = some r ∧ Whole r (n * m) := by
  obtain ⟨s, k, h1, hs⟩ := h1
  obtain ⟨t, j, h2, ht⟩ := h2
  show ∃ r, ((double.read x).product (double.read y)).map double.write = some r ∧ _
  rw [h1, h2]
  simp only [Datum.product]
  have e1 : n.natAbs * 2 ^ k * (m.natAbs * 2 ^ j) = (n * m).natAbs * 2 ^ (k + j) := by
    rw [Int.natAbs_mul, Nat.pow_add]
    ac_rfl
  have e2 : -(k : Int) + -(j : Int) = -((k + j : Nat) : Int) := by omega
  rw [e1, e2]
  refine ⟨_, rfl, write_whole (k + j) hb fun hne => ?_⟩
  have hn : n ≠ 0 := fun e => hne (by rw [e, Int.zero_mul])
  have hm : m ≠ 0 := fun e => hne (by rw [e, Int.mul_zero])
  rw [hs hn, ht hm]
  rcases Int.lt_or_gt_of_ne hn with a | a <;> rcases Int.lt_or_gt_of_ne hm with b | b
  · have := Int.mul_pos_of_neg_of_neg a b; simp [a, b]; omega
  · have := Int.mul_neg_of_neg_of_pos a b; simp [a, this]; omega
  · have := Int.mul_neg_of_pos_of_neg a b; simp [b, this]; omega
  · have hp := Int.mul_pos a b
    have i1 : ¬ n < 0 := by omega
    have i2 : ¬ m < 0 := by omega
    have i3 : ¬ n * m < 0 := by omega
    rw [decide_eq_false i1, decide_eq_false i2, decide_eq_false i3]
    rfl
theorem whole_ofInt {n : Int} (hn : n.natAbs < 2 ^ 53) : Whole (floatOfInt .f64 n) n := by
  have h := write_whole (s := decide (n < 0)) 0 hn fun _ => rfl
  rw [show n.natAbs * 2 ^ 0 = n.natAbs by simp] at h
  exact h
theorem whole_toInt {x : Nat} {n : Int} (h : Whole x n) (hn : n.natAbs < 2 ^ 53) : floatToIntVal .f64 x .i64 = some n := by
  obtain ⟨s, k, h1, hs⟩ := h
  have hcut : Toward.zero.cut s ((n.natAbs * 2 ^ k) <<< (-(k : Int)).toNat) (- -(k : Int)).toNat = n.natAbs := by
    rw [show (-(k : Int)).toNat = 0 by omega, Nat.shiftLeft_zero, show (- -(k : Int)).toNat = k by omega]
    by_cases h0 : n = 0
    · subst h0
      simp [Toward.cut]
    · have ha : 0 < n.natAbs := by omega
      unfold Toward.cut
      rw [log2_mul_pow ha, Nat.min_eq_left (by omega), Nat.one_shiftLeft]
      simp only [Nat.mul_div_cancel _ (Nat.two_pow_pos k)]
      simp
  have ht : (double.read x).toInt .zero = some n := by
    unfold Datum.toInt
    rw [h1]
    simp only [Datum.integral, hcut]
    have := signed_whole hs 0 0
    rw [show n.natAbs * 2 ^ 0 = n.natAbs by simp] at this
    rw [this]
    simp
  unfold floatToIntVal
  show (match (double.read x).toInt .zero with | some n => _ | none => _) = _
  rw [ht]
  have h1 : IntKind.i64.min ≤ n ∧ n ≤ IntKind.i64.max := by
    have e1 : IntKind.i64.min = -9223372036854775808 := by decide
    have e2 : IntKind.i64.max = 9223372036854775807 := by decide
    rw [e1, e2]
    omega
  simp only [h1, and_self, if_true]
theorem whole_one : Whole 4607182418800017408 1 := by
  have h := whole_ofInt (n := 1) (by decide)
  rwa [show floatOfInt .f64 1 = 4607182418800017408 by decide] at h
theorem whole_minus : Whole 13830554455654793216 (-1) := by
  have h := whole_ofInt (n := -1) (by decide)
  rwa [show floatOfInt .f64 (-1) = 13830554455654793216 by decide] at h
theorem whole_zero : Whole 0 0 := by
  have h := whole_ofInt (n := 0) (by decide)
  rwa [show floatOfInt .f64 0 = 0 by decide] at h
/-- A product of complex numbers whose parts are whole. -/
theorem whole_cmul {a b c d : Nat} {p q r s : Int} (ha : Whole a p) (hb : Whole b q) (hc : Whole c r) (hd : Whole d s) (h1 : (p * r).natAbs < 2 ^ 53) (h2 : (q * s).natAbs < 2 ^ 53) (h3 : (p * r - q * s).natAbs < 2 ^ 53) (h4 : (p * s).natAbs < 2 ^ 53) (h5 : (q * r).natAbs < 2 ^ 53) (h6 : (p * s + q * r).natAbs < 2 ^ 53) :
    ∃ x y, cMulBits a b c d = some (x, y) ∧ Whole x (p * r - q * s) ∧ Whole y (p * s + q * r) := by
  obtain ⟨ac, e1, w1⟩ := whole_mul ha hc h1
  obtain ⟨bd, e2, w2⟩ := whole_mul hb hd h2
  obtain ⟨x, e3, w3⟩ := whole_sub w1 w2 h3
  obtain ⟨ad, e4, w4⟩ := whole_mul ha hd h4
  obtain ⟨bc, e5, w5⟩ := whole_mul hb hc h5
  obtain ⟨y, e6, w6⟩ := whole_add w4 w5 h6
  exact ⟨x, y, by simp [cMulBits, e1, e2, e3, e4, e5, e6], w3, w6⟩
theorem whole_csum {a b c d : Nat} {p q r s : Int} (ha : Whole a p) (hb : Whole b q) (hc : Whole c r) (hd : Whole d s) (h1 : (p + r).natAbs < 2 ^ 53) (h2 : (q + s).natAbs < 2 ^ 53) :
    ∃ x y, cSumBits .add .f64 a b c d = some (x, y) ∧ Whole x (p + r) ∧ Whole y (q + s) := by
  obtain ⟨x, e1, w1⟩ := whole_add ha hc h1
  obtain ⟨y, e2, w2⟩ := whole_add hb hd h2
  exact ⟨x, y, by simp [cSumBits, e1, e2], w1, w2⟩
end Go.Proofs.YtcdplfjegopmdaaGreat
/- Numbers of chapter 4: turned, added, multiplied (without a walk); slices of them in memory. -/
namespace Go.Proofs.YtcdplfjegopmdaaGreat
open Go.RowKit
/-- A number: a + b w + c w^2 + d w^3. -/
structure Num where
  a : Int
  b : Int
  c : Int
  d : Int
theorem Num.same {x y : Num} (h1 : x.a = y.a) (h2 : x.b = y.b) (h3 : x.c = y.c) (h4 : x.d = y.d) : x = y := by
  cases x; cases y; simp_all
def Num.zero : Num := ⟨0, 0, 0, 0⟩
def Num.turn (x : Num) : Num := ⟨-x.d, x.a, x.b, x.c⟩
def Num.turns (x : Num) : Nat → Num
  | 0 => x
  | n + 1 => (x.turns n).turn
def Num.add (x y : Num) : Num := ⟨x.a + y.a, x.b + y.b, x.c + y.c, x.d + y.d⟩
def Num.times (n : Int) (x : Num) : Num := ⟨n * x.a, n * x.b, n * x.c, n * x.d⟩
def Num.conj (x : Num) : Num := ⟨x.a, -x.d, -x.c, -x.b⟩
/-- The part of a power of w. -/
def Num.part (x : Num) (i : Nat) : Int := if i = 0 then x.a else if i = 1 then x.b else if i = 2 then x.c else x.d
/-- The product, as far as the first i parts of the first number. -/
def Num.prodTo (x y : Num) : Nat → Num
  | 0 => Num.zero
  | i + 1 => (x.prodTo y i).add (Num.times (x.part i) (y.turns i))
def Num.prod (x y : Num) : Num := x.prodTo y 4
def Num.sqP (x : Num) : Int := x.a * x.a + x.b * x.b + x.c * x.c + x.d * x.d
def Num.sqQ (x : Num) : Int := x.a * x.b + x.b * x.c + x.c * x.d - x.a * x.d
/-- No part is greater in size than M. -/
structure Num.Within (M : Int) (x : Num) : Prop where
  a : -M ≤ x.a ∧ x.a ≤ M
  b : -M ≤ x.b ∧ x.b ≤ M
  c : -M ≤ x.c ∧ x.c ≤ M
  d : -M ≤ x.d ∧ x.d ≤ M
theorem Num.Within.turn {M : Int} {x : Num} (h : x.Within M) : x.turn.Within M := ⟨by have := h.d; show -M ≤ -x.d ∧ -x.d ≤ M; omega, h.a, h.b, h.c⟩
theorem Num.Within.turns {M : Int} {x : Num} (h : x.Within M) : ∀ n, (x.turns n).Within M
  | 0 => h
  | n + 1 => (h.turns n).turn
theorem Num.Within.more {M N : Int} {x : Num} (h : x.Within M) (hm : M ≤ N) : x.Within N :=
  ⟨by have := h.a; omega, by have := h.b; omega, by have := h.c; omega, by have := h.d; omega⟩
theorem Num.Within.add {M N : Int} {x y : Num} (h : x.Within M) (k : y.Within N) : (x.add y).Within (M + N) :=
  ⟨by have := h.a; have := k.a; show -(M + N) ≤ x.a + y.a ∧ x.a + y.a ≤ M + N; omega, by have := h.b; have := k.b; show -(M + N) ≤ x.b + y.b ∧ x.b + y.b ≤ M + N; omega, by have := h.c; have := k.c; show -(M + N) ≤ x.c + y.c ∧ x.c + y.c ≤ M + N; omega, by have := h.d; have := k.d; show -(M + N) ≤ x.d + y.d ∧ x.d + y.d ≤ M + N; omega⟩
theorem mul_within {M N a b : Int} (h : -M ≤ a ∧ a ≤ M) (k : -N ≤ b ∧ b ≤ N) : -(M * N) ≤ a * b ∧ a * b ≤ M * N := by
  have hM : 0 ≤ M := by omega
  have hN : 0 ≤ N := by omega
  have h1 : 0 ≤ (M - a) * (N + b) := Int.mul_nonneg (by omega) (by omega)
  have h2 : 0 ≤ (M + a) * (N - b) := Int.mul_nonneg (by omega) (by omega)
  have h3 : 0 ≤ (M - a) * (N - b) := Int.mul_nonneg (by omega) (by omega)
  have h4 : 0 ≤ (M + a) * (N + b) := Int.mul_nonneg (by omega) (by omega)
  simp only [Int.sub_mul, Int.mul_sub, Int.add_mul, Int.mul_add] at h1 h2 h3 h4
  omega
theorem Num.Within.times {M N n : Int} {x : Num} (h : x.Within M) (k : -N ≤ n ∧ n ≤ N) : (Num.times n x).Within (N * M) := ⟨mul_within k h.a, mul_within k h.b, mul_within k h.c, mul_within k h.d⟩
theorem Num.Within.part {M : Int} {x : Num} (h : x.Within M) (i : Nat) : -M ≤ x.part i ∧ x.part i ≤ M := by
  unfold Num.part
  split
  · exact h.a
  · split
    · exact h.b
    · split
      · exact h.c
      · exact h.d
theorem Num.Within.prodTo {M N : Int} {x y : Num} (h : x.Within M) (k : y.Within N) : ∀ i : Nat, (x.prodTo y i).Within (i * (M * N))
  | 0 => by
    have e : ((0 : Nat) : Int) * (M * N) = 0 := by simp
    rw [e]
    show Num.zero.Within 0
    exact ⟨⟨by decide, by decide⟩, ⟨by decide, by decide⟩, ⟨by decide, by decide⟩, ⟨by decide, by decide⟩⟩
  | i + 1 => by
    have e : ((i + 1 : Nat) : Int) * (M * N) = (i : Int) * (M * N) + M * N := by rw [Int.natCast_add, Int.add_mul]; simp
    rw [e]
    exact (Num.Within.prodTo h k i).add ((k.turns i).times (h.part i))
def Num.isIn (M : Int) (x : Num) : Bool := (withinB x.a (-M) M && withinB x.b (-M) M) && (withinB x.c (-M) M && withinB x.d (-M) M)
theorem withinB_iff {n lo hi : Int} : withinB n lo hi = true ↔ lo ≤ n ∧ n ≤ hi := by simp [withinB]
theorem Num.isIn_iff {M : Int} {x : Num} : x.isIn M = true ↔ x.Within M := by
  unfold Num.isIn
  simp only [Bool.and_eq_true, withinB_iff]
  exact ⟨fun ⟨⟨h1, h2⟩, h3, h4⟩ => ⟨h1, h2, h3, h4⟩, fun ⟨h1, h2, h3, h4⟩ => ⟨⟨h1, h2⟩, h3, h4⟩⟩
/-- The first error of n items, and its number. -/
def badE (g : Nat → Int) : Nat → Int
  | 0 => 0
  | n + 1 => if badE g n = 0 then g n else badE g n
def badI (g : Nat → Int) : Nat → Nat
  | 0 => 0
  | n + 1 => if badE g n = 0 then (if g n = 0 then 0 else n) else badI g n
theorem badE_succ {g : Nat → Int} {k : Nat} (h : badE g k = 0) : badE g (k + 1) = g k := by unfold badE; rw [if_pos h]
theorem badE_at {g : Nat → Int} {k : Nat} (h : badE g k = 0) (hk : g k ≠ 0) : ∀ n, k < n → badE g n = g k
  | 0, hn => absurd hn (Nat.not_lt_zero _)
  | n + 1, hn => by
    unfold badE
    rcases Nat.lt_or_ge k n with h1 | h1
    · have := badE_at h hk n h1
      rw [this, if_neg hk]
    · obtain rfl : k = n := by omega
      rw [if_pos h]
theorem badI_at {g : Nat → Int} {k : Nat} (h : badE g k = 0) (hk : g k ≠ 0) : ∀ n, k < n → badI g n = k
  | 0, hn => absurd hn (Nat.not_lt_zero _)
  | n + 1, hn => by
    unfold badI
    rcases Nat.lt_or_ge k n with h1 | h1
    · rw [badE_at h hk n h1, if_neg hk]
      exact badI_at h hk n h1
    · obtain rfl : k = n := by omega
      rw [if_pos h, if_neg hk]
theorem badI_zero {g : Nat → Int} : ∀ {n : Nat}, badE g n = 0 → badI g n = 0
  | 0, _ => rfl
  | n + 1, h => by
    unfold badE at h
    unfold badI
    by_cases h0 : badE g n = 0
    · rw [if_pos h0] at h ⊢
      rw [if_pos h]
    · rw [if_neg h0] at h; exact absurd h h0
/-- The error of n numbers F, of size M at most. -/
def sizeE (M : Int) (F : Nat → Int) (n : Nat) : Int := badE (fun j => unI (withinB (F j) (-M) M) 2) n
/-- The error of a number whose parts are to be of size M at most. -/
def Num.err (M : Int) (x : Num) : Int := unI (x.isIn M) 2
theorem size4 (M a b c d : Int) (F : Nat → Int) (h0 : F 0 = a) (h1 : F 1 = b) (h2 : F 2 = c) (h3 : F 3 = d) : sizeE M F 4 = Num.err M ⟨a, b, c, d⟩ := by
  unfold sizeE badE badE badE badE badE Num.err Num.isIn
  rw [h0, h1, h2, h3]
  cases withinB a (-M) M <;> cases withinB b (-M) M <;> cases withinB c (-M) M <;> cases withinB d (-M) M <;> simp [unI]
/-- A slice of n numbers. -/
def NumsAt (w : World) (lo : Nat) (A : Option Addr) (n : Nat) (F : Nat → Num) : Prop :=
  ∀ i, i < n → ∃ b o, A = some ⟨b, o, none⟩ ∧ lo ≤ b ∧ b < w.heap.size ∧ w.cell? ⟨b, o + i * 4, none⟩ = some (.int .i64 (F i).a) ∧ w.cell? ⟨b, o + i * 4 + 1, none⟩ = some (.int .i64 (F i).b) ∧ w.cell? ⟨b, o + i * 4 + 2, none⟩ = some (.int .i64 (F i).c) ∧ w.cell? ⟨b, o + i * 4 + 3, none⟩ = some (.int .i64 (F i).d)
section
variable {w w' : World} {lo n : Nat} {A : Option Addr} {F : Nat → Num}
theorem NumsAt.nil_ : NumsAt w lo A 0 F := fun i h => absurd h (Nat.not_lt_zero i)
theorem NumsAt.below (h : NumsAt w lo A n F) (hb : Below w.heap.size w w') : NumsAt w' lo A n F := fun i hi => by
  obtain ⟨b, o, e, h1, h2, h3, h4, h5, h6⟩ := h i hi
  exact ⟨b, o, e, h1, Nat.lt_of_lt_of_le h2 hb.size, (hb.cell (p := ⟨b, _, none⟩) h2).trans h3, (hb.cell (p := ⟨b, _, none⟩) h2).trans h4, (hb.cell (p := ⟨b, _, none⟩) h2).trans h5, (hb.cell (p := ⟨b, _, none⟩) h2).trans h6⟩
theorem NumsAt.alloc (h : NumsAt w lo A n F) (x : Obj) : NumsAt (w.alloc x) lo A n F := h.below ((Below.refl _ _).alloc (Nat.le_refl _) _)
theorem NumsAt.drewN (h : NumsAt w lo A n F) (m : Nat) : NumsAt (w.drewN m) lo A n F := h
theorem NumsAt.weak {lo' : Nat} (h : NumsAt w lo A n F) (hl : lo' ≤ lo) : NumsAt w lo' A n F := fun i hi => by
  obtain ⟨b, o, e, h1, h2⟩ := h i hi
  exact ⟨b, o, e, Nat.le_trans hl h1, h2⟩
theorem NumsAt.congr {G : Nat → Num} (h : NumsAt w lo A n F) (e : ∀ i, i < n → F i = G i) : NumsAt w lo A n G := fun i hi => by
  rw [← e i hi]; exact h i hi
theorem NumsAt.fewer {m : Nat} (h : NumsAt w lo A n F) (hm : m ≤ n) : NumsAt w lo A m F := fun i hi => h i (Nat.lt_of_lt_of_le hi hm)
end
end Go.Proofs.YtcdplfjegopmdaaGreat
/- Whole complex numbers of chapter 4 in memory: slices of structs of two cells, those of the call's own, an append to one. -/
namespace Go.Proofs.YtcdplfjegopmdaaGreat
open Go.RowKit
/-- A whole complex number. -/
structure Gau where
  re : Int
  im : Int
theorem Gau.same {x y : Gau} (h1 : x.re = y.re) (h2 : x.im = y.im) : x = y := by
  cases x; cases y; simp_all
def Gau.zero : Gau := ⟨0, 0⟩
def Gau.part (x : Gau) (i : Nat) : Int := if i = 0 then x.re else x.im
/-- No part is greater in size than M. -/
structure Gau.Within (M : Int) (x : Gau) : Prop where
  re : -M ≤ x.re ∧ x.re ≤ M
  im : -M ≤ x.im ∧ x.im ≤ M
def Gau.isIn (M : Int) (x : Gau) : Bool := withinB x.re (-M) M && withinB x.im (-M) M
theorem Gau.isIn_iff {M : Int} {x : Gau} : x.isIn M = true ↔ x.Within M := by
  unfold Gau.isIn
  simp only [Bool.and_eq_true, withinB_iff]
  exact ⟨fun ⟨h1, h2⟩ => ⟨h1, h2⟩, fun ⟨h1, h2⟩ => ⟨h1, h2⟩⟩
def Gau.err (x : Gau) (M : Int) : Int := unI (x.isIn M) 2
theorem Gau.err_zero {M : Int} {x : Gau} (h : x.err M = 0) : x.Within M := by
  unfold Gau.err unI at h
  by_cases hb : x.isIn M = true
  · exact Gau.isIn_iff.1 hb
  · rw [if_neg hb] at h; exact absurd h (by decide)
theorem Gau.Within.more {M N : Int} {x : Gau} (h : x.Within M) (hm : M ≤ N) : x.Within N := ⟨by have := h.re; omega, by have := h.im; omega⟩
def GausAt (w : World) (lo : Nat) (A : Option Addr) (n : Nat) (F : Nat → Gau) : Prop :=
  ∀ i, i < n → ∃ b o, A = some ⟨b, o, none⟩ ∧ lo ≤ b ∧ b < w.heap.size ∧ w.cell? ⟨b, o + i * 2, none⟩ = some (.int .i64 (F i).re) ∧ w.cell? ⟨b, o + i * 2 + 1, none⟩ = some (.int .i64 (F i).im)
section
variable {w w' : World} {lo n : Nat} {A : Option Addr} {F : Nat → Gau}
theorem GausAt.nil_ : GausAt w lo A 0 F := fun i h => absurd h (Nat.not_lt_zero i)
theorem GausAt.below (h : GausAt w lo A n F) (hb : Below w.heap.size w w') : GausAt w' lo A n F := fun i hi => by
  obtain ⟨b, o, e, h1, h2, h3, h4⟩ := h i hi
  exact ⟨b, o, e, h1, Nat.lt_of_lt_of_le h2 hb.size, (hb.cell (p := ⟨b, _, none⟩) h2).trans h3, (hb.cell (p := ⟨b, _, none⟩) h2).trans h4⟩
theorem GausAt.alloc (h : GausAt w lo A n F) (x : Obj) : GausAt (w.alloc x) lo A n F := h.below ((Below.refl _ _).alloc (Nat.le_refl _) _)
theorem GausAt.drewN (h : GausAt w lo A n F) (m : Nat) : GausAt (w.drewN m) lo A n F := h
theorem GausAt.weak {lo' : Nat} (h : GausAt w lo A n F) (hl : lo' ≤ lo) : GausAt w lo' A n F := fun i hi => by
  obtain ⟨b, o, e, h1, h2⟩ := h i hi
  exact ⟨b, o, e, Nat.le_trans hl h1, h2⟩
theorem GausAt.congr {G : Nat → Gau} (h : GausAt w lo A n F) (e : ∀ i, i < n → F i = G i) : GausAt w lo A n G := fun i hi => by
  rw [← e i hi]; exact h i hi
theorem GausAt.fewer {m : Nat} (h : GausAt w lo A n F) (hm : m ≤ n) : GausAt w lo A m F := fun i hi => h i (Nat.lt_of_lt_of_le hi hm)
theorem GausAt.one {b : Nat} {x : Gau} {t : TypeId} (h : Box w b t #[.int .i64 x.re, .int .i64 x.im]) : GausAt w 0 (some ⟨b, 0, none⟩) 1 (fun _ => x) := fun i hi => by
  obtain rfl : i = 0 := by omega
  exact ⟨b, 0, rfl, Nat.zero_le _, h.lt, h.at_ 0, h.at_ 1⟩
end
/-- The error of n numbers of size M at most. -/
def gausE (M : Int) (F : Nat → Gau) (n : Nat) : Int := badE (fun j => (F j).err M) n
theorem gausE_within {M : Int} {F : Nat → Gau} : ∀ {n : Nat}, gausE M F n = 0 → ∀ j, j < n → (F j).Within M
  | 0, _, j, hj => absurd hj (Nat.not_lt_zero _)
  | n + 1, h, j, hj => by
    unfold gausE badE at h
    by_cases h1 : badE (fun j => (F j).err M) n = 0
    · rw [if_pos h1] at h
      rcases Nat.lt_or_ge j n with h2 | h2
      · exact gausE_within h1 j h2
      · obtain rfl : j = n := by omega
        exact Gau.err_zero h
    · rw [if_neg h1] at h; exact absurd h h1
theorem gausE_cases (M : Int) (F : Nat → Gau) : ∀ n, gausE M F n = 0 ∨ gausE M F n = 2
  | 0 => .inl rfl
  | n + 1 => by
    rcases gausE_cases M F n with h | h
    · have h' : badE (fun j => (F j).err M) n = 0 := h
      unfold gausE badE
      rw [if_pos h']
      show (F n).err M = 0 ∨ (F n).err M = 2
      unfold Gau.err unI
      cases (F n).isIn M
      · exact .inr rfl
      · exact .inl rfl
    · have h' : badE (fun j => (F j).err M) n = 2 := h
      have h2 : ¬ badE (fun j => (F j).err M) n = 0 := by rw [h']; decide
      unfold gausE badE
      rw [if_neg h2]
      exact .inr h'
def gauVals (n : Nat) (F : Nat → Gau) : List Value := (List.range (n * 2)).map fun j => Value.int .i64 ((F (j / 2)).part (j % 2))
theorem gauVals_len (n : Nat) (F : Nat → Gau) : (gauVals n F).length = n * 2 := by simp [gauVals]
theorem gauVals_get (n : Nat) (F : Nat → Gau) (j : Nat) : (gauVals n F)[j]? = if j < n * 2 then some (.int .i64 ((F (j / 2)).part (j % 2))) else none := by
  unfold gauVals
  by_cases h : j < n * 2
  · rw [if_pos h]; simp [h]
  · rw [if_neg h, List.getElem?_eq_none (by simp; omega)]
theorem gauVals_congr {n : Nat} {F G : Nat → Gau} (h : ∀ j, j < n → F j = G j) : gauVals n F = gauVals n G := by
  unfold gauVals
  exact List.map_congr_left fun j hj => by
    have := List.mem_range.1 hj
    rw [h (j / 2) (by omega)]
def setGau (F : Nat → Gau) (k : Nat) (x : Gau) (j : Nat) : Gau := if j = k then x else F j
/-- A slice of the call's own, of n numbers F, in a block that is not ahead of base. -/
def OwnGaus (w : World) (base : Nat) (v : Value) (n : Nat) (F : Nat → Gau) : Prop := w.ownsRow base 62 2 v n (gauVals n F)
theorem OwnGaus.congr {w : World} {base n : Nat} {v : Value} {F G : Nat → Gau} (h : OwnGaus w base v n F) (e : ∀ j, j < n → F j = G j) : OwnGaus w base v n G := by
  unfold OwnGaus at h ⊢
  rwa [← gauVals_congr e]
theorem OwnGaus.drew {w : World} {base n : Nat} {v : Value} {F : Nat → Gau} (h : OwnGaus w base v n F) : OwnGaus w.drew base v n F := h
theorem OwnGaus.drewN {w : World} {base n : Nat} {v : Value} {F : Nat → Gau} (h : OwnGaus w base v n F) (q : Nat) : OwnGaus (w.drewN q) base v n F := h
theorem OwnGaus.alloc {w : World} {base n : Nat} {v : Value} {F : Nat → Gau} (h : OwnGaus w base v n F) (o : Obj) : OwnGaus (w.alloc o) base v n F := World.ownsRow.alloc h o
theorem OwnGaus.below {w w' : World} {base n : Nat} {v : Value} {F : Nat → Gau} (h : OwnGaus w base v n F) (hb : Below w.heap.size w w') : OwnGaus w' base v n F :=
  World.ownsRow.kept h (row := none) ⟨hb.os, hb.tape, hb.output, hb.size, fun k hk _ => hb.block k hk⟩ (by cases v.ownBlock <;> simp)
theorem OwnGaus.weak {w : World} {base base' n : Nat} {v : Value} {F : Nat → Gau} (h : OwnGaus w base v n F) (hb : base' ≤ base) : OwnGaus w base' v n F :=
  ⟨h.1, h.2.elim Or.inl (fun ⟨g, cap, cur, hv, hg, r⟩ => Or.inr ⟨g, cap, cur, hv, Nat.le_trans hb hg, r⟩)⟩
theorem OwnGaus.lt {w : World} {base n g c : Nat} {F : Nat → Gau} (h : OwnGaus w base (.slice (some ⟨g, 0, none⟩) n c) n F) : base ≤ g ∧ g < w.heap.size := World.ownsRow.lt h g rfl
theorem OwnGaus.part {w : World} {base n g c : Nat} {F : Nat → Gau} (h : OwnGaus w base (.slice (some ⟨g, 0, none⟩) n c) n F) {k i : Nat} (hk : k < n) (hi : i < 2) : w.cell? ⟨g, k * 2 + i, none⟩ = some (.int .i64 ((F k).part i)) := by
  rw [World.ownsRow.cellAt h (k * 2 + i) (by omega), gauVals_get, if_pos (by omega), show (k * 2 + i) / 2 = k by omega, show (k * 2 + i) % 2 = i by omega]
theorem OwnGaus.cells {w : World} {base n g c : Nat} {F : Nat → Gau} (h : OwnGaus w base (.slice (some ⟨g, 0, none⟩) n c) n F) {k : Nat} (hk : k < n) :
    w.cell? ⟨g, k * 2, none⟩ = some (.int .i64 (F k).re) ∧ w.cell? ⟨g, k * 2 + 1, none⟩ = some (.int .i64 (F k).im) :=
  ⟨h.part hk (show 0 < 2 by decide), h.part hk (show 1 < 2 by decide)⟩
theorem OwnGaus.frozen {w : World} {base n g c : Nat} {F : Nat → Gau} (h : OwnGaus w base (.slice (some ⟨g, 0, none⟩) n c) n F) (k : Nat) : w.frozen? ⟨g, k, none⟩ = false := World.ownsRow.frozenAt h k
theorem OwnGaus.frozen2 {w : World} {base n g c : Nat} {F : Nat → Gau} (h : OwnGaus w base (.slice (some ⟨g, 0, none⟩) n c) n F) (k : Nat) : w.frozen? ⟨g, k * 2, none⟩ = false ∧ w.frozen? ⟨g, k * 2 + 1, none⟩ = false := ⟨h.frozen _, h.frozen _⟩
theorem OwnGaus.gaus {w : World} {base n c : Nat} {A : Option Addr} {F : Nat → Gau} (h : OwnGaus w base (.slice A n c) n F) : GausAt w base A n F := fun i hi => by
  rcases h.2 with ⟨e, hx⟩ | ⟨g, cap, cur, e, hb, hg, hnc, hm, hsz, htake⟩
  · omega
  · injection e with e1 e2 e3
    subst e1
    have h' : OwnGaus w base (.slice (some ⟨g, 0, none⟩) n c) n F := h
    obtain ⟨k0, k1⟩ := h'.cells hi
    exact ⟨g, 0, rfl, hb, (Array.getElem?_eq_some_iff.1 hg).1, by rwa [Nat.zero_add], by rwa [Nat.zero_add]⟩
theorem OwnGaus.other {w : World} {base n : Nat} {v : Value} {F : Nat → Gau} (h : OwnGaus w base v n F) {k : Nat} (o : Nat) (u : Value) (hk : v.ownBlock ≠ some k) : OwnGaus (w.setCell ⟨k, o, none⟩ u) base v n F := by
  refine World.ownsRow.kept h (row := some k) ⟨rfl, rfl, rfl, by simp, fun j _ hj => heap_setCell_other w ⟨k, o, none⟩ j u (fun e => hj (by simp [e]))⟩ (.inr hk)
theorem OwnGaus.put {w : World} {base n g c : Nat} {F : Nat → Gau} (h : OwnGaus w base (.slice (some ⟨g, 0, none⟩) n c) n F) (k : Nat) (x : Gau) :
    OwnGaus ((w.setCell ⟨g, k * 2, none⟩ (.int .i64 x.re)).setCell ⟨g, k * 2 + 1, none⟩ (.int .i64 x.im)) base (.slice (some ⟨g, 0, none⟩) n c) n (setGau F k x) := by
  have h1 := (World.ownsRow.stored (World.ownsRow.stored h (k * 2) (.int .i64 x.re)).1 (k * 2 + 1) (.int .i64 x.im)).1
  have e : ((gauVals n F).set (k * 2) (.int .i64 x.re)).set (k * 2 + 1) (.int .i64 x.im) = gauVals n (setGau F k x) := by
    apply List.ext_getElem?
    intro j
    simp only [List.getElem?_set, List.length_set, gauVals_len, gauVals_get]
    by_cases hj : j < n * 2
    · have hd := Nat.div_add_mod j 2
      rw [if_pos hj]
      by_cases hk : j / 2 = k
      · have hs : setGau F k x (j / 2) = x := by unfold setGau; rw [if_pos hk]
        have hlt := Nat.mod_lt j (show 0 < 2 by decide)
        rw [hs, if_pos hj]
        obtain e | e : j % 2 = 0 ∨ j % 2 = 1 := by omega
        · rw [if_neg (by omega), if_pos (by omega), if_pos (by omega), e]; rfl
        · rw [if_pos (by omega), if_pos (by omega), e]; rfl
      · have hs : setGau F k x (j / 2) = F (j / 2) := by unfold setGau; rw [if_neg hk]
        rw [hs, if_neg (by omega), if_neg (by omega), if_pos hj]
    · rw [if_neg hj]
      simp only [if_neg hj]
      repeat' split
      all_goals first | rfl | omega
  rw [e] at h1
  exact h1
theorem Below.put2at {B c o : Nat} {w W : World} (h : Below B w W) (hc : B ≤ c) (u0 u1 : Value) : Below B w ((W.setCell ⟨c, o, none⟩ u0).setCell ⟨c, o + 1, none⟩ u1) := (h.setCell hc u0).setCell hc u1
theorem OwnGaus.made (w : World) (base g f : Nat) (hb : base ≤ w.heap.size) (hg : g = w.heap.size) (hf : f ≤ maxLen) : OwnGaus (w.alloc (.cells (madeCells #[.int .i64 0, .int .i64 0] (f * 2)) 62)) base (.slice (some ⟨g, 0, none⟩) f f) f (fun _ => Gau.zero) :=
  hg ▸ ⟨by rw [gauVals_len], .inr ⟨w.heap.size, f, _, rfl, hb, heap_alloc_new w _, Nat.le_refl _, hf, by simp [madeCells], by
    apply List.ext_getElem?
    intro j
    rw [gauVals_get]
    have hlt := Nat.mod_lt j (show 0 < 2 by decide)
    by_cases hj : j < f * 2
    · rw [if_pos hj]
      obtain e | e : j % 2 = 0 ∨ j % 2 = 1 := by omega
      all_goals (simp [madeCells, hj, e, Gau.part, Gau.zero])
    · rw [if_neg hj]; simp [madeCells]; omega⟩⟩
theorem gauInfo : (Tryz.prog.info? 62).map (fun i => (i.zero, i.size, i.bytes)) = some (some (.agg #[.int .i64 0, .int .i64 0]), 2, 16) := by kernel_rfl
theorem make_gaus (n : Nat) (hn : n ≤ 1000000000) (w : World) : (Instr.makeSlice 32 (.int .i64 (n : Int)) (.int .i64 (n : Int))).run Tryz.prog w = .ok (.slice (some ⟨w.heap.size, 0, none⟩) n n) (w.alloc (.cells (madeCells #[.int .i64 0, .int .i64 0] (n * 2)) 62)) := by
  obtain ⟨i0, hi, hz0, hz1, hz2⟩ := info_parts gauInfo
  have hr := run_make (P := Tryz.prog) w 32 62 i0 _ Tryz.underlying32 hi hz0 .i64 .i64 n n (by omega) (Int.le_refl _) (by rw [hz2]; omega) (by omega)
  simp only [Int.toNat_natCast, hz1] at hr
  exact hr
/-- F, and then G. -/
def catG (n : Nat) (F G : Nat → Gau) : Nat → Gau := fun j => if j < n then F j else G (j - n)
theorem gauVals_cat (n m : Nat) (F G : Nat → Gau) : gauVals n F ++ gauVals m G = gauVals (n + m) (catG n F G) := by
  apply List.ext_getElem?
  intro j
  rw [List.getElem?_append, gauVals_len, gauVals_get, gauVals_get, gauVals_get]
  unfold catG
  by_cases h1 : j < n * 2
  · rw [if_pos h1, if_pos h1, if_pos (by omega), if_pos (by omega)]
  · rw [if_neg h1]
    by_cases h2 : j - n * 2 < m * 2
    · rw [if_pos h2, if_pos (by omega), if_neg (by omega), show (j - n * 2) / 2 = j / 2 - n by omega, show (j - n * 2) % 2 = j % 2 by omega]
    · rw [if_neg h2, if_neg (by omega)]
theorem ownGaus_nil (w : World) (base : Nat) (F : Nat → Gau) : OwnGaus w base (.slice none 0 0) 0 F := World.ownsRow_nil _ _ _ _
theorem OwnGaus.empty (w : World) (g : Nat) (hg : g = w.heap.size) (F : Nat → Gau) : OwnGaus (w.alloc (.cells #[] 62)) w.heap.size (.slice (some ⟨g, 0, none⟩) 0 0) 0 F := by
  subst hg
  exact World.ownsRow_made w #[] 0 (Nat.le_refl _) (by decide) rfl
theorem ownGaus_form {w : World} {base n : Nat} {v : Value} {F : Nat → Gau} (h : OwnGaus w base v n F) : ∃ A c, v = .slice A n c ∧ n ≤ c ∧ GausAt w base A n F := by
  rcases h.2 with ⟨rfl, hx⟩ | ⟨g, cap, cur, rfl, hb, hg, hnc, hm, hsz, htake⟩
  · subst hx
    exact ⟨_, _, rfl, Nat.le_refl _, GausAt.nil_⟩
  · exact ⟨_, _, rfl, hnc, OwnGaus.gaus h⟩
theorem GausAt.part {w : World} {lo n : Nat} {A : Option Addr} {F : Nat → Gau} (h : GausAt w lo A n F) {j : Nat} (hj : j < n * 2) : ∃ b o, A = some ⟨b, o, none⟩ ∧ w.cell? ⟨b, o + j, none⟩ = some (.int .i64 ((F (j / 2)).part (j % 2))) := by
  obtain ⟨b, o, rfl, -, -, h0, h1⟩ := h (j / 2) (by omega)
  refine ⟨b, o, rfl, ?_⟩
  have hlt := Nat.mod_lt j (show 0 < 2 by decide)
  have hd := Nat.div_add_mod j 2
  obtain e | e : j % 2 = 0 ∨ j % 2 = 1 := by omega
  · rw [e, show o + j = o + j / 2 * 2 by omega]; exact h0
  · rw [e, show o + j = o + j / 2 * 2 + 1 by omega]; exact h1
set_option maxRecDepth 100000 in
theorem run_append_gaus (w : World) (ty : TypeId) (base lo : Nat) (v : Value) (n : Nat) (F : Nat → Gau) (hown : OwnGaus w base v n F)
    (A : Option Addr) (m c : Nat) (G : Nat → Gau) (hr : GausAt w lo A m G) (hnm : n + m ≤ 100000000) (hbase : base ≤ w.heap.size) :
    ∃ v' w', (Builtin.append_ #[32, 32] ty #[v, .slice A m c]).run Tryz.prog w = .ok v' w' ∧ OwnGaus w' base v' (n + m) (catG n F G) ∧ Below base w w' := by
  obtain ⟨i0, hi, hz0, hz1, hz2⟩ := info_parts gauInfo
  cases A with
  | none =>
    have hm : m = 0 := by
      rcases Nat.eq_zero_or_pos m with h0 | h0
      · exact h0
      · obtain ⟨b, o, e, -⟩ := hr 0 h0
        cases e
    subst hm
    have hrun : (Builtin.append_ #[32, 32] ty #[v, .slice none 0 c]).run Tryz.prog w = .ok v w := by
      rcases hown.2 with ⟨rfl, -⟩ | ⟨g, cap, cur, rfl, -, -, hnc, -⟩
      · simp [Builtin.append_, run_underlying Tryz.underlying32, sizeOf, typeInfo, hi, Builtin.lenOf, Builtin.firstCells]
      · simp [Builtin.append_, run_underlying Tryz.underlying32, sizeOf, typeInfo, hi, Builtin.lenOf, Builtin.firstCells, hnc, storeCells]
    exact ⟨v, w, hrun, OwnGaus.congr (F := F) hown fun j hj => by unfold catG; rw [if_pos (show j < n by omega)], Below.refl _ _⟩
  | some ad =>
    obtain ⟨v', w', hrun, hown', hg, -, -⟩ := run_append_own_at (P := Tryz.prog) w base 32 ty 62 i0 (.agg #[.int .i64 0, .int .i64 0]) 2 16 Tryz.underlying32 hi hz0 hz1 hz2 rfl (by decide) v n _ hown ad m c (gauVals m G) (by rw [gauVals_len])
      (fun j u hu => by
        rw [gauVals_get] at hu
        split at hu
        · rename_i hj
          obtain ⟨b, o, e, hc⟩ := hr.part hj
          injection e with e
          subst e
          injection hu with hu
          subst hu
          rw [Addr.add_lit]
          exact hc
        · cases hu)
      (fun u hu => by
        obtain ⟨j, -, rfl⟩ := List.mem_map.1 hu
        rfl) (by unfold maxLen; omega) (by omega) hbase
    rw [gauVals_cat] at hown'
    exact ⟨v', w', hrun, hown', (Below.refl _ _).grown hg hbase (fun k hk => (World.ownsRow.lt hown k hk).1)⟩
theorem wp_append_gaus {o : Oper} {a : Act} {K : Act → World → Prop} {Q : Exit → Act → World → Prop} (w : World) (s x : Operand)
    (ho : o.op = .call { callee := .builtin .append, args := #[s, x], argTypes := #[32, 32] })
    (base lo : Nat) (v : Value) (n : Nat) (F : Nat → Gau) (hs : a.eval s = v) (hown : OwnGaus w base v n F)
    (A : Option Addr) (m c : Nat) (G : Nat → Gau) (hx : a.eval x = .slice A m c) (hr : GausAt w lo A m G) (hnm : n + m ≤ 100000000) (hbase : base ≤ w.heap.size)
    (h : ∀ v' w', OwnGaus w' base v' (n + m) (catG n F G) → Below base w w' → K (a.put o.dst v') w') : o.wp Tryz.prog a w K Q := by
  obtain ⟨v', w', hrun, h1, h2⟩ := run_append_gaus w o.type base lo v n F hown A m c G hr hnm hbase
  unfold Oper.wp execOp
  simp only [ho, resolve, invoke, builtin, Sem.run_bind, Sem.run_pure, Result.andThen_ok, List.map_toArray, List.map_cons, List.map_nil, hs, hx, hrun]
  exact h v' w' h1 h2
theorem wpList_append_gaus {ops : Array Oper} {rest : List Oper} {o : Oper} {a : Act} {Q : Exit → Act → World → Prop} (w : World) (hgd : o.guard = none) (s x : Operand)
    (ho : o.op = .call { callee := .builtin .append, args := #[s, x], argTypes := #[32, 32] })
    (base lo : Nat) (v : Value) (n : Nat) (F : Nat → Gau) (hs : a.eval s = v) (hown : OwnGaus w base v n F)
    (A : Option Addr) (m c : Nat) (G : Nat → Gau) (hx : a.eval x = .slice A m c) (hr : GausAt w lo A m G) (hnm : n + m ≤ 100000000) (hbase : base ≤ w.heap.size)
    (h : ∀ v' w', OwnGaus w' base v' (n + m) (catG n F G) → Below base w w' → wpList Tryz.prog ops Q rest (a.put o.dst v') w') : wpList Tryz.prog ops Q (o :: rest) a w :=
  wpList_plain hgd fun _ hK => wp_append_gaus w s x ho base lo v n F hs hown A m c G hx hr hnm hbase fun v' w' h1 h2 => hK _ _ (h v' w' h1 h2)
theorem step_append_gaus {ops : Array Oper} {o : Oper} {a : Act} {K : Act → World → Prop} {Q : Exit → Act → World → Prop} {E : Prop} (w : World) (hgd : o.guard = none) (s x : Operand)
    (ho : o.op = .call { callee := .builtin .append, args := #[s, x], argTypes := #[32, 32] })
    (base lo : Nat) (v : Value) (n : Nat) (F : Nat → Gau) (hs : a.eval s = v) (hown : OwnGaus w base v n F)
    (A : Option Addr) (m c : Nat) (G : Nat → Gau) (hx : a.eval x = .slice A m c) (hr : GausAt w lo A m G) (hnm : n + m ≤ 100000000) (hbase : base ≤ w.heap.size)
    (h : ∀ v' w', OwnGaus w' base v' (n + m) (catG n F G) → Below base w w' → K (a.put o.dst v') w') :
    if Region.wanted o (yielded ops a.tmps) = true then Oper.wp Tryz.prog o a w K Q else E := by
  have hw : Region.wanted o (yielded ops a.tmps) = true := by simp [Region.wanted, hgd]
  rw [if_pos hw]
  exact wp_append_gaus w s x ho base lo v n F hs hown A m c G hx hr hnm hbase h
end Go.Proofs.YtcdplfjegopmdaaGreat
