/- Lemmas: F1, F2. -/
import Derived.Test.YtfemghbjngemlaaRows
import Derived.Laws.ComplexArith
import Derived.Laws.Cover2
import Derived.Test.YtfemghbjngemlaaBk17
set_option linter.unusedVariables false
set_option linter.unusedSimpArgs false
/- Floats whose values are whole numbers: sums, differences and products of them are exact, as long as they are below 2^53; the same for complex numbers. -/
namespace Go.Proofs.Ytfemghbjngemlaa
open Ieee
/-- A datum that is a whole number. -/
def WholeD (d : Datum) (n : Int) : Prop := ∃ (s : Bool) (k : Nat), d = .number s (n.natAbs * 2 ^ k) (-(k : Int)) ∧ (n ≠ 0 → s = decide (n < 0))
/-- The bits of a whole number (a zero of either sign). -/
def Whole (b : Nat) (n : Int) : Prop := WholeD (double.read b) n
theorem dbl_binade : double.binade = 4503599627370496 := by decide
theorem dbl_sign : double.signWeight = 9223372036854775808 := by decide
theorem dbl_inf : double.infRung = 9218868437227405312 := by decide
theorem dbl_least : double.leastPlace = -1074 := by decide
theorem dbl_frac : double.fractionBits = 52 := rfl
theorem log2_mul_pow {a : Nat} (h : 0 < a) (k : Nat) : (a * 2 ^ k).log2 = a.log2 + k := by
  have h0 : a ≠ 0 := by omega
  have hp : 0 < 2 ^ k := Nat.two_pow_pos k
  have hm : a * 2 ^ k ≠ 0 := Nat.mul_ne_zero h0 (by omega)
  have h1 := Nat.log2_self_le h0
  have h2 : a < 2 ^ (a.log2 + 1) := Nat.lt_log2_self
  apply Nat.le_antisymm
  · have : (a * 2 ^ k).log2 < a.log2 + k + 1 := (Nat.log2_lt hm).2 (by
      rw [show a.log2 + k + 1 = (a.log2 + 1) + k by omega, Nat.pow_add]
      exact Nat.mul_lt_mul_of_pos_right h2 hp)
    omega
  · exact (Nat.le_log2 hm).2 (by rw [Nat.pow_add]; exact Nat.mul_le_mul_right _ h1)
theorem cut_keep (s : Bool) (M : Nat) : Toward.even.cut s M 0 = M := by
  simp [Toward.cut, Nat.mod_one]
theorem cut_drop (s : Bool) {a d e : Nat} (h : 0 < a) : Toward.even.cut s (a * 2 ^ (e + d)) d = a * 2 ^ e := by
  have hl := log2_mul_pow h (e + d)
  have hg : (1 <<< min d ((a * 2 ^ (e + d)).log2 + 2)) = 2 ^ d := by
    rw [hl, Nat.min_eq_left (by omega), Nat.one_shiftLeft]
  have hp : 0 < 2 ^ d := Nat.two_pow_pos d
  have e1 : a * 2 ^ (e + d) = a * 2 ^ e * 2 ^ d := by rw [Nat.pow_add, Nat.mul_assoc]
  unfold Toward.cut
  simp only [hg]
  rw [e1, Nat.mul_div_cancel _ hp, Nat.mul_mod_left]
  have h2 : (2 ^ d == 2 * 0) = false := by simp
  simp [h2]
theorem nearest_whole (s : Bool) {a : Nat} (k : Nat) (h : 0 < a) (ha : a < 2 ^ 53) : double.nearest s (a * 2 ^ k) (-(k : Int)) = double.word s ((a.log2 + 1022) * 4503599627370496 + a * 2 ^ (52 - a.log2)) ∧ 4503599627370496 ≤ a * 2 ^ (52 - a.log2) ∧ a * 2 ^ (52 - a.log2) < 9007199254740992 ∧ a.log2 ≤ 52 := by
  have h0 : a ≠ 0 := by omega
  have hL : a.log2 ≤ 52 := by have := (Nat.log2_lt h0).2 ha; omega
  obtain ⟨L, hLe⟩ : ∃ L, a.log2 = L := ⟨_, rfl⟩
  have hl := log2_mul_pow h k
  have h1 := Nat.log2_self_le h0
  have h2 : a < 2 ^ (a.log2 + 1) := Nat.lt_log2_self
  rw [hLe] at hL hl h1 h2 ⊢
  have hM1 : 4503599627370496 ≤ a * 2 ^ (52 - L) := by
    have : 2 ^ L * 2 ^ (52 - L) = 4503599627370496 := by rw [← Nat.pow_add, show L + (52 - L) = 52 by omega]
    rw [← this]
    exact Nat.mul_le_mul_right _ h1
  have hM2 : a * 2 ^ (52 - L) < 9007199254740992 := by
    have : 2 ^ (L + 1) * 2 ^ (52 - L) = 9007199254740992 := by rw [← Nat.pow_add, show L + 1 + (52 - L) = 53 by omega]
    rw [← this]
    exact Nat.mul_lt_mul_of_pos_right h2 (Nat.two_pow_pos _)
  refine ⟨?_, hM1, hM2, hL⟩
  have hm : ¬ a * 2 ^ k = 0 := Nat.mul_ne_zero h0 (by have := Nat.two_pow_pos k; omega)
  unfold Format.nearest
  rw [if_neg hm]
  simp only [hl, dbl_frac, dbl_least, dbl_binade, dbl_inf]
  have hlast : max (-(k : Int) + ((L + k : Nat) : Int) - ((52 : Nat) : Int)) (-1074) = (L : Int) - 52 := by omega
  rw [hlast]
  have hsh : ((L : Int) - 52 - -1074).toNat = L + 1022 := by omega
  rw [hsh]
  by_cases hk : k ≤ 52 - L
  · rw [show (-(k : Int) - ((L : Int) - 52)).toNat = 52 - L - k by omega, show ((L : Int) - 52 - -(k : Int)).toNat = 0 by omega, Nat.shiftLeft_eq, Nat.mul_assoc, ← Nat.pow_add, show k + (52 - L - k) = 52 - L by omega, cut_keep, Nat.min_eq_left (by omega)]
  · obtain ⟨d, hd⟩ : ∃ d, k = (52 - L) + d := ⟨k - (52 - L), by omega⟩
    rw [show (-(k : Int) - ((L : Int) - 52)).toNat = 0 by omega, show ((L : Int) - 52 - -(k : Int)).toNat = d by omega, Nat.shiftLeft_zero, hd, cut_drop s h, Nat.min_eq_left (by omega)]
theorem write_whole {s : Bool} {n : Int} (k : Nat) (hn : n.natAbs < 2 ^ 53) (hs : n ≠ 0 → s = decide (n < 0)) : Whole (double.write (.number s (n.natAbs * 2 ^ k) (-(k : Int)))) n := by
  show WholeD (double.read (double.nearest s (n.natAbs * 2 ^ k) (-(k : Int)))) n
  by_cases h0 : n = 0
  · subst h0
    have e : double.nearest s (Int.natAbs 0 * 2 ^ k) (-(k : Int)) = double.word s 0 := by
      unfold Format.nearest
      rw [if_pos (by simp)]
    rw [e]
    obtain ⟨q, hq⟩ : ∃ q : Nat, (q : Int) = 1074 := ⟨1074, rfl⟩
    refine ⟨s, q, ?_, fun h => absurd rfl h⟩
    rw [hq, show Int.natAbs 0 * 2 ^ q = 0 from Nat.zero_mul _]
    cases s <;> decide
  · have ha : 0 < n.natAbs := by omega
    obtain ⟨h1, h2, h3, h4⟩ := nearest_whole s k ha hn
    rw [h1]
    refine ⟨s, 52 - n.natAbs.log2, ?_, hs⟩
    obtain ⟨L, hL⟩ : ∃ L, n.natAbs.log2 = L := ⟨_, rfl⟩
    rw [hL] at h2 h3 h4 ⊢
    obtain ⟨M, hM⟩ : ∃ M, n.natAbs * 2 ^ (52 - L) = M := ⟨_, rfl⟩
    rw [hM] at h2 h3 ⊢
    obtain ⟨R, hR⟩ : ∃ R, (L + 1022) * 4503599627370496 + M = R := ⟨_, rfl⟩
    rw [hR]
    have r1 : R / 4503599627370496 = L + 1023 := by omega
    have r2 : R % 4503599627370496 = M - 4503599627370496 := by omega
    unfold Format.read Format.word
    simp only [dbl_binade, dbl_sign, dbl_inf, dbl_least]
    have w1 : (if s = true then 9223372036854775808 + R else R) % 9223372036854775808 = R := by split <;> omega
    have w2 : ((if s = true then 9223372036854775808 + R else R) / 9223372036854775808 % 2 == 1) = s := by
      cases s
      · rw [if_neg (by decide), show R / 9223372036854775808 = 0 by omega]; rfl
      · rw [if_pos rfl, show (9223372036854775808 + R) / 9223372036854775808 = 1 by omega]; rfl
    have e1 : 4503599627370496 + (M - 4503599627370496) = M := Nat.add_sub_of_le h2
    have e2 : (-1074 : Int) + ((L + 1023 - 1 : Nat) : Int) = -((52 - L : Nat) : Int) := by omega
    rw [w1, w2, if_neg (by omega), if_pos (by omega), r2, r1, e1, e2]
theorem signed_whole {s : Bool} {n : Int} (hs : n ≠ 0 → s = decide (n < 0)) (k u : Nat) : signed s (n.natAbs * 2 ^ k) u = n * 2 ^ (k + u) := by
  unfold signed
  rw [Nat.shiftLeft_eq, Nat.mul_assoc, ← Nat.pow_add]
  by_cases h0 : n = 0
  · subst h0; simp
  · rw [hs h0]
    by_cases hn : n < 0
    · simp only [hn, decide_true, if_true]
      push_cast
      rw [← Int.neg_mul]
      congr 1
      omega
    · simp only [hn, decide_false]
      push_cast
      congr 1
      omega
theorem whole_sumD {d e : Datum} {n m : Int} (h1 : WholeD d n) (h2 : WholeD e m) (hb : (n + m).natAbs < 2 ^ 53) : ∃ r, (d.sum e).map double.write = some r ∧ Whole r (n + m) := by
  obtain ⟨s, k, rfl, hs⟩ := h1
  obtain ⟨t, j, rfl, ht⟩ := h2
  obtain ⟨u, hu⟩ : ∃ u, u = max k j := ⟨_, rfl⟩
  have hbase : min (-(k : Int)) (-(j : Int)) = -(u : Int) := by omega
  simp only [Datum.sum, hbase]
  have e1 : (-(k : Int) - -(u : Int)).toNat = u - k := by omega
  have e2 : (-(j : Int) - -(u : Int)).toNat = u - j := by omega
  rw [e1, e2, signed_whole hs, signed_whole ht, show k + (u - k) = u by omega, show j + (u - j) = u by omega, ← Int.add_mul]
  have hp : (0 : Int) < 2 ^ u := by have := Nat.two_pow_pos u; exact_mod_cast this
  have e3 : ((n + m) * 2 ^ u).natAbs = (n + m).natAbs * 2 ^ u := by rw [Int.natAbs_mul]; congr 1
  rw [e3]
  refine ⟨_, rfl, write_whole u hb fun hne => ?_⟩
  have hne2 : ¬ (n + m) * 2 ^ u = 0 := Int.mul_ne_zero hne (by omega)
  rw [if_neg hne2]
  by_cases hlt : n + m < 0
  · simp [hlt, Int.mul_neg_of_neg_of_pos hlt hp]
  · have : ¬ (n + m) * 2 ^ u < 0 := by have := Int.mul_nonneg (show 0 ≤ n + m by omega) (Int.le_of_lt hp); omega
    simp [hlt, this]
theorem whole_add {x y : Nat} {n m : Int} (h1 : Whole x n) (h2 : Whole y m) (hb : (n + m).natAbs < 2 ^ 53) : ∃ r, floatBits .add .f64 x y = some r ∧ Whole r (n + m) := whole_sumD h1 h2 hb
theorem whole_opposite {d : Datum} {n : Int} (h : WholeD d n) : WholeD d.opposite (-n) := by
  obtain ⟨s, k, rfl, hs⟩ := h
  refine ⟨!s, k, by simp [Datum.opposite], fun hne => ?_⟩
  have hn : n ≠ 0 := by omega
  rw [hs hn]
  by_cases hlt : n < 0
  · have : ¬ -n < 0 := by omega
    simp [hlt]
    omega
  · have : -n < 0 := by omega
    simp [hlt]
    omega
theorem whole_sub {x y : Nat} {n m : Int} (h1 : Whole x n) (h2 : Whole y m) (hb : (n - m).natAbs < 2 ^ 53) : ∃ r, floatBits .sub .f64 x y = some r ∧ Whole r (n - m) := by
  rw [Int.sub_eq_add_neg] at hb ⊢
  exact whole_sumD h1 (whole_opposite h2) hb
theorem whole_mul {x y : Nat} {n m : Int} (h1 : Whole x n) (h2 : Whole y m) (hb : (n * m).natAbs < 2 ^ 53) : ∃ r, floatBits .mul .f64 x y = some r ∧ Whole r (n * m) := by
  obtain ⟨s, k, h1, hs⟩ := h1
  obtain ⟨t, j, h2, ht⟩ := h2
  show ∃ r, ((double.read x).product (double.read y)).map double.write = some r ∧ _
  rw [h1, h2]
  simp only [Datum.product]
  have e1 : n.natAbs * 2 ^ k * (m.natAbs * 2 ^ j) = (n * m).natAbs * 2 ^ (k + j) := by
    rw [Int.natAbs_mul, Nat.pow_add]
    ac_rfl
  have e2 : -(k : Int) + -(j : Int) = -((k + j : Nat) : Int) := by omega
  rw [e1, e2]
  refine ⟨_, rfl, write_whole (k + j) hb fun hne => ?_⟩
  have hn : n ≠ 0 := fun e => hne (by rw [e, Int.zero_mul])
  have hm : m ≠ 0 := fun e => hne (by rw [e, Int.mul_zero])
  rw [hs hn, ht hm]
  rcases Int.lt_or_gt_of_ne hn with a | a <;> rcases Int.lt_or_gt_of_ne hm with b | b
  · have := Int.mul_pos_of_neg_of_neg a b; simp [a, b]; omega
  · have := Int.mul_neg_of_neg_of_pos a b; simp [a, this]; omega
  · have := Int.mul_neg_of_pos_of_neg a b; simp [b, this]; omega
  · have hp := Int.mul_pos a b
    have i1 : ¬ n < 0 := by omega
    have i2 : ¬ m < 0 := by omega
    have i3 : ¬ n * m < 0 := by omega
    rw [decide_eq_false i1, decide_eq_false i2, decide_eq_false i3]
    rfl
theorem whole_ofInt {n : Int} (hn : n.natAbs < 2 ^ 53) : Whole (floatOfInt .f64 n) n := by
  have h := write_whole (s := decide (n < 0)) 0 hn fun _ => rfl
  rw [show n.natAbs * 2 ^ 0 = n.natAbs by simp] at h
  exact h
theorem whole_toInt {x : Nat} {n : Int} (h : Whole x n) (hn : n.natAbs < 2 ^ 53) : floatToIntVal .f64 x .i64 = some n := by
  obtain ⟨s, k, h1, hs⟩ := h
  have hcut : Toward.zero.cut s ((n.natAbs * 2 ^ k) <<< (-(k : Int)).toNat) (- -(k : Int)).toNat = n.natAbs := by
    rw [show (-(k : Int)).toNat = 0 by omega, Nat.shiftLeft_zero, show (- -(k : Int)).toNat = k by omega]
    by_cases h0 : n = 0
    · subst h0
      simp [Toward.cut]
    · have ha : 0 < n.natAbs := by omega
      unfold Toward.cut
      rw [log2_mul_pow ha, Nat.min_eq_left (by omega), Nat.one_shiftLeft]
      simp only [Nat.mul_div_cancel _ (Nat.two_pow_pos k)]
      simp
  have ht : (double.read x).toInt .zero = some n := by
    unfold Datum.toInt
    rw [h1]
    simp only [Datum.integral, hcut]
    have := signed_whole hs 0 0
    rw [show n.natAbs * 2 ^ 0 = n.natAbs by simp] at this
    rw [this]
    simp
  unfold floatToIntVal
  show (match (double.read x).toInt .zero with | some n => _ | none => _) = _
  rw [ht]
  have h1 : IntKind.i64.min ≤ n ∧ n ≤ IntKind.i64.max := by
    have e1 : IntKind.i64.min = -9223372036854775808 := by decide
    have e2 : IntKind.i64.max = 9223372036854775807 := by decide
    rw [e1, e2]
    omega
  simp only [h1, and_self, if_true]
theorem whole_one : Whole 4607182418800017408 1 := by
  have h := whole_ofInt (n := 1) (by decide)
  rwa [show floatOfInt .f64 1 = 4607182418800017408 by decide] at h
theorem whole_minus : Whole 13830554455654793216 (-1) := by
  have h := whole_ofInt (n := -1) (by decide)
  rwa [show floatOfInt .f64 (-1) = 13830554455654793216 by decide] at h
theorem whole_zero : Whole 0 0 := by
  have h := whole_ofInt (n := 0) (by decide)
  rwa [show floatOfInt .f64 0 = 0 by decide] at h
/-- A product of complex numbers whose parts are whole. -/
theorem whole_cmul {a b c d : Nat} {p q r s : Int} (ha : Whole a p) (hb : Whole b q) (hc : Whole c r) (hd : Whole d s) (h1 : (p * r).natAbs < 2 ^ 53) (h2 : (q * s).natAbs < 2 ^ 53) (h3 : (p * r - q * s).natAbs < 2 ^ 53) (h4 : (p * s).natAbs < 2 ^ 53) (h5 : (q * r).natAbs < 2 ^ 53) (h6 : (p * s + q * r).natAbs < 2 ^ 53) :
    ∃ x y, cMulBits a b c d = some (x, y) ∧ Whole x (p * r - q * s) ∧ Whole y (p * s + q * r) := by
  obtain ⟨ac, e1, w1⟩ := whole_mul ha hc h1
  obtain ⟨bd, e2, w2⟩ := whole_mul hb hd h2
  obtain ⟨x, e3, w3⟩ := whole_sub w1 w2 h3
  obtain ⟨ad, e4, w4⟩ := whole_mul ha hd h4
  obtain ⟨bc, e5, w5⟩ := whole_mul hb hc h5
  obtain ⟨y, e6, w6⟩ := whole_add w4 w5 h6
  exact ⟨x, y, by simp [cMulBits, e1, e2, e3, e4, e5, e6], w3, w6⟩
theorem whole_csum {a b c d : Nat} {p q r s : Int} (ha : Whole a p) (hb : Whole b q) (hc : Whole c r) (hd : Whole d s) (h1 : (p + r).natAbs < 2 ^ 53) (h2 : (q + s).natAbs < 2 ^ 53) :
    ∃ x y, cSumBits .add .f64 a b c d = some (x, y) ∧ Whole x (p + r) ∧ Whole y (q + s) := by
  obtain ⟨x, e1, w1⟩ := whole_add ha hc h1
  obtain ⟨y, e2, w2⟩ := whole_add hb hd h2
  exact ⟨x, y, by simp [cSumBits, e1, e2], w1, w2⟩
end Go.Proofs.Ytfemghbjngemlaa
/- Arrays [4]api.Gauss as values and in blocks. -/
namespace Go.Proofs.Ytfemghbjngemlaa
open Go.RowKit Go.Great
def g4C (F : Nat → Gau) (j : Nat) : Value := .int .i64 ((F (j / 2)).part (j % 2))
def arrG4 (F : Nat → Gau) : Array Value := ((List.range 8).map (g4C F)).toArray
theorem arrG4_size (F : Nat → Gau) : (arrG4 F).size = 8 := by simp [arrG4]
theorem arrG4_at (F : Nat → Gau) (i : Nat) (h : i < 8) : (arrG4 F)[i]? = some (g4C F i) := by
  rw [arrG4, List.getElem?_toArray, List.getElem?_map, List.getElem?_range h]
  rfl
theorem arrG4_one (F : Nat → Gau) : (arrG4 F).all (·.oneCell') = true := by
  rw [Array.all_eq_true_iff_forall_mem]
  intro v hv
  obtain ⟨i, _, rfl⟩ := List.mem_map.1 (List.mem_toArray.1 hv)
  rfl
theorem arrG4_congr {F G : Nat → Gau} (h : ∀ k, k < 4 → F k = G k) : arrG4 F = arrG4 G := by
  unfold arrG4
  congr 1
  exact List.map_congr_left fun j hj => by
    have := List.mem_range.1 hj
    unfold g4C
    rw [h (j / 2) (by omega)]
theorem infoG4 : (Try.prog.info? 45).map (·.size) = some 8 := by kernel_rfl
def ArrG4 (w : World) (b : Nat) (F : Nat → Gau) : Prop := w.rowIs b 45 8 (g4C F)
theorem ArrG4.below {w w' : World} {b : Nat} {F : Nat → Gau} (h : ArrG4 w b F) (hb : Below w.heap.size w w') : ArrG4 w' b F := rowIs_below h hb
theorem ArrG4.alloc {w : World} {b : Nat} {F : Nat → Gau} (h : ArrG4 w b F) (o : Obj) : ArrG4 (w.alloc o) b F := World.rowIs.alloc h o
theorem ArrG4.drew {w : World} {b : Nat} {F : Nat → Gau} (h : ArrG4 w b F) : ArrG4 w.drew b F := h
theorem ArrG4.lt {w : World} {b : Nat} {F : Nat → Gau} (h : ArrG4 w b F) : b < w.heap.size := World.rowIs.lt h
theorem ArrG4.congr {w : World} {b : Nat} {F G : Nat → Gau} (h : ArrG4 w b F) (e : ∀ k, k < 4 → F k = G k) : ArrG4 w b G := World.rowIs.congr h fun j hj => by
  unfold g4C
  rw [e (j / 2) (by omega)]
theorem ArrG4.part {w : World} {b : Nat} {F : Nat → Gau} (h : ArrG4 w b F) {k i : Nat} (hk : k < 4) (hi : i < 2) : w.cell? ⟨b, k * 2 + i, none⟩ = some (.int .i64 ((F k).part i)) := by
  rw [World.rowIs.cell h (by omega)]
  unfold g4C
  rw [show (k * 2 + i) / 2 = k by omega, show (k * 2 + i) % 2 = i by omega]
theorem ArrG4.cells {w : World} {b : Nat} {F : Nat → Gau} (h : ArrG4 w b F) {k : Nat} (hk : k < 4) :
    w.cell? ⟨b, k * 2, none⟩ = some (.int .i64 (F k).re) ∧ w.cell? ⟨b, k * 2 + 1, none⟩ = some (.int .i64 (F k).im) :=
  ⟨h.part hk (show 0 < 2 by decide), h.part hk (show 1 < 2 by decide)⟩
theorem ArrG4.frozen2 {w : World} {b : Nat} {F : Nat → Gau} (h : ArrG4 w b F) (k : Nat) : w.frozen? ⟨b, k * 2, none⟩ = false ∧ w.frozen? ⟨b, k * 2 + 1, none⟩ = false := ⟨World.rowIs.frozen h _, World.rowIs.frozen h _⟩
theorem ArrG4.other {w : World} {b c o : Nat} {F : Nat → Gau} (h : ArrG4 w b F) (hn : b ≠ c) (u0 u1 : Value) : ArrG4 ((w.setCell ⟨c, o, none⟩ u0).setCell ⟨c, o + 1, none⟩ u1) b F :=
  ((World.rowIs.setOther h (a := ⟨c, o, none⟩) hn u0).setOther (a := ⟨c, o + 1, none⟩) hn u1)
def setG4 (F : Nat → Gau) (k : Nat) (x : Gau) (j : Nat) : Gau := if j = k then x else F j
theorem ArrG4.put {w : World} {b : Nat} {F : Nat → Gau} (h : ArrG4 w b F) (k : Nat) (x : Gau) :
    ArrG4 ((w.setCell ⟨b, k * 2, none⟩ (.int .i64 x.re)).setCell ⟨b, k * 2 + 1, none⟩ (.int .i64 x.im)) b (setG4 F k x) := by
  refine ((World.rowIs.set h (k * 2) (.int .i64 x.re)).set (k * 2 + 1) (.int .i64 x.im)).congr fun j hj => ?_
  show (if j = k * 2 + 1 then Value.int .i64 x.im else if j = k * 2 then .int .i64 x.re else g4C F j) = g4C (setG4 F k x) j
  unfold g4C setG4
  have hd := Nat.div_add_mod j 2
  have hlt := Nat.mod_lt j (show 0 < 2 by decide)
  by_cases hk : j / 2 = k
  · rw [if_pos hk]
    obtain e | e : j % 2 = 0 ∨ j % 2 = 1 := by omega
    · rw [if_neg (by omega), if_pos (by omega), e]; rfl
    · rw [if_pos (by omega), e]; rfl
  · rw [if_neg hk, if_neg (by omega), if_neg (by omega)]
theorem ArrG4.at_alloc (w : World) (F : Nat → Gau) (b : Nat) (hb : b = w.heap.size) : ArrG4 (w.alloc (.cells (arrG4 F) 45)) b F := by
  subst hb
  have := World.rowIs_alloc w (arrG4 F) 45 (g4C F) (fun i hi => arrG4_at F i (by rwa [arrG4_size] at hi))
  rwa [arrG4_size] at this
theorem run_loadG4 {W : World} {b : Nat} {F : Nat → Gau} (hr : ArrG4 W b F) : (loadVar 45 ⟨b, 0, none⟩).run Try.prog W = .ok (.agg (arrG4 F)) W :=
  run_loadVar_mid (P := Try.prog) W b 0 45 ((List.range 8).map (g4C F)) _ (range_of_row hr) Try.underlying45 rfl (by rw [infoG4]; simp)
theorem wpList_loadG4 {ops : Array Oper} {rest : List Oper} {op : Oper} {a : Act} {w : World} {Q : Exit → Act → World → Prop} (hw : Region.wanted op (yielded ops a.tmps) = true) (x : Operand) (ho : op.op = .load 45 x)
    (b : Nat) (F : Nat → Gau) (hx : a.eval x = .pointer (some ⟨b, 0, none⟩)) (hr : ArrG4 w b F)
    (h : wpList Try.prog ops Q rest (a.put op.dst (.agg (arrG4 F))) w) : wpList Try.prog ops Q (op :: rest) a w :=
  wpList_step fun K hK => by
    rw [if_pos hw]
    exact wp_load_mid (P := Try.prog) 45 x ho b 0 hx ((List.range 8).map (g4C F)) _ (range_of_row hr) Try.underlying45 rfl (by rw [infoG4]; simp) (hK _ _ h)
theorem wpList_storeG4 {ops : Array Oper} {rest : List Oper} {op : Oper} {a : Act} {w : World} {Q : Exit → Act → World → Prop} (hgd : op.guard = none) (x y : Operand) (ho : op.op = .store 45 x y)
    (b : Nat) (F0 F : Nat → Gau) (hx : a.eval x = .pointer (some ⟨b, 0, none⟩)) (hy : a.eval y = .agg (arrG4 F)) (hb : ArrG4 w b F0)
    (h : ∀ W, ArrG4 W b F → Only b w W → wpList Try.prog ops Q rest (a.put op.dst undef) W) : wpList Try.prog ops Q (op :: rest) a w :=
  wpList_store_block hgd 45 x y ho b 45 8 (g4C F0) (g4C F) (arrG4 F) hx hy hb (arrG4_size F) infoG4 (arrG4_one F) (arrG4_at F) h
theorem exec_loadG4 {a : Act} {x : Operand} {d : Option Tmp} {ty : TypeId} {pos : String} {aft : Array Edge} {gd : Option (Nat × Bool)} {b : Nat} {F : Nat → Gau} {W : World} (hx : a.eval x = .pointer (some ⟨b, 0, none⟩)) (hr : ArrG4 W b F) :
    (execOp a.eval (⟨d, .load 45 x, ty, pos, aft, gd⟩ : Oper)).run Try.prog W = .ok (.value (.agg (arrG4 F))) W := by
  unfold execOp
  simp only [hx, Instr.loadAt, Instr.sureAddr, Sem.run_bind, Sem.run_pure, Result.andThen_ok, run_loadG4 hr]
theorem result2G4 {fn : Func} {p q : Tmp} {b : Nat} {F : Nat → Gau} {e : Value} {W : World} (h : fn.results = #[.cell p 45, .tmp q]) (tmps : Array Value) (ht : tmps.getD p undef = .pointer (some ⟨b, 0, none⟩)) (he : tmps.getD q undef = e) (hr : ArrG4 W b F) :
    (results fn tmps).run Try.prog W = .ok (.tuple #[.agg (arrG4 F), e]) W := by
  rw [results_cell2 h, ht, he]
  simp only [asAddr, Sem.run_pure, Result.andThen, run_loadG4 hr]
theorem result1G4 {fn : Func} {p : Tmp} {b : Nat} {F : Nat → Gau} {W : World} (h : fn.results = #[.cell p 45]) (tmps : Array Value) (ht : tmps.getD p undef = .pointer (some ⟨b, 0, none⟩)) (hr : ArrG4 W b F) :
    (results fn tmps).run Try.prog W = .ok (.agg (arrG4 F)) W := by
  rw [results_cellA h, ht]
  simp only [asAddr, Sem.run_pure, Result.andThen, run_loadG4 hr]
theorem arrG4_el (F : Nat → Gau) (k : Nat) (hk : k < 4) : (arrG4 F).extract (k * 2) (k * 2 + 2) = #[.int .i64 (F k).re, .int .i64 (F k).im] := by
  obtain rfl | rfl | rfl | rfl : k = 0 ∨ k = 1 ∨ k = 2 ∨ k = 3 := by omega
  all_goals rfl
set_option maxRecDepth 100000 in
theorem equal_elG4 (x0 x1 : Int) (w : World) : (Op.equalIn 9999 23 (.agg #[.int .i64 x0, .int .i64 x1]) (.agg #[.int .i64 x0, .int .i64 x1])).run Try.prog w = .ok true w := by
  go_simp
theorem cells_elG4 : Try.prog.cellsOf 23 = 2 := by kernel_rfl
theorem equalG4_same (F : Nat → Gau) (w : World) : (Op.equalIn 10000 45 (.agg (arrG4 F)) (.agg (arrG4 F))).run Try.prog w = .ok true w := by
  obtain ⟨i0, hi, hz0, hz1, hz2⟩ := info_parts gauInfo
  have h := run_equalIn_array (P := Try.prog) (w := w) 9999 (n := 4) (arrG4 F) (arrG4 F) Try.underlying45 hi
  refine h.trans ?_
  rw [cells_elG4]
  have e : ∀ (is : List Nat), (∀ k ∈ is, k < 4) → (Op.eqItems 9999 23 2 (arrG4 F) (arrG4 F) is).run Try.prog w = .ok true w := by
    intro is
    induction is with
    | nil => intro _; simp [Op.eqItems]
    | cons k is ih =>
      intro hk
      have h4 := arrG4_el F k (hk k (by simp))
      have ih := ih fun q hq => hk q (by simp [hq])
      simp only [Op.eqItems, Sem.run_bind]
      simp [go_sem, h4, ih, equal_elG4]
  exact e _ fun k hk => List.mem_range.1 hk
theorem zeroG4 : arrG4 (fun _ => Gau.zero) = #[.int .i64 0, .int .i64 0, .int .i64 0, .int .i64 0, .int .i64 0, .int .i64 0, .int .i64 0, .int .i64 0] := rfl
theorem equalG4_zero (W : World) : (Op.equalIn 10000 45 (.agg (arrG4 fun _ => Gau.zero)) (.agg #[.int .i64 0, .int .i64 0, .int .i64 0, .int .i64 0, .int .i64 0, .int .i64 0, .int .i64 0, .int .i64 0])).run Try.prog W = .ok true W := equalG4_same (fun _ => Gau.zero) W
theorem run_indexG4 (F : Nat → Gau) (k : Nat) (w : World) (hk : k < 4) : (Instr.index 45 (.agg (arrG4 F)) (.int .i64 (k : Int))).run Try.prog w = .ok (.agg #[.int .i64 (F k).re, .int .i64 (F k).im]) w := by
  have h1 : (k : Int) < 4 := by omega
  have h2 : (0 : Int) ≤ (k : Int) := by omega
  have h3 := arrG4_el F k hk
  have h4 := cells_elG4
  simp [Instr.index, run_underlying Try.underlying45, asIntOf, go_sem, h1, h2, h3, h4, arrG4_size]
  intro h; omega
theorem wpList_indexG4 {ops : Array Oper} {rest : List Oper} {o : Oper} {a : Act} {w : World} {Q : Exit → Act → World → Prop} (hgd : o.guard = none) (s i : Operand) (ho : o.op = .index 45 s i)
    (F : Nat → Gau) (k : Nat) (hs : a.eval s = .agg (arrG4 F)) (hi : a.eval i = .int .i64 (k : Int)) (hk : k < 4)
    (h : wpList Try.prog ops Q rest (a.put o.dst (.agg #[.int .i64 (F k).re, .int .i64 (F k).im])) w) : wpList Try.prog ops Q (o :: rest) a w :=
  wpList_plain hgd fun _ hK => by
    unfold Oper.wp execOp
    simp only [ho, hs, hi, Sem.run_bind, Sem.run_pure, Result.andThen_ok, run_indexG4 F k w hk]
    exact hK _ _ h
theorem ArrG4.slice {w : World} {b : Nat} {F : Nat → Gau} (h : ArrG4 w b F) : GausAt w 0 (some ⟨b, 0, none⟩) 4 F := fun i hi => by
  obtain ⟨k0, k1⟩ := h.cells hi
  exact ⟨b, 0, rfl, Nat.zero_le _, h.lt, by simpa using k0, by simpa using k1⟩
end Go.Proofs.Ytfemghbjngemlaa
