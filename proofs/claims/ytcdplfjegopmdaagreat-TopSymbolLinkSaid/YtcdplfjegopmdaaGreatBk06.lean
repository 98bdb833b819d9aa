/- Lemmas: Hm, KDm, KFc, KGb, KGe, He, KId, KLf. -/
import Derived.Laws.OwnMore
import Derived.Test.YtcdplfjegopmdaaGreatBk01
import Derived.Test.YtcdplfjegopmdaaGreatBk02
import Derived.Test.YtcdplfjegopmdaaGreatBk03
import Derived.Test.YtcdplfjegopmdaaGreatBk04
import Derived.Test.YtcdplfjegopmdaaGreatBk05
set_option linter.unusedVariables false
set_option linter.unusedSimpArgs false
/- A burst is caught: mathematics of remainders. -/
namespace Go.Proofs.YtcdplfjegopmdaaGreat
/-- The bit that a step of the division carries out. -/
def carryB (d s b : Nat) : Bool := decide ((s >>> (d - 1)) ^^^ b = 1)
theorem carry_bit {d s b : Nat} (h0 : 1 ≤ d) (hs : s < 2 ^ d) (hb : b ≤ 1) : carryB d s b = (s.testBit (d - 1) ^^ decide (b = 1)) := by
  have h1 : s >>> (d - 1) ≤ 1 := by
    rw [Nat.shiftRight_eq_div_pow]
    have : 2 ^ d = 2 ^ (d - 1) * 2 := by rw [← Nat.pow_succ]; congr 1; omega
    have := Nat.div_lt_of_lt_mul (show s < 2 ^ (d - 1) * 2 by omega)
    omega
  have h2 : s.testBit (d - 1) = decide (s >>> (d - 1) = 1) := by
    rw [Nat.testBit, Nat.one_and_eq_mod_two]
    generalize s >>> (d - 1) = x at *
    have : x = 0 ∨ x = 1 := by omega
    rcases this with rfl | rfl <;> rfl
  rw [h2]
  unfold carryB
  generalize s >>> (d - 1) = x at *
  have hx : x = 0 ∨ x = 1 := by omega
  have hy : b = 0 ∨ b = 1 := by omega
  rcases hx with rfl | rfl <;> rcases hy with rfl | rfl <;> rfl
theorem step_bit {d t s b : Nat} (ht : t < 2 ^ d) {i : Nat} (hi : i < d) : (remStep d t s b).testBit i = ((decide (0 < i) && s.testBit (i - 1)) ^^ (carryB d s b && t.testBit i)) := by
  have e : (2 * s % 2 ^ d).testBit i = (decide (0 < i) && s.testBit (i - 1)) := by
    rw [Nat.testBit_mod_two_pow, decide_eq_true hi, Bool.true_and]
    cases i with
    | zero => simp [Nat.testBit_zero]
    | succ j => rw [Nat.testBit_succ, Nat.mul_div_cancel_left _ (by decide)]; simp
  unfold remStep carryB
  by_cases h : (s >>> (d - 1)) ^^^ b = 1
  · rw [if_pos h, decide_eq_true h, Nat.testBit_xor, e, Bool.true_and]
  · rw [if_neg h, decide_eq_false h, e, Bool.false_and, Bool.xor_false]
theorem bxor_cancel : ∀ {a b c : Bool}, (a ^^ c) = (b ^^ c) → a = b := by decide
theorem bxor_cancel' : ∀ {a b c : Bool}, (c ^^ a) = (c ^^ b) → a = b := by decide
/-- Two registers differ at a bit of at most this number. -/
def Far (k s s' : Nat) : Prop := ∃ i, i ≤ k ∧ s.testBit i ≠ s'.testBit i
theorem step_far {d t s s' b b' k : Nat} (h0 : 1 ≤ d) (ht : t < 2 ^ d) (todd : t % 2 = 1) (h : Far k s s') (hk : k + 1 < d) : Far (k + 1) (remStep d t s b) (remStep d t s' b') := by
  obtain ⟨i, hi, hne⟩ := h
  have t0 : t.testBit 0 = true := by rw [Nat.testBit_zero]; simp [todd]
  by_cases hc : carryB d s b = carryB d s' b'
  · refine ⟨i + 1, by omega, ?_⟩
    rw [step_bit ht (by omega), step_bit ht (by omega), hc]
    intro h
    have h := bxor_cancel h
    rw [decide_eq_true (Nat.succ_pos i), Bool.true_and, Bool.true_and] at h
    exact hne h
  · refine ⟨0, by omega, ?_⟩
    rw [step_bit ht (by omega), step_bit ht (by omega), t0]
    intro h
    have h := bxor_cancel' h
    rw [Bool.and_true, Bool.and_true] at h
    exact hc h
/-- A further bit that differs. -/
theorem step_new {d t s b b' : Nat} (h0 : 1 ≤ d) (ht : t < 2 ^ d) (todd : t % 2 = 1) (hs : s < 2 ^ d) (hb : b ≤ 1) (hb' : b' ≤ 1) (hne : b ≠ b') : Far 0 (remStep d t s b) (remStep d t s b') := by
  have t0 : t.testBit 0 = true := by rw [Nat.testBit_zero]; simp [todd]
  refine ⟨0, by omega, ?_⟩
  rw [step_bit ht (by omega), step_bit ht (by omega), t0, carry_bit h0 hs hb, carry_bit h0 hs hb']
  have hx : b = 0 ∨ b = 1 := by omega
  have hy : b' = 0 ∨ b' = 1 := by omega
  rcases hx with rfl | rfl <;> rcases hy with rfl | rfl <;> simp at hne ⊢
/-- The same bit behind different registers: they stay different. -/
theorem step_ne {d t s s' b : Nat} (h0 : 1 ≤ d) (ht : t < 2 ^ d) (todd : t % 2 = 1) (hs : s < 2 ^ d) (hs' : s' < 2 ^ d) (hb : b ≤ 1) (hne : s ≠ s') : remStep d t s b ≠ remStep d t s' b := by
  have t0 : t.testBit 0 = true := by rw [Nat.testBit_zero]; simp [todd]
  intro h
  apply hne
  have hc : carryB d s b = carryB d s' b := by
    have this : (remStep d t s b).testBit 0 = (remStep d t s' b).testBit 0 := by rw [h]
    rw [step_bit ht (by omega), step_bit ht (by omega), t0] at this
    simpa using this
  refine Nat.eq_of_testBit_eq fun i => ?_
  by_cases hi : i < d
  · by_cases hl : i = d - 1
    · have h1 := carry_bit h0 hs hb
      have h2 := carry_bit h0 hs' hb
      rw [hc, h2] at h1
      subst hl
      exact (bxor_cancel h1).symm
    · have this : (remStep d t s b).testBit (i + 1) = (remStep d t s' b).testBit (i + 1) := by rw [h]
      rw [step_bit ht (by omega), step_bit ht (by omega), hc] at this
      have h := bxor_cancel this
      rw [decide_eq_true (Nat.succ_pos i), Bool.true_and, Bool.true_and] at h
      exact h
  · have hle : 2 ^ d ≤ 2 ^ i := Nat.pow_le_pow_right (by decide) (by omega)
    rw [Nat.testBit_lt_two_pow (Nat.lt_of_lt_of_le hs hle), Nat.testBit_lt_two_pow (Nat.lt_of_lt_of_le hs' hle)]
theorem IsBit.nat {x : Int} (h : IsBit x) : x.toNat ≤ 1 := by have := h.le; omega
/-- Behind a burst of at most d bits the registers differ. -/
theorem burst_far {d t : Nat} {F G : Nat → Int} (h0 : 1 ≤ d) (ht : t < 2 ^ d) (todd : t % 2 = 1) (hF : ∀ k, IsBit (F k)) (hG : ∀ k, IsBit (G k)) {a m : Nat} (hs : remF d t F m = remF d t G m) (ham : a ≤ m) (hma : m < a + d) (hne : F m ≠ G m) :
    ∀ k, m + 1 + k ≤ a + d → Far k (remF d t F (m + 1 + k)) (remF d t G (m + 1 + k))
  | 0, _ => by
    show Far 0 (remStep d t (remF d t F m) (F m).toNat) (remStep d t (remF d t G m) (G m).toNat)
    rw [← hs]
    refine step_new h0 ht todd (remF_lt F ht m) (hF m).nat (hG m).nat fun e => hne ?_
    have := (hF m).le
    have := (hG m).le
    omega
  | k + 1, hk => step_far h0 ht todd (burst_far h0 ht todd hF hG hs ham hma hne k (by omega)) (by omega)
theorem remF_congr {d t : Nat} {F G : Nat → Int} : ∀ {n}, (∀ k, k < n → F k = G k) → remF d t F n = remF d t G n
  | 0, _ => rfl
  | n + 1, h => by
    show remStep d t (remF d t F n) (F n).toNat = remStep d t (remF d t G n) (G n).toNat
    rw [remF_congr fun k hk => h k (by omega), h n (by omega)]
/-- The word of n bits and their check ends with a register of 0. -/
theorem right_zero {d t n : Nat} {F : Nat → Int} (h0 : 1 ≤ d) (ht : t < 2 ^ d) (hr : ∀ j, j < d → F (n + j) = remB d t n F j) :
    ∀ j, j ≤ d → ∀ i, i < d → (remF d t F (n + j)).testBit i = (decide (j ≤ i) && (remF d t F n).testBit (i - j))
  | 0, _, i, hi => by simp
  | j + 1, hj, i, hi => by
    have ih := right_zero h0 ht hr j (by omega)
    have hb : (F (n + j)).toNat = remF d t F n >>> (d - 1 - j) &&& 1 := by rw [hr j (by omega)]; unfold remB; omega
    have hb1 : (F (n + j)).toNat ≤ 1 := by rw [hb, Nat.and_one_is_mod]; omega
    have hc : carryB d (remF d t F (n + j)) (F (n + j)).toNat = false := by
      rw [carry_bit h0 (remF_lt F ht _) hb1, ih (d - 1) (by omega), decide_eq_true (show j ≤ d - 1 by omega), Bool.true_and, hb, Nat.testBit, Nat.one_and_eq_mod_two, Nat.and_one_is_mod]
      generalize remF d t F n >>> (d - 1 - j) = x
      have : x % 2 = 0 ∨ x % 2 = 1 := by omega
      rcases this with h | h <;> rw [h] <;> rfl
    show (remStep d t (remF d t F (n + j)) (F (n + j)).toNat).testBit i = _
    rw [step_bit ht hi, hc, Bool.false_and, Bool.xor_false]
    by_cases h : 0 < i
    · rw [ih (i - 1) (by omega), decide_eq_true h, Bool.true_and]
      by_cases h2 : j + 1 ≤ i
      · rw [decide_eq_true h2, decide_eq_true (show j ≤ i - 1 by omega), show i - 1 - j = i - (j + 1) by omega]
      · rw [decide_eq_false h2, decide_eq_false (show ¬ j ≤ i - 1 by omega), Bool.false_and, Bool.false_and]
    · rw [decide_eq_false h, decide_eq_false (show ¬ j + 1 ≤ i by omega), Bool.false_and, Bool.false_and]
theorem right_end {d t n : Nat} {F : Nat → Int} (h0 : 1 ≤ d) (ht : t < 2 ^ d) (hr : ∀ j, j < d → F (n + j) = remB d t n F j) : remF d t F (n + d) = 0 := by
  refine Nat.eq_of_testBit_eq fun i => ?_
  rw [Nat.zero_testBit]
  by_cases hi : i < d
  · rw [right_zero h0 ht hr d (Nat.le_refl _) i hi, decide_eq_false (by omega), Bool.false_and]
  · exact Nat.testBit_lt_two_pow (Nat.lt_of_lt_of_le (remF_lt F ht _) (Nat.pow_le_pow_right (by decide) (by omega)))
/-- A BURST IS CAUGHT. -/
theorem burst_caught {d t n a : Nat} {F G : Nat → Int} (h0 : 1 ≤ d) (ht : t < 2 ^ d) (todd : t % 2 = 1) (hF : ∀ k, IsBit (F k)) (hG : ∀ k, IsBit (G k)) (ha : a ≤ n) (hlo : ∀ k, k < a → F k = G k) (hhi : ∀ k, a + d ≤ k → k < n + d → F k = G k)
    (hne : ∃ k, a ≤ k ∧ k < a + d ∧ F k ≠ G k) (hr : ∀ j, j < d → F (n + j) = remB d t n F j) : ¬ ∀ j, j < d → G (n + j) = remB d t n G j := by
  intro hr'
  have e1 := right_end h0 ht hr
  have e2 := right_end h0 ht hr'
  -- the first place that differs
  have hmin : ∃ m, a ≤ m ∧ m < a + d ∧ F m ≠ G m ∧ ∀ k, k < m → F k = G k := by
    obtain ⟨k, hk⟩ := hne
    induction k using Nat.strongRecOn with
    | ind k ih =>
      by_cases h : ∀ j, j < k → F j = G j
      · exact ⟨k, hk.1, hk.2.1, hk.2.2, h⟩
      · obtain ⟨j, h⟩ := Classical.not_forall.1 h
        obtain ⟨hj, h⟩ := Classical.not_imp.1 h
        exact ih j hj ⟨Nat.le_of_not_lt fun hh => h (hlo j hh), by omega, h⟩
  obtain ⟨m, h1, h2, h3, h4⟩ := hmin
  have hf := burst_far h0 ht todd hF hG (remF_congr h4) h1 h2 h3 (a + d - (m + 1)) (by omega)
  rw [show m + 1 + (a + d - (m + 1)) = a + d by omega] at hf
  have hlast : ∀ k, a + d + k ≤ n + d → remF d t F (a + d + k) ≠ remF d t G (a + d + k) := by
    intro k
    induction k with
    | zero => intro _ e; obtain ⟨i, -, hi⟩ := hf; exact hi (by rw [show a + d + 0 = a + d from rfl] at e; rw [e])
    | succ k ih =>
      intro hk
      have e := hhi (a + d + k) (by omega) (by omega)
      show remStep d t (remF d t F (a + d + k)) (F (a + d + k)).toNat ≠ remStep d t (remF d t G (a + d + k)) (G (a + d + k)).toNat
      rw [← e]
      exact step_ne h0 ht todd (remF_lt F ht _) (remF_lt G ht _) (hF _).nat (ih (by omega))
  have := hlast (n - a) (by omega)
  rw [show a + d + (n - a) = n + d by omega] at this
  exact this (e1.trans e2.symm)
end Go.Proofs.YtcdplfjegopmdaaGreat
/- Dm of chapter 02, in a namespace of its own. -/
namespace Go.Proofs.YtcdplfjegopmdaaGreat.K
theorem and_low {k i j : Nat} (hj : j < 2 ^ k) : (2 ^ k + i) &&& j = i &&& j := by
  apply Nat.eq_of_testBit_eq
  intro b
  rw [Nat.testBit_and, Nat.testBit_and]
  rcases Nat.lt_or_ge b k with h | h
  · rw [Nat.testBit_two_pow_add_gt h]
  · have : j.testBit b = false := Nat.testBit_lt_two_pow (Nat.lt_of_lt_of_le hj (Nat.pow_le_pow_right (by decide) h))
    rw [this, Bool.and_false, Bool.and_false]
theorem or_add {k i : Nat} (hi : i < 2 ^ k) : 2 ^ k + i = 2 ^ k ||| i := by
  have := Nat.two_pow_add_eq_or_of_lt hi 1
  simpa using this
theorem and_high {k i j : Nat} (hi : i < 2 ^ k) (hj : j < 2 ^ k) : (2 ^ k + i) &&& (2 ^ k + j) = 2 ^ k + (i &&& j) := by
  have hx : i &&& j < 2 ^ k := Nat.and_lt_two_pow _ hj
  rw [or_add hi, or_add hj, or_add hx, ← Nat.or_and_distrib_left]
theorem and_cross {k i j : Nat} (hi : i < 2 ^ k) : i &&& (2 ^ k + j) ≠ 2 ^ k + j := by
  intro h
  have := Nat.and_le_left (n := i) (m := 2 ^ k + j)
  omega

/-- The word's first half is the sum of both halves' words, the second half the second one's. -/
theorem wsum_low {k : Nat} {U : Nat → Int} {j : Nat} (hj : j < 2 ^ k) : ∀ i, i ≤ 2 ^ k → wsum U j (2 ^ k + i) = xor1 (wsum U j (2 ^ k)) (wsum (fun x => U (2 ^ k + x)) j i)
  | 0, _ => by
    rw [Nat.add_zero]
    show _ = xor1 _ 0
    rcases wsum_bit U j (2 ^ k) with h | h <;> rw [h] <;> rfl
  | i + 1, hi => by
    have ih := wsum_low (U := U) hj i (by omega)
    show (if (2 ^ k + i) &&& j = j then xor1 (wsum U j (2 ^ k + i)) (U (2 ^ k + i)) else wsum U j (2 ^ k + i)) = xor1 _ (if i &&& j = j then xor1 _ _ else _)
    rw [and_low hj, ih]
    by_cases h : i &&& j = j
    · rw [if_pos h, if_pos h]
      unfold xor1
      have e : (fun x => U (2 ^ k + x)) i = U (2 ^ k + i) := rfl
      rw [e]
      omega
    · rw [if_neg h, if_neg h]
theorem wsum_none {k : Nat} {U : Nat → Int} {j : Nat} : ∀ i, i ≤ 2 ^ k → wsum U (2 ^ k + j) i = 0
  | 0, _ => rfl
  | i + 1, hi => by
    unfold wsum
    rw [if_neg (and_cross (by omega))]
    exact wsum_none i (by omega)
theorem wsum_high {k : Nat} {U : Nat → Int} {j : Nat} (hj : j < 2 ^ k) : ∀ i, i ≤ 2 ^ k → wsum U (2 ^ k + j) (2 ^ k + i) = wsum (fun x => U (2 ^ k + x)) j i
  | 0, _ => wsum_none (2 ^ k) (Nat.le_refl _)
  | i + 1, hi => by
    have ih := wsum_high (U := U) hj i (by omega)
    show (if (2 ^ k + i) &&& (2 ^ k + j) = 2 ^ k + j then xor1 (wsum U (2 ^ k + j) (2 ^ k + i)) (U (2 ^ k + i)) else wsum U (2 ^ k + j) (2 ^ k + i)) = (if i &&& j = j then xor1 _ _ else _)
    rw [and_high (by omega) hj, ih]
    by_cases h : i &&& j = j
    · rw [if_pos h, if_pos (by rw [h])]
    · rw [if_neg h, if_neg (by omega)]
theorem word_low {k : Nat} (U : Nat → Int) {j : Nat} (hj : j < 2 ^ k) : wordF (2 ^ (k + 1)) U j = xor1 (wordF (2 ^ k) U j) (wordF (2 ^ k) (fun x => U (2 ^ k + x)) j) := by
  have e : 2 ^ (k + 1) = 2 ^ k + 2 ^ k := by rw [Nat.pow_succ]; omega
  rw [e]
  exact wsum_low hj (2 ^ k) (Nat.le_refl _)
theorem word_high {k : Nat} (U : Nat → Int) {j : Nat} (hj : j < 2 ^ k) : wordF (2 ^ (k + 1)) U (2 ^ k + j) = wordF (2 ^ k) (fun x => U (2 ^ k + x)) j := by
  have e : 2 ^ (k + 1) = 2 ^ k + 2 ^ k := by rw [Nat.pow_succ]; omega
  rw [e]
  exact wsum_high hj (2 ^ k) (Nat.le_refl _)

/-- A soft bit tells a bit. -/
def Tells (s b : Int) : Prop := (b = 0 ∧ 0 < s) ∨ (b = 1 ∧ s < 0)
theorem Tells.lesser {a b x y : Int} (ha : Tells a x) (hb : Tells b y) : Tells (lesserI a b) (xor1 x y) := by
  unfold Tells at *
  unfold lesserI sizeI xor1
  rcases ha with ⟨rfl, ha⟩ | ⟨rfl, ha⟩ <;> rcases hb with ⟨rfl, hb⟩ | ⟨rfl, hb⟩
  · rw [if_pos (by simp; omega)]; left; omega
  · rw [if_neg (by simp; omega)]; right; omega
  · rw [if_neg (by simp; omega)]; right; omega
  · rw [if_pos (by simp; omega)]; left; omega
theorem Tells.far {a b x y : Int} (hx : IsBit x) (ha : Tells a (xor1 x y)) (hb : Tells b y) : Tells (farF x a b) y := by
  unfold Tells at *
  unfold farF xor1 at *
  rcases hx with rfl | rfl
  · rw [if_neg (by decide)]
    rcases hb with ⟨rfl, hb⟩ | ⟨rfl, hb⟩
    · left; omega
    · right; omega
  · rw [if_pos rfl]
    rcases hb with ⟨rfl, hb⟩ | ⟨rfl, hb⟩
    · left; omega
    · right; omega

theorem cancel_right : ∀ (k : Nat) (I : Nat → Bool) (U S : Nat → Int), (∀ j, j < 2 ^ k → IsBit (U j)) → (∀ j, j < 2 ^ k → I j = false → U j = 0) → (∀ j, j < 2 ^ k → Tells (S j) (wordF (2 ^ k) U j)) →
    ∀ j, j < 2 ^ k → cancelF k I S j = U j
  | 0, I, U, S, hU, hI, hS, j, hj => by
    obtain rfl : j = 0 := by simpa using hj
    have h := hS 0 (by decide)
    have hb := hU 0 (by decide)
    have e : wordF (2 ^ 0) U 0 = xor1 0 (U 0) := rfl
    rw [e] at h
    unfold cancelF
    unfold Tells xor1 at h
    cases hi : I 0
    · rw [if_neg (by simp), hI 0 (by decide) hi]
    · rcases hb with hb | hb
      · rw [hb] at h ⊢
        rw [if_neg (by omega)]
      · rw [hb] at h ⊢
        rw [if_pos ⟨rfl, by omega⟩]
  | k + 1, I, U, S, hU, hI, hS, j, hj => by
    have e2 : 2 ^ (k + 1) = 2 ^ k + 2 ^ k := by rw [Nat.pow_succ]; omega
    have h1 : ∀ x, x < 2 ^ k → cancelF k I (fun i => lesserI (S i) (S (2 ^ k + i))) x = U x :=
      cancel_right k I U _ (fun x hx => hU x (by omega)) (fun x hx => hI x (by omega)) (fun x hx => by
        have ha := hS x (by omega)
        have hb := hS (2 ^ k + x) (by omega)
        rw [word_low U hx] at ha
        rw [word_high U hx] at hb
        have h := ha.lesser hb
        have e : xor1 (xor1 (wordF (2 ^ k) U x) (wordF (2 ^ k) (fun x => U (2 ^ k + x)) x)) (wordF (2 ^ k) (fun x => U (2 ^ k + x)) x) = wordF (2 ^ k) U x := by
          have hb1 := (wordF_bit (2 ^ k) U x).le
          unfold xor1; omega
        rw [e] at h
        exact h)
    show (if j < 2 ^ k then cancelF k I (fun i => lesserI (S i) (S (2 ^ k + i))) j else cancelF k (fun i => I (2 ^ k + i)) (fun i => farF (wordF (2 ^ k) (cancelF k I fun i => lesserI (S i) (S (2 ^ k + i))) i) (S i) (S (2 ^ k + i))) (j - 2 ^ k)) = U j
    by_cases hlt : j < 2 ^ k
    · rw [if_pos hlt]; exact h1 j hlt
    · rw [if_neg hlt]
      have hw : ∀ x, wordF (2 ^ k) (cancelF k I fun i => lesserI (S i) (S (2 ^ k + i))) x = wordF (2 ^ k) U x := fun x => wsum_congr h1
      have h := cancel_right k (fun i => I (2 ^ k + i)) (fun i => U (2 ^ k + i)) (fun i => farF (wordF (2 ^ k) (cancelF k I fun i => lesserI (S i) (S (2 ^ k + i))) i) (S i) (S (2 ^ k + i)))
        (fun x hx => hU _ (by omega)) (fun x hx => hI _ (by omega)) (fun x hx => by
          have ha := hS x (by omega)
          have hb := hS (2 ^ k + x) (by omega)
          rw [word_low U hx] at ha
          rw [word_high U hx] at hb
          show Tells (farF (wordF (2 ^ k) (cancelF k I fun i => lesserI (S i) (S (2 ^ k + i))) x) (S x) (S (2 ^ k + x))) _
          rw [hw x]
          exact Tells.far (wordF_bit _ _ _) ha hb) (j - 2 ^ k) (by omega)
      rw [h]
      show U (2 ^ k + (j - 2 ^ k)) = U j
      rw [show 2 ^ k + (j - 2 ^ k) = j by omega]

end Go.Proofs.YtcdplfjegopmdaaGreat.K
/- Fc of chapter 02, in a namespace of its own. -/
namespace Go.Proofs.YtcdplfjegopmdaaGreat.K
open Go.RowKit Go.Shelf
theorem polarOk_doc : PolarOk 2 3 (getL [1, 2, 3]) := ⟨by decide, by decide, fun k hk => by match k, hk with | 0, _ => decide | 1, _ => decide | 2, _ => decide, fun k hk => by match k, hk with | 0, _ => decide | 1, _ => decide⟩
theorem isBits_doc (l : List Int) (n : Nat) (h : ((List.range n).all fun k => decide (IsBit (getL l k))) = true) : ∀ k, k < n → IsBit (getL l k) := fun k hk => by
  rw [List.all_eq_true] at h
  simpa using h k (List.mem_range.2 hk)
theorem ints_b (A C : Option Addr) (n m c d : Nat) (F G : Nat → Int) (w : World) (hn : n ≤ 100000) (hm : m ≤ 100000) (hF : IntsAt w 0 A n F) (hG : IntsAt w 0 C m G) :
    Calls Tryz.prog 39 #[.slice A n c, .slice C m d] w fun e w' => e = .returned (.bool (intsB n F m G)) ∧ Below w.heap.size w w' :=
  (ints_any A C n m c d F G w hn hm hF hG).mono fun _ _ ⟨h, q, hq⟩ => ⟨h, by rw [hq]; exact Go.below_drewN (Below.refl _ _) q⟩
end Go.Proofs.YtcdplfjegopmdaaGreat.K
/- Gb of chapter 02, in a namespace of its own. -/
namespace Go.Proofs.YtcdplfjegopmdaaGreat.K
open Go.RowKit
theorem bstepG {B : Nat} {w1 W w2 : World} {p q : Prop} (hb : Below W.heap.size W w2) (h : p ∧ q ∧ Below B w1 W) (hB : B ≤ w1.heap.size) : Below B w1 w2 := h.2.2.trans (hb.mono (Nat.le_trans hB h.2.2.size))
set_option maxHeartbeats 1000000 in
theorem copyPolar_any (p : Int) (A : Option Addr) (n c : Nat) (F : Nat → Int) (w : World) (hn : n ≤ 100000) (hI : IntsAt w 0 A n F) :
    Calls Tryz.prog 54 #[.agg #[.int .i64 p, .slice A n c]] w fun e w' => ∃ A' c', e = .returned (.agg #[.int .i64 p, .slice A' n c']) ∧ n ≤ c' ∧ IntsAt w' w.heap.size A' n F ∧ Below w.heap.size w w' := by
  have HI := hide hI
  clear hI
  go_enter Tryz.func54, Tryz.ntmps54
  go_wp2_with fail
  generalize hW : World.alloc (World.alloc w _) _ = W
  have bx : Box W w.heap.size 26 #[.int .i64 p, .slice A n c] := by rw [← hW]; exact (Box.made rfl).alloc _
  have by' : Box W (w.heap.size + 1) 26 #[.int .i64 0, .slice none 0 0] := by rw [← hW]; exact Box.made (by simp)
  have hB : Below w.heap.size w W := by rw [← hW]; exact ((Below.refl _ _).alloc (Nat.le_refl _) _).alloc (by simp) _
  clear hW
  have x0 : W.cell? ⟨w.heap.size, 0, none⟩ = some (.int .i64 p) := bx.at_ 0
  have x1 : W.cell? ⟨w.heap.size, 1, none⟩ = some (.slice A n c) := bx.at_ 1
  have hz : w.heap.size + 1 + 1 ≤ W.heap.size := by'.lt
  have BY := hide by'
  have HBB := hide hB
  have SOF := hide (fun W' (h : Below (w.heap.size + 1) W W') => (⟨(h.cell (p := ⟨w.heap.size, 0, none⟩) (by simp)).trans x0, (h.cell (p := ⟨w.heap.size, 1, none⟩) (by simp)).trans x1, h⟩ :
     W'.cell? ⟨w.heap.size, 0, none⟩ = some (.int .i64 p) ∧ W'.cell? ⟨w.heap.size, 1, none⟩ = some (.slice A n c) ∧ Below (w.heap.size + 1) W W'))
  have KI := hide (fun W' (h : W'.cell? ⟨w.heap.size, 0, none⟩ = some (.int .i64 p) ∧ W'.cell? ⟨w.heap.size, 1, none⟩ = some (.slice A n c) ∧ Below (w.heap.size + 1) W W') => HI.out.below (hB.trans (h.2.2.mono (by omega))))
  have b0 : Below (w.heap.size + 1) W W := Below.refl _ _
  clear x0 x1 hB by'
  go_region_held3 (fun w' => w'.cell? ⟨w.heap.size, 0, none⟩ = some (.int .i64 p) ∧ w'.cell? ⟨w.heap.size, 1, none⟩ = some (.slice A n c) ∧ Below (w.heap.size + 1) W w')
      (first | assumption | exact SOF.out _ (by assumption) | exact SOF.out _ b0.drew | exact SOF.out _ (hs2.setCell (by simp) _) | exact SOF.out _ ((hs2.setCell (by simp) _).setCell (by simp) _))
      (first
        | (go_at_call 14; refine (copyInts_any A n c F _ (by omega) (KI.out _ (by assumption))).mono ?_; rintro e w2 ⟨v2, rfl, A2, c2, rfl, hc2, hI2, hb2⟩; have hs2 : Below (w.heap.size + 1) W w2 := bstepG hb2 (by assumption) (by omega); have hy2 := BY.out.below (below_of_drew hb2); have y0 := hy2.at_ 0; have y1 := hy2.at_ 1; have yf0 := hy2.free 0; have yf1 := hy2.free 1; have yl := hy2.lt))
  go_wp2_with fail
  refine bodyPost_ret (v := .agg #[.int .i64 p, .slice A2 n c2]) ?_ rfl ⟨A2, c2, rfl, hc2, ?_, ?_⟩
  · have z0 := ((hy2.set_ 0 (.int .i64 p)).set_ 1 (.slice A2 n c2)).at_ 0
    have z1 := ((hy2.set_ 0 (.int .i64 p)).set_ 1 (.slice A2 n c2)).at_ 1
    simp at z0 z1
    simp [results, Tryz.results54, go_sem, z0, z1]
  · have h := hI2.weak (show w.heap.size + 1 + 1 ≤ _ from hz)
    exact ((h.other (p := ⟨w.heap.size + 1, 0, none⟩) (by simp) _).other (p := ⟨w.heap.size + 1, 1, none⟩) (by simp) _).weak (by omega)
  · have hB2 : Below w.heap.size w w2 := HBB.out.trans (hs2.mono (by omega))
    exact (hB2.setCell (by simp) _).setCell (by simp) _
end Go.Proofs.YtcdplfjegopmdaaGreat.K
/- Ge of chapter 02, in a namespace of its own. -/
namespace Go.Proofs.YtcdplfjegopmdaaGreat.K
open Go.RowKit Go.Shelf
theorem _root_.Go.Proofs.YtcdplfjegopmdaaGreat.PolarOk.less {p n : Nat} {F : Nat → Int} (h : PolarOk p n F) : ∀ {j}, j < n → ∀ {i}, i < j → F i < F j
  | j + 1, hj, i, hi => by
    have h1 := h.order j hj
    by_cases e : i = j
    · subst e; exact h1
    · exact Int.lt_trans (h.less (by omega) (show i < j by omega)) h1
theorem posF_none {F B : Nat → Int} {x : Nat} : ∀ {n : Nat}, isPos F x n = false → posF F B x n = 0
  | 0, _ => rfl
  | n + 1, h => by
    unfold isPos at h
    unfold posF
    by_cases e : F n = x
    · rw [if_pos e] at h; cases h
    · rw [if_neg e] at h ⊢; exact posF_none h
theorem posF_eq {F B : Nat → Int} {x k : Nat} (hx : F k = x) : ∀ {n : Nat}, k < n → (∀ j, k < j → j < n → F j ≠ x) → posF F B x n = B k
  | n + 1, hk, h => by
    unfold posF
    by_cases e : k = n
    · subst e; rw [if_pos hx]
    · rw [if_neg (h n (by omega) (by omega))]
      exact posF_eq hx (by omega) (fun j h1 h2 => h j h1 (by omega))
theorem posF_at {p n : Nat} {F B : Nat → Int} (h : PolarOk p n F) {k : Nat} (hk : k < n) : posF F B (F k).toNat n = B k := by
  have hr := (h.range k hk).1
  have e : F k = ((F k).toNat : Int) := by omega
  exact posF_eq e hk fun j h1 h2 => by have := h.less h2 h1; omega
end Go.Proofs.YtcdplfjegopmdaaGreat.K
/- A copy that is the law's own: cells read, stored; a pattern that is not 0 has a 1. -/
namespace Go.Proofs.YtcdplfjegopmdaaGreat
open Go.RowKit Go.Lib
theorem OwnInts.cap_any {w : World} {base n c : Nat} {A : Option Addr} {F : Nat → Int} (h : OwnInts w base (.slice A n c) n F) : n ≤ c ∧ c ≤ 9223372036854775807 := by
  have hm9 : maxLen ≤ 9223372036854775807 := by decide
  rcases h.2 with ⟨h1, h2⟩ | ⟨g, cap, cur, h1, -, -, hn, hm, -⟩
  · injection h1 with _ _ h3
    omega
  · injection h1 with _ _ h3
    omega
theorem OwnInts.row {w : World} {base n : Nat} {v : Value} {F : Nat → Int} (h : OwnInts w base v n F) (hn : 0 < n) : ∃ g cap, v = .slice (some ⟨g, 0, none⟩) n cap ∧ base ≤ g ∧ g < w.heap.size := by
  rcases h.2 with ⟨h1, h2⟩ | ⟨g, cap, cur, h1, hb, hg, -⟩
  · omega
  · exact ⟨g, cap, h1, hb, by
      rcases Nat.lt_or_ge g w.heap.size with h' | h'
      · exact h'
      · rw [Array.getElem?_eq_none h'] at hg; cases hg⟩
theorem OwnInts.cellAt {w : World} {base n g c : Nat} {F : Nat → Int} (h : OwnInts w base (.slice (some ⟨g, 0, none⟩) n c) n F) {k : Nat} (hk : k < n) : w.cell? ⟨g, k, none⟩ = some (.int .i64 (F k)) := by
  rw [World.ownsRow.cellAt h k (by omega), intCells_get, if_pos hk]
theorem OwnInts.frozen {w : World} {base n g c : Nat} {F : Nat → Int} (h : OwnInts w base (.slice (some ⟨g, 0, none⟩) n c) n F) (k : Nat) : w.frozen? ⟨g, k, none⟩ = false := World.ownsRow.frozenAt h k
def setF (F : Nat → Int) (k : Nat) (x : Int) (j : Nat) : Int := if j = k then x else F j
theorem OwnInts.set_ {w : World} {base n g c : Nat} {F : Nat → Int} (h : OwnInts w base (.slice (some ⟨g, 0, none⟩) n c) n F) (k : Nat) (x : Int) : OwnInts (w.setCell ⟨g, k, none⟩ (.int .i64 x)) base (.slice (some ⟨g, 0, none⟩) n c) n (setF F k x) := by
  have h1 := (World.ownsRow.stored h k (.int .i64 x)).1
  have e : (intCells n F).set k (.int .i64 x) = intCells n (setF F k x) := by
    apply List.ext_getElem?
    intro j
    rw [List.getElem?_set, intCells_get, intCells_get, intCells_len]
    unfold setF
    by_cases e : k = j
    · subst e
      by_cases hk : k < n
      · rw [if_pos rfl, if_pos hk, if_pos hk, if_pos rfl]
      · rw [if_pos rfl, if_neg hk, if_neg hk]
    · rw [if_neg e, if_neg (show ¬ j = k from fun h => e h.symm)]
  rw [e] at h1
  exact h1
set_option maxHeartbeats 1000000 in
theorem copyInts_own (A : Option Addr) (n c : Nat) (F : Nat → Int) (w : World) (hn : n ≤ 100000000) (hI : IntsAt w 0 A n F) :
    Calls Tryz.prog 14 #[.slice A n c] w fun e w' => ∃ v, e = .returned v ∧ OwnInts w' w.heap.size v n F ∧ Below w.heap.size w w' := by
  go_enter Tryz.func14, Tryz.ntmps14
  go_wp2_with (at_builtin; refine wpList_append_ints _ rfl (.tmp 3) (.tmp 4) rfl w.heap.size 0 (.slice (some ⟨w.heap.size, 0, none⟩) 0 0) 0 F rfl (World.ownsRow_made w #[] 0 (Nat.le_refl _) (by unfold maxLen; omega) rfl) A n c F rfl (hI.alloc _) (by omega) (by simp) ?_; intro v' w' h1 hb1)
  go_ret
  have hB : Below w.heap.size w w' := ((Below.refl _ _).alloc (Nat.le_refl _) _).trans hb1
  rw [Nat.zero_add] at h1
  exact ⟨_, rfl, h1.congr fun j _ => by simp [catF], hB⟩
theorem bitsOfF_bit (x d j : Nat) : IsBit (bitsOfF x d j) := by
  unfold bitsOfF IsBit
  omega
theorem pat_some {x d : Nat} (h0 : 0 < x) (h1 : x < 2 ^ d) : ∃ j, j < d ∧ bitsOfF x d j = 1 := by
  refine Classical.byContradiction fun hno => ?_
  have hz : x = 0 := by
    refine Nat.eq_of_testBit_eq fun i => ?_
    rw [Nat.zero_testBit]
    by_cases hi : i < d
    · rw [Nat.testBit_eq_decide_div_mod_eq, decide_eq_false]
      intro h
      refine hno ⟨d - 1 - i, by omega, ?_⟩
      unfold bitsOfF
      rw [show d - 1 - (d - 1 - i) = i by omega, h]
      rfl
    · exact Nat.testBit_lt_two_pow (Nat.lt_of_lt_of_le h1 (Nat.pow_le_pow_right (by decide) (by omega)))
  omega
end Go.Proofs.YtcdplfjegopmdaaGreat
/- Id of chapter 02, in a namespace of its own. -/
namespace Go.Proofs.YtcdplfjegopmdaaGreat.K
open Go.RowKit Go.Shelf
theorem _root_.Go.Proofs.YtcdplfjegopmdaaGreat.OwnInts.weak {w : World} {base base' n : Nat} {v : Value} {F : Nat → Int} (h : OwnInts w base v n F) (hb : base' ≤ base) : OwnInts w base' v n F :=
  ⟨h.1, h.2.elim Or.inl (fun ⟨g, cap, cur, hv, hg, r⟩ => Or.inr ⟨g, cap, cur, hv, Nat.le_trans hb hg, r⟩)⟩
end Go.Proofs.YtcdplfjegopmdaaGreat.K
/- Lf of chapter 02, in a namespace of its own. -/
namespace Go.Proofs.YtcdplfjegopmdaaGreat.K
open Go.RowKit Go.Shelf
/-- The error of Sent. -/
def sentErrI (d t p : Int) (n : Nat) (F : Nat → Int) (k : Int) (m : Nat) (B : Nat → Int) (v : Int) : Int := firstE [chainErrI d t p n F k, bitsErrR m B, unI (decide ((m : Int) + d = (n : Int))) 10, unI (withinB v 0 3) 15]
theorem sentErr_of (d t p : Int) (n : Nat) (F : Nat → Int) (k : Int) (m : Nat) (B : Nat → Int) (v : Int) (b : Bool) (h : chainErrI d t p n F k = 0 → b = decide ((m : Int) + d = (n : Int))) :
    firstE [chainErrI d t p n F k, firstE [firstE [unI (decide (0 < m)) 10, unI (decide (m ≤ 200)) 8], unI (bitsB m B) 15], unI b 10, unI (withinB v 0 3) 15] = sentErrI d t p n F k m B v := by
  rw [show firstE [firstE [unI (decide (0 < m)) 10, unI (decide (m ≤ 200)) 8], unI (bitsB m B) 15] = bitsErrR m B from bitsErrC_eq m B]
  unfold sentErrI
  rw [firstE_cons, firstE_cons (chainErrI d t p n F k)]
  by_cases h1 : chainErrI d t p n F k = 0
  · rw [h h1]
  · rw [if_neg h1, if_neg h1]
/-- What a chain sends. -/
def sentF (d t p n : Nat) (F : Nat → Int) (m : Nat) (B : Nat → Int) (v j : Nat) : Int := wordF (2 ^ p) (fun x => posF F (catF m B (remB d t m B)) x n) (placeN v (2 ^ p) j)
theorem catF_bits {n m : Nat} {F G : Nat → Int} (hF : ∀ k, k < n → IsBit (F k)) (hG : ∀ k, IsBit (G k)) : ∀ k, k < n + m → IsBit (catF n F G k) := fun k _ => by
  unfold catF
  split
  · exact hF k (by assumption)
  · exact hG _
set_option maxHeartbeats 4000000 in
theorem Sent_any (d t p k v : Int) (A C : Option Addr) (n c m e : Nat) (F B : Nat → Int) (w : World) (hn : n ≤ 1000) (hm : m ≤ 1000) (hd9 : -9223372036854775808 ≤ d ∧ d ≤ 9223372036854775807) (hI : IntsAt w 0 A n F) (hJ : IntsAt w 0 C m B) :
    Calls Tryz.prog 12 #[.agg #[.int .i64 d, .int .i64 t, .int .i64 p, .slice A n c, .int .i64 k], .slice C m e, .int .i64 v] w (GaveOr (sentErrI d t p n F k m B v) k.toNat (sentF d.toNat t.toNat p.toNat n F m B v.toNat) w) := by
  have HI := hide hI
  have HJ := hide hJ
  have HFE := hide (sentErr_of d t p n F k m B v (IntKind.i64.wrap ((m : Int) + d) == (n : Int)) (fun h => by
    obtain ⟨x, y, q, j, ok⟩ := chainErr_zero h
    have := ok.ed
    have := ok.d1
    rw [IntWalk.i64_in _ (by omega)]
    rfl))
  clear hI hJ
  go_enter Tryz.func12, Tryz.ntmps12
  go_wp2_with fail
  generalize hW : World.alloc w _ = W
  have bx : Box W w.heap.size 28 #[.int .i64 d, .int .i64 t, .int .i64 p, .slice A n c, .int .i64 k] := by rw [← hW]; exact Box.made rfl
  have hB : Below w.heap.size w W := by rw [← hW]; exact (Below.refl _ _).alloc (Nat.le_refl _) _
  clear hW
  have x0 : W.cell? ⟨w.heap.size, 0, none⟩ = some (.int .i64 d) := bx.at_ 0
  have x1 : W.cell? ⟨w.heap.size, 1, none⟩ = some (.int .i64 t) := bx.at_ 1
  have x2 : W.cell? ⟨w.heap.size, 2, none⟩ = some (.int .i64 p) := bx.at_ 2
  have x3 : W.cell? ⟨w.heap.size, 3, none⟩ = some (.slice A n c) := bx.at_ 3
  have x4 : W.cell? ⟨w.heap.size, 4, none⟩ = some (.int .i64 k) := bx.at_ 4
  have hz : w.heap.size + 1 ≤ W.heap.size := bx.lt
  have SOF := hide (fun W' (h : Below (w.heap.size + 1) W W') => (⟨(h.cell (p := ⟨w.heap.size, 0, none⟩) (by simp)).trans x0, (h.cell (p := ⟨w.heap.size, 1, none⟩) (by simp)).trans x1, (h.cell (p := ⟨w.heap.size, 2, none⟩) (by simp)).trans x2, (h.cell (p := ⟨w.heap.size, 3, none⟩) (by simp)).trans x3, (h.cell (p := ⟨w.heap.size, 4, none⟩) (by simp)).trans x4, h⟩ :
     W'.cell? ⟨w.heap.size, 0, none⟩ = some (.int .i64 d) ∧ W'.cell? ⟨w.heap.size, 1, none⟩ = some (.int .i64 t) ∧ W'.cell? ⟨w.heap.size, 2, none⟩ = some (.int .i64 p) ∧ W'.cell? ⟨w.heap.size, 3, none⟩ = some (.slice A n c) ∧ W'.cell? ⟨w.heap.size, 4, none⟩ = some (.int .i64 k) ∧ Below (w.heap.size + 1) W W'))
  have KI := hide (fun W' (h : W'.cell? ⟨w.heap.size, 0, none⟩ = some (.int .i64 d) ∧ W'.cell? ⟨w.heap.size, 1, none⟩ = some (.int .i64 t) ∧ W'.cell? ⟨w.heap.size, 2, none⟩ = some (.int .i64 p) ∧ W'.cell? ⟨w.heap.size, 3, none⟩ = some (.slice A n c) ∧ W'.cell? ⟨w.heap.size, 4, none⟩ = some (.int .i64 k) ∧ Below (w.heap.size + 1) W W') => HI.out.below (hB.trans (h.2.2.2.2.2.mono (by omega))))
  have KJ := hide (fun W' (h : W'.cell? ⟨w.heap.size, 0, none⟩ = some (.int .i64 d) ∧ W'.cell? ⟨w.heap.size, 1, none⟩ = some (.int .i64 t) ∧ W'.cell? ⟨w.heap.size, 2, none⟩ = some (.int .i64 p) ∧ W'.cell? ⟨w.heap.size, 3, none⟩ = some (.slice A n c) ∧ W'.cell? ⟨w.heap.size, 4, none⟩ = some (.int .i64 k) ∧ Below (w.heap.size + 1) W W') => HJ.out.below (hB.trans (h.2.2.2.2.2.mono (by omega))))
  have b0 : Below (w.heap.size + 1) W W := Below.refl _ _
  have HBB := hide hB
  clear x0 x1 x2 x3 x4 hB
  go_region_held3 (fun w' => w'.cell? ⟨w.heap.size, 0, none⟩ = some (.int .i64 d) ∧ w'.cell? ⟨w.heap.size, 1, none⟩ = some (.int .i64 t) ∧ w'.cell? ⟨w.heap.size, 2, none⟩ = some (.int .i64 p) ∧ w'.cell? ⟨w.heap.size, 3, none⟩ = some (.slice A n c) ∧ w'.cell? ⟨w.heap.size, 4, none⟩ = some (.int .i64 k) ∧ Below (w.heap.size + 1) W w')
      (first | assumption | exact SOF.out _ (by assumption) | exact SOF.out _ b0.drew | exact SOF.out _ (balloc' (by assumption) hz _))
      (first
        | (go_at_call 47; refine (chainError_any d t p k A n c F _ hn (KI.out _ (by assumption))).mono ?_; rintro e w2 ⟨rfl, hb2⟩; have hs2 : Below (w.heap.size + 1) W w2 := bstep5 hb2 (by assumption) hz)
        | (go_at_call 48; refine (bitsError_any C m e B _ (by omega) (KJ.out _ (by assumption))).mono ?_; rintro e w3 ⟨rfl, hb3⟩; have hs3 : Below (w.heap.size + 1) W w3 := bstep5 hb3 (by assumption) hz)
        | (go_at_call 49; refine (unless_any _ _ _).mono ?_; rintro e w4 ⟨rfl, rfl⟩)
        | (go_at_call 50; refine (versionError_any _ _).mono ?_; rintro e w5 ⟨rfl, rfl⟩)
        | (go_at_call 46; refine (firstError_laid [chainErrI d t p n F k, firstE [firstE [unI (decide (0 < m)) 10, unI (decide (m ≤ 200)) 8], unI (bitsB m B) 15], unI _ 10, unI (withinB v 0 3) 15] 4 _ _ rfl (by decide)).mono ?_; rintro e w6 ⟨rfl, rfl⟩))
  rw [HFE.out]
  generalize hV : World.alloc w3 _ = w6
  have hs6 : Below (w.heap.size + 1) W w6 := by rw [← hV]; exact hs3.alloc (Nat.le_trans hz hs3.size) _
  clear hV
  by_cases hz9 : sentErrI d t p n F k m B v = 0
  · have HZ := hide hz9
    rw [hz9]
    obtain ⟨g1, h⟩ := firstE_zero_cons hz9
    obtain ⟨g2, h⟩ := firstE_zero_cons h
    obtain ⟨g3, h⟩ := firstE_zero_cons h
    obtain ⟨g4, -⟩ := firstE_zero_cons h
    have g3 := of_decide_eq_true (unI_zero (by decide) g3)
    have g4 := withinB_of (unI_zero (by decide) g4)
    obtain ⟨m0, m2, hbits⟩ := bitsErrR_zero g2
    obtain ⟨x, y, q, j, ok⟩ := chainErr_zero g1
    obtain ⟨rfl, rfl, rfl, rfl, d0, d1, t1, -, hpol, q6, hless, k1, k4⟩ := ok
    obtain ⟨v, rfl⟩ := Int.eq_ofNat_of_zero_le g4.1
    have hmn : m + x = n := by omega
    have HB := hide hbits
    have HP := hide hpol
    clear hbits hpol g1 g2 g3 hz9 h
    obtain rfl : n = m + x := by omega
    obtain ⟨z0, z1, z2, z3, z4, z5⟩ := SOF.out _ hs6
    go_wp2_with fail
    go_region_held3 (fun w' => w'.cell? ⟨w.heap.size, 0, none⟩ = some (.int .i64 (x : Int)) ∧ w'.cell? ⟨w.heap.size, 1, none⟩ = some (.int .i64 (y : Int)) ∧ w'.cell? ⟨w.heap.size, 2, none⟩ = some (.int .i64 (q : Int)) ∧ w'.cell? ⟨w.heap.size, 3, none⟩ = some (.slice A (m + x) c) ∧ w'.cell? ⟨w.heap.size, 4, none⟩ = some (.int .i64 (j : Int)) ∧ Below (w.heap.size + 1) W w')
      (first | assumption | exact SOF.out _ (by assumption) | exact SOF.out _ hs6.drew | exact SOF.out _ (Go.below_drewN (by assumption) _) | exact SOF.out _ (balloc' (by assumption) hz _))
      (first
        | (go_at_call 52; refine (checked_any x y C m e B _ d0 d1 t1 (by omega) (KJ.out _ (by assumption)) HB.out).mono ?_; rintro e w7 ⟨v7, rfl, A7, c7, rfl, hc7, hI7, hb7⟩; have hs7 : Below (w.heap.size + 1) W w7 := bstep5 hb7 (by assumption) hz)
        | (go_at_call 51; refine (encoded_any q A A7 (m + x) c c7 F (catF m B (remB x y m B)) _ HP.out hn (KI.out _ (by assumption)) (hI7.weak (Nat.zero_le _)) (catF_bits HB.out (remB_bit x y m B))).mono ?_; rintro e w8 ⟨v8, rfl, A8, c8, rfl, hc8, hI8, hb8⟩; have hs8 : Below (w.heap.size + 1) W w8 := bstep5 hb8 (by assumption) hz))
    obtain ⟨-, -, -, -, y4, -⟩ := SOF.out _ hs8
    have hq64 : 2 ^ q ≤ 2 ^ 6 := Nat.pow_le_pow_right (by decide) q6
    have hB8 : Below w.heap.size w w8 := HBB.out.trans (hs8.mono (by omega))
    go_wp2_with fail
    refine (matched_any A8 (2 ^ q) c8 v j _ _ (hI8.weak (Nat.zero_le _)) (by omega) (Nat.two_pow_pos q) (by omega) (by omega)).mono ?_
    rintro e w9 ⟨v9, rfl, A9, c9, rfl, hc9, hI9, hb9⟩
    go_wp2_with fail
    go_ret2
    exact .inr ⟨HZ.out, _, rfl, A9, c9, rfl, hc9, hI9.weak hB8.size, hB8.trans (hb9.mono hB8.size)⟩
  · have ht : (sentErrI d t p n F k m B v != 0) = true := by simpa using hz9
    have HZ := hide hz9
    clear hz9
    go_wp2_with fail
    go_ret2
    exact .inl ⟨HZ.out, rfl, HBB.out.trans (hs6.mono (by omega))⟩
/-- What a chain finds, and whether that is right. -/
def recF (p n : Nat) (F S : Nat → Int) (k : Nat) : Int := cancelF p (fun x => isPos F x n) S (F k).toNat
def recRight (d t p n : Nat) (F S : Nat → Int) : Bool := intsB d (remB d t (n - d) (recF p n F S)) d (fun j => recF p n F S (n - d + j))
theorem recF_bit (p n : Nat) (F S : Nat → Int) (k : Nat) : IsBit (recF p n F S k) := cancelF_bit _ _ _ _
def recPre (d t p : Int) (n : Nat) (F : Nat → Int) (k : Int) (m : Nat) (S : Nat → Int) : Int := firstE [chainErrI d t p n F k, sizedErrI m 200 S 1000000000]
def recErrI (d t p : Int) (n : Nat) (F : Nat → Int) (k : Int) (m : Nat) (S : Nat → Int) : Int :=
  if recPre d t p n F k m S = 0 then (if m = 2 ^ p.toNat then (if recRight d.toNat t.toNat p.toNat n F S = true then 0 else 21) else 10) else recPre d t p n F k m S
/-- As GaveOr, with a bound on the room. -/
def GaveOrCap (err : Int) (n : Nat) (F : Nat → Int) (w : World) (e : Ending) (w' : World) : Prop :=
  (err ≠ 0 ∧ e = .returned (.tuple #[.slice none 0 0, .int .i64 err]) ∧ Below w.heap.size w w') ∨ (err = 0 ∧ ∃ v, e = .returned (.tuple #[v, .int .i64 0]) ∧ (∃ A c, v = .slice A n c ∧ c ≤ 9223372036854775807) ∧ GaveInts w n F v w')
set_option maxHeartbeats 4000000 in
theorem Recovered_cap (d t p k : Int) (A C : Option Addr) (n c m e : Nat) (F S : Nat → Int) (w : World) (hn : n ≤ 1000) (hm : m ≤ 1000) (hme : m ≤ e) (he : e ≤ 9223372036854775807) (hI : IntsAt w 0 A n F) (hJ : IntsAt w 0 C m S) :
    Calls Tryz.prog 38 #[.agg #[.int .i64 d, .int .i64 t, .int .i64 p, .slice A n c, .int .i64 k], .slice C m e] w (GaveOrCap (recErrI d t p n F k m S) (n - d.toNat) (recF p.toNat n F S) w) := by
  have HI := hide hI
  have HJ := hide hJ
  clear hI hJ
  go_enter Tryz.func38, Tryz.ntmps38
  go_wp2_with fail
  refine (chainError_any d t p k A n c F _ hn (HI.out.alloc _)).mono ?_
  rintro r w1 ⟨rfl, hb1⟩
  have h1 := below_of_alloc hb1
  go_wp2_with fail
  refine (sumsErr_any C m e S _ (by omega) (HJ.out.below h1)).mono ?_
  rintro r w2 ⟨rfl, hb2⟩
  go_wp2_with fail
  refine (firstError_laid [chainErrI d t p n F k, sizedErrI m 200 S 1000000000] 2 _ _ rfl (by decide)).mono ?_
  rintro r w3 ⟨rfl, hw3⟩
  rw [show firstE [chainErrI d t p n F k, sizedErrI m 200 S 1000000000] = recPre d t p n F k m S from rfl]
  have bx : Box w3 w.heap.size 28 #[.int .i64 d, .int .i64 t, .int .i64 p, .slice A n c, .int .i64 k] := by rw [← hw3]; exact (((Box.made rfl).below hb1).below hb2).alloc _
  have hB3 : Below w.heap.size w w3 := by
    rw [← hw3]
    exact (h1.trans (hb2.mono h1.size)).alloc (Nat.le_trans h1.size hb2.size) _
  clear hw3 hb1 hb2 h1
  by_cases hz9 : recPre d t p n F k m S = 0
  · obtain ⟨g1, h⟩ := firstE_zero_cons hz9
    obtain ⟨g2, -⟩ := firstE_zero_cons h
    obtain ⟨m0, m2, hS9⟩ := sizedErr_zero g2
    obtain ⟨x, y, q, j, ok⟩ := chainErr_zero g1
    obtain ⟨rfl, rfl, rfl, rfl, d0, d1, t1, -, hpol, q6, hless, k1, k4⟩ := ok
    obtain ⟨N, hN⟩ : ∃ N, N = 2 ^ q := ⟨_, rfl⟩
    have EQ : recErrI (x : Int) y q n F j m S = if m = N then (if recRight x y q n F S = true then 0 else 21) else 10 := by
      unfold recErrI
      rw [if_pos hz9, hN]
      rfl
    rw [hz9]
    have eN : (2 : Int) ^ q = (N : Int) := by rw [hN]; simp
    have hN1 : 1 ≤ N := by rw [hN]; exact Nat.two_pow_pos q
    have hN9 : N ≤ 64 := by rw [hN]; exact Nat.pow_le_pow_right (by decide) q6
    have HP := hide hpol
    have HN := hide hN
    have HS9 := hide hS9
    have hMM : (1000000000 : Int) * 2 ^ q ≤ 1000000000000 := by rw [eN]; omega
    clear hpol g1 g2 hz9 h hN hS9
    have x0 := bx.at_ 0
    have x1 := bx.at_ 1
    have x2 := bx.at_ 2
    have x3 := bx.at_ 3
    simp only [List.getElem?_toArray] at x0 x1 x2 x3
    have hl3 := bx.lt
    by_cases hmN : m = N
    · subst hmN
      rw [if_pos rfl] at EQ
      have tN : ((m : Int) != (m : Int)) = false := by simp
      have HQ := hide EQ
      have HMM := hide hMM
      clear EQ hMM
      go_wp2_with fail
      refine (decoded_own q A C n c m e F S _ HP.out hn HN.out (HI.out.below hB3) (HJ.out.below hB3) hme he 1000000000 HMM.out HS9.out).mono ?_
      rintro r w4 ⟨g, rfl, hI4, hb4⟩
      have bx4 := bx.below hb4
      have hB4 := hB3.trans (hb4.mono hB3.size)
      clear x0 x1 x2 x3 hl3 bx
      have x0 := bx4.at_ 0
      have x1 := bx4.at_ 1
      simp only [List.getElem?_toArray] at x0 x1
      have hl4 := bx4.lt
      have hI4' : IntsAt w4 w3.heap.size (some ⟨g, 0, none⟩) n (recF q n F S) := hI4
      clear hI4
      go_wp2_with fail
      refine (isRight_any x y g 0 n n (recF q n F S) _ d0 d1 t1 hless (by omega) (Nat.le_refl _) (by omega) (hI4'.weak (Nat.zero_le _)) (fun k _ => recF_bit _ _ _ _ k)).mono ?_
      rintro r w5 ⟨rfl, hb5⟩
      rw [show intsB x (remB x y (n - x) (recF q n F S)) x (fun j => recF q n F S (n - x + j)) = recRight x y q n F S from rfl]
      have bx5 := bx4.below hb5
      have hB5 := hB4.trans (hb5.mono hB4.size)
      have hI5 := hI4'.below hb5
      clear x0 x1 hl4 bx4
      have x0 := bx5.at_ 0
      simp only [List.getElem?_toArray] at x0
      have hl5 := bx5.lt
      cases hrr : recRight x y q n F S
      · have HE := hide (show recErrI (x : Int) y q n F j m S = 21 from by rw [HQ.out, hrr]; rfl)
        go_wp2_with fail
        go_ret2
        exact .inl ⟨by rw [HE.out]; decide, by rw [HE.out]; rfl, hB5⟩
      · have HE := hide (show recErrI (x : Int) y q n F j m S = 0 from by rw [HQ.out, hrr]; rfl)
        obtain ⟨z, hzz⟩ : ∃ z : Nat, z = n - x := ⟨_, rfl⟩
        have q1 : IntKind.i64.wrap ((n : Int) - (x : Int)) = (z : Int) := by rw [IntWalk.i64_in _ (by omega)]; omega
        have hzn : z ≤ n := by omega
        have hznz : (z : Int) ≤ (n : Int) := by omega
        have HZZ := hide hzz
        clear hzz
        go_wp2_with fail
        go_ret2
        exact .inr ⟨HE.out, .slice (some ⟨g, 0, none⟩) z n, rfl, ⟨some ⟨g, 0, none⟩, n, by (show Value.slice _ z n = Value.slice _ (n - x) n); rw [HZZ.out], by omega⟩, some ⟨g, 0, none⟩, n, by (show Value.slice _ z n = Value.slice _ (n - x) n); rw [HZZ.out], by (show n - x ≤ n); omega, ((hI5.fewer (m := n - x) (by omega)).weak hB3.size), hB5⟩
    · rw [if_neg hmN] at EQ
      have tN : ((m : Int) != (N : Int)) = true := by simp; omega
      have HQ := hide EQ
      clear EQ hmN
      go_wp2_with fail
      go_ret2
      exact .inl ⟨by rw [HQ.out]; decide, by rw [HQ.out]; rfl, hB3⟩
  · have ht : (recPre d t p n F k m S != 0) = true := by simpa using hz9
    have EQ := hide (show recErrI d t p n F k m S = recPre d t p n F k m S from if_neg hz9)
    have HZ := hide hz9
    clear hz9
    go_wp2_with fail
    go_ret2
    exact .inl ⟨by rw [EQ.out]; exact HZ.out, by rw [EQ.out]; rfl, hB3⟩
end Go.Proofs.YtcdplfjegopmdaaGreat.K
