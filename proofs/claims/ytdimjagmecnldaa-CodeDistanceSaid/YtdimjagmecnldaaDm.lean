/- Right signs are decoded. -/
import Derived.Test.YtdimjagmecnldaaCm
namespace Go.Proofs.Ytdimjagmecnldaa

theorem and_low {k i j : Nat} (hj : j < 2 ^ k) : (2 ^ k + i) &&& j = i &&& j := by
  apply Nat.eq_of_testBit_eq
  intro b
  rw [Nat.testBit_and, Nat.testBit_and]
  rcases Nat.lt_or_ge b k with h | h
  · rw [Nat.testBit_two_pow_add_gt h]
  · have : j.testBit b = false := Nat.testBit_lt_two_pow (Nat.lt_of_lt_of_le hj (Nat.pow_le_pow_right (by decide) h))
    rw [this, Bool.and_false, Bool.and_false]
theorem or_add {k i : Nat} (hi : i < 2 ^ k) : 2 ^ k + i = 2 ^ k ||| i := by
  have := Nat.two_pow_add_eq_or_of_lt hi 1
  simpa using this
theorem and_high {k i j : Nat} (hi : i < 2 ^ k) (hj : j < 2 ^ k) : (2 ^ k + i) &&& (2 ^ k + j) = 2 ^ k + (i &&& j) := by
  have hx : i &&& j < 2 ^ k := Nat.and_lt_two_pow _ hj
  rw [or_add hi, or_add hj, or_add hx, ← Nat.or_and_distrib_left]
theorem and_cross {k i j : Nat} (hi : i < 2 ^ k) : i &&& (2 ^ k + j) ≠ 2 ^ k + j := by
  intro h
  have := Nat.and_le_left (n := i) (m := 2 ^ k + j)
  omega

/-- The word's first half is the sum of both halves' words, the second half the second one's. -/
theorem wsum_low {k : Nat} {U : Nat → Int} {j : Nat} (hj : j < 2 ^ k) : ∀ i, i ≤ 2 ^ k → wsum U j (2 ^ k + i) = xor1 (wsum U j (2 ^ k)) (wsum (fun x => U (2 ^ k + x)) j i)
  | 0, _ => by
    rw [Nat.add_zero]
    show _ = xor1 _ 0
    rcases wsum_bit U j (2 ^ k) with h | h <;> rw [h] <;> rfl
  | i + 1, hi => by
    have ih := wsum_low (U := U) hj i (by omega)
    show (if (2 ^ k + i) &&& j = j then xor1 (wsum U j (2 ^ k + i)) (U (2 ^ k + i)) else wsum U j (2 ^ k + i)) = xor1 _ (if i &&& j = j then xor1 _ _ else _)
    rw [and_low hj, ih]
    by_cases h : i &&& j = j
    · rw [if_pos h, if_pos h]
      unfold xor1
      have e : (fun x => U (2 ^ k + x)) i = U (2 ^ k + i) := rfl
      rw [e]
      omega
    · rw [if_neg h, if_neg h]
theorem wsum_none {k : Nat} {U : Nat → Int} {j : Nat} : ∀ i, i ≤ 2 ^ k → wsum U (2 ^ k + j) i = 0
  | 0, _ => rfl
  | i + 1, hi => by
    unfold wsum
    rw [if_neg (and_cross (by omega))]
    exact wsum_none i (by omega)
theorem wsum_high {k : Nat} {U : Nat → Int} {j : Nat} (hj : j < 2 ^ k) : ∀ i, i ≤ 2 ^ k → wsum U (2 ^ k + j) (2 ^ k + i) = wsum (fun x => U (2 ^ k + x)) j i
  | 0, _ => wsum_none (2 ^ k) (Nat.le_refl _)
  | i + 1, hi => by
    have ih := wsum_high (U := U) hj i (by omega)
    show (if (2 ^ k + i) &&& (2 ^ k + j) = 2 ^ k + j then xor1 (wsum U (2 ^ k + j) (2 ^ k + i)) (U (2 ^ k + i)) else wsum U (2 ^ k + j) (2 ^ k + i)) = (if i &&& j = j then xor1 _ _ else _)
    rw [and_high (by omega) hj, ih]
    by_cases h : i &&& j = j
    · rw [if_pos h, if_pos (by rw [h])]
    · rw [if_neg h, if_neg (by omega)]
theorem word_low {k : Nat} (U : Nat → Int) {j : Nat} (hj : j < 2 ^ k) : wordF (2 ^ (k + 1)) U j = xor1 (wordF (2 ^ k) U j) (wordF (2 ^ k) (fun x => U (2 ^ k + x)) j) := by
  have e : 2 ^ (k + 1) = 2 ^ k + 2 ^ k := by rw [Nat.pow_succ]; omega
  rw [e]
  exact wsum_low hj (2 ^ k) (Nat.le_refl _)
theorem word_high {k : Nat} (U : Nat → Int) {j : Nat} (hj : j < 2 ^ k) : wordF (2 ^ (k + 1)) U (2 ^ k + j) = wordF (2 ^ k) (fun x => U (2 ^ k + x)) j := by
  have e : 2 ^ (k + 1) = 2 ^ k + 2 ^ k := by rw [Nat.pow_succ]; omega
  rw [e]
  exact wsum_high hj (2 ^ k) (Nat.le_refl _)

/-- A soft bit tells a bit. -/
def Tells (s b : Int) : Prop := (b = 0 ∧ 0 < s) ∨ (b = 1 ∧ s < 0)
theorem Tells.lesser {a b x y : Int} (ha : Tells a x) (hb : Tells b y) : Tells (lesserI a b) (xor1 x y) := by
  unfold Tells at *
  unfold lesserI sizeI xor1
  rcases ha with ⟨rfl, ha⟩ | ⟨rfl, ha⟩ <;> rcases hb with ⟨rfl, hb⟩ | ⟨rfl, hb⟩
  · rw [if_pos (by simp; omega)]; left; omega
  · rw [if_neg (by simp; omega)]; right; omega
  · rw [if_neg (by simp; omega)]; right; omega
  · rw [if_pos (by simp; omega)]; left; omega
theorem Tells.far {a b x y : Int} (hx : IsBit x) (ha : Tells a (xor1 x y)) (hb : Tells b y) : Tells (farF x a b) y := by
  unfold Tells at *
  unfold farF xor1 at *
  rcases hx with rfl | rfl
  · rw [if_neg (by decide)]
    rcases hb with ⟨rfl, hb⟩ | ⟨rfl, hb⟩
    · left; omega
    · right; omega
  · rw [if_pos rfl]
    rcases hb with ⟨rfl, hb⟩ | ⟨rfl, hb⟩
    · left; omega
    · right; omega

theorem cancel_right : ∀ (k : Nat) (I : Nat → Bool) (U S : Nat → Int), (∀ j, j < 2 ^ k → IsBit (U j)) → (∀ j, j < 2 ^ k → I j = false → U j = 0) → (∀ j, j < 2 ^ k → Tells (S j) (wordF (2 ^ k) U j)) →
    ∀ j, j < 2 ^ k → cancelF k I S j = U j
  | 0, I, U, S, hU, hI, hS, j, hj => by
    obtain rfl : j = 0 := by simpa using hj
    have h := hS 0 (by decide)
    have hb := hU 0 (by decide)
    have e : wordF (2 ^ 0) U 0 = xor1 0 (U 0) := rfl
    rw [e] at h
    unfold cancelF
    unfold Tells xor1 at h
    cases hi : I 0
    · rw [if_neg (by simp), hI 0 (by decide) hi]
    · rcases hb with hb | hb
      · rw [hb] at h ⊢
        rw [if_neg (by omega)]
      · rw [hb] at h ⊢
        rw [if_pos ⟨rfl, by omega⟩]
  | k + 1, I, U, S, hU, hI, hS, j, hj => by
    have e2 : 2 ^ (k + 1) = 2 ^ k + 2 ^ k := by rw [Nat.pow_succ]; omega
    have h1 : ∀ x, x < 2 ^ k → cancelF k I (fun i => lesserI (S i) (S (2 ^ k + i))) x = U x :=
      cancel_right k I U _ (fun x hx => hU x (by omega)) (fun x hx => hI x (by omega)) (fun x hx => by
        have ha := hS x (by omega)
        have hb := hS (2 ^ k + x) (by omega)
        rw [word_low U hx] at ha
        rw [word_high U hx] at hb
        have h := ha.lesser hb
        have e : xor1 (xor1 (wordF (2 ^ k) U x) (wordF (2 ^ k) (fun x => U (2 ^ k + x)) x)) (wordF (2 ^ k) (fun x => U (2 ^ k + x)) x) = wordF (2 ^ k) U x := by
          have hb1 := (wordF_bit (2 ^ k) U x).le
          unfold xor1; omega
        rw [e] at h
        exact h)
    show (if j < 2 ^ k then cancelF k I (fun i => lesserI (S i) (S (2 ^ k + i))) j else cancelF k (fun i => I (2 ^ k + i)) (fun i => farF (wordF (2 ^ k) (cancelF k I fun i => lesserI (S i) (S (2 ^ k + i))) i) (S i) (S (2 ^ k + i))) (j - 2 ^ k)) = U j
    by_cases hlt : j < 2 ^ k
    · rw [if_pos hlt]; exact h1 j hlt
    · rw [if_neg hlt]
      have hw : ∀ x, wordF (2 ^ k) (cancelF k I fun i => lesserI (S i) (S (2 ^ k + i))) x = wordF (2 ^ k) U x := fun x => wsum_congr h1
      have h := cancel_right k (fun i => I (2 ^ k + i)) (fun i => U (2 ^ k + i)) (fun i => farF (wordF (2 ^ k) (cancelF k I fun i => lesserI (S i) (S (2 ^ k + i))) i) (S i) (S (2 ^ k + i)))
        (fun x hx => hU _ (by omega)) (fun x hx => hI _ (by omega)) (fun x hx => by
          have ha := hS x (by omega)
          have hb := hS (2 ^ k + x) (by omega)
          rw [word_low U hx] at ha
          rw [word_high U hx] at hb
          show Tells (farF (wordF (2 ^ k) (cancelF k I fun i => lesserI (S i) (S (2 ^ k + i))) x) (S x) (S (2 ^ k + x))) _
          rw [hw x]
          exact Tells.far (wordF_bit _ _ _) ha hb) (j - 2 ^ k) (by omega)
      rw [h]
      show U (2 ^ k + (j - 2 ^ k)) = U j
      rw [show 2 ^ k + (j - 2 ^ k) = j by omega]

end Go.Proofs.Ytdimjagmecnldaa
