/- Lemmas: E51, E52. -/
import Derived.Test.YtdkbjgnkehoplaaBy06
import Derived.Test.YtdkbjgnkehoplaaBy10
set_option linter.unusedVariables false
set_option linter.unusedSimpArgs false
/- The order of squares p + q r, r r = 2. -/
namespace Go.Proofs.Ytdkbjgnkehoplaa
/-- p + q r is not below 0. -/
def NN (p q : Int) : Prop := (0 ≤ p ∧ 0 ≤ q) ∨ (0 ≤ p ∧ 2 * (q * q) ≤ p * p) ∨ (0 ≤ q ∧ p * p ≤ 2 * (q * q))
theorem sq_mono {x y : Int} (h0 : 0 ≤ x) (h : x ≤ y) : x * x ≤ y * y := Int.mul_le_mul h h h0 (by omega)
theorem le_of_sq5 {x y : Int} (h : x * x ≤ y * y) (hx : 0 ≤ x) (hy : 0 ≤ y) : x ≤ y := by
  rcases Int.lt_or_le y x with h1 | h1
  · have h2 : y * y ≤ y * x := Int.mul_le_mul_of_nonneg_left (by omega) hy
    have h3 : y * x < x * x := Int.mul_lt_mul_of_pos_right h1 (by omega)
    omega
  · exact h1
/-- From squares: a c is at most twice b d. -/
theorem cross5 {a b c d : Int} (ha : 0 ≤ a) (hb : 0 ≤ b) (hc : 0 ≤ c) (hd : 0 ≤ d) (h1 : a * a ≤ 2 * (b * b)) (h2 : c * c ≤ 2 * (d * d)) : a * c ≤ 2 * (b * d) := by
  refine le_of_sq5 ?_ (Int.mul_nonneg ha hc) (Int.mul_nonneg (by decide) (Int.mul_nonneg hb hd))
  have h3 : (a * a) * (c * c) ≤ (2 * (b * b)) * (2 * (d * d)) := Int.mul_le_mul h1 h2 (sq_nonneg c) (Int.mul_nonneg (by decide) (sq_nonneg b))
  have e1 : (a * c) * (a * c) = (a * a) * (c * c) := by grind
  have e2 : (2 * (b * d)) * (2 * (b * d)) = (2 * (b * b)) * (2 * (d * d)) := by grind
  rw [e1, e2]
  exact h3
theorem cross6 {a b c d : Int} (ha : 0 ≤ a) (hb : 0 ≤ b) (hc : 0 ≤ c) (hd : 0 ≤ d) (h1 : 2 * (b * b) ≤ a * a) (h2 : 2 * (d * d) ≤ c * c) : 2 * (b * d) ≤ a * c := by
  refine le_of_sq5 ?_ (Int.mul_nonneg (by decide) (Int.mul_nonneg hb hd)) (Int.mul_nonneg ha hc)
  have h3 : (2 * (b * b)) * (2 * (d * d)) ≤ (a * a) * (c * c) := Int.mul_le_mul h1 h2 (Int.mul_nonneg (by decide) (sq_nonneg d)) (sq_nonneg a)
  have e1 : (a * c) * (a * c) = (a * a) * (c * c) := by grind
  have e2 : (2 * (b * d)) * (2 * (b * d)) = (2 * (b * b)) * (2 * (d * d)) := by grind
  rw [e1, e2]
  exact h3
/-- One that is not below 0 by its first part, and one by its second. -/
theorem nn_mixed {p q r s : Int} (h1 : 0 ≤ p) (h2 : 2 * (q * q) ≤ p * p) (k1 : 0 ≤ s) (k2 : r * r ≤ 2 * (s * s)) : NN (p + r) (q + s) := by
  rcases Int.lt_or_le (p + r) 0 with hp | hp
  · refine .inr (.inr ?_)
    obtain ⟨A, hA⟩ : ∃ A, A = -(p + r) := ⟨_, rfl⟩
    have er : r = -(A + p) := by omega
    subst er
    have e1 : -(A + p) * -(A + p) = A * A + 2 * (A * p) + p * p := by grind
    have e0 : (p + -(A + p)) * (p + -(A + p)) = A * A := by grind
    have pos : 0 ≤ A * p := Int.mul_nonneg (by omega) h1
    rw [e1] at k2
    rw [e0]
    rcases Int.lt_or_le q 0 with hq | hq
    · obtain ⟨b, hb⟩ : ∃ b, b = -q := ⟨_, rfl⟩
      have eq : q = -b := by omega
      subst eq
      have e2 : -b * -b = b * b := Int.neg_mul_neg b b
      rw [e2] at h2
      have hA2 := sq_nonneg A
      have hbs : b ≤ s := le_of_sq5 (by omega) (by omega) k1
      obtain ⟨d, hd⟩ : ∃ d, d = s - b := ⟨_, rfl⟩
      have es : s = d + b := by omega
      subst es
      have e3 : (d + b) * (d + b) = d * d + 2 * (d * b) + b * b := by grind
      have e4 : (-b + (d + b)) * (-b + (d + b)) = d * d := by grind
      rw [e3] at k2
      rw [e4]
      refine ⟨by omega, ?_⟩
      rcases Int.lt_or_le (2 * (d * d)) (A * A) with h | h
      · have := cross6 (a := A) (b := d) (c := p) (d := b) (by omega) (by omega) h1 (by omega) (by omega) h2
        omega
      · exact h
    · have := sq_mono k1 (show s ≤ q + s by omega)
      have hpp := sq_nonneg p
      exact ⟨by omega, by omega⟩
  · rcases Int.lt_or_le (q + s) 0 with hq | hq
    · refine .inr (.inl ⟨hp, ?_⟩)
      obtain ⟨D, hD⟩ : ∃ D, D = -(q + s) := ⟨_, rfl⟩
      have eq : q = -(D + s) := by omega
      subst eq
      have e1 : -(D + s) * -(D + s) = D * D + 2 * (D * s) + s * s := by grind
      have e0 : (-(D + s) + s) * (-(D + s) + s) = D * D := by grind
      have pos : 0 ≤ D * s := Int.mul_nonneg (by omega) k1
      rw [e1] at h2
      rw [e0]
      rcases Int.lt_or_le r 0 with hr | hr
      · obtain ⟨c, hc⟩ : ∃ c, c = -r := ⟨_, rfl⟩
        have er : r = -c := by omega
        subst er
        rw [Int.neg_mul_neg] at k2
        obtain ⟨e, he⟩ : ∃ e, e = p - c := ⟨_, rfl⟩
        have ep : p = e + c := by omega
        subst ep
        have e3 : (e + c) * (e + c) = e * e + 2 * (e * c) + c * c := by grind
        have e4 : (e + c + -c) * (e + c + -c) = e * e := by grind
        rw [e3] at h2
        rw [e4]
        rcases Int.lt_or_le (e * e) (2 * (D * D)) with h | h
        · have := cross5 (a := e) (b := D) (c := c) (d := s) (by omega) (by omega) (by omega) k1 (by omega) k2
          omega
        · exact h
      · have := sq_mono h1 (show p ≤ p + r by omega)
        have hss := sq_nonneg s
        omega
    · exact .inl ⟨hp, hq⟩
theorem NN.add {p q r s : Int} (h : NN p q) (k : NN r s) : NN (p + r) (q + s) := by
  rcases h with ⟨h1, h2⟩ | ⟨h1, h2⟩ | ⟨h1, h2⟩ <;> rcases k with ⟨k1, k2⟩ | ⟨k1, k2⟩ | ⟨k1, k2⟩
  · exact .inl ⟨by omega, by omega⟩
  · rcases Int.lt_or_le (q + s) 0 with hq | hq
    · refine .inr (.inl ⟨by omega, ?_⟩)
      have a1 := sq_mono (x := -(q + s)) (y := -s) (by omega) (by omega)
      have a2 := sq_mono k1 (show r ≤ p + r by omega)
      rw [Int.neg_mul_neg, Int.neg_mul_neg] at a1
      omega
    · exact .inl ⟨by omega, hq⟩
  · rcases Int.lt_or_le (p + r) 0 with hq | hq
    · refine .inr (.inr ⟨by omega, ?_⟩)
      have a1 := sq_mono (x := -(p + r)) (y := -r) (by omega) (by omega)
      have a2 := sq_mono k1 (show s ≤ q + s by omega)
      rw [Int.neg_mul_neg, Int.neg_mul_neg] at a1
      omega
    · exact .inl ⟨hq, by omega⟩
  · rcases Int.lt_or_le (q + s) 0 with hq | hq
    · refine .inr (.inl ⟨by omega, ?_⟩)
      have a1 := sq_mono (x := -(q + s)) (y := -q) (by omega) (by omega)
      have a2 := sq_mono h1 (show p ≤ p + r by omega)
      rw [Int.neg_mul_neg, Int.neg_mul_neg] at a1
      omega
    · exact .inl ⟨by omega, hq⟩
  · refine .inr (.inl ⟨by omega, ?_⟩)
    have a : 2 * (q * s) ≤ p * r := by
      rcases Int.le_total 0 q with hq | hq <;> rcases Int.le_total 0 s with hs | hs
      · exact cross6 h1 hq k1 hs h2 k2
      · have := Int.mul_nonneg h1 k1
        have := Int.mul_nonneg hq (show 0 ≤ -s by omega)
        rw [Int.mul_neg] at this
        omega
      · have := Int.mul_nonneg h1 k1
        have := Int.mul_nonneg (show 0 ≤ -q by omega) hs
        rw [Int.neg_mul] at this
        omega
      · have := cross6 h1 (show 0 ≤ -q by omega) k1 (show 0 ≤ -s by omega) (by rw [Int.neg_mul_neg]; exact h2) (by rw [Int.neg_mul_neg]; exact k2)
        rw [Int.neg_mul_neg] at this
        exact this
    have e1 : (q + s) * (q + s) = q * q + 2 * (q * s) + s * s := by grind
    have e2 : (p + r) * (p + r) = p * p + 2 * (p * r) + r * r := by grind
    rw [e1, e2]
    omega
  · exact nn_mixed h1 h2 k1 k2
  · rcases Int.lt_or_le (p + r) 0 with hq | hq
    · refine .inr (.inr ⟨by omega, ?_⟩)
      have a1 := sq_mono (x := -(p + r)) (y := -p) (by omega) (by omega)
      have a2 := sq_mono h1 (show q ≤ q + s by omega)
      rw [Int.neg_mul_neg, Int.neg_mul_neg] at a1
      omega
    · exact .inl ⟨hq, by omega⟩
  · have := nn_mixed k1 k2 h1 h2
    rwa [Int.add_comm r p, Int.add_comm s q] at this
  · refine .inr (.inr ⟨by omega, ?_⟩)
    have a : p * r ≤ 2 * (q * s) := by
      rcases Int.le_total 0 p with hq | hq <;> rcases Int.le_total 0 r with hs | hs
      · exact cross5 hq h1 hs k1 h2 k2
      · have := Int.mul_nonneg h1 k1
        have := Int.mul_nonneg hq (show 0 ≤ -r by omega)
        rw [Int.mul_neg] at this
        omega
      · have := Int.mul_nonneg h1 k1
        have := Int.mul_nonneg (show 0 ≤ -p by omega) hs
        rw [Int.neg_mul] at this
        omega
      · have := cross5 (show 0 ≤ -p by omega) h1 (show 0 ≤ -r by omega) k1 (by rw [Int.neg_mul_neg]; exact h2) (by rw [Int.neg_mul_neg]; exact k2)
        rw [Int.neg_mul_neg] at this
        exact this
    have e1 : (q + s) * (q + s) = q * q + 2 * (q * s) + s * s := by grind
    have e2 : (p + r) * (p + r) = p * p + 2 * (p * r) + r * r := by grind
    rw [e1, e2]
    omega
theorem cmpI_cases (x y : Int) : (x < y ∧ cmpI x y = -1) ∨ (x = y ∧ cmpI x y = 0) ∨ (y < x ∧ cmpI x y = 1) := by
  unfold cmpI
  split
  · rename_i h; exact .inl ⟨h, rfl⟩
  · split
    · rename_i h1 h2
      exact .inr (.inr ⟨h2, rfl⟩)
    · rename_i h1 h2
      exact .inr (.inl ⟨by omega, rfl⟩)
theorem sq_pos5 {x : Int} (h : x ≠ 0) : 0 < x * x := by
  have h1 := sq_nonneg x
  rcases Int.lt_or_eq_of_le h1 with h2 | h2
  · exact h2
  · exact absurd (sq_zero h2.symm) h
/-- The comparison tells the order. -/
theorem compI_nn (p q : Int) : 0 ≤ compI p q ↔ NN p (-q) := by
  unfold compI NN
  rw [Int.neg_mul_neg]
  have hp := sq_nonneg p
  have hq := sq_nonneg q
  have e : q * (q * 2) = 2 * (q * q) := by rw [← Int.mul_assoc, Int.mul_comm]
  rw [e]
  rcases cmpI_cases p 0 with ⟨h1, e1⟩ | ⟨h1, e1⟩ | ⟨h1, e1⟩ <;> rcases cmpI_cases q 0 with ⟨h2, e2⟩ | ⟨h2, e2⟩ | ⟨h2, e2⟩ <;> rw [e1, e2]
  · rw [if_pos rfl]
    rcases cmpI_cases (p * p) (2 * (q * q)) with ⟨h3, e3⟩ | ⟨h3, e3⟩ | ⟨h3, e3⟩ <;> rw [e3]
    · exact ⟨fun _ => .inr (.inr ⟨by omega, by omega⟩), fun _ => by decide⟩
    · exact ⟨fun _ => .inr (.inr ⟨by omega, by omega⟩), fun _ => by decide⟩
    · refine ⟨fun h => absurd h (by decide), fun h => ?_⟩
      omega
  · subst h2
    have := sq_pos5 (show p ≠ 0 by omega)
    have hc : cmpI (-1) 0 = -1 := by decide
    rw [if_neg (by decide), hc]
    refine ⟨fun h => absurd h (by decide), fun h => ?_⟩
    omega
  · have hc : cmpI (-1) 1 = -1 := by decide
    rw [if_neg (by decide), hc]
    refine ⟨fun h => absurd h (by decide), fun h => ?_⟩
    omega
  · have hc : cmpI 0 (-1) = 1 := by decide
    rw [if_neg (by decide), hc]
    exact ⟨fun _ => .inl ⟨by omega, by omega⟩, fun _ => by decide⟩
  · subst h1 h2
    rw [if_pos rfl]
    exact ⟨fun _ => .inl ⟨by omega, by omega⟩, fun _ => by rw [Int.zero_mul]; exact Int.le_refl _⟩
  · subst h1
    have := sq_pos5 (show q ≠ 0 by omega)
    have hc : cmpI 0 1 = -1 := by decide
    rw [if_neg (by decide), hc]
    refine ⟨fun h => absurd h (by decide), fun h => ?_⟩
    omega
  · have hc : cmpI 1 (-1) = 1 := by decide
    rw [if_neg (by decide), hc]
    exact ⟨fun _ => .inl ⟨by omega, by omega⟩, fun _ => by decide⟩
  · have hc : cmpI 1 0 = 1 := by decide
    rw [if_neg (by decide), hc]
    exact ⟨fun _ => .inl ⟨by omega, by omega⟩, fun _ => by decide⟩
  · rw [if_pos rfl]
    rcases cmpI_cases (p * p) (2 * (q * q)) with ⟨h3, e3⟩ | ⟨h3, e3⟩ | ⟨h3, e3⟩ <;> rw [e3]
    · refine ⟨fun h => absurd h (by decide), fun h => ?_⟩
      omega
    · exact ⟨fun _ => .inr (.inl ⟨by omega, by omega⟩), fun _ => by decide⟩
    · exact ⟨fun _ => .inr (.inl ⟨by omega, by omega⟩), fun _ => by decide⟩
theorem cmpI_neg5 (a : Int) : cmpI (-a) 0 = -cmpI a 0 := by
  rcases sign_cases a with ⟨h, e⟩ | ⟨h, e⟩ | ⟨h, e⟩
  · rw [e, cmpI_gt (show 0 < -a by omega)]; rfl
  · subst h; rfl
  · rw [e, cmpI_lt (show -a < 0 by omega)]
theorem compI_neg5 (p q : Int) : compI (-p) (-q) = -compI p q := by
  unfold compI
  have e1 : -q * (-q * 2) = q * (q * 2) := by rw [Int.neg_mul, Int.neg_mul, Int.mul_neg, Int.neg_neg]
  rw [Int.neg_mul_neg, e1, cmpI_neg5, cmpI_neg5]
  generalize cmpI (p * p) (q * (q * 2)) = z
  obtain ⟨h1, h2⟩ := cmpI_le p 0
  obtain ⟨h3, h4⟩ := cmpI_le q 0
  generalize cmpI p 0 = s at *
  generalize cmpI q 0 = t at *
  by_cases h : s = t
  · rw [if_pos h, if_pos (by omega), Int.neg_mul]
  · rw [if_neg h, if_neg (by omega)]
    unfold cmpI
    by_cases h5 : s < t
    · rw [if_pos h5, if_neg (by omega), if_pos (by omega)]; rfl
    · rw [if_neg h5, if_pos (show t < s by omega), if_pos (show -s < -t by omega)]
end Go.Proofs.Ytdkbjgnkehoplaa
/- Mathematics of sorting: insertion by a comparison that is an order, and what a selection finds. -/
namespace Go.Proofs.Ytdkbjgnkehoplaa
/-- A comparison: below 0 where the first one comes ahead. -/
structure Cmp (c : Nat → Nat → Int) : Prop where
  anti : ∀ i j, c j i = -c i j
  trans : ∀ i j k, c i j ≤ 0 → c j k ≤ 0 → c i k ≤ 0
def cmF (P Q : Nat → Int) (i j : Nat) : Int := compI (P j - P i) (Q i - Q j)
theorem cmF_nn (P Q : Nat → Int) (i j : Nat) : cmF P Q i j ≤ 0 ↔ NN (P i - P j) (Q i - Q j) := by
  unfold cmF
  have h := compI_nn (P i - P j) (Q j - Q i)
  rw [show -(Q j - Q i) = Q i - Q j by omega] at h
  rw [← h]
  have h2 := compI_neg5 (P j - P i) (Q i - Q j)
  rw [show -(P j - P i) = P i - P j by omega, show -(Q i - Q j) = Q j - Q i by omega] at h2
  rw [h2]
  omega
theorem cmF_cmp (P Q : Nat → Int) : Cmp (cmF P Q) := ⟨fun i j => by
  unfold cmF
  have h2 := compI_neg5 (P j - P i) (Q i - Q j)
  rw [show -(P j - P i) = P i - P j by omega, show -(Q i - Q j) = Q j - Q i by omega] at h2
  exact h2, fun i j k h1 h2 => by
  rw [cmF_nn] at h1 h2 ⊢
  have := h1.add h2
  rwa [show P i - P j + (P j - P k) = P i - P k by omega, show Q i - Q j + (Q j - Q k) = Q i - Q k by omega] at this⟩
section
variable {c : Nat → Nat → Int}
theorem Cmp.lt_le (h : Cmp c) {i j k : Nat} (h1 : c i j < 0) (h2 : c j k ≤ 0) : c i k < 0 := by
  have h3 := h.trans i j k (by omega) h2
  rcases Int.lt_or_eq_of_le h3 with h4 | h4
  · exact h4
  · have a1 := h.anti i k
    have a2 := h.anti i j
    have := h.trans j k i h2 (by omega)
    omega
theorem Cmp.le_lt (h : Cmp c) {i j k : Nat} (h1 : c i j ≤ 0) (h2 : c j k < 0) : c i k < 0 := by
  have h3 := h.trans i j k h1 (by omega)
  rcases Int.lt_or_eq_of_le h3 with h4 | h4
  · exact h4
  · have a1 := h.anti i k
    have a2 := h.anti j k
    have := h.trans k i j (by omega) h1
    omega
/-- i comes ahead of j. -/
def Ahead (c : Nat → Nat → Int) (i j : Nat) : Prop := c i j < 0 ∨ (c i j = 0 ∧ i < j)
theorem Cmp.ahead (h : Cmp c) {i j k : Nat} (h1 : Ahead c i j) (h2 : Ahead c j k) : Ahead c i k := by
  rcases h1 with h1 | ⟨h1, h3⟩ <;> rcases h2 with h2 | ⟨h2, h4⟩
  · exact .inl (h.lt_le h1 (by omega))
  · exact .inl (h.lt_le h1 (by omega))
  · exact .inl (h.le_lt (by omega) h2)
  · have h5 := h.trans i j k (by omega) (by omega)
    have h6 := h.trans k j i (by have := h.anti j k; omega) (by have := h.anti i j; omega)
    have := h.anti i k
    exact .inr ⟨by omega, by omega⟩
theorem Cmp.one_way (h : Cmp c) {i j : Nat} (h1 : Ahead c i j) (h2 : Ahead c j i) : False := by
  have := h.anti i j
  rcases h1 with h1 | ⟨h1, h3⟩ <;> rcases h2 with h2 | ⟨h2, h4⟩ <;> omega
/-- n numbers below n in their order. -/
structure Sorted (c : Nat → Nat → Int) (S : Nat → Nat) (n : Nat) : Prop where
  lt : ∀ p, p < n → S p < n
  ord : ∀ p q, p < q → q < n → Ahead c (S p) (S q)
  all : ∀ v, v < n → ∃ p, p < n ∧ S p = v
theorem Sorted.once (h : Cmp c) {S : Nat → Nat} {n : Nat} (s : Sorted c S n) {p q : Nat} (hp : p < n) (hq : q < n) (e : S p = S q) : p = q := by
  rcases Nat.lt_trichotomy p q with h1 | h1 | h1
  · have := s.ord p q h1 hq
    rw [e] at this
    exact absurd (h.one_way this this) id
  · exact h1
  · have := s.ord q p h1 hp
    rw [e] at this
    exact absurd (h.one_way this this) id
/-- Where v is to be put among the first ones. -/
def insJ (c : Nat → Nat → Int) (S : Nat → Nat) (v : Nat) : Nat → Nat
  | 0 => 0
  | j + 1 => if c v (S j) < 0 then insJ c S v j else j + 1
theorem insJ_le (S : Nat → Nat) (v : Nat) : ∀ j, insJ c S v j ≤ j
  | 0 => Nat.le_refl _
  | j + 1 => by
    unfold insJ
    split
    · exact Nat.le_succ_of_le (insJ_le S v j)
    · exact Nat.le_refl _
theorem insJ_behind (S : Nat → Nat) (v : Nat) : ∀ j p, insJ c S v j ≤ p → p < j → c v (S p) < 0
  | 0, p, _, h => absurd h (Nat.not_lt_zero _)
  | j + 1, p, h1, h2 => by
    unfold insJ at h1
    split at h1
    · rename_i h3
      rcases Nat.lt_or_ge p j with h4 | h4
      · exact insJ_behind S v j p h1 h4
      · obtain rfl : p = j := by omega
        exact h3
    · omega
theorem insJ_ahead (S : Nat → Nat) (v : Nat) : ∀ j, insJ c S v j = 0 ∨ ¬ c v (S (insJ c S v j - 1)) < 0
  | 0 => .inl rfl
  | j + 1 => by
    unfold insJ
    split
    · exact insJ_ahead S v j
    · rename_i h
      exact .inr (by rwa [Nat.add_sub_cancel])
/-- The first i numbers in their order S, and i on its way to its place. -/
def midF (S : Nat → Nat) (i j p : Nat) : Nat := if p < j then S p else if p = j then i else if p ≤ i then S (p - 1) else p
def isF (c : Nat → Nat → Int) : Nat → Nat → Nat
  | 0 => fun p => p
  | i + 1 => midF (isF c i) i (insJ c (isF c i) i i)
theorem midF_first {S : Nat → Nat} {i : Nat} (h : ∀ p, i ≤ p → S p = p) (p : Nat) : midF S i i p = S p := by
  unfold midF
  split
  · rfl
  · split
    · rename_i h1 h2
      subst h2
      exact (h p (Nat.le_refl _)).symm
    · split
      · omega
      · exact (h p (by omega)).symm
/-- i and the one ahead of it change places. -/
theorem midF_swap {S : Nat → Nat} {i j : Nat} (hj : j < i) (p : Nat) : midF S i j p = if p = j then midF S i (j + 1) (j + 1) else if p = j + 1 then midF S i (j + 1) j else midF S i (j + 1) p := by
  unfold midF
  by_cases h1 : p = j
  · subst h1
    rw [if_neg (Nat.lt_irrefl _), if_pos rfl, if_pos rfl, if_neg (Nat.lt_irrefl _), if_pos rfl]
  · by_cases h2 : p = j + 1
    · subst h2
      rw [if_neg (by omega), if_neg (by omega), if_pos (by omega), if_neg (by omega), if_pos rfl, if_pos (by omega), Nat.add_sub_cancel]
    · rw [if_neg h1, if_neg h2]
      by_cases h3 : p < j
      · rw [if_pos h3, if_pos (show p < j + 1 by omega), if_neg h1]
      · rw [if_neg h3, if_neg h1, if_neg (show ¬ p < j + 1 by omega), if_neg h2]
theorem Sorted.step (h : Cmp c) {S : Nat → Nat} {i : Nat} (s : Sorted c S i) : Sorted c (midF S i (insJ c S i i)) (i + 1) := by
  have a1 := insJ_le (c := c) S i i
  have a2 := insJ_behind (c := c) S i i
  have a3 := insJ_ahead (c := c) S i i
  obtain ⟨J, hJ⟩ : ∃ J, insJ c S i i = J := ⟨_, rfl⟩
  rw [hJ] at a1 a3 ⊢
  simp only [hJ] at a2
  clear hJ
  have hbef : ∀ p, p < J → Ahead c (S p) i := fun p hp => by
    have hlast : Ahead c (S (J - 1)) i := by
      have hs := s.lt (J - 1) (by omega)
      rcases a3 with h1 | h1
      · omega
      · have := h.anti i (S (J - 1))
        rcases Int.lt_or_eq_of_le (show c (S (J - 1)) i ≤ 0 by omega) with h2 | h2
        · exact .inl h2
        · exact .inr ⟨h2, hs⟩
    rcases Nat.lt_or_ge p (J - 1) with h1 | h1
    · exact h.ahead (s.ord p (J - 1) h1 (by omega)) hlast
    · obtain rfl : p = J - 1 := by omega
      exact hlast
  refine ⟨fun p hp => ?_, fun p q hpq hq => ?_, fun v hv => ?_⟩
  · unfold midF
    split
    · have := s.lt p (by omega); omega
    · split
      · omega
      · split
        · have := s.lt (p - 1) (by omega); omega
        · omega
  · unfold midF
    by_cases q1 : q < J
    · rw [if_pos q1, if_pos (show p < J by omega)]
      exact s.ord p q hpq (by omega)
    · rw [if_neg q1]
      by_cases q2 : q = J
      · rw [if_pos q2, if_pos (show p < J by omega)]
        exact hbef p (by omega)
      · rw [if_neg q2, if_pos (show q ≤ i by omega)]
        by_cases p1 : p < J
        · rw [if_pos p1]
          exact s.ord p (q - 1) (by omega) (by omega)
        · rw [if_neg p1]
          by_cases p2 : p = J
          · rw [if_pos p2]
            exact .inl (a2 (q - 1) (by omega) (by omega))
          · rw [if_neg p2, if_pos (show p ≤ i by omega)]
            exact s.ord (p - 1) (q - 1) (by omega) (by omega)
  · rcases Nat.lt_or_ge v i with h1 | h1
    · obtain ⟨p, hp, e⟩ := s.all v h1
      rcases Nat.lt_or_ge p J with h2 | h2
      · refine ⟨p, by omega, ?_⟩
        unfold midF
        rw [if_pos h2]; exact e
      · refine ⟨p + 1, by omega, ?_⟩
        unfold midF
        rw [if_neg (by omega), if_neg (by omega), if_pos (by omega), Nat.add_sub_cancel]; exact e
    · refine ⟨J, by omega, ?_⟩
      unfold midF
      rw [if_neg (Nat.lt_irrefl _), if_pos rfl]; omega
theorem isF_sorted (h : Cmp c) : ∀ n, Sorted c (isF c n) n ∧ ∀ p, n ≤ p → isF c n p = p
  | 0 => ⟨⟨fun p hp => absurd hp (Nat.not_lt_zero _), fun p q _ hq => absurd hq (Nat.not_lt_zero _), fun v hv => absurd hv (Nat.not_lt_zero _)⟩, fun _ _ => rfl⟩
  | n + 1 => by
    obtain ⟨h1, h2⟩ := isF_sorted h n
    refine ⟨Sorted.step h h1, fun p hp => ?_⟩
    show midF (isF c n) n (insJ c (isF c n) n n) p = p
    have := insJ_le (c := c) (isF c n) n n
    unfold midF
    rw [if_neg (by omega), if_neg (by omega), if_neg (by omega)]
/-- What the selection knows: b is the first of those below i that are not among the first k. -/
def BestP (c : Nat → Nat → Int) (S : Nat → Nat) (k i : Nat) (b : Int) : Prop :=
  (b = -1 ∧ ∀ v, v < i → ∃ p, p < k ∧ S p = v) ∨ ∃ u : Nat, b = u ∧ u < i ∧ (∀ p, p < k → S p ≠ u) ∧ ∀ v, v < i → (∀ p, p < k → S p ≠ v) → v = u ∨ Ahead c u v
theorem BestP.first (S : Nat → Nat) (k : Nat) : BestP c S k 0 (-1) := .inl ⟨rfl, fun v hv => absurd hv (Nat.not_lt_zero _)⟩
theorem BestP.has {S : Nat → Nat} {k i : Nat} {b : Int} (h : BestP c S k i b) (hi : ∃ p, p < k ∧ S p = i) : BestP c S k (i + 1) b := by
  obtain ⟨p0, hp0, e0⟩ := hi
  rcases h with ⟨h1, h2⟩ | ⟨u, h1, h2, h3, h4⟩
  · refine .inl ⟨h1, fun v hv => ?_⟩
    rcases Nat.lt_or_ge v i with h | h
    · exact h2 v h
    · obtain rfl : v = i := by omega
      exact ⟨p0, hp0, e0⟩
  · refine .inr ⟨u, h1, by omega, h3, fun v hv hn => ?_⟩
    rcases Nat.lt_or_ge v i with h | h
    · exact h4 v h hn
    · obtain rfl : v = i := by omega
      exact absurd e0 (hn p0 hp0)
theorem BestP.new {S : Nat → Nat} {k i : Nat} (h : BestP c S k i (-1)) (hi : ∀ p, p < k → S p ≠ i) : BestP c S k (i + 1) i := by
  rcases h with ⟨-, h2⟩ | ⟨u, h1, -⟩
  · refine .inr ⟨i, rfl, Nat.lt_succ_self _, hi, fun v hv hn => ?_⟩
    rcases Nat.lt_or_ge v i with h | h
    · obtain ⟨p, hp, e⟩ := h2 v h
      exact absurd e (hn p hp)
    · exact .inl (by omega)
  · omega
theorem BestP.better (hc : Cmp c) {S : Nat → Nat} {k i u : Nat} (h : BestP c S k i (u : Int)) (hi : ∀ p, p < k → S p ≠ i) (hl : c i u < 0) : BestP c S k (i + 1) i := by
  rcases h with ⟨h1, -⟩ | ⟨u', h1, h2, h3, h4⟩
  · omega
  · obtain rfl : u = u' := by omega
    refine .inr ⟨i, rfl, Nat.lt_succ_self _, hi, fun v hv hn => ?_⟩
    rcases Nat.lt_or_ge v i with h | h
    · rcases h4 v h hn with h5 | h5
      · subst h5; exact .inr (.inl hl)
      · exact .inr (hc.ahead (.inl hl) h5)
    · exact .inl (by omega)
theorem BestP.worse (hc : Cmp c) {S : Nat → Nat} {k i u : Nat} (h : BestP c S k i (u : Int)) (hl : ¬ c i u < 0) : BestP c S k (i + 1) u := by
  rcases h with ⟨h1, -⟩ | ⟨u', h1, h2, h3, h4⟩
  · omega
  · obtain rfl : u = u' := by omega
    refine .inr ⟨u, rfl, by omega, h3, fun v hv hn => ?_⟩
    rcases Nat.lt_or_ge v i with h | h
    · exact h4 v h hn
    · obtain rfl : v = i := by omega
      have := hc.anti v u
      rcases Int.lt_or_eq_of_le (show c u v ≤ 0 by omega) with h5 | h5
      · exact .inr (.inl h5)
      · exact .inr (.inr ⟨h5, h2⟩)
theorem BestP.found (hc : Cmp c) {S : Nat → Nat} {n k : Nat} {b : Int} (s : Sorted c S n) (hk : k < n) (h : BestP c S k n b) : b = (S k : Nat) := by
  have hnot : ∀ p, p < k → S p ≠ S k := fun p hp e => by
    have := s.once hc (show p < n by omega) hk e
    omega
  rcases h with ⟨-, h2⟩ | ⟨u, h1, h2, h3, h4⟩
  · obtain ⟨p, hp, e⟩ := h2 (S k) (s.lt k hk)
    exact absurd e (hnot p hp)
  · rw [h1]
    obtain ⟨q, hq, e⟩ := s.all u h2
    rcases h4 (S k) (s.lt k hk) hnot with h5 | h5
    · rw [h5]
    · have hqk : k ≤ q := by
        rcases Nat.lt_or_ge q k with h6 | h6
        · exact absurd e (h3 q h6)
        · exact h6
      rcases Nat.lt_or_eq_of_le hqk with h6 | h6
      · have := s.ord k q h6 hq
        rw [e] at this
        exact absurd (hc.one_way h5 this) id
      · rw [← e, h6]
end
end Go.Proofs.Ytdkbjgnkehoplaa
