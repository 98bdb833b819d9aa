/- So far apart: the mathematics of distances. -/
import Derived.Test.YtdimjagmecnldaaDm
namespace Go.Proofs.Ytdimjagmecnldaa
/-- How many ones a number has. -/
def onesN : Nat → Nat → Nat
  | 0, _ => 0
  | k + 1, i => i % 2 + onesN k (i / 2)
/-- How many of the first n are ones. -/
def wt (n : Nat) (W : Nat → Int) : Int := match n with
  | 0 => 0
  | k + 1 => wt k W + W k
theorem wt_nonneg {W : Nat → Int} (h : ∀ j, IsBit (W j)) : ∀ n, 0 ≤ wt n W
  | 0 => Int.le_refl _
  | n + 1 => by
    have h1 := wt_nonneg h n
    have h2 := (h n).le
    show 0 ≤ wt n W + W n
    omega
theorem wt_congr {W V : Nat → Int} : ∀ {n}, (∀ j, j < n → W j = V j) → wt n W = wt n V
  | 0, _ => rfl
  | n + 1, h => by
    show wt n W + W n = wt n V + V n
    rw [wt_congr fun j hj => h j (by omega), h n (by omega)]
theorem wt_add (n : Nat) (W : Nat → Int) : ∀ m, wt (n + m) W = wt n W + wt m (fun j => W (n + j))
  | 0 => by show wt n W = wt n W + 0; omega
  | m + 1 => by
    show wt (n + m) W + W (n + m) = wt n W + (wt m (fun j => W (n + j)) + W (n + m))
    rw [wt_add n W m]; omega
/-- The places where two bits differ, and the ones of the second, are as many as the ones of the first, at least. -/
theorem wt_xor {A B : Nat → Int} (hA : ∀ j, IsBit (A j)) (hB : ∀ j, IsBit (B j)) : ∀ n, wt n A ≤ wt n (fun j => xor1 (A j) (B j)) + wt n B
  | 0 => by
    show (0 : Int) ≤ 0 + 0
    decide
  | n + 1 => by
    have ih := wt_xor hA hB n
    have ha := (hA n).le
    have hb := (hB n).le
    show wt n A + A n ≤ (wt n (fun j => xor1 (A j) (B j)) + xor1 (A n) (B n)) + (wt n B + B n)
    unfold xor1 at ih ⊢
    omega
theorem onesN_high {k i : Nat} (hi : i < 2 ^ k) : onesN (k + 1) (2 ^ k + i) = 1 + onesN k i := by
  induction k generalizing i with
  | zero =>
    have : i = 0 := by simpa using hi
    subst this
    rfl
  | succ k ih =>
    have h2 : 2 ^ (k + 1) = 2 ^ k + 2 ^ k := by rw [Nat.pow_succ]; omega
    have ih := ih (i := i / 2) (by omega)
    show (2 ^ (k + 1) + i) % 2 + onesN (k + 1) ((2 ^ (k + 1) + i) / 2) = 1 + (i % 2 + onesN k (i / 2))
    rw [show (2 ^ (k + 1) + i) / 2 = 2 ^ k + i / 2 by omega, show (2 ^ (k + 1) + i) % 2 = i % 2 by omega, ih]
    omega
theorem onesN_low {k i : Nat} (hi : i < 2 ^ k) : onesN (k + 1) i = onesN k i := by
  induction k generalizing i with
  | zero =>
    have : i = 0 := by simpa using hi
    subst this
    rfl
  | succ k ih =>
    have h2 : 2 ^ (k + 1) = 2 ^ k + 2 ^ k := by rw [Nat.pow_succ]; omega
    show i % 2 + onesN (k + 1) (i / 2) = i % 2 + onesN k (i / 2)
    rw [ih (by omega)]
theorem wt_zero : ∀ n, wt n (fun _ => 0) = 0
  | 0 => rfl
  | n + 1 => by
    show wt n (fun _ => 0) + 0 = 0
    rw [wt_zero n]; rfl
theorem wsum_zero (j : Nat) : ∀ n, wsum (fun _ => 0) j n = 0
  | 0 => rfl
  | n + 1 => by
    have ih := wsum_zero j n
    unfold wsum
    rw [ih]
    split <;> rfl
/-- The word of bits that are not all 0 has 2 to the power D ones at least, if each position with a 1 has D ones at least. -/
theorem far_apart : ∀ (k D : Nat) (U : Nat → Int), (∀ i, IsBit (U i)) → (∃ i, i < 2 ^ k ∧ U i = 1) → (∀ i, i < 2 ^ k → U i = 1 → D ≤ onesN k i) → (2 : Int) ^ D ≤ wt (2 ^ k) (wordF (2 ^ k) U)
  | 0, D, U, hU, ⟨i, hi, h1⟩, hD => by
    have hi0 : i = 0 := by simpa using hi
    subst hi0
    have hd := hD 0 (by decide) h1
    have : D = 0 := by simpa [onesN] using hd
    subst this
    have e : wordF (2 ^ 0) U 0 = xor1 0 (U 0) := rfl
    show (1 : Int) ≤ 0 + wordF (2 ^ 0) U 0
    rw [e, h1]
    decide
  | k + 1, D, U, hU, ⟨i, hi, h1⟩, hD => by
    have h2 : 2 ^ (k + 1) = 2 ^ k + 2 ^ k := by rw [Nat.pow_succ]; omega
    have hlow : wt (2 ^ k) (wordF (2 ^ (k + 1)) U) = wt (2 ^ k) (fun j => xor1 (wordF (2 ^ k) U j) (wordF (2 ^ k) (fun x => U (2 ^ k + x)) j)) := wt_congr fun j hj => word_low U hj
    have hhigh : wt (2 ^ k) (fun j => wordF (2 ^ (k + 1)) U (2 ^ k + j)) = wt (2 ^ k) (wordF (2 ^ k) (fun x => U (2 ^ k + x))) := wt_congr fun j hj => word_high U hj
    have hw : wt (2 ^ (k + 1)) (wordF (2 ^ (k + 1)) U) = wt (2 ^ k) (fun j => xor1 (wordF (2 ^ k) U j) (wordF (2 ^ k) (fun x => U (2 ^ k + x)) j)) + wt (2 ^ k) (wordF (2 ^ k) (fun x => U (2 ^ k + x))) := by
      have h3 := wt_add (2 ^ k) (wordF (2 ^ (k + 1)) U) (2 ^ k)
      rw [hlow, hhigh, ← h2] at h3
      exact h3
    rw [hw]
    by_cases hz : ∃ i, i < 2 ^ k ∧ U i = 1
    · have ih := far_apart k D U hU hz (fun i hi h => by have := hD i (by omega) h; rw [onesN_low hi] at this; exact this)
      have h4 : wt (2 ^ k) (wordF (2 ^ k) U) ≤ wt (2 ^ k) (fun j => xor1 (wordF (2 ^ k) U j) (wordF (2 ^ k) (fun x => U (2 ^ k + x)) j)) + wt (2 ^ k) (wordF (2 ^ k) (fun x => U (2 ^ k + x))) := wt_xor (fun j => wordF_bit (2 ^ k) U j) (fun j => wordF_bit (2 ^ k) (fun x => U (2 ^ k + x)) j) (2 ^ k)
      omega
    · have hz0 : ∀ i, i < 2 ^ k → U i = 0 := fun i hi => (hU i).resolve_right fun h => hz ⟨i, hi, h⟩
      have hlo0 : ∀ j, wordF (2 ^ k) U j = 0 := fun j => by
        unfold wordF
        have : wsum U j (2 ^ k) = wsum (fun _ => 0) j (2 ^ k) := wsum_congr hz0
        rw [this]
        exact wsum_zero j (2 ^ k)
      obtain ⟨i', hi', hu'⟩ : ∃ i', i' < 2 ^ k ∧ U (2 ^ k + i') = 1 := by
        by_cases hik : i < 2 ^ k
        · exact absurd ⟨i, hik, h1⟩ hz
        · exact ⟨i - 2 ^ k, by omega, by rw [show 2 ^ k + (i - 2 ^ k) = i by omega]; exact h1⟩
      have ih := far_apart k (D - 1) (fun x => U (2 ^ k + x)) (fun x => hU _) ⟨i', hi', hu'⟩ (fun x hx h => by
        have := hD (2 ^ k + x) (by omega) h
        rw [onesN_high hx] at this
        omega)
      have hx : wt (2 ^ k) (fun j => xor1 (wordF (2 ^ k) U j) (wordF (2 ^ k) (fun x => U (2 ^ k + x)) j)) = wt (2 ^ k) (wordF (2 ^ k) (fun x => U (2 ^ k + x))) := wt_congr fun j _ => by
        rw [hlo0 j]
        have := (wordF_bit (2 ^ k) (fun x => U (2 ^ k + x)) j).le
        unfold xor1; omega
      rw [hx]
      cases D with
      | zero => have : (2 : Int) ^ (0 - 1) = 1 := rfl
                show (1 : Int) ≤ _
                omega
      | succ D =>
        rw [Nat.add_sub_cancel] at ih
        rw [Int.pow_succ]
        omega
/-- The sum of two words is the word of the sum. -/
theorem wsum_xor (U V : Nat → Int) (j : Nat) : ∀ n, wsum (fun x => xor1 (U x) (V x)) j n = xor1 (wsum U j n) (wsum V j n)
  | 0 => rfl
  | n + 1 => by
    have ih := wsum_xor U V j n
    unfold wsum
    split
    · rw [ih]; unfold xor1; omega
    · exact ih
theorem wordF_xor (n : Nat) (U V : Nat → Int) (j : Nat) : wordF n (fun x => xor1 (U x) (V x)) j = xor1 (wordF n U j) (wordF n V j) := wsum_xor U V j n
/-- The word of a single position has 2 to the power of its ones ones. -/
theorem single_wt : ∀ (k i : Nat), i < 2 ^ k → wt (2 ^ k) (wordF (2 ^ k) (fun x => if x = i then 1 else 0)) = 2 ^ onesN k i
  | 0, i, hi => by
    have : i = 0 := by simpa using hi
    subst this
    rfl
  | k + 1, i, hi => by
    have h2 : 2 ^ (k + 1) = 2 ^ k + 2 ^ k := by rw [Nat.pow_succ]; omega
    have hw : wt (2 ^ (k + 1)) (wordF (2 ^ (k + 1)) (fun x => if x = i then 1 else 0)) = wt (2 ^ k) (fun j => xor1 (wordF (2 ^ k) (fun x => if x = i then 1 else 0) j) (wordF (2 ^ k) (fun x => if 2 ^ k + x = i then 1 else 0) j)) + wt (2 ^ k) (wordF (2 ^ k) (fun x => if 2 ^ k + x = i then 1 else 0)) := by
      have h3 := wt_add (2 ^ k) (wordF (2 ^ (k + 1)) (fun x => if x = i then 1 else 0)) (2 ^ k)
      rw [wt_congr (fun j hj => word_low _ hj), wt_congr (fun j hj => word_high _ hj), ← h2] at h3
      exact h3
    rw [hw]
    by_cases hik : i < 2 ^ k
    · have e0 : ∀ j, wordF (2 ^ k) (fun x => if 2 ^ k + x = i then 1 else 0) j = 0 := fun j => by
        unfold wordF
        have : wsum (fun x => if 2 ^ k + x = i then (1 : Int) else 0) j (2 ^ k) = wsum (fun _ => 0) j (2 ^ k) := wsum_congr fun x _ => if_neg (by omega)
        rw [this]
        exact wsum_zero j _
      have e1 : wt (2 ^ k) (fun j => xor1 (wordF (2 ^ k) (fun x => if x = i then 1 else 0) j) (wordF (2 ^ k) (fun x => if 2 ^ k + x = i then 1 else 0) j)) = wt (2 ^ k) (wordF (2 ^ k) (fun x => if x = i then 1 else 0)) := wt_congr fun j _ => by
        rw [e0 j]
        have := (wordF_bit (2 ^ k) (fun x => if x = i then 1 else 0) j).le
        unfold xor1; omega
      have e2 : wt (2 ^ k) (wordF (2 ^ k) (fun x => if 2 ^ k + x = i then 1 else 0)) = wt (2 ^ k) (fun _ => 0) := wt_congr fun j _ => e0 j
      rw [e1, e2, single_wt k i hik, onesN_low hik, wt_zero]
      omega
    · obtain ⟨y, rfl⟩ : ∃ y, i = 2 ^ k + y := ⟨i - 2 ^ k, by omega⟩
      have e0 : ∀ j, wordF (2 ^ k) (fun x => if x = 2 ^ k + y then 1 else 0) j = 0 := fun j => by
        unfold wordF
        have : wsum (fun x => if x = 2 ^ k + y then (1 : Int) else 0) j (2 ^ k) = wsum (fun _ => 0) j (2 ^ k) := wsum_congr fun x hx => if_neg (by omega)
        rw [this]
        exact wsum_zero j _
      have e3 : ∀ j, wordF (2 ^ k) (fun x => if 2 ^ k + x = 2 ^ k + y then 1 else 0) j = wordF (2 ^ k) (fun x => if x = y then 1 else 0) j := fun j => by
        unfold wordF
        exact wsum_congr fun x _ => by
          by_cases e : x = y
          · rw [if_pos (by omega), if_pos e]
          · rw [if_neg (by omega), if_neg e]
      have e1 : wt (2 ^ k) (fun j => xor1 (wordF (2 ^ k) (fun x => if x = 2 ^ k + y then 1 else 0) j) (wordF (2 ^ k) (fun x => if 2 ^ k + x = 2 ^ k + y then 1 else 0) j)) = wt (2 ^ k) (wordF (2 ^ k) (fun x => if x = y then 1 else 0)) := wt_congr fun j _ => by
        rw [e0 j, e3 j]
        have := (wordF_bit (2 ^ k) (fun x => if x = y then 1 else 0) j).le
        unfold xor1; omega
      have e2 : wt (2 ^ k) (wordF (2 ^ k) (fun x => if 2 ^ k + x = 2 ^ k + y then 1 else 0)) = wt (2 ^ k) (wordF (2 ^ k) (fun x => if x = y then 1 else 0)) := wt_congr fun j _ => e3 j
      have hy : y < 2 ^ k := by omega
      rw [e1, e2, single_wt k y hy, onesN_high hy, show 1 + onesN k y = onesN k y + 1 by omega, Int.pow_succ]
      omega
end Go.Proofs.Ytdimjagmecnldaa
