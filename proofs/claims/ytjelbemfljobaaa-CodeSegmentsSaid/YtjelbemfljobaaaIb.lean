/- Long division bit by bit: the reference's Remainder. -/
import Derived.Test.YtjelbemfljobaaaIa
import Derived.Test.YtjelbemfljobaaaHd
import Derived.Test.YtjelbemfljobaaaFc
import Derived.Test.YtjelbemfljobaaaHn
namespace Go.Proofs.Ytjelbemfljobaaa
open Go.RowKit Go.Shelf
def bitI (s j : Nat) : Int := if s.testBit j = true then 1 else 0
/-- What stands at place j behind i steps of the division. -/
def divF (d t n : Nat) (F : Nat → Int) (i j : Nat) : Int := ((if j < n then F j else 0) + (if j < i + d then bitI (remF d t F i) (i + d - 1 - j) else 0)) % 2
theorem divF_zero {d t n : Nat} {F : Nat → Int} (hF : ∀ k, k < n → IsBit (F k)) (j : Nat) : divF d t n F 0 j = if j < n then F j else 0 := by
  have e : remF d t F 0 = 0 := rfl
  unfold divF bitI
  rw [e, Nat.zero_testBit]
  by_cases hj : j < n
  · have := (hF j hj).le
    rw [if_pos hj]
    simp
    omega
  · rw [if_neg hj]; simp
theorem divF_bit (d t n : Nat) (F : Nat → Int) (i j : Nat) : IsBit (divF d t n F i j) := by unfold divF IsBit; omega
theorem bitI_bit (s j : Nat) : bitI s j = 0 ∨ bitI s j = 1 := by unfold bitI; split <;> simp
theorem bitsOfF_bitI (t d j : Nat) : bitsOfF t d j = bitI t (d - 1 - j) := by
  unfold bitsOfF bitI
  rw [Nat.testBit_eq_decide_div_mod_eq]
  have : t / 2 ^ (d - 1 - j) % 2 = 0 ∨ t / 2 ^ (d - 1 - j) % 2 = 1 := by omega
  rcases this with h | h <;> rw [h] <;> rfl
theorem carry_div {d t n i : Nat} {F : Nat → Int} (h0 : 1 ≤ d) (ht : t < 2 ^ d) (hF : ∀ k, k < n → IsBit (F k)) (hi : i < n) : carryB d (remF d t F i) (F i).toNat = decide (divF d t n F i i = 1) := by
  rw [carry_bit h0 (remF_lt F ht i) (hF i hi).nat]
  unfold divF bitI
  rw [if_pos hi, if_pos (show i < i + d by omega), show i + d - 1 - i = d - 1 by omega]
  rcases hF i hi with h | h <;> rw [h] <;> cases (remF d t F i).testBit (d - 1) <;> rfl
/-- One step of the division, where the head is 0, and where it is 1. -/
theorem divF_succ {d t n i : Nat} {F : Nat → Int} (h0 : 1 ≤ d) (ht : t < 2 ^ d) (hF : ∀ k, k < n → IsBit (F k)) (hi : i < n) {j : Nat} (hj : i + 1 ≤ j) :
    divF d t n F (i + 1) j = if divF d t n F i i = 1 ∧ j < i + 1 + d then (divF d t n F i j + bitsOfF t d (j - (i + 1))) % 2 else divF d t n F i j := by
  have hc := carry_div h0 ht hF hi
  by_cases hlt : j < i + 1 + d
  · have hb := step_bit (s := remF d t F i) (b := (F i).toNat) ht (show i + d - j < d by omega)
    have hs : (remF d t F (i + 1)).testBit (i + d - j) = ((decide (0 < i + d - j) && (remF d t F i).testBit (i + d - j - 1)) ^^ (decide (divF d t n F i i = 1) && t.testBit (i + d - j))) := by rw [← hc]; exact hb
    rw [bitsOfF_bitI, show d - 1 - (j - (i + 1)) = i + d - j by omega]
    have e1 : divF d t n F (i + 1) j = ((if j < n then F j else 0) + bitI (remF d t F (i + 1)) (i + d - j)) % 2 := by
      unfold divF; rw [if_pos hlt, show i + 1 + d - 1 - j = i + d - j by omega]
    have e2 : divF d t n F i j = ((if j < n then F j else 0) + (if (decide (0 < i + d - j) && (remF d t F i).testBit (i + d - j - 1)) = true then 1 else 0)) % 2 := by
      unfold divF bitI
      by_cases h2 : j < i + d
      · rw [if_pos h2, decide_eq_true (show 0 < i + d - j by omega), Bool.true_and, show i + d - 1 - j = i + d - j - 1 by omega]
      · rw [if_neg h2, decide_eq_false (show ¬ 0 < i + d - j by omega)]; simp
    by_cases h1 : divF d t n F i i = 1
    · rw [if_pos ⟨h1, hlt⟩, e1, e2]
      unfold bitI
      rw [hs, decide_eq_true h1]
      generalize (if j < n then F j else 0) = f
      cases (decide (0 < i + d - j) && (remF d t F i).testBit (i + d - j - 1)) <;> cases t.testBit (i + d - j) <;> simp <;> omega
    · rw [if_neg (fun h => h1 h.1), e1, e2]
      unfold bitI
      rw [hs, decide_eq_false h1]
      generalize (if j < n then F j else 0) = f
      cases (decide (0 < i + d - j) && (remF d t F i).testBit (i + d - j - 1)) <;> simp
  · rw [if_neg (fun h => hlt h.2)]
    unfold divF
    rw [if_neg hlt, if_neg (show ¬ j < i + d by omega)]
theorem divF_end {d t n : Nat} {F : Nat → Int} {j : Nat} (hj : j < d) : divF d t n F n (n + j) = remB d t n F j := by
  unfold divF remB bitI
  rw [if_neg (by omega), if_pos (by omega), show n + d - 1 - (n + j) = d - 1 - j by omega, Nat.testBit, Nat.one_and_eq_mod_two, Nat.and_one_is_mod]
  generalize remF d t F n >>> (d - 1 - j) = x
  have : x % 2 = 0 ∨ x % 2 = 1 := by omega
  rcases this with h | h <;> rw [h] <;> rfl
end Go.Proofs.Ytjelbemfljobaaa
