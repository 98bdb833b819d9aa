/- A burst put on bits. -/
import Derived.Test.YtjelbemfljobaaaHe
namespace Go.Proofs.Ytjelbemfljobaaa
open Go.RowKit Go.Shelf
/-- A word with a pattern's first i bits changed from the place a on. -/
def burstF (G : Nat → Int) (a x d i k : Nat) : Int := if a ≤ k ∧ k < a + i then (G k + bitsOfF x d (k - a)) % 2 else G k
theorem burstF_succ (G : Nat → Int) (a x d k j : Nat) : burstF G a x d (k + 1) j = setF (burstF G a x d k) (a + k) ((G (a + k) + bitsOfF x d k) % 2) j := by
  show (if a ≤ j ∧ j < a + (k + 1) then (G j + bitsOfF x d (j - a)) % 2 else G j) = if j = a + k then ((G (a + k) + bitsOfF x d k) % 2) else if a ≤ j ∧ j < a + k then (G j + bitsOfF x d (j - a)) % 2 else G j
  by_cases e : j = a + k
  · subst e
    rw [if_pos (by omega), if_pos rfl, Nat.add_sub_cancel_left]
  · rw [if_neg e]
    by_cases e2 : a ≤ j ∧ j < a + k
    · rw [if_pos e2, if_pos (by omega)]
    · rw [if_neg e2, if_neg (by omega)]
theorem burstF_bit {G : Nat → Int} (h : ∀ k, IsBit (G k)) (a x d i k : Nat) : IsBit (burstF G a x d i k) := by
  unfold burstF
  split
  · unfold IsBit; omega
  · exact h k
end Go.Proofs.Ytjelbemfljobaaa
