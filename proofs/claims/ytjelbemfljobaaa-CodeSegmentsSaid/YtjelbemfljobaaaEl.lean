/- cancelled, decoded -/
import Derived.Test.YtjelbemfljobaaaEk
import Derived.Test.YtjelbemfljobaaaEc
import Derived.Test.YtjelbemfljobaaaEd
import Derived.Test.YtjelbemfljobaaaEh
namespace Go.Proofs.Ytjelbemfljobaaa
open Go.RowKit Go.Lib
/-- A row of bools I, n of them. -/
def BoolsAt (w : World) (A : Option Addr) (n : Nat) (I : Nat → Bool) : Prop :=
  ∀ k, k < n → ∃ b o, A = some ⟨b, o, none⟩ ∧ b < w.heap.size ∧ w.cell? ⟨b, o + k, none⟩ = some (.bool (I k))
theorem BoolsAt.below {w w' : World} {A : Option Addr} {n : Nat} {I : Nat → Bool} (h : BoolsAt w A n I) (hb : Below w.heap.size w w') : BoolsAt w' A n I := fun k hk => by
  obtain ⟨b, o, e, h2, h3⟩ := h k hk
  exact ⟨b, o, e, Nat.lt_of_lt_of_le h2 hb.size, (hb.cell (p := ⟨b, o + k, none⟩) h2).trans h3⟩
theorem BoolsAt.cut {w : World} {b o j n m : Nat} {I : Nat → Bool} (h : BoolsAt w (some ⟨b, o, none⟩) n I) (hm : j + m ≤ n) : BoolsAt w (some ⟨b, o + j, none⟩) m (fun k => I (j + k)) := fun k hk => by
  obtain ⟨b', o', e, h2, h3⟩ := h (j + k) (by omega)
  injection e with e
  injection e with e1 e2
  subst e1; subst e2
  exact ⟨_, _, rfl, h2, by rw [Nat.add_assoc]; exact h3⟩
theorem BoolsAt.fewer {w : World} {A : Option Addr} {n m : Nat} {I : Nat → Bool} (h : BoolsAt w A n I) (hm : m ≤ n) : BoolsAt w A m I := fun k hk => h k (Nat.lt_of_lt_of_le hk hm)

set_option maxHeartbeats 1000000 in
theorem cancelled_one (ib io ic sb so sc : Nat) (I : Nat → Bool) (S : Nat → Int) (w : World) (hI : BoolsAt w (some ⟨ib, io, none⟩) 1 I) (hS : IntsAt w 0 (some ⟨sb, so, none⟩) 1 S) :
    Calls Try.prog 110 #[.slice (some ⟨ib, io, none⟩) 1 ic, .slice (some ⟨sb, so, none⟩) 1 sc] w fun e w' => ∃ v, e = .returned v ∧ GaveInts w 1 (cancelF 0 I S) v w' := by
  obtain ⟨b, o, e, -, hs⟩ := hI 0 (by omega)
  injection e with e; injection e with e1 e2; subst e1; subst e2
  obtain ⟨b', o', e, -, -, ht⟩ := hS 0 (by omega)
  injection e with e; injection e with e1 e2; subst e1; subst e2
  rw [Nat.add_zero] at hs ht
  clear hI hS
  cases hi : I 0
  · have EQ := hide (show ∀ j, cancelF 0 I S j = 0 from fun j => by unfold cancelF; rw [if_neg (by rw [hi]; simp)])
    rw [hi] at hs
    clear hi
    go_enter Try.func110, Try.ntmps110
    go_wp2_with fail
    go_ret
    refine ⟨_, rfl, _, _, rfl, Nat.le_refl _, (IntsAt.one w w.heap.size 0 _ (Nat.le_refl _)).congr fun j _ => (EQ.out j).symm, by (repeat (first | (with_reducible exact Below.refl _ _) | (with_reducible refine below_drewN ?_ _) | (with_reducible refine Below.drew ?_) | (with_reducible refine Below.alloc ?_ (by first | exact Nat.le_refl _ | (simp; done) | (simp; omega) | omega) _) | (with_reducible refine Below.setCell ?_ (by first | exact Nat.le_refl _ | (simp; done) | (simp; omega) | omega) _)))⟩
  · by_cases hn : S 0 < 0
    · have EQ := hide (show ∀ j, cancelF 0 I S j = 1 from fun j => by unfold cancelF; rw [if_pos ⟨hi, hn⟩])
      rw [hi] at hs
      have hd : decide (S 0 < 0) = true := by simpa using hn
      clear hi
      go_enter Try.func110, Try.ntmps110
      go_wp2_with fail
      go_ret
      refine ⟨_, rfl, _, _, rfl, Nat.le_refl _, (IntsAt.one w w.heap.size 1 _ (Nat.le_refl _)).congr fun j _ => (EQ.out j).symm, by (repeat (first | (with_reducible exact Below.refl _ _) | (with_reducible refine below_drewN ?_ _) | (with_reducible refine Below.drew ?_) | (with_reducible refine Below.alloc ?_ (by first | exact Nat.le_refl _ | (simp; done) | (simp; omega) | omega) _) | (with_reducible refine Below.setCell ?_ (by first | exact Nat.le_refl _ | (simp; done) | (simp; omega) | omega) _)))⟩
    · have EQ := hide (show ∀ j, cancelF 0 I S j = 0 from fun j => by unfold cancelF; rw [if_neg (fun h => hn h.2)])
      rw [hi] at hs
      have hd : decide (S 0 < 0) = false := by simpa using hn
      clear hi hn
      go_enter Try.func110, Try.ntmps110
      go_wp2_with fail
      go_ret
      refine ⟨_, rfl, _, _, rfl, Nat.le_refl _, (IntsAt.one w w.heap.size 0 _ (Nat.le_refl _)).congr fun j _ => (EQ.out j).symm, by (repeat (first | (with_reducible exact Below.refl _ _) | (with_reducible refine below_drewN ?_ _) | (with_reducible refine Below.drew ?_) | (with_reducible refine Below.alloc ?_ (by first | exact Nat.le_refl _ | (simp; done) | (simp; omega) | omega) _) | (with_reducible refine Below.setCell ?_ (by first | exact Nat.le_refl _ | (simp; done) | (simp; omega) | omega) _)))⟩
end Go.Proofs.Ytjelbemfljobaaa
