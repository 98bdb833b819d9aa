/- exploring: CheckPolar -/
import Derived.Test.YtjelbemfljobaaaCd
namespace Go.Proofs.Ytjelbemfljobaaa
open Go.RowKit
/-- A right polar code: n positions F, ascending, below 2 to the power p. -/
structure PolarOk (p n : Nat) (F : Nat → Int) : Prop where
  power : p ≤ 6
  some_ : 0 < n
  range : ∀ k, k < n → 0 ≤ F k ∧ F k ≤ 2 ^ p - 1
  order : ∀ k, k + 1 < n → F k < F (k + 1)
def beforeI (F : Nat → Int) : Nat → Int
  | 0 => -1
  | k + 1 => F k
set_option maxHeartbeats 1000000 in
theorem checkPolar_ok (p : Nat) (A : Option Addr) (n c : Nat) (F : Nat → Int) (w : World) (hok : PolarOk p n F) (hn : n ≤ 1000) (hI : IntsAt w 0 A n F) :
    Calls Try.prog 99 #[.agg #[.int .i64 (p : Int), .slice A n c]] w fun e w' => e = .returned (.int .i64 0) ∧ Below w.heap.size w w' := by
  obtain ⟨h1, h2, h3, h4⟩ := hok
  obtain ⟨p1, p2⟩ := pow2_le p (by omega)
  have HI := hide hI
  have H3 := hide h3
  have H4 := hide h4
  have hne : ((n : Int) == 0) = false := by simp; omega
  clear hI h3 h4
  go_enter Try.func99, Try.ntmps99
  go_wp2_with fail
  refine (isWithin_any _ _ _ _).mono ?_; rintro e w' ⟨rfl, rfl⟩
  rw [withinB_yes (by omega)]
  go_wp2_with fail
  go_loopw [3, 17] (fun r i wr => ∃ k : Nat, k ≤ n ∧ i = .int .i64 k ∧ r = .int .i64 (beforeI F k) ∧ Box wr w.heap.size 26 #[.int .i64 (p : Int), .slice A n c] ∧ Below w.heap.size w wr) (fun _ i _ => n - (intOf i).toNat)
  case atStart => exact ⟨0, Nat.zero_le _, rfl, rfl, Box.made rfl, (Below.refl _ _).alloc (Nat.le_refl _) _⟩
  case round =>
    obtain ⟨k, hk, rfl, rfl, bx, hB⟩ := hrel
    have x0 := bx.at_ 0
    simp only [List.getElem?_toArray] at x0
    by_cases hlt : k < n
    · have hltz : (k : Int) < (n : Int) := by omega
      have hI := HI.out.below hB
      obtain ⟨b, o, rfl, -, hb, hcell⟩ := hI k hlt
      obtain ⟨f1, f2⟩ := H3.out k hlt
      have HW := hide (withinB_yes (H3.out k hlt))
      have hbf : beforeI F k < F k ∧ -1 ≤ beforeI F k := by
        cases k with
        | zero => exact ⟨by show -1 < F 0; omega, Int.le_refl _⟩
        | succ j => exact ⟨H4.out j hlt, by have := H3.out j (by omega); show -1 ≤ F j; omega⟩
      obtain ⟨g1, g2⟩ := hbf
      have HF := hide (show beforeI F (k + 1) = F k from rfl)
      generalize F k = f at *
      generalize beforeI F k = g at *
      go_wp2_with fail
      refine (isWithin_any _ _ _ _).mono ?_; rintro e w' ⟨rfl, rfl⟩
      rw [HW.out]
      go_wp2_with fail
      go_roundw
      case rel => exact ⟨k + 1, by omega, by go_num, by rw [HF.out], bx, hB⟩
      case measure => simp [intOf]; omega
    · obtain rfl : k = n := by omega
      go_wp2_with fail
      go_ret
      exact ⟨rfl, hB⟩
end Go.Proofs.Ytjelbemfljobaaa
