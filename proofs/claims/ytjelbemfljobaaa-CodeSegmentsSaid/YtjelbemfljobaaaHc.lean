/- BitsOf. -/
import Derived.Test.YtjelbemfljobaaaGa
namespace Go.Proofs.Ytjelbemfljobaaa
open Go.RowKit
/-- The bits of a number, the greatest power first. -/
def bitsOfF (t n : Nat) (j : Nat) : Int := ((t / 2 ^ (n - 1 - j) % 2 : Nat) : Int)
set_option maxHeartbeats 1000000 in
theorem bitsOf_any (t n : Nat) (w : World) (ht : t ≤ 1000000000) (hn : n ≤ 100) :
    Calls Try.prog 126 #[.int .i64 (t : Int), .int .i64 (n : Int)] w fun e w' => ∃ v, e = .returned v ∧ GaveInts w n (bitsOfF t n) v w' := by
  obtain ⟨i0, hi, hz0, hz1, hz2⟩ := info_parts intInfo
  have hmk := fun W => run_make_row (P := Try.prog) 24 3 i0 (.int .i64 0) Try.underlying24 hi hz0 hz1 rfl .i64 .i64 n (by rw [hz2]; omega) (by omega) W
  clear hi hz0 hz1 hz2
  go_enter Try.func126, Try.ntmps126
  go_wp2_with fail
  clear hmk
  go_loopw [0, 6] (fun x i wr => ∃ k : Nat, k ≤ n ∧ i = .int .i64 ((n : Int) - 1 - k) ∧ x = .int .i64 ((t / 2 ^ k : Nat) : Int) ∧ wr.rowIs w.heap.size 3 n (fun j => .int .i64 (if n ≤ j + k then bitsOfF t n j else 0)) ∧ Below w.heap.size w wr) (fun _ i _ => (intOf i + 1).toNat)
  case atStart => exact ⟨0, Nat.zero_le _, by simp, by simp, (World.rowIs_made w (.int .i64 0) n 3).congr (fun j hj => by rw [if_neg (by omega)]), by (repeat (first | (with_reducible exact Below.refl _ _) | (with_reducible refine below_drewN ?_ _) | (with_reducible refine Below.drew ?_) | (with_reducible refine Below.alloc ?_ (by first | exact Nat.le_refl _ | (simp; done) | (simp; omega) | omega) _) | (with_reducible refine Below.setCell ?_ (by first | exact Nat.le_refl _ | (simp; done) | (simp; omega) | omega) _)))⟩
  case round =>
    obtain ⟨k, hk, rfl, rfl, hR, hB⟩ := hrel
    have hle : t / 2 ^ k ≤ t := Nat.div_le_self _ _
    have HS := hide (show t / 2 ^ (k + 1) = t / 2 ^ k / 2 from by rw [Nat.pow_succ, Nat.div_div_eq_div_mul])
    by_cases hlt : k < n
    · obtain ⟨x, hx⟩ : ∃ x : Nat, x = n - 1 - k := ⟨_, rfl⟩
      have hxi : (n : Int) - 1 - k = (x : Int) := by omega
      have hxn : x < n := by omega
      rw [hxi]
      have hc := hR.cell hxn
      have hf := hR.frozen x
      have HX := hide hx
      have HV := hide (show bitsOfF t n x = ((t / 2 ^ k % 2 : Nat) : Int) from by unfold bitsOfF; rw [show n - 1 - x = k by omega])
      have hk' : (n : Int) - 1 - (k + 1 : Nat) = (x : Int) - 1 := by omega
      have HK := hide hk'
      clear hx hxi hk'
      generalize t / 2 ^ k = y at *
      go_wp2_with fail
      refine ⟨⟨k + 1, by omega, by rw [HK.out], by rw [HS.out]; simp, (hR.set x _).congr (fun j hj => ?_), hB.setCell (by simp) _⟩, by simp [intOf]⟩
      by_cases e : j = x
      · subst e
        rw [if_pos rfl, if_pos (by have := HX.out; omega), HV.out]
        simp
      · rw [if_neg e]
        by_cases e2 : n ≤ j + k
        · rw [if_pos e2, if_pos (by omega)]
        · rw [if_neg e2, if_neg (by have := HX.out; omega)]
    · obtain rfl : k = n := by omega
      rw [show (k : Int) - 1 - k = -1 by omega]
      go_wp2_with fail
      go_ret
      exact ⟨_, rfl, GaveInts.of_row (hR.congr (fun j _ => by rw [if_pos (by omega)])) (Nat.le_refl _) hB⟩
end Go.Proofs.Ytjelbemfljobaaa
