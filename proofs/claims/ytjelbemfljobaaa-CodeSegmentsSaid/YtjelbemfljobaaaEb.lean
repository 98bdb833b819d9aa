/- exploring -/
import Derived.Test.YtjelbemfljobaaaCb
namespace Go.Proofs.Ytjelbemfljobaaa
open Go.RowKit
set_option maxHeartbeats 400000 in
theorem countedError_any (n m : Nat) (w : World) (hn : n ≤ 100000) (hm : m ≤ 100000) :
    Calls Try.prog 101 #[.int .i64 (n : Int), .int .i64 (m : Int)] w fun e w' => e = .returned (.int .i64 (firstE [unI (decide (0 < n)) 10, unI (decide (n ≤ m)) 8])) ∧ Below w.heap.size w w' := by
  go_enter Try.func101, Try.ntmps101
  go_wp2_with (go_at_call 59; refine (unless_any _ _ _).mono ?_; rintro e w' ⟨rfl, rfl⟩)
  refine (firstError_laid [unI (decide (0 < n)) 10, unI (decide (n ≤ m)) 8] 2 _ _ rfl (by decide)).mono ?_
  rintro e w' ⟨rfl, rfl⟩
  go_wp2_with fail
  go_ret
  exact ⟨rfl, by (repeat (first | (with_reducible exact Below.refl _ _) | (with_reducible refine below_drewN ?_ _) | (with_reducible refine Below.drew ?_) | (with_reducible refine Below.alloc ?_ (by first | exact Nat.le_refl _ | (simp; done) | (simp; omega) | omega) _) | (with_reducible refine Below.setCell ?_ (by first | exact Nat.le_refl _ | (simp; done) | (simp; omega) | omega) _)))⟩
end Go.Proofs.Ytjelbemfljobaaa
