/- exploring: lesser -/
import Derived.Test.YtjelbemfljobaaaCb
namespace Go.Proofs.Ytjelbemfljobaaa
open Go.RowKit
theorem sizeI_neg {a : Int} (h : a < 0) : sizeI a = -a := by unfold sizeI; omega
theorem sizeI_pos {a : Int} (h : 0 ≤ a) : sizeI a = a := by unfold sizeI; omega
set_option maxHeartbeats 1000000 in
theorem lesser_any (a b : Int) (w : World) (ha : -1000000000000 ≤ a ∧ a ≤ 1000000000000) (hb : -1000000000000 ≤ b ∧ b ≤ 1000000000000) :
    Calls Try.prog 128 #[.int .i64 a, .int .i64 b] w fun e w' => e = .returned (.int .i64 (lesserI a b)) ∧ w = w' := by
  obtain ⟨a0, a1⟩ := ha
  obtain ⟨b0, b1⟩ := hb
  by_cases h1 : a < 0
  · have d1 : decide (a < 0) = true := by simpa using h1
    by_cases h2 : b < 0
    · have d2 : decide (b < 0) = true := by simpa using h2
      have E := hide (show lesserI a b = min (-a) (-b) from by rw [lesserI, if_pos (by simp [h1, h2]), sizeI_neg h1, sizeI_neg h2])
      go_enter Try.func128, Try.ntmps128
      go_wp2
      all_goals
        go_ret
        exact ⟨ret_int (by rw [E.out, Int.min_def]; split <;> omega), rfl⟩
    · have E := hide (show lesserI a b = -min (-a) b from by rw [lesserI, if_neg (by simp [h1, h2]), sizeI_neg h1, sizeI_pos (by omega)])
      have h2' : 0 ≤ b := by omega
      have d2 : decide (b < 0) = false := by simpa using h2'
      clear h2
      go_enter Try.func128, Try.ntmps128
      go_wp2
      all_goals
        go_ret
        exact ⟨ret_int (by rw [E.out, Int.min_def]; split <;> omega), rfl⟩
  · have h1' : 0 ≤ a := by omega
    have d1 : decide (a < 0) = false := by simpa using h1
    by_cases h2 : b < 0
    · have d2 : decide (b < 0) = true := by simpa using h2
      have E := hide (show lesserI a b = -min a (-b) from by rw [lesserI, if_neg (by simp [h1, h2]), sizeI_pos h1', sizeI_neg h2])
      clear h1
      go_enter Try.func128, Try.ntmps128
      go_wp2
      all_goals
        go_ret
        exact ⟨ret_int (by rw [E.out, Int.min_def]; split <;> omega), rfl⟩
    · have E := hide (show lesserI a b = min a b from by rw [lesserI, if_pos (by simp [h1, h2]), sizeI_pos h1', sizeI_pos (by omega)])
      have h2' : 0 ≤ b := by omega
      have d2 : decide (b < 0) = false := by simpa using h2'
      clear h1 h2
      go_enter Try.func128, Try.ntmps128
      go_wp2
      all_goals
        go_ret
        exact ⟨ret_int (by rw [E.out, Int.min_def]; split <;> omega), rfl⟩
end Go.Proofs.Ytjelbemfljobaaa
