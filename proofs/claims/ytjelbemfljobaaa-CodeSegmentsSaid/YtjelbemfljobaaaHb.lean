/- CheckPoly of the reference; power and few of the law. -/
import Derived.Test.YtjelbemfljobaaaGa
namespace Go.Proofs.Ytjelbemfljobaaa
open Go.RowKit
set_option maxHeartbeats 1000000 in
theorem checkPolyR_any (d t : Int) (w : World) :
    Calls Try.prog 65 #[.agg #[.int .i64 d, .int .i64 t]] w fun e w' => e = .returned (.int .i64 (polyErrI d t)) ∧ Below w.heap.size w w' := by
  by_cases hd : 1 ≤ d ∧ d ≤ 16
  · obtain ⟨d, rfl⟩ := Int.eq_ofNat_of_zero_le (show 0 ≤ d by omega)
    obtain ⟨h0, h⟩ : 1 ≤ d ∧ d ≤ 16 := by omega
    clear hd
    obtain ⟨h1, h2⟩ := pow2_le d h
    have q1 : IntKind.i64.wrap ((2 : Int) ^ d - 1) = 2 ^ d - 1 := IntWalk.i64_in _ (by omega)
    have HW1 := (withinB_yes (n := (d : Int)) (lo := 1) (hi := 16) (by omega))
    by_cases ht : 1 ≤ t ∧ t ≤ 2 ^ d - 1
    · obtain ⟨t0, t1⟩ := ht
      have HWI := (withinB_yes (n := t) (lo := 1) (hi := 2 ^ d - 1) ⟨t0, t1⟩)
      have EQ := hide (show polyErrI (d : Int) t = if t % 2 = 0 then 3 else 0 from by
        unfold polyErrI
        rw [if_pos (by omega), Int.toNat_natCast, if_pos ⟨t0, t1⟩])
      generalize polyErrI (d : Int) t = R at *
      go_enter Try.func65, Try.ntmps65
      go_wp2_with fail
      generalize hW : World.alloc w _ = W
      have bx : Box W w.heap.size 23 #[.int .i64 (d : Int), .int .i64 t] := by rw [← hW]; exact Box.made rfl
      have hB : Below w.heap.size w W := by rw [← hW]; exact (Below.refl _ _).alloc (Nat.le_refl _) _
      clear hW
      have x0 : W.cell? ⟨w.heap.size, 0, none⟩ = some (.int .i64 (d : Int)) := bx.at_ 0
      have x1 : W.cell? ⟨w.heap.size, 1, none⟩ = some (.int .i64 t) := bx.at_ 1
      have hlt := bx.lt
      go_quiet ((first | (go_at_call 76; exact Calls.quiet_of_same ((powerR_any d _ (by omega)).mono fun _ _ h => ⟨h.1, h.2.symm⟩)) | (go_at_call 12; first | exact quiet_add_same ((within_any _ _ _ _).mono fun _ _ h => ⟨h.1, h.2.symm⟩) | exact Calls.quiet_of_same ((within_any _ _ _ _).mono fun _ _ h => ⟨h.1, h.2.symm⟩))))
      go_wp2_with fail
      · have h : (t % 2 == 0) = true := by assumption
        go_ret
        exact ⟨ret_int (by rw [EQ.out, if_pos (by simpa using h)]), below_drewN hB _⟩
      · have h : (t % 2 == 0) = false := by assumption
        go_ret
        exact ⟨ret_int (by rw [EQ.out, if_neg (by simpa using h)]), below_drewN hB _⟩
    · have HWI := (withinB_no (n := t) (lo := 1) (hi := 2 ^ d - 1) ht)
      have EQ := hide (show polyErrI (d : Int) t = 2 from by
        unfold polyErrI
        rw [if_pos (by omega), Int.toNat_natCast, if_neg ht])
      clear ht
      generalize polyErrI (d : Int) t = R at *
      go_enter Try.func65, Try.ntmps65
      go_wp2_with fail
      generalize hW : World.alloc w _ = W
      have bx : Box W w.heap.size 23 #[.int .i64 (d : Int), .int .i64 t] := by rw [← hW]; exact Box.made rfl
      have hB : Below w.heap.size w W := by rw [← hW]; exact (Below.refl _ _).alloc (Nat.le_refl _) _
      clear hW
      have x0 : W.cell? ⟨w.heap.size, 0, none⟩ = some (.int .i64 (d : Int)) := bx.at_ 0
      have x1 : W.cell? ⟨w.heap.size, 1, none⟩ = some (.int .i64 t) := bx.at_ 1
      have hlt := bx.lt
      go_quiet ((first | (go_at_call 76; exact Calls.quiet_of_same ((powerR_any d _ (by omega)).mono fun _ _ h => ⟨h.1, h.2.symm⟩)) | (go_at_call 12; first | exact quiet_add_same ((within_any _ _ _ _).mono fun _ _ h => ⟨h.1, h.2.symm⟩) | exact Calls.quiet_of_same ((within_any _ _ _ _).mono fun _ _ h => ⟨h.1, h.2.symm⟩))))
      go_wp2_with fail
      go_ret
      exact ⟨ret_int EQ.out.symm, below_drewN hB _⟩
  · have EQ := hide (show polyErrI d t = 2 from by unfold polyErrI; rw [if_neg hd])
    have HW1 := (withinB_no (n := d) (lo := 1) (hi := 16) hd)
    clear hd
    generalize polyErrI d t = R at *
    go_enter Try.func65, Try.ntmps65
    go_wp2_with fail
    generalize hW : World.alloc w _ = W
    have bx : Box W w.heap.size 23 #[.int .i64 d, .int .i64 t] := by rw [← hW]; exact Box.made rfl
    have hB : Below w.heap.size w W := by rw [← hW]; exact (Below.refl _ _).alloc (Nat.le_refl _) _
    clear hW
    have x0 : W.cell? ⟨w.heap.size, 0, none⟩ = some (.int .i64 d) := bx.at_ 0
    have x1 : W.cell? ⟨w.heap.size, 1, none⟩ = some (.int .i64 t) := bx.at_ 1
    have hlt := bx.lt
    go_quiet ((first | (go_at_call 76; fail) | (go_at_call 12; first | exact quiet_add_same ((within_any _ _ _ _).mono fun _ _ h => ⟨h.1, h.2.symm⟩) | exact Calls.quiet_of_same ((within_any _ _ _ _).mono fun _ _ h => ⟨h.1, h.2.symm⟩))))
    go_wp2_with fail
    go_ret
    exact ⟨ret_int EQ.out.symm, below_drewN hB _⟩
set_option maxHeartbeats 400000 in
theorem few_any (A : Option Addr) (n c m : Nat) (w : World) (hn : n ≤ 9223372036854775807) (hm : m ≤ 1000) :
    Calls Try.prog 25 #[.slice A n c, .int .i64 (m : Int)] w fun e w' => e = .returned (.bool (decide (n ≤ 40 ∨ m < n ∧ n ≤ m + 2))) ∧ w = w' := by
  by_cases h1 : n ≤ 40
  · have HE := hide (show decide (n ≤ 40 ∨ m < n ∧ n ≤ m + 2) = true from by simp; omega)
    have t1 : decide ((n : Int) ≤ 40) = true := by simp; omega
    generalize decide (n ≤ 40 ∨ m < n ∧ n ≤ m + 2) = R at *
    go_enter Try.func25, Try.ntmps25
    go_wp2_with fail
    go_ret
    exact ⟨ret_bool HE.out.symm, rfl⟩
  · have t1 : decide ((n : Int) ≤ 40) = false := by simp; omega
    by_cases h2 : m < n
    · have t2 : decide ((m : Int) < (n : Int)) = true := by simp; omega
      have t2' : decide (m < n) = true := by simp; omega
      have HE := hide (show decide (n ≤ 40 ∨ m < n ∧ n ≤ m + 2) = decide ((n : Int) ≤ (m : Int) + 2) from by rw [decide_eq_decide]; omega)
      generalize decide (n ≤ 40 ∨ m < n ∧ n ≤ m + 2) = R at *
      go_enter Try.func25, Try.ntmps25
      go_wp2_with fail
      go_ret
      exact ⟨ret_bool HE.out.symm, rfl⟩
    · have t2 : decide ((m : Int) < (n : Int)) = false := by simp; omega
      have t2' : decide (m < n) = false := by simp; omega
      have HE := hide (show decide (n ≤ 40 ∨ m < n ∧ n ≤ m + 2) = false from by simp; omega)
      generalize decide (n ≤ 40 ∨ m < n ∧ n ≤ m + 2) = R at *
      go_enter Try.func25, Try.ntmps25
      go_wp2_with fail
      go_ret
      exact ⟨ret_bool HE.out.symm, rfl⟩
end Go.Proofs.Ytjelbemfljobaaa
