/- Errors of sums, versions, counts, lengths: of the code and of the reference. -/
import Derived.Test.YtjelbemfljobaaaHd
namespace Go.Proofs.Ytjelbemfljobaaa
open Go.RowKit
def sizedB (n : Nat) (F : Nat → Int) (m : Int) : Bool := !anyN n fun j => !withinB (F j) (-m) m
theorem sizedB_iff {n : Nat} {F : Nat → Int} {m : Int} : sizedB n F m = true ↔ ∀ j, j < n → -m ≤ F j ∧ F j ≤ m := by
  unfold sizedB
  rw [Bool.not_eq_true', ← Bool.not_eq_true, anyN_iff]
  constructor
  · intro h j hj
    refine Classical.byContradiction fun hno => h ⟨j, hj, ?_⟩
    rw [withinB_no hno]; rfl
  · rintro h ⟨j, hj, e⟩
    rw [withinB_yes (h j hj)] at e
    cases e
def sizedErrI (n cnt : Nat) (F : Nat → Int) (m : Int) : Int := if n = 0 then 10 else if cnt < n then 8 else if sizedB n F m = true then 0 else 2
theorem sizedErr_first (n cnt : Nat) (F : Nat → Int) (m : Int) : firstE [firstE [unI (decide (0 < n)) 10, unI (decide (n ≤ cnt)) 8], unI (sizedB n F m) 2] = sizedErrI n cnt F m := by
  unfold sizedErrI
  by_cases h1 : n = 0
  · rw [if_pos h1, h1]; rfl
  · rw [if_neg h1, decide_eq_true (show 0 < n by omega)]
    by_cases h2 : cnt < n
    · rw [if_pos h2, decide_eq_false (show ¬ n ≤ cnt by omega)]; rfl
    · rw [if_neg h2, decide_eq_true (show n ≤ cnt by omega)]
      cases sizedB n F m <;> rfl
theorem sizedErr_zero {n cnt : Nat} {F : Nat → Int} {m : Int} (h : sizedErrI n cnt F m = 0) : 0 < n ∧ n ≤ cnt ∧ ∀ j, j < n → -m ≤ F j ∧ F j ≤ m := by
  unfold sizedErrI at h
  by_cases h1 : n = 0
  · rw [if_pos h1] at h; exact absurd h (by decide)
  · rw [if_neg h1] at h
    by_cases h2 : cnt < n
    · rw [if_pos h2] at h; exact absurd h (by decide)
    · rw [if_neg h2] at h
      by_cases h3 : sizedB n F m = true
      · exact ⟨by omega, by omega, sizedB_iff.1 h3⟩
      · rw [if_neg h3] at h; exact absurd h (by decide)
theorem softErr_any (A : Option Addr) (n c : Nat) (F : Nat → Int) (w : World) (hn : n ≤ 100000) (hI : IntsAt w 0 A n F) :
    Calls Try.prog 94 #[.slice A n c] w fun e w' => e = .returned (.int .i64 (sizedErrI n 400 F 1000000)) ∧ Below w.heap.size w w' :=
  (softError_any A n c F w hn hI).mono fun e w' h => ⟨by rw [h.1, ← sizedErr_first]; rfl, h.2⟩
set_option maxHeartbeats 1000000 in
theorem sumsErr_any (A : Option Addr) (n c : Nat) (F : Nat → Int) (w : World) (hn : n ≤ 100000) (hI : IntsAt w 0 A n F) :
    Calls Try.prog 72 #[.slice A n c] w fun e w' => e = .returned (.int .i64 (sizedErrI n 200 F 1000000000)) ∧ Below w.heap.size w w' := by
  have HI := hide hI
  have HF := hide (sizedErr_first n 200 F 1000000000)
  unfold sizedB at HF
  clear hI
  go_enter Try.func72, Try.ntmps72
  go_wp2_with fail
  refine (countedError_any n 200 _ hn (by omega)).mono ?_
  rintro e w1 ⟨rfl, hb1⟩
  go_wp2_with fail
  refine (areWithin_any A n c F 1000000000 _ hn (HI.out.below hb1) (by omega) (by omega)).mono ?_
  rintro e w2 ⟨rfl, hb2⟩
  go_wp2_with (go_at_call 59; refine (unless_any _ _ _).mono ?_; rintro e w' ⟨rfl, rfl⟩)
  refine (firstError_laid [firstE [unI (decide (0 < n)) 10, unI (decide (n ≤ 200)) 8], unI (!anyN n fun j => !withinB (F j) (-1000000000) 1000000000) 2] 2 _ _ rfl (by decide)).mono ?_
  rintro e w' ⟨rfl, rfl⟩
  go_wp2_with fail
  go_ret
  have s1 := hb1.size
  have s2 := hb2.size
  exact ⟨ret_int HF.out, by (repeat (first | (with_reducible exact Below.refl _ _) | (with_reducible refine below_drewN ?_ _) | (with_reducible refine Below.drew ?_) | (with_reducible refine Below.alloc ?_ (by first | exact Nat.le_refl _ | (simp; done) | (simp; omega) | omega) _) | (with_reducible refine Below.trans ?_ (Below.mono hb2 (by first | exact Nat.le_refl _ | (simp; done) | (simp; omega) | omega))) | (with_reducible refine Below.trans ?_ (Below.mono hb1 (by first | exact Nat.le_refl _ | (simp; done) | (simp; omega) | omega))) | (with_reducible refine Below.setCell ?_ (by first | exact Nat.le_refl _ | (simp; done) | (simp; omega) | omega) _)))⟩
theorem lengthError_any (v : Int) (w : World) : Calls Try.prog 79 #[.int .i64 v] w fun e w' => e = .returned (.int .i64 (unI (withinB v 1 200) 2)) ∧ w = w' := by
  go_enter Try.func79, Try.ntmps79
  go_wp2_with (first | (go_at_call 80; refine (isWithin_any _ _ _ _).mono ?_; rintro e w' ⟨rfl, rfl⟩) | (go_at_call 59; refine (unless_any _ _ _).mono ?_; rintro e w' ⟨rfl, rfl⟩))
  go_ret
  exact ⟨rfl, rfl⟩
set_option maxHeartbeats 400000 in
theorem versionErrR_any (v : Int) (w : World) : Calls Try.prog 18 #[.int .i64 v] w fun e w' => e = .returned (.int .i64 (unI (withinB v 0 3) 15)) ∧ w = w' := by
  cases h : withinB v 0 3
  all_goals
    go_enter Try.func18, Try.ntmps18
    go_wp2_with fail
    refine (within_any _ _ _ _).mono ?_; rintro e w' ⟨rfl, rfl⟩
    rw [h]
    go_wp2_with fail
    go_ret
    exact ⟨rfl, rfl⟩
set_option maxHeartbeats 400000 in
theorem countErrR_any (v : Int) (w : World) : Calls Try.prog 67 #[.int .i64 v] w fun e w' => e = .returned (.int .i64 (unI (withinB v 1 400) 2)) ∧ w = w' := by
  cases h : withinB v 1 400
  all_goals
    go_enter Try.func67, Try.ntmps67
    go_wp2_with fail
    refine (within_any _ _ _ _).mono ?_; rintro e w' ⟨rfl, rfl⟩
    rw [h]
    go_wp2_with fail
    go_ret
    exact ⟨rfl, rfl⟩
set_option maxHeartbeats 400000 in
theorem lengthErrR_any (v : Int) (w : World) : Calls Try.prog 37 #[.int .i64 v] w fun e w' => e = .returned (.int .i64 (unI (withinB v 1 200) 2)) ∧ w = w' := by
  cases h : withinB v 1 200
  all_goals
    go_enter Try.func37, Try.ntmps37
    go_wp2_with fail
    refine (within_any _ _ _ _).mono ?_; rintro e w' ⟨rfl, rfl⟩
    rw [h]
    go_wp2_with fail
    go_ret
    exact ⟨rfl, rfl⟩
set_option maxHeartbeats 1000000 in
theorem sizedErrR_any (A : Option Addr) (n c cnt : Nat) (m : Int) (F : Nat → Int) (w : World) (hn : n ≤ 9223372036854775807) (hc : cnt ≤ 1000) (h0 : 0 ≤ m) (h1 : m ≤ 1000000000000) (hI : IntsAt w 0 A n F) :
    Calls Try.prog 75 #[.slice A n c, .int .i64 (cnt : Int), .int .i64 m] w fun e w' => e = .returned (.int .i64 (sizedErrI n cnt F m)) ∧ ∃ q, w' = w.drewN q := by
  by_cases hz : n = 0
  · have EQ := hide (show sizedErrI n cnt F m = 10 from if_pos hz)
    generalize sizedErrI n cnt F m = R at *
    subst hz
    clear hI
    go_enter Try.func75, Try.ntmps75
    go_wp2_with fail
    go_ret
    exact ⟨ret_int EQ.out.symm, 0, rfl⟩
  · have t1 : ((n : Int) == 0) = false := by simp; omega
    by_cases h2 : cnt < n
    · have EQ := hide (show sizedErrI n cnt F m = 8 from by unfold sizedErrI; rw [if_neg hz, if_pos h2])
      have t2 : decide ((cnt : Int) < (n : Int)) = true := by simp; omega
      have t2' : decide (cnt < n) = true := by simp; omega
      generalize sizedErrI n cnt F m = R at *
      clear hI hz
      go_enter Try.func75, Try.ntmps75
      go_wp2_with fail
      go_ret
      exact ⟨ret_int EQ.out.symm, 0, rfl⟩
    · have EQ := hide (show sizedErrI n cnt F m = (if sizedB n F m = true then 0 else 2) from by unfold sizedErrI; rw [if_neg hz, if_neg h2])
      have t2 : decide ((cnt : Int) < (n : Int)) = false := by simp; omega
      have t2' : decide (cnt < n) = false := by simp; omega
      generalize sizedErrI n cnt F m = R at *
      have HI := hide hI
      clear hI hz
      go_enter Try.func75, Try.ntmps75
      go_wp2_with fail
      go_loopw [7] (fun i wr => ∃ k q : Nat, k ≤ n ∧ i = .int .i64 k ∧ wr = w.drewN q ∧ Hid (∀ j, j < k → -m ≤ F j ∧ F j ≤ m)) (fun i _ => n - (intOf i).toNat)
      case atStart => exact ⟨0, 0, Nat.zero_le _, rfl, rfl, hide fun j h => absurd h (Nat.not_lt_zero _)⟩
      case round =>
        obtain ⟨k, q, hk, rfl, rfl, HZ⟩ := hrel
        by_cases hlt : k < n
        · obtain ⟨b, o, rfl, -, hb, hcell⟩ := HI.out k hlt
          have hltz : (k : Int) < (n : Int) := by omega
          by_cases he : -m ≤ F k ∧ F k ≤ m
          · have HE := hide he
            have hw := withinB_yes he
            clear he
            go_wp2_with fail
            refine (within_any _ _ _ _).mono ?_; rintro e w' ⟨rfl, rfl⟩
            rw [hw]
            go_wp2_with fail
            refine ⟨⟨k + 1, q, by omega, by simp, rfl, hide fun j hj => ?_⟩, by simp [intOf]; omega⟩
            rcases Nat.lt_or_ge j k with h | h
            · exact HZ.out j h
            · obtain rfl : j = k := by omega
              exact HE.out
          · have hw := withinB_no he
            have HE := hide (show sizedB n F m = false from by
              rw [← Bool.not_eq_true, sizedB_iff]
              exact fun h => he (h k hlt))
            clear he
            go_wp2_with fail
            refine (within_any _ _ _ _).mono ?_; rintro e w' ⟨rfl, rfl⟩
            rw [hw]
            go_wp2_with fail
            go_ret
            exact ⟨ret_int (by rw [EQ.out, HE.out]; rfl), _, rfl⟩
        · obtain rfl : k = n := by omega
          go_wp2_with fail
          go_ret
          exact ⟨ret_int (by rw [EQ.out, if_pos (sizedB_iff.2 HZ.out)]), _, rfl⟩
theorem softErrR_any (A : Option Addr) (n c : Nat) (F : Nat → Int) (w : World) (hn : n ≤ 9223372036854775807) (hI : IntsAt w 0 A n F) :
    Calls Try.prog 85 #[.slice A n c] w fun e w' => e = .returned (.int .i64 (sizedErrI n 400 F 1000000)) ∧ ∃ q, w' = w.drewN q := by
  have HX := hide (sizedErrR_any A n c 400 1000000 F w hn (by omega) (by omega) (by omega) hI)
  clear hI
  go_enter Try.func85, Try.ntmps85
  go_wp2_with fail
  refine HX.out.mono ?_; rintro e w' ⟨rfl, q, rfl⟩
  go_wp2_with fail
  go_ret
  exact ⟨rfl, q, rfl⟩
theorem sumsErrR_any (A : Option Addr) (n c : Nat) (F : Nat → Int) (w : World) (hn : n ≤ 9223372036854775807) (hI : IntsAt w 0 A n F) :
    Calls Try.prog 22 #[.slice A n c] w fun e w' => e = .returned (.int .i64 (sizedErrI n 200 F 1000000000)) ∧ ∃ q, w' = w.drewN q := by
  have HX := hide (sizedErrR_any A n c 200 1000000000 F w hn (by omega) (by omega) (by omega) hI)
  clear hI
  go_enter Try.func22, Try.ntmps22
  go_wp2_with fail
  refine HX.out.mono ?_; rintro e w' ⟨rfl, q, rfl⟩
  go_wp2_with fail
  go_ret
  exact ⟨rfl, q, rfl⟩
end Go.Proofs.Ytjelbemfljobaaa
