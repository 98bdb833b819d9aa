/- Mod, power, small, kindErr, BitsErr, Length, CopyPolar of the reference and the law. -/
import Derived.Test.YtjelbemfljobaaaFg
import Derived.Test.YtjelbemfljobaaaEh
import Derived.Test.YtjelbemfljobaaaEj
namespace Go.Proofs.Ytjelbemfljobaaa
open Go.RowKit

set_option maxHeartbeats 400000 in
theorem mod_any (n m : Int) (w : World) (h0 : 0 < m) (h1 : m ≤ 1000000000) :
    Calls Try.prog 46 #[.int .i64 n, .int .i64 m] w fun e w' => e = .returned (.int .i64 (n % m)) ∧ w = w' := by
  have hm0 : ¬ m = 0 := by omega
  by_cases hn : 0 ≤ n
  · have hb := Int.emod_nonneg n (show m ≠ 0 by omega)
    have hb2 := Int.emod_lt_of_pos n h0
    go_enter Try.func46, Try.ntmps46
    go_wp2_with fail
    go_ret
    exact ⟨rfl, rfl⟩
  · have hneg : n < 0 := by omega
    obtain ⟨r, hr⟩ : ∃ r, r = n.tmod m := ⟨_, rfl⟩
    have hr' := hr.symm
    have hle : -m < r ∧ r ≤ 0 := by
      rw [hr]
      have e := Int.neg_tmod (-n) m
      rw [Int.neg_neg] at e
      rw [e]
      have h2 : (-n).tmod m = (-n) % m := Int.tmod_eq_emod_of_nonneg (by omega)
      rw [h2]
      have := Int.emod_nonneg (-n) (show m ≠ 0 by omega)
      have := Int.emod_lt_of_pos (-n) h0
      omega
    have hdm : n % m = if r < 0 then r + m else r := by
      have h3 := Int.mul_tdiv_add_tmod n m
      rw [← hr] at h3
      split
      · have : n = (r + m) + m * (n.tdiv m - 1) := by rw [Int.mul_sub]; omega
        rw [this, Int.add_mul_emod_self_left]
        exact Int.emod_eq_of_lt (by omega) (by omega)
      · have h0r : r = 0 := by omega
        have : n = 0 + m * n.tdiv m := by omega
        rw [this, Int.add_mul_emod_self_left, h0r]
        rfl
    have HD := hide hdm
    obtain ⟨l1, l2⟩ := hle
    have hnn : ¬ 0 ≤ n := hn
    clear hdm hr hn
    by_cases hrz : r < 0
    · go_enter Try.func46, Try.ntmps46
      go_wp2_with fail
      go_ret
      exact ⟨ret_int (by rw [HD.out, if_pos hrz]), rfl⟩
    · have hr0 : 0 ≤ r := by omega
      have HRZ := hide hrz
      clear hrz
      go_enter Try.func46, Try.ntmps46
      go_wp2_with fail
      go_ret
      exact ⟨ret_int (by rw [HD.out, if_neg (Int.not_lt.2 HRZ.out)]), rfl⟩

set_option maxHeartbeats 400000 in
theorem powerR_any (n : Nat) (w : World) (h : n ≤ 16) : Calls Try.prog 76 #[.int .i64 (n : Int)] w fun e w' => e = .returned (.int .i64 (2 ^ n)) ∧ w = w' := by
  go_enter Try.func76, Try.ntmps76
  go_wp2
  go_loop [3, 4] (fun o i => ∃ k : Nat, k ≤ n ∧ i = .int .i64 k ∧ o = .int .i64 ((2 : Int) ^ k)) (fun _ i => n - (intOf i).toNat)
  case atStart => exact ⟨0, Nat.zero_le _, rfl, rfl⟩
  case round =>
    obtain ⟨k, hk, rfl, rfl⟩ := hrel
    obtain ⟨p1, p2⟩ := pow2_le k (by omega)
    have HS := hide (show (2 : Int) ^ (k + 1) = 2 * 2 ^ k from by rw [Int.pow_succ, Int.mul_comm])
    by_cases hlt : k < n
    · have hltz : (k : Int) < (n : Int) := by omega
      go_wp2
      go_round
      case rel => exact ⟨k + 1, by omega, by go_num, by rw [HS.out]⟩
      case measure => simp [intOf]; omega
    · obtain rfl : k = n := by omega
      go_wp2
      go_ret
      exact ⟨rfl, rfl⟩

set_option maxHeartbeats 400000 in
theorem small_any (p : Int) (A : Option Addr) (n c : Nat) (w : World) (hn : n ≤ 9223372036854775807) : Calls Try.prog 11 #[.agg #[.int .i64 p, .slice A n c]] w fun e w' => e = .returned (.bool (decide (n ≤ 66))) ∧ Below w.heap.size w w' := by
  go_enter Try.func11, Try.ntmps11
  go_wp2_with fail
  go_ret
  exact ⟨ret_bool (by simp; omega), by (repeat (first | (with_reducible exact Below.refl _ _) | (with_reducible refine below_drewN ?_ _) | (with_reducible refine Below.drew ?_) | (with_reducible refine Below.alloc ?_ (by first | exact Nat.le_refl _ | (simp; done) | (simp; omega) | omega) _) | (with_reducible refine Below.setCell ?_ (by first | exact Nat.le_refl _ | (simp; done) | (simp; omega) | omega) _)))⟩

def bitsErrR (n : Nat) (F : Nat → Int) : Int := if n = 0 then 10 else if 200 < n then 8 else if bitsB n F = true then 0 else 15
theorem bitsErrR_zero {n : Nat} {F : Nat → Int} (h : bitsErrR n F = 0) : 0 < n ∧ n ≤ 200 ∧ ∀ k, k < n → IsBit (F k) := by
  unfold bitsErrR at h
  by_cases h1 : n = 0
  · rw [if_pos h1] at h; exact absurd h (by decide)
  · rw [if_neg h1] at h
    by_cases h2 : 200 < n
    · rw [if_pos h2] at h; exact absurd h (by decide)
    · rw [if_neg h2] at h
      by_cases h3 : bitsB n F = true
      · exact ⟨by omega, by omega, bitsB_iff.1 h3⟩
      · rw [if_neg h3] at h; exact absurd h (by decide)

set_option maxHeartbeats 400000 in
theorem kindErr_any (A : Option Addr) (n c : Nat) (F : Nat → Int) (w : World) (hn : n ≤ 100000) (hI : IntsAt w 0 A n F) :
    Calls Try.prog 68 #[.slice A n c] w fun e w' => e = .returned (.int .i64 (if bitsB n F = true then 0 else 15)) ∧ ∃ q, w' = w.drewN q := by
  have HX := hide (areBitsB_any A n c F w hn hI)
  clear hI
  cases hb : bitsB n F
  · rw [hb] at HX
    have EQ := hide (show (if false = true then (0 : Int) else 15) = 15 from rfl)
    generalize (if false = true then (0 : Int) else 15) = R at *
    clear hb
    go_enter Try.func68, Try.ntmps68
    go_wp2_with (go_at_call 47; refine HX.out.mono ?_; rintro e w' ⟨rfl, q, rfl⟩)
    go_ret
    exact ⟨ret_int EQ.out.symm, q, rfl⟩
  · rw [hb] at HX
    have EQ := hide (show (if true = true then (0 : Int) else 15) = 0 from rfl)
    generalize (if true = true then (0 : Int) else 15) = R at *
    clear hb
    go_enter Try.func68, Try.ntmps68
    go_wp2_with (go_at_call 47; refine HX.out.mono ?_; rintro e w' ⟨rfl, q, rfl⟩)
    go_ret
    exact ⟨ret_int EQ.out.symm, q, rfl⟩

set_option maxHeartbeats 400000 in
theorem bitsErrR_any (A : Option Addr) (n c : Nat) (F : Nat → Int) (w : World) (hn : n ≤ 9223372036854775807) (hI : IntsAt w 0 A n F) :
    Calls Try.prog 17 #[.slice A n c] w fun e w' => e = .returned (.int .i64 (bitsErrR n F)) ∧ ∃ q, w' = w.drewN q := by
  by_cases h1 : n = 0
  · have EQ := hide (show bitsErrR n F = 10 from if_pos h1)
    subst h1
    clear hI
    go_enter Try.func17, Try.ntmps17
    go_wp2_with fail
    go_ret
    exact ⟨ret_int EQ.out.symm, 0, rfl⟩
  · have t1 : ((n : Int) == 0) = false := by simp; omega
    by_cases h2 : 200 < n
    · have EQ := hide (show bitsErrR n F = 8 from by unfold bitsErrR; rw [if_neg h1, if_pos h2])
      have t2 : decide ((200 : Int) < (n : Int)) = true := by simp; omega
      clear hI h1
      go_enter Try.func17, Try.ntmps17
      go_wp2_with fail
      go_ret
      exact ⟨ret_int EQ.out.symm, 0, rfl⟩
    · have EQ := hide (show bitsErrR n F = (if bitsB n F = true then 0 else 15) from by unfold bitsErrR; rw [if_neg h1, if_neg h2])
      have t2 : decide ((200 : Int) < (n : Int)) = false := by simp; omega
      have HX := hide (kindErr_any A n c F w (by omega) hI)
      generalize (if bitsB n F = true then (0 : Int) else 15) = R at *
      clear hI h1
      go_enter Try.func17, Try.ntmps17
      go_wp2_with (go_at_call 68; refine HX.out.mono ?_; rintro e w' ⟨rfl, q, rfl⟩)
      go_ret
      exact ⟨ret_int EQ.out.symm, q, rfl⟩

set_option maxHeartbeats 400000 in
theorem length_any (p : Nat) (A : Option Addr) (n c : Nat) (w : World) (h : p ≤ 16) : Calls Try.prog 23 #[.agg #[.int .i64 (p : Int), .slice A n c]] w fun e w' => e = .returned (.int .i64 (2 ^ p)) ∧ Below w.heap.size w w' := by
  go_enter Try.func23, Try.ntmps23
  go_wp2_with (go_at_call 76; refine (powerR_any _ _ h).mono ?_; rintro e w' ⟨rfl, rfl⟩)
  go_ret
  exact ⟨rfl, by (repeat (first | (with_reducible exact Below.refl _ _) | (with_reducible refine below_drewN ?_ _) | (with_reducible refine Below.drew ?_) | (with_reducible refine Below.alloc ?_ (by first | exact Nat.le_refl _ | (simp; done) | (simp; omega) | omega) _) | (with_reducible refine Below.setCell ?_ (by first | exact Nat.le_refl _ | (simp; done) | (simp; omega) | omega) _)))⟩

end Go.Proofs.Ytjelbemfljobaaa
