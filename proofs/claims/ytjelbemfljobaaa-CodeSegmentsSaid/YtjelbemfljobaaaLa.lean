/- CheckPolar of the code, whatever comes in. -/
import Derived.Test.YtjelbemfljobaaaEh
import Derived.Test.YtjelbemfljobaaaGc
namespace Go.Proofs.Ytjelbemfljobaaa
open Go.RowKit
theorem posErr_two {p k : Nat} {F : Nat → Int} (h : ¬ (0 ≤ F k ∧ F k ≤ 2 ^ p - 1)) : posErr p F k = 2 := by unfold posErr; rw [if_neg h]
theorem posErr_nine {p k : Nat} {F : Nat → Int} (h : 0 ≤ F k ∧ F k ≤ 2 ^ p - 1) (h2 : F k ≤ beforeI F k) : posErr p F k = 9 := by
  unfold posErr
  rw [if_pos h]
  cases k with
  | zero => have : F 0 ≤ -1 := h2; omega
  | succ j => exact if_pos ⟨Nat.succ_pos _, h2⟩
theorem posErr_zero {p k : Nat} {F : Nat → Int} (h : 0 ≤ F k ∧ F k ≤ 2 ^ p - 1) (h2 : ¬ F k ≤ beforeI F k) : posErr p F k = 0 := by
  unfold posErr
  rw [if_pos h]
  cases k with
  | zero => exact if_neg (by omega)
  | succ j => exact if_neg (fun hh => h2 hh.2)
set_option maxHeartbeats 2000000 in
theorem checkPolar_any (p : Int) (A : Option Addr) (n c : Nat) (F : Nat → Int) (w : World) (hn : n ≤ 1000) (hI : IntsAt w 0 A n F) :
    Calls Try.prog 99 #[.agg #[.int .i64 p, .slice A n c]] w fun e w' => e = .returned (.int .i64 (polarErrI p n F)) ∧ Below w.heap.size w w' := by
  by_cases hp : 0 ≤ p ∧ p ≤ 6
  · obtain ⟨p, rfl⟩ := Int.eq_ofNat_of_zero_le hp.1
    obtain ⟨p1, p2⟩ := pow2_le p (by omega)
    by_cases hn0 : n = 0
    · have EQ := hide (show polarErrI (p : Int) n F = 10 from by unfold polarErrI; rw [if_pos hp, if_pos hn0])
      generalize polarErrI (p : Int) n F = R at *
      subst hn0
      have HW := hide (withinB_yes hp)
      clear hI hp
      go_enter Try.func99, Try.ntmps99
      go_wp2_with fail
      refine (isWithin_any _ _ _ _).mono ?_; rintro e w' ⟨rfl, rfl⟩
      rw [HW.out]
      go_wp2_with fail
      go_ret
      exact ⟨ret_int EQ.out.symm, by (repeat (first | (with_reducible exact Below.refl _ _) | (with_reducible refine below_drewN ?_ _) | (with_reducible refine Below.drew ?_) | (with_reducible refine Below.alloc ?_ (by first | exact Nat.le_refl _ | (simp; done) | (simp; omega) | omega) _) | (with_reducible refine Below.setCell ?_ (by first | exact Nat.le_refl _ | (simp; done) | (simp; omega) | omega) _)))⟩
    · have EQ := hide (show polarErrI (p : Int) n F = firstBad (posErr p F) n from by unfold polarErrI; rw [if_pos hp, if_neg hn0, Int.toNat_natCast])
      generalize polarErrI (p : Int) n F = R at *
      have HI := hide hI
      have hne : ((n : Int) == 0) = false := by simp; omega
      have HW := hide (withinB_yes hp)
      have hp6 : p ≤ 6 := by omega
      clear hI hp hn0
      go_enter Try.func99, Try.ntmps99
      go_wp2_with fail
      refine (isWithin_any _ _ _ _).mono ?_; rintro e w' ⟨rfl, rfl⟩
      rw [HW.out]
      go_wp2_with fail
      go_loopw [3, 17] (fun r i wr => ∃ k : Nat, k ≤ n ∧ i = .int .i64 k ∧ r = .int .i64 (beforeI F k) ∧ Hid (firstBad (posErr p F) k = 0) ∧ Box wr w.heap.size 26 #[.int .i64 (p : Int), .slice A n c] ∧ Below w.heap.size w wr) (fun _ i _ => n - (intOf i).toNat)
      case atStart => exact ⟨0, Nat.zero_le _, rfl, rfl, hide rfl, Box.made rfl, (Below.refl _ _).alloc (Nat.le_refl _) _⟩
      case round =>
        obtain ⟨k, hk, rfl, rfl, HZ, bx, hB⟩ := hrel
        have x0 := bx.at_ 0
        simp only [List.getElem?_toArray] at x0
        by_cases hlt : k < n
        · have hltz : (k : Int) < (n : Int) := by omega
          have hI := HI.out.below hB
          obtain ⟨b, o, rfl, -, hb, hcell⟩ := hI k hlt
          by_cases hr : 0 ≤ F k ∧ F k ≤ 2 ^ p - 1
          · have HWR := hide (withinB_yes hr)
            by_cases ho : F k ≤ beforeI F k
            · have HE := hide (show R = 9 from by rw [EQ.out, firstBad_at HZ.out (by rw [posErr_nine hr ho]; decide) n hlt, posErr_nine hr ho])
              have t1 : decide (F k ≤ beforeI F k) = true := by simpa using ho
              clear hr ho
              generalize F k = f at *
              generalize beforeI F k = g at *
              go_wp2_with fail
              refine (isWithin_any _ _ _ _).mono ?_; rintro e w' ⟨rfl, rfl⟩
              rw [HWR.out]
              go_wp2_with fail
              go_ret
              exact ⟨ret_int HE.out.symm, hB⟩
            · have HG := hide (show firstBad (posErr p F) (k + 1) = 0 from by rw [firstBad_succ HZ.out]; exact posErr_zero hr ho)
              have t1 : decide (F k ≤ beforeI F k) = false := by simpa using ho
              have HF := hide (show beforeI F (k + 1) = F k from rfl)
              clear hr ho
              generalize F k = f at *
              generalize beforeI F k = g at *
              go_wp2_with fail
              refine (isWithin_any _ _ _ _).mono ?_; rintro e w' ⟨rfl, rfl⟩
              rw [HWR.out]
              go_wp2_with fail
              go_roundw
              case rel => exact ⟨k + 1, by omega, by go_num, by rw [HF.out], HG, bx, hB⟩
              case measure => simp [intOf]; omega
          · have HWR := hide (withinB_no hr)
            have HE := hide (show R = 2 from by rw [EQ.out, firstBad_at HZ.out (by rw [posErr_two hr]; decide) n hlt, posErr_two hr])
            clear hr
            go_wp2_with fail
            refine (isWithin_any _ _ _ _).mono ?_; rintro e w' ⟨rfl, rfl⟩
            rw [HWR.out]
            go_wp2_with fail
            go_ret
            exact ⟨ret_int HE.out.symm, hB⟩
        · obtain rfl : k = n := by omega
          go_wp2_with fail
          go_ret
          exact ⟨ret_int (by rw [EQ.out, HZ.out]), hB⟩
  · have EQ := hide (show polarErrI p n F = 2 from if_neg hp)
    have HW := hide (withinB_no hp)
    generalize polarErrI p n F = R at *
    clear hp hI
    go_enter Try.func99, Try.ntmps99
    go_wp2_with fail
    refine (isWithin_any _ _ _ _).mono ?_; rintro e w' ⟨rfl, rfl⟩
    rw [HW.out]
    go_wp2_with fail
    go_ret
    exact ⟨ret_int EQ.out.symm, by (repeat (first | (with_reducible exact Below.refl _ _) | (with_reducible refine below_drewN ?_ _) | (with_reducible refine Below.drew ?_) | (with_reducible refine Below.alloc ?_ (by first | exact Nat.le_refl _ | (simp; done) | (simp; omega) | omega) _) | (with_reducible refine Below.setCell ?_ (by first | exact Nat.le_refl _ | (simp; done) | (simp; omega) | omega) _)))⟩
end Go.Proofs.Ytjelbemfljobaaa
