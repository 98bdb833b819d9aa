/- CheckPolar of the reference -/
import Derived.Test.YtjelbemfljobaaaGa
namespace Go.Proofs.Ytjelbemfljobaaa
open Go.RowKit
/-- The error of the position k. -/
def posErr (p : Nat) (F : Nat → Int) (k : Nat) : Int := if 0 ≤ F k ∧ F k ≤ 2 ^ p - 1 then (if 0 < k ∧ F k ≤ F (k - 1) then 9 else 0) else 2
/-- The first of some errors that is one. -/
def firstBad (g : Nat → Int) : Nat → Int
  | 0 => 0
  | n + 1 => if firstBad g n = 0 then g n else firstBad g n
theorem firstBad_at {g : Nat → Int} {k : Nat} (h : firstBad g k = 0) (hk : g k ≠ 0) : ∀ n, k < n → firstBad g n = g k
  | 0, hn => absurd hn (Nat.not_lt_zero _)
  | n + 1, hn => by
    show (if firstBad g n = 0 then g n else firstBad g n) = g k
    rcases Nat.lt_or_ge k n with h1 | h1
    · have := firstBad_at h hk n h1
      rw [this, if_neg hk]
    · obtain rfl : k = n := by omega
      rw [if_pos h]
theorem firstBad_all {g : Nat → Int} : ∀ {n : Nat}, firstBad g n = 0 → ∀ k, k < n → g k = 0
  | 0, _, k, hk => absurd hk (Nat.not_lt_zero _)
  | n + 1, h, k, hk => by
    unfold firstBad at h
    by_cases h0 : firstBad g n = 0
    · rw [if_pos h0] at h
      rcases Nat.lt_or_ge k n with h1 | h1
      · exact firstBad_all h0 k h1
      · obtain rfl : k = n := by omega
        exact h
    · rw [if_neg h0] at h; exact absurd h h0
theorem firstBad_succ {g : Nat → Int} {k : Nat} (h : firstBad g k = 0) : firstBad g (k + 1) = g k := by unfold firstBad; rw [if_pos h]

def polarErrI (p : Int) (n : Nat) (F : Nat → Int) : Int := if 0 ≤ p ∧ p ≤ 6 then (if n = 0 then 10 else firstBad (posErr p.toNat F) n) else 2
theorem polarOk_of {p : Int} {n : Nat} {F : Nat → Int} (h : polarErrI p n F = 0) : 0 ≤ p ∧ p ≤ 6 ∧ PolarOk p.toNat n F := by
  unfold polarErrI at h
  by_cases hp : 0 ≤ p ∧ p ≤ 6
  · rw [if_pos hp] at h
    by_cases hn : n = 0
    · rw [if_pos hn] at h; exact absurd h (by decide)
    · rw [if_neg hn] at h
      have ha := firstBad_all h
      have hr : ∀ k, k < n → 0 ≤ F k ∧ F k ≤ 2 ^ p.toNat - 1 := fun k hk => by
        have := ha k hk
        unfold posErr at this
        by_cases h1 : 0 ≤ F k ∧ F k ≤ 2 ^ p.toNat - 1
        · exact h1
        · rw [if_neg h1] at this; exact absurd this (by decide)
      refine ⟨hp.1, hp.2, by omega, by omega, hr, fun k hk => ?_⟩
      have := ha (k + 1) hk
      unfold posErr at this
      rw [if_pos (hr (k + 1) hk)] at this
      by_cases h2 : 0 < k + 1 ∧ F (k + 1) ≤ F (k + 1 - 1)
      · rw [if_pos h2] at this; exact absurd this (by decide)
      · rw [Nat.add_sub_cancel] at h2; omega
  · rw [if_neg hp] at h; exact absurd h (by decide)

set_option maxHeartbeats 2000000 in
theorem checkPolarR_any (p : Int) (A : Option Addr) (n c : Nat) (F : Nat → Int) (w : World) (hn : n ≤ 1000) (hI : IntsAt w 0 A n F) :
    Calls Try.prog 66 #[.agg #[.int .i64 p, .slice A n c]] w fun e w' => e = .returned (.int .i64 (polarErrI p n F)) ∧ Below w.heap.size w w' := by
  by_cases hp : 0 ≤ p ∧ p ≤ 6
  · obtain ⟨p, rfl⟩ := Int.eq_ofNat_of_zero_le hp.1
    have hp6 : p ≤ 6 := by omega
    by_cases hn0 : n = 0
    · have EQ := hide (show polarErrI (p : Int) n F = 10 from by unfold polarErrI; rw [if_pos hp, if_pos hn0])
      generalize polarErrI (p : Int) n F = R at *
      subst hn0
      clear hI hp
      go_enter Try.func66, Try.ntmps66
      go_wp2_with fail
      refine (within_any _ _ _ _).mono ?_; rintro e w' ⟨rfl, rfl⟩
      rw [withinB_yes (by omega)]
      go_wp2_with fail
      go_ret
      exact ⟨ret_int EQ.out.symm, by (repeat (first | (with_reducible exact Below.refl _ _) | (with_reducible refine below_drewN ?_ _) | (with_reducible refine Below.drew ?_) | (with_reducible refine Below.alloc ?_ (by first | exact Nat.le_refl _ | (simp; done) | (simp; omega) | omega) _) | (with_reducible refine Below.setCell ?_ (by first | exact Nat.le_refl _ | (simp; done) | (simp; omega) | omega) _)))⟩
    · have EQ := hide (show polarErrI (p : Int) n F = firstBad (posErr p F) n from by unfold polarErrI; rw [if_pos hp, if_neg hn0, Int.toNat_natCast])
      generalize polarErrI (p : Int) n F = R at *
      have t1 : ((n : Int) == 0) = false := by simp; omega
      obtain ⟨p1, p2⟩ := pow2_le p (by omega)
      have HI := hide hI
      clear hI hp hn0
      go_enter Try.func66, Try.ntmps66
      go_wp2_with fail
      refine (within_any _ _ _ _).mono ?_; rintro e w' ⟨rfl, rfl⟩
      rw [withinB_yes (by omega)]
      go_wp2_with fail
      go_loopw [3] (fun i wr => ∃ k : Nat, k ≤ n ∧ i = .int .i64 k ∧ Hid (firstBad (posErr p F) k = 0) ∧ Box wr w.heap.size 26 #[.int .i64 (p : Int), .slice A n c] ∧ Below w.heap.size w wr) (fun i _ => n - (intOf i).toNat)
      case atStart => exact ⟨0, Nat.zero_le _, rfl, hide rfl, Box.made rfl, by (repeat (first | (with_reducible exact Below.refl _ _) | (with_reducible refine below_drewN ?_ _) | (with_reducible refine Below.drew ?_) | (with_reducible refine Below.alloc ?_ (by first | exact Nat.le_refl _ | (simp; done) | (simp; omega) | omega) _) | (with_reducible refine Below.setCell ?_ (by first | exact Nat.le_refl _ | (simp; done) | (simp; omega) | omega) _)))⟩
      case round =>
        obtain ⟨k, hk, rfl, HZ, bx, hB⟩ := hrel
        have x0 : wr.cell? ⟨w.heap.size, 0, none⟩ = some (.int .i64 (p : Int)) := bx.at_ 0
        have x1 : wr.cell? ⟨w.heap.size, 1, none⟩ = some (.slice A n c) := bx.at_ 1
        by_cases hlt : k < n
        · have hltz : (k : Int) < (n : Int) := by omega
          have hI := HI.out.below hB
          obtain ⟨b, o, rfl, -, hb, hcell⟩ := hI k hlt
          have q1 : IntKind.i64.wrap ((2 : Int) ^ p - 1) = 2 ^ p - 1 := IntWalk.i64_in _ (by omega)
          by_cases hr : 0 ≤ F k ∧ F k ≤ 2 ^ p - 1
          · have hw := withinB_yes hr
            by_cases hk0 : k = 0
            · have HG := hide (show posErr p F k = 0 from by unfold posErr; rw [if_pos hr, if_neg (by omega)])
              have t2 : decide (0 < k) = false := by simp; omega
              clear hr hk0
              go_wp2_with fail
              go_quiet ((first | (go_at_call 76; exact Calls.quiet_of_same ((powerR_any p _ (by omega)).mono fun _ _ h => ⟨h.1, h.2.symm⟩)) | (go_at_call 12; first | exact quiet_add_same ((within_any _ _ _ _).mono fun _ _ h => ⟨h.1, h.2.symm⟩) | exact Calls.quiet_of_same ((within_any _ _ _ _).mono fun _ _ h => ⟨h.1, h.2.symm⟩))))
              go_wp2_with fail
              go_quiet (fail)
              go_wp2_with fail
              go_roundw
              case rel => exact ⟨k + 1, by omega, by go_num, hide (by rw [firstBad_succ HZ.out]; exact HG.out), bx.drewN _, below_drewN hB _⟩
              case measure => simp [intOf]; omega
            · have t2 : decide (0 < k) = true := by simp; omega
              obtain ⟨b2, o2, e2, -, hb2, hcell2⟩ := hI (k - 1) (by omega)
              injection e2 with e2; injection e2 with e2 e3; subst e2; subst e3
              have q2 : IntKind.i64.wrap ((k : Int) - 1) = ((k - 1 : Nat) : Int) := by rw [IntWalk.i64_in _ (by omega)]; omega
              have hlt2 : ((k - 1 : Nat) : Int) < (n : Int) := by omega
              by_cases ho : F k ≤ F (k - 1)
              · have t3 : decide (F k ≤ F (k - 1)) = true := by simpa using ho
                have HG := hide (show posErr p F k = 9 from by unfold posErr; rw [if_pos hr, if_pos ⟨by omega, ho⟩])
                have HE := hide (firstBad_at HZ.out (by rw [HG.out]; decide) n hlt)
                clear hr hk0 ho
                go_wp2_with fail
                go_quiet ((first | (go_at_call 76; exact Calls.quiet_of_same ((powerR_any p _ (by omega)).mono fun _ _ h => ⟨h.1, h.2.symm⟩)) | (go_at_call 12; first | exact quiet_add_same ((within_any _ _ _ _).mono fun _ _ h => ⟨h.1, h.2.symm⟩) | exact Calls.quiet_of_same ((within_any _ _ _ _).mono fun _ _ h => ⟨h.1, h.2.symm⟩))))
                go_wp2_with fail
                go_quiet (fail)
                go_wp2_with fail
                go_ret
                exact ⟨ret_int (by rw [EQ.out, HE.out, HG.out]), below_drewN (below_drewN hB _) _⟩
              · have t3 : decide (F k ≤ F (k - 1)) = false := by simpa using ho
                have HG := hide (show posErr p F k = 0 from by unfold posErr; rw [if_pos hr, if_neg (fun h => ho h.2)])
                clear hr hk0 ho
                go_wp2_with fail
                go_quiet ((first | (go_at_call 76; exact Calls.quiet_of_same ((powerR_any p _ (by omega)).mono fun _ _ h => ⟨h.1, h.2.symm⟩)) | (go_at_call 12; first | exact quiet_add_same ((within_any _ _ _ _).mono fun _ _ h => ⟨h.1, h.2.symm⟩) | exact Calls.quiet_of_same ((within_any _ _ _ _).mono fun _ _ h => ⟨h.1, h.2.symm⟩))))
                go_wp2_with fail
                go_quiet (fail)
                go_wp2_with fail
                go_roundw
                case rel => exact ⟨k + 1, by omega, by go_num, hide (by rw [firstBad_succ HZ.out]; exact HG.out), bx.drewN _, below_drewN hB _⟩
                case measure => simp [intOf]; omega
          · have hw := withinB_no hr
            have HG := hide (show posErr p F k = 2 from if_neg hr)
            have HE := hide (firstBad_at HZ.out (by rw [HG.out]; decide) n hlt)
            clear hr
            go_wp2_with fail
            go_quiet ((first | (go_at_call 76; exact Calls.quiet_of_same ((powerR_any p _ (by omega)).mono fun _ _ h => ⟨h.1, h.2.symm⟩)) | (go_at_call 12; first | exact quiet_add_same ((within_any _ _ _ _).mono fun _ _ h => ⟨h.1, h.2.symm⟩) | exact Calls.quiet_of_same ((within_any _ _ _ _).mono fun _ _ h => ⟨h.1, h.2.symm⟩))))
            go_wp2_with fail
            go_ret
            exact ⟨ret_int (by rw [EQ.out, HE.out, HG.out]), below_drewN hB _⟩
        · obtain rfl : k = n := by omega
          go_wp2_with fail
          go_ret
          exact ⟨ret_int (by rw [EQ.out, HZ.out]), hB⟩
  · have EQ := hide (show polarErrI p n F = 2 from if_neg hp)
    have HW := hide (withinB_no hp)
    generalize polarErrI p n F = R at *
    clear hp hI
    go_enter Try.func66, Try.ntmps66
    go_wp2_with fail
    refine (within_any _ _ _ _).mono ?_; rintro e w' ⟨rfl, rfl⟩
    rw [HW.out]
    go_wp2_with fail
    go_ret
    exact ⟨ret_int EQ.out.symm, by (repeat (first | (with_reducible exact Below.refl _ _) | (with_reducible refine below_drewN ?_ _) | (with_reducible refine Below.drew ?_) | (with_reducible refine Below.alloc ?_ (by first | exact Nat.le_refl _ | (simp; done) | (simp; omega) | omega) _) | (with_reducible refine Below.setCell ?_ (by first | exact Nat.le_refl _ | (simp; done) | (simp; omega) | omega) _)))⟩
end Go.Proofs.Ytjelbemfljobaaa
