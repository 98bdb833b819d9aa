/- Lemmas: Gc, La, Ha, Hb, Hd. -/
import Derived.Test.YtnglmfdcnoglhaaBk02
import Derived.Test.YtnglmfdcnoglhaaBk03
import Derived.Test.YtnglmfdcnoglhaaBk04
set_option linter.unusedVariables false
set_option linter.unusedSimpArgs false
/- CheckPolar of the reference -/
namespace Go.Proofs.Ytnglmfdcnoglhaa
open Go.RowKit
/-- The error of the position k. -/
def posErr (p : Nat) (F : Nat → Int) (k : Nat) : Int := if 0 ≤ F k ∧ F k ≤ 2 ^ p - 1 then (if 0 < k ∧ F k ≤ F (k - 1) then 9 else 0) else 2
/-- The first of some errors that is one. -/
def firstBad (g : Nat → Int) : Nat → Int
  | 0 => 0
  | n + 1 => if firstBad g n = 0 then g n else firstBad g n
theorem firstBad_at {g : Nat → Int} {k : Nat} (h : firstBad g k = 0) (hk : g k ≠ 0) : ∀ n, k < n → firstBad g n = g k
  | 0, hn => absurd hn (Nat.not_lt_zero _)
  | n + 1, hn => by
    show (if firstBad g n = 0 then g n else firstBad g n) = g k
    rcases Nat.lt_or_ge k n with h1 | h1
    · have := firstBad_at h hk n h1
      rw [this, if_neg hk]
    · obtain rfl : k = n := by omega
      rw [if_pos h]
theorem firstBad_all {g : Nat → Int} : ∀ {n : Nat}, firstBad g n = 0 → ∀ k, k < n → g k = 0
  | 0, _, k, hk => absurd hk (Nat.not_lt_zero _)
  | n + 1, h, k, hk => by
    unfold firstBad at h
    by_cases h0 : firstBad g n = 0
    · rw [if_pos h0] at h
      rcases Nat.lt_or_ge k n with h1 | h1
      · exact firstBad_all h0 k h1
      · obtain rfl : k = n := by omega
        exact h
    · rw [if_neg h0] at h; exact absurd h h0
theorem firstBad_succ {g : Nat → Int} {k : Nat} (h : firstBad g k = 0) : firstBad g (k + 1) = g k := by unfold firstBad; rw [if_pos h]

def polarErrI (p : Int) (n : Nat) (F : Nat → Int) : Int := if 0 ≤ p ∧ p ≤ 6 then (if n = 0 then 10 else firstBad (posErr p.toNat F) n) else 2
theorem polarOk_of {p : Int} {n : Nat} {F : Nat → Int} (h : polarErrI p n F = 0) : 0 ≤ p ∧ p ≤ 6 ∧ PolarOk p.toNat n F := by
  unfold polarErrI at h
  by_cases hp : 0 ≤ p ∧ p ≤ 6
  · rw [if_pos hp] at h
    by_cases hn : n = 0
    · rw [if_pos hn] at h; exact absurd h (by decide)
    · rw [if_neg hn] at h
      have ha := firstBad_all h
      have hr : ∀ k, k < n → 0 ≤ F k ∧ F k ≤ 2 ^ p.toNat - 1 := fun k hk => by
        have := ha k hk
        unfold posErr at this
        by_cases h1 : 0 ≤ F k ∧ F k ≤ 2 ^ p.toNat - 1
        · exact h1
        · rw [if_neg h1] at this; exact absurd this (by decide)
      refine ⟨hp.1, hp.2, by omega, by omega, hr, fun k hk => ?_⟩
      have := ha (k + 1) hk
      unfold posErr at this
      rw [if_pos (hr (k + 1) hk)] at this
      by_cases h2 : 0 < k + 1 ∧ F (k + 1) ≤ F (k + 1 - 1)
      · rw [if_pos h2] at this; exact absurd this (by decide)
      · rw [Nat.add_sub_cancel] at h2; omega
  · rw [if_neg hp] at h; exact absurd h (by decide)

set_option maxHeartbeats 2000000 in
theorem checkPolarR_any (p : Int) (A : Option Addr) (n c : Nat) (F : Nat → Int) (w : World) (hn : n ≤ 1000) (hI : IntsAt w 0 A n F) :
    Calls Try.prog 70 #[.agg #[.int .i64 p, .slice A n c]] w fun e w' => e = .returned (.int .i64 (polarErrI p n F)) ∧ Below w.heap.size w w' := by
  by_cases hp : 0 ≤ p ∧ p ≤ 6
  · obtain ⟨p, rfl⟩ := Int.eq_ofNat_of_zero_le hp.1
    have hp6 : p ≤ 6 := by omega
    by_cases hn0 : n = 0
    · have EQ := hide (show polarErrI (p : Int) n F = 10 from by unfold polarErrI; rw [if_pos hp, if_pos hn0])
      generalize polarErrI (p : Int) n F = R at *
      subst hn0
      clear hI hp
      go_enter Try.func70, Try.ntmps70
      go_wp2_with fail
      refine (within_any _ _ _ _).mono ?_; rintro e w' ⟨rfl, rfl⟩
      rw [withinB_yes (by omega)]
      go_wp2_with fail
      go_ret
      exact ⟨ret_int EQ.out.symm, by (repeat (first | (with_reducible exact Below.refl _ _) | (with_reducible refine below_drewN ?_ _) | (with_reducible refine Below.drew ?_) | (with_reducible refine Below.alloc ?_ (by first | exact Nat.le_refl _ | (simp; done) | (simp; omega) | omega) _) | (with_reducible refine Below.setCell ?_ (by first | exact Nat.le_refl _ | (simp; done) | (simp; omega) | omega) _)))⟩
    · have EQ := hide (show polarErrI (p : Int) n F = firstBad (posErr p F) n from by unfold polarErrI; rw [if_pos hp, if_neg hn0, Int.toNat_natCast])
      generalize polarErrI (p : Int) n F = R at *
      have t1 : ((n : Int) == 0) = false := by simp; omega
      obtain ⟨p1, p2⟩ := pow2_le p (by omega)
      have HI := hide hI
      clear hI hp hn0
      go_enter Try.func70, Try.ntmps70
      go_wp2_with fail
      refine (within_any _ _ _ _).mono ?_; rintro e w' ⟨rfl, rfl⟩
      rw [withinB_yes (by omega)]
      go_wp2_with fail
      go_loopw [3] (fun i wr => ∃ k : Nat, k ≤ n ∧ i = .int .i64 k ∧ Hid (firstBad (posErr p F) k = 0) ∧ Box wr w.heap.size 26 #[.int .i64 (p : Int), .slice A n c] ∧ Below w.heap.size w wr) (fun i _ => n - (intOf i).toNat)
      case atStart => exact ⟨0, Nat.zero_le _, rfl, hide rfl, Box.made rfl, by (repeat (first | (with_reducible exact Below.refl _ _) | (with_reducible refine below_drewN ?_ _) | (with_reducible refine Below.drew ?_) | (with_reducible refine Below.alloc ?_ (by first | exact Nat.le_refl _ | (simp; done) | (simp; omega) | omega) _) | (with_reducible refine Below.setCell ?_ (by first | exact Nat.le_refl _ | (simp; done) | (simp; omega) | omega) _)))⟩
      case round =>
        obtain ⟨k, hk, rfl, HZ, bx, hB⟩ := hrel
        have x0 : wr.cell? ⟨w.heap.size, 0, none⟩ = some (.int .i64 (p : Int)) := bx.at_ 0
        have x1 : wr.cell? ⟨w.heap.size, 1, none⟩ = some (.slice A n c) := bx.at_ 1
        by_cases hlt : k < n
        · have hltz : (k : Int) < (n : Int) := by omega
          have hI := HI.out.below hB
          obtain ⟨b, o, rfl, -, hb, hcell⟩ := hI k hlt
          have q1 : IntKind.i64.wrap ((2 : Int) ^ p - 1) = 2 ^ p - 1 := IntWalk.i64_in _ (by omega)
          by_cases hr : 0 ≤ F k ∧ F k ≤ 2 ^ p - 1
          · have hw := withinB_yes hr
            by_cases hk0 : k = 0
            · have HG := hide (show posErr p F k = 0 from by unfold posErr; rw [if_pos hr, if_neg (by omega)])
              have t2 : decide (0 < k) = false := by simp; omega
              clear hr hk0
              go_wp2_with fail
              go_quiet ((first | (go_at_call 35; exact Calls.quiet_of_same ((powerR_any p _ (by omega)).mono fun _ _ h => ⟨h.1, h.2.symm⟩)) | (go_at_call 26; first | exact quiet_add_same ((within_any _ _ _ _).mono fun _ _ h => ⟨h.1, h.2.symm⟩) | exact Calls.quiet_of_same ((within_any _ _ _ _).mono fun _ _ h => ⟨h.1, h.2.symm⟩))))
              go_wp2_with fail
              go_quiet (fail)
              go_wp2_with fail
              go_roundw
              case rel => exact ⟨k + 1, by omega, by go_num, hide (by rw [firstBad_succ HZ.out]; exact HG.out), bx.drewN _, below_drewN hB _⟩
              case measure => simp [intOf]; omega
            · have t2 : decide (0 < k) = true := by simp; omega
              obtain ⟨b2, o2, e2, -, hb2, hcell2⟩ := hI (k - 1) (by omega)
              injection e2 with e2; injection e2 with e2 e3; subst e2; subst e3
              have q2 : IntKind.i64.wrap ((k : Int) - 1) = ((k - 1 : Nat) : Int) := by rw [IntWalk.i64_in _ (by omega)]; omega
              have hlt2 : ((k - 1 : Nat) : Int) < (n : Int) := by omega
              by_cases ho : F k ≤ F (k - 1)
              · have t3 : decide (F k ≤ F (k - 1)) = true := by simpa using ho
                have HG := hide (show posErr p F k = 9 from by unfold posErr; rw [if_pos hr, if_pos ⟨by omega, ho⟩])
                have HE := hide (firstBad_at HZ.out (by rw [HG.out]; decide) n hlt)
                clear hr hk0 ho
                go_wp2_with fail
                go_quiet ((first | (go_at_call 35; exact Calls.quiet_of_same ((powerR_any p _ (by omega)).mono fun _ _ h => ⟨h.1, h.2.symm⟩)) | (go_at_call 26; first | exact quiet_add_same ((within_any _ _ _ _).mono fun _ _ h => ⟨h.1, h.2.symm⟩) | exact Calls.quiet_of_same ((within_any _ _ _ _).mono fun _ _ h => ⟨h.1, h.2.symm⟩))))
                go_wp2_with fail
                go_quiet (fail)
                go_wp2_with fail
                go_ret
                exact ⟨ret_int (by rw [EQ.out, HE.out, HG.out]), below_drewN (below_drewN hB _) _⟩
              · have t3 : decide (F k ≤ F (k - 1)) = false := by simpa using ho
                have HG := hide (show posErr p F k = 0 from by unfold posErr; rw [if_pos hr, if_neg (fun h => ho h.2)])
                clear hr hk0 ho
                go_wp2_with fail
                go_quiet ((first | (go_at_call 35; exact Calls.quiet_of_same ((powerR_any p _ (by omega)).mono fun _ _ h => ⟨h.1, h.2.symm⟩)) | (go_at_call 26; first | exact quiet_add_same ((within_any _ _ _ _).mono fun _ _ h => ⟨h.1, h.2.symm⟩) | exact Calls.quiet_of_same ((within_any _ _ _ _).mono fun _ _ h => ⟨h.1, h.2.symm⟩))))
                go_wp2_with fail
                go_quiet (fail)
                go_wp2_with fail
                go_roundw
                case rel => exact ⟨k + 1, by omega, by go_num, hide (by rw [firstBad_succ HZ.out]; exact HG.out), bx.drewN _, below_drewN hB _⟩
                case measure => simp [intOf]; omega
          · have hw := withinB_no hr
            have HG := hide (show posErr p F k = 2 from if_neg hr)
            have HE := hide (firstBad_at HZ.out (by rw [HG.out]; decide) n hlt)
            clear hr
            go_wp2_with fail
            go_quiet ((first | (go_at_call 35; exact Calls.quiet_of_same ((powerR_any p _ (by omega)).mono fun _ _ h => ⟨h.1, h.2.symm⟩)) | (go_at_call 26; first | exact quiet_add_same ((within_any _ _ _ _).mono fun _ _ h => ⟨h.1, h.2.symm⟩) | exact Calls.quiet_of_same ((within_any _ _ _ _).mono fun _ _ h => ⟨h.1, h.2.symm⟩))))
            go_wp2_with fail
            go_ret
            exact ⟨ret_int (by rw [EQ.out, HE.out, HG.out]), below_drewN hB _⟩
        · obtain rfl : k = n := by omega
          go_wp2_with fail
          go_ret
          exact ⟨ret_int (by rw [EQ.out, HZ.out]), hB⟩
  · have EQ := hide (show polarErrI p n F = 2 from if_neg hp)
    have HW := hide (withinB_no hp)
    generalize polarErrI p n F = R at *
    clear hp hI
    go_enter Try.func70, Try.ntmps70
    go_wp2_with fail
    refine (within_any _ _ _ _).mono ?_; rintro e w' ⟨rfl, rfl⟩
    rw [HW.out]
    go_wp2_with fail
    go_ret
    exact ⟨ret_int EQ.out.symm, by (repeat (first | (with_reducible exact Below.refl _ _) | (with_reducible refine below_drewN ?_ _) | (with_reducible refine Below.drew ?_) | (with_reducible refine Below.alloc ?_ (by first | exact Nat.le_refl _ | (simp; done) | (simp; omega) | omega) _) | (with_reducible refine Below.setCell ?_ (by first | exact Nat.le_refl _ | (simp; done) | (simp; omega) | omega) _)))⟩
end Go.Proofs.Ytnglmfdcnoglhaa
/- CheckPolar of the code, whatever comes in. -/
namespace Go.Proofs.Ytnglmfdcnoglhaa
open Go.RowKit
theorem posErr_two {p k : Nat} {F : Nat → Int} (h : ¬ (0 ≤ F k ∧ F k ≤ 2 ^ p - 1)) : posErr p F k = 2 := by unfold posErr; rw [if_neg h]
theorem posErr_nine {p k : Nat} {F : Nat → Int} (h : 0 ≤ F k ∧ F k ≤ 2 ^ p - 1) (h2 : F k ≤ beforeI F k) : posErr p F k = 9 := by
  unfold posErr
  rw [if_pos h]
  cases k with
  | zero => have : F 0 ≤ -1 := h2; omega
  | succ j => exact if_pos ⟨Nat.succ_pos _, h2⟩
theorem posErr_zero {p k : Nat} {F : Nat → Int} (h : 0 ≤ F k ∧ F k ≤ 2 ^ p - 1) (h2 : ¬ F k ≤ beforeI F k) : posErr p F k = 0 := by
  unfold posErr
  rw [if_pos h]
  cases k with
  | zero => exact if_neg (by omega)
  | succ j => exact if_neg (fun hh => h2 hh.2)
set_option maxHeartbeats 2000000 in
theorem checkPolar_any (p : Int) (A : Option Addr) (n c : Nat) (F : Nat → Int) (w : World) (hn : n ≤ 1000) (hI : IntsAt w 0 A n F) :
    Calls Try.prog 67 #[.agg #[.int .i64 p, .slice A n c]] w fun e w' => e = .returned (.int .i64 (polarErrI p n F)) ∧ Below w.heap.size w w' := by
  by_cases hp : 0 ≤ p ∧ p ≤ 6
  · obtain ⟨p, rfl⟩ := Int.eq_ofNat_of_zero_le hp.1
    obtain ⟨p1, p2⟩ := pow2_le p (by omega)
    by_cases hn0 : n = 0
    · have EQ := hide (show polarErrI (p : Int) n F = 10 from by unfold polarErrI; rw [if_pos hp, if_pos hn0])
      generalize polarErrI (p : Int) n F = R at *
      subst hn0
      have HW := hide (withinB_yes hp)
      clear hI hp
      go_enter Try.func67, Try.ntmps67
      go_wp2_with fail
      refine (isWithin_any _ _ _ _).mono ?_; rintro e w' ⟨rfl, rfl⟩
      rw [HW.out]
      go_wp2_with fail
      go_ret
      exact ⟨ret_int EQ.out.symm, by (repeat (first | (with_reducible exact Below.refl _ _) | (with_reducible refine below_drewN ?_ _) | (with_reducible refine Below.drew ?_) | (with_reducible refine Below.alloc ?_ (by first | exact Nat.le_refl _ | (simp; done) | (simp; omega) | omega) _) | (with_reducible refine Below.setCell ?_ (by first | exact Nat.le_refl _ | (simp; done) | (simp; omega) | omega) _)))⟩
    · have EQ := hide (show polarErrI (p : Int) n F = firstBad (posErr p F) n from by unfold polarErrI; rw [if_pos hp, if_neg hn0, Int.toNat_natCast])
      generalize polarErrI (p : Int) n F = R at *
      have HI := hide hI
      have hne : ((n : Int) == 0) = false := by simp; omega
      have HW := hide (withinB_yes hp)
      have hp6 : p ≤ 6 := by omega
      clear hI hp hn0
      go_enter Try.func67, Try.ntmps67
      go_wp2_with fail
      refine (isWithin_any _ _ _ _).mono ?_; rintro e w' ⟨rfl, rfl⟩
      rw [HW.out]
      go_wp2_with fail
      go_loopw [3, 17] (fun r i wr => ∃ k : Nat, k ≤ n ∧ i = .int .i64 k ∧ r = .int .i64 (beforeI F k) ∧ Hid (firstBad (posErr p F) k = 0) ∧ Box wr w.heap.size 26 #[.int .i64 (p : Int), .slice A n c] ∧ Below w.heap.size w wr) (fun _ i _ => n - (intOf i).toNat)
      case atStart => exact ⟨0, Nat.zero_le _, rfl, rfl, hide rfl, Box.made rfl, (Below.refl _ _).alloc (Nat.le_refl _) _⟩
      case round =>
        obtain ⟨k, hk, rfl, rfl, HZ, bx, hB⟩ := hrel
        have x0 := bx.at_ 0
        simp only [List.getElem?_toArray] at x0
        by_cases hlt : k < n
        · have hltz : (k : Int) < (n : Int) := by omega
          have hI := HI.out.below hB
          obtain ⟨b, o, rfl, -, hb, hcell⟩ := hI k hlt
          by_cases hr : 0 ≤ F k ∧ F k ≤ 2 ^ p - 1
          · have HWR := hide (withinB_yes hr)
            by_cases ho : F k ≤ beforeI F k
            · have HE := hide (show R = 9 from by rw [EQ.out, firstBad_at HZ.out (by rw [posErr_nine hr ho]; decide) n hlt, posErr_nine hr ho])
              have t1 : decide (F k ≤ beforeI F k) = true := by simpa using ho
              clear hr ho
              generalize F k = f at *
              generalize beforeI F k = g at *
              go_wp2_with fail
              refine (isWithin_any _ _ _ _).mono ?_; rintro e w' ⟨rfl, rfl⟩
              rw [HWR.out]
              go_wp2_with fail
              go_ret
              exact ⟨ret_int HE.out.symm, hB⟩
            · have HG := hide (show firstBad (posErr p F) (k + 1) = 0 from by rw [firstBad_succ HZ.out]; exact posErr_zero hr ho)
              have t1 : decide (F k ≤ beforeI F k) = false := by simpa using ho
              have HF := hide (show beforeI F (k + 1) = F k from rfl)
              clear hr ho
              generalize F k = f at *
              generalize beforeI F k = g at *
              go_wp2_with fail
              refine (isWithin_any _ _ _ _).mono ?_; rintro e w' ⟨rfl, rfl⟩
              rw [HWR.out]
              go_wp2_with fail
              go_roundw
              case rel => exact ⟨k + 1, by omega, by go_num, by rw [HF.out], HG, bx, hB⟩
              case measure => simp [intOf]; omega
          · have HWR := hide (withinB_no hr)
            have HE := hide (show R = 2 from by rw [EQ.out, firstBad_at HZ.out (by rw [posErr_two hr]; decide) n hlt, posErr_two hr])
            clear hr
            go_wp2_with fail
            refine (isWithin_any _ _ _ _).mono ?_; rintro e w' ⟨rfl, rfl⟩
            rw [HWR.out]
            go_wp2_with fail
            go_ret
            exact ⟨ret_int HE.out.symm, hB⟩
        · obtain rfl : k = n := by omega
          go_wp2_with fail
          go_ret
          exact ⟨ret_int (by rw [EQ.out, HZ.out]), hB⟩
  · have EQ := hide (show polarErrI p n F = 2 from if_neg hp)
    have HW := hide (withinB_no hp)
    generalize polarErrI p n F = R at *
    clear hp hI
    go_enter Try.func67, Try.ntmps67
    go_wp2_with fail
    refine (isWithin_any _ _ _ _).mono ?_; rintro e w' ⟨rfl, rfl⟩
    rw [HW.out]
    go_wp2_with fail
    go_ret
    exact ⟨ret_int EQ.out.symm, by (repeat (first | (with_reducible exact Below.refl _ _) | (with_reducible refine below_drewN ?_ _) | (with_reducible refine Below.drew ?_) | (with_reducible refine Below.alloc ?_ (by first | exact Nat.le_refl _ | (simp; done) | (simp; omega) | omega) _) | (with_reducible refine Below.setCell ?_ (by first | exact Nat.le_refl _ | (simp; done) | (simp; omega) | omega) _)))⟩
end Go.Proofs.Ytnglmfdcnoglhaa
/- slices.Equal of two lists of numbers. -/
namespace Go.Proofs.Ytnglmfdcnoglhaa
open Go.RowKit
set_option maxHeartbeats 1000000 in
theorem equal_any (A C : Option Addr) (n m c d : Nat) (F G : Nat → Int) (w : World) (hn : n ≤ 100000) (hm : m ≤ 100000) (hF : IntsAt w 0 A n F) (hG : IntsAt w 0 C m G) :
    Calls Try.prog 87 #[.slice A n c, .slice C m d] w fun e w' => e = .returned (.bool (intsB n F m G)) ∧ ∃ q, w' = w.drewN q := by
  by_cases hnm : n = m
  · subst hnm
    have HF := hide hF
    have HG := hide hG
    clear hF hG
    go_enter Try.func87, Try.ntmps87
    go_wp2
    go_loopw [13] (fun i wr => ∃ k q : Nat, k ≤ n ∧ i = .int .i64 k ∧ wr = w.drewN q ∧ Hid (∀ j, j < k → F j = G j)) (fun i _ => n - (intOf i).toNat)
    case atStart => exact ⟨0, 0, Nat.zero_le _, rfl, rfl, hide fun j h => absurd h (Nat.not_lt_zero _)⟩
    case round =>
      obtain ⟨k, q, hk, rfl, rfl, HZ⟩ := hrel
      by_cases hlt : k < n
      · obtain ⟨b, o, rfl, -, hb, hcell⟩ := HF.out k hlt
        obtain ⟨b', o', rfl, -, hb', hcell'⟩ := HG.out k hlt
        have hltz : (k : Int) < (n : Int) := by omega
        by_cases he : F k = G k
        · have HE := hide he
          rw [he] at hcell
          clear he
          go_wp2
          go_quiet (fail)
          go_wp2
          go_roundw
          case rel =>
            exact ⟨k + 1, _, by omega, by go_num, rfl, hide fun j hj => by
              rcases Nat.lt_or_ge j k with h | h
              · exact HZ.out j h
              · obtain rfl : j = k := by omega
                exact HE.out⟩
          case measure => simp [intOf]; omega
        · have he' : (F k != G k) = true := by simpa using he
          have HE := hide (show intsB n F n G = false from by
            rw [← Bool.not_eq_true, intsB_iff]
            exact fun h => he (h.2 k hlt))
          clear he
          go_wp2
          go_quiet (fail)
          go_wp2
          go_ret
          exact ⟨ret_bool HE.out.symm, _, World.drewN_drewN _ _ _⟩
      · obtain rfl : k = n := by omega
        go_wp2
        go_ret
        exact ⟨ret_bool (Eq.symm (intsB_iff.2 ⟨rfl, HZ.out⟩)), _, rfl⟩
  · have he' : ((n : Int) != (m : Int)) = true := by simp; omega
    have HE := hide (show intsB n F m G = false from by
      rw [← Bool.not_eq_true, intsB_iff]
      exact fun h => hnm h.1)
    clear hF hG hnm
    go_enter Try.func87, Try.ntmps87
    go_wp2
    go_ret
    exact ⟨ret_bool HE.out.symm, 0, rfl⟩
end Go.Proofs.Ytnglmfdcnoglhaa
/- CheckPoly of the reference; power and few of the law. -/
namespace Go.Proofs.Ytnglmfdcnoglhaa
open Go.RowKit
set_option maxHeartbeats 1000000 in
theorem checkPolyR_any (d t : Int) (w : World) :
    Calls Try.prog 69 #[.agg #[.int .i64 d, .int .i64 t]] w fun e w' => e = .returned (.int .i64 (polyErrI d t)) ∧ Below w.heap.size w w' := by
  by_cases hd : 1 ≤ d ∧ d ≤ 16
  · obtain ⟨d, rfl⟩ := Int.eq_ofNat_of_zero_le (show 0 ≤ d by omega)
    obtain ⟨h0, h⟩ : 1 ≤ d ∧ d ≤ 16 := by omega
    clear hd
    obtain ⟨h1, h2⟩ := pow2_le d h
    have q1 : IntKind.i64.wrap ((2 : Int) ^ d - 1) = 2 ^ d - 1 := IntWalk.i64_in _ (by omega)
    have HW1 := (withinB_yes (n := (d : Int)) (lo := 1) (hi := 16) (by omega))
    by_cases ht : 1 ≤ t ∧ t ≤ 2 ^ d - 1
    · obtain ⟨t0, t1⟩ := ht
      have HWI := (withinB_yes (n := t) (lo := 1) (hi := 2 ^ d - 1) ⟨t0, t1⟩)
      have EQ := hide (show polyErrI (d : Int) t = if t % 2 = 0 then 3 else 0 from by
        unfold polyErrI
        rw [if_pos (by omega), Int.toNat_natCast, if_pos ⟨t0, t1⟩])
      generalize polyErrI (d : Int) t = R at *
      go_enter Try.func69, Try.ntmps69
      go_wp2_with fail
      generalize hW : World.alloc w _ = W
      have bx : Box W w.heap.size 23 #[.int .i64 (d : Int), .int .i64 t] := by rw [← hW]; exact Box.made rfl
      have hB : Below w.heap.size w W := by rw [← hW]; exact (Below.refl _ _).alloc (Nat.le_refl _) _
      clear hW
      have x0 : W.cell? ⟨w.heap.size, 0, none⟩ = some (.int .i64 (d : Int)) := bx.at_ 0
      have x1 : W.cell? ⟨w.heap.size, 1, none⟩ = some (.int .i64 t) := bx.at_ 1
      have hlt := bx.lt
      go_quiet ((first | (go_at_call 35; exact Calls.quiet_of_same ((powerR_any d _ (by omega)).mono fun _ _ h => ⟨h.1, h.2.symm⟩)) | (go_at_call 26; first | exact quiet_add_same ((within_any _ _ _ _).mono fun _ _ h => ⟨h.1, h.2.symm⟩) | exact Calls.quiet_of_same ((within_any _ _ _ _).mono fun _ _ h => ⟨h.1, h.2.symm⟩))))
      go_wp2_with fail
      · have h : (t % 2 == 0) = true := by assumption
        go_ret
        exact ⟨ret_int (by rw [EQ.out, if_pos (by simpa using h)]), below_drewN hB _⟩
      · have h : (t % 2 == 0) = false := by assumption
        go_ret
        exact ⟨ret_int (by rw [EQ.out, if_neg (by simpa using h)]), below_drewN hB _⟩
    · have HWI := (withinB_no (n := t) (lo := 1) (hi := 2 ^ d - 1) ht)
      have EQ := hide (show polyErrI (d : Int) t = 2 from by
        unfold polyErrI
        rw [if_pos (by omega), Int.toNat_natCast, if_neg ht])
      clear ht
      generalize polyErrI (d : Int) t = R at *
      go_enter Try.func69, Try.ntmps69
      go_wp2_with fail
      generalize hW : World.alloc w _ = W
      have bx : Box W w.heap.size 23 #[.int .i64 (d : Int), .int .i64 t] := by rw [← hW]; exact Box.made rfl
      have hB : Below w.heap.size w W := by rw [← hW]; exact (Below.refl _ _).alloc (Nat.le_refl _) _
      clear hW
      have x0 : W.cell? ⟨w.heap.size, 0, none⟩ = some (.int .i64 (d : Int)) := bx.at_ 0
      have x1 : W.cell? ⟨w.heap.size, 1, none⟩ = some (.int .i64 t) := bx.at_ 1
      have hlt := bx.lt
      go_quiet ((first | (go_at_call 35; exact Calls.quiet_of_same ((powerR_any d _ (by omega)).mono fun _ _ h => ⟨h.1, h.2.symm⟩)) | (go_at_call 26; first | exact quiet_add_same ((within_any _ _ _ _).mono fun _ _ h => ⟨h.1, h.2.symm⟩) | exact Calls.quiet_of_same ((within_any _ _ _ _).mono fun _ _ h => ⟨h.1, h.2.symm⟩))))
      go_wp2_with fail
      go_ret
      exact ⟨ret_int EQ.out.symm, below_drewN hB _⟩
  · have EQ := hide (show polyErrI d t = 2 from by unfold polyErrI; rw [if_neg hd])
    have HW1 := (withinB_no (n := d) (lo := 1) (hi := 16) hd)
    clear hd
    generalize polyErrI d t = R at *
    go_enter Try.func69, Try.ntmps69
    go_wp2_with fail
    generalize hW : World.alloc w _ = W
    have bx : Box W w.heap.size 23 #[.int .i64 d, .int .i64 t] := by rw [← hW]; exact Box.made rfl
    have hB : Below w.heap.size w W := by rw [← hW]; exact (Below.refl _ _).alloc (Nat.le_refl _) _
    clear hW
    have x0 : W.cell? ⟨w.heap.size, 0, none⟩ = some (.int .i64 d) := bx.at_ 0
    have x1 : W.cell? ⟨w.heap.size, 1, none⟩ = some (.int .i64 t) := bx.at_ 1
    have hlt := bx.lt
    go_quiet ((first | (go_at_call 35; fail) | (go_at_call 26; first | exact quiet_add_same ((within_any _ _ _ _).mono fun _ _ h => ⟨h.1, h.2.symm⟩) | exact Calls.quiet_of_same ((within_any _ _ _ _).mono fun _ _ h => ⟨h.1, h.2.symm⟩))))
    go_wp2_with fail
    go_ret
    exact ⟨ret_int EQ.out.symm, below_drewN hB _⟩
set_option maxHeartbeats 400000 in
theorem few_any (A : Option Addr) (n c m : Nat) (w : World) (hn : n ≤ 9223372036854775807) (hm : m ≤ 1000) :
    Calls Try.prog 25 #[.slice A n c, .int .i64 (m : Int)] w fun e w' => e = .returned (.bool (decide (n ≤ 40 ∨ m < n ∧ n ≤ m + 2))) ∧ w = w' := by
  by_cases h1 : n ≤ 40
  · have HE := hide (show decide (n ≤ 40 ∨ m < n ∧ n ≤ m + 2) = true from by simp; omega)
    have t1 : decide ((n : Int) ≤ 40) = true := by simp; omega
    generalize decide (n ≤ 40 ∨ m < n ∧ n ≤ m + 2) = R at *
    go_enter Try.func25, Try.ntmps25
    go_wp2_with fail
    go_ret
    exact ⟨ret_bool HE.out.symm, rfl⟩
  · have t1 : decide ((n : Int) ≤ 40) = false := by simp; omega
    by_cases h2 : m < n
    · have t2 : decide ((m : Int) < (n : Int)) = true := by simp; omega
      have t2' : decide (m < n) = true := by simp; omega
      have HE := hide (show decide (n ≤ 40 ∨ m < n ∧ n ≤ m + 2) = decide ((n : Int) ≤ (m : Int) + 2) from by rw [decide_eq_decide]; omega)
      generalize decide (n ≤ 40 ∨ m < n ∧ n ≤ m + 2) = R at *
      go_enter Try.func25, Try.ntmps25
      go_wp2_with fail
      go_ret
      exact ⟨ret_bool HE.out.symm, rfl⟩
    · have t2 : decide ((m : Int) < (n : Int)) = false := by simp; omega
      have t2' : decide (m < n) = false := by simp; omega
      have HE := hide (show decide (n ≤ 40 ∨ m < n ∧ n ≤ m + 2) = false from by simp; omega)
      generalize decide (n ≤ 40 ∨ m < n ∧ n ≤ m + 2) = R at *
      go_enter Try.func25, Try.ntmps25
      go_wp2_with fail
      go_ret
      exact ⟨ret_bool HE.out.symm, rfl⟩
end Go.Proofs.Ytnglmfdcnoglhaa
/- checked, isRight; Remainder, Checked and IsRight with their errors. -/
namespace Go.Proofs.Ytnglmfdcnoglhaa
open Go.RowKit
set_option maxHeartbeats 1000000 in
theorem checked_any (d t : Nat) (A : Option Addr) (n c : Nat) (F : Nat → Int) (w : World) (h0 : 1 ≤ d) (h1 : d ≤ 16) (t1 : t < 2 ^ d) (hn : n ≤ 100000) (hI : IntsAt w 0 A n F) (hb : ∀ k, k < n → IsBit (F k)) :
    Calls Try.prog 46 #[.agg #[.int .i64 (d : Int), .int .i64 (t : Int)], .slice A n c] w fun e w' => ∃ v, e = .returned v ∧ GaveInts w (n + d) (catF n F (remB d t n F)) v w' := by
  have HI := hide hI
  have HB := hide hb
  clear hI hb
  go_enter Try.func46, Try.ntmps46
  go_wp2_with fail
  refine (remainder_any d t A n c F _ h0 h1 t1 hn (HI.out.alloc _) HB.out).mono ?_
  rintro e w1 ⟨v, rfl, A1, c1, rfl, hc1, hI1, hb1⟩
  have hB1 := below_of_alloc hb1
  have hI0 := HI.out.below hB1
  have hs1 := hB1.size
  go_wp2_with fail
  refine (concat_any w1.heap.size 24 A A1 n d c c1 2 F (remB d t n F) _ (by omega) (by omega) (Box.made rfl) (hI0.alloc _) ((hI1.weak (Nat.zero_le _)).alloc _)).mono ?_
  rintro e w2 ⟨v, rfl, A2, c2, rfl, hc2, hI2, hb2⟩
  have hB2 := hB1.trans ((below_of_alloc hb2).mono hs1)
  go_wp2_with fail
  go_ret
  exact ⟨_, rfl, A2, c2, rfl, hc2, hI2.weak (by simp; omega), hB2⟩
set_option maxHeartbeats 1000000 in
theorem isRight_any (d t : Nat) (b o n c : Nat) (F : Nat → Int) (w : World) (h0 : 1 ≤ d) (h1 : d ≤ 16) (t1 : t < 2 ^ d) (hdn : d < n) (hn : n ≤ 100000) (hnc : n ≤ c) (hc : c ≤ 9223372036854775807) (hI : IntsAt w 0 (some ⟨b, o, none⟩) n F) (hb : ∀ k, k < n → IsBit (F k)) :
    Calls Try.prog 55 #[.agg #[.int .i64 (d : Int), .int .i64 (t : Int)], .slice (some ⟨b, o, none⟩) n c] w fun e w' => e = .returned (.bool (intsB d (remB d t (n - d) F) d (fun j => F (n - d + j)))) ∧ Below w.heap.size w w' := by
  obtain ⟨m, hm⟩ : ∃ m : Nat, m = n - d := ⟨_, rfl⟩
  rw [← hm]
  have q1 : IntKind.i64.wrap ((n : Int) - (d : Int)) = (m : Int) := by rw [IntWalk.i64_in _ (by omega)]; omega
  have hmn : m ≤ n := by omega
  have hmnz : (m : Int) ≤ (n : Int) := by omega
  have hmcz : (m : Int) ≤ (c : Int) := by omega
  have hd : n - m = d := by omega
  have HI := hide hI
  have HB := hide hb
  have HM := hide hm
  clear hI hb hm
  go_enter Try.func55, Try.ntmps55
  go_wp2_with fail
  generalize hW : World.alloc w _ = W
  have bx : Box W w.heap.size 23 #[.int .i64 (d : Int), .int .i64 (t : Int)] := by rw [← hW]; exact Box.made rfl
  have hB : Below w.heap.size w W := by rw [← hW]; exact (Below.refl _ _).alloc (Nat.le_refl _) _
  clear hW
  have x0 : W.cell? ⟨w.heap.size, 0, none⟩ = some (.int .i64 (d : Int)) := bx.at_ 0
  have x1 : W.cell? ⟨w.heap.size, 1, none⟩ = some (.int .i64 (t : Int)) := bx.at_ 1
  have hz : w.heap.size + 1 ≤ W.heap.size := bx.lt
  have SOF := hide (fun W' (h : Below (w.heap.size + 1) W W') => (⟨(h.cell (p := ⟨w.heap.size, 0, none⟩) (by simp)).trans x0, (h.cell (p := ⟨w.heap.size, 1, none⟩) (by simp)).trans x1, h⟩ :
     W'.cell? ⟨w.heap.size, 0, none⟩ = some (.int .i64 (d : Int)) ∧ W'.cell? ⟨w.heap.size, 1, none⟩ = some (.int .i64 (t : Int)) ∧ Below (w.heap.size + 1) W W'))
  have KI := hide (fun W' (h : W'.cell? ⟨w.heap.size, 0, none⟩ = some (.int .i64 (d : Int)) ∧ W'.cell? ⟨w.heap.size, 1, none⟩ = some (.int .i64 (t : Int)) ∧ Below (w.heap.size + 1) W W') => HI.out.below (hB.trans (h.2.2.mono (by omega))))
  have b0 : Below (w.heap.size + 1) W W := Below.refl _ _
  have HBB := hide hB
  clear x0 x1 hB
  go_region_held3 (fun w' => w'.cell? ⟨w.heap.size, 0, none⟩ = some (.int .i64 (d : Int)) ∧ w'.cell? ⟨w.heap.size, 1, none⟩ = some (.int .i64 (t : Int)) ∧ Below (w.heap.size + 1) W w')
      (first | assumption | exact SOF.out _ (by assumption) | exact SOF.out _ b0.drew | exact SOF.out _ (below_drewN (by assumption) _) | exact SOF.out _ (balloc' (by assumption) hz _))
      (first
        | (go_at_call 66; refine (remainder_any d t (some ⟨b, o, none⟩) m c F _ h0 h1 t1 (by omega) ((KI.out _ (by assumption)).fewer hmn) (fun k hk => HB.out k (by omega))).mono ?_; rintro e w2 ⟨v2, rfl, A2, c2, rfl, hc2, hI2, hb2⟩; have hs2 : Below (w.heap.size + 1) W w2 := bstep2 hb2 (by assumption) hz)
        | (go_at_call 87; refine (equal_any A2 (some ⟨b, o + m, none⟩) d d c2 (c - m) (remB d t m F) (fun k => F (m + k)) _ (by omega) (by omega) (hI2.weak (Nat.zero_le _)) ((KI.out _ (by assumption)).cut (by omega))).mono ?_; rintro e w3 ⟨rfl, q3, rfl⟩))
  go_wp2_with fail
  go_ret
  exact ⟨rfl, below_drewN (HBB.out.trans (hs2.mono (by omega))) _⟩
def bitsErrC (n : Nat) (F : Nat → Int) : Int := firstE [firstE [unI (decide (0 < n)) 10, unI (decide (n ≤ 200)) 8], unI (bitsB n F) 15]
theorem bitsErrC_eq (n : Nat) (F : Nat → Int) : bitsErrC n F = bitsErrR n F := by
  unfold bitsErrC bitsErrR
  by_cases h1 : n = 0
  · subst h1; rfl
  · rw [if_neg h1, decide_eq_true (show 0 < n by omega)]
    by_cases h2 : 200 < n
    · rw [if_pos h2, decide_eq_false (show ¬ n ≤ 200 by omega)]; rfl
    · rw [if_neg h2, decide_eq_true (show n ≤ 200 by omega)]
      cases bitsB n F <;> rfl
/-- The first error of a polynomial and of bits. -/
def polyBitsErr (d t : Int) (n : Nat) (F : Nat → Int) : Int := if polyErrI d t = 0 then bitsErrR n F else polyErrI d t
theorem polyBitsErr_first (d t : Int) (n : Nat) (F : Nat → Int) : firstE [polyErrI d t, bitsErrR n F] = polyBitsErr d t n F := by
  unfold polyBitsErr
  rw [firstE_cons, firstE_cons, firstE_nil]
  split
  · split
    · rename_i h; exact h.symm
    · rfl
  · rfl
theorem poly_of {d t : Int} (h : polyErrI d t = 0) : 1 ≤ d ∧ d ≤ 16 ∧ 1 ≤ t ∧ t ≤ 2 ^ d.toNat - 1 ∧ t % 2 = 1 := by
  unfold polyErrI at h
  by_cases h1 : 1 ≤ d ∧ d ≤ 16
  · rw [if_pos h1] at h
    by_cases h2 : 1 ≤ t ∧ t ≤ 2 ^ d.toNat - 1
    · rw [if_pos h2] at h
      by_cases h3 : t % 2 = 0
      · rw [if_pos h3] at h; exact absurd h (by decide)
      · exact ⟨h1.1, h1.2, h2.1, h2.2, by omega⟩
    · rw [if_neg h2] at h; exact absurd h (by decide)
  · rw [if_neg h1] at h; exact absurd h (by decide)
theorem polyBitsErr_zero {d t : Int} {n : Nat} {F : Nat → Int} (h : polyBitsErr d t n F = 0) : ∃ x y : Nat, d = x ∧ t = y ∧ 1 ≤ x ∧ x ≤ 16 ∧ y < 2 ^ x ∧ y % 2 = 1 ∧ 0 < n ∧ n ≤ 200 ∧ ∀ k, k < n → IsBit (F k) := by
  unfold polyBitsErr at h
  by_cases hp : polyErrI d t = 0
  · rw [if_pos hp] at h
    obtain ⟨h1, h2, h3, h4, h5⟩ := poly_of hp
    obtain ⟨x, rfl⟩ := Int.eq_ofNat_of_zero_le (show 0 ≤ d by omega)
    obtain ⟨y, rfl⟩ := Int.eq_ofNat_of_zero_le (show 0 ≤ t by omega)
    rw [Int.toNat_natCast] at h4
    have : ((2 ^ x : Nat) : Int) = (2 : Int) ^ x := by simp
    obtain ⟨g1, g2, g3⟩ := bitsErrR_zero h
    exact ⟨x, y, rfl, rfl, by omega, by omega, by omega, by omega, g1, g2, g3⟩
  · rw [if_neg hp] at h; exact absurd h hp
/-- What Remainder and Checked give: bits, or nothing and an error. -/
def GaveOr (err : Int) (n : Nat) (F : Nat → Int) (w : World) (e : Ending) (w' : World) : Prop :=
  (err ≠ 0 ∧ e = .returned (.tuple #[.slice none 0 0, .int .i64 err]) ∧ Below w.heap.size w w') ∨ (err = 0 ∧ ∃ v, e = .returned (.tuple #[v, .int .i64 0]) ∧ GaveInts w n F v w')
set_option maxHeartbeats 1000000 in
theorem Remainder_any (d t : Int) (A : Option Addr) (n c : Nat) (F : Nat → Int) (w : World) (hn : n ≤ 100000) (hI : IntsAt w 0 A n F) :
    Calls Try.prog 31 #[.agg #[.int .i64 d, .int .i64 t], .slice A n c] w (GaveOr (polyBitsErr d t n F) d.toNat (remB d.toNat t.toNat n F) w) := by
  have HI := hide hI
  clear hI
  go_enter Try.func31, Try.ntmps31
  go_wp2_with fail
  refine (checkPoly_any _ _ _).mono ?_
  rintro e w1 ⟨rfl, hb1⟩
  have hs1 := hb1.size
  have hI1 := HI.out.below (below_of_alloc hb1)
  go_wp2_with fail
  refine (bitsError_any A n c F _ (by omega) hI1).mono ?_
  rintro e w2 ⟨rfl, hb2⟩
  rw [show firstE [firstE [unI (decide (0 < n)) 10, unI (decide (n ≤ 200)) 8], unI (bitsB n F) 15] = bitsErrR n F from bitsErrC_eq n F]
  go_wp2_with fail
  refine (firstError_laid [polyErrI d t, bitsErrR n F] 2 _ _ rfl (by decide)).mono ?_
  rintro e w3 ⟨rfl, hw3⟩
  rw [polyBitsErr_first]
  have bx : Box w3 w.heap.size 23 #[.int .i64 d, .int .i64 t] := by rw [← hw3]; exact (((Box.made rfl).below hb1).below hb2).alloc _
  have hB3 : Below w.heap.size w w3 := by
    rw [← hw3]
    have h1 := below_of_alloc hb1
    exact (h1.trans (hb2.mono h1.size)).alloc (Nat.le_trans h1.size hb2.size) _
  clear hw3 hb1 hb2 hs1 hI1
  by_cases hz : polyBitsErr d t n F = 0
  · rw [hz]
    obtain ⟨d, t, rfl, rfl, h0, h1, t1, t2, n0, n1, hb⟩ := polyBitsErr_zero hz
    have HB := hide hb
    have HZ := hide hz
    clear hb hz
    have x0 : w3.cell? ⟨w.heap.size, 0, none⟩ = some (.int .i64 (d : Int)) := bx.at_ 0
    have x1 : w3.cell? ⟨w.heap.size, 1, none⟩ = some (.int .i64 (t : Int)) := bx.at_ 1
    have hl3 := bx.lt
    go_wp2_with fail
    refine (remainder_any d t A n c F _ h0 h1 t1 (by omega) (HI.out.below hB3) HB.out).mono ?_
    rintro e w4 ⟨v, rfl, A4, c4, rfl, hc4, hI4, hb4⟩
    go_wp2_with fail
    go_ret2
    exact .inr ⟨HZ.out, _, rfl, A4, c4, rfl, hc4, hI4.weak hB3.size, hB3.trans (hb4.mono hB3.size)⟩
  · have ht : (polyBitsErr d t n F != 0) = true := by simpa using hz
    have HZ := hide hz
    clear hz
    go_wp2_with fail
    go_ret2
    exact .inl ⟨HZ.out, rfl, hB3⟩
/-- The error of IsRight. -/
def rightErr (d t : Int) (n : Nat) (F : Nat → Int) : Int := if polyBitsErr d t n F = 0 then (if d < (n : Int) then 0 else 10) else polyBitsErr d t n F
theorem rightErr_first (d t : Int) (n : Nat) (F : Nat → Int) : firstE [polyErrI d t, bitsErrR n F, unI (decide (d < (n : Int))) 10] = rightErr d t n F := by
  unfold rightErr polyBitsErr
  rw [firstE_cons, firstE_cons, firstE_cons, firstE_nil]
  by_cases h1 : polyErrI d t = 0
  · rw [if_pos h1, if_pos h1]
    by_cases h2 : bitsErrR n F = 0
    · rw [if_pos h2, if_pos h2]
      by_cases h3 : d < (n : Int)
      · rw [decide_eq_true h3, if_pos h3]; rfl
      · rw [decide_eq_false h3, if_neg h3]; rfl
    · rw [if_neg h2, if_neg h2]
  · rw [if_neg h1, if_neg h1, if_neg h1]
def GaveRight (d t : Int) (n : Nat) (F : Nat → Int) (w : World) (e : Ending) (w' : World) : Prop :=
  e = .returned (.tuple #[.bool (decide (rightErr d t n F = 0) && intsB d.toNat (remB d.toNat t.toNat (n - d.toNat) F) d.toNat (fun j => F (n - d.toNat + j))), .int .i64 (rightErr d t n F)]) ∧ Below w.heap.size w w'
end Go.Proofs.Ytnglmfdcnoglhaa
