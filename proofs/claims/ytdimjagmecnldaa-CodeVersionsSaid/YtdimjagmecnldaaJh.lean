/- Match and Gathered of the code, with their errors. -/
import Derived.Test.YtdimjagmecnldaaJb
import Derived.Test.YtdimjagmecnldaaJf
namespace Go.Proofs.Ytdimjagmecnldaa
open Go.RowKit Go.Shelf
def matchErr (n : Nat) (F : Nat → Int) (v c : Int) : Int := if bitsErrR n F = 0 then (if unI (withinB v 0 3) 15 = 0 then unI (withinB c 1 400) 2 else unI (withinB v 0 3) 15) else bitsErrR n F
def gathErr (n : Nat) (S : Nat → Int) (v l : Int) : Int := if sizedErrI n 400 S 1000000 = 0 then (if unI (withinB v 0 3) 15 = 0 then unI (withinB l 1 200) 2 else unI (withinB v 0 3) 15) else sizedErrI n 400 S 1000000
theorem first3 (a b c : Int) : firstE [a, b, c] = if a = 0 then (if b = 0 then c else b) else a := by
  rw [firstE_cons, firstE_cons, firstE_cons, firstE_nil]
  split
  · split
    · split
      · rename_i h; exact h.symm
      · rfl
    · rfl
  · rfl
theorem unI_zero {b : Bool} {e : Int} (he : e ≠ 0) (h : unI b e = 0) : b = true := by
  cases b
  · exact absurd h he
  · rfl
theorem withinB_of {n lo hi : Int} (h : withinB n lo hi = true) : lo ≤ n ∧ n ≤ hi := by simpa [withinB] using h
theorem matchErr_zero {n : Nat} {F : Nat → Int} {v c : Int} (h : matchErr n F v c = 0) : bitsErrR n F = 0 ∧ (0 ≤ v ∧ v ≤ 3) ∧ 1 ≤ c ∧ c ≤ 400 := by
  unfold matchErr at h
  by_cases h1 : bitsErrR n F = 0
  · rw [if_pos h1] at h
    by_cases h2 : unI (withinB v 0 3) 15 = 0
    · rw [if_pos h2] at h
      exact ⟨h1, withinB_of (unI_zero (by decide) h2), withinB_of (unI_zero (by decide) h)⟩
    · rw [if_neg h2] at h; exact absurd h h2
  · rw [if_neg h1] at h; exact absurd h h1
theorem gathErr_zero {n : Nat} {S : Nat → Int} {v l : Int} (h : gathErr n S v l = 0) : sizedErrI n 400 S 1000000 = 0 ∧ (0 ≤ v ∧ v ≤ 3) ∧ 1 ≤ l ∧ l ≤ 200 := by
  unfold gathErr at h
  by_cases h1 : sizedErrI n 400 S 1000000 = 0
  · rw [if_pos h1] at h
    by_cases h2 : unI (withinB v 0 3) 15 = 0
    · rw [if_pos h2] at h
      exact ⟨h1, withinB_of (unI_zero (by decide) h2), withinB_of (unI_zero (by decide) h)⟩
    · rw [if_neg h2] at h; exact absurd h h2
  · rw [if_neg h1] at h; exact absurd h h1
set_option maxHeartbeats 1000000 in
theorem Match_any (A : Option Addr) (n c : Nat) (v C : Int) (B : Nat → Int) (w : World) (hI : IntsAt w 0 A n B) (hn : n ≤ 1000) :
    Calls Try.prog 39 #[.slice A n c, .int .i64 v, .int .i64 C] w (GaveOr (matchErr n B v C) C.toNat (fun k => B (placeN v.toNat n k)) w) := by
  have HI := hide hI
  clear hI
  go_enter Try.func39, Try.ntmps39
  go_wp2_with fail
  refine (bitsError_any A n c B _ (by omega) HI.out).mono ?_
  rintro e w1 ⟨rfl, hb1⟩
  rw [show firstE [firstE [unI (decide (0 < n)) 10, unI (decide (n ≤ 200)) 8], unI (bitsB n B) 15] = bitsErrR n B from bitsErrC_eq n B]
  go_wp2_with (first | (go_at_call 67; refine (versionError_any _ _).mono ?_; rintro e w' ⟨rfl, rfl⟩) | (go_at_call 68; refine (countError_any _ _).mono ?_; rintro e w' ⟨rfl, rfl⟩))
  refine (firstError_laid [bitsErrR n B, unI (withinB v 0 3) 15, unI (withinB C 1 400) 2] 3 _ _ rfl (by decide)).mono ?_
  rintro e w3 ⟨rfl, hw3⟩
  rw [show firstE [bitsErrR n B, unI (withinB v 0 3) 15, unI (withinB C 1 400) 2] = matchErr n B v C from first3 _ _ _]
  have hB3 : Below w.heap.size w w3 := by
    rw [← hw3]
    exact hb1.alloc hb1.size _
  clear hw3 hb1
  by_cases hz : matchErr n B v C = 0
  · rw [hz]
    obtain ⟨h1, ⟨v0, v1⟩, c0, c1⟩ := matchErr_zero hz
    obtain ⟨n0, n1, -⟩ := bitsErrR_zero h1
    have HZ := hide hz
    obtain ⟨v, rfl⟩ := Int.eq_ofNat_of_zero_le v0
    obtain ⟨C, rfl⟩ := Int.eq_ofNat_of_zero_le (show 0 ≤ C by omega)
    clear hz h1
    go_wp2_with fail
    refine (matched_any A n c v C B _ (HI.out.below hB3) (by omega) (by omega) (by omega) (by omega)).mono ?_
    rintro e w4 ⟨x, rfl, A4, c4, rfl, hc4, hI4, hb4⟩
    go_wp2_with fail
    go_ret2
    exact .inr ⟨HZ.out, _, rfl, A4, c4, rfl, hc4, hI4.weak hB3.size, hB3.trans (hb4.mono hB3.size)⟩
  · have HZ := hide hz
    have ht : (matchErr n B v C != 0) = true := by simpa using hz
    clear hz
    go_wp2_with fail
    go_ret2
    exact .inl ⟨HZ.out, rfl, hB3⟩
set_option maxHeartbeats 1000000 in
theorem Gathered_any (A : Option Addr) (n c : Nat) (v l : Int) (S : Nat → Int) (w : World) (hI : IntsAt w 0 A n S) (hn : n ≤ 1000) :
    Calls Try.prog 40 #[.slice A n c, .int .i64 v, .int .i64 l] w (GaveOr (gathErr n S v l) l.toNat (gatherF v.toNat l.toNat S n) w) := by
  have HI := hide hI
  clear hI
  go_enter Try.func40, Try.ntmps40
  go_wp2_with fail
  refine (softErr_any A n c S _ (by omega) HI.out).mono ?_
  rintro e w1 ⟨rfl, hb1⟩
  go_wp2_with (first | (go_at_call 67; refine (versionError_any _ _).mono ?_; rintro e w' ⟨rfl, rfl⟩) | (go_at_call 70; refine (lengthError_any _ _).mono ?_; rintro e w' ⟨rfl, rfl⟩))
  refine (firstError_laid [sizedErrI n 400 S 1000000, unI (withinB v 0 3) 15, unI (withinB l 1 200) 2] 3 _ _ rfl (by decide)).mono ?_
  rintro e w3 ⟨rfl, hw3⟩
  rw [show firstE [sizedErrI n 400 S 1000000, unI (withinB v 0 3) 15, unI (withinB l 1 200) 2] = gathErr n S v l from first3 _ _ _]
  have hB3 : Below w.heap.size w w3 := by
    rw [← hw3]
    exact hb1.alloc hb1.size _
  clear hw3 hb1
  by_cases hz : gathErr n S v l = 0
  · rw [hz]
    obtain ⟨h1, ⟨v0, v1⟩, c0, c1⟩ := gathErr_zero hz
    obtain ⟨n0, n1, hS⟩ := sizedErr_zero h1
    have HZ := hide hz
    have HS := hide hS
    obtain ⟨v, rfl⟩ := Int.eq_ofNat_of_zero_le v0
    obtain ⟨l, rfl⟩ := Int.eq_ofNat_of_zero_le (show 0 ≤ l by omega)
    clear hz h1 hS
    go_wp2_with fail
    refine (gathered_any A n c v l S _ (HI.out.below hB3) HS.out (by omega) (by omega) (by omega) (by omega)).mono ?_
    rintro e w4 ⟨x, rfl, A4, c4, rfl, hc4, hI4, hb4⟩
    go_wp2_with fail
    go_ret2
    exact .inr ⟨HZ.out, _, rfl, A4, c4, rfl, hc4, hI4.weak hB3.size, hB3.trans (hb4.mono hB3.size)⟩
  · have HZ := hide hz
    have ht : (gathErr n S v l != 0) = true := by simpa using hz
    clear hz
    go_wp2_with fail
    go_ret2
    exact .inl ⟨HZ.out, rfl, hB3⟩
end Go.Proofs.Ytdimjagmecnldaa
