/- ChainErr of the reference. -/
import Derived.Test.YtjelbemfljobaaaLb
import Derived.Test.YtjelbemfljobaaaHb
namespace Go.Proofs.Ytjelbemfljobaaa
open Go.RowKit
set_option maxHeartbeats 2000000 in
theorem chainErrR_any (d t p k : Int) (A : Option Addr) (n c : Nat) (F : Nat → Int) (w : World) (hn : n ≤ 1000) (hI : IntsAt w 0 A n F) :
    Calls Try.prog 16 #[.agg #[.int .i64 d, .int .i64 t, .int .i64 p, .slice A n c, .int .i64 k]] w fun e w' => e = .returned (.int .i64 (chainErrI d t p n F k)) ∧ Below w.heap.size w w' := by
  have HI := hide hI
  clear hI
  obtain ⟨R, hR⟩ : ∃ R, R = chainErrI d t p n F k := ⟨_, rfl⟩
  have EQ : R = if polyErrI d t = 0 then (if polarErrI p n F = 0 then (if d < (n : Int) then unI (withinB k 1 400) 2 else 10) else polarErrI p n F) else polyErrI d t := by
    rw [hR]
    unfold chainErrI
    rw [firstE_cons, firstE_cons, firstE_cons, firstE_cons, firstE_nil]
    by_cases h1 : polyErrI d t = 0
    · rw [if_pos h1, if_pos h1]
      by_cases h2 : polarErrI p n F = 0
      · rw [if_pos h2, if_pos h2]
        by_cases h3 : d < (n : Int)
        · rw [decide_eq_true h3, if_pos h3]
          cases withinB k 1 400 <;> rfl
        · rw [decide_eq_false h3, if_neg h3]; rfl
      · rw [if_neg h2, if_neg h2]
    · rw [if_neg h1, if_neg h1]
  rw [← hR]
  clear hR
  by_cases h1 : polyErrI d t = 0
  · rw [if_pos h1] at EQ
    by_cases h2 : polarErrI p n F = 0
    · rw [if_pos h2] at EQ
      obtain ⟨g1, g2, -⟩ := poly_of h1
      by_cases h3 : d < (n : Int)
      · rw [if_pos h3] at EQ
        have t1 : decide ((n : Int) ≤ d) = false := by simp; omega
        have HQ := hide EQ
        clear EQ h3
        go_enter Try.func16, Try.ntmps16
        go_wp2_with fail
        refine (checkPolyR_any d t _).mono ?_
        rintro e w1 ⟨rfl, hb1⟩
        rw [h1]
        have bx1 : Box w1 w.heap.size 28 #[.int .i64 d, .int .i64 t, .int .i64 p, .slice A n c, .int .i64 k] := (Box.made rfl).below hb1
        have hB1 := below_of_alloc hb1
        have x2 := bx1.at_ 2
        have x3 := bx1.at_ 3
        simp only [List.getElem?_toArray] at x2 x3
        have hl1 := bx1.lt
        go_wp2_with fail
        refine (checkPolarR_any p A n c F _ (by omega) (HI.out.below hB1)).mono ?_
        rintro e w2 ⟨rfl, hb2⟩
        rw [h2]
        have bx2 := bx1.below hb2
        have hB2 := hB1.trans (hb2.mono hB1.size)
        have y0 := bx2.at_ 0
        have y3 := bx2.at_ 3
        have y4 := bx2.at_ 4
        simp only [List.getElem?_toArray] at y0 y3 y4
        have hl2 := bx2.lt
        clear x2 x3 hl1 bx1
        go_wp2_with fail
        refine (countErrR_any k _).mono ?_
        rintro e w3 ⟨rfl, rfl⟩
        go_wp2_with fail
        go_ret
        exact ⟨ret_int HQ.out.symm, hB2⟩
      · rw [if_neg h3] at EQ
        have t1 : decide ((n : Int) ≤ d) = true := by simp; omega
        have HQ := hide EQ
        clear EQ h3
        go_enter Try.func16, Try.ntmps16
        go_wp2_with fail
        refine (checkPolyR_any d t _).mono ?_
        rintro e w1 ⟨rfl, hb1⟩
        rw [h1]
        have bx1 : Box w1 w.heap.size 28 #[.int .i64 d, .int .i64 t, .int .i64 p, .slice A n c, .int .i64 k] := (Box.made rfl).below hb1
        have hB1 := below_of_alloc hb1
        have x2 := bx1.at_ 2
        have x3 := bx1.at_ 3
        simp only [List.getElem?_toArray] at x2 x3
        have hl1 := bx1.lt
        go_wp2_with fail
        refine (checkPolarR_any p A n c F _ (by omega) (HI.out.below hB1)).mono ?_
        rintro e w2 ⟨rfl, hb2⟩
        rw [h2]
        have bx2 := bx1.below hb2
        have hB2 := hB1.trans (hb2.mono hB1.size)
        have y0 := bx2.at_ 0
        have y3 := bx2.at_ 3
        have y4 := bx2.at_ 4
        simp only [List.getElem?_toArray] at y0 y3 y4
        have hl2 := bx2.lt
        clear x2 x3 hl1 bx1
        go_wp2_with fail
        go_ret
        exact ⟨ret_int HQ.out.symm, hB2⟩
    · rw [if_neg h2] at EQ
      have t1 : (polarErrI p n F != 0) = true := by simpa using h2
      have HQ := hide EQ
      clear EQ h2
      go_enter Try.func16, Try.ntmps16
      go_wp2_with fail
      refine (checkPolyR_any d t _).mono ?_
      rintro e w1 ⟨rfl, hb1⟩
      rw [h1]
      have bx1 : Box w1 w.heap.size 28 #[.int .i64 d, .int .i64 t, .int .i64 p, .slice A n c, .int .i64 k] := (Box.made rfl).below hb1
      have hB1 := below_of_alloc hb1
      have x2 := bx1.at_ 2
      have x3 := bx1.at_ 3
      simp only [List.getElem?_toArray] at x2 x3
      have hl1 := bx1.lt
      go_wp2_with fail
      refine (checkPolarR_any p A n c F _ (by omega) (HI.out.below hB1)).mono ?_
      rintro e w2 ⟨rfl, hb2⟩
      have hB2 := hB1.trans (hb2.mono hB1.size)
      generalize polarErrI p n F = r at *
      go_wp2_with fail
      go_ret
      exact ⟨ret_int HQ.out.symm, hB2⟩
  · rw [if_neg h1] at EQ
    have t1 : (polyErrI d t != 0) = true := by simpa using h1
    have HQ := hide EQ
    clear EQ h1
    go_enter Try.func16, Try.ntmps16
    go_wp2_with fail
    refine (checkPolyR_any d t _).mono ?_
    rintro e w1 ⟨rfl, hb1⟩
    have hB1 := below_of_alloc hb1
    generalize polyErrI d t = r at *
    go_wp2_with fail
    go_ret
    exact ⟨ret_int HQ.out.symm, hB1⟩
end Go.Proofs.Ytjelbemfljobaaa
