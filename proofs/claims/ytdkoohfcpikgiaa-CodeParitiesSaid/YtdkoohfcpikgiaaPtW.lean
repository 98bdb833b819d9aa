/- Lemmas: Qo. -/
import Derived.Deep.DeepCutAuto
import Derived.Test.YtdkoohfcpikgiaaBk05
import Derived.Test.YtdkoohfcpikgiaaBk08
import Derived.Test.YtdkoohfcpikgiaaBk09
set_option linter.unusedVariables false
set_option linter.unusedSimpArgs false
/- CodeParities: the walk. -/
namespace Go.Proofs.Ytdkoohfcpikgiaa
open Go.RowKit Go.Shelf
/-- What a call that may err gave, in any world: nothing beside an error, else numbers. -/
def GaveO (E : Int) (N : Nat) (F : Nat → Int) (v : Value) (W : World) : Prop := (E ≠ 0 ∧ v = .slice none 0 0) ∨ (E = 0 ∧ ∃ A c, v = .slice A N c ∧ IntsAt W 0 A N F)
theorem GaveO.below {E : Int} {N : Nat} {F : Nat → Int} {v : Value} {W W' : World} (h : GaveO E N F v W) (hb : Below W.heap.size W W') : GaveO E N F v W' :=
  h.elim (fun h => .inl h) fun ⟨h0, A, c, e, hI⟩ => .inr ⟨h0, A, c, e, hI.below hb⟩
theorem GaveO.drewN {E : Int} {N : Nat} {F : Nat → Int} {v : Value} {W : World} (h : GaveO E N F v W) (q : Nat) : GaveO E N F v (W.drewN q) := h.below (below_drewN (Below.refl _ _) q)
theorem GaveO.of {E : Int} {N b : Nat} {F : Nat → Int} {v : Value} {W : World} (h : (E ≠ 0 ∧ v = .slice none 0 0) ∨ (E = 0 ∧ OwnInts W b v N F)) : GaveO E N F v W :=
  h.elim (fun h => .inl h) fun ⟨h0, h1⟩ => by
    obtain ⟨A, c, e, -, hI⟩ := h1.form
    exact .inr ⟨h0, A, c, e, hI.weak (Nat.zero_le _)⟩
/-- Does the law answer at once? -/
def skipB (n : Nat) (L : Nat → Nat) (k l : Nat) : Bool := !shortB n L || (!decide (k ≤ 40 ∨ 200 < k ∧ k ≤ 200 + 2) || (decide (50 < l ∧ l ≤ 200) || decide (202 < l)))
theorem skipB_no {n : Nat} {L : Nat → Nat} {k l : Nat} (h : skipB n L k l = false) : n ≤ 22 ∧ (∀ i, i < n → L i ≤ 10) ∧ k ≤ 202 ∧ l ≤ 202 := by
  unfold skipB at h
  simp only [Bool.or_eq_false_iff, Bool.not_eq_false', decide_eq_true_eq, decide_eq_false_iff_not] at h
  obtain ⟨h1, h2, h3, h4⟩ := h
  obtain ⟨g1, g2⟩ := shortB_iff.1 h1
  exact ⟨by omega, g2, by omega, by omega⟩
theorem threeE_if (b : Int) (q : Bool) : threeE 0 b q = if b = 0 then unI q 10 else b := if_pos rfl
theorem encErr_par {m : Int} {n : Nat} {L : Nat → Nat} {R : Nat → Nat → Int} {N : Nat} {X : Nat → Int} (h : parErrI m n L R ≠ 0) : encErrI m n L R N X = parErrI m n L R := if_neg h
theorem wordErr_par {m : Int} {n : Nat} {L : Nat → Nat} {R : Nat → Nat → Int} {N : Nat} {X : Nat → Int} (h : parErrI m n L R ≠ 0) : wordErrI m n L R N X = parErrI m n L R := if_neg h
set_option maxHeartbeats 40000000 in
set_option maxRecDepth 100000 in
theorem codeParities_walk (m : Int) (A C D : Option Addr) (n c k e l f : Nat) (L : Nat → Nat) (R : Nat → Nat → Int) (B X : Nat → Int) (w : World) (hn : n ≤ 9223372036854775807) (hk : k ≤ 9223372036854775807) (hl : l ≤ 9223372036854775807)
    (hI : ListsAt w 0 A n L R) (hJ : IntsAt w 0 C k B) (hX : IntsAt w 0 D l X) :
    Calls Try.prog 3 #[.agg #[.int .i64 m, .slice A n c], .slice C k e, .slice D l f] w fun r w' => r = .returned (.bool true) ∧ Below w.heap.size w w' := by
  have HI := hide hI
  have HJ := hide hJ
  have HX := hide hX
  clear hI hJ hX
  go_enter Try.func3, Try.ntmps3
  go_wp2_with fail
  refine (awake_any _).mono ?_
  rintro r w1 ⟨rfl, hb0⟩
  have bx1 : Box w1 w.heap.size 24 #[.int .i64 m, .slice A n c] := (Box.made rfl).below hb0
  have hB1 := below_of_alloc hb0
  clear hb0
  go_upto_region 3 with fail
  go_cut [44] (fun s wc => s = .bool (skipB n L k l) ∧ Below w1.heap.size w1 wc)
  case first => as_aux_lemma =>
    obtain ⟨z0, z1, hlz⟩ := par_cells bx1
    go_wp2_with fail
    refine (short_any m A n c L R _ hn (HI.out.below hB1)).mono ?_
    rintro r w2 ⟨rfl, hb2⟩
    clear z0 z1 hlz
    cases hs : shortB n L
    · have HS := hide (show skipB n L k l = true from by unfold skipB; rw [hs]; rfl)
      clear hs
      go_wp2_with fail
      go_meet
      case rel => exact ⟨by rw [HS.out], hb2⟩
    · have HS := hide (show skipB n L k l = (!decide (k ≤ 40 ∨ 200 < k ∧ k ≤ 200 + 2) || (decide (50 < l ∧ l ≤ 200) || decide (202 < l))) from by unfold skipB; rw [hs]; rfl)
      clear hs
      go_wp2_with fail
      refine (few_any C k e 200 _ hk (by decide)).mono ?_
      rintro r w3 ⟨rfl, rfl⟩
      by_cases hfew : k ≤ 40 ∨ 200 < k ∧ k ≤ 200 + 2
      · rw [decide_eq_true hfew]
        rw [decide_eq_true hfew] at HS
        clear hfew
        by_cases h1 : l ≤ 50
        · have t1 : decide ((50 : Int) < (l : Int)) = false := decide_eq_false (by omega)
          have t1' : decide (50 < l) = false := decide_eq_false (by omega)
          have t3 : decide ((202 : Int) < (l : Int)) = false := decide_eq_false (by omega)
          have t3' : decide (202 < l) = false := decide_eq_false (by omega)
          have HQ := hide (show skipB n L k l = false from by rw [HS.out, decide_eq_false (show ¬ (50 < l ∧ l ≤ 200) by omega), t3']; rfl)
          clear h1 HS
          go_wp2_with fail
          go_meet
          case rel => exact ⟨by rw [HQ.out], hb2⟩
        · have t1 : decide ((50 : Int) < (l : Int)) = true := decide_eq_true (by omega)
          have t1' : decide (50 < l) = true := decide_eq_true (by omega)
          by_cases h2 : l ≤ 200
          · have t2 : decide ((l : Int) ≤ (200 : Int)) = true := decide_eq_true (by omega)
            have t2' : decide (l ≤ 200) = true := decide_eq_true h2
            have HQ := hide (show skipB n L k l = true from by rw [HS.out, decide_eq_true (show 50 < l ∧ l ≤ 200 by omega)]; rfl)
            clear h1 h2 HS
            go_wp2_with fail
            go_meet
            case rel => exact ⟨by rw [HQ.out], hb2⟩
          · have t2 : decide ((l : Int) ≤ (200 : Int)) = false := decide_eq_false (by omega)
            have t2' : decide (l ≤ 200) = false := decide_eq_false h2
            by_cases h3 : 202 < l
            · have t3 : decide ((202 : Int) < (l : Int)) = true := decide_eq_true (by omega)
              have t3' : decide (202 < l) = true := decide_eq_true h3
              have HQ := hide (show skipB n L k l = true from by rw [HS.out, decide_eq_true h3, decide_eq_false (show ¬ (50 < l ∧ l ≤ 200) by omega)]; rfl)
              clear h1 h2 h3 HS
              go_wp2_with fail
              go_meet
              case rel => exact ⟨by rw [HQ.out], hb2⟩
            · have t3 : decide ((202 : Int) < (l : Int)) = false := decide_eq_false (by omega)
              have t3' : decide (202 < l) = false := decide_eq_false h3
              have HQ := hide (show skipB n L k l = false from by rw [HS.out, decide_eq_false h3, decide_eq_false (show ¬ (50 < l ∧ l ≤ 200) by omega)]; rfl)
              clear h1 h2 h3 HS
              go_wp2_with fail
              go_meet
              case rel => exact ⟨by rw [HQ.out], hb2⟩
      · rw [decide_eq_false hfew]
        have HQ := hide (show skipB n L k l = true from by rw [HS.out, decide_eq_false hfew]; rfl)
        clear hfew HS
        go_wp2_with fail
        go_meet
        case rel => exact ⟨by rw [HQ.out], hb2⟩
  case rest => as_aux_lemma =>
    obtain ⟨rfl, hb2⟩ := hcut
    obtain ⟨wE, rfl⟩ : ∃ x : World, x = wc := ⟨_, rfl⟩
    obtain ⟨z0, z1, hlz⟩ := par_cells bx1
    have bx2 := bx1.below hb2
    have hB2 := hB1.trans (hb2.mono hB1.size)
    clear z0 z1 hlz bx1 hB1 hb2
    cases hsk : skipB n L k l
    rotate_left
    · go_wp2_with fail
      go_ret
      exact ⟨rfl, hB2⟩
    obtain ⟨hn22, hL10, hk202, hl202⟩ := skipB_no hsk
    have HL10 := hide hL10
    clear hsk hL10
    have HENC := hide (fun A' c' C' d' W h1 h2 => EncodeParity_any m A' C' n c' k d' L R B W hn (by omega) h1 h2)
    have HFAI := hide (fun A' c' C' d' W h1 h2 => Failed_any m A' C' n c' l d' L R X W hn (by omega) h1 h2)
    have HFLI := hide (fun A' c' C' d' W h1 h2 => Flip_any m A' C' n c' l d' L R X W hn (by omega) h1 h2)
    have HCP := hide (fun A' c' W h => checkParity_any m A' n c' L R W hn h)
    have HCR := hide (fun W h => checkParityR_any m A n c L R W hn h)
    have HPE := hide (show parErrI m n L R ≠ 0 → encErrI m n L R k B = parErrI m n L R ∧ wordErrI m n L R l X = parErrI m n L R from fun h => ⟨encErr_par h, wordErr_par h⟩)
    have HE1 := hide (show encErrI m n L R k B = threeE (parErrI m n L R) (bitsErrR k B) ((k : Int) == m) from rfl)
    have HV1 := hide (show wordErrI m n L R l X = threeE (parErrI m n L R) (bitsErrR l X) ((l : Int) == m + n) from rfl)
    obtain ⟨E, hE⟩ : ∃ E, E = encErrI m n L R k B := ⟨_, rfl⟩
    obtain ⟨V, hV⟩ : ∃ V, V = wordErrI m n L R l X := ⟨_, rfl⟩
    obtain ⟨P, hP⟩ : ∃ P, P = parErrI m n L R := ⟨_, rfl⟩
    obtain ⟨Y, hY⟩ : ∃ Y, Y = parNum m n L R := ⟨_, rfl⟩
    have HP := hide hP
    rw [← hE] at HENC HPE HE1
    rw [← hV] at HFAI HFLI HPE HV1
    rw [← hP] at HCP HCR HPE HE1 HV1
    rw [← hY] at HCP HCR
    clear hE hV hP hY
    obtain ⟨z0, z1, hlz⟩ := par_cells bx2
    go_wp2_with fail
    refine (copyParity_any m A n c L R _ (by omega) (fun i hi => by have := HL10.out i hi; omega) (HI.out.below hB2)).mono ?_
    rintro r w4 ⟨P4, p4, rfl, hp4, hq4, hI4_0, hb4⟩
    have bx3 := bx2.below hb4
    have hB3 := hB2.trans (hb4.mono hB2.size)
    clear z0 z1 hlz bx2 hB2 hb4
    obtain ⟨z0, z1, hlz⟩ := par_cells bx3
    go_wp2_with fail
    refine (HCP.out _ _ _ (hI4_0.weak (Nat.zero_le _))).mono ?_
    rintro r w5 ⟨rfl, hb5⟩
    clear hI4_0
    have bx4 := bx3.below hb5
    have hB4 := hB3.trans (hb5.mono hB3.size)
    clear z0 z1 hlz bx3 hB3 hb5
    obtain ⟨z0, z1, hlz⟩ := par_cells bx4
    go_wp2_with fail
    refine (copyParity_any m A n c L R _ (by omega) (fun i hi => by have := HL10.out i hi; omega) (HI.out.below hB4)).mono ?_
    rintro r w6 ⟨P6, p6, rfl, hp6, hq6, hI6_0, hb6⟩
    have bx5 := bx4.below hb6
    have hB5 := hB4.trans (hb6.mono hB4.size)
    clear z0 z1 hlz bx4 hB4 hb6
    obtain ⟨z0, z1, hlz⟩ := par_cells bx5
    go_wp2_with fail
    refine (copyInts_own C k e B _ (by omega) (HJ.out.below hB5)).mono ?_
    rintro r w7 ⟨v7, rfl, hown7_0, hb7⟩
    have bx6 := bx5.below hb7
    have hB6 := hB5.trans (hb7.mono hB5.size)
    have hI6_6 := hI6_0.below hb7
    clear z0 z1 hlz bx5 hB5 hI6_0 hb7
    obtain ⟨D7, d7, rfl, hd7, hD7_0⟩ := hown7_0.form
    have hD7_0 := hD7_0.weak (Nat.zero_le _)
    obtain ⟨z0, z1, hlz⟩ := par_cells bx6
    go_wp2_with fail
    refine (HENC.out _ _ _ _ _ (hI6_6.weak (Nat.zero_le _)) hD7_0).mono ?_
    rintro r w8 ⟨v8, rfl, hv8, hb8⟩
    have hG8_0 := GaveO.of hv8
    clear hv8
    clear hI6_6
    clear hown7_0
    clear hD7_0
    have bx7 := bx6.below hb8
    have hB7 := hB6.trans (hb8.mono hB6.size)
    clear z0 z1 hlz bx6 hB6 hb8
    obtain ⟨z0, z1, hlz⟩ := par_cells bx7
    go_wp2_with fail
    refine (copyParity_any m A n c L R _ (by omega) (fun i hi => by have := HL10.out i hi; omega) (HI.out.below hB7)).mono ?_
    rintro r w9 ⟨P9, p9, rfl, hp9, hq9, hI9_0, hb9⟩
    have bx8 := bx7.below hb9
    have hB8 := hB7.trans (hb9.mono hB7.size)
    have hG8_8 := hG8_0.below hb9
    clear z0 z1 hlz bx7 hB7 hG8_0 hb9
    obtain ⟨z0, z1, hlz⟩ := par_cells bx8
    go_wp2_with fail
    refine (copyInts_own D l f X _ (by omega) (HX.out.below hB8)).mono ?_
    rintro r w10 ⟨v10, rfl, hown10_0, hb10⟩
    have bx9 := bx8.below hb10
    have hB9 := hB8.trans (hb10.mono hB8.size)
    have hG8_9 := hG8_8.below hb10
    have hI9_9 := hI9_0.below hb10
    clear z0 z1 hlz bx8 hB8 hG8_8 hI9_0 hb10
    obtain ⟨D10, d10, rfl, hd10, hD10_0⟩ := hown10_0.form
    have hD10_0 := hD10_0.weak (Nat.zero_le _)
    obtain ⟨z0, z1, hlz⟩ := par_cells bx9
    go_wp2_with fail
    refine (HFAI.out _ _ _ _ _ (hI9_9.weak (Nat.zero_le _)) hD10_0).mono ?_
    rintro r w11 ⟨v11, rfl, hv11, hb11⟩
    have hG11_0 := GaveO.of hv11
    clear hv11
    clear hI9_9
    clear hown10_0
    clear hD10_0
    have bx10 := bx9.below hb11
    have hB10 := hB9.trans (hb11.mono hB9.size)
    have hG8_10 := hG8_9.below hb11
    clear z0 z1 hlz bx9 hB9 hG8_9 hb11
    obtain ⟨z0, z1, hlz⟩ := par_cells bx10
    go_wp2_with fail
    refine (copyParity_any m A n c L R _ (by omega) (fun i hi => by have := HL10.out i hi; omega) (HI.out.below hB10)).mono ?_
    rintro r w12 ⟨P12, p12, rfl, hp12, hq12, hI12_0, hb12⟩
    have bx11 := bx10.below hb12
    have hB11 := hB10.trans (hb12.mono hB10.size)
    have hG8_11 := hG8_10.below hb12
    have hG11_11 := hG11_0.below hb12
    clear z0 z1 hlz bx10 hB10 hG8_10 hG11_0 hb12
    obtain ⟨z0, z1, hlz⟩ := par_cells bx11
    go_wp2_with fail
    refine (copyInts_own D l f X _ (by omega) (HX.out.below hB11)).mono ?_
    rintro r w13 ⟨v13, rfl, hown13_0, hb13⟩
    have bx12 := bx11.below hb13
    have hB12 := hB11.trans (hb13.mono hB11.size)
    have hG8_12 := hG8_11.below hb13
    have hG11_12 := hG11_11.below hb13
    have hI12_12 := hI12_0.below hb13
    clear z0 z1 hlz bx11 hB11 hG8_11 hG11_11 hI12_0 hb13
    obtain ⟨D13, d13, rfl, hd13, hD13_0⟩ := hown13_0.form
    have hD13_0 := hD13_0.weak (Nat.zero_le _)
    obtain ⟨z0, z1, hlz⟩ := par_cells bx12
    go_wp2_with fail
    refine (HFLI.out _ _ _ _ _ (hI12_12.weak (Nat.zero_le _)) hD13_0).mono ?_
    rintro r w14 ⟨v14, kf, rfl, hv14, hb14⟩
    obtain ⟨Z, hv14⟩ : ∃ Z, (V ≠ 0 ∧ v14 = .slice none 0 0 ∧ kf = 0) ∨ (V = 0 ∧ OwnInts w14 w13.heap.size v14 l Z ∧ Iter n L R l X kf Z ∧ nextI n L R l Z = -1) := by
      rcases hv14 with h | ⟨h0, Z, h1, h2, h3⟩
      · exact ⟨X, .inl h⟩
      · exact ⟨Z, .inr ⟨h0, h1, h2, h3⟩⟩
    have hG14_0 : GaveO V l Z v14 w14 := GaveO.of (hv14.elim (fun h => .inl ⟨h.1, h.2.1⟩) (fun h => .inr ⟨h.1, h.2.1⟩))
    have HKF := hide (hv14.elim (fun h => .inl ⟨h.1, h.2.2⟩) (fun h => .inr ⟨h.1, h.2.2.1, h.2.2.2⟩) : (V ≠ 0 ∧ kf = 0) ∨ (V = 0 ∧ Iter n L R l X kf Z ∧ nextI n L R l Z = -1))
    clear hv14
    clear hI12_12
    clear hown13_0
    clear hD13_0
    have bx13 := bx12.below hb14
    have hB13 := hB12.trans (hb14.mono hB12.size)
    have hG8_13 := hG8_12.below hb14
    have hG11_13 := hG11_12.below hb14
    clear z0 z1 hlz bx12 hB12 hG8_12 hG11_12 hb14
    obtain ⟨z0, z1, hlz⟩ := par_cells bx13
    go_wp2_with fail
    refine (HCR.out _ (HI.out.below hB13)).mono ?_
    rintro r w15 ⟨rfl, hb15⟩
    have bx14 := bx13.below hb15
    have hB14 := hB13.trans (hb15.mono hB13.size)
    have hG8_14 := hG8_13.below hb15
    have hG11_14 := hG11_13.below hb15
    have hG14_14 := hG14_0.below hb15
    clear z0 z1 hlz bx13 hB13 hG8_13 hG11_13 hG14_0 hb15
    have tPP : (P != P) = false := by simp
    have tYY : ((Y : Int) != (Y : Int)) = false := by simp
    by_cases hp0 : P = 0
    rotate_left
    · have tP0 : (P != 0) = true := by simpa using hp0
      have tPE : (P == P) = true := by simp
      obtain ⟨hEP, hVP⟩ := HPE.out hp0
      subst hEP
      subst hVP
      rcases hG8_14 with ⟨-, rfl⟩ | ⟨h, -⟩
      rotate_left
      · exact absurd h hp0
      rcases hG11_14 with ⟨-, rfl⟩ | ⟨h, -⟩
      rotate_left
      · exact absurd h hp0
      rcases hG14_14 with ⟨-, rfl⟩ | ⟨h, -⟩
      rotate_left
      · exact absurd h hp0
      rcases HKF.out with ⟨-, rfl⟩ | ⟨h, -⟩
      rotate_left
      · exact absurd h hp0
      clear hp0
      go_wp2_with fail
      go_ret
      exact ⟨rfl, hB14⟩
    subst hp0
    obtain ⟨hm1, hok⟩ := parOk_of HP.out.symm
    obtain ⟨M, rfl⟩ := Int.eq_ofNat_of_zero_le (show 0 ≤ m by omega)
    rw [Int.toNat_natCast] at hok
    have hmost := hok.most
    have hn0 := hok.some_
    have HOK := hide hok
    rw [threeE_if] at HE1 HV1
    have t00 : ((0 : Int) != 0) = false := by decide
    clear hok hm1 HPE tPP
    skip
    go_wp2_with fail
    refine (bitsErrR_any C k e B _ hk (HJ.out.below hB14)).mono ?_
    rintro r w16 ⟨rfl, q16, rfl⟩
    clear tYY t00
    obtain ⟨z0, z1, hlz⟩ := par_cells bx14
    have bx15 := bx14.drewN q16
    have hB15 := below_drewN hB14 q16
    have hG8_15 := hG8_14.drewN q16
    have hG11_15 := hG11_14.drewN q16
    have hG14_15 := hG14_14.drewN q16
    clear z0 z1 hlz bx14 hB14 hG8_14 hG11_14 hG14_14
    generalize w15.drewN q16 = wd15 at *
    have HBB := hide (fun (h : bitsErrR k B = 0) => (bitsErrR_zero h).2.2)
    have HBS := hide (show bitsErrR k B = bitsErrR k B from rfl)
    obtain ⟨b1, hb1'⟩ : ∃ b1, b1 = bitsErrR k B := ⟨_, rfl⟩
    rw [← hb1'] at HE1 HBB ⊢
    clear hb1' HBS
    go_upto_region 15 with fail
    go_cut [129] (fun s wc => s = .bool ((b1 == 0) && ((k : Int) != (M : Int))) ∧ wc = wd15)
    case first => as_aux_lemma =>
      obtain ⟨z0, z1, hlz⟩ := par_cells bx15
      by_cases h : b1 = 0
      · subst h
        go_wp2_with fail
        go_meet
        case rel => exact ⟨rfl, rfl⟩
      · have tb : (b1 == 0) = false := by simpa using h
        clear h
        go_wp2_with fail
        go_meet
        case rel => exact ⟨by rw [tb]; rfl, rfl⟩
    case rest => as_aux_lemma =>
      obtain ⟨rfl, rfl⟩ := hcut
      go_upto_if 129 with fail
      go_cut [17] (fun s wy => s = .int .i64 E ∧ wy = wc)
      case first => as_aux_lemma =>
        cases hz : ((b1 == 0) && ((k : Int) != (M : Int)))
        · have HQ := hide (show b1 = E from by
            rw [HE1.out]
            by_cases h : b1 = 0
            · subst h
              have hkm : (k : Int) = (M : Int) := by simpa using hz
              rw [if_pos rfl, hkm]; simp [unI]
            · rw [if_neg h])
          clear hz
          go_wp2_with fail
          go_meet
          case rel => exact ⟨by rw [HQ.out], rfl⟩
        · have HQ := hide (show E = 10 from by
            rw [Bool.and_eq_true] at hz
            rw [HE1.out, if_pos (by simpa using hz.1)]
            have h2 : ((k : Int) == (M : Int)) = false := by have := hz.2; simpa [bne] using this
            rw [h2]; rfl)
          clear hz
          go_wp2_with fail
          go_meet
          case rel => exact ⟨by rw [HQ.out], rfl⟩
      case rest => as_aux_lemma =>
        obtain ⟨rfl, rfl⟩ := hcut
        obtain ⟨wF, rfl⟩ : ∃ x : World, x = wc := ⟨_, rfl⟩
        have HEK := hide (show E = 0 → b1 = 0 ∧ k = M from fun h => by
          rw [HE1.out] at h
          by_cases h1 : b1 = 0
          · rw [if_pos h1] at h
            unfold unI at h
            by_cases h2 : (k : Int) = (M : Int)
            · exact ⟨h1, by omega⟩
            · rw [if_neg (by simpa using h2)] at h; exact absurd h (by decide)
          · rw [if_neg h1] at h; exact absurd h h1)
        have HGE := hide hG8_15
        go_upto_region 17 with fail
        go_cut [153] (fun s wy => s = .bool false ∧ Below wF.heap.size wF wy)
        case first => as_aux_lemma =>
          obtain ⟨z0, z1, hlz⟩ := par_cells bx15
          by_cases he : E = 0
          · obtain ⟨hb10, hkM⟩ := HEK.out he
            have hbits := HBB.out hb10
            subst hkM
            rcases HGE.out with ⟨h, -⟩ | ⟨-, A8, c8, rfl, hI8⟩
            · exact absurd he h
            rw [Int.toNat_natCast] at hI8
            subst he
            have HI8 := hide hI8
            have HER := hide (fun W h1 h2 => encodeParityR_ok k n c e A C L R B W HOK.out h1 h2 hbits)
            clear hbits hI8 hb10
            go_wp2_with fail
            refine (HER.out _ (HI.out.below hB15) (HJ.out.below hB15)).mono ?_
            rintro r w20 ⟨v20, rfl, hown20, hb20⟩
            obtain ⟨A20, c20, rfl, hc20, hI20⟩ := hown20.form
            go_wp2_with fail
            refine (ints_b A8 A20 (k + n) (k + n) c8 c20 (encF k L R B n) (encF k L R B n) _ (by omega) (by omega) (HI8.out.below hb20) (hI20.weak (Nat.zero_le _))).mono ?_
            rintro r w21 ⟨rfl, hb21⟩
            rw [show intsB (k + n) (encF k L R B n) (k + n) (encF k L R B n) = true from intsB_iff.2 ⟨rfl, fun _ _ => rfl⟩]
            go_wp2_with fail
            go_meet
            case rel => exact ⟨rfl, hb20.trans (hb21.mono hb20.size)⟩
          · rcases HGE.out with ⟨-, rfl⟩ | ⟨h, -⟩
            rotate_left
            · exact absurd h he
            have tEE : (E != E) = false := by simp
            have tE0 : (E != 0) = true := by simpa using he
            have tE1 : (E == 0) = false := by simpa using he
            clear he
            go_wp2_with fail
            go_meet
            case rel => exact ⟨rfl, Below.refl _ _⟩
        case rest => as_aux_lemma =>
          obtain ⟨rfl, hb22⟩ := hcut
          obtain ⟨wG, rfl⟩ : ∃ x : World, x = wc := ⟨_, rfl⟩
          clear HGE
          obtain ⟨z0, z1, hlz⟩ := par_cells bx15
          clear hG8_15
          have bx16 := bx15.below hb22
          have hB16 := hB15.trans (hb22.mono hB15.size)
          have hG11_16 := hG11_15.below hb22
          have hG14_16 := hG14_15.below hb22
          clear z0 z1 hlz bx15 hB15 hG11_15 hG14_15 hb22
          go_wp2_with fail
          refine (bitsErrR_any D l f X _ hl (HX.out.below hB16)).mono ?_
          rintro r w23 ⟨rfl, q23, rfl⟩
          obtain ⟨z0, z1, hlz⟩ := par_cells bx16
          have bx17 := bx16.drewN q23
          have hB17 := below_drewN hB16 q23
          have hG11_17 := hG11_16.drewN q23
          have hG14_17 := hG14_16.drewN q23
          clear z0 z1 hlz bx16 hB16 hG11_16 hG14_16
          generalize wG.drewN q23 = wd17 at *
          have HXB := hide (fun (h : bitsErrR l X = 0) => (bitsErrR_zero h))
          obtain ⟨b2, hb2e⟩ : ∃ b2, b2 = bitsErrR l X := ⟨_, rfl⟩
          rw [← hb2e] at HV1 HXB ⊢
          clear hb2e
          have q9 : IntKind.i64.wrap ((M : Int) + (n : Int)) = (M : Int) + (n : Int) := IntWalk.i64_in _ (by omega)
          go_upto_region 20 with fail
          go_cut [168] (fun s wy => s = .bool ((b2 == 0) && ((l : Int) != (M : Int) + (n : Int))) ∧ wy = wd17)
          case first => as_aux_lemma =>
            obtain ⟨z0, z1, hlz⟩ := par_cells bx17
            by_cases h : b2 = 0
            · subst h
              go_wp2_with fail
              go_meet
              case rel => exact ⟨rfl, rfl⟩
            · have tb : (b2 == 0) = false := by simpa using h
              clear h
              go_wp2_with fail
              go_meet
              case rel => exact ⟨by rw [tb]; rfl, rfl⟩
          case rest => as_aux_lemma =>
            obtain ⟨rfl, rfl⟩ := hcut
            go_upto_if 168 with fail
            go_cut [17] (fun s wy => s = .int .i64 V ∧ wy = wc)
            case first => as_aux_lemma =>
              cases hz : ((b2 == 0) && ((l : Int) != (M : Int) + (n : Int)))
              · have HQ := hide (show b2 = V from by
                  rw [HV1.out]
                  by_cases h : b2 = 0
                  · subst h
                    have hkm : (l : Int) = (M : Int) + (n : Int) := by simpa using hz
                    rw [if_pos rfl, hkm]; simp [unI]
                  · rw [if_neg h])
                clear hz
                go_wp2_with fail
                go_meet
                case rel => exact ⟨by rw [HQ.out], rfl⟩
              · have HQ := hide (show V = 10 from by
                  rw [Bool.and_eq_true] at hz
                  rw [HV1.out, if_pos (by simpa using hz.1)]
                  have h2 : ((l : Int) == (M : Int) + (n : Int)) = false := by have := hz.2; simpa [bne] using this
                  rw [h2]; rfl)
                clear hz
                go_wp2_with fail
                go_meet
                case rel => exact ⟨by rw [HQ.out], rfl⟩
            case rest => as_aux_lemma =>
              obtain ⟨rfl, rfl⟩ := hcut
              obtain ⟨wH, rfl⟩ : ∃ x : World, x = wc := ⟨_, rfl⟩
              by_cases hv : V = 0
              rotate_left
              · have tV0 : (V != 0) = true := by simpa using hv
                have tVV : (V == V) = true := by simp
                rcases hG11_17 with ⟨-, rfl⟩ | ⟨h, -⟩
                rotate_left
                · exact absurd h hv
                rcases hG14_17 with ⟨-, rfl⟩ | ⟨h, -⟩
                rotate_left
                · exact absurd h hv
                rcases HKF.out with ⟨-, rfl⟩ | ⟨h, -⟩
                rotate_left
                · exact absurd h hv
                clear hv
                go_wp2_with fail
                go_ret
                exact ⟨rfl, hB17⟩
              have hlM : b2 = 0 ∧ l = M + n := by
                have h := HV1.out
                rw [hv] at h
                by_cases h1 : b2 = 0
                · rw [if_pos h1] at h
                  unfold unI at h
                  by_cases h2 : (l : Int) = (M : Int) + (n : Int)
                  · exact ⟨h1, by omega⟩
                  · rw [if_neg (by simpa using h2)] at h; exact absurd h (by decide)
                · rw [if_neg h1] at h; exact absurd h.symm h1
              obtain ⟨hb20, hlm⟩ := hlM
              obtain ⟨hl0, -, hbits⟩ := HXB.out hb20
              rcases hG11_17 with ⟨h, -⟩ | ⟨-, A11, c11, rfl, hI11_0⟩
              · exact absurd hv h
              rcases hG14_17 with ⟨h, -⟩ | ⟨-, A14, c14, rfl, hI14_0⟩
              · exact absurd hv h
              rcases HKF.out with ⟨h, -⟩ | ⟨-, hit, hnx⟩
              · exact absurd hv h
              subst hv
              have HPL := hide (show PlaceOk l n L R from by rw [hlm]; exact PlaceOk.of HOK.out)
              have HLR := hide (fun i (hi : i < n) => (by have := (HOK.out.row i hi).most; omega : L i ≤ 1000))
              have HFR := hide (fun W h1 h2 => failedR_any (M : Int) A D n c l f L R X W (by omega) HLR.out h1 h2 (HPL.out.word hbits))
              have HFL := hide (fun W h1 h2 => flipR_any (M : Int) A D n c l f L R X W (by omega) HLR.out (by omega) hl0 h1 h2 HPL.out hbits)
              have HIT := hide (And.intro hit hnx)
              have hf9 := failN_le n L R X
              clear hbits hit hnx hb20 hlm HXB HV1 q9
              obtain ⟨z0, z1, hlz⟩ := par_cells bx17
              go_wp2_with fail
              refine (HFL.out _ (HI.out.below hB17) (HX.out.below hB17)).mono ?_
              rintro r w24 ⟨v24, kr, Zr, rfl, hown24, hitr, hnxr, hb24⟩
              obtain ⟨hkk, hZZ⟩ := HIT.out.1.same HIT.out.2 hitr hnxr
              subst hkk
              subst hZZ
              obtain ⟨A24, c24, rfl, hc24, hI24_0⟩ := hown24.form
              have hI24_0 := hI24_0.weak (Nat.zero_le _)
              clear hown24 hitr hnxr
              have bx18 := bx17.below hb24
              have hB18 := hB17.trans (hb24.mono hB17.size)
              have hI11_18 := hI11_0.below hb24
              have hI14_18 := hI14_0.below hb24
              clear z0 z1 hlz bx17 hB17 hI11_0 hI14_0 hb24
              obtain ⟨z0, z1, hlz⟩ := par_cells bx18
              go_wp2_with fail
              refine (HFR.out _ (HI.out.below hB18) (HX.out.below hB18)).mono ?_
              rintro r w25 ⟨v25, rfl, hown25, hb25⟩
              obtain ⟨A25, c25, rfl, hc25, hI25_0⟩ := hown25.form
              have hI25_0 := hI25_0.weak (Nat.zero_le _)
              clear hown25
              have bx19 := bx18.below hb25
              have hB19 := hB18.trans (hb25.mono hB18.size)
              have hI11_19 := hI11_18.below hb25
              have hI14_19 := hI14_18.below hb25
              have hI24_19 := hI24_0.below hb25
              clear z0 z1 hlz bx18 hB18 hI11_18 hI14_18 hI24_0 hb25
              obtain ⟨z0, z1, hlz⟩ := par_cells bx19
              go_wp2_with fail
              refine (ints_b A11 A25 (failN n L R X) (failN n L R X) c11 c25 (pickF (failP L R X) n) (pickF (failP L R X) n) _ (by omega) (by omega) hI11_19 hI25_0).mono ?_
              rintro r w26 ⟨rfl, hb26⟩
              rw [show intsB (failN n L R X) (pickF (failP L R X) n) (failN n L R X) (pickF (failP L R X) n) = true from intsB_iff.2 ⟨rfl, fun _ _ => rfl⟩]
              have bx20 := bx19.below hb26
              have hB20 := hB19.trans (hb26.mono hB19.size)
              have hI11_20 := hI11_19.below hb26
              have hI14_20 := hI14_19.below hb26
              have hI24_20 := hI24_19.below hb26
              have hI25_20 := hI25_0.below hb26
              clear z0 z1 hlz bx19 hB19 hI11_19 hI14_19 hI24_19 hI25_0 hb26
              go_wp2_with fail
              refine (ints_b A14 A24 l l c14 c24 Z Z _ (by omega) (by omega) hI14_20 hI24_20).mono ?_
              rintro r w27 ⟨rfl, hb27⟩
              rw [show intsB l Z l Z = true from intsB_iff.2 ⟨rfl, fun _ _ => rfl⟩]
              have tkk : ((kf : Int) == (kf : Int)) = true := by simp
              go_wp2_with fail
              go_ret
              exact ⟨rfl, hB20.trans (hb27.mono hB20.size)⟩
end Go.Proofs.Ytdkoohfcpikgiaa
