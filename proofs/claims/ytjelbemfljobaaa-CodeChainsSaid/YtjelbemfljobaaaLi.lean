/- CodeChains: the walk. -/
import Derived.Test.YtjelbemfljobaaaLh
import Derived.Test.YtjelbemfljobaaaFc
import Derived.Deep.DeepCutAuto
namespace Go.Proofs.Ytjelbemfljobaaa
open Go.RowKit Go.Shelf
/-- How long a list of bits is, for the law's guard. -/
theorem lenCases (m : Nat) : (decide (70 < m) = false ∧ decide (202 < m) = false ∧ m ≤ 202) ∨ (decide (70 < m) = true ∧ decide (m ≤ 200) = false ∧ decide (202 < m) = false ∧ m ≤ 202) ∨ (decide (70 < m) = true ∧ decide (m ≤ 200) = true ∧ decide (202 < m) = false) ∨ (decide (70 < m) = true ∧ decide (m ≤ 200) = false ∧ decide (202 < m) = true) := by
  by_cases h1 : 70 < m
  · by_cases h2 : m ≤ 200
    · exact .inr (.inr (.inl ⟨decide_eq_true h1, decide_eq_true h2, decide_eq_false (by omega)⟩))
    · by_cases h3 : 202 < m
      · exact .inr (.inr (.inr ⟨decide_eq_true h1, decide_eq_false h2, decide_eq_true h3⟩))
      · exact .inr (.inl ⟨decide_eq_true h1, decide_eq_false h2, decide_eq_false h3, by omega⟩)
  · exact .inl ⟨decide_eq_false h1, decide_eq_false (by omega), by omega⟩
theorem castDec (a m : Nat) (b : Bool) (h : decide (a < m) = b) : decide ((a : Int) < (m : Int)) = b := by
  rw [← h]; exact decide_eq_decide.2 (by omega)
theorem castDec' (a m : Nat) (b : Bool) (h : decide (m ≤ a) = b) : decide ((m : Int) ≤ (a : Int)) = b := by
  rw [← h]; exact decide_eq_decide.2 (by omega)
set_option maxHeartbeats 8000000 in
set_option maxRecDepth 100000 in
theorem codeChains_walk (d t p k : Int) (A C E : Option Addr) (n c m e l f : Nat) (F B S : Nat → Int) (w : World) (hn : n ≤ 9223372036854775807) (hm : m ≤ 9223372036854775807) (hl : l ≤ 9223372036854775807) (hd9 : -9223372036854775808 ≤ d ∧ d ≤ 9223372036854775807)
    (hI : IntsAt w 0 A n F) (hJ : IntsAt w 0 C m B) (hK : IntsAt w 0 E l S) :
    Calls Try.prog 3 #[.agg #[.int .i64 d, .int .i64 t, .int .i64 p, .slice A n c, .int .i64 k], .slice C m e, .slice E l f] w fun r w' => r = .returned (.bool true) ∧ Below w.heap.size w w' := by
  have HI := hide hI
  have HJ := hide hJ
  have HK := hide hK
  have HD := hide hd9
  clear hI hJ hK hd9
  go_enter Try.func3, Try.ntmps3
  go_wp2_with fail
  refine (awake_any _).mono ?_
  rintro r w1 ⟨rfl, hb1⟩
  have bx1 : Box w1 w.heap.size 28 #[.int .i64 d, .int .i64 t, .int .i64 p, .slice A n c, .int .i64 k] := (Box.made rfl).below hb1
  have hB1 := below_of_alloc hb1
  clear hb1
  go_upto_region 3 with fail
  go_cut [55] (fun s wc => ∃ b : Bool, s = .bool b ∧ (b = false → n ≤ 66 ∧ m ≤ 202 ∧ l ≤ 202) ∧ Box wc w.heap.size 28 #[.int .i64 d, .int .i64 t, .int .i64 p, .slice A n c, .int .i64 k] ∧ Below w.heap.size w wc)
  case first =>
    by_cases h66 : n ≤ 66
    · have HS := hide (fun W => (small_any p A n c W hn))
      rw [decide_eq_true h66] at HS
      obtain ⟨x0, x1, x2, x3, x4, hlt1⟩ := chain_cells bx1
      rcases lenCases m with ⟨u1, u3, u9⟩ | ⟨u1, u2, u3, u9⟩ | ⟨u1, u2, u3⟩ | ⟨u1, u2, u3⟩
      · have u1' : decide ((70 : Int) < (m : Int)) = _ := castDec 70 m _ u1; have u3' : decide ((202 : Int) < (m : Int)) = _ := castDec 202 m _ u3
        rcases lenCases l with ⟨v1, v3, v9⟩ | ⟨v1, v2, v3, v9⟩ | ⟨v1, v2, v3⟩ | ⟨v1, v2, v3⟩
        · have v1' : decide ((70 : Int) < (l : Int)) = _ := castDec 70 l _ v1; have v3' : decide ((202 : Int) < (l : Int)) = _ := castDec 202 l _ v3
          go_wp2_with fail
          refine (HS.out _).mono ?_
          rintro r w2 ⟨rfl, hb2⟩
          have bx2 := bx1.below hb2
          clear x0 x1 x2 x3 x4 hlt1
          obtain ⟨x0, x1, x2, x3, x4, hlt1⟩ := chain_cells bx2
          go_wp2_with fail
          refine (within_any _ _ _ _).mono ?_
          rintro r w2 ⟨rfl, rfl⟩
          generalize withinB k 81 400 = q at *
          go_wp2_with fail
          all_goals
            go_meet
            case rel => exact ⟨_, rfl, fun _ => ⟨h66, u9, v9⟩, bx2, hB1.trans (hb2.mono hB1.size)⟩
        · have v1' : decide ((70 : Int) < (l : Int)) = _ := castDec 70 l _ v1; have v2' : decide ((l : Int) ≤ (200 : Int)) = _ := castDec' 200 l _ v2; have v3' : decide ((202 : Int) < (l : Int)) = _ := castDec 202 l _ v3
          go_wp2_with fail
          refine (HS.out _).mono ?_
          rintro r w2 ⟨rfl, hb2⟩
          have bx2 := bx1.below hb2
          clear x0 x1 x2 x3 x4 hlt1
          obtain ⟨x0, x1, x2, x3, x4, hlt1⟩ := chain_cells bx2
          go_wp2_with fail
          refine (within_any _ _ _ _).mono ?_
          rintro r w2 ⟨rfl, rfl⟩
          generalize withinB k 81 400 = q at *
          go_wp2_with fail
          all_goals
            go_meet
            case rel => exact ⟨_, rfl, fun _ => ⟨h66, u9, v9⟩, bx2, hB1.trans (hb2.mono hB1.size)⟩
        · have v1' : decide ((70 : Int) < (l : Int)) = _ := castDec 70 l _ v1; have v2' : decide ((l : Int) ≤ (200 : Int)) = _ := castDec' 200 l _ v2; have v3' : decide ((202 : Int) < (l : Int)) = _ := castDec 202 l _ v3
          go_wp2_with fail
          refine (HS.out _).mono ?_
          rintro r w2 ⟨rfl, hb2⟩
          go_wp2_with fail
          go_meet
          case rel => exact ⟨true, rfl, (fun h => Bool.noConfusion h), bx1.below hb2, hB1.trans (hb2.mono hB1.size)⟩
        · have v1' : decide ((70 : Int) < (l : Int)) = _ := castDec 70 l _ v1; have v2' : decide ((l : Int) ≤ (200 : Int)) = _ := castDec' 200 l _ v2; have v3' : decide ((202 : Int) < (l : Int)) = _ := castDec 202 l _ v3
          go_wp2_with fail
          refine (HS.out _).mono ?_
          rintro r w2 ⟨rfl, hb2⟩
          go_wp2_with fail
          go_meet
          case rel => exact ⟨true, rfl, (fun h => Bool.noConfusion h), bx1.below hb2, hB1.trans (hb2.mono hB1.size)⟩
      · have u1' : decide ((70 : Int) < (m : Int)) = _ := castDec 70 m _ u1; have u2' : decide ((m : Int) ≤ (200 : Int)) = _ := castDec' 200 m _ u2; have u3' : decide ((202 : Int) < (m : Int)) = _ := castDec 202 m _ u3
        rcases lenCases l with ⟨v1, v3, v9⟩ | ⟨v1, v2, v3, v9⟩ | ⟨v1, v2, v3⟩ | ⟨v1, v2, v3⟩
        · have v1' : decide ((70 : Int) < (l : Int)) = _ := castDec 70 l _ v1; have v3' : decide ((202 : Int) < (l : Int)) = _ := castDec 202 l _ v3
          go_wp2_with fail
          refine (HS.out _).mono ?_
          rintro r w2 ⟨rfl, hb2⟩
          have bx2 := bx1.below hb2
          clear x0 x1 x2 x3 x4 hlt1
          obtain ⟨x0, x1, x2, x3, x4, hlt1⟩ := chain_cells bx2
          go_wp2_with fail
          refine (within_any _ _ _ _).mono ?_
          rintro r w2 ⟨rfl, rfl⟩
          generalize withinB k 81 400 = q at *
          go_wp2_with fail
          all_goals
            go_meet
            case rel => exact ⟨_, rfl, fun _ => ⟨h66, u9, v9⟩, bx2, hB1.trans (hb2.mono hB1.size)⟩
        · have v1' : decide ((70 : Int) < (l : Int)) = _ := castDec 70 l _ v1; have v2' : decide ((l : Int) ≤ (200 : Int)) = _ := castDec' 200 l _ v2; have v3' : decide ((202 : Int) < (l : Int)) = _ := castDec 202 l _ v3
          go_wp2_with fail
          refine (HS.out _).mono ?_
          rintro r w2 ⟨rfl, hb2⟩
          have bx2 := bx1.below hb2
          clear x0 x1 x2 x3 x4 hlt1
          obtain ⟨x0, x1, x2, x3, x4, hlt1⟩ := chain_cells bx2
          go_wp2_with fail
          refine (within_any _ _ _ _).mono ?_
          rintro r w2 ⟨rfl, rfl⟩
          generalize withinB k 81 400 = q at *
          go_wp2_with fail
          all_goals
            go_meet
            case rel => exact ⟨_, rfl, fun _ => ⟨h66, u9, v9⟩, bx2, hB1.trans (hb2.mono hB1.size)⟩
        · have v1' : decide ((70 : Int) < (l : Int)) = _ := castDec 70 l _ v1; have v2' : decide ((l : Int) ≤ (200 : Int)) = _ := castDec' 200 l _ v2; have v3' : decide ((202 : Int) < (l : Int)) = _ := castDec 202 l _ v3
          go_wp2_with fail
          refine (HS.out _).mono ?_
          rintro r w2 ⟨rfl, hb2⟩
          go_wp2_with fail
          go_meet
          case rel => exact ⟨true, rfl, (fun h => Bool.noConfusion h), bx1.below hb2, hB1.trans (hb2.mono hB1.size)⟩
        · have v1' : decide ((70 : Int) < (l : Int)) = _ := castDec 70 l _ v1; have v2' : decide ((l : Int) ≤ (200 : Int)) = _ := castDec' 200 l _ v2; have v3' : decide ((202 : Int) < (l : Int)) = _ := castDec 202 l _ v3
          go_wp2_with fail
          refine (HS.out _).mono ?_
          rintro r w2 ⟨rfl, hb2⟩
          go_wp2_with fail
          go_meet
          case rel => exact ⟨true, rfl, (fun h => Bool.noConfusion h), bx1.below hb2, hB1.trans (hb2.mono hB1.size)⟩
      · have u1' : decide ((70 : Int) < (m : Int)) = _ := castDec 70 m _ u1; have u2' : decide ((m : Int) ≤ (200 : Int)) = _ := castDec' 200 m _ u2; have u3' : decide ((202 : Int) < (m : Int)) = _ := castDec 202 m _ u3
        go_wp2_with fail
        refine (HS.out _).mono ?_
        rintro r w2 ⟨rfl, hb2⟩
        go_wp2_with fail
        go_meet
        case rel => exact ⟨true, rfl, (fun h => Bool.noConfusion h), bx1.below hb2, hB1.trans (hb2.mono hB1.size)⟩
      · have u1' : decide ((70 : Int) < (m : Int)) = _ := castDec 70 m _ u1; have u2' : decide ((m : Int) ≤ (200 : Int)) = _ := castDec' 200 m _ u2; have u3' : decide ((202 : Int) < (m : Int)) = _ := castDec 202 m _ u3
        go_wp2_with fail
        refine (HS.out _).mono ?_
        rintro r w2 ⟨rfl, hb2⟩
        go_wp2_with fail
        go_meet
        case rel => exact ⟨true, rfl, (fun h => Bool.noConfusion h), bx1.below hb2, hB1.trans (hb2.mono hB1.size)⟩
    · have HS := hide (fun W => (small_any p A n c W hn))
      rw [decide_eq_false h66] at HS
      obtain ⟨x0, x1, x2, x3, x4, hlt1⟩ := chain_cells bx1
      go_wp2_with fail
      refine (HS.out _).mono ?_
      rintro r w2 ⟨rfl, hb2⟩
      go_wp2_with fail
      go_meet
      case rel => exact ⟨true, rfl, (fun h => Bool.noConfusion h), bx1.below hb2, hB1.trans (hb2.mono hB1.size)⟩
  case rest =>
    obtain ⟨b, rfl, hb, bx, hB⟩ := hcut
    cases b
    · obtain ⟨h66, hm2, hl2⟩ := hb rfl
      have hn9 : n ≤ 1000 := by omega
      clear hb
      go_wp2_with fail
      go_loopw [7] (fun i wr => ∃ z : Int, -1 ≤ z ∧ z ≤ 5 ∧ i = .int .i64 z ∧ Box wr w.heap.size 28 #[.int .i64 d, .int .i64 t, .int .i64 p, .slice A n c, .int .i64 k] ∧ Below w.heap.size w wr) (fun i _ => (5 - intOf i).toNat)
      case atStart => exact ⟨-1, by omega, by omega, rfl, bx, hB⟩
      case round =>
        obtain ⟨z, hz0, hz5, rfl, bx, hB⟩ := hrel
        obtain ⟨x0, x1, x2, x3, x4, hlt⟩ := chain_cells bx
        by_cases hz : z ≤ 4
        · have t1 : decide (z ≤ 4) = true := by simpa using hz
          go_wp2_with fail
          refine (copyChain_any d t p k A n c F _ (by omega) (HI.out.below hB)).mono ?_
          rintro r w2 ⟨A2, c2, rfl, hc2, hI2, hb2⟩
          have hB2 := hB.trans (hb2.mono hB.size)
          go_wp2_with fail
          refine (copyInts_any C m e B _ (by omega) (HJ.out.below hB2)).mono ?_
          rintro r w3 ⟨v3, rfl, A3, c3, rfl, hc3, hI3, hb3⟩
          have hB3 := hB2.trans (hb3.mono hB2.size)
          go_wp2_with fail
          refine (Sent_any d t p k z A2 A3 n c2 m c3 F B _ hn9 (by omega) HD.out ((hI2.below hb3).weak (Nat.zero_le _)) (hI3.weak (Nat.zero_le _))).mono ?_
          intro r w4 hres
          obtain ⟨v4, rfl, hr4, hb4⟩ := res_of hres
          have hB4 := hB3.trans (hb4.mono hB3.size)
          have bx4 := ((bx.below hb2).below hb3).below hb4
          clear hb2 hb3 hI2 hI3 hB2 hres bx x0 x1 x2 x3 x4 hlt hB hB3 hb4
          obtain ⟨x0, x1, x2, x3, x4, hlt⟩ := chain_cells bx4
          have qz : IntKind.i64.wrap (z + 1) = z + 1 := IntWalk.i64_in _ (by omega)
          have HCE := hide (fun W hW => chainErrR_any d t p k A n c F W hn9 hW)
          by_cases h1 : chainErrI d t p n F k = 0
          · rw [h1] at HCE
            by_cases h2 : bitsErrR m B = 0
            · obtain ⟨m0, m2, hbits⟩ := bitsErrR_zero h2
              obtain ⟨x, y, q, j, ok⟩ := chainErr_zero h1
              have q2 : IntKind.i64.wrap ((m : Int) + d) = (m : Int) + d := IntWalk.i64_in _ (by have := ok.ed; have := ok.d1; have := ok.d0; omega)
              have HBE := hide (fun W hW => bitsErrR_any C m e B W hm hW)
              rw [h2] at HBE
              by_cases h3 : (m : Int) + d = (n : Int)
              · have t3 : ((m : Int) + d != (n : Int)) = false := by simpa using h3
                by_cases h4 : withinB z 0 3 = true
                · have HE : sentErrI d t p n F k m B z = 0 := by unfold sentErrI; rw [firstE_cons, if_pos h1, firstE_cons, if_pos h2, firstE_cons, decide_eq_true h3, firstE_cons, h4]; rfl
                  rw [HE] at hr4 ⊢
                  obtain ⟨A4, c4, rfl, hI4⟩ : ∃ A4 c4, v4 = .slice A4 k.toNat c4 ∧ IntsAt w4 0 A4 k.toNat (sentF d.toNat t.toNat p.toNat n F m B z.toNat) := by
                    rcases hr4 with h | ⟨-, h⟩
                    · exact absurd rfl h.1
                    · exact h
                  have h4' := withinB_of h4
                  have HVE := hide (fun W => versionErrR_any z W)
                  rw [h4, show unI true 15 = 0 from rfl] at HVE
                  go_wp2_with fail
                  refine (HCE.out _ (HI.out.below hB4)).mono ?_
                  rintro r w5 ⟨rfl, hb5⟩
                  go_wp2_with fail
                  have hB5 := hB4.trans (hb5.mono hB4.size)
                  refine (HBE.out _ (HJ.out.below hB5)).mono ?_
                  rintro r w6 ⟨rfl, q6, rfl⟩
                  have bx6 := (bx4.below hb5).drewN q6
                  have hB6 := below_drewN hB5 q6
                  have hI6 := (hI4.below hb5).drewN q6
                  clear x0 x1 x2 x3 x4 hlt hb5 hI4 hB5
                  generalize w5.drewN q6 = w6 at *
                  obtain ⟨x0, x1, x2, x3, x4, hlt⟩ := chain_cells bx6
                  go_wp2_with fail
                  refine (HVE.out _).mono ?_
                  rintro r w7 ⟨rfl, rfl⟩
                  clear HE hr4 h1 h2 h3 h4 HVE HBE HCE
                  obtain ⟨rfl, rfl, rfl, rfl, d0, d1, t1', odd, hpol, q6', hless, k1, k4⟩ := ok
                  obtain ⟨v, rfl⟩ := Int.eq_ofNat_of_zero_le h4'.1
                  obtain rfl : n = m + x := by have := (by simpa using t3 : (m : Int) + (x : Int) = (n : Int)); omega
                  simp only [Int.toNat_natCast] at hI6
                  rw [Int.toNat_natCast j]
                  have HOK := hide (⟨rfl, rfl, rfl, rfl, d0, d1, t1', odd, hpol, q6', hless, k1, k4⟩ : ChainOk x y q (m + x) F j x y q j)
                  have HBT := hide hbits
                  clear hbits hpol
                  go_wp2_with fail
                  refine (SentR_any x y q j v A C m c e F B _ (by omega) m0 m2 HOK.out (by omega) HBT.out (HI.out.below hB6) (HJ.out.below hB6)).mono ?_
                  rintro r w8 ⟨u, rfl, hown8, hb8⟩
                  obtain ⟨A8, c8, rfl, -, hI8⟩ := hown8.form
                  go_wp2_with fail
                  refine (ints_any A4 A8 j j c4 c8 _ _ _ (by omega) (by omega) (hI6.below hb8) (hI8.weak (Nat.zero_le _))).mono ?_
                  rintro r w9 ⟨rfl, q9, rfl⟩
                  rw [intsB_iff.2 ⟨rfl, fun _ _ => rfl⟩]
                  have bx9 := (bx6.below hb8).drewN q9
                  have hB9 := below_drewN (hB6.trans (hb8.mono hB6.size)) q9
                  go_wp2_with fail
                  go_roundw
                  case rel => exact ⟨(v : Int) + 1, by omega, by omega, by go_num, bx9, hB9⟩
                  case measure => simp [intOf]; omega
                · have h4f : withinB z 0 3 = false := by simpa using h4
                  have HE : sentErrI d t p n F k m B z = 15 := by unfold sentErrI; rw [firstE_cons, if_pos h1, firstE_cons, if_pos h2, firstE_cons, decide_eq_true h3, firstE_cons, h4f]; rfl
                  rw [HE] at hr4 ⊢
                  obtain rfl : v4 = .slice none 0 0 := by
                    rcases hr4 with h | ⟨h, -⟩
                    · exact h.2
                    · exact absurd h (by decide)
                  have HVE := hide (fun W => versionErrR_any z W)
                  rw [h4f, show unI false 15 = 15 from rfl] at HVE
                  clear HE hr4 h1 h2 h3 h4 h4f ok hbits
                  go_wp2_with fail
                  refine (HCE.out _ (HI.out.below hB4)).mono ?_
                  rintro r w5 ⟨rfl, hb5⟩
                  go_wp2_with fail
                  have hB5 := hB4.trans (hb5.mono hB4.size)
                  refine (HBE.out _ (HJ.out.below hB5)).mono ?_
                  rintro r w6 ⟨rfl, q6, rfl⟩
                  have bx6 := (bx4.below hb5).drewN q6
                  have hB6 := below_drewN hB5 q6
                  clear x0 x1 x2 x3 x4 hlt hb5 hB5
                  generalize w5.drewN q6 = w6 at *
                  obtain ⟨x0, x1, x2, x3, x4, hlt⟩ := chain_cells bx6
                  go_wp2_with fail
                  refine (HVE.out _).mono ?_
                  rintro r w7 ⟨rfl, rfl⟩
                  go_wp2_with fail
                  go_roundw
                  case rel => exact ⟨z + 1, by omega, by omega, by go_num, bx6, hB6⟩
                  case measure => simp [intOf]; omega
              · have t3 : ((m : Int) + d != (n : Int)) = true := by simpa using h3
                have HE : sentErrI d t p n F k m B z = 10 := by unfold sentErrI; rw [firstE_cons, if_pos h1, firstE_cons, if_pos h2, firstE_cons, decide_eq_false h3]; rfl
                rw [HE] at hr4 ⊢
                obtain rfl : v4 = .slice none 0 0 := by
                  rcases hr4 with h | ⟨h, -⟩
                  · exact h.2
                  · exact absurd h (by decide)
                clear HE hr4 h1 h2 h3 ok hbits
                go_wp2_with fail
                refine (HCE.out _ (HI.out.below hB4)).mono ?_
                rintro r w5 ⟨rfl, hb5⟩
                go_wp2_with fail
                have hB5 := hB4.trans (hb5.mono hB4.size)
                refine (HBE.out _ (HJ.out.below hB5)).mono ?_
                rintro r w6 ⟨rfl, q6, rfl⟩
                have bx6 := (bx4.below hb5).drewN q6
                have hB6 := below_drewN hB5 q6
                clear x0 x1 x2 x3 x4 hlt hb5 hB5
                generalize w5.drewN q6 = w6 at *
                obtain ⟨x0, x1, x2, x3, x4, hlt⟩ := chain_cells bx6
                go_wp2_with fail
                go_roundw
                case rel => exact ⟨z + 1, by omega, by omega, by go_num, bx6, hB6⟩
                case measure => simp [intOf]; omega
            · have HE : sentErrI d t p n F k m B z = bitsErrR m B := by unfold sentErrI; rw [firstE_cons, if_pos h1, firstE_cons, if_neg h2]
              rw [HE] at hr4 ⊢
              obtain rfl : v4 = .slice none 0 0 := by
                rcases hr4 with h | ⟨h, -⟩
                · exact h.2
                · exact absurd h h2
              have t2 : (bitsErrR m B != 0) = true := by simpa using h2
              have t2' : (bitsErrR m B == 0) = false := by simpa using h2
              have HBE := hide (fun W hW => bitsErrR_any C m e B W hm hW)
              clear HE hr4 h1 h2
              generalize bitsErrR m B = be at *
              go_wp2_with fail
              refine (HCE.out _ (HI.out.below hB4)).mono ?_
              rintro r w5 ⟨rfl, hb5⟩
              go_wp2_with fail
              have hB5 := hB4.trans (hb5.mono hB4.size)
              refine (HBE.out _ (HJ.out.below hB5)).mono ?_
              rintro r w6 ⟨rfl, q6, rfl⟩
              have bx6 := (bx4.below hb5).drewN q6
              have hB6 := below_drewN hB5 q6
              go_wp2_with fail
              go_roundw
              case rel => exact ⟨z + 1, by omega, by omega, by go_num, bx6, hB6⟩
              case measure => simp [intOf]; omega
          · have HE : sentErrI d t p n F k m B z = chainErrI d t p n F k := by unfold sentErrI; rw [firstE_cons, if_neg h1]
            rw [HE] at hr4 ⊢
            obtain rfl : v4 = .slice none 0 0 := by
              rcases hr4 with h | ⟨h, -⟩
              · exact h.2
              · exact absurd h h1
            have t2 : (chainErrI d t p n F k != 0) = true := by simpa using h1
            have t2' : (chainErrI d t p n F k == 0) = false := by simpa using h1
            clear HE hr4 h1
            generalize chainErrI d t p n F k = ce at *
            go_wp2_with fail
            refine (HCE.out _ (HI.out.below hB4)).mono ?_
            rintro r w5 ⟨rfl, hb5⟩
            have hB5 := hB4.trans (hb5.mono hB4.size)
            have bx5 := bx4.below hb5
            go_wp2_with fail
            go_roundw
            case rel => exact ⟨z + 1, by omega, by omega, by go_num, bx5, hB5⟩
            case measure => simp [intOf]; omega
        · have t1 : decide (z ≤ 4) = false := by simpa using hz
          go_wp2_with fail
          refine (copyChain_any d t p k A n c F _ (by omega) (HI.out.below hB)).mono ?_
          rintro r w2 ⟨A2, c2, rfl, hc2, hI2, hb2⟩
          have hB2 := hB.trans (hb2.mono hB.size)
          go_wp2_with fail
          refine (copyInts_own E l f S _ (by omega) (HK.out.below hB2)).mono ?_
          rintro r w3 ⟨v3, rfl, hown3, hb3⟩
          obtain ⟨A3, c3, rfl, hc3, hI3⟩ := hown3.form
          have hcap := hown3.cap_any
          have hB3 := hB2.trans (hb3.mono hB2.size)
          go_wp2_with fail
          refine (Recovered_any d t p k A2 A3 n c2 l c3 F S _ hn9 (by omega) hcap.1 hcap.2 ((hI2.below hb3).weak (Nat.zero_le _)) (hI3.weak (Nat.zero_le _))).mono ?_
          intro r w4 hres
          obtain ⟨v4, rfl, hr4, hb4⟩ := res_of hres
          have hB4 := hB3.trans (hb4.mono hB3.size)
          have bx4 := ((bx.below hb2).below hb3).below hb4
          clear hb2 hb3 hI2 hI3 hB2 hres bx x0 x1 x2 x3 x4 hlt hB hB3 hb4 hown3 hcap
          obtain ⟨x0, x1, x2, x3, x4, hlt⟩ := chain_cells bx4
          have HCE := hide (fun W hW => chainErrR_any d t p k A n c F W hn9 hW)
          by_cases h1 : chainErrI d t p n F k = 0
          · rw [h1] at HCE
            have HBE := hide (fun W hW => sumsErrR_any E l f S W hl hW)
            by_cases h2 : sizedErrI l 200 S 1000000000 = 0
            · have hpre : recPre d t p n F k l S = 0 := by unfold recPre; rw [firstE_cons, if_pos h1, firstE_cons, if_pos h2]; rfl
              obtain ⟨l0, l2, hS9⟩ := sizedErr_zero h2
              rw [h2] at HBE
              obtain ⟨x, y, q, j, ok⟩ := chainErr_zero h1
              clear h1 h2
              obtain ⟨rfl, rfl, rfl, rfl, d0, d1, t1', odd, hpol, q6', hless, k1, k4⟩ := ok
              have HOK := hide (⟨rfl, rfl, rfl, rfl, d0, d1, t1', odd, hpol, q6', hless, k1, k4⟩ : ChainOk x y q n F j x y q j)
              obtain ⟨N, hN⟩ : ∃ N, N = 2 ^ q := ⟨_, rfl⟩
              have eN : (2 : Int) ^ q = (N : Int) := by rw [hN]; simp
              have HLE := hide (fun W => length_any q A n c W (by omega))
              rw [eN] at HLE
              have EQ : recErrI (x : Int) y q n F j l S = if l = N then (if recRight x y q n F S = true then 0 else 21) else 10 := by
                unfold recErrI
                rw [if_pos hpre, hN]
                rfl
              have HN := hide hN
              have HS9 := hide hS9
              clear hN eN hpre hS9 hpol
              by_cases hlN : l = N
              · subst hlN
                rw [if_pos rfl] at EQ
                have t3 : ((l : Int) != (l : Int)) = false := by simp
                have HREC := hide (fun W hW1 hW2 => RecoveredR_any x y q j A E n c l f F S W hn9 HN.out HOK.out HS9.out hW1 hW2)
                obtain ⟨R, hR⟩ : ∃ R : Int, R = (if recRight x y q n F S = true then 0 else 21) := ⟨_, rfl⟩
                rw [← hR] at EQ HREC
                rw [EQ] at hr4 ⊢
                have hr4' : ResV R (n - x) (recF q n F S) v4 w4 := hr4
                have t5 : (R == R) = true := by simp
                clear EQ hr4 hR
                go_wp2_with fail
                refine (HCE.out _ (HI.out.below hB4)).mono ?_
                rintro r w5 ⟨rfl, hb5⟩
                go_wp2_with fail
                have hB5 := hB4.trans (hb5.mono hB4.size)
                refine (HBE.out _ (HK.out.below hB5)).mono ?_
                rintro r w6 ⟨rfl, q6, rfl⟩
                have bx6 := (bx4.below hb5).drewN q6
                have hB6 := below_drewN hB5 q6
                have hr6 := (hr4'.keep hb5).keep (below_drewN (Below.refl _ _) q6)
                clear x0 x1 x2 x3 x4 hlt hb5 hB5 hr4'
                generalize w5.drewN q6 = w6 at *
                obtain ⟨x0, x1, x2, x3, x4, hlt⟩ := chain_cells bx6
                go_wp2_with fail
                refine (HLE.out _).mono ?_
                rintro r w7 ⟨rfl, hb7⟩
                have bx7 := bx6.below hb7
                have hB7 := hB6.trans (hb7.mono hB6.size)
                have hr7 := hr6.keep hb7
                clear x0 x1 x2 x3 x4 hlt hb7 hB6 hr6 bx6
                obtain ⟨x0, x1, x2, x3, x4, hlt⟩ := chain_cells bx7
                go_wp2_with fail
                refine (HREC.out _ (HI.out.below hB7) (HK.out.below hB7)).mono ?_
                rintro r w8 ⟨v8, rfl, hr8, hb8⟩
                have hr9 := hr7.keep hb8
                have hB8 := hB7.trans (hb8.mono hB7.size)
                clear hr7
                obtain ⟨A4, c4, G4, n4, rfl, hn4, hI4, A8, c8, rfl, hI8⟩ : ∃ A4 c4 G4, ∃ n4 : Nat, v4 = .slice A4 n4 c4 ∧ n4 ≤ 1000 ∧ IntsAt w8 0 A4 n4 G4 ∧ ∃ A8 c8, v8 = .slice A8 n4 c8 ∧ IntsAt w8 0 A8 n4 G4 := by
                  rcases hr9 with ⟨g1, rfl⟩ | ⟨g1, A4, c4, rfl, hI4⟩
                  · rcases hr8 with ⟨-, rfl⟩ | ⟨g2, -⟩
                    · exact ⟨none, 0, fun _ => 0, 0, rfl, by omega, IntsAt.nil_, none, 0, rfl, IntsAt.nil_⟩
                    · exact absurd g2 g1
                  · rcases hr8 with ⟨g2, -⟩ | ⟨-, A8, c8, rfl, hI8⟩
                    · exact absurd g1 g2
                    · exact ⟨A4, c4, _, n - x, rfl, by omega, hI4, A8, c8, rfl, hI8⟩
                go_wp2_with fail
                refine (ints_any A4 A8 n4 n4 c4 c8 _ _ _ (by omega) (by omega) hI4 hI8).mono ?_
                rintro r w9 ⟨rfl, q9, rfl⟩
                rw [intsB_iff.2 ⟨rfl, fun _ _ => rfl⟩]
                go_wp2_with fail
                all_goals
                  go_ret
                  exact ⟨rfl, below_drewN hB8 q9⟩
              · rw [if_neg hlN] at EQ
                have t3 : ((l : Int) != (N : Int)) = true := by simp; omega
                rw [EQ] at hr4 ⊢
                obtain rfl : v4 = .slice none 0 0 := by
                  rcases hr4 with h | ⟨h, -⟩
                  · exact h.2
                  · exact absurd h (by decide)
                clear EQ hr4 hlN
                go_wp2_with fail
                refine (HCE.out _ (HI.out.below hB4)).mono ?_
                rintro r w5 ⟨rfl, hb5⟩
                go_wp2_with fail
                have hB5 := hB4.trans (hb5.mono hB4.size)
                refine (HBE.out _ (HK.out.below hB5)).mono ?_
                rintro r w6 ⟨rfl, q6, rfl⟩
                have bx6 := (bx4.below hb5).drewN q6
                have hB6 := below_drewN hB5 q6
                clear x0 x1 x2 x3 x4 hlt hb5 hB5
                generalize w5.drewN q6 = w6 at *
                obtain ⟨x0, x1, x2, x3, x4, hlt⟩ := chain_cells bx6
                go_wp2_with fail
                refine (HLE.out _).mono ?_
                rintro r w7 ⟨rfl, hb7⟩
                have hB7 := hB6.trans (hb7.mono hB6.size)
                go_wp2_with fail
                refine (ints_any none none 0 0 0 0 (fun _ => 0) (fun _ => 0) _ (by omega) (by omega) IntsAt.nil_ IntsAt.nil_).mono ?_
                rintro r w9 ⟨rfl, q9, rfl⟩
                rw [intsB_iff.2 ⟨rfl, fun _ _ => rfl⟩]
                go_wp2_with fail
                go_ret
                exact ⟨rfl, below_drewN hB7 q9⟩
            · have hpre : recPre d t p n F k l S = sizedErrI l 200 S 1000000000 := by unfold recPre; rw [firstE_cons, if_pos h1, firstE_cons, if_neg h2]
              have HE : recErrI d t p n F k l S = sizedErrI l 200 S 1000000000 := by unfold recErrI; rw [hpre, if_neg h2]
              rw [HE] at hr4 ⊢
              obtain rfl : v4 = .slice none 0 0 := by
                rcases hr4 with h | ⟨h, -⟩
                · exact h.2
                · exact absurd h h2
              have t2 : (sizedErrI l 200 S 1000000000 != 0) = true := by simpa using h2
              have t2' : (sizedErrI l 200 S 1000000000 == 0) = false := by simpa using h2
              clear HE hr4 h1 h2 hpre
              generalize sizedErrI l 200 S 1000000000 = be at *
              go_wp2_with fail
              refine (HCE.out _ (HI.out.below hB4)).mono ?_
              rintro r w5 ⟨rfl, hb5⟩
              go_wp2_with fail
              have hB5 := hB4.trans (hb5.mono hB4.size)
              refine (HBE.out _ (HK.out.below hB5)).mono ?_
              rintro r w6 ⟨rfl, q6, rfl⟩
              have hB6 := below_drewN hB5 q6
              generalize w5.drewN q6 = w6 at *
              go_wp2_with fail
              refine (ints_any none none 0 0 0 0 (fun _ => 0) (fun _ => 0) _ (by omega) (by omega) IntsAt.nil_ IntsAt.nil_).mono ?_
              rintro r w9 ⟨rfl, q9, rfl⟩
              rw [intsB_iff.2 ⟨rfl, fun _ _ => rfl⟩]
              go_wp2_with fail
              go_ret
              exact ⟨rfl, below_drewN hB6 q9⟩
          · have hpre : recPre d t p n F k l S = chainErrI d t p n F k := by unfold recPre; rw [firstE_cons, if_neg h1]
            have HE : recErrI d t p n F k l S = chainErrI d t p n F k := by unfold recErrI; rw [hpre, if_neg h1]
            rw [HE] at hr4 ⊢
            obtain rfl : v4 = .slice none 0 0 := by
              rcases hr4 with h | ⟨h, -⟩
              · exact h.2
              · exact absurd h h1
            have t2 : (chainErrI d t p n F k != 0) = true := by simpa using h1
            have t2' : (chainErrI d t p n F k == 0) = false := by simpa using h1
            clear HE hr4 h1 hpre
            generalize chainErrI d t p n F k = ce at *
            go_wp2_with fail
            refine (HCE.out _ (HI.out.below hB4)).mono ?_
            rintro r w5 ⟨rfl, hb5⟩
            have hB5 := hB4.trans (hb5.mono hB4.size)
            go_wp2_with fail
            refine (ints_any none none 0 0 0 0 (fun _ => 0) (fun _ => 0) _ (by omega) (by omega) IntsAt.nil_ IntsAt.nil_).mono ?_
            rintro r w9 ⟨rfl, q9, rfl⟩
            rw [intsB_iff.2 ⟨rfl, fun _ _ => rfl⟩]
            go_wp2_with fail
            go_ret
            exact ⟨rfl, below_drewN hB5 q9⟩
    · go_wp2_with fail
      go_ret
      exact ⟨rfl, hB⟩
end Go.Proofs.Ytjelbemfljobaaa
