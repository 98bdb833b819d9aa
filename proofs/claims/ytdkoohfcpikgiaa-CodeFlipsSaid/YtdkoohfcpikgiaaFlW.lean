/- Lemmas: Qn. -/
import Derived.Deep.DeepCutAuto
import Derived.Test.YtdkoohfcpikgiaaBk05
import Derived.Test.YtdkoohfcpikgiaaBk07
import Derived.Test.YtdkoohfcpikgiaaBk08
import Derived.Test.YtdkoohfcpikgiaaBk09
set_option linter.unusedVariables false
set_option linter.unusedSimpArgs false
/- CodeFlips: the walk. -/
namespace Go.Proofs.Ytdkoohfcpikgiaa
open Go.RowKit Go.Shelf
theorem bitsErr_make {n : Nat} {F : Nat → Int} (h0 : 0 < n) (h1 : n ≤ 200) (hb : ∀ k, k < n → IsBit (F k)) : bitsErrR n F = 0 := by unfold bitsErrR; rw [if_neg (by omega), if_neg (by omega), if_pos (bitsB_iff.2 hb)]
theorem wordErr_right {k n : Nat} {L : Nat → Nat} {R : Nat → Nat → Int} {l : Nat} {X : Nat → Int} (hp : parErrI (k : Int) n L R = 0) (hl : l = k + n) (h0 : 0 < l) (h9 : l ≤ 200) (hX : ∀ j, j < l → IsBit (X j)) : wordErrI (k : Int) n L R l X = 0 :=
  threeE_zero.2 ⟨hp, bitsErr_make h0 h9 hX, by subst hl; simp⟩
theorem Failed_right (k : Nat) (A C : Option Addr) (n c l d : Nat) (L : Nat → Nat) (R : Nat → Nat → Int) (X : Nat → Int) (w : World) (hn : n ≤ 9223372036854775807) (he : wordErrI (k : Int) n L R l X = 0) (hl : l ≤ 200) (hI : ListsAt w 0 A n L R) (hX : IntsAt w 0 C l X) :
    Calls Try.prog 12 #[.agg #[.int .i64 (k : Int), .slice A n c], .slice C l d] w fun e w' => ∃ A' c', e = .returned (.tuple #[.slice A' (failN n L R X) c', .int .i64 0]) ∧ IntsAt w' 0 A' (failN n L R X) (pickF (failP L R X) n) ∧ Below w.heap.size w w' :=
  (Failed_any (k : Int) A C n c l d L R X w hn (by omega) hI hX).mono fun e w' ⟨v, h1, h2, h3⟩ => by
    rw [he] at h1 h2
    rcases h2 with ⟨h4, -⟩ | ⟨-, h4⟩
    · exact absurd rfl h4
    · obtain ⟨A', c', rfl, -, h5⟩ := h4.form
      exact ⟨A', c', h1, h5.weak (Nat.zero_le _), h3⟩
theorem Flip_right (k : Nat) (A C : Option Addr) (n c l d : Nat) (L : Nat → Nat) (R : Nat → Nat → Int) (X : Nat → Int) (w : World) (hn : n ≤ 9223372036854775807) (he : wordErrI (k : Int) n L R l X = 0) (hl : l ≤ 200) (hI : ListsAt w 0 A n L R) (hX : IntsAt w 0 C l X) :
    Calls Try.prog 13 #[.agg #[.int .i64 (k : Int), .slice A n c], .slice C l d] w fun e w' => ∃ A' c' q Z, e = .returned (.tuple #[.slice A' l c', .int .i64 (q : Nat), .int .i64 0]) ∧ IntsAt w' 0 A' l Z ∧ Iter n L R l X q Z ∧ nextI n L R l Z = -1 ∧ Below w.heap.size w w' :=
  (Flip_any (k : Int) A C n c l d L R X w hn (by omega) hI hX).mono fun e w' ⟨v, q, h1, h2, h3⟩ => by
    rw [he] at h1 h2
    rcases h2 with ⟨h4, -⟩ | ⟨-, Z, h4, h5, h6⟩
    · exact absurd rfl h4
    · obtain ⟨A', c', rfl, -, h7⟩ := h4.form
      exact ⟨A', c', q, Z, h1, h7.weak (Nat.zero_le _), h5, h6, h3⟩
theorem Encode_right (k : Nat) (A C : Option Addr) (n c d : Nat) (L : Nat → Nat) (R : Nat → Nat → Int) (B : Nat → Int) (w : World) (hn : n ≤ 9223372036854775807) (hk : k ≤ 1000) (hp : parErrI (k : Int) n L R = 0) (hb : bitsErrR k B = 0) (hI : ListsAt w 0 A n L R) (hX : IntsAt w 0 C k B) :
    Calls Try.prog 10 #[.agg #[.int .i64 (k : Int), .slice A n c], .slice C k d] w fun e w' => ∃ v, e = .returned (.tuple #[v, .int .i64 0]) ∧ OwnInts w' w.heap.size v (k + n) (encF k L R B n) ∧ Below w.heap.size w w' :=
  (EncodeParity_any (k : Int) A C n c k d L R B w hn (by omega) hI hX).mono fun e w' ⟨v, h1, h2, h3⟩ => by
    have he : encErrI (k : Int) n L R k B = 0 := threeE_zero.2 ⟨hp, hb, by simp⟩
    rw [he] at h1 h2
    rcases h2 with ⟨h4, -⟩ | ⟨-, h4⟩
    · exact absurd rfl h4
    · exact ⟨v, h1, h4, h3⟩
set_option maxHeartbeats 40000000 in
set_option maxRecDepth 100000 in
theorem codeFlips_walk (m : Int) (A C D : Option Addr) (n c k e l f : Nat) (L : Nat → Nat) (R : Nat → Nat → Int) (B X : Nat → Int) (w : World) (hn : n ≤ 9223372036854775807) (hk : k ≤ 9223372036854775807) (hl : l ≤ 9223372036854775807)
    (hI : ListsAt w 0 A n L R) (hJ : IntsAt w 0 C k B) (hX : IntsAt w 0 D l X) :
    Calls Try.prog 4 #[.agg #[.int .i64 m, .slice A n c], .slice C k e, .slice D l f] w fun r w' => r = .returned (.bool true) ∧ Below w.heap.size w w' := by
  have HI := hide hI
  have HJ := hide hJ
  have HX := hide hX
  clear hI hJ hX
  go_enter Try.func4, Try.ntmps4
  go_wp2_with fail
  refine (awake_any _).mono ?_
  rintro r w1 ⟨rfl, hb0⟩
  have bx1 : Box w1 w.heap.size 24 #[.int .i64 m, .slice A n c] := (Box.made rfl).below hb0
  have hB1 := below_of_alloc hb0
  clear hb0
  obtain ⟨z0, z1, hlz⟩ := par_cells bx1
  go_wp2_with fail
  refine (short_any m A n c L R _ hn (HI.out.below hB1)).mono ?_
  rintro r w2 ⟨rfl, hb2⟩
  have bx2 := bx1.below hb2
  have hB2 := hB1.trans (hb2.mono hB1.size)
  clear z0 z1 hlz bx1 hB1 hb2
  cases hs : shortB n L
  · go_wp2_with fail
    go_ret
    exact ⟨rfl, hB2⟩
  obtain ⟨hn22, hL10⟩ := shortB_iff.1 hs
  have HL10 := hide hL10
  clear hs hL10
  obtain ⟨z0, z1, hlz⟩ := par_cells bx2
  go_wp2_with fail
  refine (parityErr_any m A n c L R _ hn (HI.out.below hB2)).mono ?_
  rintro r w3 ⟨rfl, hb3⟩
  have bx3 := bx2.below hb3
  have hB3 := hB2.trans (hb3.mono hB2.size)
  clear z0 z1 hlz bx2 hB2 hb3
  by_cases hp : parErrI m n L R = 0
  rotate_left
  · have tp : (parErrI m n L R != 0) = true := by simpa using hp
    clear hp
    generalize parErrI m n L R = V at *
    go_wp2_with fail
    go_ret
    exact ⟨rfl, hB3⟩
  rw [hp]
  obtain ⟨hm1, hok⟩ := parOk_of hp
  obtain ⟨M, rfl⟩ := Int.eq_ofNat_of_zero_le (show 0 ≤ m by omega)
  rw [Int.toNat_natCast] at hok
  have hmost := hok.most
  have hn0 := hok.some_
  have HOK := hide hok
  have HP := hide hp
  clear hok hp hm1
  obtain ⟨z0, z1, hlz⟩ := par_cells bx3
  by_cases hkm : k = M
  rotate_left
  · have tk : ((k : Int) != (M : Int)) = true := by simp; omega
    clear hkm
    go_wp2_with fail
    go_ret
    exact ⟨rfl, hB3⟩
  subst hkm
  have tk : ((k : Int) != (k : Int)) = false := by simp
  go_wp2_with fail
  refine (bitsErrR_any C k e B _ hk (HJ.out.below hB3)).mono ?_
  rintro r w4 ⟨rfl, q4, rfl⟩
  have bx4 := bx3.drewN q4
  have hB4 := below_drewN hB3 q4
  clear z0 z1 hlz bx3 hB3
  generalize w3.drewN q4 = wd4 at *
  by_cases hbe : bitsErrR k B = 0
  rotate_left
  · have tb : (bitsErrR k B != 0) = true := by simpa using hbe
    clear hbe
    generalize bitsErrR k B = V at *
    go_wp2_with fail
    go_ret
    exact ⟨rfl, hB4⟩
  rw [hbe]
  have HBE := hide hbe
  have HBT := hide (bitsErrR_zero hbe).2.2
  have hk0 := (bitsErrR_zero hbe).1
  clear hbe tk
  obtain ⟨z0, z1, hlz⟩ := par_cells bx4
  have q5 : IntKind.i64.wrap ((k : Int) + (n : Int)) = (k : Int) + (n : Int) := IntWalk.i64_in _ (by omega)
  by_cases hlm : l = k + n
  rotate_left
  · have tl : ((l : Int) != (k : Int) + (n : Int)) = true := by simp; omega
    clear hlm
    go_wp2_with fail
    go_ret
    exact ⟨rfl, hB4⟩
  have tl : ((l : Int) != (k : Int) + (n : Int)) = false := by simp; omega
  by_cases hl50 : l ≤ 50
  rotate_left
  · have t50 : decide ((50 : Int) < (l : Int)) = true := decide_eq_true (by omega)
    have t50' : decide (50 < l) = true := decide_eq_true (by omega)
    clear hlm hl50
    go_wp2_with fail
    go_ret
    exact ⟨rfl, hB4⟩
  have t50 : decide ((50 : Int) < (l : Int)) = false := decide_eq_false (by omega)
  have t50' : decide (50 < l) = false := decide_eq_false (by omega)
  have HLM := hide hlm
  have hkl : k ≤ l := by omega
  clear hlm
  go_wp2_with fail
  refine (bitsErrR_any D l f X _ hl (HX.out.below hB4)).mono ?_
  rintro r w5 ⟨rfl, q6, rfl⟩
  clear tl t50 t50' q5
  have bx5 := bx4.drewN q6
  have hB5 := below_drewN hB4 q6
  clear z0 z1 hlz bx4 hB4
  generalize wd4.drewN q6 = wd5 at *
  by_cases hwe : bitsErrR l X = 0
  rotate_left
  · have tb : (bitsErrR l X != 0) = true := by simpa using hwe
    clear hwe
    generalize bitsErrR l X = V at *
    go_wp2_with fail
    go_ret
    exact ⟨rfl, hB5⟩
  rw [hwe]
  have HXB := hide (bitsErrR_zero hwe).2.2
  have hl0 := (bitsErrR_zero hwe).1
  clear hwe
  have HWE := hide (fun (Y : Nat → Int) (h : ∀ j, j < l → IsBit (Y j)) => wordErr_right HP.out HLM.out hl0 (by omega) h)
  obtain ⟨E, hE⟩ : ∃ E, E = encF k L R B n := ⟨_, rfl⟩
  have HEB := hide (show ∀ j, j < l → IsBit (E j) from fun j hj => by rw [hE]; exact encF_bit HBT.out n j (by have := HLM.out; omega))
  have HE0 := hide (show failN n L R E = 0 from pickN_none fun i hi => by rw [hE]; exact encF_right HOK.out i hi)
  have HEI := hide (show intsB k E k B = true from intsB_iff.2 ⟨rfl, fun j hj => by rw [hE]; exact encF_begin hj⟩)
  have HENC := hide (fun A' c' C' d' W h1 h2 => Encode_right k A' C' n c' d' L R B W hn (by omega) HP.out HBE.out h1 h2)
  rw [← hE, ← HLM.out] at HENC
  clear hE
  obtain ⟨z0, z1, hlz⟩ := par_cells bx5
  go_wp2_with fail
  refine (copyParity_any (k : Int) A n c L R _ (by omega) (fun i hi => by have := HL10.out i hi; omega) (HI.out.below hB5)).mono ?_
  rintro r w6 ⟨P6, p6, rfl, hp6, hq6, hI6_0, hb6⟩
  have bx6 := bx5.below hb6
  have hB6 := hB5.trans (hb6.mono hB5.size)
  clear z0 z1 hlz bx5 hB5 hb6
  obtain ⟨z0, z1, hlz⟩ := par_cells bx6
  go_wp2_with fail
  refine (copyInts_own C k e B _ (by omega) (HJ.out.below hB6)).mono ?_
  rintro r w7 ⟨v7, rfl, hown7_0, hb7⟩
  have bx7 := bx6.below hb7
  have hB7 := hB6.trans (hb7.mono hB6.size)
  have hI6_7 := hI6_0.below hb7
  clear z0 z1 hlz bx6 hB6 hI6_0 hb7
  obtain ⟨D7, d7, rfl, hd7, hD7_0⟩ := hown7_0.form
  have hD7_0 := hD7_0.weak (Nat.zero_le _)
  obtain ⟨z0, z1, hlz⟩ := par_cells bx7
  go_wp2_with fail
  refine (HENC.out _ _ _ _ _ (hI6_7.weak (Nat.zero_le _)) hD7_0).mono ?_
  rintro r w8 ⟨v8, rfl, hown8, hb8⟩
  obtain ⟨g8, cap8, rfl, hg8, hg8'⟩ := hown8.row hl0
  obtain ⟨hlc8, hcap8⟩ := hown8.cap_any
  obtain ⟨X8, x8, ex8, -, hE_0⟩ := hown8.form
  injection ex8 with ex8 _ ex9
  subst ex8
  subst ex9
  have hE_0 := hE_0.weak (Nat.zero_le _)
  clear hI6_7
  clear hown7_0
  clear hD7_0
  have bx8 := bx7.below hb8
  have hB8 := hB7.trans (hb8.mono hB7.size)
  clear z0 z1 hlz bx7 hB7 hb8
  clear hown8
  obtain ⟨z0, z1, hlz⟩ := par_cells bx8
  have hkc : (k : Int) ≤ (cap8 : Int) := by omega
  have hkc2 : k ≤ cap8 := by omega
  go_wp2_with fail
  refine (ints_b (some ⟨g8, 0, none⟩) C k k cap8 e E B _ (by omega) (by omega) (hE_0.fewer hkl) (HJ.out.below hB8)).mono ?_
  rintro r w9 ⟨rfl, hb9⟩
  rw [HEI.out]
  have bx9 := bx8.below hb9
  have hB9 := hB8.trans (hb9.mono hB8.size)
  have hE_9 := hE_0.below hb9
  clear z0 z1 hlz bx8 hB8 hE_0 hb9
  obtain ⟨z0, z1, hlz⟩ := par_cells bx9
  go_wp2_with fail
  refine (copyParity_any (k : Int) A n c L R _ (by omega) (fun i hi => by have := HL10.out i hi; omega) (HI.out.below hB9)).mono ?_
  rintro r w10 ⟨P10, p10, rfl, hp10, hq10, hI10_0, hb10⟩
  have bx10 := bx9.below hb10
  have hB10 := hB9.trans (hb10.mono hB9.size)
  have hE_10 := hE_9.below hb10
  clear z0 z1 hlz bx9 hB9 hE_9 hb10
  obtain ⟨z0, z1, hlz⟩ := par_cells bx10
  go_wp2_with fail
  refine (Failed_right k _ _ n _ l _ L R E _ hn (HWE.out E HEB.out) (by omega) (hI10_0.weak (Nat.zero_le _)) hE_10).mono ?_
  rintro r w11 ⟨A11, c11, rfl, -, hb11⟩
  rw [HE0.out]
  clear hI10_0
  clear hE_10
  have bx11 := bx10.below hb11
  have hB11 := hB10.trans (hb11.mono hB10.size)
  clear z0 z1 hlz bx10 hB10 hb11
  obtain ⟨z0, z1, hlz⟩ := par_cells bx11
  go_wp2_with fail
  refine (copyParity_any (k : Int) A n c L R _ (by omega) (fun i hi => by have := HL10.out i hi; omega) (HI.out.below hB11)).mono ?_
  rintro r w12 ⟨P12, p12, rfl, hp12, hq12, hI12_0, hb12⟩
  have bx12 := bx11.below hb12
  have hB12 := hB11.trans (hb12.mono hB11.size)
  clear z0 z1 hlz bx11 hB11 hb12
  obtain ⟨z0, z1, hlz⟩ := par_cells bx12
  go_wp2_with fail
  refine (copyInts_own D l f X _ (by omega) (HX.out.below hB12)).mono ?_
  rintro r w13 ⟨v13, rfl, hown13_0, hb13⟩
  have bx13 := bx12.below hb13
  have hB13 := hB12.trans (hb13.mono hB12.size)
  have hI12_13 := hI12_0.below hb13
  clear z0 z1 hlz bx12 hB12 hI12_0 hb13
  obtain ⟨D13, d13, rfl, hd13, hD13_0⟩ := hown13_0.form
  have hD13_0 := hD13_0.weak (Nat.zero_le _)
  obtain ⟨z0, z1, hlz⟩ := par_cells bx13
  go_wp2_with fail
  refine (Failed_right k _ _ n _ l _ L R X _ hn (HWE.out X HXB.out) (by omega) (hI12_13.weak (Nat.zero_le _)) hD13_0).mono ?_
  rintro r w14 ⟨A14, c14, rfl, -, hb14⟩
  clear hI12_13
  clear hown13_0
  clear hD13_0
  have bx14 := bx13.below hb14
  have hB14 := hB13.trans (hb14.mono hB13.size)
  clear z0 z1 hlz bx13 hB13 hb14
  obtain ⟨z0, z1, hlz⟩ := par_cells bx14
  go_wp2_with fail
  refine (copyParity_any (k : Int) A n c L R _ (by omega) (fun i hi => by have := HL10.out i hi; omega) (HI.out.below hB14)).mono ?_
  rintro r w15 ⟨P15, p15, rfl, hp15, hq15, hI15_0, hb15⟩
  have bx15 := bx14.below hb15
  have hB15 := hB14.trans (hb15.mono hB14.size)
  clear z0 z1 hlz bx14 hB14 hb15
  obtain ⟨z0, z1, hlz⟩ := par_cells bx15
  go_wp2_with fail
  refine (copyInts_own D l f X _ (by omega) (HX.out.below hB15)).mono ?_
  rintro r w16 ⟨v16, rfl, hown16_0, hb16⟩
  have bx16 := bx15.below hb16
  have hB16 := hB15.trans (hb16.mono hB15.size)
  have hI15_16 := hI15_0.below hb16
  clear z0 z1 hlz bx15 hB15 hI15_0 hb16
  obtain ⟨D16, d16, rfl, hd16, hD16_0⟩ := hown16_0.form
  have hD16_0 := hD16_0.weak (Nat.zero_le _)
  obtain ⟨z0, z1, hlz⟩ := par_cells bx16
  go_wp2_with fail
  refine (Flip_right k _ _ n _ l _ L R X _ hn (HWE.out X HXB.out) (by omega) (hI15_16.weak (Nat.zero_le _)) hD16_0).mono ?_
  rintro r w17 ⟨Z17, c17, nf, Z, rfl, hZ_0, hit, hnx, hb17⟩
  clear hI15_16
  clear hown16_0
  clear hD16_0
  have bx17 := bx16.below hb17
  have hB17 := hB16.trans (hb17.mono hB16.size)
  clear z0 z1 hlz bx16 hB16 hb17
  have HZB := hide (hit.bits (M := l) HXB.out)
  have hfew := hit.fewer
  have hf9 := failN_le n L R X
  have HMIN := hide (show ∀ j, j < l → failN n L R Z ≤ failN n L R (flipF Z j) from (nextI_spec (n := n) (L := L) (R := R) l Z).elim (fun h => h.2) (fun ⟨i, _, h, _⟩ => absurd (hnx.symm.trans h) (by omega)))
  clear hit hnx
  generalize failN n L R X = fx at *
  have tBB := bitsB_iff.2 HZB.out
  obtain ⟨z0, z1, hlz⟩ := par_cells bx17
  go_wp2_with fail
  refine (areBitsB_any Z17 l c17 Z _ (by omega) hZ_0).mono ?_
  rintro r w18 ⟨rfl, q18, rfl⟩
  rw [tBB]
  clear tBB
  have bx18 := bx17.drewN q18
  have hB18 := below_drewN hB17 q18
  have hZ_18 := hZ_0.drewN q18
  clear z0 z1 hlz bx17 hB17 hZ_0
  generalize w17.drewN q18 = wd18 at *
  obtain ⟨z0, z1, hlz⟩ := par_cells bx18
  go_wp2_with fail
  refine (copyParity_any (k : Int) A n c L R _ (by omega) (fun i hi => by have := HL10.out i hi; omega) (HI.out.below hB18)).mono ?_
  rintro r w19 ⟨P19, p19, rfl, hp19, hq19, hI19_0, hb19⟩
  have bx19 := bx18.below hb19
  have hB19 := hB18.trans (hb19.mono hB18.size)
  have hZ_19 := hZ_18.below hb19
  clear z0 z1 hlz bx18 hB18 hZ_18 hb19
  obtain ⟨z0, z1, hlz⟩ := par_cells bx19
  go_wp2_with fail
  refine (copyInts_own Z17 l c17 Z _ (by omega) (hZ_19)).mono ?_
  rintro r w20 ⟨v20, rfl, hown20_0, hb20⟩
  have bx20 := bx19.below hb20
  have hB20 := hB19.trans (hb20.mono hB19.size)
  have hZ_20 := hZ_19.below hb20
  have hI19_20 := hI19_0.below hb20
  clear z0 z1 hlz bx19 hB19 hZ_19 hI19_0 hb20
  obtain ⟨D20, d20, rfl, hd20, hD20_0⟩ := hown20_0.form
  have hD20_0 := hD20_0.weak (Nat.zero_le _)
  obtain ⟨z0, z1, hlz⟩ := par_cells bx20
  go_wp2_with fail
  refine (Failed_right k _ _ n _ l _ L R Z _ hn (HWE.out Z HZB.out) (by omega) (hI19_20.weak (Nat.zero_le _)) hD20_0).mono ?_
  rintro r w21 ⟨A21, c21, rfl, -, hb21⟩
  clear hI19_20
  clear hown20_0
  clear hD20_0
  have bx21 := bx20.below hb21
  have hB21 := hB20.trans (hb21.mono hB20.size)
  have hZ_21 := hZ_20.below hb21
  clear z0 z1 hlz bx20 hB20 hZ_20 hb21
  generalize hfz : failN n L R Z = fz at *
  have q22 : IntKind.i64.wrap ((fx : Int) - (fz : Int)) = (fx : Int) - (fz : Int) := IntWalk.i64_in _ (by omega)
  have tW : withinB (nf : Int) 0 ((fx : Int) - (fz : Int)) = true := withinB_yes (by omega)
  go_wp2_with fail
  refine (within_any _ _ _ _).mono ?_
  rintro r w22 ⟨rfl, rfl⟩
  rw [tW]
  clear tW q22
  go_wp2_with fail
  go_loopw [18] (fun i wr => ∃ j : Nat, j ≤ l ∧ i = .int .i64 (j : Int) ∧ Box wr w.heap.size 24 #[.int .i64 (k : Int), .slice A n c] ∧ IntsAt wr 0 Z17 l Z ∧ Below w.heap.size w wr) (fun i _ => l - (intOf i).toNat)
  case atStart => exact ⟨0, Nat.zero_le _, rfl, bx21, hZ_21, hB21⟩
  case round =>
    clear bx21 hB21 hZ_21
    obtain ⟨j, hj, rfl, bxl, hZ_0, hBl⟩ := hrel
    obtain ⟨wL, rfl⟩ : ∃ x : World, x = wr := ⟨_, rfl⟩
    by_cases hlt : j < l
    rotate_left
    · obtain rfl : j = l := by omega
      go_wp2_with fail
      go_ret
      exact ⟨rfl, hBl⟩
    have hltz : (j : Int) < (l : Int) := by omega
    have hlw := bxl.lt
    have HZL := hide hZ_0
    obtain ⟨z0, z1, hlz⟩ := par_cells bxl
    go_wp2_with fail
    refine (copyInts_own Z17 l c17 Z _ (by omega) (hZ_0)).mono ?_
    rintro r w23 ⟨v23, rfl, hown23_0, hb23⟩
    have hbL := hb23
    have bx22 := bxl.below hb23
    have hB22 := hBl.trans (hb23.mono hBl.size)
    have hZ_22 := hZ_0.below hb23
    clear z0 z1 hlz bxl hBl hZ_0 hb23
    obtain ⟨D23, d23, rfl, hd23, hD23_0⟩ := hown23_0.form
    have hD23_0 := hD23_0.weak (Nat.zero_le _)
    obtain ⟨g23, cap23, e23, hg23, hg23'⟩ := hown23_0.row hl0
    injection e23 with e23 _ e24
    subst e23
    subst e24
    have hc := hown23_0.cellAt hlt
    have hf := hown23_0.frozen j
    have hzb := (HZB.out j hlt).le
    have q24 : IntKind.i64.wrap (1 - Z j) = 1 - Z j := IntWalk.i64_in _ (by omega)
    skip
    obtain ⟨wM, hwM⟩ : ∃ x : World, x = w23.setCell ⟨g23, j, none⟩ (.int .i64 (1 - Z j)) := ⟨_, rfl⟩
    have hY : IntsAt wM 0 (some ⟨g23, 0, none⟩) l (flipF Z j) := by
      rw [hwM]
      obtain ⟨Y1, y1, e25, -, hY1⟩ := (hown23_0.set_ j (1 - Z j)).form
      injection e25 with e25 _ e26
      subst e25
      exact hY1.weak (Nat.zero_le _)
    have bxM : Box wM w.heap.size 24 #[.int .i64 (k : Int), .slice A n c] := by rw [hwM]; exact bx22.other (by simp; omega) _
    have hBM : Below w.heap.size w wM := by rw [hwM]; exact hB22.setCell (by simp; omega) _
    have hZM : IntsAt wM 0 Z17 l Z := by
      rw [hwM]
      exact HZL.out.below (hbL.setCell (by simp; omega) _)
    skip
    have HFJ := hide (HMIN j hlt)
    have HYB := hide (flipF_bit HZB.out j)
    clear hbL HZL hZ_22 hown23_0 hD23_0
    go_upto_region 21 with fail
    rw [← hwM]
    clear hwM
    have hY_0 := hY
    have hZM_0 := hZM
    clear hY hZM
    obtain ⟨z0, z1, hlz⟩ := par_cells bxM
    go_wp2_with fail
    refine (copyParity_any (k : Int) A n c L R _ (by omega) (fun i hi => by have := HL10.out i hi; omega) (HI.out.below hBM)).mono ?_
    rintro r w25 ⟨P25, p25, rfl, hp25, hq25, hI25_0, hb25⟩
    have bx23 := bxM.below hb25
    have hB23 := hBM.trans (hb25.mono hBM.size)
    have hY_23 := hY_0.below hb25
    have hZM_23 := hZM_0.below hb25
    clear z0 z1 hlz bxM hBM hY_0 hZM_0 hb25
    obtain ⟨z0, z1, hlz⟩ := par_cells bx23
    go_wp2_with fail
    refine (Failed_right k _ _ n _ l _ L R (flipF Z j) _ hn (HWE.out _ HYB.out) (by omega) (hI25_0.weak (Nat.zero_le _)) hY_23).mono ?_
    rintro r w26 ⟨A26, c26, rfl, -, hb26⟩
    clear hI25_0
    clear hY_23
    have bx24 := bx23.below hb26
    have hB24 := hB23.trans (hb26.mono hB23.size)
    have hZM_24 := hZM_23.below hb26
    clear z0 z1 hlz bx23 hB23 hZM_23 hb26
    obtain ⟨fj, hfj⟩ : ∃ fj, fj = failN n L R (flipF Z j) := ⟨_, rfl⟩
    rw [← hfj]
    have hle : fz ≤ fj := by rw [hfj]; exact HFJ.out
    have tF : decide ((fj : Int) < (fz : Int)) = false := decide_eq_false (by omega)
    have tF' : decide (fj < fz) = false := decide_eq_false (by omega)
    clear hfj
    go_wp2_with fail
    go_roundw
    case rel => exact ⟨j + 1, by omega, by go_num, bx24, hZM_24, hB24⟩
    case measure => simp [intOf]; omega
end Go.Proofs.Ytdkoohfcpikgiaa
