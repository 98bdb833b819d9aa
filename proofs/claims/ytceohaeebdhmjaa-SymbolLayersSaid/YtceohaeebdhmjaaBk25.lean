/- Lemmas: S76. -/
import Derived.Test.YtceohaeebdhmjaaBk21
import Derived.Test.YtceohaeebdhmjaaBk23
import Derived.Test.YtceohaeebdhmjaaBk24
set_option linter.unusedVariables false
set_option linter.unusedSimpArgs false
/- The walk of SymbolMatrices. -/
namespace Go.Proofs.Ytceohaeebdhmjaa
open Go Go.RowKit Go.Lib Ieee
theorem same_got {w : World} {A C : Option Addr} {N c d q : Nat} {F : Nat → Nat → Gau} (hN : N ≤ 100000) (hq : q ≤ 100000) (h1 : MatsAt w 0 A N (fun _ => q) F) (h2 : MatsAt w 0 C N (fun _ => q) F) :
    Calls Try.prog 20 #[.slice A N c, .slice C N d] w fun e w' => e = .returned (.bool true) ∧ Below w.heap.size w w' := by
  have h := sameAll_any A C N N c d (fun _ => q) (fun _ => q) F F w hN hN (fun _ _ => hq) (fun _ _ => hq) h1 h2
  rw [matsB_iff.2 ⟨rfl, fun _ _ => ⟨rfl, fun _ _ => rfl⟩⟩] at h
  exact h.mono fun e w' ⟨h1, q, h2⟩ => ⟨h1, by rw [h2]; exact Go.below_drewN (Below.refl _ _) _⟩
theorem same_nil (A C : Option Addr) (c d : Nat) (w : World) : Calls Try.prog 20 #[.slice A 0 c, .slice C 0 d] w fun e w' => e = .returned (.bool true) ∧ Below w.heap.size w w' := same_got (q := 0) (F := fun _ _ => Gau.zero) (by decide) (by decide) MatsAt.nil_ MatsAt.nil_
theorem orS_left {a b : Int} (h : a ≠ 0) : orS a b = a := if_neg h
theorem orS_right {b : Int} : orS 0 b = b := if_pos rfl
set_option maxHeartbeats 32000000 in
set_option maxRecDepth 100000 in
theorem symbolMatrices_walk (A B C : Option Addr) (n k m ca cb cc : Nat) (L K M : Nat → Nat) (X Y Z : Nat → Nat → Gau) (w : World) (hA : MatsAt w 0 A n L X) (hB : MatsAt w 0 B k K Y) (hC : MatsAt w 0 C m M Z) :
    Calls Try.prog 4 #[.slice A n ca, .slice B k cb, .slice C m cc] w fun e w' => e = .returned (.bool true) ∧ Below w.heap.size w w' := by
  have HAA := hide hA
  have HBB := hide hB
  have HCC := hide hC
  have HSA := hide (fun W h => smallS_any A n ca L X W h)
  have HSB := hide (fun W h => smallS_any B k cb K Y W h)
  have HSC := hide (fun W h => smallS_any C m cc M Z W h)
  have HB := hide (Below.refl w.heap.size w)
  clear hA hB hC
  go_enter Try.func4, Try.ntmps4
  go_wp2_with fail
  refine (awakeS_any _).mono ?_
  rintro e_ v1 ⟨rfl, hb1⟩
  replace HAA := hide (HAA.out.below hb1)
  replace HBB := hide (HBB.out.below hb1)
  replace HCC := hide (HCC.out.below hb1)
  replace HB := hide (HB.out.trans (hb1.mono HB.out.size))
  clear hb1
  go_wp2_with fail
  by_cases sa : smallB n L = true
  case neg =>
    rw [Bool.not_eq_true] at sa
    simp only [sa] at HSA
    refine (HSA.out _ HAA.out).mono ?_
    rintro e_ v_ ⟨rfl, rfl⟩
    go_wp2_with fail
    go_ret
    exact ⟨rfl, HB.out⟩
  simp only [sa] at HSA
  refine (HSA.out _ HAA.out).mono ?_
  rintro e_ v_ ⟨rfl, rfl⟩
  go_wp2_with fail
  clear HSA
  obtain ⟨sa1, sa2⟩ := smallB_iff.1 sa
  by_cases sb : smallB k K = true
  case neg =>
    rw [Bool.not_eq_true] at sb
    simp only [sb] at HSB
    refine (HSB.out _ HBB.out).mono ?_
    rintro e_ v_ ⟨rfl, rfl⟩
    go_wp2_with fail
    go_ret
    exact ⟨rfl, HB.out⟩
  simp only [sb] at HSB
  refine (HSB.out _ HBB.out).mono ?_
  rintro e_ v_ ⟨rfl, rfl⟩
  go_wp2_with fail
  clear HSB
  obtain ⟨sb1, sb2⟩ := smallB_iff.1 sb
  by_cases sc : smallB m M = true
  case neg =>
    rw [Bool.not_eq_true] at sc
    simp only [sc] at HSC
    refine (HSC.out _ HCC.out).mono ?_
    rintro e_ v_ ⟨rfl, rfl⟩
    go_wp2_with fail
    go_ret
    exact ⟨rfl, HB.out⟩
  simp only [sc] at HSC
  refine (HSC.out _ HCC.out).mono ?_
  rintro e_ v_ ⟨rfl, rfl⟩
  go_wp2_with fail
  clear HSC
  obtain ⟨sc1, sc2⟩ := smallB_iff.1 sc
  have hL : ∀ i, i < n → L i ≤ 100000 := fun i hi => by have := sa2 i hi; omega
  have hK : ∀ i, i < k → K i ≤ 100000 := fun i hi => by have := sb2 i hi; omega
  have hM : ∀ i, i < m → M i ≤ 100000 := fun i hi => by have := sc2 i hi; omega
  have HCA := hide (fun W h => copyAll_any A n ca L X W (by omega) hL h)
  have HCB := hide (fun W h => copyAll_any B k cb K Y W (by omega) hK h)
  have HCC2 := hide (fun W h => copyAll_any C m cc M Z W (by omega) hM h)
  have HCM := hide (fun A c W h => CheckMatrix_any A n c L X W (by omega) hL h)
  have HAP := hide (fun A C c d W h h2 => AppliedC_any A C n m c d L M X Z W (by omega) (by omega) hL hM h h2)
  have HPR := hide (fun A C c d W h h2 => ProductC_any A C n k c d L K X Y W (by omega) (by omega) hL hK h h2)
  have HDT := hide (fun A c W h => Determinant_any A n c L X W (by omega) hL h)
  have HRC := hide (fun W h => CheckMatrixR_any A n ca L X W (by omega) hL h)
  have HRB := hide (fun W h => CheckMatrixR_any B k cb K Y W (by omega) hK h)
  have HRL := hide (fun W h => LayersErrR_any C m cc M Z W (by omega) hM h)
  have HRD := hide (fun W (h0 : matE n L X = 0) h => DeterminantR_any A n ca L X W h0 h)
  have HRA := hide (fun W (h0 : matE n L X = 0) (h1 : laysE m M Z = 0) h h2 => AppliedR_any A C n m ca cc L M X Z W h0 h1 h h2)
  have HRP := hide (fun W (h0 : matE n L X = 0) (h1 : matE k K Y = 0) h h2 => ProductR_any A B n k ca cb L K X Y W h0 h1 h h2)
  have HLQ := hide (fun h1 : laysE m M Z = 0 => (laysE_zero h1).q9)
  have HKQ := hide (fun h1 : matE k K Y = 0 => (matE_zero h1).m4)
  have HAE := hide (show appE n L X m M Z = if orS (matE n L X) (laysE m M Z) = 0 then lpE 100000000 n (L 0) m (M 0) X Z else orS (matE n L X) (laysE m M Z) from rfl)
  have HPE := hide (show prdE n L X k K Y = if orS (matE n L X) (matE k K Y) = 0 then lpE 1000 n (L 0) k (K 0) X Y else orS (matE n L X) (matE k K Y) from rfl)
  have HDE := hide (fun h : matE n L X ≠ 0 => (show detE n L X = matE n L X from if_neg h))
  have HDV := hide (fun h : detE n L X ≠ 0 => (show detV n L X = Gau.zero from if_neg h))
  obtain ⟨eA, heA⟩ : ∃ z, matE n L X = z := ⟨_, rfl⟩
  simp only [heA] at HCM HRC HRD HRA HRP HAE HPE HDE
  clear heA
  obtain ⟨eC, heC⟩ : ∃ z, laysE m M Z = z := ⟨_, rfl⟩
  simp only [heC] at HRL HRA HLQ HAE
  clear heC
  obtain ⟨eB, heB⟩ : ∃ z, matE k K Y = z := ⟨_, rfl⟩
  simp only [heB] at HRB HRP HKQ HPE
  clear heB
  obtain ⟨eX, heX⟩ : ∃ z, appE n L X m M Z = z := ⟨_, rfl⟩
  simp only [heX] at HAP HAE
  clear heX
  obtain ⟨eP, heP⟩ : ∃ z, prdE n L X k K Y = z := ⟨_, rfl⟩
  simp only [heP] at HPR HPE
  clear heP
  obtain ⟨l1, hl1⟩ : ∃ z, lpE 100000000 n (L 0) m (M 0) X Z = z := ⟨_, rfl⟩
  simp only [hl1] at HAE HRA
  clear hl1
  obtain ⟨l2, hl2⟩ : ∃ z, lpE 1000 n (L 0) k (K 0) X Y = z := ⟨_, rfl⟩
  simp only [hl2] at HPE HRP
  clear hl2
  obtain ⟨eD, heD⟩ : ∃ z, detE n L X = z := ⟨_, rfl⟩
  simp only [heD] at HDT HRD HDE HDV
  clear heD
  obtain ⟨D, hD⟩ : ∃ z, detV n L X = z := ⟨_, rfl⟩
  simp only [hD] at HDT HRD HDV
  clear hD
  obtain ⟨F1, hF1⟩ : ∃ z, (fun r c => gsum X Z r c (L 0)) = z := ⟨_, rfl⟩
  simp only [hF1] at HAP HRA
  clear hF1
  obtain ⟨F2, hF2⟩ : ∃ z, (fun r c => gsum X Y r c (L 0)) = z := ⟨_, rfl⟩
  simp only [hF2] at HPR HRP
  clear hF2
  obtain ⟨q1, hq1⟩ : ∃ z, M 0 = z := ⟨_, rfl⟩
  simp only [hq1] at HAP HRA HLQ
  clear hq1
  obtain ⟨q2, hq2⟩ : ∃ z, K 0 = z := ⟨_, rfl⟩
  simp only [hq2] at HPR HRP HKQ
  clear hq2
  have hn5 := sa1
  clear sa sb sc sa2 sb2 sc2 hL hK hM
  refine (HCA.out _ HAA.out).mono ?_
  rintro e_ v2 ⟨y1, rfl, ho1, hb2⟩
  obtain ⟨A1, c1, rfl, -, -, hm1⟩ := ho1.form
  replace HAA := hide (HAA.out.below hb2)
  replace HBB := hide (HBB.out.below hb2)
  replace HCC := hide (HCC.out.below hb2)
  replace HB := hide (HB.out.trans (hb2.mono HB.out.size))
  clear hb2
  have HM1 := hide (hm1.weak (Nat.zero_le _))
  clear hm1 ho1
  go_wp2_with fail
  refine (HCM.out A1 c1 _ HM1.out).mono ?_
  rintro e_ v3 ⟨rfl, hb3⟩
  replace HAA := hide (HAA.out.below hb3)
  replace HBB := hide (HBB.out.below hb3)
  replace HCC := hide (HCC.out.below hb3)
  replace HM1 := hide (HM1.out.below hb3)
  replace HB := hide (HB.out.trans (hb3.mono HB.out.size))
  clear hb3
  go_wp2_with fail
  clear HM1
  clear HCM
  refine (HCA.out _ HAA.out).mono ?_
  rintro e_ v4 ⟨y2, rfl, ho2, hb4⟩
  obtain ⟨A2, c2, rfl, -, -, hm2⟩ := ho2.form
  replace HAA := hide (HAA.out.below hb4)
  replace HBB := hide (HBB.out.below hb4)
  replace HCC := hide (HCC.out.below hb4)
  replace HB := hide (HB.out.trans (hb4.mono HB.out.size))
  clear hb4
  have HM2 := hide (hm2.weak (Nat.zero_le _))
  clear hm2 ho2
  go_wp2_with fail
  refine (HCC2.out _ HCC.out).mono ?_
  rintro e_ v5 ⟨y3, rfl, ho3, hb5⟩
  obtain ⟨A3, c3, rfl, -, -, hm3⟩ := ho3.form
  replace HAA := hide (HAA.out.below hb5)
  replace HBB := hide (HBB.out.below hb5)
  replace HCC := hide (HCC.out.below hb5)
  replace HM2 := hide (HM2.out.below hb5)
  replace HB := hide (HB.out.trans (hb5.mono HB.out.size))
  clear hb5
  have HM3 := hide (hm3.weak (Nat.zero_le _))
  clear hm3 ho3
  go_wp2_with fail
  refine (HAP.out A2 A3 c2 c3 _ HM2.out HM3.out).mono ?_
  rintro e_ v6 ⟨yx, rfl, ⟨Ax, Nx, cx, rfl, hNx, hmx⟩, hb6⟩
  replace HAA := hide (HAA.out.below hb6)
  replace HBB := hide (HBB.out.below hb6)
  replace HCC := hide (HCC.out.below hb6)
  replace HM2 := hide (HM2.out.below hb6)
  replace HM3 := hide (HM3.out.below hb6)
  replace HB := hide (HB.out.trans (hb6.mono HB.out.size))
  clear hb6
  have HNx := hide hNx
  have HMx := hide hmx
  clear hNx hmx
  clear HM2 HM3
  go_wp2_with fail
  clear HAP HCC2
  refine (HCA.out _ HAA.out).mono ?_
  rintro e_ v7 ⟨y4, rfl, ho4, hb7⟩
  obtain ⟨A4, c4, rfl, -, -, hm4⟩ := ho4.form
  replace HAA := hide (HAA.out.below hb7)
  replace HBB := hide (HBB.out.below hb7)
  replace HCC := hide (HCC.out.below hb7)
  replace HMx := hide (HMx.out.below hb7)
  replace HB := hide (HB.out.trans (hb7.mono HB.out.size))
  clear hb7
  have HM4 := hide (hm4.weak (Nat.zero_le _))
  clear hm4 ho4
  go_wp2_with fail
  refine (HCB.out _ HBB.out).mono ?_
  rintro e_ v8 ⟨y5, rfl, ho5, hb8⟩
  obtain ⟨A5, c5, rfl, -, -, hm5⟩ := ho5.form
  replace HAA := hide (HAA.out.below hb8)
  replace HBB := hide (HBB.out.below hb8)
  replace HCC := hide (HCC.out.below hb8)
  replace HMx := hide (HMx.out.below hb8)
  replace HM4 := hide (HM4.out.below hb8)
  replace HB := hide (HB.out.trans (hb8.mono HB.out.size))
  clear hb8
  have HM5 := hide (hm5.weak (Nat.zero_le _))
  clear hm5 ho5
  go_wp2_with fail
  refine (HPR.out A4 A5 c4 c5 _ HM4.out HM5.out).mono ?_
  rintro e_ v9 ⟨yp, rfl, ⟨Ap, Np, cp, rfl, hNp, hmp⟩, hb9⟩
  replace HAA := hide (HAA.out.below hb9)
  replace HBB := hide (HBB.out.below hb9)
  replace HCC := hide (HCC.out.below hb9)
  replace HMx := hide (HMx.out.below hb9)
  replace HM4 := hide (HM4.out.below hb9)
  replace HM5 := hide (HM5.out.below hb9)
  replace HB := hide (HB.out.trans (hb9.mono HB.out.size))
  clear hb9
  have HNp := hide hNp
  have HMp := hide hmp
  clear hNp hmp
  clear HM4 HM5
  go_wp2_with fail
  clear HPR HCB
  refine (HCA.out _ HAA.out).mono ?_
  rintro e_ v10 ⟨y6, rfl, ho6, hb10⟩
  obtain ⟨A6, c6, rfl, -, -, hm6⟩ := ho6.form
  replace HAA := hide (HAA.out.below hb10)
  replace HBB := hide (HBB.out.below hb10)
  replace HCC := hide (HCC.out.below hb10)
  replace HMx := hide (HMx.out.below hb10)
  replace HMp := hide (HMp.out.below hb10)
  replace HB := hide (HB.out.trans (hb10.mono HB.out.size))
  clear hb10
  have HM6 := hide (hm6.weak (Nat.zero_le _))
  clear hm6 ho6
  go_wp2_with fail
  clear HCA
  refine (HDT.out A6 c6 _ HM6.out).mono ?_
  rintro e_ v11 ⟨rfl, hb11⟩
  replace HAA := hide (HAA.out.below hb11)
  replace HBB := hide (HBB.out.below hb11)
  replace HCC := hide (HCC.out.below hb11)
  replace HMx := hide (HMx.out.below hb11)
  replace HMp := hide (HMp.out.below hb11)
  replace HM6 := hide (HM6.out.below hb11)
  replace HB := hide (HB.out.trans (hb11.mono HB.out.size))
  clear hb11
  clear HM6
  clear HDT
  obtain ⟨dr, hdr⟩ : ∃ z, D.re = z := ⟨_, rfl⟩
  obtain ⟨di, hdi⟩ : ∃ z, D.im = z := ⟨_, rfl⟩
  simp only [hdr, hdi] at HRD
  try simp only [hdr, hdi]
  have HDZ := hide (fun h : eD ≠ 0 => (show dr = 0 ∧ di = 0 by rw [← hdr, ← hdi, HDV.out h]; exact ⟨rfl, rfl⟩))
  clear hdr hdi HDV
  go_upto_region 9 with fail
  obtain ⟨v12, hv12⟩ : ∃ z : World, z = (v11.alloc (.cells #[.int .i64 dr, .int .i64 di] 43)) := ⟨_, rfl⟩
  try rw [← hv12]
  have HDX := hide (show Box v12 (v11.heap.size) 43 #[.int .i64 dr, .int .i64 di] by rw [hv12]; exact Box.made rfl)
  have hb12 : Below v11.heap.size v11 v12 := by rw [hv12]; (repeat (first | (with_reducible exact Below.refl _ _) | (with_reducible refine Go.below_drewN ?_ _) | (with_reducible refine Below.drew ?_) | (with_reducible refine Below.alloc ?_ (by first | exact Nat.le_refl _ | (simp; done) | (simp; omega) | omega) _) | (with_reducible refine Below.setCell ?_ (by first | exact Nat.le_refl _ | (simp; done) | (simp; omega) | omega) _)))
  clear hv12
  replace HAA := hide (HAA.out.below hb12)
  replace HBB := hide (HBB.out.below hb12)
  replace HCC := hide (HCC.out.below hb12)
  replace HMx := hide (HMx.out.below hb12)
  replace HMp := hide (HMp.out.below hb12)
  replace HB := hide (HB.out.trans (hb12.mono HB.out.size))
  clear hb12
  obtain ⟨b12, eb12⟩ : ∃ z, v11.heap.size = z := ⟨_, rfl⟩
  simp only [eb12] at HDX
  try simp only [eb12]
  clear eb12
  go_wp2_with fail
  refine (HRC.out _ HAA.out).mono ?_
  rintro e_ v13 ⟨rfl, hb13⟩
  replace HAA := hide (HAA.out.below hb13)
  replace HBB := hide (HBB.out.below hb13)
  replace HCC := hide (HCC.out.below hb13)
  replace HMx := hide (HMx.out.below hb13)
  replace HMp := hide (HMp.out.below hb13)
  replace HDX := hide (HDX.out.below hb13)
  replace HB := hide (HB.out.trans (hb13.mono HB.out.size))
  clear hb13
  clear HRC
  by_cases hz : eA = 0
  case neg =>
    have h1 : eD = eA := HDE.out hz
    obtain ⟨d1, d2⟩ := HDZ.out (by rw [h1]; exact hz)
    have h2 : eX = eA := by rw [HAE.out, orS_left hz, if_neg hz]
    have h3 : eP = eA := by rw [HPE.out, orS_left hz, if_neg hz]
    subst h1
    subst h2
    subst h3
    subst d1
    subst d2
    have hx0 : Nx = 0 := HNx.out.trans (if_neg hz)
    have hp0 : Np = 0 := HNp.out.trans (if_neg hz)
    subst hx0
    subst hp0
    have tz : (eP != 0) = true := by simpa using hz
    have te : (eP != eP) = false := by simp
    clear HAE HPE HDE HDZ HNx HNp HRD HRA HRP HRL HRB HLQ HKQ hz
    obtain ⟨z0, z1⟩ := pairS_cells HDX.out
    go_wp2_with fail
    go_ret
    exact ⟨rfl, HB.out⟩
  subst hz
  have t0 : ((0 : Int) != 0) = false := by decide
  rw [orS_right] at HAE HPE
  go_wp2_with fail
  refine (HRD.out _ (by trivial) HAA.out).mono ?_
  rintro e_ v14 ⟨rfl, hb14⟩
  replace HAA := hide (HAA.out.below hb14)
  replace HBB := hide (HBB.out.below hb14)
  replace HCC := hide (HCC.out.below hb14)
  replace HMx := hide (HMx.out.below hb14)
  replace HMp := hide (HMp.out.below hb14)
  replace HDX := hide (HDX.out.below hb14)
  replace HB := hide (HB.out.trans (hb14.mono HB.out.size))
  clear hb14
  clear HRD HDE HDZ
  go_upto_region 15 with fail
  obtain ⟨v15, hv15⟩ : ∃ z : World, z = (v14.alloc (.cells #[.int .i64 dr, .int .i64 di] 43)) := ⟨_, rfl⟩
  try rw [← hv15]
  have HDY := hide (show Box v15 (v14.heap.size) 43 #[.int .i64 dr, .int .i64 di] by rw [hv15]; exact Box.made rfl)
  have hb15 : Below v14.heap.size v14 v15 := by rw [hv15]; (repeat (first | (with_reducible exact Below.refl _ _) | (with_reducible refine Go.below_drewN ?_ _) | (with_reducible refine Below.drew ?_) | (with_reducible refine Below.alloc ?_ (by first | exact Nat.le_refl _ | (simp; done) | (simp; omega) | omega) _) | (with_reducible refine Below.setCell ?_ (by first | exact Nat.le_refl _ | (simp; done) | (simp; omega) | omega) _)))
  clear hv15
  replace HAA := hide (HAA.out.below hb15)
  replace HBB := hide (HBB.out.below hb15)
  replace HCC := hide (HCC.out.below hb15)
  replace HMx := hide (HMx.out.below hb15)
  replace HMp := hide (HMp.out.below hb15)
  replace HDX := hide (HDX.out.below hb15)
  replace HB := hide (HB.out.trans (hb15.mono HB.out.size))
  clear hb15
  obtain ⟨b15, eb15⟩ : ∃ z, v14.heap.size = z := ⟨_, rfl⟩
  simp only [eb15] at HDY
  try simp only [eb15]
  clear eb15
  have td : (eD != eD) = false := by simp
  obtain ⟨z0, z1⟩ := pairS_cells HDX.out
  obtain ⟨z2, z3⟩ := pairS_cells HDY.out
  go_wp2_with fail
  clear z0 z1 z2 z3 td
  clear HDX HDY
  refine (HRL.out _ HCC.out).mono ?_
  rintro e_ v16 ⟨rfl, hb16⟩
  replace HAA := hide (HAA.out.below hb16)
  replace HBB := hide (HBB.out.below hb16)
  replace HCC := hide (HCC.out.below hb16)
  replace HMx := hide (HMx.out.below hb16)
  replace HMp := hide (HMp.out.below hb16)
  replace HB := hide (HB.out.trans (hb16.mono HB.out.size))
  clear hb16
  clear HRL
  by_cases hzc : eC = 0
  case neg =>
    have h2 : eX = eC := by rw [HAE.out, if_neg hzc]
    subst h2
    have hx0 : Nx = 0 := HNx.out.trans (if_neg hzc)
    subst hx0
    have tz2 : (eX == 0) = false := by simpa using hzc
    have te2 : (eX != eX) = false := by simp
    clear HAE HRA HLQ HNx hzc
    go_wp2_with fail
    refine (same_nil Ax none cx 0 _).mono ?_
    rintro e_ v17 ⟨rfl, hb17⟩
    replace HAA := hide (HAA.out.below hb17)
    replace HBB := hide (HBB.out.below hb17)
    replace HCC := hide (HCC.out.below hb17)
    replace HMx := hide (HMx.out.below hb17)
    replace HMp := hide (HMp.out.below hb17)
    replace HB := hide (HB.out.trans (hb17.mono HB.out.size))
    clear hb17
    go_wp2_with fail
    refine (HRB.out _ HBB.out).mono ?_
    rintro e_ v18 ⟨rfl, hb18⟩
    replace HAA := hide (HAA.out.below hb18)
    replace HBB := hide (HBB.out.below hb18)
    replace HCC := hide (HCC.out.below hb18)
    replace HMx := hide (HMx.out.below hb18)
    replace HMp := hide (HMp.out.below hb18)
    replace HB := hide (HB.out.trans (hb18.mono HB.out.size))
    clear hb18
    clear HRB
    by_cases hzb : eB = 0
    case neg =>
      have h3 : eP = eB := by rw [HPE.out, if_neg hzb]
      subst h3
      have hp0 : Np = 0 := HNp.out.trans (if_neg hzb)
      subst hp0
      have tz : (eP == 0) = false := by simpa using hzb
      have te : (eP == eP) = true := by simp
      clear HPE HRP HKQ HNp hzb
      go_wp2_with fail
      refine (same_nil Ap none cp 0 _).mono ?_
      rintro e_ v19 ⟨rfl, hb19⟩
      replace HAA := hide (HAA.out.below hb19)
      replace HBB := hide (HBB.out.below hb19)
      replace HCC := hide (HCC.out.below hb19)
      replace HMx := hide (HMx.out.below hb19)
      replace HMp := hide (HMp.out.below hb19)
      replace HB := hide (HB.out.trans (hb19.mono HB.out.size))
      clear hb19
      go_wp2_with fail
      go_ret
      exact ⟨rfl, HB.out⟩
    subst hzb
    have h3 : eP = l2 := HPE.out.trans (if_pos rfl)
    subst h3
    have te : (eP == eP) = true := by simp
    have hq2 := HKQ.out (by trivial)
    clear HPE HKQ
    go_wp2_with fail
    refine (HRP.out _ (by trivial) (by trivial) HAA.out HBB.out).mono ?_
    rintro e_ v20 ⟨ys, rfl, ⟨As, Ns, cs, rfl, hNs, hms⟩, hb20⟩
    replace HAA := hide (HAA.out.below hb20)
    replace HBB := hide (HBB.out.below hb20)
    replace HCC := hide (HCC.out.below hb20)
    replace HMx := hide (HMx.out.below hb20)
    replace HMp := hide (HMp.out.below hb20)
    replace HB := hide (HB.out.trans (hb20.mono HB.out.size))
    clear hb20
    have HNs := hide hNs
    have HMs := hide hms
    clear hNs hms
    clear HRP
    have hns : Ns = Np := HNs.out.trans HNp.out.symm
    subst hns
    have hNs5 : Ns ≤ 100000 := by rw [HNs.out]; split <;> omega
    clear HNs HNp
    go_wp2_with fail
    refine (same_got hNs5 (by omega) HMp.out HMs.out).mono ?_
    rintro e_ v21 ⟨rfl, hb21⟩
    replace HAA := hide (HAA.out.below hb21)
    replace HBB := hide (HBB.out.below hb21)
    replace HCC := hide (HCC.out.below hb21)
    replace HMx := hide (HMx.out.below hb21)
    replace HMp := hide (HMp.out.below hb21)
    replace HMs := hide (HMs.out.below hb21)
    replace HB := hide (HB.out.trans (hb21.mono HB.out.size))
    clear hb21
    go_wp2_with fail
    go_ret
    exact ⟨rfl, HB.out⟩
  subst hzc
  have h2 : eX = l1 := HAE.out.trans (if_pos rfl)
  subst h2
  have te2 : (eX != eX) = false := by simp
  have hq1 := HLQ.out (by trivial)
  clear HAE HLQ
  go_wp2_with fail
  refine (HRA.out _ (by trivial) (by trivial) HAA.out HCC.out).mono ?_
  rintro e_ v22 ⟨yt, rfl, ⟨At, Nt, ct, rfl, hNt, hmt⟩, hb22⟩
  replace HAA := hide (HAA.out.below hb22)
  replace HBB := hide (HBB.out.below hb22)
  replace HCC := hide (HCC.out.below hb22)
  replace HMx := hide (HMx.out.below hb22)
  replace HMp := hide (HMp.out.below hb22)
  replace HB := hide (HB.out.trans (hb22.mono HB.out.size))
  clear hb22
  have HNt := hide hNt
  have HMt := hide hmt
  clear hNt hmt
  clear HRA
  have hnt : Nt = Nx := HNt.out.trans HNx.out.symm
  subst hnt
  have hNt5 : Nt ≤ 100000 := by rw [HNt.out]; split <;> omega
  clear HNt HNx
  go_wp2_with fail
  refine (same_got hNt5 (by omega) HMx.out HMt.out).mono ?_
  rintro e_ v23 ⟨rfl, hb23⟩
  replace HAA := hide (HAA.out.below hb23)
  replace HBB := hide (HBB.out.below hb23)
  replace HCC := hide (HCC.out.below hb23)
  replace HMx := hide (HMx.out.below hb23)
  replace HMp := hide (HMp.out.below hb23)
  replace HMt := hide (HMt.out.below hb23)
  replace HB := hide (HB.out.trans (hb23.mono HB.out.size))
  clear hb23
  go_wp2_with fail
  clear HMx HMt
  refine (HRB.out _ HBB.out).mono ?_
  rintro e_ v24 ⟨rfl, hb24⟩
  replace HAA := hide (HAA.out.below hb24)
  replace HBB := hide (HBB.out.below hb24)
  replace HCC := hide (HCC.out.below hb24)
  replace HMp := hide (HMp.out.below hb24)
  replace HB := hide (HB.out.trans (hb24.mono HB.out.size))
  clear hb24
  clear HRB
  by_cases hzb : eB = 0
  case neg =>
    have h3 : eP = eB := by rw [HPE.out, if_neg hzb]
    subst h3
    have hp0 : Np = 0 := HNp.out.trans (if_neg hzb)
    subst hp0
    have tz : (eP == 0) = false := by simpa using hzb
    have te : (eP == eP) = true := by simp
    clear HPE HRP HKQ HNp hzb
    go_wp2_with fail
    refine (same_nil Ap none cp 0 _).mono ?_
    rintro e_ v25 ⟨rfl, hb25⟩
    replace HAA := hide (HAA.out.below hb25)
    replace HBB := hide (HBB.out.below hb25)
    replace HCC := hide (HCC.out.below hb25)
    replace HMp := hide (HMp.out.below hb25)
    replace HB := hide (HB.out.trans (hb25.mono HB.out.size))
    clear hb25
    go_wp2_with fail
    go_ret
    exact ⟨rfl, HB.out⟩
  subst hzb
  have h3 : eP = l2 := HPE.out.trans (if_pos rfl)
  subst h3
  have te : (eP == eP) = true := by simp
  have hq2 := HKQ.out (by trivial)
  clear HPE HKQ
  go_wp2_with fail
  refine (HRP.out _ (by trivial) (by trivial) HAA.out HBB.out).mono ?_
  rintro e_ v26 ⟨ys, rfl, ⟨As, Ns, cs, rfl, hNs, hms⟩, hb26⟩
  replace HAA := hide (HAA.out.below hb26)
  replace HBB := hide (HBB.out.below hb26)
  replace HCC := hide (HCC.out.below hb26)
  replace HMp := hide (HMp.out.below hb26)
  replace HB := hide (HB.out.trans (hb26.mono HB.out.size))
  clear hb26
  have HNs := hide hNs
  have HMs := hide hms
  clear hNs hms
  clear HRP
  have hns : Ns = Np := HNs.out.trans HNp.out.symm
  subst hns
  have hNs5 : Ns ≤ 100000 := by rw [HNs.out]; split <;> omega
  clear HNs HNp
  go_wp2_with fail
  refine (same_got hNs5 (by omega) HMp.out HMs.out).mono ?_
  rintro e_ v27 ⟨rfl, hb27⟩
  replace HAA := hide (HAA.out.below hb27)
  replace HBB := hide (HBB.out.below hb27)
  replace HCC := hide (HCC.out.below hb27)
  replace HMp := hide (HMp.out.below hb27)
  replace HMs := hide (HMs.out.below hb27)
  replace HB := hide (HB.out.trans (hb27.mono HB.out.size))
  clear hb27
  go_wp2_with fail
  go_ret
  exact ⟨rfl, HB.out⟩
end Go.Proofs.Ytceohaeebdhmjaa
