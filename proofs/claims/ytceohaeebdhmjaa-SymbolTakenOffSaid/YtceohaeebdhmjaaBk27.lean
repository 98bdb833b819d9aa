/- Lemmas: S79. -/
import Derived.Test.YtceohaeebdhmjaaBk25
import Derived.Test.YtceohaeebdhmjaaBk26
set_option linter.unusedVariables false
set_option linter.unusedSimpArgs false
/- The walk of SymbolEqualizes. -/
namespace Go.Proofs.Ytceohaeebdhmjaa
open Go Go.RowKit Go.Lib Ieee
theorem eqE_wrong {n k : Nat} {L K : Nat → Nat} {X Y : Nat → Nat → Gau} (h : matE n L X ≠ 0) : eqE n L X k K Y = matE n L X := by
  have h1 : detE n L X = matE n L X := if_neg h
  have h2 : orS (detE n L X) (laysE k K Y) = matE n L X := by rw [h1]; exact orS_left h
  unfold eqE
  rw [h2, if_neg h]
theorem eqE_lays {n k : Nat} {L K : Nat → Nat} {X Y : Nat → Nat → Gau} (h : eqE n L X k K Y = 0) : laysE k K Y = 0 := by
  unfold eqE at h
  by_cases e : orS (detE n L X) (laysE k K Y) = 0
  · exact (orS_zero e).2
  · rw [if_neg e] at h
    exact absurd h e
set_option maxHeartbeats 32000000 in
set_option maxRecDepth 100000 in
theorem symbolEqualizes_walk (A B : Option Addr) (n k ca cb : Nat) (L K : Nat → Nat) (X Y : Nat → Nat → Gau) (w : World) (hA : MatsAt w 0 A n L X) (hB : MatsAt w 0 B k K Y) :
    Calls Try.prog 5 #[.slice A n ca, .slice B k cb] w fun e w' => e = .returned (.bool true) ∧ Below w.heap.size w w' := by
  have HAA := hide hA
  have HBB := hide hB
  have HSA := hide (fun W h => smallS_any A n ca L X W h)
  have HSB := hide (fun W h => smallS_any B k cb K Y W h)
  have HB := hide (Below.refl w.heap.size w)
  clear hA hB
  go_enter Try.func5, Try.ntmps5
  go_wp2_with fail
  refine (awakeS_any _).mono ?_
  rintro e_ v1 ⟨rfl, hb1⟩
  replace HAA := hide (HAA.out.below hb1)
  replace HBB := hide (HBB.out.below hb1)
  replace HB := hide (HB.out.trans (hb1.mono HB.out.size))
  clear hb1
  go_wp2_with fail
  by_cases sa : smallB n L = true
  case neg =>
    rw [Bool.not_eq_true] at sa
    simp only [sa] at HSA
    refine (HSA.out _ HAA.out).mono ?_
    rintro e_ v_ ⟨rfl, rfl⟩
    go_wp2_with fail
    go_ret
    exact ⟨rfl, HB.out⟩
  simp only [sa] at HSA
  refine (HSA.out _ HAA.out).mono ?_
  rintro e_ v_ ⟨rfl, rfl⟩
  go_wp2_with fail
  clear HSA
  obtain ⟨sa1, sa2⟩ := smallB_iff.1 sa
  by_cases sb : smallB k K = true
  case neg =>
    rw [Bool.not_eq_true] at sb
    simp only [sb] at HSB
    refine (HSB.out _ HBB.out).mono ?_
    rintro e_ v_ ⟨rfl, rfl⟩
    go_wp2_with fail
    go_ret
    exact ⟨rfl, HB.out⟩
  simp only [sb] at HSB
  refine (HSB.out _ HBB.out).mono ?_
  rintro e_ v_ ⟨rfl, rfl⟩
  go_wp2_with fail
  clear HSB
  obtain ⟨sb1, sb2⟩ := smallB_iff.1 sb
  have hL : ∀ i, i < n → L i ≤ 100000 := fun i hi => by have := sa2 i hi; omega
  have hK : ∀ i, i < k → K i ≤ 100000 := fun i hi => by have := sb2 i hi; omega
  have HCA := hide (fun W h => copyAll_any A n ca L X W (by omega) hL h)
  have HCB := hide (fun W h => copyAll_any B k cb K Y W (by omega) hK h)
  have HEQ := hide (fun A C c d W h h2 => Equalized_any A C n k c d L K X Y W (by omega) (by omega) hL hK h h2)
  have HRC := hide (fun W h => CheckMatrixR_any A n ca L X W (by omega) hL h)
  have HRE := hide (fun W (h0 : matE n L X = 0) h h2 => EqualizedR_any A B n k ca cb L K X Y W h0 (by omega) hK h h2)
  have HNE := hide (fun h : matE n L X ≠ 0 => (show eqE n L X k K Y = matE n L X from eqE_wrong h))
  have HGE := hide (fun h : eqE n L X k K Y ≠ 0 => (show eqG n L X k K Y = 0 from if_neg h))
  have HQ := hide (fun h : eqE n L X k K Y = 0 => (show K 0 ≤ 100000 from by have := (laysE_zero (eqE_lays h)).q9; omega))
  obtain ⟨eA, heA⟩ : ∃ z, matE n L X = z := ⟨_, rfl⟩
  simp only [heA] at HRC HRE HNE
  clear heA
  obtain ⟨E, hE⟩ : ∃ z, eqE n L X k K Y = z := ⟨_, rfl⟩
  simp only [hE] at HEQ HRE HNE HGE HQ
  clear hE
  obtain ⟨G, hG⟩ : ∃ z, eqG n L X k K Y = z := ⟨_, rfl⟩
  simp only [hG] at HEQ HRE HGE
  clear hG
  obtain ⟨q, hq⟩ : ∃ z, K 0 = z := ⟨_, rfl⟩
  simp only [hq] at HEQ HRE HQ
  clear hq
  obtain ⟨S, hS⟩ : ∃ z, (fun r c => gsum (eqF n X (detV n L X)) Y r c n) = z := ⟨_, rfl⟩
  simp only [hS] at HEQ HRE
  clear hS
  have hn5 := sa1
  clear sa sb sa2 sb2 hL hK
  refine (HCA.out _ HAA.out).mono ?_
  rintro e_ v2 ⟨y1, rfl, ho1, hb2⟩
  obtain ⟨A1, c1, rfl, -, -, hm1⟩ := ho1.form
  replace HAA := hide (HAA.out.below hb2)
  replace HBB := hide (HBB.out.below hb2)
  replace HB := hide (HB.out.trans (hb2.mono HB.out.size))
  clear hb2
  have HM1 := hide (hm1.weak (Nat.zero_le _))
  clear hm1 ho1
  go_wp2_with fail
  refine (HCB.out _ HBB.out).mono ?_
  rintro e_ v3 ⟨y2, rfl, ho2, hb3⟩
  obtain ⟨A2, c2, rfl, -, -, hm2⟩ := ho2.form
  replace HAA := hide (HAA.out.below hb3)
  replace HBB := hide (HBB.out.below hb3)
  replace HM1 := hide (HM1.out.below hb3)
  replace HB := hide (HB.out.trans (hb3.mono HB.out.size))
  clear hb3
  have HM2 := hide (hm2.weak (Nat.zero_le _))
  clear hm2 ho2
  go_wp2_with fail
  clear HCA HCB
  refine (HEQ.out A1 A2 c1 c2 _ HM1.out HM2.out).mono ?_
  rintro e_ v4 ⟨yx, rfl, hg, hb4⟩
  obtain ⟨Ax, Nx, cx, rfl, hNx, hmx⟩ := hg.got
  replace HAA := hide (HAA.out.below hb4)
  replace HBB := hide (HBB.out.below hb4)
  replace HM1 := hide (HM1.out.below hb4)
  replace HM2 := hide (HM2.out.below hb4)
  replace HB := hide (HB.out.trans (hb4.mono HB.out.size))
  clear hb4
  have HNx := hide hNx
  have HMx := hide hmx
  clear hNx hmx hg HEQ
  clear HM1 HM2
  go_wp2_with fail
  refine (HRC.out _ HAA.out).mono ?_
  rintro e_ v5 ⟨rfl, hb5⟩
  replace HAA := hide (HAA.out.below hb5)
  replace HBB := hide (HBB.out.below hb5)
  replace HMx := hide (HMx.out.below hb5)
  replace HB := hide (HB.out.trans (hb5.mono HB.out.size))
  clear hb5
  clear HRC
  by_cases hz : eA = 0
  case neg =>
    have h1 : E = eA := HNE.out hz
    subst h1
    have h2 : G = 0 := HGE.out hz
    subst h2
    have hx0 : Nx = 0 := HNx.out.trans (if_neg hz)
    subst hx0
    have tz : (E == 0) = false := by simpa using hz
    have te : (E == E) = true := by simp
    clear HNE HGE HNx HRE HQ hz
    go_wp2_with fail
    refine (same_nil Ax none cx 0 _).mono ?_
    rintro e_ v6 ⟨rfl, hb6⟩
    replace HAA := hide (HAA.out.below hb6)
    replace HBB := hide (HBB.out.below hb6)
    replace HMx := hide (HMx.out.below hb6)
    replace HB := hide (HB.out.trans (hb6.mono HB.out.size))
    clear hb6
    go_wp2_with fail
    go_ret
    exact ⟨rfl, HB.out⟩
  subst hz
  have te : (E == E) = true := by simp
  have tg : (G == G) = true := by simp
  clear HNE HGE
  go_wp2_with fail
  refine (HRE.out _ (by trivial) HAA.out HBB.out).mono ?_
  rintro e_ v7 ⟨yr, rfl, ⟨Ar, Nr, cr, rfl, hNr, hmr⟩, hb7⟩
  replace HAA := hide (HAA.out.below hb7)
  replace HBB := hide (HBB.out.below hb7)
  replace HMx := hide (HMx.out.below hb7)
  replace HB := hide (HB.out.trans (hb7.mono HB.out.size))
  clear hb7
  have HMr := hide hmr
  have hnr : Nr = Nx := hNr.trans HNx.out.symm
  subst hnr
  have hN5 : Nr ≤ 100000 := by rw [hNr]; split <;> omega
  clear hmr HRE
  have HSM := hide (show ∀ W, MatsAt W 0 Ax Nr (fun _ => q) S → MatsAt W 0 Ar Nr (fun _ => q) S → Calls Try.prog 20 #[.slice Ax Nr cx, .slice Ar Nr cr] W (fun e w' => e = .returned (.bool true) ∧ Below W.heap.size W w') from fun W h1 h2 => by
    by_cases hE : E = 0
    · exact same_got hN5 (HQ.out hE) h1 h2
    · have h0 : Nr = 0 := hNr.trans (if_neg hE)
      subst h0
      exact same_nil _ _ _ _ _)
  clear hNr HNx HQ hN5
  go_wp2_with fail
  refine (HSM.out _ HMx.out HMr.out).mono ?_
  rintro e_ v8 ⟨rfl, hb8⟩
  replace HAA := hide (HAA.out.below hb8)
  replace HBB := hide (HBB.out.below hb8)
  replace HMx := hide (HMx.out.below hb8)
  replace HMr := hide (HMr.out.below hb8)
  replace HB := hide (HB.out.trans (hb8.mono HB.out.size))
  clear hb8
  go_wp2_with fail
  go_ret
  exact ⟨rfl, HB.out⟩
end Go.Proofs.Ytceohaeebdhmjaa
