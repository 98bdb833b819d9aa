/- Lemmas: S78. -/
import Derived.Deep.DeepCutAuto
import Derived.Test.YtceohaeebdhmjaaBk13
import Derived.Test.YtceohaeebdhmjaaBk20
import Derived.Test.YtceohaeebdhmjaaBk23
import Derived.Test.YtceohaeebdhmjaaBk24
set_option linter.unusedVariables false
set_option linter.unusedSimpArgs false
/- Equalized of the reference. -/
namespace Go.Proofs.Ytceohaeebdhmjaa
open Go Go.RowKit Go.Lib
theorem Gau.mul_plus (x y z : Gau) : x.mul (y.plus z) = (x.mul y).plus (x.mul z) := by
  apply Gau.same <;> simp only [Gau.mul, Gau.plus] <;> grind
theorem Gau.mul_mul (x y z : Gau) : x.mul (y.mul z) = (x.mul y).mul z := by
  apply Gau.same <;> simp only [Gau.mul] <;> grind
theorem Gau.mul_zero (x : Gau) : x.mul Gau.zero = Gau.zero := by
  apply Gau.same <;> simp [Gau.mul, Gau.zero]
theorem orS_leftR {a b : Int} (h : a ≠ 0) : orS a b = a := if_neg h
theorem orS_rightR {b : Int} : orS 0 b = b := if_pos rfl
theorem gsum_scale (x : Gau) (X Y : Nat → Nat → Gau) (r c : Nat) : ∀ k, gsum (fun i j => x.mul (X i j)) Y r c k = x.mul (gsum X Y r c k)
  | 0 => (Gau.mul_zero x).symm
  | k + 1 => by
    show (gsum (fun i j => x.mul (X i j)) Y r c k).plus ((x.mul (X r k)).mul (Y k c)) = x.mul ((gsum X Y r c k).plus ((X r k).mul (Y k c)))
    rw [gsum_scale x X Y r c k, Gau.mul_plus, Gau.mul_mul]
theorem eqF_sum (n : Nat) (F Y : Nat → Nat → Gau) (d : Gau) (r c k : Nat) : gsum (eqF n F d) Y r c k = d.conj.mul (gsum (adjF n F) Y r c k) := gsum_scale d.conj (adjF n F) Y r c k
theorem gain_zero {d : Gau} : gainG d = 0 ↔ d.re = 0 ∧ d.im = 0 := by
  unfold gainG
  constructor
  · intro h
    have h1 := sq_nn d.re
    have h2 := sq_nn d.im
    have h3 : d.re * d.re = 0 := by omega
    have h4 : d.im * d.im = 0 := by omega
    exact ⟨by rcases Int.mul_eq_zero.1 h3 with z | z <;> exact z, by rcases Int.mul_eq_zero.1 h4 with z | z <;> exact z⟩
  · rintro ⟨h1, h2⟩
    rw [h1, h2]; rfl
set_option maxHeartbeats 64000000 in
set_option maxRecDepth 100000 in
theorem EqualizedR_any (A C : Option Addr) (n k ca cb : Nat) (L K : Nat → Nat) (F Y : Nat → Nat → Gau) (w : World) (hX : matE n L F = 0) (hk : k ≤ 100000) (hK : ∀ i, i < k → K i ≤ 100000) (hI : MatsAt w 0 A n L F) (hJ : MatsAt w 0 C k K Y) :
    Calls Try.prog 30 #[.slice A n ca, .slice C k cb] w fun e w' => ∃ v, e = .returned (.tuple #[v, .int .i64 (eqG n L F k K Y), .int .i64 (eqE n L F k K Y)]) ∧ GotMat w' (eqE n L F k K Y) n (K 0) (fun r c => gsum (eqF n F (detV n L F)) Y r c n) v ∧ Below w.heap.size w w' := by
  have HDT := hide (fun W (h : MatsAt W 0 A n L F) => DeterminantR_any A n ca L F W hX h)
  have HLE := hide (fun W (h : MatsAt W 0 C k K Y) => LayersErrR_any C k cb K Y W hk hK h)
  have HI := hide hI
  have HJ := hide hJ
  have hdw := detV_within (n := n) (L := L) (F := F)
  have HDZ := hide (fun h : detE n L F = 0 => detE_zero h)
  have HLZ := hide (fun h : laysE k K Y = 0 => laysE_zero h)
  have HE := hide (show eqE n L F k K Y = if orS (detE n L F) (laysE k K Y) = 0 then if k = n then if gainG (detV n L F) = 0 then 27 else if 10000000 < gainG (detV n L F) then 8 else unI (rowsB 100000000 n (K 0) fun r c => gsum (eqF n F (detV n L F)) Y r c n) 8 else 13 else orS (detE n L F) (laysE k K Y) from rfl)
  have HG := hide (show eqG n L F k K Y = if eqE n L F k K Y = 0 then gainG (detV n L F) else 0 from rfl)
  have HSC := hide (fun r c => eqF_sum n F Y (detV n L F) r c n)
  have HAP := hide (fun (a ao b bo ca : Nat) W (h0 : detE n L F = 0) (h1 : laysE k K Y = 0) (hkn : k = n) (hi : MatsAt W 0 (some ⟨a, ao, none⟩) n (fun _ => n) (adjF n F)) (hj : MatsAt W 0 (some ⟨b, bo, none⟩) k K Y) => appliedR_any a ao b bo n n (K 0) ca cb (adjF n F) Y 1000 100000000 W (by have := (detE_zero h0).2.2; omega) (detE_zero h0).1.n1 (by have := (detE_zero h0).2.2; omega) (laysE_zero h1).q1 (by have := (laysE_zero h1).q9; omega) (by decide) (by decide) (by decide) hi (by rw [← hkn]; exact hj.len (laysE_zero h1).len) (fun r j _ _ => adjF_within (detE_zero h0).1 (detE_zero h0).2.1 (detE_zero h0).2.2 r j) (fun j c hj hc => (laysE_zero h1).inside j c (by omega) hc))
  have HGW := hide (fun (h0 : detE n L F = 0) (h1 : laysE k K Y = 0) (hkn : k = n) r c (hc : c < K 0) => (gsum_within (X := adjF n F) (Y := Y) (r := r) (c := c) (M := 1000) (N := 100000000) (k := n) fun i hi => ⟨adjF_within (detE_zero h0).1 (detE_zero h0).2.1 (detE_zero h0).2.2 r i, (laysE_zero h1).inside i c (by omega) hc⟩).more (N := 400000000000) (by have := (detE_zero h0).2.2; omega))
  have HGS := hide (fun (hg : gainG (detV n L F) ≤ 10000000) => Gau.conj_within (gain_small hg))
  have HCJ := hide (fun W => gconjS_any (detV n L F) 4000000 W hdw (by decide))
  have HZG := hide (gain_zero (d := detV n L F))
  obtain ⟨D, hD⟩ : ∃ z, detV n L F = z := ⟨_, rfl⟩
  simp only [hD] at HDT HE HG HSC HGS HCJ HZG
  obtain ⟨E, hE⟩ : ∃ z, eqE n L F k K Y = z := ⟨_, rfl⟩
  simp only [hE] at HE HG
  obtain ⟨G, hG⟩ : ∃ z, eqG n L F k K Y = z := ⟨_, rfl⟩
  simp only [hG] at HG
  obtain ⟨e1, he1⟩ : ∃ z, detE n L F = z := ⟨_, rfl⟩
  simp only [he1] at HDT HE HDZ HAP HGW
  obtain ⟨e2, he2⟩ : ∃ z, laysE k K Y = z := ⟨_, rfl⟩
  simp only [he2] at HLE HE HLZ HAP HGW
  simp only [hD, hE, hG]
  rw [hD] at hdw
  have hgl := gain_le hdw
  obtain ⟨S, hS⟩ : ∃ z, (fun r c => gsum (eqF n F D) Y r c n) = z := ⟨_, rfl⟩
  rw [hS] at HE ⊢
  have HSD := hide (fun r c => (show S r c = D.conj.mul (gsum (adjF n F) Y r c n) by rw [← hS]; exact HSC.out r c))
  obtain ⟨T, hT⟩ : ∃ z, (fun r c => gsum (adjF n F) Y r c n) = z := ⟨_, rfl⟩
  have hTT := fun r c => (show gsum (adjF n F) Y r c n = T r c by rw [← hT])
  simp only [hTT] at HSD HAP HGW
  obtain ⟨J, hJJ⟩ : ∃ z, adjF n F = z := ⟨_, rfl⟩
  have HJF := hide hJJ
  simp only [hJJ] at HAP
  clear hJJ hT hTT hS HSC hD hE hG he1 he2 hI hJ hX hK hdw
  have HGD := hide (show gainG D = D.re * D.re + D.im * D.im from rfl)
  obtain ⟨gn, hgn⟩ : ∃ z, gainG D = z := ⟨_, rfl⟩
  simp only [hgn] at HE HG HGD HGS HZG
  obtain ⟨cj, hcj⟩ : ∃ z, D.conj = z := ⟨_, rfl⟩
  simp only [hcj] at HSD HGS HCJ
  obtain ⟨dr, hdr⟩ : ∃ z, D.re = z := ⟨_, rfl⟩
  obtain ⟨di, hdi⟩ : ∃ z, D.im = z := ⟨_, rfl⟩
  simp only [hdr, hdi] at HDT HGD hgl HCJ HZG
  have HNM := hide (fun W => gnormS_any dr di W ⟨hgl.1, by omega⟩ ⟨hgl.2.2.1, by omega⟩)
  rw [← HGD.out] at HNM
  clear hgn hcj hdr hdi HGD hgl
  obtain ⟨q, hq⟩ : ∃ z, K 0 = z := ⟨_, rfl⟩
  simp only [hq] at HE HAP HGW ⊢
  have HQ := hide hq
  clear hq
  go_enter Try.func30, Try.ntmps30
  go_wp2_with fail
  refine (HDT.out _ HI.out).mono ?_
  rintro e w1 ⟨rfl, hb1⟩
  have HB := hide hb1
  clear hb1 HDT
  go_upto_region 2 with fail
  obtain ⟨b7, hb7⟩ : ∃ z, w1.heap.size = z := ⟨_, rfl⟩
  obtain ⟨w2, hw2⟩ : ∃ z : World, z = w1.alloc (.cells #[.int .i64 dr, .int .i64 di] 43) := ⟨_, rfl⟩
  try rw [← hw2]
  have HX := hide (show Box w2 b7 43 #[.int .i64 dr, .int .i64 di] by rw [hw2]; exact Box.made hb7.symm)
  have hb7w : w.heap.size ≤ b7 := by have := HB.out.size; omega
  replace HB := hide (show Below w.heap.size w w2 by rw [hw2]; exact HB.out.alloc HB.out.size _)
  try simp only [hb7]
  clear hw2 hb7
  by_cases hz1 : e1 = 0
  case neg =>
    have hEE : E = e1 := by rw [HE.out, if_neg (by rw [orS_leftR hz1]; exact hz1), orS_leftR hz1]
    have hG0 : G = 0 := HG.out.trans (if_neg (by rw [hEE]; exact hz1))
    subst hEE
    subst hG0
    have HNE := hide hz1
    have ts : (E != 0) = true := by simpa using hz1
    clear HE HG HAP HGW HDZ HLZ HSD HCJ HNM HLE HJF HGS HZG hz1
    go_wp2_with fail
    go_ret3
    exact ⟨_, rfl, GotMat.nothing HNE.out, HB.out⟩
  subst hz1
  have t0 : ((0 : Int) != 0) = false := by decide
  rw [orS_rightR] at HE
  go_wp2_with fail
  refine (HLE.out _ (HJ.out.below HB.out)).mono ?_
  rintro e_ w3 ⟨rfl, hb3⟩
  replace HX := hide (HX.out.below hb3)
  replace HB := hide (HB.out.trans (hb3.mono HB.out.size))
  clear HLE hb3
  by_cases hz2 : e2 = 0
  case neg =>
    have hEE : E = e2 := HE.out.trans (if_neg hz2)
    have hG0 : G = 0 := HG.out.trans (if_neg (by rw [hEE]; exact hz2))
    subst hEE
    subst hG0
    have HNE := hide hz2
    have ts : (E != 0) = true := by simpa using hz2
    clear HE HG HAP HGW HDZ HLZ HSD HCJ HNM HJF HGS HZG hz2
    go_wp2_with fail
    go_ret3
    exact ⟨_, rfl, GotMat.nothing HNE.out, HB.out⟩
  subst hz2
  replace HE := hide (HE.out.trans (if_pos rfl))
  obtain ⟨hok, hnl, hn2⟩ := HDZ.out (by trivial)
  have hlk := HLZ.out (by trivial)
  replace HAP := hide (fun a ao b bo ca W hkn hi hj => HAP.out a ao b bo ca W (by trivial) (by trivial) hkn hi hj)
  replace HGW := hide (fun hkn r c hc => HGW.out (by trivial) (by trivial) hkn r c hc)
  have HNL := hide hnl
  clear HDZ HLZ hnl
  by_cases hkn : k = n
  case neg =>
    obtain rfl : E = 13 := HE.out.trans (if_neg hkn)
    obtain rfl : G = 0 := HG.out.trans (if_neg (by decide))
    have tk : ((k : Int) != (n : Int)) = true := by simp; omega
    clear HE HG HAP HGW HSD HCJ HNM HJF HGS HZG hok hlk HNL
    go_wp2_with fail
    go_ret3
    exact ⟨_, rfl, GotMat.nothing (by decide), HB.out⟩
  subst hkn
  replace HE := hide (HE.out.trans (if_pos rfl))
  replace HAP := hide (fun a ao b bo ca W hi hj => HAP.out a ao b bo ca W rfl hi hj)
  replace HGW := hide (fun r c hc => HGW.out rfl r c hc)
  have tk : ((k : Int) != (k : Int)) = false := by simp
  obtain ⟨x0, x1⟩ := pairS_cells HX.out
  by_cases hz : gn = 0
  case pos =>
    obtain ⟨d1, d2⟩ := HZG.out.1 hz
    obtain rfl : E = 27 := HE.out.trans (if_pos hz)
    obtain rfl : G = 0 := HG.out.trans (if_neg (by decide))
    subst d1
    subst d2
    clear HE HG HAP HGW HSD HCJ HNM HJF HGS HZG hok hlk HNL
    go_wp2_with fail
    go_ret3
    exact ⟨_, rfl, GotMat.nothing (by decide), HB.out⟩
  replace HE := hide (HE.out.trans (if_neg hz))
  have hdz : ¬ (dr = 0 ∧ di = 0) := fun h => hz (HZG.out.2 h)
  have hdz2 : dr = 0 → ¬ di = 0 := fun a b => hdz ⟨a, b⟩
  clear HZG hz hdz
  go_upto_region 9 with fail
  go_cut [36] (fun s wy => s = .bool false ∧ wy = w3)
  case first =>
    go_wp2_with fail
    all_goals first | (exfalso; omega) | (go_meet; case rel => exact ⟨rfl, rfl⟩)
  case rest =>
    obtain ⟨rfl, rfl⟩ := hcut
    go_wp2_with fail
    obtain ⟨wD, rfl⟩ : ∃ x : World, x = wc := ⟨_, rfl⟩
    clear x0 x1
    refine (HNM.out _).mono ?_
    rintro e_ w4 ⟨rfl, hb4⟩
    replace HX := hide (HX.out.below hb4)
    replace HB := hide (HB.out.trans (hb4.mono HB.out.size))
    clear hb4 HNM hdz2
    by_cases hg7 : 10000000 < gn
    case pos =>
      obtain rfl : E = 8 := HE.out.trans (if_pos hg7)
      obtain rfl : G = 0 := HG.out.trans (if_neg (by decide))
      clear HE HG HAP HGW HSD HCJ HJF HGS hok hlk HNL
      go_wp2_with fail
      go_ret3
      exact ⟨_, rfl, GotMat.nothing (by decide), HB.out⟩
    replace HE := hide (HE.out.trans (if_neg hg7))
    replace HGS := hide (HGS.out (by omega))
    have hk1 := hok.n1
    obtain ⟨a, ao, A0, c0, rfl, -, -, y0, -, -, hR0⟩ := HI.out 0 (by omega)
    rw [hok.len 0 (by omega), ← HNL.out] at y0 hR0
    simp only [Nat.add_zero] at y0
    obtain ⟨b0, o0, rfl, -, -⟩ := gaus_some hR0 (by omega)
    obtain ⟨y00, z00⟩ := gaus_at hR0 (i := 0) (by omega)
    simp only [Nat.zero_mul, Nat.add_zero] at y00 z00
    have hl4 := HX.out.lt
    go_upto_if 46 with fail
    obtain ⟨b11, hb11⟩ : ∃ z, w4.heap.size = z := ⟨_, rfl⟩
    obtain ⟨w5, hw5⟩ : ∃ z : World, z = (w4.alloc (.cells #[.int .i64 1, .int .i64 0] 43)).alloc (.cells #[.slice (some ⟨b11, 0, none⟩) 1 1] 22) := ⟨_, rfl⟩
    try simp only [hb11]
    try rw [← hw5]
    have HO1 := hide (show Box w5 b11 43 #[.int .i64 1, .int .i64 0] by rw [hw5]; exact (Box.made hb11.symm).alloc _)
    have HO2 := hide (show Box w5 (b11 + 1) 22 #[.slice (some ⟨b11, 0, none⟩) 1 1] by rw [hw5]; exact Box.made (by simp [hb11]))
    have hc5 : Below w4.heap.size w4 w5 := by rw [hw5]; exact ((Below.refl _ _).alloc (Nat.le_refl _) _).alloc (by simp) _
    replace HX := hide (HX.out.below hc5)
    replace HB := hide (HB.out.trans (hc5.mono HB.out.size))
    clear hw5 hc5 hb11
    go_cut [11, 12] (fun s _ wy => ∃ g c, s = .slice (some ⟨g, 0, none⟩) k c ∧ Hid (MatsAt wy 0 (some ⟨g, 0, none⟩) k (fun _ => k) J) ∧ Hid (Box wy b7 43 #[.int .i64 dr, .int .i64 di]) ∧ Hid (Below w.heap.size w wy))
    case first =>
      by_cases h2 : k = 2
      case neg =>
        have hk : k = 1 := by omega
        have t2 : ((k : Int) == 2) = false := by simp; omega
        have HK := hide hk
        have HM := hide (show MatsAt w5 0 (some ⟨b11 + 1, 0, none⟩) k (fun _ => k) J from by
          rw [← HJF.out]
          intro i hi
          have hi0 : i = 0 := by omega
          subst hi0
          refine ⟨b11 + 1, 0, some ⟨b11, 0, none⟩, 1, rfl, Nat.zero_le _, HO2.out.lt, HO2.out.at_ 0 |>.trans (by rw [hk]; rfl), (show k ≤ 1 by omega), by decide, ?_⟩
          rw [hk]
          exact gaus_lit1 (x := ⟨1, 0⟩) HO1.out |>.congr (fun j hj => (show (⟨1, 0⟩ : Gau) = adjF 1 F 0 j from rfl)))
        clear h2 hk hk1 HAP HGW HE HG HSD HCJ HGS hok hlk HI HJ HO1 HO2
        go_wp2_with fail
        go_meet
        case rel => exact ⟨b11 + 1, 1, by rw [HK.out], HM, HX, HB⟩
      have t2 : ((k : Int) == 2) = true := by simp; omega
      obtain ⟨A1, c1, y1, -, -, hR1, -, -⟩ := mat_row HI.out (i := 1) (by omega)
      rw [hok.len 1 (by omega), ← HNL.out] at y1 hR1
      obtain ⟨b1, o1, rfl, -, -⟩ := gaus_some hR1 (by omega)
      obtain ⟨y01, z01⟩ := gaus_at hR0 (i := 1) (by omega)
      obtain ⟨y10, z10⟩ := gaus_at hR1 (i := 0) (by omega)
      obtain ⟨y11, z11⟩ := gaus_at hR1 (i := 1) (by omega)
      simp only [Nat.zero_mul, Nat.one_mul, Nat.add_zero] at y01 z01 y10 z10 y11 z11
      have hnl9 := HNL.out
      have HS1 := hide (fun W => gsubS_any Gau.zero (F 0 1) 2000 W ((Gau.less_within (M := 1000) (N := 1000) ⟨by decide, by decide⟩ (hok.inside 0 1 (by omega) (by omega))).more (by decide)) (by decide))
      have HS2 := hide (fun W => gsubS_any Gau.zero (F 1 0) 2000 W ((Gau.less_within (M := 1000) (N := 1000) ⟨by decide, by decide⟩ (hok.inside 1 0 (by omega) (by omega))).more (by decide)) (by decide))
      have HJ0 := hide (show J 0 0 = F 1 1 ∧ J 0 1 = Gau.zero.less (F 0 1) ∧ J 1 0 = Gau.zero.less (F 1 0) ∧ J 1 1 = F 0 0 from by
        rw [← HJF.out, h2]
        exact ⟨rfl, by apply Gau.same <;> simp [adjF, Gau.neg, Gau.less, Gau.zero], by apply Gau.same <;> simp [adjF, Gau.neg, Gau.less, Gau.zero], rfl⟩)
      obtain ⟨u1, hu1⟩ : ∃ z, Gau.zero.less (F 0 1) = z := ⟨_, rfl⟩
      obtain ⟨u2, hu2⟩ : ∃ z, Gau.zero.less (F 1 0) = z := ⟨_, rfl⟩
      simp only [hu1, hu2] at HS1 HS2 HJ0
      simp only [show Gau.zero.re = 0 from rfl, show Gau.zero.im = 0 from rfl] at HS1 HS2
      obtain ⟨p0, hp0⟩ : ∃ z, (F 0 0).re = z := ⟨_, rfl⟩
      obtain ⟨q0, hq0⟩ : ∃ z, (F 0 0).im = z := ⟨_, rfl⟩
      obtain ⟨p1, hp1⟩ : ∃ z, (F 0 1).re = z := ⟨_, rfl⟩
      obtain ⟨q1, hq1⟩ : ∃ z, (F 0 1).im = z := ⟨_, rfl⟩
      obtain ⟨p2, hp2⟩ : ∃ z, (F 1 0).re = z := ⟨_, rfl⟩
      obtain ⟨q2, hq2⟩ : ∃ z, (F 1 0).im = z := ⟨_, rfl⟩
      obtain ⟨p3, hp3⟩ : ∃ z, (F 1 1).re = z := ⟨_, rfl⟩
      obtain ⟨q3, hq3⟩ : ∃ z, (F 1 1).im = z := ⟨_, rfl⟩
      simp only [hp0, hq0, hp1, hq1, hp2, hq2, hp3, hq3] at y00 z00 y01 z01 y10 z10 y11 z11 HS1 HS2
      have HP0 := hide (show F 0 0 = ⟨p0, q0⟩ from Gau.same hp0 hq0)
      have HP3 := hide (show F 1 1 = ⟨p3, q3⟩ from Gau.same hp3 hq3)
      have HYC := hide (fun W1 (h : Below w.heap.size w W1) => (⟨bcellW h y0, bcellW h y1, bcellW h y00, bcellW h z00, bcellW h y01, bcellW h z01, bcellW h y10, bcellW h z10, bcellW h y11, bcellW h z11⟩ : W1.cell? ⟨a, ao, none⟩ = some (.slice (some ⟨b0, o0, none⟩) k c0) ∧ W1.cell? ⟨a, ao + 1, none⟩ = some (.slice (some ⟨b1, o1, none⟩) k c1) ∧ W1.cell? ⟨b0, o0, none⟩ = some (.int .i64 p0) ∧ W1.cell? ⟨b0, o0 + 1, none⟩ = some (.int .i64 q0) ∧ W1.cell? ⟨b0, o0 + 2, none⟩ = some (.int .i64 p1) ∧ W1.cell? ⟨b0, o0 + 2 + 1, none⟩ = some (.int .i64 q1) ∧ W1.cell? ⟨b1, o1, none⟩ = some (.int .i64 p2) ∧ W1.cell? ⟨b1, o1 + 1, none⟩ = some (.int .i64 q2) ∧ W1.cell? ⟨b1, o1 + 2, none⟩ = some (.int .i64 p3) ∧ W1.cell? ⟨b1, o1 + 2 + 1, none⟩ = some (.int .i64 q3)))
      have hl1 : 1 < k := by omega
      have hl1z : (1 : Int) < (k : Int) := by omega
      have hl0 : 0 < k := by omega
      have HK := hide h2
      clear y0 y1 y00 z00 y01 z01 y10 z10 y11 z11 hu1 hu2 hp0 hq0 hp1 hq1 hp2 hq2 hp3 hq3 h2 hR0 hR1 hok hlk HI HJ HO1 HO2 HAP HGW HE HG HSD HCJ HGS HNL hk1 hn2 hl4 hnl9
      go_upto_region 17 with fail
      obtain ⟨b12, hb12⟩ : ∃ z, w5.heap.size = z := ⟨_, rfl⟩
      obtain ⟨w6, hw6⟩ : ∃ z : World, z = w5.alloc (.cells #[.int .i64 0, .int .i64 0] 43) := ⟨_, rfl⟩
      try rw [← hw6]
      try simp only [hb12]
      have HN := hide (show Box w6 b12 43 #[.int .i64 0, .int .i64 0] by rw [hw6]; exact Box.made hb12.symm)
      have hc6 : Below w5.heap.size w5 w6 := by rw [hw6]; exact (Below.refl _ _).alloc (Nat.le_refl _) _
      replace HX := hide (HX.out.below hc6)
      replace HB := hide (HB.out.trans (hc6.mono HB.out.size))
      clear hw6 hc6 hb12
      refine wp_region_held_drew (S := fun w' => w'.cell? ⟨a, ao, none⟩ = some (.slice (some ⟨b0, o0, none⟩) k c0) ∧ w'.cell? ⟨a, ao + 1, none⟩ = some (.slice (some ⟨b1, o1, none⟩) k c1) ∧ w'.cell? ⟨b0, o0, none⟩ = some (.int .i64 p0) ∧ w'.cell? ⟨b0, o0 + 1, none⟩ = some (.int .i64 q0) ∧ w'.cell? ⟨b0, o0 + 2, none⟩ = some (.int .i64 p1) ∧ w'.cell? ⟨b0, o0 + 2 + 1, none⟩ = some (.int .i64 q1) ∧ w'.cell? ⟨b1, o1, none⟩ = some (.int .i64 p2) ∧ w'.cell? ⟨b1, o1 + 1, none⟩ = some (.int .i64 q2) ∧ w'.cell? ⟨b1, o1 + 2, none⟩ = some (.int .i64 p3) ∧ w'.cell? ⟨b1, o1 + 2 + 1, none⟩ = some (.int .i64 q3) ∧ w'.cell? ⟨b12, 0, none⟩ = some (.int .i64 0) ∧ w'.cell? ⟨b12, 1, none⟩ = some (.int .i64 0)) (by kernel_rfl) (by obtain ⟨i1, i2, i3, i4, i5, i6, i7, i8, i9, i10⟩ := HYC.out _ HB.out.drew; exact ⟨i1, i2, i3, i4, i5, i6, i7, i8, i9, i10, HN.out.at_ 0, HN.out.at_ 1⟩) (fun hHeld => ?_)
      obtain ⟨w_1, hw_1⟩ : ∃ q : World, q = w6.drew := ⟨_, rfl⟩
      rw [← hw_1] at hHeld ⊢
      have hc_1 : Below w6.heap.size w6 w_1 := by rw [hw_1]; exact (Below.refl _ _).drew
      clear hw_1
      replace HX := hide (HX.out.below hc_1)
      replace HN := hide (HN.out.below hc_1)
      replace HB := hide (HB.out.trans (hc_1.mono (by have := HB.out.size; omega)))
      clear hc_1
      refine wpAnyH_take (i := 0) (oi := ⟨some 48, _, _, _, _, _⟩) (v := ?_) rfl (by kernel_rfl) (by kernel_rfl) (by kernel_rfl) (fun _ _ _ h => h) (Or.inl ⟨by rfl, ?_⟩) (by assumption) ?_
      rotate_left
      · (intro w' hSw; (try dsimp only at hSw); go_simp <;> (with_reducible rfl))
      try simp only [Act.put, List.setIfInBounds_toArray, List.set_cons_zero, List.set_cons_succ]
      refine wpAnyH_take (i := 1) (oi := ⟨some 49, _, _, _, _, _⟩) (v := ?_) rfl (by kernel_rfl) (by kernel_rfl) (by kernel_rfl) (fun _ _ _ h => h) (Or.inl ⟨by rfl, ?_⟩) (by assumption) ?_
      rotate_left
      · (intro w' hSw; (try dsimp only at hSw); go_simp <;> (with_reducible rfl))
      try simp only [Act.put, List.setIfInBounds_toArray, List.set_cons_zero, List.set_cons_succ]
      refine wpAnyH_take (i := 2) (oi := ⟨some 50, _, _, _, _, _⟩) (v := ?_) rfl (by kernel_rfl) (by kernel_rfl) (by kernel_rfl) (fun _ _ _ h => h) (Or.inl ⟨by rfl, ?_⟩) (by assumption) ?_
      rotate_left
      · (intro w' hSw; (try dsimp only at hSw); go_simp <;> (with_reducible rfl))
      try simp only [Act.put, List.setIfInBounds_toArray, List.set_cons_zero, List.set_cons_succ]
      refine wpAnyH_take (i := 3) (oi := ⟨some 51, _, _, _, _, _⟩) (v := ?_) rfl (by kernel_rfl) (by kernel_rfl) (by kernel_rfl) (fun _ _ _ h => h) (Or.inl ⟨by rfl, ?_⟩) (by assumption) ?_
      rotate_left
      · (intro w' hSw; (try dsimp only at hSw); go_simp <;> (with_reducible rfl))
      try simp only [Act.put, List.setIfInBounds_toArray, List.set_cons_zero, List.set_cons_succ]
      refine wpAnyH_take (i := 4) (oi := ⟨some 52, _, _, _, _, _⟩) (v := ?_) rfl (by kernel_rfl) (by kernel_rfl) (by kernel_rfl) (fun _ _ _ h => h) (Or.inl ⟨by rfl, ?_⟩) (by assumption) ?_
      rotate_left
      · (intro w' hSw; (try dsimp only at hSw); go_simp <;> (with_reducible rfl))
      try simp only [Act.put, List.setIfInBounds_toArray, List.set_cons_zero, List.set_cons_succ]
      refine wpAnyH_take (i := 5) (oi := ⟨some 53, _, _, _, _, _⟩) (v := ?_) rfl (by kernel_rfl) (by kernel_rfl) (by kernel_rfl) (fun _ _ _ h => h) (Or.inl ⟨by rfl, ?_⟩) (by assumption) ?_
      rotate_left
      · (intro w' hSw; (try dsimp only at hSw); go_simp <;> (with_reducible rfl))
      try simp only [Act.put, List.setIfInBounds_toArray, List.set_cons_zero, List.set_cons_succ]
      refine wpAnyH_take (i := 6) (oi := ⟨some 54, _, _, _, _, _⟩) (v := ?_) rfl (by kernel_rfl) (by kernel_rfl) (by kernel_rfl) (fun _ _ _ h => h) (Or.inl ⟨by rfl, ?_⟩) (by assumption) ?_
      rotate_left
      · (intro w' hSw; (try dsimp only at hSw); go_simp <;> (with_reducible rfl))
      try simp only [Act.put, List.setIfInBounds_toArray, List.set_cons_zero, List.set_cons_succ]
      refine wpAnyH_take (i := 7) (oi := ⟨some 55, _, _, _, _, _⟩) (v := ?_) rfl (by kernel_rfl) (by kernel_rfl) (by kernel_rfl) (fun _ _ _ h => h) (Or.inl ⟨by rfl, ?_⟩) (by assumption) ?_
      rotate_left
      · (intro w' hSw; (try dsimp only at hSw); go_simp <;> (with_reducible rfl))
      try simp only [Act.put, List.setIfInBounds_toArray, List.set_cons_zero, List.set_cons_succ]
      refine wpAnyH_take (i := 8) (oi := ⟨some 56, _, _, _, _, _⟩) (v := ?_) rfl (by kernel_rfl) (by kernel_rfl) (by kernel_rfl) (fun _ _ _ h => h) (Or.inl ⟨by rfl, ?_⟩) (by assumption) ?_
      rotate_left
      · (intro w' hSw; (try dsimp only at hSw); go_simp <;> (with_reducible rfl))
      try simp only [Act.put, List.setIfInBounds_toArray, List.set_cons_zero, List.set_cons_succ]
      refine wpAnyH_take (i := 9) (oi := ⟨some 57, _, _, _, _, _⟩) (v := ?_) rfl (by kernel_rfl) (by kernel_rfl) (by kernel_rfl) (fun _ _ _ h => h) (Or.inl ⟨by rfl, ?_⟩) (by assumption) ?_
      rotate_left
      · (intro w' hSw; (try dsimp only at hSw); go_simp <;> (with_reducible rfl))
      try simp only [Act.put, List.setIfInBounds_toArray, List.set_cons_zero, List.set_cons_succ]
      refine wpAnyH_take (i := 10) (oi := ⟨some 58, _, _, _, _, _⟩) (v := ?_) rfl (by kernel_rfl) (by kernel_rfl) (by kernel_rfl) (fun _ _ _ h => h) (Or.inl ⟨by rfl, ?_⟩) (by assumption) ?_
      rotate_left
      · (intro w' hSw; (try dsimp only at hSw); go_simp <;> (with_reducible rfl))
      try simp only [Act.put, List.setIfInBounds_toArray, List.set_cons_zero, List.set_cons_succ]
      refine wpAnyH_take (i := 13) (oi := ⟨some 61, _, _, _, _, _⟩) (v := ?_) rfl (by kernel_rfl) (by kernel_rfl) (by kernel_rfl) (fun _ _ _ h => h) (Or.inl ⟨by rfl, ?_⟩) (by assumption) ?_
      rotate_left
      · (intro w' hSw; (try dsimp only at hSw); go_simp <;> (with_reducible rfl))
      try simp only [Act.put, List.setIfInBounds_toArray, List.set_cons_zero, List.set_cons_succ]
      refine wpAnyH_take (i := 14) (oi := ⟨some 62, _, _, _, _, _⟩) (v := ?_) rfl (by kernel_rfl) (by kernel_rfl) (by kernel_rfl) (fun _ _ _ h => h) (Or.inl ⟨by rfl, ?_⟩) (by assumption) ?_
      rotate_left
      · (intro w' hSw; (try dsimp only at hSw); go_simp <;> (with_reducible rfl))
      try simp only [Act.put, List.setIfInBounds_toArray, List.set_cons_zero, List.set_cons_succ]
      refine wpAnyH_take (i := 15) (oi := ⟨some 63, _, _, _, _, _⟩) (v := ?_) rfl (by kernel_rfl) (by kernel_rfl) (by kernel_rfl) (fun _ _ _ h => h) (Or.inl ⟨by rfl, ?_⟩) (by assumption) ?_
      rotate_left
      · (intro w' hSw; (try dsimp only at hSw); go_simp <;> (with_reducible rfl))
      try simp only [Act.put, List.setIfInBounds_toArray, List.set_cons_zero, List.set_cons_succ]
      refine wpAnyH_take (i := 16) (oi := ⟨some 64, _, _, _, _, _⟩) (v := ?_) rfl (by kernel_rfl) (by kernel_rfl) (by kernel_rfl) (fun _ _ _ h => h) (Or.inl ⟨by rfl, ?_⟩) (by assumption) ?_
      rotate_left
      · (intro w' hSw; (try dsimp only at hSw); go_simp <;> (with_reducible rfl))
      try simp only [Act.put, List.setIfInBounds_toArray, List.set_cons_zero, List.set_cons_succ]
      refine wpAnyH_take (i := 17) (oi := ⟨some 65, _, _, _, _, _⟩) (v := ?_) rfl (by kernel_rfl) (by kernel_rfl) (by kernel_rfl) (fun _ _ _ h => h) (Or.inl ⟨by rfl, ?_⟩) (by assumption) ?_
      rotate_left
      · (intro w' hSw; (try dsimp only at hSw); go_simp <;> (with_reducible rfl))
      try simp only [Act.put, List.setIfInBounds_toArray, List.set_cons_zero, List.set_cons_succ]
      refine wpAnyH_take (i := 18) (oi := ⟨some 66, _, _, _, _, _⟩) (v := ?_) rfl (by kernel_rfl) (by kernel_rfl) (by kernel_rfl) (fun _ _ _ h => h) (Or.inl ⟨by rfl, ?_⟩) (by assumption) ?_
      rotate_left
      · (intro w' hSw; (try dsimp only at hSw); go_simp <;> (with_reducible rfl))
      try simp only [Act.put, List.setIfInBounds_toArray, List.set_cons_zero, List.set_cons_succ]
      refine wpAnyH_take (i := 20) (oi := ⟨some 68, _, _, _, _, _⟩) (v := ?_) rfl (by kernel_rfl) (by kernel_rfl) (by kernel_rfl) (fun _ _ _ h => h) (Or.inl ⟨by rfl, ?_⟩) (by assumption) ?_
      rotate_left
      · (intro w' hSw; (try dsimp only at hSw); go_simp <;> (with_reducible rfl))
      try simp only [Act.put, List.setIfInBounds_toArray, List.set_cons_zero, List.set_cons_succ]
      refine wpAnyH_take (i := 21) (oi := ⟨some 69, _, _, _, _, _⟩) (v := ?_) rfl (by kernel_rfl) (by kernel_rfl) (by kernel_rfl) (fun _ _ _ h => h) (Or.inl ⟨by rfl, ?_⟩) (by assumption) ?_
      rotate_left
      · (intro w' hSw; (try dsimp only at hSw); go_simp <;> (with_reducible rfl))
      try simp only [Act.put, List.setIfInBounds_toArray, List.set_cons_zero, List.set_cons_succ]
      refine wpAnyH_take (i := 22) (oi := ⟨some 70, _, _, _, _, _⟩) (v := ?_) rfl (by kernel_rfl) (by kernel_rfl) (by kernel_rfl) (fun _ _ _ h => h) (Or.inl ⟨by rfl, ?_⟩) (by assumption) ?_
      rotate_left
      · (intro w' hSw; (try dsimp only at hSw); go_simp <;> (with_reducible rfl))
      try simp only [Act.put, List.setIfInBounds_toArray, List.set_cons_zero, List.set_cons_succ]
      refine wpAnyH_take (i := 23) (oi := ⟨some 71, _, _, _, _, _⟩) (v := ?_) rfl (by kernel_rfl) (by kernel_rfl) (by kernel_rfl) (fun _ _ _ h => h) (Or.inl ⟨by rfl, ?_⟩) (by assumption) ?_
      rotate_left
      · (intro w' hSw; (try dsimp only at hSw); go_simp <;> (with_reducible rfl))
      try simp only [Act.put, List.setIfInBounds_toArray, List.set_cons_zero, List.set_cons_succ]
      refine wpAnyH_take (i := 24) (oi := ⟨some 72, _, _, _, _, _⟩) (v := ?_) rfl (by kernel_rfl) (by kernel_rfl) (by kernel_rfl) (fun _ _ _ h => h) (Or.inl ⟨by rfl, ?_⟩) (by assumption) ?_
      rotate_left
      · (intro w' hSw; (try dsimp only at hSw); go_simp <;> (with_reducible rfl))
      try simp only [Act.put, List.setIfInBounds_toArray, List.set_cons_zero, List.set_cons_succ]
      refine wpAnyH_ready (rs := [11]) (by kernel_rfl) (by simp) ?_
      refine AllReadyH.cons (o := ⟨some 59, _, _, _, _, _⟩) rfl (fun K' hK => ?_) AllReadyH.nil
      go_simp
      go_at_call 65
      refine (HS1.out _).mono ?_
      rintro e_ w_2 ⟨rfl, hb_2⟩
      replace HX := hide (HX.out.below hb_2)
      replace HN := hide (HN.out.below hb_2)
      replace HB := hide (HB.out.trans (hb_2.mono (by have := HB.out.size; omega)))
      clear hb_2
      go_wp2_with fail
      refine hK.out _ _ (by obtain ⟨i1, i2, i3, i4, i5, i6, i7, i8, i9, i10⟩ := HYC.out _ HB.out; exact ⟨i1, i2, i3, i4, i5, i6, i7, i8, i9, i10, HN.out.at_ 0, HN.out.at_ 1⟩) (fun hHeld => ?_)
      clear hK K'
      try simp only [Act.put, List.setIfInBounds_toArray, List.set_cons_zero, List.set_cons_succ]
      refine wpAnyH_ready (rs := [12, 19]) (by kernel_rfl) (by simp) ?_
      refine AllReadyH.cons (o := ⟨some 60, _, _, _, _, _⟩) rfl (fun K' hK => ?_) (AllReadyH.cons (o := ⟨some 67, _, _, _, _, _⟩) rfl (fun K' hK => ?_) AllReadyH.nil)
      · skip
        go_simp
        obtain ⟨gx, hgx⟩ : ∃ z, w_2.heap.size = z := ⟨_, rfl⟩
        obtain ⟨w_3, hw_3⟩ : ∃ z : World, z = w_2.alloc (.cells #[.int .i64 p3, .int .i64 q3, .int .i64 u1.re, .int .i64 u1.im] 43) := ⟨_, rfl⟩
        try rw [← hw_3]
        have HR0 := hide (show Box w_3 gx 43 #[.int .i64 p3, .int .i64 q3, .int .i64 u1.re, .int .i64 u1.im] by rw [hw_3]; exact Box.made hgx.symm)
        have hc_3 : Below w_2.heap.size w_2 w_3 := by rw [hw_3]; exact (Below.refl _ _).alloc (Nat.le_refl _) _
        clear hw_3
        replace HX := hide (HX.out.below hc_3)
        replace HN := hide (HN.out.below hc_3)
        replace HB := hide (HB.out.trans (hc_3.mono (by have := HB.out.size; omega)))
        clear hc_3
        try simp only [hgx]
        clear hgx
        refine hK.out _ _ (by obtain ⟨i1, i2, i3, i4, i5, i6, i7, i8, i9, i10⟩ := HYC.out _ HB.out; exact ⟨i1, i2, i3, i4, i5, i6, i7, i8, i9, i10, HN.out.at_ 0, HN.out.at_ 1⟩) (fun hHeld => ?_)
        clear hK K'
        try simp only [Act.put, List.setIfInBounds_toArray, List.set_cons_zero, List.set_cons_succ]
        refine wpAnyH_ready (rs := [19]) (by kernel_rfl) (by simp) ?_
        refine AllReadyH.cons (o := ⟨some 67, _, _, _, _, _⟩) rfl (fun K' hK => ?_) AllReadyH.nil
        go_simp
        go_at_call 65
        refine (HS2.out _).mono ?_
        rintro e_ w_4 ⟨rfl, hb_4⟩
        replace HX := hide (HX.out.below hb_4)
        replace HN := hide (HN.out.below hb_4)
        replace HR0 := hide (HR0.out.below hb_4)
        replace HB := hide (HB.out.trans (hb_4.mono (by have := HB.out.size; omega)))
        clear hb_4
        go_wp2_with fail
        refine hK.out _ _ (by obtain ⟨i1, i2, i3, i4, i5, i6, i7, i8, i9, i10⟩ := HYC.out _ HB.out; exact ⟨i1, i2, i3, i4, i5, i6, i7, i8, i9, i10, HN.out.at_ 0, HN.out.at_ 1⟩) (fun hHeld => ?_)
        clear hK K'
        try simp only [Act.put, List.setIfInBounds_toArray, List.set_cons_zero, List.set_cons_succ]
        refine wpAnyH_ready (rs := [25]) (by kernel_rfl) (by simp) ?_
        refine AllReadyH.cons (o := ⟨some 73, _, _, _, _, _⟩) rfl (fun K' hK => ?_) AllReadyH.nil
        go_simp
        obtain ⟨gy, hgy⟩ : ∃ z, w_4.heap.size = z := ⟨_, rfl⟩
        obtain ⟨w_5, hw_5⟩ : ∃ z : World, z = w_4.alloc (.cells #[.int .i64 u2.re, .int .i64 u2.im, .int .i64 p0, .int .i64 q0] 43) := ⟨_, rfl⟩
        try rw [← hw_5]
        have HR1 := hide (show Box w_5 gy 43 #[.int .i64 u2.re, .int .i64 u2.im, .int .i64 p0, .int .i64 q0] by rw [hw_5]; exact Box.made hgy.symm)
        have hc_5 : Below w_4.heap.size w_4 w_5 := by rw [hw_5]; exact (Below.refl _ _).alloc (Nat.le_refl _) _
        clear hw_5
        replace HX := hide (HX.out.below hc_5)
        replace HN := hide (HN.out.below hc_5)
        replace HR0 := hide (HR0.out.below hc_5)
        replace HB := hide (HB.out.trans (hc_5.mono (by have := HB.out.size; omega)))
        clear hc_5
        try simp only [hgy]
        clear hgy
        refine hK.out _ _ (by obtain ⟨i1, i2, i3, i4, i5, i6, i7, i8, i9, i10⟩ := HYC.out _ HB.out; exact ⟨i1, i2, i3, i4, i5, i6, i7, i8, i9, i10, HN.out.at_ 0, HN.out.at_ 1⟩) (fun hHeld => ?_)
        clear hK K'
        try simp only [Act.put, List.setIfInBounds_toArray, List.set_cons_zero, List.set_cons_succ]
        refine wpAnyH_ready (rs := [26]) (by kernel_rfl) (by simp) ?_
        refine AllReadyH.cons (o := ⟨some 74, _, _, _, _, _⟩) rfl (fun K' hK => ?_) AllReadyH.nil
        go_simp
        obtain ⟨gz, hgz⟩ : ∃ z, w_5.heap.size = z := ⟨_, rfl⟩
        obtain ⟨w_6, hw_6⟩ : ∃ z : World, z = w_5.alloc (.cells #[.slice (some ⟨gx, 0, none⟩) 2 2, .slice (some ⟨gy, 0, none⟩) 2 2] 22) := ⟨_, rfl⟩
        try rw [← hw_6]
        have HMZ := hide (show Box w_6 gz 22 #[.slice (some ⟨gx, 0, none⟩) 2 2, .slice (some ⟨gy, 0, none⟩) 2 2] by rw [hw_6]; exact Box.made hgz.symm)
        have hc_6 : Below w_5.heap.size w_5 w_6 := by rw [hw_6]; exact (Below.refl _ _).alloc (Nat.le_refl _) _
        clear hw_6
        replace HX := hide (HX.out.below hc_6)
        replace HN := hide (HN.out.below hc_6)
        replace HR0 := hide (HR0.out.below hc_6)
        replace HR1 := hide (HR1.out.below hc_6)
        replace HB := hide (HB.out.trans (hc_6.mono (by have := HB.out.size; omega)))
        clear hc_6
        try simp only [hgz]
        clear hgz
        refine hK.out _ _ (by obtain ⟨i1, i2, i3, i4, i5, i6, i7, i8, i9, i10⟩ := HYC.out _ HB.out; exact ⟨i1, i2, i3, i4, i5, i6, i7, i8, i9, i10, HN.out.at_ 0, HN.out.at_ 1⟩) (fun hHeld => ?_)
        clear hK K'
        try simp only [Act.put, List.setIfInBounds_toArray, List.set_cons_zero, List.set_cons_succ]
        refine wpAnyH_take (i := 27) (oi := ⟨some 11, _, _, _, _, _⟩) (v := ?_) rfl (by kernel_rfl) (by kernel_rfl) (by kernel_rfl) (fun _ _ _ h => h) (Or.inl ⟨by rfl, ?_⟩) (by assumption) ?_
        rotate_left
        · (intro w' hSw; (try dsimp only at hSw); go_simp <;> (with_reducible rfl))
        try simp only [Act.put, List.setIfInBounds_toArray, List.set_cons_zero, List.set_cons_succ]
        refine wpAnyH_done (by kernel_rfl) ?_ _
        clear hHeld HYC
        have HM := hide (show MatsAt w_6 0 (some ⟨gz, 0, none⟩) k (fun _ => k) J from by
          rw [HK.out]
          obtain ⟨j1, j2, j3, j4⟩ := HJ0.out
          exact mat_lit2 HMZ.out (by decide) (gaus_lit2 (x := ⟨p3, q3⟩) (y := u1) HR0.out (j1.trans HP3.out) j2) (gaus_lit2 (x := u2) (y := ⟨p0, q0⟩) HR1.out j3 (j4.trans HP0.out)))
        go_wp2_with fail
        go_meet
        case rel => exact ⟨gz, 2, by rw [HK.out], HM, HX, HB⟩
      · skip
        go_simp
        go_at_call 65
        refine (HS2.out _).mono ?_
        rintro e_ w_7 ⟨rfl, hb_7⟩
        replace HX := hide (HX.out.below hb_7)
        replace HN := hide (HN.out.below hb_7)
        replace HB := hide (HB.out.trans (hb_7.mono (by have := HB.out.size; omega)))
        clear hb_7
        go_wp2_with fail
        refine hK.out _ _ (by obtain ⟨i1, i2, i3, i4, i5, i6, i7, i8, i9, i10⟩ := HYC.out _ HB.out; exact ⟨i1, i2, i3, i4, i5, i6, i7, i8, i9, i10, HN.out.at_ 0, HN.out.at_ 1⟩) (fun hHeld => ?_)
        clear hK K'
        try simp only [Act.put, List.setIfInBounds_toArray, List.set_cons_zero, List.set_cons_succ]
        refine wpAnyH_ready (rs := [12, 25]) (by kernel_rfl) (by simp) ?_
        refine AllReadyH.cons (o := ⟨some 60, _, _, _, _, _⟩) rfl (fun K' hK => ?_) (AllReadyH.cons (o := ⟨some 73, _, _, _, _, _⟩) rfl (fun K' hK => ?_) AllReadyH.nil)
        · skip
          go_simp
          obtain ⟨gx, hgx⟩ : ∃ z, w_7.heap.size = z := ⟨_, rfl⟩
          obtain ⟨w_8, hw_8⟩ : ∃ z : World, z = w_7.alloc (.cells #[.int .i64 p3, .int .i64 q3, .int .i64 u1.re, .int .i64 u1.im] 43) := ⟨_, rfl⟩
          try rw [← hw_8]
          have HR0 := hide (show Box w_8 gx 43 #[.int .i64 p3, .int .i64 q3, .int .i64 u1.re, .int .i64 u1.im] by rw [hw_8]; exact Box.made hgx.symm)
          have hc_8 : Below w_7.heap.size w_7 w_8 := by rw [hw_8]; exact (Below.refl _ _).alloc (Nat.le_refl _) _
          clear hw_8
          replace HX := hide (HX.out.below hc_8)
          replace HN := hide (HN.out.below hc_8)
          replace HB := hide (HB.out.trans (hc_8.mono (by have := HB.out.size; omega)))
          clear hc_8
          try simp only [hgx]
          clear hgx
          refine hK.out _ _ (by obtain ⟨i1, i2, i3, i4, i5, i6, i7, i8, i9, i10⟩ := HYC.out _ HB.out; exact ⟨i1, i2, i3, i4, i5, i6, i7, i8, i9, i10, HN.out.at_ 0, HN.out.at_ 1⟩) (fun hHeld => ?_)
          clear hK K'
          try simp only [Act.put, List.setIfInBounds_toArray, List.set_cons_zero, List.set_cons_succ]
          refine wpAnyH_ready (rs := [25]) (by kernel_rfl) (by simp) ?_
          refine AllReadyH.cons (o := ⟨some 73, _, _, _, _, _⟩) rfl (fun K' hK => ?_) AllReadyH.nil
          go_simp
          obtain ⟨gy, hgy⟩ : ∃ z, w_8.heap.size = z := ⟨_, rfl⟩
          obtain ⟨w_9, hw_9⟩ : ∃ z : World, z = w_8.alloc (.cells #[.int .i64 u2.re, .int .i64 u2.im, .int .i64 p0, .int .i64 q0] 43) := ⟨_, rfl⟩
          try rw [← hw_9]
          have HR1 := hide (show Box w_9 gy 43 #[.int .i64 u2.re, .int .i64 u2.im, .int .i64 p0, .int .i64 q0] by rw [hw_9]; exact Box.made hgy.symm)
          have hc_9 : Below w_8.heap.size w_8 w_9 := by rw [hw_9]; exact (Below.refl _ _).alloc (Nat.le_refl _) _
          clear hw_9
          replace HX := hide (HX.out.below hc_9)
          replace HN := hide (HN.out.below hc_9)
          replace HR0 := hide (HR0.out.below hc_9)
          replace HB := hide (HB.out.trans (hc_9.mono (by have := HB.out.size; omega)))
          clear hc_9
          try simp only [hgy]
          clear hgy
          refine hK.out _ _ (by obtain ⟨i1, i2, i3, i4, i5, i6, i7, i8, i9, i10⟩ := HYC.out _ HB.out; exact ⟨i1, i2, i3, i4, i5, i6, i7, i8, i9, i10, HN.out.at_ 0, HN.out.at_ 1⟩) (fun hHeld => ?_)
          clear hK K'
          try simp only [Act.put, List.setIfInBounds_toArray, List.set_cons_zero, List.set_cons_succ]
          refine wpAnyH_ready (rs := [26]) (by kernel_rfl) (by simp) ?_
          refine AllReadyH.cons (o := ⟨some 74, _, _, _, _, _⟩) rfl (fun K' hK => ?_) AllReadyH.nil
          go_simp
          obtain ⟨gz, hgz⟩ : ∃ z, w_9.heap.size = z := ⟨_, rfl⟩
          obtain ⟨w_10, hw_10⟩ : ∃ z : World, z = w_9.alloc (.cells #[.slice (some ⟨gx, 0, none⟩) 2 2, .slice (some ⟨gy, 0, none⟩) 2 2] 22) := ⟨_, rfl⟩
          try rw [← hw_10]
          have HMZ := hide (show Box w_10 gz 22 #[.slice (some ⟨gx, 0, none⟩) 2 2, .slice (some ⟨gy, 0, none⟩) 2 2] by rw [hw_10]; exact Box.made hgz.symm)
          have hc_10 : Below w_9.heap.size w_9 w_10 := by rw [hw_10]; exact (Below.refl _ _).alloc (Nat.le_refl _) _
          clear hw_10
          replace HX := hide (HX.out.below hc_10)
          replace HN := hide (HN.out.below hc_10)
          replace HR0 := hide (HR0.out.below hc_10)
          replace HR1 := hide (HR1.out.below hc_10)
          replace HB := hide (HB.out.trans (hc_10.mono (by have := HB.out.size; omega)))
          clear hc_10
          try simp only [hgz]
          clear hgz
          refine hK.out _ _ (by obtain ⟨i1, i2, i3, i4, i5, i6, i7, i8, i9, i10⟩ := HYC.out _ HB.out; exact ⟨i1, i2, i3, i4, i5, i6, i7, i8, i9, i10, HN.out.at_ 0, HN.out.at_ 1⟩) (fun hHeld => ?_)
          clear hK K'
          try simp only [Act.put, List.setIfInBounds_toArray, List.set_cons_zero, List.set_cons_succ]
          refine wpAnyH_take (i := 27) (oi := ⟨some 11, _, _, _, _, _⟩) (v := ?_) rfl (by kernel_rfl) (by kernel_rfl) (by kernel_rfl) (fun _ _ _ h => h) (Or.inl ⟨by rfl, ?_⟩) (by assumption) ?_
          rotate_left
          · (intro w' hSw; (try dsimp only at hSw); go_simp <;> (with_reducible rfl))
          try simp only [Act.put, List.setIfInBounds_toArray, List.set_cons_zero, List.set_cons_succ]
          refine wpAnyH_done (by kernel_rfl) ?_ _
          clear hHeld HYC
          have HM := hide (show MatsAt w_10 0 (some ⟨gz, 0, none⟩) k (fun _ => k) J from by
            rw [HK.out]
            obtain ⟨j1, j2, j3, j4⟩ := HJ0.out
            exact mat_lit2 HMZ.out (by decide) (gaus_lit2 (x := ⟨p3, q3⟩) (y := u1) HR0.out (j1.trans HP3.out) j2) (gaus_lit2 (x := u2) (y := ⟨p0, q0⟩) HR1.out j3 (j4.trans HP0.out)))
          go_wp2_with fail
          go_meet
          case rel => exact ⟨gz, 2, by rw [HK.out], HM, HX, HB⟩
        · skip
          go_simp
          obtain ⟨gy, hgy⟩ : ∃ z, w_7.heap.size = z := ⟨_, rfl⟩
          obtain ⟨w_11, hw_11⟩ : ∃ z : World, z = w_7.alloc (.cells #[.int .i64 u2.re, .int .i64 u2.im, .int .i64 p0, .int .i64 q0] 43) := ⟨_, rfl⟩
          try rw [← hw_11]
          have HR1 := hide (show Box w_11 gy 43 #[.int .i64 u2.re, .int .i64 u2.im, .int .i64 p0, .int .i64 q0] by rw [hw_11]; exact Box.made hgy.symm)
          have hc_11 : Below w_7.heap.size w_7 w_11 := by rw [hw_11]; exact (Below.refl _ _).alloc (Nat.le_refl _) _
          clear hw_11
          replace HX := hide (HX.out.below hc_11)
          replace HN := hide (HN.out.below hc_11)
          replace HB := hide (HB.out.trans (hc_11.mono (by have := HB.out.size; omega)))
          clear hc_11
          try simp only [hgy]
          clear hgy
          refine hK.out _ _ (by obtain ⟨i1, i2, i3, i4, i5, i6, i7, i8, i9, i10⟩ := HYC.out _ HB.out; exact ⟨i1, i2, i3, i4, i5, i6, i7, i8, i9, i10, HN.out.at_ 0, HN.out.at_ 1⟩) (fun hHeld => ?_)
          clear hK K'
          try simp only [Act.put, List.setIfInBounds_toArray, List.set_cons_zero, List.set_cons_succ]
          refine wpAnyH_ready (rs := [12]) (by kernel_rfl) (by simp) ?_
          refine AllReadyH.cons (o := ⟨some 60, _, _, _, _, _⟩) rfl (fun K' hK => ?_) AllReadyH.nil
          go_simp
          obtain ⟨gx, hgx⟩ : ∃ z, w_11.heap.size = z := ⟨_, rfl⟩
          obtain ⟨w_12, hw_12⟩ : ∃ z : World, z = w_11.alloc (.cells #[.int .i64 p3, .int .i64 q3, .int .i64 u1.re, .int .i64 u1.im] 43) := ⟨_, rfl⟩
          try rw [← hw_12]
          have HR0 := hide (show Box w_12 gx 43 #[.int .i64 p3, .int .i64 q3, .int .i64 u1.re, .int .i64 u1.im] by rw [hw_12]; exact Box.made hgx.symm)
          have hc_12 : Below w_11.heap.size w_11 w_12 := by rw [hw_12]; exact (Below.refl _ _).alloc (Nat.le_refl _) _
          clear hw_12
          replace HX := hide (HX.out.below hc_12)
          replace HN := hide (HN.out.below hc_12)
          replace HR1 := hide (HR1.out.below hc_12)
          replace HB := hide (HB.out.trans (hc_12.mono (by have := HB.out.size; omega)))
          clear hc_12
          try simp only [hgx]
          clear hgx
          refine hK.out _ _ (by obtain ⟨i1, i2, i3, i4, i5, i6, i7, i8, i9, i10⟩ := HYC.out _ HB.out; exact ⟨i1, i2, i3, i4, i5, i6, i7, i8, i9, i10, HN.out.at_ 0, HN.out.at_ 1⟩) (fun hHeld => ?_)
          clear hK K'
          try simp only [Act.put, List.setIfInBounds_toArray, List.set_cons_zero, List.set_cons_succ]
          refine wpAnyH_ready (rs := [26]) (by kernel_rfl) (by simp) ?_
          refine AllReadyH.cons (o := ⟨some 74, _, _, _, _, _⟩) rfl (fun K' hK => ?_) AllReadyH.nil
          go_simp
          obtain ⟨gz, hgz⟩ : ∃ z, w_12.heap.size = z := ⟨_, rfl⟩
          obtain ⟨w_13, hw_13⟩ : ∃ z : World, z = w_12.alloc (.cells #[.slice (some ⟨gx, 0, none⟩) 2 2, .slice (some ⟨gy, 0, none⟩) 2 2] 22) := ⟨_, rfl⟩
          try rw [← hw_13]
          have HMZ := hide (show Box w_13 gz 22 #[.slice (some ⟨gx, 0, none⟩) 2 2, .slice (some ⟨gy, 0, none⟩) 2 2] by rw [hw_13]; exact Box.made hgz.symm)
          have hc_13 : Below w_12.heap.size w_12 w_13 := by rw [hw_13]; exact (Below.refl _ _).alloc (Nat.le_refl _) _
          clear hw_13
          replace HX := hide (HX.out.below hc_13)
          replace HN := hide (HN.out.below hc_13)
          replace HR1 := hide (HR1.out.below hc_13)
          replace HR0 := hide (HR0.out.below hc_13)
          replace HB := hide (HB.out.trans (hc_13.mono (by have := HB.out.size; omega)))
          clear hc_13
          try simp only [hgz]
          clear hgz
          refine hK.out _ _ (by obtain ⟨i1, i2, i3, i4, i5, i6, i7, i8, i9, i10⟩ := HYC.out _ HB.out; exact ⟨i1, i2, i3, i4, i5, i6, i7, i8, i9, i10, HN.out.at_ 0, HN.out.at_ 1⟩) (fun hHeld => ?_)
          clear hK K'
          try simp only [Act.put, List.setIfInBounds_toArray, List.set_cons_zero, List.set_cons_succ]
          refine wpAnyH_take (i := 27) (oi := ⟨some 11, _, _, _, _, _⟩) (v := ?_) rfl (by kernel_rfl) (by kernel_rfl) (by kernel_rfl) (fun _ _ _ h => h) (Or.inl ⟨by rfl, ?_⟩) (by assumption) ?_
          rotate_left
          · (intro w' hSw; (try dsimp only at hSw); go_simp <;> (with_reducible rfl))
          try simp only [Act.put, List.setIfInBounds_toArray, List.set_cons_zero, List.set_cons_succ]
          refine wpAnyH_done (by kernel_rfl) ?_ _
          clear hHeld HYC
          have HM := hide (show MatsAt w_13 0 (some ⟨gz, 0, none⟩) k (fun _ => k) J from by
            rw [HK.out]
            obtain ⟨j1, j2, j3, j4⟩ := HJ0.out
            exact mat_lit2 HMZ.out (by decide) (gaus_lit2 (x := ⟨p3, q3⟩) (y := u1) HR0.out (j1.trans HP3.out) j2) (gaus_lit2 (x := u2) (y := ⟨p0, q0⟩) HR1.out j3 (j4.trans HP0.out)))
          go_wp2_with fail
          go_meet
          case rel => exact ⟨gz, 2, by rw [HK.out], HM, HX, HB⟩
    case rest =>
      obtain ⟨g, cg, rfl, HM, HX2, HB2⟩ := hcut
      obtain ⟨w7, rfl⟩ : ∃ x : World, x = wc := ⟨_, rfl⟩
      clear HX HB HO1 HO2 hl4 y0 y00 z00 hR0
      have HX := HX2
      have HB := HB2
      clear HX2 HB2
      obtain ⟨b, bo, _, _, rfl, -, -, -, -, -, -⟩ := HJ.out 0 (by omega)
      have hq1 : 1 ≤ q := by have h9 := hlk.q1; have h8 := HQ.out; omega
      have hq9 : q ≤ 200 := by have h9 := hlk.q9; have h8 := HQ.out; omega
      have HAP2 := hide (HAP.out g 0 b bo cg w7 HM.out (HJ.out.below HB.out))
      have HLG := hide (fun (A : Option Addr) (c : Nat) W h => largeR_any A k c (fun _ => q) S 100000000 W (by decide) (by omega) (fun _ _ => by omega) h)
      simp only [rowsB_large] at HLG
      have HGM := hide (fun r c W (hc : c < q) => gmulS_any cj (T r c) 3163 400000000000 W HGS.out (HGW.out r c hc) (by decide))
      simp only [← HSD.out] at HGM
      clear HAP HGW hok hlk HI HJ HNL HJF HM HQ
      go_wp2_with fail
      refine HAP2.out.mono ?_
      rintro e_ w8 ⟨v, V, rfl, hv, hb8⟩
      obtain ⟨gv, cv, rfl⟩ := hv.some_ (by omega)
      have hB8 : b7 < w7.heap.size := HX.out.lt
      obtain ⟨B, hB⟩ : ∃ z, w7.heap.size = z := ⟨_, rfl⟩
      have hwB : w.heap.size ≤ B := by rw [← hB]; exact HB.out.size
      rw [hB] at hv hB8
      have HP := hide (hv.congr (V' := V) (L' := fun _ => q) (F' := halfF T S 0 0) (fun i hi => ⟨rfl, rfl, fun c _ => (show T i c = halfF T S 0 0 i c by unfold halfF; rw [if_neg (by omega)])⟩))
      replace HX := hide (HX.out.below hb8)
      replace HB := hide (HB.out.trans (hb8.mono HB.out.size))
      have HVS := hide (fun i (hi : i < k) => (show ∃ g c, V i = .slice (some ⟨g, 0, none⟩) q c from OwnGaus.some_ (n := q) (hv.2.1 i hi).1 (by omega)))
      clear hv hb8 HAP2 hB
      go_wp2_with fail
      go_loopw [14, 15] (fun z _ wr => ∃ i : Nat, i ≤ k ∧ z = .int .i64 (i : Int) ∧ Hid (OwnPlane wr B (.slice (some ⟨gv, 0, none⟩) k cv) k V (fun _ => q) (halfF T S i 0)) ∧ Hid (Box wr b7 43 #[.int .i64 dr, .int .i64 di]) ∧ Hid (Below w.heap.size w wr)) (fun z _ _ => k - (Go.RowKit.intOf z).toNat)
      case atStart => exact ⟨0, Nat.zero_le _, rfl, HP, HX, HB⟩
      case round =>
        clear HP HX HB
        obtain ⟨i, hi, rfl, HP, HX, HB⟩ := hrel
        obtain ⟨wA, rfl⟩ : ∃ x : World, x = wr := ⟨_, rfl⟩
        by_cases hlt : i < k
        case neg =>
          obtain rfl : k = i := by omega
          have hltz : ¬ (k : Int) < (k : Int) := by omega
          have HPS := hide (HP.out.congr (V' := V) (L' := fun _ => q) (F' := S) (fun p hp => ⟨rfl, rfl, fun c _ => if_pos (.inl hp)⟩))
          obtain ⟨Az, cz, ez, -, -, hmz⟩ := HPS.out.form
          injection ez with e1 e2 e3
          subst e1
          subst e3
          have HMS := hide (hmz.weak (Nat.zero_le _))
          obtain ⟨bb, hbb⟩ : ∃ z, rowsB 100000000 k q S = z := ⟨_, rfl⟩
          rw [hbb] at HE
          simp only [hbb] at HLG
          clear hbb hmz HPS HP HVS HGM HCJ HGS HSD
          rcases bb with _ | _
          · obtain rfl : E = 8 := HE.out
            obtain rfl : G = 0 := HG.out.trans (if_neg (by decide))
            simp only [Bool.not_false] at HLG
            clear HE HG
            go_wp2_with fail
            refine (HLG.out _ _ _ HMS.out).mono ?_
            rintro e_ w9 ⟨rfl, hb9⟩
            have HB2 := hide (HB.out.trans (hb9.mono HB.out.size))
            go_wp2_with fail
            go_ret3
            exact ⟨_, rfl, GotMat.nothing (by decide), HB2.out⟩
          · obtain rfl : E = 0 := HE.out
            obtain rfl : G = gn := HG.out.trans (if_pos rfl)
            simp only [Bool.not_true] at HLG
            clear HE HG
            go_wp2_with fail
            refine (HLG.out _ _ _ HMS.out).mono ?_
            rintro e_ w9 ⟨rfl, hb9⟩
            have HB2 := hide (HB.out.trans (hb9.mono HB.out.size))
            replace HMS := hide (HMS.out.below hb9)
            go_wp2_with fail
            go_ret3
            exact ⟨_, rfl, ⟨_, k, cv, rfl, (if_pos rfl).symm, HMS.out⟩, HB2.out⟩
        have hltz : (i : Int) < (k : Int) := by omega
        obtain ⟨bi, ci, hVi⟩ := HVS.out i hlt
        have HVI := hide hVi
        have HRC := hide (fun W c F (h : OwnPlane W B (.slice (some ⟨gv, 0, none⟩) k c) k V (fun _ => q) F) => (h.at_ rfl hlt).trans (by rw [hVi]))
        have HRG := hide (fun W c F (h : OwnPlane W B (.slice (some ⟨gv, 0, none⟩) k c) k V (fun _ => q) F) => (hVi ▸ (h.2.1 i hlt).1 : OwnGaus W B (.slice (some ⟨bi, 0, none⟩) q ci) q (F i)))
        have y0 := HRC.out _ _ _ HP.out
        have hgl := (HP.out.lt (k := gv) rfl).2
        clear hVi
        go_wp2_with fail
        clear y0 hgl
        go_loopw [15] (fun z wr => ∃ c : Nat, c ≤ q ∧ z = .int .i64 (c : Int) ∧ Hid (OwnPlane wr B (.slice (some ⟨gv, 0, none⟩) k cv) k V (fun _ => q) (halfF T S i c)) ∧ Hid (Box wr b7 43 #[.int .i64 dr, .int .i64 di]) ∧ Hid (Below w.heap.size w wr)) (fun z _ => q - (Go.RowKit.intOf z).toNat)
        case atStart => exact ⟨0, Nat.zero_le _, rfl, HP, HX, HB⟩
        case round =>
          clear HP HX HB
          obtain ⟨c, hc, rfl, HP, HX, HB⟩ := hrel
          obtain ⟨wC, rfl⟩ : ∃ x : World, x = wr := ⟨_, rfl⟩
          have y0 := HRC.out _ _ _ HP.out
          have hgl := (HP.out.lt (k := gv) rfl).2
          by_cases hltc : c < q
          case neg =>
            obtain rfl : q = c := by omega
            have hltcz : ¬ (q : Int) < (q : Int) := by omega
            have HP2 := hide (HP.out.congr (V' := V) (L' := fun _ => q) (F' := halfF T S (i + 1) 0) (fun p hp => ⟨rfl, rfl, fun d hd => by
              have hd2 : d < q := hd
              unfold halfF
              by_cases e : p < i ∨ p = i ∧ d < q
              · rw [if_pos e, if_pos (show p < i + 1 ∨ p = i + 1 ∧ d < 0 by omega)]
              · rw [if_neg e, if_neg (show ¬ (p < i + 1 ∨ p = i + 1 ∧ d < 0) by omega)]⟩))
            clear HGM HCJ HGS HSD HRC HRG HVS HE HG HLG
            go_wp2_with fail
            go_roundw
            case rel => exact ⟨i + 1, by omega, by go_num, HP2, HX, HB⟩
            case measure => simp [Go.RowKit.intOf]; omega
          have hltcz : (c : Int) < (q : Int) := by omega
          have HGK := hide (fun W => HGM.out i c W hltc)
          have hTc : halfF T S i c i c = T i c := by unfold halfF; rw [if_neg (by omega)]
          have HTC := hide (fun W (h : OwnPlane W B (.slice (some ⟨gv, 0, none⟩) k cv) k V (fun _ => q) (halfF T S i c)) => (by obtain ⟨z1, z2⟩ := gaus_at (HRG.out _ _ _ h).gaus hltc; rw [hTc] at z1 z2; simp only [Nat.zero_add] at z1 z2; obtain ⟨f1, f2⟩ := (HRG.out _ _ _ h).frozen2 c; exact ⟨z1, z2, f1, f2, (HRG.out _ _ _ h).lt⟩ : W.cell? ⟨bi, c * 2, none⟩ = some (.int .i64 (T i c).re) ∧ W.cell? ⟨bi, c * 2 + 1, none⟩ = some (.int .i64 (T i c).im) ∧ W.frozen? ⟨bi, c * 2, none⟩ = false ∧ W.frozen? ⟨bi, c * 2 + 1, none⟩ = false ∧ B ≤ bi ∧ bi < W.heap.size))
          have HPU := hide (fun W (h : OwnPlane W B (.slice (some ⟨gv, 0, none⟩) k cv) k V (fun _ => q) (halfF T S i c)) => h.put (b := bi) (d := ci) i c hlt HVI.out (S i c) (halfF T S i (c + 1)) (fun p d _ _ => halfF_put T S i c p d))
          obtain ⟨x, hx⟩ : ∃ z, T i c = z := ⟨_, rfl⟩
          obtain ⟨s, hs⟩ : ∃ z, S i c = z := ⟨_, rfl⟩
          simp only [hx] at HTC HGK
          simp only [hs] at HPU HGK
          clear hTc hx hs HGM
          go_upto_region 25 with fail
          clear y0 hgl
          refine wp_region_held_drew (S := fun w' => w'.cell? ⟨gv, i, none⟩ = some (.slice (some ⟨bi, 0, none⟩) q ci) ∧ w'.cell? ⟨b7, 0, none⟩ = some (.int .i64 dr) ∧ w'.cell? ⟨b7, 1, none⟩ = some (.int .i64 di)) (by kernel_rfl) ⟨HRC.out _ _ _ HP.out, HX.out.at_ 0, HX.out.at_ 1⟩ (fun hHeld => ?_)
          obtain ⟨w_14, hw_14⟩ : ∃ q : World, q = wC.drew := ⟨_, rfl⟩
          rw [← hw_14] at hHeld ⊢
          have hc_14 : Below wC.heap.size wC w_14 := by rw [hw_14]; exact (Below.refl _ _).drew
          clear hw_14
          replace HP := hide (HP.out.below hc_14)
          replace HX := hide (HX.out.below hc_14)
          replace HB := hide (HB.out.trans (hc_14.mono (by have := HB.out.size; omega)))
          clear hc_14
          refine wpAnyH_take (i := 0) (oi := ⟨some 93, _, _, _, _, _⟩) (v := ?_) rfl (by kernel_rfl) (by kernel_rfl) (by kernel_rfl) (fun _ _ _ h => h) (Or.inl ⟨by rfl, ?_⟩) (by assumption) ?_
          rotate_left
          · (intro w' hSw; (try dsimp only at hSw); go_simp <;> (with_reducible rfl))
          try simp only [Act.put, List.setIfInBounds_toArray, List.set_cons_zero, List.set_cons_succ]
          refine wpAnyH_take (i := 1) (oi := ⟨some 94, _, _, _, _, _⟩) (v := ?_) rfl (by kernel_rfl) (by kernel_rfl) (by kernel_rfl) (fun _ _ _ h => h) (Or.inl ⟨by rfl, ?_⟩) (by assumption) ?_
          rotate_left
          · (intro w' hSw; (try dsimp only at hSw); go_simp <;> (with_reducible rfl))
          try simp only [Act.put, List.setIfInBounds_toArray, List.set_cons_zero, List.set_cons_succ]
          refine wpAnyH_take (i := 2) (oi := ⟨some 95, _, _, _, _, _⟩) (v := ?_) rfl (by kernel_rfl) (by kernel_rfl) (by kernel_rfl) (fun _ _ _ h => h) (Or.inl ⟨by rfl, ?_⟩) (by assumption) ?_
          rotate_left
          · (intro w' hSw; (try dsimp only at hSw); go_simp <;> (with_reducible rfl))
          try simp only [Act.put, List.setIfInBounds_toArray, List.set_cons_zero, List.set_cons_succ]
          refine wpAnyH_take (i := 3) (oi := ⟨some 96, _, _, _, _, _⟩) (v := ?_) rfl (by kernel_rfl) (by kernel_rfl) (by kernel_rfl) (fun _ _ _ h => h) (Or.inl ⟨by rfl, ?_⟩) (by assumption) ?_
          rotate_left
          · (intro w' hSw; (try dsimp only at hSw); go_simp <;> (with_reducible rfl))
          try simp only [Act.put, List.setIfInBounds_toArray, List.set_cons_zero, List.set_cons_succ]
          refine wpAnyH_take (i := 4) (oi := ⟨some 97, _, _, _, _, _⟩) (v := ?_) rfl (by kernel_rfl) (by kernel_rfl) (by kernel_rfl) (fun _ _ _ h => h) (Or.inl ⟨by rfl, ?_⟩) (by assumption) ?_
          rotate_left
          · (intro w' hSw; (try dsimp only at hSw); go_simp <;> (with_reducible rfl))
          try simp only [Act.put, List.setIfInBounds_toArray, List.set_cons_zero, List.set_cons_succ]
          refine wpAnyH_take (i := 5) (oi := ⟨some 98, _, _, _, _, _⟩) (v := ?_) rfl (by kernel_rfl) (by kernel_rfl) (by kernel_rfl) (fun _ _ _ h => h) (Or.inl ⟨by rfl, ?_⟩) (by assumption) ?_
          rotate_left
          · (intro w' hSw; (try dsimp only at hSw); go_simp <;> (with_reducible rfl))
          try simp only [Act.put, List.setIfInBounds_toArray, List.set_cons_zero, List.set_cons_succ]
          refine wpAnyH_take (i := 7) (oi := ⟨some 100, _, _, _, _, _⟩) (v := ?_) rfl (by kernel_rfl) (by kernel_rfl) (by kernel_rfl) (fun _ _ _ h => h) (Or.inl ⟨by rfl, ?_⟩) (by assumption) ?_
          rotate_left
          · (intro w' hSw; (try dsimp only at hSw); go_simp <;> (with_reducible rfl))
          try simp only [Act.put, List.setIfInBounds_toArray, List.set_cons_zero, List.set_cons_succ]
          refine wpAnyH_take (i := 8) (oi := ⟨some 101, _, _, _, _, _⟩) (v := ?_) rfl (by kernel_rfl) (by kernel_rfl) (by kernel_rfl) (fun _ _ _ h => h) (Or.inl ⟨by rfl, ?_⟩) (by assumption) ?_
          rotate_left
          · (intro w' hSw; (try dsimp only at hSw); go_simp <;> (with_reducible rfl))
          try simp only [Act.put, List.setIfInBounds_toArray, List.set_cons_zero, List.set_cons_succ]
          refine wpAnyH_take (i := 9) (oi := ⟨some 102, _, _, _, _, _⟩) (v := ?_) rfl (by kernel_rfl) (by kernel_rfl) (by kernel_rfl) (fun _ _ _ h => h) (Or.inl ⟨by rfl, ?_⟩) (by assumption) ?_
          rotate_left
          · (intro w' hSw; (try dsimp only at hSw); go_simp <;> (with_reducible rfl))
          try simp only [Act.put, List.setIfInBounds_toArray, List.set_cons_zero, List.set_cons_succ]
          refine wpAnyH_take (i := 10) (oi := ⟨some 103, _, _, _, _, _⟩) (v := ?_) rfl (by kernel_rfl) (by kernel_rfl) (by kernel_rfl) (fun _ _ _ h => h) (Or.inl ⟨by rfl, ?_⟩) (by assumption) ?_
          rotate_left
          · (intro w' hSw; (try dsimp only at hSw); go_simp <;> (with_reducible rfl))
          try simp only [Act.put, List.setIfInBounds_toArray, List.set_cons_zero, List.set_cons_succ]
          refine wpAnyH_take (i := 11) (oi := ⟨some 104, _, _, _, _, _⟩) (v := ?_) rfl (by kernel_rfl) (by kernel_rfl) (by kernel_rfl) (fun _ _ _ h => h) (Or.inl ⟨by rfl, ?_⟩) (by assumption) ?_
          rotate_left
          · (intro w' hSw; (try dsimp only at hSw); go_simp <;> (with_reducible rfl))
          try simp only [Act.put, List.setIfInBounds_toArray, List.set_cons_zero, List.set_cons_succ]
          refine wpAnyH_take (i := 12) (oi := ⟨some 105, _, _, _, _, _⟩) (v := ?_) rfl (by kernel_rfl) (by kernel_rfl) (by kernel_rfl) (fun _ _ _ h => h) (Or.inl ⟨by rfl, ?_⟩) (by assumption) ?_
          rotate_left
          · (intro w' hSw; (try dsimp only at hSw); go_simp <;> (with_reducible rfl))
          try simp only [Act.put, List.setIfInBounds_toArray, List.set_cons_zero, List.set_cons_succ]
          refine wpAnyH_ready (rs := [6, 13]) (by kernel_rfl) (by simp) ?_
          refine AllReadyH.cons (o := ⟨some 99, _, _, _, _, _⟩) rfl (fun K' hK => ?_) (AllReadyH.cons (o := ⟨some 106, _, _, _, _, _⟩) rfl (fun K' hK => ?_) AllReadyH.nil)
          · skip
            go_simp
            go_at_call 70
            refine (HCJ.out _).mono ?_
            rintro e_ w_15 ⟨rfl, hb_15⟩
            replace HP := hide (HP.out.below hb_15)
            replace HX := hide (HX.out.below hb_15)
            replace HB := hide (HB.out.trans (hb_15.mono (by have := HB.out.size; omega)))
            clear hb_15
            go_wp2_with fail
            refine hK.out _ _ ⟨HRC.out _ _ _ HP.out, HX.out.at_ 0, HX.out.at_ 1⟩ (fun hHeld => ?_)
            clear hK K'
            try simp only [Act.put, List.setIfInBounds_toArray, List.set_cons_zero, List.set_cons_succ]
            refine wpAnyH_ready (rs := [13]) (by kernel_rfl) (by simp) ?_
            refine AllReadyH.cons (o := ⟨some 106, _, _, _, _, _⟩) rfl (fun K' hK => ?_) AllReadyH.nil
            obtain ⟨z1, z2, -, -, -, hz3⟩ := HTC.out _ HP.out
            go_simp
            clear z1 z2 hz3
            refine hK.out _ _ ⟨HRC.out _ _ _ HP.out, HX.out.at_ 0, HX.out.at_ 1⟩ (fun hHeld => ?_)
            clear hK K'
            try simp only [Act.put, List.setIfInBounds_toArray, List.set_cons_zero, List.set_cons_succ]
            refine wpAnyH_ready (rs := [14]) (by kernel_rfl) (by simp) ?_
            refine AllReadyH.cons (o := ⟨some 107, _, _, _, _, _⟩) rfl (fun K' hK => ?_) AllReadyH.nil
            go_simp
            go_at_call 33
            refine (HGK.out _).mono ?_
            rintro e_ w_16 ⟨rfl, hb_16⟩
            replace HP := hide (HP.out.below hb_16)
            replace HX := hide (HX.out.below hb_16)
            replace HB := hide (HB.out.trans (hb_16.mono (by have := HB.out.size; omega)))
            clear hb_16
            go_wp2_with fail
            refine hK.out _ _ ⟨HRC.out _ _ _ HP.out, HX.out.at_ 0, HX.out.at_ 1⟩ (fun hHeld => ?_)
            clear hK K'
            try simp only [Act.put, List.setIfInBounds_toArray, List.set_cons_zero, List.set_cons_succ]
            refine wpAnyH_take (i := 15) (oi := ⟨some 108, _, _, _, _, _⟩) (v := ?_) rfl (by kernel_rfl) (by kernel_rfl) (by kernel_rfl) (fun _ _ _ h => h) (Or.inl ⟨by rfl, ?_⟩) (by assumption) ?_
            rotate_left
            · (intro w' hSw; (try dsimp only at hSw); go_simp <;> (with_reducible rfl))
            try simp only [Act.put, List.setIfInBounds_toArray, List.set_cons_zero, List.set_cons_succ]
            refine wpAnyH_ready (rs := [16]) (by kernel_rfl) (by simp) ?_
            refine AllReadyH.cons (o := ⟨none, _, _, _, _, _⟩) rfl (fun K' hK => ?_) AllReadyH.nil
            obtain ⟨z1, z2, f1, f2, hz4, hz3⟩ := HTC.out _ HP.out
            go_simp
            clear z1 z2 f1 f2
            have HP2 := hide (HPU.out _ HP.out)
            have hbb : Below B w_16 ((w_16.setCell ⟨bi, c * 2, none⟩ (.int .i64 s.re)).setCell ⟨bi, c * 2 + 1, none⟩ (.int .i64 s.im)) := ((Below.refl _ _).setCell (p := ⟨bi, c * 2, none⟩) hz4 _).setCell (p := ⟨bi, c * 2 + 1, none⟩) hz4 _
            replace HX := hide (HX.out.kept hbb hB8)
            replace HB := hide (HB.out.trans (hbb.mono hwB))
            clear hz3 hz4 hbb HP
            obtain ⟨w_17, hw_17⟩ : ∃ z : World, (w_16.setCell ⟨bi, c * 2, none⟩ (.int .i64 s.re)).setCell ⟨bi, c * 2 + 1, none⟩ (.int .i64 s.im) = z := ⟨_, rfl⟩
            rw [hw_17] at HP2 HX HB ⊢
            clear hw_17
            have hrc := HRC.out _ _ _ HP2.out
            refine hK.out _ _ ⟨hrc, HX.out.at_ 0, HX.out.at_ 1⟩ (fun hHeld => ?_)
            clear hK K'
            try simp only [Act.put, List.setIfInBounds_toArray, List.set_cons_zero, List.set_cons_succ]
            refine wpAnyH_done (by kernel_rfl) ?_ _
            clear hHeld hrc
            go_wp2_with fail
            go_roundw
            case rel => exact ⟨c + 1, by omega, by go_num, HP2, HX, HB⟩
            case measure => simp [Go.RowKit.intOf]; omega
          · skip
            obtain ⟨z1, z2, -, -, -, hz3⟩ := HTC.out _ HP.out
            go_simp
            clear z1 z2 hz3
            refine hK.out _ _ ⟨HRC.out _ _ _ HP.out, HX.out.at_ 0, HX.out.at_ 1⟩ (fun hHeld => ?_)
            clear hK K'
            try simp only [Act.put, List.setIfInBounds_toArray, List.set_cons_zero, List.set_cons_succ]
            refine wpAnyH_ready (rs := [6]) (by kernel_rfl) (by simp) ?_
            refine AllReadyH.cons (o := ⟨some 99, _, _, _, _, _⟩) rfl (fun K' hK => ?_) AllReadyH.nil
            go_simp
            go_at_call 70
            refine (HCJ.out _).mono ?_
            rintro e_ w_18 ⟨rfl, hb_18⟩
            replace HP := hide (HP.out.below hb_18)
            replace HX := hide (HX.out.below hb_18)
            replace HB := hide (HB.out.trans (hb_18.mono (by have := HB.out.size; omega)))
            clear hb_18
            go_wp2_with fail
            refine hK.out _ _ ⟨HRC.out _ _ _ HP.out, HX.out.at_ 0, HX.out.at_ 1⟩ (fun hHeld => ?_)
            clear hK K'
            try simp only [Act.put, List.setIfInBounds_toArray, List.set_cons_zero, List.set_cons_succ]
            refine wpAnyH_ready (rs := [14]) (by kernel_rfl) (by simp) ?_
            refine AllReadyH.cons (o := ⟨some 107, _, _, _, _, _⟩) rfl (fun K' hK => ?_) AllReadyH.nil
            go_simp
            go_at_call 33
            refine (HGK.out _).mono ?_
            rintro e_ w_19 ⟨rfl, hb_19⟩
            replace HP := hide (HP.out.below hb_19)
            replace HX := hide (HX.out.below hb_19)
            replace HB := hide (HB.out.trans (hb_19.mono (by have := HB.out.size; omega)))
            clear hb_19
            go_wp2_with fail
            refine hK.out _ _ ⟨HRC.out _ _ _ HP.out, HX.out.at_ 0, HX.out.at_ 1⟩ (fun hHeld => ?_)
            clear hK K'
            try simp only [Act.put, List.setIfInBounds_toArray, List.set_cons_zero, List.set_cons_succ]
            refine wpAnyH_take (i := 15) (oi := ⟨some 108, _, _, _, _, _⟩) (v := ?_) rfl (by kernel_rfl) (by kernel_rfl) (by kernel_rfl) (fun _ _ _ h => h) (Or.inl ⟨by rfl, ?_⟩) (by assumption) ?_
            rotate_left
            · (intro w' hSw; (try dsimp only at hSw); go_simp <;> (with_reducible rfl))
            try simp only [Act.put, List.setIfInBounds_toArray, List.set_cons_zero, List.set_cons_succ]
            refine wpAnyH_ready (rs := [16]) (by kernel_rfl) (by simp) ?_
            refine AllReadyH.cons (o := ⟨none, _, _, _, _, _⟩) rfl (fun K' hK => ?_) AllReadyH.nil
            obtain ⟨z1, z2, f1, f2, hz4, hz3⟩ := HTC.out _ HP.out
            go_simp
            clear z1 z2 f1 f2
            have HP2 := hide (HPU.out _ HP.out)
            have hbb : Below B w_19 ((w_19.setCell ⟨bi, c * 2, none⟩ (.int .i64 s.re)).setCell ⟨bi, c * 2 + 1, none⟩ (.int .i64 s.im)) := ((Below.refl _ _).setCell (p := ⟨bi, c * 2, none⟩) hz4 _).setCell (p := ⟨bi, c * 2 + 1, none⟩) hz4 _
            replace HX := hide (HX.out.kept hbb hB8)
            replace HB := hide (HB.out.trans (hbb.mono hwB))
            clear hz3 hz4 hbb HP
            obtain ⟨w_20, hw_20⟩ : ∃ z : World, (w_19.setCell ⟨bi, c * 2, none⟩ (.int .i64 s.re)).setCell ⟨bi, c * 2 + 1, none⟩ (.int .i64 s.im) = z := ⟨_, rfl⟩
            rw [hw_20] at HP2 HX HB ⊢
            clear hw_20
            have hrc := HRC.out _ _ _ HP2.out
            refine hK.out _ _ ⟨hrc, HX.out.at_ 0, HX.out.at_ 1⟩ (fun hHeld => ?_)
            clear hK K'
            try simp only [Act.put, List.setIfInBounds_toArray, List.set_cons_zero, List.set_cons_succ]
            refine wpAnyH_done (by kernel_rfl) ?_ _
            clear hHeld hrc
            go_wp2_with fail
            go_roundw
            case rel => exact ⟨c + 1, by omega, by go_num, HP2, HX, HB⟩
            case measure => simp [Go.RowKit.intOf]; omega
end Go.Proofs.Ytceohaeebdhmjaa
