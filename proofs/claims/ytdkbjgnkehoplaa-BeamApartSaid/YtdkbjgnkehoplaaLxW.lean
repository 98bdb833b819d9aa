/- Lemmas: E50. -/
import Derived.Test.YtdkbjgnkehoplaaBq09
import Derived.Test.YtdkbjgnkehoplaaBq15
set_option linter.unusedVariables false
set_option linter.unusedSimpArgs false
/- The walk of BeamApart. -/
namespace Go.Proofs.Ytdkbjgnkehoplaa
open Go.RowKit Go.Great
set_option maxHeartbeats 8000000 in
set_option maxRecDepth 100000 in
theorem beamApart_walk (A B : Option Addr) (n c m d : Nat) (X Y : Nat → Gau) (w : World) (hn9 : n ≤ 9223372036854775807) (hm9 : m ≤ 9223372036854775807) (hI : GausAt w 0 A n X) (hJ : GausAt w 0 B m Y) :
    Calls Try.prog 6 #[.slice A n c, .slice B m d] w fun e w' => e = .returned (.bool true) ∧ Below w.heap.size w w' := by
  have HI := hide hI
  have HJ := hide hJ
  clear hI hJ
  have HTT := hide (fun W (h : GausAt W 0 A n X) (k : GausAt W 0 B m Y) => TwoErr_any A B n c m d X Y W hn9 hm9 h k)
  have HTZ := hide (TwoC.of (n := n) (m := m) (X := X) (Y := Y))
  obtain ⟨t, ht⟩ : ∃ z, tchE n m X Y = z := ⟨_, rfl⟩
  simp only [ht] at HTT HTZ
  clear ht
  have HB := hide (Below.refl w.heap.size w)
  go_enter Try.func6, Try.ntmps6
  go_wp2_with fail
  refine (awake_any _).mono ?_
  rintro e_ w_1 ⟨rfl, hb_1⟩
  replace HB := hide (HB.out.trans (hb_1.mono HB.out.size))
  clear hb_1
  go_wp2_with fail
  refine (HTT.out _ (HI.out.below HB.out) (HJ.out.below HB.out)).mono ?_
  rintro e_ w_2 ⟨rfl, hb_2⟩
  replace HB := hide (HB.out.trans (hb_2.mono HB.out.size))
  clear hb_2
  by_cases h0 : t = 0
  case neg =>
    have tv : (t != 0) = true := by simpa using h0
    go_wp2_with fail
    go_ret
    exact ⟨rfl, HB.out⟩
  obtain ⟨rfl, hT⟩ := HTZ.out h0
  subst h0
  have hn8 := hT.x.n8
  clear HTZ HTT
  have HCX := hide (fun W (h : GausAt W 0 A m X) => copyGausses5_any A m c X W (by omega) h)
  have HCY := hide (fun W (h : GausAt W 0 B m Y) => copyGausses5_any B m d Y W (by omega) h)
  have HCO := hide (fun (C D : Option Addr) u v W (h : GausAt W 0 C m X) (k : GausAt W 0 D m Y) => Cleared_two C D m u v X Y W hT h k)
  have HPO := hide (fun (C D : Option Addr) u v W (h : GausAt W 0 C m X) (k : GausAt W 0 D m Y) => PartOf_two C D m u v X Y W hT h k)
  have HPS := hide (fun (C D : Option Addr) u v W (h : GausAt W 0 C m Y) (k : GausAt W 0 D m X) => PartOf_two C D m u v Y X W hT.swap h k)
  have HKO := hide (fun (C D : Option Addr) u v W (h : GausAt W 0 C m X) (k : GausAt W 0 D m Y) => KeptOf_two C D m u v X Y W hT h k)
  simp only [ptN_swap X Y m, ptD_swap X Y m] at HPS
  have HFR := hide hT.fraction
  have HLE := hide hT.left
  have HSM := hide hT.small
  have HAP := hide (clear_apart X Y m)
  have HSX := hide hT.x.small
  clear hT
  obtain ⟨L, hL⟩ : ∃ z, clF X Y m = z := ⟨_, rfl⟩
  obtain ⟨N, hN⟩ : ∃ z, ptN X Y m = z := ⟨_, rfl⟩
  obtain ⟨D, hD⟩ : ∃ z, ptD X Y m = z := ⟨_, rfl⟩
  simp only [hL, hN, hD] at HCO HPO HPS HKO HFR HLE HSM HAP
  clear hL hN hD
  obtain ⟨f0, f1, f2, f3, -⟩ := HFR.out
  obtain ⟨K, hK⟩ : ∃ z, D - N = z := ⟨_, rfl⟩
  simp only [hK] at HKO HLE
  have kb : 0 ≤ K ∧ K ≤ 207360000 := by omega
  have q1 : IntKind.i64.wrap (N + K) = D := by rw [IntWalk.i64_in _ (by omega)]; omega
  have j1 : ¬ D < 1 := by omega
  have j2 : ¬ N < 0 := by omega
  have j3 : ¬ K < 0 := by omega
  clear hK kb f0 f1 f2 f3 HFR
  have HIA := hide (fun k (hk : k ≤ m) => inA_le (G := X) (H := L) (M := 2000000) (n := k) fun j hj => ⟨(HSX.out j (by omega)).more (by decide), HSM.out j (by omega)⟩)
  have HIB := hide (fun k (hk : k ≤ m) => inB_le (G := X) (H := L) (M := 2000000) (n := k) fun j hj => ⟨(HSX.out j (by omega)).more (by decide), HSM.out j (by omega)⟩)
  have HSA := hide (fun k => (show inA X L (k + 1) = inA X L k + ((X k).re * (L k).re + (X k).im * (L k).im) from rfl))
  have HSB := hide (fun k => (show inB X L (k + 1) = inB X L k + ((X k).re * (L k).im - (X k).im * (L k).re) from rfl))
  have HHS := hide (fun k => hrB_succ k L)
  have H0 := hide (show inA X L 0 = 0 ∧ inB X L 0 = 0 ∧ hrB 0 L = false from ⟨rfl, rfl, rfl⟩)
  obtain ⟨I, hI⟩ : ∃ z, inA X L = z := ⟨_, rfl⟩
  obtain ⟨J, hJ⟩ : ∃ z, inB X L = z := ⟨_, rfl⟩
  obtain ⟨hB, hHB⟩ : ∃ z : Nat → Bool, (fun k => hrB k L) = z := ⟨_, rfl⟩
  have hHB2 : ∀ k, hrB k L = hB k := fun k => congrFun hHB k
  simp only [hI, hJ, hHB2] at HIA HIB HSA HSB HHS H0 HAP HLE
  clear hI hJ hHB hHB2
  go_wp2_with fail
  refine (HCX.out _ (HI.out.below HB.out)).mono ?_
  rintro e_ w_3 ⟨C1, uC1, rfl, hi, hb_3⟩
  replace HB := hide (HB.out.trans (hb_3.mono HB.out.size))
  clear hb_3
  have HCC := hide hi
  clear hi
  go_wp2_with fail
  refine (HCY.out _ (HJ.out.below HB.out)).mono ?_
  rintro e_ w_4 ⟨D1, uD1, rfl, hi, hb_4⟩
  replace HCC := hide (HCC.out.below hb_4)
  replace HB := hide (HB.out.trans (hb_4.mono HB.out.size))
  clear hb_4
  have HCD := hide hi
  clear hi
  go_wp2_with fail
  refine (HCO.out _ _ _ _ _ HCC.out HCD.out).mono ?_
  rintro e_ w_5 ⟨E, f, rfl, hi, hb_5⟩
  replace HCC := hide (HCC.out.below hb_5)
  replace HCD := hide (HCD.out.below hb_5)
  replace HB := hide (HB.out.trans (hb_5.mono HB.out.size))
  clear hb_5
  clear HCC HCD
  have HE := hide hi
  clear hi
  go_wp2_with fail
  refine (HCX.out _ (HI.out.below HB.out)).mono ?_
  rintro e_ w_6 ⟨C2, uC2, rfl, hi, hb_6⟩
  replace HE := hide (HE.out.below hb_6)
  replace HB := hide (HB.out.trans (hb_6.mono HB.out.size))
  clear hb_6
  have HCC := hide hi
  clear hi
  go_wp2_with fail
  refine (HCY.out _ (HJ.out.below HB.out)).mono ?_
  rintro e_ w_7 ⟨D2, uD2, rfl, hi, hb_7⟩
  replace HE := hide (HE.out.below hb_7)
  replace HCC := hide (HCC.out.below hb_7)
  replace HB := hide (HB.out.trans (hb_7.mono HB.out.size))
  clear hb_7
  have HCD := hide hi
  clear hi
  go_wp2_with fail
  refine (HPO.out _ _ _ _ _ HCC.out HCD.out).mono ?_
  rintro e_ w_8 ⟨rfl, hb_8⟩
  replace HE := hide (HE.out.below hb_8)
  replace HCC := hide (HCC.out.below hb_8)
  replace HCD := hide (HCD.out.below hb_8)
  replace HB := hide (HB.out.trans (hb_8.mono HB.out.size))
  clear hb_8
  clear HCC HCD
  go_upto_region 7 with fail
  obtain ⟨g7, hg7⟩ : ∃ q, w_8.heap.size = q := ⟨_, rfl⟩
  obtain ⟨w_9, hw_9⟩ : ∃ q : World, q = w_8.alloc (.cells #[.int .i64 N, .int .i64 D] 57) := ⟨_, rfl⟩
  try rw [← hw_9]
  have HX7 := hide (show Box w_9 g7 57 #[.int .i64 N, .int .i64 D] by rw [hw_9]; exact Box.made hg7.symm)
  have hc_9 : Below w_8.heap.size w_8 w_9 := by rw [hw_9]; exact (Below.refl _ _).alloc (Nat.le_refl _) _
  clear hw_9
  replace HE := hide (HE.out.below hc_9)
  replace HB := hide (HB.out.trans (hc_9.mono HB.out.size))
  clear hc_9
  try simp only [hg7]
  clear hg7
  go_wp2_with fail
  refine (HCY.out _ (HJ.out.below HB.out)).mono ?_
  rintro e_ w_10 ⟨C3, uC3, rfl, hi, hb_10⟩
  replace HE := hide (HE.out.below hb_10)
  replace HX7 := hide (HX7.out.below hb_10)
  replace HB := hide (HB.out.trans (hb_10.mono HB.out.size))
  clear hb_10
  have HCC := hide hi
  clear hi
  go_wp2_with fail
  refine (HCX.out _ (HI.out.below HB.out)).mono ?_
  rintro e_ w_11 ⟨D3, uD3, rfl, hi, hb_11⟩
  replace HE := hide (HE.out.below hb_11)
  replace HX7 := hide (HX7.out.below hb_11)
  replace HCC := hide (HCC.out.below hb_11)
  replace HB := hide (HB.out.trans (hb_11.mono HB.out.size))
  clear hb_11
  have HCD := hide hi
  clear hi
  go_wp2_with fail
  refine (HPS.out _ _ _ _ _ HCC.out HCD.out).mono ?_
  rintro e_ w_12 ⟨rfl, hb_12⟩
  replace HE := hide (HE.out.below hb_12)
  replace HX7 := hide (HX7.out.below hb_12)
  replace HCC := hide (HCC.out.below hb_12)
  replace HCD := hide (HCD.out.below hb_12)
  replace HB := hide (HB.out.trans (hb_12.mono HB.out.size))
  clear hb_12
  clear HCC HCD
  go_upto_region 8 with fail
  obtain ⟨g9, hg9⟩ : ∃ q, w_12.heap.size = q := ⟨_, rfl⟩
  obtain ⟨w_13, hw_13⟩ : ∃ q : World, q = w_12.alloc (.cells #[.int .i64 N, .int .i64 D] 57) := ⟨_, rfl⟩
  try rw [← hw_13]
  have HX9 := hide (show Box w_13 g9 57 #[.int .i64 N, .int .i64 D] by rw [hw_13]; exact Box.made hg9.symm)
  have hc_13 : Below w_12.heap.size w_12 w_13 := by rw [hw_13]; exact (Below.refl _ _).alloc (Nat.le_refl _) _
  clear hw_13
  replace HE := hide (HE.out.below hc_13)
  replace HX7 := hide (HX7.out.below hc_13)
  replace HB := hide (HB.out.trans (hc_13.mono HB.out.size))
  clear hc_13
  try simp only [hg9]
  clear hg9
  go_wp2_with fail
  refine (HCX.out _ (HI.out.below HB.out)).mono ?_
  rintro e_ w_14 ⟨C4, uC4, rfl, hi, hb_14⟩
  replace HE := hide (HE.out.below hb_14)
  replace HX7 := hide (HX7.out.below hb_14)
  replace HX9 := hide (HX9.out.below hb_14)
  replace HB := hide (HB.out.trans (hb_14.mono HB.out.size))
  clear hb_14
  have HCC := hide hi
  clear hi
  go_wp2_with fail
  refine (HCY.out _ (HJ.out.below HB.out)).mono ?_
  rintro e_ w_15 ⟨D4, uD4, rfl, hi, hb_15⟩
  replace HE := hide (HE.out.below hb_15)
  replace HX7 := hide (HX7.out.below hb_15)
  replace HX9 := hide (HX9.out.below hb_15)
  replace HCC := hide (HCC.out.below hb_15)
  replace HB := hide (HB.out.trans (hb_15.mono HB.out.size))
  clear hb_15
  have HCD := hide hi
  clear hi
  go_wp2_with fail
  refine (HKO.out _ _ _ _ _ HCC.out HCD.out).mono ?_
  rintro e_ w_16 ⟨rfl, hb_16⟩
  replace HE := hide (HE.out.below hb_16)
  replace HX7 := hide (HX7.out.below hb_16)
  replace HX9 := hide (HX9.out.below hb_16)
  replace HCC := hide (HCC.out.below hb_16)
  replace HCD := hide (HCD.out.below hb_16)
  replace HB := hide (HB.out.trans (hb_16.mono HB.out.size))
  clear hb_16
  clear HCC HCD
  go_upto_region 9 with fail
  obtain ⟨g11, hg11⟩ : ∃ q, w_16.heap.size = q := ⟨_, rfl⟩
  obtain ⟨w_17, hw_17⟩ : ∃ q : World, q = w_16.alloc (.cells #[.int .i64 K, .int .i64 D] 57) := ⟨_, rfl⟩
  try rw [← hw_17]
  have HX11 := hide (show Box w_17 g11 57 #[.int .i64 K, .int .i64 D] by rw [hw_17]; exact Box.made hg11.symm)
  have hc_17 : Below w_16.heap.size w_16 w_17 := by rw [hw_17]; exact (Below.refl _ _).alloc (Nat.le_refl _) _
  clear hw_17
  replace HE := hide (HE.out.below hc_17)
  replace HX7 := hide (HX7.out.below hc_17)
  replace HX9 := hide (HX9.out.below hc_17)
  replace HB := hide (HB.out.trans (hc_17.mono HB.out.size))
  clear hc_17
  try simp only [hg11]
  clear hg11
  clear HCX HCY HCO HPO HPS HKO
  obtain ⟨x0, x1, -, -, hlx⟩ := HX7.out.c2
  obtain ⟨y0, y1, -, -, hly⟩ := HX9.out.c2
  obtain ⟨z0, z1, -, -, hlz⟩ := HX11.out.c2
  go_upto_region 12 with fail
  clear x0 x1 y0 y1 z0 z1 q1 j1 j2 j3
  obtain ⟨W1, hW1⟩ : ∃ q : World, w_17 = q := ⟨_, rfl⟩
  rw [hW1] at HE HX11 HB ⊢
  have HI1 := hide (HI.out.below HB.out)
  clear hW1 HX7 HX9
  obtain ⟨g13, hg13⟩ : ∃ q, W1.heap.size = q := ⟨_, rfl⟩
  obtain ⟨w2, hw2⟩ : ∃ q : World, q = W1.alloc (.cells #[.int .i64 0, .int .i64 0] 53) := ⟨_, rfl⟩
  try rw [← hw2]
  have HX13 := hide (show Box w2 g13 53 #[.int .i64 0, .int .i64 0] by rw [hw2]; exact Box.made hg13.symm)
  have HL := hide (show Below W1.heap.size W1 w2 by rw [hw2]; exact (Below.refl _ _).alloc (Nat.le_refl _) _)
  have hge : W1.heap.size ≤ g13 := by omega
  try simp only [hg13]
  clear hw2 hg13
  go_wp2_with fail
  go_loopw [14, 15] (fun s i wr => ∃ k : Nat, k ≤ m ∧ s = .bool (hB k) ∧ i = .int .i64 (k : Int) ∧ Hid (Box wr g13 53 #[.int .i64 (I k), .int .i64 (J k)]) ∧ Hid (Below W1.heap.size W1 wr)) (fun _ i _ => m - (Go.RowKit.intOf i).toNat)
  case atStart => exact ⟨0, Nat.zero_le _, by rw [H0.out.2.2], rfl, hide (by rw [H0.out.1, H0.out.2.1]; exact HX13.out), HL⟩
  case round =>
    clear HX13 HL
    obtain ⟨k, hk, rfl, rfl, HX13, HL⟩ := hrel
    obtain ⟨wA, rfl⟩ : ∃ x : World, x = wr := ⟨_, rfl⟩
    by_cases hlt : k < m
    case pos =>
      have hltz : (k : Int) < (m : Int) := by omega
      obtain ⟨b1, o1, hb1e, -, l1, c0, c1⟩ := HI1.out k hlt
      obtain ⟨b2, o2, hb2e, -, l2, d0, d1⟩ := HE.out k hlt
      subst hb1e
      subst hb2e
      have hx := HSX.out k hlt
      have hy := HSM.out k hlt
      have hia := HIA.out k hk
      have hib := HIB.out k hk
      have SA := HSA.out k
      have SB := HSB.out k
      have HHK := HHS.out k
      rw [show heardB (L k) = ((L k).re != 0 || (L k).im != 0) from rfl] at HHK
      generalize X k = x at *
      generalize L k = y at *
      have HGC := hide (fun W => gconj5_any x W (hx.more (by decide)))
      have HGM := hide (fun W => gmul5_any ⟨x.re, -x.im⟩ y 30 2000000 W ⟨hx.re, by have := hx.im; show -30 ≤ -x.im ∧ -x.im ≤ 30; omega⟩ hy (by decide))
      have m1 := mul_le2 hx.re hy.re (by decide) (by decide)
      have m2 := mul_le2 hx.im hy.im (by decide) (by decide)
      have m3 := mul_le2 hx.re hy.im (by decide) (by decide)
      have m4 := mul_le2 hx.im hy.re (by decide) (by decide)
      have e1 : x.re * y.re - -x.im * y.im = x.re * y.re + x.im * y.im := by rw [Int.neg_mul]; omega
      have e2 : x.re * y.im + -x.im * y.re = x.re * y.im - x.im * y.re := by rw [Int.neg_mul]; omega
      obtain ⟨p, hp⟩ : ∃ z, x.re * y.re + x.im * y.im = z := ⟨_, rfl⟩
      obtain ⟨r, hr⟩ : ∃ z, x.re * y.im - x.im * y.re = z := ⟨_, rfl⟩
      have hpb : -120000000 ≤ p ∧ p ≤ 120000000 := by omega
      have hrb : -120000000 ≤ r ∧ r ≤ 120000000 := by omega
      simp only [e1, e2, hp, hr] at HGM SA SB
      obtain ⟨u, hu⟩ : ∃ z, I k = z := ⟨_, rfl⟩
      obtain ⟨v, hv⟩ : ∃ z, J k = z := ⟨_, rfl⟩
      simp only [hu, hv] at hia hib SA SB HX13
      have HGA := hide (fun W => gadd5_any ⟨u, v⟩ ⟨p, r⟩ W (by show -9223372036854775808 ≤ u + p ∧ u + p ≤ 9223372036854775807; omega) (by show -9223372036854775808 ≤ v + r ∧ v + r ≤ 9223372036854775807; omega))
      have HUA := hide SA
      have HUB := hide SB
      obtain ⟨x0, hx0⟩ : ∃ z, x.re = z := ⟨_, rfl⟩
      obtain ⟨x1, hx1⟩ : ∃ z, x.im = z := ⟨_, rfl⟩
      obtain ⟨y0, hy0⟩ : ∃ z, y.re = z := ⟨_, rfl⟩
      obtain ⟨y1, hy1⟩ : ∃ z, y.im = z := ⟨_, rfl⟩
      simp only [hx0, hx1, hy0, hy1] at HGC HGM c0 c1 d0 d1 HHK
      obtain ⟨bk, hbk⟩ : ∃ z, hB k = z := ⟨_, rfl⟩
      simp only [hbk] at HHK ⊢
      have HHN := hide HHK
      have HC0 := hide c0
      have HC1 := hide c1
      have HD0 := hide d0
      have HD1 := hide d1
      clear c0 c1 d0 d1 hx hy hia hib SA SB m1 m2 m3 m4 e1 e2 hp hr hpb hrb hu hv hx0 hx1 hy0 hy1 HHK hbk
      go_upto_region 16 with fail
      refine wp_region_held_drew (S := fun w' => w'.cell? ⟨b1, o1 + k * 2, none⟩ = some (.int .i64 x0) ∧ w'.cell? ⟨b1, o1 + k * 2 + 1, none⟩ = some (.int .i64 x1) ∧ w'.cell? ⟨b2, o2 + k * 2, none⟩ = some (.int .i64 y0) ∧ w'.cell? ⟨b2, o2 + k * 2 + 1, none⟩ = some (.int .i64 y1)) (by kernel_rfl) ⟨(HL.out.cell (p := ⟨b1, o1 + k * 2, none⟩) l1).trans HC0.out, (HL.out.cell (p := ⟨b1, o1 + k * 2 + 1, none⟩) l1).trans HC1.out, (HL.out.cell (p := ⟨b2, o2 + k * 2, none⟩) l2).trans HD0.out, (HL.out.cell (p := ⟨b2, o2 + k * 2 + 1, none⟩) l2).trans HD1.out⟩ (fun hHeld => ?_)
      obtain ⟨w_18, hw_18⟩ : ∃ q : World, q = wA.drew := ⟨_, rfl⟩
      rw [← hw_18] at hHeld ⊢
      have hc_18 : Below wA.heap.size wA w_18 := by rw [hw_18]; exact (Below.refl _ _).drew
      clear hw_18
      replace HX13 := hide (HX13.out.below hc_18)
      replace HL := hide (HL.out.trans (hc_18.mono HL.out.size))
      clear hc_18
      refine wpAnyH_take (i := 1) (oi := ⟨some 120, _, _, _, _, _⟩) (v := ?_) rfl (by kernel_rfl) (by kernel_rfl) (by kernel_rfl) (fun _ _ _ h => h) (Or.inl ⟨by rfl, ?_⟩) (by assumption) ?_
      rotate_left
      · (intro w' hSw; (try dsimp only at hSw); go_simp <;> (with_reducible rfl))
      try simp only [Act.put, List.setIfInBounds_toArray, List.set_cons_zero, List.set_cons_succ]
      refine wpAnyH_take (i := 2) (oi := ⟨some 121, _, _, _, _, _⟩) (v := ?_) rfl (by kernel_rfl) (by kernel_rfl) (by kernel_rfl) (fun _ _ _ h => h) (Or.inl ⟨by rfl, ?_⟩) (by assumption) ?_
      rotate_left
      · (intro w' hSw; (try dsimp only at hSw); go_simp <;> (with_reducible rfl))
      try simp only [Act.put, List.setIfInBounds_toArray, List.set_cons_zero, List.set_cons_succ]
      refine wpAnyH_take (i := 3) (oi := ⟨some 122, _, _, _, _, _⟩) (v := ?_) rfl (by kernel_rfl) (by kernel_rfl) (by kernel_rfl) (fun _ _ _ h => h) (Or.inl ⟨by rfl, ?_⟩) (by assumption) ?_
      rotate_left
      · (intro w' hSw; (try dsimp only at hSw); go_simp <;> (with_reducible rfl))
      try simp only [Act.put, List.setIfInBounds_toArray, List.set_cons_zero, List.set_cons_succ]
      refine wpAnyH_take (i := 4) (oi := ⟨some 123, _, _, _, _, _⟩) (v := ?_) rfl (by kernel_rfl) (by kernel_rfl) (by kernel_rfl) (fun _ _ _ h => h) (Or.inl ⟨by rfl, ?_⟩) (by assumption) ?_
      rotate_left
      · (intro w' hSw; (try dsimp only at hSw); go_simp <;> (with_reducible rfl))
      try simp only [Act.put, List.setIfInBounds_toArray, List.set_cons_zero, List.set_cons_succ]
      refine wpAnyH_take (i := 6) (oi := ⟨some 125, _, _, _, _, _⟩) (v := ?_) rfl (by kernel_rfl) (by kernel_rfl) (by kernel_rfl) (fun _ _ _ h => h) (Or.inl ⟨by rfl, ?_⟩) (by assumption) ?_
      rotate_left
      · (intro w' hSw; (try dsimp only at hSw); go_simp <;> (with_reducible rfl))
      try simp only [Act.put, List.setIfInBounds_toArray, List.set_cons_zero, List.set_cons_succ]
      refine wpAnyH_take (i := 7) (oi := ⟨some 126, _, _, _, _, _⟩) (v := ?_) rfl (by kernel_rfl) (by kernel_rfl) (by kernel_rfl) (fun _ _ _ h => h) (Or.inl ⟨by rfl, ?_⟩) (by assumption) ?_
      rotate_left
      · (intro w' hSw; (try dsimp only at hSw); go_simp <;> (with_reducible rfl))
      try simp only [Act.put, List.setIfInBounds_toArray, List.set_cons_zero, List.set_cons_succ]
      refine wpAnyH_take (i := 8) (oi := ⟨some 127, _, _, _, _, _⟩) (v := ?_) rfl (by kernel_rfl) (by kernel_rfl) (by kernel_rfl) (fun _ _ _ h => h) (Or.inl ⟨by rfl, ?_⟩) (by assumption) ?_
      rotate_left
      · (intro w' hSw; (try dsimp only at hSw); go_simp <;> (with_reducible rfl))
      try simp only [Act.put, List.setIfInBounds_toArray, List.set_cons_zero, List.set_cons_succ]
      refine wpAnyH_take (i := 9) (oi := ⟨some 128, _, _, _, _, _⟩) (v := ?_) rfl (by kernel_rfl) (by kernel_rfl) (by kernel_rfl) (fun _ _ _ h => h) (Or.inl ⟨by rfl, ?_⟩) (by assumption) ?_
      rotate_left
      · (intro w' hSw; (try dsimp only at hSw); go_simp <;> (with_reducible rfl))
      try simp only [Act.put, List.setIfInBounds_toArray, List.set_cons_zero, List.set_cons_succ]
      refine wpAnyH_ready (rs := [0, 5]) (by kernel_rfl) (by simp) ?_
      refine AllReadyH.cons (o := ⟨some 119, _, _, _, _, _⟩) rfl (fun K' hK => ?_) (AllReadyH.cons (o := ⟨some 124, _, _, _, _, _⟩) rfl (fun K' hK => ?_) AllReadyH.nil)
      · skip
        obtain ⟨z0, z1, f0, f1, hly⟩ := HX13.out.c2
        go_simp
        clear z0 z1 f0 f1 hly
        refine hK.out _ _ ⟨(HL.out.cell (p := ⟨b1, o1 + k * 2, none⟩) l1).trans HC0.out, (HL.out.cell (p := ⟨b1, o1 + k * 2 + 1, none⟩) l1).trans HC1.out, (HL.out.cell (p := ⟨b2, o2 + k * 2, none⟩) l2).trans HD0.out, (HL.out.cell (p := ⟨b2, o2 + k * 2 + 1, none⟩) l2).trans HD1.out⟩ (fun hHeld => ?_)
        clear hK K'
        try simp only [Act.put, List.setIfInBounds_toArray, List.set_cons_zero, List.set_cons_succ]
        refine wpAnyH_ready (rs := [5]) (by kernel_rfl) (by simp) ?_
        refine AllReadyH.cons (o := ⟨some 124, _, _, _, _, _⟩) rfl (fun K' hK => ?_) AllReadyH.nil
        go_simp
        go_at_call 41
        refine (HGC.out _).mono ?_
        rintro e_ w_19 ⟨rfl, hb_19⟩
        replace HX13 := hide (HX13.out.below hb_19)
        replace HL := hide (HL.out.trans (hb_19.mono HL.out.size))
        clear hb_19
        go_wp2_with fail
        refine hK.out _ _ ⟨(HL.out.cell (p := ⟨b1, o1 + k * 2, none⟩) l1).trans HC0.out, (HL.out.cell (p := ⟨b1, o1 + k * 2 + 1, none⟩) l1).trans HC1.out, (HL.out.cell (p := ⟨b2, o2 + k * 2, none⟩) l2).trans HD0.out, (HL.out.cell (p := ⟨b2, o2 + k * 2 + 1, none⟩) l2).trans HD1.out⟩ (fun hHeld => ?_)
        clear hK K'
        try simp only [Act.put, List.setIfInBounds_toArray, List.set_cons_zero, List.set_cons_succ]
        refine wpAnyH_ready (rs := [10]) (by kernel_rfl) (by simp) ?_
        refine AllReadyH.cons (o := ⟨some 129, _, _, _, _, _⟩) rfl (fun K' hK => ?_) AllReadyH.nil
        go_simp
        go_at_call 40
        refine (HGM.out _).mono ?_
        rintro e_ w_20 ⟨rfl, hb_20⟩
        replace HX13 := hide (HX13.out.below hb_20)
        replace HL := hide (HL.out.trans (hb_20.mono HL.out.size))
        clear hb_20
        go_wp2_with fail
        refine hK.out _ _ ⟨(HL.out.cell (p := ⟨b1, o1 + k * 2, none⟩) l1).trans HC0.out, (HL.out.cell (p := ⟨b1, o1 + k * 2 + 1, none⟩) l1).trans HC1.out, (HL.out.cell (p := ⟨b2, o2 + k * 2, none⟩) l2).trans HD0.out, (HL.out.cell (p := ⟨b2, o2 + k * 2 + 1, none⟩) l2).trans HD1.out⟩ (fun hHeld => ?_)
        clear hK K'
        try simp only [Act.put, List.setIfInBounds_toArray, List.set_cons_zero, List.set_cons_succ]
        refine wpAnyH_ready (rs := [11]) (by kernel_rfl) (by simp) ?_
        refine AllReadyH.cons (o := ⟨some 130, _, _, _, _, _⟩) rfl (fun K' hK => ?_) AllReadyH.nil
        go_simp
        go_at_call 39
        refine (HGA.out _).mono ?_
        rintro e_ w_21 ⟨rfl, hb_21⟩
        replace HX13 := hide (HX13.out.below hb_21)
        replace HL := hide (HL.out.trans (hb_21.mono HL.out.size))
        clear hb_21
        go_wp2_with fail
        refine hK.out _ _ ⟨(HL.out.cell (p := ⟨b1, o1 + k * 2, none⟩) l1).trans HC0.out, (HL.out.cell (p := ⟨b1, o1 + k * 2 + 1, none⟩) l1).trans HC1.out, (HL.out.cell (p := ⟨b2, o2 + k * 2, none⟩) l2).trans HD0.out, (HL.out.cell (p := ⟨b2, o2 + k * 2 + 1, none⟩) l2).trans HD1.out⟩ (fun hHeld => ?_)
        clear hK K'
        try simp only [Act.put, List.setIfInBounds_toArray, List.set_cons_zero, List.set_cons_succ]
        refine wpAnyH_ready (rs := [12]) (by kernel_rfl) (by simp) ?_
        refine AllReadyH.cons (o := ⟨none, _, _, _, _, _⟩) rfl (fun K' hK => ?_) AllReadyH.nil
        obtain ⟨z0, z1, f0, f1, hly⟩ := HX13.out.c2
        go_simp
        clear z0 z1 f0 f1 hly
        replace HX13 := hide (HX13.out.put2 (.int .i64 (u + p)) (.int .i64 (v + r)))
        replace HL := hide ((HL.out.setCell (p := ⟨g13, 0, none⟩) hge (.int .i64 (u + p))).setCell (p := ⟨g13, 1, none⟩) hge (.int .i64 (v + r)))
        obtain ⟨w_22, hw_22⟩ : ∃ q : World, (w_21.setCell ⟨g13, 0, none⟩ (.int .i64 (u + p))).setCell ⟨g13, 1, none⟩ (.int .i64 (v + r)) = q := ⟨_, rfl⟩
        rw [hw_22] at HX13 HL ⊢
        clear hw_22
        refine hK.out _ _ ⟨(HL.out.cell (p := ⟨b1, o1 + k * 2, none⟩) l1).trans HC0.out, (HL.out.cell (p := ⟨b1, o1 + k * 2 + 1, none⟩) l1).trans HC1.out, (HL.out.cell (p := ⟨b2, o2 + k * 2, none⟩) l2).trans HD0.out, (HL.out.cell (p := ⟨b2, o2 + k * 2 + 1, none⟩) l2).trans HD1.out⟩ (fun hHeld => ?_)
        clear hK K'
        try simp only [Act.put, List.setIfInBounds_toArray, List.set_cons_zero, List.set_cons_succ]
        refine wpAnyH_done (by kernel_rfl) ?_ _
        clear hHeld HGC HGM HGA HC0 HC1
        have d0 := (HL.out.cell (p := ⟨b2, o2 + k * 2, none⟩) l2).trans HD0.out
        have d1 := (HL.out.cell (p := ⟨b2, o2 + k * 2 + 1, none⟩) l2).trans HD1.out
        cases bk
        case true =>
          rw [Bool.true_or] at HHN
          go_wp2_with fail
          go_roundw
          case rel => exact ⟨k + 1, by omega, by rw [HHN.out], by go_num, hide (by rw [HUA.out, HUB.out]; exact HX13.out), HL⟩
          case measure => simp [Go.RowKit.intOf]; omega
        case false =>
          rw [Bool.false_or] at HHN
          by_cases hz0 : y0 = 0
          case neg =>
            have t0 : (y0 == 0) = false := by simpa using hz0
            rw [show (y0 != 0) = true by simpa using hz0, Bool.true_or] at HHN
            clear hz0
            go_wp2_with fail
            go_roundw
            case rel => exact ⟨k + 1, by omega, by rw [HHN.out], by go_num, hide (by rw [HUA.out, HUB.out]; exact HX13.out), HL⟩
            case measure => simp [Go.RowKit.intOf]; omega
          subst hz0
          by_cases hz1 : y1 = 0
          case neg =>
            have t0 : (y1 == 0) = false := by simpa using hz1
            rw [show (y1 != 0) = true by simpa using hz1, Bool.or_true] at HHN
            clear hz1
            go_wp2_with fail
            go_roundw
            case rel => exact ⟨k + 1, by omega, by rw [HHN.out], by go_num, hide (by rw [HUA.out, HUB.out]; exact HX13.out), HL⟩
            case measure => simp [Go.RowKit.intOf]; omega
          subst hz1
          replace HHN := hide (show hB (k + 1) = false from HHN.out)
          go_wp2_with fail
          go_roundw
          case rel => exact ⟨k + 1, by omega, by rw [HHN.out], by go_num, hide (by rw [HUA.out, HUB.out]; exact HX13.out), HL⟩
          case measure => simp [Go.RowKit.intOf]; omega
      · skip
        go_simp
        go_at_call 41
        refine (HGC.out _).mono ?_
        rintro e_ w_23 ⟨rfl, hb_23⟩
        replace HX13 := hide (HX13.out.below hb_23)
        replace HL := hide (HL.out.trans (hb_23.mono HL.out.size))
        clear hb_23
        go_wp2_with fail
        refine hK.out _ _ ⟨(HL.out.cell (p := ⟨b1, o1 + k * 2, none⟩) l1).trans HC0.out, (HL.out.cell (p := ⟨b1, o1 + k * 2 + 1, none⟩) l1).trans HC1.out, (HL.out.cell (p := ⟨b2, o2 + k * 2, none⟩) l2).trans HD0.out, (HL.out.cell (p := ⟨b2, o2 + k * 2 + 1, none⟩) l2).trans HD1.out⟩ (fun hHeld => ?_)
        clear hK K'
        try simp only [Act.put, List.setIfInBounds_toArray, List.set_cons_zero, List.set_cons_succ]
        refine wpAnyH_ready (rs := [0, 10]) (by kernel_rfl) (by simp) ?_
        refine AllReadyH.cons (o := ⟨some 119, _, _, _, _, _⟩) rfl (fun K' hK => ?_) (AllReadyH.cons (o := ⟨some 129, _, _, _, _, _⟩) rfl (fun K' hK => ?_) AllReadyH.nil)
        · skip
          obtain ⟨z0, z1, f0, f1, hly⟩ := HX13.out.c2
          go_simp
          clear z0 z1 f0 f1 hly
          refine hK.out _ _ ⟨(HL.out.cell (p := ⟨b1, o1 + k * 2, none⟩) l1).trans HC0.out, (HL.out.cell (p := ⟨b1, o1 + k * 2 + 1, none⟩) l1).trans HC1.out, (HL.out.cell (p := ⟨b2, o2 + k * 2, none⟩) l2).trans HD0.out, (HL.out.cell (p := ⟨b2, o2 + k * 2 + 1, none⟩) l2).trans HD1.out⟩ (fun hHeld => ?_)
          clear hK K'
          try simp only [Act.put, List.setIfInBounds_toArray, List.set_cons_zero, List.set_cons_succ]
          refine wpAnyH_ready (rs := [10]) (by kernel_rfl) (by simp) ?_
          refine AllReadyH.cons (o := ⟨some 129, _, _, _, _, _⟩) rfl (fun K' hK => ?_) AllReadyH.nil
          go_simp
          go_at_call 40
          refine (HGM.out _).mono ?_
          rintro e_ w_24 ⟨rfl, hb_24⟩
          replace HX13 := hide (HX13.out.below hb_24)
          replace HL := hide (HL.out.trans (hb_24.mono HL.out.size))
          clear hb_24
          go_wp2_with fail
          refine hK.out _ _ ⟨(HL.out.cell (p := ⟨b1, o1 + k * 2, none⟩) l1).trans HC0.out, (HL.out.cell (p := ⟨b1, o1 + k * 2 + 1, none⟩) l1).trans HC1.out, (HL.out.cell (p := ⟨b2, o2 + k * 2, none⟩) l2).trans HD0.out, (HL.out.cell (p := ⟨b2, o2 + k * 2 + 1, none⟩) l2).trans HD1.out⟩ (fun hHeld => ?_)
          clear hK K'
          try simp only [Act.put, List.setIfInBounds_toArray, List.set_cons_zero, List.set_cons_succ]
          refine wpAnyH_ready (rs := [11]) (by kernel_rfl) (by simp) ?_
          refine AllReadyH.cons (o := ⟨some 130, _, _, _, _, _⟩) rfl (fun K' hK => ?_) AllReadyH.nil
          go_simp
          go_at_call 39
          refine (HGA.out _).mono ?_
          rintro e_ w_25 ⟨rfl, hb_25⟩
          replace HX13 := hide (HX13.out.below hb_25)
          replace HL := hide (HL.out.trans (hb_25.mono HL.out.size))
          clear hb_25
          go_wp2_with fail
          refine hK.out _ _ ⟨(HL.out.cell (p := ⟨b1, o1 + k * 2, none⟩) l1).trans HC0.out, (HL.out.cell (p := ⟨b1, o1 + k * 2 + 1, none⟩) l1).trans HC1.out, (HL.out.cell (p := ⟨b2, o2 + k * 2, none⟩) l2).trans HD0.out, (HL.out.cell (p := ⟨b2, o2 + k * 2 + 1, none⟩) l2).trans HD1.out⟩ (fun hHeld => ?_)
          clear hK K'
          try simp only [Act.put, List.setIfInBounds_toArray, List.set_cons_zero, List.set_cons_succ]
          refine wpAnyH_ready (rs := [12]) (by kernel_rfl) (by simp) ?_
          refine AllReadyH.cons (o := ⟨none, _, _, _, _, _⟩) rfl (fun K' hK => ?_) AllReadyH.nil
          obtain ⟨z0, z1, f0, f1, hly⟩ := HX13.out.c2
          go_simp
          clear z0 z1 f0 f1 hly
          replace HX13 := hide (HX13.out.put2 (.int .i64 (u + p)) (.int .i64 (v + r)))
          replace HL := hide ((HL.out.setCell (p := ⟨g13, 0, none⟩) hge (.int .i64 (u + p))).setCell (p := ⟨g13, 1, none⟩) hge (.int .i64 (v + r)))
          obtain ⟨w_26, hw_26⟩ : ∃ q : World, (w_25.setCell ⟨g13, 0, none⟩ (.int .i64 (u + p))).setCell ⟨g13, 1, none⟩ (.int .i64 (v + r)) = q := ⟨_, rfl⟩
          rw [hw_26] at HX13 HL ⊢
          clear hw_26
          refine hK.out _ _ ⟨(HL.out.cell (p := ⟨b1, o1 + k * 2, none⟩) l1).trans HC0.out, (HL.out.cell (p := ⟨b1, o1 + k * 2 + 1, none⟩) l1).trans HC1.out, (HL.out.cell (p := ⟨b2, o2 + k * 2, none⟩) l2).trans HD0.out, (HL.out.cell (p := ⟨b2, o2 + k * 2 + 1, none⟩) l2).trans HD1.out⟩ (fun hHeld => ?_)
          clear hK K'
          try simp only [Act.put, List.setIfInBounds_toArray, List.set_cons_zero, List.set_cons_succ]
          refine wpAnyH_done (by kernel_rfl) ?_ _
          clear hHeld HGC HGM HGA HC0 HC1
          have d0 := (HL.out.cell (p := ⟨b2, o2 + k * 2, none⟩) l2).trans HD0.out
          have d1 := (HL.out.cell (p := ⟨b2, o2 + k * 2 + 1, none⟩) l2).trans HD1.out
          cases bk
          case true =>
            rw [Bool.true_or] at HHN
            go_wp2_with fail
            go_roundw
            case rel => exact ⟨k + 1, by omega, by rw [HHN.out], by go_num, hide (by rw [HUA.out, HUB.out]; exact HX13.out), HL⟩
            case measure => simp [Go.RowKit.intOf]; omega
          case false =>
            rw [Bool.false_or] at HHN
            by_cases hz0 : y0 = 0
            case neg =>
              have t0 : (y0 == 0) = false := by simpa using hz0
              rw [show (y0 != 0) = true by simpa using hz0, Bool.true_or] at HHN
              clear hz0
              go_wp2_with fail
              go_roundw
              case rel => exact ⟨k + 1, by omega, by rw [HHN.out], by go_num, hide (by rw [HUA.out, HUB.out]; exact HX13.out), HL⟩
              case measure => simp [Go.RowKit.intOf]; omega
            subst hz0
            by_cases hz1 : y1 = 0
            case neg =>
              have t0 : (y1 == 0) = false := by simpa using hz1
              rw [show (y1 != 0) = true by simpa using hz1, Bool.or_true] at HHN
              clear hz1
              go_wp2_with fail
              go_roundw
              case rel => exact ⟨k + 1, by omega, by rw [HHN.out], by go_num, hide (by rw [HUA.out, HUB.out]; exact HX13.out), HL⟩
              case measure => simp [Go.RowKit.intOf]; omega
            subst hz1
            replace HHN := hide (show hB (k + 1) = false from HHN.out)
            go_wp2_with fail
            go_roundw
            case rel => exact ⟨k + 1, by omega, by rw [HHN.out], by go_num, hide (by rw [HUA.out, HUB.out]; exact HX13.out), HL⟩
            case measure => simp [Go.RowKit.intOf]; omega
        · skip
          go_simp
          go_at_call 40
          refine (HGM.out _).mono ?_
          rintro e_ w_27 ⟨rfl, hb_27⟩
          replace HX13 := hide (HX13.out.below hb_27)
          replace HL := hide (HL.out.trans (hb_27.mono HL.out.size))
          clear hb_27
          go_wp2_with fail
          refine hK.out _ _ ⟨(HL.out.cell (p := ⟨b1, o1 + k * 2, none⟩) l1).trans HC0.out, (HL.out.cell (p := ⟨b1, o1 + k * 2 + 1, none⟩) l1).trans HC1.out, (HL.out.cell (p := ⟨b2, o2 + k * 2, none⟩) l2).trans HD0.out, (HL.out.cell (p := ⟨b2, o2 + k * 2 + 1, none⟩) l2).trans HD1.out⟩ (fun hHeld => ?_)
          clear hK K'
          try simp only [Act.put, List.setIfInBounds_toArray, List.set_cons_zero, List.set_cons_succ]
          refine wpAnyH_ready (rs := [0]) (by kernel_rfl) (by simp) ?_
          refine AllReadyH.cons (o := ⟨some 119, _, _, _, _, _⟩) rfl (fun K' hK => ?_) AllReadyH.nil
          obtain ⟨z0, z1, f0, f1, hly⟩ := HX13.out.c2
          go_simp
          clear z0 z1 f0 f1 hly
          refine hK.out _ _ ⟨(HL.out.cell (p := ⟨b1, o1 + k * 2, none⟩) l1).trans HC0.out, (HL.out.cell (p := ⟨b1, o1 + k * 2 + 1, none⟩) l1).trans HC1.out, (HL.out.cell (p := ⟨b2, o2 + k * 2, none⟩) l2).trans HD0.out, (HL.out.cell (p := ⟨b2, o2 + k * 2 + 1, none⟩) l2).trans HD1.out⟩ (fun hHeld => ?_)
          clear hK K'
          try simp only [Act.put, List.setIfInBounds_toArray, List.set_cons_zero, List.set_cons_succ]
          refine wpAnyH_ready (rs := [11]) (by kernel_rfl) (by simp) ?_
          refine AllReadyH.cons (o := ⟨some 130, _, _, _, _, _⟩) rfl (fun K' hK => ?_) AllReadyH.nil
          go_simp
          go_at_call 39
          refine (HGA.out _).mono ?_
          rintro e_ w_28 ⟨rfl, hb_28⟩
          replace HX13 := hide (HX13.out.below hb_28)
          replace HL := hide (HL.out.trans (hb_28.mono HL.out.size))
          clear hb_28
          go_wp2_with fail
          refine hK.out _ _ ⟨(HL.out.cell (p := ⟨b1, o1 + k * 2, none⟩) l1).trans HC0.out, (HL.out.cell (p := ⟨b1, o1 + k * 2 + 1, none⟩) l1).trans HC1.out, (HL.out.cell (p := ⟨b2, o2 + k * 2, none⟩) l2).trans HD0.out, (HL.out.cell (p := ⟨b2, o2 + k * 2 + 1, none⟩) l2).trans HD1.out⟩ (fun hHeld => ?_)
          clear hK K'
          try simp only [Act.put, List.setIfInBounds_toArray, List.set_cons_zero, List.set_cons_succ]
          refine wpAnyH_ready (rs := [12]) (by kernel_rfl) (by simp) ?_
          refine AllReadyH.cons (o := ⟨none, _, _, _, _, _⟩) rfl (fun K' hK => ?_) AllReadyH.nil
          obtain ⟨z0, z1, f0, f1, hly⟩ := HX13.out.c2
          go_simp
          clear z0 z1 f0 f1 hly
          replace HX13 := hide (HX13.out.put2 (.int .i64 (u + p)) (.int .i64 (v + r)))
          replace HL := hide ((HL.out.setCell (p := ⟨g13, 0, none⟩) hge (.int .i64 (u + p))).setCell (p := ⟨g13, 1, none⟩) hge (.int .i64 (v + r)))
          obtain ⟨w_29, hw_29⟩ : ∃ q : World, (w_28.setCell ⟨g13, 0, none⟩ (.int .i64 (u + p))).setCell ⟨g13, 1, none⟩ (.int .i64 (v + r)) = q := ⟨_, rfl⟩
          rw [hw_29] at HX13 HL ⊢
          clear hw_29
          refine hK.out _ _ ⟨(HL.out.cell (p := ⟨b1, o1 + k * 2, none⟩) l1).trans HC0.out, (HL.out.cell (p := ⟨b1, o1 + k * 2 + 1, none⟩) l1).trans HC1.out, (HL.out.cell (p := ⟨b2, o2 + k * 2, none⟩) l2).trans HD0.out, (HL.out.cell (p := ⟨b2, o2 + k * 2 + 1, none⟩) l2).trans HD1.out⟩ (fun hHeld => ?_)
          clear hK K'
          try simp only [Act.put, List.setIfInBounds_toArray, List.set_cons_zero, List.set_cons_succ]
          refine wpAnyH_done (by kernel_rfl) ?_ _
          clear hHeld HGC HGM HGA HC0 HC1
          have d0 := (HL.out.cell (p := ⟨b2, o2 + k * 2, none⟩) l2).trans HD0.out
          have d1 := (HL.out.cell (p := ⟨b2, o2 + k * 2 + 1, none⟩) l2).trans HD1.out
          cases bk
          case true =>
            rw [Bool.true_or] at HHN
            go_wp2_with fail
            go_roundw
            case rel => exact ⟨k + 1, by omega, by rw [HHN.out], by go_num, hide (by rw [HUA.out, HUB.out]; exact HX13.out), HL⟩
            case measure => simp [Go.RowKit.intOf]; omega
          case false =>
            rw [Bool.false_or] at HHN
            by_cases hz0 : y0 = 0
            case neg =>
              have t0 : (y0 == 0) = false := by simpa using hz0
              rw [show (y0 != 0) = true by simpa using hz0, Bool.true_or] at HHN
              clear hz0
              go_wp2_with fail
              go_roundw
              case rel => exact ⟨k + 1, by omega, by rw [HHN.out], by go_num, hide (by rw [HUA.out, HUB.out]; exact HX13.out), HL⟩
              case measure => simp [Go.RowKit.intOf]; omega
            subst hz0
            by_cases hz1 : y1 = 0
            case neg =>
              have t0 : (y1 == 0) = false := by simpa using hz1
              rw [show (y1 != 0) = true by simpa using hz1, Bool.or_true] at HHN
              clear hz1
              go_wp2_with fail
              go_roundw
              case rel => exact ⟨k + 1, by omega, by rw [HHN.out], by go_num, hide (by rw [HUA.out, HUB.out]; exact HX13.out), HL⟩
              case measure => simp [Go.RowKit.intOf]; omega
            subst hz1
            replace HHN := hide (show hB (k + 1) = false from HHN.out)
            go_wp2_with fail
            go_roundw
            case rel => exact ⟨k + 1, by omega, by rw [HHN.out], by go_num, hide (by rw [HUA.out, HUB.out]; exact HX13.out), HL⟩
            case measure => simp [Go.RowKit.intOf]; omega
    obtain rfl : k = m := by omega
    obtain ⟨e1, e2⟩ := HAP.out
    rw [e1, e2] at HX13
    rw [HLE.out]
    clear e1 e2 HLE HAP HHS HSA HSB HIA HIB H0
    have HX11b := hide (HX11.out.below HL.out)
    have HBZ := hide (HB.out.trans (HL.out.mono HB.out.size))
    obtain ⟨x0, x1, -, -, hlx⟩ := HX13.out.c2
    obtain ⟨z0, z1, -, -, hlz⟩ := HX11b.out.c2
    by_cases hK : K = 0
    · subst hK
      rw [show ((0 : Int) != 0) = false from rfl]
      go_wp2_with fail
      go_ret
      exact ⟨by first | rfl | simp, HBZ.out⟩
    · have t0 : (K != 0) = true := by simpa using hK
      rw [t0]
      clear hK
      go_wp2_with fail
      go_ret
      exact ⟨by first | rfl | simp, HBZ.out⟩
end Go.Proofs.Ytdkbjgnkehoplaa
