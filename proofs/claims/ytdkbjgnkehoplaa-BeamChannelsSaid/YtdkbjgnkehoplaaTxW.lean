/- Lemmas: E48. -/
import Derived.Test.YtdkbjgnkehoplaaBq09
import Derived.Test.YtdkbjgnkehoplaaBq12
import Derived.Test.YtdkbjgnkehoplaaBq13
import Derived.Test.YtdkbjgnkehoplaaBq15
set_option linter.unusedVariables false
set_option linter.unusedSimpArgs false
/- The walk of BeamChannels. -/
namespace Go.Proofs.Ytdkbjgnkehoplaa
open Go.RowKit Go.Great
set_option maxHeartbeats 8000000 in
set_option maxRecDepth 100000 in
theorem beamChannels_walk (A B : Option Addr) (n c m d : Nat) (X Y : Nat → Gau) (w : World) (hn9 : n ≤ 9223372036854775807) (hm9 : m ≤ 9223372036854775807) (hI : GausAt w 0 A n X) (hJ : GausAt w 0 B m Y) :
    Calls Try.prog 5 #[.slice A n c, .slice B m d] w fun e w' => e = .returned (.bool true) ∧ Below w.heap.size w w' := by
  have HI := hide hI
  have HJ := hide hJ
  clear hI hJ
  have HNX := hide (fun W => numbers_any A n c W)
  have HNY := hide (fun W => numbers_any B m d W)
  by_cases h10 : n ≤ 10
  case neg =>
    have HN2 := hide (fun W => (show Calls Try.prog 12 #[.slice A n c] W fun e w' => e = .returned (.bool false) ∧ Below W.heap.size W w' by
      have := HNX.out W
      rw [show decide ((n : Int) ≤ 10) = false by simp; omega] at this
      exact this))
    clear HNX HNY
    have HB := hide (Below.refl w.heap.size w)
    go_enter Try.func5, Try.ntmps5
    go_wp2_with fail
    refine (awake_any _).mono ?_
    rintro e_ w_1 ⟨rfl, hb_1⟩
    replace HB := hide (HB.out.trans (hb_1.mono HB.out.size))
    clear hb_1
    go_wp2_with fail
    refine (HN2.out _).mono ?_
    rintro e_ w_2 ⟨rfl, hb_2⟩
    replace HB := hide (HB.out.trans (hb_2.mono HB.out.size))
    clear hb_2
    go_wp2_with fail
    go_ret
    exact ⟨by first | rfl | simp, HB.out⟩
  have HN2 := hide (fun W => (show Calls Try.prog 12 #[.slice A n c] W fun e w' => e = .returned (.bool true) ∧ Below W.heap.size W w' by
    have := HNX.out W
    rw [show decide ((n : Int) ≤ 10) = true by simp; omega] at this
    exact this))
  by_cases k10 : m ≤ 10
  case neg =>
    have HN3 := hide (fun W => (show Calls Try.prog 12 #[.slice B m d] W fun e w' => e = .returned (.bool false) ∧ Below W.heap.size W w' by
      have := HNY.out W
      rw [show decide ((m : Int) ≤ 10) = false by simp; omega] at this
      exact this))
    clear HNX HNY
    have HB := hide (Below.refl w.heap.size w)
    go_enter Try.func5, Try.ntmps5
    go_wp2_with fail
    refine (awake_any _).mono ?_
    rintro e_ w_3 ⟨rfl, hb_3⟩
    replace HB := hide (HB.out.trans (hb_3.mono HB.out.size))
    clear hb_3
    go_wp2_with fail
    refine (HN2.out _).mono ?_
    rintro e_ w_4 ⟨rfl, hb_4⟩
    replace HB := hide (HB.out.trans (hb_4.mono HB.out.size))
    clear hb_4
    go_wp2_with fail
    refine (HN3.out _).mono ?_
    rintro e_ w_5 ⟨rfl, hb_5⟩
    replace HB := hide (HB.out.trans (hb_5.mono HB.out.size))
    clear hb_5
    go_wp2_with fail
    go_ret
    exact ⟨by first | rfl | simp, HB.out⟩
  have HN3 := hide (fun W => (show Calls Try.prog 12 #[.slice B m d] W fun e w' => e = .returned (.bool true) ∧ Below W.heap.size W w' by
    have := HNY.out W
    rw [show decide ((m : Int) ≤ 10) = true by simp; omega] at this
    exact this))
  clear HNX HNY
  have HCX := hide (fun W (h : GausAt W 0 A n X) => copyGausses5_any A n c X W (by omega) h)
  have HCY := hide (fun W (h : GausAt W 0 B m Y) => copyGausses5_any B m d Y W (by omega) h)
  have HIO := hide (fun (C : Option Addr) (D : Option Addr) u v W (h : GausAt W 0 C n X) (k : GausAt W 0 D m Y) => InnerOf_any C D n u m v X Y W (by omega) (by omega) h k)
  have HPO := hide (fun (C : Option Addr) (D : Option Addr) u v W (h : GausAt W 0 C n X) (k : GausAt W 0 D m Y) => PartOf_any C D n u m v X Y W (by omega) (by omega) h k)
  have HKO := hide (fun (C : Option Addr) (D : Option Addr) u v W (h : GausAt W 0 C n X) (k : GausAt W 0 D m Y) => KeptOf_any C D n u m v X Y W (by omega) (by omega) h k)
  have HCO := hide (fun (C : Option Addr) (D : Option Addr) u v W (h : GausAt W 0 C n X) (k : GausAt W 0 D m Y) => Cleared_any C D n u m v X Y W (by omega) (by omega) h k)
  have HBT := hide (fun W (h : GausAt W 0 A n X) (k : GausAt W 0 B m Y) => BothErr_any A B n c m d X Y W hn9 hm9 h k)
  have HTT := hide (fun W (h : GausAt W 0 A n X) (k : GausAt W 0 B m Y) => TwoErr_any A B n c m d X Y W hn9 hm9 h k)
  have HR := hide (show ioR n m X Y = if bthE n m X Y = 0 then ⟨inA X Y n, inB X Y n⟩ else Gau.zero from rfl)
  have HN := hide (show poN n m X Y = if tchE n m X Y = 0 then ptN X Y n else 0 from rfl)
  have HD := hide (show poD n m X Y = if tchE n m X Y = 0 then ptD X Y n else 0 from rfl)
  have HK := hide (show koN n m X Y = if tchE n m X Y = 0 then ptD X Y n - ptN X Y n else 0 from rfl)
  have HBZ := hide (bthE_zero (n := n) (m := m) (X := X) (Y := Y))
  have HTZ := hide (tchE_ok (n := n) (m := m) (X := X) (Y := Y))
  have HTB := hide (tchE_if n m X Y)
  obtain ⟨R, hR⟩ : ∃ z, ioR n m X Y = z := ⟨_, rfl⟩
  obtain ⟨N, hN⟩ : ∃ z, poN n m X Y = z := ⟨_, rfl⟩
  obtain ⟨D, hD⟩ : ∃ z, poD n m X Y = z := ⟨_, rfl⟩
  obtain ⟨K, hK⟩ : ∃ z, koN n m X Y = z := ⟨_, rfl⟩
  obtain ⟨b, hb⟩ : ∃ z, bthE n m X Y = z := ⟨_, rfl⟩
  obtain ⟨t, ht⟩ : ∃ z, tchE n m X Y = z := ⟨_, rfl⟩
  simp only [hR, hN, hD, hK, hb, ht] at HIO HPO HKO HCO HBT HTT HR HN HD HK HBZ HTZ HTB
  clear hR hN hD hK hb ht
  obtain ⟨r0, hr0⟩ : ∃ z, R.re = z := ⟨_, rfl⟩
  obtain ⟨r1, hr1⟩ : ∃ z, R.im = z := ⟨_, rfl⟩
  simp only [hr0, hr1] at HIO
  have HRC := hide (show R.re = r0 ∧ R.im = r1 from ⟨hr0, hr1⟩)
  clear hr0 hr1
  have HB := hide (Below.refl w.heap.size w)
  go_enter Try.func5, Try.ntmps5
  go_wp2_with fail
  refine (awake_any _).mono ?_
  rintro e_ w_6 ⟨rfl, hb_6⟩
  replace HB := hide (HB.out.trans (hb_6.mono HB.out.size))
  clear hb_6
  go_wp2_with fail
  refine (HN2.out _).mono ?_
  rintro e_ w_7 ⟨rfl, hb_7⟩
  replace HB := hide (HB.out.trans (hb_7.mono HB.out.size))
  clear hb_7
  go_wp2_with fail
  refine (HN3.out _).mono ?_
  rintro e_ w_8 ⟨rfl, hb_8⟩
  replace HB := hide (HB.out.trans (hb_8.mono HB.out.size))
  clear hb_8
  go_wp2_with fail
  refine (HCX.out _ (HI.out.below HB.out)).mono ?_
  rintro e_ w_9 ⟨C1, u1, rfl, hi, hb_9⟩
  replace HB := hide (HB.out.trans (hb_9.mono HB.out.size))
  clear hb_9
  have HC1 := hide hi
  clear hi
  go_wp2_with fail
  refine (HCY.out _ (HJ.out.below HB.out)).mono ?_
  rintro e_ w_10 ⟨D1, v1, rfl, hi, hb_10⟩
  replace HC1 := hide (HC1.out.below hb_10)
  replace HB := hide (HB.out.trans (hb_10.mono HB.out.size))
  clear hb_10
  have HC2 := hide hi
  clear hi
  go_wp2_with fail
  refine (HIO.out _ _ _ _ _ HC1.out HC2.out).mono ?_
  rintro e_ w_11 ⟨rfl, hb_11⟩
  replace HC1 := hide (HC1.out.below hb_11)
  replace HC2 := hide (HC2.out.below hb_11)
  replace HB := hide (HB.out.trans (hb_11.mono HB.out.size))
  clear hb_11
  clear HC1 HC2
  go_upto_region 6 with fail
  obtain ⟨g5, hg5⟩ : ∃ q, w_11.heap.size = q := ⟨_, rfl⟩
  obtain ⟨w_12, hw_12⟩ : ∃ q : World, q = w_11.alloc (.cells #[.int .i64 r0, .int .i64 r1] 53) := ⟨_, rfl⟩
  try rw [← hw_12]
  have HX5 := hide (show Box w_12 g5 53 #[.int .i64 r0, .int .i64 r1] by rw [hw_12]; exact Box.made hg5.symm)
  have hc_12 : Below w_11.heap.size w_11 w_12 := by rw [hw_12]; exact (Below.refl _ _).alloc (Nat.le_refl _) _
  clear hw_12
  replace HB := hide (HB.out.trans (hc_12.mono HB.out.size))
  clear hc_12
  try simp only [hg5]
  clear hg5
  go_wp2_with fail
  refine (HCX.out _ (HI.out.below HB.out)).mono ?_
  rintro e_ w_13 ⟨C2, u2, rfl, hi, hb_13⟩
  replace HX5 := hide (HX5.out.below hb_13)
  replace HB := hide (HB.out.trans (hb_13.mono HB.out.size))
  clear hb_13
  have HC1 := hide hi
  clear hi
  go_wp2_with fail
  refine (HCY.out _ (HJ.out.below HB.out)).mono ?_
  rintro e_ w_14 ⟨D2, v2, rfl, hi, hb_14⟩
  replace HX5 := hide (HX5.out.below hb_14)
  replace HC1 := hide (HC1.out.below hb_14)
  replace HB := hide (HB.out.trans (hb_14.mono HB.out.size))
  clear hb_14
  have HC2 := hide hi
  clear hi
  go_wp2_with fail
  refine (HPO.out _ _ _ _ _ HC1.out HC2.out).mono ?_
  rintro e_ w_15 ⟨rfl, hb_15⟩
  replace HX5 := hide (HX5.out.below hb_15)
  replace HC1 := hide (HC1.out.below hb_15)
  replace HC2 := hide (HC2.out.below hb_15)
  replace HB := hide (HB.out.trans (hb_15.mono HB.out.size))
  clear hb_15
  clear HC1 HC2
  go_upto_region 7 with fail
  obtain ⟨g7, hg7⟩ : ∃ q, w_15.heap.size = q := ⟨_, rfl⟩
  obtain ⟨w_16, hw_16⟩ : ∃ q : World, q = w_15.alloc (.cells #[.int .i64 N, .int .i64 D] 57) := ⟨_, rfl⟩
  try rw [← hw_16]
  have HX7 := hide (show Box w_16 g7 57 #[.int .i64 N, .int .i64 D] by rw [hw_16]; exact Box.made hg7.symm)
  have hc_16 : Below w_15.heap.size w_15 w_16 := by rw [hw_16]; exact (Below.refl _ _).alloc (Nat.le_refl _) _
  clear hw_16
  replace HX5 := hide (HX5.out.below hc_16)
  replace HB := hide (HB.out.trans (hc_16.mono HB.out.size))
  clear hc_16
  try simp only [hg7]
  clear hg7
  go_wp2_with fail
  refine (HCX.out _ (HI.out.below HB.out)).mono ?_
  rintro e_ w_17 ⟨C3, u3, rfl, hi, hb_17⟩
  replace HX5 := hide (HX5.out.below hb_17)
  replace HX7 := hide (HX7.out.below hb_17)
  replace HB := hide (HB.out.trans (hb_17.mono HB.out.size))
  clear hb_17
  have HC1 := hide hi
  clear hi
  go_wp2_with fail
  refine (HCY.out _ (HJ.out.below HB.out)).mono ?_
  rintro e_ w_18 ⟨D3, v3, rfl, hi, hb_18⟩
  replace HX5 := hide (HX5.out.below hb_18)
  replace HX7 := hide (HX7.out.below hb_18)
  replace HC1 := hide (HC1.out.below hb_18)
  replace HB := hide (HB.out.trans (hb_18.mono HB.out.size))
  clear hb_18
  have HC2 := hide hi
  clear hi
  go_wp2_with fail
  refine (HKO.out _ _ _ _ _ HC1.out HC2.out).mono ?_
  rintro e_ w_19 ⟨rfl, hb_19⟩
  replace HX5 := hide (HX5.out.below hb_19)
  replace HX7 := hide (HX7.out.below hb_19)
  replace HC1 := hide (HC1.out.below hb_19)
  replace HC2 := hide (HC2.out.below hb_19)
  replace HB := hide (HB.out.trans (hb_19.mono HB.out.size))
  clear hb_19
  clear HC1 HC2
  go_upto_region 8 with fail
  obtain ⟨g9, hg9⟩ : ∃ q, w_19.heap.size = q := ⟨_, rfl⟩
  obtain ⟨w_20, hw_20⟩ : ∃ q : World, q = w_19.alloc (.cells #[.int .i64 K, .int .i64 D] 57) := ⟨_, rfl⟩
  try rw [← hw_20]
  have HX9 := hide (show Box w_20 g9 57 #[.int .i64 K, .int .i64 D] by rw [hw_20]; exact Box.made hg9.symm)
  have hc_20 : Below w_19.heap.size w_19 w_20 := by rw [hw_20]; exact (Below.refl _ _).alloc (Nat.le_refl _) _
  clear hw_20
  replace HX5 := hide (HX5.out.below hc_20)
  replace HX7 := hide (HX7.out.below hc_20)
  replace HB := hide (HB.out.trans (hc_20.mono HB.out.size))
  clear hc_20
  try simp only [hg9]
  clear hg9
  go_wp2_with fail
  refine (HCX.out _ (HI.out.below HB.out)).mono ?_
  rintro e_ w_21 ⟨C4, u4, rfl, hi, hb_21⟩
  replace HX5 := hide (HX5.out.below hb_21)
  replace HX7 := hide (HX7.out.below hb_21)
  replace HX9 := hide (HX9.out.below hb_21)
  replace HB := hide (HB.out.trans (hb_21.mono HB.out.size))
  clear hb_21
  have HC1 := hide hi
  clear hi
  go_wp2_with fail
  refine (HCY.out _ (HJ.out.below HB.out)).mono ?_
  rintro e_ w_22 ⟨D4, v4, rfl, hi, hb_22⟩
  replace HX5 := hide (HX5.out.below hb_22)
  replace HX7 := hide (HX7.out.below hb_22)
  replace HX9 := hide (HX9.out.below hb_22)
  replace HC1 := hide (HC1.out.below hb_22)
  replace HB := hide (HB.out.trans (hb_22.mono HB.out.size))
  clear hb_22
  have HC2 := hide hi
  clear hi
  go_wp2_with fail
  refine (HCO.out _ _ _ _ _ HC1.out HC2.out).mono ?_
  rintro e_ w_23 ⟨v, rfl, hg, hb_23⟩
  replace HX5 := hide (HX5.out.below hb_23)
  replace HX7 := hide (HX7.out.below hb_23)
  replace HX9 := hide (HX9.out.below hb_23)
  replace HC1 := hide (HC1.out.below hb_23)
  replace HC2 := hide (HC2.out.below hb_23)
  replace HB := hide (HB.out.trans (hb_23.mono HB.out.size))
  clear hb_23
  clear HC1 HC2
  obtain ⟨L, q, l, rfl, hq, hql, hl8, hi⟩ := hg
  have HG := hide hi
  clear hi
  go_wp2_with fail
  refine (HBT.out _ (HI.out.below HB.out) (HJ.out.below HB.out)).mono ?_
  rintro e_ w_24 ⟨rfl, hb_24⟩
  replace HX5 := hide (HX5.out.below hb_24)
  replace HX7 := hide (HX7.out.below hb_24)
  replace HX9 := hide (HX9.out.below hb_24)
  replace HG := hide (HG.out.below hb_24)
  replace HB := hide (HB.out.trans (hb_24.mono HB.out.size))
  clear hb_24
  clear HCX HCY HIO HPO HKO HCO HBT HN2 HN3
  by_cases h0 : b = 0
  case neg =>
    have tv : (b != 0) = true := by simpa using h0
    obtain rfl : t = b := HTB.out.trans (if_neg h0)
    obtain rfl : R = Gau.zero := HR.out.trans (if_neg h0)
    obtain ⟨e1, e2⟩ := HRC.out
    have e1 : r0 = 0 := e1.symm
    have e2 : r1 = 0 := e2.symm
    subst e1 e2
    obtain rfl : N = 0 := HN.out.trans (if_neg h0)
    obtain rfl : D = 0 := HD.out.trans (if_neg h0)
    obtain rfl : K = 0 := HK.out.trans (if_neg h0)
    obtain rfl : q = 0 := hq.2 h0
    clear h0 hq
    obtain ⟨x0, x1, -, -, hlx⟩ := HX5.out.c2
    obtain ⟨y0, y1, -, -, hly⟩ := HX7.out.c2
    obtain ⟨z0, z1, -, -, hlz⟩ := HX9.out.c2
    go_wp2_with fail
    clear x0 x1 y0 y1 z0 z1
    refine (HTT.out _ (HI.out.below HB.out) (HJ.out.below HB.out)).mono ?_
    rintro e_ w_25 ⟨rfl, hb_25⟩
    replace HX5 := hide (HX5.out.below hb_25)
    replace HX7 := hide (HX7.out.below hb_25)
    replace HX9 := hide (HX9.out.below hb_25)
    replace HG := hide (HG.out.below hb_25)
    replace HB := hide (HB.out.trans (hb_25.mono HB.out.size))
    clear hb_25
    obtain ⟨x0, x1, -, -, hlx⟩ := HX5.out.c2
    obtain ⟨y0, y1, -, -, hly⟩ := HX7.out.c2
    obtain ⟨z0, z1, -, -, hlz⟩ := HX9.out.c2
    go_wp2_with fail
    go_ret
    exact ⟨by first | rfl | simp, HB.out⟩
  subst h0
  obtain ⟨k1, k2, rfl⟩ := HBZ.out (by first | rfl | trivial)
  have HIR := hide (fun W (u : GausAt W 0 A m X) (v : GausAt W 0 B m Y) => InnerOf_ref A B m c d X Y W (chE_ok k1) (chE_ok k2) u v)
  obtain ⟨e1, e2⟩ := HRC.out
  have hRe := HR.out.trans (if_pos (by first | rfl | trivial))
  rw [hRe] at e1 e2
  have e1 : inA X Y m = r0 := e1
  have e2 : inB X Y m = r1 := e2
  simp only [e1, e2] at HIR
  clear e1 e2 hRe HRC HR k1 k2 HBZ
  go_upto_region 13 with fail
  refine wp_region_held_drew (S := fun w' => w'.cell? ⟨g5, 0, none⟩ = some (.int .i64 r0) ∧ w'.cell? ⟨g5, 1, none⟩ = some (.int .i64 r1)) (by kernel_rfl) ⟨HX5.out.c2.1, HX5.out.c2.2.1⟩ (fun hHeld => ?_)
  obtain ⟨w_26, hw_26⟩ : ∃ q : World, q = w_24.drew := ⟨_, rfl⟩
  rw [← hw_26] at hHeld ⊢
  have hc_26 : Below w_24.heap.size w_24 w_26 := by rw [hw_26]; exact (Below.refl _ _).drew
  clear hw_26
  replace HX5 := hide (HX5.out.below hc_26)
  replace HX7 := hide (HX7.out.below hc_26)
  replace HX9 := hide (HX9.out.below hc_26)
  replace HG := hide (HG.out.below hc_26)
  replace HB := hide (HB.out.trans (hc_26.mono HB.out.size))
  clear hc_26
  refine wpAnyH_take (i := 0) (oi := ⟨some 70, _, _, _, _, _⟩) (v := ?_) rfl (by kernel_rfl) (by kernel_rfl) (by kernel_rfl) (fun _ _ _ h => h) (Or.inl ⟨by rfl, ?_⟩) (by assumption) ?_
  rotate_left
  · (intro w' hSw; (try dsimp only at hSw); go_simp <;> (with_reducible rfl))
  try simp only [Act.put, List.setIfInBounds_toArray, List.set_cons_zero, List.set_cons_succ]
  refine wpAnyH_take (i := 1) (oi := ⟨some 71, _, _, _, _, _⟩) (v := ?_) rfl (by kernel_rfl) (by kernel_rfl) (by kernel_rfl) (fun _ _ _ h => h) (Or.inl ⟨by rfl, ?_⟩) (by assumption) ?_
  rotate_left
  · (intro w' hSw; (try dsimp only at hSw); go_simp <;> (with_reducible rfl))
  try simp only [Act.put, List.setIfInBounds_toArray, List.set_cons_zero, List.set_cons_succ]
  refine wpAnyH_take (i := 2) (oi := ⟨some 72, _, _, _, _, _⟩) (v := ?_) rfl (by kernel_rfl) (by kernel_rfl) (by kernel_rfl) (fun _ _ _ h => h) (Or.inl ⟨by rfl, ?_⟩) (by assumption) ?_
  rotate_left
  · (intro w' hSw; (try dsimp only at hSw); go_simp <;> (with_reducible rfl))
  try simp only [Act.put, List.setIfInBounds_toArray, List.set_cons_zero, List.set_cons_succ]
  refine wpAnyH_take (i := 3) (oi := ⟨some 73, _, _, _, _, _⟩) (v := ?_) rfl (by kernel_rfl) (by kernel_rfl) (by kernel_rfl) (fun _ _ _ h => h) (Or.inl ⟨by rfl, ?_⟩) (by assumption) ?_
  rotate_left
  · (intro w' hSw; (try dsimp only at hSw); go_simp <;> (with_reducible rfl))
  try simp only [Act.put, List.setIfInBounds_toArray, List.set_cons_zero, List.set_cons_succ]
  refine wpAnyH_take (i := 4) (oi := ⟨some 74, _, _, _, _, _⟩) (v := ?_) rfl (by kernel_rfl) (by kernel_rfl) (by kernel_rfl) (fun _ _ _ h => h) (Or.inl ⟨by rfl, ?_⟩) (by assumption) ?_
  rotate_left
  · (intro w' hSw; (try dsimp only at hSw); go_simp <;> (with_reducible rfl))
  try simp only [Act.put, List.setIfInBounds_toArray, List.set_cons_zero, List.set_cons_succ]
  refine wpAnyH_take (i := 5) (oi := ⟨some 75, _, _, _, _, _⟩) (v := ?_) rfl (by kernel_rfl) (by kernel_rfl) (by kernel_rfl) (fun _ _ _ h => h) (Or.inl ⟨by rfl, ?_⟩) (by assumption) ?_
  rotate_left
  · (intro w' hSw; (try dsimp only at hSw); go_simp <;> (with_reducible rfl))
  try simp only [Act.put, List.setIfInBounds_toArray, List.set_cons_zero, List.set_cons_succ]
  refine wpAnyH_ready (rs := [6]) (by kernel_rfl) (by simp) ?_
  refine AllReadyH.cons (o := ⟨some 76, _, _, _, _, _⟩) rfl (fun K' hK => ?_) AllReadyH.nil
  go_simp
  go_at_call 33
  refine (HIR.out _ (HI.out.below HB.out) (HJ.out.below HB.out)).mono ?_
  rintro e_ w_27 ⟨rfl, hb_27⟩
  replace HX5 := hide (HX5.out.below hb_27)
  replace HX7 := hide (HX7.out.below hb_27)
  replace HX9 := hide (HX9.out.below hb_27)
  replace HG := hide (HG.out.below hb_27)
  replace HB := hide (HB.out.trans (hb_27.mono HB.out.size))
  clear hb_27
  go_wp2_with fail
  refine hK.out _ _ ⟨HX5.out.c2.1, HX5.out.c2.2.1⟩ (fun hHeld => ?_)
  clear hK K'
  try simp only [Act.put, List.setIfInBounds_toArray, List.set_cons_zero, List.set_cons_succ]
  refine wpAnyH_take (i := 7) (oi := ⟨some 77, _, _, _, _, _⟩) (v := (.bool false)) rfl (by kernel_rfl) (by kernel_rfl) (by kernel_rfl) (fun _ _ _ h => h) (Or.inl ⟨by rfl, fun w' hSw => by go_simp⟩) (by assumption) ?_
  try simp only [Act.put, List.setIfInBounds_toArray, List.set_cons_zero, List.set_cons_succ]
  refine wpAnyH_take (i := 8) (oi := ⟨some 78, _, _, _, _, _⟩) (v := ?_) rfl (by kernel_rfl) (by kernel_rfl) (by kernel_rfl) (fun _ _ _ h => h) (Or.inl ⟨by rfl, ?_⟩) (by assumption) ?_
  rotate_left
  · (intro w' hSw; (try dsimp only at hSw); go_simp <;> (with_reducible rfl))
  try simp only [Act.put, List.setIfInBounds_toArray, List.set_cons_zero, List.set_cons_succ]
  refine wpAnyH_done (by kernel_rfl) ?_ _
  clear hHeld HIR HX5
  go_wp2_with fail
  refine (HTT.out _ (HI.out.below HB.out) (HJ.out.below HB.out)).mono ?_
  rintro e_ w_28 ⟨rfl, hb_28⟩
  replace HX7 := hide (HX7.out.below hb_28)
  replace HX9 := hide (HX9.out.below hb_28)
  replace HG := hide (HG.out.below hb_28)
  replace HB := hide (HB.out.trans (hb_28.mono HB.out.size))
  clear hb_28
  by_cases h0 : t = 0
  case neg =>
    have tv : (t != 0) = true := by simpa using h0
    obtain rfl : N = 0 := HN.out.trans (if_neg h0)
    obtain rfl : D = 0 := HD.out.trans (if_neg h0)
    obtain rfl : K = 0 := HK.out.trans (if_neg h0)
    obtain rfl : q = 0 := hq.2 h0
    clear h0 hq
    obtain ⟨y0, y1, -, -, hly⟩ := HX7.out.c2
    obtain ⟨z0, z1, -, -, hlz⟩ := HX9.out.c2
    go_wp2_with fail
    go_ret
    exact ⟨by first | rfl | simp, HB.out⟩
  subst h0
  obtain rfl : q = m := hq.1 (by first | rfl | trivial)
  obtain ⟨-, hX, hY, hx, hy⟩ := HTZ.out (by first | rfl | trivial)
  have eN := HN.out.trans (if_pos (by first | rfl | trivial))
  have eD := HD.out.trans (if_pos (by first | rfl | trivial))
  have eK := HK.out.trans (if_pos (by first | rfl | trivial))
  have HPR := hide (fun W (u : GausAt W 0 A q X) (v : GausAt W 0 B q Y) => PartOf_ref A B q c d X Y W hX hY hx hy u v)
  have HKR := hide (fun W (u : GausAt W 0 A q X) (v : GausAt W 0 B q Y) => KeptOf_ref A B q c d X Y W hX hY hx hy u v)
  have HCR := hide (fun W (u : GausAt W 0 A q X) (v : GausAt W 0 B q Y) => Cleared_ref A B q c d X Y W hX hY u v)
  have HGL := hide (fun (C : Option Addr) f W (u : GausAt W 0 L q (clF X Y q)) (v : GausAt W 0 C q (clF X Y q)) => gausses_alike L C q l f (clF X Y q) (clF X Y q) W (by omega) u v (fun _ _ => rfl))
  rw [← eN, ← eD] at HPR
  rw [← eK, ← eD] at HKR
  clear eN eD eK hX hY hx hy HN HD HK HTZ HTB hq
  obtain ⟨Z, hZ⟩ : ∃ z, clF X Y q = z := ⟨_, rfl⟩
  simp only [hZ] at HG HCR HGL
  clear hZ
  go_upto_region 18 with fail
  refine wp_region_held_drew (S := fun w' => w'.cell? ⟨g7, 0, none⟩ = some (.int .i64 N) ∧ w'.cell? ⟨g7, 1, none⟩ = some (.int .i64 D) ∧ w'.cell? ⟨g9, 0, none⟩ = some (.int .i64 K) ∧ w'.cell? ⟨g9, 1, none⟩ = some (.int .i64 D)) (by kernel_rfl) ⟨HX7.out.c2.1, HX7.out.c2.2.1, HX9.out.c2.1, HX9.out.c2.2.1⟩ (fun hHeld => ?_)
  obtain ⟨w_29, hw_29⟩ : ∃ q : World, q = w_28.drew := ⟨_, rfl⟩
  rw [← hw_29] at hHeld ⊢
  have hc_29 : Below w_28.heap.size w_28 w_29 := by rw [hw_29]; exact (Below.refl _ _).drew
  clear hw_29
  replace HX7 := hide (HX7.out.below hc_29)
  replace HX9 := hide (HX9.out.below hc_29)
  replace HG := hide (HG.out.below hc_29)
  replace HB := hide (HB.out.trans (hc_29.mono HB.out.size))
  clear hc_29
  refine wpAnyH_take (i := 0) (oi := ⟨some 112, _, _, _, _, _⟩) (v := ?_) rfl (by kernel_rfl) (by kernel_rfl) (by kernel_rfl) (fun _ _ _ h => h) (Or.inl ⟨by rfl, ?_⟩) (by assumption) ?_
  rotate_left
  · (intro w' hSw; (try dsimp only at hSw); go_simp <;> (with_reducible rfl))
  try simp only [Act.put, List.setIfInBounds_toArray, List.set_cons_zero, List.set_cons_succ]
  refine wpAnyH_take (i := 1) (oi := ⟨some 113, _, _, _, _, _⟩) (v := ?_) rfl (by kernel_rfl) (by kernel_rfl) (by kernel_rfl) (fun _ _ _ h => h) (Or.inl ⟨by rfl, ?_⟩) (by assumption) ?_
  rotate_left
  · (intro w' hSw; (try dsimp only at hSw); go_simp <;> (with_reducible rfl))
  try simp only [Act.put, List.setIfInBounds_toArray, List.set_cons_zero, List.set_cons_succ]
  refine wpAnyH_take (i := 2) (oi := ⟨some 114, _, _, _, _, _⟩) (v := ?_) rfl (by kernel_rfl) (by kernel_rfl) (by kernel_rfl) (fun _ _ _ h => h) (Or.inl ⟨by rfl, ?_⟩) (by assumption) ?_
  rotate_left
  · (intro w' hSw; (try dsimp only at hSw); go_simp <;> (with_reducible rfl))
  try simp only [Act.put, List.setIfInBounds_toArray, List.set_cons_zero, List.set_cons_succ]
  refine wpAnyH_take (i := 3) (oi := ⟨some 115, _, _, _, _, _⟩) (v := ?_) rfl (by kernel_rfl) (by kernel_rfl) (by kernel_rfl) (fun _ _ _ h => h) (Or.inl ⟨by rfl, ?_⟩) (by assumption) ?_
  rotate_left
  · (intro w' hSw; (try dsimp only at hSw); go_simp <;> (with_reducible rfl))
  try simp only [Act.put, List.setIfInBounds_toArray, List.set_cons_zero, List.set_cons_succ]
  refine wpAnyH_take (i := 4) (oi := ⟨some 116, _, _, _, _, _⟩) (v := ?_) rfl (by kernel_rfl) (by kernel_rfl) (by kernel_rfl) (fun _ _ _ h => h) (Or.inl ⟨by rfl, ?_⟩) (by assumption) ?_
  rotate_left
  · (intro w' hSw; (try dsimp only at hSw); go_simp <;> (with_reducible rfl))
  try simp only [Act.put, List.setIfInBounds_toArray, List.set_cons_zero, List.set_cons_succ]
  refine wpAnyH_take (i := 5) (oi := ⟨some 117, _, _, _, _, _⟩) (v := ?_) rfl (by kernel_rfl) (by kernel_rfl) (by kernel_rfl) (fun _ _ _ h => h) (Or.inl ⟨by rfl, ?_⟩) (by assumption) ?_
  rotate_left
  · (intro w' hSw; (try dsimp only at hSw); go_simp <;> (with_reducible rfl))
  try simp only [Act.put, List.setIfInBounds_toArray, List.set_cons_zero, List.set_cons_succ]
  refine wpAnyH_ready (rs := [6]) (by kernel_rfl) (by simp) ?_
  refine AllReadyH.cons (o := ⟨some 118, _, _, _, _, _⟩) rfl (fun K' hK => ?_) AllReadyH.nil
  go_simp
  go_at_call 35
  refine (HPR.out _ (HI.out.below HB.out) (HJ.out.below HB.out)).mono ?_
  rintro e_ w_30 ⟨rfl, hb_30⟩
  replace HX7 := hide (HX7.out.below hb_30)
  replace HX9 := hide (HX9.out.below hb_30)
  replace HG := hide (HG.out.below hb_30)
  replace HB := hide (HB.out.trans (hb_30.mono HB.out.size))
  clear hb_30
  go_wp2_with fail
  refine hK.out _ _ ⟨HX7.out.c2.1, HX7.out.c2.2.1, HX9.out.c2.1, HX9.out.c2.2.1⟩ (fun hHeld => ?_)
  clear hK K'
  try simp only [Act.put, List.setIfInBounds_toArray, List.set_cons_zero, List.set_cons_succ]
  refine wpAnyH_take (i := 7) (oi := ⟨some 119, _, _, _, _, _⟩) (v := (.bool true)) rfl (by kernel_rfl) (by kernel_rfl) (by kernel_rfl) (fun _ _ _ h => h) (Or.inl ⟨by rfl, fun w' hSw => by go_simp⟩) (by assumption) ?_
  try simp only [Act.put, List.setIfInBounds_toArray, List.set_cons_zero, List.set_cons_succ]
  refine wpAnyH_take (i := 8) (oi := ⟨some 120, _, _, _, _, _⟩) (v := ?_) rfl (by kernel_rfl) (by kernel_rfl) (by kernel_rfl) (fun _ _ _ h => h) (Or.inl ⟨by rfl, ?_⟩) (by assumption) ?_
  rotate_left
  · (intro w' hSw; (try dsimp only at hSw); go_simp <;> (with_reducible rfl))
  try simp only [Act.put, List.setIfInBounds_toArray, List.set_cons_zero, List.set_cons_succ]
  refine wpAnyH_take (i := 9) (oi := ⟨some 121, _, _, _, _, _⟩) (v := ?_) rfl (by kernel_rfl) (by kernel_rfl) (by kernel_rfl) (fun _ _ _ h => h) (Or.inl ⟨by rfl, ?_⟩) (by assumption) ?_
  rotate_left
  · (intro w' hSw; (try dsimp only at hSw); go_simp <;> (with_reducible rfl))
  try simp only [Act.put, List.setIfInBounds_toArray, List.set_cons_zero, List.set_cons_succ]
  refine wpAnyH_take (i := 10) (oi := ⟨some 122, _, _, _, _, _⟩) (v := ?_) rfl (by kernel_rfl) (by kernel_rfl) (by kernel_rfl) (fun _ _ _ h => h) (Or.inl ⟨by rfl, ?_⟩) (by assumption) ?_
  rotate_left
  · (intro w' hSw; (try dsimp only at hSw); go_simp <;> (with_reducible rfl))
  try simp only [Act.put, List.setIfInBounds_toArray, List.set_cons_zero, List.set_cons_succ]
  refine wpAnyH_take (i := 11) (oi := ⟨some 123, _, _, _, _, _⟩) (v := ?_) rfl (by kernel_rfl) (by kernel_rfl) (by kernel_rfl) (fun _ _ _ h => h) (Or.inl ⟨by rfl, ?_⟩) (by assumption) ?_
  rotate_left
  · (intro w' hSw; (try dsimp only at hSw); go_simp <;> (with_reducible rfl))
  try simp only [Act.put, List.setIfInBounds_toArray, List.set_cons_zero, List.set_cons_succ]
  refine wpAnyH_take (i := 12) (oi := ⟨some 124, _, _, _, _, _⟩) (v := ?_) rfl (by kernel_rfl) (by kernel_rfl) (by kernel_rfl) (fun _ _ _ h => h) (Or.inl ⟨by rfl, ?_⟩) (by assumption) ?_
  rotate_left
  · (intro w' hSw; (try dsimp only at hSw); go_simp <;> (with_reducible rfl))
  try simp only [Act.put, List.setIfInBounds_toArray, List.set_cons_zero, List.set_cons_succ]
  refine wpAnyH_take (i := 13) (oi := ⟨some 125, _, _, _, _, _⟩) (v := ?_) rfl (by kernel_rfl) (by kernel_rfl) (by kernel_rfl) (fun _ _ _ h => h) (Or.inl ⟨by rfl, ?_⟩) (by assumption) ?_
  rotate_left
  · (intro w' hSw; (try dsimp only at hSw); go_simp <;> (with_reducible rfl))
  try simp only [Act.put, List.setIfInBounds_toArray, List.set_cons_zero, List.set_cons_succ]
  refine wpAnyH_take (i := 14) (oi := ⟨some 126, _, _, _, _, _⟩) (v := ?_) rfl (by kernel_rfl) (by kernel_rfl) (by kernel_rfl) (fun _ _ _ h => h) (Or.inl ⟨by rfl, ?_⟩) (by assumption) ?_
  rotate_left
  · (intro w' hSw; (try dsimp only at hSw); go_simp <;> (with_reducible rfl))
  try simp only [Act.put, List.setIfInBounds_toArray, List.set_cons_zero, List.set_cons_succ]
  refine wpAnyH_take (i := 15) (oi := ⟨some 127, _, _, _, _, _⟩) (v := ?_) rfl (by kernel_rfl) (by kernel_rfl) (by kernel_rfl) (fun _ _ _ h => h) (Or.inl ⟨by rfl, ?_⟩) (by assumption) ?_
  rotate_left
  · (intro w' hSw; (try dsimp only at hSw); go_simp <;> (with_reducible rfl))
  try simp only [Act.put, List.setIfInBounds_toArray, List.set_cons_zero, List.set_cons_succ]
  refine wpAnyH_take (i := 16) (oi := ⟨some 128, _, _, _, _, _⟩) (v := ?_) rfl (by kernel_rfl) (by kernel_rfl) (by kernel_rfl) (fun _ _ _ h => h) (Or.inl ⟨by rfl, ?_⟩) (by assumption) ?_
  rotate_left
  · (intro w' hSw; (try dsimp only at hSw); go_simp <;> (with_reducible rfl))
  try simp only [Act.put, List.setIfInBounds_toArray, List.set_cons_zero, List.set_cons_succ]
  refine wpAnyH_ready (rs := [17]) (by kernel_rfl) (by simp) ?_
  refine AllReadyH.cons (o := ⟨some 129, _, _, _, _, _⟩) rfl (fun K' hK => ?_) AllReadyH.nil
  go_simp
  go_at_call 36
  refine (HKR.out _ (HI.out.below HB.out) (HJ.out.below HB.out)).mono ?_
  rintro e_ w_31 ⟨rfl, hb_31⟩
  replace HX7 := hide (HX7.out.below hb_31)
  replace HX9 := hide (HX9.out.below hb_31)
  replace HG := hide (HG.out.below hb_31)
  replace HB := hide (HB.out.trans (hb_31.mono HB.out.size))
  clear hb_31
  go_wp2_with fail
  refine hK.out _ _ ⟨HX7.out.c2.1, HX7.out.c2.2.1, HX9.out.c2.1, HX9.out.c2.2.1⟩ (fun hHeld => ?_)
  clear hK K'
  try simp only [Act.put, List.setIfInBounds_toArray, List.set_cons_zero, List.set_cons_succ]
  refine wpAnyH_take (i := 18) (oi := ⟨some 130, _, _, _, _, _⟩) (v := (.bool true)) rfl (by kernel_rfl) (by kernel_rfl) (by kernel_rfl) (fun _ _ _ h => h) (Or.inl ⟨by rfl, fun w' hSw => by go_simp⟩) (by assumption) ?_
  try simp only [Act.put, List.setIfInBounds_toArray, List.set_cons_zero, List.set_cons_succ]
  refine wpAnyH_take (i := 19) (oi := ⟨some 131, _, _, _, _, _⟩) (v := ?_) rfl (by kernel_rfl) (by kernel_rfl) (by kernel_rfl) (fun _ _ _ h => h) (Or.inl ⟨by rfl, ?_⟩) (by assumption) ?_
  rotate_left
  · (intro w' hSw; (try dsimp only at hSw); go_simp <;> (with_reducible rfl))
  try simp only [Act.put, List.setIfInBounds_toArray, List.set_cons_zero, List.set_cons_succ]
  refine wpAnyH_take (i := 20) (oi := ⟨some 132, _, _, _, _, _⟩) (v := ?_) rfl (by kernel_rfl) (by kernel_rfl) (by kernel_rfl) (fun _ _ _ h => h) (Or.inl ⟨by rfl, ?_⟩) (by assumption) ?_
  rotate_left
  · (intro w' hSw; (try dsimp only at hSw); go_simp <;> (with_reducible rfl))
  try simp only [Act.put, List.setIfInBounds_toArray, List.set_cons_zero, List.set_cons_succ]
  refine wpAnyH_take (i := 21) (oi := ⟨some 133, _, _, _, _, _⟩) (v := ?_) rfl (by kernel_rfl) (by kernel_rfl) (by kernel_rfl) (fun _ _ _ h => h) (Or.inl ⟨by rfl, ?_⟩) (by assumption) ?_
  rotate_left
  · (intro w' hSw; (try dsimp only at hSw); go_simp <;> (with_reducible rfl))
  try simp only [Act.put, List.setIfInBounds_toArray, List.set_cons_zero, List.set_cons_succ]
  refine wpAnyH_take (i := 22) (oi := ⟨some 134, _, _, _, _, _⟩) (v := ?_) rfl (by kernel_rfl) (by kernel_rfl) (by kernel_rfl) (fun _ _ _ h => h) (Or.inl ⟨by rfl, ?_⟩) (by assumption) ?_
  rotate_left
  · (intro w' hSw; (try dsimp only at hSw); go_simp <;> (with_reducible rfl))
  try simp only [Act.put, List.setIfInBounds_toArray, List.set_cons_zero, List.set_cons_succ]
  refine wpAnyH_take (i := 23) (oi := ⟨some 135, _, _, _, _, _⟩) (v := ?_) rfl (by kernel_rfl) (by kernel_rfl) (by kernel_rfl) (fun _ _ _ h => h) (Or.inl ⟨by rfl, ?_⟩) (by assumption) ?_
  rotate_left
  · (intro w' hSw; (try dsimp only at hSw); go_simp <;> (with_reducible rfl))
  try simp only [Act.put, List.setIfInBounds_toArray, List.set_cons_zero, List.set_cons_succ]
  refine wpAnyH_take (i := 24) (oi := ⟨some 136, _, _, _, _, _⟩) (v := ?_) rfl (by kernel_rfl) (by kernel_rfl) (by kernel_rfl) (fun _ _ _ h => h) (Or.inl ⟨by rfl, ?_⟩) (by assumption) ?_
  rotate_left
  · (intro w' hSw; (try dsimp only at hSw); go_simp <;> (with_reducible rfl))
  try simp only [Act.put, List.setIfInBounds_toArray, List.set_cons_zero, List.set_cons_succ]
  refine wpAnyH_take (i := 25) (oi := ⟨some 137, _, _, _, _, _⟩) (v := ?_) rfl (by kernel_rfl) (by kernel_rfl) (by kernel_rfl) (fun _ _ _ h => h) (Or.inl ⟨by rfl, ?_⟩) (by assumption) ?_
  rotate_left
  · (intro w' hSw; (try dsimp only at hSw); go_simp <;> (with_reducible rfl))
  try simp only [Act.put, List.setIfInBounds_toArray, List.set_cons_zero, List.set_cons_succ]
  refine wpAnyH_take (i := 26) (oi := ⟨some 138, _, _, _, _, _⟩) (v := ?_) rfl (by kernel_rfl) (by kernel_rfl) (by kernel_rfl) (fun _ _ _ h => h) (Or.inl ⟨by rfl, ?_⟩) (by assumption) ?_
  rotate_left
  · (intro w' hSw; (try dsimp only at hSw); go_simp <;> (with_reducible rfl))
  try simp only [Act.put, List.setIfInBounds_toArray, List.set_cons_zero, List.set_cons_succ]
  refine wpAnyH_take (i := 27) (oi := ⟨some 139, _, _, _, _, _⟩) (v := ?_) rfl (by kernel_rfl) (by kernel_rfl) (by kernel_rfl) (fun _ _ _ h => h) (Or.inl ⟨by rfl, ?_⟩) (by assumption) ?_
  rotate_left
  · (intro w' hSw; (try dsimp only at hSw); go_simp <;> (with_reducible rfl))
  try simp only [Act.put, List.setIfInBounds_toArray, List.set_cons_zero, List.set_cons_succ]
  refine wpAnyH_ready (rs := [28]) (by kernel_rfl) (by simp) ?_
  refine AllReadyH.cons (o := ⟨some 140, _, _, _, _, _⟩) rfl (fun K' hK => ?_) AllReadyH.nil
  go_simp
  go_at_call 38
  refine (HCR.out _ (HI.out.below HB.out) (HJ.out.below HB.out)).mono ?_
  rintro e_ w_32 ⟨E9, f9, rfl, hi9, hb_32⟩
  replace HX7 := hide (HX7.out.below hb_32)
  replace HX9 := hide (HX9.out.below hb_32)
  replace HG := hide (HG.out.below hb_32)
  replace HB := hide (HB.out.trans (hb_32.mono HB.out.size))
  clear hb_32
  have HE9 := hide (hi9.weak (Nat.zero_le _))
  clear hi9
  go_wp2_with fail
  refine hK.out _ _ ⟨HX7.out.c2.1, HX7.out.c2.2.1, HX9.out.c2.1, HX9.out.c2.2.1⟩ (fun hHeld => ?_)
  clear hK K'
  try simp only [Act.put, List.setIfInBounds_toArray, List.set_cons_zero, List.set_cons_succ]
  refine wpAnyH_ready (rs := [29]) (by kernel_rfl) (by simp) ?_
  refine AllReadyH.cons (o := ⟨some 141, _, _, _, _, _⟩) rfl (fun K' hK => ?_) AllReadyH.nil
  go_simp
  go_at_call 37
  refine (HGL.out _ _ _ HG.out HE9.out).mono ?_
  rintro e_ w_33 ⟨rfl, hb_33⟩
  replace HX7 := hide (HX7.out.below hb_33)
  replace HX9 := hide (HX9.out.below hb_33)
  replace HG := hide (HG.out.below hb_33)
  replace HE9 := hide (HE9.out.below hb_33)
  replace HB := hide (HB.out.trans (hb_33.mono HB.out.size))
  clear hb_33
  go_wp2_with fail
  refine hK.out _ _ ⟨HX7.out.c2.1, HX7.out.c2.2.1, HX9.out.c2.1, HX9.out.c2.2.1⟩ (fun hHeld => ?_)
  clear hK K'
  try simp only [Act.put, List.setIfInBounds_toArray, List.set_cons_zero, List.set_cons_succ]
  refine wpAnyH_take (i := 30) (oi := ⟨some 142, _, _, _, _, _⟩) (v := ?_) rfl (by kernel_rfl) (by kernel_rfl) (by kernel_rfl) (fun _ _ _ h => h) (Or.inl ⟨by rfl, ?_⟩) (by assumption) ?_
  rotate_left
  · (intro w' hSw; (try dsimp only at hSw); go_simp <;> (with_reducible rfl))
  try simp only [Act.put, List.setIfInBounds_toArray, List.set_cons_zero, List.set_cons_succ]
  refine wpAnyH_take (i := 31) (oi := ⟨some 4, _, _, _, _, _⟩) (v := ?_) rfl (by kernel_rfl) (by kernel_rfl) (by kernel_rfl) (fun _ _ _ h => h) (Or.inl ⟨by rfl, ?_⟩) (by assumption) ?_
  rotate_left
  · (intro w' hSw; (try dsimp only at hSw); go_simp <;> (with_reducible rfl))
  try simp only [Act.put, List.setIfInBounds_toArray, List.set_cons_zero, List.set_cons_succ]
  refine wpAnyH_done (by kernel_rfl) ?_ _
  go_wp2_with fail
  go_ret
  exact ⟨by first | rfl | simp, HB.out⟩
end Go.Proofs.Ytdkbjgnkehoplaa
