/- Lemmas: E43, Rd, Re. -/
import Derived.BigQuiet
import Derived.Test.YtdkbjgnkehoplaaBy12
set_option linter.unusedVariables false
set_option linter.unusedSimpArgs false
/- Cleared of the code. -/
namespace Go.Proofs.Ytdkbjgnkehoplaa
open Go.RowKit Go.Great
theorem whole_cdif {a b c d : Nat} {p q r s : Int} (ha : Whole a p) (hb : Whole b q) (hc : Whole c r) (hd : Whole d s) (h1 : (p - r).natAbs < 2 ^ 53) (h2 : (q - s).natAbs < 2 ^ 53) :
    ∃ x y, cSumBits .sub .f64 a b c d = some (x, y) ∧ Whole x (p - r) ∧ Whole y (q - s) := by
  obtain ⟨x, e1, w1⟩ := whole_sub ha hc h1
  obtain ⟨y, e2, w2⟩ := whole_sub hb hd h2
  exact ⟨x, y, by simp [cSumBits, e1, e2], w1, w2⟩
theorem mul_le2 {M N x y : Int} (h : -M ≤ x ∧ x ≤ M) (k : -N ≤ y ∧ y ≤ N) (hM : 0 ≤ M) (hN : 0 ≤ N) : -(M * N) ≤ x * y ∧ x * y ≤ M * N := by
  have h1 : (x * y).natAbs ≤ (M * N).natAbs := by
    rw [Int.natAbs_mul, Int.natAbs_mul]
    exact Nat.mul_le_mul (by omega) (by omega)
  have h2 : 0 ≤ M * N := Int.mul_nonneg hM hN
  omega
theorem clG_within {e p q : Int} {x y : Gau} (he : -14400 ≤ e ∧ e ≤ 14400) (hp : -14400 ≤ p ∧ p ≤ 14400) (hq : -14400 ≤ q ∧ q ≤ 14400) (hx : x.Within 30) (hy : y.Within 30) : (clG e p q x y).Within 2000000 := by
  have a1 := mul_le2 he hy.re (by decide) (by decide)
  have a2 := mul_le2 hp hx.re (by decide) (by decide)
  have a3 := mul_le2 hq hx.im (by decide) (by decide)
  have b1 := mul_le2 he hy.im (by decide) (by decide)
  have b2 := mul_le2 hp hx.im (by decide) (by decide)
  have b3 := mul_le2 hq hx.re (by decide) (by decide)
  refine ⟨?_, ?_⟩
  · show -2000000 ≤ e * y.re - (p * x.re - q * x.im) ∧ e * y.re - (p * x.re - q * x.im) ≤ 2000000
    omega
  · show -2000000 ≤ e * y.im - (p * x.im + q * x.re) ∧ e * y.im - (p * x.im + q * x.re) ≤ 2000000
    omega
/-- One number of a cleared channel, in floats. -/
theorem clear_step {e p q : Int} {x y : Gau} {er ez pr pz u v s t : Nat} (he : -14400 ≤ e ∧ e ≤ 14400) (hp : -14400 ≤ p ∧ p ≤ 14400) (hq : -14400 ≤ q ∧ q ≤ 14400) (hx : x.Within 30) (hy : y.Within 30)
    (h1 : Whole er e) (h2 : Whole ez 0) (h3 : Whole pr p) (h4 : Whole pz q) (hu : Whole u y.re) (hv : Whole v y.im) (hs : Whole s x.re) (ht : Whole t x.im) :
    ∃ m1 k1 m2 k2 r z, cMulBits er ez u v = some (m1, k1) ∧ cMulBits pr pz s t = some (m2, k2) ∧ cSumBits .sub .f64 m1 k1 m2 k2 = some (r, z) ∧ Whole r (clG e p q x y).re ∧ Whole z (clG e p q x y).im := by
  have a1 := mul_le2 he hy.re (by decide) (by decide)
  have a2 := mul_le2 hp hx.re (by decide) (by decide)
  have a3 := mul_le2 hq hx.im (by decide) (by decide)
  have b1 := mul_le2 he hy.im (by decide) (by decide)
  have b2 := mul_le2 hp hx.im (by decide) (by decide)
  have b3 := mul_le2 hq hx.re (by decide) (by decide)
  obtain ⟨m1, k1, e1, w1, w2⟩ := whole_cmul h1 h2 hu hv (abs_lt (M := 432000) a1 (by decide)) (by rw [Int.zero_mul]; decide) (abs_lt (M := 432000) (by rw [Int.zero_mul]; omega) (by decide)) (abs_lt (M := 432000) b1 (by decide)) (by rw [Int.zero_mul]; decide) (abs_lt (M := 432000) (by rw [Int.zero_mul]; omega) (by decide))
  rw [Int.zero_mul, Int.sub_zero] at w1
  rw [Int.zero_mul, Int.add_zero] at w2
  obtain ⟨m2, k2, e2, w3, w4⟩ := whole_cmul h3 h4 hs ht (abs_lt (M := 432000) a2 (by decide)) (abs_lt (M := 432000) a3 (by decide)) (abs_lt (M := 864000) (by omega) (by decide)) (abs_lt (M := 432000) b2 (by decide)) (abs_lt (M := 432000) b3 (by decide)) (abs_lt (M := 864000) (by omega) (by decide))
  obtain ⟨r, z, e3, w5, w6⟩ := whole_cdif w1 w2 w3 w4 (abs_lt (M := 1296000) (by omega) (by decide)) (abs_lt (M := 1296000) (by omega) (by decide))
  exact ⟨m1, k1, m2, k2, r, z, e1, e2, e3, w5, w6⟩
/-- What a call that gives numbers hands back beside its error. -/
def GotC (W : World) (V : Int) (v : Value) (m : Nat) (F : Nat → Gau) : Prop := ∃ X q x, v = .slice X q x ∧ ((V = 0 → q = m) ∧ (V ≠ 0 → q = 0)) ∧ q ≤ x ∧ x ≤ 8 ∧ GausAt W 0 X q F
theorem GotC.below {W W' : World} {V : Int} {v : Value} {m : Nat} {F : Nat → Gau} (h : GotC W V v m F) (hb : Below W.heap.size W W') : GotC W' V v m F := by
  obtain ⟨X, q, x, h1, h2, h3, h4, h5⟩ := h
  exact ⟨X, q, x, h1, h2, h3, h4, h5.below hb⟩
set_option maxHeartbeats 4000000 in
set_option maxRecDepth 100000 in
theorem Cleared_any (A B : Option Addr) (n c m d : Nat) (X Y : Nat → Gau) (w : World) (hn : n ≤ 100000) (hm : m ≤ 100000) (hI : GausAt w 0 A n X) (hJ : GausAt w 0 B m Y) :
    Calls Try.prog 31 #[.slice A n c, .slice B m d] w fun e w' => ∃ v, e = .returned (.tuple #[v, .int .i64 (tchE n m X Y)]) ∧ GotC w' (tchE n m X Y) v n (clF X Y n) ∧ Below w.heap.size w w' := by
  have HI := hide hI
  have HJ := hide hJ
  have HTE := hide (fun W (h : GausAt W 0 A n X) (k : GausAt W 0 B m Y) => twoChannelsError_any A B n c m d X Y W hn hm h k)
  have HZ := hide (tchE_ok (n := n) (m := m) (X := X) (Y := Y))
  obtain ⟨V, hV⟩ : ∃ z, tchE n m X Y = z := ⟨_, rfl⟩
  simp only [hV] at HTE HZ ⊢
  clear hI hJ hV
  go_enter Try.func31, Try.ntmps31
  have HB := hide (Below.refl w.heap.size w)
  go_wp2_with fail
  refine (HTE.out _ HI.out HJ.out).mono ?_
  rintro e_ w_1 ⟨rfl, hb_1⟩
  replace HB := hide (HB.out.trans (hb_1.mono HB.out.size))
  clear hb_1
  by_cases hv : V = 0
  case neg =>
    have tv : (V != 0) = true := by simpa using hv
    have HV := hide hv
    clear HZ hv
    go_wp2_with fail
    go_ret2
    exact ⟨_, rfl, ⟨none, 0, 0, rfl, ⟨fun h => absurd h HV.out, fun _ => rfl⟩, Nat.le_refl _, by decide, GausAt.nil_⟩, HB.out⟩
  have tv : (V != 0) = false := by simpa using hv
  obtain ⟨rfl, hX, hY, hx, hy⟩ := HZ.out hv
  subst hv
  have hn8 := hX.n8
  have HCX := hide (fun W (k : GausAt W 0 A m X) => complexOf_any A m c X W (by omega) k)
  have HCY := hide (fun W (k : GausAt W 0 B m Y) => complexOf_any B m d Y W (by omega) k)
  have HIN := hide (fun (C D : Option Addr) W (u : CpxAt W C m (cU X) (cV X)) (v : CpxAt W D m (cU Y) (cV Y)) => inner_any C D m m m (cU X) (cV X) (cU Y) (cV Y) X Y W (by omega) u v hX.more hY.more (cUV_whole hX.more) (cUV_whole hY.more))
  have HIX := hide (fun (C : Option Addr) W (u : CpxAt W C m (cU X) (cV X)) => inner_any C C m m m (cU X) (cV X) (cU X) (cV X) X X W (by omega) u u hX.more hX.more (cUV_whole hX.more) (cUV_whole hX.more))
  rw [inA_self, inB_self] at HIX
  have HBI := hide (hX.inner hY)
  have HBE := hide hX.energy
  have HSX := hide hX.small
  have HSY := hide hY.small
  have HUX := hide (cUV_whole hX.more)
  have HUY := hide (cUV_whole hY.more)
  have HCL := hide (fun j => (show clF X Y m j = clG (enI X m) (inA X Y m) (inB X Y m) (X j) (Y j) from rfl))
  clear HZ HTE hX hY hx hy
  obtain ⟨I, hI⟩ : ∃ z, inA X Y m = z := ⟨_, rfl⟩
  obtain ⟨J, hJ⟩ : ∃ z, inB X Y m = z := ⟨_, rfl⟩
  obtain ⟨E, hE⟩ : ∃ z, enI X m = z := ⟨_, rfl⟩
  obtain ⟨U, hU⟩ : ∃ z, cU X = z := ⟨_, rfl⟩
  obtain ⟨S, hS⟩ : ∃ z, cV X = z := ⟨_, rfl⟩
  obtain ⟨T, hT⟩ : ∃ z, cU Y = z := ⟨_, rfl⟩
  obtain ⟨R, hR⟩ : ∃ z, cV Y = z := ⟨_, rfl⟩
  obtain ⟨L, hL⟩ : ∃ z, clF X Y m = z := ⟨_, rfl⟩
  simp only [hI, hJ, hE, hU, hS, hT, hR, hL] at HIN HIX HBI HBE HUX HUY HCL HCX HCY ⊢
  have HEL := hide hL
  clear hI hJ hE hU hS hT hR hL
  go_wp2_with fail
  refine (HCX.out _ (HI.out.below HB.out)).mono ?_
  rintro e_ w_2 ⟨C, rfl, hC, hb_2⟩
  replace HB := hide (HB.out.trans (hb_2.mono HB.out.size))
  clear hb_2
  have HC1 := hide hC
  clear hC
  go_wp2_with fail
  refine (HCY.out _ (HJ.out.below HB.out)).mono ?_
  rintro e_ w_3 ⟨K, rfl, hK, hb_3⟩
  replace HC1 := hide (HC1.out.below hb_3)
  replace HB := hide (HB.out.trans (hb_3.mono HB.out.size))
  clear hb_3
  have HK1 := hide hK
  clear hK
  go_wp2_with fail
  refine (HIN.out _ _ _ HC1.out HK1.out).mono ?_
  rintro e_ w_4 ⟨pr, pz, rfl, hpr, hpz, hb_4⟩
  replace HC1 := hide (HC1.out.below hb_4)
  replace HK1 := hide (HK1.out.below hb_4)
  replace HB := hide (HB.out.trans (hb_4.mono HB.out.size))
  clear hb_4
  go_wp2_with fail
  refine (HIX.out _ _ HC1.out).mono ?_
  rintro e_ w_5 ⟨er, ez, rfl, her, hez, hb_5⟩
  replace HC1 := hide (HC1.out.below hb_5)
  replace HK1 := hide (HK1.out.below hb_5)
  replace HB := hide (HB.out.trans (hb_5.mono HB.out.size))
  clear hb_5
  have HST := hide (fun k (hk : k < m) => clear_step (e := E) (p := I) (q := J) (by have := HBE.out; omega) HBI.out.1 HBI.out.2 (HSX.out k hk) (HSY.out k hk) her hez hpr hpz (HUY.out k hk).1 (HUY.out k hk).2 (HUX.out k hk).1 (HUX.out k hk).2)
  have HWI := hide (fun k (hk : k < m) => clG_within (e := E) (p := I) (q := J) (by have := HBE.out; omega) HBI.out.1 HBI.out.2 (HSX.out k hk) (HSY.out k hk))
  clear her hez hpr hpz HSX HSY HUX HUY HBI HBE
  obtain ⟨W0, hW0⟩ : ∃ q : World, w_5 = q := ⟨_, rfl⟩
  rw [hW0] at HC1 HK1 HB ⊢
  clear hW0
  have hmk := fun W => make_gaus m (by omega) W
  obtain ⟨g, hg⟩ : ∃ g, g = W0.heap.size := ⟨_, rfl⟩
  have hgw : W0.heap.size ≤ g := by omega
  have hmade := hide (OwnGaus.made W0 W0.heap.size g m (Nat.le_refl _) hg (by unfold maxLen; omega))
  go_wp2_with fail
  clear hmk
  rw [← hg]
  obtain ⟨w3, hw3⟩ : ∃ y : World, y = W0.alloc (.cells (madeCells #[.int .i64 0, .int .i64 0] (m * 2)) 53) := ⟨_, rfl⟩
  rw [← hw3] at hmade
  have HB3 := hide (show Below W0.heap.size W0 w3 by rw [hw3]; exact (Below.refl _ _).alloc (Nat.le_refl _) _)
  rw [← hw3]
  clear hw3 hg
  go_loopw [34] (fun i wr => ∃ k : Nat, k ≤ m ∧ i = .int .i64 (k : Int) ∧ Hid (OwnGaus wr W0.heap.size (.slice (some ⟨g, 0, none⟩) m m) m (fun i => if i < k then L i else Gau.zero)) ∧ Hid (Below W0.heap.size W0 wr)) (fun i _ => m - (Go.RowKit.intOf i).toNat)
  case atStart => exact ⟨0, Nat.zero_le _, rfl, hide (hmade.out.congr (fun _ _ => by simp)), HB3⟩
  case round =>
    clear hmade HB3
    obtain ⟨k, hk, rfl, HO, HL⟩ := hrel
    obtain ⟨wA, rfl⟩ : ∃ x : World, x = wr := ⟨_, rfl⟩
    by_cases hlt : k < m
    case pos =>
      have hltz : (k : Int) < (m : Int) := by omega
      obtain ⟨b1, o1, rfl, hl1, hc1⟩ := HC1.out k hlt
      obtain ⟨b2, o2, rfl, hl2, hc2⟩ := HK1.out k hlt
      obtain ⟨m1, k1, m2, k2, r, z, e1, e2, e3, w5, w6⟩ := HST.out k hlt
      have hwi := HWI.out k hlt
      rw [← HCL.out k] at w5 w6 hwi
      have HM1 := hide (fun W => run_complex_mul (P := Try.prog) W 118 _ _ _ _ _ _ e1)
      have HM2 := hide (fun W => run_complex_mul (P := Try.prog) W 118 _ _ _ _ _ _ e2)
      have HM3 := hide (fun W => run_complex_sum (P := Try.prog) W .sub (.inr rfl) 118 .f64 _ _ _ _ _ _ e3)
      have HQE := hide (fun (Q : Nat → Gau) (x : Gau) (hx : x = L k) (hQ : Q = fun i => if i < k then L i else Gau.zero) i (_ : i < m) => (show setGau Q k x i = if i < k + 1 then L i else Gau.zero from by
          subst hQ
          subst hx
          unfold setGau
          by_cases e1 : i = k
          · subst e1; rw [if_pos rfl, if_pos (by omega)]
          · rw [if_neg e1]
            show (if i < k then L i else Gau.zero) = _
            by_cases e2 : i < k
            · rw [if_pos e2, if_pos (by omega)]
            · rw [if_neg e2, if_neg (by omega)]))
      obtain ⟨Q, hQ⟩ : ∃ Q, Q = fun i => if i < k then L i else Gau.zero := ⟨_, rfl⟩
      rw [← hQ] at HO
      obtain ⟨x, hx⟩ : ∃ x, x = L k := ⟨_, rfl⟩
      rw [← hx] at w5 w6 hwi
      have HQX := hide (HQE.out Q x hx hQ)
      have HAG := hide (fun W => asGauss_any r z x.re x.im W w5 w6 (abs_lt (M := 2000000) hwi.re (by decide)) (abs_lt (M := 2000000) hwi.im (by decide)))
      have HU1 := hide hc1
      have HU2 := hide hc2
      obtain ⟨u1, hu1⟩ : ∃ z, U k = z := ⟨_, rfl⟩
      obtain ⟨s1, hs1⟩ : ∃ z, S k = z := ⟨_, rfl⟩
      obtain ⟨t1, ht1⟩ : ∃ z, T k = z := ⟨_, rfl⟩
      obtain ⟨r1, hr1⟩ : ∃ z, R k = z := ⟨_, rfl⟩
      simp only [hu1, hs1, ht1, hr1] at HM1 HM2 HU1 HU2 hc1 hc2
      clear hQ HQE hx hwi w5 w6 e1 e2 e3 hu1 hs1 ht1 hr1 hc1 hc2
      go_upto_region 10 with fail
      refine wp_region_held_drew (S := fun w' => w'.cell? ⟨b1, o1 + k, none⟩ = some (.complex .f64 u1 s1) ∧ w'.cell? ⟨b2, o2 + k, none⟩ = some (.complex .f64 t1 r1)) (by kernel_rfl) ⟨(HL.out.cell (p := ⟨b1, o1 + k, none⟩) hl1).trans HU1.out, (HL.out.cell (p := ⟨b2, o2 + k, none⟩) hl2).trans HU2.out⟩ (fun hHeld => ?_)
      obtain ⟨w_6, hw_6⟩ : ∃ q : World, q = wA.drew := ⟨_, rfl⟩
      rw [← hw_6] at hHeld ⊢
      have hc_6 : Below wA.heap.size wA w_6 := by rw [hw_6]; exact (Below.refl _ _).drew
      clear hw_6
      replace HO := hide (HO.out.below hc_6)
      replace HL := hide (HL.out.trans (hc_6.mono HL.out.size))
      clear hc_6
      refine wpAnyH_take (i := 0) (oi := ⟨some 37, _, _, _, _, _⟩) (v := ?_) rfl (by kernel_rfl) (by kernel_rfl) (by kernel_rfl) (fun _ _ _ h => h) (Or.inl ⟨by rfl, ?_⟩) (by assumption) ?_
      rotate_left
      · (intro w' hSw; (try dsimp only at hSw); go_simp <;> (with_reducible rfl))
      try simp only [Act.put, List.setIfInBounds_toArray, List.set_cons_zero, List.set_cons_succ]
      refine wpAnyH_take (i := 1) (oi := ⟨some 38, _, _, _, _, _⟩) (v := ?_) rfl (by kernel_rfl) (by kernel_rfl) (by kernel_rfl) (fun _ _ _ h => h) (Or.inl ⟨by rfl, ?_⟩) (by assumption) ?_
      rotate_left
      · (intro w' hSw; (try dsimp only at hSw); go_simp <;> (with_reducible rfl))
      try simp only [Act.put, List.setIfInBounds_toArray, List.set_cons_zero, List.set_cons_succ]
      refine wpAnyH_take (i := 2) (oi := ⟨some 39, _, _, _, _, _⟩) (v := ?_) rfl (by kernel_rfl) (by kernel_rfl) (by kernel_rfl) (fun _ _ _ h => h) (Or.inl ⟨by rfl, ?_⟩) (by assumption) ?_
      rotate_left
      · (intro w' hSw; (try dsimp only at hSw); go_simp <;> (with_reducible rfl))
      try simp only [Act.put, List.setIfInBounds_toArray, List.set_cons_zero, List.set_cons_succ]
      refine wpAnyH_take (i := 3) (oi := ⟨some 40, _, _, _, _, _⟩) (v := ?_) rfl (by kernel_rfl) (by kernel_rfl) (by kernel_rfl) (fun _ _ _ h => h) (Or.inl ⟨by rfl, ?_⟩) (by assumption) ?_
      rotate_left
      · (intro w' hSw; (try dsimp only at hSw); go_simp <;> (with_reducible rfl))
      try simp only [Act.put, List.setIfInBounds_toArray, List.set_cons_zero, List.set_cons_succ]
      refine wpAnyH_take (i := 4) (oi := ⟨some 41, _, _, _, _, _⟩) (v := ?_) rfl (by kernel_rfl) (by kernel_rfl) (by kernel_rfl) (fun _ _ _ h => h) (Or.inl ⟨by rfl, ?_⟩) (by assumption) ?_
      rotate_left
      · (intro w' hSw; (try dsimp only at hSw); go_simp <;> (with_reducible rfl))
      try simp only [Act.put, List.setIfInBounds_toArray, List.set_cons_zero, List.set_cons_succ]
      refine wpAnyH_take (i := 5) (oi := ⟨some 42, _, _, _, _, _⟩) (v := ?_) rfl (by kernel_rfl) (by kernel_rfl) (by kernel_rfl) (fun _ _ _ h => h) (Or.inl ⟨by rfl, ?_⟩) (by assumption) ?_
      rotate_left
      · (intro w' hSw; (try dsimp only at hSw); go_simp <;> (with_reducible rfl))
      try simp only [Act.put, List.setIfInBounds_toArray, List.set_cons_zero, List.set_cons_succ]
      refine wpAnyH_take (i := 6) (oi := ⟨some 43, _, _, _, _, _⟩) (v := ?_) rfl (by kernel_rfl) (by kernel_rfl) (by kernel_rfl) (fun _ _ _ h => h) (Or.inl ⟨by rfl, ?_⟩) (by assumption) ?_
      rotate_left
      · (intro w' hSw; (try dsimp only at hSw); go_simp <;> (with_reducible rfl))
      try simp only [Act.put, List.setIfInBounds_toArray, List.set_cons_zero, List.set_cons_succ]
      refine wpAnyH_take (i := 7) (oi := ⟨some 44, _, _, _, _, _⟩) (v := (.complex .f64 m1 k1)) rfl (by kernel_rfl) (by kernel_rfl) (by kernel_rfl) (fun _ _ _ h => h) (Or.inl ⟨by rfl, fun w' hSw => by go_simp; simp [HM1.out]⟩) (by assumption) ?_
      try simp only [Act.put, List.setIfInBounds_toArray, List.set_cons_zero, List.set_cons_succ]
      refine wpAnyH_take (i := 8) (oi := ⟨some 45, _, _, _, _, _⟩) (v := ?_) rfl (by kernel_rfl) (by kernel_rfl) (by kernel_rfl) (fun _ _ _ h => h) (Or.inl ⟨by rfl, ?_⟩) (by assumption) ?_
      rotate_left
      · (intro w' hSw; (try dsimp only at hSw); go_simp <;> (with_reducible rfl))
      try simp only [Act.put, List.setIfInBounds_toArray, List.set_cons_zero, List.set_cons_succ]
      refine wpAnyH_take (i := 9) (oi := ⟨some 46, _, _, _, _, _⟩) (v := ?_) rfl (by kernel_rfl) (by kernel_rfl) (by kernel_rfl) (fun _ _ _ h => h) (Or.inl ⟨by rfl, ?_⟩) (by assumption) ?_
      rotate_left
      · (intro w' hSw; (try dsimp only at hSw); go_simp <;> (with_reducible rfl))
      try simp only [Act.put, List.setIfInBounds_toArray, List.set_cons_zero, List.set_cons_succ]
      refine wpAnyH_take (i := 10) (oi := ⟨some 47, _, _, _, _, _⟩) (v := ?_) rfl (by kernel_rfl) (by kernel_rfl) (by kernel_rfl) (fun _ _ _ h => h) (Or.inl ⟨by rfl, ?_⟩) (by assumption) ?_
      rotate_left
      · (intro w' hSw; (try dsimp only at hSw); go_simp <;> (with_reducible rfl))
      try simp only [Act.put, List.setIfInBounds_toArray, List.set_cons_zero, List.set_cons_succ]
      refine wpAnyH_take (i := 11) (oi := ⟨some 48, _, _, _, _, _⟩) (v := ?_) rfl (by kernel_rfl) (by kernel_rfl) (by kernel_rfl) (fun _ _ _ h => h) (Or.inl ⟨by rfl, ?_⟩) (by assumption) ?_
      rotate_left
      · (intro w' hSw; (try dsimp only at hSw); go_simp <;> (with_reducible rfl))
      try simp only [Act.put, List.setIfInBounds_toArray, List.set_cons_zero, List.set_cons_succ]
      refine wpAnyH_take (i := 12) (oi := ⟨some 49, _, _, _, _, _⟩) (v := ?_) rfl (by kernel_rfl) (by kernel_rfl) (by kernel_rfl) (fun _ _ _ h => h) (Or.inl ⟨by rfl, ?_⟩) (by assumption) ?_
      rotate_left
      · (intro w' hSw; (try dsimp only at hSw); go_simp <;> (with_reducible rfl))
      try simp only [Act.put, List.setIfInBounds_toArray, List.set_cons_zero, List.set_cons_succ]
      refine wpAnyH_take (i := 13) (oi := ⟨some 50, _, _, _, _, _⟩) (v := (.complex .f64 m2 k2)) rfl (by kernel_rfl) (by kernel_rfl) (by kernel_rfl) (fun _ _ _ h => h) (Or.inl ⟨by rfl, fun w' hSw => by go_simp; simp [HM2.out]⟩) (by assumption) ?_
      try simp only [Act.put, List.setIfInBounds_toArray, List.set_cons_zero, List.set_cons_succ]
      refine wpAnyH_take (i := 14) (oi := ⟨some 51, _, _, _, _, _⟩) (v := (.complex .f64 r z)) rfl (by kernel_rfl) (by kernel_rfl) (by kernel_rfl) (fun _ _ _ h => h) (Or.inl ⟨by rfl, fun w' hSw => by go_simp; simp [HM3.out]⟩) (by assumption) ?_
      try simp only [Act.put, List.setIfInBounds_toArray, List.set_cons_zero, List.set_cons_succ]
      refine wpAnyH_ready (rs := [15]) (by kernel_rfl) (by simp) ?_
      refine AllReadyH.cons (o := ⟨some 52, _, _, _, _, _⟩) rfl (fun K' hK => ?_) AllReadyH.nil
      go_simp
      go_at_call 81
      refine (HAG.out _).mono ?_
      rintro e_ w_7 ⟨rfl, hb_7⟩
      replace HO := hide (HO.out.below hb_7)
      replace HL := hide (HL.out.trans (hb_7.mono HL.out.size))
      clear hb_7
      go_wp2_with fail
      refine hK.out _ _ ⟨(HL.out.cell (p := ⟨b1, o1 + k, none⟩) hl1).trans HU1.out, (HL.out.cell (p := ⟨b2, o2 + k, none⟩) hl2).trans HU2.out⟩ (fun hHeld => ?_)
      clear hK K'
      try simp only [Act.put, List.setIfInBounds_toArray, List.set_cons_zero, List.set_cons_succ]
      refine wpAnyH_take (i := 16) (oi := ⟨some 53, _, _, _, _, _⟩) (v := ?_) rfl (by kernel_rfl) (by kernel_rfl) (by kernel_rfl) (fun _ _ _ h => h) (Or.inl ⟨by rfl, ?_⟩) (by assumption) ?_
      rotate_left
      · (intro w' hSw; (try dsimp only at hSw); go_simp <;> (with_reducible rfl))
      try simp only [Act.put, List.setIfInBounds_toArray, List.set_cons_zero, List.set_cons_succ]
      refine wpAnyH_ready (rs := [17]) (by kernel_rfl) (by simp) ?_
      refine AllReadyH.cons (o := ⟨none, _, _, _, _, _⟩) rfl (fun K' hK => ?_) AllReadyH.nil
      obtain ⟨c0, c1⟩ := HO.out.cells hlt
      obtain ⟨f0, f1⟩ := HO.out.frozen2 k
      have hlg := HO.out.lt.2
      go_simp
      clear c0 c1 f0 f1 hlg
      replace HO := hide (HO.out.put k x)
      replace HL := hide ((HL.out.setCell (p := ⟨g, k * 2, none⟩) hgw (.int .i64 x.re)).setCell (p := ⟨g, k * 2 + 1, none⟩) hgw (.int .i64 x.im))
      obtain ⟨w_8, hw_8⟩ : ∃ q : World, (w_7.setCell ⟨g, k * 2, none⟩ (.int .i64 x.re)).setCell ⟨g, k * 2 + 1, none⟩ (.int .i64 x.im) = q := ⟨_, rfl⟩
      rw [hw_8] at HO HL ⊢
      clear hw_8
      refine hK.out _ _ ⟨(HL.out.cell (p := ⟨b1, o1 + k, none⟩) hl1).trans HU1.out, (HL.out.cell (p := ⟨b2, o2 + k, none⟩) hl2).trans HU2.out⟩ (fun hHeld => ?_)
      clear hK K'
      try simp only [Act.put, List.setIfInBounds_toArray, List.set_cons_zero, List.set_cons_succ]
      refine wpAnyH_done (by kernel_rfl) ?_ _
      go_wp2_with fail
      go_roundw
      case rel => exact ⟨k + 1, by omega, by go_num, hide (HO.out.congr HQX.out), HL⟩
      case measure => simp [Go.RowKit.intOf]; omega
    obtain rfl : k = m := by omega
    have HG := hide ((HO.out.congr (G := L) fun j hj => if_pos hj).gaus.weak (Nat.zero_le _))
    clear HO
    go_wp2_with fail
    go_ret2
    exact ⟨_, rfl, ⟨_, k, k, rfl, ⟨fun _ => rfl, fun h => absurd rfl h⟩, Nat.le_refl _, hn8, by rw [HEL.out]; exact HG.out⟩, HB.out.trans (HL.out.mono HB.out.size)⟩
end Go.Proofs.Ytdkbjgnkehoplaa
/- ErrorOf of the code. -/
namespace Go.Proofs.Ytdkbjgnkehoplaa
open Go.RowKit
def sqG (x y : Gau) : Int := (x.re - y.re) * (x.re - y.re) + (x.im - y.im) * (x.im - y.im)
/-- The sum of the squares of the first n differences. -/
def errS (F G : Nat → Gau) : Nat → Int
  | 0 => 0
  | n + 1 => errS F G n + sqG (F n) (G n)
theorem sq_le {a M : Int} (h : -M ≤ a ∧ a ≤ M) : 0 ≤ a * a ∧ a * a ≤ M * M := by
  have h1 : 0 ≤ (M - a) * (M + a) := Int.mul_nonneg (by omega) (by omega)
  have h2 : 0 ≤ a * a := by
    rcases Int.le_total 0 a with h | h
    · exact Int.mul_nonneg h h
    · exact Int.mul_nonneg_of_nonpos_of_nonpos h h
  simp only [Int.sub_mul, Int.mul_add] at h1
  have h3 : M * a = a * M := Int.mul_comm _ _
  omega
theorem sqG_le {x y : Gau} {M N : Int} (hx : x.Within M) (hy : y.Within N) : (0 ≤ (x.re - y.re) * (x.re - y.re) ∧ (x.re - y.re) * (x.re - y.re) ≤ (M + N) * (M + N)) ∧ 0 ≤ (x.im - y.im) * (x.im - y.im) ∧ (x.im - y.im) * (x.im - y.im) ≤ (M + N) * (M + N) :=
  ⟨sq_le (by have := hx.re; have := hy.re; omega), sq_le (by have := hx.im; have := hy.im; omega)⟩
theorem errS_le {F G : Nat → Gau} : ∀ {n : Nat}, (∀ j, j < n → (F j).Within 10000) → (∀ j, j < n → (G j).Within 10000) → 0 ≤ errS F G n ∧ errS F G n ≤ 800000000 * (n : Int)
  | 0, _, _ => by show (0 : Int) ≤ 0 ∧ (0 : Int) ≤ _; simp
  | n + 1, h, k => by
    have h1 := errS_le (n := n) (fun j hj => h j (by omega)) (fun j hj => k j (by omega))
    have h2 := sqG_le (h n (by omega)) (k n (by omega))
    unfold errS sqG
    simp only [show ((10000 : Int) + 10000) * (10000 + 10000) = 400000000 from rfl] at h2
    omega
/-- The error of the error of two lists. -/
def errE (n m : Nat) (F G : Nat → Gau) : Int := firstE [unI (decide ((n : Int) ≤ 120)) 8, unI ((m : Int) == (n : Int)) 10, gausE 10000 F n, gausE 10000 G m]
theorem errE_zero {n m : Nat} {F G : Nat → Gau} (h : errE n m F G = 0) : n ≤ 120 ∧ m = n ∧ gausE 10000 F n = 0 ∧ gausE 10000 G n = 0 := by
  unfold errE at h
  obtain ⟨h1, h⟩ := firstE_nil h
  obtain ⟨h2, h⟩ := firstE_nil h
  obtain ⟨h3, h⟩ := firstE_nil h
  obtain ⟨h4, -⟩ := firstE_nil h
  have h1 := unI_zero (by decide) h1
  have h2 := unI_zero (by decide) h2
  simp at h1 h2
  have h2 : m = n := by omega
  subst h2
  exact ⟨by omega, rfl, h3, h4⟩
/-- What two lists come to. -/
def errV (n m : Nat) (F G : Nat → Gau) : Int := if errE n m F G = 0 then errS F G n else 0
end Go.Proofs.Ytdkbjgnkehoplaa
/- The reference on whole complex numbers: IsEntry, EntriesErr, CopyGausses, Gausses, GSub, GNorm, ErrorOf, Clipped. -/
namespace Go.Proofs.Ytdkbjgnkehoplaa
open Go.RowKit
theorem cellB {W W' : World} {b o : Nat} {v : Value} (hb : Below W.heap.size W W') (h : W.cell? ⟨b, o, none⟩ = some v) : W'.cell? ⟨b, o, none⟩ = some v :=
  (hb.cell (p := ⟨b, o, none⟩) (World.block_lt_of_cell? W _ h)).trans h
set_option maxHeartbeats 1000000 in
theorem copyGausses_own (A : Option Addr) (n c : Nat) (F : Nat → Gau) (w : World) (hn : n ≤ 10000000) (hI : GausAt w 0 A n F) :
    Calls Try.prog 15 #[.slice A n c] w fun e w' => ∃ v, e = .returned v ∧ OwnGaus w' w.heap.size v n F ∧ Below w.heap.size w w' := by
  have HI := hide (hI.alloc (.cells #[] 53))
  have HE := hide (OwnGaus.empty w _ rfl F)
  clear hI
  go_enter Try.func15, Try.ntmps15
  go_wp2_with (at_builtin; refine wpList_append_gaus _ rfl (.tmp 3) (.tmp 4) rfl w.heap.size 0 (.slice (some ⟨w.heap.size, 0, none⟩) 0 0) 0 F rfl HE.out A n c F rfl HI.out (by omega) (by simp) ?_; intro v' w' h1 hb1)
  go_ret
  have hB : Below w.heap.size w w' := ((Below.refl _ _).alloc (Nat.le_refl _) _).trans hb1
  rw [Nat.zero_add] at h1
  exact ⟨_, rfl, h1.congr fun j _ => by simp [catG], hB⟩
set_option maxHeartbeats 2000000 in
set_option maxRecDepth 100000 in
/-- Two lists that are alike. -/
theorem gausses_alike (A B : Option Addr) (n c d : Nat) (F G : Nat → Gau) (w : World) (hn : n ≤ 1000000) (hI : GausAt w 0 A n F) (hJ : GausAt w 0 B n G) (he : ∀ j, j < n → F j = G j) :
    Calls Try.prog 37 #[.slice A n c, .slice B n d] w fun e w' => e = .returned (.bool true) ∧ Below w.heap.size w w' := by
  have HI := hide hI
  have HJ := hide (hJ.congr fun j hj => (he j hj).symm)
  have t1 : ((n : Int) != (n : Int)) = false := by simp
  clear hI hJ he
  go_enter Try.func37, Try.ntmps37
  go_wp2_with fail
  go_loopw [5] (fun i wr => ∃ k : Nat, k ≤ n ∧ i = .int .i64 (k : Int) ∧ Below w.heap.size w wr) (fun i _ => n - (Go.RowKit.intOf i).toNat)
  case atStart => exact ⟨0, Nat.zero_le _, rfl, Below.refl _ _⟩
  case round =>
    obtain ⟨k, hk, rfl, hB⟩ := hrel
    obtain ⟨wA, rfl⟩ : ∃ x : World, x = wr := ⟨_, rfl⟩
    by_cases hlt : k < n
    · have hltz : (k : Int) < (n : Int) := by omega
      obtain ⟨b, o, rfl, -, -, c0, c1⟩ := (HI.out.below hB) k hlt
      obtain ⟨b', o', rfl, -, -, d0, d1⟩ := (HJ.out.below hB) k hlt
      generalize F k = x at *
      have HB := hide hB
      clear hB
      go_wp2_with fail
      go_quiet (fail)
      go_wp2_with fail
      go_roundw
      case rel => exact ⟨k + 1, by omega, by go_num, Go.below_drewN HB.out _⟩
      case measure => simp [Go.RowKit.intOf]; omega
    · obtain rfl : k = n := by omega
      have hltz : ¬ ((k : Int) < (k : Int)) := by omega
      have HB := hide hB
      clear hB
      go_wp2_with fail
      go_ret
      exact ⟨rfl, HB.out⟩
set_option maxHeartbeats 2000000 in
set_option maxRecDepth 100000 in
theorem gsub_any (x y : Gau) (w : World) (h1 : -9223372036854775808 ≤ x.re - y.re ∧ x.re - y.re ≤ 9223372036854775807) (h2 : -9223372036854775808 ≤ x.im - y.im ∧ x.im - y.im ≤ 9223372036854775807) :
    Calls Try.prog 88 #[.agg #[.int .i64 x.re, .int .i64 x.im], .agg #[.int .i64 y.re, .int .i64 y.im]] w fun e w' => e = .returned (.agg #[.int .i64 (x.re - y.re), .int .i64 (x.im - y.im)]) ∧ Below w.heap.size w w' := by
  have q1 : IntKind.i64.wrap (x.re - y.re) = x.re - y.re := IntWalk.i64_in _ (by omega)
  have q2 : IntKind.i64.wrap (x.im - y.im) = x.im - y.im := IntWalk.i64_in _ (by omega)
  clear h1 h2
  go_enter Try.func88, Try.ntmps88
  go_wp2_with fail
  have hb : Box (((w.alloc (.cells #[.int .i64 x.re, .int .i64 x.im] 53)).alloc (.cells #[.int .i64 y.re, .int .i64 y.im] 53)).alloc (.cells #[.int .i64 (x.re - y.re), .int .i64 (x.im - y.im)] 53)) (w.heap.size + 1 + 1) 53 #[.int .i64 (x.re - y.re), .int .i64 (x.im - y.im)] := Box.made (by simp)
  obtain ⟨y0, y1, -⟩ := hb.cells2
  refine bodyPost_ret (v := .agg #[.int .i64 (x.re - y.re), .int .i64 (x.im - y.im)]) ?_ rfl ⟨rfl, by (repeat (first | (with_reducible exact Below.refl _ _) | (with_reducible refine Go.below_drewN ?_ _) | (with_reducible refine Below.drew ?_) | (with_reducible refine Below.alloc ?_ (by first | exact Nat.le_refl _ | (simp; done) | (simp; omega) | omega) _) | (with_reducible refine Below.setCell ?_ (by first | exact Nat.le_refl _ | (simp; done) | (simp; omega) | omega) _)))⟩
  simp [results, Try.results88, go_sem, y0, y1]
set_option maxHeartbeats 2000000 in
theorem gnorm_any (a b : Int) (w : World) (h1 : 0 ≤ a * a ∧ a * a ≤ 4611686018427387903) (h2 : 0 ≤ b * b ∧ b * b ≤ 4611686018427387903) :
    Calls Try.prog 87 #[.agg #[.int .i64 a, .int .i64 b]] w fun e w' => e = .returned (.int .i64 (a * a + b * b)) ∧ Below w.heap.size w w' := by
  have q1 : IntKind.i64.wrap (a * a) = a * a := IntWalk.i64_in _ (by omega)
  have q2 : IntKind.i64.wrap (b * b) = b * b := IntWalk.i64_in _ (by omega)
  have q3 : IntKind.i64.wrap (a * a + b * b) = a * a + b * b := IntWalk.i64_in _ (by omega)
  clear h1 h2
  go_enter Try.func87, Try.ntmps87
  go_wp2_with fail
  go_ret
  exact ⟨rfl, by (repeat (first | (with_reducible exact Below.refl _ _) | (with_reducible refine Go.below_drewN ?_ _) | (with_reducible refine Below.drew ?_) | (with_reducible refine Below.alloc ?_ (by first | exact Nat.le_refl _ | (simp; done) | (simp; omega) | omega) _) | (with_reducible refine Below.setCell ?_ (by first | exact Nat.le_refl _ | (simp; done) | (simp; omega) | omega) _)))⟩
end Go.Proofs.Ytdkbjgnkehoplaa
