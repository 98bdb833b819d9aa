/- Lemmas: E64. -/
import Derived.Test.YtdkbjgnkehoplaaBy09
import Derived.Test.YtdkbjgnkehoplaaBy15
import Derived.Test.YtdkbjgnkehoplaaBy27
set_option linter.unusedVariables false
set_option linter.unusedSimpArgs false
/- The walk of BeamBest. -/
namespace Go.Proofs.Ytdkbjgnkehoplaa
open Go.RowKit Go.Great
theorem lg_small {a b c d : Int} (ha : -1000000 ≤ a ∧ a ≤ 1000000) (hb : -1000000 ≤ b ∧ b ≤ 1000000) (hc : -1000000 ≤ c ∧ c ≤ 1000000) (hd : -1000000 ≤ d ∧ d ≤ 1000000) : lgE a b c d = 0 ∧ lgR a b c d = compI (a - c) (d - b) := by
  have e : lgE a b c d = 0 := by
    unfold lgE sqIn
    rw [withinB_iff.2 ⟨by omega, by omega⟩, withinB_iff.2 ⟨by omega, by omega⟩, withinB_iff.2 ⟨by omega, by omega⟩, withinB_iff.2 ⟨by omega, by omega⟩]
    rfl
  exact ⟨e, if_pos e⟩
set_option maxHeartbeats 16000000 in
set_option maxRecDepth 100000 in
theorem beamBest_walk (A B : Option Addr) (n c m d : Nat) (L : Nat → Nat) (F : Nat → Nat → Int) (X : Nat → Gau) (w : World) (hn9 : n ≤ 9223372036854775807) (hm9 : m ≤ 9223372036854775807) (hI : BookAt w 0 A n L F) (hJ : GausAt w 0 B m X) :
    Calls Try.prog 4 #[.slice A n c, .slice B m d] w fun e w' => e = .returned (.bool true) ∧ Below w.heap.size w w' := by
  have HI := hide hI
  have HJ := hide hJ
  clear hI hJ
  have HBO := hide (fun W (h : BookAt W 0 A n L F) => book_any A n c L F W hn9 h)
  have HBT := hide (bookB_true (n := n) (L := L))
  obtain ⟨bk, hbk⟩ : ∃ z, bookB n L = z := ⟨_, rfl⟩
  simp only [hbk] at HBO HBT
  clear hbk
  cases bk
  case false =>
    clear HBT
    have HB := hide (Below.refl w.heap.size w)
    go_enter Try.func4, Try.ntmps4
    go_wp2_with fail
    refine (awake_any _).mono ?_
    rintro e_ w_1 ⟨rfl, hb_1⟩
    replace HB := hide (HB.out.trans (hb_1.mono HB.out.size))
    clear hb_1
    go_wp2_with fail
    refine (HBO.out _ (HI.out.below HB.out)).mono ?_
    rintro e_ w_2 ⟨rfl, hb_2⟩
    replace HB := hide (HB.out.trans (hb_2.mono HB.out.size))
    clear hb_2
    go_wp2_with fail
    go_ret
    exact ⟨by first | rfl | simp, HB.out⟩
  obtain ⟨hn18, hL10⟩ := HBT.out rfl
  clear HBT
  have hL5 : ∀ i, i < n → L i ≤ 100000 := fun i hi => by have := hL10 i hi; omega
  have hL9 : ∀ i, i < n → L i ≤ 9223372036854775807 := fun i hi => by have := hL10 i hi; omega
  have HSE := hide (fun W (h : BookAt W 0 A n L F) (k : GausAt W 0 B m X) => SweepErr_any A B n c m d L F X W hn9 hm9 hL9 h k)
  have HSZ := hide (swE_zero (n := n) (m := m) (L := L) (F := F) (X := X))
  obtain ⟨V, hV⟩ : ∃ z, swE n L F m X = z := ⟨_, rfl⟩
  simp only [hV] at HSE HSZ
  by_cases hv : V = 0
  case neg =>
    have tv : (V != 0) = true := by simpa using hv
    have HB := hide (Below.refl w.heap.size w)
    clear hv hV HSZ
    go_enter Try.func4, Try.ntmps4
    go_wp2_with fail
    refine (awake_any _).mono ?_
    rintro e_ w_3 ⟨rfl, hb_3⟩
    replace HB := hide (HB.out.trans (hb_3.mono HB.out.size))
    clear hb_3
    go_wp2_with fail
    refine (HBO.out _ (HI.out.below HB.out)).mono ?_
    rintro e_ w_4 ⟨rfl, hb_4⟩
    replace HB := hide (HB.out.trans (hb_4.mono HB.out.size))
    clear hb_4
    go_wp2_with fail
    refine (HSE.out _ (HI.out.below HB.out) (HJ.out.below HB.out)).mono ?_
    rintro e_ w_5 ⟨rfl, hb_5⟩
    replace HB := hide (HB.out.trans (hb_5.mono HB.out.size))
    clear hb_5
    go_wp2_with fail
    go_ret
    exact ⟨by first | rfl | simp, HB.out⟩
  subst hv
  obtain ⟨hn0, hn16, hX, hall⟩ := HSZ.out (by first | rfl | trivial)
  clear HSZ
  have hm8 := hX.n8
  have HCB := hide (fun W (h : BookAt W 0 A n L F) => copyBook_any A n c L F W (by omega) hL5 h)
  have HCX := hide (fun W (h : GausAt W 0 B m X) => copyGausses5_any B m d X W (by omega) h)
  have HSW := hide (fun (C D : Option Addr) u v W (h : BookAt W 0 C n L F) (k : GausAt W 0 D m X) => Sweep_any C D n u m v L F X W (by omega) (by omega) hL5 h k)
  have HBF := hide (fun (C D : Option Addr) u v W (h : BookAt W 0 C n L F) (k : GausAt W 0 D m X) => BestOf_any C D n u m v L F X W (by omega) (by omega) hL5 h k)
  rw [hV, show bsR n m L F X = (swS n m F X 0 : Int) from if_pos hV] at HBF
  rw [hV] at HSW
  have HPO := hide (fun i (hi : i < n) (C D : Option Addr) u v W (h : IntsAt W 0 C m (F i)) (k : GausAt W 0 D m X) => (show Calls Try.prog 20 #[.agg #[.slice C m u], .slice D m v] W fun e w' => e = .returned (.tuple #[.agg #[.int .i64 (pwZ m F X i).re, .int .i64 (pwZ m F X i).im], .int .i64 0]) ∧ Below W.heap.size W w' by
    have := PowerOf_any C D m u m v (F i) X W (by omega) (by omega) h k
    obtain ⟨e1, e2, -⟩ := hall i hi
    have e0 : pwE m m (F i) X = 0 := by
      rw [e1] at e2
      have e3 : chE m X = 0 := by
        have h1 := hV
        obtain ⟨-, k1⟩ := firstE_none2 h1
        obtain ⟨-, k2⟩ := firstE_none2 k1
        obtain ⟨-, k3⟩ := firstE_none2 k2
        exact (firstE_none2 k3).1
      show (if cbE m (F i) = 0 then (if chE m X = 0 then (if unI ((m : Int) == (m : Int)) 13 = 0 then 0 else unI ((m : Int) == (m : Int)) 13) else chE m X) else cbE m (F i)) = 0
      rw [if_pos e2, if_pos e3, show ((m : Int) == (m : Int)) = true by simp]
      rfl
    rw [show poP m m (F i) X = (pwZ m F X i).re from if_pos e0, show poQ m m (F i) X = (pwZ m F X i).im from if_pos e0, e0] at this
    exact this))
  have HCP := hide (fun i (hi : i < n) (C : Option Addr) u W (h : IntsAt W 0 C m (F i)) => Copy_any C m u (F i) W (by omega) h)
  have HLM := hide (fun i (hi : i < n) => (hall i hi).1)
  have HZS := hide (pwZ_small (F := F) hX)
  have HCC := hide (swc_cmp m F X)
  have HSC := hide (fun i j => (show compI ((pwZ m F X j).re - (pwZ m F X i).re) ((pwZ m F X i).im - (pwZ m F X j).im) = swc m F X i j from rfl))
  have HSS := hide (swS_sorted n m F X)
  obtain ⟨Z, hZ⟩ : ∃ z, pwZ m F X = z := ⟨_, rfl⟩
  obtain ⟨K, hK⟩ : ∃ z, swc m F X = z := ⟨_, rfl⟩
  obtain ⟨S, hS⟩ : ∃ z, swS n m F X = z := ⟨_, rfl⟩
  simp only [hZ, hK, hS] at HSW HBF HPO HZS HCC HSC HSS
  clear hZ hK hS hV hall hX hL10 hL5 hL9
  have HB := hide (Below.refl w.heap.size w)
  go_enter Try.func4, Try.ntmps4
  go_wp2_with fail
  refine (awake_any _).mono ?_
  rintro e_ w_6 ⟨rfl, hb_6⟩
  replace HB := hide (HB.out.trans (hb_6.mono HB.out.size))
  clear hb_6
  go_wp2_with fail
  refine (HBO.out _ (HI.out.below HB.out)).mono ?_
  rintro e_ w_7 ⟨rfl, hb_7⟩
  replace HB := hide (HB.out.trans (hb_7.mono HB.out.size))
  clear hb_7
  go_wp2_with fail
  refine (HSE.out _ (HI.out.below HB.out) (HJ.out.below HB.out)).mono ?_
  rintro e_ w_8 ⟨rfl, hb_8⟩
  replace HB := hide (HB.out.trans (hb_8.mono HB.out.size))
  clear hb_8
  clear HBO HSE
  go_wp2_with fail
  refine (HCB.out _ (HI.out.below HB.out)).mono ?_
  rintro e_ w_9 ⟨C1, u1, rfl, hi, hb_9⟩
  replace HB := hide (HB.out.trans (hb_9.mono HB.out.size))
  clear hb_9
  have HC1 := hide hi
  clear hi
  go_wp2_with fail
  refine (HCX.out _ (HJ.out.below HB.out)).mono ?_
  rintro e_ w_10 ⟨D1, v1, rfl, hi, hb_10⟩
  replace HC1 := hide (HC1.out.below hb_10)
  replace HB := hide (HB.out.trans (hb_10.mono HB.out.size))
  clear hb_10
  have HC2 := hide hi
  clear hi
  go_wp2_with fail
  refine (HSW.out _ _ _ _ _ HC1.out HC2.out).mono ?_
  rintro e_ w_11 ⟨x, rfl, hg, hb_11⟩
  replace HC1 := hide (HC1.out.below hb_11)
  replace HC2 := hide (HC2.out.below hb_11)
  replace HB := hide (HB.out.trans (hb_11.mono HB.out.size))
  clear hb_11
  clear HC1 HC2
  obtain ⟨E, q, e, rfl, hq, hqe, he, hi⟩ := hg
  obtain rfl : n = q := (hq.1 rfl).symm
  have HE := hide (hi.weak (Nat.zero_le _))
  clear hi hq HSW
  go_wp2_with fail
  refine (HCB.out _ (HI.out.below HB.out)).mono ?_
  rintro e_ w_12 ⟨C2, u2, rfl, hi, hb_12⟩
  replace HE := hide (HE.out.below hb_12)
  replace HB := hide (HB.out.trans (hb_12.mono HB.out.size))
  clear hb_12
  have HC1 := hide hi
  clear hi
  go_wp2_with fail
  refine (HCX.out _ (HJ.out.below HB.out)).mono ?_
  rintro e_ w_13 ⟨D2, v2, rfl, hi, hb_13⟩
  replace HE := hide (HE.out.below hb_13)
  replace HC1 := hide (HC1.out.below hb_13)
  replace HB := hide (HB.out.trans (hb_13.mono HB.out.size))
  clear hb_13
  have HC2 := hide hi
  clear hi
  go_wp2_with fail
  refine (HBF.out _ _ _ _ _ HC1.out HC2.out).mono ?_
  rintro e_ w_14 ⟨rfl, hb_14⟩
  replace HE := hide (HE.out.below hb_14)
  replace HC1 := hide (HC1.out.below hb_14)
  replace HC2 := hide (HC2.out.below hb_14)
  replace HB := hide (HB.out.trans (hb_14.mono HB.out.size))
  clear hb_14
  clear HC1 HC2
  obtain ⟨bE, oE, hEe, -, -, hc0⟩ := HE.out 0 hn0
  subst hEe
  simp only [Nat.add_zero] at hc0
  have hn0z : (0 : Int) < (n : Int) := by omega
  obtain ⟨s0, hs0⟩ : ∃ z, S 0 = z := ⟨_, rfl⟩
  simp only [hs0] at hc0 ⊢
  go_wp2_with fail
  clear HCB HBF hc0 hs0
  go_loopw [9] (fun i wr => ∃ k : Nat, k ≤ n ∧ i = .int .i64 (k : Int) ∧ Hid (IntsAt wr 0 (some ⟨bE, oE, none⟩) n (fun j => (S j : Int))) ∧ Hid (Below w.heap.size w wr)) (fun i _ => n - (Go.RowKit.intOf i).toNat)
  case atStart => exact ⟨0, Nat.zero_le _, rfl, HE, HB⟩
  case round =>
    clear HE HB
    obtain ⟨k, hk, rfl, HE, HB⟩ := hrel
    obtain ⟨wA, rfl⟩ : ∃ x : World, x = wr := ⟨_, rfl⟩
    by_cases hlt : k < n
    case neg =>
      obtain rfl : k = n := by omega
      go_wp2_with fail
      go_ret
      exact ⟨by first | rfl | simp, HB.out⟩
    have hltz : (k : Int) < (n : Int) := by omega
    have hke : (k : Int) ≤ (e : Int) := by omega
    have hken : k ≤ e := by omega
    have hkn2 : k ≤ 100000 := by omega
    have HCK := hide (fun W (h : IntsAt W 0 (some ⟨bE, oE, none⟩) n (fun j => (S j : Int))) => h.cell hlt)
    have HHA := hide (fun W (h : IntsAt W 0 (some ⟨bE, oE, none⟩) k (fun j => (S j : Int))) => has_any (some ⟨bE, oE, none⟩) k e (fun j => (S j : Int)) (S k : Int) W hkn2 h)
    have HFA := hide (show hasB (fun j => (S j : Int)) k (S k : Int) = false by
        rw [Bool.eq_false_iff]
        intro h
        obtain ⟨p, hp, ep⟩ := hasB_iff.1 h
        have := HSS.out.once HCC.out (show p < n by omega) hlt ep
        omega)
    have hsk := HSS.out.lt k hlt
    have q1 : IntKind.i64.wrap ((n : Int) - 1) = (n : Int) - 1 := IntWalk.i64_in _ (by omega)
    have HWI := hide (fun W => within_any (S k : Int) 0 ((n : Int) - 1) W)
    rw [withinB_iff.2 ⟨by omega, by omega⟩] at HWI
    rw [HFA.out] at HHA
    obtain ⟨s, hs⟩ : ∃ z, S k = z := ⟨_, rfl⟩
    simp only [hs] at HCK HHA HWI hsk
    have HSK := hide hs
    clear hs HFA
    have HEk := hide (fun W (h : IntsAt W 0 (some ⟨bE, oE, none⟩) n (fun j => (S j : Int))) => (show IntsAt W 0 (some ⟨bE, oE, none⟩) k (fun j => (S j : Int)) from fun j hj => h j (by omega)))
    go_upto_region 12 with fail
    have HED := hide (show IntsAt wA.drew 0 (some ⟨bE, oE, none⟩) n (fun j => (S j : Int)) from HE.out)
    refine wp_region_held_drew (S := fun w' => w'.cell? ⟨bE, oE + k, none⟩ = some (.int .i64 (s : Int))) (by kernel_rfl) (HCK.out _ HED.out) (fun hHeld => ?_)
    obtain ⟨w_15, hw_15⟩ : ∃ q : World, q = wA.drew := ⟨_, rfl⟩
    rw [← hw_15] at hHeld ⊢
    have hc_15 : Below wA.heap.size wA w_15 := by rw [hw_15]; exact (Below.refl _ _).drew
    clear hw_15
    replace HE := hide (HE.out.below hc_15)
    replace HB := hide (HB.out.trans (hc_15.mono HB.out.size))
    clear hc_15
    refine wpAnyH_take (i := 0) (oi := ⟨some 69, _, _, _, _, _⟩) (v := ?_) rfl (by kernel_rfl) (by kernel_rfl) (by kernel_rfl) (fun _ _ _ h => h) (Or.inl ⟨by rfl, ?_⟩) (by assumption) ?_
    rotate_left
    · (intro w' hSw; (try dsimp only at hSw); go_simp <;> (with_reducible rfl))
    try simp only [Act.put, List.setIfInBounds_toArray, List.set_cons_zero, List.set_cons_succ]
    refine wpAnyH_take (i := 1) (oi := ⟨some 70, _, _, _, _, _⟩) (v := ?_) rfl (by kernel_rfl) (by kernel_rfl) (by kernel_rfl) (fun _ _ _ h => h) (Or.inl ⟨by rfl, ?_⟩) (by assumption) ?_
    rotate_left
    · (intro w' hSw; (try dsimp only at hSw); go_simp <;> (with_reducible rfl))
    try simp only [Act.put, List.setIfInBounds_toArray, List.set_cons_zero, List.set_cons_succ]
    refine wpAnyH_take (i := 2) (oi := ⟨some 71, _, _, _, _, _⟩) (v := ?_) rfl (by kernel_rfl) (by kernel_rfl) (by kernel_rfl) (fun _ _ _ h => h) (Or.inl ⟨by rfl, ?_⟩) (by assumption) ?_
    rotate_left
    · (intro w' hSw; (try dsimp only at hSw); go_simp <;> (with_reducible rfl))
    try simp only [Act.put, List.setIfInBounds_toArray, List.set_cons_zero, List.set_cons_succ]
    refine wpAnyH_take (i := 3) (oi := ⟨some 72, _, _, _, _, _⟩) (v := ?_) rfl (by kernel_rfl) (by kernel_rfl) (by kernel_rfl) (fun _ _ _ h => h) (Or.inl ⟨by rfl, ?_⟩) (by assumption) ?_
    rotate_left
    · (intro w' hSw; (try dsimp only at hSw); go_simp <;> (with_reducible rfl))
    try simp only [Act.put, List.setIfInBounds_toArray, List.set_cons_zero, List.set_cons_succ]
    refine wpAnyH_take (i := 4) (oi := ⟨some 73, _, _, _, _, _⟩) (v := ?_) rfl (by kernel_rfl) (by kernel_rfl) (by kernel_rfl) (fun _ _ _ h => h) (Or.inl ⟨by rfl, ?_⟩) (by assumption) ?_
    rotate_left
    · (intro w' hSw; (try dsimp only at hSw); go_simp <;> (with_reducible rfl))
    try simp only [Act.put, List.setIfInBounds_toArray, List.set_cons_zero, List.set_cons_succ]
    refine wpAnyH_take (i := 5) (oi := ⟨some 74, _, _, _, _, _⟩) (v := ?_) rfl (by kernel_rfl) (by kernel_rfl) (by kernel_rfl) (fun _ _ _ h => h) (Or.inl ⟨by rfl, ?_⟩) (by assumption) ?_
    rotate_left
    · (intro w' hSw; (try dsimp only at hSw); go_simp <;> (with_reducible rfl))
    try simp only [Act.put, List.setIfInBounds_toArray, List.set_cons_zero, List.set_cons_succ]
    refine wpAnyH_take (i := 6) (oi := ⟨some 75, _, _, _, _, _⟩) (v := ?_) rfl (by kernel_rfl) (by kernel_rfl) (by kernel_rfl) (fun _ _ _ h => h) (Or.inl ⟨by rfl, ?_⟩) (by assumption) ?_
    rotate_left
    · (intro w' hSw; (try dsimp only at hSw); go_simp <;> (with_reducible rfl))
    try simp only [Act.put, List.setIfInBounds_toArray, List.set_cons_zero, List.set_cons_succ]
    refine wpAnyH_ready (rs := [7]) (by kernel_rfl) (by simp) ?_
    refine AllReadyH.cons (o := ⟨some 76, _, _, _, _, _⟩) rfl (fun K' hK => ?_) AllReadyH.nil
    go_simp
    go_at_call 25
    refine (HWI.out _).mono ?_
    rintro e_ v_ ⟨rfl, rfl⟩
    go_wp2_with fail
    refine hK.out _ _ (HCK.out _ HE.out) (fun hHeld => ?_)
    clear hK K'
    try simp only [Act.put, List.setIfInBounds_toArray, List.set_cons_zero, List.set_cons_succ]
    refine wpAnyH_take (i := 8) (oi := ⟨some 77, _, _, _, _, _⟩) (v := ?_) rfl (by kernel_rfl) (by kernel_rfl) (by kernel_rfl) (fun _ _ _ h => h) (Or.inl ⟨by rfl, ?_⟩) (by assumption) ?_
    rotate_left
    · (intro w' hSw; (try dsimp only at hSw); go_simp <;> (with_reducible rfl))
    try simp only [Act.put, List.setIfInBounds_toArray, List.set_cons_zero, List.set_cons_succ]
    refine wpAnyH_take (i := 9) (oi := ⟨some 78, _, _, _, _, _⟩) (v := ?_) rfl (by kernel_rfl) (by kernel_rfl) (by kernel_rfl) (fun _ _ _ h => h) (Or.inl ⟨by rfl, ?_⟩) (by assumption) ?_
    rotate_left
    · (intro w' hSw; (try dsimp only at hSw); go_simp <;> (with_reducible rfl))
    try simp only [Act.put, List.setIfInBounds_toArray, List.set_cons_zero, List.set_cons_succ]
    refine wpAnyH_take (i := 10) (oi := ⟨some 79, _, _, _, _, _⟩) (v := ?_) rfl (by kernel_rfl) (by kernel_rfl) (by kernel_rfl) (fun _ _ _ h => h) (Or.inl ⟨by rfl, ?_⟩) (by assumption) ?_
    rotate_left
    · (intro w' hSw; (try dsimp only at hSw); go_simp <;> (with_reducible rfl))
    try simp only [Act.put, List.setIfInBounds_toArray, List.set_cons_zero, List.set_cons_succ]
    refine wpAnyH_take (i := 11) (oi := ⟨some 80, _, _, _, _, _⟩) (v := ?_) rfl (by kernel_rfl) (by kernel_rfl) (by kernel_rfl) (fun _ _ _ h => h) (Or.inl ⟨by rfl, ?_⟩) (by assumption) ?_
    rotate_left
    · (intro w' hSw; (try dsimp only at hSw); go_simp <;> (with_reducible rfl))
    try simp only [Act.put, List.setIfInBounds_toArray, List.set_cons_zero, List.set_cons_succ]
    refine wpAnyH_take (i := 12) (oi := ⟨some 81, _, _, _, _, _⟩) (v := ?_) rfl (by kernel_rfl) (by kernel_rfl) (by kernel_rfl) (fun _ _ _ h => h) (Or.inl ⟨by rfl, ?_⟩) (by assumption) ?_
    rotate_left
    · (intro w' hSw; (try dsimp only at hSw); go_simp <;> (with_reducible rfl))
    try simp only [Act.put, List.setIfInBounds_toArray, List.set_cons_zero, List.set_cons_succ]
    refine wpAnyH_take (i := 13) (oi := ⟨some 82, _, _, _, _, _⟩) (v := ?_) rfl (by kernel_rfl) (by kernel_rfl) (by kernel_rfl) (fun _ _ _ h => h) (Or.inl ⟨by rfl, ?_⟩) (by assumption) ?_
    rotate_left
    · (intro w' hSw; (try dsimp only at hSw); go_simp <;> (with_reducible rfl))
    try simp only [Act.put, List.setIfInBounds_toArray, List.set_cons_zero, List.set_cons_succ]
    refine wpAnyH_take (i := 14) (oi := ⟨some 83, _, _, _, _, _⟩) (v := ?_) rfl (by kernel_rfl) (by kernel_rfl) (by kernel_rfl) (fun _ _ _ h => h) (Or.inl ⟨by rfl, ?_⟩) (by assumption) ?_
    rotate_left
    · (intro w' hSw; (try dsimp only at hSw); go_simp <;> (with_reducible rfl))
    try simp only [Act.put, List.setIfInBounds_toArray, List.set_cons_zero, List.set_cons_succ]
    refine wpAnyH_take (i := 15) (oi := ⟨some 84, _, _, _, _, _⟩) (v := ?_) rfl (by kernel_rfl) (by kernel_rfl) (by kernel_rfl) (fun _ _ _ h => h) (Or.inl ⟨by rfl, ?_⟩) (by assumption) ?_
    rotate_left
    · (intro w' hSw; (try dsimp only at hSw); go_simp <;> (with_reducible rfl))
    try simp only [Act.put, List.setIfInBounds_toArray, List.set_cons_zero, List.set_cons_succ]
    refine wpAnyH_take (i := 16) (oi := ⟨some 85, _, _, _, _, _⟩) (v := ?_) rfl (by kernel_rfl) (by kernel_rfl) (by kernel_rfl) (fun _ _ _ h => h) (Or.inl ⟨by rfl, ?_⟩) (by assumption) ?_
    rotate_left
    · (intro w' hSw; (try dsimp only at hSw); go_simp <;> (with_reducible rfl))
    try simp only [Act.put, List.setIfInBounds_toArray, List.set_cons_zero, List.set_cons_succ]
    refine wpAnyH_ready (rs := [17]) (by kernel_rfl) (by simp) ?_
    refine AllReadyH.cons (o := ⟨some 86, _, _, _, _, _⟩) rfl (fun K' hK => ?_) AllReadyH.nil
    go_simp
    go_at_call 26
    refine (HHA.out _ (HEk.out _ HE.out)).mono ?_
    rintro e_ w_16 ⟨rfl, hb_16⟩
    replace HE := hide (HE.out.below hb_16)
    replace HB := hide (HB.out.trans (hb_16.mono HB.out.size))
    clear hb_16
    go_wp2_with fail
    refine hK.out _ _ (HCK.out _ HE.out) (fun hHeld => ?_)
    clear hK K'
    try simp only [Act.put, List.setIfInBounds_toArray, List.set_cons_zero, List.set_cons_succ]
    refine wpAnyH_take (i := 18) (oi := ⟨some 87, _, _, _, _, _⟩) (v := ?_) rfl (by kernel_rfl) (by kernel_rfl) (by kernel_rfl) (fun _ _ _ h => h) (Or.inl ⟨by rfl, ?_⟩) (by assumption) ?_
    rotate_left
    · (intro w' hSw; (try dsimp only at hSw); go_simp <;> (with_reducible rfl))
    try simp only [Act.put, List.setIfInBounds_toArray, List.set_cons_zero, List.set_cons_succ]
    refine wpAnyH_done (by kernel_rfl) ?_ _
    clear hHeld HHA HWI HEk hke hken hkn2 q1 HED
    by_cases hk0 : k = 0
    case pos =>
      subst hk0
      go_wp2_with fail
      go_roundw
      case rel => exact ⟨1, by omega, by go_num, HE, HB⟩
      case measure => simp [Go.RowKit.intOf]; omega
    obtain ⟨j, hj⟩ : ∃ j, k = j + 1 := ⟨k - 1, by omega⟩
    have tk : ((k : Int) == 0) = false := by simp; omega
    have q2 : IntKind.i64.wrap ((k : Int) - 1) = (j : Int) := by rw [IntWalk.i64_in _ (by omega)]; omega
    have hjn : j < n := by omega
    have hjnz : (j : Int) < (n : Int) := by omega
    have HCJ := hide (fun W (h : IntsAt W 0 (some ⟨bE, oE, none⟩) n (fun j => (S j : Int))) => h.cell hjn)
    have hsj := HSS.out.lt j hjn
    have hord := HSS.out.ord j k (by omega) hlt
    obtain ⟨p, hp⟩ : ∃ z, S j = z := ⟨_, rfl⟩
    simp only [hp] at HCJ hsj hord
    rw [HSK.out] at hord
    clear hp HSK hj
    have hsn : (s : Int) < (n : Int) := by omega
    have hpn : (p : Int) < (n : Int) := by omega
    obtain ⟨b, o, Ap, cp, hbe, -, hbl, hcp, -, -, hip⟩ := HI.out p hsj
    obtain ⟨b2, o2, As, cs, hbe2, -, hbl2, hcs, -, -, his⟩ := HI.out s hsk
    have hsame : b2 = b ∧ o2 = o := by
      rw [hbe] at hbe2; injection hbe2 with e; injection e with e1 e2; exact ⟨e1.symm, e2.symm⟩
    obtain ⟨rfl, rfl⟩ := hsame
    subst hbe
    rw [HLM.out p hsj] at hcp hip
    rw [HLM.out s hsk] at hcs his
    have HIP := hide hip
    have HIS := hide his
    have HCPc := hide hcp
    have HCSc := hide hcs
    clear hip his hcp hcs hbe2 hbl2
    have HPp := hide (HPO.out p hsj)
    have HPs := hide (HPO.out s hsk)
    have HCp := hide (HCP.out p hsj)
    have HCs := hide (HCP.out s hsk)
    have b1 := HZS.out p
    have b2' := HZS.out s
    obtain ⟨l0, l1⟩ := lg_small b1.re b1.im b2'.re b2'.im
    rw [HSC.out s p] at l1
    have HLA := hide (fun W => Larger_any (Z p).re (Z p).im (Z s).re (Z s).im W)
    rw [l0, l1] at HLA
    have han := HCC.out.anti p s
    obtain ⟨r, hr⟩ : ∃ z, K s p = z := ⟨_, rfl⟩
    rw [hr] at HLA han
    have hro : r > 0 ∨ (r = 0 ∧ p < s) := by
      rcases hord with h | ⟨h, h2⟩
      · exact .inl (by omega)
      · exact .inr ⟨by omega, h2⟩
    clear b1 b2' l0 l1 han hr hord
    obtain ⟨zp, hzp⟩ : ∃ z, Z p = z := ⟨_, rfl⟩
    obtain ⟨zs, hzs⟩ : ∃ z, Z s = z := ⟨_, rfl⟩
    simp only [hzp, hzs] at HPp HPs HLA
    clear hzp hzs
    obtain ⟨pr, hpr⟩ : ∃ z, zp.re = z := ⟨_, rfl⟩
    obtain ⟨pi, hpi⟩ : ∃ z, zp.im = z := ⟨_, rfl⟩
    obtain ⟨sr, hsr⟩ : ∃ z, zs.re = z := ⟨_, rfl⟩
    obtain ⟨si, hsi⟩ : ∃ z, zs.im = z := ⟨_, rfl⟩
    simp only [hpr, hpi] at HPp HLA
    simp only [hsr, hsi] at HPs HLA
    clear hpr hpi hsr hsi
    have hx1 := HCJ.out _ HE.out
    have hx2 := (HB.out.cell (p := ⟨b2, o2 + p, none⟩) hbl).trans HCPc.out
    go_wp2_with fail
    clear hx1 hx2
    refine (HCp.out _ _ _ (HIP.out.below HB.out)).mono ?_
    rintro e_ w_17 ⟨C9, u9, rfl, hu9, hu99, hi, hb_17⟩
    replace HE := hide (HE.out.below hb_17)
    replace HB := hide (HB.out.trans (hb_17.mono HB.out.size))
    clear hb_17
    have HC1 := hide (hi.weak (Nat.zero_le _))
    clear hi hu9 hu99
    go_wp2_with fail
    refine (HCX.out _ (HJ.out.below HB.out)).mono ?_
    rintro e_ w_18 ⟨D9, v9, rfl, hi, hb_18⟩
    replace HE := hide (HE.out.below hb_18)
    replace HC1 := hide (HC1.out.below hb_18)
    replace HB := hide (HB.out.trans (hb_18.mono HB.out.size))
    clear hb_18
    have HC2 := hide hi
    clear hi
    go_wp2_with fail
    refine (HPp.out _ _ _ _ _ HC1.out HC2.out).mono ?_
    rintro e_ w_19 ⟨rfl, hb_19⟩
    replace HE := hide (HE.out.below hb_19)
    replace HC1 := hide (HC1.out.below hb_19)
    replace HC2 := hide (HC2.out.below hb_19)
    replace HB := hide (HB.out.trans (hb_19.mono HB.out.size))
    clear hb_19
    clear HC1 HC2
    go_upto_region 16 with fail
    obtain ⟨gHX10, hgHX10⟩ : ∃ q, w_19.heap.size = q := ⟨_, rfl⟩
    obtain ⟨w_20, hw_20⟩ : ∃ q : World, q = w_19.alloc (.cells #[.int .i64 pr, .int .i64 pi] 39) := ⟨_, rfl⟩
    try rw [← hw_20]
    have HX10 := hide (show Box w_20 gHX10 39 #[.int .i64 pr, .int .i64 pi] by rw [hw_20]; exact Box.made hgHX10.symm)
    have hc_20 : Below w_19.heap.size w_19 w_20 := by rw [hw_20]; exact (Below.refl _ _).alloc (Nat.le_refl _) _
    clear hw_20
    replace HE := hide (HE.out.below hc_20)
    replace HB := hide (HB.out.trans (hc_20.mono HB.out.size))
    clear hc_20
    try simp only [hgHX10]
    clear hgHX10
    have hx1 := HCK.out _ HE.out
    have hx2 := (HB.out.cell (p := ⟨b2, o2 + s, none⟩) hbl).trans HCSc.out
    go_wp2_with fail
    clear hx1 hx2
    refine (HCs.out _ _ _ (HIS.out.below HB.out)).mono ?_
    rintro e_ w_21 ⟨C9, u9, rfl, hu9, hu99, hi, hb_21⟩
    replace HE := hide (HE.out.below hb_21)
    replace HX10 := hide (HX10.out.below hb_21)
    replace HB := hide (HB.out.trans (hb_21.mono HB.out.size))
    clear hb_21
    have HC1 := hide (hi.weak (Nat.zero_le _))
    clear hi hu9 hu99
    go_wp2_with fail
    refine (HCX.out _ (HJ.out.below HB.out)).mono ?_
    rintro e_ w_22 ⟨D9, v9, rfl, hi, hb_22⟩
    replace HE := hide (HE.out.below hb_22)
    replace HX10 := hide (HX10.out.below hb_22)
    replace HC1 := hide (HC1.out.below hb_22)
    replace HB := hide (HB.out.trans (hb_22.mono HB.out.size))
    clear hb_22
    have HC2 := hide hi
    clear hi
    go_wp2_with fail
    refine (HPs.out _ _ _ _ _ HC1.out HC2.out).mono ?_
    rintro e_ w_23 ⟨rfl, hb_23⟩
    replace HE := hide (HE.out.below hb_23)
    replace HX10 := hide (HX10.out.below hb_23)
    replace HC1 := hide (HC1.out.below hb_23)
    replace HC2 := hide (HC2.out.below hb_23)
    replace HB := hide (HB.out.trans (hb_23.mono HB.out.size))
    clear hb_23
    clear HC1 HC2
    go_upto_region 17 with fail
    obtain ⟨gHX12, hgHX12⟩ : ∃ q, w_23.heap.size = q := ⟨_, rfl⟩
    obtain ⟨w_24, hw_24⟩ : ∃ q : World, q = w_23.alloc (.cells #[.int .i64 sr, .int .i64 si] 39) := ⟨_, rfl⟩
    try rw [← hw_24]
    have HX12 := hide (show Box w_24 gHX12 39 #[.int .i64 sr, .int .i64 si] by rw [hw_24]; exact Box.made hgHX12.symm)
    have hc_24 : Below w_23.heap.size w_23 w_24 := by rw [hw_24]; exact (Below.refl _ _).alloc (Nat.le_refl _) _
    clear hw_24
    replace HE := hide (HE.out.below hc_24)
    replace HX10 := hide (HX10.out.below hc_24)
    replace HB := hide (HB.out.trans (hc_24.mono HB.out.size))
    clear hc_24
    try simp only [hgHX12]
    clear hgHX12
    obtain ⟨y0, y1, -, -, hly⟩ := HX10.out.c2
    obtain ⟨z0, z1, -, -, hlz⟩ := HX12.out.c2
    go_wp2_with fail
    clear y0 y1 z0 z1 hly hlz
    refine (HLA.out _).mono ?_
    rintro e_ w_25 ⟨rfl, hb_25⟩
    replace HE := hide (HE.out.below hb_25)
    replace HX10 := hide (HX10.out.below hb_25)
    replace HX12 := hide (HX12.out.below hb_25)
    replace HB := hide (HB.out.trans (hb_25.mono HB.out.size))
    clear hb_25
    go_upto_region 18 with fail
    have HED := hide (show IntsAt w_25.drew 0 (some ⟨bE, oE, none⟩) n (fun j => (S j : Int)) from HE.out)
    rcases hro with hr | ⟨hr, hps⟩
    · have t1 : (r == 0) = false := by simp; omega
      have t2 : ¬ r < 0 := by omega
      refine wp_region_held_drew (S := fun w' => w'.cell? ⟨bE, oE + j, none⟩ = some (.int .i64 (p : Int)) ∧ w'.cell? ⟨bE, oE + k, none⟩ = some (.int .i64 (s : Int))) (by kernel_rfl) ⟨HCJ.out _ HED.out, HCK.out _ HED.out⟩ (fun hHeld => ?_)
      obtain ⟨w_26, hw_26⟩ : ∃ q : World, q = w_25.drew := ⟨_, rfl⟩
      rw [← hw_26] at hHeld ⊢
      have hc_26 : Below w_25.heap.size w_25 w_26 := by rw [hw_26]; exact (Below.refl _ _).drew
      clear hw_26
      replace HE := hide (HE.out.below hc_26)
      replace HX10 := hide (HX10.out.below hc_26)
      replace HX12 := hide (HX12.out.below hc_26)
      replace HB := hide (HB.out.trans (hc_26.mono HB.out.size))
      clear hc_26
      refine wpAnyH_take (i := 0) (oi := ⟨some 125, _, _, _, _, _⟩) (v := ?_) rfl (by kernel_rfl) (by kernel_rfl) (by kernel_rfl) (fun _ _ _ h => h) (Or.inl ⟨by rfl, ?_⟩) (by assumption) ?_
      rotate_left
      · (intro w' hSw; (try dsimp only at hSw); go_simp <;> (with_reducible rfl))
      try simp only [Act.put, List.setIfInBounds_toArray, List.set_cons_zero, List.set_cons_succ]
      refine wpAnyH_take (i := 1) (oi := ⟨some 126, _, _, _, _, _⟩) (v := ?_) rfl (by kernel_rfl) (by kernel_rfl) (by kernel_rfl) (fun _ _ _ h => h) (Or.inl ⟨by rfl, ?_⟩) (by assumption) ?_
      rotate_left
      · (intro w' hSw; (try dsimp only at hSw); go_simp <;> (with_reducible rfl))
      try simp only [Act.put, List.setIfInBounds_toArray, List.set_cons_zero, List.set_cons_succ]
      refine wpAnyH_take (i := 2) (oi := ⟨some 127, _, _, _, _, _⟩) (v := ?_) rfl (by kernel_rfl) (by kernel_rfl) (by kernel_rfl) (fun _ _ _ h => h) (Or.inl ⟨by rfl, ?_⟩) (by assumption) ?_
      rotate_left
      · (intro w' hSw; (try dsimp only at hSw); go_simp <;> (with_reducible rfl))
      try simp only [Act.put, List.setIfInBounds_toArray, List.set_cons_zero, List.set_cons_succ]
      refine wpAnyH_take (i := 3) (oi := ⟨some 128, _, _, _, _, _⟩) (v := ?_) rfl (by kernel_rfl) (by kernel_rfl) (by kernel_rfl) (fun _ _ _ h => h) (Or.inl ⟨by rfl, ?_⟩) (by assumption) ?_
      rotate_left
      · (intro w' hSw; (try dsimp only at hSw); go_simp <;> (with_reducible rfl))
      try simp only [Act.put, List.setIfInBounds_toArray, List.set_cons_zero, List.set_cons_succ]
      refine wpAnyH_take (i := 4) (oi := ⟨some 129, _, _, _, _, _⟩) (v := ?_) rfl (by kernel_rfl) (by kernel_rfl) (by kernel_rfl) (fun _ _ _ h => h) (Or.inl ⟨by rfl, ?_⟩) (by assumption) ?_
      rotate_left
      · (intro w' hSw; (try dsimp only at hSw); go_simp <;> (with_reducible rfl))
      try simp only [Act.put, List.setIfInBounds_toArray, List.set_cons_zero, List.set_cons_succ]
      refine wpAnyH_take (i := 5) (oi := ⟨some 130, _, _, _, _, _⟩) (v := ?_) rfl (by kernel_rfl) (by kernel_rfl) (by kernel_rfl) (fun _ _ _ h => h) (Or.inl ⟨by rfl, ?_⟩) (by assumption) ?_
      rotate_left
      · (intro w' hSw; (try dsimp only at hSw); go_simp <;> (with_reducible rfl))
      try simp only [Act.put, List.setIfInBounds_toArray, List.set_cons_zero, List.set_cons_succ]
      refine wpAnyH_take (i := 6) (oi := ⟨some 131, _, _, _, _, _⟩) (v := ?_) rfl (by kernel_rfl) (by kernel_rfl) (by kernel_rfl) (fun _ _ _ h => h) (Or.inl ⟨by rfl, ?_⟩) (by assumption) ?_
      rotate_left
      · (intro w' hSw; (try dsimp only at hSw); go_simp <;> (with_reducible rfl))
      try simp only [Act.put, List.setIfInBounds_toArray, List.set_cons_zero, List.set_cons_succ]
      refine wpAnyH_take (i := 7) (oi := ⟨some 132, _, _, _, _, _⟩) (v := ?_) rfl (by kernel_rfl) (by kernel_rfl) (by kernel_rfl) (fun _ _ _ h => h) (Or.inl ⟨by rfl, ?_⟩) (by assumption) ?_
      rotate_left
      · (intro w' hSw; (try dsimp only at hSw); go_simp <;> (with_reducible rfl))
      try simp only [Act.put, List.setIfInBounds_toArray, List.set_cons_zero, List.set_cons_succ]
      refine wpAnyH_take (i := 8) (oi := ⟨some 133, _, _, _, _, _⟩) (v := ?_) rfl (by kernel_rfl) (by kernel_rfl) (by kernel_rfl) (fun _ _ _ h => h) (Or.inl ⟨by rfl, ?_⟩) (by assumption) ?_
      rotate_left
      · (intro w' hSw; (try dsimp only at hSw); go_simp <;> (with_reducible rfl))
      try simp only [Act.put, List.setIfInBounds_toArray, List.set_cons_zero, List.set_cons_succ]
      refine wpAnyH_take (i := 9) (oi := ⟨some 134, _, _, _, _, _⟩) (v := ?_) rfl (by kernel_rfl) (by kernel_rfl) (by kernel_rfl) (fun _ _ _ h => h) (Or.inl ⟨by rfl, ?_⟩) (by assumption) ?_
      rotate_left
      · (intro w' hSw; (try dsimp only at hSw); go_simp <;> (with_reducible rfl))
      try simp only [Act.put, List.setIfInBounds_toArray, List.set_cons_zero, List.set_cons_succ]
      refine wpAnyH_take (i := 10) (oi := ⟨some 135, _, _, _, _, _⟩) (v := ?_) rfl (by kernel_rfl) (by kernel_rfl) (by kernel_rfl) (fun _ _ _ h => h) (Or.inl ⟨by rfl, ?_⟩) (by assumption) ?_
      rotate_left
      · (intro w' hSw; (try dsimp only at hSw); go_simp <;> (with_reducible rfl))
      try simp only [Act.put, List.setIfInBounds_toArray, List.set_cons_zero, List.set_cons_succ]
      refine wpAnyH_take (i := 11) (oi := ⟨some 136, _, _, _, _, _⟩) (v := ?_) rfl (by kernel_rfl) (by kernel_rfl) (by kernel_rfl) (fun _ _ _ h => h) (Or.inl ⟨by rfl, ?_⟩) (by assumption) ?_
      rotate_left
      · (intro w' hSw; (try dsimp only at hSw); go_simp <;> (with_reducible rfl))
      try simp only [Act.put, List.setIfInBounds_toArray, List.set_cons_zero, List.set_cons_succ]
      refine wpAnyH_take (i := 12) (oi := ⟨some 137, _, _, _, _, _⟩) (v := ?_) rfl (by kernel_rfl) (by kernel_rfl) (by kernel_rfl) (fun _ _ _ h => h) (Or.inl ⟨by rfl, ?_⟩) (by assumption) ?_
      rotate_left
      · (intro w' hSw; (try dsimp only at hSw); go_simp <;> (with_reducible rfl))
      try simp only [Act.put, List.setIfInBounds_toArray, List.set_cons_zero, List.set_cons_succ]
      refine wpAnyH_take (i := 13) (oi := ⟨some 138, _, _, _, _, _⟩) (v := ?_) rfl (by kernel_rfl) (by kernel_rfl) (by kernel_rfl) (fun _ _ _ h => h) (Or.inl ⟨by rfl, ?_⟩) (by assumption) ?_
      rotate_left
      · (intro w' hSw; (try dsimp only at hSw); go_simp <;> (with_reducible rfl))
      try simp only [Act.put, List.setIfInBounds_toArray, List.set_cons_zero, List.set_cons_succ]
      refine wpAnyH_take (i := 14) (oi := ⟨some 139, _, _, _, _, _⟩) (v := ?_) rfl (by kernel_rfl) (by kernel_rfl) (by kernel_rfl) (fun _ _ _ h => h) (Or.inl ⟨by rfl, ?_⟩) (by assumption) ?_
      rotate_left
      · (intro w' hSw; (try dsimp only at hSw); go_simp <;> (with_reducible rfl))
      try simp only [Act.put, List.setIfInBounds_toArray, List.set_cons_zero, List.set_cons_succ]
      refine wpAnyH_take (i := 15) (oi := ⟨some 140, _, _, _, _, _⟩) (v := ?_) rfl (by kernel_rfl) (by kernel_rfl) (by kernel_rfl) (fun _ _ _ h => h) (Or.inl ⟨by rfl, ?_⟩) (by assumption) ?_
      rotate_left
      · (intro w' hSw; (try dsimp only at hSw); go_simp <;> (with_reducible rfl))
      try simp only [Act.put, List.setIfInBounds_toArray, List.set_cons_zero, List.set_cons_succ]
      refine wpAnyH_take (i := 16) (oi := ⟨some 141, _, _, _, _, _⟩) (v := ?_) rfl (by kernel_rfl) (by kernel_rfl) (by kernel_rfl) (fun _ _ _ h => h) (Or.inl ⟨by rfl, ?_⟩) (by assumption) ?_
      rotate_left
      · (intro w' hSw; (try dsimp only at hSw); go_simp <;> (with_reducible rfl))
      try simp only [Act.put, List.setIfInBounds_toArray, List.set_cons_zero, List.set_cons_succ]
      refine wpAnyH_take (i := 17) (oi := ⟨some 142, _, _, _, _, _⟩) (v := ?_) rfl (by kernel_rfl) (by kernel_rfl) (by kernel_rfl) (fun _ _ _ h => h) (Or.inl ⟨by rfl, ?_⟩) (by assumption) ?_
      rotate_left
      · (intro w' hSw; (try dsimp only at hSw); go_simp <;> (with_reducible rfl))
      try simp only [Act.put, List.setIfInBounds_toArray, List.set_cons_zero, List.set_cons_succ]
      refine wpAnyH_take (i := 18) (oi := ⟨some 143, _, _, _, _, _⟩) (v := undef) rfl (by kernel_rfl) (by kernel_rfl) (by kernel_rfl) (fun _ _ _ h => h) (Or.inr ⟨by rfl, by rfl⟩) (by assumption) ?_
      try simp only [Act.put, List.setIfInBounds_toArray, List.set_cons_zero, List.set_cons_succ]
      refine wpAnyH_take (i := 19) (oi := ⟨some 144, _, _, _, _, _⟩) (v := undef) rfl (by kernel_rfl) (by kernel_rfl) (by kernel_rfl) (fun _ _ _ h => h) (Or.inr ⟨by rfl, by rfl⟩) (by assumption) ?_
      try simp only [Act.put, List.setIfInBounds_toArray, List.set_cons_zero, List.set_cons_succ]
      refine wpAnyH_take (i := 20) (oi := ⟨some 145, _, _, _, _, _⟩) (v := undef) rfl (by kernel_rfl) (by kernel_rfl) (by kernel_rfl) (fun _ _ _ h => h) (Or.inr ⟨by rfl, by rfl⟩) (by assumption) ?_
      try simp only [Act.put, List.setIfInBounds_toArray, List.set_cons_zero, List.set_cons_succ]
      refine wpAnyH_take (i := 21) (oi := ⟨some 146, _, _, _, _, _⟩) (v := undef) rfl (by kernel_rfl) (by kernel_rfl) (by kernel_rfl) (fun _ _ _ h => h) (Or.inr ⟨by rfl, by rfl⟩) (by assumption) ?_
      try simp only [Act.put, List.setIfInBounds_toArray, List.set_cons_zero, List.set_cons_succ]
      refine wpAnyH_take (i := 22) (oi := ⟨some 147, _, _, _, _, _⟩) (v := undef) rfl (by kernel_rfl) (by kernel_rfl) (by kernel_rfl) (fun _ _ _ h => h) (Or.inr ⟨by rfl, by rfl⟩) (by assumption) ?_
      try simp only [Act.put, List.setIfInBounds_toArray, List.set_cons_zero, List.set_cons_succ]
      refine wpAnyH_take (i := 23) (oi := ⟨some 148, _, _, _, _, _⟩) (v := undef) rfl (by kernel_rfl) (by kernel_rfl) (by kernel_rfl) (fun _ _ _ h => h) (Or.inr ⟨by rfl, by rfl⟩) (by assumption) ?_
      try simp only [Act.put, List.setIfInBounds_toArray, List.set_cons_zero, List.set_cons_succ]
      refine wpAnyH_take (i := 24) (oi := ⟨some 149, _, _, _, _, _⟩) (v := undef) rfl (by kernel_rfl) (by kernel_rfl) (by kernel_rfl) (fun _ _ _ h => h) (Or.inr ⟨by rfl, by rfl⟩) (by assumption) ?_
      try simp only [Act.put, List.setIfInBounds_toArray, List.set_cons_zero, List.set_cons_succ]
      refine wpAnyH_take (i := 25) (oi := ⟨some 150, _, _, _, _, _⟩) (v := undef) rfl (by kernel_rfl) (by kernel_rfl) (by kernel_rfl) (fun _ _ _ h => h) (Or.inr ⟨by rfl, by rfl⟩) (by assumption) ?_
      try simp only [Act.put, List.setIfInBounds_toArray, List.set_cons_zero, List.set_cons_succ]
      refine wpAnyH_take (i := 26) (oi := ⟨some 151, _, _, _, _, _⟩) (v := undef) rfl (by kernel_rfl) (by kernel_rfl) (by kernel_rfl) (fun _ _ _ h => h) (Or.inr ⟨by rfl, by rfl⟩) (by assumption) ?_
      try simp only [Act.put, List.setIfInBounds_toArray, List.set_cons_zero, List.set_cons_succ]
      refine wpAnyH_take (i := 27) (oi := ⟨some 152, _, _, _, _, _⟩) (v := undef) rfl (by kernel_rfl) (by kernel_rfl) (by kernel_rfl) (fun _ _ _ h => h) (Or.inr ⟨by rfl, by rfl⟩) (by assumption) ?_
      try simp only [Act.put, List.setIfInBounds_toArray, List.set_cons_zero, List.set_cons_succ]
      refine wpAnyH_take (i := 28) (oi := ⟨some 153, _, _, _, _, _⟩) (v := ?_) rfl (by kernel_rfl) (by kernel_rfl) (by kernel_rfl) (fun _ _ _ h => h) (Or.inl ⟨by rfl, ?_⟩) (by assumption) ?_
      rotate_left
      · (intro w' hSw; (try dsimp only at hSw); go_simp <;> (with_reducible rfl))
      try simp only [Act.put, List.setIfInBounds_toArray, List.set_cons_zero, List.set_cons_succ]
      refine wpAnyH_take (i := 29) (oi := ⟨some 154, _, _, _, _, _⟩) (v := ?_) rfl (by kernel_rfl) (by kernel_rfl) (by kernel_rfl) (fun _ _ _ h => h) (Or.inl ⟨by rfl, ?_⟩) (by assumption) ?_
      rotate_left
      · (intro w' hSw; (try dsimp only at hSw); go_simp <;> (with_reducible rfl))
      try simp only [Act.put, List.setIfInBounds_toArray, List.set_cons_zero, List.set_cons_succ]
      refine wpAnyH_done (by kernel_rfl) ?_ _
      clear hHeld
      go_wp2_with fail
      go_roundw
      case rel => exact ⟨k + 1, by omega, by go_num, HE, HB⟩
      case measure => simp [Go.RowKit.intOf]; omega
    · subst hr
      have t3 : ¬ (p : Int) > (s : Int) := by omega
      have t4 : ¬ s < p := by omega
      refine wp_region_held_drew (S := fun w' => w'.cell? ⟨bE, oE + j, none⟩ = some (.int .i64 (p : Int)) ∧ w'.cell? ⟨bE, oE + k, none⟩ = some (.int .i64 (s : Int))) (by kernel_rfl) ⟨HCJ.out _ HED.out, HCK.out _ HED.out⟩ (fun hHeld => ?_)
      obtain ⟨w_27, hw_27⟩ : ∃ q : World, q = w_25.drew := ⟨_, rfl⟩
      rw [← hw_27] at hHeld ⊢
      have hc_27 : Below w_25.heap.size w_25 w_27 := by rw [hw_27]; exact (Below.refl _ _).drew
      clear hw_27
      replace HE := hide (HE.out.below hc_27)
      replace HX10 := hide (HX10.out.below hc_27)
      replace HX12 := hide (HX12.out.below hc_27)
      replace HB := hide (HB.out.trans (hc_27.mono HB.out.size))
      clear hc_27
      refine wpAnyH_take (i := 0) (oi := ⟨some 125, _, _, _, _, _⟩) (v := ?_) rfl (by kernel_rfl) (by kernel_rfl) (by kernel_rfl) (fun _ _ _ h => h) (Or.inl ⟨by rfl, ?_⟩) (by assumption) ?_
      rotate_left
      · (intro w' hSw; (try dsimp only at hSw); go_simp <;> (with_reducible rfl))
      try simp only [Act.put, List.setIfInBounds_toArray, List.set_cons_zero, List.set_cons_succ]
      refine wpAnyH_take (i := 1) (oi := ⟨some 126, _, _, _, _, _⟩) (v := ?_) rfl (by kernel_rfl) (by kernel_rfl) (by kernel_rfl) (fun _ _ _ h => h) (Or.inl ⟨by rfl, ?_⟩) (by assumption) ?_
      rotate_left
      · (intro w' hSw; (try dsimp only at hSw); go_simp <;> (with_reducible rfl))
      try simp only [Act.put, List.setIfInBounds_toArray, List.set_cons_zero, List.set_cons_succ]
      refine wpAnyH_take (i := 2) (oi := ⟨some 127, _, _, _, _, _⟩) (v := ?_) rfl (by kernel_rfl) (by kernel_rfl) (by kernel_rfl) (fun _ _ _ h => h) (Or.inl ⟨by rfl, ?_⟩) (by assumption) ?_
      rotate_left
      · (intro w' hSw; (try dsimp only at hSw); go_simp <;> (with_reducible rfl))
      try simp only [Act.put, List.setIfInBounds_toArray, List.set_cons_zero, List.set_cons_succ]
      refine wpAnyH_take (i := 3) (oi := ⟨some 128, _, _, _, _, _⟩) (v := ?_) rfl (by kernel_rfl) (by kernel_rfl) (by kernel_rfl) (fun _ _ _ h => h) (Or.inl ⟨by rfl, ?_⟩) (by assumption) ?_
      rotate_left
      · (intro w' hSw; (try dsimp only at hSw); go_simp <;> (with_reducible rfl))
      try simp only [Act.put, List.setIfInBounds_toArray, List.set_cons_zero, List.set_cons_succ]
      refine wpAnyH_take (i := 4) (oi := ⟨some 129, _, _, _, _, _⟩) (v := ?_) rfl (by kernel_rfl) (by kernel_rfl) (by kernel_rfl) (fun _ _ _ h => h) (Or.inl ⟨by rfl, ?_⟩) (by assumption) ?_
      rotate_left
      · (intro w' hSw; (try dsimp only at hSw); go_simp <;> (with_reducible rfl))
      try simp only [Act.put, List.setIfInBounds_toArray, List.set_cons_zero, List.set_cons_succ]
      refine wpAnyH_take (i := 5) (oi := ⟨some 130, _, _, _, _, _⟩) (v := ?_) rfl (by kernel_rfl) (by kernel_rfl) (by kernel_rfl) (fun _ _ _ h => h) (Or.inl ⟨by rfl, ?_⟩) (by assumption) ?_
      rotate_left
      · (intro w' hSw; (try dsimp only at hSw); go_simp <;> (with_reducible rfl))
      try simp only [Act.put, List.setIfInBounds_toArray, List.set_cons_zero, List.set_cons_succ]
      refine wpAnyH_take (i := 6) (oi := ⟨some 131, _, _, _, _, _⟩) (v := ?_) rfl (by kernel_rfl) (by kernel_rfl) (by kernel_rfl) (fun _ _ _ h => h) (Or.inl ⟨by rfl, ?_⟩) (by assumption) ?_
      rotate_left
      · (intro w' hSw; (try dsimp only at hSw); go_simp <;> (with_reducible rfl))
      try simp only [Act.put, List.setIfInBounds_toArray, List.set_cons_zero, List.set_cons_succ]
      refine wpAnyH_take (i := 7) (oi := ⟨some 132, _, _, _, _, _⟩) (v := ?_) rfl (by kernel_rfl) (by kernel_rfl) (by kernel_rfl) (fun _ _ _ h => h) (Or.inl ⟨by rfl, ?_⟩) (by assumption) ?_
      rotate_left
      · (intro w' hSw; (try dsimp only at hSw); go_simp <;> (with_reducible rfl))
      try simp only [Act.put, List.setIfInBounds_toArray, List.set_cons_zero, List.set_cons_succ]
      refine wpAnyH_take (i := 8) (oi := ⟨some 133, _, _, _, _, _⟩) (v := ?_) rfl (by kernel_rfl) (by kernel_rfl) (by kernel_rfl) (fun _ _ _ h => h) (Or.inl ⟨by rfl, ?_⟩) (by assumption) ?_
      rotate_left
      · (intro w' hSw; (try dsimp only at hSw); go_simp <;> (with_reducible rfl))
      try simp only [Act.put, List.setIfInBounds_toArray, List.set_cons_zero, List.set_cons_succ]
      refine wpAnyH_take (i := 9) (oi := ⟨some 134, _, _, _, _, _⟩) (v := ?_) rfl (by kernel_rfl) (by kernel_rfl) (by kernel_rfl) (fun _ _ _ h => h) (Or.inl ⟨by rfl, ?_⟩) (by assumption) ?_
      rotate_left
      · (intro w' hSw; (try dsimp only at hSw); go_simp <;> (with_reducible rfl))
      try simp only [Act.put, List.setIfInBounds_toArray, List.set_cons_zero, List.set_cons_succ]
      refine wpAnyH_take (i := 10) (oi := ⟨some 135, _, _, _, _, _⟩) (v := ?_) rfl (by kernel_rfl) (by kernel_rfl) (by kernel_rfl) (fun _ _ _ h => h) (Or.inl ⟨by rfl, ?_⟩) (by assumption) ?_
      rotate_left
      · (intro w' hSw; (try dsimp only at hSw); go_simp <;> (with_reducible rfl))
      try simp only [Act.put, List.setIfInBounds_toArray, List.set_cons_zero, List.set_cons_succ]
      refine wpAnyH_take (i := 11) (oi := ⟨some 136, _, _, _, _, _⟩) (v := ?_) rfl (by kernel_rfl) (by kernel_rfl) (by kernel_rfl) (fun _ _ _ h => h) (Or.inl ⟨by rfl, ?_⟩) (by assumption) ?_
      rotate_left
      · (intro w' hSw; (try dsimp only at hSw); go_simp <;> (with_reducible rfl))
      try simp only [Act.put, List.setIfInBounds_toArray, List.set_cons_zero, List.set_cons_succ]
      refine wpAnyH_take (i := 12) (oi := ⟨some 137, _, _, _, _, _⟩) (v := ?_) rfl (by kernel_rfl) (by kernel_rfl) (by kernel_rfl) (fun _ _ _ h => h) (Or.inl ⟨by rfl, ?_⟩) (by assumption) ?_
      rotate_left
      · (intro w' hSw; (try dsimp only at hSw); go_simp <;> (with_reducible rfl))
      try simp only [Act.put, List.setIfInBounds_toArray, List.set_cons_zero, List.set_cons_succ]
      refine wpAnyH_take (i := 13) (oi := ⟨some 138, _, _, _, _, _⟩) (v := ?_) rfl (by kernel_rfl) (by kernel_rfl) (by kernel_rfl) (fun _ _ _ h => h) (Or.inl ⟨by rfl, ?_⟩) (by assumption) ?_
      rotate_left
      · (intro w' hSw; (try dsimp only at hSw); go_simp <;> (with_reducible rfl))
      try simp only [Act.put, List.setIfInBounds_toArray, List.set_cons_zero, List.set_cons_succ]
      refine wpAnyH_take (i := 14) (oi := ⟨some 139, _, _, _, _, _⟩) (v := ?_) rfl (by kernel_rfl) (by kernel_rfl) (by kernel_rfl) (fun _ _ _ h => h) (Or.inl ⟨by rfl, ?_⟩) (by assumption) ?_
      rotate_left
      · (intro w' hSw; (try dsimp only at hSw); go_simp <;> (with_reducible rfl))
      try simp only [Act.put, List.setIfInBounds_toArray, List.set_cons_zero, List.set_cons_succ]
      refine wpAnyH_take (i := 15) (oi := ⟨some 140, _, _, _, _, _⟩) (v := ?_) rfl (by kernel_rfl) (by kernel_rfl) (by kernel_rfl) (fun _ _ _ h => h) (Or.inl ⟨by rfl, ?_⟩) (by assumption) ?_
      rotate_left
      · (intro w' hSw; (try dsimp only at hSw); go_simp <;> (with_reducible rfl))
      try simp only [Act.put, List.setIfInBounds_toArray, List.set_cons_zero, List.set_cons_succ]
      refine wpAnyH_take (i := 16) (oi := ⟨some 141, _, _, _, _, _⟩) (v := ?_) rfl (by kernel_rfl) (by kernel_rfl) (by kernel_rfl) (fun _ _ _ h => h) (Or.inl ⟨by rfl, ?_⟩) (by assumption) ?_
      rotate_left
      · (intro w' hSw; (try dsimp only at hSw); go_simp <;> (with_reducible rfl))
      try simp only [Act.put, List.setIfInBounds_toArray, List.set_cons_zero, List.set_cons_succ]
      refine wpAnyH_take (i := 17) (oi := ⟨some 142, _, _, _, _, _⟩) (v := ?_) rfl (by kernel_rfl) (by kernel_rfl) (by kernel_rfl) (fun _ _ _ h => h) (Or.inl ⟨by rfl, ?_⟩) (by assumption) ?_
      rotate_left
      · (intro w' hSw; (try dsimp only at hSw); go_simp <;> (with_reducible rfl))
      try simp only [Act.put, List.setIfInBounds_toArray, List.set_cons_zero, List.set_cons_succ]
      refine wpAnyH_take (i := 18) (oi := ⟨some 143, _, _, _, _, _⟩) (v := ?_) rfl (by kernel_rfl) (by kernel_rfl) (by kernel_rfl) (fun _ _ _ h => h) (Or.inl ⟨by rfl, ?_⟩) (by assumption) ?_
      rotate_left
      · (intro w' hSw; (try dsimp only at hSw); go_simp <;> (with_reducible rfl))
      try simp only [Act.put, List.setIfInBounds_toArray, List.set_cons_zero, List.set_cons_succ]
      refine wpAnyH_take (i := 19) (oi := ⟨some 144, _, _, _, _, _⟩) (v := ?_) rfl (by kernel_rfl) (by kernel_rfl) (by kernel_rfl) (fun _ _ _ h => h) (Or.inl ⟨by rfl, ?_⟩) (by assumption) ?_
      rotate_left
      · (intro w' hSw; (try dsimp only at hSw); go_simp <;> (with_reducible rfl))
      try simp only [Act.put, List.setIfInBounds_toArray, List.set_cons_zero, List.set_cons_succ]
      refine wpAnyH_take (i := 20) (oi := ⟨some 145, _, _, _, _, _⟩) (v := ?_) rfl (by kernel_rfl) (by kernel_rfl) (by kernel_rfl) (fun _ _ _ h => h) (Or.inl ⟨by rfl, ?_⟩) (by assumption) ?_
      rotate_left
      · (intro w' hSw; (try dsimp only at hSw); go_simp <;> (with_reducible rfl))
      try simp only [Act.put, List.setIfInBounds_toArray, List.set_cons_zero, List.set_cons_succ]
      refine wpAnyH_take (i := 21) (oi := ⟨some 146, _, _, _, _, _⟩) (v := ?_) rfl (by kernel_rfl) (by kernel_rfl) (by kernel_rfl) (fun _ _ _ h => h) (Or.inl ⟨by rfl, ?_⟩) (by assumption) ?_
      rotate_left
      · (intro w' hSw; (try dsimp only at hSw); go_simp <;> (with_reducible rfl))
      try simp only [Act.put, List.setIfInBounds_toArray, List.set_cons_zero, List.set_cons_succ]
      refine wpAnyH_take (i := 22) (oi := ⟨some 147, _, _, _, _, _⟩) (v := ?_) rfl (by kernel_rfl) (by kernel_rfl) (by kernel_rfl) (fun _ _ _ h => h) (Or.inl ⟨by rfl, ?_⟩) (by assumption) ?_
      rotate_left
      · (intro w' hSw; (try dsimp only at hSw); go_simp <;> (with_reducible rfl))
      try simp only [Act.put, List.setIfInBounds_toArray, List.set_cons_zero, List.set_cons_succ]
      refine wpAnyH_take (i := 23) (oi := ⟨some 148, _, _, _, _, _⟩) (v := ?_) rfl (by kernel_rfl) (by kernel_rfl) (by kernel_rfl) (fun _ _ _ h => h) (Or.inl ⟨by rfl, ?_⟩) (by assumption) ?_
      rotate_left
      · (intro w' hSw; (try dsimp only at hSw); go_simp <;> (with_reducible rfl))
      try simp only [Act.put, List.setIfInBounds_toArray, List.set_cons_zero, List.set_cons_succ]
      refine wpAnyH_take (i := 24) (oi := ⟨some 149, _, _, _, _, _⟩) (v := ?_) rfl (by kernel_rfl) (by kernel_rfl) (by kernel_rfl) (fun _ _ _ h => h) (Or.inl ⟨by rfl, ?_⟩) (by assumption) ?_
      rotate_left
      · (intro w' hSw; (try dsimp only at hSw); go_simp <;> (with_reducible rfl))
      try simp only [Act.put, List.setIfInBounds_toArray, List.set_cons_zero, List.set_cons_succ]
      refine wpAnyH_take (i := 25) (oi := ⟨some 150, _, _, _, _, _⟩) (v := ?_) rfl (by kernel_rfl) (by kernel_rfl) (by kernel_rfl) (fun _ _ _ h => h) (Or.inl ⟨by rfl, ?_⟩) (by assumption) ?_
      rotate_left
      · (intro w' hSw; (try dsimp only at hSw); go_simp <;> (with_reducible rfl))
      try simp only [Act.put, List.setIfInBounds_toArray, List.set_cons_zero, List.set_cons_succ]
      refine wpAnyH_take (i := 26) (oi := ⟨some 151, _, _, _, _, _⟩) (v := ?_) rfl (by kernel_rfl) (by kernel_rfl) (by kernel_rfl) (fun _ _ _ h => h) (Or.inl ⟨by rfl, ?_⟩) (by assumption) ?_
      rotate_left
      · (intro w' hSw; (try dsimp only at hSw); go_simp <;> (with_reducible rfl))
      try simp only [Act.put, List.setIfInBounds_toArray, List.set_cons_zero, List.set_cons_succ]
      refine wpAnyH_take (i := 27) (oi := ⟨some 152, _, _, _, _, _⟩) (v := ?_) rfl (by kernel_rfl) (by kernel_rfl) (by kernel_rfl) (fun _ _ _ h => h) (Or.inl ⟨by rfl, ?_⟩) (by assumption) ?_
      rotate_left
      · (intro w' hSw; (try dsimp only at hSw); go_simp <;> (with_reducible rfl))
      try simp only [Act.put, List.setIfInBounds_toArray, List.set_cons_zero, List.set_cons_succ]
      refine wpAnyH_take (i := 28) (oi := ⟨some 153, _, _, _, _, _⟩) (v := ?_) rfl (by kernel_rfl) (by kernel_rfl) (by kernel_rfl) (fun _ _ _ h => h) (Or.inl ⟨by rfl, ?_⟩) (by assumption) ?_
      rotate_left
      · (intro w' hSw; (try dsimp only at hSw); go_simp <;> (with_reducible rfl))
      try simp only [Act.put, List.setIfInBounds_toArray, List.set_cons_zero, List.set_cons_succ]
      refine wpAnyH_take (i := 29) (oi := ⟨some 154, _, _, _, _, _⟩) (v := ?_) rfl (by kernel_rfl) (by kernel_rfl) (by kernel_rfl) (fun _ _ _ h => h) (Or.inl ⟨by rfl, ?_⟩) (by assumption) ?_
      rotate_left
      · (intro w' hSw; (try dsimp only at hSw); go_simp <;> (with_reducible rfl))
      try simp only [Act.put, List.setIfInBounds_toArray, List.set_cons_zero, List.set_cons_succ]
      refine wpAnyH_done (by kernel_rfl) ?_ _
      clear hHeld
      go_wp2_with fail
      go_roundw
      case rel => exact ⟨k + 1, by omega, by go_num, HE, HB⟩
      case measure => simp [Go.RowKit.intOf]; omega
end Go.Proofs.Ytdkbjgnkehoplaa
