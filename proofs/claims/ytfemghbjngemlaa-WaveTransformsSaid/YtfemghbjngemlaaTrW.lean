/- Lemmas: At. -/
import Derived.Test.YtfemghbjngemlaaBk21
set_option linter.unusedVariables false
set_option linter.unusedSimpArgs false
/- The walk of WaveTransforms. -/
namespace Go.Proofs.Ytfemghbjngemlaa
open Go.RowKit Go.Great
theorem trnR_wrong {Y : Nat → Num} (h : numsE 1000000000 Y 8 ≠ 0) : trnR Y = numsE 1000000000 Y 8 := if_neg h
theorem trnR_right {Y : Nat → Num} (h : numsE 1000000000 Y 8 = 0) : trnR Y = unI (numsE 1000000000 (trnF Y) 8 == 0) 8 := if_pos h
theorem spcR_wrong {Y : Nat → Num} (h : numsE 1000000000 Y 8 ≠ 0) : spcR Y = numsE 1000000000 Y 8 := if_neg h
theorem spcR_right {Y : Nat → Num} (h : numsE 1000000000 Y 8 = 0) : spcR Y = if spAll (trnF Y) 8 = true then 0 else 3 := if_pos h
set_option maxHeartbeats 16000000 in
set_option maxRecDepth 100000 in
theorem waveTransforms_walk (F : Nat → Gau) (Y : Nat → Num) (w : World) :
    Calls Try.prog 3 #[.agg (arrG8 F), .agg (arr8 Y)] w fun e w' => e = .returned (.bool true) ∧ Below w.heap.size w w' := by
  have HAW := hide (fun W => awake_any W)
  have HSA := hide (fun W => Samples_any F W)
  have HTA := hide (fun W => Transform_any Y W)
  have HPA := hide (fun W => Spectrum_any Y W)
  have HEE := hide (fun A W (h : GausAt W 0 A 8 F) => entriesErrR_any A 8 8 F W (by decide) h)
  have HNE := hide (fun A W (h : NumsAt W 0 A 8 Y) => numbersErrR_any A 8 8 Y W (by decide) h)
  have HSR := hide (fun W (h : gausE 10000 F 8 = 0) => (show Calls Try.prog 13 #[.agg (arrG8 F)] W fun e w' => e = .returned (.agg (arr8 (smpF F))) ∧ Below W.heap.size W w' from samplesR_any F (gausE_within h) W))
  have HTR := hide (fun W (h : numsE 1000000000 Y 8 = 0) => (show Calls Try.prog 15 #[.agg (arr8 Y)] W fun e w' => e = .returned (.agg (arr8 (trnF Y))) ∧ Below W.heap.size W w' from transformR_any Y (numsE_zero h) W))
  have HAS := hide (fun A W (h : NumsAt W 0 A 8 (trnF Y)) => areSmallR_any A 8 8 (trnF Y) W (by decide) h)
  have HPR := hide (fun W (h : numsE 1000000000 Y 8 = 0) => spectrumR_any Y (numsE_zero h) W)
  have HV1 := hide (trnR_wrong (Y := Y))
  have HV2 := hide (trnR_right (Y := Y))
  have HU1 := hide (spcR_wrong (Y := Y))
  have HU2 := hide (spcR_right (Y := Y))
  obtain ⟨E, hE⟩ : ∃ z, gausE 10000 F 8 = z := ⟨_, rfl⟩
  obtain ⟨V, hV⟩ : ∃ z, trnR Y = z := ⟨_, rfl⟩
  obtain ⟨U, hU⟩ : ∃ z, spcR Y = z := ⟨_, rfl⟩
  obtain ⟨D, hD⟩ : ∃ z, numsE 1000000000 Y 8 = z := ⟨_, rfl⟩
  obtain ⟨M, hM⟩ : ∃ z, numsE 1000000000 (trnF Y) 8 = z := ⟨_, rfl⟩
  obtain ⟨Z, hZ⟩ : ∃ z, smpF F = z := ⟨_, rfl⟩
  obtain ⟨R, hR⟩ : ∃ z, trnF Y = z := ⟨_, rfl⟩
  simp only [hE, hV, hU, hD, hM] at HSA HTA HPA HEE HNE HSR HTR HAS HPR HV1 HV2 HU1 HU2
  simp only [hZ, hR] at HSA HTA HPA HEE HNE HSR HTR HAS HPR HV1 HV2 HU1 HU2
  clear hE hV hU hD hM hZ hR
  obtain ⟨A, hA⟩ : ∃ z : Nat → Num, z = fun n => if E = 0 then Z n else Num.zero := ⟨_, rfl⟩
  obtain ⟨B, hB⟩ : ∃ z : Nat → Num, z = fun k => if V = 0 then R k else Num.zero := ⟨_, rfl⟩
  obtain ⟨C, hC⟩ : ∃ z : Nat → Gau, z = fun k => if U = 0 then spG (R k) else Gau.zero := ⟨_, rfl⟩
  rw [← hA] at HSA
  rw [← hB] at HTA
  rw [← hC] at HPA
  have HA := hide hA
  have HB := hide hB
  have HC := hide hC
  clear hA hB hC
  go_enter Try.func3, Try.ntmps3
  go_upto_region 1 with (first
    | (refine wpList_boxTo rfl 24 (.tmp 0) rfl _ rfl w.heap.size rfl (arrG8 F) rfl ?_; obtain ⟨W0, hW0⟩ : ∃ q : World, w.alloc (.cells (arrG8 F) 24) = q := ⟨_, rfl⟩; rw [hW0])
    | (refine wpList_boxTo rfl 27 (.tmp 1) rfl _ rfl W0.heap.size rfl (arr8 Y) rfl ?_; obtain ⟨W1, hW1⟩ : ∃ q : World, W0.alloc (.cells (arr8 Y) 27) = q := ⟨_, rfl⟩; rw [hW1]))
  have f0 : ArrG8 W0 w.heap.size F := by rw [← hW0]; exact ArrG8.at_alloc w _ _ rfl
  have hB0 : Below w.heap.size w W0 := by rw [← hW0]; (repeat (first | (with_reducible exact Below.refl _ _) | (with_reducible refine Go.below_drewN ?_ _) | (with_reducible refine Below.drew ?_) | (with_reducible refine Below.alloc ?_ (by first | exact Nat.le_refl _ | (simp; done) | (simp; omega) | omega) _) | (with_reducible refine Below.setCell ?_ (by first | exact Nat.le_refl _ | (simp; done) | (simp; omega) | omega) _)))
  have HF := hide (show ArrG8 W1 w.heap.size F by rw [← hW1]; exact f0.alloc _)
  obtain ⟨yB, hyB⟩ : ∃ z, W0.heap.size = z := ⟨_, rfl⟩
  have HY := hide (show ArrNums W1 yB Y by rw [← hW1]; exact arrNums_alloc W0 _ _ hyB.symm)
  have hB1 : Below w.heap.size w W1 := by rw [← hW1]; exact hB0.alloc hB0.size _
  simp only [hyB]
  clear hW0 hW1 f0 hB0 hyB
  go_wp2_with fail
  refine (HAW.out _).mono ?_
  rintro e w_1 ⟨rfl, hb_1⟩
  have HF_2 := hide (HF.out.below hb_1)
  have HY_2 := hide (HY.out.below hb_1)
  have hB_2 := hB1.trans (hb_1.mono hB1.size)
  clear hb_1 hB1 HF HY
  clear HAW
  go_wp2_with (refine wpList_loadG8 rfl (.tmp 2) rfl w.heap.size F rfl HF_2.out ?_)
  refine (HSA.out _).mono ?_
  rintro e w_3 ⟨rfl, hb_3⟩
  have HF_4 := hide (HF_2.out.below hb_3)
  have HY_4 := hide (HY_2.out.below hb_3)
  have hB_4 := hB_2.trans (hb_3.mono hB_2.size)
  clear hb_3 hB_2 HF_2 HY_2
  obtain ⟨HAbB, hHAbB⟩ : ∃ z, w_3.heap.size = z := ⟨_, rfl⟩
  go_upto_region 4 with (first
    | (refine wpList_store8 rfl (.tmp 5) (.tmp 21) rfl HAbB (fun _ => Num.zero) A rfl rfl (arrNums_alloc _ _ _ hHAbB.symm) ?_; intro W_5 r_5 o_5)
    | (refine wpList_allocTo rfl (some 5) rfl (.pointer (some ⟨HAbB, 0, none⟩)) (.cells (arr8 fun _ => Num.zero) 27) (by rw [← hHAbB]; kernel_rfl) ?_))
  have hc_5 : Below w_3.heap.size w_3 W_5 := ((Below.refl _ _).alloc (Nat.le_refl _) _).trans (o_5.to_below (by omega) (by simp))
  clear o_5 hHAbB
  have HF_6 := hide (HF_4.out.below hc_5)
  have HY_6 := hide (HY_4.out.below hc_5)
  have hB_6 := hB_4.trans (hc_5.mono hB_4.size)
  clear hc_5 hB_4 HF_4 HY_4
  have HAb := hide r_5
  clear r_5
  go_wp2_with (refine wpList_load8G rfl (.tmp 3) rfl yB Y rfl HY_6.out ?_)
  refine (HTA.out _).mono ?_
  rintro e w_7 ⟨rfl, hb_7⟩
  have HF_8 := hide (HF_6.out.below hb_7)
  have HY_8 := hide (HY_6.out.below hb_7)
  have HAb_8 := hide (HAb.out.below hb_7)
  have hB_8 := hB_6.trans (hb_7.mono hB_6.size)
  clear hb_7 hB_6 HF_6 HY_6 HAb
  obtain ⟨HBbB, hHBbB⟩ : ∃ z, w_7.heap.size = z := ⟨_, rfl⟩
  go_upto_region 5 with (first
    | (refine wpList_store8 rfl (.tmp 7) (.tmp 26) rfl HBbB (fun _ => Num.zero) B rfl rfl (arrNums_alloc _ _ _ hHBbB.symm) ?_; intro W_9 r_9 o_9)
    | (refine wpList_allocTo rfl (some 7) rfl (.pointer (some ⟨HBbB, 0, none⟩)) (.cells (arr8 fun _ => Num.zero) 27) (by rw [← hHBbB]; kernel_rfl) ?_))
  have hc_9 : Below w_7.heap.size w_7 W_9 := ((Below.refl _ _).alloc (Nat.le_refl _) _).trans (o_9.to_below (by omega) (by simp))
  clear o_9 hHBbB
  have HF_10 := hide (HF_8.out.below hc_9)
  have HY_10 := hide (HY_8.out.below hc_9)
  have HAb_10 := hide (HAb_8.out.below hc_9)
  have hB_10 := hB_8.trans (hc_9.mono hB_8.size)
  clear hc_9 hB_8 HF_8 HY_8 HAb_8
  have HBb := hide r_9
  clear r_9
  go_wp2_with (refine wpList_load8G rfl (.tmp 3) rfl yB Y rfl HY_10.out ?_)
  refine (HPA.out _).mono ?_
  rintro e w_11 ⟨rfl, hb_11⟩
  have HF_12 := hide (HF_10.out.below hb_11)
  have HY_12 := hide (HY_10.out.below hb_11)
  have HAb_12 := hide (HAb_10.out.below hb_11)
  have HBb_12 := hide (HBb.out.below hb_11)
  have hB_12 := hB_10.trans (hb_11.mono hB_10.size)
  clear hb_11 hB_10 HF_10 HY_10 HAb_10 HBb
  obtain ⟨HCbB, hHCbB⟩ : ∃ z, w_11.heap.size = z := ⟨_, rfl⟩
  go_upto_region 6 with (first
    | (refine wpList_storeG8 rfl (.tmp 9) (.tmp 31) rfl HCbB (fun _ => Gau.zero) C rfl rfl (ArrG8.at_alloc _ _ _ hHCbB.symm) ?_; intro W_13 r_13 o_13)
    | (refine wpList_allocTo rfl (some 9) rfl (.pointer (some ⟨HCbB, 0, none⟩)) (.cells (arrG8 fun _ => Gau.zero) 24) (by rw [← hHCbB]; kernel_rfl) ?_))
  have hc_13 : Below w_11.heap.size w_11 W_13 := ((Below.refl _ _).alloc (Nat.le_refl _) _).trans (o_13.to_below (by omega) (by simp))
  clear o_13 hHCbB
  have HF_14 := hide (HF_12.out.below hc_13)
  have HY_14 := hide (HY_12.out.below hc_13)
  have HAb_14 := hide (HAb_12.out.below hc_13)
  have HBb_14 := hide (HBb_12.out.below hc_13)
  have hB_14 := hB_12.trans (hc_13.mono hB_12.size)
  clear hc_13 hB_12 HF_12 HY_12 HAb_12 HBb_12
  have HCb := hide r_13
  clear r_13
  clear HSA HTA HPA
  go_upto_if 36 with (refine (HEE.out _ _ HF_14.out.slice).mono ?_; rintro e wE ⟨rfl, hbE⟩)
  have HF_15 := hide (HF_14.out.below hbE)
  have HY_15 := hide (HY_14.out.below hbE)
  have HAb_15 := hide (HAb_14.out.below hbE)
  have HBb_15 := hide (HBb_14.out.below hbE)
  have HCb_15 := hide (HCb.out.below hbE)
  have hB_15 := hB_14.trans (hbE.mono hB_14.size)
  clear hbE hB_14 HF_14 HY_14 HAb_14 HBb_14 HCb
  clear HEE
  go_cut [] (fun wx => Below wE.heap.size wE wx)
  case first =>
    by_cases hE : E = 0
    · subst hE
      have hAZ : A = Z := by rw [HA.out]; funext n; rw [if_pos rfl]
      subst hAZ
      have HSS := hide (fun W => HSR.out W (by first | rfl | trivial))
      have t1 : ((0 : Int) != 0) = false := rfl
      clear HA HSR HV1 HV2 HU1 HU2 HTR HAS HPR
      go_upto_region 10 with fail
      refine wp_region_held_drew (S := fun w' => ArrNums w' HAbB A ∧ ArrG8 w' w.heap.size F) (by kernel_rfl) ⟨HAb_15.out, HF_15.out⟩ (fun hHeld => ?_)
      refine wpAnyH_take (i := 0) (oi := ⟨some 45, _, _, _, _, _⟩) (v := ?_) rfl (by kernel_rfl) (by kernel_rfl) (by kernel_rfl) (fun _ _ _ h => h) (Or.inl ⟨by rfl, ?_⟩) (by assumption) ?_
      rotate_left
      · (intro w' hSw; (try dsimp only at hSw); go_simp <;> (with_reducible rfl))
      try simp only [Act.put, List.setIfInBounds_toArray, List.set_cons_zero, List.set_cons_succ]
      refine wpAnyH_take (i := 1) (oi := ⟨some 46, _, _, _, _, _⟩) (v := ?_) rfl (by kernel_rfl) (by kernel_rfl) (by kernel_rfl) (fun _ _ _ h => h) (Or.inl ⟨by rfl, ?_⟩) (by assumption) ?_
      rotate_left
      · (intro w' hSw; (try dsimp only at hSw); go_simp <;> (with_reducible rfl))
      try simp only [Act.put, List.setIfInBounds_toArray, List.set_cons_zero, List.set_cons_succ]
      refine wpAnyH_take (i := 2) (oi := ⟨some 47, _, _, _, _, _⟩) (v := ?_) rfl (by kernel_rfl) (by kernel_rfl) (by kernel_rfl) (fun _ _ _ h => h) (Or.inl ⟨by rfl, ?_⟩) (by assumption) ?_
      rotate_left
      · (intro w' hSw; (try dsimp only at hSw); go_simp <;> (with_reducible rfl))
      try simp only [Act.put, List.setIfInBounds_toArray, List.set_cons_zero, List.set_cons_succ]
      refine wpAnyH_take (i := 3) (oi := ⟨some 48, _, _, _, _, _⟩) (v := (.agg (arr8 A))) rfl (by kernel_rfl) (by kernel_rfl) (by kernel_rfl) (fun _ _ _ h => h) (Or.inl ⟨by rfl, fun w' hSw => exec_load8 rfl hSw.1⟩) (by assumption) ?_
      try simp only [Act.put, List.setIfInBounds_toArray, List.set_cons_zero, List.set_cons_succ]
      refine wpAnyH_take (i := 4) (oi := ⟨some 49, _, _, _, _, _⟩) (v := (.agg (arrG8 F))) rfl (by kernel_rfl) (by kernel_rfl) (by kernel_rfl) (fun _ _ _ h => h) (Or.inl ⟨by rfl, fun w' hSw => exec_loadG8 rfl hSw.2⟩) (by assumption) ?_
      try simp only [Act.put, List.setIfInBounds_toArray, List.set_cons_zero, List.set_cons_succ]
      refine wpAnyH_ready (rs := [5]) (by kernel_rfl) (by simp) ?_
      refine AllReadyH.cons (o := ⟨some 50, _, _, _, _, _⟩) rfl (fun K' hK => ?_) AllReadyH.nil
      go_simp
      go_at_call 13
      refine (HSS.out _).mono ?_
      rintro e w11 ⟨rfl, hb11'⟩
      have hb11 : Below wE.heap.size wE w11 := below_of_drew hb11'
      go_wp2_with fail
      refine hK.out _ _ ⟨HAb_15.out.below hb11, HF_15.out.below hb11⟩ (fun hHeld => ?_)
      clear hK K'
      try simp only [Act.put, List.setIfInBounds_toArray, List.set_cons_zero, List.set_cons_succ]
      refine wpAnyH_take (i := 6) (oi := ⟨some 51, _, _, _, _, _⟩) (v := (.bool false)) rfl (by kernel_rfl) (by kernel_rfl) (by kernel_rfl) (fun _ _ _ h => h) (Or.inl ⟨by rfl, fun w' hSw => by go_simp; simp [equal8_same]⟩) (by assumption) ?_
      try simp only [Act.put, List.setIfInBounds_toArray, List.set_cons_zero, List.set_cons_succ]
      refine wpAnyH_take (i := 7) (oi := ⟨some 52, _, _, _, _, _⟩) (v := ?_) rfl (by kernel_rfl) (by kernel_rfl) (by kernel_rfl) (fun _ _ _ h => h) (Or.inl ⟨by rfl, ?_⟩) (by assumption) ?_
      rotate_left
      · (intro w' hSw; (try dsimp only at hSw); go_simp <;> (with_reducible rfl))
      try simp only [Act.put, List.setIfInBounds_toArray, List.set_cons_zero, List.set_cons_succ]
      refine wpAnyH_done (by kernel_rfl) ?_ _
      go_wp2_with fail
      go_meet
      case rel => exact hb11
    · have hAZ : A = fun _ => Num.zero := by rw [HA.out]; funext n; rw [if_neg hE]
      subst hAZ
      have t1 : (E != 0) = true := by simpa using hE
      have t2 : (E != E) = false := by simp
      have hq8 := equal8_zero wE
      clear HA HSR HV1 HV2 HU1 HU2 HTR HAS HPR hE
      go_wp2_with (refine wpList_load8G rfl (.tmp 5) rfl HAbB (fun _ => Num.zero) rfl HAb_15.out ?_)
      go_meet
      case rel => exact Below.refl _ _
  case rest =>
  obtain ⟨wR, rfl⟩ : ∃ x : World, x = wc := ⟨_, rfl⟩
  have hbR : Below wE.heap.size wE wR := hcut
  clear HA HSR hcut
  have HF_16 := hide (HF_15.out.below hbR)
  have HY_16 := hide (HY_15.out.below hbR)
  have HBb_16 := hide (HBb_15.out.below hbR)
  have HCb_16 := hide (HCb_15.out.below hbR)
  have hB_16 := hB_15.trans (hbR.mono hB_15.size)
  clear hbR hB_15 HF_15 HY_15 HBb_15 HCb_15
  go_upto_if 56 with (refine (HNE.out _ _ HY_16.out.slice).mono ?_; rintro e wN ⟨rfl, hbN⟩)
  have HF_17 := hide (HF_16.out.below hbN)
  have HY_17 := hide (HY_16.out.below hbN)
  have HBb_17 := hide (HBb_16.out.below hbN)
  have HCb_17 := hide (HCb_16.out.below hbN)
  have hB_17 := hB_16.trans (hbN.mono hB_16.size)
  clear hbN hB_16 HF_16 HY_16 HBb_16 HCb_16
  clear HNE
  by_cases hD : D = 0
  case neg =>
    have hV := HV1.out hD
    have hU := HU1.out hD
    subst hV
    subst hU
    have hBZ : B = fun _ => Num.zero := by rw [HB.out]; funext n; rw [if_neg hD]
    have hCZ : C = fun _ => Gau.zero := by rw [HC.out]; funext n; rw [if_neg hD]
    subst hBZ
    subst hCZ
    have t1 : (U != 0) = true := by simpa using hD
    have t2 : (U == U) = true := by simp
    have hq8 := equal8_zero wN
    have hq9 := equalG8_zero wN
    clear HB HC HV1 HV2 HU1 HU2 HTR HAS HPR hD
    go_wp2_with (first | (refine wpList_load8G rfl (.tmp 7) rfl HBbB (fun _ => Num.zero) rfl HBb_17.out ?_) | (refine wpList_loadG8 rfl (.tmp 9) rfl HCbB (fun _ => Gau.zero) rfl HCb_17.out ?_))
    go_ret
    exact ⟨rfl, hB_17⟩
  case pos =>
  subst hD
  have hU := HU2.out (by first | rfl | trivial)
  have hV := HV2.out (by first | rfl | trivial)
  have HTT := hide (fun W => HTR.out W (by first | rfl | trivial))
  have HPP := hide (fun W => HPR.out W (by first | rfl | trivial))
  clear HV1 HV2 HU1 HU2 HTR HPR
  have HVV := hide hV
  have HUU := hide hU
  clear hU hV
  go_wp2_with (refine wpList_load8G rfl (.tmp 3) rfl yB Y rfl HY_17.out ?_)
  refine (HTT.out _).mono ?_
  rintro e w_18 ⟨rfl, hb_18⟩
  have HF_19 := hide (HF_17.out.below hb_18)
  have HY_19 := hide (HY_17.out.below hb_18)
  have HBb_19 := hide (HBb_17.out.below hb_18)
  have HCb_19 := hide (HCb_17.out.below hb_18)
  have hB_19 := hB_17.trans (hb_18.mono hB_17.size)
  clear hb_18 hB_17 HF_17 HY_17 HBb_17 HCb_17
  clear HTT
  obtain ⟨HRbB, hHRbB⟩ : ∃ z, w_18.heap.size = z := ⟨_, rfl⟩
  go_upto_region 16 with (first
    | (refine wpList_store8 rfl (.tmp 13) (.tmp 76) rfl HRbB (fun _ => Num.zero) R rfl rfl (arrNums_alloc _ _ _ hHRbB.symm) ?_; intro W_20 r_20 o_20)
    | (refine wpList_allocTo rfl (some 13) rfl (.pointer (some ⟨HRbB, 0, none⟩)) (.cells (arr8 fun _ => Num.zero) 27) (by rw [← hHRbB]; kernel_rfl) ?_))
  have hc_20 : Below w_18.heap.size w_18 W_20 := ((Below.refl _ _).alloc (Nat.le_refl _) _).trans (o_20.to_below (by omega) (by simp))
  clear o_20 hHRbB
  have HF_21 := hide (HF_19.out.below hc_20)
  have HY_21 := hide (HY_19.out.below hc_20)
  have HBb_21 := hide (HBb_19.out.below hc_20)
  have HCb_21 := hide (HCb_19.out.below hc_20)
  have hB_21 := hB_19.trans (hc_20.mono hB_19.size)
  clear hc_20 hB_19 HF_19 HY_19 HBb_19 HCb_19
  have HRb := hide r_20
  clear r_20
  go_upto_if 78 with (refine (HAS.out _ _ HRb.out.slice).mono ?_; rintro e wS ⟨rfl, hbS⟩)
  have HF_22 := hide (HF_21.out.below hbS)
  have HY_22 := hide (HY_21.out.below hbS)
  have HBb_22 := hide (HBb_21.out.below hbS)
  have HCb_22 := hide (HCb_21.out.below hbS)
  have HRb_22 := hide (HRb.out.below hbS)
  have hB_22 := hB_21.trans (hbS.mono hB_21.size)
  clear hbS hB_21 HF_21 HY_21 HBb_21 HCb_21 HRb
  clear HAS
  go_cut [] (fun wx => Below wS.heap.size wS wx)
  case first =>
    by_cases hM : M = 0
    · have t1 : (M == 0) = true := by simpa using hM
      have hVV := HVV.out
      rw [t1] at hVV
      have hV0 : V = 0 := hVV
      subst hV0
      have hBR : B = R := by rw [HB.out]; funext n; rw [if_pos rfl]
      subst hBR
      have hq8 := equal8_same B wS
      clear HB HC HVV HUU HPP hVV hM
      go_wp2_with (first | (refine wpList_load8G rfl (.tmp 7) rfl HBbB B rfl HBb_22.out ?_) | (refine wpList_load8G rfl (.tmp 13) rfl HRbB B rfl HRb_22.out ?_))
      go_meet
      case rel => exact Below.refl _ _
    · have t1 : (M == 0) = false := by simpa using hM
      have hVV := HVV.out
      rw [t1] at hVV
      have hV8 : V = 8 := hVV
      subst hV8
      have hBZ : B = fun _ => Num.zero := by rw [HB.out]; funext n; rw [if_neg (by decide)]
      subst hBZ
      have hq8 := equal8_zero wS
      clear HB HC HVV HUU HPP hVV hM
      go_wp2_with (refine wpList_load8G rfl (.tmp 7) rfl HBbB (fun _ => Num.zero) rfl HBb_22.out ?_)
      go_meet
      case rel => exact Below.refl _ _
  case rest =>
  obtain ⟨wT, rfl⟩ : ∃ x : World, x = wc := ⟨_, rfl⟩
  have hbT : Below wS.heap.size wS wT := hcut
  clear hcut HB HVV
  have HF_23 := hide (HF_22.out.below hbT)
  have HY_23 := hide (HY_22.out.below hbT)
  have HBb_23 := hide (HBb_22.out.below hbT)
  have HCb_23 := hide (HCb_22.out.below hbT)
  have HRb_23 := hide (HRb_22.out.below hbT)
  have hB_23 := hB_22.trans (hbT.mono hB_22.size)
  clear hbT hB_22 HF_22 HY_22 HBb_22 HCb_22 HRb_22
  have hCC : C = fun k => if spAll R 8 = true then spG (R k) else Gau.zero := by
    rw [HC.out]
    funext k
    rw [HUU.out]
    by_cases h : spAll R 8 = true
    · rw [if_pos h, if_pos h, if_pos rfl]
    · rw [if_neg h, if_neg h, if_neg (by decide)]
  have HPQ := hide (fun W => (show Calls Try.prog 17 #[.agg (arr8 Y)] W fun e w' => e = .returned (.tuple #[.agg (arrG8 C), .int .i64 U]) ∧ Below W.heap.size W w' from by rw [hCC, HUU.out]; exact HPP.out W))
  clear HPP HC HUU hCC
  go_wp2_with (refine wpList_load8G rfl (.tmp 3) rfl yB Y rfl HY_23.out ?_)
  refine (HPQ.out _).mono ?_
  rintro e w_24 ⟨rfl, hb_24⟩
  have HF_25 := hide (HF_23.out.below hb_24)
  have HY_25 := hide (HY_23.out.below hb_24)
  have HBb_25 := hide (HBb_23.out.below hb_24)
  have HCb_25 := hide (HCb_23.out.below hb_24)
  have HRb_25 := hide (HRb_23.out.below hb_24)
  have hB_25 := hB_23.trans (hb_24.mono hB_23.size)
  clear hb_24 hB_23 HF_23 HY_23 HBb_23 HCb_23 HRb_23
  obtain ⟨HPbB, hHPbB⟩ : ∃ z, w_24.heap.size = z := ⟨_, rfl⟩
  go_upto_region 22 with (first
    | (refine wpList_storeG8 rfl (.tmp 14) (.tmp 96) rfl HPbB (fun _ => Gau.zero) C rfl rfl (ArrG8.at_alloc _ _ _ hHPbB.symm) ?_; intro W_26 r_26 o_26)
    | (refine wpList_allocTo rfl (some 14) rfl (.pointer (some ⟨HPbB, 0, none⟩)) (.cells (arrG8 fun _ => Gau.zero) 24) (by rw [← hHPbB]; kernel_rfl) ?_))
  have hc_26 : Below w_24.heap.size w_24 W_26 := ((Below.refl _ _).alloc (Nat.le_refl _) _).trans (o_26.to_below (by omega) (by simp))
  clear o_26 hHPbB
  have HF_27 := hide (HF_25.out.below hc_26)
  have HY_27 := hide (HY_25.out.below hc_26)
  have HBb_27 := hide (HBb_25.out.below hc_26)
  have HCb_27 := hide (HCb_25.out.below hc_26)
  have HRb_27 := hide (HRb_25.out.below hc_26)
  have hB_27 := hB_25.trans (hc_26.mono hB_25.size)
  clear hc_26 hB_25 HF_25 HY_25 HBb_25 HCb_25 HRb_25
  have HPb := hide r_26
  clear r_26
  have t9 : (U == U) = true := by simp
  have hq9 := equalG8_same C W_26
  go_wp2_with (first | (refine wpList_loadG8 rfl (.tmp 9) rfl HCbB C rfl HCb_27.out ?_) | (refine wpList_loadG8 rfl (.tmp 14) rfl HPbB C rfl HPb.out ?_))
  go_ret
  exact ⟨rfl, hB_27⟩
end Go.Proofs.Ytfemghbjngemlaa
