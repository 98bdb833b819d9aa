/- Lemmas: Al. -/
import Derived.Deep.DeepCutAuto
import Derived.Test.YtfemghbjngemlaaBk14
import Derived.Test.YtfemghbjngemlaaBk15
import Derived.Test.YtfemghbjngemlaaBk16
set_option linter.unusedVariables false
set_option linter.unusedSimpArgs false
/- The walk of WavePaths. -/
namespace Go.Proofs.Ytfemghbjngemlaa
open Go.RowKit Go.Great
theorem wpList_load8G {ops : Array Oper} {rest : List Oper} {op : Oper} {a : Act} {w : World} {Q : Exit → Act → World → Prop} (hw : Region.wanted op (yielded ops a.tmps) = true) (x : Operand) (ho : op.op = .load 27 x)
    (b : Nat) (F : Nat → Num) (hx : a.eval x = .pointer (some ⟨b, 0, none⟩)) (hr : ArrNums w b F)
    (h : wpList Try.prog ops Q rest (a.put op.dst (.agg (arr8 F))) w) : wpList Try.prog ops Q (op :: rest) a w :=
  wpList_step fun K hK => by
    rw [if_pos hw]
    exact wp_load_mid (P := Try.prog) 27 x ho b 0 hx ((List.range 32).map (numC F)) _ (range_of_row hr) Try.underlying27 rfl (by rw [info8]; simp) (hK _ _ h)
theorem exec_load8 {a : Act} {x : Operand} {d : Option Tmp} {ty : TypeId} {pos : String} {aft : Array Edge} {gd : Option (Nat × Bool)} {b : Nat} {F : Nat → Num} {W : World} (hx : a.eval x = .pointer (some ⟨b, 0, none⟩)) (hr : ArrNums W b F) :
    (execOp a.eval (⟨d, .load 27 x, ty, pos, aft, gd⟩ : Oper)).run Try.prog W = .ok (.value (.agg (arr8 F))) W := by
  unfold execOp
  simp only [hx, Instr.loadAt, Instr.sureAddr, Sem.run_bind, Sem.run_pure, Result.andThen_ok, run_load8 hr]
theorem zero8 : arr8 (fun _ => Num.zero) = #[.int .i64 0, .int .i64 0, .int .i64 0, .int .i64 0, .int .i64 0, .int .i64 0, .int .i64 0, .int .i64 0, .int .i64 0, .int .i64 0, .int .i64 0, .int .i64 0, .int .i64 0, .int .i64 0, .int .i64 0, .int .i64 0, .int .i64 0, .int .i64 0, .int .i64 0, .int .i64 0, .int .i64 0, .int .i64 0, .int .i64 0, .int .i64 0, .int .i64 0, .int .i64 0, .int .i64 0, .int .i64 0, .int .i64 0, .int .i64 0, .int .i64 0, .int .i64 0] := rfl
theorem equal8_zero (W : World) : (Op.equalIn 10000 27 (.agg (arr8 fun _ => Num.zero)) (.agg #[.int .i64 0, .int .i64 0, .int .i64 0, .int .i64 0, .int .i64 0, .int .i64 0, .int .i64 0, .int .i64 0, .int .i64 0, .int .i64 0, .int .i64 0, .int .i64 0, .int .i64 0, .int .i64 0, .int .i64 0, .int .i64 0, .int .i64 0, .int .i64 0, .int .i64 0, .int .i64 0, .int .i64 0, .int .i64 0, .int .i64 0, .int .i64 0, .int .i64 0, .int .i64 0, .int .i64 0, .int .i64 0, .int .i64 0, .int .i64 0, .int .i64 0, .int .i64 0])).run Try.prog W = .ok true W := equal8_same (fun _ => Num.zero) W
theorem thrR_paths {n : Nat} {D R I : Nat → Int} {m : Nat} {F : Nat → Num} (h : chkE n D R I ≠ 0) : thrR n D R I m F = chkE n D R I := by
  have e : thrE n D R I m F = chkE n D R I := by unfold thrE twoE; rw [if_neg h]
  unfold thrR
  rw [e, if_neg h]
theorem thrR_samples {n : Nat} {D R I : Nat → Int} {m : Nat} {F : Nat → Num} (h : chkE n D R I = 0) (hs : sampE m F ≠ 0) : thrR n D R I m F = sampE m F := by
  have e : thrE n D R I m F = sampE m F := by unfold thrE twoE; rw [if_pos h]
  unfold thrR
  rw [e, if_neg hs]
theorem thrR_large {n : Nat} {D R I : Nat → Int} {m : Nat} {F : Nat → Num} (h : chkE n D R I = 0) (hs : sampE m F = 0) : thrR n D R I m F = unI (numsE 1000000000 (thrTo D R I F n) m == 0) 8 := by
  have e : thrE n D R I m F = 0 := by unfold thrE twoE; rw [if_pos h, hs]
  unfold thrR
  rw [e, if_pos rfl]
theorem thrE_both {n : Nat} {D R I : Nat → Int} {m : Nat} {F : Nat → Num} (h : chkE n D R I = 0) (hs : sampE m F = 0) : thrE n D R I m F = 0 := by unfold thrE twoE; rw [if_pos h, hs]
set_option maxHeartbeats 16000000 in
set_option maxRecDepth 100000 in
theorem wavePaths_walk (A B : Option Addr) (n c m d : Nat) (D R I : Nat → Int) (F : Nat → Num) (w : World) (hn9 : n ≤ 9223372036854775807) (hm9 : m ≤ 9223372036854775807) (hI : PathsAt w 0 A n D R I) (hJ : NumsAt w 0 B m F) :
    Calls Try.prog 6 #[.slice A n c, .slice B m d] w fun e w' => e = .returned (.bool true) ∧ Below w.heap.size w w' := by
  have HAW := hide (fun W => awake_any W)
  have HI := hide hI
  have HJ := hide hJ
  clear hI hJ
  by_cases hn : 8 < n
  · have hnz : (n : Int) > 8 := by omega
    clear hn
    go_enter Try.func6, Try.ntmps6
    go_wp2_with fail
    refine (HAW.out _).mono ?_
    rintro e w1 ⟨rfl, hb1⟩
    go_wp2_with fail
    go_ret
    exact ⟨rfl, hb1⟩
  have hnz : ¬ (n : Int) > 8 := by omega
  by_cases hm : 122 < m
  · have hmz : (m : Int) > 122 := by omega
    clear hn hm
    go_enter Try.func6, Try.ntmps6
    go_wp2_with fail
    refine (HAW.out _).mono ?_
    rintro e w1 ⟨rfl, hb1⟩
    go_wp2_with fail
    go_ret
    exact ⟨rfl, hb1⟩
  have hmz : ¬ (m : Int) > 122 := by omega
  have hn5 : n ≤ 8 := by omega
  have hm5 : m ≤ 122 := by omega
  clear hn hm
  have HCP := hide (fun W (h : PathsAt W 0 A n D R I) => copyPaths_own A n c (fun i => ⟨D i, R i, I i⟩) W (by omega) (paths_pats h))
  have HCN := hide (fun W (h : NumsAt W 0 B m F) => copyNumbers_own B m d F W (by omega) h)
  have HCK := hide (fun X x W (h : PathsAt W 0 X n D R I) => CheckPaths_any X n x D R I W (by omega) h)
  have HTH := hide (fun X x Y y W (h : PathsAt W 0 X n D R I) (k : NumsAt W 0 Y m F) => Through_any X Y n x m y D R I F W (by omega) (by omega) h k)
  have HRE := hide (fun X x W (h : PathsAt W 0 X n D R I) => ResponseOf_any X n x D R I W (by omega) h)
  have HKR := hide (fun W (h : PathsAt W 0 A n D R I) => checkPathsR_any A n c D R I W (by omega) h)
  have HSE := hide (fun W (h : NumsAt W 0 B m F) => samplesErrR_any B m d F W (by omega) h)
  have HRR := hide (fun W (hC : chkE n D R I = 0) (h : PathsAt W 0 A n D R I) => (show Calls Try.prog 39 #[.slice A n c] W fun e w' => e = .returned (.agg (arr8 fun k => respTo D R I k n)) ∧ Below W.heap.size W w' from by
    obtain ⟨h0, h1, h2⟩ := chkE_right hC
    exact responseOfR_any A n c D R I W ⟨h0, h1, fun j hj => (h2 j hj).1, fun j hj => ⟨(h2 j hj).2.1.1, (h2 j hj).2.1.2, (h2 j hj).2.2.1, (h2 j hj).2.2.2⟩⟩ h))
  have HTR := hide (fun W (hE : thrE n D R I m F = 0) (h : PathsAt W 0 A n D R I) (k : NumsAt W 0 B m F) => (show Calls Try.prog 40 #[.slice A n c, .slice B m d] W fun e w' => ∃ v, e = .returned v ∧ OwnNums w' W.heap.size v m (thrTo D R I F n) ∧ Below W.heap.size W w' from by
    obtain ⟨⟨-, h1, h2⟩, h3, h4⟩ := thrE_right hE
    exact throughR_any A B n c m d D R I F W h1 h3 h2 h4 h k))
  have HAS := hide (fun X x W (h : NumsAt W 0 X m (thrTo D R I F n)) => areSmallR_any X m x (thrTo D R I F n) W (by omega) h)
  have HSA := hide (fun X x Y y W (h : NumsAt W 0 X m (thrTo D R I F n)) (k : NumsAt W 0 Y m (thrTo D R I F n)) => same_alike X Y m x y (thrTo D R I F n) (thrTo D R I F n) W (by omega) h k (fun _ _ => rfl))
  have HT1 := hide (thrR_paths (n := n) (D := D) (R := R) (I := I) (m := m) (F := F))
  have HT2 := hide (thrR_samples (n := n) (D := D) (R := R) (I := I) (m := m) (F := F))
  have HT3 := hide (thrR_large (n := n) (D := D) (R := R) (I := I) (m := m) (F := F))
  have HT4 := hide (thrE_both (n := n) (D := D) (R := R) (I := I) (m := m) (F := F))
  obtain ⟨C, hC⟩ : ∃ z, z = chkE n D R I := ⟨_, rfl⟩
  obtain ⟨S, hS⟩ : ∃ z, z = sampE m F := ⟨_, rfl⟩
  obtain ⟨V, hV⟩ : ∃ z, z = thrR n D R I m F := ⟨_, rfl⟩
  obtain ⟨L, hL⟩ : ∃ z, z = numsE 1000000000 (thrTo D R I F n) m := ⟨_, rfl⟩
  obtain ⟨K, hK⟩ : ∃ z, z = chkI n D R I := ⟨_, rfl⟩
  rw [← hC] at HCK HRE HKR HRR HT1 HT2 HT3 HT4
  rw [← hS] at HSE HT2 HT3 HT4
  rw [← hV] at HTH HT1 HT2 HT3
  rw [← hL] at HT3 HAS
  rw [← hK] at HCK HKR
  obtain ⟨T, hT⟩ : ∃ z, z = thrTo D R I F n := ⟨_, rfl⟩
  rw [← hT] at HTH HTR HAS HSA
  obtain ⟨G, hG⟩ : ∃ z : Nat → Num, z = fun k => if C = 0 then respTo D R I k n else Num.zero := ⟨_, rfl⟩
  rw [← hG] at HRE
  have HG := hide hG
  clear hC hS hV hL hK hT hG
  go_enter Try.func6, Try.ntmps6
  go_wp2_with fail
  refine (HAW.out _).mono ?_
  rintro e w1 ⟨rfl, hB1⟩
  clear HAW
  go_wp2_with fail
  refine (HCP.out _ (HI.out.below hB1)).mono ?_
  rintro e w2 ⟨v2, rfl, ho2, hb2⟩
  obtain ⟨X2, x2, rfl, -, hX2⟩ := ownPats_form ho2
  have hB2 := hB1.trans (hb2.mono hB1.size)
  have HX2 := hide (pats_paths (hX2.weak (Nat.zero_le _)))
  clear ho2 hX2 hb2 hB1
  go_wp2_with fail
  refine (HCK.out _ _ _ HX2.out).mono ?_
  rintro e w3 ⟨rfl, hb3⟩
  have hB3 := hB2.trans (hb3.mono hB2.size)
  clear hb3 hB2 HX2 HCK
  go_wp2_with fail
  refine (HCP.out _ (HI.out.below hB3)).mono ?_
  rintro e w4 ⟨v4, rfl, ho4, hb4⟩
  obtain ⟨X4, x4, rfl, -, hX4⟩ := ownPats_form ho4
  have hB4 := hB3.trans (hb4.mono hB3.size)
  have HX4 := hide (pats_paths (hX4.weak (Nat.zero_le _)))
  clear ho4 hX4 hb4 hB3
  go_wp2_with fail
  refine (HCN.out _ (HJ.out.below hB4)).mono ?_
  rintro e w5 ⟨v5, rfl, ho5, hb5⟩
  obtain ⟨X5, x5, rfl, -, hX5⟩ := ownNums_form ho5
  have hB5 := hB4.trans (hb5.mono hB4.size)
  have HX5 := hide (hX5.weak (Nat.zero_le _))
  have HX4' := hide (HX4.out.below hb5)
  clear ho5 hX5 hb5 hB4 HX4 HCN
  go_wp2_with fail
  refine (HTH.out _ _ _ _ _ HX4'.out HX5.out).mono ?_
  rintro e w6 ⟨v6, rfl, ho6, hb6⟩
  obtain ⟨X6, x6, rfl, -, hX6⟩ := ownNums_form ho6
  have hB6 := hB5.trans (hb6.mono hB5.size)
  have HX6 := hide (hX6.weak (Nat.zero_le _))
  obtain ⟨ml, hml⟩ : ∃ z : Nat, z = if V = 0 then m else 0 := ⟨_, rfl⟩
  rw [← hml] at HX6 ⊢
  have HML := hide hml
  clear ho6 hX6 hb6 hB5 HX4' HX5 HTH hml
  go_wp2_with fail
  refine (HCP.out _ (HI.out.below hB6)).mono ?_
  rintro e w7 ⟨v7, rfl, ho7, hb7⟩
  obtain ⟨X7, x7, rfl, -, hX7⟩ := ownPats_form ho7
  have hB7 := hB6.trans (hb7.mono hB6.size)
  have HX7 := hide (pats_paths (hX7.weak (Nat.zero_le _)))
  have HX6' := hide (HX6.out.below hb7)
  clear ho7 hX7 hb7 hB6 HX6 HCP
  go_wp2_with fail
  refine (HRE.out _ _ _ HX7.out).mono ?_
  rintro e w8 ⟨rfl, hb8⟩
  have hB8 := hB7.trans (hb8.mono hB7.size)
  have HX8 := hide (HX6'.out.below hb8)
  clear hb8 hB7 HX7 HX6' HRE
  obtain ⟨b9, hb9⟩ : ∃ z, w8.heap.size = z := ⟨_, rfl⟩
  go_upto_region 8 with (first
    | (refine wpList_store8 rfl (.tmp 9) (.tmp 42) rfl b9 (fun _ => Num.zero) G rfl rfl (arrNums_alloc _ _ _ hb9.symm) ?_; intro W9 r9 o9)
    | (refine wpList_allocTo rfl (some 9) rfl (.pointer (some ⟨b9, 0, none⟩)) (.cells (arr8 fun _ => Num.zero) 27) (by rw [← hb9]; kernel_rfl) ?_))
  have hc9 : Below w8.heap.size w8 W9 := ((Below.refl _ _).alloc (Nat.le_refl _) _).trans (o9.to_below (by omega) (by simp))
  have hB9 := hB8.trans (hc9.mono hB8.size)
  have HX9 := hide (HX8.out.below hc9)
  clear hc9 o9 HX8 hb9 hB8
  go_wp2_with fail
  refine (HKR.out _ (HI.out.below hB9)).mono ?_
  rintro e w10 ⟨rfl, hb10⟩
  have hB10 := hB9.trans (hb10.mono hB9.size)
  have HX10 := hide (HX9.out.below hb10)
  have HR10 := hide (r9.below hb10)
  have t1 : (C != C) = false := by simp
  have t2 : ((K : Int) != (K : Int)) = false := by simp
  clear hb10 hB9 HX9 r9 HKR
  by_cases hC : C = 0
  case neg =>
    have t3 : (C != 0) = true := by simpa using hC
    have t4 : (C == C) = true := by simp
    have hV := HT1.out hC
    subst hV
    have hm0 : ml = 0 := by rw [HML.out, if_neg hC]
    subst hm0
    have hGz : G = fun _ => Num.zero := by rw [HG.out]; funext k; rw [if_neg hC]
    subst hGz
    clear HT1 HT2 HT3 HT4 HML HG hC HRR HTR HSE HSA HAS
    have hq8 := equal8_zero w10
    go_wp2_with (refine wpList_load8G rfl (.tmp 9) rfl b9 (fun _ => Num.zero) rfl HR10.out ?_)
    go_ret
    exact ⟨rfl, hB10⟩
  case pos =>
  subst hC
  have hGz : G = fun k => respTo D R I k n := by rw [HG.out]; funext k; rw [if_pos rfl]
  subst hGz
  have HRR' := hide (HRR.out w10.drew rfl (HI.out.below (show Below w.heap.size w w10.drew from hB10.drew)))
  clear HG HRR HT1
  have t3 : ((0 : Int) != 0) = false := rfl
  go_upto_region 13 with fail
  refine wp_region_held_drew (S := fun w' => ArrNums w' b9 (fun k => respTo D R I k n)) (by kernel_rfl) HR10.out (fun hHeld => ?_)
  refine wpAnyH_take (i := 0) (oi := ⟨some 77, _, _, _, _, _⟩) (v := ?_) rfl (by kernel_rfl) (by kernel_rfl) (by kernel_rfl) (fun _ _ _ h => h) (Or.inl ⟨by rfl, ?_⟩) (by assumption) ?_
  rotate_left
  · (intro w' hSw; (try dsimp only at hSw); go_simp <;> (with_reducible rfl))
  try simp only [Act.put, List.setIfInBounds_toArray, List.set_cons_zero, List.set_cons_succ]
  refine wpAnyH_take (i := 1) (oi := ⟨some 78, _, _, _, _, _⟩) (v := ?_) rfl (by kernel_rfl) (by kernel_rfl) (by kernel_rfl) (fun _ _ _ h => h) (Or.inl ⟨by rfl, ?_⟩) (by assumption) ?_
  rotate_left
  · (intro w' hSw; (try dsimp only at hSw); go_simp <;> (with_reducible rfl))
  try simp only [Act.put, List.setIfInBounds_toArray, List.set_cons_zero, List.set_cons_succ]
  refine wpAnyH_take (i := 2) (oi := ⟨some 79, _, _, _, _, _⟩) (v := ?_) rfl (by kernel_rfl) (by kernel_rfl) (by kernel_rfl) (fun _ _ _ h => h) (Or.inl ⟨by rfl, ?_⟩) (by assumption) ?_
  rotate_left
  · (intro w' hSw; (try dsimp only at hSw); go_simp <;> (with_reducible rfl))
  try simp only [Act.put, List.setIfInBounds_toArray, List.set_cons_zero, List.set_cons_succ]
  refine wpAnyH_take (i := 3) (oi := ⟨some 80, _, _, _, _, _⟩) (v := (.agg (arr8 fun k => respTo D R I k n))) rfl (by kernel_rfl) (by kernel_rfl) (by kernel_rfl) (fun _ _ _ h => h) (Or.inl ⟨by rfl, fun w' hSw => exec_load8 rfl hSw⟩) (by assumption) ?_
  try simp only [Act.put, List.setIfInBounds_toArray, List.set_cons_zero, List.set_cons_succ]
  refine wpAnyH_take (i := 4) (oi := ⟨some 81, _, _, _, _, _⟩) (v := ?_) rfl (by kernel_rfl) (by kernel_rfl) (by kernel_rfl) (fun _ _ _ h => h) (Or.inl ⟨by rfl, ?_⟩) (by assumption) ?_
  rotate_left
  · (intro w' hSw; (try dsimp only at hSw); go_simp <;> (with_reducible rfl))
  try simp only [Act.put, List.setIfInBounds_toArray, List.set_cons_zero, List.set_cons_succ]
  refine wpAnyH_ready (rs := [5]) (by kernel_rfl) (by simp) ?_
  refine AllReadyH.cons (o := ⟨some 82, _, _, _, _, _⟩) rfl (fun K' hK => ?_) AllReadyH.nil
  go_simp
  go_at_call 39
  refine HRR'.out.mono ?_
  rintro e w11 ⟨rfl, hb11'⟩
  have hb11 : Below w10.heap.size w10 w11 := below_of_drew hb11'
  clear hb11'
  have HX11 := hide (HX10.out.below hb11)
  have HR11 := HR10.out.below hb11
  have hB11 := hB10.trans (hb11.mono hB10.size)
  clear hb11 HX10 HR10 hB10 HRR'
  go_wp2_with fail
  refine hK.out _ _ HR11 (fun hHeld => ?_)
  clear hK K'
  try simp only [Act.put, List.setIfInBounds_toArray, List.set_cons_zero, List.set_cons_succ]
  refine wpAnyH_take (i := 6) (oi := ⟨some 83, _, _, _, _, _⟩) (v := (.bool false)) rfl (by kernel_rfl) (by kernel_rfl) (by kernel_rfl) (fun _ _ _ h => h) (Or.inl ⟨by rfl, fun w' hSw => by go_simp; simp [equal8_same]⟩) (by assumption) ?_
  try simp only [Act.put, List.setIfInBounds_toArray, List.set_cons_zero, List.set_cons_succ]
  refine wpAnyH_take (i := 7) (oi := ⟨some 84, _, _, _, _, _⟩) (v := ?_) rfl (by kernel_rfl) (by kernel_rfl) (by kernel_rfl) (fun _ _ _ h => h) (Or.inl ⟨by rfl, ?_⟩) (by assumption) ?_
  rotate_left
  · (intro w' hSw; (try dsimp only at hSw); go_simp <;> (with_reducible rfl))
  try simp only [Act.put, List.setIfInBounds_toArray, List.set_cons_zero, List.set_cons_succ]
  refine wpAnyH_done (by kernel_rfl) ?_ _
  have t5 : ((0 : Int) != 0) = false := rfl
  go_wp2_with fail
  refine (HSE.out _ (HJ.out.below hB11)).mono ?_
  rintro e w12 ⟨rfl, hb12⟩
  have hB12 := hB11.trans (hb12.mono hB11.size)
  have HX12 := hide (HX11.out.below hb12)
  clear hb12 HX11 HR11 hB11 HSE
  by_cases hS : S = 0
  case neg =>
    have t6 : (S != 0) = true := by simpa using hS
    have t7 : (S == S) = true := by simp
    have hV := HT2.out trivial hS
    subst hV
    have hm0 : ml = 0 := by rw [HML.out, if_neg hS]
    subst hm0
    clear HT2 HT3 HT4 HML hS HTR HSA HAS
    go_wp2_with fail
    go_ret
    exact ⟨rfl, hB12⟩
  case pos =>
  subst hS
  have HTR' := hide (HTR.out w12 (HT4.out trivial rfl) (HI.out.below hB12) (HJ.out.below hB12))
  have hV := HT3.out trivial rfl
  clear HT2 HT3 HT4 HTR
  go_wp2_with fail
  refine HTR'.out.mono ?_
  rintro e w13 ⟨v13, rfl, ho13, hb13⟩
  obtain ⟨X13, x13, rfl, -, hX13⟩ := ownNums_form ho13
  have hB13 := hB12.trans (hb13.mono hB12.size)
  have HX13 := hide (hX13.weak (Nat.zero_le _))
  have HX13' := hide (HX12.out.below hb13)
  clear ho13 hX13 hb13 hB12 HX12 HTR'
  go_wp2_with fail
  refine (HAS.out _ _ _ HX13.out).mono ?_
  rintro e w14 ⟨rfl, hb14⟩
  have hB14 := hB13.trans (hb14.mono hB13.size)
  have HX14 := hide (HX13.out.below hb14)
  have HX14' := hide (HX13'.out.below hb14)
  clear hb14 hB13 HX13 HX13' HAS
  by_cases hL : L = 0
  case neg =>
    have t8 : (L == 0) = false := by simpa using hL
    rw [t8] at hV ⊢
    have hV8 : V = 8 := hV
    subst hV8
    have hm0 : ml = 0 := HML.out
    subst hm0
    clear hV HML hL
    go_wp2_with fail
    go_ret
    exact ⟨rfl, hB14⟩
  case pos =>
  have t8 : (L == 0) = true := by simpa using hL
  rw [t8] at hV ⊢
  have hV0 : V = 0 := hV
  subst hV0
  have hm0 : ml = m := HML.out
  subst hm0
  clear hV HML hL
  have HSS := hide (HSA.out _ x6 _ x13 w14 HX14'.out HX14.out)
  clear HSA
  go_upto_region 21 with fail
  go_wp2_with (go_at_call 30; refine HSS.out.mono ?_; rintro e w15 ⟨rfl, hb15⟩)
  go_ret
  exact ⟨rfl, hB14.trans (hb15.mono hB14.size)⟩
end Go.Proofs.Ytfemghbjngemlaa
