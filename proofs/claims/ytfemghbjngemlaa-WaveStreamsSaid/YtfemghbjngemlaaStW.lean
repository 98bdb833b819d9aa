/- Lemmas: Ay. -/
import Derived.Deep.DeepCutAuto
import Derived.Test.YtfemghbjngemlaaBk16
import Derived.Test.YtfemghbjngemlaaBk22
import Derived.Test.YtfemghbjngemlaaBk23
set_option linter.unusedVariables false
set_option linter.unusedSimpArgs false
/- The walk of WaveStreams. -/
namespace Go.Proofs.Ytfemghbjngemlaa
open Go.RowKit Go.Great
theorem wp_store8 {op : Oper} {a : Act} {w : World} {K : Act → World → Prop} {Q : Exit → Act → World → Prop} (x y : Operand) (ho : op.op = .store 27 x y)
    (b : Nat) (F0 F : Nat → Num) (hx : a.eval x = .pointer (some ⟨b, 0, none⟩)) (hy : a.eval y = .agg (arr8 F)) (hb : ArrNums w b F0)
    (h : ∀ W, ArrNums W b F → Only b w W → K (a.put op.dst undef) W) : op.wp Try.prog a w K Q := by
  obtain ⟨cs, hbx, hs, -⟩ := hb
  have hb : Box w b 27 cs := hbx
  obtain ⟨cs', g1, g2, g3, g4⟩ := setCells_row b 27 (arr8 F).toList 0 w cs hb (by have := arr8_size F; simp; omega)
  have hz := arr8_size F
  refine wp_store_mid 27 x y ho b 0 (arr8 F) hx hy (fun j hj => ⟨?_, hb.free _⟩) (by rw [info8, hz]) (arr8_one F) (h _ ⟨cs', g1, by omega, fun i hi' => ?_⟩ g4)
  · rw [hb.at_, Array.getElem?_eq_getElem (by omega)]
    rfl
  · rw [g3 i, if_pos (by simp; omega)]
    simpa using arr8_at F i hi'
theorem step_store8 {ops : Array Oper} {op : Oper} {a : Act} {w : World} {K : Act → World → Prop} {Q : Exit → Act → World → Prop} {E : Prop} (hgd : op.guard = none) (x y : Operand) (ho : op.op = .store 27 x y)
    (b : Nat) (F0 F : Nat → Num) (hx : a.eval x = .pointer (some ⟨b, 0, none⟩)) (hy : a.eval y = .agg (arr8 F)) (hb : ArrNums w b F0)
    (h : ∀ W, ArrNums W b F → Only b w W → K (a.put op.dst undef) W) :
    if Region.wanted op (yielded ops a.tmps) = true then Oper.wp Try.prog op a w K Q else E := by
  rw [if_pos (by simp [Region.wanted, hgd])]
  exact wp_store8 x y ho b F0 F hx hy hb h
set_option maxHeartbeats 16000000 in
set_option maxRecDepth 100000 in
theorem waveStreams_walk (A B : Option Addr) (n c m d : Nat) (F : Nat → Nat → Gau) (X : Nat → Num) (g s : Int) (w : World) (hn9 : n ≤ 9223372036854775807) (hm9 : m ≤ 9223372036854775807) (hI : SymsAt w 0 A n F) (hJ : NumsAt w 0 B m X) :
    Calls Try.prog 5 #[.slice A n c, .slice B m d, .agg #[.int .i64 g, .int .i64 s]] w fun e w' => e = .returned (.bool true) ∧ Below w.heap.size w w' := by
  have HAW := hide (fun W => awake_any W)
  have HI := hide hI
  have HJ := hide hJ
  clear hI hJ
  by_cases hn : 8 < n
  · have hnz : (n : Int) > 8 := by omega
    clear hn
    go_enter Try.func5, Try.ntmps5
    go_upto_region 1 with fail
    obtain ⟨W0, hW0⟩ : ∃ q : World, q = w.alloc (.cells #[.int .i64 g, .int .i64 s] 59) := ⟨_, rfl⟩
    rw [← hW0]
    have hB0 : Below w.heap.size w W0 := by rw [hW0]; (repeat (first | (with_reducible exact Below.refl _ _) | (with_reducible refine Go.below_drewN ?_ _) | (with_reducible refine Below.drew ?_) | (with_reducible refine Below.alloc ?_ (by first | exact Nat.le_refl _ | (simp; done) | (simp; omega) | omega) _) | (with_reducible refine Below.setCell ?_ (by first | exact Nat.le_refl _ | (simp; done) | (simp; omega) | omega) _)))
    clear hW0
    go_wp2_with fail
    refine (HAW.out _).mono ?_
    rintro e w1 ⟨rfl, hb1⟩
    go_wp2_with fail
    go_ret
    exact ⟨rfl, hB0.trans (hb1.mono hB0.size)⟩
  have hnz : ¬ (n : Int) > 8 := by omega
  by_cases hm : 122 < m
  · have hmz : (m : Int) > 122 := by omega
    clear hm hn
    go_enter Try.func5, Try.ntmps5
    go_upto_region 1 with fail
    obtain ⟨W0, hW0⟩ : ∃ q : World, q = w.alloc (.cells #[.int .i64 g, .int .i64 s] 59) := ⟨_, rfl⟩
    rw [← hW0]
    have hB0 : Below w.heap.size w W0 := by rw [hW0]; (repeat (first | (with_reducible exact Below.refl _ _) | (with_reducible refine Go.below_drewN ?_ _) | (with_reducible refine Below.drew ?_) | (with_reducible refine Below.alloc ?_ (by first | exact Nat.le_refl _ | (simp; done) | (simp; omega) | omega) _) | (with_reducible refine Below.setCell ?_ (by first | exact Nat.le_refl _ | (simp; done) | (simp; omega) | omega) _)))
    clear hW0
    go_wp2_with fail
    refine (HAW.out _).mono ?_
    rintro e w1 ⟨rfl, hb1⟩
    go_wp2_with fail
    go_ret
    exact ⟨rfl, hB0.trans (hb1.mono hB0.size)⟩
  have hmz : ¬ (m : Int) > 122 := by omega
  have hn5 : n ≤ 8 := by omega
  have hm5 : m ≤ 122 := by omega
  clear hn hm
  have HCS := hide (fun W (h : SymsAt W 0 A n F) => copySymbols_own A n c F W (by omega) h)
  have HCN := hide (fun W (h : NumsAt W 0 B m X) => copyNumbers_own B m d X W (by omega) h)
  have HST := hide (fun Y y W (h : SymsAt W 0 Y n F) => Stream_any Y n y F g W (by omega) h)
  have HSY := hide (fun Y y W (hc : m ≤ y) (h : NumsAt W 0 Y m X) => SymbolOf_any Y m y X g s W (by omega) hc h)
  have HSE := hide (fun W (h : SymsAt W 0 A n F) => streamErrR_any A n c F g W (by omega) h)
  have HSR := hide (fun W (hV : strE n F g = 0) (h : SymsAt W 0 A n F) => (show Calls Try.prog 29 #[.slice A n c, .int .i64 g] W fun e w' => ∃ v, e = .returned v ∧ OwnNums w' W.heap.size v (n * (8 + g.toNat)) (strF F g.toNat) ∧ Below W.heap.size W w' from by
    obtain ⟨-, -, -, h0, -⟩ := strE_zero hV
    obtain ⟨k, rfl⟩ : ∃ k : Nat, g = (k : Int) := ⟨g.toNat, by omega⟩
    exact streamR_any A n c F k W hV h))
  have HMS := hide (fun W (h : NumsAt W 0 B m X) => samplesErrR_any B m d X W (by omega) h)
  have HGU := hide (fun W => guardErrR_any g W)
  have HSB := hide (fun W (hE : twoE (sampE m X) (unI (withinB g 0 7) 2) = 0) (h : NumsAt W 0 B m X) => (show Calls Try.prog 33 #[.slice B m d, .int .i64 g, .int .i64 s] W fun e w' => e = .returned (.tuple #[.agg (arr8 fun j => if symR m X g s = 0 then X ((s * (8 + g) + g).toNat + j) else Num.zero), .int .i64 (symR m X g s)]) ∧ Below W.heap.size W w' from by
    have h2 := withinB_iff.1 (unI_zero (by decide) (two_zero hE).2)
    obtain ⟨k, rfl⟩ : ∃ k : Nat, g = (k : Int) := ⟨g.toNat, by omega⟩
    have e : symR m X (k : Int) s = if withinB s 0 (((m / (8 + k) : Nat) : Int) - 1) = true then 0 else 6 := by unfold symR; rw [if_pos hE]; rfl
    have e2 : (fun j => if symR m X (k : Int) s = 0 then X ((s * (8 + (k : Int)) + (k : Int)).toNat + j) else Num.zero) = fun j => if withinB s 0 (((m / (8 + k) : Nat) : Int) - 1) = true then X ((s * (8 + (k : Int)) + (k : Int)).toNat + j) else Num.zero := by
      funext j
      rw [e]
      by_cases hb : withinB s 0 (((m / (8 + k) : Nat) : Int) - 1) = true
      · rw [if_pos hb, if_pos hb, if_pos rfl]
      · rw [if_neg hb, if_neg hb, if_neg (by decide)]
    rw [e2, e]
    exact symbolOfR_any B m d X k s W (sampE_zero (two_zero hE).1).1 (by omega) h))
  have HR1 := hide (fun (h : ¬ twoE (sampE m X) (unI (withinB g 0 7) 2) = 0) => (show symR m X g s = twoE (sampE m X) (unI (withinB g 0 7) 2) from if_neg h))
  have HTW := hide (show (if sampE m X = 0 then unI (withinB g 0 7) 2 else sampE m X) = twoE (sampE m X) (unI (withinB g 0 7) 2) from rfl)
  obtain ⟨N, hN⟩ : ∃ z, (if strE n F g = 0 then n * (8 + g.toNat) else 0) = z := ⟨_, rfl⟩
  have hNb : N ≤ 1000 := by
    rw [← hN]
    split
    · rename_i h
      obtain ⟨-, h6, -, -, h7⟩ := strE_zero h
      have := Nat.mul_le_mul h6 (show 8 + g.toNat ≤ 15 by omega)
      omega
    · omega
  have HN := hide hN
  obtain ⟨Y, hY⟩ : ∃ z, strF F g.toNat = z := ⟨_, rfl⟩
  have HSA := hide (fun P p Q q W (h : NumsAt W 0 P N Y) (k : NumsAt W 0 Q N Y) => same_alike P Q N p q Y Y W (by omega) h k (fun _ _ => rfl))
  rw [hN, hY] at HST
  rw [hY] at HSR
  clear hN hY
  obtain ⟨R, hR⟩ : ∃ z, symR m X g s = z := ⟨_, rfl⟩
  obtain ⟨V, hV⟩ : ∃ z, strE n F g = z := ⟨_, rfl⟩
  obtain ⟨S, hS⟩ : ∃ z, sampE m X = z := ⟨_, rfl⟩
  obtain ⟨U, hU⟩ : ∃ z, unI (withinB g 0 7) 2 = z := ⟨_, rfl⟩
  simp only [hR, hV, hS, hU] at HST HSY HSE HSR HMS HGU HSB HR1 HTW HN
  clear hR hV hS hU
  obtain ⟨E, hE⟩ : ∃ z, twoE S U = z := ⟨_, rfl⟩
  simp only [hE] at HSB HR1 HTW
  clear hE
  obtain ⟨G, hG⟩ : ∃ z : Nat → Num, z = fun j => if R = 0 then X ((s * (8 + g) + g).toNat + j) else Num.zero := ⟨_, rfl⟩
  rw [← hG] at HSY HSB
  have HG := hide hG
  clear hG
  go_enter Try.func5, Try.ntmps5
  go_upto_region 1 with fail
  obtain ⟨W0, hW0⟩ : ∃ q : World, q = w.alloc (.cells #[.int .i64 g, .int .i64 s] 59) := ⟨_, rfl⟩
  rw [← hW0]
  have hB0 : Below w.heap.size w W0 := by rw [hW0]; (repeat (first | (with_reducible exact Below.refl _ _) | (with_reducible refine Go.below_drewN ?_ _) | (with_reducible refine Below.drew ?_) | (with_reducible refine Below.alloc ?_ (by first | exact Nat.le_refl _ | (simp; done) | (simp; omega) | omega) _) | (with_reducible refine Below.setCell ?_ (by first | exact Nat.le_refl _ | (simp; done) | (simp; omega) | omega) _)))
  have HBX := hide (show Box W0 w.heap.size 59 #[.int .i64 g, .int .i64 s] by rw [hW0]; exact Box.made rfl)
  clear hW0
  go_wp2_with fail
  refine (HAW.out _).mono ?_
  rintro e w_1 ⟨rfl, hb_1⟩
  have HBX_2 := hide (HBX.out.below hb_1)
  have hB_2 := hB0.trans (hb_1.mono hB0.size)
  clear hb_1 hB0 HBX
  clear HAW
  go_upto_region 5 with fail
  have e0 := HBX_2.out.at_ 0
  have e1 := HBX_2.out.at_ 1
  simp only [List.getElem?_toArray] at e0 e1
  refine wp_region_held_drew (S := fun w' => w'.cell? ⟨w.heap.size, 0, none⟩ = some (.int .i64 g) ∧ w'.cell? ⟨w.heap.size, 1, none⟩ = some (.int .i64 s)) (by kernel_rfl) ⟨e0, e1⟩ (fun hHeld => ?_)
  refine wpAnyH_take (i := 0) (oi := ⟨some 25, _, _, _, _, _⟩) (v := ?_) rfl (by kernel_rfl) (by kernel_rfl) (by kernel_rfl) (fun _ _ _ h => h) (Or.inl ⟨by rfl, ?_⟩) (by assumption) ?_
  rotate_left
  · (intro w' hSw; (try dsimp only at hSw); go_simp <;> (with_reducible rfl))
  try simp only [Act.put, List.setIfInBounds_toArray, List.set_cons_zero, List.set_cons_succ]
  refine wpAnyH_take (i := 2) (oi := ⟨some 27, _, _, _, _, _⟩) (v := ?_) rfl (by kernel_rfl) (by kernel_rfl) (by kernel_rfl) (fun _ _ _ h => h) (Or.inl ⟨by rfl, ?_⟩) (by assumption) ?_
  rotate_left
  · (intro w' hSw; (try dsimp only at hSw); go_simp <;> (with_reducible rfl))
  try simp only [Act.put, List.setIfInBounds_toArray, List.set_cons_zero, List.set_cons_succ]
  refine wpAnyH_take (i := 3) (oi := ⟨some 28, _, _, _, _, _⟩) (v := ?_) rfl (by kernel_rfl) (by kernel_rfl) (by kernel_rfl) (fun _ _ _ h => h) (Or.inl ⟨by rfl, ?_⟩) (by assumption) ?_
  rotate_left
  · (intro w' hSw; (try dsimp only at hSw); go_simp <;> (with_reducible rfl))
  try simp only [Act.put, List.setIfInBounds_toArray, List.set_cons_zero, List.set_cons_succ]
  refine wpAnyH_ready (rs := [1]) (by kernel_rfl) (by simp) ?_
  refine AllReadyH.cons (o := ⟨some 26, _, _, _, _, _⟩) rfl (fun K' hK => ?_) AllReadyH.nil
  go_simp
  go_at_call 25
  refine (HCS.out _ (by have h := HI.out.below hB_2; exact h)).mono ?_
  rintro e w_3 ⟨v2, rfl, ho2, hb'_3⟩
  have hb_3 : Below w_1.heap.size w_1 w_3 := by first | exact hb'_3 | exact below_of_drew hb'_3 | exact below_of_drew (below_of_drew hb'_3)
  clear hb'_3
  obtain ⟨X2, x2, rfl, -, hX2⟩ := ownSyms_form ho2
  have HX2 := hide (hX2.weak (Nat.zero_le _))
  clear ho2 hX2 e0 e1
  have HBX_4 := hide (HBX_2.out.below hb_3)
  have hB_4 := hB_2.trans (hb_3.mono hB_2.size)
  clear hb_3 hB_2 HBX_2
  have e0 := HBX_4.out.at_ 0
  have e1 := HBX_4.out.at_ 1
  simp only [List.getElem?_toArray] at e0 e1
  go_wp2_with fail
  refine hK.out _ _ ⟨e0, e1⟩ (fun hHeld => ?_)
  clear hK K'
  try simp only [Act.put, List.setIfInBounds_toArray, List.set_cons_zero, List.set_cons_succ]
  refine wpAnyH_ready (rs := [4]) (by kernel_rfl) (by simp) ?_
  refine AllReadyH.cons (o := ⟨some 29, _, _, _, _, _⟩) rfl (fun K' hK => ?_) AllReadyH.nil
  go_simp
  go_at_call 24
  refine (HST.out _ _ _ (by exact HX2.out)).mono ?_
  rintro e w_5 ⟨v3, rfl, ho3, hb'_5⟩
  have hb_5 : Below w_3.heap.size w_3 w_5 := by first | exact hb'_5 | exact below_of_drew hb'_5 | exact below_of_drew (below_of_drew hb'_5)
  clear hb'_5
  obtain ⟨X3, x3, rfl, -, hX3⟩ := ownNums_form ho3
  have HL := hide (hX3.weak (Nat.zero_le _))
  clear ho3 hX3 e0 e1 HX2
  have HBX_6 := hide (HBX_4.out.below hb_5)
  have hB_6 := hB_4.trans (hb_5.mono hB_4.size)
  clear hb_5 hB_4 HBX_4
  have e0 := HBX_6.out.at_ 0
  have e1 := HBX_6.out.at_ 1
  simp only [List.getElem?_toArray] at e0 e1
  go_wp2_with fail
  refine hK.out _ _ ⟨e0, e1⟩ (fun hHeld => ?_)
  clear hK K'
  try simp only [Act.put, List.setIfInBounds_toArray, List.set_cons_zero, List.set_cons_succ]
  refine wpAnyH_take (i := 5) (oi := ⟨some 24, _, _, _, _, _⟩) (v := ?_) rfl (by kernel_rfl) (by kernel_rfl) (by kernel_rfl) (fun _ _ _ h => h) (Or.inl ⟨by rfl, ?_⟩) (by assumption) ?_
  rotate_left
  · (intro w' hSw; (try dsimp only at hSw); go_simp <;> (with_reducible rfl))
  try simp only [Act.put, List.setIfInBounds_toArray, List.set_cons_zero, List.set_cons_succ]
  refine wpAnyH_take (i := 6) (oi := ⟨some 30, _, _, _, _, _⟩) (v := ?_) rfl (by kernel_rfl) (by kernel_rfl) (by kernel_rfl) (fun _ _ _ h => h) (Or.inl ⟨by rfl, ?_⟩) (by assumption) ?_
  rotate_left
  · (intro w' hSw; (try dsimp only at hSw); go_simp <;> (with_reducible rfl))
  try simp only [Act.put, List.setIfInBounds_toArray, List.set_cons_zero, List.set_cons_succ]
  refine wpAnyH_take (i := 7) (oi := ⟨some 31, _, _, _, _, _⟩) (v := ?_) rfl (by kernel_rfl) (by kernel_rfl) (by kernel_rfl) (fun _ _ _ h => h) (Or.inl ⟨by rfl, ?_⟩) (by assumption) ?_
  rotate_left
  · (intro w' hSw; (try dsimp only at hSw); go_simp <;> (with_reducible rfl))
  try simp only [Act.put, List.setIfInBounds_toArray, List.set_cons_zero, List.set_cons_succ]
  refine wpAnyH_take (i := 8) (oi := ⟨some 7, _, _, _, _, _⟩) (v := ?_) rfl (by kernel_rfl) (by kernel_rfl) (by kernel_rfl) (fun _ _ _ h => h) (Or.inl ⟨by rfl, ?_⟩) (by assumption) ?_
  rotate_left
  · (intro w' hSw; (try dsimp only at hSw); go_simp <;> (with_reducible rfl))
  try simp only [Act.put, List.setIfInBounds_toArray, List.set_cons_zero, List.set_cons_succ]
  refine wpAnyH_take (i := 9) (oi := ⟨some 8, _, _, _, _, _⟩) (v := ?_) rfl (by kernel_rfl) (by kernel_rfl) (by kernel_rfl) (fun _ _ _ h => h) (Or.inl ⟨by rfl, ?_⟩) (by assumption) ?_
  rotate_left
  · (intro w' hSw; (try dsimp only at hSw); go_simp <;> (with_reducible rfl))
  try simp only [Act.put, List.setIfInBounds_toArray, List.set_cons_zero, List.set_cons_succ]
  refine wpAnyH_done (by kernel_rfl) ?_ _
  clear e0 e1 HST
  go_upto_region 6 with fail
  go_cut [9, 10] (fun q u wx => (∃ b9, q = .pointer (some ⟨b9, 0, none⟩) ∧ ArrNums wx b9 G) ∧ u = .int .i64 R ∧ Below w_5.heap.size w_5 wx)
  case first =>
    have hb_0 : Below w_5.heap.size w_5 w_5 := Below.refl _ _
    have e0 := (HBX_6.out.below hb_0).at_ 0
    have e1 := (HBX_6.out.below hb_0).at_ 1
    simp only [List.getElem?_toArray] at e0 e1
    refine wp_region_held_drew (S := fun w' => w'.cell? ⟨w.heap.size, 0, none⟩ = some (.int .i64 g) ∧ w'.cell? ⟨w.heap.size, 1, none⟩ = some (.int .i64 s)) (by kernel_rfl) ⟨e0, e1⟩ (fun hHeld => ?_)
    refine wpAnyH_take (i := 0) (oi := ⟨some 33, _, _, _, _, _⟩) (v := ?_) rfl (by kernel_rfl) (by kernel_rfl) (by kernel_rfl) (fun _ _ _ h => h) (Or.inl ⟨by rfl, ?_⟩) (by assumption) ?_
    rotate_left
    · (intro w' hSw; (try dsimp only at hSw); go_simp <;> (with_reducible rfl))
    try simp only [Act.put, List.setIfInBounds_toArray, List.set_cons_zero, List.set_cons_succ]
    refine wpAnyH_take (i := 2) (oi := ⟨some 35, _, _, _, _, _⟩) (v := ?_) rfl (by kernel_rfl) (by kernel_rfl) (by kernel_rfl) (fun _ _ _ h => h) (Or.inl ⟨by rfl, ?_⟩) (by assumption) ?_
    rotate_left
    · (intro w' hSw; (try dsimp only at hSw); go_simp <;> (with_reducible rfl))
    try simp only [Act.put, List.setIfInBounds_toArray, List.set_cons_zero, List.set_cons_succ]
    refine wpAnyH_take (i := 3) (oi := ⟨some 36, _, _, _, _, _⟩) (v := ?_) rfl (by kernel_rfl) (by kernel_rfl) (by kernel_rfl) (fun _ _ _ h => h) (Or.inl ⟨by rfl, ?_⟩) (by assumption) ?_
    rotate_left
    · (intro w' hSw; (try dsimp only at hSw); go_simp <;> (with_reducible rfl))
    try simp only [Act.put, List.setIfInBounds_toArray, List.set_cons_zero, List.set_cons_succ]
    refine wpAnyH_take (i := 4) (oi := ⟨some 37, _, _, _, _, _⟩) (v := ?_) rfl (by kernel_rfl) (by kernel_rfl) (by kernel_rfl) (fun _ _ _ h => h) (Or.inl ⟨by rfl, ?_⟩) (by assumption) ?_
    rotate_left
    · (intro w' hSw; (try dsimp only at hSw); go_simp <;> (with_reducible rfl))
    try simp only [Act.put, List.setIfInBounds_toArray, List.set_cons_zero, List.set_cons_succ]
    refine wpAnyH_take (i := 5) (oi := ⟨some 38, _, _, _, _, _⟩) (v := ?_) rfl (by kernel_rfl) (by kernel_rfl) (by kernel_rfl) (fun _ _ _ h => h) (Or.inl ⟨by rfl, ?_⟩) (by assumption) ?_
    rotate_left
    · (intro w' hSw; (try dsimp only at hSw); go_simp <;> (with_reducible rfl))
    try simp only [Act.put, List.setIfInBounds_toArray, List.set_cons_zero, List.set_cons_succ]
    refine wpAnyH_ready (rs := [1, 10]) (by kernel_rfl) (by simp) ?_
    refine AllReadyH.cons (o := ⟨some 34, _, _, _, _, _⟩) rfl (fun K' hK => ?_) (AllReadyH.cons (o := ⟨some 9, _, _, _, _, _⟩) rfl (fun K' hK => ?_) AllReadyH.nil)
    · skip
      go_simp
      go_at_call 27
      refine (HCN.out _ (by have h := HJ.out.below (hB_6.trans (hb_0.mono hB_6.size)); exact h)).mono ?_
      rintro e w_7 ⟨v4, rfl, ho4, hb'⟩
      have hc : Below w_5.heap.size w_5 w_7 := by first | exact hb' | exact below_of_drew hb' | exact below_of_drew (below_of_drew hb')
      have hb_7 := hb_0.trans (hc.mono hb_0.size)
      obtain ⟨X4, x4, rfl, hx4, hX4⟩ := ownNums_form ho4
      have HX4 := hide (hX4.weak (Nat.zero_le _))
      clear ho4 hX4
      clear hb' hc e0 e1
      have e0 := (HBX_6.out.below hb_7).at_ 0
      have e1 := (HBX_6.out.below hb_7).at_ 1
      simp only [List.getElem?_toArray] at e0 e1
      go_wp2_with fail
      refine hK.out _ _ ⟨e0, e1⟩ (fun hHeld => ?_)
      clear hK K'
      try simp only [Act.put, List.setIfInBounds_toArray, List.set_cons_zero, List.set_cons_succ]
      refine wpAnyH_ready (rs := [6, 10]) (by kernel_rfl) (by simp) ?_
      refine AllReadyH.cons (o := ⟨some 39, _, _, _, _, _⟩) rfl (fun K' hK => ?_) (AllReadyH.cons (o := ⟨some 9, _, _, _, _, _⟩) rfl (fun K' hK => ?_) AllReadyH.nil)
      · skip
        go_simp
        go_at_call 26
        refine (HSY.out _ _ _ hx4 (by have h := HX4.out; exact h)).mono ?_
        rintro e w_8 ⟨rfl, hb'⟩
        have hc : Below w_7.heap.size w_7 w_8 := by first | exact hb' | exact below_of_drew hb' | exact below_of_drew (below_of_drew hb')
        have hb_8 := hb_7.trans (hc.mono hb_7.size)
        clear hb' hc e0 e1
        have e0 := (HBX_6.out.below hb_8).at_ 0
        have e1 := (HBX_6.out.below hb_8).at_ 1
        simp only [List.getElem?_toArray] at e0 e1
        go_wp2_with fail
        refine hK.out _ _ ⟨e0, e1⟩ (fun hHeld => ?_)
        clear hK K'
        try simp only [Act.put, List.setIfInBounds_toArray, List.set_cons_zero, List.set_cons_succ]
        refine wpAnyH_take (i := 7) (oi := ⟨some 32, _, _, _, _, _⟩) (v := ?_) rfl (by kernel_rfl) (by kernel_rfl) (by kernel_rfl) (fun _ _ _ h => h) (Or.inl ⟨by rfl, ?_⟩) (by assumption) ?_
        rotate_left
        · (intro w' hSw; (try dsimp only at hSw); go_simp <;> (with_reducible rfl))
        try simp only [Act.put, List.setIfInBounds_toArray, List.set_cons_zero, List.set_cons_succ]
        refine wpAnyH_take (i := 8) (oi := ⟨some 40, _, _, _, _, _⟩) (v := ?_) rfl (by kernel_rfl) (by kernel_rfl) (by kernel_rfl) (fun _ _ _ h => h) (Or.inl ⟨by rfl, ?_⟩) (by assumption) ?_
        rotate_left
        · (intro w' hSw; (try dsimp only at hSw); go_simp <;> (with_reducible rfl))
        try simp only [Act.put, List.setIfInBounds_toArray, List.set_cons_zero, List.set_cons_succ]
        refine wpAnyH_take (i := 9) (oi := ⟨some 41, _, _, _, _, _⟩) (v := ?_) rfl (by kernel_rfl) (by kernel_rfl) (by kernel_rfl) (fun _ _ _ h => h) (Or.inl ⟨by rfl, ?_⟩) (by assumption) ?_
        rotate_left
        · (intro w' hSw; (try dsimp only at hSw); go_simp <;> (with_reducible rfl))
        try simp only [Act.put, List.setIfInBounds_toArray, List.set_cons_zero, List.set_cons_succ]
        refine wpAnyH_ready (rs := [10]) (by kernel_rfl) (by simp) ?_
        refine AllReadyH.cons (o := ⟨some 9, _, _, _, _, _⟩) rfl (fun K' hK => ?_) AllReadyH.nil
        go_simp
        obtain ⟨b9, hb9⟩ : ∃ q, w_8.heap.size = q := ⟨_, rfl⟩
        have A_9 : ArrNums (w_8.alloc (.cells (arr8 fun _ => Num.zero) 27)) b9 (fun _ => Num.zero) := arrNums_alloc _ _ _ hb9.symm
        have hb_9 : Below w_5.heap.size w_5 (w_8.alloc (.cells (arr8 fun _ => Num.zero) 27)) := hb_8.alloc hb_8.size _
        have hle : w_5.heap.size ≤ b9 := by have := hb_8.size; omega
        clear e0 e1
        have e0 := (HBX_6.out.below hb_9).at_ 0
        have e1 := (HBX_6.out.below hb_9).at_ 1
        simp only [List.getElem?_toArray] at e0 e1
        try simp only [hb9]
        refine hK.out _ _ ⟨e0, e1⟩ (fun hHeld => ?_)
        clear hK K'
        try simp only [Act.put, List.setIfInBounds_toArray, List.set_cons_zero, List.set_cons_succ]
        refine wpAnyH_ready (rs := [11]) (by kernel_rfl) (by simp) ?_
        refine AllReadyH.cons (o := ⟨none, _, _, _, _, _⟩) rfl (fun K' hK => ?_) AllReadyH.nil
        refine step_store8 rfl (.tmp 9) (.tmp 40) rfl b9 (fun _ => Num.zero) G rfl rfl (by have h := A_9; exact h) (fun W9 r9 o9 => ?_)
        have hb_10 : Below w_5.heap.size w_5 W9 := hb_9.trans (Only.to_below (a := (w_8.alloc (.cells (arr8 fun _ => Num.zero) 27))) (by have h := o9; exact h) hle hb_9.size)
        clear e0 e1 o9
        have e0 := (HBX_6.out.below hb_10).at_ 0
        have e1 := (HBX_6.out.below hb_10).at_ 1
        simp only [List.getElem?_toArray] at e0 e1
        refine hK.out _ _ ⟨e0, e1⟩ (fun hHeld => ?_)
        clear hK K'
        try simp only [Act.put, List.setIfInBounds_toArray, List.set_cons_zero, List.set_cons_succ]
        refine wpAnyH_take (i := 12) (oi := ⟨some 10, _, _, _, _, _⟩) (v := ?_) rfl (by kernel_rfl) (by kernel_rfl) (by kernel_rfl) (fun _ _ _ h => h) (Or.inl ⟨by rfl, ?_⟩) (by assumption) ?_
        rotate_left
        · (intro w' hSw; (try dsimp only at hSw); go_simp <;> (with_reducible rfl))
        try simp only [Act.put, List.setIfInBounds_toArray, List.set_cons_zero, List.set_cons_succ]
        refine wpAnyH_done (by kernel_rfl) ?_ _
        go_wp2_with fail
        go_meet
        case rel => exact ⟨⟨b9, rfl, r9⟩, rfl, hb_10⟩
      · skip
        go_simp
        obtain ⟨b9, hb9⟩ : ∃ q, w_7.heap.size = q := ⟨_, rfl⟩
        have A_11 : ArrNums (w_7.alloc (.cells (arr8 fun _ => Num.zero) 27)) b9 (fun _ => Num.zero) := arrNums_alloc _ _ _ hb9.symm
        have hb_11 : Below w_5.heap.size w_5 (w_7.alloc (.cells (arr8 fun _ => Num.zero) 27)) := hb_7.alloc hb_7.size _
        have HX_11 := hide (show NumsAt (w_7.alloc (.cells (arr8 fun _ => Num.zero) 27)) 0 X4 m X from HX4.out.alloc _)
        have hle : w_5.heap.size ≤ b9 := by have := hb_7.size; omega
        clear e0 e1
        have e0 := (HBX_6.out.below hb_11).at_ 0
        have e1 := (HBX_6.out.below hb_11).at_ 1
        simp only [List.getElem?_toArray] at e0 e1
        try simp only [hb9]
        refine hK.out _ _ ⟨e0, e1⟩ (fun hHeld => ?_)
        clear hK K'
        try simp only [Act.put, List.setIfInBounds_toArray, List.set_cons_zero, List.set_cons_succ]
        refine wpAnyH_ready (rs := [6]) (by kernel_rfl) (by simp) ?_
        refine AllReadyH.cons (o := ⟨some 39, _, _, _, _, _⟩) rfl (fun K' hK => ?_) AllReadyH.nil
        go_simp
        go_at_call 26
        refine (HSY.out _ _ _ hx4 (by have h := HX_11.out; exact h)).mono ?_
        rintro e w_12 ⟨rfl, hb'⟩
        have hc : Below (w_7.alloc (.cells (arr8 fun _ => Num.zero) 27)).heap.size (w_7.alloc (.cells (arr8 fun _ => Num.zero) 27)) w_12 := by first | exact hb' | exact below_of_drew hb' | exact below_of_drew (below_of_drew hb')
        have hb_12 := hb_11.trans (hc.mono hb_11.size)
        have A_12 := A_11.below hc
        clear hb' hc e0 e1
        have e0 := (HBX_6.out.below hb_12).at_ 0
        have e1 := (HBX_6.out.below hb_12).at_ 1
        simp only [List.getElem?_toArray] at e0 e1
        go_wp2_with fail
        refine hK.out _ _ ⟨e0, e1⟩ (fun hHeld => ?_)
        clear hK K'
        try simp only [Act.put, List.setIfInBounds_toArray, List.set_cons_zero, List.set_cons_succ]
        refine wpAnyH_take (i := 7) (oi := ⟨some 32, _, _, _, _, _⟩) (v := ?_) rfl (by kernel_rfl) (by kernel_rfl) (by kernel_rfl) (fun _ _ _ h => h) (Or.inl ⟨by rfl, ?_⟩) (by assumption) ?_
        rotate_left
        · (intro w' hSw; (try dsimp only at hSw); go_simp <;> (with_reducible rfl))
        try simp only [Act.put, List.setIfInBounds_toArray, List.set_cons_zero, List.set_cons_succ]
        refine wpAnyH_take (i := 8) (oi := ⟨some 40, _, _, _, _, _⟩) (v := ?_) rfl (by kernel_rfl) (by kernel_rfl) (by kernel_rfl) (fun _ _ _ h => h) (Or.inl ⟨by rfl, ?_⟩) (by assumption) ?_
        rotate_left
        · (intro w' hSw; (try dsimp only at hSw); go_simp <;> (with_reducible rfl))
        try simp only [Act.put, List.setIfInBounds_toArray, List.set_cons_zero, List.set_cons_succ]
        refine wpAnyH_take (i := 9) (oi := ⟨some 41, _, _, _, _, _⟩) (v := ?_) rfl (by kernel_rfl) (by kernel_rfl) (by kernel_rfl) (fun _ _ _ h => h) (Or.inl ⟨by rfl, ?_⟩) (by assumption) ?_
        rotate_left
        · (intro w' hSw; (try dsimp only at hSw); go_simp <;> (with_reducible rfl))
        try simp only [Act.put, List.setIfInBounds_toArray, List.set_cons_zero, List.set_cons_succ]
        refine wpAnyH_ready (rs := [11]) (by kernel_rfl) (by simp) ?_
        refine AllReadyH.cons (o := ⟨none, _, _, _, _, _⟩) rfl (fun K' hK => ?_) AllReadyH.nil
        refine step_store8 rfl (.tmp 9) (.tmp 40) rfl b9 (fun _ => Num.zero) G rfl rfl (by have h := A_12; exact h) (fun W9 r9 o9 => ?_)
        have hb_13 : Below w_5.heap.size w_5 W9 := hb_12.trans (Only.to_below (a := w_12) (by have h := o9; exact h) hle hb_12.size)
        clear e0 e1 o9
        have e0 := (HBX_6.out.below hb_13).at_ 0
        have e1 := (HBX_6.out.below hb_13).at_ 1
        simp only [List.getElem?_toArray] at e0 e1
        refine hK.out _ _ ⟨e0, e1⟩ (fun hHeld => ?_)
        clear hK K'
        try simp only [Act.put, List.setIfInBounds_toArray, List.set_cons_zero, List.set_cons_succ]
        refine wpAnyH_take (i := 12) (oi := ⟨some 10, _, _, _, _, _⟩) (v := ?_) rfl (by kernel_rfl) (by kernel_rfl) (by kernel_rfl) (fun _ _ _ h => h) (Or.inl ⟨by rfl, ?_⟩) (by assumption) ?_
        rotate_left
        · (intro w' hSw; (try dsimp only at hSw); go_simp <;> (with_reducible rfl))
        try simp only [Act.put, List.setIfInBounds_toArray, List.set_cons_zero, List.set_cons_succ]
        refine wpAnyH_done (by kernel_rfl) ?_ _
        go_wp2_with fail
        go_meet
        case rel => exact ⟨⟨b9, rfl, r9⟩, rfl, hb_13⟩
    · skip
      go_simp
      obtain ⟨b9, hb9⟩ : ∃ q, w_5.heap.size = q := ⟨_, rfl⟩
      have A_14 : ArrNums (w_5.alloc (.cells (arr8 fun _ => Num.zero) 27)) b9 (fun _ => Num.zero) := arrNums_alloc _ _ _ hb9.symm
      have hb_14 : Below w_5.heap.size w_5 (w_5.alloc (.cells (arr8 fun _ => Num.zero) 27)) := hb_0.alloc hb_0.size _
      have hle : w_5.heap.size ≤ b9 := by have := hb_0.size; omega
      clear e0 e1
      have e0 := (HBX_6.out.below hb_14).at_ 0
      have e1 := (HBX_6.out.below hb_14).at_ 1
      simp only [List.getElem?_toArray] at e0 e1
      try simp only [hb9]
      refine hK.out _ _ ⟨e0, e1⟩ (fun hHeld => ?_)
      clear hK K'
      try simp only [Act.put, List.setIfInBounds_toArray, List.set_cons_zero, List.set_cons_succ]
      refine wpAnyH_ready (rs := [1]) (by kernel_rfl) (by simp) ?_
      refine AllReadyH.cons (o := ⟨some 34, _, _, _, _, _⟩) rfl (fun K' hK => ?_) AllReadyH.nil
      go_simp
      go_at_call 27
      refine (HCN.out _ (by have h := HJ.out.below (hB_6.trans (hb_14.mono hB_6.size)); exact h)).mono ?_
      rintro e w_15 ⟨v4, rfl, ho4, hb'⟩
      have hc : Below (w_5.alloc (.cells (arr8 fun _ => Num.zero) 27)).heap.size (w_5.alloc (.cells (arr8 fun _ => Num.zero) 27)) w_15 := by first | exact hb' | exact below_of_drew hb' | exact below_of_drew (below_of_drew hb')
      have hb_15 := hb_14.trans (hc.mono hb_14.size)
      have A_15 := A_14.below hc
      obtain ⟨X4, x4, rfl, hx4, hX4⟩ := ownNums_form ho4
      have HX4 := hide (hX4.weak (Nat.zero_le _))
      clear ho4 hX4
      clear hb' hc e0 e1
      have e0 := (HBX_6.out.below hb_15).at_ 0
      have e1 := (HBX_6.out.below hb_15).at_ 1
      simp only [List.getElem?_toArray] at e0 e1
      go_wp2_with fail
      refine hK.out _ _ ⟨e0, e1⟩ (fun hHeld => ?_)
      clear hK K'
      try simp only [Act.put, List.setIfInBounds_toArray, List.set_cons_zero, List.set_cons_succ]
      refine wpAnyH_ready (rs := [6]) (by kernel_rfl) (by simp) ?_
      refine AllReadyH.cons (o := ⟨some 39, _, _, _, _, _⟩) rfl (fun K' hK => ?_) AllReadyH.nil
      go_simp
      go_at_call 26
      refine (HSY.out _ _ _ hx4 (by have h := HX4.out; exact h)).mono ?_
      rintro e w_16 ⟨rfl, hb'⟩
      have hc : Below w_15.heap.size w_15 w_16 := by first | exact hb' | exact below_of_drew hb' | exact below_of_drew (below_of_drew hb')
      have hb_16 := hb_15.trans (hc.mono hb_15.size)
      have A_16 := A_15.below hc
      clear hb' hc e0 e1
      have e0 := (HBX_6.out.below hb_16).at_ 0
      have e1 := (HBX_6.out.below hb_16).at_ 1
      simp only [List.getElem?_toArray] at e0 e1
      go_wp2_with fail
      refine hK.out _ _ ⟨e0, e1⟩ (fun hHeld => ?_)
      clear hK K'
      try simp only [Act.put, List.setIfInBounds_toArray, List.set_cons_zero, List.set_cons_succ]
      refine wpAnyH_take (i := 7) (oi := ⟨some 32, _, _, _, _, _⟩) (v := ?_) rfl (by kernel_rfl) (by kernel_rfl) (by kernel_rfl) (fun _ _ _ h => h) (Or.inl ⟨by rfl, ?_⟩) (by assumption) ?_
      rotate_left
      · (intro w' hSw; (try dsimp only at hSw); go_simp <;> (with_reducible rfl))
      try simp only [Act.put, List.setIfInBounds_toArray, List.set_cons_zero, List.set_cons_succ]
      refine wpAnyH_take (i := 8) (oi := ⟨some 40, _, _, _, _, _⟩) (v := ?_) rfl (by kernel_rfl) (by kernel_rfl) (by kernel_rfl) (fun _ _ _ h => h) (Or.inl ⟨by rfl, ?_⟩) (by assumption) ?_
      rotate_left
      · (intro w' hSw; (try dsimp only at hSw); go_simp <;> (with_reducible rfl))
      try simp only [Act.put, List.setIfInBounds_toArray, List.set_cons_zero, List.set_cons_succ]
      refine wpAnyH_take (i := 9) (oi := ⟨some 41, _, _, _, _, _⟩) (v := ?_) rfl (by kernel_rfl) (by kernel_rfl) (by kernel_rfl) (fun _ _ _ h => h) (Or.inl ⟨by rfl, ?_⟩) (by assumption) ?_
      rotate_left
      · (intro w' hSw; (try dsimp only at hSw); go_simp <;> (with_reducible rfl))
      try simp only [Act.put, List.setIfInBounds_toArray, List.set_cons_zero, List.set_cons_succ]
      refine wpAnyH_ready (rs := [11]) (by kernel_rfl) (by simp) ?_
      refine AllReadyH.cons (o := ⟨none, _, _, _, _, _⟩) rfl (fun K' hK => ?_) AllReadyH.nil
      refine step_store8 rfl (.tmp 9) (.tmp 40) rfl b9 (fun _ => Num.zero) G rfl rfl (by have h := A_16; exact h) (fun W9 r9 o9 => ?_)
      have hb_17 : Below w_5.heap.size w_5 W9 := hb_16.trans (Only.to_below (a := w_16) (by have h := o9; exact h) hle hb_16.size)
      clear e0 e1 o9
      have e0 := (HBX_6.out.below hb_17).at_ 0
      have e1 := (HBX_6.out.below hb_17).at_ 1
      simp only [List.getElem?_toArray] at e0 e1
      refine hK.out _ _ ⟨e0, e1⟩ (fun hHeld => ?_)
      clear hK K'
      try simp only [Act.put, List.setIfInBounds_toArray, List.set_cons_zero, List.set_cons_succ]
      refine wpAnyH_take (i := 12) (oi := ⟨some 10, _, _, _, _, _⟩) (v := ?_) rfl (by kernel_rfl) (by kernel_rfl) (by kernel_rfl) (fun _ _ _ h => h) (Or.inl ⟨by rfl, ?_⟩) (by assumption) ?_
      rotate_left
      · (intro w' hSw; (try dsimp only at hSw); go_simp <;> (with_reducible rfl))
      try simp only [Act.put, List.setIfInBounds_toArray, List.set_cons_zero, List.set_cons_succ]
      refine wpAnyH_done (by kernel_rfl) ?_ _
      go_wp2_with fail
      go_meet
      case rel => exact ⟨⟨b9, rfl, r9⟩, rfl, hb_17⟩
  case rest =>
  obtain ⟨⟨b9, rfl, hAR⟩, rfl, hbc⟩ := hcut
  obtain ⟨wQ, rfl⟩ : ∃ x : World, x = wc := ⟨_, rfl⟩
  have HAR := hide hAR
  clear hAR HSY HCN
  have HBX_18 := hide (HBX_6.out.below hbc)
  have HL_18 := hide (HL.out.below hbc)
  have hB_18 := hB_6.trans (hbc.mono hB_6.size)
  clear hbc hB_6 HBX_6 HL
  have e0 := HBX_18.out.at_ 0
  have e1 := HBX_18.out.at_ 1
  simp only [List.getElem?_toArray] at e0 e1
  go_wp2_with fail
  refine (HSE.out _ (by exact HI.out.below hB_18)).mono ?_
  rintro e w_19 ⟨rfl, hb_19⟩
  have HBX_20 := hide (HBX_18.out.below hb_19)
  have HL_20 := hide (HL_18.out.below hb_19)
  have HAR_20 := hide (HAR.out.below hb_19)
  have hB_20 := hB_18.trans (hb_19.mono hB_18.size)
  clear hb_19 hB_18 HBX_18 HL_18 HAR
  clear HSE e0 e1
  have e0 := HBX_20.out.at_ 0
  have e1 := HBX_20.out.at_ 1
  simp only [List.getElem?_toArray] at e0 e1
  go_upto_if 47 with fail
  go_cut [12] (fun u wx => (∃ P p, u = .slice P N p ∧ NumsAt wx 0 P N Y) ∧ Below w_19.heap.size w_19 wx)
  case first =>
    by_cases hV : V = 0
    · subst hV
      have hN : n * (8 + g.toNat) = N := HN.out
      have HSS := hide (HSR.out w_19 (by first | rfl | trivial) (by exact HI.out.below hB_20))
      rw [hN] at HSS
      clear HSR HN hN
      go_wp2_with fail
      refine HSS.out.mono ?_
      rintro e wq ⟨v, rfl, ho, hb⟩
      obtain ⟨P, p, rfl, -, hP⟩ := ownNums_form ho
      have HP := hide (hP.weak (Nat.zero_le _))
      clear ho hP e0 e1
      go_wp2_with fail
      go_meet
      case rel => exact ⟨⟨P, p, rfl, HP.out⟩, hb⟩
    · have t1 : (V == 0) = false := by simpa using hV
      have hN : 0 = N := by rw [← HN.out, if_neg hV]
      subst hN
      clear HSR HN hV
      go_wp2_with fail
      go_meet
      case rel => exact ⟨⟨none, 0, rfl, fun i hi => absurd hi (Nat.not_lt_zero i)⟩, Below.refl _ _⟩
  case rest =>
  obtain ⟨⟨P, p, rfl, hP⟩, hbc⟩ := hcut
  obtain ⟨wR, rfl⟩ : ∃ x : World, x = wc := ⟨_, rfl⟩
  have HP := hide hP
  clear hP HSR HN e0 e1
  have HBX_21 := hide (HBX_20.out.below hbc)
  have HL_21 := hide (HL_20.out.below hbc)
  have HAR_21 := hide (HAR_20.out.below hbc)
  have hB_21 := hB_20.trans (hbc.mono hB_20.size)
  clear hbc hB_20 HBX_20 HL_20 HAR_20
  have HSS := hide (HSA.out _ x3 _ p wR HL_21.out HP.out)
  have t1 : (V != V) = false := by simp
  clear HSA
  go_upto_region 13 with (go_at_call 30; refine HSS.out.mono ?_; rintro e wS ⟨rfl, hbS⟩)
  have HBX_22 := hide (HBX_21.out.below hbS)
  have HAR_22 := hide (HAR_21.out.below hbS)
  have hB_22 := hB_21.trans (hbS.mono hB_21.size)
  clear hbS hB_21 HBX_21 HAR_21
  clear HSS HP
  go_upto_if 64 with (go_at_call 31; refine (HMS.out _ (by exact HJ.out.below hB_22)).mono ?_; rintro e wT ⟨rfl, hbT⟩)
  have HBX_23 := hide (HBX_22.out.below hbT)
  have HAR_23 := hide (HAR_22.out.below hbT)
  have hB_23 := hB_22.trans (hbT.mono hB_22.size)
  clear hbT hB_22 HBX_22 HAR_22
  clear HMS
  have e0 := HBX_23.out.at_ 0
  have e1 := HBX_23.out.at_ 1
  simp only [List.getElem?_toArray] at e0 e1
  go_cut [11] (fun u wx => u = .int .i64 E ∧ wx = wT)
  case first =>
    by_cases hS : S = 0
    · subst hS
      have hE : U = E := HTW.out
      clear HSB HR1 HTW
      go_wp2_with (go_at_call 32; refine (HGU.out _).mono ?_; rintro e w' ⟨rfl, rfl⟩)
      go_meet
      case rel => exact ⟨by first | rfl | rw [hE], rfl⟩
    · have t1 : (S == 0) = false := by simpa using hS
      have hE : S = E := by rw [← HTW.out, if_neg hS]
      clear HSB HR1 HTW hS
      go_wp2_with fail
      go_meet
      case rel => exact ⟨by first | rfl | rw [hE], rfl⟩
  case rest =>
  obtain ⟨rfl, hw⟩ := hcut
  have hw := hw.symm
  subst hw
  clear HTW HGU e0 e1
  obtain ⟨b13, hb13⟩ : ∃ z, wT.heap.size = z := ⟨_, rfl⟩
  go_upto_region 17 with (refine wpList_allocTo rfl (some 13) rfl (.pointer (some ⟨b13, 0, none⟩)) (.cells (arr8 fun _ => Num.zero) 27) (by rw [← hb13]; kernel_rfl) ?_)
  obtain ⟨wU, hwU⟩ : ∃ q : World, q = wT.alloc (.cells (arr8 fun _ => Num.zero) 27) := ⟨_, rfl⟩
  rw [← hwU]
  have HZU := hide (show ArrNums wU b13 (fun _ => Num.zero) by rw [hwU]; exact arrNums_alloc _ _ _ hb13.symm)
  have hbU : Below wT.heap.size wT wU := by rw [hwU]; exact (Below.refl _ _).alloc (Nat.le_refl _) _
  have hbb : wT.heap.size ≤ b13 := by omega
  clear hwU hb13
  have e0 := (HBX_23.out.below hbU).at_ 0
  have e1 := (HBX_23.out.below hbU).at_ 1
  simp only [List.getElem?_toArray] at e0 e1
  go_upto_if 69 with fail
  go_cut [11] (fun u wx => u = .int .i64 R ∧ ArrNums wx b13 G ∧ Below wT.heap.size wT wx)
  case first =>
    by_cases hE : E = 0
    · subst hE
      have HSS := hide (HSB.out wU (by first | rfl | trivial) (by exact HJ.out.below (hB_23.trans (hbU.mono hB_23.size))))
      clear HSB HR1
      go_wp2_with fail
      refine HSS.out.mono ?_
      rintro e wq ⟨rfl, hb⟩
      have HZQ := hide (HZU.out.below hb)
      clear e0 e1
      go_wp2_with (refine wpList_store8 rfl (.tmp 13) (.tmp 77) rfl b13 (fun _ => Num.zero) G rfl rfl HZQ.out ?_; intro W8 r8 o8)
      go_meet
      case rel => exact ⟨rfl, r8, (hbU.trans (hb.mono hbU.size)).trans (o8.to_below hbb (by have := hbU.size; have := hb.size; omega))⟩
    · have t1 : (E == 0) = false := by simpa using hE
      have hR := HR1.out hE
      have HGz := hide (show G = fun _ => Num.zero by rw [HG.out]; funext j; rw [hR, if_neg hE])
      have HR := hide hR
      clear HSB HR1 hE hR
      go_wp2_with fail
      go_meet
      case rel => exact ⟨by rw [HR.out], by rw [HGz.out]; exact HZU.out, hbU⟩
  case rest =>
  obtain ⟨rfl, hG2, hbc⟩ := hcut
  obtain ⟨wV, rfl⟩ : ∃ x : World, x = wc := ⟨_, rfl⟩
  have HG2 := hide hG2
  clear hG2 HSB HR1 e0 e1 hbU HZU hbb
  have HBX_24 := hide (HBX_23.out.below hbc)
  have HAR_24 := hide (HAR_23.out.below hbc)
  have hB_24 := hB_23.trans (hbc.mono hB_23.size)
  clear hbc hB_23 HBX_23 HAR_23
  have t9 : (R == R) = true := by simp
  have hq8 := equal8_same G wV
  go_wp2_with (first | (refine wpList_load8G rfl (.tmp 9) rfl b9 G rfl HAR_24.out ?_) | (refine wpList_load8G rfl (.tmp 13) rfl b13 G rfl HG2.out ?_))
  go_ret
  exact ⟨rfl, hB_24⟩
end Go.Proofs.Ytfemghbjngemlaa
