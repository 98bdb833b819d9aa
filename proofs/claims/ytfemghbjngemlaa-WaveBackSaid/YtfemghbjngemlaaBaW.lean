/- Lemmas: F4, F5. -/
import Derived.Deep.DeepCutAuto
import Derived.Laws.MakeOwn
import Derived.Laws.OwnMore
import Derived.OwnWalk
import Derived.Test.YtfemghbjngemlaaBk07
import Derived.Test.YtfemghbjngemlaaBk08
import Derived.Test.YtfemghbjngemlaaBk21
import Derived.Test.YtfemghbjngemlaaBk23
import Derived.Test.YtfemghbjngemlaaBk25
set_option linter.unusedVariables false
set_option linter.unusedSimpArgs false
/- Four of the code; the mathematics of WaveBack. -/
namespace Go.Proofs.Ytfemghbjngemlaa
open Go.RowKit Go.Great
set_option maxHeartbeats 4000000 in
set_option maxRecDepth 100000 in
theorem fourError_any (X : Nat → Gau) (w : World) :
    Calls Try.prog 58 #[.agg (arrG4 X)] w fun e w' => e = .returned (.int .i64 (gausE 1000000000 X 4)) ∧ Below w.heap.size w w' := by
  have HIE := hide (fun A b W (h : GausAt W 0 A 4 X) (hc : W.cell? ⟨b, 0, none⟩ = some (.int .i64 1000000000)) => itemsError_gaus 1000000000 A 4 4 b X W (by decide) h hc (by decide))
  have HGW := hide (fun W => gaussWithin_any 1000000000 W)
  generalize gausE 1000000000 X 4 = E at *
  go_enter Try.func58, Try.ntmps58
  go_upto_region 1 with (refine wpList_boxTo rfl 45 (.tmp 0) rfl _ rfl w.heap.size rfl (arrG4 X) rfl ?_; obtain ⟨W0, hW0⟩ : ∃ q : World, w.alloc (.cells (arrG4 X) 45) = q := ⟨_, rfl⟩; rw [hW0])
  have x0 : ArrG4 W0 w.heap.size X := by rw [← hW0]; exact ArrG4.at_alloc w _ _ rfl
  have hB0 : Below w.heap.size w W0 := by rw [← hW0]; (repeat (first | (with_reducible exact Below.refl _ _) | (with_reducible refine Go.below_drewN ?_ _) | (with_reducible refine Below.drew ?_) | (with_reducible refine Below.alloc ?_ (by first | exact Nat.le_refl _ | (simp; done) | (simp; omega) | omega) _) | (with_reducible refine Below.setCell ?_ (by first | exact Nat.le_refl _ | (simp; done) | (simp; omega) | omega) _)))
  clear hW0
  refine wp_region_held_drew (S := fun _ => True) (by kernel_rfl) trivial (fun hHeld => ?_)
  refine wpAnyH_take (i := 0) (oi := ⟨some 3, _, _, _, _, _⟩) (v := ?_) rfl (by kernel_rfl) (by kernel_rfl) (by kernel_rfl) (fun _ _ _ h => h) (Or.inl ⟨by rfl, ?_⟩) (by assumption) ?_
  rotate_left
  · (intro w' hSw; (try dsimp only at hSw); go_simp <;> (with_reducible rfl))
  try simp only [Act.put, List.setIfInBounds_toArray, List.set_cons_zero, List.set_cons_succ]
  refine wpAnyH_ready (rs := [1]) (by kernel_rfl) (by simp) ?_
  refine AllReadyH.cons (o := ⟨some 4, _, _, _, _, _⟩) rfl (fun K' hK => ?_) AllReadyH.nil
  go_simp
  go_at_call 85
  refine (HGW.out _).mono ?_
  rintro e w1 ⟨rfl, hw1⟩
  have hc1 : Below W0.heap.size W0 w1 := by rw [← hw1]; exact below_of_drew ((Below.refl _ _).alloc (Nat.le_refl _) _)
  have hcl : w1.cell? ⟨W0.heap.size, 0, none⟩ = some (.int .i64 1000000000) := by rw [← hw1]; exact (Box.made rfl : Box _ W0.heap.size 3 #[.int .i64 1000000000]).at_ 0
  have x1 := x0.below hc1
  have hB1 := hB0.trans (hc1.mono hB0.size)
  clear hw1 hc1
  go_wp2_with fail
  refine hK.out _ _ trivial (fun hHeld => ?_)
  clear hK K'
  try simp only [Act.put, List.setIfInBounds_toArray, List.set_cons_zero, List.set_cons_succ]
  refine wpAnyH_ready (rs := [2]) (by kernel_rfl) (by simp) ?_
  refine AllReadyH.cons (o := ⟨some 5, _, _, _, _, _⟩) rfl (fun K' hK => ?_) AllReadyH.nil
  go_simp
  go_at_call 84
  refine (HIE.out _ _ _ (by have h := x1.slice; exact h) (by have h := hcl; exact h)).mono ?_
  rintro e w2 ⟨rfl, hb2'⟩
  have hb2 : Below w1.heap.size w1 w2 := by first | exact hb2' | exact below_of_drew hb2' | exact below_of_drew (below_of_drew hb2')
  have hB2 := hB1.trans (hb2.mono hB1.size)
  go_wp2_with fail
  refine hK.out _ _ trivial (fun hHeld => ?_)
  clear hK K'
  try simp only [Act.put, List.setIfInBounds_toArray, List.set_cons_zero, List.set_cons_succ]
  refine wpAnyH_take (i := 3) (oi := ⟨some 2, _, _, _, _, _⟩) (v := ?_) rfl (by kernel_rfl) (by kernel_rfl) (by kernel_rfl) (fun _ _ _ h => h) (Or.inl ⟨by rfl, ?_⟩) (by assumption) ?_
  rotate_left
  · (intro w' hSw; (try dsimp only at hSw); go_simp <;> (with_reducible rfl))
  try simp only [Act.put, List.setIfInBounds_toArray, List.set_cons_zero, List.set_cons_succ]
  refine wpAnyH_done (by kernel_rfl) ?_ _
  go_wp2_with fail
  go_ret
  exact ⟨rfl, hB2⟩
set_option maxHeartbeats 4000000 in
set_option maxRecDepth 100000 in
theorem Four_right (X : Nat → Gau) (hE : gausE 1000000000 X 4 = 0) (w : World) :
    Calls Try.prog 22 #[.agg (arrG4 X)] w fun e w' => e = .returned (.tuple #[.agg (arrG4 (fF X 1)), .int .i64 0]) ∧ Below w.heap.size w w' := by
  have HFE := hide (fun W => (show Calls Try.prog 58 #[.agg (arrG4 X)] W fun e w' => e = .returned (.int .i64 0) ∧ Below W.heap.size W w' from by rw [← hE]; exact fourError_any X W))
  have HFO := hide (fun W => foursOf_any X 1 (by decide) (gausE_within hE) W)
  clear hE
  obtain ⟨Y, hY⟩ : ∃ z, fF X 1 = z := ⟨_, rfl⟩
  rw [hY] at HFO ⊢
  clear hY
  go_enter Try.func22, Try.ntmps22
  go_upto_region 1 with (first
    | (refine wpList_boxTo rfl 45 (.tmp 0) rfl _ rfl w.heap.size rfl (arrG4 X) rfl ?_; obtain ⟨W0, hW0⟩ : ∃ q : World, w.alloc (.cells (arrG4 X) 45) = q := ⟨_, rfl⟩; rw [hW0])
    | (refine wpList_allocTo rfl (some 2) rfl (.pointer (some ⟨W0.heap.size, 0, none⟩)) (.cells (arrG4 fun _ => Gau.zero) 45) (by kernel_rfl) ?_))
  have x0 : ArrG4 W0 w.heap.size X := by rw [← hW0]; exact ArrG4.at_alloc w _ _ rfl
  have hB0 : Below w.heap.size w W0 := by rw [← hW0]; (repeat (first | (with_reducible exact Below.refl _ _) | (with_reducible refine Go.below_drewN ?_ _) | (with_reducible refine Below.drew ?_) | (with_reducible refine Below.alloc ?_ (by first | exact Nat.le_refl _ | (simp; done) | (simp; omega) | omega) _) | (with_reducible refine Below.setCell ?_ (by first | exact Nat.le_refl _ | (simp; done) | (simp; omega) | omega) _)))
  have hs0 : w.heap.size < W0.heap.size := by rw [← hW0]; simp
  clear hW0
  obtain ⟨b1, hb1⟩ : ∃ g, W0.heap.size = g := ⟨_, rfl⟩
  obtain ⟨W1, hW1⟩ : ∃ q : World, q = W0.alloc (.cells (arrG4 fun _ => Gau.zero) 45) := ⟨_, rfl⟩
  rw [← hW1]
  have HZ := hide (show ArrG4 W1 b1 (fun _ => Gau.zero) by rw [hW1]; exact ArrG4.at_alloc W0 _ _ hb1.symm)
  have HX := hide (show ArrG4 W1 w.heap.size X by rw [hW1]; exact x0.alloc _)
  have hB1 : Below w.heap.size w W1 := by rw [hW1]; exact hB0.alloc hB0.size _
  have h01' : w.heap.size ≤ b1 := by omega
  simp only [hb1]
  clear hW1 x0 hB0 hs0 hb1
  go_wp2_with (refine wpList_loadG4 rfl (.tmp 1) rfl w.heap.size X rfl HX.out ?_)
  refine (HFE.out _).mono ?_
  rintro e w2 ⟨rfl, hb2⟩
  have HX2 := hide (HX.out.below hb2)
  have HZ2 := hide (HZ.out.below hb2)
  have hB2 := hB1.trans (hb2.mono hB1.size)
  clear hb2 hB1 HX HZ HFE
  go_wp2_with (refine wpList_loadG4 rfl (.tmp 1) rfl w.heap.size X rfl HX2.out ?_)
  refine (HFO.out _).mono ?_
  rintro e w3 ⟨rfl, hb3⟩
  have HZ3 := hide (HZ2.out.below hb3)
  have hB3 := hB2.trans (hb3.mono hB2.size)
  go_wp2_with (refine wpList_storeG4 rfl (.tmp 2) (.tmp 12) rfl b1 (fun _ => Gau.zero) Y rfl rfl HZ3.out ?_; intro W9 r9 o9)
  refine bodyPost_ret (v := .tuple #[.agg (arrG4 Y), .int .i64 0]) (result2G4 rfl _ rfl rfl r9) rfl ⟨rfl, ?_⟩
  exact hB3.trans (o9.to_below h01' hB3.size)
theorem spectrum_back {F : Nat → Gau} {k : Nat} (hk : k < 8) : trnF (smpF F) k = ⟨8 * (F k).re, 0, 8 * (F k).im, 0⟩ := by
  have h := dft_idft (fun m => gN (F m).re (F m).im) k hk
  have e : Num.times 8 (gN (F k).re (F k).im) = ⟨8 * (F k).re, 0, 8 * (F k).im, 0⟩ := by apply Num.same <;> simp [Num.times, gN]
  rw [← e, ← h]
  unfold trnF dft
  exact sumF_congr fun n _ => by rw [Int.neg_mul]; rfl
theorem spAll_all {Y : Nat → Num} : ∀ {n : Nat}, (∀ j, j < n → okS (Y j) = true) → spAll Y n = true
  | 0, _ => rfl
  | n + 1, h => by
    show (spAll Y n && okS (Y n)) = true
    rw [spAll_all fun j hj => h j (by omega), h n (Nat.lt_succ_self n)]
    rfl
theorem smpF_within {F : Nat → Gau} (hF : ∀ m, m < 8 → (F m).Within 10000) (n : Nat) : (smpF F n).Within 80000 := (sumF_within fun m hm => tz_within (gN_within (hF m hm)) _).more (by decide)
theorem back_right {F : Nat → Gau} (hF : ∀ m, m < 8 → (F m).Within 10000) : spcR (smpF F) = 0 ∧ ∀ k, k < 8 → spG (trnF (smpF F) k) = F k := by
  have hE : numsE 1000000000 (smpF F) 8 = 0 := numsE_all2 fun j _ => (smpF_within hF j).more (by decide)
  have hA : spAll (trnF (smpF F)) 8 = true := spAll_all fun j hj => by
    rw [spectrum_back hj]
    simp [okS, Int.mul_tmod_right]
  constructor
  · unfold spcR
    rw [if_pos hE, if_pos hA]
  · intro k hk
    rw [spectrum_back hk]
    unfold spG
    simp only [Int.mul_tdiv_cancel_left _ (show (8 : Int) ≠ 0 by decide)]
theorem gN_sq (r i : Int) : (gN r i).sqP = r * r + i * i ∧ (gN r i).sqQ = 0 := by
  constructor <;> (simp only [gN, Num.sqP, Num.sqQ]; grind)
/-- No energy is lost. -/
theorem back_energy (F : Nat → Gau) : sumI (fun n => (smpF F n).sqP) 8 = 8 * sumI (fun k => (F k).re * (F k).re + (F k).im * (F k).im) 8 ∧ sumI (fun n => (smpF F n).sqQ) 8 = 0 := by
  have h := parseval (fun m => gN (F m).re (F m).im)
  have e1 : (fun k => (gN (F k).re (F k).im).sqP) = fun k => (F k).re * (F k).re + (F k).im * (F k).im := funext fun k => (gN_sq _ _).1
  have e2 : (fun k => (gN (F k).re (F k).im).sqQ) = fun _ => (0 : Int) := funext fun k => (gN_sq _ _).2
  rw [e1, e2] at h
  exact ⟨h.1, h.2⟩
theorem sq_bounds {x : Num} (h : x.Within 80000) : 0 ≤ x.sqP ∧ x.sqP ≤ 100000000000 ∧ -100000000000 ≤ x.sqQ ∧ x.sqQ ≤ 100000000000 := by
  have hp := sqP_nonneg x
  have hb : x.sqP ≤ 25600000000 := by
    obtain ⟨a, b, c, d⟩ := h
    have h1 := sq_le a
    have h2 := sq_le b
    have h3 := sq_le c
    have h4 := sq_le d
    simp only [Num.sqP]
    omega
  have hq := sq_norm x
  refine ⟨hp, by omega, ?_, ?_⟩
  · by_cases hn : -100000000000 ≤ x.sqQ
    · exact hn
    · exfalso
      have h1 : 100000000000 * 100000000000 ≤ x.sqQ * x.sqQ := by
        have := Int.mul_le_mul (show (100000000000 : Int) ≤ -x.sqQ by omega) (show (100000000000 : Int) ≤ -x.sqQ by omega) (by decide) (by omega)
        rwa [Int.neg_mul_neg] at this
      have h2 := (sq_le (M := 25600000000) (a := x.sqP) ⟨by omega, hb⟩).2
      omega
  · by_cases hn : x.sqQ ≤ 100000000000
    · exact hn
    · exfalso
      have h1 : 100000000000 * 100000000000 ≤ x.sqQ * x.sqQ := Int.mul_le_mul (show (100000000000 : Int) ≤ x.sqQ by omega) (show (100000000000 : Int) ≤ x.sqQ by omega) (by decide) (by omega)
      have h2 := (sq_le (M := 25600000000) (a := x.sqP) ⟨by omega, hb⟩).2
      omega
/-- The error of four points becomes four times as great. -/
theorem four_error (y z : Nat → Gau) : errS (fF y 1) (fF z 1) 4 = 4 * errS y z 4 := by
  have f : ∀ x : Nat → Gau, fF x 1 0 = ⟨(x 0).re + (x 1).re + (x 2).re + (x 3).re, (x 0).im + (x 1).im + (x 2).im + (x 3).im⟩ ∧ fF x 1 1 = ⟨(x 0).re - (x 1).im - (x 2).re + (x 3).im, (x 0).im + (x 1).re - (x 2).im - (x 3).re⟩ ∧ fF x 1 2 = ⟨(x 0).re - (x 1).re + (x 2).re - (x 3).re, (x 0).im - (x 1).im + (x 2).im - (x 3).im⟩ ∧ fF x 1 3 = ⟨(x 0).re + (x 1).im - (x 2).re - (x 3).im, (x 0).im - (x 1).re - (x 2).im + (x 3).re⟩ := fun x => by
    refine ⟨?_, ?_, ?_, ?_⟩ <;> (apply Gau.same <;> (simp [fF, fTo, itm, cosI, sinI, Gau.zero]; try omega))
  obtain ⟨y0, y1, y2, y3⟩ := f y
  obtain ⟨z0, z1, z2, z3⟩ := f z
  simp only [errS, sqG, y0, y1, y2, y3, z0, z1, z2, z3]
  grind
theorem fF_within {X : Nat → Gau} (hX : ∀ n, n < 4 → (X n).Within 2500) (k : Nat) : (fF X 1 k).Within 10000 := (fTo_within (n := 4) fun i hi => hX i hi).more (by decide)
end Go.Proofs.Ytfemghbjngemlaa
/- The walk of WaveBack. -/
namespace Go.Proofs.Ytfemghbjngemlaa
open Go.RowKit Go.Great
set_option maxRecDepth 100000 in
theorem run_append_gausG (w : World) (ty : TypeId) (base lo : Nat) (v : Value) (n : Nat) (F : Nat → Gau) (hown : OwnGaus w base v n F)
    (A : Option Addr) (m c : Nat) (G : Nat → Gau) (hr : GausAt w lo A m G) (hnm : n + m ≤ 100000000) (hbase : base ≤ w.heap.size) :
    ∃ v' w', (Builtin.append_ #[36, 36] ty #[v, .slice A m c]).run Try.prog w = .ok v' w' ∧ OwnGaus w' base v' (n + m) (catG n F G) ∧ Below base w w' ∧ w.grownBy w' v.ownBlock ∧ (v'.ownBlock = v.ownBlock ∨ v'.ownBlock = some w.heap.size) := by
  obtain ⟨i0, hi, hz0, hz1, hz2⟩ := info_parts gauInfo
  cases A with
  | none =>
    have hm : m = 0 := by
      rcases Nat.eq_zero_or_pos m with h0 | h0
      · exact h0
      · obtain ⟨b, o, e, -⟩ := hr 0 h0
        cases e
    subst hm
    have hrun : (Builtin.append_ #[36, 36] ty #[v, .slice none 0 c]).run Try.prog w = .ok v w := by
      rcases hown.2 with ⟨rfl, -⟩ | ⟨g, cap, cur, rfl, -, -, hnc, -⟩
      · simp [Builtin.append_, run_underlying Try.underlying36, sizeOf, typeInfo, hi, Builtin.lenOf, Builtin.firstCells]
      · simp [Builtin.append_, run_underlying Try.underlying36, sizeOf, typeInfo, hi, Builtin.lenOf, Builtin.firstCells, hnc, storeCells]
    exact ⟨v, w, hrun, OwnGaus.congr (F := F) hown fun j hj => by unfold catG; rw [if_pos (show j < n by omega)], Below.refl _ _, ⟨rfl, rfl, rfl, Nat.le_refl _, fun _ _ _ => rfl⟩, .inl rfl⟩
  | some ad =>
    obtain ⟨v', w', hrun, hown', hg, -, hob⟩ := run_append_own_at (P := Try.prog) w base 36 ty 23 i0 (.agg #[.int .i64 0, .int .i64 0]) 2 16 Try.underlying36 hi hz0 hz1 hz2 rfl (by decide) v n _ hown ad m c (gauVals m G) (by rw [gauVals_len])
      (fun j u hu => by
        rw [gauVals_get] at hu
        split at hu
        · rename_i hj
          obtain ⟨b, o, e, hc⟩ := hr.part hj
          injection e with e
          subst e
          injection hu with hu
          subst hu
          rw [Addr.add_lit]
          exact hc
        · cases hu)
      (fun u hu => by
        obtain ⟨j, -, rfl⟩ := List.mem_map.1 hu
        rfl) (by unfold maxLen; omega) (by omega) hbase
    rw [gauVals_cat] at hown'
    exact ⟨v', w', hrun, hown', (Below.refl _ _).grown hg hbase (fun k hk => (World.ownsRow.lt hown k hk).1), hg, hob⟩
theorem wp_append_gausG {o : Oper} {a : Act} {K : Act → World → Prop} {Q : Exit → Act → World → Prop} (w : World) (s x : Operand)
    (ho : o.op = .call { callee := .builtin .append, args := #[s, x], argTypes := #[36, 36] })
    (base lo : Nat) (v : Value) (n : Nat) (F : Nat → Gau) (hs : a.eval s = v) (hown : OwnGaus w base v n F)
    (A : Option Addr) (m c : Nat) (G : Nat → Gau) (hx : a.eval x = .slice A m c) (hr : GausAt w lo A m G) (hnm : n + m ≤ 100000000) (hbase : base ≤ w.heap.size)
    (h : ∀ v' w', OwnGaus w' base v' (n + m) (catG n F G) → Below base w w' → w.grownBy w' v.ownBlock → (v'.ownBlock = v.ownBlock ∨ v'.ownBlock = some w.heap.size) → K (a.put o.dst v') w') : o.wp Try.prog a w K Q := by
  obtain ⟨v', w', hrun, h1, h2, h3, h4⟩ := run_append_gausG w o.type base lo v n F hown A m c G hr hnm hbase
  unfold Oper.wp execOp
  simp only [ho, resolve, invoke, builtin, Sem.run_bind, Sem.run_pure, Result.andThen_ok, List.map_toArray, List.map_cons, List.map_nil, hs, hx, hrun]
  exact h v' w' h1 h2 h3 h4
theorem stepG_append_gaus {ops : Array Oper} {o : Oper} {a : Act} {K : Act → World → Prop} {Q : Exit → Act → World → Prop} {E : Prop} (w : World) (hgd : o.guard = none) (s x : Operand)
    (ho : o.op = .call { callee := .builtin .append, args := #[s, x], argTypes := #[36, 36] })
    (base lo : Nat) (v : Value) (n : Nat) (F : Nat → Gau) (hs : a.eval s = v) (hown : OwnGaus w base v n F)
    (A : Option Addr) (m c : Nat) (G : Nat → Gau) (hx : a.eval x = .slice A m c) (hr : GausAt w lo A m G) (hnm : n + m ≤ 100000000) (hbase : base ≤ w.heap.size)
    (h : ∀ v' w', OwnGaus w' base v' (n + m) (catG n F G) → Below base w w' → w.grownBy w' v.ownBlock → (v'.ownBlock = v.ownBlock ∨ v'.ownBlock = some w.heap.size) → K (a.put o.dst v') w') :
    if Region.wanted o (yielded ops a.tmps) = true then Oper.wp Try.prog o a w K Q else E := by
  have hw : Region.wanted o (yielded ops a.tmps) = true := by simp [Region.wanted, hgd]
  rw [if_pos hw]
  exact wp_append_gausG w s x ho base lo v n F hs hown A m c G hx hr hnm hbase h
theorem below_from_drew {B : Nat} {w w1 : World} (h : Below B w.drew w1) : Below B w w1 := ⟨h.os, h.tape, h.output, h.size, h.block⟩
theorem grown_from_drew {r : Option Nat} {w w1 : World} (h : w.drew.grownBy w1 r) : w.grownBy w1 r := ⟨h.os, h.tape, h.output, h.size, h.block⟩
theorem errE_four {F G : Nat → Gau} (hF : ∀ j, j < 4 → (F j).Within 10000) (hG : ∀ j, j < 4 → (G j).Within 10000) : errE 4 4 F G = 0 := by
  have g : ∀ H : Nat → Gau, (∀ j, j < 4 → (H j).Within 10000) → gausE 10000 H 4 = 0 := fun H h => by
    unfold gausE
    have e : ∀ n, n ≤ 4 → badE (fun j => (H j).err 10000) n = 0 := fun n => by
      induction n with
      | zero => intro _; rfl
      | succ n ih =>
        intro hn
        rw [badE_succ (ih (by omega))]
        show unI ((H n).isIn 10000) 2 = 0
        rw [Gau.isIn_iff.2 (h n (by omega))]
        rfl
    exact e 4 (by decide)
  unfold errE
  rw [g F hF, g G hG]
  decide
theorem four_small {F : Nat → Gau} (h : ∀ j, j < 4 → (F j).Within 2500) : gausE 1000000000 F 4 = 0 := by
  unfold gausE
  have e : ∀ n, n ≤ 4 → badE (fun j => (F j).err 1000000000) n = 0 := fun n => by
    induction n with
    | zero => intro _; rfl
    | succ n ih =>
      intro hn
      rw [badE_succ (ih (by omega))]
      show unI ((F n).isIn 1000000000) 2 = 0
      rw [Gau.isIn_iff.2 ((h n (by omega)).more (by decide))]
      rfl
  exact e 4 (by decide)
theorem errS_bound {F G : Nat → Gau} (hF : ∀ j, j < 4 → (F j).Within 10000) (hG : ∀ j, j < 4 → (G j).Within 10000) : 0 ≤ errS F G 4 ∧ errS F G 4 ≤ 10000000000 := by
  have h : ∀ j, j < 4 → 0 ≤ sqG (F j) (G j) ∧ sqG (F j) (G j) ≤ 800000000 := fun j hj => by
    have a := hF j hj
    have b := hG j hj
    have h1 := sq_le (M := 20000) (a := (F j).re - (G j).re) (by have := a.re; have := b.re; omega)
    have h2 := sq_le (M := 20000) (a := (F j).im - (G j).im) (by have := a.im; have := b.im; omega)
    unfold sqG
    omega
  have h0 := h 0 (by decide)
  have h1 := h 1 (by decide)
  have h2 := h 2 (by decide)
  have h3 := h 3 (by decide)
  simp only [errS]
  omega
theorem sumI_bound {p : Nat → Int} {M : Int} (h : ∀ j, j < 8 → -M ≤ p j ∧ p j ≤ M) : ∀ n, n ≤ 8 → -(n * M) ≤ sumI p n ∧ sumI p n ≤ n * M
  | 0, _ => by simp [sumI]
  | n + 1, hn => by
    have ih := sumI_bound h n (by omega)
    have h1 := h n (by omega)
    have e : (((n + 1 : Nat)) : Int) * M = n * M + M := by rw [Int.natCast_succ, Int.add_mul, Int.one_mul]
    show -(((n + 1 : Nat) : Int) * M) ≤ sumI p n + p n ∧ sumI p n + p n ≤ ((n + 1 : Nat) : Int) * M
    rw [e]
    omega
set_option maxHeartbeats 16000000 in
set_option maxRecDepth 100000 in
theorem waveBack_walk (F y z : Nat → Gau) (w : World) :
    Calls Try.prog 4 #[.agg (arrG8 F), .agg (arrG4 y), .agg (arrG4 z)] w fun e w' => e = .returned (.bool true) ∧ Below w.heap.size w w' := by
  have HAW := hide (fun W => awake_any W)
  have HEE := hide (fun A W (h : GausAt W 0 A 8 F) => entriesErrR_any A 8 8 F W (by decide) h)
  by_cases hE : gausE 10000 F 8 = 0
  case neg =>
    generalize gausE 10000 F 8 = E at *
    have t1 : (E != 0) = true := by simpa using hE
    clear hE
    go_enter Try.func4, Try.ntmps4
    go_upto_region 1 with (first
      | (refine wpList_boxTo rfl 24 (.tmp 0) rfl _ rfl w.heap.size rfl (arrG8 F) rfl ?_; obtain ⟨W0, hW0⟩ : ∃ q : World, w.alloc (.cells (arrG8 F) 24) = q := ⟨_, rfl⟩; rw [hW0])
      | (refine wpList_boxTo rfl 45 (.tmp 1) rfl _ rfl W0.heap.size rfl (arrG4 y) rfl ?_; obtain ⟨W1, hW1⟩ : ∃ q : World, W0.alloc (.cells (arrG4 y) 45) = q := ⟨_, rfl⟩; rw [hW1])
      | (refine wpList_boxTo rfl 45 (.tmp 2) rfl _ rfl W1.heap.size rfl (arrG4 z) rfl ?_; obtain ⟨W2, hW2⟩ : ∃ q : World, W1.alloc (.cells (arrG4 z) 45) = q := ⟨_, rfl⟩; rw [hW2]))
    have f0 : ArrG8 W0 w.heap.size F := by rw [← hW0]; exact ArrG8.at_alloc w _ _ rfl
    have hB0 : Below w.heap.size w W0 := by rw [← hW0]; (repeat (first | (with_reducible exact Below.refl _ _) | (with_reducible refine Go.below_drewN ?_ _) | (with_reducible refine Below.drew ?_) | (with_reducible refine Below.alloc ?_ (by first | exact Nat.le_refl _ | (simp; done) | (simp; omega) | omega) _) | (with_reducible refine Below.setCell ?_ (by first | exact Nat.le_refl _ | (simp; done) | (simp; omega) | omega) _)))
    have f1 : ArrG8 W1 w.heap.size F := by rw [← hW1]; exact f0.alloc _
    obtain ⟨yB, hyB⟩ : ∃ q, W0.heap.size = q := ⟨_, rfl⟩
    have y1 : ArrG4 W1 yB y := by rw [← hW1]; exact ArrG4.at_alloc W0 _ _ hyB.symm
    have hB1 : Below w.heap.size w W1 := by rw [← hW1]; exact hB0.alloc hB0.size _
    obtain ⟨zB, hzB⟩ : ∃ q, W1.heap.size = q := ⟨_, rfl⟩
    have HF := hide (show ArrG8 W2 w.heap.size F by rw [← hW2]; exact f1.alloc _)
    have HY := hide (show ArrG4 W2 yB y by rw [← hW2]; exact y1.alloc _)
    have HZ := hide (show ArrG4 W2 zB z by rw [← hW2]; exact ArrG4.at_alloc W1 _ _ hzB.symm)
    have hB2 : Below w.heap.size w W2 := by rw [← hW2]; exact hB1.alloc hB1.size _
    try simp only [hyB, hzB]
    clear hW0 hW1 hW2 f0 f1 y1 hB0 hB1 hyB hzB
    go_wp2_with fail
    refine (HAW.out _).mono ?_
    rintro e w_1 ⟨rfl, hb_1⟩
    have HF_2 := hide (HF.out.below hb_1)
    have HY_2 := hide (HY.out.below hb_1)
    have HZ_2 := hide (HZ.out.below hb_1)
    have hB_2 := hB2.trans (hb_1.mono hB2.size)
    clear hb_1 hB2 HF HY HZ
    clear HAW
    go_wp2_with (refine (HEE.out _ _ HF_2.out.slice).mono ?_; rintro e wE ⟨rfl, hbE⟩)
    go_ret
    exact ⟨rfl, hB_2.trans (hbE.mono hB_2.size)⟩
  case pos =>
  have hFW := gausE_within hE
  obtain ⟨hsp0, hspG⟩ := back_right hFW
  have hsum := back_energy F
  have HSA := hide (fun W => (show Calls Try.prog 9 #[.agg (arrG8 F)] W fun e w' => e = .returned (.tuple #[.agg (arr8 (smpF F)), .int .i64 0]) ∧ Below W.heap.size W w' from by have h := Samples_any F W; simp only [hE, if_true] at h; exact h))
  have HPA := hide (fun W => (show Calls Try.prog 11 #[.agg (arr8 (smpF F))] W fun e w' => e = .returned (.tuple #[.agg (arrG8 F), .int .i64 0]) ∧ Below W.heap.size W w' from by
    have h := Spectrum_any (smpF F) W
    simp only [hsp0, if_true] at h
    rw [arrG8_congr hspG] at h
    exact h))
  have HSW := hide (fun n => smpF_within hFW n)
  obtain ⟨A, hA⟩ : ∃ q, smpF F = q := ⟨_, rfl⟩
  simp only [hA] at HSA HPA HSW hsum
  clear hA hsp0 hspG
  have HSQ := hide (fun n W => (show Calls Try.prog 18 #[.agg #[.int .i64 (A n).a, .int .i64 (A n).b, .int .i64 (A n).c, .int .i64 (A n).d]] W fun e w' => e = .returned (.tuple #[.agg #[.int .i64 (A n).sqP, .int .i64 (A n).sqQ], .int .i64 0]) ∧ Below W.heap.size W w' from by
    have h := SquareOf_any (A n) W
    have e : (A n).err 1000000 = 0 := by unfold Num.err; rw [Num.isIn_iff.2 ((HSW.out n).more (by decide))]; rfl
    unfold sqRP sqRQ at h
    simp only [e, if_true] at h
    exact h))
  have HSR := hide (fun n W => (show Calls Try.prog 19 #[.agg #[.int .i64 (A n).sqP, .int .i64 (A n).sqQ]] W fun e w' => e = .returned (.int .i64 0) ∧ Below W.heap.size W w' from by
    have h := squaresErrR_any (A n).sqP (A n).sqQ W
    obtain ⟨b1, b2, b3, b4⟩ := sq_bounds (HSW.out n)
    rw [withinB_iff.2 ⟨by omega, by omega⟩, withinB_iff.2 ⟨by omega, by omega⟩] at h
    exact h))
  have HGN := hide (fun n (hn : n < 8) W => gnorm_any (F n).re (F n).im W (by have := sq_le (hFW n hn).re; omega) (by have := sq_le (hFW n hn).im; omega))
  obtain ⟨pf, hpf⟩ : ∃ q : Nat → Int, (fun n => (A n).sqP) = q := ⟨_, rfl⟩
  obtain ⟨qf, hqf⟩ : ∃ q : Nat → Int, (fun n => (A n).sqQ) = q := ⟨_, rfl⟩
  obtain ⟨nf, hnf⟩ : ∃ q : Nat → Int, (fun k => (F k).re * (F k).re + (F k).im * (F k).im) = q := ⟨_, rfl⟩
  have hpn := fun n => congrFun hpf n
  have hqn := fun n => congrFun hqf n
  have hnn := fun n => congrFun hnf n
  try simp only at hpn hqn hnn
  simp only [hpn, hqn] at HSQ HSR
  simp only [hnn] at HGN
  rw [hpf, hqf, hnf] at hsum
  have HPB := hide (sumI_bound (p := pf) (M := 100000000000) fun j _ => by rw [← hpn]; have := sq_bounds (HSW.out j); omega)
  have HQB := hide (sumI_bound (p := qf) (M := 100000000000) fun j _ => by rw [← hqn]; have := sq_bounds (HSW.out j); omega)
  have HNB := hide (sumI_bound (p := nf) (M := 1000000000) fun j hj => by rw [← hnn]; have := sq_le (hFW j hj).re; have := sq_le (hFW j hj).im; omega)
  have HSUM := hide hsum
  simp only [hE] at HEE
  clear hE hFW hsum hpf hqf hnf hpn hqn hnn HSW
  have HIY := hide (fun j W => isEntryR_any (y j) 2500 W (by decide))
  have HIZ := hide (fun j W => isEntryR_any (z j) 2500 W (by decide))
  go_enter Try.func4, Try.ntmps4
  go_upto_region 1 with (first
    | (refine wpList_boxTo rfl 24 (.tmp 0) rfl _ rfl w.heap.size rfl (arrG8 F) rfl ?_; obtain ⟨W0, hW0⟩ : ∃ q : World, w.alloc (.cells (arrG8 F) 24) = q := ⟨_, rfl⟩; rw [hW0])
    | (refine wpList_boxTo rfl 45 (.tmp 1) rfl _ rfl W0.heap.size rfl (arrG4 y) rfl ?_; obtain ⟨W1, hW1⟩ : ∃ q : World, W0.alloc (.cells (arrG4 y) 45) = q := ⟨_, rfl⟩; rw [hW1])
    | (refine wpList_boxTo rfl 45 (.tmp 2) rfl _ rfl W1.heap.size rfl (arrG4 z) rfl ?_; obtain ⟨W2, hW2⟩ : ∃ q : World, W1.alloc (.cells (arrG4 z) 45) = q := ⟨_, rfl⟩; rw [hW2]))
  have f0 : ArrG8 W0 w.heap.size F := by rw [← hW0]; exact ArrG8.at_alloc w _ _ rfl
  have hB0 : Below w.heap.size w W0 := by rw [← hW0]; (repeat (first | (with_reducible exact Below.refl _ _) | (with_reducible refine Go.below_drewN ?_ _) | (with_reducible refine Below.drew ?_) | (with_reducible refine Below.alloc ?_ (by first | exact Nat.le_refl _ | (simp; done) | (simp; omega) | omega) _) | (with_reducible refine Below.setCell ?_ (by first | exact Nat.le_refl _ | (simp; done) | (simp; omega) | omega) _)))
  have f1 : ArrG8 W1 w.heap.size F := by rw [← hW1]; exact f0.alloc _
  obtain ⟨yB, hyB⟩ : ∃ q, W0.heap.size = q := ⟨_, rfl⟩
  have y1 : ArrG4 W1 yB y := by rw [← hW1]; exact ArrG4.at_alloc W0 _ _ hyB.symm
  have hB1 : Below w.heap.size w W1 := by rw [← hW1]; exact hB0.alloc hB0.size _
  obtain ⟨zB, hzB⟩ : ∃ q, W1.heap.size = q := ⟨_, rfl⟩
  have HF := hide (show ArrG8 W2 w.heap.size F by rw [← hW2]; exact f1.alloc _)
  have HY := hide (show ArrG4 W2 yB y by rw [← hW2]; exact y1.alloc _)
  have HZ := hide (show ArrG4 W2 zB z by rw [← hW2]; exact ArrG4.at_alloc W1 _ _ hzB.symm)
  have hB2 : Below w.heap.size w W2 := by rw [← hW2]; exact hB1.alloc hB1.size _
  try simp only [hyB, hzB]
  clear hW0 hW1 hW2 f0 f1 y1 hB0 hB1 hyB hzB
  go_wp2_with fail
  refine (HAW.out _).mono ?_
  rintro e w_3 ⟨rfl, hb_3⟩
  have HF_4 := hide (HF.out.below hb_3)
  have HY_4 := hide (HY.out.below hb_3)
  have HZ_4 := hide (HZ.out.below hb_3)
  have hB_4 := hB2.trans (hb_3.mono hB2.size)
  clear hb_3 hB2 HF HY HZ
  clear HAW
  go_upto_if 30 with (refine (HEE.out _ _ HF_4.out.slice).mono ?_; rintro e wE ⟨rfl, hbE⟩)
  have HF_5 := hide (HF_4.out.below hbE)
  have HY_5 := hide (HY_4.out.below hbE)
  have HZ_5 := hide (HZ_4.out.below hbE)
  have hB_5 := hB_4.trans (hbE.mono hB_4.size)
  clear hbE hB_4 HF_4 HY_4 HZ_4
  clear HEE
  go_wp2_with (refine wpList_loadG8 rfl (.tmp 3) rfl w.heap.size F rfl HF_5.out ?_)
  refine (HSA.out _).mono ?_
  rintro e w_6 ⟨rfl, hb_6⟩
  have HF_7 := hide (HF_5.out.below hb_6)
  have HY_7 := hide (HY_5.out.below hb_6)
  have HZ_7 := hide (HZ_5.out.below hb_6)
  have hB_7 := hB_5.trans (hb_6.mono hB_5.size)
  clear hb_6 hB_5 HF_5 HY_5 HZ_5
  obtain ⟨HAbB, hHAbB⟩ : ∃ z, w_6.heap.size = z := ⟨_, rfl⟩
  go_upto_region 6 with (first
    | (refine wpList_store8 rfl (.tmp 7) (.tmp 34) rfl HAbB (fun _ => Num.zero) A rfl rfl (arrNums_alloc _ _ _ hHAbB.symm) ?_; intro W_8 r_8 o_8)
    | (refine wpList_allocTo rfl (some 7) rfl (.pointer (some ⟨HAbB, 0, none⟩)) (.cells (arr8 fun _ => Num.zero) 27) (by rw [← hHAbB]; kernel_rfl) ?_))
  have hc_8 : Below w_6.heap.size w_6 W_8 := ((Below.refl _ _).alloc (Nat.le_refl _) _).trans (o_8.to_below (by omega) (by simp))
  clear o_8 hHAbB
  have HF_9 := hide (HF_7.out.below hc_8)
  have HY_9 := hide (HY_7.out.below hc_8)
  have HZ_9 := hide (HZ_7.out.below hc_8)
  have hB_9 := hB_7.trans (hc_8.mono hB_7.size)
  clear hc_8 hB_7 HF_7 HY_7 HZ_7
  have HAb := hide r_8
  clear r_8
  clear HSA
  go_wp2_with (refine wpList_load8G rfl (.tmp 7) rfl HAbB A rfl HAb.out ?_)
  refine (HPA.out _).mono ?_
  rintro e w_10 ⟨rfl, hb_10⟩
  have HF_11 := hide (HF_9.out.below hb_10)
  have HY_11 := hide (HY_9.out.below hb_10)
  have HZ_11 := hide (HZ_9.out.below hb_10)
  have HAb_11 := hide (HAb.out.below hb_10)
  have hB_11 := hB_9.trans (hb_10.mono hB_9.size)
  clear hb_10 hB_9 HF_9 HY_9 HZ_9 HAb
  obtain ⟨HFbB, hHFbB⟩ : ∃ z, w_10.heap.size = z := ⟨_, rfl⟩
  go_upto_region 7 with (first
    | (refine wpList_storeG8 rfl (.tmp 9) (.tmp 39) rfl HFbB (fun _ => Gau.zero) F rfl rfl (ArrG8.at_alloc _ _ _ hHFbB.symm) ?_; intro W_12 r_12 o_12)
    | (refine wpList_allocTo rfl (some 9) rfl (.pointer (some ⟨HFbB, 0, none⟩)) (.cells (arrG8 fun _ => Gau.zero) 24) (by rw [← hHFbB]; kernel_rfl) ?_))
  have hc_12 : Below w_10.heap.size w_10 W_12 := ((Below.refl _ _).alloc (Nat.le_refl _) _).trans (o_12.to_below (by omega) (by simp))
  clear o_12 hHFbB
  have HF_13 := hide (HF_11.out.below hc_12)
  have HY_13 := hide (HY_11.out.below hc_12)
  have HZ_13 := hide (HZ_11.out.below hc_12)
  have HAb_13 := hide (HAb_11.out.below hc_12)
  have hB_13 := hB_11.trans (hc_12.mono hB_11.size)
  clear hc_12 hB_11 HF_11 HY_11 HZ_11 HAb_11
  have HFb := hide r_12
  clear r_12
  clear HPA
  have t0 : ((0 : Int) != 0) = false := rfl
  have hq9 := equalG8_same F W_12
  go_upto_region 9 with (first | (refine wpList_loadG8 rfl (.tmp 9) rfl HFbB F rfl HFb.out ?_) | (refine wpList_loadG8 rfl (.tmp 3) rfl w.heap.size F rfl HF_13.out ?_))
  clear hq9
  go_wp2_with fail
  go_loopw [11, 12, 13, 14] (fun p q s i wr => ∃ n : Nat, n ≤ 8 ∧ i = .int .i64 (n : Int) ∧ p = .int .i64 (sumI pf n) ∧ q = .int .i64 (sumI qf n) ∧ s = .int .i64 (sumI nf n) ∧ ArrG8 wr w.heap.size F ∧ ArrG4 wr yB y ∧ ArrG4 wr zB z ∧ ArrNums wr HAbB A ∧ Below w.heap.size w wr) (fun _ _ _ i _ => 8 - (Go.RowKit.intOf i).toNat)
  case atStart => exact ⟨0, Nat.zero_le _, rfl, rfl, rfl, rfl, HF_13.out, HY_13.out, HZ_13.out, HAb_13.out, hB_13⟩
  case round =>
    clear HF_13 HY_13 HZ_13 HAb_13 HFb hB_13
    obtain ⟨n, hn, rfl, rfl, rfl, rfl, hF, hY, hZ, hA, hB⟩ := hrel
    obtain ⟨wA, rfl⟩ : ∃ q : World, q = wr := ⟨_, rfl⟩
    by_cases hn8 : n < 8
    · have hn8z : (n : Int) < 8 := by omega
      have HSn := hide (HSQ.out n)
      have HRn := hide (HSR.out n)
      have HGn := hide (HGN.out n hn8)
      have HS1 := hide (show sumI pf (n + 1) = sumI pf n + pf n from rfl)
      have HS2 := hide (show sumI qf (n + 1) = sumI qf n + qf n from rfl)
      have HS3 := hide (show sumI nf (n + 1) = sumI nf n + nf n from rfl)
      have b1 := HPB.out (n + 1) (by omega)
      have b2 := HQB.out (n + 1) (by omega)
      have b3 := HNB.out (n + 1) (by omega)
      rw [HS1.out] at b1
      rw [HS2.out] at b2
      rw [HS3.out] at b3
      obtain ⟨P, hP⟩ : ∃ q, pf n = q := ⟨_, rfl⟩
      obtain ⟨Q, hQ⟩ : ∃ q, qf n = q := ⟨_, rfl⟩
      obtain ⟨N, hN⟩ : ∃ q, nf n = q := ⟨_, rfl⟩
      simp only [hP] at HSn HRn HS1 b1
      simp only [hQ] at HSn HRn HS2 b2
      simp only [hN] at HGn HS3 b3
      clear hP hQ hN
      obtain ⟨sp, hsp⟩ : ∃ q, sumI pf n = q := ⟨_, rfl⟩
      obtain ⟨sq, hsq⟩ : ∃ q, sumI qf n = q := ⟨_, rfl⟩
      obtain ⟨sn, hsn⟩ : ∃ q, sumI nf n = q := ⟨_, rfl⟩
      simp only [hsp] at HS1 b1 ⊢
      simp only [hsq] at HS2 b2 ⊢
      simp only [hsn] at HS3 b3 ⊢
      clear hsp hsq hsn
      have q1 : IntKind.i64.wrap (sp + P) = sp + P := IntWalk.i64_in _ (by omega)
      have q2 : IntKind.i64.wrap (sq + Q) = sq + Q := IntWalk.i64_in _ (by omega)
      have q3 : IntKind.i64.wrap (sn + N) = sn + N := IntWalk.i64_in _ (by omega)
      clear b1 b2 b3
      obtain ⟨x, hx⟩ : ∃ q, A n = q := ⟨_, rfl⟩
      obtain ⟨k0, k1, k2, k3⟩ := hA.cells hn8
      simp only [hx] at HSn k0 k1 k2 k3
      clear hx
      go_wp2_with fail
      refine (HSn.out _).mono ?_
      rintro e w1 ⟨rfl, hb1⟩
      have HF1 := hide (hF.below hb1)
      have HY1 := hide (hY.below hb1)
      have HZ1 := hide (hZ.below hb1)
      have HA1 := hide (hA.below hb1)
      have hB1 := hB.trans (hb1.mono hB.size)
      clear hb1 hB hF hY hZ hA k0 k1 k2 k3 HSn
      go_upto_region 14 with fail
      obtain ⟨g15, hg15⟩ : ∃ q, w1.heap.size = q := ⟨_, rfl⟩
      obtain ⟨w2, hw2⟩ : ∃ q : World, q = w1.alloc (.cells #[.int .i64 P, .int .i64 Q] 47) := ⟨_, rfl⟩
      rw [← hw2]
      have bx : Box w2 g15 47 #[.int .i64 P, .int .i64 Q] := by rw [hw2]; exact Box.made hg15.symm
      have HF2 := hide (show ArrG8 w2 w.heap.size F by rw [hw2]; exact HF1.out.alloc _)
      have HY2 := hide (show ArrG4 w2 yB y by rw [hw2]; exact HY1.out.alloc _)
      have HZ2 := hide (show ArrG4 w2 zB z by rw [hw2]; exact HZ1.out.alloc _)
      have HA2 := hide (show ArrNums w2 HAbB A by rw [hw2]; exact HA1.out.alloc _)
      have hB2 : Below w.heap.size w w2 := by rw [hw2]; exact hB1.alloc hB1.size _
      try simp only [hg15]
      clear hw2 hg15 hB1 HF1 HY1 HZ1 HA1
      have e0 := bx.at_ 0
      have e1 := bx.at_ 1
      simp only [List.getElem?_toArray] at e0 e1
      have HBX := hide bx
      clear bx
      go_wp2_with fail
      refine (HRn.out _).mono ?_
      rintro e w3 ⟨rfl, hb3⟩
      have HF3 := hide (HF2.out.below hb3)
      have HY3 := hide (HY2.out.below hb3)
      have HZ3 := hide (HZ2.out.below hb3)
      have HA3 := hide (HA2.out.below hb3)
      have HB3 := hide (HBX.out.below hb3)
      have hB3 := hB2.trans (hb3.mono hB2.size)
      clear hb3 hB2 HF2 HY2 HZ2 HA2 HBX HRn e0 e1
      go_upto_region 16 with fail
      have HXC := hide (fun W (h : ArrG8 W w.heap.size F) => h.cells hn8)
      obtain ⟨re, hre⟩ : ∃ q, (F n).re = q := ⟨_, rfl⟩
      obtain ⟨im, him⟩ : ∃ q, (F n).im = q := ⟨_, rfl⟩
      simp only [hre, him] at HXC HGn
      clear hre him
      have e0 := HB3.out.at_ 0
      have e1 := HB3.out.at_ 1
      simp only [List.getElem?_toArray] at e0 e1
      obtain ⟨x0, x1⟩ := HXC.out _ HF3.out
      refine wp_region_held_drew (S := fun w' => w'.cell? ⟨g15, 0, none⟩ = some (.int .i64 P) ∧ w'.cell? ⟨g15, 1, none⟩ = some (.int .i64 Q) ∧ w'.cell? ⟨w.heap.size, n * 2, none⟩ = some (.int .i64 re) ∧ w'.cell? ⟨w.heap.size, n * 2 + 1, none⟩ = some (.int .i64 im)) (by kernel_rfl) ⟨e0, e1, x0, x1⟩ (fun hHeld => ?_)
      refine wpAnyH_take (i := 0) (oi := ⟨some 70, _, _, _, _, _⟩) (v := ?_) rfl (by kernel_rfl) (by kernel_rfl) (by kernel_rfl) (fun _ _ _ h => h) (Or.inl ⟨by rfl, ?_⟩) (by assumption) ?_
      rotate_left
      · (intro w' hSw; (try dsimp only at hSw); go_simp <;> (with_reducible rfl))
      try simp only [Act.put, List.setIfInBounds_toArray, List.set_cons_zero, List.set_cons_succ]
      refine wpAnyH_take (i := 1) (oi := ⟨some 71, _, _, _, _, _⟩) (v := ?_) rfl (by kernel_rfl) (by kernel_rfl) (by kernel_rfl) (fun _ _ _ h => h) (Or.inl ⟨by rfl, ?_⟩) (by assumption) ?_
      rotate_left
      · (intro w' hSw; (try dsimp only at hSw); go_simp <;> (with_reducible rfl))
      try simp only [Act.put, List.setIfInBounds_toArray, List.set_cons_zero, List.set_cons_succ]
      refine wpAnyH_take (i := 2) (oi := ⟨some 72, _, _, _, _, _⟩) (v := ?_) rfl (by kernel_rfl) (by kernel_rfl) (by kernel_rfl) (fun _ _ _ h => h) (Or.inl ⟨by rfl, ?_⟩) (by assumption) ?_
      rotate_left
      · (intro w' hSw; (try dsimp only at hSw); go_simp <;> (with_reducible rfl))
      try simp only [Act.put, List.setIfInBounds_toArray, List.set_cons_zero, List.set_cons_succ]
      refine wpAnyH_take (i := 3) (oi := ⟨some 73, _, _, _, _, _⟩) (v := ?_) rfl (by kernel_rfl) (by kernel_rfl) (by kernel_rfl) (fun _ _ _ h => h) (Or.inl ⟨by rfl, ?_⟩) (by assumption) ?_
      rotate_left
      · (intro w' hSw; (try dsimp only at hSw); go_simp <;> (with_reducible rfl))
      try simp only [Act.put, List.setIfInBounds_toArray, List.set_cons_zero, List.set_cons_succ]
      refine wpAnyH_take (i := 4) (oi := ⟨some 74, _, _, _, _, _⟩) (v := ?_) rfl (by kernel_rfl) (by kernel_rfl) (by kernel_rfl) (fun _ _ _ h => h) (Or.inl ⟨by rfl, ?_⟩) (by assumption) ?_
      rotate_left
      · (intro w' hSw; (try dsimp only at hSw); go_simp <;> (with_reducible rfl))
      try simp only [Act.put, List.setIfInBounds_toArray, List.set_cons_zero, List.set_cons_succ]
      refine wpAnyH_take (i := 5) (oi := ⟨some 75, _, _, _, _, _⟩) (v := ?_) rfl (by kernel_rfl) (by kernel_rfl) (by kernel_rfl) (fun _ _ _ h => h) (Or.inl ⟨by rfl, ?_⟩) (by assumption) ?_
      rotate_left
      · (intro w' hSw; (try dsimp only at hSw); go_simp <;> (with_reducible rfl))
      try simp only [Act.put, List.setIfInBounds_toArray, List.set_cons_zero, List.set_cons_succ]
      refine wpAnyH_take (i := 6) (oi := ⟨some 76, _, _, _, _, _⟩) (v := ?_) rfl (by kernel_rfl) (by kernel_rfl) (by kernel_rfl) (fun _ _ _ h => h) (Or.inl ⟨by rfl, ?_⟩) (by assumption) ?_
      rotate_left
      · (intro w' hSw; (try dsimp only at hSw); go_simp <;> (with_reducible rfl))
      try simp only [Act.put, List.setIfInBounds_toArray, List.set_cons_zero, List.set_cons_succ]
      refine wpAnyH_take (i := 7) (oi := ⟨some 77, _, _, _, _, _⟩) (v := ?_) rfl (by kernel_rfl) (by kernel_rfl) (by kernel_rfl) (fun _ _ _ h => h) (Or.inl ⟨by rfl, ?_⟩) (by assumption) ?_
      rotate_left
      · (intro w' hSw; (try dsimp only at hSw); go_simp <;> (with_reducible rfl))
      try simp only [Act.put, List.setIfInBounds_toArray, List.set_cons_zero, List.set_cons_succ]
      refine wpAnyH_take (i := 8) (oi := ⟨some 78, _, _, _, _, _⟩) (v := ?_) rfl (by kernel_rfl) (by kernel_rfl) (by kernel_rfl) (fun _ _ _ h => h) (Or.inl ⟨by rfl, ?_⟩) (by assumption) ?_
      rotate_left
      · (intro w' hSw; (try dsimp only at hSw); go_simp <;> (with_reducible rfl))
      try simp only [Act.put, List.setIfInBounds_toArray, List.set_cons_zero, List.set_cons_succ]
      refine wpAnyH_take (i := 9) (oi := ⟨some 79, _, _, _, _, _⟩) (v := ?_) rfl (by kernel_rfl) (by kernel_rfl) (by kernel_rfl) (fun _ _ _ h => h) (Or.inl ⟨by rfl, ?_⟩) (by assumption) ?_
      rotate_left
      · (intro w' hSw; (try dsimp only at hSw); go_simp <;> (with_reducible rfl))
      try simp only [Act.put, List.setIfInBounds_toArray, List.set_cons_zero, List.set_cons_succ]
      refine wpAnyH_take (i := 10) (oi := ⟨some 80, _, _, _, _, _⟩) (v := ?_) rfl (by kernel_rfl) (by kernel_rfl) (by kernel_rfl) (fun _ _ _ h => h) (Or.inl ⟨by rfl, ?_⟩) (by assumption) ?_
      rotate_left
      · (intro w' hSw; (try dsimp only at hSw); go_simp <;> (with_reducible rfl))
      try simp only [Act.put, List.setIfInBounds_toArray, List.set_cons_zero, List.set_cons_succ]
      refine wpAnyH_take (i := 11) (oi := ⟨some 81, _, _, _, _, _⟩) (v := ?_) rfl (by kernel_rfl) (by kernel_rfl) (by kernel_rfl) (fun _ _ _ h => h) (Or.inl ⟨by rfl, ?_⟩) (by assumption) ?_
      rotate_left
      · (intro w' hSw; (try dsimp only at hSw); go_simp <;> (with_reducible rfl))
      try simp only [Act.put, List.setIfInBounds_toArray, List.set_cons_zero, List.set_cons_succ]
      refine wpAnyH_ready (rs := [12]) (by kernel_rfl) (by simp) ?_
      refine AllReadyH.cons (o := ⟨some 82, _, _, _, _, _⟩) rfl (fun K' hK => ?_) AllReadyH.nil
      go_simp
      go_at_call 20
      refine (HGn.out _).mono ?_
      rintro e w4 ⟨rfl, hb4'⟩
      have hb4 : Below w3.heap.size w3 w4 := by first | exact hb4' | exact below_of_drew hb4'
      clear hb4' e0 e1 x0 x1
      have HF4 := hide (HF3.out.below hb4)
      have HY4 := hide (HY3.out.below hb4)
      have HZ4 := hide (HZ3.out.below hb4)
      have HA4 := hide (HA3.out.below hb4)
      have HB4 := hide (HB3.out.below hb4)
      have hB4 := hB3.trans (hb4.mono hB3.size)
      clear hb4 hB3 HF3 HY3 HZ3 HA3 HB3
      have e0 := HB4.out.at_ 0
      have e1 := HB4.out.at_ 1
      simp only [List.getElem?_toArray] at e0 e1
      obtain ⟨x0, x1⟩ := HXC.out _ HF4.out
      go_wp2_with fail
      refine hK.out _ _ ⟨e0, e1, x0, x1⟩ (fun hHeld => ?_)
      clear hK K'
      try simp only [Act.put, List.setIfInBounds_toArray, List.set_cons_zero, List.set_cons_succ]
      refine wpAnyH_take (i := 13) (oi := ⟨some 83, _, _, _, _, _⟩) (v := ?_) rfl (by kernel_rfl) (by kernel_rfl) (by kernel_rfl) (fun _ _ _ h => h) (Or.inl ⟨by rfl, ?_⟩) (by assumption) ?_
      rotate_left
      · (intro w' hSw; (try dsimp only at hSw); go_simp <;> (with_reducible rfl))
      try simp only [Act.put, List.setIfInBounds_toArray, List.set_cons_zero, List.set_cons_succ]
      refine wpAnyH_take (i := 14) (oi := ⟨some 11, _, _, _, _, _⟩) (v := ?_) rfl (by kernel_rfl) (by kernel_rfl) (by kernel_rfl) (fun _ _ _ h => h) (Or.inl ⟨by rfl, ?_⟩) (by assumption) ?_
      rotate_left
      · (intro w' hSw; (try dsimp only at hSw); go_simp <;> (with_reducible rfl))
      try simp only [Act.put, List.setIfInBounds_toArray, List.set_cons_zero, List.set_cons_succ]
      refine wpAnyH_take (i := 15) (oi := ⟨some 12, _, _, _, _, _⟩) (v := ?_) rfl (by kernel_rfl) (by kernel_rfl) (by kernel_rfl) (fun _ _ _ h => h) (Or.inl ⟨by rfl, ?_⟩) (by assumption) ?_
      rotate_left
      · (intro w' hSw; (try dsimp only at hSw); go_simp <;> (with_reducible rfl))
      try simp only [Act.put, List.setIfInBounds_toArray, List.set_cons_zero, List.set_cons_succ]
      refine wpAnyH_take (i := 16) (oi := ⟨some 13, _, _, _, _, _⟩) (v := ?_) rfl (by kernel_rfl) (by kernel_rfl) (by kernel_rfl) (fun _ _ _ h => h) (Or.inl ⟨by rfl, ?_⟩) (by assumption) ?_
      rotate_left
      · (intro w' hSw; (try dsimp only at hSw); go_simp <;> (with_reducible rfl))
      try simp only [Act.put, List.setIfInBounds_toArray, List.set_cons_zero, List.set_cons_succ]
      refine wpAnyH_done (by kernel_rfl) ?_ _
      go_wp2_with fail
      go_roundw
      case rel => exact ⟨n + 1, by omega, by go_num, by rw [HS1.out], by rw [HS2.out], by rw [HS3.out], HF4.out, HY4.out, HZ4.out, HA4.out, hB4⟩
      case measure => simp [Go.RowKit.intOf]; omega
    · obtain rfl : n = 8 := by omega
      obtain ⟨e1, e2⟩ := HSUM.out
      have b3 := HNB.out 8 (by decide)
      obtain ⟨S, hS⟩ : ∃ q, sumI nf 8 = q := ⟨_, rfl⟩
      rw [hS] at b3 e1
      rw [hS, e1, e2]
      have q1 : IntKind.i64.wrap (8 * S) = 8 * S := IntWalk.i64_in _ (by omega)
      have t1 : (8 * S != 8 * S) = false := by simp
      clear e1 e2 b3 hS HSUM HPB HQB HNB HSQ HSR HGN
      have HF := hide hF
      have HY := hide hY
      have HZ := hide hZ
      clear hF hY hZ hA
      go_upto_region 19 with fail
      go_wp2_with fail
      go_loopw [17] (fun i wr => ∃ n : Nat, n ≤ 4 ∧ i = .int .i64 (n : Int) ∧ (∀ j, j < n → (y j).Within 2500 ∧ (z j).Within 2500) ∧ ArrG4 wr yB y ∧ ArrG4 wr zB z ∧ Below w.heap.size w wr) (fun i _ => 4 - (Go.RowKit.intOf i).toNat)
      case atStart => exact ⟨0, Nat.zero_le _, rfl, fun j hj => absurd hj (Nat.not_lt_zero j), HY.out, HZ.out, hB⟩
      case round =>
        clear HF HY HZ hB
        obtain ⟨n, hn, rfl, hW, hY, hZ, hB⟩ := hrel
        obtain ⟨wB, rfl⟩ : ∃ q : World, q = wr := ⟨_, rfl⟩
        have HW := hide hW
        clear hW
        by_cases hn4 : n < 4
        · have hn4z : (n : Int) < 4 := by omega
          have HYn := hide (HIY.out n)
          have HZn := hide (HIZ.out n)
          have HNX := hide (fun (h1 : (y n).isIn 2500 = true) (h2 : (z n).isIn 2500 = true) => (show ∀ j, j < n + 1 → (y j).Within 2500 ∧ (z j).Within 2500 from fun j hj => by
            by_cases e : j = n
            · subst e; exact ⟨Gau.isIn_iff.1 h1, Gau.isIn_iff.1 h2⟩
            · exact HW.out j (by omega)))
          obtain ⟨u, hu⟩ : ∃ q, (y n).isIn 2500 = q := ⟨_, rfl⟩
          obtain ⟨v, hv⟩ : ∃ q, (z n).isIn 2500 = q := ⟨_, rfl⟩
          simp only [hu] at HYn HNX
          simp only [hv] at HZn HNX
          clear hu hv
          obtain ⟨c0, c1⟩ := hY.cells hn4
          have HZC := hide (fun W (h : ArrG4 W zB z) => h.cells hn4)
          obtain ⟨yr, hyr⟩ : ∃ q, (y n).re = q := ⟨_, rfl⟩
          obtain ⟨yi, hyi⟩ : ∃ q, (y n).im = q := ⟨_, rfl⟩
          obtain ⟨zr, hzr⟩ : ∃ q, (z n).re = q := ⟨_, rfl⟩
          obtain ⟨zi, hzi⟩ : ∃ q, (z n).im = q := ⟨_, rfl⟩
          simp only [hyr, hyi] at HYn c0 c1
          simp only [hzr, hzi] at HZn HZC
          clear hyr hyi hzr hzi
          go_wp2_with fail
          refine (HYn.out _).mono ?_
          rintro e w1 ⟨rfl, hb1⟩
          have HY1 := hide (hY.below hb1)
          have HZ1 := hide (hZ.below hb1)
          have hB1 := hB.trans (hb1.mono hB.size)
          clear hb1 hB hY hZ c0 c1
          cases u
          · go_wp2_with fail
            go_ret
            exact ⟨rfl, hB1⟩
          obtain ⟨c0, c1⟩ := HZC.out _ HZ1.out
          go_wp2_with fail
          refine (HZn.out _).mono ?_
          rintro e w2 ⟨rfl, hb2⟩
          have HY2 := hide (HY1.out.below hb2)
          have HZ2 := hide (HZ1.out.below hb2)
          have hB2 := hB1.trans (hb2.mono hB1.size)
          clear hb2 hB1 HY1 HZ1 c0 c1
          cases v
          · go_wp2_with fail
            go_ret
            exact ⟨rfl, hB2⟩
          have HNY := hide (HNX.out (by first | rfl | trivial) (by first | rfl | trivial))
          clear HNX
          go_wp2_with fail
          go_roundw
          case rel => exact ⟨_, _, _, _, _, _, _, _, _, _, _, _, _, _, _, _, _, _, ⟨n + 1, by omega, by go_num, HNY.out, HY2.out, HZ2.out, hB2⟩, rfl⟩
          case measure => simp [Go.RowKit.intOf]; omega
        · obtain rfl : n = 4 := by omega
          have hyW := fun j hj => (HW.out j hj).1
          have hzW := fun j hj => (HW.out j hj).2
          have HFY := hide (fun W => Four_right y (four_small hyW) W)
          have HFZ := hide (fun W => Four_right z (four_small hzW) W)
          have hy10 : ∀ j, j < 4 → (y j).Within 10000 := fun j hj => (hyW j hj).more (by decide)
          have hz10 : ∀ j, j < 4 → (z j).Within 10000 := fun j hj => (hzW j hj).more (by decide)
          have hc10 : ∀ j, j < 4 → (fF y 1 j).Within 10000 := fun j _ => fF_within hyW j
          have hd10 : ∀ j, j < 4 → (fF z 1 j).Within 10000 := fun j _ => fF_within hzW j
          have HE1 := hide (fun X x Z u W (h : GausAt W 0 X 4 y) (k : GausAt W 0 Z 4 z) => (show Calls Try.prog 23 #[.slice X 4 x, .slice Z 4 u] W fun e w' => e = .returned (.tuple #[.int .i64 (errS y z 4), .int .i64 0]) ∧ Below W.heap.size W w' from by
            have h1 := ErrorOf_any X Z 4 x 4 u y z W (by decide) (by decide) h k
            unfold errV at h1
            simp only [errE_four hy10 hz10, if_true] at h1
            exact h1))
          have HE2 := hide (fun X x Z u W (h : GausAt W 0 X 4 (fF y 1)) (k : GausAt W 0 Z 4 (fF z 1)) => (show Calls Try.prog 23 #[.slice X 4 x, .slice Z 4 u] W fun e w' => e = .returned (.tuple #[.int .i64 (4 * errS y z 4), .int .i64 0]) ∧ Below W.heap.size W w' from by
            have h1 := ErrorOf_any X Z 4 x 4 u (fF y 1) (fF z 1) W (by decide) (by decide) h k
            unfold errV at h1
            simp only [errE_four hc10 hd10, if_true, four_error] at h1
            exact h1))
          have hbd := errS_bound hy10 hz10
          obtain ⟨M, hM⟩ : ∃ q, errS y z 4 = q := ⟨_, rfl⟩
          simp only [hM] at HE1 HE2 hbd
          obtain ⟨c, hc⟩ : ∃ q, fF y 1 = q := ⟨_, rfl⟩
          obtain ⟨d, hd⟩ : ∃ q, fF z 1 = q := ⟨_, rfl⟩
          simp only [hc, hd] at HFY HFZ HE2
          have q1 : IntKind.i64.wrap (4 * M) = 4 * M := IntWalk.i64_in _ (by omega)
          clear hyW hzW hy10 hz10 hc10 hd10 hbd hM hc hd HW HIY HIZ
          have HYb := hide hY
          have HZb := hide hZ
          clear hY hZ
          go_wp2_with (refine wpList_loadG4 rfl (.tmp 4) rfl yB y rfl HYb.out ?_)
          refine (HFY.out _).mono ?_
          rintro e w_14 ⟨rfl, hb_14⟩
          have HYb_15 := hide (HYb.out.below hb_14)
          have HZb_15 := hide (HZb.out.below hb_14)
          have hB_15 := hB.trans (hb_14.mono hB.size)
          clear hb_14 hB HYb HZb
          obtain ⟨HCcB, hHCcB⟩ : ∃ z, w_14.heap.size = z := ⟨_, rfl⟩
          go_upto_region 25 with (first
            | (refine wpList_storeG4 rfl (.tmp 18) (.tmp 111) rfl HCcB (fun _ => Gau.zero) c rfl rfl (ArrG4.at_alloc _ _ _ hHCcB.symm) ?_; intro W_16 r_16 o_16)
            | (refine wpList_allocTo rfl (some 18) rfl (.pointer (some ⟨HCcB, 0, none⟩)) (.cells (arrG4 fun _ => Gau.zero) 45) (by rw [← hHCcB]; kernel_rfl) ?_))
          have hc_16 : Below w_14.heap.size w_14 W_16 := ((Below.refl _ _).alloc (Nat.le_refl _) _).trans (o_16.to_below (by omega) (by simp))
          clear o_16 hHCcB
          have HYb_17 := hide (HYb_15.out.below hc_16)
          have HZb_17 := hide (HZb_15.out.below hc_16)
          have hB_17 := hB_15.trans (hc_16.mono hB_15.size)
          clear hc_16 hB_15 HYb_15 HZb_15
          have HCc := hide r_16
          clear r_16
          clear HFY
          go_wp2_with (refine wpList_loadG4 rfl (.tmp 5) rfl zB z rfl HZb_17.out ?_)
          refine (HFZ.out _).mono ?_
          rintro e w_18 ⟨rfl, hb_18⟩
          have HYb_19 := hide (HYb_17.out.below hb_18)
          have HZb_19 := hide (HZb_17.out.below hb_18)
          have HCc_19 := hide (HCc.out.below hb_18)
          have hB_19 := hB_17.trans (hb_18.mono hB_17.size)
          clear hb_18 hB_17 HYb_17 HZb_17 HCc
          obtain ⟨HDdB, hHDdB⟩ : ∃ z, w_18.heap.size = z := ⟨_, rfl⟩
          go_upto_region 26 with (first
            | (refine wpList_storeG4 rfl (.tmp 20) (.tmp 116) rfl HDdB (fun _ => Gau.zero) d rfl rfl (ArrG4.at_alloc _ _ _ hHDdB.symm) ?_; intro W_20 r_20 o_20)
            | (refine wpList_allocTo rfl (some 20) rfl (.pointer (some ⟨HDdB, 0, none⟩)) (.cells (arrG4 fun _ => Gau.zero) 45) (by rw [← hHDdB]; kernel_rfl) ?_))
          have hc_20 : Below w_18.heap.size w_18 W_20 := ((Below.refl _ _).alloc (Nat.le_refl _) _).trans (o_20.to_below (by omega) (by simp))
          clear o_20 hHDdB
          have HYb_21 := hide (HYb_19.out.below hc_20)
          have HZb_21 := hide (HZb_19.out.below hc_20)
          have HCc_21 := hide (HCc_19.out.below hc_20)
          have hB_21 := hB_19.trans (hc_20.mono hB_19.size)
          clear hc_20 hB_19 HYb_19 HZb_19 HCc_19
          have HDd := hide r_20
          clear r_20
          clear HFZ
          have t2 : ((0 : Int) != 0) = false := rfl
          go_upto_region 28 with fail
          go_cut [22, 23] (fun m u wx => m = .int .i64 (M) ∧ u = .int .i64 0 ∧ Below W_20.heap.size W_20 wx)
          case first =>
            have hb_0 : Below W_20.heap.size W_20 W_20 := Below.refl _ _
            refine wp_region_held_drew (S := fun _ => True) (by kernel_rfl) trivial (fun hHeld => ?_)
            refine wpAnyH_take (i := 1) (oi := ⟨some 126, _, _, _, _, _⟩) (v := ?_) rfl (by kernel_rfl) (by kernel_rfl) (by kernel_rfl) (fun _ _ _ h => h) (Or.inl ⟨by rfl, ?_⟩) (by assumption) ?_
            rotate_left
            · (intro w' hSw; (try dsimp only at hSw); go_simp <;> (with_reducible rfl))
            try simp only [Act.put, List.setIfInBounds_toArray, List.set_cons_zero, List.set_cons_succ]
            refine wpAnyH_take (i := 4) (oi := ⟨some 129, _, _, _, _, _⟩) (v := ?_) rfl (by kernel_rfl) (by kernel_rfl) (by kernel_rfl) (fun _ _ _ h => h) (Or.inl ⟨by rfl, ?_⟩) (by assumption) ?_
            rotate_left
            · (intro w' hSw; (try dsimp only at hSw); go_simp <;> (with_reducible rfl))
            try simp only [Act.put, List.setIfInBounds_toArray, List.set_cons_zero, List.set_cons_succ]
            refine wpAnyH_ready (rs := [0, 3]) (by kernel_rfl) (by simp) ?_
            refine AllReadyH.cons (o := ⟨some 125, _, _, _, _, _⟩) rfl (fun K' hK => ?_) (AllReadyH.cons (o := ⟨some 128, _, _, _, _, _⟩) rfl (fun K' hK => ?_) AllReadyH.nil)
            · skip
              go_simp
              obtain ⟨g_22, hg_22⟩ : ∃ q, W_20.heap.size = q := ⟨_, rfl⟩
              have O_22 : OwnGaus (W_20.alloc (.cells #[] 23)) W_20.heap.size (.slice (some ⟨g_22, 0, none⟩) 0 0) 0 y := (OwnGaus.empty W_20 g_22 hg_22.symm y).weak hb_0.size
              have hb_22 : Below W_20.heap.size W_20 (W_20.alloc (.cells #[] 23)) := hb_0.alloc hb_0.size _
              try simp only [hg_22]
              refine hK.out _ _ trivial (fun hHeld => ?_)
              clear hK K'
              try simp only [Act.put, List.setIfInBounds_toArray, List.set_cons_zero, List.set_cons_succ]
              refine wpAnyH_ready (rs := [2, 3]) (by kernel_rfl) (by simp) ?_
              refine AllReadyH.cons (o := ⟨some 127, _, _, _, _, _⟩) rfl (fun K' hK => ?_) (AllReadyH.cons (o := ⟨some 128, _, _, _, _, _⟩) rfl (fun K' hK => ?_) AllReadyH.nil)
              · skip
                refine stepG_append_gaus _ rfl (.tmp 125) (.tmp 126) rfl W_20.heap.size 0 (.slice (some ⟨g_22, 0, none⟩) 0 0) 0 y (by first | rfl | (go_simp; done) | (go_simp; trace_state; rfl)) (by have h := O_22; exact h) (some ⟨yB, 0, none⟩) 4 4 y rfl (by have h := (HYb_21.out.below hb_22).slice; exact h) (by decide) hb_22.size (fun v_23 w_23 h_23 hb' hg' ho' => ?_)
                have hb_23 : Below W_20.heap.size W_20 w_23 := hb_22.trans (by first | exact hb' | exact below_from_drew hb')
                have O_23 : OwnGaus w_23 W_20.heap.size v_23 4 y := by have h := h_23; rw [Nat.zero_add] at h; exact h.congr fun j _ => by simp [catG]
                clear hb' hg' ho' h_23
                refine hK.out _ _ trivial (fun hHeld => ?_)
                clear hK K'
                try simp only [Act.put, List.setIfInBounds_toArray, List.set_cons_zero, List.set_cons_succ]
                refine wpAnyH_ready (rs := [3]) (by kernel_rfl) (by simp) ?_
                refine AllReadyH.cons (o := ⟨some 128, _, _, _, _, _⟩) rfl (fun K' hK => ?_) AllReadyH.nil
                go_simp
                obtain ⟨g_24, hg_24⟩ : ∃ q, w_23.heap.size = q := ⟨_, rfl⟩
                have O_24 : OwnGaus (w_23.alloc (.cells #[] 23)) W_20.heap.size (.slice (some ⟨g_24, 0, none⟩) 0 0) 0 z := (OwnGaus.empty w_23 g_24 hg_24.symm z).weak hb_23.size
                have hb_24 : Below W_20.heap.size W_20 (w_23.alloc (.cells #[] 23)) := hb_23.alloc hb_23.size _
                have P_24 : OwnGaus (w_23.alloc (.cells #[] 23)) W_20.heap.size v_23 4 y := O_23.alloc _
                have N_24 : ∀ b, (v_23 : Value).ownBlock = some b → b ≠ g_24 := fun b hb => by have := (World.ownsRow.lt O_23 b hb).2; omega
                try simp only [hg_24]
                refine hK.out _ _ trivial (fun hHeld => ?_)
                clear hK K'
                try simp only [Act.put, List.setIfInBounds_toArray, List.set_cons_zero, List.set_cons_succ]
                refine wpAnyH_ready (rs := [5]) (by kernel_rfl) (by simp) ?_
                refine AllReadyH.cons (o := ⟨some 130, _, _, _, _, _⟩) rfl (fun K' hK => ?_) AllReadyH.nil
                refine stepG_append_gaus _ rfl (.tmp 128) (.tmp 129) rfl W_20.heap.size 0 (.slice (some ⟨g_24, 0, none⟩) 0 0) 0 z (by first | rfl | (go_simp; done) | (go_simp; trace_state; rfl)) (by have h := O_24; exact h) (some ⟨zB, 0, none⟩) 4 4 z rfl (by have h := (HZb_21.out.below hb_24).slice; exact h) (by decide) hb_24.size (fun v_25 w_25 h_25 hb' hg' ho' => ?_)
                have hb_25 : Below W_20.heap.size W_20 w_25 := hb_24.trans (by first | exact hb' | exact below_from_drew hb')
                have O_25 : OwnGaus w_25 W_20.heap.size v_25 4 z := by have h := h_25; rw [Nat.zero_add] at h; exact h.congr fun j _ => by simp [catG]
                have P_25 : OwnGaus w_25 W_20.heap.size v_23 4 y := World.ownsRow.kept (w := (w_23.alloc (.cells #[] 23))) P_24 (by first | exact hg' | exact grown_from_drew hg') (.inr (fun e => N_24 _ e rfl))
                clear hb' hg' ho' h_25
                refine hK.out _ _ trivial (fun hHeld => ?_)
                clear hK K'
                try simp only [Act.put, List.setIfInBounds_toArray, List.set_cons_zero, List.set_cons_succ]
                refine wpAnyH_ready (rs := [6]) (by kernel_rfl) (by simp) ?_
                refine AllReadyH.cons (o := ⟨some 131, _, _, _, _, _⟩) rfl (fun K' hK => ?_) AllReadyH.nil
                obtain ⟨A1, c1, rfl, -, hA1⟩ := ownGaus_form P_25
                obtain ⟨A2, c2, rfl, -, hA2⟩ := ownGaus_form O_25
                go_simp
                go_at_call 23
                refine (HE1.out _ _ _ _ _ (by have h := hA1.weak (Nat.zero_le _); exact h) (by have h := hA2.weak (Nat.zero_le _); exact h)).mono ?_
                rintro e w_26 ⟨rfl, hb'⟩
                have hc : Below w_25.heap.size w_25 w_26 := by first | exact hb' | exact below_of_drew hb' | exact below_of_drew (below_of_drew hb')
                have hb_26 := hb_25.trans (hc.mono hb_25.size)
                clear hb' hc
                go_wp2_with fail
                refine hK.out _ _ trivial (fun hHeld => ?_)
                clear hK K'
                try simp only [Act.put, List.setIfInBounds_toArray, List.set_cons_zero, List.set_cons_succ]
                refine wpAnyH_take (i := 7) (oi := ⟨some 124, _, _, _, _, _⟩) (v := ?_) rfl (by kernel_rfl) (by kernel_rfl) (by kernel_rfl) (fun _ _ _ h => h) (Or.inl ⟨by rfl, ?_⟩) (by assumption) ?_
                rotate_left
                · (intro w' hSw; (try dsimp only at hSw); go_simp <;> (with_reducible rfl))
                try simp only [Act.put, List.setIfInBounds_toArray, List.set_cons_zero, List.set_cons_succ]
                refine wpAnyH_take (i := 8) (oi := ⟨some 132, _, _, _, _, _⟩) (v := ?_) rfl (by kernel_rfl) (by kernel_rfl) (by kernel_rfl) (fun _ _ _ h => h) (Or.inl ⟨by rfl, ?_⟩) (by assumption) ?_
                rotate_left
                · (intro w' hSw; (try dsimp only at hSw); go_simp <;> (with_reducible rfl))
                try simp only [Act.put, List.setIfInBounds_toArray, List.set_cons_zero, List.set_cons_succ]
                refine wpAnyH_take (i := 9) (oi := ⟨some 133, _, _, _, _, _⟩) (v := ?_) rfl (by kernel_rfl) (by kernel_rfl) (by kernel_rfl) (fun _ _ _ h => h) (Or.inl ⟨by rfl, ?_⟩) (by assumption) ?_
                rotate_left
                · (intro w' hSw; (try dsimp only at hSw); go_simp <;> (with_reducible rfl))
                try simp only [Act.put, List.setIfInBounds_toArray, List.set_cons_zero, List.set_cons_succ]
                refine wpAnyH_take (i := 10) (oi := ⟨some 22, _, _, _, _, _⟩) (v := ?_) rfl (by kernel_rfl) (by kernel_rfl) (by kernel_rfl) (fun _ _ _ h => h) (Or.inl ⟨by rfl, ?_⟩) (by assumption) ?_
                rotate_left
                · (intro w' hSw; (try dsimp only at hSw); go_simp <;> (with_reducible rfl))
                try simp only [Act.put, List.setIfInBounds_toArray, List.set_cons_zero, List.set_cons_succ]
                refine wpAnyH_take (i := 11) (oi := ⟨some 23, _, _, _, _, _⟩) (v := ?_) rfl (by kernel_rfl) (by kernel_rfl) (by kernel_rfl) (fun _ _ _ h => h) (Or.inl ⟨by rfl, ?_⟩) (by assumption) ?_
                rotate_left
                · (intro w' hSw; (try dsimp only at hSw); go_simp <;> (with_reducible rfl))
                try simp only [Act.put, List.setIfInBounds_toArray, List.set_cons_zero, List.set_cons_succ]
                refine wpAnyH_done (by kernel_rfl) ?_ _
                go_wp2_with fail
                go_meet
                case rel => exact ⟨rfl, rfl, hb_26⟩
              · skip
                go_simp
                obtain ⟨g_27, hg_27⟩ : ∃ q, (W_20.alloc (.cells #[] 23)).heap.size = q := ⟨_, rfl⟩
                have O_27 : OwnGaus ((W_20.alloc (.cells #[] 23)).alloc (.cells #[] 23)) W_20.heap.size (.slice (some ⟨g_27, 0, none⟩) 0 0) 0 z := (OwnGaus.empty (W_20.alloc (.cells #[] 23)) g_27 hg_27.symm z).weak hb_22.size
                have hb_27 : Below W_20.heap.size W_20 ((W_20.alloc (.cells #[] 23)).alloc (.cells #[] 23)) := hb_22.alloc hb_22.size _
                have P_27 : OwnGaus ((W_20.alloc (.cells #[] 23)).alloc (.cells #[] 23)) W_20.heap.size (.slice (some ⟨g_22, 0, none⟩) 0 0) 0 y := O_22.alloc _
                have N_27 : ∀ b, ((.slice (some ⟨g_22, 0, none⟩) 0 0) : Value).ownBlock = some b → b ≠ g_27 := fun b hb => by have := (World.ownsRow.lt O_22 b hb).2; omega
                have hgs_27 : W_20.heap.size + 1 = g_27 := by rw [← hg_27]; simp
                try simp only [hgs_27]
                try simp only [hg_27]
                refine hK.out _ _ trivial (fun hHeld => ?_)
                clear hK K'
                try simp only [Act.put, List.setIfInBounds_toArray, List.set_cons_zero, List.set_cons_succ]
                refine wpAnyH_ready (rs := [2]) (by kernel_rfl) (by simp) ?_
                refine AllReadyH.cons (o := ⟨some 127, _, _, _, _, _⟩) rfl (fun K' hK => ?_) AllReadyH.nil
                refine stepG_append_gaus _ rfl (.tmp 125) (.tmp 126) rfl W_20.heap.size 0 (.slice (some ⟨g_22, 0, none⟩) 0 0) 0 y (by first | rfl | (go_simp; done) | (go_simp; trace_state; rfl)) (by have h := P_27; exact h) (some ⟨yB, 0, none⟩) 4 4 y rfl (by have h := (HYb_21.out.below hb_27).slice; exact h) (by decide) hb_27.size (fun v_28 w_28 h_28 hb' hg' ho' => ?_)
                have hb_28 : Below W_20.heap.size W_20 w_28 := hb_27.trans (by first | exact hb' | exact below_from_drew hb')
                have O_28 : OwnGaus w_28 W_20.heap.size v_28 4 y := by have h := h_28; rw [Nat.zero_add] at h; exact h.congr fun j _ => by simp [catG]
                have hne12 : g_22 ≠ g_27 := by have := N_27 g_22 rfl; omega
                have hlt2 : g_27 < ((W_20.alloc (.cells #[] 23)).alloc (.cells #[] 23)).heap.size := (World.ownsRow.lt O_27 g_27 rfl).2
                have P_28 : OwnGaus w_28 W_20.heap.size (.slice (some ⟨g_27, 0, none⟩) 0 0) 0 z := World.ownsRow.kept (w := ((W_20.alloc (.cells #[] 23)).alloc (.cells #[] 23))) O_27 (by first | exact hg' | exact grown_from_drew hg') (.inr (fun e => by have e2 : some g_27 = some g_22 := e; injection e2 with e3; omega))
                have N_28 : ∀ b, v_28.ownBlock = some b → b ≠ g_27 := fun b hb => by
                  rcases ho' with h | h
                  · rw [h] at hb
                    have hb2 : some g_22 = some b := hb
                    injection hb2 with hb2
                    omega
                  · rw [h] at hb
                    have hb2 : some ((W_20.alloc (.cells #[] 23)).alloc (.cells #[] 23)).heap.size = some b := hb
                    injection hb2 with hb2
                    omega
                clear hb' hg' ho' h_28
                refine hK.out _ _ trivial (fun hHeld => ?_)
                clear hK K'
                try simp only [Act.put, List.setIfInBounds_toArray, List.set_cons_zero, List.set_cons_succ]
                refine wpAnyH_ready (rs := [5]) (by kernel_rfl) (by simp) ?_
                refine AllReadyH.cons (o := ⟨some 130, _, _, _, _, _⟩) rfl (fun K' hK => ?_) AllReadyH.nil
                refine stepG_append_gaus _ rfl (.tmp 128) (.tmp 129) rfl W_20.heap.size 0 (.slice (some ⟨g_27, 0, none⟩) 0 0) 0 z (by first | rfl | (go_simp; done) | (go_simp; trace_state; rfl)) (by have h := P_28; exact h) (some ⟨zB, 0, none⟩) 4 4 z rfl (by have h := (HZb_21.out.below hb_28).slice; exact h) (by decide) hb_28.size (fun v_29 w_29 h_29 hb' hg' ho' => ?_)
                have hb_29 : Below W_20.heap.size W_20 w_29 := hb_28.trans (by first | exact hb' | exact below_from_drew hb')
                have O_29 : OwnGaus w_29 W_20.heap.size v_29 4 z := by have h := h_29; rw [Nat.zero_add] at h; exact h.congr fun j _ => by simp [catG]
                have P_29 : OwnGaus w_29 W_20.heap.size v_28 4 y := World.ownsRow.kept (w := w_28) O_28 (by first | exact hg' | exact grown_from_drew hg') (.inr (fun e => N_28 _ e rfl))
                clear hb' hg' ho' h_29
                refine hK.out _ _ trivial (fun hHeld => ?_)
                clear hK K'
                try simp only [Act.put, List.setIfInBounds_toArray, List.set_cons_zero, List.set_cons_succ]
                refine wpAnyH_ready (rs := [6]) (by kernel_rfl) (by simp) ?_
                refine AllReadyH.cons (o := ⟨some 131, _, _, _, _, _⟩) rfl (fun K' hK => ?_) AllReadyH.nil
                obtain ⟨A1, c1, rfl, -, hA1⟩ := ownGaus_form P_29
                obtain ⟨A2, c2, rfl, -, hA2⟩ := ownGaus_form O_29
                go_simp
                go_at_call 23
                refine (HE1.out _ _ _ _ _ (by have h := hA1.weak (Nat.zero_le _); exact h) (by have h := hA2.weak (Nat.zero_le _); exact h)).mono ?_
                rintro e w_30 ⟨rfl, hb'⟩
                have hc : Below w_29.heap.size w_29 w_30 := by first | exact hb' | exact below_of_drew hb' | exact below_of_drew (below_of_drew hb')
                have hb_30 := hb_29.trans (hc.mono hb_29.size)
                clear hb' hc
                go_wp2_with fail
                refine hK.out _ _ trivial (fun hHeld => ?_)
                clear hK K'
                try simp only [Act.put, List.setIfInBounds_toArray, List.set_cons_zero, List.set_cons_succ]
                refine wpAnyH_take (i := 7) (oi := ⟨some 124, _, _, _, _, _⟩) (v := ?_) rfl (by kernel_rfl) (by kernel_rfl) (by kernel_rfl) (fun _ _ _ h => h) (Or.inl ⟨by rfl, ?_⟩) (by assumption) ?_
                rotate_left
                · (intro w' hSw; (try dsimp only at hSw); go_simp <;> (with_reducible rfl))
                try simp only [Act.put, List.setIfInBounds_toArray, List.set_cons_zero, List.set_cons_succ]
                refine wpAnyH_take (i := 8) (oi := ⟨some 132, _, _, _, _, _⟩) (v := ?_) rfl (by kernel_rfl) (by kernel_rfl) (by kernel_rfl) (fun _ _ _ h => h) (Or.inl ⟨by rfl, ?_⟩) (by assumption) ?_
                rotate_left
                · (intro w' hSw; (try dsimp only at hSw); go_simp <;> (with_reducible rfl))
                try simp only [Act.put, List.setIfInBounds_toArray, List.set_cons_zero, List.set_cons_succ]
                refine wpAnyH_take (i := 9) (oi := ⟨some 133, _, _, _, _, _⟩) (v := ?_) rfl (by kernel_rfl) (by kernel_rfl) (by kernel_rfl) (fun _ _ _ h => h) (Or.inl ⟨by rfl, ?_⟩) (by assumption) ?_
                rotate_left
                · (intro w' hSw; (try dsimp only at hSw); go_simp <;> (with_reducible rfl))
                try simp only [Act.put, List.setIfInBounds_toArray, List.set_cons_zero, List.set_cons_succ]
                refine wpAnyH_take (i := 10) (oi := ⟨some 22, _, _, _, _, _⟩) (v := ?_) rfl (by kernel_rfl) (by kernel_rfl) (by kernel_rfl) (fun _ _ _ h => h) (Or.inl ⟨by rfl, ?_⟩) (by assumption) ?_
                rotate_left
                · (intro w' hSw; (try dsimp only at hSw); go_simp <;> (with_reducible rfl))
                try simp only [Act.put, List.setIfInBounds_toArray, List.set_cons_zero, List.set_cons_succ]
                refine wpAnyH_take (i := 11) (oi := ⟨some 23, _, _, _, _, _⟩) (v := ?_) rfl (by kernel_rfl) (by kernel_rfl) (by kernel_rfl) (fun _ _ _ h => h) (Or.inl ⟨by rfl, ?_⟩) (by assumption) ?_
                rotate_left
                · (intro w' hSw; (try dsimp only at hSw); go_simp <;> (with_reducible rfl))
                try simp only [Act.put, List.setIfInBounds_toArray, List.set_cons_zero, List.set_cons_succ]
                refine wpAnyH_done (by kernel_rfl) ?_ _
                go_wp2_with fail
                go_meet
                case rel => exact ⟨rfl, rfl, hb_30⟩
            · skip
              go_simp
              obtain ⟨g_31, hg_31⟩ : ∃ q, W_20.heap.size = q := ⟨_, rfl⟩
              have O_31 : OwnGaus (W_20.alloc (.cells #[] 23)) W_20.heap.size (.slice (some ⟨g_31, 0, none⟩) 0 0) 0 z := (OwnGaus.empty W_20 g_31 hg_31.symm z).weak hb_0.size
              have hb_31 : Below W_20.heap.size W_20 (W_20.alloc (.cells #[] 23)) := hb_0.alloc hb_0.size _
              try simp only [hg_31]
              refine hK.out _ _ trivial (fun hHeld => ?_)
              clear hK K'
              try simp only [Act.put, List.setIfInBounds_toArray, List.set_cons_zero, List.set_cons_succ]
              refine wpAnyH_ready (rs := [0]) (by kernel_rfl) (by simp) ?_
              refine AllReadyH.cons (o := ⟨some 125, _, _, _, _, _⟩) rfl (fun K' hK => ?_) AllReadyH.nil
              go_simp
              obtain ⟨g_32, hg_32⟩ : ∃ q, (W_20.alloc (.cells #[] 23)).heap.size = q := ⟨_, rfl⟩
              have O_32 : OwnGaus ((W_20.alloc (.cells #[] 23)).alloc (.cells #[] 23)) W_20.heap.size (.slice (some ⟨g_32, 0, none⟩) 0 0) 0 y := (OwnGaus.empty (W_20.alloc (.cells #[] 23)) g_32 hg_32.symm y).weak hb_31.size
              have hb_32 : Below W_20.heap.size W_20 ((W_20.alloc (.cells #[] 23)).alloc (.cells #[] 23)) := hb_31.alloc hb_31.size _
              have P_32 : OwnGaus ((W_20.alloc (.cells #[] 23)).alloc (.cells #[] 23)) W_20.heap.size (.slice (some ⟨g_31, 0, none⟩) 0 0) 0 z := O_31.alloc _
              have N_32 : ∀ b, ((.slice (some ⟨g_31, 0, none⟩) 0 0) : Value).ownBlock = some b → b ≠ g_32 := fun b hb => by have := (World.ownsRow.lt O_31 b hb).2; omega
              have hgs_32 : W_20.heap.size + 1 = g_32 := by rw [← hg_32]; simp
              try simp only [hgs_32]
              try simp only [hg_32]
              refine hK.out _ _ trivial (fun hHeld => ?_)
              clear hK K'
              try simp only [Act.put, List.setIfInBounds_toArray, List.set_cons_zero, List.set_cons_succ]
              refine wpAnyH_ready (rs := [2]) (by kernel_rfl) (by simp) ?_
              refine AllReadyH.cons (o := ⟨some 127, _, _, _, _, _⟩) rfl (fun K' hK => ?_) AllReadyH.nil
              refine stepG_append_gaus _ rfl (.tmp 125) (.tmp 126) rfl W_20.heap.size 0 (.slice (some ⟨g_32, 0, none⟩) 0 0) 0 y (by first | rfl | (go_simp; done) | (go_simp; trace_state; rfl)) (by have h := O_32; exact h) (some ⟨yB, 0, none⟩) 4 4 y rfl (by have h := (HYb_21.out.below hb_32).slice; exact h) (by decide) hb_32.size (fun v_33 w_33 h_33 hb' hg' ho' => ?_)
              have hb_33 : Below W_20.heap.size W_20 w_33 := hb_32.trans (by first | exact hb' | exact below_from_drew hb')
              have O_33 : OwnGaus w_33 W_20.heap.size v_33 4 y := by have h := h_33; rw [Nat.zero_add] at h; exact h.congr fun j _ => by simp [catG]
              have hne12 : g_32 ≠ g_31 := by have := N_32 g_31 rfl; omega
              have hlt2 : g_31 < ((W_20.alloc (.cells #[] 23)).alloc (.cells #[] 23)).heap.size := (World.ownsRow.lt P_32 g_31 rfl).2
              have P_33 : OwnGaus w_33 W_20.heap.size (.slice (some ⟨g_31, 0, none⟩) 0 0) 0 z := World.ownsRow.kept (w := ((W_20.alloc (.cells #[] 23)).alloc (.cells #[] 23))) P_32 (by first | exact hg' | exact grown_from_drew hg') (.inr (fun e => by have e2 : some g_31 = some g_32 := e; injection e2 with e3; omega))
              have N_33 : ∀ b, v_33.ownBlock = some b → b ≠ g_31 := fun b hb => by
                rcases ho' with h | h
                · rw [h] at hb
                  have hb2 : some g_32 = some b := hb
                  injection hb2 with hb2
                  omega
                · rw [h] at hb
                  have hb2 : some ((W_20.alloc (.cells #[] 23)).alloc (.cells #[] 23)).heap.size = some b := hb
                  injection hb2 with hb2
                  omega
              clear hb' hg' ho' h_33
              refine hK.out _ _ trivial (fun hHeld => ?_)
              clear hK K'
              try simp only [Act.put, List.setIfInBounds_toArray, List.set_cons_zero, List.set_cons_succ]
              refine wpAnyH_ready (rs := [5]) (by kernel_rfl) (by simp) ?_
              refine AllReadyH.cons (o := ⟨some 130, _, _, _, _, _⟩) rfl (fun K' hK => ?_) AllReadyH.nil
              refine stepG_append_gaus _ rfl (.tmp 128) (.tmp 129) rfl W_20.heap.size 0 (.slice (some ⟨g_31, 0, none⟩) 0 0) 0 z (by first | rfl | (go_simp; done) | (go_simp; trace_state; rfl)) (by have h := P_33; exact h) (some ⟨zB, 0, none⟩) 4 4 z rfl (by have h := (HZb_21.out.below hb_33).slice; exact h) (by decide) hb_33.size (fun v_34 w_34 h_34 hb' hg' ho' => ?_)
              have hb_34 : Below W_20.heap.size W_20 w_34 := hb_33.trans (by first | exact hb' | exact below_from_drew hb')
              have O_34 : OwnGaus w_34 W_20.heap.size v_34 4 z := by have h := h_34; rw [Nat.zero_add] at h; exact h.congr fun j _ => by simp [catG]
              have P_34 : OwnGaus w_34 W_20.heap.size v_33 4 y := World.ownsRow.kept (w := w_33) O_33 (by first | exact hg' | exact grown_from_drew hg') (.inr (fun e => N_33 _ e rfl))
              clear hb' hg' ho' h_34
              refine hK.out _ _ trivial (fun hHeld => ?_)
              clear hK K'
              try simp only [Act.put, List.setIfInBounds_toArray, List.set_cons_zero, List.set_cons_succ]
              refine wpAnyH_ready (rs := [6]) (by kernel_rfl) (by simp) ?_
              refine AllReadyH.cons (o := ⟨some 131, _, _, _, _, _⟩) rfl (fun K' hK => ?_) AllReadyH.nil
              obtain ⟨A1, c1, rfl, -, hA1⟩ := ownGaus_form P_34
              obtain ⟨A2, c2, rfl, -, hA2⟩ := ownGaus_form O_34
              go_simp
              go_at_call 23
              refine (HE1.out _ _ _ _ _ (by have h := hA1.weak (Nat.zero_le _); exact h) (by have h := hA2.weak (Nat.zero_le _); exact h)).mono ?_
              rintro e w_35 ⟨rfl, hb'⟩
              have hc : Below w_34.heap.size w_34 w_35 := by first | exact hb' | exact below_of_drew hb' | exact below_of_drew (below_of_drew hb')
              have hb_35 := hb_34.trans (hc.mono hb_34.size)
              clear hb' hc
              go_wp2_with fail
              refine hK.out _ _ trivial (fun hHeld => ?_)
              clear hK K'
              try simp only [Act.put, List.setIfInBounds_toArray, List.set_cons_zero, List.set_cons_succ]
              refine wpAnyH_take (i := 7) (oi := ⟨some 124, _, _, _, _, _⟩) (v := ?_) rfl (by kernel_rfl) (by kernel_rfl) (by kernel_rfl) (fun _ _ _ h => h) (Or.inl ⟨by rfl, ?_⟩) (by assumption) ?_
              rotate_left
              · (intro w' hSw; (try dsimp only at hSw); go_simp <;> (with_reducible rfl))
              try simp only [Act.put, List.setIfInBounds_toArray, List.set_cons_zero, List.set_cons_succ]
              refine wpAnyH_take (i := 8) (oi := ⟨some 132, _, _, _, _, _⟩) (v := ?_) rfl (by kernel_rfl) (by kernel_rfl) (by kernel_rfl) (fun _ _ _ h => h) (Or.inl ⟨by rfl, ?_⟩) (by assumption) ?_
              rotate_left
              · (intro w' hSw; (try dsimp only at hSw); go_simp <;> (with_reducible rfl))
              try simp only [Act.put, List.setIfInBounds_toArray, List.set_cons_zero, List.set_cons_succ]
              refine wpAnyH_take (i := 9) (oi := ⟨some 133, _, _, _, _, _⟩) (v := ?_) rfl (by kernel_rfl) (by kernel_rfl) (by kernel_rfl) (fun _ _ _ h => h) (Or.inl ⟨by rfl, ?_⟩) (by assumption) ?_
              rotate_left
              · (intro w' hSw; (try dsimp only at hSw); go_simp <;> (with_reducible rfl))
              try simp only [Act.put, List.setIfInBounds_toArray, List.set_cons_zero, List.set_cons_succ]
              refine wpAnyH_take (i := 10) (oi := ⟨some 22, _, _, _, _, _⟩) (v := ?_) rfl (by kernel_rfl) (by kernel_rfl) (by kernel_rfl) (fun _ _ _ h => h) (Or.inl ⟨by rfl, ?_⟩) (by assumption) ?_
              rotate_left
              · (intro w' hSw; (try dsimp only at hSw); go_simp <;> (with_reducible rfl))
              try simp only [Act.put, List.setIfInBounds_toArray, List.set_cons_zero, List.set_cons_succ]
              refine wpAnyH_take (i := 11) (oi := ⟨some 23, _, _, _, _, _⟩) (v := ?_) rfl (by kernel_rfl) (by kernel_rfl) (by kernel_rfl) (fun _ _ _ h => h) (Or.inl ⟨by rfl, ?_⟩) (by assumption) ?_
              rotate_left
              · (intro w' hSw; (try dsimp only at hSw); go_simp <;> (with_reducible rfl))
              try simp only [Act.put, List.setIfInBounds_toArray, List.set_cons_zero, List.set_cons_succ]
              refine wpAnyH_done (by kernel_rfl) ?_ _
              go_wp2_with fail
              go_meet
              case rel => exact ⟨rfl, rfl, hb_35⟩
          case rest =>
          obtain ⟨rfl, rfl, hbc⟩ := hcut
          obtain ⟨wX, rfl⟩ : ∃ x : World, x = wc := ⟨_, rfl⟩
          have HYb_36 := hide (HYb_21.out.below hbc)
          have HZb_36 := hide (HZb_21.out.below hbc)
          have HCc_36 := hide (HCc_21.out.below hbc)
          have HDd_36 := hide (HDd.out.below hbc)
          have hB_36 := hB_21.trans (hbc.mono hB_21.size)
          clear hbc hB_21 HYb_21 HZb_21 HCc_21 HDd
          obtain ⟨wX37, rfl⟩ : ∃ x : World, x = wX := ⟨_, rfl⟩
          go_upto_region 29 with fail
          go_cut [24, 25] (fun m u wx => m = .int .i64 (4 * M) ∧ u = .int .i64 0 ∧ Below wX37.heap.size wX37 wx)
          case first =>
            have hb_0 : Below wX37.heap.size wX37 wX37 := Below.refl _ _
            refine wp_region_held_drew (S := fun _ => True) (by kernel_rfl) trivial (fun hHeld => ?_)
            refine wpAnyH_take (i := 1) (oi := ⟨some 136, _, _, _, _, _⟩) (v := ?_) rfl (by kernel_rfl) (by kernel_rfl) (by kernel_rfl) (fun _ _ _ h => h) (Or.inl ⟨by rfl, ?_⟩) (by assumption) ?_
            rotate_left
            · (intro w' hSw; (try dsimp only at hSw); go_simp <;> (with_reducible rfl))
            try simp only [Act.put, List.setIfInBounds_toArray, List.set_cons_zero, List.set_cons_succ]
            refine wpAnyH_take (i := 4) (oi := ⟨some 139, _, _, _, _, _⟩) (v := ?_) rfl (by kernel_rfl) (by kernel_rfl) (by kernel_rfl) (fun _ _ _ h => h) (Or.inl ⟨by rfl, ?_⟩) (by assumption) ?_
            rotate_left
            · (intro w' hSw; (try dsimp only at hSw); go_simp <;> (with_reducible rfl))
            try simp only [Act.put, List.setIfInBounds_toArray, List.set_cons_zero, List.set_cons_succ]
            refine wpAnyH_ready (rs := [0, 3]) (by kernel_rfl) (by simp) ?_
            refine AllReadyH.cons (o := ⟨some 135, _, _, _, _, _⟩) rfl (fun K' hK => ?_) (AllReadyH.cons (o := ⟨some 138, _, _, _, _, _⟩) rfl (fun K' hK => ?_) AllReadyH.nil)
            · skip
              go_simp
              obtain ⟨g_38, hg_38⟩ : ∃ q, wX37.heap.size = q := ⟨_, rfl⟩
              have O_38 : OwnGaus (wX37.alloc (.cells #[] 23)) wX37.heap.size (.slice (some ⟨g_38, 0, none⟩) 0 0) 0 c := (OwnGaus.empty wX37 g_38 hg_38.symm c).weak hb_0.size
              have hb_38 : Below wX37.heap.size wX37 (wX37.alloc (.cells #[] 23)) := hb_0.alloc hb_0.size _
              try simp only [hg_38]
              refine hK.out _ _ trivial (fun hHeld => ?_)
              clear hK K'
              try simp only [Act.put, List.setIfInBounds_toArray, List.set_cons_zero, List.set_cons_succ]
              refine wpAnyH_ready (rs := [2, 3]) (by kernel_rfl) (by simp) ?_
              refine AllReadyH.cons (o := ⟨some 137, _, _, _, _, _⟩) rfl (fun K' hK => ?_) (AllReadyH.cons (o := ⟨some 138, _, _, _, _, _⟩) rfl (fun K' hK => ?_) AllReadyH.nil)
              · skip
                refine stepG_append_gaus _ rfl (.tmp 135) (.tmp 136) rfl wX37.heap.size 0 (.slice (some ⟨g_38, 0, none⟩) 0 0) 0 c (by first | rfl | (go_simp; done) | (go_simp; trace_state; rfl)) (by have h := O_38; exact h) (some ⟨HCcB, 0, none⟩) 4 4 c rfl (by have h := (HCc_36.out.below hb_38).slice; exact h) (by decide) hb_38.size (fun v_39 w_39 h_39 hb' hg' ho' => ?_)
                have hb_39 : Below wX37.heap.size wX37 w_39 := hb_38.trans (by first | exact hb' | exact below_from_drew hb')
                have O_39 : OwnGaus w_39 wX37.heap.size v_39 4 c := by have h := h_39; rw [Nat.zero_add] at h; exact h.congr fun j _ => by simp [catG]
                clear hb' hg' ho' h_39
                refine hK.out _ _ trivial (fun hHeld => ?_)
                clear hK K'
                try simp only [Act.put, List.setIfInBounds_toArray, List.set_cons_zero, List.set_cons_succ]
                refine wpAnyH_ready (rs := [3]) (by kernel_rfl) (by simp) ?_
                refine AllReadyH.cons (o := ⟨some 138, _, _, _, _, _⟩) rfl (fun K' hK => ?_) AllReadyH.nil
                go_simp
                obtain ⟨g_40, hg_40⟩ : ∃ q, w_39.heap.size = q := ⟨_, rfl⟩
                have O_40 : OwnGaus (w_39.alloc (.cells #[] 23)) wX37.heap.size (.slice (some ⟨g_40, 0, none⟩) 0 0) 0 d := (OwnGaus.empty w_39 g_40 hg_40.symm d).weak hb_39.size
                have hb_40 : Below wX37.heap.size wX37 (w_39.alloc (.cells #[] 23)) := hb_39.alloc hb_39.size _
                have P_40 : OwnGaus (w_39.alloc (.cells #[] 23)) wX37.heap.size v_39 4 c := O_39.alloc _
                have N_40 : ∀ b, (v_39 : Value).ownBlock = some b → b ≠ g_40 := fun b hb => by have := (World.ownsRow.lt O_39 b hb).2; omega
                try simp only [hg_40]
                refine hK.out _ _ trivial (fun hHeld => ?_)
                clear hK K'
                try simp only [Act.put, List.setIfInBounds_toArray, List.set_cons_zero, List.set_cons_succ]
                refine wpAnyH_ready (rs := [5]) (by kernel_rfl) (by simp) ?_
                refine AllReadyH.cons (o := ⟨some 140, _, _, _, _, _⟩) rfl (fun K' hK => ?_) AllReadyH.nil
                refine stepG_append_gaus _ rfl (.tmp 138) (.tmp 139) rfl wX37.heap.size 0 (.slice (some ⟨g_40, 0, none⟩) 0 0) 0 d (by first | rfl | (go_simp; done) | (go_simp; trace_state; rfl)) (by have h := O_40; exact h) (some ⟨HDdB, 0, none⟩) 4 4 d rfl (by have h := (HDd_36.out.below hb_40).slice; exact h) (by decide) hb_40.size (fun v_41 w_41 h_41 hb' hg' ho' => ?_)
                have hb_41 : Below wX37.heap.size wX37 w_41 := hb_40.trans (by first | exact hb' | exact below_from_drew hb')
                have O_41 : OwnGaus w_41 wX37.heap.size v_41 4 d := by have h := h_41; rw [Nat.zero_add] at h; exact h.congr fun j _ => by simp [catG]
                have P_41 : OwnGaus w_41 wX37.heap.size v_39 4 c := World.ownsRow.kept (w := (w_39.alloc (.cells #[] 23))) P_40 (by first | exact hg' | exact grown_from_drew hg') (.inr (fun e => N_40 _ e rfl))
                clear hb' hg' ho' h_41
                refine hK.out _ _ trivial (fun hHeld => ?_)
                clear hK K'
                try simp only [Act.put, List.setIfInBounds_toArray, List.set_cons_zero, List.set_cons_succ]
                refine wpAnyH_ready (rs := [6]) (by kernel_rfl) (by simp) ?_
                refine AllReadyH.cons (o := ⟨some 141, _, _, _, _, _⟩) rfl (fun K' hK => ?_) AllReadyH.nil
                obtain ⟨A1, c1, rfl, -, hA1⟩ := ownGaus_form P_41
                obtain ⟨A2, c2, rfl, -, hA2⟩ := ownGaus_form O_41
                go_simp
                go_at_call 23
                refine (HE2.out _ _ _ _ _ (by have h := hA1.weak (Nat.zero_le _); exact h) (by have h := hA2.weak (Nat.zero_le _); exact h)).mono ?_
                rintro e w_42 ⟨rfl, hb'⟩
                have hc : Below w_41.heap.size w_41 w_42 := by first | exact hb' | exact below_of_drew hb' | exact below_of_drew (below_of_drew hb')
                have hb_42 := hb_41.trans (hc.mono hb_41.size)
                clear hb' hc
                go_wp2_with fail
                refine hK.out _ _ trivial (fun hHeld => ?_)
                clear hK K'
                try simp only [Act.put, List.setIfInBounds_toArray, List.set_cons_zero, List.set_cons_succ]
                refine wpAnyH_take (i := 7) (oi := ⟨some 134, _, _, _, _, _⟩) (v := ?_) rfl (by kernel_rfl) (by kernel_rfl) (by kernel_rfl) (fun _ _ _ h => h) (Or.inl ⟨by rfl, ?_⟩) (by assumption) ?_
                rotate_left
                · (intro w' hSw; (try dsimp only at hSw); go_simp <;> (with_reducible rfl))
                try simp only [Act.put, List.setIfInBounds_toArray, List.set_cons_zero, List.set_cons_succ]
                refine wpAnyH_take (i := 8) (oi := ⟨some 142, _, _, _, _, _⟩) (v := ?_) rfl (by kernel_rfl) (by kernel_rfl) (by kernel_rfl) (fun _ _ _ h => h) (Or.inl ⟨by rfl, ?_⟩) (by assumption) ?_
                rotate_left
                · (intro w' hSw; (try dsimp only at hSw); go_simp <;> (with_reducible rfl))
                try simp only [Act.put, List.setIfInBounds_toArray, List.set_cons_zero, List.set_cons_succ]
                refine wpAnyH_take (i := 9) (oi := ⟨some 143, _, _, _, _, _⟩) (v := ?_) rfl (by kernel_rfl) (by kernel_rfl) (by kernel_rfl) (fun _ _ _ h => h) (Or.inl ⟨by rfl, ?_⟩) (by assumption) ?_
                rotate_left
                · (intro w' hSw; (try dsimp only at hSw); go_simp <;> (with_reducible rfl))
                try simp only [Act.put, List.setIfInBounds_toArray, List.set_cons_zero, List.set_cons_succ]
                refine wpAnyH_take (i := 10) (oi := ⟨some 24, _, _, _, _, _⟩) (v := ?_) rfl (by kernel_rfl) (by kernel_rfl) (by kernel_rfl) (fun _ _ _ h => h) (Or.inl ⟨by rfl, ?_⟩) (by assumption) ?_
                rotate_left
                · (intro w' hSw; (try dsimp only at hSw); go_simp <;> (with_reducible rfl))
                try simp only [Act.put, List.setIfInBounds_toArray, List.set_cons_zero, List.set_cons_succ]
                refine wpAnyH_take (i := 11) (oi := ⟨some 25, _, _, _, _, _⟩) (v := ?_) rfl (by kernel_rfl) (by kernel_rfl) (by kernel_rfl) (fun _ _ _ h => h) (Or.inl ⟨by rfl, ?_⟩) (by assumption) ?_
                rotate_left
                · (intro w' hSw; (try dsimp only at hSw); go_simp <;> (with_reducible rfl))
                try simp only [Act.put, List.setIfInBounds_toArray, List.set_cons_zero, List.set_cons_succ]
                refine wpAnyH_done (by kernel_rfl) ?_ _
                go_wp2_with fail
                go_meet
                case rel => exact ⟨rfl, rfl, hb_42⟩
              · skip
                go_simp
                obtain ⟨g_43, hg_43⟩ : ∃ q, (wX37.alloc (.cells #[] 23)).heap.size = q := ⟨_, rfl⟩
                have O_43 : OwnGaus ((wX37.alloc (.cells #[] 23)).alloc (.cells #[] 23)) wX37.heap.size (.slice (some ⟨g_43, 0, none⟩) 0 0) 0 d := (OwnGaus.empty (wX37.alloc (.cells #[] 23)) g_43 hg_43.symm d).weak hb_38.size
                have hb_43 : Below wX37.heap.size wX37 ((wX37.alloc (.cells #[] 23)).alloc (.cells #[] 23)) := hb_38.alloc hb_38.size _
                have P_43 : OwnGaus ((wX37.alloc (.cells #[] 23)).alloc (.cells #[] 23)) wX37.heap.size (.slice (some ⟨g_38, 0, none⟩) 0 0) 0 c := O_38.alloc _
                have N_43 : ∀ b, ((.slice (some ⟨g_38, 0, none⟩) 0 0) : Value).ownBlock = some b → b ≠ g_43 := fun b hb => by have := (World.ownsRow.lt O_38 b hb).2; omega
                have hgs_43 : wX37.heap.size + 1 = g_43 := by rw [← hg_43]; simp
                try simp only [hgs_43]
                try simp only [hg_43]
                refine hK.out _ _ trivial (fun hHeld => ?_)
                clear hK K'
                try simp only [Act.put, List.setIfInBounds_toArray, List.set_cons_zero, List.set_cons_succ]
                refine wpAnyH_ready (rs := [2]) (by kernel_rfl) (by simp) ?_
                refine AllReadyH.cons (o := ⟨some 137, _, _, _, _, _⟩) rfl (fun K' hK => ?_) AllReadyH.nil
                refine stepG_append_gaus _ rfl (.tmp 135) (.tmp 136) rfl wX37.heap.size 0 (.slice (some ⟨g_38, 0, none⟩) 0 0) 0 c (by first | rfl | (go_simp; done) | (go_simp; trace_state; rfl)) (by have h := P_43; exact h) (some ⟨HCcB, 0, none⟩) 4 4 c rfl (by have h := (HCc_36.out.below hb_43).slice; exact h) (by decide) hb_43.size (fun v_44 w_44 h_44 hb' hg' ho' => ?_)
                have hb_44 : Below wX37.heap.size wX37 w_44 := hb_43.trans (by first | exact hb' | exact below_from_drew hb')
                have O_44 : OwnGaus w_44 wX37.heap.size v_44 4 c := by have h := h_44; rw [Nat.zero_add] at h; exact h.congr fun j _ => by simp [catG]
                have hne12 : g_38 ≠ g_43 := by have := N_43 g_38 rfl; omega
                have hlt2 : g_43 < ((wX37.alloc (.cells #[] 23)).alloc (.cells #[] 23)).heap.size := (World.ownsRow.lt O_43 g_43 rfl).2
                have P_44 : OwnGaus w_44 wX37.heap.size (.slice (some ⟨g_43, 0, none⟩) 0 0) 0 d := World.ownsRow.kept (w := ((wX37.alloc (.cells #[] 23)).alloc (.cells #[] 23))) O_43 (by first | exact hg' | exact grown_from_drew hg') (.inr (fun e => by have e2 : some g_43 = some g_38 := e; injection e2 with e3; omega))
                have N_44 : ∀ b, v_44.ownBlock = some b → b ≠ g_43 := fun b hb => by
                  rcases ho' with h | h
                  · rw [h] at hb
                    have hb2 : some g_38 = some b := hb
                    injection hb2 with hb2
                    omega
                  · rw [h] at hb
                    have hb2 : some ((wX37.alloc (.cells #[] 23)).alloc (.cells #[] 23)).heap.size = some b := hb
                    injection hb2 with hb2
                    omega
                clear hb' hg' ho' h_44
                refine hK.out _ _ trivial (fun hHeld => ?_)
                clear hK K'
                try simp only [Act.put, List.setIfInBounds_toArray, List.set_cons_zero, List.set_cons_succ]
                refine wpAnyH_ready (rs := [5]) (by kernel_rfl) (by simp) ?_
                refine AllReadyH.cons (o := ⟨some 140, _, _, _, _, _⟩) rfl (fun K' hK => ?_) AllReadyH.nil
                refine stepG_append_gaus _ rfl (.tmp 138) (.tmp 139) rfl wX37.heap.size 0 (.slice (some ⟨g_43, 0, none⟩) 0 0) 0 d (by first | rfl | (go_simp; done) | (go_simp; trace_state; rfl)) (by have h := P_44; exact h) (some ⟨HDdB, 0, none⟩) 4 4 d rfl (by have h := (HDd_36.out.below hb_44).slice; exact h) (by decide) hb_44.size (fun v_45 w_45 h_45 hb' hg' ho' => ?_)
                have hb_45 : Below wX37.heap.size wX37 w_45 := hb_44.trans (by first | exact hb' | exact below_from_drew hb')
                have O_45 : OwnGaus w_45 wX37.heap.size v_45 4 d := by have h := h_45; rw [Nat.zero_add] at h; exact h.congr fun j _ => by simp [catG]
                have P_45 : OwnGaus w_45 wX37.heap.size v_44 4 c := World.ownsRow.kept (w := w_44) O_44 (by first | exact hg' | exact grown_from_drew hg') (.inr (fun e => N_44 _ e rfl))
                clear hb' hg' ho' h_45
                refine hK.out _ _ trivial (fun hHeld => ?_)
                clear hK K'
                try simp only [Act.put, List.setIfInBounds_toArray, List.set_cons_zero, List.set_cons_succ]
                refine wpAnyH_ready (rs := [6]) (by kernel_rfl) (by simp) ?_
                refine AllReadyH.cons (o := ⟨some 141, _, _, _, _, _⟩) rfl (fun K' hK => ?_) AllReadyH.nil
                obtain ⟨A1, c1, rfl, -, hA1⟩ := ownGaus_form P_45
                obtain ⟨A2, c2, rfl, -, hA2⟩ := ownGaus_form O_45
                go_simp
                go_at_call 23
                refine (HE2.out _ _ _ _ _ (by have h := hA1.weak (Nat.zero_le _); exact h) (by have h := hA2.weak (Nat.zero_le _); exact h)).mono ?_
                rintro e w_46 ⟨rfl, hb'⟩
                have hc : Below w_45.heap.size w_45 w_46 := by first | exact hb' | exact below_of_drew hb' | exact below_of_drew (below_of_drew hb')
                have hb_46 := hb_45.trans (hc.mono hb_45.size)
                clear hb' hc
                go_wp2_with fail
                refine hK.out _ _ trivial (fun hHeld => ?_)
                clear hK K'
                try simp only [Act.put, List.setIfInBounds_toArray, List.set_cons_zero, List.set_cons_succ]
                refine wpAnyH_take (i := 7) (oi := ⟨some 134, _, _, _, _, _⟩) (v := ?_) rfl (by kernel_rfl) (by kernel_rfl) (by kernel_rfl) (fun _ _ _ h => h) (Or.inl ⟨by rfl, ?_⟩) (by assumption) ?_
                rotate_left
                · (intro w' hSw; (try dsimp only at hSw); go_simp <;> (with_reducible rfl))
                try simp only [Act.put, List.setIfInBounds_toArray, List.set_cons_zero, List.set_cons_succ]
                refine wpAnyH_take (i := 8) (oi := ⟨some 142, _, _, _, _, _⟩) (v := ?_) rfl (by kernel_rfl) (by kernel_rfl) (by kernel_rfl) (fun _ _ _ h => h) (Or.inl ⟨by rfl, ?_⟩) (by assumption) ?_
                rotate_left
                · (intro w' hSw; (try dsimp only at hSw); go_simp <;> (with_reducible rfl))
                try simp only [Act.put, List.setIfInBounds_toArray, List.set_cons_zero, List.set_cons_succ]
                refine wpAnyH_take (i := 9) (oi := ⟨some 143, _, _, _, _, _⟩) (v := ?_) rfl (by kernel_rfl) (by kernel_rfl) (by kernel_rfl) (fun _ _ _ h => h) (Or.inl ⟨by rfl, ?_⟩) (by assumption) ?_
                rotate_left
                · (intro w' hSw; (try dsimp only at hSw); go_simp <;> (with_reducible rfl))
                try simp only [Act.put, List.setIfInBounds_toArray, List.set_cons_zero, List.set_cons_succ]
                refine wpAnyH_take (i := 10) (oi := ⟨some 24, _, _, _, _, _⟩) (v := ?_) rfl (by kernel_rfl) (by kernel_rfl) (by kernel_rfl) (fun _ _ _ h => h) (Or.inl ⟨by rfl, ?_⟩) (by assumption) ?_
                rotate_left
                · (intro w' hSw; (try dsimp only at hSw); go_simp <;> (with_reducible rfl))
                try simp only [Act.put, List.setIfInBounds_toArray, List.set_cons_zero, List.set_cons_succ]
                refine wpAnyH_take (i := 11) (oi := ⟨some 25, _, _, _, _, _⟩) (v := ?_) rfl (by kernel_rfl) (by kernel_rfl) (by kernel_rfl) (fun _ _ _ h => h) (Or.inl ⟨by rfl, ?_⟩) (by assumption) ?_
                rotate_left
                · (intro w' hSw; (try dsimp only at hSw); go_simp <;> (with_reducible rfl))
                try simp only [Act.put, List.setIfInBounds_toArray, List.set_cons_zero, List.set_cons_succ]
                refine wpAnyH_done (by kernel_rfl) ?_ _
                go_wp2_with fail
                go_meet
                case rel => exact ⟨rfl, rfl, hb_46⟩
            · skip
              go_simp
              obtain ⟨g_47, hg_47⟩ : ∃ q, wX37.heap.size = q := ⟨_, rfl⟩
              have O_47 : OwnGaus (wX37.alloc (.cells #[] 23)) wX37.heap.size (.slice (some ⟨g_47, 0, none⟩) 0 0) 0 d := (OwnGaus.empty wX37 g_47 hg_47.symm d).weak hb_0.size
              have hb_47 : Below wX37.heap.size wX37 (wX37.alloc (.cells #[] 23)) := hb_0.alloc hb_0.size _
              try simp only [hg_47]
              refine hK.out _ _ trivial (fun hHeld => ?_)
              clear hK K'
              try simp only [Act.put, List.setIfInBounds_toArray, List.set_cons_zero, List.set_cons_succ]
              refine wpAnyH_ready (rs := [0]) (by kernel_rfl) (by simp) ?_
              refine AllReadyH.cons (o := ⟨some 135, _, _, _, _, _⟩) rfl (fun K' hK => ?_) AllReadyH.nil
              go_simp
              obtain ⟨g_48, hg_48⟩ : ∃ q, (wX37.alloc (.cells #[] 23)).heap.size = q := ⟨_, rfl⟩
              have O_48 : OwnGaus ((wX37.alloc (.cells #[] 23)).alloc (.cells #[] 23)) wX37.heap.size (.slice (some ⟨g_48, 0, none⟩) 0 0) 0 c := (OwnGaus.empty (wX37.alloc (.cells #[] 23)) g_48 hg_48.symm c).weak hb_47.size
              have hb_48 : Below wX37.heap.size wX37 ((wX37.alloc (.cells #[] 23)).alloc (.cells #[] 23)) := hb_47.alloc hb_47.size _
              have P_48 : OwnGaus ((wX37.alloc (.cells #[] 23)).alloc (.cells #[] 23)) wX37.heap.size (.slice (some ⟨g_47, 0, none⟩) 0 0) 0 d := O_47.alloc _
              have N_48 : ∀ b, ((.slice (some ⟨g_47, 0, none⟩) 0 0) : Value).ownBlock = some b → b ≠ g_48 := fun b hb => by have := (World.ownsRow.lt O_47 b hb).2; omega
              have hgs_48 : wX37.heap.size + 1 = g_48 := by rw [← hg_48]; simp
              try simp only [hgs_48]
              try simp only [hg_48]
              refine hK.out _ _ trivial (fun hHeld => ?_)
              clear hK K'
              try simp only [Act.put, List.setIfInBounds_toArray, List.set_cons_zero, List.set_cons_succ]
              refine wpAnyH_ready (rs := [2]) (by kernel_rfl) (by simp) ?_
              refine AllReadyH.cons (o := ⟨some 137, _, _, _, _, _⟩) rfl (fun K' hK => ?_) AllReadyH.nil
              refine stepG_append_gaus _ rfl (.tmp 135) (.tmp 136) rfl wX37.heap.size 0 (.slice (some ⟨g_48, 0, none⟩) 0 0) 0 c (by first | rfl | (go_simp; done) | (go_simp; trace_state; rfl)) (by have h := O_48; exact h) (some ⟨HCcB, 0, none⟩) 4 4 c rfl (by have h := (HCc_36.out.below hb_48).slice; exact h) (by decide) hb_48.size (fun v_49 w_49 h_49 hb' hg' ho' => ?_)
              have hb_49 : Below wX37.heap.size wX37 w_49 := hb_48.trans (by first | exact hb' | exact below_from_drew hb')
              have O_49 : OwnGaus w_49 wX37.heap.size v_49 4 c := by have h := h_49; rw [Nat.zero_add] at h; exact h.congr fun j _ => by simp [catG]
              have hne12 : g_48 ≠ g_47 := by have := N_48 g_47 rfl; omega
              have hlt2 : g_47 < ((wX37.alloc (.cells #[] 23)).alloc (.cells #[] 23)).heap.size := (World.ownsRow.lt P_48 g_47 rfl).2
              have P_49 : OwnGaus w_49 wX37.heap.size (.slice (some ⟨g_47, 0, none⟩) 0 0) 0 d := World.ownsRow.kept (w := ((wX37.alloc (.cells #[] 23)).alloc (.cells #[] 23))) P_48 (by first | exact hg' | exact grown_from_drew hg') (.inr (fun e => by have e2 : some g_47 = some g_48 := e; injection e2 with e3; omega))
              have N_49 : ∀ b, v_49.ownBlock = some b → b ≠ g_47 := fun b hb => by
                rcases ho' with h | h
                · rw [h] at hb
                  have hb2 : some g_48 = some b := hb
                  injection hb2 with hb2
                  omega
                · rw [h] at hb
                  have hb2 : some ((wX37.alloc (.cells #[] 23)).alloc (.cells #[] 23)).heap.size = some b := hb
                  injection hb2 with hb2
                  omega
              clear hb' hg' ho' h_49
              refine hK.out _ _ trivial (fun hHeld => ?_)
              clear hK K'
              try simp only [Act.put, List.setIfInBounds_toArray, List.set_cons_zero, List.set_cons_succ]
              refine wpAnyH_ready (rs := [5]) (by kernel_rfl) (by simp) ?_
              refine AllReadyH.cons (o := ⟨some 140, _, _, _, _, _⟩) rfl (fun K' hK => ?_) AllReadyH.nil
              refine stepG_append_gaus _ rfl (.tmp 138) (.tmp 139) rfl wX37.heap.size 0 (.slice (some ⟨g_47, 0, none⟩) 0 0) 0 d (by first | rfl | (go_simp; done) | (go_simp; trace_state; rfl)) (by have h := P_49; exact h) (some ⟨HDdB, 0, none⟩) 4 4 d rfl (by have h := (HDd_36.out.below hb_49).slice; exact h) (by decide) hb_49.size (fun v_50 w_50 h_50 hb' hg' ho' => ?_)
              have hb_50 : Below wX37.heap.size wX37 w_50 := hb_49.trans (by first | exact hb' | exact below_from_drew hb')
              have O_50 : OwnGaus w_50 wX37.heap.size v_50 4 d := by have h := h_50; rw [Nat.zero_add] at h; exact h.congr fun j _ => by simp [catG]
              have P_50 : OwnGaus w_50 wX37.heap.size v_49 4 c := World.ownsRow.kept (w := w_49) O_49 (by first | exact hg' | exact grown_from_drew hg') (.inr (fun e => N_49 _ e rfl))
              clear hb' hg' ho' h_50
              refine hK.out _ _ trivial (fun hHeld => ?_)
              clear hK K'
              try simp only [Act.put, List.setIfInBounds_toArray, List.set_cons_zero, List.set_cons_succ]
              refine wpAnyH_ready (rs := [6]) (by kernel_rfl) (by simp) ?_
              refine AllReadyH.cons (o := ⟨some 141, _, _, _, _, _⟩) rfl (fun K' hK => ?_) AllReadyH.nil
              obtain ⟨A1, c1, rfl, -, hA1⟩ := ownGaus_form P_50
              obtain ⟨A2, c2, rfl, -, hA2⟩ := ownGaus_form O_50
              go_simp
              go_at_call 23
              refine (HE2.out _ _ _ _ _ (by have h := hA1.weak (Nat.zero_le _); exact h) (by have h := hA2.weak (Nat.zero_le _); exact h)).mono ?_
              rintro e w_51 ⟨rfl, hb'⟩
              have hc : Below w_50.heap.size w_50 w_51 := by first | exact hb' | exact below_of_drew hb' | exact below_of_drew (below_of_drew hb')
              have hb_51 := hb_50.trans (hc.mono hb_50.size)
              clear hb' hc
              go_wp2_with fail
              refine hK.out _ _ trivial (fun hHeld => ?_)
              clear hK K'
              try simp only [Act.put, List.setIfInBounds_toArray, List.set_cons_zero, List.set_cons_succ]
              refine wpAnyH_take (i := 7) (oi := ⟨some 134, _, _, _, _, _⟩) (v := ?_) rfl (by kernel_rfl) (by kernel_rfl) (by kernel_rfl) (fun _ _ _ h => h) (Or.inl ⟨by rfl, ?_⟩) (by assumption) ?_
              rotate_left
              · (intro w' hSw; (try dsimp only at hSw); go_simp <;> (with_reducible rfl))
              try simp only [Act.put, List.setIfInBounds_toArray, List.set_cons_zero, List.set_cons_succ]
              refine wpAnyH_take (i := 8) (oi := ⟨some 142, _, _, _, _, _⟩) (v := ?_) rfl (by kernel_rfl) (by kernel_rfl) (by kernel_rfl) (fun _ _ _ h => h) (Or.inl ⟨by rfl, ?_⟩) (by assumption) ?_
              rotate_left
              · (intro w' hSw; (try dsimp only at hSw); go_simp <;> (with_reducible rfl))
              try simp only [Act.put, List.setIfInBounds_toArray, List.set_cons_zero, List.set_cons_succ]
              refine wpAnyH_take (i := 9) (oi := ⟨some 143, _, _, _, _, _⟩) (v := ?_) rfl (by kernel_rfl) (by kernel_rfl) (by kernel_rfl) (fun _ _ _ h => h) (Or.inl ⟨by rfl, ?_⟩) (by assumption) ?_
              rotate_left
              · (intro w' hSw; (try dsimp only at hSw); go_simp <;> (with_reducible rfl))
              try simp only [Act.put, List.setIfInBounds_toArray, List.set_cons_zero, List.set_cons_succ]
              refine wpAnyH_take (i := 10) (oi := ⟨some 24, _, _, _, _, _⟩) (v := ?_) rfl (by kernel_rfl) (by kernel_rfl) (by kernel_rfl) (fun _ _ _ h => h) (Or.inl ⟨by rfl, ?_⟩) (by assumption) ?_
              rotate_left
              · (intro w' hSw; (try dsimp only at hSw); go_simp <;> (with_reducible rfl))
              try simp only [Act.put, List.setIfInBounds_toArray, List.set_cons_zero, List.set_cons_succ]
              refine wpAnyH_take (i := 11) (oi := ⟨some 25, _, _, _, _, _⟩) (v := ?_) rfl (by kernel_rfl) (by kernel_rfl) (by kernel_rfl) (fun _ _ _ h => h) (Or.inl ⟨by rfl, ?_⟩) (by assumption) ?_
              rotate_left
              · (intro w' hSw; (try dsimp only at hSw); go_simp <;> (with_reducible rfl))
              try simp only [Act.put, List.setIfInBounds_toArray, List.set_cons_zero, List.set_cons_succ]
              refine wpAnyH_done (by kernel_rfl) ?_ _
              go_wp2_with fail
              go_meet
              case rel => exact ⟨rfl, rfl, hb_51⟩
          case rest =>
          obtain ⟨rfl, rfl, hbc⟩ := hcut
          obtain ⟨wX, rfl⟩ : ∃ x : World, x = wc := ⟨_, rfl⟩
          have HYb_52 := hide (HYb_36.out.below hbc)
          have HZb_52 := hide (HZb_36.out.below hbc)
          have HCc_52 := hide (HCc_36.out.below hbc)
          have HDd_52 := hide (HDd_36.out.below hbc)
          have hB_52 := hB_36.trans (hbc.mono hB_36.size)
          clear hbc hB_36 HYb_36 HZb_36 HCc_36 HDd_36
          obtain ⟨wX53, rfl⟩ : ∃ x : World, x = wX := ⟨_, rfl⟩
          have t3 : ((0 : Int) == 0) = true := rfl
          have t4 : (4 * M == 4 * M) = true := by simp
          go_wp2_with fail
          go_ret
          exact ⟨rfl, hB_52⟩
end Go.Proofs.Ytfemghbjngemlaa
