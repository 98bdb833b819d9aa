/- Lemmas: Ao, Aq. -/
import Derived.Test.YtfemghbjngemlaaBk07
import Derived.Test.YtfemghbjngemlaaBk17
import Derived.Test.YtfemghbjngemlaaBk18
set_option linter.unusedVariables false
set_option linter.unusedSimpArgs false
/- Samples of the reference. -/
namespace Go.Proofs.Ytfemghbjngemlaa
open Go.RowKit Go.Great
set_option maxHeartbeats 8000000 in
set_option maxRecDepth 100000 in
theorem samplesR_any (F : Nat → Gau) (hX : ∀ n, n < 8 → (F n).Within 10000) (w : World) :
    Calls Try.prog 13 #[.agg (arrG8 F)] w fun e w' => e = .returned (.agg (arr8 fun k => sumF ((fun (k n : Nat) => tz (gN (F n).re (F n).im) ((n : Int) * (k : Int)) : Nat → Nat → Num) k) 8)) ∧ Below w.heap.size w w' := by
  obtain ⟨Z, hZd⟩ : ∃ Z : Nat → Nat → Num, Z = fun (k n : Nat) => tz (gN (F n).re (F n).im) ((n : Int) * (k : Int)) := ⟨_, rfl⟩
  have HXW := hide (fun n (hn : n < 8) => gN_within (hX n hn))
  have HZW := hide (fun k i (hi : i < 8) => (show (Z k i).Within 10000 from by rw [hZd]; exact tz_within (HXW.out i hi) _))
  have HZE := hide (fun (k j : Nat) => (show Z k j = (gN (F j).re (F j).im).turns (((j : Int) * (k : Int)) % 8).toNat from by rw [hZd]; rfl))
  rw [← hZd]
  clear hZd hX
  go_enter Try.func13, Try.ntmps13
  go_upto_region 1 with (first
    | (refine wpList_boxTo rfl 24 (.tmp 0) rfl _ rfl w.heap.size rfl (arrG8 F) rfl ?_; obtain ⟨W0, hW0⟩ : ∃ q : World, q = w.alloc (.cells (arrG8 F) 24) := ⟨_, rfl⟩; rw [← hW0])
    | (refine wpList_allocTo rfl (some 2) rfl (.pointer (some ⟨W0.heap.size, 0, none⟩)) (.cells (arr8 fun _ => Num.zero) 27) (by kernel_rfl) ?_))
  have x0 : ArrG8 W0 w.heap.size F := by rw [hW0]; exact ArrG8.at_alloc w _ _ rfl
  have hB0 : Below w.heap.size w W0 := by rw [hW0]; (repeat (first | (with_reducible exact Below.refl _ _) | (with_reducible refine Go.below_drewN ?_ _) | (with_reducible refine Below.drew ?_) | (with_reducible refine Below.alloc ?_ (by first | exact Nat.le_refl _ | (simp; done) | (simp; omega) | omega) _) | (with_reducible refine Below.setCell ?_ (by first | exact Nat.le_refl _ | (simp; done) | (simp; omega) | omega) _)))
  have hs0 : w.heap.size < W0.heap.size := by rw [hW0]; simp
  clear hW0
  obtain ⟨b0, hb0⟩ : ∃ g, w.heap.size = g := ⟨_, rfl⟩
  obtain ⟨b1, hb1⟩ : ∃ g, W0.heap.size = g := ⟨_, rfl⟩
  obtain ⟨W1, hW1⟩ : ∃ q : World, q = W0.alloc (.cells (arr8 fun _ => Num.zero) 27) := ⟨_, rfl⟩
  rw [← hW1]
  have r1 : ArrNums W1 b1 (fun _ => Num.zero) := by rw [hW1]; exact arrNums_alloc W0 _ _ hb1.symm
  have x1 : ArrG8 W1 b0 F := by rw [hW1, ← hb0]; exact x0.alloc _
  have hB1 : Below b0 w W1 := by rw [hW1, ← hb0]; exact hB0.alloc hB0.size _
  have hs1 : b1 < W1.heap.size := by rw [hW1, ← hb1]; simp
  have h01 : b0 ≠ b1 := by omega
  have h01' : b0 ≤ b1 := by omega
  skip
  clear hW1 x0 hB0
  go_upto_region 2 with (refine wpList_allocTo rfl (some 3) rfl (.pointer (some ⟨W1.heap.size, 0, none⟩)) (.cells (arr8 fun _ => Num.zero) 27) (by kernel_rfl) ?_)
  obtain ⟨W3, hW3⟩ : ∃ q : World, q = W1.alloc (.cells (arr8 fun _ => Num.zero) 27) := ⟨_, rfl⟩
  rw [← hW3]
  obtain ⟨b5, hb5⟩ : ∃ g, W1.heap.size = g := ⟨_, rfl⟩
  have a3 : ArrNums W3 b5 (fun _ => Num.zero) := by rw [hW3]; exact arrNums_alloc W1 _ _ hb5.symm
  replace r1 : ArrNums W3 b1 (fun _ => Num.zero) := by rw [hW3]; exact r1.alloc _
  replace x1 : ArrG8 W3 b0 F := by rw [hW3]; exact x1.alloc _
  have hB3 : Below b0 w W3 := by rw [hW3]; exact hB1.alloc (by omega) _
  have hw5 : b0 ≤ b5 := by omega
  have hz5 : b1 ≠ b5 := by omega
  have hx5 : b0 ≠ b5 := by omega
  have HW0 := hide hb0
  clear hW3 hB1 hs0 hs1
  go_wp2_with fail
  go_loopw [4] (fun i wr => ∃ k : Nat, k ≤ 8 ∧ i = .int .i64 (k : Int) ∧ ArrNums wr b1 (fun _ => Num.zero) ∧ ArrG8 wr b0 F ∧ ArrNums wr b5 (fun q => if q < k then sumF (Z q) 8 else Num.zero) ∧ Below b0 w wr) (fun i _ => 8 - (Go.RowKit.intOf i).toNat)
  case atStart => exact ⟨0, by decide, rfl, r1, x1, a3.congr fun q _ => by rw [if_neg (Nat.not_lt_zero q)], hB3⟩
  case round =>
    clear r1 a3 hB3 x1
    obtain ⟨k, hk, rfl, hZ, hXA, hA, hB⟩ := hrel
    obtain ⟨wA, rfl⟩ : ∃ q : World, q = wr := ⟨_, rfl⟩
    by_cases hk8 : k < 8
    · have hk8z : (k : Int) < 8 := by omega
      go_wp2_with fail
      obtain ⟨E, hE⟩ : ∃ E : Nat → Num, E = fun q => if q < k then sumF (Z q) 8 else Num.zero := ⟨_, rfl⟩
      have HE := hide hE
      rw [← hE] at hA
      clear hE
      go_loopw [5] (fun x wr => ∃ j : Nat, j ≤ 8 ∧ x = .int .i64 (j : Int) ∧ ArrNums wr b1 (fun _ => Num.zero) ∧ ArrG8 wr b0 F ∧ ArrNums wr b5 (setNum E k (sumF (Z k) j)) ∧ Below b0 w wr) (fun x _ => 8 - (Go.RowKit.intOf x).toNat)
      case atStart =>
        refine ⟨0, Nat.zero_le _, rfl, hZ, hXA, hA.congr fun q _ => ?_, hB⟩
        show E q = if q = k then Num.zero else E q
        by_cases e : q = k
        · rw [if_pos e, HE.out]
          show (if q < k then _ else Num.zero) = _
          rw [if_neg (by omega)]
        · rw [if_neg e]
      case round =>
        clear hZ hA hB hXA
        obtain ⟨j, hj, rfl, hZ, hXA, hA, hB⟩ := hrel
        obtain ⟨wB, rfl⟩ : ∃ q : World, q = wr := ⟨_, rfl⟩
        by_cases hjn : j < 8
        · have hjz : (j : Int) < 8 := by omega
          obtain ⟨s, hs⟩ : ∃ s, s = sumF (Z k) j := ⟨_, rfl⟩
          have hsw : s.Within 8000000000 := by rw [hs]; exact (sumF_within fun i hi => HZW.out k i (by omega)).more (by omega)
          rw [← hs] at hA
          have HEE := hide (show ∀ q, q < 8 → setNum (setNum E k s) k (sumF (Z k) (j + 1)) q = setNum E k (sumF (Z k) (j + 1)) q from fun q _ => by
            show (if q = k then _ else if q = k then s else E q) = if q = k then _ else E q
            by_cases e : q = k
            · rw [if_pos e, if_pos e]
            · rw [if_neg e, if_neg e, if_neg e])
          have HTT := hide (show sumF (Z k) (j + 1) = s.add (Z k j) from by rw [hs]; rfl)
          have HSF := hide (show setNum E k s k = s from if_pos rfl)
          have hr := mul_within (M := 7) (N := 7) (a := (j : Int)) (b := (k : Int)) (by omega) (by omega)
          obtain ⟨e, he⟩ : ∃ e, e = (j : Int) * (k : Int) := ⟨_, rfl⟩
          have hze := HZE.out k j
          rw [← he] at hr hze
          have q2 : IntKind.i64.wrap ((j : Int) * (k : Int)) = e := by rw [IntWalk.i64_in _ (by omega), he]
          have hux := HZW.out k j hjn
          have hxw := HXW.out j hjn
          obtain ⟨re, hre⟩ : ∃ q, q = (F j).re := ⟨_, rfl⟩
          obtain ⟨im, him⟩ : ∃ q, q = (F j).im := ⟨_, rfl⟩
          rw [← hre, ← him] at hxw hze
          have HTU := hide (fun W => turnR_any (gN re im) e W (hxw.more (by decide)))
          obtain ⟨u, hu⟩ : ∃ u, u = Z k j := ⟨_, rfl⟩
          rw [← hu] at hux HTT hze
          rw [← hze] at HTU
          have HNO := hide (fun W => entryR_any re im W)
          have HPL := hide (fun W => plusR_any s u 10000000000 W ((hsw.add hux).more (by decide)) (by decide))
          have HPC := hide (fun W (h : ArrG8 W b0 F) => (show W.cell? ⟨b0, j * 2, none⟩ = some (.int .i64 re) ∧ W.cell? ⟨b0, j * 2 + 1, none⟩ = some (.int .i64 im) from by rw [hre, him]; exact h.cells hjn))
          obtain ⟨tt, htt⟩ : ∃ tt, tt = s.add u := ⟨_, rfl⟩
          rw [← htt] at HTT HPL
          rw [HTT.out] at HEE
          clear hs hu htt he hr hsw hux hxw hze hre him
          obtain ⟨z0, z1, z2, z3⟩ := hA.cells hk8
          rw [HSF.out] at z0 z1 z2 z3
          obtain ⟨f0, f1, f2, f3⟩ := hA.frozen4 k
          obtain ⟨p0, p1⟩ := HPC.out _ hXA
          go_upto_region 8 with fail
          refine wp_region_held_drew (S := fun w' => w'.cell? ⟨b0, j * 2, none⟩ = some (.int .i64 re) ∧ w'.cell? ⟨b0, j * 2 + 1, none⟩ = some (.int .i64 im)) (by kernel_rfl) ⟨p0, p1⟩ (fun hHeld => ?_)
          refine wpAnyH_take (i := 0) (oi := ⟨some 14, _, _, _, _, _⟩) (v := ?_) rfl (by kernel_rfl) (by kernel_rfl) (by kernel_rfl) (fun _ _ _ h => h) (Or.inl ⟨by rfl, ?_⟩) (by assumption) ?_
          rotate_left
          · (intro w' hSw; (try dsimp only at hSw); go_simp <;> (with_reducible rfl))
          try simp only [Act.put, List.setIfInBounds_toArray, List.set_cons_zero, List.set_cons_succ]
          refine wpAnyH_take (i := 1) (oi := ⟨some 15, _, _, _, _, _⟩) (v := ?_) rfl (by kernel_rfl) (by kernel_rfl) (by kernel_rfl) (fun _ _ _ h => h) (Or.inl ⟨by rfl, ?_⟩) (by assumption) ?_
          rotate_left
          · (intro w' hSw; (try dsimp only at hSw); go_simp <;> (with_reducible rfl))
          try simp only [Act.put, List.setIfInBounds_toArray, List.set_cons_zero, List.set_cons_succ]
          refine wpAnyH_take (i := 2) (oi := ⟨some 16, _, _, _, _, _⟩) (v := ?_) rfl (by kernel_rfl) (by kernel_rfl) (by kernel_rfl) (fun _ _ _ h => h) (Or.inl ⟨by rfl, ?_⟩) (by assumption) ?_
          rotate_left
          · (intro w' hSw; (try dsimp only at hSw); go_simp <;> (with_reducible rfl))
          try simp only [Act.put, List.setIfInBounds_toArray, List.set_cons_zero, List.set_cons_succ]
          refine wpAnyH_take (i := 4) (oi := ⟨some 18, _, _, _, _, _⟩) (v := ?_) rfl (by kernel_rfl) (by kernel_rfl) (by kernel_rfl) (fun _ _ _ h => h) (Or.inl ⟨by rfl, ?_⟩) (by assumption) ?_
          rotate_left
          · (intro w' hSw; (try dsimp only at hSw); go_simp <;> (with_reducible rfl))
          try simp only [Act.put, List.setIfInBounds_toArray, List.set_cons_zero, List.set_cons_succ]
          refine wpAnyH_take (i := 5) (oi := ⟨some 19, _, _, _, _, _⟩) (v := ?_) rfl (by kernel_rfl) (by kernel_rfl) (by kernel_rfl) (fun _ _ _ h => h) (Or.inl ⟨by rfl, ?_⟩) (by assumption) ?_
          rotate_left
          · (intro w' hSw; (try dsimp only at hSw); go_simp <;> (with_reducible rfl))
          try simp only [Act.put, List.setIfInBounds_toArray, List.set_cons_zero, List.set_cons_succ]
          refine wpAnyH_take (i := 6) (oi := ⟨some 20, _, _, _, _, _⟩) (v := ?_) rfl (by kernel_rfl) (by kernel_rfl) (by kernel_rfl) (fun _ _ _ h => h) (Or.inl ⟨by rfl, ?_⟩) (by assumption) ?_
          rotate_left
          · (intro w' hSw; (try dsimp only at hSw); go_simp <;> (with_reducible rfl))
          try simp only [Act.put, List.setIfInBounds_toArray, List.set_cons_zero, List.set_cons_succ]
          refine wpAnyH_take (i := 8) (oi := ⟨some 22, _, _, _, _, _⟩) (v := ?_) rfl (by kernel_rfl) (by kernel_rfl) (by kernel_rfl) (fun _ _ _ h => h) (Or.inl ⟨by rfl, ?_⟩) (by assumption) ?_
          rotate_left
          · (intro w' hSw; (try dsimp only at hSw); go_simp <;> (with_reducible rfl))
          try simp only [Act.put, List.setIfInBounds_toArray, List.set_cons_zero, List.set_cons_succ]
          refine wpAnyH_take (i := 9) (oi := ⟨some 23, _, _, _, _, _⟩) (v := ?_) rfl (by kernel_rfl) (by kernel_rfl) (by kernel_rfl) (fun _ _ _ h => h) (Or.inl ⟨by rfl, ?_⟩) (by assumption) ?_
          rotate_left
          · (intro w' hSw; (try dsimp only at hSw); go_simp <;> (with_reducible rfl))
          try simp only [Act.put, List.setIfInBounds_toArray, List.set_cons_zero, List.set_cons_succ]
          refine wpAnyH_take (i := 10) (oi := ⟨some 24, _, _, _, _, _⟩) (v := ?_) rfl (by kernel_rfl) (by kernel_rfl) (by kernel_rfl) (fun _ _ _ h => h) (Or.inl ⟨by rfl, ?_⟩) (by assumption) ?_
          rotate_left
          · (intro w' hSw; (try dsimp only at hSw); go_simp <;> (with_reducible rfl))
          try simp only [Act.put, List.setIfInBounds_toArray, List.set_cons_zero, List.set_cons_succ]
          refine wpAnyH_ready (rs := [3, 7]) (by kernel_rfl) (by simp) ?_
          refine AllReadyH.cons (o := ⟨some 17, _, _, _, _, _⟩) rfl (fun K' hK => ?_) (AllReadyH.cons (o := ⟨some 21, _, _, _, _, _⟩) rfl (fun K' hK => ?_) AllReadyH.nil)
          · skip
            go_simp
            refine hK.out _ _ ⟨p0, p1⟩ (fun hHeld => ?_)
            clear hK K'
            try simp only [Act.put, List.setIfInBounds_toArray, List.set_cons_zero, List.set_cons_succ]
            refine wpAnyH_ready (rs := [7]) (by kernel_rfl) (by simp) ?_
            refine AllReadyH.cons (o := ⟨some 21, _, _, _, _, _⟩) rfl (fun K' hK => ?_) AllReadyH.nil
            go_simp
            go_at_call 53
            refine (HNO.out _).mono ?_
            rintro r' v2 ⟨rfl, hb2⟩
            have hc2 : Below wB.heap.size wB v2 := by first | exact hb2 | exact below_of_drew hb2 | exact below_of_drew (below_of_drew hb2)
            have A2 := hA.below hc2
            have Z2 := hZ.below hc2
            have B2 := hXA.below hc2
            have hB2_ := hB.trans (hc2.mono (Nat.le_of_lt hXA.lt))
            clear z0 z1 z2 z3 f0 f1 f2 f3 p0 p1
            obtain ⟨z0, z1, z2, z3⟩ := A2.cells hk8
            rw [HSF.out] at z0 z1 z2 z3
            obtain ⟨f0, f1, f2, f3⟩ := A2.frozen4 k
            obtain ⟨p0, p1⟩ := HPC.out _ B2
            go_wp2_with fail
            refine hK.out _ _ ⟨p0, p1⟩ (fun hHeld => ?_)
            clear hK K'
            try simp only [Act.put, List.setIfInBounds_toArray, List.set_cons_zero, List.set_cons_succ]
            refine wpAnyH_ready (rs := [11]) (by kernel_rfl) (by simp) ?_
            refine AllReadyH.cons (o := ⟨some 25, _, _, _, _, _⟩) rfl (fun K' hK => ?_) AllReadyH.nil
            go_simp
            go_at_call 52
            refine (HTU.out _).mono ?_
            rintro r' v3 ⟨rfl, hb3⟩
            have hc3 : Below v2.heap.size v2 v3 := by first | exact hb3 | exact below_of_drew hb3 | exact below_of_drew (below_of_drew hb3)
            have A3 := A2.below hc3
            have Z3 := Z2.below hc3
            have B3 := B2.below hc3
            have hB3_ := hB2_.trans (hc3.mono (Nat.le_of_lt B2.lt))
            clear z0 z1 z2 z3 f0 f1 f2 f3 p0 p1
            obtain ⟨z0, z1, z2, z3⟩ := A3.cells hk8
            rw [HSF.out] at z0 z1 z2 z3
            obtain ⟨f0, f1, f2, f3⟩ := A3.frozen4 k
            obtain ⟨p0, p1⟩ := HPC.out _ B3
            go_wp2_with fail
            refine hK.out _ _ ⟨p0, p1⟩ (fun hHeld => ?_)
            clear hK K'
            try simp only [Act.put, List.setIfInBounds_toArray, List.set_cons_zero, List.set_cons_succ]
            refine wpAnyH_ready (rs := [12]) (by kernel_rfl) (by simp) ?_
            refine AllReadyH.cons (o := ⟨some 26, _, _, _, _, _⟩) rfl (fun K' hK => ?_) AllReadyH.nil
            go_simp
            go_at_call 51
            refine (HPL.out _).mono ?_
            rintro r' v4 ⟨rfl, hb4⟩
            have hc4 : Below v3.heap.size v3 v4 := by first | exact hb4 | exact below_of_drew hb4 | exact below_of_drew (below_of_drew hb4)
            have A4 := A3.below hc4
            have Z4 := Z3.below hc4
            have B4 := B3.below hc4
            have hB4_ := hB3_.trans (hc4.mono (Nat.le_of_lt B3.lt))
            clear z0 z1 z2 z3 f0 f1 f2 f3 p0 p1
            obtain ⟨z0, z1, z2, z3⟩ := A4.cells hk8
            rw [HSF.out] at z0 z1 z2 z3
            obtain ⟨f0, f1, f2, f3⟩ := A4.frozen4 k
            obtain ⟨p0, p1⟩ := HPC.out _ B4
            go_wp2_with fail
            refine hK.out _ _ ⟨p0, p1⟩ (fun hHeld => ?_)
            clear hK K'
            try simp only [Act.put, List.setIfInBounds_toArray, List.set_cons_zero, List.set_cons_succ]
            refine wpAnyH_ready (rs := [13]) (by kernel_rfl) (by simp) ?_
            refine AllReadyH.cons (o := ⟨some 27, _, _, _, _, _⟩) rfl (fun K' hK => ?_) AllReadyH.nil
            go_simp
            refine hK.out _ _ ⟨p0, p1⟩ (fun hHeld => ?_)
            clear hK K'
            try simp only [Act.put, List.setIfInBounds_toArray, List.set_cons_zero, List.set_cons_succ]
            refine wpAnyH_ready (rs := [14]) (by kernel_rfl) (by simp) ?_
            refine AllReadyH.cons (o := ⟨none, _, _, _, _, _⟩) rfl (fun K' hK => ?_) AllReadyH.nil
            go_simp
            have HL6 := hide (Below.put4at (c := b5) (o := k * 4) hB4_ hw5 (.int .i64 tt.a) (.int .i64 tt.b) (.int .i64 tt.c) (.int .i64 tt.d))
            have HA6 := hide (A4.put k tt)
            have HZ6 := hide (Z4.other (c := b5) (o := k * 4) hz5 (.int .i64 tt.a) (.int .i64 tt.b) (.int .i64 tt.c) (.int .i64 tt.d))
            have HB6 := hide (B4.other4 (c := b5) (o := k * 4) hx5 (.int .i64 tt.a) (.int .i64 tt.b) (.int .i64 tt.c) (.int .i64 tt.d))
            refine hK.out _ _ (by obtain ⟨p0, p1⟩ := HPC.out _ HB6.out; exact ⟨p0, p1⟩) (fun hHeld => ?_)
            clear hK K'
            try simp only [Act.put, List.setIfInBounds_toArray, List.set_cons_zero, List.set_cons_succ]
            clear z0 z1 z2 z3 f0 f1 f2 f3 p0 p1
            refine wpAnyH_done (by kernel_rfl) ?_ _
            go_wp2_with fail
            go_roundw
            case rel => exact ⟨j + 1, by omega, by go_num, HZ6.out, HB6.out, by rw [HTT.out]; exact HA6.out.congr HEE.out, HL6.out⟩
            case measure => simp [Go.RowKit.intOf]; omega
          · skip
            go_simp
            go_at_call 53
            refine (HNO.out _).mono ?_
            rintro r' v7 ⟨rfl, hb7⟩
            have hc7 : Below wB.heap.size wB v7 := by first | exact hb7 | exact below_of_drew hb7 | exact below_of_drew (below_of_drew hb7)
            have A7 := hA.below hc7
            have Z7 := hZ.below hc7
            have B7 := hXA.below hc7
            have hB7_ := hB.trans (hc7.mono (Nat.le_of_lt hXA.lt))
            clear z0 z1 z2 z3 f0 f1 f2 f3 p0 p1
            obtain ⟨z0, z1, z2, z3⟩ := A7.cells hk8
            rw [HSF.out] at z0 z1 z2 z3
            obtain ⟨f0, f1, f2, f3⟩ := A7.frozen4 k
            obtain ⟨p0, p1⟩ := HPC.out _ B7
            go_wp2_with fail
            refine hK.out _ _ ⟨p0, p1⟩ (fun hHeld => ?_)
            clear hK K'
            try simp only [Act.put, List.setIfInBounds_toArray, List.set_cons_zero, List.set_cons_succ]
            refine wpAnyH_ready (rs := [3, 11]) (by kernel_rfl) (by simp) ?_
            refine AllReadyH.cons (o := ⟨some 17, _, _, _, _, _⟩) rfl (fun K' hK => ?_) (AllReadyH.cons (o := ⟨some 25, _, _, _, _, _⟩) rfl (fun K' hK => ?_) AllReadyH.nil)
            · skip
              go_simp
              refine hK.out _ _ ⟨p0, p1⟩ (fun hHeld => ?_)
              clear hK K'
              try simp only [Act.put, List.setIfInBounds_toArray, List.set_cons_zero, List.set_cons_succ]
              refine wpAnyH_ready (rs := [11]) (by kernel_rfl) (by simp) ?_
              refine AllReadyH.cons (o := ⟨some 25, _, _, _, _, _⟩) rfl (fun K' hK => ?_) AllReadyH.nil
              go_simp
              go_at_call 52
              refine (HTU.out _).mono ?_
              rintro r' v9 ⟨rfl, hb9⟩
              have hc9 : Below v7.heap.size v7 v9 := by first | exact hb9 | exact below_of_drew hb9 | exact below_of_drew (below_of_drew hb9)
              have A9 := A7.below hc9
              have Z9 := Z7.below hc9
              have B9 := B7.below hc9
              have hB9_ := hB7_.trans (hc9.mono (Nat.le_of_lt B7.lt))
              clear z0 z1 z2 z3 f0 f1 f2 f3 p0 p1
              obtain ⟨z0, z1, z2, z3⟩ := A9.cells hk8
              rw [HSF.out] at z0 z1 z2 z3
              obtain ⟨f0, f1, f2, f3⟩ := A9.frozen4 k
              obtain ⟨p0, p1⟩ := HPC.out _ B9
              go_wp2_with fail
              refine hK.out _ _ ⟨p0, p1⟩ (fun hHeld => ?_)
              clear hK K'
              try simp only [Act.put, List.setIfInBounds_toArray, List.set_cons_zero, List.set_cons_succ]
              refine wpAnyH_ready (rs := [12]) (by kernel_rfl) (by simp) ?_
              refine AllReadyH.cons (o := ⟨some 26, _, _, _, _, _⟩) rfl (fun K' hK => ?_) AllReadyH.nil
              go_simp
              go_at_call 51
              refine (HPL.out _).mono ?_
              rintro r' v10 ⟨rfl, hb10⟩
              have hc10 : Below v9.heap.size v9 v10 := by first | exact hb10 | exact below_of_drew hb10 | exact below_of_drew (below_of_drew hb10)
              have A10 := A9.below hc10
              have Z10 := Z9.below hc10
              have B10 := B9.below hc10
              have hB10_ := hB9_.trans (hc10.mono (Nat.le_of_lt B9.lt))
              clear z0 z1 z2 z3 f0 f1 f2 f3 p0 p1
              obtain ⟨z0, z1, z2, z3⟩ := A10.cells hk8
              rw [HSF.out] at z0 z1 z2 z3
              obtain ⟨f0, f1, f2, f3⟩ := A10.frozen4 k
              obtain ⟨p0, p1⟩ := HPC.out _ B10
              go_wp2_with fail
              refine hK.out _ _ ⟨p0, p1⟩ (fun hHeld => ?_)
              clear hK K'
              try simp only [Act.put, List.setIfInBounds_toArray, List.set_cons_zero, List.set_cons_succ]
              refine wpAnyH_ready (rs := [13]) (by kernel_rfl) (by simp) ?_
              refine AllReadyH.cons (o := ⟨some 27, _, _, _, _, _⟩) rfl (fun K' hK => ?_) AllReadyH.nil
              go_simp
              refine hK.out _ _ ⟨p0, p1⟩ (fun hHeld => ?_)
              clear hK K'
              try simp only [Act.put, List.setIfInBounds_toArray, List.set_cons_zero, List.set_cons_succ]
              refine wpAnyH_ready (rs := [14]) (by kernel_rfl) (by simp) ?_
              refine AllReadyH.cons (o := ⟨none, _, _, _, _, _⟩) rfl (fun K' hK => ?_) AllReadyH.nil
              go_simp
              have HL12 := hide (Below.put4at (c := b5) (o := k * 4) hB10_ hw5 (.int .i64 tt.a) (.int .i64 tt.b) (.int .i64 tt.c) (.int .i64 tt.d))
              have HA12 := hide (A10.put k tt)
              have HZ12 := hide (Z10.other (c := b5) (o := k * 4) hz5 (.int .i64 tt.a) (.int .i64 tt.b) (.int .i64 tt.c) (.int .i64 tt.d))
              have HB12 := hide (B10.other4 (c := b5) (o := k * 4) hx5 (.int .i64 tt.a) (.int .i64 tt.b) (.int .i64 tt.c) (.int .i64 tt.d))
              refine hK.out _ _ (by obtain ⟨p0, p1⟩ := HPC.out _ HB12.out; exact ⟨p0, p1⟩) (fun hHeld => ?_)
              clear hK K'
              try simp only [Act.put, List.setIfInBounds_toArray, List.set_cons_zero, List.set_cons_succ]
              clear z0 z1 z2 z3 f0 f1 f2 f3 p0 p1
              refine wpAnyH_done (by kernel_rfl) ?_ _
              go_wp2_with fail
              go_roundw
              case rel => exact ⟨j + 1, by omega, by go_num, HZ12.out, HB12.out, by rw [HTT.out]; exact HA12.out.congr HEE.out, HL12.out⟩
              case measure => simp [Go.RowKit.intOf]; omega
            · skip
              go_simp
              go_at_call 52
              refine (HTU.out _).mono ?_
              rintro r' v13 ⟨rfl, hb13⟩
              have hc13 : Below v7.heap.size v7 v13 := by first | exact hb13 | exact below_of_drew hb13 | exact below_of_drew (below_of_drew hb13)
              have A13 := A7.below hc13
              have Z13 := Z7.below hc13
              have B13 := B7.below hc13
              have hB13_ := hB7_.trans (hc13.mono (Nat.le_of_lt B7.lt))
              clear z0 z1 z2 z3 f0 f1 f2 f3 p0 p1
              obtain ⟨z0, z1, z2, z3⟩ := A13.cells hk8
              rw [HSF.out] at z0 z1 z2 z3
              obtain ⟨f0, f1, f2, f3⟩ := A13.frozen4 k
              obtain ⟨p0, p1⟩ := HPC.out _ B13
              go_wp2_with fail
              refine hK.out _ _ ⟨p0, p1⟩ (fun hHeld => ?_)
              clear hK K'
              try simp only [Act.put, List.setIfInBounds_toArray, List.set_cons_zero, List.set_cons_succ]
              refine wpAnyH_ready (rs := [3]) (by kernel_rfl) (by simp) ?_
              refine AllReadyH.cons (o := ⟨some 17, _, _, _, _, _⟩) rfl (fun K' hK => ?_) AllReadyH.nil
              go_simp
              refine hK.out _ _ ⟨p0, p1⟩ (fun hHeld => ?_)
              clear hK K'
              try simp only [Act.put, List.setIfInBounds_toArray, List.set_cons_zero, List.set_cons_succ]
              refine wpAnyH_ready (rs := [12]) (by kernel_rfl) (by simp) ?_
              refine AllReadyH.cons (o := ⟨some 26, _, _, _, _, _⟩) rfl (fun K' hK => ?_) AllReadyH.nil
              go_simp
              go_at_call 51
              refine (HPL.out _).mono ?_
              rintro r' v15 ⟨rfl, hb15⟩
              have hc15 : Below v13.heap.size v13 v15 := by first | exact hb15 | exact below_of_drew hb15 | exact below_of_drew (below_of_drew hb15)
              have A15 := A13.below hc15
              have Z15 := Z13.below hc15
              have B15 := B13.below hc15
              have hB15_ := hB13_.trans (hc15.mono (Nat.le_of_lt B13.lt))
              clear z0 z1 z2 z3 f0 f1 f2 f3 p0 p1
              obtain ⟨z0, z1, z2, z3⟩ := A15.cells hk8
              rw [HSF.out] at z0 z1 z2 z3
              obtain ⟨f0, f1, f2, f3⟩ := A15.frozen4 k
              obtain ⟨p0, p1⟩ := HPC.out _ B15
              go_wp2_with fail
              refine hK.out _ _ ⟨p0, p1⟩ (fun hHeld => ?_)
              clear hK K'
              try simp only [Act.put, List.setIfInBounds_toArray, List.set_cons_zero, List.set_cons_succ]
              refine wpAnyH_ready (rs := [13]) (by kernel_rfl) (by simp) ?_
              refine AllReadyH.cons (o := ⟨some 27, _, _, _, _, _⟩) rfl (fun K' hK => ?_) AllReadyH.nil
              go_simp
              refine hK.out _ _ ⟨p0, p1⟩ (fun hHeld => ?_)
              clear hK K'
              try simp only [Act.put, List.setIfInBounds_toArray, List.set_cons_zero, List.set_cons_succ]
              refine wpAnyH_ready (rs := [14]) (by kernel_rfl) (by simp) ?_
              refine AllReadyH.cons (o := ⟨none, _, _, _, _, _⟩) rfl (fun K' hK => ?_) AllReadyH.nil
              go_simp
              have HL17 := hide (Below.put4at (c := b5) (o := k * 4) hB15_ hw5 (.int .i64 tt.a) (.int .i64 tt.b) (.int .i64 tt.c) (.int .i64 tt.d))
              have HA17 := hide (A15.put k tt)
              have HZ17 := hide (Z15.other (c := b5) (o := k * 4) hz5 (.int .i64 tt.a) (.int .i64 tt.b) (.int .i64 tt.c) (.int .i64 tt.d))
              have HB17 := hide (B15.other4 (c := b5) (o := k * 4) hx5 (.int .i64 tt.a) (.int .i64 tt.b) (.int .i64 tt.c) (.int .i64 tt.d))
              refine hK.out _ _ (by obtain ⟨p0, p1⟩ := HPC.out _ HB17.out; exact ⟨p0, p1⟩) (fun hHeld => ?_)
              clear hK K'
              try simp only [Act.put, List.setIfInBounds_toArray, List.set_cons_zero, List.set_cons_succ]
              clear z0 z1 z2 z3 f0 f1 f2 f3 p0 p1
              refine wpAnyH_done (by kernel_rfl) ?_ _
              go_wp2_with fail
              go_roundw
              case rel => exact ⟨j + 1, by omega, by go_num, HZ17.out, HB17.out, by rw [HTT.out]; exact HA17.out.congr HEE.out, HL17.out⟩
              case measure => simp [Go.RowKit.intOf]; omega
        · obtain rfl : j = 8 := by omega
          go_wp2_with fail
          go_roundw
          case rel =>
            refine ⟨k + 1, by omega, by go_num, hZ, hXA, hA.congr fun q _ => ?_, hB⟩
            show (if q = k then sumF (Z k) 8 else E q) = if q < k + 1 then sumF (Z q) 8 else Num.zero
            by_cases e : q = k
            · subst e; rw [if_pos rfl, if_pos (by omega)]
            · rw [if_neg e, HE.out]
              show (if q < k then _ else Num.zero) = _
              by_cases e2 : q < k
              · rw [if_pos e2, if_pos (by omega)]
              · rw [if_neg e2, if_neg (by omega)]
          case measure => simp [Go.RowKit.intOf]; omega
    · obtain rfl : k = 8 := by omega
      have HZ := hide hZ
      have HA := hide (hA.congr (G := fun k => sumF (Z k) 8) fun q hq => if_pos hq)
      go_wp2_with (first | (refine wpList_load8 rfl (.tmp 3) rfl b5 (fun k => sumF (Z k) 8) rfl HA.out ?_) | (refine wpList_store8 rfl (.tmp 2) (.tmp 28) rfl b1 (fun _ => Num.zero) (fun k => sumF (Z k) 8) rfl rfl HZ.out ?_; intro W2 r2 o2))
      refine bodyPost_ret (v := .agg (arr8 fun k => sumF (Z k) 8)) (result1n rfl _ rfl r2) rfl ⟨rfl, ?_⟩
      rw [HW0.out]
      exact hB.trans (o2.to_below h01' (Nat.le_of_lt hXA.lt))
end Go.Proofs.Ytfemghbjngemlaa
/- samplesOf, Samples, Transform of the code. -/
namespace Go.Proofs.Ytfemghbjngemlaa
open Go.RowKit Go.Great
/-- The samples of entries, and the transform of samples. -/
def smpF (F : Nat → Gau) (n : Nat) : Num := sumF (fun m => tz (gN (F m).re (F m).im) ((m : Int) * (n : Int))) 8
def trnF (X : Nat → Num) (k : Nat) : Num := sumF (fun n => tz (X n) (-(k : Int) * (n : Int))) 8
theorem turnedSums_samples (F : Nat → Gau) (hF : ∀ n, n < 8 → (F n).Within 10000) (w : World) :
    Calls Try.prog 49 #[.agg (arr8 fun q => gN (F q).re (F q).im), .int .i64 1] w fun e w' => e = .returned (.agg (arr8 (smpF F))) ∧ Below w.heap.size w w' := by
  have h := turnedSums_any (fun q => gN (F q).re (F q).im) 1 (by decide) (fun n hn => (gN_within (hF n hn)).more (by decide)) w
  have e : (fun k : Nat => sumF ((fun (k n : Nat) => tz (gN (F n).re (F n).im) (1 * (k : Int) * (n : Int))) k) 8) = smpF F := by
    funext n
    unfold smpF
    exact sumF_congr fun m _ => by
      show tz (gN (F m).re (F m).im) (1 * (n : Int) * (m : Int)) = _
      rw [Int.one_mul, Int.mul_comm]
  rw [← e]
  exact h
theorem turnedSums_transform (X : Nat → Num) (hX : ∀ n, n < 8 → (X n).Within 1000000000) (w : World) :
    Calls Try.prog 49 #[.agg (arr8 X), .int .i64 (-1)] w fun e w' => e = .returned (.agg (arr8 (trnF X))) ∧ Below w.heap.size w w' := by
  have h := turnedSums_any X (-1) (by decide) hX w
  have e : (fun k : Nat => sumF ((fun (k n : Nat) => tz (X n) (-1 * (k : Int) * (n : Int))) k) 8) = trnF X := by
    funext n
    unfold trnF
    exact sumF_congr fun m _ => by
      show tz (X m) (-1 * (n : Int) * (m : Int)) = tz (X m) (-(n : Int) * (m : Int))
      rw [show (-1 : Int) * (n : Int) = -(n : Int) by omega]
  rw [← e]
  exact h
theorem gN_zero : gN 0 0 = Num.zero := rfl
set_option maxHeartbeats 8000000 in
set_option maxRecDepth 100000 in
theorem samplesOf_any (F : Nat → Gau) (hF : ∀ n, n < 8 → (F n).Within 10000) (w : World) :
    Calls Try.prog 47 #[.agg (arrG8 F)] w fun e w' => e = .returned (.agg (arr8 (smpF F))) ∧ Below w.heap.size w w' := by
  have HTS := hide (fun W => turnedSums_samples F hF W)
  have HNO := hide (fun k W => numberOf_any (F k).re (F k).im W)
  clear hF
  generalize smpF F = Y at *
  go_enter Try.func47, Try.ntmps47
  go_upto_region 1 with (first
    | (refine wpList_boxTo rfl 24 (.tmp 0) rfl _ rfl w.heap.size rfl (arrG8 F) rfl ?_; obtain ⟨W0, hW0⟩ : ∃ q : World, q = w.alloc (.cells (arrG8 F) 24) := ⟨_, rfl⟩; rw [← hW0])
    | (refine wpList_allocTo rfl (some 2) rfl (.pointer (some ⟨W0.heap.size, 0, none⟩)) (.cells (arr8 fun _ => Num.zero) 27) (by kernel_rfl) ?_))
  have x0 : ArrG8 W0 w.heap.size F := by rw [hW0]; exact ArrG8.at_alloc w _ _ rfl
  have hB0 : Below w.heap.size w W0 := by rw [hW0]; (repeat (first | (with_reducible exact Below.refl _ _) | (with_reducible refine Go.below_drewN ?_ _) | (with_reducible refine Below.drew ?_) | (with_reducible refine Below.alloc ?_ (by first | exact Nat.le_refl _ | (simp; done) | (simp; omega) | omega) _) | (with_reducible refine Below.setCell ?_ (by first | exact Nat.le_refl _ | (simp; done) | (simp; omega) | omega) _)))
  have hs0 : w.heap.size < W0.heap.size := by rw [hW0]; simp
  clear hW0
  obtain ⟨b0, hb0⟩ : ∃ g, w.heap.size = g := ⟨_, rfl⟩
  obtain ⟨b1, hb1⟩ : ∃ g, W0.heap.size = g := ⟨_, rfl⟩
  obtain ⟨W1, hW1⟩ : ∃ q : World, q = W0.alloc (.cells (arr8 fun _ => Num.zero) 27) := ⟨_, rfl⟩
  rw [← hW1]
  have r1 : ArrNums W1 b1 (fun _ => Num.zero) := by rw [hW1]; exact arrNums_alloc W0 _ _ hb1.symm
  have x1 : ArrG8 W1 b0 F := by rw [hW1, ← hb0]; exact x0.alloc _
  have hB1 : Below b0 w W1 := by rw [hW1, ← hb0]; exact hB0.alloc hB0.size _
  have hs1 : b1 < W1.heap.size := by rw [hW1, ← hb1]; simp
  have h01 : b0 ≠ b1 := by omega
  have h01' : b0 ≤ b1 := by omega
  clear hW1 x0 hB0
  go_upto_region 2 with (refine wpList_allocTo rfl (some 3) rfl (.pointer (some ⟨W1.heap.size, 0, none⟩)) (.cells (arr8 fun _ => Num.zero) 27) (by kernel_rfl) ?_)
  obtain ⟨W3, hW3⟩ : ∃ q : World, q = W1.alloc (.cells (arr8 fun _ => Num.zero) 27) := ⟨_, rfl⟩
  rw [← hW3]
  obtain ⟨b5, hb5⟩ : ∃ g, W1.heap.size = g := ⟨_, rfl⟩
  have a3 : ArrNums W3 b5 (fun _ => Num.zero) := by rw [hW3]; exact arrNums_alloc W1 _ _ hb5.symm
  replace r1 : ArrNums W3 b1 (fun _ => Num.zero) := by rw [hW3]; exact r1.alloc _
  replace x1 : ArrG8 W3 b0 F := by rw [hW3]; exact x1.alloc _
  have hB3 : Below b0 w W3 := by rw [hW3]; exact hB1.alloc (by omega) _
  have hw5 : b0 ≤ b5 := by omega
  have hz5 : b1 ≠ b5 := by omega
  have HW0 := hide hb0
  clear hW3 hB1 hs0 hs1
  have HX1 := hide x1
  simp only [hb0, hb1, hb5]
  go_wp2_with (refine wpList_loadG8 rfl (.tmp 1) rfl b0 F rfl HX1.out ?_)
  go_loopw [7] (fun i wr => ∃ k : Nat, k ≤ 8 ∧ i = .int .i64 (k : Int) ∧ ArrNums wr b1 (fun _ => Num.zero) ∧ ArrNums wr b5 (fun q => if q < k then gN (F q).re (F q).im else Num.zero) ∧ Below b0 w wr) (fun i _ => 8 - (Go.RowKit.intOf i).toNat)
  case atStart => exact ⟨0, by decide, rfl, r1, a3.congr fun q _ => by rw [if_neg (Nat.not_lt_zero q)], hB3⟩
  case round =>
    clear r1 a3 hB3 x1 HX1
    obtain ⟨k, hk, rfl, hZ, hA, hB⟩ := hrel
    obtain ⟨wA, rfl⟩ : ∃ q : World, q = wr := ⟨_, rfl⟩
    by_cases hk8 : k < 8
    · have hk8z : (k : Int) < 8 := by omega
      obtain ⟨E, hE⟩ : ∃ E : Nat → Num, E = fun q => if q < k then gN (F q).re (F q).im else Num.zero := ⟨_, rfl⟩
      have HE := hide hE
      rw [← hE] at hA
      clear hE
      go_upto_region 5 with (refine wpList_indexG8 rfl (.tmp 6) (.tmp 7) rfl F k rfl rfl hk8 ?_)
      have HNK := hide (HNO.out k)
      have HPU := hide (show ∀ q, q < 8 → setNum E k (gN (F k).re (F k).im) q = if q < k + 1 then gN (F q).re (F q).im else Num.zero from fun q _ => by
        show (if q = k then _ else E q) = _
        by_cases e : q = k
        · subst e; rw [if_pos rfl, if_pos (by omega)]
        · rw [if_neg e, HE.out]
          show (if q < k then _ else Num.zero) = _
          by_cases e2 : q < k
          · rw [if_pos e2, if_pos (by omega)]
          · rw [if_neg e2, if_neg (by omega)])
      obtain ⟨re, hre⟩ : ∃ z, (F k).re = z := ⟨_, rfl⟩
      obtain ⟨im, him⟩ : ∃ z, (F k).im = z := ⟨_, rfl⟩
      rw [hre, him] at HNK HPU ⊢
      obtain ⟨W1, hW1⟩ : ∃ q : World, q = wA.alloc (.cells #[.int .i64 re, .int .i64 im] 23) := ⟨_, rfl⟩
      rw [← hW1]
      obtain ⟨g8, hg8⟩ : ∃ g, wA.heap.size = g := ⟨_, rfl⟩
      have b8 : Box W1 g8 23 #[.int .i64 re, .int .i64 im] := by rw [hW1]; exact Box.made hg8.symm
      have hb05 : b0 ≤ wA.heap.size := by have := hA.lt; omega
      replace hA : ArrNums W1 b5 E := by rw [hW1]; exact hA.alloc _
      replace hZ : ArrNums W1 b1 (fun _ => Num.zero) := by rw [hW1]; exact hZ.alloc _
      have hB1 : Below b0 w W1 := by rw [hW1]; exact hB.alloc hb05 _
      have hs1 : b0 ≤ W1.heap.size := by have := hA.lt; omega
      clear hW1 hB hre him
      have e0 := b8.at_ 0
      have e1 := b8.at_ 1
      simp only [List.getElem?_toArray] at e0 e1
      go_wp2_with fail
      refine (HNK.out _).mono ?_
      rintro e v1 ⟨rfl, hv1⟩
      replace hA := hA.below hv1
      replace hZ := hZ.below hv1
      have hB2 := hB1.trans (hv1.mono hs1)
      clear e0 e1 b8 hB1 hv1
      obtain ⟨z0, z1, z2, z3⟩ := hA.cells hk8
      obtain ⟨f0, f1, f2, f3⟩ := hA.frozen4 k
      have HA2 := hide (hA.put k (gN re im))
      have HZ2 := hide (hZ.other (c := b5) (o := k * 4) hz5 (.int .i64 re) (.int .i64 0) (.int .i64 im) (.int .i64 0))
      have HL2 := hide (Below.put4at (c := b5) (o := k * 4) hB2 hw5 (.int .i64 re) (.int .i64 0) (.int .i64 im) (.int .i64 0))
      go_wp2_with fail
      go_roundw
      case rel => exact ⟨k + 1, by omega, by go_num, HZ2.out, HA2.out.congr HPU.out, HL2.out⟩
      case measure => simp [Go.RowKit.intOf]; omega
    · obtain rfl : k = 8 := by omega
      have HZ := hide hZ
      have HA := hide (hA.congr (G := fun q => gN (F q).re (F q).im) fun q hq => if_pos hq)
      go_wp2_with (refine wpList_load8 rfl (.tmp 3) rfl b5 (fun q => gN (F q).re (F q).im) rfl HA.out ?_)
      refine (HTS.out _).mono ?_
      rintro e v1 ⟨rfl, hv1⟩
      have HZ1 := hide (HZ.out.below hv1)
      have hB1 := hB.trans (hv1.mono (by have := HA.out.lt; omega))
      have hlt := HZ1.out.lt
      go_wp2_with (refine wpList_store8 rfl (.tmp 2) (.tmp 17) rfl b1 (fun _ => Num.zero) Y rfl rfl HZ1.out ?_; intro W2 r2 o2)
      refine bodyPost_ret (v := .agg (arr8 Y)) (result1n rfl _ rfl r2) rfl ⟨rfl, ?_⟩
      rw [HW0.out]
      exact hB1.trans (o2.to_below h01' (by omega))
end Go.Proofs.Ytfemghbjngemlaa
