/- Lemmas: Ap. -/
import Derived.Test.YtfemghbjngemlaaBk07
import Derived.Test.YtfemghbjngemlaaBk17
set_option linter.unusedVariables false
set_option linter.unusedSimpArgs false
/- Transform of the reference. -/
namespace Go.Proofs.Ytfemghbjngemlaa
open Go.RowKit Go.Great
set_option maxHeartbeats 8000000 in
set_option maxRecDepth 100000 in
theorem transformR_any (X : Nat → Num) (hX : ∀ n, n < 8 → (X n).Within 1000000000) (w : World) :
    Calls Try.prog 15 #[.agg (arr8 X)] w fun e w' => e = .returned (.agg (arr8 fun k => sumF ((fun (k n : Nat) => tz (X n) (-(k : Int) * (n : Int)) : Nat → Nat → Num) k) 8)) ∧ Below w.heap.size w w' := by
  obtain ⟨Z, hZd⟩ : ∃ Z : Nat → Nat → Num, Z = fun (k n : Nat) => tz (X n) (-(k : Int) * (n : Int)) := ⟨_, rfl⟩
  have HXW := hide hX
  have HZW := hide (fun k i (hi : i < 8) => (show (Z k i).Within 1000000000 from by rw [hZd]; exact tz_within (HXW.out i hi) _))
  have HZE := hide (fun (k j : Nat) => (show Z k j = (X j).turns ((-(k : Int) * (j : Int)) % 8).toNat from by rw [hZd]; rfl))
  rw [← hZd]
  clear hZd hX
  go_enter Try.func15, Try.ntmps15
  go_upto_region 1 with (first
    | (refine wpList_boxTo rfl 27 (.tmp 0) rfl _ rfl w.heap.size rfl (arr8 X) rfl ?_; obtain ⟨W0, hW0⟩ : ∃ q : World, q = w.alloc (.cells (arr8 X) 27) := ⟨_, rfl⟩; rw [← hW0])
    | (refine wpList_allocTo rfl (some 2) rfl (.pointer (some ⟨W0.heap.size, 0, none⟩)) (.cells (arr8 fun _ => Num.zero) 27) (by kernel_rfl) ?_))
  have x0 : ArrNums W0 w.heap.size X := by rw [hW0]; exact arrNums_alloc w _ _ rfl
  have hB0 : Below w.heap.size w W0 := by rw [hW0]; (repeat (first | (with_reducible exact Below.refl _ _) | (with_reducible refine Go.below_drewN ?_ _) | (with_reducible refine Below.drew ?_) | (with_reducible refine Below.alloc ?_ (by first | exact Nat.le_refl _ | (simp; done) | (simp; omega) | omega) _) | (with_reducible refine Below.setCell ?_ (by first | exact Nat.le_refl _ | (simp; done) | (simp; omega) | omega) _)))
  have hs0 : w.heap.size < W0.heap.size := by rw [hW0]; simp
  clear hW0
  obtain ⟨b0, hb0⟩ : ∃ g, w.heap.size = g := ⟨_, rfl⟩
  obtain ⟨b1, hb1⟩ : ∃ g, W0.heap.size = g := ⟨_, rfl⟩
  obtain ⟨W1, hW1⟩ : ∃ q : World, q = W0.alloc (.cells (arr8 fun _ => Num.zero) 27) := ⟨_, rfl⟩
  rw [← hW1]
  have r1 : ArrNums W1 b1 (fun _ => Num.zero) := by rw [hW1]; exact arrNums_alloc W0 _ _ hb1.symm
  have x1 : ArrNums W1 b0 X := by rw [hW1, ← hb0]; exact x0.alloc _
  have hB1 : Below b0 w W1 := by rw [hW1, ← hb0]; exact hB0.alloc hB0.size _
  have hs1 : b1 < W1.heap.size := by rw [hW1, ← hb1]; simp
  have h01 : b0 ≠ b1 := by omega
  have h01' : b0 ≤ b1 := by omega
  skip
  clear hW1 x0 hB0
  go_upto_region 2 with (refine wpList_allocTo rfl (some 3) rfl (.pointer (some ⟨W1.heap.size, 0, none⟩)) (.cells (arr8 fun _ => Num.zero) 27) (by kernel_rfl) ?_)
  obtain ⟨W3, hW3⟩ : ∃ q : World, q = W1.alloc (.cells (arr8 fun _ => Num.zero) 27) := ⟨_, rfl⟩
  rw [← hW3]
  obtain ⟨b5, hb5⟩ : ∃ g, W1.heap.size = g := ⟨_, rfl⟩
  have a3 : ArrNums W3 b5 (fun _ => Num.zero) := by rw [hW3]; exact arrNums_alloc W1 _ _ hb5.symm
  replace r1 : ArrNums W3 b1 (fun _ => Num.zero) := by rw [hW3]; exact r1.alloc _
  replace x1 : ArrNums W3 b0 X := by rw [hW3]; exact x1.alloc _
  have hB3 : Below b0 w W3 := by rw [hW3]; exact hB1.alloc (by omega) _
  have hw5 : b0 ≤ b5 := by omega
  have hz5 : b1 ≠ b5 := by omega
  have hx5 : b0 ≠ b5 := by omega
  have HW0 := hide hb0
  clear hW3 hB1 hs0 hs1
  go_wp2_with fail
  go_loopw [4] (fun i wr => ∃ k : Nat, k ≤ 8 ∧ i = .int .i64 (k : Int) ∧ ArrNums wr b1 (fun _ => Num.zero) ∧ ArrNums wr b0 X ∧ ArrNums wr b5 (fun q => if q < k then sumF (Z q) 8 else Num.zero) ∧ Below b0 w wr) (fun i _ => 8 - (Go.RowKit.intOf i).toNat)
  case atStart => exact ⟨0, by decide, rfl, r1, x1, a3.congr fun q _ => by rw [if_neg (Nat.not_lt_zero q)], hB3⟩
  case round =>
    clear r1 a3 hB3 x1
    obtain ⟨k, hk, rfl, hZ, hXA, hA, hB⟩ := hrel
    obtain ⟨wA, rfl⟩ : ∃ q : World, q = wr := ⟨_, rfl⟩
    by_cases hk8 : k < 8
    · have hk8z : (k : Int) < 8 := by omega
      go_wp2_with fail
      obtain ⟨E, hE⟩ : ∃ E : Nat → Num, E = fun q => if q < k then sumF (Z q) 8 else Num.zero := ⟨_, rfl⟩
      have HE := hide hE
      rw [← hE] at hA
      clear hE
      go_loopw [5] (fun x wr => ∃ j : Nat, j ≤ 8 ∧ x = .int .i64 (j : Int) ∧ ArrNums wr b1 (fun _ => Num.zero) ∧ ArrNums wr b0 X ∧ ArrNums wr b5 (setNum E k (sumF (Z k) j)) ∧ Below b0 w wr) (fun x _ => 8 - (Go.RowKit.intOf x).toNat)
      case atStart =>
        refine ⟨0, Nat.zero_le _, rfl, hZ, hXA, hA.congr fun q _ => ?_, hB⟩
        show E q = if q = k then Num.zero else E q
        by_cases e : q = k
        · rw [if_pos e, HE.out]
          show (if q < k then _ else Num.zero) = _
          rw [if_neg (by omega)]
        · rw [if_neg e]
      case round =>
        clear hZ hA hB hXA
        obtain ⟨j, hj, rfl, hZ, hXA, hA, hB⟩ := hrel
        obtain ⟨wB, rfl⟩ : ∃ q : World, q = wr := ⟨_, rfl⟩
        by_cases hjn : j < 8
        · have hjz : (j : Int) < 8 := by omega
          obtain ⟨s, hs⟩ : ∃ s, s = sumF (Z k) j := ⟨_, rfl⟩
          have hsw : s.Within 8000000000 := by rw [hs]; exact (sumF_within fun i hi => HZW.out k i (by omega)).more (by omega)
          rw [← hs] at hA
          have HEE := hide (show ∀ q, q < 8 → setNum (setNum E k s) k (sumF (Z k) (j + 1)) q = setNum E k (sumF (Z k) (j + 1)) q from fun q _ => by
            show (if q = k then _ else if q = k then s else E q) = if q = k then _ else E q
            by_cases e : q = k
            · rw [if_pos e, if_pos e]
            · rw [if_neg e, if_neg e, if_neg e])
          have HTT := hide (show sumF (Z k) (j + 1) = s.add (Z k j) from by rw [hs]; rfl)
          have HSF := hide (show setNum E k s k = s from if_pos rfl)
          have q1 : IntKind.i64.wrap (-(k : Int)) = -(k : Int) := IntWalk.i64_in _ (by omega)
          have hr := mul_within (M := 7) (N := 7) (a := -(k : Int)) (b := (j : Int)) (by omega) (by omega)
          obtain ⟨e, he⟩ : ∃ e, e = -(k : Int) * (j : Int) := ⟨_, rfl⟩
          have hze := HZE.out k j
          rw [← he] at hr hze
          have q2 : IntKind.i64.wrap (-(k : Int) * (j : Int)) = e := by rw [IntWalk.i64_in _ (by omega), he]
          have hux := HZW.out k j hjn
          have hxw := HXW.out j hjn
          obtain ⟨x, hx⟩ : ∃ q, q = X j := ⟨_, rfl⟩
          rw [← hx] at hxw hze
          have HTU := hide (fun W => turnR_any x e W (hxw.more (by decide)))
          obtain ⟨u, hu⟩ : ∃ u, u = Z k j := ⟨_, rfl⟩
          rw [← hu] at hux HTT hze
          rw [← hze] at HTU
          have HPL := hide (fun W => plusR_any s u 10000000000 W ((hsw.add hux).more (by decide)) (by decide))
          have HPC := hide (fun W (h : ArrNums W b0 X) => (show W.cell? ⟨b0, j * 4, none⟩ = some (.int .i64 x.a) ∧ W.cell? ⟨b0, j * 4 + 1, none⟩ = some (.int .i64 x.b) ∧ W.cell? ⟨b0, j * 4 + 2, none⟩ = some (.int .i64 x.c) ∧ W.cell? ⟨b0, j * 4 + 3, none⟩ = some (.int .i64 x.d) from by rw [hx]; exact h.cells hjn))
          obtain ⟨tt, htt⟩ : ∃ tt, tt = s.add u := ⟨_, rfl⟩
          rw [← htt] at HTT HPL
          rw [HTT.out] at HEE
          clear hs hu htt he hr hsw hux hxw hze hx
          obtain ⟨z0, z1, z2, z3⟩ := hA.cells hk8
          rw [HSF.out] at z0 z1 z2 z3
          obtain ⟨f0, f1, f2, f3⟩ := hA.frozen4 k
          obtain ⟨p0, p1, p2, p3⟩ := HPC.out _ hXA
          go_upto_region 8 with fail
          refine wp_region_held_drew (S := fun w' => w'.cell? ⟨b0, j * 4, none⟩ = some (.int .i64 x.a) ∧ w'.cell? ⟨b0, j * 4 + 1, none⟩ = some (.int .i64 x.b) ∧ w'.cell? ⟨b0, j * 4 + 2, none⟩ = some (.int .i64 x.c) ∧ w'.cell? ⟨b0, j * 4 + 3, none⟩ = some (.int .i64 x.d)) (by kernel_rfl) ⟨p0, p1, p2, p3⟩ (fun hHeld => ?_)
          refine wpAnyH_take (i := 0) (oi := ⟨some 14, _, _, _, _, _⟩) (v := ?_) rfl (by kernel_rfl) (by kernel_rfl) (by kernel_rfl) (fun _ _ _ h => h) (Or.inl ⟨by rfl, ?_⟩) (by assumption) ?_
          rotate_left
          · (intro w' hSw; (try dsimp only at hSw); go_simp <;> (with_reducible rfl))
          try simp only [Act.put, List.setIfInBounds_toArray, List.set_cons_zero, List.set_cons_succ]
          refine wpAnyH_take (i := 1) (oi := ⟨some 15, _, _, _, _, _⟩) (v := ?_) rfl (by kernel_rfl) (by kernel_rfl) (by kernel_rfl) (fun _ _ _ h => h) (Or.inl ⟨by rfl, ?_⟩) (by assumption) ?_
          rotate_left
          · (intro w' hSw; (try dsimp only at hSw); go_simp <;> (with_reducible rfl))
          try simp only [Act.put, List.setIfInBounds_toArray, List.set_cons_zero, List.set_cons_succ]
          refine wpAnyH_take (i := 2) (oi := ⟨some 16, _, _, _, _, _⟩) (v := ?_) rfl (by kernel_rfl) (by kernel_rfl) (by kernel_rfl) (fun _ _ _ h => h) (Or.inl ⟨by rfl, ?_⟩) (by assumption) ?_
          rotate_left
          · (intro w' hSw; (try dsimp only at hSw); go_simp <;> (with_reducible rfl))
          try simp only [Act.put, List.setIfInBounds_toArray, List.set_cons_zero, List.set_cons_succ]
          refine wpAnyH_take (i := 4) (oi := ⟨some 18, _, _, _, _, _⟩) (v := ?_) rfl (by kernel_rfl) (by kernel_rfl) (by kernel_rfl) (fun _ _ _ h => h) (Or.inl ⟨by rfl, ?_⟩) (by assumption) ?_
          rotate_left
          · (intro w' hSw; (try dsimp only at hSw); go_simp <;> (with_reducible rfl))
          try simp only [Act.put, List.setIfInBounds_toArray, List.set_cons_zero, List.set_cons_succ]
          refine wpAnyH_take (i := 5) (oi := ⟨some 19, _, _, _, _, _⟩) (v := ?_) rfl (by kernel_rfl) (by kernel_rfl) (by kernel_rfl) (fun _ _ _ h => h) (Or.inl ⟨by rfl, ?_⟩) (by assumption) ?_
          rotate_left
          · (intro w' hSw; (try dsimp only at hSw); go_simp <;> (with_reducible rfl))
          try simp only [Act.put, List.setIfInBounds_toArray, List.set_cons_zero, List.set_cons_succ]
          refine wpAnyH_take (i := 6) (oi := ⟨some 20, _, _, _, _, _⟩) (v := ?_) rfl (by kernel_rfl) (by kernel_rfl) (by kernel_rfl) (fun _ _ _ h => h) (Or.inl ⟨by rfl, ?_⟩) (by assumption) ?_
          rotate_left
          · (intro w' hSw; (try dsimp only at hSw); go_simp <;> (with_reducible rfl))
          try simp only [Act.put, List.setIfInBounds_toArray, List.set_cons_zero, List.set_cons_succ]
          refine wpAnyH_take (i := 7) (oi := ⟨some 21, _, _, _, _, _⟩) (v := ?_) rfl (by kernel_rfl) (by kernel_rfl) (by kernel_rfl) (fun _ _ _ h => h) (Or.inl ⟨by rfl, ?_⟩) (by assumption) ?_
          rotate_left
          · (intro w' hSw; (try dsimp only at hSw); go_simp <;> (with_reducible rfl))
          try simp only [Act.put, List.setIfInBounds_toArray, List.set_cons_zero, List.set_cons_succ]
          refine wpAnyH_take (i := 8) (oi := ⟨some 22, _, _, _, _, _⟩) (v := ?_) rfl (by kernel_rfl) (by kernel_rfl) (by kernel_rfl) (fun _ _ _ h => h) (Or.inl ⟨by rfl, ?_⟩) (by assumption) ?_
          rotate_left
          · (intro w' hSw; (try dsimp only at hSw); go_simp <;> (with_reducible rfl))
          try simp only [Act.put, List.setIfInBounds_toArray, List.set_cons_zero, List.set_cons_succ]
          refine wpAnyH_take (i := 9) (oi := ⟨some 23, _, _, _, _, _⟩) (v := ?_) rfl (by kernel_rfl) (by kernel_rfl) (by kernel_rfl) (fun _ _ _ h => h) (Or.inl ⟨by rfl, ?_⟩) (by assumption) ?_
          rotate_left
          · (intro w' hSw; (try dsimp only at hSw); go_simp <;> (with_reducible rfl))
          try simp only [Act.put, List.setIfInBounds_toArray, List.set_cons_zero, List.set_cons_succ]
          refine wpAnyH_take (i := 10) (oi := ⟨some 24, _, _, _, _, _⟩) (v := ?_) rfl (by kernel_rfl) (by kernel_rfl) (by kernel_rfl) (fun _ _ _ h => h) (Or.inl ⟨by rfl, ?_⟩) (by assumption) ?_
          rotate_left
          · (intro w' hSw; (try dsimp only at hSw); go_simp <;> (with_reducible rfl))
          try simp only [Act.put, List.setIfInBounds_toArray, List.set_cons_zero, List.set_cons_succ]
          refine wpAnyH_ready (rs := [3, 11]) (by kernel_rfl) (by simp) ?_
          refine AllReadyH.cons (o := ⟨some 17, _, _, _, _, _⟩) rfl (fun K' hK => ?_) (AllReadyH.cons (o := ⟨some 25, _, _, _, _, _⟩) rfl (fun K' hK => ?_) AllReadyH.nil)
          · skip
            go_simp
            refine hK.out _ _ ⟨p0, p1, p2, p3⟩ (fun hHeld => ?_)
            clear hK K'
            try simp only [Act.put, List.setIfInBounds_toArray, List.set_cons_zero, List.set_cons_succ]
            refine wpAnyH_ready (rs := [11]) (by kernel_rfl) (by simp) ?_
            refine AllReadyH.cons (o := ⟨some 25, _, _, _, _, _⟩) rfl (fun K' hK => ?_) AllReadyH.nil
            go_simp
            go_at_call 52
            refine (HTU.out _).mono ?_
            rintro r' v2 ⟨rfl, hb2⟩
            have hc2 : Below wB.heap.size wB v2 := by first | exact hb2 | exact below_of_drew hb2 | exact below_of_drew (below_of_drew hb2)
            have A2 := hA.below hc2
            have Z2 := hZ.below hc2
            have B2 := hXA.below hc2
            have hB2_ := hB.trans (hc2.mono (Nat.le_of_lt hXA.lt))
            clear z0 z1 z2 z3 f0 f1 f2 f3 p0 p1 p2 p3
            obtain ⟨z0, z1, z2, z3⟩ := A2.cells hk8
            rw [HSF.out] at z0 z1 z2 z3
            obtain ⟨f0, f1, f2, f3⟩ := A2.frozen4 k
            obtain ⟨p0, p1, p2, p3⟩ := HPC.out _ B2
            go_wp2_with fail
            refine hK.out _ _ ⟨p0, p1, p2, p3⟩ (fun hHeld => ?_)
            clear hK K'
            try simp only [Act.put, List.setIfInBounds_toArray, List.set_cons_zero, List.set_cons_succ]
            refine wpAnyH_ready (rs := [12]) (by kernel_rfl) (by simp) ?_
            refine AllReadyH.cons (o := ⟨some 26, _, _, _, _, _⟩) rfl (fun K' hK => ?_) AllReadyH.nil
            go_simp
            go_at_call 51
            refine (HPL.out _).mono ?_
            rintro r' v3 ⟨rfl, hb3⟩
            have hc3 : Below v2.heap.size v2 v3 := by first | exact hb3 | exact below_of_drew hb3 | exact below_of_drew (below_of_drew hb3)
            have A3 := A2.below hc3
            have Z3 := Z2.below hc3
            have B3 := B2.below hc3
            have hB3_ := hB2_.trans (hc3.mono (Nat.le_of_lt B2.lt))
            clear z0 z1 z2 z3 f0 f1 f2 f3 p0 p1 p2 p3
            obtain ⟨z0, z1, z2, z3⟩ := A3.cells hk8
            rw [HSF.out] at z0 z1 z2 z3
            obtain ⟨f0, f1, f2, f3⟩ := A3.frozen4 k
            obtain ⟨p0, p1, p2, p3⟩ := HPC.out _ B3
            go_wp2_with fail
            refine hK.out _ _ ⟨p0, p1, p2, p3⟩ (fun hHeld => ?_)
            clear hK K'
            try simp only [Act.put, List.setIfInBounds_toArray, List.set_cons_zero, List.set_cons_succ]
            refine wpAnyH_ready (rs := [13]) (by kernel_rfl) (by simp) ?_
            refine AllReadyH.cons (o := ⟨some 27, _, _, _, _, _⟩) rfl (fun K' hK => ?_) AllReadyH.nil
            go_simp
            refine hK.out _ _ ⟨p0, p1, p2, p3⟩ (fun hHeld => ?_)
            clear hK K'
            try simp only [Act.put, List.setIfInBounds_toArray, List.set_cons_zero, List.set_cons_succ]
            refine wpAnyH_ready (rs := [14]) (by kernel_rfl) (by simp) ?_
            refine AllReadyH.cons (o := ⟨none, _, _, _, _, _⟩) rfl (fun K' hK => ?_) AllReadyH.nil
            go_simp
            have HL5 := hide (Below.put4at (c := b5) (o := k * 4) hB3_ hw5 (.int .i64 tt.a) (.int .i64 tt.b) (.int .i64 tt.c) (.int .i64 tt.d))
            have HA5 := hide (A3.put k tt)
            have HZ5 := hide (Z3.other (c := b5) (o := k * 4) hz5 (.int .i64 tt.a) (.int .i64 tt.b) (.int .i64 tt.c) (.int .i64 tt.d))
            have HB5 := hide (B3.other (c := b5) (o := k * 4) hx5 (.int .i64 tt.a) (.int .i64 tt.b) (.int .i64 tt.c) (.int .i64 tt.d))
            refine hK.out _ _ (by obtain ⟨p0, p1, p2, p3⟩ := HPC.out _ HB5.out; exact ⟨p0, p1, p2, p3⟩) (fun hHeld => ?_)
            clear hK K'
            try simp only [Act.put, List.setIfInBounds_toArray, List.set_cons_zero, List.set_cons_succ]
            clear z0 z1 z2 z3 f0 f1 f2 f3 p0 p1 p2 p3
            refine wpAnyH_done (by kernel_rfl) ?_ _
            go_wp2_with fail
            go_roundw
            case rel => exact ⟨j + 1, by omega, by go_num, HZ5.out, HB5.out, by rw [HTT.out]; exact HA5.out.congr HEE.out, HL5.out⟩
            case measure => simp [Go.RowKit.intOf]; omega
          · skip
            go_simp
            go_at_call 52
            refine (HTU.out _).mono ?_
            rintro r' v6 ⟨rfl, hb6⟩
            have hc6 : Below wB.heap.size wB v6 := by first | exact hb6 | exact below_of_drew hb6 | exact below_of_drew (below_of_drew hb6)
            have A6 := hA.below hc6
            have Z6 := hZ.below hc6
            have B6 := hXA.below hc6
            have hB6_ := hB.trans (hc6.mono (Nat.le_of_lt hXA.lt))
            clear z0 z1 z2 z3 f0 f1 f2 f3 p0 p1 p2 p3
            obtain ⟨z0, z1, z2, z3⟩ := A6.cells hk8
            rw [HSF.out] at z0 z1 z2 z3
            obtain ⟨f0, f1, f2, f3⟩ := A6.frozen4 k
            obtain ⟨p0, p1, p2, p3⟩ := HPC.out _ B6
            go_wp2_with fail
            refine hK.out _ _ ⟨p0, p1, p2, p3⟩ (fun hHeld => ?_)
            clear hK K'
            try simp only [Act.put, List.setIfInBounds_toArray, List.set_cons_zero, List.set_cons_succ]
            refine wpAnyH_ready (rs := [3]) (by kernel_rfl) (by simp) ?_
            refine AllReadyH.cons (o := ⟨some 17, _, _, _, _, _⟩) rfl (fun K' hK => ?_) AllReadyH.nil
            go_simp
            refine hK.out _ _ ⟨p0, p1, p2, p3⟩ (fun hHeld => ?_)
            clear hK K'
            try simp only [Act.put, List.setIfInBounds_toArray, List.set_cons_zero, List.set_cons_succ]
            refine wpAnyH_ready (rs := [12]) (by kernel_rfl) (by simp) ?_
            refine AllReadyH.cons (o := ⟨some 26, _, _, _, _, _⟩) rfl (fun K' hK => ?_) AllReadyH.nil
            go_simp
            go_at_call 51
            refine (HPL.out _).mono ?_
            rintro r' v8 ⟨rfl, hb8⟩
            have hc8 : Below v6.heap.size v6 v8 := by first | exact hb8 | exact below_of_drew hb8 | exact below_of_drew (below_of_drew hb8)
            have A8 := A6.below hc8
            have Z8 := Z6.below hc8
            have B8 := B6.below hc8
            have hB8_ := hB6_.trans (hc8.mono (Nat.le_of_lt B6.lt))
            clear z0 z1 z2 z3 f0 f1 f2 f3 p0 p1 p2 p3
            obtain ⟨z0, z1, z2, z3⟩ := A8.cells hk8
            rw [HSF.out] at z0 z1 z2 z3
            obtain ⟨f0, f1, f2, f3⟩ := A8.frozen4 k
            obtain ⟨p0, p1, p2, p3⟩ := HPC.out _ B8
            go_wp2_with fail
            refine hK.out _ _ ⟨p0, p1, p2, p3⟩ (fun hHeld => ?_)
            clear hK K'
            try simp only [Act.put, List.setIfInBounds_toArray, List.set_cons_zero, List.set_cons_succ]
            refine wpAnyH_ready (rs := [13]) (by kernel_rfl) (by simp) ?_
            refine AllReadyH.cons (o := ⟨some 27, _, _, _, _, _⟩) rfl (fun K' hK => ?_) AllReadyH.nil
            go_simp
            refine hK.out _ _ ⟨p0, p1, p2, p3⟩ (fun hHeld => ?_)
            clear hK K'
            try simp only [Act.put, List.setIfInBounds_toArray, List.set_cons_zero, List.set_cons_succ]
            refine wpAnyH_ready (rs := [14]) (by kernel_rfl) (by simp) ?_
            refine AllReadyH.cons (o := ⟨none, _, _, _, _, _⟩) rfl (fun K' hK => ?_) AllReadyH.nil
            go_simp
            have HL10 := hide (Below.put4at (c := b5) (o := k * 4) hB8_ hw5 (.int .i64 tt.a) (.int .i64 tt.b) (.int .i64 tt.c) (.int .i64 tt.d))
            have HA10 := hide (A8.put k tt)
            have HZ10 := hide (Z8.other (c := b5) (o := k * 4) hz5 (.int .i64 tt.a) (.int .i64 tt.b) (.int .i64 tt.c) (.int .i64 tt.d))
            have HB10 := hide (B8.other (c := b5) (o := k * 4) hx5 (.int .i64 tt.a) (.int .i64 tt.b) (.int .i64 tt.c) (.int .i64 tt.d))
            refine hK.out _ _ (by obtain ⟨p0, p1, p2, p3⟩ := HPC.out _ HB10.out; exact ⟨p0, p1, p2, p3⟩) (fun hHeld => ?_)
            clear hK K'
            try simp only [Act.put, List.setIfInBounds_toArray, List.set_cons_zero, List.set_cons_succ]
            clear z0 z1 z2 z3 f0 f1 f2 f3 p0 p1 p2 p3
            refine wpAnyH_done (by kernel_rfl) ?_ _
            go_wp2_with fail
            go_roundw
            case rel => exact ⟨j + 1, by omega, by go_num, HZ10.out, HB10.out, by rw [HTT.out]; exact HA10.out.congr HEE.out, HL10.out⟩
            case measure => simp [Go.RowKit.intOf]; omega
        · obtain rfl : j = 8 := by omega
          go_wp2_with fail
          go_roundw
          case rel =>
            refine ⟨k + 1, by omega, by go_num, hZ, hXA, hA.congr fun q _ => ?_, hB⟩
            show (if q = k then sumF (Z k) 8 else E q) = if q < k + 1 then sumF (Z q) 8 else Num.zero
            by_cases e : q = k
            · subst e; rw [if_pos rfl, if_pos (by omega)]
            · rw [if_neg e, HE.out]
              show (if q < k then _ else Num.zero) = _
              by_cases e2 : q < k
              · rw [if_pos e2, if_pos (by omega)]
              · rw [if_neg e2, if_neg (by omega)]
          case measure => simp [Go.RowKit.intOf]; omega
    · obtain rfl : k = 8 := by omega
      have HZ := hide hZ
      have HA := hide (hA.congr (G := fun k => sumF (Z k) 8) fun q hq => if_pos hq)
      go_wp2_with (first | (refine wpList_load8 rfl (.tmp 3) rfl b5 (fun k => sumF (Z k) 8) rfl HA.out ?_) | (refine wpList_store8 rfl (.tmp 2) (.tmp 28) rfl b1 (fun _ => Num.zero) (fun k => sumF (Z k) 8) rfl rfl HZ.out ?_; intro W2 r2 o2))
      refine bodyPost_ret (v := .agg (arr8 fun k => sumF (Z k) 8)) (result1n rfl _ rfl r2) rfl ⟨rfl, ?_⟩
      rw [HW0.out]
      exact hB.trans (o2.to_below h01' (Nat.le_of_lt hXA.lt))
end Go.Proofs.Ytfemghbjngemlaa
