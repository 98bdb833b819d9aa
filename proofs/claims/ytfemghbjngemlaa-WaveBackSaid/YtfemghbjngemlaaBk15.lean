/- Lemmas: Ai, Aj, Ak, Vb. -/
import Derived.ChangeKeysEq
import Derived.StillTailTactics
import Derived.Test.YtfemghbjngemlaaBk05
import Derived.Test.YtfemghbjngemlaaBk14
set_option linter.unusedVariables false
set_option linter.unusedSimpArgs false
/- ResponseOf of the reference. -/
namespace Go.Proofs.Ytfemghbjngemlaa
open Go.RowKit Go.Great
/-- One result, a whole array that lies in memory. -/
theorem results_cellA {fn : Func} {p : Tmp} {ty : TypeId} (h : fn.results = #[.cell p ty]) (tmps : Array Value) (P : Program) (w : World) :
    (results fn tmps).run P w = ((asAddr (tmps.getD p undef)).run P w).andThen fun a w₁ => (loadVar ty a).run P w₁ := by
  simp only [results, h]
  simp [Sem.run_bind, Result.andThen]
theorem result8s {fn : Func} {p : Tmp} {b : Nat} {F : Nat → Num} {W : World} (h : fn.results = #[.cell p 27]) (tmps : Array Value) (ht : tmps.getD p undef = .pointer (some ⟨b, 0, none⟩)) (hr : ArrNums W b F) :
    (results fn tmps).run Try.prog W = .ok (.agg (arr8 F)) W := by
  rw [results_cellA h, ht]
  simp only [asAddr, Sem.run_pure, Result.andThen, run_load8 hr]
set_option maxHeartbeats 8000000 in
set_option maxRecDepth 100000 in
theorem responseOfR_any (A : Option Addr) (n c : Nat) (D R I : Nat → Int) (w : World) (hok : PathsOk n D R I) (hI : PathsAt w 0 A n D R I) :
    Calls Try.prog 39 #[.slice A n c] w fun e w' => e = .returned (.agg (arr8 fun k => respTo D R I k n)) ∧ Below w.heap.size w w' := by
  have HI := hide hI
  have HK := hide hok
  have hn6 := hok.len
  clear hI hok
  go_enter Try.func39, Try.ntmps39
  go_upto_region 1 with (refine wpList_allocTo rfl (some 2) rfl (.pointer (some ⟨w.heap.size, 0, none⟩)) (.cells (arr8 fun _ => Num.zero) 27) (by kernel_rfl) ?_)
  obtain ⟨W1, hW1⟩ : ∃ q : World, q = w.alloc (.cells (arr8 fun _ => Num.zero) 27) := ⟨_, rfl⟩
  rw [← hW1]
  have r1 : ArrNums W1 w.heap.size (fun _ => Num.zero) := by rw [hW1]; exact arrNums_alloc w _ _ rfl
  have hB1 : Below w.heap.size w W1 := by rw [hW1]; (repeat (first | (with_reducible exact Below.refl _ _) | (with_reducible refine Go.below_drewN ?_ _) | (with_reducible refine Below.drew ?_) | (with_reducible refine Below.alloc ?_ (by first | exact Nat.le_refl _ | (simp; done) | (simp; omega) | omega) _) | (with_reducible refine Below.setCell ?_ (by first | exact Nat.le_refl _ | (simp; done) | (simp; omega) | omega) _)))
  have hs1 : w.heap.size < W1.heap.size := by rw [hW1]; simp
  clear hW1
  go_upto_region 2 with (refine wpList_allocTo rfl (some 3) rfl (.pointer (some ⟨W1.heap.size, 0, none⟩)) (.cells (arr8 fun _ => Num.zero) 27) (by kernel_rfl) ?_)
  obtain ⟨W3, hW3⟩ : ∃ q : World, q = W1.alloc (.cells (arr8 fun _ => Num.zero) 27) := ⟨_, rfl⟩
  rw [← hW3]
  obtain ⟨b5, hb5⟩ : ∃ g, g = W1.heap.size := ⟨_, rfl⟩
  have a3 : ArrNums W3 b5 (fun _ => Num.zero) := by rw [hW3]; exact arrNums_alloc W1 _ _ hb5
  replace r1 : ArrNums W3 w.heap.size (fun _ => Num.zero) := by rw [hW3]; exact r1.alloc _
  have hB3 : Below w.heap.size w W3 := by rw [hW3]; exact hB1.alloc hB1.size _
  have hw5 : w.heap.size ≤ b5 := by omega
  have hz5 : w.heap.size ≠ b5 := by omega
  rw [← hb5]
  clear hW3 hb5 hs1 hB1
  go_wp2_with fail
  go_loopw [4] (fun i wr => ∃ k : Nat, k ≤ 8 ∧ i = .int .i64 (k : Int) ∧ ArrNums wr w.heap.size (fun _ => Num.zero) ∧ ArrNums wr b5 (fun q => if q < k then respTo D R I q n else Num.zero) ∧ Below w.heap.size w wr) (fun i _ => 8 - (Go.RowKit.intOf i).toNat)
  case atStart => exact ⟨0, by decide, rfl, r1, a3.congr fun q _ => by rw [if_neg (Nat.not_lt_zero q)], hB3⟩
  case round =>
    clear r1 a3 hB3
    obtain ⟨k, hk, rfl, hZ, hA, hB⟩ := hrel
    obtain ⟨wA, rfl⟩ : ∃ q : World, q = wr := ⟨_, rfl⟩
    by_cases hk8 : k < 8
    · have hk8z : (k : Int) < 8 := by omega
      go_wp2_with fail
      obtain ⟨E, hE⟩ : ∃ E : Nat → Num, E = fun q => if q < k then respTo D R I q n else Num.zero := ⟨_, rfl⟩
      have HE := hide hE
      rw [← hE] at hA
      clear hE
      go_loopw [5] (fun x wr => ∃ j : Nat, j ≤ n ∧ x = .int .i64 (j : Int) ∧ ArrNums wr w.heap.size (fun _ => Num.zero) ∧ ArrNums wr b5 (setNum E k (respTo D R I k j)) ∧ Below w.heap.size w wr) (fun x _ => n - (Go.RowKit.intOf x).toNat)
      case atStart =>
        refine ⟨0, Nat.zero_le _, rfl, hZ, hA.congr fun q _ => ?_, hB⟩
        show E q = if q = k then Num.zero else E q
        by_cases e : q = k
        · rw [if_pos e, HE.out]
          show (if q < k then _ else Num.zero) = _
          rw [if_neg (by omega)]
        · rw [if_neg e]
      case round =>
        clear hZ hA hB
        obtain ⟨j, hj, rfl, hZ, hA, hB⟩ := hrel
        obtain ⟨wB, rfl⟩ : ∃ q : World, q = wr := ⟨_, rfl⟩
        by_cases hjn : j < n
        · have hjz : (j : Int) < (n : Int) := by omega
          obtain ⟨pb, po, rfl, -⟩ := HI.out j hjn
          have HPC := hide (fun W (h : Below w.heap.size w W) => paths_cells (HI.out.below h) hjn)
          obtain ⟨s, hs⟩ : ∃ s, s = respTo D R I k j := ⟨_, rfl⟩
          have HG := HK.out.gain j hjn
          have HD := HK.out.delay j hjn
          have hsw : s.Within 600 := by rw [hs]; exact (respTo_within fun q hq => HK.out.gain q (by omega)).more (by omega)
          rw [← hs] at hA
          have HEE := hide (show ∀ q, q < 8 → setNum (setNum E k s) k (respTo D R I k (j + 1)) q = setNum E k (respTo D R I k (j + 1)) q from fun q _ => by
            show (if q = k then _ else if q = k then s else E q) = if q = k then _ else E q
            by_cases e : q = k
            · rw [if_pos e, if_pos e]
            · rw [if_neg e, if_neg e, if_neg e])
          have HTT := hide (show respTo D R I k (j + 1) = s.add ((⟨R j, 0, I j, 0⟩ : Num).turns ((-(k : Int) * D j) % 8).toNat) from by rw [hs]; rfl)
          have HSF := hide (show setNum E k s k = s from if_pos rfl)
          generalize hdl : D j = dl at *
          generalize hre : R j = re at *
          generalize him : I j = im at *
          have q1 : IntKind.i64.wrap (-(k : Int)) = -(k : Int) := IntWalk.i64_in _ (by omega)
          have hr := neg_mul_range (k := (k : Int)) (d := dl) (by omega) (by omega) HD.1 HD.2
          obtain ⟨e, he⟩ : ∃ e, e = -(k : Int) * dl := ⟨_, rfl⟩
          rw [← he] at hr HTT
          have q2 : IntKind.i64.wrap (-(k : Int) * dl) = e := by rw [IntWalk.i64_in _ (by omega), he]
          have hgw : (⟨re, 0, im, 0⟩ : Num).Within 100 := ⟨⟨HG.1, HG.2.1⟩, ⟨by show (-100 : Int) ≤ 0; decide, by show (0 : Int) ≤ 100; decide⟩, ⟨HG.2.2.1, HG.2.2.2⟩, ⟨by show (-100 : Int) ≤ 0; decide, by show (0 : Int) ≤ 100; decide⟩⟩
          have hux := hgw.turns (e % 8).toNat
          have HTU := hide (fun W => turnR_any (⟨re, 0, im, 0⟩ : Num) e W (hgw.more (by decide)))
          obtain ⟨u, hu⟩ : ∃ u, u = (⟨re, 0, im, 0⟩ : Num).turns (e % 8).toNat := ⟨_, rfl⟩
          rw [← hu] at hux HTU HTT
          have HNO := hide (fun W => entryR_any re im W)
          have HPL := hide (fun W => plusR_any s u 1000000 W ((hsw.add hux).more (by decide)) (by decide))
          obtain ⟨tt, htt⟩ : ∃ tt, tt = s.add u := ⟨_, rfl⟩
          rw [← htt] at HTT HPL
          rw [HTT.out] at HEE
          clear hs hu htt he hr hsw hux hgw HG HD hdl hre him
          obtain ⟨z0, z1, z2, z3⟩ := hA.cells hk8
          rw [HSF.out] at z0 z1 z2 z3
          obtain ⟨f0, f1, f2, f3⟩ := hA.frozen4 k
          obtain ⟨p0, p1, p2⟩ := HPC.out _ hB
          go_upto_region 8 with fail
          refine wp_region_held_drew (S := fun w' => w'.cell? ⟨pb, po + j * 3, none⟩ = some (.int .i64 dl) ∧ w'.cell? ⟨pb, po + j * 3 + 1, none⟩ = some (.int .i64 re) ∧ w'.cell? ⟨pb, po + j * 3 + 2, none⟩ = some (.int .i64 im)) (by kernel_rfl) ⟨p0, p1, p2⟩ (fun hHeld => ?_)
          refine wpAnyH_take (i := 0) (oi := ⟨some 16, _, _, _, _, _⟩) (v := ?_) rfl (by kernel_rfl) (by kernel_rfl) (by kernel_rfl) (fun _ _ _ h => h) (Or.inl ⟨by rfl, ?_⟩) (by assumption) ?_
          rotate_left
          · (intro w' hSw; (try dsimp only at hSw); go_simp <;> (with_reducible rfl))
          try simp only [Act.put, List.setIfInBounds_toArray, List.set_cons_zero, List.set_cons_succ]
          refine wpAnyH_take (i := 1) (oi := ⟨some 17, _, _, _, _, _⟩) (v := ?_) rfl (by kernel_rfl) (by kernel_rfl) (by kernel_rfl) (fun _ _ _ h => h) (Or.inl ⟨by rfl, ?_⟩) (by assumption) ?_
          rotate_left
          · (intro w' hSw; (try dsimp only at hSw); go_simp <;> (with_reducible rfl))
          try simp only [Act.put, List.setIfInBounds_toArray, List.set_cons_zero, List.set_cons_succ]
          refine wpAnyH_take (i := 2) (oi := ⟨some 18, _, _, _, _, _⟩) (v := ?_) rfl (by kernel_rfl) (by kernel_rfl) (by kernel_rfl) (fun _ _ _ h => h) (Or.inl ⟨by rfl, ?_⟩) (by assumption) ?_
          rotate_left
          · (intro w' hSw; (try dsimp only at hSw); go_simp <;> (with_reducible rfl))
          try simp only [Act.put, List.setIfInBounds_toArray, List.set_cons_zero, List.set_cons_succ]
          refine wpAnyH_take (i := 4) (oi := ⟨some 20, _, _, _, _, _⟩) (v := ?_) rfl (by kernel_rfl) (by kernel_rfl) (by kernel_rfl) (fun _ _ _ h => h) (Or.inl ⟨by rfl, ?_⟩) (by assumption) ?_
          rotate_left
          · (intro w' hSw; (try dsimp only at hSw); go_simp <;> (with_reducible rfl))
          try simp only [Act.put, List.setIfInBounds_toArray, List.set_cons_zero, List.set_cons_succ]
          refine wpAnyH_take (i := 5) (oi := ⟨some 21, _, _, _, _, _⟩) (v := ?_) rfl (by kernel_rfl) (by kernel_rfl) (by kernel_rfl) (fun _ _ _ h => h) (Or.inl ⟨by rfl, ?_⟩) (by assumption) ?_
          rotate_left
          · (intro w' hSw; (try dsimp only at hSw); go_simp <;> (with_reducible rfl))
          try simp only [Act.put, List.setIfInBounds_toArray, List.set_cons_zero, List.set_cons_succ]
          refine wpAnyH_take (i := 6) (oi := ⟨some 22, _, _, _, _, _⟩) (v := ?_) rfl (by kernel_rfl) (by kernel_rfl) (by kernel_rfl) (fun _ _ _ h => h) (Or.inl ⟨by rfl, ?_⟩) (by assumption) ?_
          rotate_left
          · (intro w' hSw; (try dsimp only at hSw); go_simp <;> (with_reducible rfl))
          try simp only [Act.put, List.setIfInBounds_toArray, List.set_cons_zero, List.set_cons_succ]
          refine wpAnyH_take (i := 7) (oi := ⟨some 23, _, _, _, _, _⟩) (v := ?_) rfl (by kernel_rfl) (by kernel_rfl) (by kernel_rfl) (fun _ _ _ h => h) (Or.inl ⟨by rfl, ?_⟩) (by assumption) ?_
          rotate_left
          · (intro w' hSw; (try dsimp only at hSw); go_simp <;> (with_reducible rfl))
          try simp only [Act.put, List.setIfInBounds_toArray, List.set_cons_zero, List.set_cons_succ]
          refine wpAnyH_take (i := 8) (oi := ⟨some 24, _, _, _, _, _⟩) (v := ?_) rfl (by kernel_rfl) (by kernel_rfl) (by kernel_rfl) (fun _ _ _ h => h) (Or.inl ⟨by rfl, ?_⟩) (by assumption) ?_
          rotate_left
          · (intro w' hSw; (try dsimp only at hSw); go_simp <;> (with_reducible rfl))
          try simp only [Act.put, List.setIfInBounds_toArray, List.set_cons_zero, List.set_cons_succ]
          refine wpAnyH_take (i := 10) (oi := ⟨some 26, _, _, _, _, _⟩) (v := ?_) rfl (by kernel_rfl) (by kernel_rfl) (by kernel_rfl) (fun _ _ _ h => h) (Or.inl ⟨by rfl, ?_⟩) (by assumption) ?_
          rotate_left
          · (intro w' hSw; (try dsimp only at hSw); go_simp <;> (with_reducible rfl))
          try simp only [Act.put, List.setIfInBounds_toArray, List.set_cons_zero, List.set_cons_succ]
          refine wpAnyH_take (i := 11) (oi := ⟨some 27, _, _, _, _, _⟩) (v := ?_) rfl (by kernel_rfl) (by kernel_rfl) (by kernel_rfl) (fun _ _ _ h => h) (Or.inl ⟨by rfl, ?_⟩) (by assumption) ?_
          rotate_left
          · (intro w' hSw; (try dsimp only at hSw); go_simp <;> (with_reducible rfl))
          try simp only [Act.put, List.setIfInBounds_toArray, List.set_cons_zero, List.set_cons_succ]
          refine wpAnyH_take (i := 12) (oi := ⟨some 28, _, _, _, _, _⟩) (v := ?_) rfl (by kernel_rfl) (by kernel_rfl) (by kernel_rfl) (fun _ _ _ h => h) (Or.inl ⟨by rfl, ?_⟩) (by assumption) ?_
          rotate_left
          · (intro w' hSw; (try dsimp only at hSw); go_simp <;> (with_reducible rfl))
          try simp only [Act.put, List.setIfInBounds_toArray, List.set_cons_zero, List.set_cons_succ]
          refine wpAnyH_take (i := 13) (oi := ⟨some 29, _, _, _, _, _⟩) (v := ?_) rfl (by kernel_rfl) (by kernel_rfl) (by kernel_rfl) (fun _ _ _ h => h) (Or.inl ⟨by rfl, ?_⟩) (by assumption) ?_
          rotate_left
          · (intro w' hSw; (try dsimp only at hSw); go_simp <;> (with_reducible rfl))
          try simp only [Act.put, List.setIfInBounds_toArray, List.set_cons_zero, List.set_cons_succ]
          refine wpAnyH_take (i := 14) (oi := ⟨some 30, _, _, _, _, _⟩) (v := ?_) rfl (by kernel_rfl) (by kernel_rfl) (by kernel_rfl) (fun _ _ _ h => h) (Or.inl ⟨by rfl, ?_⟩) (by assumption) ?_
          rotate_left
          · (intro w' hSw; (try dsimp only at hSw); go_simp <;> (with_reducible rfl))
          try simp only [Act.put, List.setIfInBounds_toArray, List.set_cons_zero, List.set_cons_succ]
          refine wpAnyH_take (i := 15) (oi := ⟨some 31, _, _, _, _, _⟩) (v := ?_) rfl (by kernel_rfl) (by kernel_rfl) (by kernel_rfl) (fun _ _ _ h => h) (Or.inl ⟨by rfl, ?_⟩) (by assumption) ?_
          rotate_left
          · (intro w' hSw; (try dsimp only at hSw); go_simp <;> (with_reducible rfl))
          try simp only [Act.put, List.setIfInBounds_toArray, List.set_cons_zero, List.set_cons_succ]
          refine wpAnyH_take (i := 16) (oi := ⟨some 32, _, _, _, _, _⟩) (v := ?_) rfl (by kernel_rfl) (by kernel_rfl) (by kernel_rfl) (fun _ _ _ h => h) (Or.inl ⟨by rfl, ?_⟩) (by assumption) ?_
          rotate_left
          · (intro w' hSw; (try dsimp only at hSw); go_simp <;> (with_reducible rfl))
          try simp only [Act.put, List.setIfInBounds_toArray, List.set_cons_zero, List.set_cons_succ]
          refine wpAnyH_take (i := 17) (oi := ⟨some 33, _, _, _, _, _⟩) (v := ?_) rfl (by kernel_rfl) (by kernel_rfl) (by kernel_rfl) (fun _ _ _ h => h) (Or.inl ⟨by rfl, ?_⟩) (by assumption) ?_
          rotate_left
          · (intro w' hSw; (try dsimp only at hSw); go_simp <;> (with_reducible rfl))
          try simp only [Act.put, List.setIfInBounds_toArray, List.set_cons_zero, List.set_cons_succ]
          refine wpAnyH_ready (rs := [3, 9]) (by kernel_rfl) (by simp) ?_
          refine AllReadyH.cons (o := ⟨some 19, _, _, _, _, _⟩) rfl (fun K' hK => ?_) (AllReadyH.cons (o := ⟨some 25, _, _, _, _, _⟩) rfl (fun K' hK => ?_) AllReadyH.nil)
          · skip
            go_simp
            refine hK.out _ _ ⟨p0, p1, p2⟩ (fun hHeld => ?_)
            clear hK K'
            try simp only [Act.put, List.setIfInBounds_toArray, List.set_cons_zero, List.set_cons_succ]
            refine wpAnyH_ready (rs := [9]) (by kernel_rfl) (by simp) ?_
            refine AllReadyH.cons (o := ⟨some 25, _, _, _, _, _⟩) rfl (fun K' hK => ?_) AllReadyH.nil
            go_simp
            go_at_call 53
            refine (HNO.out _).mono ?_
            rintro r' v2 ⟨rfl, hb2⟩
            have hc2 : Below wB.heap.size wB v2 := by first | exact hb2 | exact below_of_drew hb2 | exact below_of_drew (below_of_drew hb2)
            have A2 := hA.below hc2
            have Z2 := hZ.below hc2
            have hB2 := hB.trans (hc2.mono hB.size)
            clear z0 z1 z2 z3 f0 f1 f2 f3 p0 p1 p2
            obtain ⟨z0, z1, z2, z3⟩ := A2.cells hk8
            rw [HSF.out] at z0 z1 z2 z3
            obtain ⟨f0, f1, f2, f3⟩ := A2.frozen4 k
            obtain ⟨p0, p1, p2⟩ := HPC.out _ hB2
            go_wp2_with fail
            refine hK.out _ _ ⟨p0, p1, p2⟩ (fun hHeld => ?_)
            clear hK K'
            try simp only [Act.put, List.setIfInBounds_toArray, List.set_cons_zero, List.set_cons_succ]
            refine wpAnyH_ready (rs := [18]) (by kernel_rfl) (by simp) ?_
            refine AllReadyH.cons (o := ⟨some 34, _, _, _, _, _⟩) rfl (fun K' hK => ?_) AllReadyH.nil
            go_simp
            go_at_call 52
            refine (HTU.out _).mono ?_
            rintro r' v3 ⟨rfl, hb3⟩
            have hc3 : Below v2.heap.size v2 v3 := by first | exact hb3 | exact below_of_drew hb3 | exact below_of_drew (below_of_drew hb3)
            have A3 := A2.below hc3
            have Z3 := Z2.below hc3
            have hB3 := hB2.trans (hc3.mono hB2.size)
            clear z0 z1 z2 z3 f0 f1 f2 f3 p0 p1 p2
            obtain ⟨z0, z1, z2, z3⟩ := A3.cells hk8
            rw [HSF.out] at z0 z1 z2 z3
            obtain ⟨f0, f1, f2, f3⟩ := A3.frozen4 k
            obtain ⟨p0, p1, p2⟩ := HPC.out _ hB3
            go_wp2_with fail
            refine hK.out _ _ ⟨p0, p1, p2⟩ (fun hHeld => ?_)
            clear hK K'
            try simp only [Act.put, List.setIfInBounds_toArray, List.set_cons_zero, List.set_cons_succ]
            refine wpAnyH_ready (rs := [19]) (by kernel_rfl) (by simp) ?_
            refine AllReadyH.cons (o := ⟨some 35, _, _, _, _, _⟩) rfl (fun K' hK => ?_) AllReadyH.nil
            go_simp
            go_at_call 51
            refine (HPL.out _).mono ?_
            rintro r' v4 ⟨rfl, hb4⟩
            have hc4 : Below v3.heap.size v3 v4 := by first | exact hb4 | exact below_of_drew hb4 | exact below_of_drew (below_of_drew hb4)
            have A4 := A3.below hc4
            have Z4 := Z3.below hc4
            have hB4 := hB3.trans (hc4.mono hB3.size)
            clear z0 z1 z2 z3 f0 f1 f2 f3 p0 p1 p2
            obtain ⟨z0, z1, z2, z3⟩ := A4.cells hk8
            rw [HSF.out] at z0 z1 z2 z3
            obtain ⟨f0, f1, f2, f3⟩ := A4.frozen4 k
            obtain ⟨p0, p1, p2⟩ := HPC.out _ hB4
            go_wp2_with fail
            refine hK.out _ _ ⟨p0, p1, p2⟩ (fun hHeld => ?_)
            clear hK K'
            try simp only [Act.put, List.setIfInBounds_toArray, List.set_cons_zero, List.set_cons_succ]
            refine wpAnyH_ready (rs := [20]) (by kernel_rfl) (by simp) ?_
            refine AllReadyH.cons (o := ⟨some 36, _, _, _, _, _⟩) rfl (fun K' hK => ?_) AllReadyH.nil
            go_simp
            refine hK.out _ _ ⟨p0, p1, p2⟩ (fun hHeld => ?_)
            clear hK K'
            try simp only [Act.put, List.setIfInBounds_toArray, List.set_cons_zero, List.set_cons_succ]
            refine wpAnyH_ready (rs := [21]) (by kernel_rfl) (by simp) ?_
            refine AllReadyH.cons (o := ⟨none, _, _, _, _, _⟩) rfl (fun K' hK => ?_) AllReadyH.nil
            go_simp
            have HL6 := Below.put4at (c := b5) (o := k * 4) hB4 hw5 (.int .i64 tt.a) (.int .i64 tt.b) (.int .i64 tt.c) (.int .i64 tt.d)
            have HLL6 := hide HL6
            have HA6 := hide (A4.put k tt)
            have HZ6 := hide (Z4.other (c := b5) (o := k * 4) hz5 (.int .i64 tt.a) (.int .i64 tt.b) (.int .i64 tt.c) (.int .i64 tt.d))
            refine hK.out _ _ (by obtain ⟨p0, p1, p2⟩ := HPC.out _ HL6; exact ⟨p0, p1, p2⟩) (fun hHeld => ?_)
            clear hK K'
            try simp only [Act.put, List.setIfInBounds_toArray, List.set_cons_zero, List.set_cons_succ]
            clear z0 z1 z2 z3 f0 f1 f2 f3 p0 p1 p2 HL6
            refine wpAnyH_done (by kernel_rfl) ?_ _
            go_wp2_with fail
            go_roundw
            case rel => exact ⟨j + 1, by omega, by go_num, HZ6.out, by rw [HTT.out]; exact HA6.out.congr HEE.out, HLL6.out⟩
            case measure => simp [Go.RowKit.intOf]; omega
          · skip
            go_simp
            go_at_call 53
            refine (HNO.out _).mono ?_
            rintro r' v7 ⟨rfl, hb7⟩
            have hc7 : Below wB.heap.size wB v7 := by first | exact hb7 | exact below_of_drew hb7 | exact below_of_drew (below_of_drew hb7)
            have A7 := hA.below hc7
            have Z7 := hZ.below hc7
            have hB7 := hB.trans (hc7.mono hB.size)
            clear z0 z1 z2 z3 f0 f1 f2 f3 p0 p1 p2
            obtain ⟨z0, z1, z2, z3⟩ := A7.cells hk8
            rw [HSF.out] at z0 z1 z2 z3
            obtain ⟨f0, f1, f2, f3⟩ := A7.frozen4 k
            obtain ⟨p0, p1, p2⟩ := HPC.out _ hB7
            go_wp2_with fail
            refine hK.out _ _ ⟨p0, p1, p2⟩ (fun hHeld => ?_)
            clear hK K'
            try simp only [Act.put, List.setIfInBounds_toArray, List.set_cons_zero, List.set_cons_succ]
            refine wpAnyH_ready (rs := [3, 18]) (by kernel_rfl) (by simp) ?_
            refine AllReadyH.cons (o := ⟨some 19, _, _, _, _, _⟩) rfl (fun K' hK => ?_) (AllReadyH.cons (o := ⟨some 34, _, _, _, _, _⟩) rfl (fun K' hK => ?_) AllReadyH.nil)
            · skip
              go_simp
              refine hK.out _ _ ⟨p0, p1, p2⟩ (fun hHeld => ?_)
              clear hK K'
              try simp only [Act.put, List.setIfInBounds_toArray, List.set_cons_zero, List.set_cons_succ]
              refine wpAnyH_ready (rs := [18]) (by kernel_rfl) (by simp) ?_
              refine AllReadyH.cons (o := ⟨some 34, _, _, _, _, _⟩) rfl (fun K' hK => ?_) AllReadyH.nil
              go_simp
              go_at_call 52
              refine (HTU.out _).mono ?_
              rintro r' v9 ⟨rfl, hb9⟩
              have hc9 : Below v7.heap.size v7 v9 := by first | exact hb9 | exact below_of_drew hb9 | exact below_of_drew (below_of_drew hb9)
              have A9 := A7.below hc9
              have Z9 := Z7.below hc9
              have hB9 := hB7.trans (hc9.mono hB7.size)
              clear z0 z1 z2 z3 f0 f1 f2 f3 p0 p1 p2
              obtain ⟨z0, z1, z2, z3⟩ := A9.cells hk8
              rw [HSF.out] at z0 z1 z2 z3
              obtain ⟨f0, f1, f2, f3⟩ := A9.frozen4 k
              obtain ⟨p0, p1, p2⟩ := HPC.out _ hB9
              go_wp2_with fail
              refine hK.out _ _ ⟨p0, p1, p2⟩ (fun hHeld => ?_)
              clear hK K'
              try simp only [Act.put, List.setIfInBounds_toArray, List.set_cons_zero, List.set_cons_succ]
              refine wpAnyH_ready (rs := [19]) (by kernel_rfl) (by simp) ?_
              refine AllReadyH.cons (o := ⟨some 35, _, _, _, _, _⟩) rfl (fun K' hK => ?_) AllReadyH.nil
              go_simp
              go_at_call 51
              refine (HPL.out _).mono ?_
              rintro r' v10 ⟨rfl, hb10⟩
              have hc10 : Below v9.heap.size v9 v10 := by first | exact hb10 | exact below_of_drew hb10 | exact below_of_drew (below_of_drew hb10)
              have A10 := A9.below hc10
              have Z10 := Z9.below hc10
              have hB10 := hB9.trans (hc10.mono hB9.size)
              clear z0 z1 z2 z3 f0 f1 f2 f3 p0 p1 p2
              obtain ⟨z0, z1, z2, z3⟩ := A10.cells hk8
              rw [HSF.out] at z0 z1 z2 z3
              obtain ⟨f0, f1, f2, f3⟩ := A10.frozen4 k
              obtain ⟨p0, p1, p2⟩ := HPC.out _ hB10
              go_wp2_with fail
              refine hK.out _ _ ⟨p0, p1, p2⟩ (fun hHeld => ?_)
              clear hK K'
              try simp only [Act.put, List.setIfInBounds_toArray, List.set_cons_zero, List.set_cons_succ]
              refine wpAnyH_ready (rs := [20]) (by kernel_rfl) (by simp) ?_
              refine AllReadyH.cons (o := ⟨some 36, _, _, _, _, _⟩) rfl (fun K' hK => ?_) AllReadyH.nil
              go_simp
              refine hK.out _ _ ⟨p0, p1, p2⟩ (fun hHeld => ?_)
              clear hK K'
              try simp only [Act.put, List.setIfInBounds_toArray, List.set_cons_zero, List.set_cons_succ]
              refine wpAnyH_ready (rs := [21]) (by kernel_rfl) (by simp) ?_
              refine AllReadyH.cons (o := ⟨none, _, _, _, _, _⟩) rfl (fun K' hK => ?_) AllReadyH.nil
              go_simp
              have HL12 := Below.put4at (c := b5) (o := k * 4) hB10 hw5 (.int .i64 tt.a) (.int .i64 tt.b) (.int .i64 tt.c) (.int .i64 tt.d)
              have HLL12 := hide HL12
              have HA12 := hide (A10.put k tt)
              have HZ12 := hide (Z10.other (c := b5) (o := k * 4) hz5 (.int .i64 tt.a) (.int .i64 tt.b) (.int .i64 tt.c) (.int .i64 tt.d))
              refine hK.out _ _ (by obtain ⟨p0, p1, p2⟩ := HPC.out _ HL12; exact ⟨p0, p1, p2⟩) (fun hHeld => ?_)
              clear hK K'
              try simp only [Act.put, List.setIfInBounds_toArray, List.set_cons_zero, List.set_cons_succ]
              clear z0 z1 z2 z3 f0 f1 f2 f3 p0 p1 p2 HL12
              refine wpAnyH_done (by kernel_rfl) ?_ _
              go_wp2_with fail
              go_roundw
              case rel => exact ⟨j + 1, by omega, by go_num, HZ12.out, by rw [HTT.out]; exact HA12.out.congr HEE.out, HLL12.out⟩
              case measure => simp [Go.RowKit.intOf]; omega
            · skip
              go_simp
              go_at_call 52
              refine (HTU.out _).mono ?_
              rintro r' v13 ⟨rfl, hb13⟩
              have hc13 : Below v7.heap.size v7 v13 := by first | exact hb13 | exact below_of_drew hb13 | exact below_of_drew (below_of_drew hb13)
              have A13 := A7.below hc13
              have Z13 := Z7.below hc13
              have hB13 := hB7.trans (hc13.mono hB7.size)
              clear z0 z1 z2 z3 f0 f1 f2 f3 p0 p1 p2
              obtain ⟨z0, z1, z2, z3⟩ := A13.cells hk8
              rw [HSF.out] at z0 z1 z2 z3
              obtain ⟨f0, f1, f2, f3⟩ := A13.frozen4 k
              obtain ⟨p0, p1, p2⟩ := HPC.out _ hB13
              go_wp2_with fail
              refine hK.out _ _ ⟨p0, p1, p2⟩ (fun hHeld => ?_)
              clear hK K'
              try simp only [Act.put, List.setIfInBounds_toArray, List.set_cons_zero, List.set_cons_succ]
              refine wpAnyH_ready (rs := [3]) (by kernel_rfl) (by simp) ?_
              refine AllReadyH.cons (o := ⟨some 19, _, _, _, _, _⟩) rfl (fun K' hK => ?_) AllReadyH.nil
              go_simp
              refine hK.out _ _ ⟨p0, p1, p2⟩ (fun hHeld => ?_)
              clear hK K'
              try simp only [Act.put, List.setIfInBounds_toArray, List.set_cons_zero, List.set_cons_succ]
              refine wpAnyH_ready (rs := [19]) (by kernel_rfl) (by simp) ?_
              refine AllReadyH.cons (o := ⟨some 35, _, _, _, _, _⟩) rfl (fun K' hK => ?_) AllReadyH.nil
              go_simp
              go_at_call 51
              refine (HPL.out _).mono ?_
              rintro r' v15 ⟨rfl, hb15⟩
              have hc15 : Below v13.heap.size v13 v15 := by first | exact hb15 | exact below_of_drew hb15 | exact below_of_drew (below_of_drew hb15)
              have A15 := A13.below hc15
              have Z15 := Z13.below hc15
              have hB15 := hB13.trans (hc15.mono hB13.size)
              clear z0 z1 z2 z3 f0 f1 f2 f3 p0 p1 p2
              obtain ⟨z0, z1, z2, z3⟩ := A15.cells hk8
              rw [HSF.out] at z0 z1 z2 z3
              obtain ⟨f0, f1, f2, f3⟩ := A15.frozen4 k
              obtain ⟨p0, p1, p2⟩ := HPC.out _ hB15
              go_wp2_with fail
              refine hK.out _ _ ⟨p0, p1, p2⟩ (fun hHeld => ?_)
              clear hK K'
              try simp only [Act.put, List.setIfInBounds_toArray, List.set_cons_zero, List.set_cons_succ]
              refine wpAnyH_ready (rs := [20]) (by kernel_rfl) (by simp) ?_
              refine AllReadyH.cons (o := ⟨some 36, _, _, _, _, _⟩) rfl (fun K' hK => ?_) AllReadyH.nil
              go_simp
              refine hK.out _ _ ⟨p0, p1, p2⟩ (fun hHeld => ?_)
              clear hK K'
              try simp only [Act.put, List.setIfInBounds_toArray, List.set_cons_zero, List.set_cons_succ]
              refine wpAnyH_ready (rs := [21]) (by kernel_rfl) (by simp) ?_
              refine AllReadyH.cons (o := ⟨none, _, _, _, _, _⟩) rfl (fun K' hK => ?_) AllReadyH.nil
              go_simp
              have HL17 := Below.put4at (c := b5) (o := k * 4) hB15 hw5 (.int .i64 tt.a) (.int .i64 tt.b) (.int .i64 tt.c) (.int .i64 tt.d)
              have HLL17 := hide HL17
              have HA17 := hide (A15.put k tt)
              have HZ17 := hide (Z15.other (c := b5) (o := k * 4) hz5 (.int .i64 tt.a) (.int .i64 tt.b) (.int .i64 tt.c) (.int .i64 tt.d))
              refine hK.out _ _ (by obtain ⟨p0, p1, p2⟩ := HPC.out _ HL17; exact ⟨p0, p1, p2⟩) (fun hHeld => ?_)
              clear hK K'
              try simp only [Act.put, List.setIfInBounds_toArray, List.set_cons_zero, List.set_cons_succ]
              clear z0 z1 z2 z3 f0 f1 f2 f3 p0 p1 p2 HL17
              refine wpAnyH_done (by kernel_rfl) ?_ _
              go_wp2_with fail
              go_roundw
              case rel => exact ⟨j + 1, by omega, by go_num, HZ17.out, by rw [HTT.out]; exact HA17.out.congr HEE.out, HLL17.out⟩
              case measure => simp [Go.RowKit.intOf]; omega
        · obtain rfl : j = n := by omega
          go_wp2_with fail
          go_roundw
          case rel =>
            refine ⟨k + 1, by omega, by go_num, hZ, hA.congr fun q _ => ?_, hB⟩
            show (if q = k then respTo D R I k j else E q) = if q < k + 1 then respTo D R I q j else Num.zero
            by_cases e : q = k
            · subst e; rw [if_pos rfl, if_pos (by omega)]
            · rw [if_neg e, HE.out]
              show (if q < k then _ else Num.zero) = _
              by_cases e2 : q < k
              · rw [if_pos e2, if_pos (by omega)]
              · rw [if_neg e2, if_neg (by omega)]
          case measure => simp [Go.RowKit.intOf]; omega
    · obtain rfl : k = 8 := by omega
      have HZ := hide hZ
      have HA := hide (hA.congr (G := fun k => respTo D R I k n) fun q hq => if_pos hq)
      go_wp2_with (first | (refine wpList_load8 rfl (.tmp 3) rfl b5 (fun k => respTo D R I k n) rfl HA.out ?_) | (refine wpList_store8 rfl (.tmp 2) (.tmp 37) rfl w.heap.size (fun _ => Num.zero) (fun k => respTo D R I k n) rfl rfl HZ.out ?_; intro W2 r2 o2))
      refine bodyPost_ret (v := .agg (arr8 fun k => respTo D R I k n)) (result8s rfl _ rfl r2) rfl ⟨rfl, hB.trans (o2.to_below (Nat.le_refl _) hB.size)⟩
end Go.Proofs.Ytfemghbjngemlaa
/- ResponseOf of the code, any paths. -/
namespace Go.Proofs.Ytfemghbjngemlaa
open Go.RowKit Go.Great
set_option maxHeartbeats 4000000 in
set_option maxRecDepth 100000 in
theorem ResponseOf_wrong (A : Option Addr) (n c : Nat) (D R I : Nat → Int) (w : World) (hn : n ≤ 100000) (hC : chkE n D R I ≠ 0) (hI : PathsAt w 0 A n D R I) :
    Calls Try.prog 37 #[.slice A n c] w fun e w' => e = .returned (.tuple #[.agg (arr8 fun _ => Num.zero), .int .i64 (chkE n D R I)]) ∧ Below w.heap.size w w' := by
  have HI := hide hI
  have HP := hide (fun W (h : PathsAt W 0 A n D R I) => pathsError_any A n c D R I W hn h)
  generalize chkE n D R I = V at *
  have tv : (V != 0) = true := by simpa using hC
  clear hI hC
  go_enter Try.func37, Try.ntmps37
  go_upto_region 1 with (refine wpList_allocTo rfl (some 2) rfl (.pointer (some ⟨w.heap.size, 0, none⟩)) (.cells (arr8 fun _ => Num.zero) 27) (by kernel_rfl) ?_)
  obtain ⟨W1, hW1⟩ : ∃ q : World, q = w.alloc (.cells (arr8 fun _ => Num.zero) 27) := ⟨_, rfl⟩
  rw [← hW1]
  have r1 : ArrNums W1 w.heap.size (fun _ => Num.zero) := by rw [hW1]; exact arrNums_alloc w _ _ rfl
  have hB1 : Below w.heap.size w W1 := by rw [hW1]; (repeat (first | (with_reducible exact Below.refl _ _) | (with_reducible refine Go.below_drewN ?_ _) | (with_reducible refine Below.drew ?_) | (with_reducible refine Below.alloc ?_ (by first | exact Nat.le_refl _ | (simp; done) | (simp; omega) | omega) _) | (with_reducible refine Below.setCell ?_ (by first | exact Nat.le_refl _ | (simp; done) | (simp; omega) | omega) _)))
  clear hW1
  go_wp2_with fail
  refine (HP.out _ (HI.out.below hB1)).mono ?_
  rintro e w2 ⟨rfl, hb2⟩
  have HZ := hide (r1.below hb2)
  have HB2 := hide (hB1.trans (hb2.mono hB1.size))
  clear hb2 hB1 HP r1
  go_upto_region 3 with fail
  have hz8 : ∀ a : Act, (execOp a.eval (⟨some 13, .build 27 #[], 27, "", #[], none⟩ : Oper)).run Try.prog w2 = .ok (.value (.agg (arr8 fun _ => Num.zero))) w2 := fun a => by kernel_rfl
  go_wp2_with (refine wpList_store8 rfl (.tmp 2) (.tmp 13) rfl w.heap.size (fun _ => Num.zero) (fun _ => Num.zero) rfl (by first | rfl | kernel_rfl) HZ.out ?_; intro W2 r2 o2)
  refine bodyPost_ret (v := .tuple #[.agg (arr8 fun _ => Num.zero), .int .i64 V]) (result8 rfl _ rfl rfl r2) rfl ⟨rfl, HB2.out.trans (o2.to_below (Nat.le_refl _) HB2.out.size)⟩
theorem ResponseOf_any (A : Option Addr) (n c : Nat) (D R I : Nat → Int) (w : World) (hn : n ≤ 100000) (hI : PathsAt w 0 A n D R I) :
    Calls Try.prog 37 #[.slice A n c] w fun e w' => e = .returned (.tuple #[.agg (arr8 fun k => if chkE n D R I = 0 then respTo D R I k n else Num.zero), .int .i64 (chkE n D R I)]) ∧ Below w.heap.size w w' := by
  by_cases h : chkE n D R I = 0
  · simp only [h, if_true]
    obtain ⟨h0, h1, h2⟩ := chkE_right h
    exact ResponseOf_right A n c D R I w ⟨h0, h1, fun j hj => (h2 j hj).1, fun j hj => ⟨(h2 j hj).2.1.1, (h2 j hj).2.1.2, (h2 j hj).2.2.1, (h2 j hj).2.2.2⟩⟩ h hI
  · simp only [h, if_false]
    exact ResponseOf_wrong A n c D R I w hn h hI
end Go.Proofs.Ytfemghbjngemlaa
/- An array of eight numbers is equal to itself. -/
namespace Go.Proofs.Ytfemghbjngemlaa
open Go.RowKit
set_option maxRecDepth 100000 in
theorem equal4_same (a b c d : Int) (w : World) : (Op.equalIn 9999 26 (.agg #[.int .i64 a, .int .i64 b, .int .i64 c, .int .i64 d]) (.agg #[.int .i64 a, .int .i64 b, .int .i64 c, .int .i64 d])).run Try.prog w = .ok true w := by
  go_simp
theorem arr8_four (F : Nat → Num) (k : Nat) (hk : k < 8) : (arr8 F).extract (k * 4) (k * 4 + 4) = #[.int .i64 (F k).a, .int .i64 (F k).b, .int .i64 (F k).c, .int .i64 (F k).d] := by
  obtain rfl | rfl | rfl | rfl | rfl | rfl | rfl | rfl : k = 0 ∨ k = 1 ∨ k = 2 ∨ k = 3 ∨ k = 4 ∨ k = 5 ∨ k = 6 ∨ k = 7 := by omega
  all_goals rfl
theorem equal8_same (F : Nat → Num) (w : World) : (Op.equalIn 10000 27 (.agg (arr8 F)) (.agg (arr8 F))).run Try.prog w = .ok true w := by
  obtain ⟨i0, hi, hz0, hz1, hz2⟩ := info_parts numInfo
  have h1 : Try.prog.cellsOf 26 = 4 := by kernel_rfl
  have h := run_equalIn_array (P := Try.prog) (w := w) 9999 (n := 8) (arr8 F) (arr8 F) Try.underlying27 hi
  refine h.trans ?_
  rw [h1]
  have e : ∀ (is : List Nat), (∀ k ∈ is, k < 8) → (Op.eqItems 9999 26 4 (arr8 F) (arr8 F) is).run Try.prog w = .ok true w := by
    intro is
    induction is with
    | nil => intro _; simp [Op.eqItems]
    | cons k is ih =>
      intro hk
      have h4 := arr8_four F k (hk k (by simp))
      have ih := ih fun q hq => hk q (by simp [hq])
      simp only [Op.eqItems, Sem.run_bind]
      simp [go_sem, h4, ih, equal4_same]
  exact e _ fun k hk => List.mem_range.1 hk
end Go.Proofs.Ytfemghbjngemlaa
/- signsOf of the code. -/
namespace Go.Proofs.Ytfemghbjngemlaa
open Go.RowKit Go.Great
/-- The product of what stands at the first i taps, from place k on. -/
def tapP (T : Nat → Nat) (S : Nat → Int) (k : Nat) : Nat → Int
  | 0 => 1
  | i + 1 => tapP T S k i * S (k + T i)
/-- The array behind k further places. -/
def sgA (T : Nat → Nat) (m : Nat) : Nat → Nat → Int
  | 0, j => if j = 0 then -1 else if j < 5 then 1 else 0
  | k + 1, j => if j = k + 5 then tapP T (sgA T m k) k m else sgA T m k j
def setI (S : Nat → Int) (k : Nat) (x : Int) (j : Nat) : Int := if j = k then x else S j
def IsSign (x : Int) : Prop := x = 1 ∨ x = -1
theorem IsSign.mul {x y : Int} (h : IsSign x) (k : IsSign y) : IsSign (x * y) := by
  rcases h with rfl | rfl <;> rcases k with rfl | rfl <;> simp [IsSign]
theorem tapP_sign {T : Nat → Nat} {S : Nat → Int} {k m : Nat} (hT : ∀ i, i < m → T i < 5) (hS : ∀ j, j < k + 5 → IsSign (S j)) : ∀ i, i ≤ m → IsSign (tapP T S k i)
  | 0, _ => .inl rfl
  | i + 1, h => (tapP_sign hT hS i (by omega)).mul (hS _ (by have := hT i (by omega); omega))
theorem sgA_sign {T : Nat → Nat} {m : Nat} (hT : ∀ i, i < m → T i < 5) : ∀ k j, j < k + 5 → IsSign (sgA T m k j)
  | 0, j, h => by
    unfold sgA
    by_cases h0 : j = 0
    · rw [if_pos h0]; exact .inr rfl
    · rw [if_neg h0, if_pos (by omega)]; exact .inl rfl
  | k + 1, j, h => by
    unfold sgA
    by_cases h0 : j = k + 5
    · rw [if_pos h0]; exact tapP_sign hT (fun j hj => sgA_sign hT k j hj) m (Nat.le_refl _)
    · rw [if_neg h0]; exact sgA_sign hT k j (by omega)
/-- The taps of a block of its own. -/
theorem tapP_setI (T : Nat → Nat) (S : Nat → Int) (k : Nat) (x : Int) (m : Nat) (hT : ∀ i, i < m → T i < 5) : ∀ i, i ≤ m → tapP T (setI S (k + 5) x) k i = tapP T S k i
  | 0, _ => rfl
  | i + 1, h => by
    show tapP T (setI S (k + 5) x) k i * setI S (k + 5) x (k + T i) = _
    rw [tapP_setI T S k x m hT i (by omega), setI, if_neg (by have := hT i (by omega); omega)]
    rfl
/-- What the array is at last. -/
def sgF (T : Nat → Nat) (m : Nat) : Nat → Int := sgA T m 26
def s0F (j : Nat) : Int := if j = 0 then -1 else if j < 5 then 1 else 0
theorem sgA_zero (T : Nat → Nat) (m : Nat) : sgA T m 0 = s0F := by funext j; rfl
set_option maxHeartbeats 4000000 in
set_option maxRecDepth 100000 in
theorem signsOf_any (A : Option Addr) (m c : Nat) (T : Nat → Nat) (w : World) (hm : m ≤ 31) (hT : ∀ i, i < m → T i < 5) (hI : IntsAt w 0 A m (fun i => (T i : Int))) :
    Calls Try.prog 91 #[.slice A m c] w fun e w' => e = .returned (.agg (arr31 (sgF T m))) ∧ Below w.heap.size w w' := by
  have HI := hide hI
  have HT := hide hT
  clear hI hT
  go_enter Try.func91, Try.ntmps91
  go_upto_region 1 with (refine wpList_allocTo rfl _ rfl (.pointer (some ⟨w.heap.size, 0, none⟩)) (.cells (arr31 fun _ => 0) 136) (by kernel_rfl) ?_)
  obtain ⟨W1, hW1⟩ : ∃ q : World, q = w.alloc (.cells (arr31 fun _ => 0) 136) := ⟨_, rfl⟩
  rw [← hW1]
  have r1 : W1.rowIs w.heap.size 136 31 (arrF fun _ => 0) := by rw [hW1]; exact rowIs_arr31 w _ _ rfl
  have hB1 : Below w.heap.size w W1 := by rw [hW1]; (repeat (first | (with_reducible exact Below.refl _ _) | (with_reducible refine Go.below_drewN ?_ _) | (with_reducible refine Below.drew ?_) | (with_reducible refine Below.alloc ?_ (by first | exact Nat.le_refl _ | (simp; done) | (simp; omega) | omega) _) | (with_reducible refine Below.setCell ?_ (by first | exact Nat.le_refl _ | (simp; done) | (simp; omega) | omega) _)))
  have hs1 : W1.heap.size = w.heap.size + 1 := by rw [hW1]; simp
  clear hW1
  go_upto_region 2 with (first | (refine wpList_buildTo rfl 136 _ rfl (some 7) rfl (arr31 s0F) (by kernel_rfl) ?_) | (refine wpList_store31 rfl (.tmp 3) (.tmp 7) rfl W1.heap.size (arrF fun _ => 0) s0F rfl rfl (rowIs_arr31 W1 _ _ rfl) ?_; intro W2 r2 o2) | (refine wpList_allocTo rfl _ rfl (.pointer (some ⟨W1.heap.size, 0, none⟩)) (.cells (arr31 fun _ => 0) 136) (by kernel_rfl) ?_))
  have r12 : W2.rowIs w.heap.size 136 31 (arrF fun _ => 0) := o2.row (r1.alloc _) (by omega)
  have hB2 : Below w.heap.size w W2 := (hB1.alloc hB1.size _).trans (o2.to_below (by omega) (by simp; omega))
  obtain ⟨g, hg⟩ : ∃ g, g = W1.heap.size := ⟨_, rfl⟩
  rw [← hg] at r2
  rw [← hg]
  have hg0 : w.heap.size < g := by omega
  clear hg hs1 hB1 r1 o2
  go_wp2_with fail
  go_loopw [4] (fun i wr => ∃ n : Nat, 5 ≤ n ∧ n ≤ 31 ∧ i = .int .i64 (n : Int) ∧ wr.rowIs w.heap.size 136 31 (arrF fun _ => 0) ∧ wr.rowIs g 136 31 (arrF (sgA T m (n - 5))) ∧ Below w.heap.size w wr) (fun i _ => 31 - (Go.RowKit.intOf i).toNat)
  case atStart => exact ⟨5, by decide, by decide, rfl, r12, by rw [show 5 - 5 = 0 from rfl, sgA_zero]; exact r2, hB2⟩
  case round =>
    clear r12 r2 hB2
    obtain ⟨n, h5, h31, rfl, hZ, hR, hB⟩ := hrel
    obtain ⟨wA, rfl⟩ : ∃ x : World, x = wr := ⟨_, rfl⟩
    by_cases hlt : n < 31
    · have hltz : (n : Int) < 31 := by omega
      obtain ⟨d, hd⟩ : ∃ d, d = n - 5 := ⟨_, rfl⟩
      obtain ⟨S, hS⟩ : ∃ S, S = sgA T m d := ⟨_, rfl⟩
      have HD := hide hd
      have HS := hide hS
      rw [← hd, ← hS] at hR
      have hc0 := hR.cell hlt
      have hf0 := hR.frozen n
      clear hd hS
      go_wp2_with fail
      have r3 : (wA.setCell ⟨g, n, none⟩ (.int .i64 1)).rowIs g 136 31 (arrF (setI S n 1)) := rowIs_setI hR n 1
      have z3 := World.rowIs.setOther hZ (a := ⟨g, n, none⟩) (by show w.heap.size ≠ g; omega) (.int .i64 1)
      have hB3 := hB.setCell (p := ⟨g, n, none⟩) (by show w.heap.size ≤ g; omega) (.int .i64 1)
      go_loopw [16] (fun x wr => ∃ i : Nat, i ≤ m ∧ x = .int .i64 (i : Int) ∧ wr.rowIs w.heap.size 136 31 (arrF fun _ => 0) ∧ wr.rowIs g 136 31 (arrF (setI S n (tapP T S d i))) ∧ Below w.heap.size w wr) (fun x _ => m - (Go.RowKit.intOf x).toNat)
      case atStart => exact ⟨0, Nat.zero_le _, rfl, z3, r3, hB3⟩
      case round =>
        clear r3 z3 hB3 hc0 hf0 hZ hR hB
        obtain ⟨i, him, rfl, hZ, hR, hB⟩ := hrel
        obtain ⟨wB, rfl⟩ : ∃ x : World, x = wr := ⟨_, rfl⟩
        by_cases hli : i < m
        · have hliz : (i : Int) < (m : Int) := by omega
          have ht5 := HT.out i hli
          obtain ⟨b0, o0, rfl, hb0, hb1, hcell⟩ := (HI.out.below hB) i hli
          obtain ⟨t, ht⟩ : ∃ t, t = T i := ⟨_, rfl⟩
          replace hcell : wB.cell? ⟨b0, o0 + i, none⟩ = some (.int .i64 (T i : Int)) := hcell
          rw [← ht] at ht5 hcell
          have HTi := hide ht
          clear ht
          obtain ⟨p, hp⟩ : ∃ p, p = d + t := ⟨_, rfl⟩
          have hd5 := HD.out
          have hp31 : p < 31 := by omega
          have hpz : (p : Int) < 31 := by omega
          have hpn : p ≠ n := by omega
          have q1 : IntKind.i64.wrap ((n : Int) - 5) = (d : Int) := by rw [IntWalk.i64_in _ (by omega)]; omega
          have q2 : IntKind.i64.wrap ((d : Int) + (t : Int)) = (p : Int) := by rw [IntWalk.i64_in _ (by omega)]; omega
          have hsg : ∀ j, j < d + 5 → IsSign (S j) := by rw [HS.out]; exact sgA_sign HT.out d
          have hv := tapP_sign HT.out hsg i (by omega)
          have hx := hsg p (by omega)
          obtain ⟨v, hvv⟩ : ∃ v, v = tapP T S d i := ⟨_, rfl⟩
          obtain ⟨x, hxx⟩ : ∃ x, x = S p := ⟨_, rfl⟩
          rw [← hvv] at hv hR
          rw [← hxx] at hx
          have q3 : IntKind.i64.wrap (v * x) = v * x := IntWalk.i64_in _ (by rcases hv with rfl | rfl <;> rcases hx with rfl | rfl <;> decide)
          have hcn : wB.cell? ⟨g, n, none⟩ = some (.int .i64 v) := by rw [hR.cell hlt]; simp [arrF, setI]
          have hcp : wB.cell? ⟨g, p, none⟩ = some (.int .i64 x) := by rw [hR.cell hp31, hxx]; simp [arrF, setI, hpn]
          have hfn := hR.frozen n
          have HV := hide hvv
          have HX := hide hxx
          have HP := hide hp
          have HR := hide hR
          clear hvv hxx hp hR hv hx hsg hd5 hpn
          go_wp2_with fail
          go_still_tail 11, (by kernel_rfl)
          repeat still_step
          try refine wpStill_nil ?_
          go_wp2_with fail
          go_roundw
          case rel =>
            refine ⟨i + 1, by omega, by go_num, hZ.drew.setOther (by show w.heap.size ≠ g; omega) _, (rowIs_setI HR.out.drew n (v * x)).congr fun j _ => ?_, hB.drew.setCell (by show w.heap.size ≤ g; omega) _⟩
            show arrF (setI (setI S n v) n (v * x)) j = arrF (setI S n (tapP T S d i * S (d + T i))) j
            rw [← HV.out, ← HTi.out, ← HP.out, ← HX.out]
            unfold arrF setI
            by_cases e : j = n
            · simp only [if_pos e]
            · simp only [if_neg e]
          case measure => simp [Go.RowKit.intOf]; omega
        · obtain rfl : i = m := by omega
          go_wp2_with fail
          go_roundw
          case rel =>
            refine ⟨n + 1, by omega, by omega, by go_num, hZ, hR.congr fun j _ => ?_, hB⟩
            have hd5 := HD.out
            rw [show n + 1 - 5 = d + 1 by omega]
            show arrF (setI S n (tapP T S d i)) j = arrF (fun j => if j = d + 5 then tapP T (sgA T i d) d i else sgA T i d j) j
            rw [← HS.out, show n = d + 5 by omega]
            rfl
          case measure => simp [Go.RowKit.intOf]; omega
    · obtain rfl : n = 31 := by omega
      have HZ := hide hZ
      have HR := hide hR
      go_upto_region 11 with fail
      go_wp2_with (first | (refine wpList_load31 rfl (.tmp 3) rfl g (sgA T m 26) rfl HR.out ?_) | (refine wpList_store31 rfl (.tmp 2) (.tmp 32) rfl w.heap.size (arrF fun _ => 0) (sgA T m 26) rfl rfl HZ.out ?_; intro W2 r2 o2))
      refine bodyPost_ret (v := .agg (arr31 (sgA T m 26))) (result31 rfl _ rfl r2) rfl ⟨rfl, hB.trans (o2.to_below (Nat.le_refl _) hB.size)⟩
end Go.Proofs.Ytfemghbjngemlaa
