/- Lemmas: Ah. -/
import Derived.Test.YtfemghbjngemlaaBk03
import Derived.Test.YtfemghbjngemlaaBk13
set_option linter.unusedVariables false
set_option linter.unusedSimpArgs false
/- Through of the reference. -/
namespace Go.Proofs.Ytfemghbjngemlaa
open Go.RowKit Go.Great
theorem paths_cells {w : World} {lo n b o j : Nat} {D R I : Nat → Int} (h : PathsAt w lo (some ⟨b, o, none⟩) n D R I) (hj : j < n) : w.cell? ⟨b, o + j * 3, none⟩ = some (.int .i64 (D j)) ∧ w.cell? ⟨b, o + j * 3 + 1, none⟩ = some (.int .i64 (R j)) ∧ w.cell? ⟨b, o + j * 3 + 2, none⟩ = some (.int .i64 (I j)) := by
  obtain ⟨b', o', e, -, -, h0, h1, h2⟩ := h j hj
  injection e with e
  injection e with e1 e2
  subst e1
  subst e2
  exact ⟨h0, h1, h2⟩
set_option maxHeartbeats 8000000 in
set_option maxRecDepth 100000 in
theorem throughR_any (A B : Option Addr) (n c m d : Nat) (D R I : Nat → Int) (F : Nat → Num) (w : World) (hn : n ≤ 6) (hm : m ≤ 120) (hK : ∀ j, j < n → (0 ≤ D j ∧ D j ≤ 7) ∧ (-100 ≤ R j ∧ R j ≤ 100) ∧ -100 ≤ I j ∧ I j ≤ 100) (hF : ∀ i, i < m → (F i).Within 1000000000) (hI : PathsAt w 0 A n D R I) (hJ : NumsAt w 0 B m F) :
    Calls Try.prog 40 #[.slice A n c, .slice B m d] w fun e w' => ∃ v, e = .returned v ∧ OwnNums w' w.heap.size v m (thrTo D R I F n) ∧ Below w.heap.size w w' := by
  have HI := hide hI
  have HJ := hide hJ
  have HK := hide hK
  have HF := hide hF
  clear hI hJ hK hF
  go_enter Try.func40, Try.ntmps40
  go_wp2_with fail
  go_loopw [5, 6] (fun v i wr => ∃ k : Nat, k ≤ m ∧ i = .int .i64 (k : Int) ∧ OwnNums wr w.heap.size v k (thrTo D R I F n) ∧ Below w.heap.size w wr) (fun _ i _ => m - (Go.RowKit.intOf i).toNat)
  case atStart => exact ⟨0, Nat.zero_le _, rfl, ownNums_nil _ _ _, Below.refl _ _⟩
  case round =>
    obtain ⟨k, hk, rfl, ho, hB⟩ := hrel
    obtain ⟨wA, rfl⟩ : ∃ x : World, x = wr := ⟨_, rfl⟩
    obtain ⟨O, o9, rfl, ho9, hO⟩ := ownNums_form ho
    by_cases hlt : k < m
    · have hltz : (k : Int) < (m : Int) := by omega
      go_upto_region 6 with fail
      obtain ⟨W1, hW1⟩ : ∃ q : World, q = wA.alloc (.cells #[.int .i64 0, .int .i64 0, .int .i64 0, .int .i64 0] 26) := ⟨_, rfl⟩
      rw [← hW1]
      obtain ⟨g7, hg7⟩ : ∃ g, g = wA.heap.size := ⟨_, rfl⟩
      have b7 : Box W1 g7 26 #[.int .i64 0, .int .i64 0, .int .i64 0, .int .i64 0] := by rw [hW1]; exact Box.made hg7
      have hw7 : w.heap.size ≤ g7 := by rw [hg7]; exact hB.size
      have hW1s : g7 < W1.heap.size := by rw [hW1, hg7]; simp
      have HOF := hide (fun (W : World) (hb : Below W1.heap.size W1 W) => trivial)
      have hA1 := ho.alloc (.cells #[.int .i64 0, .int .i64 0, .int .i64 0, .int .i64 0] 26)
      have hB1 := hB.alloc hB.size (.cells #[.int .i64 0, .int .i64 0, .int .i64 0, .int .i64 0] 26)
      rw [← hW1] at hA1 hB1
      have hO7 : (Value.slice O k o9).ownBlock ≠ some g7 := by
        intro e
        rcases ho.2 with ⟨e1, -⟩ | ⟨g, cap, cur, e1, -, hg, -⟩
        · rw [e1] at e; simp [Value.ownBlock] at e
        · rw [e1] at e
          have := (Array.getElem?_eq_some_iff.1 hg).1
          simp [Value.ownBlock] at e
          omega
      rw [← hg7]
      clear hW1 hg7 ho hB HOF hO
      go_wp2_with fail
      go_loopw [8] (fun i wr => ∃ j : Nat, j ≤ n ∧ i = .int .i64 (j : Int) ∧ Box wr g7 26 #[.int .i64 (thrTo D R I F j k).a, .int .i64 (thrTo D R I F j k).b, .int .i64 (thrTo D R I F j k).c, .int .i64 (thrTo D R I F j k).d] ∧ OwnNums wr w.heap.size (.slice O k o9) k (thrTo D R I F n) ∧ Below w.heap.size w wr) (fun i _ => n - (Go.RowKit.intOf i).toNat)
      case atStart => exact ⟨0, Nat.zero_le _, rfl, b7, hA1, hB1⟩
      case round =>
        clear b7 hA1 hB1
        obtain ⟨j, hj, rfl, b7, hA, hB⟩ := hrel
        obtain ⟨wB, rfl⟩ : ∃ q : World, q = wr := ⟨_, rfl⟩
        by_cases hjn : j < n
        · have hjz : (j : Int) < (n : Int) := by omega
          obtain ⟨pb, po, rfl, -⟩ := HI.out j hjn
          have hp := paths_cells (HI.out.below hB) hjn
          obtain ⟨HD, HR, HG⟩ := HK.out j hjn
          have hsw : (thrTo D R I F j k).Within 1200000000000 := (thrTo_within (D := D) (by decide) HF.out (j := j) (fun q hq => by have := HK.out q (by omega); exact ⟨this.2.1.1, this.2.1.2, this.2.2.1, this.2.2.2⟩) hlt).more (by omega)
          have HSS := hide (show thrTo D R I F (j + 1) k = if D j ≤ (k : Int) then (thrTo D R I F j k).add ((gN (R j) (I j)).prod (F (k - (D j).toNat))) else thrTo D R I F j k from rfl)
          obtain ⟨s, hs⟩ : ∃ s, s = thrTo D R I F j k := ⟨_, rfl⟩
          rw [← hs] at hsw HSS b7
          have HPC := hide (fun W (h : Below w.heap.size w W) => paths_cells (HI.out.below h) hjn)
          generalize hdl : D j = dl at *
          generalize hre : R j = re at *
          generalize him : I j = im at *
          clear hs hdl hre him
          by_cases hd : dl ≤ (k : Int)
          · have hdz : (k : Int) ≥ dl := hd
            obtain ⟨kx, hkk⟩ : ∃ q, q = k - dl.toNat := ⟨_, rfl⟩
            have hkx : kx < m := by omega
            have hkxz : (kx : Int) < (m : Int) := by omega
            have q1 : IntKind.i64.wrap ((k : Int) - dl) = (kx : Int) := by rw [IntWalk.i64_in _ (by omega)]; omega
            obtain ⟨b, o, rfl, -⟩ := HJ.out kx hkx
            obtain ⟨x, hFx⟩ : ∃ x, F kx = x := ⟨_, rfl⟩
            have hxw := HF.out kx hkx
            rw [hFx] at hxw
            have hux := gN_prod_within HR HG hxw
            have HTT := hide (fun W => timesR_any re im x W HR HG hxw)
            have HSS2 := HSS.out
            rw [if_pos hd, ← hkk, hFx] at HSS2
            obtain ⟨u, hu⟩ : ∃ u, u = (gN re im).prod x := ⟨_, rfl⟩
            rw [← hu] at hux HTT HSS2
            have HPL := hide (fun W => plusR_any s u 2000000000000 W ((hsw.add hux).more (by decide)) (by decide))
            obtain ⟨tt, htt⟩ : ∃ tt, tt = s.add u := ⟨_, rfl⟩
            rw [← htt] at HSS2 HPL
            have HS2 := hide HSS2
            clear hu htt hsw hux hxw HSS2 HSS hkk HD HR HG
            obtain ⟨p0, p1, p2⟩ := hp
            go_upto_region 10 with fail
            clear p0 p1 p2
            obtain ⟨z0, z1, z2, z3, f0, f1, f2, f3, hz⟩ := b7.cells4
            obtain ⟨p0, p1, p2⟩ := HPC.out _ hB
            obtain ⟨c0, c1, c2, c3⟩ := nums_cells (HJ.out.below hB) hkx
            rw [hFx] at c0 c1 c2 c3
            refine wp_region_held_drew (S := fun w' => w'.cell? ⟨pb, po + j * 3, none⟩ = some (.int .i64 dl) ∧ w'.cell? ⟨pb, po + j * 3 + 1, none⟩ = some (.int .i64 re) ∧ w'.cell? ⟨pb, po + j * 3 + 2, none⟩ = some (.int .i64 im) ∧ w'.cell? ⟨b, o + kx * 4, none⟩ = some (.int .i64 x.a) ∧ w'.cell? ⟨b, o + kx * 4 + 1, none⟩ = some (.int .i64 x.b) ∧ w'.cell? ⟨b, o + kx * 4 + 2, none⟩ = some (.int .i64 x.c) ∧ w'.cell? ⟨b, o + kx * 4 + 3, none⟩ = some (.int .i64 x.d)) (by kernel_rfl) ⟨p0, p1, p2, c0, c1, c2, c3⟩ (fun hHeld => ?_)
            refine wpAnyH_take (i := 1) (oi := ⟨some 29, _, _, _, _, _⟩) (v := ?_) rfl (by kernel_rfl) (by kernel_rfl) (by kernel_rfl) (fun _ _ _ h => h) (Or.inl ⟨by rfl, ?_⟩) (by assumption) ?_
            rotate_left
            · (intro w' hSw; (try dsimp only at hSw); go_simp <;> (with_reducible rfl))
            try simp only [Act.put, List.setIfInBounds_toArray, List.set_cons_zero, List.set_cons_succ]
            refine wpAnyH_take (i := 2) (oi := ⟨some 30, _, _, _, _, _⟩) (v := ?_) rfl (by kernel_rfl) (by kernel_rfl) (by kernel_rfl) (fun _ _ _ h => h) (Or.inl ⟨by rfl, ?_⟩) (by assumption) ?_
            rotate_left
            · (intro w' hSw; (try dsimp only at hSw); go_simp <;> (with_reducible rfl))
            try simp only [Act.put, List.setIfInBounds_toArray, List.set_cons_zero, List.set_cons_succ]
            refine wpAnyH_take (i := 3) (oi := ⟨some 31, _, _, _, _, _⟩) (v := ?_) rfl (by kernel_rfl) (by kernel_rfl) (by kernel_rfl) (fun _ _ _ h => h) (Or.inl ⟨by rfl, ?_⟩) (by assumption) ?_
            rotate_left
            · (intro w' hSw; (try dsimp only at hSw); go_simp <;> (with_reducible rfl))
            try simp only [Act.put, List.setIfInBounds_toArray, List.set_cons_zero, List.set_cons_succ]
            refine wpAnyH_take (i := 4) (oi := ⟨some 32, _, _, _, _, _⟩) (v := ?_) rfl (by kernel_rfl) (by kernel_rfl) (by kernel_rfl) (fun _ _ _ h => h) (Or.inl ⟨by rfl, ?_⟩) (by assumption) ?_
            rotate_left
            · (intro w' hSw; (try dsimp only at hSw); go_simp <;> (with_reducible rfl))
            try simp only [Act.put, List.setIfInBounds_toArray, List.set_cons_zero, List.set_cons_succ]
            refine wpAnyH_take (i := 5) (oi := ⟨some 33, _, _, _, _, _⟩) (v := ?_) rfl (by kernel_rfl) (by kernel_rfl) (by kernel_rfl) (fun _ _ _ h => h) (Or.inl ⟨by rfl, ?_⟩) (by assumption) ?_
            rotate_left
            · (intro w' hSw; (try dsimp only at hSw); go_simp <;> (with_reducible rfl))
            try simp only [Act.put, List.setIfInBounds_toArray, List.set_cons_zero, List.set_cons_succ]
            refine wpAnyH_take (i := 6) (oi := ⟨some 34, _, _, _, _, _⟩) (v := ?_) rfl (by kernel_rfl) (by kernel_rfl) (by kernel_rfl) (fun _ _ _ h => h) (Or.inl ⟨by rfl, ?_⟩) (by assumption) ?_
            rotate_left
            · (intro w' hSw; (try dsimp only at hSw); go_simp <;> (with_reducible rfl))
            try simp only [Act.put, List.setIfInBounds_toArray, List.set_cons_zero, List.set_cons_succ]
            refine wpAnyH_take (i := 7) (oi := ⟨some 35, _, _, _, _, _⟩) (v := ?_) rfl (by kernel_rfl) (by kernel_rfl) (by kernel_rfl) (fun _ _ _ h => h) (Or.inl ⟨by rfl, ?_⟩) (by assumption) ?_
            rotate_left
            · (intro w' hSw; (try dsimp only at hSw); go_simp <;> (with_reducible rfl))
            try simp only [Act.put, List.setIfInBounds_toArray, List.set_cons_zero, List.set_cons_succ]
            refine wpAnyH_take (i := 8) (oi := ⟨some 36, _, _, _, _, _⟩) (v := ?_) rfl (by kernel_rfl) (by kernel_rfl) (by kernel_rfl) (fun _ _ _ h => h) (Or.inl ⟨by rfl, ?_⟩) (by assumption) ?_
            rotate_left
            · (intro w' hSw; (try dsimp only at hSw); go_simp <;> (with_reducible rfl))
            try simp only [Act.put, List.setIfInBounds_toArray, List.set_cons_zero, List.set_cons_succ]
            refine wpAnyH_take (i := 9) (oi := ⟨some 37, _, _, _, _, _⟩) (v := ?_) rfl (by kernel_rfl) (by kernel_rfl) (by kernel_rfl) (fun _ _ _ h => h) (Or.inl ⟨by rfl, ?_⟩) (by assumption) ?_
            rotate_left
            · (intro w' hSw; (try dsimp only at hSw); go_simp <;> (with_reducible rfl))
            try simp only [Act.put, List.setIfInBounds_toArray, List.set_cons_zero, List.set_cons_succ]
            refine wpAnyH_take (i := 10) (oi := ⟨some 38, _, _, _, _, _⟩) (v := ?_) rfl (by kernel_rfl) (by kernel_rfl) (by kernel_rfl) (fun _ _ _ h => h) (Or.inl ⟨by rfl, ?_⟩) (by assumption) ?_
            rotate_left
            · (intro w' hSw; (try dsimp only at hSw); go_simp <;> (with_reducible rfl))
            try simp only [Act.put, List.setIfInBounds_toArray, List.set_cons_zero, List.set_cons_succ]
            refine wpAnyH_take (i := 11) (oi := ⟨some 39, _, _, _, _, _⟩) (v := ?_) rfl (by kernel_rfl) (by kernel_rfl) (by kernel_rfl) (fun _ _ _ h => h) (Or.inl ⟨by rfl, ?_⟩) (by assumption) ?_
            rotate_left
            · (intro w' hSw; (try dsimp only at hSw); go_simp <;> (with_reducible rfl))
            try simp only [Act.put, List.setIfInBounds_toArray, List.set_cons_zero, List.set_cons_succ]
            refine wpAnyH_take (i := 12) (oi := ⟨some 40, _, _, _, _, _⟩) (v := ?_) rfl (by kernel_rfl) (by kernel_rfl) (by kernel_rfl) (fun _ _ _ h => h) (Or.inl ⟨by rfl, ?_⟩) (by assumption) ?_
            rotate_left
            · (intro w' hSw; (try dsimp only at hSw); go_simp <;> (with_reducible rfl))
            try simp only [Act.put, List.setIfInBounds_toArray, List.set_cons_zero, List.set_cons_succ]
            refine wpAnyH_take (i := 13) (oi := ⟨some 41, _, _, _, _, _⟩) (v := ?_) rfl (by kernel_rfl) (by kernel_rfl) (by kernel_rfl) (fun _ _ _ h => h) (Or.inl ⟨by rfl, ?_⟩) (by assumption) ?_
            rotate_left
            · (intro w' hSw; (try dsimp only at hSw); go_simp <;> (with_reducible rfl))
            try simp only [Act.put, List.setIfInBounds_toArray, List.set_cons_zero, List.set_cons_succ]
            refine wpAnyH_take (i := 14) (oi := ⟨some 42, _, _, _, _, _⟩) (v := ?_) rfl (by kernel_rfl) (by kernel_rfl) (by kernel_rfl) (fun _ _ _ h => h) (Or.inl ⟨by rfl, ?_⟩) (by assumption) ?_
            rotate_left
            · (intro w' hSw; (try dsimp only at hSw); go_simp <;> (with_reducible rfl))
            try simp only [Act.put, List.setIfInBounds_toArray, List.set_cons_zero, List.set_cons_succ]
            refine wpAnyH_take (i := 15) (oi := ⟨some 43, _, _, _, _, _⟩) (v := ?_) rfl (by kernel_rfl) (by kernel_rfl) (by kernel_rfl) (fun _ _ _ h => h) (Or.inl ⟨by rfl, ?_⟩) (by assumption) ?_
            rotate_left
            · (intro w' hSw; (try dsimp only at hSw); go_simp <;> (with_reducible rfl))
            try simp only [Act.put, List.setIfInBounds_toArray, List.set_cons_zero, List.set_cons_succ]
            refine wpAnyH_ready (rs := [0, 16]) (by kernel_rfl) (by simp) ?_
            refine AllReadyH.cons (o := ⟨some 28, _, _, _, _, _⟩) rfl (fun K' hK => ?_) (AllReadyH.cons (o := ⟨some 44, _, _, _, _, _⟩) rfl (fun K' hK => ?_) AllReadyH.nil)
            · skip
              go_simp
              refine hK.out _ _ ⟨p0, p1, p2, c0, c1, c2, c3⟩ (fun hHeld => ?_)
              clear hK K'
              try simp only [Act.put, List.setIfInBounds_toArray, List.set_cons_zero, List.set_cons_succ]
              refine wpAnyH_ready (rs := [16]) (by kernel_rfl) (by simp) ?_
              refine AllReadyH.cons (o := ⟨some 44, _, _, _, _, _⟩) rfl (fun K' hK => ?_) AllReadyH.nil
              go_simp
              go_at_call 75
              refine (HTT.out _).mono ?_
              rintro r' v2 ⟨rfl, hb2⟩
              have hc2 : Below wB.heap.size wB v2 := by first | exact hb2 | exact below_of_drew hb2 | exact below_of_drew (below_of_drew hb2)
              have A2 := hA.below hc2
              have X2 := b7.below hc2
              have hB2 := hB.trans (hc2.mono hB.size)
              clear z0 z1 z2 z3 f0 f1 f2 f3 hz p0 p1 p2 c0 c1 c2 c3
              obtain ⟨z0, z1, z2, z3, f0, f1, f2, f3, hz⟩ := X2.cells4
              obtain ⟨p0, p1, p2⟩ := HPC.out _ hB2
              obtain ⟨c0, c1, c2, c3⟩ := nums_cells (HJ.out.below hB2) hkx
              rw [hFx] at c0 c1 c2 c3
              go_wp2_with fail
              refine hK.out _ _ ⟨p0, p1, p2, c0, c1, c2, c3⟩ (fun hHeld => ?_)
              clear hK K'
              try simp only [Act.put, List.setIfInBounds_toArray, List.set_cons_zero, List.set_cons_succ]
              refine wpAnyH_ready (rs := [17]) (by kernel_rfl) (by simp) ?_
              refine AllReadyH.cons (o := ⟨some 45, _, _, _, _, _⟩) rfl (fun K' hK => ?_) AllReadyH.nil
              go_simp
              go_at_call 51
              refine (HPL.out _).mono ?_
              rintro r' v3 ⟨rfl, hb3⟩
              have hc3 : Below v2.heap.size v2 v3 := by first | exact hb3 | exact below_of_drew hb3 | exact below_of_drew (below_of_drew hb3)
              have A3 := A2.below hc3
              have X3 := X2.below hc3
              have hB3 := hB2.trans (hc3.mono hB2.size)
              clear z0 z1 z2 z3 f0 f1 f2 f3 hz p0 p1 p2 c0 c1 c2 c3
              obtain ⟨z0, z1, z2, z3, f0, f1, f2, f3, hz⟩ := X3.cells4
              obtain ⟨p0, p1, p2⟩ := HPC.out _ hB3
              obtain ⟨c0, c1, c2, c3⟩ := nums_cells (HJ.out.below hB3) hkx
              rw [hFx] at c0 c1 c2 c3
              go_wp2_with fail
              refine hK.out _ _ ⟨p0, p1, p2, c0, c1, c2, c3⟩ (fun hHeld => ?_)
              clear hK K'
              try simp only [Act.put, List.setIfInBounds_toArray, List.set_cons_zero, List.set_cons_succ]
              refine wpAnyH_ready (rs := [18]) (by kernel_rfl) (by simp) ?_
              refine AllReadyH.cons (o := ⟨none, _, _, _, _, _⟩) rfl (fun K' hK => ?_) AllReadyH.nil
              go_simp
              have HL4 := Below.put4 (c := g7) hB3 hw7 (.int .i64 tt.a) (.int .i64 tt.b) (.int .i64 tt.c) (.int .i64 tt.d)
              have HLL4 := hide HL4
              have HXX4 := hide (X3.put4 (.int .i64 tt.a) (.int .i64 tt.b) (.int .i64 tt.c) (.int .i64 tt.d))
              have HA4 := hide ((((A3.other (k := g7) 0 (.int .i64 tt.a) hO7).other (k := g7) 1 (.int .i64 tt.b) hO7).other (k := g7) 2 (.int .i64 tt.c) hO7).other (k := g7) 3 (.int .i64 tt.d) hO7)
              refine hK.out _ _ (by obtain ⟨p0, p1, p2⟩ := HPC.out _ HL4; obtain ⟨c0, c1, c2, c3⟩ := nums_cells (HJ.out.below HL4) hkx; rw [hFx] at c0 c1 c2 c3; exact ⟨p0, p1, p2, c0, c1, c2, c3⟩) (fun hHeld => ?_)
              clear hK K'
              try simp only [Act.put, List.setIfInBounds_toArray, List.set_cons_zero, List.set_cons_succ]
              clear z0 z1 z2 z3 f0 f1 f2 f3 hz p0 p1 p2 c0 c1 c2 c3 HL4
              refine wpAnyH_done (by kernel_rfl) ?_ _
              go_wp2_with fail
              go_roundw
              case rel => exact ⟨j + 1, by omega, by go_num, by rw [HS2.out]; exact HXX4.out, HA4.out, HLL4.out⟩
              case measure => simp [Go.RowKit.intOf]; omega
            · skip
              go_simp
              go_at_call 75
              refine (HTT.out _).mono ?_
              rintro r' v5 ⟨rfl, hb5⟩
              have hc5 : Below wB.heap.size wB v5 := by first | exact hb5 | exact below_of_drew hb5 | exact below_of_drew (below_of_drew hb5)
              have A5 := hA.below hc5
              have X5 := b7.below hc5
              have hB5 := hB.trans (hc5.mono hB.size)
              clear z0 z1 z2 z3 f0 f1 f2 f3 hz p0 p1 p2 c0 c1 c2 c3
              obtain ⟨z0, z1, z2, z3, f0, f1, f2, f3, hz⟩ := X5.cells4
              obtain ⟨p0, p1, p2⟩ := HPC.out _ hB5
              obtain ⟨c0, c1, c2, c3⟩ := nums_cells (HJ.out.below hB5) hkx
              rw [hFx] at c0 c1 c2 c3
              go_wp2_with fail
              refine hK.out _ _ ⟨p0, p1, p2, c0, c1, c2, c3⟩ (fun hHeld => ?_)
              clear hK K'
              try simp only [Act.put, List.setIfInBounds_toArray, List.set_cons_zero, List.set_cons_succ]
              refine wpAnyH_ready (rs := [0]) (by kernel_rfl) (by simp) ?_
              refine AllReadyH.cons (o := ⟨some 28, _, _, _, _, _⟩) rfl (fun K' hK => ?_) AllReadyH.nil
              go_simp
              refine hK.out _ _ ⟨p0, p1, p2, c0, c1, c2, c3⟩ (fun hHeld => ?_)
              clear hK K'
              try simp only [Act.put, List.setIfInBounds_toArray, List.set_cons_zero, List.set_cons_succ]
              refine wpAnyH_ready (rs := [17]) (by kernel_rfl) (by simp) ?_
              refine AllReadyH.cons (o := ⟨some 45, _, _, _, _, _⟩) rfl (fun K' hK => ?_) AllReadyH.nil
              go_simp
              go_at_call 51
              refine (HPL.out _).mono ?_
              rintro r' v7 ⟨rfl, hb7⟩
              have hc7 : Below v5.heap.size v5 v7 := by first | exact hb7 | exact below_of_drew hb7 | exact below_of_drew (below_of_drew hb7)
              have A7 := A5.below hc7
              have X7 := X5.below hc7
              have hB7 := hB5.trans (hc7.mono hB5.size)
              clear z0 z1 z2 z3 f0 f1 f2 f3 hz p0 p1 p2 c0 c1 c2 c3
              obtain ⟨z0, z1, z2, z3, f0, f1, f2, f3, hz⟩ := X7.cells4
              obtain ⟨p0, p1, p2⟩ := HPC.out _ hB7
              obtain ⟨c0, c1, c2, c3⟩ := nums_cells (HJ.out.below hB7) hkx
              rw [hFx] at c0 c1 c2 c3
              go_wp2_with fail
              refine hK.out _ _ ⟨p0, p1, p2, c0, c1, c2, c3⟩ (fun hHeld => ?_)
              clear hK K'
              try simp only [Act.put, List.setIfInBounds_toArray, List.set_cons_zero, List.set_cons_succ]
              refine wpAnyH_ready (rs := [18]) (by kernel_rfl) (by simp) ?_
              refine AllReadyH.cons (o := ⟨none, _, _, _, _, _⟩) rfl (fun K' hK => ?_) AllReadyH.nil
              go_simp
              have HL8 := Below.put4 (c := g7) hB7 hw7 (.int .i64 tt.a) (.int .i64 tt.b) (.int .i64 tt.c) (.int .i64 tt.d)
              have HLL8 := hide HL8
              have HXX8 := hide (X7.put4 (.int .i64 tt.a) (.int .i64 tt.b) (.int .i64 tt.c) (.int .i64 tt.d))
              have HA8 := hide ((((A7.other (k := g7) 0 (.int .i64 tt.a) hO7).other (k := g7) 1 (.int .i64 tt.b) hO7).other (k := g7) 2 (.int .i64 tt.c) hO7).other (k := g7) 3 (.int .i64 tt.d) hO7)
              refine hK.out _ _ (by obtain ⟨p0, p1, p2⟩ := HPC.out _ HL8; obtain ⟨c0, c1, c2, c3⟩ := nums_cells (HJ.out.below HL8) hkx; rw [hFx] at c0 c1 c2 c3; exact ⟨p0, p1, p2, c0, c1, c2, c3⟩) (fun hHeld => ?_)
              clear hK K'
              try simp only [Act.put, List.setIfInBounds_toArray, List.set_cons_zero, List.set_cons_succ]
              clear z0 z1 z2 z3 f0 f1 f2 f3 hz p0 p1 p2 c0 c1 c2 c3 HL8
              refine wpAnyH_done (by kernel_rfl) ?_ _
              go_wp2_with fail
              go_roundw
              case rel => exact ⟨j + 1, by omega, by go_num, by rw [HS2.out]; exact HXX8.out, HA8.out, HLL8.out⟩
              case measure => simp [Go.RowKit.intOf]; omega
          · have hdz : ¬ ((k : Int) ≥ dl) := hd
            obtain ⟨p0, p1, p2⟩ := hp
            go_wp2_with fail
            go_roundw
            case rel => exact ⟨j + 1, by omega, by go_num, by rw [HSS.out, if_neg hd]; exact b7, hA, hB⟩
            case measure => simp [Go.RowKit.intOf]; omega
        · obtain rfl : j = n := by omega
          have hjz : ¬ ((j : Int) < (j : Int)) := by omega
          obtain ⟨z, hz⟩ : ∃ z, z = thrTo D R I F j k := ⟨_, rfl⟩
          rw [← hz] at b7
          have HZ := hide hz
          have HO := hide hA
          have HB := hide hB
          have hs2 := hB.size
          obtain ⟨z0, z1, z2, z3, -⟩ := b7.cells4
          clear hz hA hB b7
          go_wp2_with (at_builtin; refine wpList_append_nums _ rfl (.tmp 46) (.tmp 48) rfl w.heap.size 0 (.slice O k o9) k _ rfl (HO.out.alloc _) (some ⟨_, 0, none⟩) 1 1 (fun _ => z) rfl (NumsAt.one (Box.made rfl)) (by omega) (by simp; omega) ?_; intro v' w' h1 hb4)
          go_roundw
          case rel =>
            refine ⟨k + 1, by omega, by go_num, h1.congr fun q hq => ?_, (HB.out.alloc hs2 _).trans hb4⟩
            unfold catN
            by_cases e : q < k
            · rw [if_pos e]
            · obtain rfl : q = k := by omega
              rw [if_neg e, HZ.out]
          case measure => simp [Go.RowKit.intOf]; omega
    · obtain rfl : k = m := by omega
      have hltz : ¬ ((k : Int) < (k : Int)) := by omega
      have HO := hide ho
      have HB := hide hB
      clear ho hB hO
      go_wp2_with fail
      go_ret
      exact ⟨_, rfl, HO.out, HB.out⟩
end Go.Proofs.Ytfemghbjngemlaa
