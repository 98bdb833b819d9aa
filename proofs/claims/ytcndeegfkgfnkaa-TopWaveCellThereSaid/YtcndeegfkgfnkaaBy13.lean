/- Lemmas: Ag. -/
import Derived.Test.YtcndeegfkgfnkaaBy08
import Derived.Test.YtcndeegfkgfnkaaBy09
import Derived.Test.YtcndeegfkgfnkaaBy10
import Derived.Test.YtcndeegfkgfnkaaBy12
set_option linter.unusedVariables false
set_option linter.unusedSimpArgs false
/- Through of the code. -/
namespace Go.Proofs.Ytcndeegfkgfnkaa
open Go.RowKit Go.Great
/-- The error of paths and samples. -/
def thrE (n : Nat) (D R I : Nat → Int) (m : Nat) (F : Nat → Num) : Int := twoE (chkE n D R I) (sampE m F)
/-- The error of Through. -/
def thrR (n : Nat) (D R I : Nat → Int) (m : Nat) (F : Nat → Num) : Int := if thrE n D R I m F = 0 then unI (numsE 1000000000 (thrTo D R I F n) m == 0) 8 else thrE n D R I m F
theorem thrE_right {n : Nat} {D R I : Nat → Int} {m : Nat} {F : Nat → Num} (h : thrE n D R I m F = 0) : (0 < n ∧ n ≤ 6 ∧ ∀ j, j < n → (0 ≤ D j ∧ D j ≤ 7) ∧ (-100 ≤ R j ∧ R j ≤ 100) ∧ -100 ≤ I j ∧ I j ≤ 100) ∧ m ≤ 120 ∧ ∀ i, i < m → (F i).Within 1000000000 := by
  unfold thrE twoE at h
  by_cases h1 : chkE n D R I = 0
  · rw [if_pos h1] at h
    refine ⟨chkE_right h1, ?_⟩
    unfold sampE at h
    by_cases h3 : 120 < m
    · rw [if_pos h3] at h; exact absurd h (by decide)
    · rw [if_neg h3] at h
      exact ⟨by omega, numsE_zero h⟩
  · rw [if_neg h1] at h; exact absurd h h1
set_option maxHeartbeats 8000000 in
set_option maxRecDepth 100000 in
theorem Through_any (A B : Option Addr) (n c m d : Nat) (D R I : Nat → Int) (F : Nat → Num) (w : World) (hn : n ≤ 100000) (hm : m ≤ 100000) (hI : PathsAt w 0 A n D R I) (hJ : NumsAt w 0 B m F) :
    Calls Try.prog 14 #[.slice A n c, .slice B m d] w fun e w' => ∃ v, e = .returned (.tuple #[v, .int .i64 (thrR n D R I m F)]) ∧ OwnNums w' w.heap.size v (if thrR n D R I m F = 0 then m else 0) (thrTo D R I F n) ∧ Below w.heap.size w w' := by
  have HE := hide (show firstE [chkE n D R I, sampE m F] = thrE n D R I m F from firstE_two _ _)
  have HP := hide (fun W (h : PathsAt W 0 A n D R I) => pathsError_any A n c D R I W hn h)
  have HX := hide (fun W (h : NumsAt W 0 B m F) => samplesError_any B m d F W hm h)
  have HZ := hide (thrE_right (n := n) (D := D) (R := R) (I := I) (m := m) (F := F))
  have HRE := hide (show thrR n D R I m F = if thrE n D R I m F = 0 then unI (numsE 1000000000 (thrTo D R I F n) m == 0) 8 else thrE n D R I m F from rfl)
  have HI := hide hI
  have HJ := hide hJ
  clear hI hJ
  generalize thrR n D R I m F = T at *
  generalize thrE n D R I m F = V at *
  generalize chkE n D R I = E1 at *
  generalize sampE m F = E2 at *
  go_enter Try.func14, Try.ntmps14
  go_wp2_with fail
  refine (HP.out _ HI.out).mono ?_
  rintro e w1 ⟨rfl, hb1⟩
  have HJ1 := hide (HJ.out.below hb1)
  have HB1 := hide hb1
  clear hb1
  go_wp2_with fail
  refine (HX.out _ HJ1.out).mono ?_
  rintro e w2 ⟨rfl, hb2⟩
  have HB2 := hide (HB1.out.trans (hb2.mono HB1.out.size))
  clear hb2 HB1 HJ1
  go_wp2_with fail
  refine (firstError_laid [E1, E2] 2 _ _ rfl (by decide)).mono ?_
  rintro e w3 ⟨rfl, hw3⟩
  rw [HE.out]
  have HB3 := hide (show Below w.heap.size w w3 by rw [← hw3]; exact HB2.out.alloc HB2.out.size _)
  clear hw3 HB2 HP HX HE
  by_cases hv : V = 0
  · obtain ⟨⟨hn0, hn6, hK⟩, hm2, hF⟩ := HZ.out hv
    have HT := hide (show T = unI (numsE 1000000000 (thrTo D R I F n) m == 0) 8 from by rw [HRE.out, if_pos hv])
    have HK := hide hK
    have HF := hide hF
    have HRS := hide (fun (A : Option Addr) W (h : NumsAt W 0 A m (thrTo D R I F n)) => resultError_any A m m (thrTo D R I F n) W (by omega) h)
    rw [← HT.out] at HRS
    have hmk := fun W => make_nums m (by omega) W
    have hmade := hide (OwnNums.made w3 w.heap.size w3.heap.size m HB3.out.size rfl (by unfold maxLen; omega))
    have tv : (V != 0) = false := by simpa using hv
    subst hv
    clear HZ HRE hK hF HT
    go_upto_region 5 with fail
    clear hmk
    obtain ⟨g7, hg7⟩ : ∃ g, g = w3.heap.size := ⟨_, rfl⟩
    have hw7 : w.heap.size ≤ g7 := by rw [hg7]; exact HB3.out.size
    have hBm : ∀ o, Below w.heap.size w (w3.alloc o) := fun o => HB3.out.alloc HB3.out.size o
    rw [← hg7] at hmade ⊢
    clear hg7
    go_wp2_with fail
    go_loopw [26] (fun i wr => ∃ j : Nat, j ≤ n ∧ i = .int .i64 (j : Int) ∧ OwnNums wr w.heap.size (.slice (some ⟨g7, 0, none⟩) m m) m (thrTo D R I F j) ∧ Below w.heap.size w wr) (fun i _ => n - (Go.RowKit.intOf i).toNat)
    case atStart => exact ⟨0, Nat.zero_le _, rfl, hmade.out, hBm _⟩
    case round =>
      clear hmade hBm
      obtain ⟨j, hj, rfl, hA, hB⟩ := hrel
      obtain ⟨wA, rfl⟩ : ∃ q : World, q = wr := ⟨_, rfl⟩
      by_cases hjn : j < n
      · have hjz : (j : Int) < (n : Int) := by omega
        obtain ⟨pb, po, rfl, -, hpb, p0, p1, p2⟩ := (HI.out.below hB) j hjn
        obtain ⟨HD, HR, HG⟩ := HK.out j hjn
        have HMS := hide (fun (m' : Nat) (h : (m' : Int) ≤ D j) (n' : Nat) => thrMid_start (D := D) (R := R) (I := I) (X := F) (j := j) (m := m') (n := n') h)
        have HME := hide (fun m' n' (h : n' < m') => thrMid_end (D := D) (R := R) (I := I) (X := F) (j := j) (m := m') (n := n') h)
        have HML := hide (fun (n' : Nat) (h : (n' : Int) < D j) => thrTo_late (D := D) (R := R) (I := I) (X := F) (j := j) (n := n') h)
        have HMA := hide (fun m' => thrMid_at (D := D) (R := R) (I := I) (X := F) (j := j) (m := m'))
        have HMT := hide (fun (m' : Nat) (h : D j ≤ (m' : Int)) (n' : Nat) => thrMid_step (D := D) (R := R) (I := I) (X := F) (j := j) (m := m') h n')
        have HMW := hide (fun k (hk : k < m) => (show (thrTo D R I F j k).Within 1200000000000 from (thrTo_within (D := D) (by decide) HF.out (j := j) (fun q hq => by have := HK.out q (by omega); exact ⟨this.2.1.1, this.2.1.2, this.2.2.1, this.2.2.2⟩) hk).more (by omega)))
        generalize hdl : D j = dl at *
        generalize hre : R j = re at *
        generalize him : I j = im at *
        go_upto_region 8 with fail
        obtain ⟨W1, hW1⟩ : ∃ q : World, q = wA.alloc (.cells #[.int .i64 dl, .int .i64 re, .int .i64 im] 41) := ⟨_, rfl⟩
        rw [← hW1]
        obtain ⟨g9, hg9⟩ : ∃ g, g = wA.heap.size := ⟨_, rfl⟩
        have b9 : Box W1 g9 41 #[.int .i64 dl, .int .i64 re, .int .i64 im] := by rw [hW1]; exact Box.made hg9
        have hx7 : g9 ≠ g7 := by have := hA.lt; omega
        rw [← hg9]
        have hA1 := hA.alloc (.cells #[.int .i64 dl, .int .i64 re, .int .i64 im] 41)
        have hB1 := hB.alloc hB.size (.cells #[.int .i64 dl, .int .i64 re, .int .i64 im] 41)
        rw [← hW1] at hA1 hB1
        clear hW1 hg9 hA hB p0 p1 p2 hpb
        have e0 := b9.at_ 0
        simp only [List.getElem?_toArray] at e0
        go_wp2_with fail
        clear e0
        go_loopw [10] (fun i wr => ∃ k : Nat, dl ≤ (k : Int) ∧ (k ≤ m ∨ (k : Int) = dl) ∧ i = .int .i64 (k : Int) ∧ Box wr g9 41 #[.int .i64 dl, .int .i64 re, .int .i64 im] ∧ OwnNums wr w.heap.size (.slice (some ⟨g7, 0, none⟩) m m) m (thrMid D R I F j k) ∧ Below w.heap.size w wr) (fun i _ => m - (Go.RowKit.intOf i).toNat)
        case atStart => exact ⟨dl.toNat, by omega, Or.inr (by omega), by rw [show ((dl.toNat : Nat) : Int) = dl by omega], b9, hA1.congr (fun q _ => (HMS.out _ (by omega) q).symm), hB1⟩
        case round =>
          clear b9 hA1 hB1
          obtain ⟨k, hk0, hk, rfl, b9, hA, hB⟩ := hrel
          obtain ⟨wB, rfl⟩ : ∃ q : World, q = wr := ⟨_, rfl⟩
          by_cases hlt : k < m
          · have hltz : (k : Int) < (m : Int) := by omega
            obtain ⟨kx, hkk⟩ : ∃ q, q = k - dl.toNat := ⟨_, rfl⟩
            have hkx : kx < m := by omega
            have hkxz : (kx : Int) < (m : Int) := by omega
            have q1 : IntKind.i64.wrap ((k : Int) - dl) = (kx : Int) := by rw [IntWalk.i64_in _ (by omega)]; omega
            obtain ⟨b, o, rfl, -⟩ := HJ.out kx hkx
            obtain ⟨s, hs⟩ : ∃ s, s = thrTo D R I F j k := ⟨_, rfl⟩
            have hsw := HMW.out k hlt
            rw [← hs] at hsw
            have HSF := hide ((HMA.out k).trans hs.symm)
            obtain ⟨x, hFx⟩ : ∃ x, F kx = x := ⟨_, rfl⟩
            have hxw := HF.out kx hkx
            rw [hFx] at hxw
            have hgw : (gN re im).Within 100 := ⟨HR, ⟨by show (-100 : Int) ≤ 0; decide, by show (0 : Int) ≤ 100; decide⟩, HG, ⟨by show (-100 : Int) ≤ 0; decide, by show (0 : Int) ≤ 100; decide⟩⟩
            have hux := gN_prod_within HR HG hxw
            have HPR := hide (fun W => product_any (gN re im) x 100 1000000000 W hgw hxw (by decide) (by decide) (by decide))
            have HNO := hide (fun W => numberOf_any re im W)
            have HEE0 := HMT.out k hk0
            rw [← hkk, hFx, ← hs] at HEE0
            obtain ⟨u, hu⟩ : ∃ u, u = (gN re im).prod x := ⟨_, rfl⟩
            rw [← hu] at hux HPR HEE0
            replace HPR := hide (show ∀ W, Calls Try.prog 30 #[.agg #[.int .i64 re, .int .i64 0, .int .i64 im, .int .i64 0], .agg #[.int .i64 x.a, .int .i64 x.b, .int .i64 x.c, .int .i64 x.d]] W fun e w' => e = .returned (.agg #[.int .i64 u.a, .int .i64 u.b, .int .i64 u.c, .int .i64 u.d]) ∧ Below W.heap.size W w' from HPR.out)
            have HSU := hide (sum_two s u)
            have HSB := hide (fun k (hk : k ≤ 2) => (show (sumF (fun i => if i = 0 then s else u) k).Within 2000000000000 from by
              match k, hk with
              | 0, _ =>
                show Num.zero.Within 2000000000000
                exact ⟨⟨by decide, by decide⟩, ⟨by decide, by decide⟩, ⟨by decide, by decide⟩, ⟨by decide, by decide⟩⟩
              | 1, _ =>
                have e : sumF (fun i => if i = 0 then s else u) 1 = s := by apply Num.same <;> simp [sumF, Num.add, Num.zero]
                rw [e]; exact hsw.more (by decide)
              | 2, _ => rw [sum_two]; exact (hsw.add hux).more (by decide)))
            obtain ⟨tt, htt⟩ : ∃ tt, tt = s.add u := ⟨_, rfl⟩
            rw [← htt] at HEE0 HSU
            have HEE := hide (fun q (_ : q < m) => (HEE0 q).symm)
            clear hs hu htt hsw hux hgw hxw HEE0 hkk
            obtain ⟨z0, z1, z2, z3⟩ := hA.cells hlt
            rw [HSF.out] at z0 z1 z2 z3
            obtain ⟨f0, f1, f2, f3⟩ := hA.frozen4 k
            have e0 := b9.at_ 0
            have e1 := b9.at_ 1
            have e2 := b9.at_ 2
            simp only [List.getElem?_toArray] at e0 e1 e2
            obtain ⟨c0, c1, c2, c3⟩ := nums_cells (HJ.out.below hB) hkx
            rw [hFx] at c0 c1 c2 c3
            go_upto_region 11 with fail
            refine wp_region_held_drew (S := fun w' => w'.cell? ⟨g9, 0, none⟩ = some (.int .i64 dl) ∧ w'.cell? ⟨g9, 1, none⟩ = some (.int .i64 re) ∧ w'.cell? ⟨g9, 2, none⟩ = some (.int .i64 im) ∧ w'.cell? ⟨b, o + kx * 4, none⟩ = some (.int .i64 x.a) ∧ w'.cell? ⟨b, o + kx * 4 + 1, none⟩ = some (.int .i64 x.b) ∧ w'.cell? ⟨b, o + kx * 4 + 2, none⟩ = some (.int .i64 x.c) ∧ w'.cell? ⟨b, o + kx * 4 + 3, none⟩ = some (.int .i64 x.d)) (by kernel_rfl) ⟨e0, e1, e2, c0, c1, c2, c3⟩ (fun hHeld => ?_)
            refine wpAnyH_take (i := 0) (oi := ⟨some 38, _, _, _, _, _⟩) (v := ?_) rfl (by kernel_rfl) (by kernel_rfl) (by kernel_rfl) (fun _ _ _ h => h) (Or.inl ⟨by rfl, ?_⟩) (by assumption) ?_
            rotate_left
            · (intro w' hSw; (try dsimp only at hSw); go_simp <;> (with_reducible rfl))
            try simp only [Act.put, List.setIfInBounds_toArray, List.set_cons_zero, List.set_cons_succ]
            refine wpAnyH_take (i := 1) (oi := ⟨some 39, _, _, _, _, _⟩) (v := ?_) rfl (by kernel_rfl) (by kernel_rfl) (by kernel_rfl) (fun _ _ _ h => h) (Or.inl ⟨by rfl, ?_⟩) (by assumption) ?_
            rotate_left
            · (intro w' hSw; (try dsimp only at hSw); go_simp <;> (with_reducible rfl))
            try simp only [Act.put, List.setIfInBounds_toArray, List.set_cons_zero, List.set_cons_succ]
            refine wpAnyH_take (i := 2) (oi := ⟨some 40, _, _, _, _, _⟩) (v := ?_) rfl (by kernel_rfl) (by kernel_rfl) (by kernel_rfl) (fun _ _ _ h => h) (Or.inl ⟨by rfl, ?_⟩) (by assumption) ?_
            rotate_left
            · (intro w' hSw; (try dsimp only at hSw); go_simp <;> (with_reducible rfl))
            try simp only [Act.put, List.setIfInBounds_toArray, List.set_cons_zero, List.set_cons_succ]
            refine wpAnyH_take (i := 3) (oi := ⟨some 41, _, _, _, _, _⟩) (v := ?_) rfl (by kernel_rfl) (by kernel_rfl) (by kernel_rfl) (fun _ _ _ h => h) (Or.inl ⟨by rfl, ?_⟩) (by assumption) ?_
            rotate_left
            · (intro w' hSw; (try dsimp only at hSw); go_simp <;> (with_reducible rfl))
            try simp only [Act.put, List.setIfInBounds_toArray, List.set_cons_zero, List.set_cons_succ]
            refine wpAnyH_take (i := 4) (oi := ⟨some 42, _, _, _, _, _⟩) (v := ?_) rfl (by kernel_rfl) (by kernel_rfl) (by kernel_rfl) (fun _ _ _ h => h) (Or.inl ⟨by rfl, ?_⟩) (by assumption) ?_
            rotate_left
            · (intro w' hSw; (try dsimp only at hSw); go_simp <;> (with_reducible rfl))
            try simp only [Act.put, List.setIfInBounds_toArray, List.set_cons_zero, List.set_cons_succ]
            refine wpAnyH_take (i := 6) (oi := ⟨some 44, _, _, _, _, _⟩) (v := ?_) rfl (by kernel_rfl) (by kernel_rfl) (by kernel_rfl) (fun _ _ _ h => h) (Or.inl ⟨by rfl, ?_⟩) (by assumption) ?_
            rotate_left
            · (intro w' hSw; (try dsimp only at hSw); go_simp <;> (with_reducible rfl))
            try simp only [Act.put, List.setIfInBounds_toArray, List.set_cons_zero, List.set_cons_succ]
            refine wpAnyH_take (i := 7) (oi := ⟨some 45, _, _, _, _, _⟩) (v := ?_) rfl (by kernel_rfl) (by kernel_rfl) (by kernel_rfl) (fun _ _ _ h => h) (Or.inl ⟨by rfl, ?_⟩) (by assumption) ?_
            rotate_left
            · (intro w' hSw; (try dsimp only at hSw); go_simp <;> (with_reducible rfl))
            try simp only [Act.put, List.setIfInBounds_toArray, List.set_cons_zero, List.set_cons_succ]
            refine wpAnyH_take (i := 9) (oi := ⟨some 47, _, _, _, _, _⟩) (v := ?_) rfl (by kernel_rfl) (by kernel_rfl) (by kernel_rfl) (fun _ _ _ h => h) (Or.inl ⟨by rfl, ?_⟩) (by assumption) ?_
            rotate_left
            · (intro w' hSw; (try dsimp only at hSw); go_simp <;> (with_reducible rfl))
            try simp only [Act.put, List.setIfInBounds_toArray, List.set_cons_zero, List.set_cons_succ]
            refine wpAnyH_take (i := 10) (oi := ⟨some 48, _, _, _, _, _⟩) (v := ?_) rfl (by kernel_rfl) (by kernel_rfl) (by kernel_rfl) (fun _ _ _ h => h) (Or.inl ⟨by rfl, ?_⟩) (by assumption) ?_
            rotate_left
            · (intro w' hSw; (try dsimp only at hSw); go_simp <;> (with_reducible rfl))
            try simp only [Act.put, List.setIfInBounds_toArray, List.set_cons_zero, List.set_cons_succ]
            refine wpAnyH_take (i := 11) (oi := ⟨some 49, _, _, _, _, _⟩) (v := ?_) rfl (by kernel_rfl) (by kernel_rfl) (by kernel_rfl) (fun _ _ _ h => h) (Or.inl ⟨by rfl, ?_⟩) (by assumption) ?_
            rotate_left
            · (intro w' hSw; (try dsimp only at hSw); go_simp <;> (with_reducible rfl))
            try simp only [Act.put, List.setIfInBounds_toArray, List.set_cons_zero, List.set_cons_succ]
            refine wpAnyH_take (i := 12) (oi := ⟨some 50, _, _, _, _, _⟩) (v := ?_) rfl (by kernel_rfl) (by kernel_rfl) (by kernel_rfl) (fun _ _ _ h => h) (Or.inl ⟨by rfl, ?_⟩) (by assumption) ?_
            rotate_left
            · (intro w' hSw; (try dsimp only at hSw); go_simp <;> (with_reducible rfl))
            try simp only [Act.put, List.setIfInBounds_toArray, List.set_cons_zero, List.set_cons_succ]
            refine wpAnyH_take (i := 13) (oi := ⟨some 51, _, _, _, _, _⟩) (v := ?_) rfl (by kernel_rfl) (by kernel_rfl) (by kernel_rfl) (fun _ _ _ h => h) (Or.inl ⟨by rfl, ?_⟩) (by assumption) ?_
            rotate_left
            · (intro w' hSw; (try dsimp only at hSw); go_simp <;> (with_reducible rfl))
            try simp only [Act.put, List.setIfInBounds_toArray, List.set_cons_zero, List.set_cons_succ]
            refine wpAnyH_take (i := 14) (oi := ⟨some 52, _, _, _, _, _⟩) (v := ?_) rfl (by kernel_rfl) (by kernel_rfl) (by kernel_rfl) (fun _ _ _ h => h) (Or.inl ⟨by rfl, ?_⟩) (by assumption) ?_
            rotate_left
            · (intro w' hSw; (try dsimp only at hSw); go_simp <;> (with_reducible rfl))
            try simp only [Act.put, List.setIfInBounds_toArray, List.set_cons_zero, List.set_cons_succ]
            refine wpAnyH_take (i := 15) (oi := ⟨some 53, _, _, _, _, _⟩) (v := ?_) rfl (by kernel_rfl) (by kernel_rfl) (by kernel_rfl) (fun _ _ _ h => h) (Or.inl ⟨by rfl, ?_⟩) (by assumption) ?_
            rotate_left
            · (intro w' hSw; (try dsimp only at hSw); go_simp <;> (with_reducible rfl))
            try simp only [Act.put, List.setIfInBounds_toArray, List.set_cons_zero, List.set_cons_succ]
            refine wpAnyH_ready (rs := [5, 8]) (by kernel_rfl) (by simp) ?_
            refine AllReadyH.cons (o := ⟨some 43, _, _, _, _, _⟩) rfl (fun K' hK => ?_) (AllReadyH.cons (o := ⟨some 46, _, _, _, _, _⟩) rfl (fun K' hK => ?_) AllReadyH.nil)
            · skip
              go_simp
              refine hK.out _ _ ⟨e0, e1, e2, c0, c1, c2, c3⟩ (fun hHeld => ?_)
              clear hK K'
              try simp only [Act.put, List.setIfInBounds_toArray, List.set_cons_zero, List.set_cons_succ]
              refine wpAnyH_ready (rs := [8]) (by kernel_rfl) (by simp) ?_
              refine AllReadyH.cons (o := ⟨some 46, _, _, _, _, _⟩) rfl (fun K' hK => ?_) AllReadyH.nil
              go_simp
              go_at_call 31
              refine (HNO.out _).mono ?_
              rintro r' v2 ⟨rfl, hb2⟩
              have hc2 : Below wB.heap.size wB v2 := by first | exact hb2 | exact below_of_drew hb2 | exact below_of_drew (below_of_drew hb2)
              have A2 := hA.below hc2
              have X2 := b9.below hc2
              have hB2 := hB.trans (hc2.mono hB.size)
              clear z0 z1 z2 z3 f0 f1 f2 f3 e0 e1 e2 c0 c1 c2 c3
              obtain ⟨z0, z1, z2, z3⟩ := A2.cells hlt
              rw [HSF.out] at z0 z1 z2 z3
              obtain ⟨f0, f1, f2, f3⟩ := A2.frozen4 k
              have e0 := X2.at_ 0
              have e1 := X2.at_ 1
              have e2 := X2.at_ 2
              simp only [List.getElem?_toArray] at e0 e1 e2
              obtain ⟨c0, c1, c2, c3⟩ := nums_cells (HJ.out.below hB2) hkx
              rw [hFx] at c0 c1 c2 c3
              go_wp2_with fail
              refine hK.out _ _ ⟨e0, e1, e2, c0, c1, c2, c3⟩ (fun hHeld => ?_)
              clear hK K'
              try simp only [Act.put, List.setIfInBounds_toArray, List.set_cons_zero, List.set_cons_succ]
              refine wpAnyH_ready (rs := [16]) (by kernel_rfl) (by simp) ?_
              refine AllReadyH.cons (o := ⟨some 54, _, _, _, _, _⟩) rfl (fun K' hK => ?_) AllReadyH.nil
              go_simp
              go_at_call 30
              refine (HPR.out _).mono ?_
              rintro r' v3 ⟨rfl, hb3⟩
              have hc3 : Below v2.heap.size v2 v3 := by first | exact hb3 | exact below_of_drew hb3 | exact below_of_drew (below_of_drew hb3)
              have A3 := A2.below hc3
              have X3 := X2.below hc3
              have hB3 := hB2.trans (hc3.mono hB2.size)
              clear z0 z1 z2 z3 f0 f1 f2 f3 e0 e1 e2 c0 c1 c2 c3
              obtain ⟨z0, z1, z2, z3⟩ := A3.cells hlt
              rw [HSF.out] at z0 z1 z2 z3
              obtain ⟨f0, f1, f2, f3⟩ := A3.frozen4 k
              have e0 := X3.at_ 0
              have e1 := X3.at_ 1
              have e2 := X3.at_ 2
              simp only [List.getElem?_toArray] at e0 e1 e2
              obtain ⟨c0, c1, c2, c3⟩ := nums_cells (HJ.out.below hB3) hkx
              rw [hFx] at c0 c1 c2 c3
              go_wp2_with fail
              refine hK.out _ _ ⟨e0, e1, e2, c0, c1, c2, c3⟩ (fun hHeld => ?_)
              clear hK K'
              try simp only [Act.put, List.setIfInBounds_toArray, List.set_cons_zero, List.set_cons_succ]
              refine wpAnyH_ready (rs := [17]) (by kernel_rfl) (by simp) ?_
              refine AllReadyH.cons (o := ⟨some 55, _, _, _, _, _⟩) rfl (fun K' hK => ?_) AllReadyH.nil
              go_simp
              obtain ⟨v4, hv4⟩ : ∃ q : World, q = v3.alloc (.cells #[.int .i64 s.a, .int .i64 s.b, .int .i64 s.c, .int .i64 s.d, .int .i64 u.a, .int .i64 u.b, .int .i64 u.c, .int .i64 u.d] 46) := ⟨_, rfl⟩
              have A4 := A3.alloc (.cells #[.int .i64 s.a, .int .i64 s.b, .int .i64 s.c, .int .i64 s.d, .int .i64 u.a, .int .i64 u.b, .int .i64 u.c, .int .i64 u.d] 46)
              have X4 := X3.alloc (.cells #[.int .i64 s.a, .int .i64 s.b, .int .i64 s.c, .int .i64 s.d, .int .i64 u.a, .int .i64 u.b, .int .i64 u.c, .int .i64 u.d] 46)
              have hB4 := hB3.alloc hB3.size (.cells #[.int .i64 s.a, .int .i64 s.b, .int .i64 s.c, .int .i64 s.d, .int .i64 u.a, .int .i64 u.b, .int .i64 u.c, .int .i64 u.d] 46)
              have bN4 : Box v4 v3.heap.size 46 #[.int .i64 s.a, .int .i64 s.b, .int .i64 s.c, .int .i64 s.d, .int .i64 u.a, .int .i64 u.b, .int .i64 u.c, .int .i64 u.d] := by rw [hv4]; exact Box.made rfl
              clear z0 z1 z2 z3 f0 f1 f2 f3 e0 e1 e2 c0 c1 c2 c3
              obtain ⟨z0, z1, z2, z3⟩ := A4.cells hlt
              rw [HSF.out] at z0 z1 z2 z3
              obtain ⟨f0, f1, f2, f3⟩ := A4.frozen4 k
              have e0 := X4.at_ 0
              have e1 := X4.at_ 1
              have e2 := X4.at_ 2
              simp only [List.getElem?_toArray] at e0 e1 e2
              obtain ⟨c0, c1, c2, c3⟩ := nums_cells (HJ.out.below hB4) hkx
              rw [hFx] at c0 c1 c2 c3
              refine hK.out _ _ ⟨e0, e1, e2, c0, c1, c2, c3⟩ (fun hHeld => ?_)
              clear hK K'
              try simp only [Act.put, List.setIfInBounds_toArray, List.set_cons_zero, List.set_cons_succ]
              refine wpAnyH_ready (rs := [18]) (by kernel_rfl) (by simp) ?_
              refine AllReadyH.cons (o := ⟨some 56, _, _, _, _, _⟩) rfl (fun K' hK => ?_) AllReadyH.nil
              go_simp
              go_at_call 29
              refine (sum_any (some ⟨v3.heap.size, 0, none⟩) 2 2 (fun i => if i = 0 then s else u) 2000000000000 _ (by decide) (NumsAt.two (by first | exact Box.made rfl | (rw [← hv4]; exact bN4))) HSB.out (by decide)).mono ?_
              rintro r' v5 ⟨rfl, hb5⟩
              rw [HSU.out]
              have hc5 : Below (v3.alloc (.cells #[.int .i64 s.a, .int .i64 s.b, .int .i64 s.c, .int .i64 s.d, .int .i64 u.a, .int .i64 u.b, .int .i64 u.c, .int .i64 u.d] 46)).heap.size (v3.alloc (.cells #[.int .i64 s.a, .int .i64 s.b, .int .i64 s.c, .int .i64 s.d, .int .i64 u.a, .int .i64 u.b, .int .i64 u.c, .int .i64 u.d] 46)) v5 := by first | exact hb5 | exact below_of_drew hb5 | exact ⟨hb5.os, hb5.tape, hb5.output, hb5.size, hb5.block⟩
              have A5 := A4.below hc5
              have X5 := X4.below hc5
              have hB5 := hB4.trans (hc5.mono hB4.size)
              clear z0 z1 z2 z3 f0 f1 f2 f3 e0 e1 e2 c0 c1 c2 c3
              obtain ⟨z0, z1, z2, z3⟩ := A5.cells hlt
              rw [HSF.out] at z0 z1 z2 z3
              obtain ⟨f0, f1, f2, f3⟩ := A5.frozen4 k
              have e0 := X5.at_ 0
              have e1 := X5.at_ 1
              have e2 := X5.at_ 2
              simp only [List.getElem?_toArray] at e0 e1 e2
              obtain ⟨c0, c1, c2, c3⟩ := nums_cells (HJ.out.below hB5) hkx
              rw [hFx] at c0 c1 c2 c3
              go_wp2_with fail
              refine hK.out _ _ ⟨e0, e1, e2, c0, c1, c2, c3⟩ (fun hHeld => ?_)
              clear hK K'
              try simp only [Act.put, List.setIfInBounds_toArray, List.set_cons_zero, List.set_cons_succ]
              refine wpAnyH_ready (rs := [19]) (by kernel_rfl) (by simp) ?_
              refine AllReadyH.cons (o := ⟨some 57, _, _, _, _, _⟩) rfl (fun K' hK => ?_) AllReadyH.nil
              go_simp
              refine hK.out _ _ ⟨e0, e1, e2, c0, c1, c2, c3⟩ (fun hHeld => ?_)
              clear hK K'
              try simp only [Act.put, List.setIfInBounds_toArray, List.set_cons_zero, List.set_cons_succ]
              refine wpAnyH_ready (rs := [20]) (by kernel_rfl) (by simp) ?_
              refine AllReadyH.cons (o := ⟨none, _, _, _, _, _⟩) rfl (fun K' hK => ?_) AllReadyH.nil
              go_simp
              have HX7 := X5.other4at (c := g7) (o := k * 4) hx7 (.int .i64 tt.a) (.int .i64 tt.b) (.int .i64 tt.c) (.int .i64 tt.d)
              have HL7 := Below.put4at (c := g7) (o := k * 4) hB5 hw7 (.int .i64 tt.a) (.int .i64 tt.b) (.int .i64 tt.c) (.int .i64 tt.d)
              have HXX7 := hide HX7
              have HLL7 := hide HL7
              have HA7 := hide (A5.put k tt)
              refine hK.out _ _ (by have e0 := HX7.at_ 0; have e1 := HX7.at_ 1; have e2 := HX7.at_ 2; simp only [List.getElem?_toArray] at e0 e1 e2; obtain ⟨c0, c1, c2, c3⟩ := nums_cells (HJ.out.below HL7) hkx; rw [hFx] at c0 c1 c2 c3; exact ⟨e0, e1, e2, c0, c1, c2, c3⟩) (fun hHeld => ?_)
              clear hK K'
              try simp only [Act.put, List.setIfInBounds_toArray, List.set_cons_zero, List.set_cons_succ]
              clear z0 z1 z2 z3 f0 f1 f2 f3 e0 e1 e2 c0 c1 c2 c3 HX7 HL7
              refine wpAnyH_done (by kernel_rfl) ?_ _
              go_wp2_with fail
              go_roundw
              case rel => exact ⟨k + 1, by omega, Or.inl (by omega), by go_num, HXX7.out, HA7.out.congr HEE.out, HLL7.out⟩
              case measure => simp [Go.RowKit.intOf]; omega
            · skip
              go_simp
              go_at_call 31
              refine (HNO.out _).mono ?_
              rintro r' v8 ⟨rfl, hb8⟩
              have hc8 : Below wB.heap.size wB v8 := by first | exact hb8 | exact below_of_drew hb8 | exact below_of_drew (below_of_drew hb8)
              have A8 := hA.below hc8
              have X8 := b9.below hc8
              have hB8 := hB.trans (hc8.mono hB.size)
              clear z0 z1 z2 z3 f0 f1 f2 f3 e0 e1 e2 c0 c1 c2 c3
              obtain ⟨z0, z1, z2, z3⟩ := A8.cells hlt
              rw [HSF.out] at z0 z1 z2 z3
              obtain ⟨f0, f1, f2, f3⟩ := A8.frozen4 k
              have e0 := X8.at_ 0
              have e1 := X8.at_ 1
              have e2 := X8.at_ 2
              simp only [List.getElem?_toArray] at e0 e1 e2
              obtain ⟨c0, c1, c2, c3⟩ := nums_cells (HJ.out.below hB8) hkx
              rw [hFx] at c0 c1 c2 c3
              go_wp2_with fail
              refine hK.out _ _ ⟨e0, e1, e2, c0, c1, c2, c3⟩ (fun hHeld => ?_)
              clear hK K'
              try simp only [Act.put, List.setIfInBounds_toArray, List.set_cons_zero, List.set_cons_succ]
              refine wpAnyH_ready (rs := [5, 16]) (by kernel_rfl) (by simp) ?_
              refine AllReadyH.cons (o := ⟨some 43, _, _, _, _, _⟩) rfl (fun K' hK => ?_) (AllReadyH.cons (o := ⟨some 54, _, _, _, _, _⟩) rfl (fun K' hK => ?_) AllReadyH.nil)
              · skip
                go_simp
                refine hK.out _ _ ⟨e0, e1, e2, c0, c1, c2, c3⟩ (fun hHeld => ?_)
                clear hK K'
                try simp only [Act.put, List.setIfInBounds_toArray, List.set_cons_zero, List.set_cons_succ]
                refine wpAnyH_ready (rs := [16]) (by kernel_rfl) (by simp) ?_
                refine AllReadyH.cons (o := ⟨some 54, _, _, _, _, _⟩) rfl (fun K' hK => ?_) AllReadyH.nil
                go_simp
                go_at_call 30
                refine (HPR.out _).mono ?_
                rintro r' v10 ⟨rfl, hb10⟩
                have hc10 : Below v8.heap.size v8 v10 := by first | exact hb10 | exact below_of_drew hb10 | exact below_of_drew (below_of_drew hb10)
                have A10 := A8.below hc10
                have X10 := X8.below hc10
                have hB10 := hB8.trans (hc10.mono hB8.size)
                clear z0 z1 z2 z3 f0 f1 f2 f3 e0 e1 e2 c0 c1 c2 c3
                obtain ⟨z0, z1, z2, z3⟩ := A10.cells hlt
                rw [HSF.out] at z0 z1 z2 z3
                obtain ⟨f0, f1, f2, f3⟩ := A10.frozen4 k
                have e0 := X10.at_ 0
                have e1 := X10.at_ 1
                have e2 := X10.at_ 2
                simp only [List.getElem?_toArray] at e0 e1 e2
                obtain ⟨c0, c1, c2, c3⟩ := nums_cells (HJ.out.below hB10) hkx
                rw [hFx] at c0 c1 c2 c3
                go_wp2_with fail
                refine hK.out _ _ ⟨e0, e1, e2, c0, c1, c2, c3⟩ (fun hHeld => ?_)
                clear hK K'
                try simp only [Act.put, List.setIfInBounds_toArray, List.set_cons_zero, List.set_cons_succ]
                refine wpAnyH_ready (rs := [17]) (by kernel_rfl) (by simp) ?_
                refine AllReadyH.cons (o := ⟨some 55, _, _, _, _, _⟩) rfl (fun K' hK => ?_) AllReadyH.nil
                go_simp
                obtain ⟨v11, hv11⟩ : ∃ q : World, q = v10.alloc (.cells #[.int .i64 s.a, .int .i64 s.b, .int .i64 s.c, .int .i64 s.d, .int .i64 u.a, .int .i64 u.b, .int .i64 u.c, .int .i64 u.d] 46) := ⟨_, rfl⟩
                have A11 := A10.alloc (.cells #[.int .i64 s.a, .int .i64 s.b, .int .i64 s.c, .int .i64 s.d, .int .i64 u.a, .int .i64 u.b, .int .i64 u.c, .int .i64 u.d] 46)
                have X11 := X10.alloc (.cells #[.int .i64 s.a, .int .i64 s.b, .int .i64 s.c, .int .i64 s.d, .int .i64 u.a, .int .i64 u.b, .int .i64 u.c, .int .i64 u.d] 46)
                have hB11 := hB10.alloc hB10.size (.cells #[.int .i64 s.a, .int .i64 s.b, .int .i64 s.c, .int .i64 s.d, .int .i64 u.a, .int .i64 u.b, .int .i64 u.c, .int .i64 u.d] 46)
                have bN11 : Box v11 v10.heap.size 46 #[.int .i64 s.a, .int .i64 s.b, .int .i64 s.c, .int .i64 s.d, .int .i64 u.a, .int .i64 u.b, .int .i64 u.c, .int .i64 u.d] := by rw [hv11]; exact Box.made rfl
                clear z0 z1 z2 z3 f0 f1 f2 f3 e0 e1 e2 c0 c1 c2 c3
                obtain ⟨z0, z1, z2, z3⟩ := A11.cells hlt
                rw [HSF.out] at z0 z1 z2 z3
                obtain ⟨f0, f1, f2, f3⟩ := A11.frozen4 k
                have e0 := X11.at_ 0
                have e1 := X11.at_ 1
                have e2 := X11.at_ 2
                simp only [List.getElem?_toArray] at e0 e1 e2
                obtain ⟨c0, c1, c2, c3⟩ := nums_cells (HJ.out.below hB11) hkx
                rw [hFx] at c0 c1 c2 c3
                refine hK.out _ _ ⟨e0, e1, e2, c0, c1, c2, c3⟩ (fun hHeld => ?_)
                clear hK K'
                try simp only [Act.put, List.setIfInBounds_toArray, List.set_cons_zero, List.set_cons_succ]
                refine wpAnyH_ready (rs := [18]) (by kernel_rfl) (by simp) ?_
                refine AllReadyH.cons (o := ⟨some 56, _, _, _, _, _⟩) rfl (fun K' hK => ?_) AllReadyH.nil
                go_simp
                go_at_call 29
                refine (sum_any (some ⟨v10.heap.size, 0, none⟩) 2 2 (fun i => if i = 0 then s else u) 2000000000000 _ (by decide) (NumsAt.two (by first | exact Box.made rfl | (rw [← hv11]; exact bN11))) HSB.out (by decide)).mono ?_
                rintro r' v12 ⟨rfl, hb12⟩
                rw [HSU.out]
                have hc12 : Below (v10.alloc (.cells #[.int .i64 s.a, .int .i64 s.b, .int .i64 s.c, .int .i64 s.d, .int .i64 u.a, .int .i64 u.b, .int .i64 u.c, .int .i64 u.d] 46)).heap.size (v10.alloc (.cells #[.int .i64 s.a, .int .i64 s.b, .int .i64 s.c, .int .i64 s.d, .int .i64 u.a, .int .i64 u.b, .int .i64 u.c, .int .i64 u.d] 46)) v12 := by first | exact hb12 | exact below_of_drew hb12 | exact ⟨hb12.os, hb12.tape, hb12.output, hb12.size, hb12.block⟩
                have A12 := A11.below hc12
                have X12 := X11.below hc12
                have hB12 := hB11.trans (hc12.mono hB11.size)
                clear z0 z1 z2 z3 f0 f1 f2 f3 e0 e1 e2 c0 c1 c2 c3
                obtain ⟨z0, z1, z2, z3⟩ := A12.cells hlt
                rw [HSF.out] at z0 z1 z2 z3
                obtain ⟨f0, f1, f2, f3⟩ := A12.frozen4 k
                have e0 := X12.at_ 0
                have e1 := X12.at_ 1
                have e2 := X12.at_ 2
                simp only [List.getElem?_toArray] at e0 e1 e2
                obtain ⟨c0, c1, c2, c3⟩ := nums_cells (HJ.out.below hB12) hkx
                rw [hFx] at c0 c1 c2 c3
                go_wp2_with fail
                refine hK.out _ _ ⟨e0, e1, e2, c0, c1, c2, c3⟩ (fun hHeld => ?_)
                clear hK K'
                try simp only [Act.put, List.setIfInBounds_toArray, List.set_cons_zero, List.set_cons_succ]
                refine wpAnyH_ready (rs := [19]) (by kernel_rfl) (by simp) ?_
                refine AllReadyH.cons (o := ⟨some 57, _, _, _, _, _⟩) rfl (fun K' hK => ?_) AllReadyH.nil
                go_simp
                refine hK.out _ _ ⟨e0, e1, e2, c0, c1, c2, c3⟩ (fun hHeld => ?_)
                clear hK K'
                try simp only [Act.put, List.setIfInBounds_toArray, List.set_cons_zero, List.set_cons_succ]
                refine wpAnyH_ready (rs := [20]) (by kernel_rfl) (by simp) ?_
                refine AllReadyH.cons (o := ⟨none, _, _, _, _, _⟩) rfl (fun K' hK => ?_) AllReadyH.nil
                go_simp
                have HX14 := X12.other4at (c := g7) (o := k * 4) hx7 (.int .i64 tt.a) (.int .i64 tt.b) (.int .i64 tt.c) (.int .i64 tt.d)
                have HL14 := Below.put4at (c := g7) (o := k * 4) hB12 hw7 (.int .i64 tt.a) (.int .i64 tt.b) (.int .i64 tt.c) (.int .i64 tt.d)
                have HXX14 := hide HX14
                have HLL14 := hide HL14
                have HA14 := hide (A12.put k tt)
                refine hK.out _ _ (by have e0 := HX14.at_ 0; have e1 := HX14.at_ 1; have e2 := HX14.at_ 2; simp only [List.getElem?_toArray] at e0 e1 e2; obtain ⟨c0, c1, c2, c3⟩ := nums_cells (HJ.out.below HL14) hkx; rw [hFx] at c0 c1 c2 c3; exact ⟨e0, e1, e2, c0, c1, c2, c3⟩) (fun hHeld => ?_)
                clear hK K'
                try simp only [Act.put, List.setIfInBounds_toArray, List.set_cons_zero, List.set_cons_succ]
                clear z0 z1 z2 z3 f0 f1 f2 f3 e0 e1 e2 c0 c1 c2 c3 HX14 HL14
                refine wpAnyH_done (by kernel_rfl) ?_ _
                go_wp2_with fail
                go_roundw
                case rel => exact ⟨k + 1, by omega, Or.inl (by omega), by go_num, HXX14.out, HA14.out.congr HEE.out, HLL14.out⟩
                case measure => simp [Go.RowKit.intOf]; omega
              · skip
                go_simp
                go_at_call 30
                refine (HPR.out _).mono ?_
                rintro r' v15 ⟨rfl, hb15⟩
                have hc15 : Below v8.heap.size v8 v15 := by first | exact hb15 | exact below_of_drew hb15 | exact below_of_drew (below_of_drew hb15)
                have A15 := A8.below hc15
                have X15 := X8.below hc15
                have hB15 := hB8.trans (hc15.mono hB8.size)
                clear z0 z1 z2 z3 f0 f1 f2 f3 e0 e1 e2 c0 c1 c2 c3
                obtain ⟨z0, z1, z2, z3⟩ := A15.cells hlt
                rw [HSF.out] at z0 z1 z2 z3
                obtain ⟨f0, f1, f2, f3⟩ := A15.frozen4 k
                have e0 := X15.at_ 0
                have e1 := X15.at_ 1
                have e2 := X15.at_ 2
                simp only [List.getElem?_toArray] at e0 e1 e2
                obtain ⟨c0, c1, c2, c3⟩ := nums_cells (HJ.out.below hB15) hkx
                rw [hFx] at c0 c1 c2 c3
                go_wp2_with fail
                refine hK.out _ _ ⟨e0, e1, e2, c0, c1, c2, c3⟩ (fun hHeld => ?_)
                clear hK K'
                try simp only [Act.put, List.setIfInBounds_toArray, List.set_cons_zero, List.set_cons_succ]
                refine wpAnyH_ready (rs := [5]) (by kernel_rfl) (by simp) ?_
                refine AllReadyH.cons (o := ⟨some 43, _, _, _, _, _⟩) rfl (fun K' hK => ?_) AllReadyH.nil
                go_simp
                refine hK.out _ _ ⟨e0, e1, e2, c0, c1, c2, c3⟩ (fun hHeld => ?_)
                clear hK K'
                try simp only [Act.put, List.setIfInBounds_toArray, List.set_cons_zero, List.set_cons_succ]
                refine wpAnyH_ready (rs := [17]) (by kernel_rfl) (by simp) ?_
                refine AllReadyH.cons (o := ⟨some 55, _, _, _, _, _⟩) rfl (fun K' hK => ?_) AllReadyH.nil
                go_simp
                obtain ⟨v17, hv17⟩ : ∃ q : World, q = v15.alloc (.cells #[.int .i64 s.a, .int .i64 s.b, .int .i64 s.c, .int .i64 s.d, .int .i64 u.a, .int .i64 u.b, .int .i64 u.c, .int .i64 u.d] 46) := ⟨_, rfl⟩
                have A17 := A15.alloc (.cells #[.int .i64 s.a, .int .i64 s.b, .int .i64 s.c, .int .i64 s.d, .int .i64 u.a, .int .i64 u.b, .int .i64 u.c, .int .i64 u.d] 46)
                have X17 := X15.alloc (.cells #[.int .i64 s.a, .int .i64 s.b, .int .i64 s.c, .int .i64 s.d, .int .i64 u.a, .int .i64 u.b, .int .i64 u.c, .int .i64 u.d] 46)
                have hB17 := hB15.alloc hB15.size (.cells #[.int .i64 s.a, .int .i64 s.b, .int .i64 s.c, .int .i64 s.d, .int .i64 u.a, .int .i64 u.b, .int .i64 u.c, .int .i64 u.d] 46)
                have bN17 : Box v17 v15.heap.size 46 #[.int .i64 s.a, .int .i64 s.b, .int .i64 s.c, .int .i64 s.d, .int .i64 u.a, .int .i64 u.b, .int .i64 u.c, .int .i64 u.d] := by rw [hv17]; exact Box.made rfl
                clear z0 z1 z2 z3 f0 f1 f2 f3 e0 e1 e2 c0 c1 c2 c3
                obtain ⟨z0, z1, z2, z3⟩ := A17.cells hlt
                rw [HSF.out] at z0 z1 z2 z3
                obtain ⟨f0, f1, f2, f3⟩ := A17.frozen4 k
                have e0 := X17.at_ 0
                have e1 := X17.at_ 1
                have e2 := X17.at_ 2
                simp only [List.getElem?_toArray] at e0 e1 e2
                obtain ⟨c0, c1, c2, c3⟩ := nums_cells (HJ.out.below hB17) hkx
                rw [hFx] at c0 c1 c2 c3
                refine hK.out _ _ ⟨e0, e1, e2, c0, c1, c2, c3⟩ (fun hHeld => ?_)
                clear hK K'
                try simp only [Act.put, List.setIfInBounds_toArray, List.set_cons_zero, List.set_cons_succ]
                refine wpAnyH_ready (rs := [18]) (by kernel_rfl) (by simp) ?_
                refine AllReadyH.cons (o := ⟨some 56, _, _, _, _, _⟩) rfl (fun K' hK => ?_) AllReadyH.nil
                go_simp
                go_at_call 29
                refine (sum_any (some ⟨v15.heap.size, 0, none⟩) 2 2 (fun i => if i = 0 then s else u) 2000000000000 _ (by decide) (NumsAt.two (by first | exact Box.made rfl | (rw [← hv17]; exact bN17))) HSB.out (by decide)).mono ?_
                rintro r' v18 ⟨rfl, hb18⟩
                rw [HSU.out]
                have hc18 : Below (v15.alloc (.cells #[.int .i64 s.a, .int .i64 s.b, .int .i64 s.c, .int .i64 s.d, .int .i64 u.a, .int .i64 u.b, .int .i64 u.c, .int .i64 u.d] 46)).heap.size (v15.alloc (.cells #[.int .i64 s.a, .int .i64 s.b, .int .i64 s.c, .int .i64 s.d, .int .i64 u.a, .int .i64 u.b, .int .i64 u.c, .int .i64 u.d] 46)) v18 := by first | exact hb18 | exact below_of_drew hb18 | exact ⟨hb18.os, hb18.tape, hb18.output, hb18.size, hb18.block⟩
                have A18 := A17.below hc18
                have X18 := X17.below hc18
                have hB18 := hB17.trans (hc18.mono hB17.size)
                clear z0 z1 z2 z3 f0 f1 f2 f3 e0 e1 e2 c0 c1 c2 c3
                obtain ⟨z0, z1, z2, z3⟩ := A18.cells hlt
                rw [HSF.out] at z0 z1 z2 z3
                obtain ⟨f0, f1, f2, f3⟩ := A18.frozen4 k
                have e0 := X18.at_ 0
                have e1 := X18.at_ 1
                have e2 := X18.at_ 2
                simp only [List.getElem?_toArray] at e0 e1 e2
                obtain ⟨c0, c1, c2, c3⟩ := nums_cells (HJ.out.below hB18) hkx
                rw [hFx] at c0 c1 c2 c3
                go_wp2_with fail
                refine hK.out _ _ ⟨e0, e1, e2, c0, c1, c2, c3⟩ (fun hHeld => ?_)
                clear hK K'
                try simp only [Act.put, List.setIfInBounds_toArray, List.set_cons_zero, List.set_cons_succ]
                refine wpAnyH_ready (rs := [19]) (by kernel_rfl) (by simp) ?_
                refine AllReadyH.cons (o := ⟨some 57, _, _, _, _, _⟩) rfl (fun K' hK => ?_) AllReadyH.nil
                go_simp
                refine hK.out _ _ ⟨e0, e1, e2, c0, c1, c2, c3⟩ (fun hHeld => ?_)
                clear hK K'
                try simp only [Act.put, List.setIfInBounds_toArray, List.set_cons_zero, List.set_cons_succ]
                refine wpAnyH_ready (rs := [20]) (by kernel_rfl) (by simp) ?_
                refine AllReadyH.cons (o := ⟨none, _, _, _, _, _⟩) rfl (fun K' hK => ?_) AllReadyH.nil
                go_simp
                have HX20 := X18.other4at (c := g7) (o := k * 4) hx7 (.int .i64 tt.a) (.int .i64 tt.b) (.int .i64 tt.c) (.int .i64 tt.d)
                have HL20 := Below.put4at (c := g7) (o := k * 4) hB18 hw7 (.int .i64 tt.a) (.int .i64 tt.b) (.int .i64 tt.c) (.int .i64 tt.d)
                have HXX20 := hide HX20
                have HLL20 := hide HL20
                have HA20 := hide (A18.put k tt)
                refine hK.out _ _ (by have e0 := HX20.at_ 0; have e1 := HX20.at_ 1; have e2 := HX20.at_ 2; simp only [List.getElem?_toArray] at e0 e1 e2; obtain ⟨c0, c1, c2, c3⟩ := nums_cells (HJ.out.below HL20) hkx; rw [hFx] at c0 c1 c2 c3; exact ⟨e0, e1, e2, c0, c1, c2, c3⟩) (fun hHeld => ?_)
                clear hK K'
                try simp only [Act.put, List.setIfInBounds_toArray, List.set_cons_zero, List.set_cons_succ]
                clear z0 z1 z2 z3 f0 f1 f2 f3 e0 e1 e2 c0 c1 c2 c3 HX20 HL20
                refine wpAnyH_done (by kernel_rfl) ?_ _
                go_wp2_with fail
                go_roundw
                case rel => exact ⟨k + 1, by omega, Or.inl (by omega), by go_num, HXX20.out, HA20.out.congr HEE.out, HLL20.out⟩
                case measure => simp [Go.RowKit.intOf]; omega
          · have hltz : ¬ ((k : Int) < (m : Int)) := by omega
            go_wp2_with fail
            go_roundw
            case rel =>
              refine ⟨j + 1, by omega, by go_num, hA.congr fun q hq => ?_, hB⟩
              exact HME.out k q (by omega)
            case measure => simp [Go.RowKit.intOf]; omega
      · obtain rfl : j = n := by omega
        go_wp2_with fail
        refine (HRS.out _ _ (fun i hi => by obtain ⟨b, o, e, -, r⟩ := hA.nums i hi; exact ⟨b, o, e, Nat.zero_le _, r⟩)).mono ?_
        rintro e w5 ⟨rfl, hb5⟩
        have HO := hide (hA.below hb5)
        have HBB := hide (hB.trans (hb5.mono hB.size))
        clear hA hB hb5 HRS
        by_cases ht : T = 0
        · have tt : (T != 0) = false := by simpa using ht
          subst ht
          go_wp2_with fail
          go_ret2
          exact ⟨_, rfl, (show OwnNums w5 w.heap.size (.slice (some ⟨g7, 0, none⟩) m m) (if (0 : Int) = 0 then m else 0) (thrTo D R I F j) by rw [if_pos rfl]; exact HO.out), HBB.out⟩
        · have tt : (T != 0) = true := by simpa using ht
          have HV := hide ht
          clear ht
          go_wp2_with fail
          go_ret2
          exact ⟨_, rfl, (show OwnNums w5 w.heap.size (.slice none 0 0) 0 (thrTo D R I F j) from ownNums_nil _ _ _), HBB.out⟩
  · have tv : (V != 0) = true := by simpa using hv
    obtain rfl : T = V := by rw [HRE.out, if_neg hv]
    have HV := hide hv
    clear HZ HRE hv
    go_wp2_with fail
    go_ret2
    exact ⟨_, rfl, (show OwnNums w3 w.heap.size (.slice none 0 0) 0 (thrTo D R I F n) from ownNums_nil _ _ _), HB3.out⟩
end Go.Proofs.Ytcndeegfkgfnkaa
