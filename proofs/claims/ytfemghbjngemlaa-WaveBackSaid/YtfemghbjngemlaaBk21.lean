/- Lemmas: As, Au. -/
import Derived.Laws.MakeOwn
import Derived.Laws.OwnMore
import Derived.OwnWalk
import Derived.Test.YtfemghbjngemlaaBk17
import Derived.Test.YtfemghbjngemlaaBk20
set_option linter.unusedVariables false
set_option linter.unusedSimpArgs false
/- Spectrum of the reference. -/
namespace Go.Proofs.Ytfemghbjngemlaa
open Go.RowKit Go.Great
set_option maxHeartbeats 8000000 in
set_option maxRecDepth 100000 in
theorem spectrumR_any (X : Nat → Num) (hX : ∀ n, n < 8 → (X n).Within 1000000000) (w : World) :
    Calls Try.prog 17 #[.agg (arr8 X)] w fun e w' => e = .returned (.tuple #[.agg (arrG8 fun k => if spAll (trnF X) 8 = true then spG (trnF X k) else Gau.zero), .int .i64 (if spAll (trnF X) 8 = true then 0 else 3)]) ∧ Below w.heap.size w w' := by
  have HTS := hide (fun W => (show Calls Try.prog 15 #[.agg (arr8 X)] W fun e w' => e = .returned (.agg (arr8 (trnF X))) ∧ Below W.heap.size W w' from transformR_any X hX W))
  have HYY := hide (fun k => trnF_within hX k)
  obtain ⟨Y, hY⟩ : ∃ z, trnF X = z := ⟨_, rfl⟩
  rw [hY] at HTS HYY ⊢
  clear hY hX
  obtain ⟨V, hV⟩ : ∃ z, (if spAll Y 8 = true then (0 : Int) else 3) = z := ⟨_, rfl⟩
  obtain ⟨G, hG⟩ : ∃ z : Nat → Gau, (fun n => if spAll Y 8 = true then spG (Y n) else Gau.zero) = z := ⟨_, rfl⟩
  rw [hV, hG]
  have HV := hide hV
  have HG := hide hG
  clear hV hG
  go_enter Try.func17, Try.ntmps17
  go_upto_region 1 with (first
    | (refine wpList_boxTo rfl 27 (.tmp 0) rfl _ rfl w.heap.size rfl (arr8 X) rfl ?_; obtain ⟨W0, hW0⟩ : ∃ q : World, w.alloc (.cells (arr8 X) 27) = q := ⟨_, rfl⟩; rw [hW0])
    | (refine wpList_allocTo rfl (some 2) rfl (.pointer (some ⟨W0.heap.size, 0, none⟩)) (.cells (arrG8 fun _ => Gau.zero) 24) (by kernel_rfl) ?_))
  have x0 : ArrNums W0 w.heap.size X := by rw [← hW0]; exact arrNums_alloc w _ _ rfl
  have hB0 : Below w.heap.size w W0 := by rw [← hW0]; (repeat (first | (with_reducible exact Below.refl _ _) | (with_reducible refine Go.below_drewN ?_ _) | (with_reducible refine Below.drew ?_) | (with_reducible refine Below.alloc ?_ (by first | exact Nat.le_refl _ | (simp; done) | (simp; omega) | omega) _) | (with_reducible refine Below.setCell ?_ (by first | exact Nat.le_refl _ | (simp; done) | (simp; omega) | omega) _)))
  have hs0 : w.heap.size < W0.heap.size := by rw [← hW0]; simp
  clear hW0
  obtain ⟨b0, hb0⟩ : ∃ g, w.heap.size = g := ⟨_, rfl⟩
  obtain ⟨b1, hb1⟩ : ∃ g, W0.heap.size = g := ⟨_, rfl⟩
  obtain ⟨W1, hW1⟩ : ∃ q : World, q = W0.alloc (.cells (arrG8 fun _ => Gau.zero) 24) := ⟨_, rfl⟩
  rw [← hW1]
  have r1 : ArrG8 W1 b1 (fun _ => Gau.zero) := by rw [hW1]; exact ArrG8.at_alloc W0 _ _ hb1.symm
  have x1 : ArrNums W1 b0 X := by rw [hW1, ← hb0]; exact x0.alloc _
  have hB1 : Below b0 w W1 := by rw [hW1, ← hb0]; exact hB0.alloc hB0.size _
  have hs1 : b1 < W1.heap.size := by rw [hW1, ← hb1]; simp
  have h01 : b0 ≠ b1 := by omega
  have h01' : b0 ≤ b1 := by omega
  have HW0 := hide hb0
  simp only [hb0, hb1]
  clear hW1 x0 hB0 hs0
  go_upto_region 2 with (refine wpList_allocTo rfl (some 4) rfl (.pointer (some ⟨W1.heap.size, 0, none⟩)) (.cells (arrG8 fun _ => Gau.zero) 24) (by kernel_rfl) ?_)
  obtain ⟨b4, hb4⟩ : ∃ z, W1.heap.size = z := ⟨_, rfl⟩
  obtain ⟨W3, hW3⟩ : ∃ q : World, q = W1.alloc (.cells (arrG8 fun _ => Gau.zero) 24) := ⟨_, rfl⟩
  rw [← hW3]
  simp only [hb4]
  have a3 : ArrG8 W3 b4 (fun _ => Gau.zero) := by rw [hW3]; exact ArrG8.at_alloc W1 _ _ hb4.symm
  have HX3 := hide (show ArrNums W3 b0 X by rw [hW3]; exact x1.alloc _)
  have r3 : ArrG8 W3 b1 (fun _ => Gau.zero) := by rw [hW3]; exact r1.alloc _
  have hB3 : Below b0 w W3 := by rw [hW3]; exact hB1.alloc (by omega) _
  have hs3 : b0 ≤ W3.heap.size := by have := r3.lt; omega
  have h14 : b1 ≠ b4 := by omega
  have h04 : b0 ≤ b4 := by omega
  clear hW3 hB1 x1 r1 hb4
  go_wp2_with (refine wpList_load8G rfl (.tmp 1) rfl b0 X rfl HX3.out ?_)
  refine (HTS.out _).mono ?_
  rintro e w4 ⟨rfl, hb4⟩
  have HA4 := hide (a3.below hb4)
  have HZ4 := hide (r3.below hb4)
  have hB4 := hB3.trans (hb4.mono hs3)
  have hs4 : b4 < w4.heap.size := HA4.out.lt
  clear hb4 hB3 a3 r3 HX3 HTS hs3
  obtain ⟨b5, hb5⟩ : ∃ z, w4.heap.size = z := ⟨_, rfl⟩
  go_upto_region 3 with (first
    | (refine wpList_store8 rfl (.tmp 5) (.tmp 8) rfl b5 (fun _ => Num.zero) Y rfl rfl (arrNums_alloc _ _ _ hb5.symm) ?_; intro W5 r5 o5)
    | (refine wpList_allocTo rfl (some 5) rfl (.pointer (some ⟨b5, 0, none⟩)) (.cells (arr8 fun _ => Num.zero) 27) (by rw [← hb5]; kernel_rfl) ?_))
  have hc5 : Below w4.heap.size w4 W5 := ((Below.refl _ _).alloc (Nat.le_refl _) _).trans (o5.to_below (by omega) (by simp))
  have a5 := HA4.out.below hc5
  have z5 := HZ4.out.below hc5
  have hB5 := hB4.trans (hc5.mono (by omega))
  have h45 : b5 ≠ b4 := by omega
  clear o5 hc5 hB4 HZ4 HA4 hb5 hs4
  go_wp2_with fail
  go_loopw [6] (fun i wr => ∃ k : Nat, k ≤ 8 ∧ i = .int .i64 (k : Int) ∧ spAll Y k = true ∧ ArrG8 wr b1 (fun _ => Gau.zero) ∧ ArrNums wr b5 Y ∧ ArrG8 wr b4 (fun q => if q < k then spG (Y q) else Gau.zero) ∧ Below b0 w wr) (fun i _ => 8 - (Go.RowKit.intOf i).toNat)
  case atStart => exact ⟨0, by decide, rfl, rfl, z5, r5, a5.congr fun q _ => by rw [if_neg (Nat.not_lt_zero q)], hB5⟩
  case round =>
    clear a5 z5 hB5 r5
    obtain ⟨k, hk, rfl, hS, hZ, hYA, hA, hB⟩ := hrel
    obtain ⟨wA, rfl⟩ : ∃ q : World, q = wr := ⟨_, rfl⟩
    have HS := hide hS
    clear hS
    by_cases hk8 : k < 8
    · have hk8z : (k : Int) < 8 := by omega
      obtain ⟨E, hE⟩ : ∃ E : Nat → Gau, E = fun q => if q < k then spG (Y q) else Gau.zero := ⟨_, rfl⟩
      have HE := hide hE
      rw [← hE] at hA
      clear hE
      have HOC := hide (okS_cases (Y k))
      have HOF := hide (fun (h : okS (Y k) = false) => spAll_false hk8 h)
      have HON := hide (fun (h : okS (Y k) = true) => (show spAll Y (k + 1) = true from by show (spAll Y k && okS (Y k)) = true; rw [HS.out, h]; rfl))
      have hyw := HYY.out k
      have HPU := hide (show ∀ q, q < 8 → setG8 E k (spG (Y k)) q = if q < k + 1 then spG (Y q) else Gau.zero from fun q _ => by
        show (if q = k then _ else E q) = _
        by_cases e : q = k
        · subst e; rw [if_pos rfl, if_pos (by omega)]
        · rw [if_neg e, HE.out]
          show (if q < k then _ else Gau.zero) = _
          by_cases e2 : q < k
          · rw [if_pos e2, if_pos (by omega)]
          · rw [if_neg e2, if_neg (by omega)])
      obtain ⟨y, hy⟩ : ∃ z, Y k = z := ⟨_, rfl⟩
      have HYC := hide (fun W (h : ArrNums W b5 Y) => (show W.cell? ⟨b5, k * 4, none⟩ = some (.int .i64 y.a) ∧ W.cell? ⟨b5, k * 4 + 1, none⟩ = some (.int .i64 y.b) ∧ W.cell? ⟨b5, k * 4 + 2, none⟩ = some (.int .i64 y.c) ∧ W.cell? ⟨b5, k * 4 + 3, none⟩ = some (.int .i64 y.d) from by rw [← hy]; exact h.cells hk8))
      rw [hy] at hyw HPU HOC HOF HON
      clear hy
      obtain ⟨e0, e1, e2, e3⟩ := HYC.out _ hYA
      rcases HOC.out with ⟨hok, h1, h2, h3, h4⟩ | ⟨hok, hc⟩
      · have HON1 := hide (HON.out hok)
        have t1 : (y.b != 0) = false := by simpa using h1
        have t2 : (y.d != 0) = false := by simpa using h2
        have t3 : (y.a.tmod 8 != 0) = false := by simpa using h3
        have t4 : (y.c.tmod 8 != 0) = false := by simpa using h4
        have q1 := tdiv8_size hyw.a
        have q2 := tdiv8_size hyw.c
        obtain ⟨p, hp⟩ : ∃ z, y.a.tdiv 8 = z := ⟨_, rfl⟩
        obtain ⟨r, hr⟩ : ∃ z, y.c.tdiv 8 = z := ⟨_, rfl⟩
        have hG : spG y = ⟨p, r⟩ := by unfold spG; rw [hp, hr]
        rw [hG] at HPU
        rw [hp] at q1
        rw [hr] at q2
        clear hok h1 h2 h3 h4 hG HON HOF HOC hyw
        obtain ⟨z0, z1⟩ := hA.cells hk8
        obtain ⟨f0, f1⟩ := hA.frozen2 k
        have HA2 := hide (show ArrG8 ((wA.setCell ⟨b4, k * 2, none⟩ (.int .i64 p)).setCell ⟨b4, k * 2 + 1, none⟩ (.int .i64 r)) b4 (setG8 E k ⟨p, r⟩) from hA.put k ⟨p, r⟩)
        have HZ2 := hide (hZ.other (c := b4) (o := k * 2) h14 (.int .i64 p) (.int .i64 r))
        have HY2 := hide (show ArrNums ((wA.setCell ⟨b4, k * 2, none⟩ (.int .i64 p)).setCell ⟨b4, k * 2 + 1, none⟩ (.int .i64 r)) b5 Y from (World.rowIs.setOther hYA (a := ⟨b4, k * 2, none⟩) h45 _).setOther (a := ⟨b4, k * 2 + 1, none⟩) h45 _)
        have HL2 := hide ((hB.setCell (p := ⟨b4, k * 2, none⟩) h04 (.int .i64 p)).setCell (p := ⟨b4, k * 2 + 1, none⟩) h04 (.int .i64 r))
        go_upto_region 8 with fail
        refine wp_region_held_drew (S := fun w' => w'.cell? ⟨b5, k * 4, none⟩ = some (.int .i64 y.a) ∧ w'.cell? ⟨b5, k * 4 + 2, none⟩ = some (.int .i64 y.c)) (by kernel_rfl) ⟨e0, e2⟩ (fun hHeld => ?_)
        refine wpAnyH_take (i := 0) (oi := ⟨some 42, _, _, _, _, _⟩) (v := ?_) rfl (by kernel_rfl) (by kernel_rfl) (by kernel_rfl) (fun _ _ _ h => h) (Or.inl ⟨by rfl, ?_⟩) (by assumption) ?_
        rotate_left
        · (intro w' hSw; (try dsimp only at hSw); go_simp <;> (with_reducible rfl))
        try simp only [Act.put, List.setIfInBounds_toArray, List.set_cons_zero, List.set_cons_succ]
        refine wpAnyH_take (i := 1) (oi := ⟨some 43, _, _, _, _, _⟩) (v := ?_) rfl (by kernel_rfl) (by kernel_rfl) (by kernel_rfl) (fun _ _ _ h => h) (Or.inl ⟨by rfl, ?_⟩) (by assumption) ?_
        rotate_left
        · (intro w' hSw; (try dsimp only at hSw); go_simp <;> (with_reducible rfl))
        try simp only [Act.put, List.setIfInBounds_toArray, List.set_cons_zero, List.set_cons_succ]
        refine wpAnyH_take (i := 2) (oi := ⟨some 44, _, _, _, _, _⟩) (v := ?_) rfl (by kernel_rfl) (by kernel_rfl) (by kernel_rfl) (fun _ _ _ h => h) (Or.inl ⟨by rfl, ?_⟩) (by assumption) ?_
        rotate_left
        · (intro w' hSw; (try dsimp only at hSw); go_simp <;> (with_reducible rfl))
        try simp only [Act.put, List.setIfInBounds_toArray, List.set_cons_zero, List.set_cons_succ]
        refine wpAnyH_take (i := 3) (oi := ⟨some 45, _, _, _, _, _⟩) (v := ?_) rfl (by kernel_rfl) (by kernel_rfl) (by kernel_rfl) (fun _ _ _ h => h) (Or.inl ⟨by rfl, ?_⟩) (by assumption) ?_
        rotate_left
        · (intro w' hSw; (try dsimp only at hSw); go_simp <;> (with_reducible rfl))
        try simp only [Act.put, List.setIfInBounds_toArray, List.set_cons_zero, List.set_cons_succ]
        refine wpAnyH_take (i := 4) (oi := ⟨some 46, _, _, _, _, _⟩) (v := ?_) rfl (by kernel_rfl) (by kernel_rfl) (by kernel_rfl) (fun _ _ _ h => h) (Or.inl ⟨by rfl, ?_⟩) (by assumption) ?_
        rotate_left
        · (intro w' hSw; (try dsimp only at hSw); go_simp <;> (with_reducible rfl))
        try simp only [Act.put, List.setIfInBounds_toArray, List.set_cons_zero, List.set_cons_succ]
        refine wpAnyH_take (i := 5) (oi := ⟨some 47, _, _, _, _, _⟩) (v := ?_) rfl (by kernel_rfl) (by kernel_rfl) (by kernel_rfl) (fun _ _ _ h => h) (Or.inl ⟨by rfl, ?_⟩) (by assumption) ?_
        rotate_left
        · (intro w' hSw; (try dsimp only at hSw); go_simp <;> (with_reducible rfl))
        try simp only [Act.put, List.setIfInBounds_toArray, List.set_cons_zero, List.set_cons_succ]
        refine wpAnyH_take (i := 6) (oi := ⟨some 48, _, _, _, _, _⟩) (v := ?_) rfl (by kernel_rfl) (by kernel_rfl) (by kernel_rfl) (fun _ _ _ h => h) (Or.inl ⟨by rfl, ?_⟩) (by assumption) ?_
        rotate_left
        · (intro w' hSw; (try dsimp only at hSw); go_simp <;> (with_reducible rfl))
        try simp only [Act.put, List.setIfInBounds_toArray, List.set_cons_zero, List.set_cons_succ]
        refine wpAnyH_take (i := 7) (oi := ⟨some 49, _, _, _, _, _⟩) (v := ?_) rfl (by kernel_rfl) (by kernel_rfl) (by kernel_rfl) (fun _ _ _ h => h) (Or.inl ⟨by rfl, ?_⟩) (by assumption) ?_
        rotate_left
        · (intro w' hSw; (try dsimp only at hSw); go_simp <;> (with_reducible rfl))
        try simp only [Act.put, List.setIfInBounds_toArray, List.set_cons_zero, List.set_cons_succ]
        refine wpAnyH_take (i := 8) (oi := ⟨some 50, _, _, _, _, _⟩) (v := ?_) rfl (by kernel_rfl) (by kernel_rfl) (by kernel_rfl) (fun _ _ _ h => h) (Or.inl ⟨by rfl, ?_⟩) (by assumption) ?_
        rotate_left
        · (intro w' hSw; (try dsimp only at hSw); go_simp <;> (with_reducible rfl))
        try simp only [Act.put, List.setIfInBounds_toArray, List.set_cons_zero, List.set_cons_succ]
        refine wpAnyH_take (i := 9) (oi := ⟨some 51, _, _, _, _, _⟩) (v := ?_) rfl (by kernel_rfl) (by kernel_rfl) (by kernel_rfl) (fun _ _ _ h => h) (Or.inl ⟨by rfl, ?_⟩) (by assumption) ?_
        rotate_left
        · (intro w' hSw; (try dsimp only at hSw); go_simp <;> (with_reducible rfl))
        try simp only [Act.put, List.setIfInBounds_toArray, List.set_cons_zero, List.set_cons_succ]
        refine wpAnyH_take (i := 10) (oi := ⟨some 52, _, _, _, _, _⟩) (v := ?_) rfl (by kernel_rfl) (by kernel_rfl) (by kernel_rfl) (fun _ _ _ h => h) (Or.inl ⟨by rfl, ?_⟩) (by assumption) ?_
        rotate_left
        · (intro w' hSw; (try dsimp only at hSw); go_simp <;> (with_reducible rfl))
        try simp only [Act.put, List.setIfInBounds_toArray, List.set_cons_zero, List.set_cons_succ]
        refine wpAnyH_take (i := 11) (oi := ⟨some 53, _, _, _, _, _⟩) (v := ?_) rfl (by kernel_rfl) (by kernel_rfl) (by kernel_rfl) (fun _ _ _ h => h) (Or.inl ⟨by rfl, ?_⟩) (by assumption) ?_
        rotate_left
        · (intro w' hSw; (try dsimp only at hSw); go_simp <;> (with_reducible rfl))
        try simp only [Act.put, List.setIfInBounds_toArray, List.set_cons_zero, List.set_cons_succ]
        refine wpAnyH_ready (rs := [12]) (by kernel_rfl) (by simp) ?_
        refine AllReadyH.cons (o := ⟨some 54, _, _, _, _, _⟩) rfl (fun K' hK => ?_) AllReadyH.nil
        go_simp
        refine hK.out _ _ ⟨e0, e2⟩ (fun hHeld => ?_)
        clear hK K'
        try simp only [Act.put, List.setIfInBounds_toArray, List.set_cons_zero, List.set_cons_succ]
        refine wpAnyH_ready (rs := [13]) (by kernel_rfl) (by simp) ?_
        refine AllReadyH.cons (o := ⟨none, _, _, _, _, _⟩) rfl (fun K' hK => ?_) AllReadyH.nil
        go_simp
        refine hK.out _ _ (by obtain ⟨u0, u1, u2, u3⟩ := HYC.out _ HY2.out; exact ⟨u0, u2⟩) (fun hHeld => ?_)
        clear hK K'
        try simp only [Act.put, List.setIfInBounds_toArray, List.set_cons_zero, List.set_cons_succ]
        refine wpAnyH_done (by kernel_rfl) ?_ _
        go_wp2_with fail
        go_roundw
        case rel => exact ⟨k + 1, by omega, by go_num, HON1.out, HZ2.out, HY2.out, HA2.out.congr HPU.out, HL2.out.drew⟩
        case measure => simp [Go.RowKit.intOf]; omega
      · have hG : G = fun _ => Gau.zero := HG.out.symm.trans (funext fun n => if_neg (by rw [HOF.out hok]; decide))
        have hV : V = 3 := HV.out.symm.trans (if_neg (by rw [HOF.out hok]; decide))
        subst hG
        subst hV
        have HZ3 := hide hZ
        have hs3 : b1 < wA.heap.size := hZ.lt
        clear hok HON HOF HOC hyw HPU HG HV
        rcases hc with h1 | ⟨h1, h2⟩ | ⟨h1, h2, h3⟩ | ⟨h1, h2, h3, h4⟩
        · have t1 : (y.b != 0) = true := by simpa using h1
          clear h1
          go_upto_region 7 with fail
          have hz8 : ∀ a : Act, (execOp a.eval (⟨some 41, .build 24 #[], 24, "", #[], none⟩ : Oper)).run Try.prog wA = .ok (.value (.agg (arrG8 fun _ => Gau.zero))) wA := fun a => by kernel_rfl
          go_wp2_with (refine wpList_storeG8 rfl (.tmp 2) (.tmp 41) rfl b1 (fun _ => Gau.zero) (fun _ => Gau.zero) rfl (by first | rfl | kernel_rfl) HZ3.out ?_; intro W9 r9 o9)
          refine bodyPost_ret (v := .tuple #[.agg (arrG8 fun _ => Gau.zero), .int .i64 3]) (result2G8 rfl _ rfl rfl r9) rfl ⟨rfl, ?_⟩
          rw [HW0.out]
          exact hB.trans (o9.to_below h01' (by omega))
        · have t1 : (y.b != 0) = false := by simpa using h1
          have t2 : (y.d != 0) = true := by simpa using h2
          clear h1 h2
          go_upto_region 7 with fail
          have hz8 : ∀ a : Act, (execOp a.eval (⟨some 41, .build 24 #[], 24, "", #[], none⟩ : Oper)).run Try.prog wA = .ok (.value (.agg (arrG8 fun _ => Gau.zero))) wA := fun a => by kernel_rfl
          go_wp2_with (refine wpList_storeG8 rfl (.tmp 2) (.tmp 41) rfl b1 (fun _ => Gau.zero) (fun _ => Gau.zero) rfl (by first | rfl | kernel_rfl) HZ3.out ?_; intro W9 r9 o9)
          refine bodyPost_ret (v := .tuple #[.agg (arrG8 fun _ => Gau.zero), .int .i64 3]) (result2G8 rfl _ rfl rfl r9) rfl ⟨rfl, ?_⟩
          rw [HW0.out]
          exact hB.trans (o9.to_below h01' (by omega))
        · have t1 : (y.b != 0) = false := by simpa using h1
          have t2 : (y.d != 0) = false := by simpa using h2
          have t3 : (y.a.tmod 8 != 0) = true := by simpa using h3
          clear h1 h2 h3
          go_upto_region 7 with fail
          have hz8 : ∀ a : Act, (execOp a.eval (⟨some 41, .build 24 #[], 24, "", #[], none⟩ : Oper)).run Try.prog wA = .ok (.value (.agg (arrG8 fun _ => Gau.zero))) wA := fun a => by kernel_rfl
          go_wp2_with (refine wpList_storeG8 rfl (.tmp 2) (.tmp 41) rfl b1 (fun _ => Gau.zero) (fun _ => Gau.zero) rfl (by first | rfl | kernel_rfl) HZ3.out ?_; intro W9 r9 o9)
          refine bodyPost_ret (v := .tuple #[.agg (arrG8 fun _ => Gau.zero), .int .i64 3]) (result2G8 rfl _ rfl rfl r9) rfl ⟨rfl, ?_⟩
          rw [HW0.out]
          exact hB.trans (o9.to_below h01' (by omega))
        · have t1 : (y.b != 0) = false := by simpa using h1
          have t2 : (y.d != 0) = false := by simpa using h2
          have t3 : (y.a.tmod 8 != 0) = false := by simpa using h3
          have t4 : (y.c.tmod 8 != 0) = true := by simpa using h4
          clear h1 h2 h3 h4
          go_upto_region 7 with fail
          have hz8 : ∀ a : Act, (execOp a.eval (⟨some 41, .build 24 #[], 24, "", #[], none⟩ : Oper)).run Try.prog wA = .ok (.value (.agg (arrG8 fun _ => Gau.zero))) wA := fun a => by kernel_rfl
          go_wp2_with (refine wpList_storeG8 rfl (.tmp 2) (.tmp 41) rfl b1 (fun _ => Gau.zero) (fun _ => Gau.zero) rfl (by first | rfl | kernel_rfl) HZ3.out ?_; intro W9 r9 o9)
          refine bodyPost_ret (v := .tuple #[.agg (arrG8 fun _ => Gau.zero), .int .i64 3]) (result2G8 rfl _ rfl rfl r9) rfl ⟨rfl, ?_⟩
          rw [HW0.out]
          exact hB.trans (o9.to_below h01' (by omega))
    · obtain rfl : k = 8 := by omega
      have hG : (fun n => spG (Y n)) = G := (funext fun n => (if_pos HS.out).symm : (fun n => spG (Y n)) = _).trans HG.out
      have hV : V = 0 := HV.out.symm.trans (if_pos HS.out)
      subst hV
      clear HG HV
      have HZ := hide hZ
      have HA := hide (show ArrG8 wA b4 G by rw [← hG]; exact hA.congr fun q hq => if_pos hq)
      have hs3 := hZ.lt
      clear hZ hA hG
      go_wp2_with (first | (refine wpList_storeG8 rfl (.tmp 2) (.tmp 55) rfl b1 (fun _ => Gau.zero) G rfl rfl HZ.out ?_; intro W9 r9 o9) | (refine wpList_loadG8 rfl (.tmp 4) rfl b4 G rfl HA.out ?_))
      refine bodyPost_ret (v := .tuple #[.agg (arrG8 G), .int .i64 0]) (result2G8 rfl _ rfl rfl r9) rfl ⟨rfl, ?_⟩
      rw [HW0.out]
      exact hB.trans (o9.to_below h01' (by omega))
end Go.Proofs.Ytfemghbjngemlaa
/- Slices of arrays of eight Gauss in memory, those of the call's own, an append to one; CopySymbols. -/
namespace Go.Proofs.Ytfemghbjngemlaa
open Go.RowKit Go.Great
def SymsAt (w : World) (lo : Nat) (A : Option Addr) (n : Nat) (F : Nat → Nat → Gau) : Prop :=
  ∀ i, i < n → ∃ b o, A = some ⟨b, o, none⟩ ∧ lo ≤ b ∧ b < w.heap.size ∧ ∀ q, q < 16 → w.cell? ⟨b, o + i * 16 + q, none⟩ = some (g8C (F i) q)
section
variable {w w' : World} {lo n : Nat} {A : Option Addr} {F : Nat → Nat → Gau}
theorem SymsAt.nil_ : SymsAt w lo A 0 F := fun i h => absurd h (Nat.not_lt_zero i)
theorem SymsAt.below (h : SymsAt w lo A n F) (hb : Below w.heap.size w w') : SymsAt w' lo A n F := fun i hi => by
  obtain ⟨b, o, e, h1, h2, k⟩ := h i hi
  exact ⟨b, o, e, h1, Nat.lt_of_lt_of_le h2 hb.size, fun q hq => (hb.cell (p := ⟨b, _, none⟩) h2).trans (k q hq)⟩
theorem SymsAt.alloc (h : SymsAt w lo A n F) (x : Obj) : SymsAt (w.alloc x) lo A n F := h.below ((Below.refl _ _).alloc (Nat.le_refl _) _)
theorem SymsAt.weak {lo' : Nat} (h : SymsAt w lo A n F) (hl : lo' ≤ lo) : SymsAt w lo' A n F := fun i hi => by
  obtain ⟨b, o, e, h1, h2⟩ := h i hi
  exact ⟨b, o, e, Nat.le_trans hl h1, h2⟩
theorem SymsAt.range (h : SymsAt w lo A n F) {i b o : Nat} (hA : A = some ⟨b, o, none⟩) (hi : i < n) : w.rangeAt b (o + i * 16) ((List.range 16).map (g8C (F i))) := fun j v hv => by
  obtain ⟨b', o', e, -, -, hc⟩ := h i hi
  rw [hA] at e
  injection e with e
  injection e with e1 e2
  subst e1
  subst e2
  rw [List.getElem?_map] at hv
  by_cases hj : j < 16
  · rw [List.getElem?_range hj] at hv
    rw [hc j hj]
    exact hv
  · rw [List.getElem?_eq_none (by simp; omega)] at hv
    cases hv
end
def symVals (n : Nat) (F : Nat → Nat → Gau) : List Value := (List.range (n * 16)).map fun j => g8C (F (j / 16)) (j % 16)
theorem symVals_len (n : Nat) (F : Nat → Nat → Gau) : (symVals n F).length = n * 16 := by simp [symVals]
theorem symVals_get (n : Nat) (F : Nat → Nat → Gau) (j : Nat) : (symVals n F)[j]? = if j < n * 16 then some (g8C (F (j / 16)) (j % 16)) else none := by
  unfold symVals
  by_cases h : j < n * 16
  · rw [if_pos h]; simp [h]
  · rw [if_neg h, List.getElem?_eq_none (by simp; omega)]
theorem symVals_congr {n : Nat} {F G : Nat → Nat → Gau} (h : ∀ j, j < n → F j = G j) : symVals n F = symVals n G := by
  unfold symVals
  exact List.map_congr_left fun j hj => by
    have := List.mem_range.1 hj
    rw [h (j / 16) (by omega)]
def OwnSyms (w : World) (base : Nat) (v : Value) (n : Nat) (F : Nat → Nat → Gau) : Prop := w.ownsRow base 24 16 v n (symVals n F)
theorem OwnSyms.congr {w : World} {base n : Nat} {v : Value} {F G : Nat → Nat → Gau} (h : OwnSyms w base v n F) (e : ∀ j, j < n → F j = G j) : OwnSyms w base v n G := by
  unfold OwnSyms at h ⊢
  rwa [← symVals_congr e]
theorem OwnSyms.nums {w : World} {base n c : Nat} {A : Option Addr} {F : Nat → Nat → Gau} (h : OwnSyms w base (.slice A n c) n F) : SymsAt w base A n F := fun i hi => by
  rcases h.2 with ⟨e, hx⟩ | ⟨g, cap, cur, e, hb, hg, hnc, hm, hsz, htake⟩
  · omega
  · injection e with e1 e2 e3
    subst e1
    subst e3
    have h' : OwnSyms w base (.slice (some ⟨g, 0, none⟩) n c) n F := h
    refine ⟨g, 0, rfl, hb, (Array.getElem?_eq_some_iff.1 hg).1, fun q hq => ?_⟩
    rw [Nat.zero_add, World.ownsRow.cellAt h' (i * 16 + q) (by omega), symVals_get, if_pos (by omega), show (i * 16 + q) / 16 = i by omega, show (i * 16 + q) % 16 = q by omega]
theorem symInfo : (Try.prog.info? 24).map (fun i => (i.zero, i.size, i.bytes)) = some (some (.agg #[.int .i64 0, .int .i64 0, .int .i64 0, .int .i64 0, .int .i64 0, .int .i64 0, .int .i64 0, .int .i64 0, .int .i64 0, .int .i64 0, .int .i64 0, .int .i64 0, .int .i64 0, .int .i64 0, .int .i64 0, .int .i64 0]), 16, 128) := by kernel_rfl
def catSym (n : Nat) (F G : Nat → Nat → Gau) : Nat → Nat → Gau := fun j => if j < n then F j else G (j - n)
theorem symVals_cat (n m : Nat) (F G : Nat → Nat → Gau) : symVals n F ++ symVals m G = symVals (n + m) (catSym n F G) := by
  apply List.ext_getElem?
  intro j
  rw [List.getElem?_append, symVals_len, symVals_get, symVals_get, symVals_get]
  unfold catSym
  by_cases h1 : j < n * 16
  · rw [if_pos h1, if_pos h1, if_pos (by omega), if_pos (by omega)]
  · rw [if_neg h1]
    by_cases h2 : j - n * 16 < m * 16
    · rw [if_pos h2, if_pos (by omega), if_neg (by omega), show (j - n * 16) / 16 = j / 16 - n by omega, show (j - n * 16) % 16 = j % 16 by omega]
    · rw [if_neg h2, if_neg (by omega)]
theorem ownSyms_nil (w : World) (base : Nat) (F : Nat → Nat → Gau) : OwnSyms w base (.slice none 0 0) 0 F := World.ownsRow_nil _ _ _ _
theorem OwnSyms.empty (w : World) (g : Nat) (hg : g = w.heap.size) (F : Nat → Nat → Gau) : OwnSyms (w.alloc (.cells #[] 24)) w.heap.size (.slice (some ⟨g, 0, none⟩) 0 0) 0 F := by
  subst hg
  exact World.ownsRow_made w #[] 0 (Nat.le_refl _) (by decide) rfl
theorem ownSyms_form {w : World} {base n : Nat} {v : Value} {F : Nat → Nat → Gau} (h : OwnSyms w base v n F) : ∃ A c, v = .slice A n c ∧ n ≤ c ∧ SymsAt w base A n F := by
  rcases h.2 with ⟨rfl, hx⟩ | ⟨g, cap, cur, rfl, hb, hg, hnc, hm, hsz, htake⟩
  · subst hx
    exact ⟨_, _, rfl, Nat.le_refl _, SymsAt.nil_⟩
  · exact ⟨_, _, rfl, hnc, OwnSyms.nums h⟩
theorem SymsAt.part {w : World} {lo n : Nat} {A : Option Addr} {F : Nat → Nat → Gau} (h : SymsAt w lo A n F) {j : Nat} (hj : j < n * 16) : ∃ b o, A = some ⟨b, o, none⟩ ∧ w.cell? ⟨b, o + j, none⟩ = some (g8C (F (j / 16)) (j % 16)) := by
  obtain ⟨b, o, rfl, -, -, hc⟩ := h (j / 16) (by omega)
  refine ⟨b, o, rfl, ?_⟩
  have hlt := Nat.mod_lt j (show 0 < 16 by decide)
  have := hc (j % 16) hlt
  rwa [show o + j / 16 * 16 + j % 16 = o + j by omega] at this
set_option maxRecDepth 100000 in
theorem run_append_Syms (w : World) (ty : TypeId) (base lo : Nat) (v : Value) (n : Nat) (F : Nat → Nat → Gau) (hown : OwnSyms w base v n F)
    (A : Option Addr) (m c : Nat) (G : Nat → Nat → Gau) (hr : SymsAt w lo A m G) (hnm : n + m ≤ 100000000) (hbase : base ≤ w.heap.size) :
    ∃ v' w', (Builtin.append_ #[58, 58] ty #[v, .slice A m c]).run Try.prog w = .ok v' w' ∧ OwnSyms w' base v' (n + m) (catSym n F G) ∧ Below base w w' ∧ w.grownBy w' v.ownBlock ∧ (v'.ownBlock = v.ownBlock ∨ v'.ownBlock = some w.heap.size) := by
  obtain ⟨i0, hi, hz0, hz1, hz2⟩ := info_parts symInfo
  cases A with
  | none =>
    have hm : m = 0 := by
      rcases Nat.eq_zero_or_pos m with h0 | h0
      · exact h0
      · obtain ⟨b, o, e, -⟩ := hr 0 h0
        cases e
    subst hm
    have hrun : (Builtin.append_ #[58, 58] ty #[v, .slice none 0 c]).run Try.prog w = .ok v w := by
      rcases hown.2 with ⟨rfl, -⟩ | ⟨g, cap, cur, rfl, -, -, hnc, -⟩
      · simp [Builtin.append_, run_underlying Try.underlying58, sizeOf, typeInfo, hi, Builtin.lenOf, Builtin.firstCells]
      · simp [Builtin.append_, run_underlying Try.underlying58, sizeOf, typeInfo, hi, Builtin.lenOf, Builtin.firstCells, hnc, storeCells]
    exact ⟨v, w, hrun, OwnSyms.congr (F := F) hown fun j hj => by unfold catSym; rw [if_pos (show j < n by omega)], Below.refl _ _, ⟨rfl, rfl, rfl, Nat.le_refl _, fun _ _ _ => rfl⟩, .inl rfl⟩
  | some ad =>
    obtain ⟨v', w', hrun, hown', hg, -, hob⟩ := run_append_own_at (P := Try.prog) w base 58 ty 24 i0 (.agg #[.int .i64 0, .int .i64 0, .int .i64 0, .int .i64 0, .int .i64 0, .int .i64 0, .int .i64 0, .int .i64 0, .int .i64 0, .int .i64 0, .int .i64 0, .int .i64 0, .int .i64 0, .int .i64 0, .int .i64 0, .int .i64 0]) 16 128 Try.underlying58 hi hz0 hz1 hz2 rfl (by decide) v n _ hown ad m c (symVals m G) (by rw [symVals_len])
      (fun j u hu => by
        rw [symVals_get] at hu
        split at hu
        · rename_i hj
          obtain ⟨b, o, e, hc⟩ := hr.part hj
          injection e with e
          subst e
          injection hu with hu
          subst hu
          rw [Addr.add_lit]
          exact hc
        · cases hu)
      (fun u hu => by
        obtain ⟨j, -, rfl⟩ := List.mem_map.1 hu
        rfl) (by unfold maxLen; omega) (by omega) hbase
    rw [symVals_cat] at hown'
    exact ⟨v', w', hrun, hown', (Below.refl _ _).grown hg hbase (fun k hk => (World.ownsRow.lt hown k hk).1), hg, hob⟩
theorem wp_append_Syms {o : Oper} {a : Act} {K : Act → World → Prop} {Q : Exit → Act → World → Prop} (w : World) (s x : Operand)
    (ho : o.op = .call { callee := .builtin .append, args := #[s, x], argTypes := #[58, 58] })
    (base lo : Nat) (v : Value) (n : Nat) (F : Nat → Nat → Gau) (hs : a.eval s = v) (hown : OwnSyms w base v n F)
    (A : Option Addr) (m c : Nat) (G : Nat → Nat → Gau) (hx : a.eval x = .slice A m c) (hr : SymsAt w lo A m G) (hnm : n + m ≤ 100000000) (hbase : base ≤ w.heap.size)
    (h : ∀ v' w', OwnSyms w' base v' (n + m) (catSym n F G) → Below base w w' → w.grownBy w' v.ownBlock → (v'.ownBlock = v.ownBlock ∨ v'.ownBlock = some w.heap.size) → K (a.put o.dst v') w') : o.wp Try.prog a w K Q := by
  obtain ⟨v', w', hrun, h1, h2, h3, h4⟩ := run_append_Syms w o.type base lo v n F hown A m c G hr hnm hbase
  unfold Oper.wp execOp
  simp only [ho, resolve, invoke, builtin, Sem.run_bind, Sem.run_pure, Result.andThen_ok, List.map_toArray, List.map_cons, List.map_nil, hs, hx, hrun]
  exact h v' w' h1 h2 h3 h4
theorem wpList_append_Syms {ops : Array Oper} {rest : List Oper} {o : Oper} {a : Act} {Q : Exit → Act → World → Prop} (w : World) (hgd : o.guard = none) (s x : Operand)
    (ho : o.op = .call { callee := .builtin .append, args := #[s, x], argTypes := #[58, 58] })
    (base lo : Nat) (v : Value) (n : Nat) (F : Nat → Nat → Gau) (hs : a.eval s = v) (hown : OwnSyms w base v n F)
    (A : Option Addr) (m c : Nat) (G : Nat → Nat → Gau) (hx : a.eval x = .slice A m c) (hr : SymsAt w lo A m G) (hnm : n + m ≤ 100000000) (hbase : base ≤ w.heap.size)
    (h : ∀ v' w', OwnSyms w' base v' (n + m) (catSym n F G) → Below base w w' → wpList Try.prog ops Q rest (a.put o.dst v') w') : wpList Try.prog ops Q (o :: rest) a w :=
  wpList_plain hgd fun _ hK => wp_append_Syms w s x ho base lo v n F hs hown A m c G hx hr hnm hbase fun v' w' h1 h2 _ _ => hK _ _ (h v' w' h1 h2)
theorem stepG_append_Syms {ops : Array Oper} {o : Oper} {a : Act} {K : Act → World → Prop} {Q : Exit → Act → World → Prop} {E : Prop} (w : World) (hgd : o.guard = none) (s x : Operand)
    (ho : o.op = .call { callee := .builtin .append, args := #[s, x], argTypes := #[58, 58] })
    (base lo : Nat) (v : Value) (n : Nat) (F : Nat → Nat → Gau) (hs : a.eval s = v) (hown : OwnSyms w base v n F)
    (A : Option Addr) (m c : Nat) (G : Nat → Nat → Gau) (hx : a.eval x = .slice A m c) (hr : SymsAt w lo A m G) (hnm : n + m ≤ 100000000) (hbase : base ≤ w.heap.size)
    (h : ∀ v' w', OwnSyms w' base v' (n + m) (catSym n F G) → Below base w w' → w.grownBy w' v.ownBlock → (v'.ownBlock = v.ownBlock ∨ v'.ownBlock = some w.heap.size) → K (a.put o.dst v') w') :
    if Region.wanted o (yielded ops a.tmps) = true then Oper.wp Try.prog o a w K Q else E := by
  have hw : Region.wanted o (yielded ops a.tmps) = true := by simp [Region.wanted, hgd]
  rw [if_pos hw]
  exact wp_append_Syms w s x ho base lo v n F hs hown A m c G hx hr hnm hbase h
theorem step_append_Syms {ops : Array Oper} {o : Oper} {a : Act} {K : Act → World → Prop} {Q : Exit → Act → World → Prop} {E : Prop} (w : World) (hgd : o.guard = none) (s x : Operand)
    (ho : o.op = .call { callee := .builtin .append, args := #[s, x], argTypes := #[58, 58] })
    (base lo : Nat) (v : Value) (n : Nat) (F : Nat → Nat → Gau) (hs : a.eval s = v) (hown : OwnSyms w base v n F)
    (A : Option Addr) (m c : Nat) (G : Nat → Nat → Gau) (hx : a.eval x = .slice A m c) (hr : SymsAt w lo A m G) (hnm : n + m ≤ 100000000) (hbase : base ≤ w.heap.size)
    (h : ∀ v' w', OwnSyms w' base v' (n + m) (catSym n F G) → Below base w w' → K (a.put o.dst v') w') :
    if Region.wanted o (yielded ops a.tmps) = true then Oper.wp Try.prog o a w K Q else E := by
  have hw : Region.wanted o (yielded ops a.tmps) = true := by simp [Region.wanted, hgd]
  rw [if_pos hw]
  exact wp_append_Syms w s x ho base lo v n F hs hown A m c G hx hr hnm hbase fun v' w' h1 h2 _ _ => h v' w' h1 h2
set_option maxHeartbeats 1000000 in
theorem copySymbols_own (A : Option Addr) (n c : Nat) (F : Nat → Nat → Gau) (w : World) (hn : n ≤ 10000000) (hI : SymsAt w 0 A n F) :
    Calls Try.prog 25 #[.slice A n c] w fun e w' => ∃ v, e = .returned v ∧ OwnSyms w' w.heap.size v n F ∧ Below w.heap.size w w' := by
  have HI := hide (hI.alloc (.cells #[] 24))
  have HE := hide (OwnSyms.empty w _ rfl F)
  clear hI
  go_enter Try.func25, Try.ntmps25
  go_wp2_with (at_builtin; refine wpList_append_Syms _ rfl (.tmp 3) (.tmp 4) rfl w.heap.size 0 (.slice (some ⟨w.heap.size, 0, none⟩) 0 0) 0 F rfl HE.out A n c F rfl HI.out (by omega) (by simp) ?_; intro v' w' h1 hb1)
  go_ret
  have hB : Below w.heap.size w w' := ((Below.refl _ _).alloc (Nat.le_refl _) _).trans hb1
  rw [Nat.zero_add] at h1
  exact ⟨_, rfl, h1.congr fun j _ => by simp [catSym], hB⟩
theorem run_loadRow8 {W : World} {lo n b o i : Nat} {F : Nat → Nat → Gau} (h : SymsAt W lo (some ⟨b, o, none⟩) n F) (hi : i < n) : (loadVar 24 ⟨b, o + i * 16, none⟩).run Try.prog W = .ok (.agg (arrG8 (F i))) W :=
  run_loadVar_mid (P := Try.prog) W b (o + i * 16) 24 ((List.range 16).map (g8C (F i))) _ (h.range rfl hi) Try.underlying24 rfl (by rw [infoG8]; simp)
theorem wpList_loadRow8 {ops : Array Oper} {rest : List Oper} {op : Oper} {a : Act} {w : World} {Q : Exit → Act → World → Prop} (hw : Region.wanted op (yielded ops a.tmps) = true) (x : Operand) (ho : op.op = .load 24 x)
    (b o lo n i : Nat) (F : Nat → Nat → Gau) (hx : a.eval x = .pointer (some ⟨b, o + i * 16, none⟩)) (hr : SymsAt w lo (some ⟨b, o, none⟩) n F) (hi : i < n)
    (h : wpList Try.prog ops Q rest (a.put op.dst (.agg (arrG8 (F i)))) w) : wpList Try.prog ops Q (op :: rest) a w :=
  wpList_step fun K hK => by
    rw [if_pos hw]
    exact wp_load_mid (P := Try.prog) 24 x ho b (o + i * 16) hx ((List.range 16).map (g8C (F i))) _ (hr.range rfl hi) Try.underlying24 rfl (by rw [infoG8]; simp) (hK _ _ h)
/-- A row of symbols as a slice of entries. -/
theorem SymsAt.row {w : World} {lo n b o i : Nat} {F : Nat → Nat → Gau} (h : SymsAt w lo (some ⟨b, o, none⟩) n F) (hi : i < n) : GausAt w 0 (some ⟨b, o + i * 16, none⟩) 8 (F i) := fun k hk => by
  obtain ⟨b', o', e, -, hlt, hc⟩ := h i hi
  injection e with e
  injection e with e1 e2
  subst e1
  subst e2
  refine ⟨b, o + i * 16, rfl, Nat.zero_le _, hlt, ?_, ?_⟩
  · have := hc (k * 2) (by omega)
    unfold g8C at this
    rwa [show k * 2 / 2 = k by omega, show k * 2 % 2 = 0 by omega] at this
  · have := hc (k * 2 + 1) (by omega)
    unfold g8C at this
    rwa [show (k * 2 + 1) / 2 = k by omega, show (k * 2 + 1) % 2 = 1 by omega] at this
end Go.Proofs.Ytfemghbjngemlaa
