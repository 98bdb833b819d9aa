/- Lemmas: Ws. -/
import Derived.Test.YtcndeegfkgfnkaaBy04
import Derived.Test.YtcndeegfkgfnkaaBy05
set_option linter.unusedVariables false
set_option linter.unusedSimpArgs false
/- OffsetOf of the code. -/
namespace Go.Proofs.Ytcndeegfkgfnkaa
open Go.RowKit
theorem World.cell_put4 {w : World} {b c o p : Nat} {v : Value} (h : w.cell? ⟨b, p, none⟩ = some v) (hn : b ≠ c) (u0 u1 u2 u3 : Value) : ((((w.setCell ⟨c, o, none⟩ u0).setCell ⟨c, o + 1, none⟩ u1).setCell ⟨c, o + 2, none⟩ u2).setCell ⟨c, o + 3, none⟩ u3).cell? ⟨b, p, none⟩ = some v := by
  have f := fun (W : World) (q : Nat) (u : Value) (h : W.cell? ⟨b, p, none⟩ = some v) => (World.cell?_of_block (w := W) (w' := W.setCell ⟨c, q, none⟩ u) (a := ⟨b, p, none⟩) (heap_setCell_other W ⟨c, q, none⟩ b u hn)).trans h
  exact f _ _ _ (f _ _ _ (f _ _ _ (f _ _ _ h)))
set_option maxHeartbeats 1000000 in
set_option maxRecDepth 100000 in
theorem OffsetOf_any (A B : Option Addr) (n c m d : Nat) (F G : Nat → Num) (w : World) (hn : n ≤ 100000) (hm : m ≤ 100000) (hI : NumsAt w 0 A n F) (hJ : NumsAt w 0 B m G) :
    Calls Try.prog 17 #[.slice A n c, .slice B m d] w fun r w' => r = .returned (.tuple #[.int .i64 (offR n m F G), .int .i64 (offE n m F G)]) ∧ Below w.heap.size w w' := by
  have HI := hide hI
  have HJ := hide hJ
  clear hI hJ
  have HE := hide (show offE n m F G = firstE [unI (decide (0 < n) && ((m : Int) == (n : Int))) 10, unI (decide ((n : Int) ≤ 16)) 8, numsE 100 F n, numsE 100 G m] from rfl)
  have HR := hide (show offR n m F G = if offE n m F G = 0 then (offB (offP F G) n 8).1 else 0 from rfl)
  have HO := hide (offE_zero (n := n) (m := m) (F := F) (G := G))
  by_cases h0 : 0 < n
  · have t0 : decide ((n : Int) > 0) = true := decide_eq_true (by omega)
    have e0 : (decide (0 < n) && ((m : Int) == (n : Int))) = ((m : Int) == (n : Int)) := by simp [h0]
    rw [e0] at HE
    clear e0
    generalize offR n m F G = R at *
    generalize offE n m F G = V at *
    go_enter Try.func17, Try.ntmps17
    go_wp2_with (go_at_call 22; refine (unless_any _ _ _).mono ?_; rintro e w' ⟨rfl, rfl⟩)
    clear t0 h0
    refine (numberWithin_any _ _).mono ?_
    rintro e w1 ⟨rfl, hw1⟩
    have hc : w1.cell? ⟨w.heap.size, 0, none⟩ = some (.int .i64 100) := by rw [← hw1]; exact (Box.made rfl : Box _ w.heap.size 3 #[.int .i64 100]).at_ 0
    have hB1 : Below w.heap.size w w1 := by rw [← hw1]; exact (Below.refl _ _).alloc (Nat.le_refl _) _
    clear hw1
    go_wp2_with fail
    refine (itemsError_nums 100 A n c w.heap.size F _ hn (HI.out.below hB1) hc (by decide)).mono ?_
    rintro e w2 ⟨rfl, hb2⟩
    have hB2 := hB1.trans (hb2.mono hB1.size)
    clear hc hB1 hb2
    go_wp2_with fail
    refine (numberWithin_any _ _).mono ?_
    rintro e w3 ⟨rfl, hw3⟩
    have hc : w3.cell? ⟨w2.heap.size, 0, none⟩ = some (.int .i64 100) := by rw [← hw3]; exact (Box.made rfl : Box _ w2.heap.size 3 #[.int .i64 100]).at_ 0
    have hB3 : Below w.heap.size w w3 := by rw [← hw3]; exact hB2.alloc hB2.size _
    clear hw3 hB2
    go_wp2_with fail
    refine (itemsError_nums 100 B m d w2.heap.size G _ hm (HJ.out.below hB3) hc (by decide)).mono ?_
    rintro e w4 ⟨rfl, hb4⟩
    have hB4 := hB3.trans (hb4.mono hB3.size)
    clear hc hB3 hb4
    go_wp2_with fail
    refine (firstError_laid [unI ((m : Int) == (n : Int)) 10, unI (decide ((n : Int) ≤ 16)) 8, numsE 100 F n, numsE 100 G m] 4 _ _ rfl (by decide)).mono ?_
    rintro e w5 ⟨rfl, hw5⟩
    rw [← HE.out]
    have hB5 : Below w.heap.size w w5 := by rw [← hw5]; exact hB4.alloc hB4.size _
    clear hw5 hB4 HE
    by_cases hv : V = 0
    · obtain ⟨hn0, rfl, hn16, hF, hG⟩ := HO.out hv
      have HV := hide (HR.out.trans (if_pos hv))
      subst hv
      clear HO HR hn hm
      obtain ⟨P, hP⟩ : ∃ P, P = offP F G := ⟨_, rfl⟩
      rw [← hP] at HV
      have HPW := hide (show ∀ i, i < m → (P i).Within 40000 from fun i hi => by rw [hP]; exact offP_within (hF i hi) (hG i hi))
      have HPR := hide (fun i (hi : i < m) W => product_any (F i).conj (G i) 100 100 W (hF i hi).conj (hG i hi) (by decide) (by decide) (by decide))
      have HPP := hide (show ∀ i, (F i).conj.prod (G i) = P i from fun i => by rw [hP]; rfl)
      have HCJ := hide (fun i (hi : i < m) W => conjugate_any (F i) W ((hF i hi).more (by decide)))
      clear hP hF hG
      have hmk := fun W => make_nums m (by omega) W
      obtain ⟨g, hg⟩ : ∃ g, g = w5.heap.size := ⟨_, rfl⟩
      have hgw : w.heap.size ≤ g := by rw [hg]; exact hB5.size
      have hmade := hide (OwnNums.made w5 w.heap.size g m hB5.size hg (by unfold maxLen; omega))
      go_wp2_with fail
      clear hmk
      rw [← hg]
      obtain ⟨w6, hw6⟩ : ∃ y : World, y = w5.alloc (.cells (madeCells #[.int .i64 0, .int .i64 0, .int .i64 0, .int .i64 0] (m * 4)) 46) := ⟨_, rfl⟩
      rw [← hw6] at hmade
      have hB6 : Below w.heap.size w w6 := by rw [hw6]; exact hB5.alloc hB5.size _
      rw [← hw6]
      clear hw6 hB5 hg
      go_loopw [45] (fun i wr => ∃ k : Nat, k ≤ m ∧ i = .int .i64 (k : Int) ∧ OwnNums wr w.heap.size (.slice (some ⟨g, 0, none⟩) m m) m (fun i => if i < k then P i else Num.zero) ∧ Below w.heap.size w wr) (fun i _ => m - (Go.RowKit.intOf i).toNat)
      case atStart => exact ⟨0, Nat.zero_le _, rfl, hmade.out.congr (fun _ _ => by simp), hB6⟩
      case round =>
        clear hmade hB6
        obtain ⟨k, hk, rfl, ho, hB⟩ := hrel
        obtain ⟨wA, rfl⟩ : ∃ x : World, x = wr := ⟨_, rfl⟩
        have hBs := hB.size
        by_cases hlt : k < m
        · have hltz : (k : Int) < (m : Int) := by omega
          obtain ⟨b, o, rfl, -, hb, c0, c1, c2, c3⟩ := (HI.out.below hB) k hlt
          obtain ⟨b', o', rfl, -, hb', d0, d1, d2, d3⟩ := HJ.out k hlt
          replace d0 := (hB.cell (p := ⟨b', _, none⟩) hb').trans d0
          replace d1 := (hB.cell (p := ⟨b', _, none⟩) hb').trans d1
          replace d2 := (hB.cell (p := ⟨b', _, none⟩) hb').trans d2
          replace d3 := (hB.cell (p := ⟨b', _, none⟩) hb').trans d3
          have HPk := hide (fun W => HPR.out k hlt W)
          rw [HPP.out k] at HPk
          have HCk := hide (fun W => HCJ.out k hlt W)
          have HEE := hide (fun (Q : Nat → Num) (hQ : Q = fun i => if i < k then P i else Num.zero) i (_ : i < m) => (show setNum Q k (P k) i = if i < k + 1 then P i else Num.zero from by
            subst hQ
            unfold setNum
            by_cases e1 : i = k
            · subst e1; rw [if_pos rfl, if_pos (by omega)]
            · rw [if_neg e1]
              show (if i < k then P i else Num.zero) = _
              by_cases e2 : i < k
              · rw [if_pos e2, if_pos (by omega)]
              · rw [if_neg e2, if_neg (by omega)]))
          obtain ⟨Q, hQ⟩ : ∃ Q, Q = fun i => if i < k then P i else Num.zero := ⟨_, rfl⟩
          have HQE := hide (HEE.out Q hQ)
          rw [← hQ] at ho
          clear hQ HEE
          generalize F k = x at *
          generalize G k = y at *
          generalize hz : P k = z at *
          have HZ := hide hz
          clear hz
          go_upto_region 8 with fail
          obtain ⟨W1, hW1⟩ : ∃ y : World, y = wA.alloc (.cells #[.int .i64 x.a, .int .i64 x.b, .int .i64 x.c, .int .i64 x.d] 46) := ⟨_, rfl⟩
          rw [← hW1]
          have bx1 : Box W1 wA.heap.size 46 #[.int .i64 x.a, .int .i64 x.b, .int .i64 x.c, .int .i64 x.d] := by rw [hW1]; exact Box.made rfl
          have ho1 := ho.alloc (.cells #[.int .i64 x.a, .int .i64 x.b, .int .i64 x.c, .int .i64 x.d] 46)
          have hB1 := hB.alloc hBs (.cells #[.int .i64 x.a, .int .i64 x.b, .int .i64 x.c, .int .i64 x.d] 46)
          rw [← hW1] at ho1 hB1
          have hAW : Below wA.heap.size wA W1 := by rw [hW1]; (repeat (first | (with_reducible exact Below.refl _ _) | (with_reducible refine Go.below_drewN ?_ _) | (with_reducible refine Below.drew ?_) | (with_reducible refine Below.alloc ?_ (by first | exact Nat.le_refl _ | (simp; done) | (simp; omega) | omega) _) | (with_reducible refine Below.setCell ?_ (by first | exact Nat.le_refl _ | (simp; done) | (simp; omega) | omega) _)))
          have hgA : g < wA.heap.size := ho.lt.2
          have hS1 : W1.cell? ⟨wA.heap.size, 0, none⟩ = some (.int .i64 x.a) ∧ W1.cell? ⟨wA.heap.size, 1, none⟩ = some (.int .i64 x.b) ∧ W1.cell? ⟨wA.heap.size, 2, none⟩ = some (.int .i64 x.c) ∧ W1.cell? ⟨wA.heap.size, 3, none⟩ = some (.int .i64 x.d) ∧ W1.cell? ⟨b', o' + k * 4, none⟩ = some (.int .i64 y.a) ∧ W1.cell? ⟨b', o' + k * 4 + 1, none⟩ = some (.int .i64 y.b) ∧ W1.cell? ⟨b', o' + k * 4 + 2, none⟩ = some (.int .i64 y.c) ∧ W1.cell? ⟨b', o' + k * 4 + 3, none⟩ = some (.int .i64 y.d) :=
            ⟨bx1.at_ 0, bx1.at_ 1, bx1.at_ 2, bx1.at_ 3, (hAW.cell (p := ⟨b', _, none⟩) (Nat.lt_of_lt_of_le hb' hBs)).trans d0, (hAW.cell (p := ⟨b', _, none⟩) (Nat.lt_of_lt_of_le hb' hBs)).trans d1, (hAW.cell (p := ⟨b', _, none⟩) (Nat.lt_of_lt_of_le hb' hBs)).trans d2, (hAW.cell (p := ⟨b', _, none⟩) (Nat.lt_of_lt_of_le hb' hBs)).trans d3⟩
          have HPUT := hide (fun (W' : World) (h : W'.cell? ⟨wA.heap.size, 0, none⟩ = some (.int .i64 x.a) ∧ W'.cell? ⟨wA.heap.size, 1, none⟩ = some (.int .i64 x.b) ∧ W'.cell? ⟨wA.heap.size, 2, none⟩ = some (.int .i64 x.c) ∧ W'.cell? ⟨wA.heap.size, 3, none⟩ = some (.int .i64 x.d) ∧ W'.cell? ⟨b', o' + k * 4, none⟩ = some (.int .i64 y.a) ∧ W'.cell? ⟨b', o' + k * 4 + 1, none⟩ = some (.int .i64 y.b) ∧ W'.cell? ⟨b', o' + k * 4 + 2, none⟩ = some (.int .i64 y.c) ∧ W'.cell? ⟨b', o' + k * 4 + 3, none⟩ = some (.int .i64 y.d)) =>
            (⟨World.cell_put4 h.1 (by omega) _ _ _ _, World.cell_put4 h.2.1 (by omega) _ _ _ _, World.cell_put4 h.2.2.1 (by omega) _ _ _ _, World.cell_put4 h.2.2.2.1 (by omega) _ _ _ _, World.cell_put4 h.2.2.2.2.1 (by omega) _ _ _ _, World.cell_put4 h.2.2.2.2.2.1 (by omega) _ _ _ _, World.cell_put4 h.2.2.2.2.2.2.1 (by omega) _ _ _ _, World.cell_put4 h.2.2.2.2.2.2.2 (by omega) _ _ _ _⟩ :
              ((((W'.setCell ⟨g, k * 4, none⟩ (.int .i64 z.a)).setCell ⟨g, k * 4 + 1, none⟩ (.int .i64 z.b)).setCell ⟨g, k * 4 + 2, none⟩ (.int .i64 z.c)).setCell ⟨g, k * 4 + 3, none⟩ (.int .i64 z.d)).cell? ⟨wA.heap.size, 0, none⟩ = some (.int .i64 x.a) ∧ ((((W'.setCell ⟨g, k * 4, none⟩ (.int .i64 z.a)).setCell ⟨g, k * 4 + 1, none⟩ (.int .i64 z.b)).setCell ⟨g, k * 4 + 2, none⟩ (.int .i64 z.c)).setCell ⟨g, k * 4 + 3, none⟩ (.int .i64 z.d)).cell? ⟨wA.heap.size, 1, none⟩ = some (.int .i64 x.b) ∧ ((((W'.setCell ⟨g, k * 4, none⟩ (.int .i64 z.a)).setCell ⟨g, k * 4 + 1, none⟩ (.int .i64 z.b)).setCell ⟨g, k * 4 + 2, none⟩ (.int .i64 z.c)).setCell ⟨g, k * 4 + 3, none⟩ (.int .i64 z.d)).cell? ⟨wA.heap.size, 2, none⟩ = some (.int .i64 x.c) ∧ ((((W'.setCell ⟨g, k * 4, none⟩ (.int .i64 z.a)).setCell ⟨g, k * 4 + 1, none⟩ (.int .i64 z.b)).setCell ⟨g, k * 4 + 2, none⟩ (.int .i64 z.c)).setCell ⟨g, k * 4 + 3, none⟩ (.int .i64 z.d)).cell? ⟨wA.heap.size, 3, none⟩ = some (.int .i64 x.d) ∧ ((((W'.setCell ⟨g, k * 4, none⟩ (.int .i64 z.a)).setCell ⟨g, k * 4 + 1, none⟩ (.int .i64 z.b)).setCell ⟨g, k * 4 + 2, none⟩ (.int .i64 z.c)).setCell ⟨g, k * 4 + 3, none⟩ (.int .i64 z.d)).cell? ⟨b', o' + k * 4, none⟩ = some (.int .i64 y.a) ∧ ((((W'.setCell ⟨g, k * 4, none⟩ (.int .i64 z.a)).setCell ⟨g, k * 4 + 1, none⟩ (.int .i64 z.b)).setCell ⟨g, k * 4 + 2, none⟩ (.int .i64 z.c)).setCell ⟨g, k * 4 + 3, none⟩ (.int .i64 z.d)).cell? ⟨b', o' + k * 4 + 1, none⟩ = some (.int .i64 y.b) ∧ ((((W'.setCell ⟨g, k * 4, none⟩ (.int .i64 z.a)).setCell ⟨g, k * 4 + 1, none⟩ (.int .i64 z.b)).setCell ⟨g, k * 4 + 2, none⟩ (.int .i64 z.c)).setCell ⟨g, k * 4 + 3, none⟩ (.int .i64 z.d)).cell? ⟨b', o' + k * 4 + 2, none⟩ = some (.int .i64 y.c) ∧ ((((W'.setCell ⟨g, k * 4, none⟩ (.int .i64 z.a)).setCell ⟨g, k * 4 + 1, none⟩ (.int .i64 z.b)).setCell ⟨g, k * 4 + 2, none⟩ (.int .i64 z.c)).setCell ⟨g, k * 4 + 3, none⟩ (.int .i64 z.d)).cell? ⟨b', o' + k * 4 + 3, none⟩ = some (.int .i64 y.d)))
          have HO1 := hide ho1
          have HB1 := hide hB1
          clear hW1 ho hB hb c0 c1 c2 c3 d0 d1 d2 d3 bx1 ho1 hB1 hAW
          refine wp_region_held_drew (S := fun w' => w'.cell? ⟨wA.heap.size, 0, none⟩ = some (.int .i64 x.a) ∧ w'.cell? ⟨wA.heap.size, 1, none⟩ = some (.int .i64 x.b) ∧ w'.cell? ⟨wA.heap.size, 2, none⟩ = some (.int .i64 x.c) ∧ w'.cell? ⟨wA.heap.size, 3, none⟩ = some (.int .i64 x.d) ∧ w'.cell? ⟨b', o' + k * 4, none⟩ = some (.int .i64 y.a) ∧ w'.cell? ⟨b', o' + k * 4 + 1, none⟩ = some (.int .i64 y.b) ∧ w'.cell? ⟨b', o' + k * 4 + 2, none⟩ = some (.int .i64 y.c) ∧ w'.cell? ⟨b', o' + k * 4 + 3, none⟩ = some (.int .i64 y.d)) (by kernel_rfl) hS1 (fun hHeld => ?_)
          refine wpAnyH_take (i := 0) (oi := ⟨some 50, _, _, _, _, _⟩) (v := ?_) rfl (by kernel_rfl) (by kernel_rfl) (by kernel_rfl) (fun _ _ _ h => h) (Or.inl ⟨by rfl, ?_⟩) (by assumption) ?_
          rotate_left
          · (intro w' hSw; (try dsimp only at hSw); go_simp <;> (with_reducible rfl))
          try simp only [Act.put, List.setIfInBounds_toArray, List.set_cons_zero, List.set_cons_succ]
          refine wpAnyH_take (i := 1) (oi := ⟨some 51, _, _, _, _, _⟩) (v := ?_) rfl (by kernel_rfl) (by kernel_rfl) (by kernel_rfl) (fun _ _ _ h => h) (Or.inl ⟨by rfl, ?_⟩) (by assumption) ?_
          rotate_left
          · (intro w' hSw; (try dsimp only at hSw); go_simp <;> (with_reducible rfl))
          try simp only [Act.put, List.setIfInBounds_toArray, List.set_cons_zero, List.set_cons_succ]
          refine wpAnyH_take (i := 2) (oi := ⟨some 52, _, _, _, _, _⟩) (v := ?_) rfl (by kernel_rfl) (by kernel_rfl) (by kernel_rfl) (fun _ _ _ h => h) (Or.inl ⟨by rfl, ?_⟩) (by assumption) ?_
          rotate_left
          · (intro w' hSw; (try dsimp only at hSw); go_simp <;> (with_reducible rfl))
          try simp only [Act.put, List.setIfInBounds_toArray, List.set_cons_zero, List.set_cons_succ]
          refine wpAnyH_take (i := 4) (oi := ⟨some 54, _, _, _, _, _⟩) (v := ?_) rfl (by kernel_rfl) (by kernel_rfl) (by kernel_rfl) (fun _ _ _ h => h) (Or.inl ⟨by rfl, ?_⟩) (by assumption) ?_
          rotate_left
          · (intro w' hSw; (try dsimp only at hSw); go_simp <;> (with_reducible rfl))
          try simp only [Act.put, List.setIfInBounds_toArray, List.set_cons_zero, List.set_cons_succ]
          refine wpAnyH_take (i := 5) (oi := ⟨some 55, _, _, _, _, _⟩) (v := ?_) rfl (by kernel_rfl) (by kernel_rfl) (by kernel_rfl) (fun _ _ _ h => h) (Or.inl ⟨by rfl, ?_⟩) (by assumption) ?_
          rotate_left
          · (intro w' hSw; (try dsimp only at hSw); go_simp <;> (with_reducible rfl))
          try simp only [Act.put, List.setIfInBounds_toArray, List.set_cons_zero, List.set_cons_succ]
          refine wpAnyH_take (i := 6) (oi := ⟨some 56, _, _, _, _, _⟩) (v := ?_) rfl (by kernel_rfl) (by kernel_rfl) (by kernel_rfl) (fun _ _ _ h => h) (Or.inl ⟨by rfl, ?_⟩) (by assumption) ?_
          rotate_left
          · (intro w' hSw; (try dsimp only at hSw); go_simp <;> (with_reducible rfl))
          try simp only [Act.put, List.setIfInBounds_toArray, List.set_cons_zero, List.set_cons_succ]
          refine wpAnyH_take (i := 7) (oi := ⟨some 57, _, _, _, _, _⟩) (v := ?_) rfl (by kernel_rfl) (by kernel_rfl) (by kernel_rfl) (fun _ _ _ h => h) (Or.inl ⟨by rfl, ?_⟩) (by assumption) ?_
          rotate_left
          · (intro w' hSw; (try dsimp only at hSw); go_simp <;> (with_reducible rfl))
          try simp only [Act.put, List.setIfInBounds_toArray, List.set_cons_zero, List.set_cons_succ]
          refine wpAnyH_ready (rs := [3]) (by kernel_rfl) (by simp) ?_
          refine AllReadyH.cons (o := ⟨some 53, _, _, _, _, _⟩) rfl (fun K' hK => ?_) AllReadyH.nil
          go_simp
          go_at_call 38
          refine (HCk.out _).mono ?_
          rintro r w2 ⟨rfl, hb2⟩
          have hc2 : Below W1.heap.size W1 w2 := by first | exact hb2 | exact below_of_drew hb2 | exact below_of_drew (below_of_drew hb2)
          have hS2 := cells8_below hc2 hS1
          have HO2 := hide (HO1.out.below hc2)
          have HB2 := hide (HB1.out.trans (hc2.mono HB1.out.size))
          clear hb2 hc2 hS1 HO1 HB1
          go_wp2_with fail
          refine hK.out _ _ hS2 (fun hHeld => ?_)
          clear hK K'
          try simp only [Act.put, List.setIfInBounds_toArray, List.set_cons_zero, List.set_cons_succ]
          refine wpAnyH_ready (rs := [8]) (by kernel_rfl) (by simp) ?_
          refine AllReadyH.cons (o := ⟨some 58, _, _, _, _, _⟩) rfl (fun K' hK => ?_) AllReadyH.nil
          go_simp
          go_at_call 30
          refine (HPk.out _).mono ?_
          rintro r w3 ⟨rfl, hb3⟩
          have hc3 : Below w2.heap.size w2 w3 := by first | exact hb3 | exact below_of_drew hb3 | exact below_of_drew (below_of_drew hb3)
          have hS3 := cells8_below hc3 hS2
          have HO3 := hide (HO2.out.below hc3)
          have HB3 := hide (HB2.out.trans (hc3.mono HB2.out.size))
          clear hb3 hc3 hS2 HO2 HB2
          go_wp2_with fail
          refine hK.out _ _ hS3 (fun hHeld => ?_)
          clear hK K'
          try simp only [Act.put, List.setIfInBounds_toArray, List.set_cons_zero, List.set_cons_succ]
          refine wpAnyH_ready (rs := [9]) (by kernel_rfl) (by simp) ?_
          refine AllReadyH.cons (o := ⟨some 59, _, _, _, _, _⟩) rfl (fun K' hK => ?_) AllReadyH.nil
          go_simp
          refine hK.out _ _ hS3 (fun hHeld => ?_)
          clear hK K'
          try simp only [Act.put, List.setIfInBounds_toArray, List.set_cons_zero, List.set_cons_succ]
          obtain ⟨z0, z1, z2, z3⟩ := HO3.out.cells hlt
          obtain ⟨f0, f1, f2, f3⟩ := HO3.out.frozen4 k
          have hlw := HO3.out.lt.2
          refine wpAnyH_ready (rs := [10]) (by kernel_rfl) (by simp) ?_
          refine AllReadyH.cons (o := ⟨none, _, _, _, _, _⟩) rfl (fun K' hK => ?_) AllReadyH.nil
          go_simp
          have HOO := hide (HO3.out.put k z)
          have HBB := hide (Below.put4at (o := k * 4) HB3.out HO3.out.lt.1 (.int .i64 z.a) (.int .i64 z.b) (.int .i64 z.c) (.int .i64 z.d))
          refine hK.out _ _ (HPUT.out _ hS3) (fun hHeld => ?_)
          clear hK K'
          try simp only [Act.put, List.setIfInBounds_toArray, List.set_cons_zero, List.set_cons_succ]
          clear z0 z1 z2 z3 f0 f1 f2 f3 hlw hS3 HO3 HB3 HPUT
          refine wpAnyH_done (by kernel_rfl) ?_ _
          go_wp2_with fail
          go_roundw
          case rel => exact ⟨k + 1, by omega, by go_num, HOO.out.congr HQE.out, HBB.out⟩
          case measure => simp [Go.RowKit.intOf]; omega
        · obtain rfl : k = m := by omega
          have ho1 := ho.congr (G := P) (fun i hi => by show (if i < k then P i else Num.zero) = P i; rw [if_pos hi])
          have hgA : g < wA.heap.size := ho.lt.2
          clear ho HPR HPP HCJ
          have HSQ := hide (fun (f : Nat) => (offS_within hn16 HPW.out f).squares)
          have HSW := hide (fun (f : Nat) => (offS_within hn16 HPW.out f).more (show (640000 : Int) ≤ 1000000000 by decide))
          have HBW := hide (fun (f : Nat) => offB_within hn16 HPW.out f)
          have HTO := hide (fun (f : Nat) (hf : f < 8) W hW => turnedOn_any (some ⟨g, 0, none⟩) k k P (-(f : Int)) W (by omega) (by omega) hW (fun i hi => (HPW.out i hi).more (by decide)))
          have HSM := hide (fun (f : Nat) A' c' W hW => sum_any A' k c' (fun i => (P i).turns ((-(f : Int) * (i : Int)) % 8).toNat) 640000 W (by omega) hW (sums_within hn16 HPW.out (-(f : Int))) (by decide))
          have HOS := hide (fun (f : Nat) => (show sumF (fun i => (P i).turns ((-(f : Int) * (i : Int)) % 8).toNat) k = offS P k f from rfl))
          have HOB := hide (fun (f : Nat) => (show offB P k (f + 1) = if 0 < compI ((offS P k f).sqP - (offB P k f).2.1) ((offB P k f).2.2 - (offS P k f).sqQ) then ((f : Int), (offS P k f).sqP, (offS P k f).sqQ) else offB P k f from rfl))
          have hO0 : offB P k 0 = (0, 0, 0) := rfl
          clear HPW
          go_wp2_with fail
          obtain ⟨w6, hw6⟩ : ∃ y : World, y = wA.alloc (.cells #[.int .i64 0, .int .i64 0] 81) := ⟨_, rfl⟩
          rw [← hw6]
          obtain ⟨q, hq⟩ : ∃ q, q = wA.heap.size := ⟨_, rfl⟩
          have hb6 : Box w6 q 81 #[.int .i64 0, .int .i64 0] := by rw [hw6, hq]; exact Box.made rfl
          have ho6 : OwnNums w6 w.heap.size (.slice (some ⟨g, 0, none⟩) k k) k P := by rw [hw6]; exact ho1.alloc _
          have hB6 : Below w.heap.size w w6 := by rw [hw6]; exact hB.alloc hBs _
          rw [← hq]
          have hgq : g < q := by omega
          have hwq : w.heap.size ≤ q := by omega
          clear hw6 hq ho1 hB hBs hgA
          go_loopw [10, 62] (fun s10 s62 wr => ∃ f : Nat, f ≤ 8 ∧ s62 = .int .i64 (f : Int) ∧ s10 = .int .i64 (offB P k f).1 ∧ OwnNums wr w.heap.size (.slice (some ⟨g, 0, none⟩) k k) k P ∧ Box wr q 81 #[.int .i64 (offB P k f).2.1, .int .i64 (offB P k f).2.2] ∧ Below w.heap.size w wr) (fun _ s62 _ => 8 - (Go.RowKit.intOf s62).toNat)
          case atStart => exact ⟨0, Nat.zero_le _, rfl, rfl, ho6, hb6, hB6⟩
          case round =>
            clear ho6 hb6 hB6
            obtain ⟨f, hf, rfl, rfl, ho, hb, hB⟩ := hrel
            obtain ⟨wB, rfl⟩ : ∃ x : World, x = wr := ⟨_, rfl⟩
            by_cases hlt : f < 8
            · have hltz : (f : Int) < 8 := by omega
              have q1 : IntKind.i64.wrap (-(f : Int)) = -(f : Int) := IntWalk.i64_in _ (by omega)
              have HT := hide (HTO.out f hlt)
              have HS := hide (HSM.out f)
              rw [HOS.out f] at HS
              have HQ1 := HSQ.out f
              have HQ2 := hide (HSW.out f)
              have HW1 := HBW.out f
              have HB1 := hide (HOB.out f)
              obtain ⟨x, hx⟩ : ∃ x, x = offS P k f := ⟨_, rfl⟩
              obtain ⟨T, hT⟩ : ∃ T, T = offB P k f := ⟨_, rfl⟩
              rw [← hx] at HS HQ1 HQ2 HB1
              rw [← hT] at HW1 HB1 hb ⊢
              clear hx hT
              obtain ⟨t1, tp, tq⟩ := T
              simp only at HW1 HB1 hb ⊢
              obtain ⟨C, hC⟩ : ∃ C, C = compI (x.sqP - tp) (tq - x.sqQ) := ⟨_, rfl⟩
              rw [← hC] at HB1
              have HCM := hide (fun W => (show Calls Try.prog 41 #[.agg #[.int .i64 x.sqP, .int .i64 x.sqQ], .agg #[.int .i64 tp, .int .i64 tq]] W fun e w' => e = .returned (.int .i64 C) ∧ Below W.heap.size W w' from by
                rw [hC]
                have h1 := HQ1
                have h2 := HW1
                exact compared_any x.sqP x.sqQ tp tq W (by omega) (by omega) (by omega) (by omega)))
              clear hC HQ1 HW1
              go_wp2_with fail
              refine (HT.out _ (ho.nums.weak (Nat.zero_le _))).mono ?_
              rintro r w1 ⟨v, rfl, hov, hb1⟩
              obtain ⟨A', c', rfl, -, hN⟩ := hov.form
              have ho1 := ho.below hb1
              have hq1 := hb.below hb1
              have hB1 := hB.trans (hb1.mono hB.size)
              clear ho hb hB hb1 hov
              go_wp2_with fail
              refine (HS.out A' c' _ (hN.weak (Nat.zero_le _))).mono ?_
              rintro r w2 ⟨rfl, hb2⟩
              have ho2 := ho1.below hb2
              have hq2 := hq1.below hb2
              have hB2 := hB1.trans (hb2.mono hB1.size)
              clear ho1 hq1 hB1 hb2 hN
              go_wp2_with fail
              refine (squareOf_any x _ HQ2.out).mono ?_
              rintro r w3 ⟨rfl, hb3⟩
              have ho3 := ho2.below hb3
              have hq3 := hq2.below hb3
              have hB3 := hB2.trans (hb3.mono hB2.size)
              clear ho2 hq2 hB2 hb3
              go_upto_region 15 with fail
              obtain ⟨w4, hw4⟩ : ∃ y : World, y = w3.alloc (.cells #[.int .i64 x.sqP, .int .i64 x.sqQ] 81) := ⟨_, rfl⟩
              rw [← hw4]
              have bs4 : Box w4 w3.heap.size 81 #[.int .i64 x.sqP, .int .i64 x.sqQ] := by rw [hw4]; exact Box.made rfl
              have ho4 : OwnNums w4 w.heap.size (.slice (some ⟨g, 0, none⟩) k k) k P := by rw [hw4]; exact ho3.alloc _
              have hq4 : Box w4 q 81 #[.int .i64 tp, .int .i64 tq] := by rw [hw4]; exact hq3.alloc _
              have hB4 : Below w.heap.size w w4 := by rw [hw4]; exact hB3.alloc hB3.size _
              have hqs : q < w3.heap.size := hq3.lt
              obtain ⟨s, hs⟩ : ∃ s, s = w3.heap.size := ⟨_, rfl⟩
              rw [← hs] at bs4 hqs ⊢
              clear hw4 ho3 hq3 hB3 hs
              have y0 : w4.cell? ⟨s, 0, none⟩ = some (.int .i64 x.sqP) := bs4.at_ 0
              have y1 : w4.cell? ⟨s, 1, none⟩ = some (.int .i64 x.sqQ) := bs4.at_ 1
              have z0 : w4.cell? ⟨q, 0, none⟩ = some (.int .i64 tp) := hq4.at_ 0
              have z1 : w4.cell? ⟨q, 1, none⟩ = some (.int .i64 tq) := hq4.at_ 1
              have hls := bs4.lt
              have hlq := hq4.lt
              go_wp2_with fail
              refine (HCM.out _).mono ?_
              rintro r w5 ⟨rfl, hb5⟩
              have ho5 := ho4.below hb5
              have hq5 := hq4.below hb5
              have bs5 := bs4.below hb5
              have hB5 := hB4.trans (hb5.mono hB4.size)
              clear ho4 hq4 bs4 hB4 hb5 y0 y1 z0 z1 hls hlq
              by_cases h0 : 0 < C
              · have tC : decide (C > 0) = true := decide_eq_true h0
                have HN := hide (HB1.out.trans (if_pos h0))
                have y0 : w5.cell? ⟨s, 0, none⟩ = some (.int .i64 x.sqP) := bs5.at_ 0
                have y1 : w5.cell? ⟨s, 1, none⟩ = some (.int .i64 x.sqQ) := bs5.at_ 1
                have z0 : w5.cell? ⟨q, 0, none⟩ = some (.int .i64 tp) := hq5.at_ 0
                have z1 : w5.cell? ⟨q, 1, none⟩ = some (.int .i64 tq) := hq5.at_ 1
                have f0 : w5.frozen? ⟨q, 0, none⟩ = false := hq5.free 0
                have f1 : w5.frozen? ⟨q, 1, none⟩ = false := hq5.free 1
                have hls := bs5.lt
                have hlq := hq5.lt
                have HOO := hide ((ho5.other (k := q) 0 (.int .i64 x.sqP) (by simp [Value.ownBlock]; omega)).other (k := q) 1 (.int .i64 x.sqQ) (by simp [Value.ownBlock]; omega))
                have HQQ := hide ((hq5.set_ 0 (.int .i64 x.sqP)).set_ 1 (.int .i64 x.sqQ))
                have HBB := hide (show Below w.heap.size w ((w5.setCell ⟨q, 0, none⟩ (.int .i64 x.sqP)).setCell ⟨q, 1, none⟩ (.int .i64 x.sqQ)) from (hB5.setCell hwq _).setCell hwq _)
                clear ho5 hq5 bs5 hB5
                go_upto_region 16 with fail
                go_region
                all_goals
                  go_wp2_with fail
                  go_roundw
                  case rel => exact ⟨f + 1, by omega, by go_num, by rw [HN.out], HOO.out, by rw [HN.out]; exact HQQ.out, by first | exact HBB.out | exact Below.drew HBB.out⟩
                  case measure => simp [Go.RowKit.intOf]; omega
              · have tC : decide (C > 0) = false := decide_eq_false h0
                have HN := hide (HB1.out.trans (if_neg h0))
                go_wp2_with fail
                go_roundw
                case rel => exact ⟨f + 1, by omega, by go_num, by rw [HN.out], ho5, by rw [HN.out]; exact hq5, hB5⟩
                case measure => simp [Go.RowKit.intOf]; omega
            · obtain rfl : f = 8 := by omega
              go_wp2_with fail
              go_ret2
              exact ⟨by rw [HV.out]; rfl, hB⟩
    · have tv : (V != 0) = true := by simpa using hv
      have HV := hide (HR.out.trans (if_neg hv))
      go_wp2_with fail
      go_ret2
      exact ⟨by rw [HV.out]; rfl, hB5⟩
  · have t0 : decide ((n : Int) > 0) = false := decide_eq_false (by omega)
    have e0 : (decide (0 < n) && ((m : Int) == (n : Int))) = false := by simp [h0]
    rw [e0] at HE
    clear e0
    generalize offR n m F G = R at *
    generalize offE n m F G = V at *
    have HV10 := hide (show V = 10 from HE.out)
    go_enter Try.func17, Try.ntmps17
    go_wp2_with (go_at_call 22; refine (unless_any _ _ _).mono ?_; rintro e w' ⟨rfl, rfl⟩)
    clear t0 h0
    refine (numberWithin_any _ _).mono ?_
    rintro e w1 ⟨rfl, hw1⟩
    have hc : w1.cell? ⟨w.heap.size, 0, none⟩ = some (.int .i64 100) := by rw [← hw1]; exact (Box.made rfl : Box _ w.heap.size 3 #[.int .i64 100]).at_ 0
    have hB1 : Below w.heap.size w w1 := by rw [← hw1]; exact (Below.refl _ _).alloc (Nat.le_refl _) _
    clear hw1
    go_wp2_with fail
    refine (itemsError_nums 100 A n c w.heap.size F _ hn (HI.out.below hB1) hc (by decide)).mono ?_
    rintro e w2 ⟨rfl, hb2⟩
    have hB2 := hB1.trans (hb2.mono hB1.size)
    clear hc hB1 hb2
    go_wp2_with fail
    refine (numberWithin_any _ _).mono ?_
    rintro e w3 ⟨rfl, hw3⟩
    have hc : w3.cell? ⟨w2.heap.size, 0, none⟩ = some (.int .i64 100) := by rw [← hw3]; exact (Box.made rfl : Box _ w2.heap.size 3 #[.int .i64 100]).at_ 0
    have hB3 : Below w.heap.size w w3 := by rw [← hw3]; exact hB2.alloc hB2.size _
    clear hw3 hB2
    go_wp2_with fail
    refine (itemsError_nums 100 B m d w2.heap.size G _ hm (HJ.out.below hB3) hc (by decide)).mono ?_
    rintro e w4 ⟨rfl, hb4⟩
    have hB4 := hB3.trans (hb4.mono hB3.size)
    clear hc hB3 hb4
    go_wp2_with fail
    refine (firstError_laid [unI false 10, unI (decide ((n : Int) ≤ 16)) 8, numsE 100 F n, numsE 100 G m] 4 _ _ rfl (by decide)).mono ?_
    rintro e w5 ⟨rfl, hw5⟩
    rw [← HE.out]
    have hB5 : Below w.heap.size w w5 := by rw [← hw5]; exact hB4.alloc hB4.size _
    clear hw5 hB4 HE
    have hv : V ≠ 0 := by rw [HV10.out]; decide
    have tv : (V != 0) = true := by simpa using hv
    have HV := hide (HR.out.trans (if_neg hv))
    go_wp2_with fail
    go_ret2
    exact ⟨by rw [HV.out]; rfl, hB5⟩
end Go.Proofs.Ytcndeegfkgfnkaa
