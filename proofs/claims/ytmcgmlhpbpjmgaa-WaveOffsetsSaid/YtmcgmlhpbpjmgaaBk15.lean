/- Lemmas: Of. -/
import Derived.Test.YtmcgmlhpbpjmgaaBk10
import Derived.Test.YtmcgmlhpbpjmgaaBk14
set_option linter.unusedVariables false
set_option linter.unusedSimpArgs false
/- OffsetOf of the reference. -/
namespace Go.Proofs.Ytmcgmlhpbpjmgaa
open Go.RowKit Go.Great
/-- The reference's best offset of the first f ones, and its square. -/
def refB (P : Nat → Num) (n : Nat) : Nat → Int × Int × Int
  | 0 => (0, 0, 0)
  | f + 1 => if f = 0 ∨ 0 < refC ((offS P n f).sqP - (refB P n f).2.1) ((offS P n f).sqQ - (refB P n f).2.2) then ((f : Int), (offS P n f).sqP, (offS P n f).sqQ) else refB P n f
theorem refB_within {P : Nat → Num} {n : Nat} (hn : n ≤ 16) (h : ∀ i, i < n → (P i).Within 40000) : ∀ f, (-2000000000000 ≤ (refB P n f).2.1 ∧ (refB P n f).2.1 ≤ 2000000000000) ∧ -2000000000000 ≤ (refB P n f).2.2 ∧ (refB P n f).2.2 ≤ 2000000000000
  | 0 => by
    show (-2000000000000 ≤ (0 : Int) ∧ (0 : Int) ≤ 2000000000000) ∧ -2000000000000 ≤ (0 : Int) ∧ (0 : Int) ≤ 2000000000000
    exact ⟨⟨by decide, by decide⟩, by decide, by decide⟩
  | f + 1 => by
    unfold refB
    split
    · exact (offS_within hn h f).squares
    · exact refB_within hn h f
theorem nums_cells {w : World} {lo n b o j : Nat} {F : Nat → Num} (h : NumsAt w lo (some ⟨b, o, none⟩) n F) (hj : j < n) : w.cell? ⟨b, o + j * 4, none⟩ = some (.int .i64 (F j).a) ∧ w.cell? ⟨b, o + j * 4 + 1, none⟩ = some (.int .i64 (F j).b) ∧ w.cell? ⟨b, o + j * 4 + 2, none⟩ = some (.int .i64 (F j).c) ∧ w.cell? ⟨b, o + j * 4 + 3, none⟩ = some (.int .i64 (F j).d) := by
  obtain ⟨b', o', e, -, -, h0, h1, h2, h3⟩ := h j hj
  injection e with e
  injection e with e1 e2
  subst e1
  subst e2
  exact ⟨h0, h1, h2, h3⟩
theorem exec_load2r {a : Act} {x : Operand} {d : Option Tmp} {ty : TypeId} {pos : String} {aft : Array Edge} {gd : Option (Nat × Bool)} {b : Nat} {p q : Value} {W : World} (hx : a.eval x = .pointer (some ⟨b, 0, none⟩)) (hr : Box W b 86 #[p, q]) :
    (execOp a.eval ⟨d, .load 86 x, ty, pos, aft, gd⟩).run Try.prog W = .ok (.value (.agg #[p, q])) W := by
  have h0 := hr.at_ 0
  have h1 := hr.at_ 1
  simp only [List.getElem?_toArray] at h0 h1
  simp only [execOp, Instr.loadAt, hx, Instr.sureAddr, Sem.run_bind, Sem.run_pure, Result.andThen_ok]
  have := run_loadVar_mid (P := Try.prog) W b 0 86 [p, q] _ (fun j v hv => by
    match j with
    | 0 => simp at hv; subst hv; simpa using h0
    | 1 => simp at hv; subst hv; simpa using h1
    | n + 2 => simp at hv) Try.underlying86 rfl (by kernel_rfl)
  rw [this]
  rfl
set_option maxHeartbeats 16000000 in
set_option maxRecDepth 100000 in
theorem offsetOfR_any (A B : Option Addr) (n c d : Nat) (F G : Nat → Num) (w : World) (h0 : 0 < n) (hn : n ≤ 16) (hF : ∀ i, i < n → (F i).Within 100) (hG : ∀ i, i < n → (G i).Within 100) (hI : NumsAt w 0 A n F) (hJ : NumsAt w 0 B n G) :
    Calls Try.prog 16 #[.slice A n c, .slice B n d] w fun e w' => e = .returned (.int .i64 (refB (offP F G) n 8).1) ∧ Below w.heap.size w w' := by
  obtain ⟨b, o, rfl, -⟩ := hI 0 h0
  obtain ⟨b', o', rfl, -⟩ := hJ 0 h0
  obtain ⟨P, hP⟩ : ∃ P, P = offP F G := ⟨_, rfl⟩
  have HPW := hide (show ∀ i, i < n → (P i).Within 40000 from fun i hi => by rw [hP]; exact offP_within (hF i hi) (hG i hi))
  have HPR := hide (show ∀ i, i < n → ∀ W, Calls Try.prog 55 #[.agg #[.int .i64 (F i).conj.a, .int .i64 (F i).conj.b, .int .i64 (F i).conj.c, .int .i64 (F i).conj.d], .agg #[.int .i64 (G i).a, .int .i64 (G i).b, .int .i64 (G i).c, .int .i64 (G i).d]] W fun e w' => e = .returned (.agg #[.int .i64 (P i).a, .int .i64 (P i).b, .int .i64 (P i).c, .int .i64 (P i).d]) ∧ Below W.heap.size W w' from fun i hi W => by rw [hP]; exact productR_any (F i).conj (G i) 100 100 W (hF i hi).conj (hG i hi) (by decide) (by decide) (by decide))
  have HCJ := hide (fun i (hi : i < n) W => conjR_any (F i) W ((hF i hi).more (by decide)))
  have HI := hide hI
  have HJ := hide hJ
  rw [← hP]
  clear hI hJ hF hG hP
  go_enter Try.func16, Try.ntmps16
  go_wp2_with fail
  go_loopw [5, 7, 8, 9, 10] (fun v5 v7 v8 v9 v10 wr => ∃ f : Nat, f ≤ 8 ∧ v7 = .int .i64 (f : Int) ∧ v5 = .int .i64 (refB P n f).1 ∧ Box wr w.heap.size 86 #[.int .i64 (refB P n f).2.1, .int .i64 (refB P n f).2.2] ∧ Below w.heap.size w wr) (fun _ v7 _ _ _ _ => 8 - (Go.RowKit.intOf v7).toNat)
  case atStart => exact ⟨0, by decide, rfl, rfl, Box.made rfl, (Below.refl _ _).alloc (Nat.le_refl _) _⟩
  case round =>
    obtain ⟨f, hf, rfl, rfl, b6, hB⟩ := hrel
    obtain ⟨wA, rfl⟩ : ∃ x : World, x = wr := ⟨_, rfl⟩
    by_cases hlt : f < 8
    · have hltz : (f : Int) < 8 := by omega
      go_upto_region 7 with fail
      obtain ⟨W, hW⟩ : ∃ y : World, y = wA.alloc (.cells #[.int .i64 0, .int .i64 0, .int .i64 0, .int .i64 0] 36) := ⟨_, rfl⟩
      rw [← hW]
      obtain ⟨g8, hg8⟩ : ∃ g, g = wA.heap.size := ⟨_, rfl⟩
      have b8 : Box W g8 36 #[.int .i64 0, .int .i64 0, .int .i64 0, .int .i64 0] := by rw [hW]; exact Box.made hg8
      have hg6 : w.heap.size < g8 := by rw [hg8]; exact b6.lt
      have b6W : Box W w.heap.size 86 #[.int .i64 (refB P n f).2.1, .int .i64 (refB P n f).2.2] := by rw [hW]; exact b6.alloc _
      have hBW : Below w.heap.size w W := by rw [hW]; exact hB.alloc hB.size _
      rw [← hg8]
      clear hW hg8 b6 hB
      go_wp2_with fail
      go_loopw [9] (fun v9 wr => ∃ j : Nat, j ≤ n ∧ v9 = .int .i64 (j : Int) ∧ Hid (Box wr g8 36 #[.int .i64 (sumF (fun i => (P i).turns ((-(f : Int) * (i : Int)) % 8).toNat) j).a, .int .i64 (sumF (fun i => (P i).turns ((-(f : Int) * (i : Int)) % 8).toNat) j).b, .int .i64 (sumF (fun i => (P i).turns ((-(f : Int) * (i : Int)) % 8).toNat) j).c, .int .i64 (sumF (fun i => (P i).turns ((-(f : Int) * (i : Int)) % 8).toNat) j).d]) ∧ Hid (Box wr w.heap.size 86 #[.int .i64 (refB P n f).2.1, .int .i64 (refB P n f).2.2]) ∧ Below w.heap.size w wr) (fun v9 _ => n - (Go.RowKit.intOf v9).toNat)
      case atStart => exact ⟨0, Nat.zero_le _, rfl, hide b8, hide b6W, hBW⟩
      case round =>
        clear b8 b6W hBW
        obtain ⟨j, hj, rfl, HB8, HB6, hB⟩ := hrel
        obtain ⟨wB, rfl⟩ : ∃ x : World, x = wr := ⟨_, rfl⟩
        by_cases hlj : j < n
        · have hljz : (j : Int) < (n : Int) := by omega
          have hS1 : NumsAt wB 0 (some ⟨b, o, none⟩) n F ∧ NumsAt wB 0 (some ⟨b', o', none⟩) n G := ⟨HI.out.below hB, HJ.out.below hB⟩
          have q1 : IntKind.i64.wrap (-(f : Int)) = -(f : Int) := IntWalk.i64_in _ (by omega)
          have hfj : 0 ≤ (f : Int) * (j : Int) ∧ (f : Int) * (j : Int) ≤ 8 * 16 := ⟨Int.mul_nonneg (by omega) (by omega), Int.mul_le_mul (by omega) (by omega) (by omega) (by decide)⟩
          have q2 : IntKind.i64.wrap (-(f : Int) * (j : Int)) = -(f : Int) * (j : Int) := by rw [Int.neg_mul]; exact IntWalk.i64_in _ (by omega)
          have HCk := hide (HCJ.out j hlj)
          have HPk := hide (HPR.out j hlj)
          have HTk := hide (fun W => turnR_any (P j) (-(f : Int) * (j : Int)) W ((HPW.out j hlj).more (by decide)))
          obtain ⟨s, hs⟩ : ∃ s, s = sumF (fun i => (P i).turns ((-(f : Int) * (i : Int)) % 8).toNat) j := ⟨_, rfl⟩
          obtain ⟨t, ht⟩ : ∃ t, t = (P j).turns ((-(f : Int) * (j : Int)) % 8).toNat := ⟨_, rfl⟩
          obtain ⟨y, hy⟩ : ∃ y, y = s.add t := ⟨_, rfl⟩
          have HYS := hide (show sumF (fun i => (P i).turns ((-(f : Int) * (i : Int)) % 8).toNat) (j + 1) = y from by rw [hy, ht, hs]; rfl)
          have HAD := hide (fun W => plusR_any s t 640000 W (by have h := sums_within hn HPW.out (-(f : Int)) (j + 1) (by omega); rw [show sumF (fun i => (P i).turns ((-(f : Int) * (i : Int)) % 8).toNat) (j + 1) = s.add t from by rw [ht, hs]; rfl] at h; exact h) (by decide))
          rw [← hy] at HAD
          rw [← ht] at HTk
          have b8 := HB8.out
          rw [← hs] at b8
          have HB := hide hB
          clear hy ht hs hfj hB HB8
          go_wp2_with fail
          refine wp_region_held_drew (S := fun w' => NumsAt w' 0 (some ⟨b, o, none⟩) n F ∧ NumsAt w' 0 (some ⟨b', o', none⟩) n G) (by kernel_rfl) hS1 (fun hHeld => ?_)
          refine wpAnyH_take (i := 1) (oi := ⟨some 22, _, _, _, _, _⟩) (v := ?_) rfl (by kernel_rfl) (by kernel_rfl) (by kernel_rfl) (fun _ _ _ h => h) (Or.inl ⟨by rfl, ?_⟩) (by assumption) ?_
          rotate_left
          · (intro w' hSw; (try dsimp only at hSw); obtain ⟨x0, x1, x2, x3⟩ := nums_cells hSw.1 hlj; obtain ⟨y0, y1, y2, y3⟩ := nums_cells hSw.2 hlj; go_simp <;> (with_reducible rfl))
          try simp only [Act.put, List.setIfInBounds_toArray, List.set_cons_zero, List.set_cons_succ]
          refine wpAnyH_take (i := 2) (oi := ⟨some 23, _, _, _, _, _⟩) (v := ?_) rfl (by kernel_rfl) (by kernel_rfl) (by kernel_rfl) (fun _ _ _ h => h) (Or.inl ⟨by rfl, ?_⟩) (by assumption) ?_
          rotate_left
          · (intro w' hSw; (try dsimp only at hSw); obtain ⟨x0, x1, x2, x3⟩ := nums_cells hSw.1 hlj; obtain ⟨y0, y1, y2, y3⟩ := nums_cells hSw.2 hlj; go_simp <;> (with_reducible rfl))
          try simp only [Act.put, List.setIfInBounds_toArray, List.set_cons_zero, List.set_cons_succ]
          refine wpAnyH_take (i := 3) (oi := ⟨some 24, _, _, _, _, _⟩) (v := ?_) rfl (by kernel_rfl) (by kernel_rfl) (by kernel_rfl) (fun _ _ _ h => h) (Or.inl ⟨by rfl, ?_⟩) (by assumption) ?_
          rotate_left
          · (intro w' hSw; (try dsimp only at hSw); obtain ⟨x0, x1, x2, x3⟩ := nums_cells hSw.1 hlj; obtain ⟨y0, y1, y2, y3⟩ := nums_cells hSw.2 hlj; go_simp <;> (with_reducible rfl))
          try simp only [Act.put, List.setIfInBounds_toArray, List.set_cons_zero, List.set_cons_succ]
          refine wpAnyH_take (i := 4) (oi := ⟨some 25, _, _, _, _, _⟩) (v := ?_) rfl (by kernel_rfl) (by kernel_rfl) (by kernel_rfl) (fun _ _ _ h => h) (Or.inl ⟨by rfl, ?_⟩) (by assumption) ?_
          rotate_left
          · (intro w' hSw; (try dsimp only at hSw); obtain ⟨x0, x1, x2, x3⟩ := nums_cells hSw.1 hlj; obtain ⟨y0, y1, y2, y3⟩ := nums_cells hSw.2 hlj; go_simp <;> (with_reducible rfl))
          try simp only [Act.put, List.setIfInBounds_toArray, List.set_cons_zero, List.set_cons_succ]
          refine wpAnyH_take (i := 6) (oi := ⟨some 27, _, _, _, _, _⟩) (v := ?_) rfl (by kernel_rfl) (by kernel_rfl) (by kernel_rfl) (fun _ _ _ h => h) (Or.inl ⟨by rfl, ?_⟩) (by assumption) ?_
          rotate_left
          · (intro w' hSw; (try dsimp only at hSw); obtain ⟨x0, x1, x2, x3⟩ := nums_cells hSw.1 hlj; obtain ⟨y0, y1, y2, y3⟩ := nums_cells hSw.2 hlj; go_simp <;> (with_reducible rfl))
          try simp only [Act.put, List.setIfInBounds_toArray, List.set_cons_zero, List.set_cons_succ]
          refine wpAnyH_take (i := 7) (oi := ⟨some 28, _, _, _, _, _⟩) (v := ?_) rfl (by kernel_rfl) (by kernel_rfl) (by kernel_rfl) (fun _ _ _ h => h) (Or.inl ⟨by rfl, ?_⟩) (by assumption) ?_
          rotate_left
          · (intro w' hSw; (try dsimp only at hSw); obtain ⟨x0, x1, x2, x3⟩ := nums_cells hSw.1 hlj; obtain ⟨y0, y1, y2, y3⟩ := nums_cells hSw.2 hlj; go_simp <;> (with_reducible rfl))
          try simp only [Act.put, List.setIfInBounds_toArray, List.set_cons_zero, List.set_cons_succ]
          refine wpAnyH_take (i := 8) (oi := ⟨some 29, _, _, _, _, _⟩) (v := ?_) rfl (by kernel_rfl) (by kernel_rfl) (by kernel_rfl) (fun _ _ _ h => h) (Or.inl ⟨by rfl, ?_⟩) (by assumption) ?_
          rotate_left
          · (intro w' hSw; (try dsimp only at hSw); obtain ⟨x0, x1, x2, x3⟩ := nums_cells hSw.1 hlj; obtain ⟨y0, y1, y2, y3⟩ := nums_cells hSw.2 hlj; go_simp <;> (with_reducible rfl))
          try simp only [Act.put, List.setIfInBounds_toArray, List.set_cons_zero, List.set_cons_succ]
          refine wpAnyH_take (i := 9) (oi := ⟨some 30, _, _, _, _, _⟩) (v := ?_) rfl (by kernel_rfl) (by kernel_rfl) (by kernel_rfl) (fun _ _ _ h => h) (Or.inl ⟨by rfl, ?_⟩) (by assumption) ?_
          rotate_left
          · (intro w' hSw; (try dsimp only at hSw); obtain ⟨x0, x1, x2, x3⟩ := nums_cells hSw.1 hlj; obtain ⟨y0, y1, y2, y3⟩ := nums_cells hSw.2 hlj; go_simp <;> (with_reducible rfl))
          try simp only [Act.put, List.setIfInBounds_toArray, List.set_cons_zero, List.set_cons_succ]
          refine wpAnyH_take (i := 11) (oi := ⟨some 32, _, _, _, _, _⟩) (v := ?_) rfl (by kernel_rfl) (by kernel_rfl) (by kernel_rfl) (fun _ _ _ h => h) (Or.inl ⟨by rfl, ?_⟩) (by assumption) ?_
          rotate_left
          · (intro w' hSw; (try dsimp only at hSw); obtain ⟨x0, x1, x2, x3⟩ := nums_cells hSw.1 hlj; obtain ⟨y0, y1, y2, y3⟩ := nums_cells hSw.2 hlj; go_simp <;> (with_reducible rfl))
          try simp only [Act.put, List.setIfInBounds_toArray, List.set_cons_zero, List.set_cons_succ]
          refine wpAnyH_take (i := 12) (oi := ⟨some 33, _, _, _, _, _⟩) (v := ?_) rfl (by kernel_rfl) (by kernel_rfl) (by kernel_rfl) (fun _ _ _ h => h) (Or.inl ⟨by rfl, ?_⟩) (by assumption) ?_
          rotate_left
          · (intro w' hSw; (try dsimp only at hSw); obtain ⟨x0, x1, x2, x3⟩ := nums_cells hSw.1 hlj; obtain ⟨y0, y1, y2, y3⟩ := nums_cells hSw.2 hlj; go_simp <;> (with_reducible rfl))
          try simp only [Act.put, List.setIfInBounds_toArray, List.set_cons_zero, List.set_cons_succ]
          refine wpAnyH_take (i := 13) (oi := ⟨some 34, _, _, _, _, _⟩) (v := ?_) rfl (by kernel_rfl) (by kernel_rfl) (by kernel_rfl) (fun _ _ _ h => h) (Or.inl ⟨by rfl, ?_⟩) (by assumption) ?_
          rotate_left
          · (intro w' hSw; (try dsimp only at hSw); obtain ⟨x0, x1, x2, x3⟩ := nums_cells hSw.1 hlj; obtain ⟨y0, y1, y2, y3⟩ := nums_cells hSw.2 hlj; go_simp <;> (with_reducible rfl))
          try simp only [Act.put, List.setIfInBounds_toArray, List.set_cons_zero, List.set_cons_succ]
          refine wpAnyH_take (i := 14) (oi := ⟨some 35, _, _, _, _, _⟩) (v := ?_) rfl (by kernel_rfl) (by kernel_rfl) (by kernel_rfl) (fun _ _ _ h => h) (Or.inl ⟨by rfl, ?_⟩) (by assumption) ?_
          rotate_left
          · (intro w' hSw; (try dsimp only at hSw); obtain ⟨x0, x1, x2, x3⟩ := nums_cells hSw.1 hlj; obtain ⟨y0, y1, y2, y3⟩ := nums_cells hSw.2 hlj; go_simp <;> (with_reducible rfl))
          try simp only [Act.put, List.setIfInBounds_toArray, List.set_cons_zero, List.set_cons_succ]
          refine wpAnyH_ready (rs := [0, 5]) (by kernel_rfl) (by simp) ?_
          refine AllReadyH.cons (o := ⟨some 21, _, _, _, _, _⟩) rfl (fun K' hK => ?_) (AllReadyH.cons (o := ⟨some 26, _, _, _, _, _⟩) rfl (fun K' hK => ?_) AllReadyH.nil)
          · skip
            obtain ⟨u0, u1, u2, u3, -⟩ := b8.cells4
            go_simp
            refine hK.out _ _ hS1 (fun hHeld => ?_)
            clear hK K' u0 u1 u2 u3
            try simp only [Act.put, List.setIfInBounds_toArray, List.set_cons_zero, List.set_cons_succ]
            refine wpAnyH_ready (rs := [5]) (by kernel_rfl) (by simp) ?_
            refine AllReadyH.cons (o := ⟨some 26, _, _, _, _, _⟩) rfl (fun K' hK => ?_) AllReadyH.nil
            go_simp
            go_at_call 56
            refine (HCk.out _).mono ?_
            rintro e v2 ⟨rfl, hb⟩
            have hc : Below wB.heap.size wB v2 := by first | exact hb | exact below_of_drew hb | exact below_of_drew (below_of_drew hb)
            have hS2 : NumsAt v2 0 (some ⟨b, o, none⟩) n F ∧ NumsAt v2 0 (some ⟨b', o', none⟩) n G := ⟨hS1.1.below hc, hS1.2.below hc⟩
            have b8_2 := b8.below hc
            have HB6_2 := hide (HB6.out.below hc)
            have HB_2 := hide (HB.out.trans (hc.mono HB.out.size))
            clear hb hc
            go_wp2_with fail
            refine hK.out _ _ hS2 (fun hHeld => ?_)
            clear hK K'
            try simp only [Act.put, List.setIfInBounds_toArray, List.set_cons_zero, List.set_cons_succ]
            refine wpAnyH_ready (rs := [10]) (by kernel_rfl) (by simp) ?_
            refine AllReadyH.cons (o := ⟨some 31, _, _, _, _, _⟩) rfl (fun K' hK => ?_) AllReadyH.nil
            go_simp
            go_at_call 55
            refine (HPk.out _).mono ?_
            rintro e v3 ⟨rfl, hb⟩
            have hc : Below v2.heap.size v2 v3 := by first | exact hb | exact below_of_drew hb | exact below_of_drew (below_of_drew hb)
            have hS3 : NumsAt v3 0 (some ⟨b, o, none⟩) n F ∧ NumsAt v3 0 (some ⟨b', o', none⟩) n G := ⟨hS2.1.below hc, hS2.2.below hc⟩
            have b8_3 := b8_2.below hc
            have HB6_3 := hide (HB6_2.out.below hc)
            have HB_3 := hide (HB_2.out.trans (hc.mono HB_2.out.size))
            clear hb hc
            go_wp2_with fail
            refine hK.out _ _ hS3 (fun hHeld => ?_)
            clear hK K'
            try simp only [Act.put, List.setIfInBounds_toArray, List.set_cons_zero, List.set_cons_succ]
            refine wpAnyH_ready (rs := [15]) (by kernel_rfl) (by simp) ?_
            refine AllReadyH.cons (o := ⟨some 36, _, _, _, _, _⟩) rfl (fun K' hK => ?_) AllReadyH.nil
            go_simp
            go_at_call 52
            refine (HTk.out _).mono ?_
            rintro e v4 ⟨rfl, hb⟩
            have hc : Below v3.heap.size v3 v4 := by first | exact hb | exact below_of_drew hb | exact below_of_drew (below_of_drew hb)
            have hS4 : NumsAt v4 0 (some ⟨b, o, none⟩) n F ∧ NumsAt v4 0 (some ⟨b', o', none⟩) n G := ⟨hS3.1.below hc, hS3.2.below hc⟩
            have b8_4 := b8_3.below hc
            have HB6_4 := hide (HB6_3.out.below hc)
            have HB_4 := hide (HB_3.out.trans (hc.mono HB_3.out.size))
            clear hb hc
            go_wp2_with fail
            refine hK.out _ _ hS4 (fun hHeld => ?_)
            clear hK K'
            try simp only [Act.put, List.setIfInBounds_toArray, List.set_cons_zero, List.set_cons_succ]
            refine wpAnyH_ready (rs := [16]) (by kernel_rfl) (by simp) ?_
            refine AllReadyH.cons (o := ⟨some 37, _, _, _, _, _⟩) rfl (fun K' hK => ?_) AllReadyH.nil
            go_simp
            go_at_call 54
            refine (HAD.out _).mono ?_
            rintro e v5 ⟨rfl, hb⟩
            have hc : Below v4.heap.size v4 v5 := by first | exact hb | exact below_of_drew hb | exact below_of_drew (below_of_drew hb)
            have hS5 : NumsAt v5 0 (some ⟨b, o, none⟩) n F ∧ NumsAt v5 0 (some ⟨b', o', none⟩) n G := ⟨hS4.1.below hc, hS4.2.below hc⟩
            have b8_5 := b8_4.below hc
            have HB6_5 := hide (HB6_4.out.below hc)
            have HB_5 := hide (HB_4.out.trans (hc.mono HB_4.out.size))
            clear hb hc
            go_wp2_with fail
            refine hK.out _ _ hS5 (fun hHeld => ?_)
            clear hK K'
            try simp only [Act.put, List.setIfInBounds_toArray, List.set_cons_zero, List.set_cons_succ]
            refine wpAnyH_ready (rs := [17]) (by kernel_rfl) (by simp) ?_
            refine AllReadyH.cons (o := ⟨none, _, _, _, _, _⟩) rfl (fun K' hK => ?_) AllReadyH.nil
            obtain ⟨u0, u1, u2, u3, f0, f1, f2, f3, hlu⟩ := b8_5.cells4
            have HBn := hide (Below.put4 HB_5.out (Nat.le_of_lt hg6) (.int .i64 y.a) (.int .i64 y.b) (.int .i64 y.c) (.int .i64 y.d))
            have HB6n := hide (HB6_5.out.other4 (Nat.ne_of_lt hg6) (.int .i64 y.a) (.int .i64 y.b) (.int .i64 y.c) (.int .i64 y.d))
            have HB8n := hide (b8_5.put4 (.int .i64 y.a) (.int .i64 y.b) (.int .i64 y.c) (.int .i64 y.d))
            go_simp
            refine hK.out _ _ ⟨HI.out.below HBn.out, HJ.out.below HBn.out⟩ (fun hHeld => ?_)
            clear hK K' u0 u1 u2 u3 f0 f1 f2 f3 hlu
            try simp only [Act.put, List.setIfInBounds_toArray, List.set_cons_zero, List.set_cons_succ]
            refine wpAnyH_done (by kernel_rfl) ?_ _
            go_wp2_with fail
            go_roundw
            case rel => exact ⟨j + 1, by omega, by go_num, hide (by rw [HYS.out]; exact HB8n.out), HB6n, HBn.out⟩
            case measure => simp [Go.RowKit.intOf]; omega
          · skip
            go_simp
            go_at_call 56
            refine (HCk.out _).mono ?_
            rintro e v6 ⟨rfl, hb⟩
            have hc : Below wB.heap.size wB v6 := by first | exact hb | exact below_of_drew hb | exact below_of_drew (below_of_drew hb)
            have hS6 : NumsAt v6 0 (some ⟨b, o, none⟩) n F ∧ NumsAt v6 0 (some ⟨b', o', none⟩) n G := ⟨hS1.1.below hc, hS1.2.below hc⟩
            have b8_6 := b8.below hc
            have HB6_6 := hide (HB6.out.below hc)
            have HB_6 := hide (HB.out.trans (hc.mono HB.out.size))
            clear hb hc
            go_wp2_with fail
            refine hK.out _ _ hS6 (fun hHeld => ?_)
            clear hK K'
            try simp only [Act.put, List.setIfInBounds_toArray, List.set_cons_zero, List.set_cons_succ]
            refine wpAnyH_ready (rs := [0, 10]) (by kernel_rfl) (by simp) ?_
            refine AllReadyH.cons (o := ⟨some 21, _, _, _, _, _⟩) rfl (fun K' hK => ?_) (AllReadyH.cons (o := ⟨some 31, _, _, _, _, _⟩) rfl (fun K' hK => ?_) AllReadyH.nil)
            · skip
              obtain ⟨u0, u1, u2, u3, -⟩ := b8_6.cells4
              go_simp
              refine hK.out _ _ hS6 (fun hHeld => ?_)
              clear hK K' u0 u1 u2 u3
              try simp only [Act.put, List.setIfInBounds_toArray, List.set_cons_zero, List.set_cons_succ]
              refine wpAnyH_ready (rs := [10]) (by kernel_rfl) (by simp) ?_
              refine AllReadyH.cons (o := ⟨some 31, _, _, _, _, _⟩) rfl (fun K' hK => ?_) AllReadyH.nil
              go_simp
              go_at_call 55
              refine (HPk.out _).mono ?_
              rintro e v7 ⟨rfl, hb⟩
              have hc : Below v6.heap.size v6 v7 := by first | exact hb | exact below_of_drew hb | exact below_of_drew (below_of_drew hb)
              have hS7 : NumsAt v7 0 (some ⟨b, o, none⟩) n F ∧ NumsAt v7 0 (some ⟨b', o', none⟩) n G := ⟨hS6.1.below hc, hS6.2.below hc⟩
              have b8_7 := b8_6.below hc
              have HB6_7 := hide (HB6_6.out.below hc)
              have HB_7 := hide (HB_6.out.trans (hc.mono HB_6.out.size))
              clear hb hc
              go_wp2_with fail
              refine hK.out _ _ hS7 (fun hHeld => ?_)
              clear hK K'
              try simp only [Act.put, List.setIfInBounds_toArray, List.set_cons_zero, List.set_cons_succ]
              refine wpAnyH_ready (rs := [15]) (by kernel_rfl) (by simp) ?_
              refine AllReadyH.cons (o := ⟨some 36, _, _, _, _, _⟩) rfl (fun K' hK => ?_) AllReadyH.nil
              go_simp
              go_at_call 52
              refine (HTk.out _).mono ?_
              rintro e v8 ⟨rfl, hb⟩
              have hc : Below v7.heap.size v7 v8 := by first | exact hb | exact below_of_drew hb | exact below_of_drew (below_of_drew hb)
              have hS8 : NumsAt v8 0 (some ⟨b, o, none⟩) n F ∧ NumsAt v8 0 (some ⟨b', o', none⟩) n G := ⟨hS7.1.below hc, hS7.2.below hc⟩
              have b8_8 := b8_7.below hc
              have HB6_8 := hide (HB6_7.out.below hc)
              have HB_8 := hide (HB_7.out.trans (hc.mono HB_7.out.size))
              clear hb hc
              go_wp2_with fail
              refine hK.out _ _ hS8 (fun hHeld => ?_)
              clear hK K'
              try simp only [Act.put, List.setIfInBounds_toArray, List.set_cons_zero, List.set_cons_succ]
              refine wpAnyH_ready (rs := [16]) (by kernel_rfl) (by simp) ?_
              refine AllReadyH.cons (o := ⟨some 37, _, _, _, _, _⟩) rfl (fun K' hK => ?_) AllReadyH.nil
              go_simp
              go_at_call 54
              refine (HAD.out _).mono ?_
              rintro e v9 ⟨rfl, hb⟩
              have hc : Below v8.heap.size v8 v9 := by first | exact hb | exact below_of_drew hb | exact below_of_drew (below_of_drew hb)
              have hS9 : NumsAt v9 0 (some ⟨b, o, none⟩) n F ∧ NumsAt v9 0 (some ⟨b', o', none⟩) n G := ⟨hS8.1.below hc, hS8.2.below hc⟩
              have b8_9 := b8_8.below hc
              have HB6_9 := hide (HB6_8.out.below hc)
              have HB_9 := hide (HB_8.out.trans (hc.mono HB_8.out.size))
              clear hb hc
              go_wp2_with fail
              refine hK.out _ _ hS9 (fun hHeld => ?_)
              clear hK K'
              try simp only [Act.put, List.setIfInBounds_toArray, List.set_cons_zero, List.set_cons_succ]
              refine wpAnyH_ready (rs := [17]) (by kernel_rfl) (by simp) ?_
              refine AllReadyH.cons (o := ⟨none, _, _, _, _, _⟩) rfl (fun K' hK => ?_) AllReadyH.nil
              obtain ⟨u0, u1, u2, u3, f0, f1, f2, f3, hlu⟩ := b8_9.cells4
              have HBn := hide (Below.put4 HB_9.out (Nat.le_of_lt hg6) (.int .i64 y.a) (.int .i64 y.b) (.int .i64 y.c) (.int .i64 y.d))
              have HB6n := hide (HB6_9.out.other4 (Nat.ne_of_lt hg6) (.int .i64 y.a) (.int .i64 y.b) (.int .i64 y.c) (.int .i64 y.d))
              have HB8n := hide (b8_9.put4 (.int .i64 y.a) (.int .i64 y.b) (.int .i64 y.c) (.int .i64 y.d))
              go_simp
              refine hK.out _ _ ⟨HI.out.below HBn.out, HJ.out.below HBn.out⟩ (fun hHeld => ?_)
              clear hK K' u0 u1 u2 u3 f0 f1 f2 f3 hlu
              try simp only [Act.put, List.setIfInBounds_toArray, List.set_cons_zero, List.set_cons_succ]
              refine wpAnyH_done (by kernel_rfl) ?_ _
              go_wp2_with fail
              go_roundw
              case rel => exact ⟨j + 1, by omega, by go_num, hide (by rw [HYS.out]; exact HB8n.out), HB6n, HBn.out⟩
              case measure => simp [Go.RowKit.intOf]; omega
            · skip
              go_simp
              go_at_call 55
              refine (HPk.out _).mono ?_
              rintro e v10 ⟨rfl, hb⟩
              have hc : Below v6.heap.size v6 v10 := by first | exact hb | exact below_of_drew hb | exact below_of_drew (below_of_drew hb)
              have hS10 : NumsAt v10 0 (some ⟨b, o, none⟩) n F ∧ NumsAt v10 0 (some ⟨b', o', none⟩) n G := ⟨hS6.1.below hc, hS6.2.below hc⟩
              have b8_10 := b8_6.below hc
              have HB6_10 := hide (HB6_6.out.below hc)
              have HB_10 := hide (HB_6.out.trans (hc.mono HB_6.out.size))
              clear hb hc
              go_wp2_with fail
              refine hK.out _ _ hS10 (fun hHeld => ?_)
              clear hK K'
              try simp only [Act.put, List.setIfInBounds_toArray, List.set_cons_zero, List.set_cons_succ]
              refine wpAnyH_ready (rs := [0, 15]) (by kernel_rfl) (by simp) ?_
              refine AllReadyH.cons (o := ⟨some 21, _, _, _, _, _⟩) rfl (fun K' hK => ?_) (AllReadyH.cons (o := ⟨some 36, _, _, _, _, _⟩) rfl (fun K' hK => ?_) AllReadyH.nil)
              · skip
                obtain ⟨u0, u1, u2, u3, -⟩ := b8_10.cells4
                go_simp
                refine hK.out _ _ hS10 (fun hHeld => ?_)
                clear hK K' u0 u1 u2 u3
                try simp only [Act.put, List.setIfInBounds_toArray, List.set_cons_zero, List.set_cons_succ]
                refine wpAnyH_ready (rs := [15]) (by kernel_rfl) (by simp) ?_
                refine AllReadyH.cons (o := ⟨some 36, _, _, _, _, _⟩) rfl (fun K' hK => ?_) AllReadyH.nil
                go_simp
                go_at_call 52
                refine (HTk.out _).mono ?_
                rintro e v11 ⟨rfl, hb⟩
                have hc : Below v10.heap.size v10 v11 := by first | exact hb | exact below_of_drew hb | exact below_of_drew (below_of_drew hb)
                have hS11 : NumsAt v11 0 (some ⟨b, o, none⟩) n F ∧ NumsAt v11 0 (some ⟨b', o', none⟩) n G := ⟨hS10.1.below hc, hS10.2.below hc⟩
                have b8_11 := b8_10.below hc
                have HB6_11 := hide (HB6_10.out.below hc)
                have HB_11 := hide (HB_10.out.trans (hc.mono HB_10.out.size))
                clear hb hc
                go_wp2_with fail
                refine hK.out _ _ hS11 (fun hHeld => ?_)
                clear hK K'
                try simp only [Act.put, List.setIfInBounds_toArray, List.set_cons_zero, List.set_cons_succ]
                refine wpAnyH_ready (rs := [16]) (by kernel_rfl) (by simp) ?_
                refine AllReadyH.cons (o := ⟨some 37, _, _, _, _, _⟩) rfl (fun K' hK => ?_) AllReadyH.nil
                go_simp
                go_at_call 54
                refine (HAD.out _).mono ?_
                rintro e v12 ⟨rfl, hb⟩
                have hc : Below v11.heap.size v11 v12 := by first | exact hb | exact below_of_drew hb | exact below_of_drew (below_of_drew hb)
                have hS12 : NumsAt v12 0 (some ⟨b, o, none⟩) n F ∧ NumsAt v12 0 (some ⟨b', o', none⟩) n G := ⟨hS11.1.below hc, hS11.2.below hc⟩
                have b8_12 := b8_11.below hc
                have HB6_12 := hide (HB6_11.out.below hc)
                have HB_12 := hide (HB_11.out.trans (hc.mono HB_11.out.size))
                clear hb hc
                go_wp2_with fail
                refine hK.out _ _ hS12 (fun hHeld => ?_)
                clear hK K'
                try simp only [Act.put, List.setIfInBounds_toArray, List.set_cons_zero, List.set_cons_succ]
                refine wpAnyH_ready (rs := [17]) (by kernel_rfl) (by simp) ?_
                refine AllReadyH.cons (o := ⟨none, _, _, _, _, _⟩) rfl (fun K' hK => ?_) AllReadyH.nil
                obtain ⟨u0, u1, u2, u3, f0, f1, f2, f3, hlu⟩ := b8_12.cells4
                have HBn := hide (Below.put4 HB_12.out (Nat.le_of_lt hg6) (.int .i64 y.a) (.int .i64 y.b) (.int .i64 y.c) (.int .i64 y.d))
                have HB6n := hide (HB6_12.out.other4 (Nat.ne_of_lt hg6) (.int .i64 y.a) (.int .i64 y.b) (.int .i64 y.c) (.int .i64 y.d))
                have HB8n := hide (b8_12.put4 (.int .i64 y.a) (.int .i64 y.b) (.int .i64 y.c) (.int .i64 y.d))
                go_simp
                refine hK.out _ _ ⟨HI.out.below HBn.out, HJ.out.below HBn.out⟩ (fun hHeld => ?_)
                clear hK K' u0 u1 u2 u3 f0 f1 f2 f3 hlu
                try simp only [Act.put, List.setIfInBounds_toArray, List.set_cons_zero, List.set_cons_succ]
                refine wpAnyH_done (by kernel_rfl) ?_ _
                go_wp2_with fail
                go_roundw
                case rel => exact ⟨j + 1, by omega, by go_num, hide (by rw [HYS.out]; exact HB8n.out), HB6n, HBn.out⟩
                case measure => simp [Go.RowKit.intOf]; omega
              · skip
                go_simp
                go_at_call 52
                refine (HTk.out _).mono ?_
                rintro e v13 ⟨rfl, hb⟩
                have hc : Below v10.heap.size v10 v13 := by first | exact hb | exact below_of_drew hb | exact below_of_drew (below_of_drew hb)
                have hS13 : NumsAt v13 0 (some ⟨b, o, none⟩) n F ∧ NumsAt v13 0 (some ⟨b', o', none⟩) n G := ⟨hS10.1.below hc, hS10.2.below hc⟩
                have b8_13 := b8_10.below hc
                have HB6_13 := hide (HB6_10.out.below hc)
                have HB_13 := hide (HB_10.out.trans (hc.mono HB_10.out.size))
                clear hb hc
                go_wp2_with fail
                refine hK.out _ _ hS13 (fun hHeld => ?_)
                clear hK K'
                try simp only [Act.put, List.setIfInBounds_toArray, List.set_cons_zero, List.set_cons_succ]
                refine wpAnyH_ready (rs := [0]) (by kernel_rfl) (by simp) ?_
                refine AllReadyH.cons (o := ⟨some 21, _, _, _, _, _⟩) rfl (fun K' hK => ?_) AllReadyH.nil
                obtain ⟨u0, u1, u2, u3, -⟩ := b8_13.cells4
                go_simp
                refine hK.out _ _ hS13 (fun hHeld => ?_)
                clear hK K' u0 u1 u2 u3
                try simp only [Act.put, List.setIfInBounds_toArray, List.set_cons_zero, List.set_cons_succ]
                refine wpAnyH_ready (rs := [16]) (by kernel_rfl) (by simp) ?_
                refine AllReadyH.cons (o := ⟨some 37, _, _, _, _, _⟩) rfl (fun K' hK => ?_) AllReadyH.nil
                go_simp
                go_at_call 54
                refine (HAD.out _).mono ?_
                rintro e v14 ⟨rfl, hb⟩
                have hc : Below v13.heap.size v13 v14 := by first | exact hb | exact below_of_drew hb | exact below_of_drew (below_of_drew hb)
                have hS14 : NumsAt v14 0 (some ⟨b, o, none⟩) n F ∧ NumsAt v14 0 (some ⟨b', o', none⟩) n G := ⟨hS13.1.below hc, hS13.2.below hc⟩
                have b8_14 := b8_13.below hc
                have HB6_14 := hide (HB6_13.out.below hc)
                have HB_14 := hide (HB_13.out.trans (hc.mono HB_13.out.size))
                clear hb hc
                go_wp2_with fail
                refine hK.out _ _ hS14 (fun hHeld => ?_)
                clear hK K'
                try simp only [Act.put, List.setIfInBounds_toArray, List.set_cons_zero, List.set_cons_succ]
                refine wpAnyH_ready (rs := [17]) (by kernel_rfl) (by simp) ?_
                refine AllReadyH.cons (o := ⟨none, _, _, _, _, _⟩) rfl (fun K' hK => ?_) AllReadyH.nil
                obtain ⟨u0, u1, u2, u3, f0, f1, f2, f3, hlu⟩ := b8_14.cells4
                have HBn := hide (Below.put4 HB_14.out (Nat.le_of_lt hg6) (.int .i64 y.a) (.int .i64 y.b) (.int .i64 y.c) (.int .i64 y.d))
                have HB6n := hide (HB6_14.out.other4 (Nat.ne_of_lt hg6) (.int .i64 y.a) (.int .i64 y.b) (.int .i64 y.c) (.int .i64 y.d))
                have HB8n := hide (b8_14.put4 (.int .i64 y.a) (.int .i64 y.b) (.int .i64 y.c) (.int .i64 y.d))
                go_simp
                refine hK.out _ _ ⟨HI.out.below HBn.out, HJ.out.below HBn.out⟩ (fun hHeld => ?_)
                clear hK K' u0 u1 u2 u3 f0 f1 f2 f3 hlu
                try simp only [Act.put, List.setIfInBounds_toArray, List.set_cons_zero, List.set_cons_succ]
                refine wpAnyH_done (by kernel_rfl) ?_ _
                go_wp2_with fail
                go_roundw
                case rel => exact ⟨j + 1, by omega, by go_num, hide (by rw [HYS.out]; exact HB8n.out), HB6n, HBn.out⟩
                case measure => simp [Go.RowKit.intOf]; omega
        · obtain rfl : n = j := by omega
          have hljz : ¬ ((n : Int) < (n : Int)) := by omega
          have hyw := offS_within hn HPW.out f
          obtain ⟨hm1, hm2⟩ := refB_within hn HPW.out f
          obtain ⟨hs1, hs2⟩ := hyw.squares
          have b8 : Box wB g8 36 #[.int .i64 (offS P n f).a, .int .i64 (offS P n f).b, .int .i64 (offS P n f).c, .int .i64 (offS P n f).d] := HB8.out
          have HSQ := hide (fun W => squareOfR_any (offS P n f) W (hyw.more (by decide)))
          have HCM := hide (fun W => comparedR_any (offS P n f).sqP (offS P n f).sqQ (refB P n f).2.1 (refB P n f).2.2 W (by omega) (by omega) (by omega) (by omega))
          have HRS := hide (show refB P n (f + 1) = if f = 0 ∨ 0 < refC ((offS P n f).sqP - (refB P n f).2.1) ((offS P n f).sqQ - (refB P n f).2.2) then ((f : Int), (offS P n f).sqP, (offS P n f).sqQ) else refB P n f from rfl)
          have HEE := hide (show refB P n f = refB P n f from rfl)
          obtain ⟨m, hm⟩ : ∃ m, m = refB P n f := ⟨_, rfl⟩
          rw [← hm] at HCM HRS HB6
          have HM := hide hm
          clear hm HEE hm1 hm2 hs1 hs2 hyw HB8
          generalize (offS P n f).sqP = p at *
          generalize (offS P n f).sqQ = q at *
          generalize offS P n f = y at *
          obtain ⟨r, hr⟩ : ∃ r, r = refC (p - m.2.1) (q - m.2.2) := ⟨_, rfl⟩
          rw [← hr] at HCM HRS
          clear hr
          have HB := hide hB
          obtain ⟨u0, u1, u2, u3, -⟩ := b8.cells4
          clear hB b8 hlj
          go_wp2_with fail
          refine (HSQ.out _).mono ?_
          rintro e v1 ⟨rfl, hb⟩
          have HB61 := hide (HB6.out.below hb)
          have HB1 := hide (HB.out.trans (hb.mono HB.out.size))
          clear hb HB6 HB u0 u1 u2 u3 HSQ
          go_upto_region 12 with fail
          obtain ⟨W2, hW2⟩ : ∃ y : World, y = v1.alloc (.cells #[.int .i64 p, .int .i64 q] 86) := ⟨_, rfl⟩
          rw [← hW2]
          obtain ⟨g10, hg⟩ : ∃ g, g = v1.heap.size := ⟨_, rfl⟩
          have b10 : Box W2 g10 86 #[.int .i64 p, .int .i64 q] := by rw [hW2]; exact Box.made hg
          have hg10 : g10 ≠ w.heap.size := by have := HB61.out.lt; omega
          have b6 : Box W2 w.heap.size 86 #[.int .i64 m.2.1, .int .i64 m.2.2] := by rw [hW2]; exact HB61.out.alloc _
          have HB2 := hide (show Below w.heap.size w W2 by rw [hW2]; exact HB1.out.alloc HB1.out.size _)
          rw [← hg]
          clear hW2 hg HB61 HB1
          by_cases hf0 : f = 0
          · have HN := hide (HRS.out.trans (if_pos (.inl hf0)))
            have t0 : ((f : Int) == 0) = true := by simp; omega
            clear HRS HCM
            go_wp2_with fail
            refine wp_region_held_drew (S := fun w' => Box w' g10 86 #[.int .i64 p, .int .i64 q]) (by kernel_rfl) b10 (fun hHeld => ?_)
            refine wpAnyH_take (i := 0) (oi := ⟨some 48, _, _, _, _, _⟩) (v := ?_) rfl (by kernel_rfl) (by kernel_rfl) (by kernel_rfl) (fun _ _ _ h => h) (Or.inl ⟨by rfl, ?_⟩) (by assumption) ?_
            rotate_left
            · (intro w' hSw; (try dsimp only at hSw); go_simp <;> (with_reducible rfl))
            try simp only [Act.put, List.setIfInBounds_toArray, List.set_cons_zero, List.set_cons_succ]
            refine wpAnyH_take (i := 1) (oi := ⟨some 49, _, _, _, _, _⟩) (v := .agg #[.int .i64 p, .int .i64 q]) rfl (by kernel_rfl) (by kernel_rfl) (by kernel_rfl) (fun _ _ _ h => h) (Or.inl ⟨by rfl, fun w' hSw => exec_load2r rfl hSw⟩) (by assumption) ?_
            try simp only [Act.put, List.setIfInBounds_toArray, List.set_cons_zero, List.set_cons_succ]
            refine wpAnyH_take (i := 2) (oi := ⟨some 5, _, _, _, _, _⟩) (v := ?_) rfl (by kernel_rfl) (by kernel_rfl) (by kernel_rfl) (fun _ _ _ h => h) (Or.inl ⟨by rfl, ?_⟩) (by assumption) ?_
            rotate_left
            · (intro w' hSw; (try dsimp only at hSw); go_simp <;> (with_reducible rfl))
            try simp only [Act.put, List.setIfInBounds_toArray, List.set_cons_zero, List.set_cons_succ]
            have f0 := b6.free 0
            have f1 := b6.free 1
            have z0 := b6.at_ 0
            have z1 := b6.at_ 1
            simp only [List.getElem?_toArray] at z0 z1
            have hlt6 := b6.lt
            have h6 := (b6.set_ 0 (.int .i64 p)).set_ 1 (.int .i64 q)
            simp only [List.setIfInBounds_toArray, List.set_cons_zero, List.set_cons_succ] at h6
            have H6 := hide h6
            have HBn := hide ((HB2.out.setCell (p := ⟨w.heap.size, 0, none⟩) (Nat.le_refl _) (.int .i64 p)).setCell (p := ⟨w.heap.size, 1, none⟩) (Nat.le_refl _) (.int .i64 q))
            have HSn := hide ((b10.other (p := ⟨w.heap.size, 0, none⟩) hg10 (.int .i64 p)).other (p := ⟨w.heap.size, 1, none⟩) hg10 (.int .i64 q))
            clear h6
            refine wpAnyH_ready (rs := [3]) (by kernel_rfl) (by simp) ?_
            refine AllReadyH.cons (o := ⟨none, _, _, _, _, _⟩) rfl (fun K' hK => ?_) AllReadyH.nil
            go_simp
            refine hK.out _ _ HSn.out (fun hHeld => ?_)
            clear hK K' f0 f1 z0 z1 hlt6 b6 b10
            try simp only [Act.put, List.setIfInBounds_toArray, List.set_cons_zero, List.set_cons_succ]
            refine wpAnyH_done (by kernel_rfl) ?_ _
            go_wp2_with fail
            go_roundw
            case rel => exact ⟨f + 1, by omega, by go_num, (by first | (rw [HN.out]; done) | (rw [HN.out]; rfl) | (rw [HN.out]; simp [hf0])), (by rw [HN.out]; exact H6.out), HBn.out.drew⟩
            case measure => simp [Go.RowKit.intOf]; omega
          · have t0 : ((f : Int) == 0) = false := by simp; omega
            have z0 := b6.at_ 0
            have z1 := b6.at_ 1
            have y0 := b10.at_ 0
            have y1 := b10.at_ 1
            simp only [List.getElem?_toArray] at z0 z1 y0 y1
            go_wp2_with fail
            refine (HCM.out _).mono ?_
            rintro e W3 ⟨rfl, hb⟩
            replace b6 := b6.below hb
            replace b10 := b10.below hb
            replace HB2 := hide (HB2.out.trans (hb.mono HB2.out.size))
            clear hb z0 z1 y0 y1 HCM
            by_cases hr0 : r > 0
            · have HN := hide (HRS.out.trans (if_pos (.inr hr0)))
              clear HRS
              go_wp2_with fail
              refine wp_region_held_drew (S := fun w' => Box w' g10 86 #[.int .i64 p, .int .i64 q]) (by kernel_rfl) b10 (fun hHeld => ?_)
              refine wpAnyH_take (i := 0) (oi := ⟨some 48, _, _, _, _, _⟩) (v := ?_) rfl (by kernel_rfl) (by kernel_rfl) (by kernel_rfl) (fun _ _ _ h => h) (Or.inl ⟨by rfl, ?_⟩) (by assumption) ?_
              rotate_left
              · (intro w' hSw; (try dsimp only at hSw); go_simp <;> (with_reducible rfl))
              try simp only [Act.put, List.setIfInBounds_toArray, List.set_cons_zero, List.set_cons_succ]
              refine wpAnyH_take (i := 1) (oi := ⟨some 49, _, _, _, _, _⟩) (v := .agg #[.int .i64 p, .int .i64 q]) rfl (by kernel_rfl) (by kernel_rfl) (by kernel_rfl) (fun _ _ _ h => h) (Or.inl ⟨by rfl, fun w' hSw => exec_load2r rfl hSw⟩) (by assumption) ?_
              try simp only [Act.put, List.setIfInBounds_toArray, List.set_cons_zero, List.set_cons_succ]
              refine wpAnyH_take (i := 2) (oi := ⟨some 5, _, _, _, _, _⟩) (v := ?_) rfl (by kernel_rfl) (by kernel_rfl) (by kernel_rfl) (fun _ _ _ h => h) (Or.inl ⟨by rfl, ?_⟩) (by assumption) ?_
              rotate_left
              · (intro w' hSw; (try dsimp only at hSw); go_simp <;> (with_reducible rfl))
              try simp only [Act.put, List.setIfInBounds_toArray, List.set_cons_zero, List.set_cons_succ]
              have f0 := b6.free 0
              have f1 := b6.free 1
              have z0 := b6.at_ 0
              have z1 := b6.at_ 1
              simp only [List.getElem?_toArray] at z0 z1
              have hlt6 := b6.lt
              have h6 := (b6.set_ 0 (.int .i64 p)).set_ 1 (.int .i64 q)
              simp only [List.setIfInBounds_toArray, List.set_cons_zero, List.set_cons_succ] at h6
              have H6 := hide h6
              have HBn := hide ((HB2.out.setCell (p := ⟨w.heap.size, 0, none⟩) (Nat.le_refl _) (.int .i64 p)).setCell (p := ⟨w.heap.size, 1, none⟩) (Nat.le_refl _) (.int .i64 q))
              have HSn := hide ((b10.other (p := ⟨w.heap.size, 0, none⟩) hg10 (.int .i64 p)).other (p := ⟨w.heap.size, 1, none⟩) hg10 (.int .i64 q))
              clear h6
              refine wpAnyH_ready (rs := [3]) (by kernel_rfl) (by simp) ?_
              refine AllReadyH.cons (o := ⟨none, _, _, _, _, _⟩) rfl (fun K' hK => ?_) AllReadyH.nil
              go_simp
              refine hK.out _ _ HSn.out (fun hHeld => ?_)
              clear hK K' f0 f1 z0 z1 hlt6 b6 b10
              try simp only [Act.put, List.setIfInBounds_toArray, List.set_cons_zero, List.set_cons_succ]
              refine wpAnyH_done (by kernel_rfl) ?_ _
              go_wp2_with fail
              go_roundw
              case rel => exact ⟨f + 1, by omega, by go_num, (by first | (rw [HN.out]; done) | (rw [HN.out]; rfl) | (rw [HN.out]; simp [hf0])), (by rw [HN.out]; exact H6.out), HBn.out.drew⟩
              case measure => simp [Go.RowKit.intOf]; omega
            · have HN := hide (HRS.out.trans (if_neg (show ¬ (f = 0 ∨ 0 < r) by omega)))
              have H6 := hide b6
              clear HRS b6 b10
              go_wp2_with fail
              go_roundw
              case rel => exact ⟨f + 1, by omega, by go_num, by rw [HN.out, HM.out], (by rw [HN.out]; exact H6.out), HB2.out⟩
              case measure => simp [Go.RowKit.intOf]; omega
    · obtain rfl : f = 8 := by omega
      have hltz : ¬ (((8 : Nat) : Int) < 8) := by omega
      have HB := hide hB
      clear hB b6
      go_wp2_with fail
      go_ret
      exact ⟨rfl, HB.out⟩
end Go.Proofs.Ytmcgmlhpbpjmgaa
