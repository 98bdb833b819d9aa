/- Lemmas: Qj, Qk, Ql, Qe, Qf. -/
import Derived.Test.YtdkoohfcpikgiaaBk07
import Derived.Test.YtdkoohfcpikgiaaBk08
set_option linter.unusedVariables false
set_option linter.unusedSimpArgs false
/- slices.Min; failedBehind of the code. -/
namespace Go.Proofs.Ytdkoohfcpikgiaa
open Go.RowKit Go.Shelf
theorem min_lo {a b : Int} (h : a ≤ b) : min a b = a := Int.min_eq_left h
set_option maxHeartbeats 1000000 in
theorem min_any (A : Option Addr) (n c : Nat) (F : Nat → Int) (w : World) (h0 : 0 < n) (hn : n ≤ 100000) (hI : IntsAt w 0 A n F) :
    Calls Try.prog 56 #[.slice A n c] w fun e w' => ∃ M : Int, e = .returned (.int .i64 M) ∧ (∃ r, r < n ∧ F r = M) ∧ (∀ j, j < n → M ≤ F j) ∧ ∃ q, w' = w.drewN q := by
  have HI := hide hI
  have t1 : decide ((n : Int) < (1 : Int)) = false := decide_eq_false (by omega)
  have t1' : decide (n < 1) = false := decide_eq_false (by omega)
  have h0z : (0 : Int) < (n : Int) := by omega
  obtain ⟨b, o, rfl, -, hb, hcell⟩ := hI 0 h0
  rw [Nat.add_zero] at hcell
  clear hI
  go_enter Try.func56, Try.ntmps56
  go_wp2_with fail
  clear hcell
  go_loopw [3, 4] (fun m i wr => ∃ (k q : Nat) (M : Int), 1 ≤ k ∧ k ≤ n ∧ i = .int .i64 k ∧ m = .int .i64 M ∧ Hid (∃ r, r < k ∧ F r = M) ∧ Hid (∀ j, j < k → M ≤ F j) ∧ wr = w.drewN q) (fun _ i _ => n - (intOf i).toNat)
  case atStart => exact ⟨1, 0, F 0, Nat.le_refl _, by omega, rfl, rfl, hide ⟨0, Nat.lt_succ_self _, rfl⟩, hide fun j h => by
    obtain rfl : j = 0 := by omega
    exact Int.le_refl _, rfl⟩
  case round =>
    obtain ⟨k, q, M, hk1, hk, rfl, rfl, HR, HM, rfl⟩ := hrel
    by_cases hlt : k < n
    · have hltz : (k : Int) < (n : Int) := by omega
      obtain ⟨b', o', e', -, -, hcell⟩ := HI.out k hlt
      injection e' with e'; injection e' with e1 e2; subst e1; subst e2
      obtain ⟨x, hx⟩ : ∃ x, x = F k := ⟨_, rfl⟩
      rw [← hx] at hcell
      have HXx := hide hx
      have HLO := hide (fun (h : M ≤ x) => (⟨HR.out.elim fun r hr => ⟨r, by omega, hr.2⟩, fun j hj => by
        rcases Nat.lt_or_ge j k with e | e
        · exact HM.out j e
        · obtain rfl : j = k := by omega
          rw [← hx]; exact h⟩ : (∃ r, r < k + 1 ∧ F r = M) ∧ ∀ j, j < k + 1 → M ≤ F j))
      have HHI := hide (fun (h : x ≤ M) => (⟨⟨k, Nat.lt_succ_self _, hx.symm⟩, fun j hj => by
        rcases Nat.lt_or_ge j k with e | e
        · have := HM.out j e; omega
        · obtain rfl : j = k := by omega
          rw [← hx]; exact Int.le_refl _⟩ : (∃ r, r < k + 1 ∧ F r = x) ∧ ∀ j, j < k + 1 → x ≤ F j))
      clear hx HR HM
      go_wp2_with fail
      all_goals try go_quiet (fail)
      all_goals try go_wp2_with fail
      all_goals
        go_roundw
        case rel =>
          first
            | exact ⟨k + 1, _, M, by omega, by omega, by go_num, rfl, hide (HLO.out (by omega)).1, hide (HLO.out (by omega)).2, by first | rfl | exact World.drewN_drewN _ _ _⟩
            | exact ⟨k + 1, _, x, by omega, by omega, by go_num, rfl, hide (HHI.out (by omega)).1, hide (HHI.out (by omega)).2, by first | rfl | exact World.drewN_drewN _ _ _⟩
            | (by_cases hxm : x < M
               · exact ⟨k + 1, _, x, by omega, by omega, by go_num, by rw [if_pos hxm], hide (HHI.out (by omega)).1, hide (HHI.out (by omega)).2, by first | rfl | exact World.drewN_drewN _ _ _⟩
               · exact ⟨k + 1, _, M, by omega, by omega, by go_num, by rw [if_neg hxm], hide (HLO.out (by omega)).1, hide (HLO.out (by omega)).2, by first | rfl | exact World.drewN_drewN _ _ _⟩)
        case measure => simp [intOf]; omega
    · obtain rfl : k = n := by omega
      go_wp2_with fail
      go_ret
      exact ⟨M, rfl, HR.out, HM.out, q, rfl⟩
theorem OwnInts.other {w : World} {base n : Nat} {v : Value} {F : Nat → Int} (h : OwnInts w base v n F) {p : Addr} (hp : v.ownBlock ≠ some p.block) (u : Value) : OwnInts (w.setCell p u) base v n F := ownsRow_setCell_other h hp u
/-- The rows' positions are places of a word of N bits. -/
def PlaceOk (N n : Nat) (L : Nat → Nat) (R : Nat → Nat → Int) : Prop := ∀ i k, i < n → k < L i → 0 ≤ R i k ∧ (R i k).toNat < N
theorem PlaceOk.of {m n : Nat} {L : Nat → Nat} {R : Nat → Nat → Int} (h : ParOk m n L R) : PlaceOk (m + n) n L R := fun _ _ hi hk => h.place hi hk
theorem PlaceOk.word {N n : Nat} {L : Nat → Nat} {R : Nat → Nat → Int} {X : Nat → Int} (h : PlaceOk N n L R) (hX : ∀ j, j < N → IsBit (X j)) : WordOk N n L R X := fun i k hi hk => ⟨(h i k hi hk).1, (h i k hi hk).2, hX _ (h i k hi hk).2⟩
set_option maxHeartbeats 8000000 in
set_option maxRecDepth 100000 in
theorem failedBehind_any (m : Int) (A : Option Addr) (b o n c N d : Nat) (L : Nat → Nat) (R : Nat → Nat → Int) (X : Nat → Int) (w : World) (hn : n ≤ 1000) (hL : ∀ i, i < n → L i ≤ 1000) (hN : N ≤ 1000) (hI : ListsAt w 0 A n L R) (hX : IntsAt w 0 (some ⟨b, o, none⟩) N X) (hp : PlaceOk N n L R) (hbit : ∀ j, j < N → IsBit (X j)) (hN0 : 0 < N) :
    Calls Try.prog 55 #[.agg #[.int .i64 m, .slice A n c], .slice (some ⟨b, o, none⟩) N d] w fun e w' => ∃ g, e = .returned (.slice (some ⟨g, 0, none⟩) N N) ∧ OwnInts w' w.heap.size (.slice (some ⟨g, 0, none⟩) N N) N (fun i => (behindN n L R X i : Int)) ∧ Below w.heap.size w w' := by
  obtain ⟨i0, hi, hz0, hz1, hz2⟩ := info_parts intInfo
  have hmk := fun W => run_make_row (P := Try.prog) 25 3 i0 (.int .i64 0) Try.underlying25 hi hz0 hz1 rfl .i64 .i64 N (by rw [hz2]; omega) (by omega) W
  have HI := hide hI
  have HX := hide hX
  have HB := hide hbit
  have HFL := hide (fun k (hk : k < N) W C D (h1 : ListsAt W 0 A n L R) (h2 : IntsAt W 0 C N (setF X k (1 - X k))) => failed_any m A C n c N D L R (flipF X k) W hn hL h1 h2 (hp.word (flipF_bit hbit k)))
  clear hI hX hbit hp hi hz0 hz1 hz2
  go_enter Try.func55, Try.ntmps55
  go_wp2_with fail
  refine (cloneInts_any b o N d X _ (by omega) (HX.out.alloc _)).mono ?_
  rintro e w1 ⟨v1, rfl, hown1, hb1⟩
  obtain ⟨g, cap, rfl, hg1, hg2⟩ := hown1.row hN0
  have bx1 : Box w1 w.heap.size 24 #[.int .i64 m, .slice A n c] := (Box.made rfl).below hb1
  have hB1 := below_of_alloc hb1
  have hlt1 := bx1.lt
  clear hb1
  go_wp2_with fail
  clear hmk
  have hgw : w.heap.size < g := by simp at hg1; omega
  have hmade : OwnInts (w1.alloc (.cells (madeCells #[.int .i64 0] N) 3)) (w.heap.size + 1) (.slice (some ⟨w1.heap.size, 0, none⟩) N N) N (fun _ => 0) := OwnInts.made w1 _ _ N (by omega) rfl (by unfold maxLen; omega)
  go_loopw [15] (fun i wr => ∃ k : Nat, k ≤ N ∧ i = .int .i64 k ∧ OwnInts wr (w.heap.size + 1) (.slice (some ⟨g, 0, none⟩) N cap) N X ∧ OwnInts wr (w.heap.size + 1) (.slice (some ⟨w1.heap.size, 0, none⟩) N N) N (fun i => if i < k then (behindN n L R X i : Int) else 0) ∧ Box wr w.heap.size 24 #[.int .i64 m, .slice A n c] ∧ Below w.heap.size w wr) (fun i _ => N - (intOf i).toNat)
  case atStart => exact ⟨0, Nat.zero_le _, rfl, by simpa using hown1.alloc _, hmade.congr (fun _ _ => by simp), bx1.alloc _, hB1.alloc hB1.size _⟩
  case round =>
    clear hown1 hmade bx1 hB1
    obtain ⟨k, hk, rfl, hown, hrow, bx, hB⟩ := hrel
    obtain ⟨wA, rfl⟩ : ∃ x : World, x = wr := ⟨_, rfl⟩
    have hBs := hB.size
    by_cases hlt : k < N
    · have hltz : (k : Int) < (N : Int) := by omega
      have hc := hown.cellAt hlt
      have hf := hown.frozen k
      have hx := bit_xor (HB.out k hlt)
      obtain ⟨x, hxx⟩ : ∃ x, x = X k := ⟨_, rfl⟩
      obtain ⟨f, hff⟩ : ∃ f, f = failN n L R (flipF X k) := ⟨_, rfl⟩
      have HXX := hide hxx
      have HBF := hide (show behindN n L R X k = f from hff.symm)
      have HF := hide (HFL.out k hlt)
      have hbx := HB.out k hlt
      have q2 : bits .xor .i64 (1 - x) 1 = x := by
        rw [← hxx] at hbx
        rw [bit_xor (by unfold IsBit at hbx ⊢; omega)]; omega
      rw [← hxx] at hc hx HF
      rw [← hff] at HF
      clear hxx hff hbx
      have hown2 := hown.set_ k (1 - x)
      have hrow2 := hrow.other (p := ⟨g, k, none⟩) (by simp [Value.ownBlock]; omega) (.int .i64 (1 - x))
      have bx2 := bx.other (p := ⟨g, k, none⟩) (by simp; omega) (.int .i64 (1 - x))
      have hB2 : Below w.heap.size w (wA.setCell ⟨g, k, none⟩ (.int .i64 (1 - x))) := hB.setCell (by simp; omega) _
      obtain ⟨z0, z1, hlz⟩ := par_cells bx2
      obtain ⟨As, cs, e1, -, hIs⟩ := hown2.form
      injection e1 with e1 _ e2
      subst e1
      subst e2
      have HC := hide (HF.out _ _ cap (HI.out.below hB2) (hIs.weak (Nat.zero_le _)))
      clear hIs HF
      go_wp2_with fail
      refine HC.out.mono ?_
      rintro e w2 ⟨v2, rfl, hown3, hb2⟩
      obtain ⟨A3, c3, rfl, hc3, -⟩ := hown3.form
      have hown4 := hown2.below hb2
      have hrow3 := hrow2.below hb2
      have bx3 := bx2.below hb2
      have hB3 := hB2.trans (hb2.mono (by simpa using hBs))
      clear hc hf hown hrow bx hB hown2 hrow2 bx2 hB2 z0 z1 hlz hown3 hb2
      have hc4 := hrow3.cellAt hlt
      have hf4 := hrow3.frozen k
      have hown5 := hown4.other (p := ⟨w1.heap.size, k, none⟩) (by simp [Value.ownBlock]; omega) (.int .i64 (f : Int))
      have hc5 := hown5.cellAt hlt
      rw [show setF X k (1 - x) k = 1 - x from if_pos rfl] at hc5
      have hf5 := hown5.frozen k
      have hrow4 := (hrow3.set_ k (f : Int)).other (p := ⟨g, k, none⟩) (by simp [Value.ownBlock]; omega) (.int .i64 x)
      have hown6 := hown5.set_ k x
      have bx6 := (bx3.other (p := ⟨w1.heap.size, k, none⟩) (by simp; omega) (.int .i64 (f : Int))).other (p := ⟨g, k, none⟩) (by simp; omega) (.int .i64 x)
      have hB6 := hide (show Below w.heap.size w ((w2.setCell ⟨w1.heap.size, k, none⟩ (.int .i64 (f : Int))).setCell ⟨g, k, none⟩ (.int .i64 x)) from (hB3.setCell (by simp; omega) _).setCell (by simp; omega) _)
      have HR := hide (And.intro hrow4 (And.intro hown6 bx6))
      clear hrow4 hown6 bx6 hown5 hown4 hrow3 bx3 hB3
      go_wp2_with fail
      go_roundw
      case rel =>
        obtain ⟨r1, r2, r3⟩ := HR.out
        refine ⟨k + 1, by omega, by go_num, r2.congr fun j hj => ?_, r1.congr fun j hj => ?_, r3, hB6.out⟩
        · unfold setF
          by_cases e : j = k
          · rw [if_pos e, HXX.out, e]
          · rw [if_neg e, if_neg e]
        · unfold setF
          by_cases e : j = k
          · rw [if_pos e, e, if_pos (Nat.lt_succ_self _), HBF.out]
          · rw [if_neg e]
            show (if j < k then ((behindN n L R X j : Nat) : Int) else 0) = _
            by_cases e2 : j < k
            · rw [if_pos e2, if_pos (by omega)]
            · rw [if_neg e2, if_neg (by omega)]
      case measure => simp [intOf]; omega
    · obtain rfl : k = N := by omega
      go_wp2_with fail
      go_ret
      exact ⟨_, rfl, (hrow.congr fun j hj => by rw [if_pos hj]).weak (by omega), hB⟩
end Go.Proofs.Ytdkoohfcpikgiaa
/- flip, Flip of the code. -/
namespace Go.Proofs.Ytdkoohfcpikgiaa
open Go.RowKit Go.Shelf
set_option maxHeartbeats 8000000 in
set_option maxRecDepth 100000 in
theorem flip_any (m : Int) (A : Option Addr) (g n c N cap base : Nat) (L : Nat → Nat) (R : Nat → Nat → Int) (X : Nat → Int) (w0 w : World) (hn : n ≤ 1000) (hL : ∀ i, i < n → L i ≤ 1000) (hN : N ≤ 1000) (hN0 : 0 < N) (hI : ListsAt w0 0 A n L R) (hB0 : Below w0.heap.size w0 w) (hg : w0.heap.size ≤ base) (hX : OwnInts w base (.slice (some ⟨g, 0, none⟩) N cap) N X) (hp : PlaceOk N n L R) (hbit : ∀ j, j < N → IsBit (X j)) :
    Calls Try.prog 40 #[.agg #[.int .i64 m, .slice A n c], .slice (some ⟨g, 0, none⟩) N cap] w fun e w' => ∃ (k : Nat) (Z : Nat → Int), e = .returned (.int .i64 k) ∧ Iter n L R N X k Z ∧ nextI n L R N Z = -1 ∧ OwnInts w' base (.slice (some ⟨g, 0, none⟩) N cap) N Z ∧ Below w0.heap.size w0 w' := by
  have HI := hide hI
  have HB := hide hbit
  have HB0 := hide hB0
  have HXo := hide hX
  have hgb := (hX.block (m := none))
  have HF0 := hide (fun W (h : ListsAt W 0 A n L R) (h2 : IntsAt W 0 (some ⟨g, 0, none⟩) N X) => failed_any m A (some ⟨g, 0, none⟩) n c N cap L R X W hn hL h h2 (hp.word hbit))
  have HFB := hide (fun Z (hZ : ∀ j, j < N → IsBit (Z j)) W (h : ListsAt W 0 A n L R) (h2 : IntsAt W 0 (some ⟨g, 0, none⟩) N Z) => failedBehind_any m A g 0 n c N cap L R Z W hn hL hN h h2 hp hZ hN0)
  obtain ⟨hgb1, hgb2⟩ := hgb
  clear hI hbit hB0 hX hp
  go_enter Try.func40, Try.ntmps40
  go_wp2_with fail
  go_step3
  go_wp2_with fail
  have hXa := HXo.out.alloc (.cells #[.int .i64 m, .slice A n c] 24)
  have hBa := HB0.out.alloc HB0.out.size (.cells #[.int .i64 m, .slice A n c] 24)
  obtain ⟨As, cs, e1, -, hIs⟩ := hXa.form
  injection e1 with e1 _ e2
  subst e1
  subst e2
  refine (HF0.out _ (HI.out.below hBa) (hIs.weak (Nat.zero_le _))).mono ?_
  rintro e w1 ⟨v1, rfl, hown1, hb1⟩
  obtain ⟨A1, c1, rfl, hc1, -⟩ := hown1.form
  have bx1 : Box w1 w.heap.size 24 #[.int .i64 m, .slice A n c] := (Box.made rfl).below hb1
  have hX1 := hXa.below hb1
  have hB1 := hBa.trans (hb1.mono hBa.size)
  clear hXa hBa hIs hown1 hb1
  go_wp2_with fail
  go_step3
  go_wp2_with fail
  go_loopg [5, 6] (failN n L R X + 1) (fun gg s5 s6 wr => ∃ (k : Nat) (Z : Nat → Int), s5 = .int .i64 (failN n L R Z : Int) ∧ s6 = .int .i64 (k : Int) ∧ failN n L R Z < gg ∧ Hid (Iter n L R N X k Z) ∧ OwnInts wr base (.slice (some ⟨g, 0, none⟩) N cap) N Z ∧ Box wr w.heap.size 24 #[.int .i64 m, .slice A n c] ∧ Below w0.heap.size w0 wr)
  case atStart => exact ⟨0, X, rfl, rfl, Nat.lt_succ_self _, hide (Iter.zero N X), hX1, bx1, hB1⟩
  case round =>
    clear hX1 bx1 hB1
    obtain ⟨k, Z, rfl, rfl, hgg, HIT, hown, bx, hB⟩ := hrel
    obtain ⟨wA, rfl⟩ : ∃ x : World, x = wr := ⟨_, rfl⟩
    cases gk with
    | zero => exact absurd hgg (Nat.not_lt_zero _)
    | succ gO =>
      have HZB := hide (HIT.out.bits (M := N) HB.out)
      have hkz : k ≤ 1000 := by
        have h1 := HIT.out.fewer
        have h2 := failN_le n L R X
        omega
      have hz9 : failN n L R Z ≤ 1000 := Nat.le_trans (failN_le n L R Z) hn
      obtain ⟨z0, z1, hlz⟩ := par_cells bx
      obtain ⟨As, cs, e1, -, hIs⟩ := hown.form
      injection e1 with e1 _ e2
      subst e1
      subst e2
      have HC := hide (HFB.out Z HZB.out _ (HI.out.below hB) (hIs.weak (Nat.zero_le _)))
      clear hIs
      obtain ⟨fz, hfz⟩ : ∃ fz, fz = failN n L R Z := ⟨_, rfl⟩
      rw [← hfz] at hgg hz9 ⊢
      have HFZ := hide hfz
      clear hfz
      go_wp2_with fail
      refine HC.out.mono ?_
      rintro e w2 ⟨g2, rfl, hown2, hb2⟩
      have hownW := hown.below hb2
      have bx2 := bx.below hb2
      have hB2 := hB.trans (hb2.mono hB.size)
      clear z0 z1 hlz hown bx hB hb2
      obtain ⟨A2, c2, e1, -, hI2⟩ := hown2.form
      injection e1 with e1 _ e2
      subst e1
      subst e2
      go_wp2_with fail
      refine (min_any (some ⟨g2, 0, none⟩) N N (fun i => (behindN n L R Z i : Int)) _ hN0 (by omega) (hI2.weak (Nat.zero_le _))).mono ?_
      rintro e w3 ⟨M, rfl, hMr, hMl, q3, rfl⟩
      have HMR := hide hMr
      have HML := hide hMl
      have hownB := hownW.drewN q3
      have bxB := bx2.drewN q3
      have hBB := below_drewN hB2 q3
      have hown2B := hown2.drewN q3
      clear hownW bx2 hB2 hown2 hI2 hMr hMl HC
      generalize w2.drewN q3 = wB at *
      go_wp2_with fail
      go_loopg [5, 6, 22] N (fun gi s5 s6 s22 wx => s5 = .int .i64 (fz : Int) ∧ s6 = .int .i64 (k : Int) ∧ ∃ j : Nat, j ≤ N ∧ N - j ≤ gi ∧ s22 = .int .i64 (j : Int) ∧ wx = wB ∧ Hid (∀ i, i < j → ¬ ((behindN n L R Z i : Int) = M ∧ M < (fz : Int))))
      case atStart => exact ⟨rfl, rfl, 0, Nat.zero_le _, by omega, rfl, rfl, hide fun i h => absurd h (Nat.not_lt_zero _)⟩
      case round =>
        obtain ⟨rfl, rfl, j, hj, hgi, rfl, rfl, HJ⟩ := hrel
        by_cases hlt : j < N
        · have hltz : (j : Int) < (N : Int) := by omega
          have hcell := hown2B.cellAt hlt
          have hc := hownB.cellAt hlt
          have hf := hownB.frozen j
          have hx := bit_xor (HZB.out j hlt)
          obtain ⟨f, hff⟩ : ∃ f, f = behindN n L R Z j := ⟨_, rfl⟩
          have HFF := hide hff
          rw [← hff] at hcell
          by_cases he : (f : Int) = M ∧ f < fz
          · have HNX := hide (show nextI n L R N Z = (j : Int) from scanF_at hlt (by rw [← hff, ← HFZ.out]; exact he.2) (fun i hi => by
              have := HML.out i hi
              rw [← hff]; omega) (fun i hi => by
              have h1 := HJ.out i hi
              have h2 := HML.out i (by omega)
              rw [← hff]
              omega))
            have t1 : ((f : Int) == M) = true := by simpa using he.1
            have t2 : decide ((f : Int) < (fz : Int)) = true := decide_eq_true (by omega)
            have t2' : decide (f < fz) = true := decide_eq_true he.2
            have q4 : IntKind.i64.wrap ((k : Int) + 1) = ((k + 1 : Nat) : Int) := by rw [IntWalk.i64_in _ (by omega)]; omega
            have hfgO : f < gO := by omega
            have HOW := hide (show OwnInts (wr.setCell ⟨g, j, none⟩ (.int .i64 (1 - Z j))) base (.slice (some ⟨g, 0, none⟩) N cap) N (flipF Z j) from hownB.set_ j (1 - Z j))
            have HBX := hide (bxB.other (p := ⟨g, j, none⟩) (by simp; omega) (.int .i64 (1 - Z j)))
            have HBL := hide (show Below w0.heap.size w0 (wr.setCell ⟨g, j, none⟩ (.int .i64 (1 - Z j))) from hBB.setCell (by simp; omega) _)
            have HST := hide (HIT.out.step HNX.out)
            have HFL := hide (show failN n L R (flipF Z j) = f from hff.symm)
            generalize Z j = z at *
            clear he hff
            go_wp2_with fail
            go_roundg gO
            case measure => omega
            case rel => exact ⟨k + 1, flipF Z j, by rw [HFL.out], by go_num, by rw [HFL.out]; exact hfgO, HST.out, HOW.out, HBX.out, HBL.out⟩
          · have HN := hide (fun i (hi : i < j + 1) => (by
              rcases Nat.lt_or_ge i j with e | e
              · exact HJ.out i e
              · obtain rfl : i = j := by omega
                rw [← hff]; omega : ¬ ((behindN n L R Z i : Int) = M ∧ M < (fz : Int))))
            by_cases h1 : (f : Int) = M
            · have t1 : ((f : Int) == M) = true := by simpa using h1
              have t2 : decide ((f : Int) < (fz : Int)) = false := decide_eq_false (by omega)
              have t2' : decide (f < fz) = false := decide_eq_false (by omega)
              clear he h1 hff
              go_wp2_with fail
              go_roundg (N - (j + 1))
              case measure => omega
              case rel => exact ⟨rfl, rfl, j + 1, by omega, by omega, by go_num, by first | rfl | trivial, HN⟩
            · have t1 : ((f : Int) == M) = false := by simpa using h1
              clear he h1 hff
              go_wp2_with fail
              go_roundg (N - (j + 1))
              case measure => omega
              case rel => exact ⟨rfl, rfl, j + 1, by omega, by omega, by go_num, by first | rfl | trivial, HN⟩
        · obtain rfl : j = N := by omega
          have HNX := hide (show nextI n L R j Z = -1 from scanF_none fun i hi => by
            obtain ⟨r, hr, hrm⟩ := HMR.out
            have h1 := HJ.out r hr
            have h2 := HML.out i hi
            rw [← HFZ.out]
            omega)
          go_wp2_with fail
          try rw [Exit.noGoto_ret]
          go_ret
          exact ⟨k, Z, rfl, HIT.out, HNX.out, hownB, hBB⟩
end Go.Proofs.Ytdkoohfcpikgiaa
/- Flip of the code. -/
namespace Go.Proofs.Ytdkoohfcpikgiaa
open Go.RowKit Go.Shelf
/-- What flipping hands back. -/
def GaveFlip (n : Nat) (L : Nat → Nat) (R : Nat → Nat → Int) (N : Nat) (X : Nat → Int) (err : Int) (w : World) (e : Ending) (w' : World) : Prop :=
  ∃ (v : Value) (k : Nat), e = .returned (.tuple #[v, .int .i64 (k : Int), .int .i64 err]) ∧ ((err ≠ 0 ∧ v = .slice none 0 0 ∧ k = 0) ∨ (err = 0 ∧ ∃ Z, OwnInts w' w.heap.size v N Z ∧ Iter n L R N X k Z ∧ nextI n L R N Z = -1)) ∧ Below w.heap.size w w'
set_option maxHeartbeats 4000000 in
set_option maxRecDepth 100000 in
theorem Flip_any (m : Int) (A C : Option Addr) (n c N d : Nat) (L : Nat → Nat) (R : Nat → Nat → Int) (X : Nat → Int) (w : World) (hn : n ≤ 9223372036854775807) (hN : N ≤ 100000) (hI : ListsAt w 0 A n L R) (hX : IntsAt w 0 C N X) :
    Calls Try.prog 13 #[.agg #[.int .i64 m, .slice A n c], .slice C N d] w (GaveFlip n L R N X (wordErrI m n L R N X) w) := by
  have HI := hide hI
  have HX := hide hX
  have HW := hide (fun W hW1 hW2 => wordError_any m A C n c N d L R X W hn hN hW1 hW2)
  clear hI hX
  by_cases he : wordErrI m n L R N X = 0
  · obtain ⟨hp, hb, hq⟩ := threeE_zero.1 he
    obtain ⟨h1, hok⟩ := parOk_of hp
    have hbits := (bitsErrR_zero hb).2.2
    have hN0 := (bitsErrR_zero hb).1
    have hN9 := (bitsErrR_zero hb).2.1
    have hNm : N = m.toNat + n := by have := eq_of_beq hq; omega
    have HFL := hide (fun g cap (w0 W : World) (h1 : ListsAt w0 0 A n L R) (h2 : Below w0.heap.size w0 W) base (h3 : w0.heap.size ≤ base) (h4 : OwnInts W base (.slice (some ⟨g, 0, none⟩) N cap) N X) => flip_any m A g n c N cap base L R X w0 W (by have := hok.rows; omega) (fun i hi => by have := (hok.row i hi).most; omega) (by omega) hN0 h1 h2 h3 h4 (by rw [hNm]; exact PlaceOk.of hok) hbits)
    obtain ⟨b0, o0, rfl, -, -, -⟩ := HX.out 0 hN0
    rw [he] at HW ⊢
    clear he hp hb hq h1 hok hbits hNm
    go_enter Try.func13, Try.ntmps13
    go_wp2_with fail
    refine (HW.out _ (HI.out.alloc _) (HX.out.alloc _)).mono ?_
    rintro e w1 ⟨rfl, hb1⟩
    have bx1 : Box w1 w.heap.size 24 #[.int .i64 m, .slice A n c] := (Box.made rfl).below hb1
    have hB1 := below_of_alloc hb1
    clear hb1
    go_wp2_with fail
    refine (cloneInts_any b0 o0 N d X _ hN (HX.out.below hB1)).mono ?_
    rintro e w2 ⟨v2, rfl, hown2, hb2⟩
    obtain ⟨g, cap, rfl, hg1, hg2⟩ := hown2.row hN0
    have bx2 := bx1.below hb2
    have hB2 := hB1.trans (hb2.mono hB1.size)
    have hB1s := hB1.size
    obtain ⟨z0, z1, hlz⟩ := par_cells bx2
    go_wp2_with fail
    refine (HFL.out g cap w w2 HI.out hB2 w1.heap.size hB1s hown2).mono ?_
    rintro e w3 ⟨k, Z, rfl, hit, hnx, hown3, hB3⟩
    go_wp2_with fail
    go_ret3
    exact ⟨_, k, rfl, .inr ⟨rfl, Z, hown3.weak hB1s, hit, hnx⟩, hB3⟩
  · have te : (wordErrI m n L R N X != 0) = true := by simpa using he
    have HE := hide he
    clear he
    generalize wordErrI m n L R N X = V at *
    go_enter Try.func13, Try.ntmps13
    go_wp2_with fail
    refine (HW.out _ (HI.out.alloc _) (HX.out.alloc _)).mono ?_
    rintro e w1 ⟨rfl, hb1⟩
    have hB1 := below_of_alloc hb1
    go_wp2_with fail
    go_ret3
    exact ⟨_, 0, rfl, .inl ⟨HE.out, rfl, rfl⟩, hB1⟩
end Go.Proofs.Ytdkoohfcpikgiaa
/- EncodeParity, Failed of the reference. -/
namespace Go.Proofs.Ytdkoohfcpikgiaa
open Go.RowKit Go.Shelf
theorem setF_bits {X : Nat → Int} {N k : Nat} {x : Int} (h : ∀ j, j < N → IsBit (X j)) (hx : IsBit x) : ∀ j, j < N → IsBit (setF X k x j) := fun j hj => by
  unfold setF
  split
  · exact hx
  · exact h j hj
theorem cat0_bits {m : Nat} {E : Nat → Int} (h : ∀ j, j < m → IsBit (E j)) : ∀ j, j < m + 1 → IsBit (catF m E (fun _ => 0) j) := fun j hj => by
  unfold catF
  split
  · exact h j (by assumption)
  · exact .inl rfl
theorem enc_no {m k : Nat} {L : Nat → Nat} {R : Nat → Nat → Int} {B : Nat → Int} (h : RowOk ((m : Int) + k) (L k) (R k)) (ho : oddB (catF (m + k) (encF m L R B k) (fun _ => 0)) (L k) (R k) = false) : ∀ j, j < m + k + 1 → catF (m + k) (encF m L R B k) (fun _ => 0) j = encF m L R B (k + 1) j := fun j _ => by
  unfold oddB at ho
  rw [psum_open h] at ho
  have hz : psum (encF m L R B k) (R k) (L k - 1) % 2 = 0 := by
    have : ¬ psum (encF m L R B k) (R k) (L k - 1) % 2 = 1 := by simpa using ho
    omega
  show _ = catF (m + k) (encF m L R B k) (fun _ => psum (encF m L R B k) (R k) (L k - 1) % 2) j
  rw [hz]
theorem enc_yes {m k : Nat} {L : Nat → Nat} {R : Nat → Nat → Int} {B : Nat → Int} (h : RowOk ((m : Int) + k) (L k) (R k)) (ho : oddB (catF (m + k) (encF m L R B k) (fun _ => 0)) (L k) (R k) = true) : ∀ j, j < m + k + 1 → setF (catF (m + k) (encF m L R B k) (fun _ => 0)) (m + k) 1 j = encF m L R B (k + 1) j := fun j hj => by
  unfold oddB at ho
  rw [psum_open h] at ho
  have hz : psum (encF m L R B k) (R k) (L k - 1) % 2 = 1 := by simpa using ho
  show _ = catF (m + k) (encF m L R B k) (fun _ => psum (encF m L R B k) (R k) (L k - 1) % 2) j
  rw [hz]
  unfold setF catF
  by_cases e : j = m + k
  · rw [if_pos e, if_neg (by omega)]
  · rw [if_neg e, if_pos (by omega), if_pos (by omega)]
set_option maxHeartbeats 8000000 in
set_option maxRecDepth 100000 in
theorem encodeParityR_ok (m n c d : Nat) (A C : Option Addr) (L : Nat → Nat) (R : Nat → Nat → Int) (B : Nat → Int) (w : World) (hok : ParOk m n L R) (hI : ListsAt w 0 A n L R) (hX : IntsAt w 0 C m B) (hb : ∀ j, j < m → IsBit (B j)) :
    Calls Try.prog 17 #[.agg #[.int .i64 (m : Int), .slice A n c], .slice C m d] w fun e w' => ∃ v, e = .returned v ∧ OwnInts w' w.heap.size v (m + n) (encF m L R B n) ∧ Below w.heap.size w w' := by
  have HI := hide hI
  have HX := hide hX
  have HOK := hide hok
  have HB := hide hb
  have hm1 := hok.one
  have hm9 := hok.most
  have hn9 := hok.rows
  clear hI hX hok hb
  go_enter Try.func17, Try.ntmps17
  go_wp2_with fail
  refine (copyInts_own C m d B _ (by omega) (HX.out.alloc _)).mono ?_
  rintro e w1 ⟨v1, rfl, hown1, hb1⟩
  have bx1 : Box w1 w.heap.size 24 #[.int .i64 (m : Int), .slice A n c] := (Box.made rfl).below hb1
  have hB1 := below_of_alloc hb1
  have hown1 : OwnInts w1 (w.heap.size + 1) v1 (m + 0) (encF m L R B 0) := (show OwnInts w1 (w.heap.size + 1) v1 m B by simpa using hown1)
  clear hb1
  go_wp2_with fail
  go_loopw [5, 6] (fun v i wr => ∃ k : Nat, k ≤ n ∧ i = .int .i64 k ∧ OwnInts wr (w.heap.size + 1) v (m + k) (encF m L R B k) ∧ Box wr w.heap.size 24 #[.int .i64 (m : Int), .slice A n c] ∧ Below w.heap.size w wr) (fun _ i _ => n - (intOf i).toNat)
  case atStart => exact ⟨0, Nat.zero_le _, rfl, hown1, bx1, hB1⟩
  case round =>
    clear hown1 bx1 hB1
    obtain ⟨k, hk, rfl, hown, bx, hB⟩ := hrel
    have hBs := hB.size
    obtain ⟨z0, z1, hlz⟩ := par_cells bx
    by_cases hlt : k < n
    · have hltz : (k : Int) < (n : Int) := by omega
      have hrow := HOK.out.row k hlt
      have HROW := hide hrow
      have hL8 := hrow.most
      obtain ⟨M0, hM0⟩ : ∃ M0, M0 = m + k := ⟨_, rfl⟩
      have hbits := cat0_bits (encF_bit (L := L) (R := R) HB.out k)
      have HNO := hide (enc_no (B := B) hrow)
      have HYES := hide (enc_yes (B := B) hrow)
      have HPP := hide (fun j (hj : j < L k) => (show 0 ≤ R k j ∧ (R k j).toNat < m + k + 1 from by have := hrow.range j hj; omega))
      rw [← hM0] at hown hbits HNO HYES HPP
      obtain ⟨As, cs, rfl, hcs, hIs⟩ := hown.form
      have HPX := hide (fun j (hj : j < L k) => (⟨(HPP.out j hj).1, (HPP.out j hj).2, hbits _ (HPP.out j hj).2⟩ : 0 ≤ R k j ∧ (R k j).toNat < M0 + 1 ∧ IsBit (catF M0 (encF m L R B k) (fun _ => 0) (R k j).toNat)))
      have HM0 := hide hM0
      clear hIs hrow hbits hM0
      have hM9 : M0 ≤ 1000 := by have := HM0.out; omega
      go_upto_region 6 with (at_builtin; refine wpList_append_ints _ rfl (.tmp 16) (.tmp 17) rfl (w.heap.size + 1) 0 (.slice As M0 cs) M0 _ rfl (hown.alloc _) (some ⟨wr.heap.size, 0, none⟩) 1 1 (fun _ => 0) rfl (IntsAt.one _ _ _ _ (Nat.zero_le _)) (by omega) (by have := bx.lt; simp; omega) ?_; intro v' w' h1 hb2)
      have bx' := (bx.alloc (.cells #[.int .i64 0] 3)).kept hb2 (by omega)
      have hB' := (hB.alloc hBs (.cells #[.int .i64 0] 3)).trans (hb2.mono (by omega))
      obtain ⟨g, cap, rfl, hg1, hg2⟩ := h1.row (by omega)
      clear z0 z1 hlz bx hB hb2 hown
      obtain ⟨z0, z1, hlz⟩ := par_cells bx'
      obtain ⟨b, o, Ai, ci, rfl, -, hbk, hcell, hlc, hc9, hIk⟩ := (HI.out.below hB') k hlt
      obtain ⟨Ag, cg, eg, -, hIg⟩ := h1.form
      injection eg with eg _ eg2
      subst eg
      subst eg2
      have HC := hide (oddR_any (some ⟨g, 0, none⟩) Ai (M0 + 1) cap (L k) ci _ (R k) w' (by omega) (hIg.weak (Nat.zero_le _)) hIk HPX.out)
      obtain ⟨M1, hM1⟩ : ∃ M1, M1 = M0 + 1 := ⟨_, rfl⟩
      have q1 : IntKind.i64.wrap ((M1 : Int) - 1) = (M0 : Int) := by rw [IntWalk.i64_in _ (by omega)]; omega
      have hMz : (M0 : Int) < (M1 : Int) := by omega
      have hMn : M0 < M1 := by omega
      have hc1 := h1.cellAt (show M0 < M0 + 1 by omega)
      have hf1 := h1.frozen M0
      have HM1 := hide (show M1 = m + (k + 1) from by have := HM0.out; omega)
      have hBs' := hB'.size
      rw [← hM1] at h1 HC HNO HYES ⊢
      clear hIk hIg HPX HPP hM1
      generalize hx : catF M0 (encF m L R B k) (fun _ => 0) M0 = x at hc1
      clear hx
      cases ho : oddB (catF M0 (encF m L R B k) (fun _ => 0)) (L k) (R k)
      · rw [ho] at HC
        have HNO2 := hide (HNO.out ho)
        clear ho
        go_wp2_with fail
        refine HC.out.mono ?_
        rintro e w3 ⟨rfl, q3, rfl⟩
        go_wp2_with fail
        go_roundw
        case rel => exact ⟨k + 1, by omega, by go_num, by rw [← HM1.out]; exact (h1.drewN q3).congr HNO2.out, bx'.drewN q3, below_drewN hB' q3⟩
        case measure => simp [intOf]; omega
      · rw [ho] at HC
        have HYES2 := hide (HYES.out ho)
        clear ho
        go_wp2_with fail
        refine HC.out.mono ?_
        rintro e w3 ⟨rfl, q3, rfl⟩
        go_wp2_with fail
        go_roundw
        case rel => exact ⟨k + 1, by omega, by go_num, by rw [← HM1.out]; exact ((h1.drewN q3).set_ M0 1).congr HYES2.out, (bx'.drewN q3).other (by simp; omega) _, (below_drewN hB' q3).setCell (by simp; omega) _⟩
        case measure => simp [intOf]; omega
    · obtain rfl : k = n := by omega
      go_wp2_with fail
      go_ret
      exact ⟨_, rfl, hown.weak (by omega), hB⟩
set_option maxHeartbeats 4000000 in
theorem failedR_any (m : Int) (A C : Option Addr) (n c N d : Nat) (L : Nat → Nat) (R : Nat → Nat → Int) (X : Nat → Int) (w : World) (hn : n ≤ 1000) (hL : ∀ i, i < n → L i ≤ 1000) (hI : ListsAt w 0 A n L R) (hX : IntsAt w 0 C N X) (hp : WordOk N n L R X) :
    Calls Try.prog 19 #[.agg #[.int .i64 m, .slice A n c], .slice C N d] w fun e w' => ∃ v, e = .returned v ∧ OwnInts w' w.heap.size v (failN n L R X) (pickF (failP L R X) n) ∧ Below w.heap.size w w' := by
  have HI := hide hI
  have HX := hide hX
  have HL := hide hL
  have HP := hide hp
  clear hI hX hL hp
  go_enter Try.func19, Try.ntmps19
  go_wp2_with fail
  go_loopw [5, 6] (fun v i wr => ∃ k : Nat, k ≤ n ∧ i = .int .i64 k ∧ OwnInts wr (w.heap.size + 1) v (pickN (failP L R X) k) (pickF (failP L R X) k) ∧ (∃ T, Box wr w.heap.size T #[.int .i64 m, .slice A n c]) ∧ Below w.heap.size w wr) (fun _ i _ => n - (intOf i).toNat)
  case atStart => exact ⟨0, Nat.zero_le _, rfl, OwnInts.nil_ _ _ _, ⟨_, Box.made rfl⟩, by (repeat (first | (with_reducible exact Below.refl _ _) | (with_reducible refine below_drewN ?_ _) | (with_reducible refine Below.drew ?_) | (with_reducible refine Below.alloc ?_ (by first | exact Nat.le_refl _ | (simp; done) | (simp; omega) | omega) _) | (with_reducible refine Below.setCell ?_ (by first | exact Nat.le_refl _ | (simp; done) | (simp; omega) | omega) _)))⟩
  case round =>
    obtain ⟨k, hk, rfl, hown, ⟨T, bx⟩, hB⟩ := hrel
    have hBs := hB.size
    have z1 : wr.cell? ⟨w.heap.size, 1, none⟩ = some (.slice A n c) := bx.at_ 1
    have hlz := bx.lt
    by_cases hlt : k < n
    · have hltz : (k : Int) < (n : Int) := by omega
      obtain ⟨b, o, Ai, ci, rfl, -, hb, hcell, hlc, hc9, hIk⟩ := (HI.out.below hB) k hlt
      have HOD := hide (oddR_any C Ai N d (L k) ci X (R k) wr (HL.out k hlt) (HX.out.below hB) hIk (fun j hj => HP.out k j hlt hj))
      have hle := pickN_le (failP L R X) k
      obtain ⟨As, cs, rfl, hcs, hIs⟩ := hown.form
      clear hIk hIs
      cases ho : oddB X (L k) (R k)
      · have ho' : failP L R X k = false := ho
        rw [ho] at HOD
        have HN := hide (pickN_no ho')
        have HF := hide (fun j => pickF_no ho' j)
        clear ho ho'
        go_wp2_with fail
        refine HOD.out.mono ?_
        rintro e w2 ⟨rfl, q2, rfl⟩
        go_wp2_with fail
        go_roundw
        case rel => exact ⟨k + 1, by omega, by go_num, by rw [HN.out]; exact (hown.drewN q2).congr fun j _ => (HF.out j).symm, ⟨T, bx.drewN q2⟩, below_drewN hB q2⟩
        case measure => simp [intOf]; omega
      · have ho' : failP L R X k = true := ho
        rw [ho] at HOD
        have HN := hide (pickN_yes ho')
        have HF := hide (fun j hj => pickF_yes ho' (j := j) hj)
        clear ho ho'
        go_wp2_with fail
        refine HOD.out.mono ?_
        rintro e w2 ⟨rfl, q2, rfl⟩
        go_wp2_with (at_builtin; refine wpList_append_ints _ rfl (.tmp 21) (.tmp 23) rfl (w.heap.size + 1) 0 (.slice As (pickN (failP L R X) k) cs) (pickN (failP L R X) k) _ rfl ((hown.drewN q2).alloc _) (some ⟨wr.heap.size, 0, none⟩) 1 1 (fun _ => (k : Int)) rfl (IntsAt.one _ _ _ _ (Nat.zero_le _)) (by omega) (by have := bx.lt; simp; omega) ?_; intro v' w' h1 hb2)
        go_roundw
        case rel => exact ⟨k + 1, by omega, by go_num, by rw [HN.out]; exact h1.congr HF.out, ⟨T, ((bx.drewN q2).alloc _).kept hb2 (by omega)⟩, ((below_drewN hB q2).alloc hBs _).trans (hb2.mono (by omega))⟩
        case measure => simp [intOf]; omega
    · obtain rfl : k = n := by omega
      go_wp2_with fail
      go_ret
      exact ⟨_, rfl, hown.weak (by omega), hB⟩
end Go.Proofs.Ytdkoohfcpikgiaa
/- Flip of the reference. -/
namespace Go.Proofs.Ytdkoohfcpikgiaa
open Go.RowKit Go.Shelf
set_option maxHeartbeats 8000000 in
set_option maxRecDepth 100000 in
theorem flipR_any (m : Int) (A C : Option Addr) (n c N d : Nat) (L : Nat → Nat) (R : Nat → Nat → Int) (X : Nat → Int) (w : World) (hn : n ≤ 1000) (hL : ∀ i, i < n → L i ≤ 1000) (hN : N ≤ 1000) (hN0 : 0 < N) (hI : ListsAt w 0 A n L R) (hX : IntsAt w 0 C N X) (hp : PlaceOk N n L R) (hbit : ∀ j, j < N → IsBit (X j)) :
    Calls Try.prog 18 #[.agg #[.int .i64 m, .slice A n c], .slice C N d] w fun e w' => ∃ (v : Value) (k : Nat) (Z : Nat → Int), e = .returned (.tuple #[v, .int .i64 k]) ∧ OwnInts w' w.heap.size v N Z ∧ Iter n L R N X k Z ∧ nextI n L R N Z = -1 ∧ Below w.heap.size w w' := by
  have HI := hide hI
  have HX := hide hX
  have HB := hide hbit
  have HFA := hide (fun Z (hZ : ∀ j, j < N → IsBit (Z j)) W (C : Option Addr) (cap : Nat) (h : ListsAt W 0 A n L R) (h2 : IntsAt W 0 C N Z) => failedR_any m A C n c N cap L R Z W hn hL h h2 (hp.word hZ))
  clear hI hX hbit hp
  go_enter Try.func18, Try.ntmps18
  go_wp2_with fail
  refine (copyInts_own C N d X _ (by omega) (HX.out.alloc _)).mono ?_
  rintro e w1 ⟨v1, rfl, hown1, hb1⟩
  obtain ⟨g, cap, rfl, hg1, hg2⟩ := hown1.row hN0
  have bx1 : Box w1 w.heap.size 24 #[.int .i64 m, .slice A n c] := (Box.made rfl).below hb1
  have hB1 := below_of_alloc hb1
  have hgw : w.heap.size < g := by simp at hg1; omega
  have hown0 : OwnInts w1 (w.heap.size + 1) (.slice (some ⟨g, 0, none⟩) N cap) N X := by simpa using hown1
  clear hown1 hb1 hg1
  go_wp2_with fail
  go_loopw [7] (fun s7 wr => ∃ (k : Nat) (Z : Nat → Int), s7 = .int .i64 (k : Int) ∧ Hid (Iter n L R N X k Z) ∧ OwnInts wr (w.heap.size + 1) (.slice (some ⟨g, 0, none⟩) N cap) N Z ∧ Box wr w.heap.size 24 #[.int .i64 m, .slice A n c] ∧ Below w.heap.size w wr) (fun s7 _ => 2000 - (intOf s7).toNat)
  case atStart => exact ⟨0, X, rfl, hide (Iter.zero N X), hown0, bx1, hB1⟩
  case round =>
    clear hown0 bx1 hB1
    obtain ⟨k, Z, rfl, HIT, hown, bx, hB⟩ := hrel
    obtain ⟨wA, rfl⟩ : ∃ x : World, x = wr := ⟨_, rfl⟩
    have HZB := hide (HIT.out.bits (M := N) HB.out)
    have hkz : k ≤ 1000 := by
      have h1 := HIT.out.fewer
      have h2 := failN_le n L R X
      omega
    obtain ⟨z0, z1, hlz⟩ := par_cells bx
    obtain ⟨As, cs, e1, -, hIs⟩ := hown.form
    injection e1 with e1 _ e2
    subst e1
    subst e2
    have HC := hide (HFA.out Z HZB.out _ (some ⟨g, 0, none⟩) cap (HI.out.below hB) (hIs.weak (Nat.zero_le _)))
    clear hIs
    go_wp2_with fail
    refine HC.out.mono ?_
    rintro e w2 ⟨v2, rfl, hown2, hb2⟩
    obtain ⟨A2, c2, rfl, hc2, -⟩ := hown2.form
    have hownW := hown.below hb2
    have bx2 := bx.below hb2
    have hB2 := hB.trans (hb2.mono hB.size)
    clear z0 z1 hlz hown bx hB hb2 hown2 HC
    go_wp2_with fail
    go_loopw [8, 9, 10] (fun s8 s9 i wr => ∃ j : Nat, j ≤ N ∧ i = .int .i64 (j : Int) ∧ s8 = .int .i64 (scanF (behindN n L R Z) (failN n L R Z) j).1 ∧ s9 = .int .i64 ((scanF (behindN n L R Z) (failN n L R Z) j).2 : Int) ∧ OwnInts wr (w.heap.size + 1) (.slice (some ⟨g, 0, none⟩) N cap) N Z ∧ Box wr w.heap.size 24 #[.int .i64 m, .slice A n c] ∧ Below w.heap.size w wr) (fun _ _ i _ => N - (intOf i).toNat)
    case atStart => exact ⟨0, Nat.zero_le _, rfl, rfl, rfl, hownW, bx2, hB2⟩
    case round =>
      clear hownW bx2 hB2
      obtain ⟨j, hj, rfl, rfl, rfl, hown, bx, hB⟩ := hrel
      obtain ⟨wB, rfl⟩ : ∃ x : World, x = wr := ⟨_, rfl⟩
      by_cases hlt : j < N
      · have hltz : (j : Int) < (N : Int) := by omega
        have hc := hown.cellAt hlt
        have hf := hown.frozen j
        have hzb := (HZB.out j hlt).le
        have HTW := hide (flipF_twice Z j)
        have HCF := hide (fun W cap' (h1 : ListsAt W 0 A n L R) (h2 : IntsAt W 0 (some ⟨g, 0, none⟩) N (setF Z j (1 - Z j))) => HFA.out (flipF Z j) (flipF_bit HZB.out j) W (some ⟨g, 0, none⟩) cap' h1 h2)
        have hown2 := hown.set_ j (1 - Z j)
        have bx2 := bx.other (p := ⟨g, j, none⟩) (by simp; omega) (.int .i64 (1 - Z j))
        have hB2 : Below w.heap.size w (wB.setCell ⟨g, j, none⟩ (.int .i64 (1 - Z j))) := hB.setCell (by simp; omega) _
        obtain ⟨z0, z1, hlz⟩ := par_cells bx2
        obtain ⟨As, cs, e1, -, hIs⟩ := hown2.form
        injection e1 with e1 _ e2
        subst e1
        subst e2
        have HC := hide (HCF.out _ cap (HI.out.below hB2) (hIs.weak (Nat.zero_le _)))
        obtain ⟨z, hz⟩ : ∃ z, z = Z j := ⟨_, rfl⟩
        have HZZ := hide hz
        rw [← hz] at hc hzb hown2 bx2 hB2 z0 z1 hlz HC
        have q1 : IntKind.i64.wrap (1 - z) = 1 - z := IntWalk.i64_in _ (by omega)
        have q2 : IntKind.i64.wrap (1 - (1 - z)) = z := by rw [IntWalk.i64_in _ (by omega)]; omega
        obtain ⟨f, hff⟩ : ∃ f, f = behindN n L R Z j := ⟨_, rfl⟩
        rw [show failN n L R (flipF Z j) = f from hff.symm] at HC
        have HFF := hide hff
        have HSC := hide (show scanF (behindN n L R Z) (failN n L R Z) (j + 1) = if f < (scanF (behindN n L R Z) (failN n L R Z) j).2 then ((j : Int), f) else scanF (behindN n L R Z) (failN n L R Z) j from by rw [hff]; rfl)
        have hle := scanF_le (behindN n L R Z) (failN n L R Z) j
        have hle2 := failN_le n L R Z
        generalize (scanF (behindN n L R Z) (failN n L R Z) j) = S at *
        obtain ⟨s1, s2⟩ := S
        clear hIs hz hff HCF hown bx hB
        go_wp2_with fail
        refine HC.out.mono ?_
        rintro e w3 ⟨v3, rfl, hown3, hb3⟩
        obtain ⟨A3, c3, rfl, hc3, -⟩ := hown3.form
        have hown4 := hown2.below hb3
        have bx4 := bx2.below hb3
        have hB4 := hB2.trans (hb3.mono (by have := hB2.size; simpa using this))
        have hc4 := hown4.cellAt hlt
        rw [show setF Z j (1 - z) j = 1 - z from if_pos rfl] at hc4
        have hf4 := hown4.frozen j
        have HOW := hide (show OwnInts (w3.setCell ⟨g, j, none⟩ (.int .i64 z)) (w.heap.size + 1) (.slice (some ⟨g, 0, none⟩) N cap) N Z from (hown4.set_ j z).congr fun i hi => by
          unfold setF
          by_cases e : i = j
          · rw [if_pos e, HZZ.out, e]
          · rw [if_neg e, if_neg e])
        have HBX := hide (bx4.other (p := ⟨g, j, none⟩) (by simp; omega) (.int .i64 z))
        have HBL := hide (show Below w.heap.size w (w3.setCell ⟨g, j, none⟩ (.int .i64 z)) from hB4.setCell (by simp; omega) _)
        clear hc hf hown2 bx2 hB2 z0 z1 hlz HC hown3 hb3 hown4 bx4 hB4
        by_cases hfs : f < s2
        · have t1 : decide ((f : Int) < (s2 : Int)) = true := decide_eq_true (by omega)
          have t1' : decide (f < s2) = true := decide_eq_true hfs
          have HS2 := hide (HSC.out.trans (if_pos hfs))
          clear hfs HSC
          go_wp2_with fail
          go_roundw
          case rel => exact ⟨j + 1, by omega, by go_num, by rw [HS2.out], by rw [HS2.out], HOW.out, HBX.out, HBL.out⟩
          case measure => simp [intOf]; omega
        · have t1 : decide ((f : Int) < (s2 : Int)) = false := decide_eq_false (by omega)
          have t1' : decide (f < s2) = false := decide_eq_false hfs
          have HS2 := hide (HSC.out.trans (if_neg hfs))
          clear hfs HSC
          go_wp2_with fail
          go_roundw
          case rel => exact ⟨j + 1, by omega, by go_num, by rw [HS2.out], by rw [HS2.out], HOW.out, HBX.out, HBL.out⟩
          case measure => simp [intOf]; omega
      · obtain rfl : j = N := by omega
        have HNX := hide (show nextI n L R j Z = (scanF (behindN n L R Z) (failN n L R Z) j).1 from rfl)
        rcases nextI_spec (n := n) (L := L) (R := R) j Z with ⟨h1, -⟩ | ⟨i, hi, h1, h2⟩
        · rw [← HNX.out, h1]
          have HN1 := hide h1
          generalize (scanF (behindN n L R Z) (failN n L R Z) j).2 = s2 at *
          clear h1 HNX
          go_wp2_with fail
          go_ret2
          exact ⟨_, k, Z, rfl, hown.weak (by omega), HIT.out, HN1.out, hB⟩
        · rw [← HNX.out, h1]
          have HST := hide (HIT.out.step h1)
          generalize (scanF (behindN n L R Z) (failN n L R Z) j).2 = s2 at *
          have hiz : (i : Int) < (j : Int) := by omega
          have hc := hown.cellAt hi
          have hf := hown.frozen i
          have hzb := (HZB.out i hi).le
          have HOW := hide (show OwnInts (wB.setCell ⟨g, i, none⟩ (.int .i64 (1 - Z i))) (w.heap.size + 1) (.slice (some ⟨g, 0, none⟩) j cap) j (flipF Z i) from hown.set_ i (1 - Z i))
          have HBX := hide (bx.other (p := ⟨g, i, none⟩) (by simp; omega) (.int .i64 (1 - Z i)))
          have HBL := hide (show Below w.heap.size w (wB.setCell ⟨g, i, none⟩ (.int .i64 (1 - Z i))) from hB.setCell (by simp; omega) _)
          have q1 : IntKind.i64.wrap (1 - Z i) = 1 - Z i := IntWalk.i64_in _ (by omega)
          have q4 : IntKind.i64.wrap ((k : Int) + 1) = ((k + 1 : Nat) : Int) := by rw [IntWalk.i64_in _ (by omega)]; omega
          have t1 : decide ((i : Int) < 0) = false := decide_eq_false (by omega)
          clear h1 h2 HNX hown bx hB
          generalize Z i = z at *
          go_wp2_with fail
          go_roundw
          case rel => exact ⟨k + 1, flipF Z i, by go_num, HST.out, HOW.out, HBX.out, HBL.out⟩
          case measure => simp [intOf]; omega
end Go.Proofs.Ytdkoohfcpikgiaa
