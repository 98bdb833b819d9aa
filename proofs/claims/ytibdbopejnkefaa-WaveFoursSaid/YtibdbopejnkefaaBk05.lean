/- Lemmas: Wm, Uc, Va, Bi. -/
import Derived.Deep.RegionHeld3
import Derived.StillTailTactics
import Derived.Great.Walk
import Derived.Great.Ranges
import Derived.Test.YtibdbopejnkefaaBk02
import Derived.Test.YtibdbopejnkefaaBk03
import Derived.Test.YtibdbopejnkefaaBk04
set_option linter.unusedVariables false
set_option linter.unusedSimpArgs false
/- product of the code: a region that draws its order. -/
namespace Go.Proofs.Ytibdbopejnkefaa
open Go.RowKit
theorem bstH4 {B : Nat} {w1 W w2 : World} {p0 p1 p2 p3 p4 p5 p6 p7 : Prop} (hb : Below W.heap.size W w2) (h : p0 ∧ p1 ∧ p2 ∧ p3 ∧ p4 ∧ p5 ∧ p6 ∧ p7 ∧ Below B w1 W) (hB : B ≤ w1.heap.size) : Below B w1 w2 := h.2.2.2.2.2.2.2.2.trans (hb.mono (Nat.le_trans hB h.2.2.2.2.2.2.2.2.size))
theorem NumsAt.two {w : World} {b : Nat} {t : TypeId} {x y : Num} (h : Box w b t #[.int .i64 x.a, .int .i64 x.b, .int .i64 x.c, .int .i64 x.d, .int .i64 y.a, .int .i64 y.b, .int .i64 y.c, .int .i64 y.d]) : NumsAt w 0 (some ⟨b, 0, none⟩) 2 (fun i => if i = 0 then x else y) := fun i hi => by
  match i, hi with
  | 0, _ => exact ⟨b, 0, rfl, Nat.zero_le _, h.lt, h.at_ 0, h.at_ 1, h.at_ 2, h.at_ 3⟩
  | 1, _ => exact ⟨b, 0, rfl, Nat.zero_le _, h.lt, h.at_ 4, h.at_ 5, h.at_ 6, h.at_ 7⟩
theorem sum_two (x y : Num) : sumF (fun i => if i = 0 then x else y) 2 = x.add y := by
  show (Num.zero.add (if (0 : Nat) = 0 then x else y)).add (if (1 : Nat) = 0 then x else y) = x.add y
  rw [if_pos rfl, if_neg (by decide)]
  apply Num.same <;> simp [Num.add, Num.zero]
set_option maxHeartbeats 8000000 in
set_option maxRecDepth 100000 in
theorem product_any (x y : Num) (M N : Int) (w : World) (hx : x.Within M) (hy : y.Within N) (h0 : 0 ≤ M * N) (h4 : 4 * (M * N) ≤ 9000000000000000000) (hN : N ≤ 4611686018427387904) :
    Calls Try.prog 32 #[.agg #[.int .i64 x.a, .int .i64 x.b, .int .i64 x.c, .int .i64 x.d], .agg #[.int .i64 y.a, .int .i64 y.b, .int .i64 y.c, .int .i64 y.d]] w fun e w' => e = .returned (.agg #[.int .i64 (x.prod y).a, .int .i64 (x.prod y).b, .int .i64 (x.prod y).c, .int .i64 (x.prod y).d]) ∧ Below w.heap.size w w' := by
  have HPB := hide (fun i (hi : i ≤ 4) => (show (x.prodTo y i).Within 9000000000000000000 from (hx.prodTo hy i).more (by
    obtain ⟨p, hp⟩ : ∃ p, p = M * N := ⟨_, rfl⟩
    rw [← hp] at h0 h4 ⊢
    have h1 : (i : Int) * p ≤ 4 * p := Int.mul_le_mul_of_nonneg_right (by omega) h0
    omega)))
  have HT := hide (fun (i : Nat) (hi : i < 4) W => (by
    have h := turned_any y (i : Int) W (hy.more hN)
    rw [show ((i : Int) % 8).toNat = i by omega] at h
    exact h : Calls Try.prog 23 #[.agg #[.int .i64 y.a, .int .i64 y.b, .int .i64 y.c, .int .i64 y.d], .int .i64 (i : Int)] W fun e w' => e = .returned (.agg #[.int .i64 (y.turns i).a, .int .i64 (y.turns i).b, .int .i64 (y.turns i).c, .int .i64 (y.turns i).d]) ∧ Below W.heap.size W w'))
  have HTI := hide (fun i W => times_any (x.part i) (y.turns i) N M W (hy.turns i) (hx.part i) (by omega))
  have HP := hide (show x.prod y = x.prodTo y 4 from rfl)
  clear hx hy h0 h4 hN
  go_enter Try.func32, Try.ntmps32
  go_wp2_with fail
  obtain ⟨W0, hW0⟩ : ∃ q : World, q = (((w.alloc (.cells #[.int .i64 x.a, .int .i64 x.b, .int .i64 x.c, .int .i64 x.d] 35)).alloc (.cells #[.int .i64 y.a, .int .i64 y.b, .int .i64 y.c, .int .i64 y.d] 35)).alloc (.cells #[.int .i64 0, .int .i64 0, .int .i64 0, .int .i64 0] 35)).alloc (.cells #[.int .i64 0, .int .i64 0, .int .i64 0, .int .i64 0] 35) := ⟨_, rfl⟩
  rw [← hW0]
  have by0 : Box W0 (w.heap.size + 1) 35 #[.int .i64 y.a, .int .i64 y.b, .int .i64 y.c, .int .i64 y.d] := by rw [hW0]; exact ((Box.made (by simp)).alloc _).alloc _
  have bz0 : Box W0 (w.heap.size + 1 + 1) 35 #[.int .i64 0, .int .i64 0, .int .i64 0, .int .i64 0] := by rw [hW0]; exact (Box.made (by simp)).alloc _
  have bx0 : Box W0 (w.heap.size + 1 + 1 + 1) 35 #[.int .i64 (x.prodTo y 0).a, .int .i64 (x.prodTo y 0).b, .int .i64 (x.prodTo y 0).c, .int .i64 (x.prodTo y 0).d] := by rw [hW0]; exact Box.made (by simp)
  have hB0 : Below w.heap.size w W0 := by rw [hW0]; (repeat (first | (with_reducible exact Below.refl _ _) | (with_reducible refine Go.below_drewN ?_ _) | (with_reducible refine Below.drew ?_) | (with_reducible refine Below.alloc ?_ (by first | exact Nat.le_refl _ | (simp; done) | (simp; omega) | omega) _) | (with_reducible refine Below.setCell ?_ (by first | exact Nat.le_refl _ | (simp; done) | (simp; omega) | omega) _)))
  clear hW0
  go_loopw [17] (fun i wr => ∃ j : Nat, j ≤ 4 ∧ i = .int .i64 (j : Int) ∧ Box wr (w.heap.size + 1) 35 #[.int .i64 y.a, .int .i64 y.b, .int .i64 y.c, .int .i64 y.d] ∧ Box wr (w.heap.size + 1 + 1) 35 #[.int .i64 0, .int .i64 0, .int .i64 0, .int .i64 0] ∧ Box wr (w.heap.size + 1 + 1 + 1) 35 #[.int .i64 (x.prodTo y j).a, .int .i64 (x.prodTo y j).b, .int .i64 (x.prodTo y j).c, .int .i64 (x.prodTo y j).d] ∧ Below w.heap.size w wr) (fun i _ => 4 - (Go.RowKit.intOf i).toNat)
  case atStart => exact ⟨0, by decide, rfl, by0, bz0, bx0, hB0⟩
  case round =>
    clear by0 bz0 bx0 hB0
    obtain ⟨j, hj, rfl, bY, bz, bx, hB⟩ := hrel
    obtain ⟨wA, rfl⟩ : ∃ q : World, q = wr := ⟨_, rfl⟩
    obtain ⟨s, hs⟩ : ∃ s, x.prodTo y j = s := ⟨_, rfl⟩
    rw [hs] at bx
    by_cases hlt : j < 4
    · have hltz : (j : Int) < 4 := by omega
      have HSS := hide (show x.prodTo y (j + 1) = s.add (Num.times (x.part j) (y.turns j)) from by rw [← hs]; rfl)
      have HTJ := hide (fun W => HT.out j hlt W)
      have HTT := hide (fun W => HTI.out j W)
      have HS1 := hide (show s.Within 9000000000000000000 from by rw [← hs]; exact HPB.out j hj)
      have HS2 := hide (show (s.add (Num.times (x.part j) (y.turns j))).Within 9000000000000000000 from by rw [← HSS.out]; exact HPB.out (j + 1) hlt)
      have HPT := hide (show x.part j = if j = 0 then x.a else if j = 1 then x.b else if j = 2 then x.c else x.d from rfl)
      obtain ⟨u, hu⟩ : ∃ u, u = Num.times (x.part j) (y.turns j) := ⟨_, rfl⟩
      have HU := hide (show (⟨x.part j * (y.turns j).a, x.part j * (y.turns j).b, x.part j * (y.turns j).c, x.part j * (y.turns j).d⟩ : Num) = u from by rw [hu]; rfl)
      rw [show x.part j * (y.turns j).a = u.a from by rw [hu]; rfl, show x.part j * (y.turns j).b = u.b from by rw [hu]; rfl, show x.part j * (y.turns j).c = u.c from by rw [hu]; rfl, show x.part j * (y.turns j).d = u.d from by rw [hu]; rfl] at HTT
      rw [← hu] at HSS HS2
      have HSU := hide (sum_two s u)
      have HSB := hide (fun k (hk : k ≤ 2) => (show (sumF (fun i => if i = 0 then s else u) k).Within 9000000000000000000 from by
        match k, hk with
        | 0, _ =>
          show Num.zero.Within 9000000000000000000
          exact ⟨⟨by decide, by decide⟩, ⟨by decide, by decide⟩, ⟨by decide, by decide⟩, ⟨by decide, by decide⟩⟩
        | 1, _ =>
          have e : sumF (fun i => if i = 0 then s else u) 1 = s := by apply Num.same <;> simp [sumF, Num.add, Num.zero]
          rw [e]; exact HS1.out
        | 2, _ => rw [HSU.out]; exact HS2.out))
      obtain ⟨tt, htt⟩ : ∃ tt, tt = s.add u := ⟨_, rfl⟩
      rw [← htt] at HSS HSU
      generalize hpp : x.part j = pp at *
      clear hs hu htt HS1 HS2 HU
      go_upto_region 4 with fail
      go_cut [6, 7, 20] (fun s6 s7 _ wx => s6 = .int .i64 (j : Int) ∧ s7 = .int .i64 pp ∧ wx = wA)
      case first =>
        have hpe : (#[Value.int .i64 x.a, .int .i64 x.b, .int .i64 x.c, .int .i64 x.d] : Array Value)[j]? = some (.int .i64 pp) := by
          rw [HPT.out]
          obtain rfl | rfl | rfl | rfl : j = 0 ∨ j = 1 ∨ j = 2 ∨ j = 3 := by omega
          all_goals rfl
        go_wp2_with (refine wpList_index_four rfl (.tmp 16) (.tmp 17) rfl #[.int .i64 x.a, .int .i64 x.b, .int .i64 x.c, .int .i64 x.d] j (.int .i64 pp) rfl rfl hlt rfl hpe rfl ?_)
        go_meet
        case rel => exact ⟨rfl, rfl, rfl⟩
      case rest =>
        obtain ⟨rfl, rfl, rfl⟩ := hcut
        obtain ⟨wB, rfl⟩ : ∃ q : World, q = wc := ⟨_, rfl⟩
        have hlY := bY.lt
        have hlX := bx.lt
        clear HPT hpp
        have bX := bz
        obtain ⟨z0, z1, z2, z3, f0, f1, f2, f3, hz⟩ := bx.cells4
        obtain ⟨e0, e1, e2, e3, -, -, -, -, he⟩ := bY.cells4
        go_upto_region 5 with fail
        refine wp_region_held_drew (S := fun w' => w'.cell? ⟨w.heap.size + 1, 0, none⟩ = some (.int .i64 y.a) ∧ w'.cell? ⟨w.heap.size + 1, 1, none⟩ = some (.int .i64 y.b) ∧ w'.cell? ⟨w.heap.size + 1, 2, none⟩ = some (.int .i64 y.c) ∧ w'.cell? ⟨w.heap.size + 1, 3, none⟩ = some (.int .i64 y.d)) (by kernel_rfl) ⟨e0, e1, e2, e3⟩ (fun hHeld => ?_)
        refine wpAnyH_take (i := 1) (oi := ⟨some 22, _, _, _, _, _⟩) (v := ?_) rfl (by kernel_rfl) (by kernel_rfl) (by kernel_rfl) (fun _ _ _ h => h) (Or.inl ⟨by rfl, ?_⟩) (by assumption) ?_
        rotate_left
        · (intro w' hSw; (try dsimp only at hSw); go_simp <;> (with_reducible rfl))
        try simp only [Act.put, List.setIfInBounds_toArray, List.set_cons_zero, List.set_cons_succ]
        refine wpAnyH_take (i := 2) (oi := ⟨some 23, _, _, _, _, _⟩) (v := ?_) rfl (by kernel_rfl) (by kernel_rfl) (by kernel_rfl) (fun _ _ _ h => h) (Or.inl ⟨by rfl, ?_⟩) (by assumption) ?_
        rotate_left
        · (intro w' hSw; (try dsimp only at hSw); go_simp <;> (with_reducible rfl))
        try simp only [Act.put, List.setIfInBounds_toArray, List.set_cons_zero, List.set_cons_succ]
        refine wpAnyH_take (i := 3) (oi := ⟨some 24, _, _, _, _, _⟩) (v := ?_) rfl (by kernel_rfl) (by kernel_rfl) (by kernel_rfl) (fun _ _ _ h => h) (Or.inl ⟨by rfl, ?_⟩) (by assumption) ?_
        rotate_left
        · (intro w' hSw; (try dsimp only at hSw); go_simp <;> (with_reducible rfl))
        try simp only [Act.put, List.setIfInBounds_toArray, List.set_cons_zero, List.set_cons_succ]
        refine wpAnyH_ready (rs := [0, 4]) (by kernel_rfl) (by simp) ?_
        refine AllReadyH.cons (o := ⟨some 21, _, _, _, _, _⟩) rfl (fun K' hK => ?_) (AllReadyH.cons (o := ⟨some 25, _, _, _, _, _⟩) rfl (fun K' hK => ?_) AllReadyH.nil)
        · skip
          go_simp
          refine hK.out _ _ ⟨e0, e1, e2, e3⟩ (fun hHeld => ?_)
          clear hK K'
          try simp only [Act.put, List.setIfInBounds_toArray, List.set_cons_zero, List.set_cons_succ]
          refine wpAnyH_ready (rs := [4]) (by kernel_rfl) (by simp) ?_
          refine AllReadyH.cons (o := ⟨some 25, _, _, _, _, _⟩) rfl (fun K' hK => ?_) AllReadyH.nil
          go_simp
          go_at_call 23
          refine (HTJ.out _).mono ?_
          rintro r v2 ⟨rfl, hb2⟩
          have hc2 : Below wB.heap.size wB v2 := by first | exact hb2 | exact below_of_drew hb2 | exact below_of_drew (below_of_drew hb2)
          have bx2 := bx.below hc2
          have bY2 := bY.below hc2
          have bz2 := bz.below hc2
          have bX2 := bX.below hc2
          have hB2 := hB.trans (hc2.mono hB.size)
          clear z0 z1 z2 z3 f0 f1 f2 f3 hz e0 e1 e2 e3 he
          obtain ⟨z0, z1, z2, z3, f0, f1, f2, f3, hz⟩ := bx2.cells4
          obtain ⟨e0, e1, e2, e3, -, -, -, -, he⟩ := bY2.cells4
          go_wp2_with fail
          refine hK.out _ _ ⟨e0, e1, e2, e3⟩ (fun hHeld => ?_)
          clear hK K'
          try simp only [Act.put, List.setIfInBounds_toArray, List.set_cons_zero, List.set_cons_succ]
          refine wpAnyH_ready (rs := [5]) (by kernel_rfl) (by simp) ?_
          refine AllReadyH.cons (o := ⟨some 26, _, _, _, _, _⟩) rfl (fun K' hK => ?_) AllReadyH.nil
          go_simp
          go_at_call 52
          refine (HTT.out _).mono ?_
          rintro r v3 ⟨rfl, hb3⟩
          have hc3 : Below v2.heap.size v2 v3 := by first | exact hb3 | exact below_of_drew hb3 | exact below_of_drew (below_of_drew hb3)
          have bx3 := bx2.below hc3
          have bY3 := bY2.below hc3
          have bz3 := bz2.below hc3
          have bX3 := bX2.below hc3
          have hB3 := hB2.trans (hc3.mono hB2.size)
          clear z0 z1 z2 z3 f0 f1 f2 f3 hz e0 e1 e2 e3 he
          obtain ⟨z0, z1, z2, z3, f0, f1, f2, f3, hz⟩ := bx3.cells4
          obtain ⟨e0, e1, e2, e3, -, -, -, -, he⟩ := bY3.cells4
          go_wp2_with fail
          refine hK.out _ _ ⟨e0, e1, e2, e3⟩ (fun hHeld => ?_)
          clear hK K'
          try simp only [Act.put, List.setIfInBounds_toArray, List.set_cons_zero, List.set_cons_succ]
          refine wpAnyH_ready (rs := [6]) (by kernel_rfl) (by simp) ?_
          refine AllReadyH.cons (o := ⟨some 27, _, _, _, _, _⟩) rfl (fun K' hK => ?_) AllReadyH.nil
          go_simp
          obtain ⟨v4, hv4⟩ : ∃ q : World, q = v3.alloc (.cells #[.int .i64 s.a, .int .i64 s.b, .int .i64 s.c, .int .i64 s.d, .int .i64 u.a, .int .i64 u.b, .int .i64 u.c, .int .i64 u.d] 35) := ⟨_, rfl⟩
          have bx4 := bx3.alloc (.cells #[.int .i64 s.a, .int .i64 s.b, .int .i64 s.c, .int .i64 s.d, .int .i64 u.a, .int .i64 u.b, .int .i64 u.c, .int .i64 u.d] 35)
          have bY4 := bY3.alloc (.cells #[.int .i64 s.a, .int .i64 s.b, .int .i64 s.c, .int .i64 s.d, .int .i64 u.a, .int .i64 u.b, .int .i64 u.c, .int .i64 u.d] 35)
          have bz4 := bz3.alloc (.cells #[.int .i64 s.a, .int .i64 s.b, .int .i64 s.c, .int .i64 s.d, .int .i64 u.a, .int .i64 u.b, .int .i64 u.c, .int .i64 u.d] 35)
          have bX4 := bX3.alloc (.cells #[.int .i64 s.a, .int .i64 s.b, .int .i64 s.c, .int .i64 s.d, .int .i64 u.a, .int .i64 u.b, .int .i64 u.c, .int .i64 u.d] 35)
          have hB4 := hB3.alloc hB3.size (.cells #[.int .i64 s.a, .int .i64 s.b, .int .i64 s.c, .int .i64 s.d, .int .i64 u.a, .int .i64 u.b, .int .i64 u.c, .int .i64 u.d] 35)
          have bN4 : Box v4 v3.heap.size 35 #[.int .i64 s.a, .int .i64 s.b, .int .i64 s.c, .int .i64 s.d, .int .i64 u.a, .int .i64 u.b, .int .i64 u.c, .int .i64 u.d] := by rw [hv4]; exact Box.made rfl
          clear z0 z1 z2 z3 f0 f1 f2 f3 hz e0 e1 e2 e3 he
          obtain ⟨z0, z1, z2, z3, f0, f1, f2, f3, hz⟩ := bx4.cells4
          obtain ⟨e0, e1, e2, e3, -, -, -, -, he⟩ := bY4.cells4
          refine hK.out _ _ ⟨e0, e1, e2, e3⟩ (fun hHeld => ?_)
          clear hK K'
          try simp only [Act.put, List.setIfInBounds_toArray, List.set_cons_zero, List.set_cons_succ]
          refine wpAnyH_ready (rs := [7]) (by kernel_rfl) (by simp) ?_
          refine AllReadyH.cons (o := ⟨some 28, _, _, _, _, _⟩) rfl (fun K' hK => ?_) AllReadyH.nil
          go_simp
          go_at_call 25
          refine (sum_any (some ⟨v3.heap.size, 0, none⟩) 2 2 (fun i => if i = 0 then s else u) 9000000000000000000 _ (by decide) (NumsAt.two (by first | exact Box.made rfl | (rw [← hv4]; exact bN4))) HSB.out (by decide)).mono ?_
          rintro r v5 ⟨rfl, hb5⟩
          rw [HSU.out]
          have hc5 : Below (v3.alloc (.cells #[.int .i64 s.a, .int .i64 s.b, .int .i64 s.c, .int .i64 s.d, .int .i64 u.a, .int .i64 u.b, .int .i64 u.c, .int .i64 u.d] 35)).heap.size (v3.alloc (.cells #[.int .i64 s.a, .int .i64 s.b, .int .i64 s.c, .int .i64 s.d, .int .i64 u.a, .int .i64 u.b, .int .i64 u.c, .int .i64 u.d] 35)) v5 := by first | exact hb5 | exact below_of_drew hb5 | exact ⟨hb5.os, hb5.tape, hb5.output, hb5.size, hb5.block⟩
          have bx5 := bx4.below hc5
          have bY5 := bY4.below hc5
          have bz5 := bz4.below hc5
          have bX5 := bX4.below hc5
          have hB5 := hB4.trans (hc5.mono hB4.size)
          clear z0 z1 z2 z3 f0 f1 f2 f3 hz e0 e1 e2 e3 he
          obtain ⟨z0, z1, z2, z3, f0, f1, f2, f3, hz⟩ := bx5.cells4
          obtain ⟨e0, e1, e2, e3, -, -, -, -, he⟩ := bY5.cells4
          go_wp2_with fail
          refine hK.out _ _ ⟨e0, e1, e2, e3⟩ (fun hHeld => ?_)
          clear hK K'
          try simp only [Act.put, List.setIfInBounds_toArray, List.set_cons_zero, List.set_cons_succ]
          refine wpAnyH_ready (rs := [8]) (by kernel_rfl) (by simp) ?_
          refine AllReadyH.cons (o := ⟨none, _, _, _, _, _⟩) rfl (fun K' hK => ?_) AllReadyH.nil
          go_simp
          have bY6 := bY5.other4 (c := w.heap.size + 1 + 1 + 1) (by omega) (.int .i64 tt.a) (.int .i64 tt.b) (.int .i64 tt.c) (.int .i64 tt.d)
          refine hK.out _ _ (by obtain ⟨e0, e1, e2, e3, -⟩ := bY6.cells4; exact ⟨e0, e1, e2, e3⟩) (fun hHeld => ?_)
          clear hK K'
          try simp only [Act.put, List.setIfInBounds_toArray, List.set_cons_zero, List.set_cons_succ]
          have HX6 := hide (bx5.put4 (.int .i64 tt.a) (.int .i64 tt.b) (.int .i64 tt.c) (.int .i64 tt.d))
          have HZ6 := hide (bz5.other4 (c := w.heap.size + 1 + 1 + 1) (by omega) (.int .i64 tt.a) (.int .i64 tt.b) (.int .i64 tt.c) (.int .i64 tt.d))
          have HL6 := hide (Below.put4 (c := w.heap.size + 1 + 1 + 1) hB5 (by omega) (.int .i64 tt.a) (.int .i64 tt.b) (.int .i64 tt.c) (.int .i64 tt.d))
          have HY6 := hide bY6
          clear z0 z1 z2 z3 f0 f1 f2 f3 hz e0 e1 e2 e3 he
          refine wpAnyH_done (by kernel_rfl) ?_ _
          go_wp2_with fail
          go_roundw
          case rel => exact ⟨j + 1, by omega, by go_num, HY6.out, HZ6.out, by rw [HSS.out]; exact HX6.out, HL6.out⟩
          case measure => simp [Go.RowKit.intOf]; omega
        · skip
          go_simp
          go_at_call 23
          refine (HTJ.out _).mono ?_
          rintro r v7 ⟨rfl, hb7⟩
          have hc7 : Below wB.heap.size wB v7 := by first | exact hb7 | exact below_of_drew hb7 | exact below_of_drew (below_of_drew hb7)
          have bx7 := bx.below hc7
          have bY7 := bY.below hc7
          have bz7 := bz.below hc7
          have bX7 := bX.below hc7
          have hB7 := hB.trans (hc7.mono hB.size)
          clear z0 z1 z2 z3 f0 f1 f2 f3 hz e0 e1 e2 e3 he
          obtain ⟨z0, z1, z2, z3, f0, f1, f2, f3, hz⟩ := bx7.cells4
          obtain ⟨e0, e1, e2, e3, -, -, -, -, he⟩ := bY7.cells4
          go_wp2_with fail
          refine hK.out _ _ ⟨e0, e1, e2, e3⟩ (fun hHeld => ?_)
          clear hK K'
          try simp only [Act.put, List.setIfInBounds_toArray, List.set_cons_zero, List.set_cons_succ]
          refine wpAnyH_ready (rs := [0, 5]) (by kernel_rfl) (by simp) ?_
          refine AllReadyH.cons (o := ⟨some 21, _, _, _, _, _⟩) rfl (fun K' hK => ?_) (AllReadyH.cons (o := ⟨some 26, _, _, _, _, _⟩) rfl (fun K' hK => ?_) AllReadyH.nil)
          · skip
            go_simp
            refine hK.out _ _ ⟨e0, e1, e2, e3⟩ (fun hHeld => ?_)
            clear hK K'
            try simp only [Act.put, List.setIfInBounds_toArray, List.set_cons_zero, List.set_cons_succ]
            refine wpAnyH_ready (rs := [5]) (by kernel_rfl) (by simp) ?_
            refine AllReadyH.cons (o := ⟨some 26, _, _, _, _, _⟩) rfl (fun K' hK => ?_) AllReadyH.nil
            go_simp
            go_at_call 52
            refine (HTT.out _).mono ?_
            rintro r v9 ⟨rfl, hb9⟩
            have hc9 : Below v7.heap.size v7 v9 := by first | exact hb9 | exact below_of_drew hb9 | exact below_of_drew (below_of_drew hb9)
            have bx9 := bx7.below hc9
            have bY9 := bY7.below hc9
            have bz9 := bz7.below hc9
            have bX9 := bX7.below hc9
            have hB9 := hB7.trans (hc9.mono hB7.size)
            clear z0 z1 z2 z3 f0 f1 f2 f3 hz e0 e1 e2 e3 he
            obtain ⟨z0, z1, z2, z3, f0, f1, f2, f3, hz⟩ := bx9.cells4
            obtain ⟨e0, e1, e2, e3, -, -, -, -, he⟩ := bY9.cells4
            go_wp2_with fail
            refine hK.out _ _ ⟨e0, e1, e2, e3⟩ (fun hHeld => ?_)
            clear hK K'
            try simp only [Act.put, List.setIfInBounds_toArray, List.set_cons_zero, List.set_cons_succ]
            refine wpAnyH_ready (rs := [6]) (by kernel_rfl) (by simp) ?_
            refine AllReadyH.cons (o := ⟨some 27, _, _, _, _, _⟩) rfl (fun K' hK => ?_) AllReadyH.nil
            go_simp
            obtain ⟨v10, hv10⟩ : ∃ q : World, q = v9.alloc (.cells #[.int .i64 s.a, .int .i64 s.b, .int .i64 s.c, .int .i64 s.d, .int .i64 u.a, .int .i64 u.b, .int .i64 u.c, .int .i64 u.d] 35) := ⟨_, rfl⟩
            have bx10 := bx9.alloc (.cells #[.int .i64 s.a, .int .i64 s.b, .int .i64 s.c, .int .i64 s.d, .int .i64 u.a, .int .i64 u.b, .int .i64 u.c, .int .i64 u.d] 35)
            have bY10 := bY9.alloc (.cells #[.int .i64 s.a, .int .i64 s.b, .int .i64 s.c, .int .i64 s.d, .int .i64 u.a, .int .i64 u.b, .int .i64 u.c, .int .i64 u.d] 35)
            have bz10 := bz9.alloc (.cells #[.int .i64 s.a, .int .i64 s.b, .int .i64 s.c, .int .i64 s.d, .int .i64 u.a, .int .i64 u.b, .int .i64 u.c, .int .i64 u.d] 35)
            have bX10 := bX9.alloc (.cells #[.int .i64 s.a, .int .i64 s.b, .int .i64 s.c, .int .i64 s.d, .int .i64 u.a, .int .i64 u.b, .int .i64 u.c, .int .i64 u.d] 35)
            have hB10 := hB9.alloc hB9.size (.cells #[.int .i64 s.a, .int .i64 s.b, .int .i64 s.c, .int .i64 s.d, .int .i64 u.a, .int .i64 u.b, .int .i64 u.c, .int .i64 u.d] 35)
            have bN10 : Box v10 v9.heap.size 35 #[.int .i64 s.a, .int .i64 s.b, .int .i64 s.c, .int .i64 s.d, .int .i64 u.a, .int .i64 u.b, .int .i64 u.c, .int .i64 u.d] := by rw [hv10]; exact Box.made rfl
            clear z0 z1 z2 z3 f0 f1 f2 f3 hz e0 e1 e2 e3 he
            obtain ⟨z0, z1, z2, z3, f0, f1, f2, f3, hz⟩ := bx10.cells4
            obtain ⟨e0, e1, e2, e3, -, -, -, -, he⟩ := bY10.cells4
            refine hK.out _ _ ⟨e0, e1, e2, e3⟩ (fun hHeld => ?_)
            clear hK K'
            try simp only [Act.put, List.setIfInBounds_toArray, List.set_cons_zero, List.set_cons_succ]
            refine wpAnyH_ready (rs := [7]) (by kernel_rfl) (by simp) ?_
            refine AllReadyH.cons (o := ⟨some 28, _, _, _, _, _⟩) rfl (fun K' hK => ?_) AllReadyH.nil
            go_simp
            go_at_call 25
            refine (sum_any (some ⟨v9.heap.size, 0, none⟩) 2 2 (fun i => if i = 0 then s else u) 9000000000000000000 _ (by decide) (NumsAt.two (by first | exact Box.made rfl | (rw [← hv10]; exact bN10))) HSB.out (by decide)).mono ?_
            rintro r v11 ⟨rfl, hb11⟩
            rw [HSU.out]
            have hc11 : Below (v9.alloc (.cells #[.int .i64 s.a, .int .i64 s.b, .int .i64 s.c, .int .i64 s.d, .int .i64 u.a, .int .i64 u.b, .int .i64 u.c, .int .i64 u.d] 35)).heap.size (v9.alloc (.cells #[.int .i64 s.a, .int .i64 s.b, .int .i64 s.c, .int .i64 s.d, .int .i64 u.a, .int .i64 u.b, .int .i64 u.c, .int .i64 u.d] 35)) v11 := by first | exact hb11 | exact below_of_drew hb11 | exact ⟨hb11.os, hb11.tape, hb11.output, hb11.size, hb11.block⟩
            have bx11 := bx10.below hc11
            have bY11 := bY10.below hc11
            have bz11 := bz10.below hc11
            have bX11 := bX10.below hc11
            have hB11 := hB10.trans (hc11.mono hB10.size)
            clear z0 z1 z2 z3 f0 f1 f2 f3 hz e0 e1 e2 e3 he
            obtain ⟨z0, z1, z2, z3, f0, f1, f2, f3, hz⟩ := bx11.cells4
            obtain ⟨e0, e1, e2, e3, -, -, -, -, he⟩ := bY11.cells4
            go_wp2_with fail
            refine hK.out _ _ ⟨e0, e1, e2, e3⟩ (fun hHeld => ?_)
            clear hK K'
            try simp only [Act.put, List.setIfInBounds_toArray, List.set_cons_zero, List.set_cons_succ]
            refine wpAnyH_ready (rs := [8]) (by kernel_rfl) (by simp) ?_
            refine AllReadyH.cons (o := ⟨none, _, _, _, _, _⟩) rfl (fun K' hK => ?_) AllReadyH.nil
            go_simp
            have bY12 := bY11.other4 (c := w.heap.size + 1 + 1 + 1) (by omega) (.int .i64 tt.a) (.int .i64 tt.b) (.int .i64 tt.c) (.int .i64 tt.d)
            refine hK.out _ _ (by obtain ⟨e0, e1, e2, e3, -⟩ := bY12.cells4; exact ⟨e0, e1, e2, e3⟩) (fun hHeld => ?_)
            clear hK K'
            try simp only [Act.put, List.setIfInBounds_toArray, List.set_cons_zero, List.set_cons_succ]
            have HX12 := hide (bx11.put4 (.int .i64 tt.a) (.int .i64 tt.b) (.int .i64 tt.c) (.int .i64 tt.d))
            have HZ12 := hide (bz11.other4 (c := w.heap.size + 1 + 1 + 1) (by omega) (.int .i64 tt.a) (.int .i64 tt.b) (.int .i64 tt.c) (.int .i64 tt.d))
            have HL12 := hide (Below.put4 (c := w.heap.size + 1 + 1 + 1) hB11 (by omega) (.int .i64 tt.a) (.int .i64 tt.b) (.int .i64 tt.c) (.int .i64 tt.d))
            have HY12 := hide bY12
            clear z0 z1 z2 z3 f0 f1 f2 f3 hz e0 e1 e2 e3 he
            refine wpAnyH_done (by kernel_rfl) ?_ _
            go_wp2_with fail
            go_roundw
            case rel => exact ⟨j + 1, by omega, by go_num, HY12.out, HZ12.out, by rw [HSS.out]; exact HX12.out, HL12.out⟩
            case measure => simp [Go.RowKit.intOf]; omega
          · skip
            go_simp
            go_at_call 52
            refine (HTT.out _).mono ?_
            rintro r v13 ⟨rfl, hb13⟩
            have hc13 : Below v7.heap.size v7 v13 := by first | exact hb13 | exact below_of_drew hb13 | exact below_of_drew (below_of_drew hb13)
            have bx13 := bx7.below hc13
            have bY13 := bY7.below hc13
            have bz13 := bz7.below hc13
            have bX13 := bX7.below hc13
            have hB13 := hB7.trans (hc13.mono hB7.size)
            clear z0 z1 z2 z3 f0 f1 f2 f3 hz e0 e1 e2 e3 he
            obtain ⟨z0, z1, z2, z3, f0, f1, f2, f3, hz⟩ := bx13.cells4
            obtain ⟨e0, e1, e2, e3, -, -, -, -, he⟩ := bY13.cells4
            go_wp2_with fail
            refine hK.out _ _ ⟨e0, e1, e2, e3⟩ (fun hHeld => ?_)
            clear hK K'
            try simp only [Act.put, List.setIfInBounds_toArray, List.set_cons_zero, List.set_cons_succ]
            refine wpAnyH_ready (rs := [0]) (by kernel_rfl) (by simp) ?_
            refine AllReadyH.cons (o := ⟨some 21, _, _, _, _, _⟩) rfl (fun K' hK => ?_) AllReadyH.nil
            go_simp
            refine hK.out _ _ ⟨e0, e1, e2, e3⟩ (fun hHeld => ?_)
            clear hK K'
            try simp only [Act.put, List.setIfInBounds_toArray, List.set_cons_zero, List.set_cons_succ]
            refine wpAnyH_ready (rs := [6]) (by kernel_rfl) (by simp) ?_
            refine AllReadyH.cons (o := ⟨some 27, _, _, _, _, _⟩) rfl (fun K' hK => ?_) AllReadyH.nil
            go_simp
            obtain ⟨v15, hv15⟩ : ∃ q : World, q = v13.alloc (.cells #[.int .i64 s.a, .int .i64 s.b, .int .i64 s.c, .int .i64 s.d, .int .i64 u.a, .int .i64 u.b, .int .i64 u.c, .int .i64 u.d] 35) := ⟨_, rfl⟩
            have bx15 := bx13.alloc (.cells #[.int .i64 s.a, .int .i64 s.b, .int .i64 s.c, .int .i64 s.d, .int .i64 u.a, .int .i64 u.b, .int .i64 u.c, .int .i64 u.d] 35)
            have bY15 := bY13.alloc (.cells #[.int .i64 s.a, .int .i64 s.b, .int .i64 s.c, .int .i64 s.d, .int .i64 u.a, .int .i64 u.b, .int .i64 u.c, .int .i64 u.d] 35)
            have bz15 := bz13.alloc (.cells #[.int .i64 s.a, .int .i64 s.b, .int .i64 s.c, .int .i64 s.d, .int .i64 u.a, .int .i64 u.b, .int .i64 u.c, .int .i64 u.d] 35)
            have bX15 := bX13.alloc (.cells #[.int .i64 s.a, .int .i64 s.b, .int .i64 s.c, .int .i64 s.d, .int .i64 u.a, .int .i64 u.b, .int .i64 u.c, .int .i64 u.d] 35)
            have hB15 := hB13.alloc hB13.size (.cells #[.int .i64 s.a, .int .i64 s.b, .int .i64 s.c, .int .i64 s.d, .int .i64 u.a, .int .i64 u.b, .int .i64 u.c, .int .i64 u.d] 35)
            have bN15 : Box v15 v13.heap.size 35 #[.int .i64 s.a, .int .i64 s.b, .int .i64 s.c, .int .i64 s.d, .int .i64 u.a, .int .i64 u.b, .int .i64 u.c, .int .i64 u.d] := by rw [hv15]; exact Box.made rfl
            clear z0 z1 z2 z3 f0 f1 f2 f3 hz e0 e1 e2 e3 he
            obtain ⟨z0, z1, z2, z3, f0, f1, f2, f3, hz⟩ := bx15.cells4
            obtain ⟨e0, e1, e2, e3, -, -, -, -, he⟩ := bY15.cells4
            refine hK.out _ _ ⟨e0, e1, e2, e3⟩ (fun hHeld => ?_)
            clear hK K'
            try simp only [Act.put, List.setIfInBounds_toArray, List.set_cons_zero, List.set_cons_succ]
            refine wpAnyH_ready (rs := [7]) (by kernel_rfl) (by simp) ?_
            refine AllReadyH.cons (o := ⟨some 28, _, _, _, _, _⟩) rfl (fun K' hK => ?_) AllReadyH.nil
            go_simp
            go_at_call 25
            refine (sum_any (some ⟨v13.heap.size, 0, none⟩) 2 2 (fun i => if i = 0 then s else u) 9000000000000000000 _ (by decide) (NumsAt.two (by first | exact Box.made rfl | (rw [← hv15]; exact bN15))) HSB.out (by decide)).mono ?_
            rintro r v16 ⟨rfl, hb16⟩
            rw [HSU.out]
            have hc16 : Below (v13.alloc (.cells #[.int .i64 s.a, .int .i64 s.b, .int .i64 s.c, .int .i64 s.d, .int .i64 u.a, .int .i64 u.b, .int .i64 u.c, .int .i64 u.d] 35)).heap.size (v13.alloc (.cells #[.int .i64 s.a, .int .i64 s.b, .int .i64 s.c, .int .i64 s.d, .int .i64 u.a, .int .i64 u.b, .int .i64 u.c, .int .i64 u.d] 35)) v16 := by first | exact hb16 | exact below_of_drew hb16 | exact ⟨hb16.os, hb16.tape, hb16.output, hb16.size, hb16.block⟩
            have bx16 := bx15.below hc16
            have bY16 := bY15.below hc16
            have bz16 := bz15.below hc16
            have bX16 := bX15.below hc16
            have hB16 := hB15.trans (hc16.mono hB15.size)
            clear z0 z1 z2 z3 f0 f1 f2 f3 hz e0 e1 e2 e3 he
            obtain ⟨z0, z1, z2, z3, f0, f1, f2, f3, hz⟩ := bx16.cells4
            obtain ⟨e0, e1, e2, e3, -, -, -, -, he⟩ := bY16.cells4
            go_wp2_with fail
            refine hK.out _ _ ⟨e0, e1, e2, e3⟩ (fun hHeld => ?_)
            clear hK K'
            try simp only [Act.put, List.setIfInBounds_toArray, List.set_cons_zero, List.set_cons_succ]
            refine wpAnyH_ready (rs := [8]) (by kernel_rfl) (by simp) ?_
            refine AllReadyH.cons (o := ⟨none, _, _, _, _, _⟩) rfl (fun K' hK => ?_) AllReadyH.nil
            go_simp
            have bY17 := bY16.other4 (c := w.heap.size + 1 + 1 + 1) (by omega) (.int .i64 tt.a) (.int .i64 tt.b) (.int .i64 tt.c) (.int .i64 tt.d)
            refine hK.out _ _ (by obtain ⟨e0, e1, e2, e3, -⟩ := bY17.cells4; exact ⟨e0, e1, e2, e3⟩) (fun hHeld => ?_)
            clear hK K'
            try simp only [Act.put, List.setIfInBounds_toArray, List.set_cons_zero, List.set_cons_succ]
            have HX17 := hide (bx16.put4 (.int .i64 tt.a) (.int .i64 tt.b) (.int .i64 tt.c) (.int .i64 tt.d))
            have HZ17 := hide (bz16.other4 (c := w.heap.size + 1 + 1 + 1) (by omega) (.int .i64 tt.a) (.int .i64 tt.b) (.int .i64 tt.c) (.int .i64 tt.d))
            have HL17 := hide (Below.put4 (c := w.heap.size + 1 + 1 + 1) hB16 (by omega) (.int .i64 tt.a) (.int .i64 tt.b) (.int .i64 tt.c) (.int .i64 tt.d))
            have HY17 := hide bY17
            clear z0 z1 z2 z3 f0 f1 f2 f3 hz e0 e1 e2 e3 he
            refine wpAnyH_done (by kernel_rfl) ?_ _
            go_wp2_with fail
            go_roundw
            case rel => exact ⟨j + 1, by omega, by go_num, HY17.out, HZ17.out, by rw [HSS.out]; exact HX17.out, HL17.out⟩
            case measure => simp [Go.RowKit.intOf]; omega
    · obtain rfl : j = 4 := by omega
      have HR := hide (HP.out.trans hs)
      obtain ⟨x0, x1, x2, x3, f0, f1, f2, f3, hlx⟩ := bx.cells4
      obtain ⟨y0, y1, y2, y3, g0, g1, g2, g3, hly⟩ := bz.cells4
      have HC := hide (bz.put4 (.int .i64 s.a) (.int .i64 s.b) (.int .i64 s.c) (.int .i64 s.d)).cells4
      have HBL := hide (Below.put4 (c := w.heap.size + 1 + 1) hB (by omega) (.int .i64 s.a) (.int .i64 s.b) (.int .i64 s.c) (.int .i64 s.d))
      clear bY bz bx hB hs
      go_wp2_with fail
      clear y0 y1 y2 y3
      obtain ⟨y0, y1, y2, y3, -⟩ := HC.out
      refine bodyPost_ret (v := .agg #[.int .i64 s.a, .int .i64 s.b, .int .i64 s.c, .int .i64 s.d]) ?_ rfl ⟨by rw [HR.out], HBL.out⟩
      simp [results, Try.results32, go_sem, y0, y1, y2, y3]
end Go.Proofs.Ytibdbopejnkefaa
/- Product of the reference. -/
namespace Go.Proofs.Ytibdbopejnkefaa
open Go.RowKit
end Go.Proofs.Ytibdbopejnkefaa
/- Arrays of 31 numbers, and of eight numbers of four parts: a whole block stored, a whole block loaded. -/
namespace Go.Proofs.Ytibdbopejnkefaa
open Go.RowKit

theorem setCells_row (b : Nat) (t : TypeId) : ∀ (l : List Value) (o : Nat) (w : World) (cs : Array Value), Box w b t cs → o + l.length ≤ cs.size →
    ∃ cs' : Array Value, Box (w.setCells b o l) b t cs' ∧ cs'.size = cs.size ∧ (∀ i, cs'[i]? = if o ≤ i ∧ i < o + l.length then l[i - o]? else cs[i]?) ∧ Only b w (w.setCells b o l)
  | [], o, w, cs, h, _ => ⟨cs, h, rfl, fun i => by rw [if_neg (by simp <;> omega)], Only.refl _ _⟩
  | v :: r, o, w, cs, h, hl => by
    obtain ⟨cs', h1, h2, h3, h4⟩ := setCells_row b t r (o + 1) (w.setCell ⟨b, o, none⟩ v) (cs.setIfInBounds o v) (h.set_ o v) (by simp at hl ⊢; omega)
    refine ⟨cs', h1, by simpa using h2, fun i => ?_, ((Only.refl _ _).set_ _ _).trans h4⟩
    rw [h3 i]
    simp only [List.length_cons] at hl ⊢
    by_cases e : i = o
    · subst e
      rw [if_neg (by omega), if_pos (by omega), Nat.sub_self]
      simp [Array.getElem?_setIfInBounds]
      omega
    · by_cases e2 : o + 1 ≤ i ∧ i < o + 1 + r.length
      · rw [if_pos e2, if_pos (by omega), show i - o = (i - (o + 1)) + 1 by omega, List.getElem?_cons_succ]
      · rw [if_neg e2, if_neg (by omega), Array.getElem?_setIfInBounds]
        rw [if_neg (by omega)]

section
variable {P : Program}
/-- A value of as many cells as a block has is stored into it: the block holds the value's cells; nothing else has turned. -/
theorem wpList_store_block {ops : Array Oper} {rest : List Oper} {op : Oper} {a : Act} {w : World} {Q : Exit → Act → World → Prop} (hgd : op.guard = none) (ty : TypeId) (x y : Operand) (ho : op.op = .store ty x y)
    (b : Nat) (t : TypeId) (n : Nat) (f0 f : Nat → Value) (cells : Array Value) (hx : a.eval x = .pointer (some ⟨b, 0, none⟩)) (hy : a.eval y = .agg cells)
    (hb : w.rowIs b t n f0) (hc : cells.size = n) (hi : (P.info? ty).map (·.size) = some n) (h1 : cells.all (·.oneCell') = true) (hf : ∀ i, i < n → cells[i]? = some (f i))
    (h : ∀ W, W.rowIs b t n f → Only b w W → wpList P ops Q rest (a.put op.dst undef) W) : wpList P ops Q (op :: rest) a w := by
  obtain ⟨cs, hbx, hs, -⟩ := hb
  have hb : Box w b t cs := hbx
  obtain ⟨cs', g1, g2, g3, g4⟩ := setCells_row b t cells.toList 0 w cs hb (by simp; omega)
  refine wpList_store_mid hgd ty x y ho b 0 cells hx hy (fun j hj => ⟨?_, hb.free _⟩) (by rw [hi, hc]) h1 (h _ ⟨cs', g1, by omega, fun i hi' => ?_⟩ g4)
  · rw [hb.at_, Array.getElem?_eq_getElem (by omega)]
    rfl
  · rw [g3 i, if_pos (by simp; omega)]
    simpa using hf i hi'
end

theorem Only.row {b c : Nat} {t : TypeId} {n : Nat} {f : Nat → Value} {a w : World} (h : Only b a w) (hr : a.rowIs c t n f) (hn : c ≠ b) : w.rowIs c t n f :=
  hr.of_block (h.block c hr.lt (fun e => hn (by injection e)))
theorem below_behind {w w1 : World} {o : Obj} (h : Below (w.alloc o).heap.size (w.alloc o) w1) : Below w.heap.size w w1 := ((Below.refl _ _).alloc (Nat.le_refl _) o).trans (h.mono (by simp))
def listF (l : List Int) (k : Nat) : Int := l.getD k 0
theorem IntsAt.of_list {w : World} {lo g : Nat} {t : TypeId} (l : List Int) (n : Nat) (hn : n = l.length) (h : Box w g t (l.map (Value.int .i64)).toArray) (hl : lo ≤ g) : IntsAt w lo (some ⟨g, 0, none⟩) n (listF l) := fun k hk => by
  subst hn
  refine ⟨g, 0, rfl, hl, h.lt, ?_⟩
  rw [Nat.zero_add, h.at_ k, List.getElem?_toArray, List.getElem?_map, List.getElem?_eq_getElem hk]
  simp [listF, hk]
/-- A whole row loaded. -/
theorem range_of_row {W : World} {b : Nat} {t : TypeId} {n : Nat} {f : Nat → Value} (hr : W.rowIs b t n f) : W.rangeAt b 0 ((List.range n).map f) := fun j v hv => by
  rw [List.getElem?_map] at hv
  by_cases hj : j < n
  · rw [List.getElem?_range hj] at hv
    rw [Nat.zero_add, hr.cell hj]
    exact hv
  · rw [List.getElem?_eq_none (by simpa using hj)] at hv
    cases hv
theorem results_cell1 {fn : Func} {p : Tmp} {ty : TypeId} (h : fn.results = #[.cell p ty]) (tmps : Array Value) (P : Program) (w : World) :
    (results fn tmps).run P w = ((asAddr (tmps.getD p undef)).run P w).andThen fun a w₁ => (loadVar ty a).run P w₁ := by
  simp only [results, h]
  simp [Sem.run_bind, Result.andThen]

/-- What an array of 31 numbers holds. -/
def arrF (S : Nat → Int) (j : Nat) : Value := .int .i64 (S j)
def arr31 (S : Nat → Int) : Array Value := ((List.range 31).map (arrF S)).toArray
theorem arr31_size (S : Nat → Int) : (arr31 S).size = 31 := by simp [arr31]
theorem arr31_at (S : Nat → Int) (i : Nat) (h : i < 31) : (arr31 S)[i]? = some (arrF S i) := by
  rw [arr31, List.getElem?_toArray, List.getElem?_map, List.getElem?_range h]
  rfl
theorem arr31_one (S : Nat → Int) : (arr31 S).all (·.oneCell') = true := by
  rw [Array.all_eq_true_iff_forall_mem]
  intro v hv
  obtain ⟨i, _, rfl⟩ := List.mem_map.1 (List.mem_toArray.1 hv)
  rfl
theorem info31 : (Try.prog.info? 85).map (·.size) = some 31 := by kernel_rfl
theorem run_load31 {W : World} {b : Nat} {S : Nat → Int} (hr : W.rowIs b 85 31 (arrF S)) : (loadVar 85 ⟨b, 0, none⟩).run Try.prog W = .ok (.agg (arr31 S)) W :=
  run_loadVar_mid (P := Try.prog) W b 0 85 ((List.range 31).map (arrF S)) _ (range_of_row hr) Try.underlying85 rfl (by rw [info31]; simp)
theorem result31 {fn : Func} {p : Tmp} {b : Nat} {S : Nat → Int} {W : World} (h : fn.results = #[.cell p 85]) (tmps : Array Value) (ht : tmps.getD p undef = .pointer (some ⟨b, 0, none⟩)) (hr : W.rowIs b 85 31 (arrF S)) :
    (results fn tmps).run Try.prog W = .ok (.agg (arr31 S)) W := by
  rw [results_cell1 h, ht]
  simp only [asAddr, Sem.run_pure, Result.andThen, run_load31 hr]
theorem wpList_load31 {ops : Array Oper} {rest : List Oper} {op : Oper} {a : Act} {w : World} {Q : Exit → Act → World → Prop} (hgd : op.guard = none) (x : Operand) (ho : op.op = .load 85 x)
    (b : Nat) (S : Nat → Int) (hx : a.eval x = .pointer (some ⟨b, 0, none⟩)) (hr : w.rowIs b 85 31 (arrF S))
    (h : wpList Try.prog ops Q rest (a.put op.dst (.agg (arr31 S))) w) : wpList Try.prog ops Q (op :: rest) a w :=
  wpList_load_mid hgd 85 x ho b 0 hx ((List.range 31).map (arrF S)) _ (range_of_row hr) Try.underlying85 rfl (by rw [info31]; simp) h
theorem wpList_store31 {ops : Array Oper} {rest : List Oper} {op : Oper} {a : Act} {w : World} {Q : Exit → Act → World → Prop} (hgd : op.guard = none) (x y : Operand) (ho : op.op = .store 85 x y)
    (b : Nat) (f0 : Nat → Value) (S : Nat → Int) (hx : a.eval x = .pointer (some ⟨b, 0, none⟩)) (hy : a.eval y = .agg (arr31 S)) (hb : w.rowIs b 85 31 f0)
    (h : ∀ W, W.rowIs b 85 31 (arrF S) → Only b w W → wpList Try.prog ops Q rest (a.put op.dst undef) W) : wpList Try.prog ops Q (op :: rest) a w :=
  wpList_store_block hgd 85 x y ho b 85 31 f0 (arrF S) (arr31 S) hx hy hb (arr31_size S) info31 (arr31_one S) (arr31_at S) h
theorem rowIs_arr31 (w : World) (S : Nat → Int) (b : Nat) (hb : b = w.heap.size) : (w.alloc (.cells (arr31 S) 85)).rowIs b 85 31 (arrF S) := by
  subst hb
  have := World.rowIs_alloc w (arr31 S) 85 (arrF S) (fun i hi => arr31_at S i (by rwa [arr31_size] at hi))
  rwa [arr31_size] at this
theorem rowIs_setI {w : World} {b : Nat} {S : Nat → Int} (h : w.rowIs b 85 31 (arrF S)) (k : Nat) (x : Int) : (w.setCell ⟨b, k, none⟩ (.int .i64 x)).rowIs b 85 31 (arrF fun j => if j = k then x else S j) :=
  (h.set k (.int .i64 x)).congr fun j _ => by
    show (if j = k then Value.int .i64 x else arrF S j) = arrF (fun j => if j = k then x else S j) j
    unfold arrF
    by_cases e : j = k
    · simp only [if_pos e]
    · simp only [if_neg e]
end Go.Proofs.Ytibdbopejnkefaa
/- SquareOf and Compared of the code. -/
namespace Go.Proofs.Ytibdbopejnkefaa
open Go.RowKit
theorem parts4 (M a b c d : Int) (g : Nat) (w : World) (hg : g = w.heap.size) (hM : 0 ≤ M ∧ M ≤ 9000000000000000000) :
    Calls Try.prog 51 #[.int .i64 M, .slice (some ⟨g, 0, none⟩) 4 4] (w.alloc (.cells #[.int .i64 a, .int .i64 b, .int .i64 c, .int .i64 d] 3)) fun e w' => e = .returned (.int .i64 (Num.err M ⟨a, b, c, d⟩)) ∧ w.alloc (.cells #[.int .i64 a, .int .i64 b, .int .i64 c, .int .i64 d] 3) = w' := by
  rw [← size4 M a b c d (listF [a, b, c, d]) rfl rfl rfl rfl]
  exact partsError_any M (some ⟨g, 0, none⟩) 4 4 (listF [a, b, c, d]) _ (by decide) hM (IntsAt.of_list [a, b, c, d] 4 rfl (Box.made hg) (Nat.zero_le _))
def sqRP (x : Num) : Int := if x.err 1000000 = 0 then x.sqP else 0
def sqRQ (x : Num) : Int := if x.err 1000000 = 0 then x.sqQ else 0
/-- The error of two squares that are compared, and what Compared hands back. -/
def cmE (a b c d : Int) : Int := Num.err 10000000000000 ⟨a, b, c, d⟩
def cmR (a b c d : Int) : Int := if cmE a b c d = 0 then compI (a - c) (d - b) else 0
end Go.Proofs.Ytibdbopejnkefaa
