/- Lemmas: Sd, Ua. -/
import Derived.BigQuiet
import Derived.Deep.RegionHeld3
import Derived.Test.YtlhbkjgddpelgaaBk04
import Derived.Test.YtlhbkjgddpelgaaBk13
set_option linter.unusedVariables false
set_option linter.unusedSimpArgs false
/- SequenceOf and CorrelationOf of the reference. -/
namespace Go.Proofs.Ytlhbkjgddpelgaa
open Go.RowKit
theorem half_of {s n : Nat} (hs : s < 1000) (hn : n < 31) : ((n : Int) + (s : Int)).tmod 31 = (((n + s) % 31 : Nat) : Int) := by
  rw [Int.tmod_eq_emod_of_nonneg (by omega)]; omega
theorem halfA_bit {i n : Nat} : halfA i n = 1 - 2 * btR R2 2 ((n + 10 * (i % 3)) % 31) := by rw [halfA_table, bitS (Nat.mod_lt _ (by decide))]
theorem halfB_bit {i n : Nat} : halfB i n = (1 - 2 * btR R2 2 ((n + i / 3 % 31) % 31)) * (1 - 2 * btR R4 4 ((n + i / 3 / 31) % 31)) := by rw [halfB_table, bitS (Nat.mod_lt _ (by decide)), bitV (Nat.mod_lt _ (by decide))]
set_option maxHeartbeats 8000000 in
set_option maxRecDepth 100000 in
theorem SequenceOfR_any (i : Nat) (w : World) (hi : i < 1008) :
    Calls Try.prog 54 #[.int .i64 (i : Int)] w fun e w' => ∃ v, e = .returned v ∧ GaveInts w 62 (seqF i) v w' := by
  have HH := hide (show seqF i = catF 31 (halfA i) (halfB i) from rfl)
  have HAB := hide (fun n => halfA_bit (i := i) (n := n))
  have HBB := hide (fun n => halfB_bit (i := i) (n := n))
  have HS := hide (fun W => ShiftsR_any i W hi)
  have l0 : 10 * (i % 3) < 100 := by omega
  have l1 : i / 3 % 31 < 100 := by omega
  have l2 : i / 3 / 31 < 100 := by omega
  generalize 10 * (i % 3) = s0 at *
  generalize i / 3 % 31 = s1 at *
  generalize i / 3 / 31 = s2 at *
  generalize halfA i = HA at *
  generalize halfB i = HB at *
  generalize seqF i = SQ at *
  clear hi
  go_enter Try.func54, Try.ntmps54
  go_wp2_with fail
  refine (bitsR_any (some ⟨w.heap.size, 0, none⟩) 2 2 R2 _ (by decide) (fun i _ => R2_lt i) ((IntsAt.of_list [0, 2] 2 rfl (Box.made rfl) (Nat.zero_le _)).congr (fun i hi => by match i, hi with | 0, _ => rfl | 1, _ => rfl))).mono ?_
  rintro e w1 ⟨v1, rfl, A1, c1, rfl, hc1, hI1, hb1⟩
  replace hI1 := hI1.weak (Nat.zero_le _)
  have hB1 : Below w.heap.size w w1 := below_behind hb1
  clear hb1
  go_wp2_with fail
  refine (bitsR_any (some ⟨w1.heap.size, 0, none⟩) 4 4 R4 _ (by decide) (fun i _ => R4_lt i) ((IntsAt.of_list [0, 2, 3, 4] 4 rfl (Box.made rfl) (Nat.zero_le _)).congr (fun i hi => by match i, hi with | 0, _ => rfl | 1, _ => rfl | 2, _ => rfl | 3, _ => rfl))).mono ?_
  rintro e w2 ⟨v2, rfl, A2, c2, rfl, hc2, hI2, hb2⟩
  replace hI2 := hI2.weak (Nat.zero_le _)
  replace hI1 := hI1.below (below_behind hb2)
  have hB2 : Below w.heap.size w w2 := hB1.trans ((below_behind hb2).mono hB1.size)
  clear hb2 hB1
  go_wp2_with fail
  refine (HS.out _).mono ?_
  rintro e w3 ⟨rfl, hb3⟩
  replace hI1 := hI1.below hb3
  replace hI2 := hI2.below hb3
  have hB3 := hB2.trans (hb3.mono hB2.size)
  clear hb3 hB2 hc1 hc2
  go_upto_region 3 with fail
  obtain ⟨W, hW⟩ : ∃ q : World, q = w3.alloc (.cells #[.int .i64 (s0 : Int), .int .i64 (s1 : Int), .int .i64 (s2 : Int)] 97) := ⟨_, rfl⟩
  rw [← hW]
  obtain ⟨g5, hg5⟩ : ∃ g, g = w3.heap.size := ⟨_, rfl⟩
  have b5 : Box W g5 97 #[.int .i64 (s0 : Int), .int .i64 (s1 : Int), .int .i64 (s2 : Int)] := by rw [hW]; exact Box.made hg5
  rw [← hg5]
  replace hI1 : IntsAt W 0 A1 31 (btR R2 2) := by rw [hW]; exact hI1.alloc _
  replace hI2 : IntsAt W 0 A2 31 (btR R4 4) := by rw [hW]; exact hI2.alloc _
  have hBW : Below w.heap.size w W := by rw [hW]; exact hB3.alloc hB3.size _
  clear hW hg5 hB3
  have HI1 := hide hI1
  have HI2 := hide hI2
  have HB5 := hide b5
  have HBW := hide hBW
  clear hI1 hI2 b5 hBW
  go_wp2_with fail
  go_loopw [6, 7] (fun v x wr => ∃ n : Nat, n ≤ 31 ∧ x = .int .i64 (n : Int) ∧ OwnInts wr W.heap.size v n HA ∧ Below W.heap.size W wr) (fun _ x _ => 31 - (Go.RowKit.intOf x).toNat)
  case atStart => exact ⟨0, by decide, rfl, OwnInts.nil_ _ _ _, Below.refl _ _⟩
  case round =>
    obtain ⟨n, hn, rfl, ho, hB⟩ := hrel
    obtain ⟨wA, rfl⟩ : ∃ x : World, x = wr := ⟨_, rfl⟩
    obtain ⟨D, d, rfl, -, -⟩ := ho.form
    have hBs := hB.size
    by_cases hlt : n < 31
    · have hlz : (n : Int) < 31 := by omega
      have HAn := hide (HAB.out n)
      have y0 := (HB5.out.below hB).at_ 0
      simp only [List.getElem?_toArray] at y0
      have q1 : IntKind.i64.wrap ((n : Int) + (s0 : Int)) = (n : Int) + (s0 : Int) := IntWalk.i64_in _ (by omega)
      have q2 := half_of (s := s0) (by omega) hlt
      have hp31 : (n + s0) % 31 < 31 := Nat.mod_lt _ (by decide)
      obtain ⟨p, hp⟩ : ∃ p, p = (n + s0) % 31 := ⟨_, rfl⟩
      rw [← hp] at q2 hp31 HAn
      have hpz : (p : Int) < 31 := by omega
      obtain ⟨b1, o1, rfl, -, -, x1⟩ := (HI1.out.below hB) p hp31
      have hbit := btA_bit (T := R2) (m := 2) 26 p
      obtain ⟨x, hx⟩ : ∃ x, x = btR R2 2 p := ⟨_, rfl⟩
      rw [← hx] at x1 HAn
      replace hbit : Bit x := by rw [hx]; exact hbit
      have q3 : IntKind.i64.wrap (2 * x) = 2 * x := IntWalk.i64_in _ (by rcases hbit with e | e <;> rw [e] <;> decide)
      obtain ⟨y, hy⟩ : ∃ y, y = 1 - 2 * x := ⟨_, rfl⟩
      have q4 : IntKind.i64.wrap (1 - 2 * x) = y := by rw [hy]; exact IntWalk.i64_in _ (by rcases hbit with e | e <;> rw [e] <;> decide)
      rw [← hy] at HAn
      have HO := hide ho
      have HBB' := hide hB
      clear hy hx hp hbit ho hB
      go_wp2_with (at_builtin; refine wpList_append_ints _ rfl (.tmp 19) (.tmp 30) rfl W.heap.size 0 (.slice D n d) n _ rfl (HO.out.alloc _) (some ⟨_, 0, none⟩) 1 1 (fun _ => y) rfl (IntsAt.one _ 0 y 3 (Nat.zero_le _)) (by omega) (by simp; omega) ?_; intro v' w' h1 hb4)
      go_roundw
      case rel =>
        refine ⟨n + 1, by omega, by go_num, h1.congr fun j hj => ?_, (HBB'.out.alloc hBs _).trans hb4⟩
        unfold catF
        by_cases e : j < n
        · rw [if_pos e]
        · obtain rfl : j = n := by omega
          rw [if_neg e, HAn.out]
      case measure => simp [Go.RowKit.intOf]; omega
    · have hn31 : n = 31 := by omega
      have hlz : ¬ ((n : Int) < 31) := by omega
      have HO := hide (show OwnInts wA W.heap.size (.slice D n d) 31 (catF 31 HA HB) from OwnInts.congr (F := HA) (by rw [← hn31]; exact ho) fun j hj => by unfold catF; rw [if_pos hj])
      have HB0 := hide hB
      clear ho hB hn31 hlt
      go_wp2_with fail
      go_loopw [6, 8] (fun v x wr => ∃ n : Nat, n ≤ 31 ∧ x = .int .i64 (n : Int) ∧ OwnInts wr W.heap.size v (31 + n) (catF 31 HA HB) ∧ Below W.heap.size W wr) (fun _ x _ => 31 - (Go.RowKit.intOf x).toNat)
      case atStart => exact ⟨0, by decide, rfl, HO.out, HB0.out⟩
      case round =>
        clear HO HB0
        obtain ⟨n, hn, rfl, ho, hB⟩ := hrel
        obtain ⟨wB, rfl⟩ : ∃ x : World, x = wr := ⟨_, rfl⟩
        obtain ⟨D, d, rfl, -, -⟩ := ho.form
        have hBs := hB.size
        by_cases hlt2 : n < 31
        · have hlz : (n : Int) < 31 := by omega
          have HBn := hide (HBB.out n)
          have y1 := (HB5.out.below hB).at_ 1
          have y2 := (HB5.out.below hB).at_ 2
          simp only [List.getElem?_toArray] at y1 y2
          have q1 : IntKind.i64.wrap ((n : Int) + (s1 : Int)) = (n : Int) + (s1 : Int) := IntWalk.i64_in _ (by omega)
          have q2 := half_of (s := s1) (by omega) hlt2
          have q1' : IntKind.i64.wrap ((n : Int) + (s2 : Int)) = (n : Int) + (s2 : Int) := IntWalk.i64_in _ (by omega)
          have q2' := half_of (s := s2) (by omega) hlt2
          have hp31 : (n + s1) % 31 < 31 := Nat.mod_lt _ (by decide)
          have hr31 : (n + s2) % 31 < 31 := Nat.mod_lt _ (by decide)
          obtain ⟨p, hp⟩ : ∃ p, p = (n + s1) % 31 := ⟨_, rfl⟩
          obtain ⟨r, hr⟩ : ∃ r, r = (n + s2) % 31 := ⟨_, rfl⟩
          rw [← hp] at q2 hp31 HBn
          rw [← hr] at q2' hr31 HBn
          have hpz : (p : Int) < 31 := by omega
          have hrz : (r : Int) < 31 := by omega
          obtain ⟨b1, o1, rfl, -, -, x1⟩ := (HI1.out.below hB) p hp31
          obtain ⟨b2, o2, rfl, -, -, x2⟩ := (HI2.out.below hB) r hr31
          have hbit := btA_bit (T := R2) (m := 2) 26 p
          have hbit2 := btA_bit (T := R4) (m := 4) 26 r
          obtain ⟨x, hx⟩ : ∃ x, x = btR R2 2 p := ⟨_, rfl⟩
          obtain ⟨z, hz⟩ : ∃ z, z = btR R4 4 r := ⟨_, rfl⟩
          rw [← hx] at x1 HBn
          rw [← hz] at x2 HBn
          replace hbit : Bit x := by rw [hx]; exact hbit
          replace hbit2 : Bit z := by rw [hz]; exact hbit2
          have q3 : IntKind.i64.wrap (2 * x) = 2 * x := IntWalk.i64_in _ (by rcases hbit with e | e <;> rw [e] <;> decide)
          have q5 : IntKind.i64.wrap (2 * z) = 2 * z := IntWalk.i64_in _ (by rcases hbit2 with e | e <;> rw [e] <;> decide)
          obtain ⟨y, hy⟩ : ∃ y, y = 1 - 2 * x := ⟨_, rfl⟩
          obtain ⟨u, hu⟩ : ∃ u, u = 1 - 2 * z := ⟨_, rfl⟩
          have q4 : IntKind.i64.wrap (1 - 2 * x) = y := by rw [hy]; exact IntWalk.i64_in _ (by rcases hbit with e | e <;> rw [e] <;> decide)
          have q6 : IntKind.i64.wrap (1 - 2 * z) = u := by rw [hu]; exact IntWalk.i64_in _ (by rcases hbit2 with e | e <;> rw [e] <;> decide)
          rw [← hy, ← hu] at HBn
          obtain ⟨t, ht⟩ : ∃ t, t = y * u := ⟨_, rfl⟩
          have q7 : IntKind.i64.wrap (y * u) = t := by rw [ht, hy, hu]; exact IntWalk.i64_in _ (by rcases hbit with e | e <;> rcases hbit2 with f | f <;> rw [e, f] <;> decide)
          rw [← ht] at HBn
          have HO := hide ho
          have HBB' := hide hB
          clear ht hy hu hx hz hp hr hbit hbit2 ho hB
          go_upto_region 11 with fail
          refine wp_region_held_drew (S := fun w' => w'.cell? ⟨g5, 1, none⟩ = some (.int .i64 (s1 : Int)) ∧ w'.cell? ⟨g5, 2, none⟩ = some (.int .i64 (s2 : Int)) ∧ w'.cell? ⟨b1, o1 + p, none⟩ = some (.int .i64 x) ∧ w'.cell? ⟨b2, o2 + r, none⟩ = some (.int .i64 z)) (by kernel_rfl) ⟨y1, y2, x1, x2⟩ (fun hHeld => ?_)
          refine wpAnyH_take (i := 0) (oi := ⟨some 36, _, _, _, _, _⟩) (v := ?_) rfl (by kernel_rfl) (by kernel_rfl) (by kernel_rfl) (fun _ _ _ h => h) (Or.inl ⟨by rfl, ?_⟩) (by assumption) ?_
          rotate_left
          · (intro w' hSw; (try dsimp only at hSw); go_simp <;> (with_reducible rfl))
          try simp only [Act.put, List.setIfInBounds_toArray, List.set_cons_zero, List.set_cons_succ]
          refine wpAnyH_take (i := 1) (oi := ⟨some 37, _, _, _, _, _⟩) (v := ?_) rfl (by kernel_rfl) (by kernel_rfl) (by kernel_rfl) (fun _ _ _ h => h) (Or.inl ⟨by rfl, ?_⟩) (by assumption) ?_
          rotate_left
          · (intro w' hSw; (try dsimp only at hSw); go_simp <;> (with_reducible rfl))
          try simp only [Act.put, List.setIfInBounds_toArray, List.set_cons_zero, List.set_cons_succ]
          refine wpAnyH_take (i := 2) (oi := ⟨some 38, _, _, _, _, _⟩) (v := ?_) rfl (by kernel_rfl) (by kernel_rfl) (by kernel_rfl) (fun _ _ _ h => h) (Or.inl ⟨by rfl, ?_⟩) (by assumption) ?_
          rotate_left
          · (intro w' hSw; (try dsimp only at hSw); go_simp <;> (with_reducible rfl))
          try simp only [Act.put, List.setIfInBounds_toArray, List.set_cons_zero, List.set_cons_succ]
          refine wpAnyH_take (i := 3) (oi := ⟨some 39, _, _, _, _, _⟩) (v := ?_) rfl (by kernel_rfl) (by kernel_rfl) (by kernel_rfl) (fun _ _ _ h => h) (Or.inl ⟨by rfl, ?_⟩) (by assumption) ?_
          rotate_left
          · (intro w' hSw; (try dsimp only at hSw); go_simp <;> (with_reducible rfl))
          try simp only [Act.put, List.setIfInBounds_toArray, List.set_cons_zero, List.set_cons_succ]
          refine wpAnyH_take (i := 4) (oi := ⟨some 40, _, _, _, _, _⟩) (v := ?_) rfl (by kernel_rfl) (by kernel_rfl) (by kernel_rfl) (fun _ _ _ h => h) (Or.inl ⟨by rfl, ?_⟩) (by assumption) ?_
          rotate_left
          · (intro w' hSw; (try dsimp only at hSw); go_simp <;> (with_reducible rfl))
          try simp only [Act.put, List.setIfInBounds_toArray, List.set_cons_zero, List.set_cons_succ]
          refine wpAnyH_take (i := 5) (oi := ⟨some 41, _, _, _, _, _⟩) (v := ?_) rfl (by kernel_rfl) (by kernel_rfl) (by kernel_rfl) (fun _ _ _ h => h) (Or.inl ⟨by rfl, ?_⟩) (by assumption) ?_
          rotate_left
          · (intro w' hSw; (try dsimp only at hSw); go_simp <;> (with_reducible rfl))
          try simp only [Act.put, List.setIfInBounds_toArray, List.set_cons_zero, List.set_cons_succ]
          refine wpAnyH_take (i := 6) (oi := ⟨some 42, _, _, _, _, _⟩) (v := ?_) rfl (by kernel_rfl) (by kernel_rfl) (by kernel_rfl) (fun _ _ _ h => h) (Or.inl ⟨by rfl, ?_⟩) (by assumption) ?_
          rotate_left
          · (intro w' hSw; (try dsimp only at hSw); go_simp <;> (with_reducible rfl))
          try simp only [Act.put, List.setIfInBounds_toArray, List.set_cons_zero, List.set_cons_succ]
          refine wpAnyH_take (i := 7) (oi := ⟨some 43, _, _, _, _, _⟩) (v := ?_) rfl (by kernel_rfl) (by kernel_rfl) (by kernel_rfl) (fun _ _ _ h => h) (Or.inl ⟨by rfl, ?_⟩) (by assumption) ?_
          rotate_left
          · (intro w' hSw; (try dsimp only at hSw); go_simp <;> (with_reducible rfl))
          try simp only [Act.put, List.setIfInBounds_toArray, List.set_cons_zero, List.set_cons_succ]
          refine wpAnyH_take (i := 8) (oi := ⟨some 44, _, _, _, _, _⟩) (v := ?_) rfl (by kernel_rfl) (by kernel_rfl) (by kernel_rfl) (fun _ _ _ h => h) (Or.inl ⟨by rfl, ?_⟩) (by assumption) ?_
          rotate_left
          · (intro w' hSw; (try dsimp only at hSw); go_simp <;> (with_reducible rfl))
          try simp only [Act.put, List.setIfInBounds_toArray, List.set_cons_zero, List.set_cons_succ]
          refine wpAnyH_take (i := 9) (oi := ⟨some 45, _, _, _, _, _⟩) (v := ?_) rfl (by kernel_rfl) (by kernel_rfl) (by kernel_rfl) (fun _ _ _ h => h) (Or.inl ⟨by rfl, ?_⟩) (by assumption) ?_
          rotate_left
          · (intro w' hSw; (try dsimp only at hSw); go_simp <;> (with_reducible rfl))
          try simp only [Act.put, List.setIfInBounds_toArray, List.set_cons_zero, List.set_cons_succ]
          refine wpAnyH_take (i := 10) (oi := ⟨some 46, _, _, _, _, _⟩) (v := ?_) rfl (by kernel_rfl) (by kernel_rfl) (by kernel_rfl) (fun _ _ _ h => h) (Or.inl ⟨by rfl, ?_⟩) (by assumption) ?_
          rotate_left
          · (intro w' hSw; (try dsimp only at hSw); go_simp <;> (with_reducible rfl))
          try simp only [Act.put, List.setIfInBounds_toArray, List.set_cons_zero, List.set_cons_succ]
          refine wpAnyH_take (i := 11) (oi := ⟨some 47, _, _, _, _, _⟩) (v := ?_) rfl (by kernel_rfl) (by kernel_rfl) (by kernel_rfl) (fun _ _ _ h => h) (Or.inl ⟨by rfl, ?_⟩) (by assumption) ?_
          rotate_left
          · (intro w' hSw; (try dsimp only at hSw); go_simp <;> (with_reducible rfl))
          try simp only [Act.put, List.setIfInBounds_toArray, List.set_cons_zero, List.set_cons_succ]
          refine wpAnyH_take (i := 12) (oi := ⟨some 48, _, _, _, _, _⟩) (v := ?_) rfl (by kernel_rfl) (by kernel_rfl) (by kernel_rfl) (fun _ _ _ h => h) (Or.inl ⟨by rfl, ?_⟩) (by assumption) ?_
          rotate_left
          · (intro w' hSw; (try dsimp only at hSw); go_simp <;> (with_reducible rfl))
          try simp only [Act.put, List.setIfInBounds_toArray, List.set_cons_zero, List.set_cons_succ]
          refine wpAnyH_take (i := 13) (oi := ⟨some 49, _, _, _, _, _⟩) (v := ?_) rfl (by kernel_rfl) (by kernel_rfl) (by kernel_rfl) (fun _ _ _ h => h) (Or.inl ⟨by rfl, ?_⟩) (by assumption) ?_
          rotate_left
          · (intro w' hSw; (try dsimp only at hSw); go_simp <;> (with_reducible rfl))
          try simp only [Act.put, List.setIfInBounds_toArray, List.set_cons_zero, List.set_cons_succ]
          refine wpAnyH_take (i := 14) (oi := ⟨some 50, _, _, _, _, _⟩) (v := ?_) rfl (by kernel_rfl) (by kernel_rfl) (by kernel_rfl) (fun _ _ _ h => h) (Or.inl ⟨by rfl, ?_⟩) (by assumption) ?_
          rotate_left
          · (intro w' hSw; (try dsimp only at hSw); go_simp <;> (with_reducible rfl))
          try simp only [Act.put, List.setIfInBounds_toArray, List.set_cons_zero, List.set_cons_succ]
          refine wpAnyH_take (i := 15) (oi := ⟨some 51, _, _, _, _, _⟩) (v := ?_) rfl (by kernel_rfl) (by kernel_rfl) (by kernel_rfl) (fun _ _ _ h => h) (Or.inl ⟨by rfl, ?_⟩) (by assumption) ?_
          rotate_left
          · (intro w' hSw; (try dsimp only at hSw); go_simp <;> (with_reducible rfl))
          try simp only [Act.put, List.setIfInBounds_toArray, List.set_cons_zero, List.set_cons_succ]
          refine wpAnyH_take (i := 16) (oi := ⟨some 52, _, _, _, _, _⟩) (v := ?_) rfl (by kernel_rfl) (by kernel_rfl) (by kernel_rfl) (fun _ _ _ h => h) (Or.inl ⟨by rfl, ?_⟩) (by assumption) ?_
          rotate_left
          · (intro w' hSw; (try dsimp only at hSw); go_simp <;> (with_reducible rfl))
          try simp only [Act.put, List.setIfInBounds_toArray, List.set_cons_zero, List.set_cons_succ]
          refine wpAnyH_take (i := 17) (oi := ⟨some 53, _, _, _, _, _⟩) (v := ?_) rfl (by kernel_rfl) (by kernel_rfl) (by kernel_rfl) (fun _ _ _ h => h) (Or.inl ⟨by rfl, ?_⟩) (by assumption) ?_
          rotate_left
          · (intro w' hSw; (try dsimp only at hSw); go_simp <;> (with_reducible rfl))
          try simp only [Act.put, List.setIfInBounds_toArray, List.set_cons_zero, List.set_cons_succ]
          refine wpAnyH_take (i := 18) (oi := ⟨some 54, _, _, _, _, _⟩) (v := ?_) rfl (by kernel_rfl) (by kernel_rfl) (by kernel_rfl) (fun _ _ _ h => h) (Or.inl ⟨by rfl, ?_⟩) (by assumption) ?_
          rotate_left
          · (intro w' hSw; (try dsimp only at hSw); go_simp <;> (with_reducible rfl))
          try simp only [Act.put, List.setIfInBounds_toArray, List.set_cons_zero, List.set_cons_succ]
          refine wpAnyH_take (i := 19) (oi := ⟨some 55, _, _, _, _, _⟩) (v := ?_) rfl (by kernel_rfl) (by kernel_rfl) (by kernel_rfl) (fun _ _ _ h => h) (Or.inl ⟨by rfl, ?_⟩) (by assumption) ?_
          rotate_left
          · (intro w' hSw; (try dsimp only at hSw); go_simp <;> (with_reducible rfl))
          try simp only [Act.put, List.setIfInBounds_toArray, List.set_cons_zero, List.set_cons_succ]
          refine wpAnyH_take (i := 20) (oi := ⟨some 56, _, _, _, _, _⟩) (v := ?_) rfl (by kernel_rfl) (by kernel_rfl) (by kernel_rfl) (fun _ _ _ h => h) (Or.inl ⟨by rfl, ?_⟩) (by assumption) ?_
          rotate_left
          · (intro w' hSw; (try dsimp only at hSw); go_simp <;> (with_reducible rfl))
          try simp only [Act.put, List.setIfInBounds_toArray, List.set_cons_zero, List.set_cons_succ]
          refine wpAnyH_take (i := 21) (oi := ⟨some 57, _, _, _, _, _⟩) (v := ?_) rfl (by kernel_rfl) (by kernel_rfl) (by kernel_rfl) (fun _ _ _ h => h) (Or.inl ⟨by rfl, ?_⟩) (by assumption) ?_
          rotate_left
          · (intro w' hSw; (try dsimp only at hSw); go_simp <;> (with_reducible rfl))
          try simp only [Act.put, List.setIfInBounds_toArray, List.set_cons_zero, List.set_cons_succ]
          refine wpAnyH_ready (rs := [22]) (by kernel_rfl) (by simp) ?_
          refine AllReadyH.cons (o := ⟨some 58, _, _, _, _, _⟩) rfl (fun K' hK => ?_) AllReadyH.nil
          go_simp
          have hlb1 : b1 < W.heap.size := by obtain ⟨b', o', e, -, hl, -⟩ := HI1.out p hp31; injection e with e; injection e with e1 e2; subst e1; exact hl
          have hlb2 : b2 < W.heap.size := by obtain ⟨b', o', e, -, hl, -⟩ := HI2.out r hr31; injection e with e; injection e with e1 e2; subst e1; exact hl
          have hlb5 : g5 < W.heap.size := HB5.out.lt
          have HC := hide (fun (W' : World) (h : Below W.heap.size wB W') => (⟨(h.cell (p := ⟨g5, 1, none⟩) hlb5).trans y1, (h.cell (p := ⟨g5, 2, none⟩) hlb5).trans y2, (h.cell (p := ⟨b1, o1 + p, none⟩) hlb1).trans x1, (h.cell (p := ⟨b2, o2 + r, none⟩) hlb2).trans x2⟩ : W'.cell? ⟨g5, 1, none⟩ = some (.int .i64 (s1 : Int)) ∧ W'.cell? ⟨g5, 2, none⟩ = some (.int .i64 (s2 : Int)) ∧ W'.cell? ⟨b1, o1 + p, none⟩ = some (.int .i64 x) ∧ W'.cell? ⟨b2, o2 + r, none⟩ = some (.int .i64 z)))
          have hAL : Below W.heap.size wB (wB.drew.alloc (.cells #[.int .i64 t] 3)) := ((Below.refl _ _).drew.alloc hBs _)
          refine hK.out _ _ (HC.out _ hAL) (fun hHeld => ?_)
          clear hK K'
          try simp only [Act.put, List.setIfInBounds_toArray, List.set_cons_zero, List.set_cons_succ]
          refine wpAnyH_ready (rs := [23]) (by kernel_rfl) (by simp) ?_
          refine AllReadyH.cons (o := ⟨some 59, _, _, _, _, _⟩) rfl (fun K' hK => ?_) AllReadyH.nil
          refine step_append_ints _ rfl (.tmp 36) (.tmp 58) rfl W.heap.size 0 (.slice D (31 + n) d) (31 + n) _ rfl (HO.out.alloc _) (some ⟨_, 0, none⟩) 1 1 (fun _ => t) rfl (IntsAt.one _ 0 t 3 (Nat.zero_le _)) (by omega) (by simp; omega) ?_
          intro v' w' h1 hb4
          have hc4 : Below W.heap.size wB w' := hAL.trans ⟨hb4.os, hb4.tape, hb4.output, hb4.size, hb4.block⟩
          refine hK.out _ _ (HC.out _ hc4) (fun hHeld => ?_)
          clear hK K'
          try simp only [Act.put, List.setIfInBounds_toArray, List.set_cons_zero, List.set_cons_succ]
          refine wpAnyH_ready (rs := [24]) (by kernel_rfl) (by simp) ?_
          refine AllReadyH.cons (o := ⟨some 6, _, _, _, _, _⟩) rfl (fun K' hK => ?_) AllReadyH.nil
          go_simp
          refine hK.out _ _ (HC.out _ hc4) (fun hHeld => ?_)
          clear hK K'
          try simp only [Act.put, List.setIfInBounds_toArray, List.set_cons_zero, List.set_cons_succ]
          refine wpAnyH_done (by kernel_rfl) ?_ _
          go_wp2_with fail
          go_roundw
          case rel =>
            refine ⟨n + 1, by omega, by go_num, ?_, HBB'.out.trans hc4⟩
            rw [show 31 + (n + 1) = 31 + n + 1 by omega]
            refine OwnInts.congr h1 fun j hj => ?_
            unfold catF
            by_cases e : j < 31 + n
            · rw [if_pos e]
            · obtain rfl : j = 31 + n := by omega
              rw [if_neg e, if_neg (show ¬ 31 + n < 31 by omega), show 31 + n - 31 = n by omega, HBn.out]
          case measure => simp [Go.RowKit.intOf]; omega
        · obtain rfl : n = 31 := by omega
          have hBF := HBW.out.trans (hB.mono HBW.out.size)
          have hG := ho.form
          go_wp2_with fail
          go_ret
          obtain ⟨D', d', e, hd, hI⟩ := ho.form
          exact ⟨_, rfl, D', d', e, hd, by rw [HH.out]; exact hI.weak HBW.out.size, hBF⟩
end Go.Proofs.Ytlhbkjgddpelgaa
/- within, IsSmall, EighthsErr, Turn, Plus of the reference; Mod of the base. -/
namespace Go.Proofs.Ytlhbkjgddpelgaa
open Go.RowKit
end Go.Proofs.Ytlhbkjgddpelgaa
