/- Lemmas: Ae, Af, Ve, Wf. -/
import Derived.Test.YtfemghbjngemlaaBk02
import Derived.Test.YtfemghbjngemlaaBk04
import Derived.Test.YtfemghbjngemlaaBk05
import Derived.Test.YtfemghbjngemlaaBk07
import Derived.Test.YtfemghbjngemlaaBk08
import Derived.Test.YtfemghbjngemlaaBk09
set_option linter.unusedVariables false
set_option linter.unusedSimpArgs false
/- The reference: Entry, Times, CopyPaths, AreSmall, CheckPaths. -/
namespace Go.Proofs.Ytfemghbjngemlaa
open Go.RowKit
set_option maxHeartbeats 2000000 in
theorem entryR_any (r i : Int) (w : World) :
    Calls Try.prog 53 #[.agg #[.int .i64 r, .int .i64 i]] w fun e w' => e = .returned (.agg #[.int .i64 r, .int .i64 0, .int .i64 i, .int .i64 0]) ∧ Below w.heap.size w w' := by
  go_enter Try.func53, Try.ntmps53
  go_wp2_with fail
  have hb : Box ((w.alloc (.cells #[.int .i64 r, .int .i64 i] 23)).alloc (.cells #[.int .i64 r, .int .i64 0, .int .i64 i, .int .i64 0] 26)) (w.heap.size + 1) 26 #[.int .i64 r, .int .i64 0, .int .i64 i, .int .i64 0] := Box.made (by simp)
  obtain ⟨y0, y1, y2, y3, -⟩ := hb.cells4
  refine bodyPost_ret (v := .agg #[.int .i64 r, .int .i64 0, .int .i64 i, .int .i64 0]) ?_ rfl ⟨rfl, by (repeat (first | (with_reducible exact Below.refl _ _) | (with_reducible refine Go.below_drewN ?_ _) | (with_reducible refine Below.drew ?_) | (with_reducible refine Below.alloc ?_ (by first | exact Nat.le_refl _ | (simp; done) | (simp; omega) | omega) _) | (with_reducible refine Below.setCell ?_ (by first | exact Nat.le_refl _ | (simp; done) | (simp; omega) | omega) _)))⟩
  simp [results, Try.results53, go_sem, y0, y1, y2, y3]
/-- A whole complex number as a number. -/
def gN (r i : Int) : Num := ⟨r, 0, i, 0⟩
theorem gN_prod (r i : Int) (x : Num) : (gN r i).prod x = ⟨r * x.a + i * (x.turns 2).a, r * x.b + i * (x.turns 2).b, r * x.c + i * (x.turns 2).c, r * x.d + i * (x.turns 2).d⟩ := by
  obtain ⟨a, b, c, d⟩ := x
  apply Num.same <;> (simp [gN, Num.prod, Num.prodTo, Num.part, Num.turns, Num.turn, Num.add, Num.zero, Num.times])
set_option maxHeartbeats 4000000 in
set_option maxRecDepth 100000 in
theorem timesR_any (r i : Int) (x : Num) (w : World) (hr : -100 ≤ r ∧ r ≤ 100) (hi : -100 ≤ i ∧ i ≤ 100) (hx : x.Within 1000000000) :
    Calls Try.prog 75 #[.agg #[.int .i64 r, .int .i64 i], .agg #[.int .i64 x.a, .int .i64 x.b, .int .i64 x.c, .int .i64 x.d]] w fun e w' => e = .returned (.agg #[.int .i64 ((gN r i).prod x).a, .int .i64 ((gN r i).prod x).b, .int .i64 ((gN r i).prod x).c, .int .i64 ((gN r i).prod x).d]) ∧ Below w.heap.size w w' := by
  have HT := hide (fun W => turnR_any x 2 W (hx.more (by decide)))
  rw [show ((2 : Int) % 8).toNat = 2 from rfl] at HT
  have hy := hx.turns 2
  obtain ⟨y, hyx⟩ : ∃ y, y = x.turns 2 := ⟨_, rfl⟩
  obtain ⟨z, hz⟩ : ∃ z, z = (gN r i).prod x := ⟨_, rfl⟩
  have hz2 := hz.trans (gN_prod r i x)
  rw [← hz]
  rw [← hyx] at HT hy hz2
  have a1 := mul_within hr hx.a
  have a2 := mul_within hr hx.b
  have a3 := mul_within hr hx.c
  have a4 := mul_within hr hx.d
  have b1 := mul_within hi hy.a
  have b2 := mul_within hi hy.b
  have b3 := mul_within hi hy.c
  have b4 := mul_within hi hy.d
  have q1 : IntKind.i64.wrap (r * x.a) = r * x.a := IntWalk.i64_in _ (by omega)
  have q2 : IntKind.i64.wrap (r * x.b) = r * x.b := IntWalk.i64_in _ (by omega)
  have q3 : IntKind.i64.wrap (r * x.c) = r * x.c := IntWalk.i64_in _ (by omega)
  have q4 : IntKind.i64.wrap (r * x.d) = r * x.d := IntWalk.i64_in _ (by omega)
  have q5 : IntKind.i64.wrap (i * y.a) = i * y.a := IntWalk.i64_in _ (by omega)
  have q6 : IntKind.i64.wrap (i * y.b) = i * y.b := IntWalk.i64_in _ (by omega)
  have q7 : IntKind.i64.wrap (i * y.c) = i * y.c := IntWalk.i64_in _ (by omega)
  have q8 : IntKind.i64.wrap (i * y.d) = i * y.d := IntWalk.i64_in _ (by omega)
  have q9 : IntKind.i64.wrap (r * x.a + i * y.a) = z.a := by rw [hz2]; exact IntWalk.i64_in _ (by omega)
  have q10 : IntKind.i64.wrap (r * x.b + i * y.b) = z.b := by rw [hz2]; exact IntWalk.i64_in _ (by omega)
  have q11 : IntKind.i64.wrap (r * x.c + i * y.c) = z.c := by rw [hz2]; exact IntWalk.i64_in _ (by omega)
  have q12 : IntKind.i64.wrap (r * x.d + i * y.d) = z.d := by rw [hz2]; exact IntWalk.i64_in _ (by omega)
  have HQ := hide (And.intro q1 (And.intro q2 (And.intro q3 (And.intro q4 (And.intro q5 (And.intro q6 (And.intro q7 (And.intro q8 (And.intro q9 (And.intro q10 (And.intro q11 q12)))))))))))
  clear q1 q2 q3 q4 q5 q6 q7 q8 q9 q10 q11 q12 a1 a2 a3 a4 b1 b2 b3 b4 hz2 hz hyx hy hx hr hi
  go_enter Try.func75, Try.ntmps75
  go_upto_region 1 with fail
  obtain ⟨W, hW⟩ : ∃ q : World, q = ((w.alloc (.cells #[.int .i64 r, .int .i64 i] 23)).alloc (.cells #[.int .i64 x.a, .int .i64 x.b, .int .i64 x.c, .int .i64 x.d] 26)).alloc (.cells #[.int .i64 0, .int .i64 0, .int .i64 0, .int .i64 0] 26) := ⟨_, rfl⟩
  rw [← hW]
  obtain ⟨g3, hg3⟩ : ∃ g, g = w.heap.size + 1 := ⟨_, rfl⟩
  obtain ⟨g4, hg4⟩ : ∃ g, g = w.heap.size + 1 + 1 := ⟨_, rfl⟩
  have b2 : Box W w.heap.size 23 #[.int .i64 r, .int .i64 i] := by rw [hW]; exact ((Box.made rfl).alloc _).alloc _
  have b3 : Box W g3 26 #[.int .i64 x.a, .int .i64 x.b, .int .i64 x.c, .int .i64 x.d] := by rw [hW]; exact (Box.made (by simp [hg3])).alloc _
  have b4 : Box W g4 26 #[.int .i64 0, .int .i64 0, .int .i64 0, .int .i64 0] := by rw [hW]; exact Box.made (by simp [hg4])
  have hB : Below w.heap.size w W := by rw [hW]; (repeat (first | (with_reducible exact Below.refl _ _) | (with_reducible refine Go.below_drewN ?_ _) | (with_reducible refine Below.drew ?_) | (with_reducible refine Below.alloc ?_ (by first | exact Nat.le_refl _ | (simp; done) | (simp; omega) | omega) _) | (with_reducible refine Below.setCell ?_ (by first | exact Nat.le_refl _ | (simp; done) | (simp; omega) | omega) _)))
  have hg : w.heap.size ≤ g4 := by omega
  rw [← hg4, ← hg3]
  clear hW hg3 hg4
  obtain ⟨x0, x1, x2, x3, -, -, -, -, lx⟩ := b3.cells4
  go_wp2_with fail
  clear x0 x1 x2 x3 lx
  refine (HT.out _).mono ?_
  rintro e w1 ⟨rfl, hb1⟩
  have hc1 : Below W.heap.size W w1 := by first | exact hb1 | exact below_of_drew hb1
  replace b2 := b2.below hc1
  replace b3 := b3.below hc1
  replace b4 := b4.below hc1
  have hB1 := hB.trans (hc1.mono hB.size)
  have hs1 := hB1.size
  clear hb1 hc1 hB
  go_upto_region 2 with fail
  obtain ⟨W2, hW2⟩ : ∃ q : World, q = w1.alloc (.cells #[.int .i64 y.a, .int .i64 y.b, .int .i64 y.c, .int .i64 y.d] 26) := ⟨_, rfl⟩
  rw [← hW2]
  obtain ⟨g5, hg5⟩ : ∃ g, g = w1.heap.size := ⟨_, rfl⟩
  have b5 : Box W2 g5 26 #[.int .i64 y.a, .int .i64 y.b, .int .i64 y.c, .int .i64 y.d] := by rw [hW2]; exact Box.made hg5
  replace b2 := b2.alloc (.cells #[.int .i64 y.a, .int .i64 y.b, .int .i64 y.c, .int .i64 y.d] 26)
  replace b3 := b3.alloc (.cells #[.int .i64 y.a, .int .i64 y.b, .int .i64 y.c, .int .i64 y.d] 26)
  replace b4 := b4.alloc (.cells #[.int .i64 y.a, .int .i64 y.b, .int .i64 y.c, .int .i64 y.d] 26)
  have hB2 := hB1.alloc hs1 (.cells #[.int .i64 y.a, .int .i64 y.b, .int .i64 y.c, .int .i64 y.d] 26)
  rw [← hW2] at b2 b3 b4 hB2
  rw [← hg5]
  clear hW2 hg5 hB1 hs1
  obtain ⟨q1, q2, q3, q4, q5, q6, q7, q8, q9, q10, q11, q12⟩ := HQ.out
  obtain ⟨r0, r1, -, -, l2⟩ := b2.cells2
  obtain ⟨x0, x1, x2, x3, -, -, -, -, lx⟩ := b3.cells4
  obtain ⟨y0, y1, y2, y3, -, -, -, -, ly⟩ := b5.cells4
  obtain ⟨z0, z1, z2, z3, f0, f1, f2, f3, lz⟩ := b4.cells4
  have HBB := hide (b4.put4 (.int .i64 z.a) (.int .i64 z.b) (.int .i64 z.c) (.int .i64 z.d))
  have HBL := hide (Below.put4 hB2 hg (.int .i64 z.a) (.int .i64 z.b) (.int .i64 z.c) (.int .i64 z.d))
  clear b2 b3 b4 b5 hB2
  go_wp2_with fail
  refine bodyPost_ret (v := .agg #[.int .i64 z.a, .int .i64 z.b, .int .i64 z.c, .int .i64 z.d]) ?_ rfl ⟨rfl, HBL.out⟩
  obtain ⟨y0, y1, y2, y3, -⟩ := HBB.out.cells4
  simp [results, Try.results75, go_sem, y0, y1, y2, y3]
/-- A path list's parts. -/
theorem paths_pats {w : World} {lo n : Nat} {A : Option Addr} {D R I : Nat → Int} (h : PathsAt w lo A n D R I) : PatsAt w lo A n (fun i => ⟨D i, R i, I i⟩) := h
theorem pats_paths {w : World} {lo n : Nat} {A : Option Addr} {D R I : Nat → Int} (h : PatsAt w lo A n (fun i => ⟨D i, R i, I i⟩)) : PathsAt w lo A n D R I := h
set_option maxHeartbeats 1000000 in
theorem copyPaths_own (A : Option Addr) (n c : Nat) (F : Nat → Pat) (w : World) (hn : n ≤ 10000000) (hI : PatsAt w 0 A n F) :
    Calls Try.prog 35 #[.slice A n c] w fun e w' => ∃ v, e = .returned v ∧ OwnPats w' w.heap.size v n F ∧ Below w.heap.size w w' := by
  have HI := hide (hI.alloc (.cells #[] 84))
  have HE := hide (OwnPats.empty w _ rfl F)
  clear hI
  go_enter Try.func35, Try.ntmps35
  go_wp2_with (at_builtin; refine wpList_append_Pats _ rfl (.tmp 3) (.tmp 4) rfl w.heap.size 0 (.slice (some ⟨w.heap.size, 0, none⟩) 0 0) 0 F rfl HE.out A n c F rfl HI.out (by omega) (by simp) ?_; intro v' w' h1 hb1)
  go_ret
  have hB : Below w.heap.size w w' := ((Below.refl _ _).alloc (Nat.le_refl _) _).trans hb1
  rw [Nat.zero_add] at h1
  exact ⟨_, rfl, h1.congr fun j _ => by simp [catPat], hB⟩
set_option maxHeartbeats 1000000 in
theorem areSmallR_any (A : Option Addr) (n c : Nat) (F : Nat → Num) (w : World) (hn : n ≤ 1000000) (hI : NumsAt w 0 A n F) :
    Calls Try.prog 16 #[.slice A n c] w fun e w' => e = .returned (.bool (numsE 1000000000 F n == 0)) ∧ Below w.heap.size w w' := by
  have HX := hide (numbersErrR_any A n c F w hn hI)
  clear hI
  generalize numsE 1000000000 F n = v at *
  go_enter Try.func16, Try.ntmps16
  go_wp2_with fail
  refine HX.out.mono ?_
  rintro e w1 ⟨rfl, hb1⟩
  go_wp2_with fail
  go_ret
  exact ⟨rfl, hb1⟩
theorem pathEs_wrong {D R I : Nat → Int} {k : Nat} (h : withinB (D k) 0 7 = false ∨ (⟨R k, I k⟩ : Gau).isIn 100 = false) : pathEs D R I k = 2 := by
  unfold pathEs pathE
  rw [size2 100 (R k) (I k) _ rfl rfl]
  rcases h with h | h
  · rw [h]; rfl
  · unfold Gau.err
    rw [h]
    cases withinB (D k) 0 7 <;> rfl
theorem pathEs_right {D R I : Nat → Int} {k : Nat} (h1 : withinB (D k) 0 7 = true) (h2 : (⟨R k, I k⟩ : Gau).isIn 100 = true) : pathEs D R I k = unI (decide (prevD D k < D k)) 9 := by
  unfold pathEs pathE
  rw [size2 100 (R k) (I k) _ rfl rfl]
  unfold Gau.err
  rw [h1, h2]
  show firstE [0, 0, unI (decide (prevD D k < D k)) 9] = _
  rw [firstE, if_pos rfl, firstE, if_pos rfl, firstE]
  by_cases h : unI (decide (prevD D k < D k)) 9 = 0
  · rw [if_pos h, h]; rfl
  · rw [if_neg h]
set_option maxHeartbeats 8000000 in
set_option maxRecDepth 100000 in
theorem checkPathsR_any (A : Option Addr) (n c : Nat) (D R I : Nat → Int) (w : World) (hn : n ≤ 100000) (hI : PathsAt w 0 A n D R I) :
    Calls Try.prog 38 #[.slice A n c] w fun e w' => e = .returned (.tuple #[.int .i64 (chkI n D R I : Nat), .int .i64 (chkE n D R I)]) ∧ Below w.heap.size w w' := by
  have HI := hide hI
  clear hI
  by_cases h0 : n = 0
  · have t0 : ((n : Int) == 0) = true := by simp; omega
    subst h0
    clear HI hn
    go_enter Try.func38, Try.ntmps38
    go_wp2_with fail
    go_ret2
    exact ⟨rfl, Below.refl _ _⟩
  have t0 : ((n : Int) == 0) = false := by simp; omega
  by_cases h6 : 6 < n
  · have hz : (n : Int) > 6 := by omega
    have hl : lenE n = 8 := by
      unfold lenE
      rw [show decide (0 < n) = true by simp; omega, show decide ((n : Int) ≤ 6) = false by simp; omega]
      rfl
    have HU := hide (show chkI n D R I = 0 by unfold chkI; rw [hl]; rfl)
    have HV := hide (show chkE n D R I = 8 by unfold chkE; rw [hl]; rfl)
    generalize chkI n D R I = U at *
    generalize chkE n D R I = V at *
    clear HI hl h0 h6
    go_enter Try.func38, Try.ntmps38
    go_wp2_with fail
    go_ret2
    exact ⟨by rw [HU.out, HV.out]; rfl, Below.refl _ _⟩
  have hz : ¬ (n : Int) > 6 := by omega
  have hl : lenE n = 0 := by
    unfold lenE
    rw [show decide (0 < n) = true by simp; omega, show decide ((n : Int) ≤ 6) = true by simp; omega]
    rfl
  have HU := hide (show chkI n D R I = badI (pathEs D R I) n by unfold chkI; rw [if_pos hl])
  have HV := hide (show chkE n D R I = badE (pathEs D R I) n by unfold chkE; rw [if_pos hl])
  have HIE := hide (fun k W => isEntryR_any ⟨R k, I k⟩ 100 W (by decide))
  generalize chkI n D R I = U at *
  generalize chkE n D R I = V at *
  clear hl h0 h6
  go_enter Try.func38, Try.ntmps38
  go_wp2_with fail
  go_loopw [4] (fun iv wr => ∃ k : Nat, k ≤ n ∧ iv = .int .i64 (k : Int) ∧ Hid (badE (pathEs D R I) k = 0) ∧ Below w.heap.size w wr) (fun iv _ => n - (Go.RowKit.intOf iv).toNat)
  case atStart => exact ⟨0, Nat.zero_le _, rfl, hide rfl, Below.refl _ _⟩
  case round =>
    obtain ⟨k, hk, rfl, HZ, hB⟩ := hrel
    obtain ⟨wA, rfl⟩ : ∃ x : World, x = wr := ⟨_, rfl⟩
    have hBs := hB.size
    by_cases hlt : k < n
    · have hltz : (k : Int) < (n : Int) := by omega
      have HQ := hide (show pathEs D R I k ≠ 0 → badE (pathEs D R I) n = pathEs D R I k ∧ badI (pathEs D R I) n = k from fun h => ⟨badE_at (g := pathEs D R I) HZ.out h n hlt, badI_at (g := pathEs D R I) HZ.out h n hlt⟩)
      have HN := hide (show pathEs D R I k = 0 → badE (pathEs D R I) (k + 1) = 0 from fun h => by rw [badE_succ HZ.out]; exact h)
      have HW := hide (pathEs_wrong (D := D) (R := R) (I := I) (k := k))
      have HR := hide (pathEs_right (D := D) (R := R) (I := I) (k := k))
      have HIk := hide (fun W => HIE.out k W)
      obtain ⟨b, o, rfl, -, hb, c0, c1, c2⟩ := (HI.out.below hB) k hlt
      have HB := hide hB
      clear HZ
      cases h1 : withinB (D k) 0 7
      · have h3 := HW.out (.inl h1)
        have HE := hide (show U = k ∧ V = 2 from ⟨HU.out.trans (HQ.out (by rw [h3]; decide)).2, HV.out.trans ((HQ.out (by rw [h3]; decide)).1.trans h3)⟩)
        clear HQ HN HW HR h3 hB
        go_wp2_with (go_at_call 57; refine (within_any _ _ _ _).mono ?_; rintro e w' ⟨rfl, rfl⟩; rw [h1])
        go_ret2
        exact ⟨by rw [HE.out.1, HE.out.2]; rfl, HB.out⟩
      cases h2 : (⟨R k, I k⟩ : Gau).isIn 100
      · have h3 := HW.out (.inr h2)
        have HE := hide (show U = k ∧ V = 2 from ⟨HU.out.trans (HQ.out (by rw [h3]; decide)).2, HV.out.trans ((HQ.out (by rw [h3]; decide)).1.trans h3)⟩)
        rw [h2] at HIk
        clear HQ HN HW HR h3 hB
        go_wp2_with (go_at_call 57; refine (within_any _ _ _ _).mono ?_; rintro e w' ⟨rfl, rfl⟩; rw [h1])
        refine (HIk.out _).mono ?_
        rintro e w2 ⟨rfl, hb2⟩
        have HB2 := hide (HB.out.trans (hb2.mono hBs))
        clear hb2
        go_wp2_with fail
        go_ret2
        exact ⟨by rw [HE.out.1, HE.out.2]; rfl, HB2.out⟩
      rw [h2] at HIk
      have h3 := HR.out h1 h2
      clear HW HR hB
      go_wp2_with (go_at_call 57; refine (within_any _ _ _ _).mono ?_; rintro e w' ⟨rfl, rfl⟩; rw [h1])
      refine (HIk.out _).mono ?_
      rintro e w2 ⟨rfl, hb2⟩
      have HB2 := hide (HB.out.trans (hb2.mono hBs))
      clear hb2 c0 c1 c2
      rcases Nat.eq_zero_or_pos k with hk0 | hk0
      · have tk : decide ((k : Int) > 0) = false := decide_eq_false (by omega)
        have hd0 := (withinB_iff.1 h1).1
        have h4 : pathEs D R I k = 0 := by
          rw [h3]
          subst hk0
          rw [show decide (prevD D 0 < D 0) = true from decide_eq_true (by show (-1 : Int) < D 0; omega)]
          rfl
        have HN2 := hide (HN.out h4)
        clear HQ HN h3 h4 h1 h2 hd0
        go_wp2_with fail
        go_quiet (fail)
        go_wp2_with fail
        go_roundw
        case rel => exact ⟨k + 1, by omega, by go_num, HN2, Go.below_drewN HB2.out _⟩
        case measure => simp [Go.RowKit.intOf]; omega
      · obtain ⟨j, hj⟩ : ∃ j, k = j + 1 := ⟨k - 1, by omega⟩
        have tk : decide ((k : Int) > 0) = true := decide_eq_true (by omega)
        have p1 : IntKind.i64.wrap ((k : Int) - 1) = (j : Int) := by rw [show (k : Int) - 1 = (j : Int) by omega]; exact IntWalk.i64_in _ (by omega)
        have hjz : (j : Int) < (n : Int) := by omega
        obtain ⟨b', o', e', -, -, c0, -, -⟩ := (HI.out.below HB2.out) k hlt
        injection e' with e'
        injection e' with e1 e2
        subst e1
        subst e2
        obtain ⟨b', o', e', -, -, d0, -, -⟩ := (HI.out.below HB2.out) j (by omega)
        injection e' with e'
        injection e' with e1 e2
        subst e1
        subst e2
        have h4 : pathEs D R I k = unI (decide (D j < D k)) 9 := by rw [h3, hj]; rfl
        by_cases hd : D j < D k
        · have t1 : decide (D k ≤ D j) = false := decide_eq_false (by omega)
          have HN2 := hide (HN.out (by rw [h4, decide_eq_true hd]; rfl))
          clear HQ HN h3 h4 h1 h2 hj
          generalize D k = x at *
          generalize D j = y at *
          go_wp2_with fail
          go_quiet (fail)
          go_wp2_with fail
          go_roundw
          case rel => exact ⟨k + 1, by omega, by go_num, HN2, Go.below_drewN HB2.out _⟩
          case measure => simp [Go.RowKit.intOf]; omega
        · have t1 : decide (D k ≤ D j) = true := decide_eq_true (by omega)
          have h5 : pathEs D R I k = 9 := by rw [h4, decide_eq_false hd]; rfl
          have HE := hide (show U = k ∧ V = 9 from ⟨HU.out.trans (HQ.out (by rw [h5]; decide)).2, HV.out.trans ((HQ.out (by rw [h5]; decide)).1.trans h5)⟩)
          clear HQ HN h3 h4 h5 h1 h2 hj
          generalize D k = x at *
          generalize D j = y at *
          go_wp2_with fail
          go_quiet (fail)
          go_wp2_with fail
          go_ret2
          exact ⟨by rw [HE.out.1, HE.out.2]; rfl, Go.below_drewN HB2.out _⟩
    · obtain rfl : k = n := by omega
      have hltz : ¬ ((k : Int) < (k : Int)) := by omega
      have HE := hide (show U = 0 ∧ V = 0 from ⟨HU.out.trans (badI_zero HZ.out), HV.out.trans HZ.out⟩)
      have HB := hide hB
      clear HZ hB
      go_wp2_with fail
      go_ret2
      exact ⟨by rw [HE.out.1, HE.out.2]; rfl, HB.out⟩
end Go.Proofs.Ytfemghbjngemlaa
/- Samples behind paths: mathematics of Through. -/
namespace Go.Proofs.Ytfemghbjngemlaa
open Go.RowKit
theorem gN_prod_within {r i : Int} {x : Num} {M : Int} (hr : -100 ≤ r ∧ r ≤ 100) (hi : -100 ≤ i ∧ i ≤ 100) (hx : x.Within M) : ((gN r i).prod x).Within (200 * M) := by
  rw [gN_prod]
  have hy := hx.turns 2
  have e : (200 : Int) * M = 100 * M + 100 * M := by omega
  have s : ∀ {p q : Int}, -M ≤ p ∧ p ≤ M → -M ≤ q ∧ q ≤ M → -(200 * M) ≤ r * p + i * q ∧ r * p + i * q ≤ 200 * M := fun {p q} hp hq => by
    have h1 := mul_within hr hp
    have h2 := mul_within hi hq
    omega
  exact ⟨s hx.a hy.a, s hx.b hy.b, s hx.c hy.c, s hx.d hy.d⟩
/-- What the first j paths make of the samples X, at time n. -/
def thrTo (D R I : Nat → Int) (X : Nat → Num) : Nat → Nat → Num
  | 0, _ => Num.zero
  | j + 1, n => if D j ≤ (n : Int) then (thrTo D R I X j n).add ((gN (R j) (I j)).prod (X (n - (D j).toNat))) else thrTo D R I X j n
theorem thrTo_within {D R I : Nat → Int} {X : Nat → Num} {M : Int} (h0 : 0 ≤ M) {m : Nat} (hX : ∀ i, i < m → (X i).Within M) : ∀ {j : Nat}, (∀ q, q < j → -100 ≤ R q ∧ R q ≤ 100 ∧ -100 ≤ I q ∧ I q ≤ 100) → ∀ {n : Nat}, n < m → (thrTo D R I X j n).Within (j * (200 * M))
  | 0, _, n, _ => by
    have e : ((0 : Nat) : Int) * (200 * M) = 0 := by simp
    rw [e]
    show Num.zero.Within 0
    exact ⟨⟨by decide, by decide⟩, ⟨by decide, by decide⟩, ⟨by decide, by decide⟩, ⟨by decide, by decide⟩⟩
  | j + 1, h, n, hn => by
    obtain ⟨h1, h2, h3, h4⟩ := h j (Nat.lt_succ_self j)
    have ih := thrTo_within (D := D) h0 hX (j := j) (fun q hq => h q (by omega)) hn
    obtain ⟨q, hq⟩ : ∃ q : Int, q = (j : Int) * (200 * M) := ⟨_, rfl⟩
    have e : (((j + 1 : Nat)) : Int) * (200 * M) = q + 200 * M := by rw [hq, Int.natCast_succ, Int.add_mul, Int.one_mul]
    rw [← hq] at ih
    rw [e]
    unfold thrTo
    split
    · exact ih.add (gN_prod_within ⟨h1, h2⟩ ⟨h3, h4⟩ (hX _ (by omega)))
    · exact ih.more (by omega)
/-- The samples in the midst of path j, that has been added at the times below m. -/
def thrMid (D R I : Nat → Int) (X : Nat → Num) (j m n : Nat) : Num := if n < m then thrTo D R I X (j + 1) n else thrTo D R I X j n
theorem thrMid_start {D R I : Nat → Int} {X : Nat → Num} {j m n : Nat} (h : (m : Int) ≤ D j) : thrMid D R I X j m n = thrTo D R I X j n := by
  unfold thrMid
  split
  · show (if D j ≤ (n : Int) then _ else _) = _
    rw [if_neg (by omega)]
  · rfl
theorem thrMid_end {D R I : Nat → Int} {X : Nat → Num} {j m n : Nat} (h : n < m) : thrMid D R I X j m n = thrTo D R I X (j + 1) n := if_pos h
/-- Where a path's delay is behind the last sample it adds nothing. -/
theorem thrTo_late {D R I : Nat → Int} {X : Nat → Num} {j n : Nat} (h : (n : Int) < D j) : thrTo D R I X (j + 1) n = thrTo D R I X j n := by
  show (if D j ≤ (n : Int) then _ else _) = _
  rw [if_neg (by omega)]
theorem thrMid_at {D R I : Nat → Int} {X : Nat → Num} {j m : Nat} : thrMid D R I X j m m = thrTo D R I X j m := if_neg (Nat.lt_irrefl m)
theorem thrMid_step {D R I : Nat → Int} {X : Nat → Num} {j m : Nat} (h : D j ≤ (m : Int)) (n : Nat) : thrMid D R I X j (m + 1) n = setNum (thrMid D R I X j m) m ((thrTo D R I X j m).add ((gN (R j) (I j)).prod (X (m - (D j).toNat)))) n := by
  unfold setNum
  by_cases e : n = m
  · subst e
    rw [if_pos rfl, thrMid_end (Nat.lt_succ_self n)]
    show (if D j ≤ (n : Int) then _ else _) = _
    rw [if_pos h]
  · rw [if_neg e]
    unfold thrMid
    by_cases l : n < m
    · rw [if_pos l, if_pos (by omega)]
    · rw [if_neg l, if_neg (by omega)]
theorem chkE_right {n : Nat} {D R I : Nat → Int} (h : chkE n D R I = 0) : 0 < n ∧ n ≤ 6 ∧ ∀ j, j < n → (0 ≤ D j ∧ D j ≤ 7) ∧ (-100 ≤ R j ∧ R j ≤ 100) ∧ -100 ≤ I j ∧ I j ≤ 100 := by
  unfold chkE at h
  by_cases hl : lenE n = 0
  · rw [if_pos hl] at h
    refine ⟨lenE_zero hl, ?_, fun j hj => ?_⟩
    · unfold lenE at hl
      have := (firstE_nil (firstE_nil hl).2).1
      have := unI_zero (by decide) this
      have := of_decide_eq_true this
      omega
    · have h0 := badE_zero h j hj
      cases h1 : withinB (D j) 0 7 with
      | false => rw [pathEs_wrong (.inl h1)] at h0; exact absurd h0 (by decide)
      | true =>
        cases h2 : (⟨R j, I j⟩ : Gau).isIn 100 with
        | false => rw [pathEs_wrong (.inr h2)] at h0; exact absurd h0 (by decide)
        | true =>
          have h3 := withinB_iff.1 h1
          unfold Gau.isIn at h2
          simp only [Bool.and_eq_true, withinB_iff] at h2
          exact ⟨h3, h2.1, h2.2⟩
  · rw [if_neg hl] at h; exact absurd h hl
end Go.Proofs.Ytfemghbjngemlaa
/- Arrays of eight numbers of four parts. -/
namespace Go.Proofs.Ytfemghbjngemlaa
open Go.RowKit Go.Great
def numC (F : Nat → Num) (j : Nat) : Value := .int .i64 ((F (j / 4)).part (j % 4))
def arr8 (F : Nat → Num) : Array Value := ((List.range 32).map (numC F)).toArray
theorem arr8_size (F : Nat → Num) : (arr8 F).size = 32 := by simp [arr8]
theorem arr8_at (F : Nat → Num) (i : Nat) (h : i < 32) : (arr8 F)[i]? = some (numC F i) := by
  rw [arr8, List.getElem?_toArray, List.getElem?_map, List.getElem?_range h]
  rfl
theorem arr8_one (F : Nat → Num) : (arr8 F).all (·.oneCell') = true := by
  rw [Array.all_eq_true_iff_forall_mem]
  intro v hv
  obtain ⟨i, _, rfl⟩ := List.mem_map.1 (List.mem_toArray.1 hv)
  rfl
theorem arr8_congr {F G : Nat → Num} (h : ∀ k, k < 8 → F k = G k) : arr8 F = arr8 G := by
  unfold arr8
  congr 1
  exact List.map_congr_left fun j hj => by
    have := List.mem_range.1 hj
    unfold numC
    rw [h (j / 4) (by omega)]
theorem info8 : (Try.prog.info? 27).map (·.size) = some 32 := by kernel_rfl
/-- Block b is an array of eight numbers F. -/
def ArrNums (w : World) (b : Nat) (F : Nat → Num) : Prop := w.rowIs b 27 32 (numC F)
theorem ArrNums.below {w w' : World} {b : Nat} {F : Nat → Num} (h : ArrNums w b F) (hb : Below w.heap.size w w') : ArrNums w' b F := rowIs_below h hb
theorem ArrNums.alloc {w : World} {b : Nat} {F : Nat → Num} (h : ArrNums w b F) (o : Obj) : ArrNums (w.alloc o) b F := World.rowIs.alloc h o
theorem ArrNums.drew {w : World} {b : Nat} {F : Nat → Num} (h : ArrNums w b F) : ArrNums w.drew b F := h
theorem ArrNums.lt {w : World} {b : Nat} {F : Nat → Num} (h : ArrNums w b F) : b < w.heap.size := World.rowIs.lt h
theorem ArrNums.congr {w : World} {b : Nat} {F G : Nat → Num} (h : ArrNums w b F) (e : ∀ k, k < 8 → F k = G k) : ArrNums w b G := World.rowIs.congr h fun j hj => by
  unfold numC
  rw [e (j / 4) (by omega)]
theorem ArrNums.part {w : World} {b : Nat} {F : Nat → Num} (h : ArrNums w b F) {k i : Nat} (hk : k < 8) (hi : i < 4) : w.cell? ⟨b, k * 4 + i, none⟩ = some (.int .i64 ((F k).part i)) := by
  rw [World.rowIs.cell h (by omega)]
  unfold numC
  rw [show (k * 4 + i) / 4 = k by omega, show (k * 4 + i) % 4 = i by omega]
theorem ArrNums.cells {w : World} {b : Nat} {F : Nat → Num} (h : ArrNums w b F) {k : Nat} (hk : k < 8) :
    w.cell? ⟨b, k * 4, none⟩ = some (.int .i64 (F k).a) ∧ w.cell? ⟨b, k * 4 + 1, none⟩ = some (.int .i64 (F k).b) ∧ w.cell? ⟨b, k * 4 + 2, none⟩ = some (.int .i64 (F k).c) ∧ w.cell? ⟨b, k * 4 + 3, none⟩ = some (.int .i64 (F k).d) :=
  ⟨h.part hk (show 0 < 4 by decide), h.part hk (show 1 < 4 by decide), h.part hk (show 2 < 4 by decide), h.part hk (show 3 < 4 by decide)⟩
theorem ArrNums.frozen4 {w : World} {b : Nat} {F : Nat → Num} (h : ArrNums w b F) (k : Nat) : w.frozen? ⟨b, k * 4, none⟩ = false ∧ w.frozen? ⟨b, k * 4 + 1, none⟩ = false ∧ w.frozen? ⟨b, k * 4 + 2, none⟩ = false ∧ w.frozen? ⟨b, k * 4 + 3, none⟩ = false := ⟨World.rowIs.frozen h _, World.rowIs.frozen h _, World.rowIs.frozen h _, World.rowIs.frozen h _⟩
theorem ArrNums.other {w : World} {b c o : Nat} {F : Nat → Num} (h : ArrNums w b F) (hn : b ≠ c) (u0 u1 u2 u3 : Value) : ArrNums ((((w.setCell ⟨c, o, none⟩ u0).setCell ⟨c, o + 1, none⟩ u1).setCell ⟨c, o + 2, none⟩ u2).setCell ⟨c, o + 3, none⟩ u3) b F :=
  (((World.rowIs.setOther h (a := ⟨c, o, none⟩) hn u0).setOther (a := ⟨c, o + 1, none⟩) hn u1).setOther (a := ⟨c, o + 2, none⟩) hn u2).setOther (a := ⟨c, o + 3, none⟩) hn u3
theorem ArrNums.put {w : World} {b : Nat} {F : Nat → Num} (h : ArrNums w b F) (k : Nat) (x : Num) :
    ArrNums ((((w.setCell ⟨b, k * 4, none⟩ (.int .i64 x.a)).setCell ⟨b, k * 4 + 1, none⟩ (.int .i64 x.b)).setCell ⟨b, k * 4 + 2, none⟩ (.int .i64 x.c)).setCell ⟨b, k * 4 + 3, none⟩ (.int .i64 x.d)) b (setNum F k x) := by
  refine ((((World.rowIs.set h (k * 4) (.int .i64 x.a)).set (k * 4 + 1) (.int .i64 x.b)).set (k * 4 + 2) (.int .i64 x.c)).set (k * 4 + 3) (.int .i64 x.d)).congr fun j hj => ?_
  show (if j = k * 4 + 3 then Value.int .i64 x.d else if j = k * 4 + 2 then .int .i64 x.c else if j = k * 4 + 1 then .int .i64 x.b else if j = k * 4 then .int .i64 x.a else numC F j) = numC (setNum F k x) j
  unfold numC setNum
  have hd := Nat.div_add_mod j 4
  have hlt := Nat.mod_lt j (show 0 < 4 by decide)
  by_cases hk : j / 4 = k
  · rw [if_pos hk]
    obtain e | e | e | e : j % 4 = 0 ∨ j % 4 = 1 ∨ j % 4 = 2 ∨ j % 4 = 3 := by omega
    · rw [if_neg (by omega), if_neg (by omega), if_neg (by omega), if_pos (by omega), e]; rfl
    · rw [if_neg (by omega), if_neg (by omega), if_pos (by omega), e]; rfl
    · rw [if_neg (by omega), if_pos (by omega), e]; rfl
    · rw [if_pos (by omega), e]; rfl
  · rw [if_neg hk, if_neg (by omega), if_neg (by omega), if_neg (by omega), if_neg (by omega)]
theorem arrNums_alloc (w : World) (F : Nat → Num) (b : Nat) (hb : b = w.heap.size) : ArrNums (w.alloc (.cells (arr8 F) 27)) b F := by
  subst hb
  have := World.rowIs_alloc w (arr8 F) 27 (numC F) (fun i hi => arr8_at F i (by rwa [arr8_size] at hi))
  rwa [arr8_size] at this
theorem run_load8 {W : World} {b : Nat} {F : Nat → Num} (hr : ArrNums W b F) : (loadVar 27 ⟨b, 0, none⟩).run Try.prog W = .ok (.agg (arr8 F)) W :=
  run_loadVar_mid (P := Try.prog) W b 0 27 ((List.range 32).map (numC F)) _ (range_of_row hr) Try.underlying27 rfl (by rw [info8]; simp)
theorem wpList_load8 {ops : Array Oper} {rest : List Oper} {op : Oper} {a : Act} {w : World} {Q : Exit → Act → World → Prop} (hgd : op.guard = none) (x : Operand) (ho : op.op = .load 27 x)
    (b : Nat) (F : Nat → Num) (hx : a.eval x = .pointer (some ⟨b, 0, none⟩)) (hr : ArrNums w b F)
    (h : wpList Try.prog ops Q rest (a.put op.dst (.agg (arr8 F))) w) : wpList Try.prog ops Q (op :: rest) a w :=
  wpList_load_mid hgd 27 x ho b 0 hx ((List.range 32).map (numC F)) _ (range_of_row hr) Try.underlying27 rfl (by rw [info8]; simp) h
theorem wpList_store8 {ops : Array Oper} {rest : List Oper} {op : Oper} {a : Act} {w : World} {Q : Exit → Act → World → Prop} (hgd : op.guard = none) (x y : Operand) (ho : op.op = .store 27 x y)
    (b : Nat) (F0 F : Nat → Num) (hx : a.eval x = .pointer (some ⟨b, 0, none⟩)) (hy : a.eval y = .agg (arr8 F)) (hb : ArrNums w b F0)
    (h : ∀ W, ArrNums W b F → Only b w W → wpList Try.prog ops Q rest (a.put op.dst undef) W) : wpList Try.prog ops Q (op :: rest) a w :=
  wpList_store_block hgd 27 x y ho b 27 32 (numC F0) (numC F) (arr8 F) hx hy hb (arr8_size F) info8 (arr8_one F) (arr8_at F) h
/-- Two results, the first one a whole array that lies in memory. -/
theorem results_cell2 {fn : Func} {p q : Tmp} {ty : TypeId} (h : fn.results = #[.cell p ty, .tmp q]) (tmps : Array Value) (P : Program) (w : World) :
    (results fn tmps).run P w = ((asAddr (tmps.getD p undef)).run P w).andThen fun a w₁ => ((loadVar ty a).run P w₁).andThen fun v w₂ => .ok (.tuple #[v, tmps.getD q undef]) w₂ := by
  simp only [results, h]
  simp [Sem.run_bind, Result.andThen]
theorem result8 {fn : Func} {p q : Tmp} {b : Nat} {F : Nat → Num} {e : Value} {W : World} (h : fn.results = #[.cell p 27, .tmp q]) (tmps : Array Value) (ht : tmps.getD p undef = .pointer (some ⟨b, 0, none⟩)) (he : tmps.getD q undef = e) (hr : ArrNums W b F) :
    (results fn tmps).run Try.prog W = .ok (.tuple #[.agg (arr8 F), e]) W := by
  rw [results_cell2 h, ht, he]
  simp only [asAddr, Sem.run_pure, Result.andThen, run_load8 hr]
end Go.Proofs.Ytfemghbjngemlaa
/- numberOf, conjugate of the code. -/
namespace Go.Proofs.Ytfemghbjngemlaa
open Go.RowKit
set_option maxHeartbeats 1000000 in
theorem numberOf_any (p q : Int) (w : World) :
    Calls Try.prog 73 #[.agg #[.int .i64 p, .int .i64 q]] w fun e w' => e = .returned (.agg #[.int .i64 p, .int .i64 0, .int .i64 q, .int .i64 0]) ∧ Below w.heap.size w w' := by
  have hb : Box ((w.alloc (.cells #[.int .i64 p, .int .i64 q] 23)).alloc (.cells #[.int .i64 p, .int .i64 0, .int .i64 q, .int .i64 0] 26)) (w.heap.size + 1) 26 #[.int .i64 p, .int .i64 0, .int .i64 q, .int .i64 0] := Box.made (by simp)
  have HCE := hide hb.cells4
  clear hb
  go_enter Try.func73, Try.ntmps73
  go_wp2_with fail
  obtain ⟨y0, y1, y2, y3, -⟩ := HCE.out
  refine bodyPost_ret (v := .agg #[.int .i64 p, .int .i64 0, .int .i64 q, .int .i64 0]) ?_ rfl ⟨rfl, by (repeat (first | (with_reducible exact Below.refl _ _) | (with_reducible refine Go.below_drewN ?_ _) | (with_reducible refine Below.drew ?_) | (with_reducible refine Below.alloc ?_ (by first | exact Nat.le_refl _ | (simp; done) | (simp; omega) | omega) _) | (with_reducible refine Below.setCell ?_ (by first | exact Nat.le_refl _ | (simp; done) | (simp; omega) | omega) _)))⟩
  simp [results, Try.results73, go_sem, y0, y1, y2, y3]
set_option maxHeartbeats 1000000 in
theorem conjugate_any (x : Num) (w : World) (hx : x.Within 4611686018427387904) :
    Calls Try.prog 81 #[.agg #[.int .i64 x.a, .int .i64 x.b, .int .i64 x.c, .int .i64 x.d]] w fun e w' => e = .returned (.agg #[.int .i64 x.conj.a, .int .i64 x.conj.b, .int .i64 x.conj.c, .int .i64 x.conj.d]) ∧ Below w.heap.size w w' := by
  obtain ⟨⟨a1, a2⟩, ⟨b1, b2⟩, ⟨c1, c2⟩, ⟨d1, d2⟩⟩ := hx
  have q1 : IntKind.i64.wrap (-x.b) = -x.b := IntWalk.i64_in _ (by omega)
  have q2 : IntKind.i64.wrap (-x.c) = -x.c := IntWalk.i64_in _ (by omega)
  have q3 : IntKind.i64.wrap (-x.d) = -x.d := IntWalk.i64_in _ (by omega)
  clear a1 a2 b1 b2 c1 c2 d1 d2
  have hb : Box ((w.alloc (.cells #[.int .i64 x.a, .int .i64 x.b, .int .i64 x.c, .int .i64 x.d] 26)).alloc (.cells #[.int .i64 x.a, .int .i64 (-x.d), .int .i64 (-x.c), .int .i64 (-x.b)] 26)) (w.heap.size + 1) 26 #[.int .i64 x.a, .int .i64 (-x.d), .int .i64 (-x.c), .int .i64 (-x.b)] := Box.made (by simp)
  have HCE := hide hb.cells4
  clear hb
  go_enter Try.func81, Try.ntmps81
  go_wp2_with fail
  obtain ⟨y0, y1, y2, y3, -⟩ := HCE.out
  refine bodyPost_ret (v := .agg #[.int .i64 x.a, .int .i64 (-x.d), .int .i64 (-x.c), .int .i64 (-x.b)]) ?_ rfl ⟨rfl, by (repeat (first | (with_reducible exact Below.refl _ _) | (with_reducible refine Go.below_drewN ?_ _) | (with_reducible refine Below.drew ?_) | (with_reducible refine Below.alloc ?_ (by first | exact Nat.le_refl _ | (simp; done) | (simp; omega) | omega) _) | (with_reducible refine Below.setCell ?_ (by first | exact Nat.le_refl _ | (simp; done) | (simp; omega) | omega) _)))⟩
  simp [results, Try.results81, go_sem, y0, y1, y2, y3]
end Go.Proofs.Ytfemghbjngemlaa
