/- Lemmas: Od, Oe, Uc, Bi, Ba, Bb. -/
import Derived.StillTailTactics
import Derived.BigQuiet
import Derived.Test.YtmcgmlhpbpjmgaaBk01
import Derived.Test.YtmcgmlhpbpjmgaaBk02
import Derived.Test.YtmcgmlhpbpjmgaaBk03
import Derived.Test.YtmcgmlhpbpjmgaaBk04
import Derived.Test.YtmcgmlhpbpjmgaaBk05
import Derived.Test.YtmcgmlhpbpjmgaaBk09
set_option linter.unusedVariables false
set_option linter.unusedSimpArgs false
/- KnownErr of the reference; Shifted of the code. -/
namespace Go.Proofs.Ytmcgmlhpbpjmgaa
open Go.RowKit
theorem err_cases (M : Int) (x : Num) : x.err M = unI (x.isIn M) 2 := rfl
theorem offE_far {n m : Nat} {F G : Nat → Num} (h : n = 0 ∨ m ≠ n) : offE n m F G = 10 := by
  unfold offE
  rw [firstE, if_neg]
  · unfold unI
    rw [if_neg]
    simp
    omega
  · unfold unI
    rw [if_neg]
    · decide
    · simp
      omega
theorem offE_many {n : Nat} {F G : Nat → Num} (h : 16 < n) : offE n n F G = 8 := by
  unfold offE
  rw [firstE, if_pos, firstE, if_neg]
  · unfold unI; rw [if_neg]; simp; omega
  · unfold unI; rw [if_neg]
    · decide
    · simp; omega
  · unfold unI; rw [if_pos]; simp; omega
theorem offE_few {n : Nat} {F G : Nat → Num} (h0 : 0 < n) (h : n ≤ 16) : offE n n F G = firstE [numsE 100 F n, numsE 100 G n] := by
  unfold offE
  rw [firstE, if_pos, firstE, if_pos]
  · unfold unI; rw [if_pos]; simp; omega
  · unfold unI; rw [if_pos]; simp; omega
set_option maxHeartbeats 4000000 in
set_option maxRecDepth 100000 in
theorem knownErrR_any (A B : Option Addr) (n c m d : Nat) (F G : Nat → Num) (w : World) (hI : NumsAt w 0 A n F) (hJ : NumsAt w 0 B m G) :
    Calls Try.prog 15 #[.slice A n c, .slice B m d] w fun e w' => e = .returned (.int .i64 (offE n m F G)) ∧ Below w.heap.size w w' := by
  have HI := hide hI
  have HJ := hide hJ
  have HXF := hide (fun j W => withinR_any (F j) 100 W (by decide))
  have HXG := hide (fun j W => withinR_any (G j) 100 W (by decide))
  clear hI hJ
  by_cases h1 : n = 0
  · have HE := hide (offE_far (F := F) (G := G) (m := m) (n := n) (.inl h1))
    have t1 : ((n : Int) == 0) = true := by simp; omega
    generalize offE n m F G = v at *
    clear HI HJ HXF HXG h1
    go_enter Try.func15, Try.ntmps15
    go_wp2_with fail
    go_ret
    exact ⟨by rw [HE.out]; rfl, Below.refl _ _⟩
  have t1 : ((n : Int) == 0) = false := by simp; omega
  by_cases h2 : m = n
  case neg =>
    have HE := hide (offE_far (F := F) (G := G) (m := m) (n := n) (.inr h2))
    have t2 : ((m : Int) != (n : Int)) = true := by simp; omega
    generalize offE n m F G = v at *
    clear HI HJ HXF HXG h1 h2
    go_enter Try.func15, Try.ntmps15
    go_wp2_with fail
    go_ret
    exact ⟨by rw [HE.out]; rfl, Below.refl _ _⟩
  subst h2
  have t2 : ((m : Int) != (m : Int)) = false := by simp
  by_cases h3 : 16 < m
  · have HE := hide (offE_many (F := F) (G := G) h3)
    have t3 : (m : Int) > 16 := by omega
    generalize offE m m F G = v at *
    clear HI HJ HXF HXG h1 h3
    go_enter Try.func15, Try.ntmps15
    go_wp2_with fail
    go_ret
    exact ⟨by rw [HE.out]; rfl, Below.refl _ _⟩
  have t3 : ¬ ((m : Int) > 16) := by omega
  have HE := hide (offE_few (F := F) (G := G) (show 0 < m by omega) (show m ≤ 16 by omega))
  have hm16 : m ≤ 16 := by omega
  generalize offE m m F G = v at *
  clear h1 h3
  go_enter Try.func15, Try.ntmps15
  go_wp2_with fail
  go_loopw [5] (fun i wr => ∃ k : Nat, k ≤ m ∧ i = .int .i64 (k : Int) ∧ Hid (badE (fun j => (F j).err 100) k = 0) ∧ Below w.heap.size w wr) (fun i _ => m - (Go.RowKit.intOf i).toNat)
  case atStart => exact ⟨0, Nat.zero_le _, rfl, hide rfl, Below.refl _ _⟩
  case round =>
    obtain ⟨k, hk, rfl, HZ, hB⟩ := hrel
    obtain ⟨wA, rfl⟩ : ∃ x : World, x = wr := ⟨_, rfl⟩
    by_cases hlt : k < m
    · have hltz : (k : Int) < (m : Int) := by omega
      obtain ⟨b, o, rfl, -, hb, c0, c1, c2, c3⟩ := (HI.out.below hB) k hlt
      have HXk := hide (HXF.out k)
      have HG := hide (badE_succ HZ.out)
      have HQ := hide (fun h => badE_at (g := fun j => (F j).err 100) HZ.out h m hlt)
      have HV := hide (show (F k).err 100 = unI ((F k).isIn 100) 2 from rfl)
      have HB := hide hB
      clear hB
      cases hv : (F k).isIn 100
      · rw [hv] at HXk HV
        have HN := hide (show numsE 100 F m = 2 from (HQ.out (by show (F k).err 100 ≠ 0; rw [HV.out]; decide)).trans HV.out)
        have HE2 := hide (show v = 2 by rw [HE.out, HN.out]; rfl)
        clear HQ HG HV hv HZ HN HE
        generalize F k = x at *
        go_wp2_with fail
        refine (HXk.out _).mono ?_
        rintro e w2 ⟨rfl, hb2⟩
        have HB2 := hide (HB.out.trans (hb2.mono HB.out.size))
        clear hb2 c0 c1 c2 c3
        go_wp2_with fail
        go_ret
        exact ⟨by rw [HE2.out]; rfl, HB2.out⟩
      · rw [hv] at HXk HV
        have HN := hide (show badE (fun j => (F j).err 100) (k + 1) = 0 from HG.out.trans HV.out)
        clear HQ HG HV hv HZ HE
        generalize F k = x at *
        go_wp2_with fail
        refine (HXk.out _).mono ?_
        rintro e w2 ⟨rfl, hb2⟩
        have HB2 := hide (HB.out.trans (hb2.mono HB.out.size))
        clear hb2 c0 c1 c2 c3
        go_wp2_with fail
        go_roundw
        case rel => exact ⟨k + 1, by omega, by go_num, HN, HB2.out⟩
        case measure => simp [Go.RowKit.intOf]; omega
    · obtain rfl : k = m := by omega
      have hltz : ¬ ((k : Int) < (k : Int)) := by omega
      have HE1 := hide (show v = numsE 100 G k by rw [HE.out, show numsE 100 F k = 0 from HZ.out, firstE, if_pos rfl, firstE]; by_cases h : numsE 100 G k = 0 <;> simp [h, firstE])
      have HB1 := hide hB
      clear HZ HE HI HXF hB hlt
      go_wp2_with fail
      go_loopw [6] (fun i wr => ∃ j : Nat, j ≤ k ∧ i = .int .i64 (j : Int) ∧ Hid (badE (fun j => (G j).err 100) j = 0) ∧ Below w.heap.size w wr) (fun i _ => k - (Go.RowKit.intOf i).toNat)
      case atStart => exact ⟨0, Nat.zero_le _, rfl, hide rfl, HB1.out⟩
      case round =>
        clear HB1
        obtain ⟨j, hj, rfl, HZ, hB⟩ := hrel
        obtain ⟨wB, rfl⟩ : ∃ x : World, x = wr := ⟨_, rfl⟩
        by_cases hlt : j < k
        · have hltz : (j : Int) < (k : Int) := by omega
          obtain ⟨b, o, rfl, -, hb, c0, c1, c2, c3⟩ := (HJ.out.below hB) j hlt
          have HXk := hide (HXG.out j)
          have HG := hide (badE_succ HZ.out)
          have HQ := hide (fun h => badE_at (g := fun j => (G j).err 100) HZ.out h k hlt)
          have HV := hide (show (G j).err 100 = unI ((G j).isIn 100) 2 from rfl)
          have HB := hide hB
          clear hB
          cases hv : (G j).isIn 100
          · rw [hv] at HXk HV
            have HN := hide (show numsE 100 G k = 2 from (HQ.out (by show (G j).err 100 ≠ 0; rw [HV.out]; decide)).trans HV.out)
            have HE2 := hide (show v = 2 by rw [HE1.out, HN.out])
            clear HQ HG HV hv HZ HN HE1
            generalize G j = x at *
            go_wp2_with fail
            refine (HXk.out _).mono ?_
            rintro e w2 ⟨rfl, hb2⟩
            have HB2 := hide (HB.out.trans (hb2.mono HB.out.size))
            clear hb2 c0 c1 c2 c3
            go_wp2_with fail
            go_ret
            exact ⟨by rw [HE2.out]; rfl, HB2.out⟩
          · rw [hv] at HXk HV
            have HN := hide (show badE (fun j => (G j).err 100) (j + 1) = 0 from HG.out.trans HV.out)
            clear HQ HG HV hv HZ
            generalize G j = x at *
            go_wp2_with fail
            refine (HXk.out _).mono ?_
            rintro e w2 ⟨rfl, hb2⟩
            have HB2 := hide (HB.out.trans (hb2.mono HB.out.size))
            clear hb2 c0 c1 c2 c3
            go_wp2_with fail
            go_roundw
            case rel => exact ⟨j + 1, by omega, by go_num, HN, HB2.out⟩
            case measure => simp [Go.RowKit.intOf]; omega
        · obtain rfl : j = k := by omega
          have hltz : ¬ ((j : Int) < (j : Int)) := by omega
          have HE2 := hide (show v = 0 by rw [HE1.out]; exact HZ.out)
          have HB := hide hB
          clear HZ hB HE1
          go_wp2_with fail
          go_ret
          exact ⟨by rw [HE2.out]; rfl, HB.out⟩
end Go.Proofs.Ytmcgmlhpbpjmgaa
/- samplesError and Shifted of the code. -/
namespace Go.Proofs.Ytmcgmlhpbpjmgaa
open Go.RowKit
theorem sampE_first (n : Nat) (F : Nat → Num) : firstE [unI (decide ((n : Int) ≤ 120)) 8, numsE 1000000000 F n] = sampE n F := by
  rw [firstE_two]
  unfold sampE twoE unI
  by_cases h : 120 < n
  · rw [if_pos h, if_neg (show ¬ decide ((n : Int) ≤ 120) = true by simp; omega), if_neg (by decide)]
  · rw [if_neg h, if_pos (show decide ((n : Int) ≤ 120) = true by simp; omega), if_pos rfl]
set_option maxHeartbeats 1000000 in
set_option maxRecDepth 100000 in
theorem samplesError_any (A : Option Addr) (n c : Nat) (F : Nat → Num) (w : World) (hn : n ≤ 100000) (hI : NumsAt w 0 A n F) :
    Calls Try.prog 40 #[.slice A n c] w fun e w' => e = .returned (.int .i64 (sampE n F)) ∧ Below w.heap.size w w' := by
  have HE := hide (sampE_first n F)
  have HX := hide (smallError_any A n c F w hn hI)
  clear hI
  generalize sampE n F = v at *
  go_enter Try.func40, Try.ntmps40
  go_wp2_with (go_at_call 43; refine (unless_any _ _ _).mono ?_; rintro e w' ⟨rfl, rfl⟩)
  refine HX.out.mono ?_
  rintro e w2 ⟨rfl, hb⟩
  go_wp2_with fail
  refine (firstError_laid [unI (decide ((n : Int) ≤ 120)) 8, numsE 1000000000 F n] 2 _ _ rfl (by decide)).mono ?_
  rintro e w3 ⟨rfl, hw3⟩
  rw [HE.out]
  have hB3 : Below w.heap.size w w3 := by rw [← hw3]; exact hb.alloc hb.size _
  clear hw3 hb
  go_wp2_with fail
  go_ret
  exact ⟨rfl, hB3⟩
/-- The error of samples that are turned on. -/
def shiftE (n : Nat) (F : Nat → Num) (q : Int) : Int := twoE (sampE n F) (unI (withinB q 0 7) 2)
theorem shiftE_zero {n : Nat} {F : Nat → Num} {q : Int} (h : shiftE n F q = 0) : n ≤ 120 ∧ (∀ j, j < n → (F j).Within 1000000000) ∧ 0 ≤ q ∧ q ≤ 7 := by
  unfold shiftE twoE at h
  by_cases h1 : sampE n F = 0
  · rw [if_pos h1] at h
    have h2 := unI_zero (by decide) h
    unfold sampE at h1
    by_cases h3 : 120 < n
    · rw [if_pos h3] at h1; exact absurd h1 (by decide)
    · rw [if_neg h3] at h1
      unfold withinB at h2
      simp at h2
      exact ⟨by omega, numsE_zero h1, by omega, by omega⟩
  · rw [if_neg h1] at h; exact absurd h h1
theorem ownNums_weak {w : World} {base base' n : Nat} {v : Value} {F : Nat → Num} (h : OwnNums w base v n F) (hb : base' ≤ base) : OwnNums w base' v n F :=
  ⟨h.1, h.2.elim Or.inl (fun ⟨g, cap, cur, hv, hg, r⟩ => Or.inr ⟨g, cap, cur, hv, Nat.le_trans hb hg, r⟩)⟩
/-- What Shifted hands back: n numbers, or none where there is an error. -/
def GaveShift (w' : World) (base : Nat) (v : Value) (n : Nat) (F : Nat → Num) (q V : Int) : Prop := OwnNums w' base v (if V = 0 then n else 0) (shiftN F q)
set_option maxHeartbeats 2000000 in
set_option maxRecDepth 100000 in
theorem Shifted_any (A : Option Addr) (n c : Nat) (F : Nat → Num) (q : Int) (w : World) (hn : n ≤ 100000) (hI : NumsAt w 0 A n F) :
    Calls Try.prog 8 #[.slice A n c, .int .i64 q] w fun e w' => ∃ v, e = .returned (.tuple #[v, .int .i64 (shiftE n F q)]) ∧ GaveShift w' w.heap.size v n F q (shiftE n F q) ∧ Below w.heap.size w w' := by
  have HE := hide (show firstE [sampE n F, unI (withinB q 0 7) 2] = shiftE n F q from firstE_two _ _)
  have HX := hide (fun W (h : NumsAt W 0 A n F) => samplesError_any A n c F W hn h)
  have HZ := hide (shiftE_zero (n := n) (F := F) (q := q))
  have HT := hide (fun W (h : NumsAt W 0 A n F) (h0 : 0 ≤ q ∧ q ≤ 7) (h1 : ∀ j, j < n → (F j).Within 1000000000) => turnedOn_any A n c F q W hn (by omega) h (fun j hj => (h1 j hj).more (by decide)))
  have HI := hide hI
  clear hI
  generalize shiftE n F q = V at *
  generalize sampE n F = s at *
  go_enter Try.func8, Try.ntmps8
  go_wp2_with fail
  refine (HX.out _ HI.out).mono ?_
  rintro e w1 ⟨rfl, hb1⟩
  have HI1 := hide (HI.out.below hb1)
  have HB1 := hide hb1
  clear hb1 HI
  go_wp2_with (go_at_call 41; refine (eighthsError_any _ _).mono ?_; rintro e w' ⟨rfl, rfl⟩)
  refine (firstError_laid [s, unI (withinB q 0 7) 2] 2 _ _ rfl (by decide)).mono ?_
  rintro e w2 ⟨rfl, hw2⟩
  rw [HE.out]
  have HI2 := hide (show NumsAt w2 0 A n F by rw [← hw2]; exact HI1.out.alloc _)
  have HB2 := hide (show Below w.heap.size w w2 by rw [← hw2]; exact HB1.out.alloc HB1.out.size _)
  clear hw2 HI1 HB1
  by_cases hv : V = 0
  · obtain ⟨-, h1, h2⟩ := HZ.out hv
    have HTT := hide (HT.out w2 HI2.out h2 h1)
    have tv : (V != 0) = false := by simpa using hv
    subst hv
    clear HT HZ h1 h2 HE
    go_wp2_with fail
    refine HTT.out.mono ?_
    rintro e w3 ⟨v, rfl, ho, hb3⟩
    have HO := hide (show OwnNums w3 w.heap.size v n (shiftN F q) from ownNums_weak ho HB2.out.size)
    have HB3 := hide (HB2.out.trans (hb3.mono HB2.out.size))
    clear ho hb3 HB2
    go_wp2_with fail
    go_ret2
    exact ⟨_, rfl, (show OwnNums w3 w.heap.size v (if (0 : Int) = 0 then n else 0) (shiftN F q) by rw [if_pos rfl]; exact HO.out), HB3.out⟩
  · have tv : (V != 0) = true := by simpa using hv
    have HV := hide hv
    clear HT HZ HE hv
    go_wp2_with fail
    go_ret2
    exact ⟨_, rfl, (show OwnNums w2 w.heap.size (.slice none 0 0) (if V = 0 then n else 0) (shiftN F q) by rw [if_neg HV.out]; exact ownNums_nil _ _ _), HB2.out⟩
end Go.Proofs.Ytmcgmlhpbpjmgaa
/- Product of the reference. -/
namespace Go.Proofs.Ytmcgmlhpbpjmgaa
open Go.RowKit
set_option maxHeartbeats 8000000 in
set_option maxRecDepth 100000 in
theorem productR_any (x y : Num) (M N : Int) (w : World) (hx : x.Within M) (hy : y.Within N) (h0 : 0 ≤ M * N) (h4 : 4 * (M * N) ≤ 9000000000000000000) (hN : N ≤ 4611686018427387904) :
    Calls Try.prog 55 #[.agg #[.int .i64 x.a, .int .i64 x.b, .int .i64 x.c, .int .i64 x.d], .agg #[.int .i64 y.a, .int .i64 y.b, .int .i64 y.c, .int .i64 y.d]] w fun e w' => e = .returned (.agg #[.int .i64 (x.prod y).a, .int .i64 (x.prod y).b, .int .i64 (x.prod y).c, .int .i64 (x.prod y).d]) ∧ Below w.heap.size w w' := by
  have HPB := hide (fun i (hi : i ≤ 4) => (show (x.prodTo y i).Within 9000000000000000000 from (hx.prodTo hy i).more (by
    obtain ⟨p, hp⟩ : ∃ p, p = M * N := ⟨_, rfl⟩
    rw [← hp] at h0 h4 ⊢
    have h1 : (i : Int) * p ≤ 4 * p := Int.mul_le_mul_of_nonneg_right (by omega) h0
    omega)))
  have HT := hide (fun (i : Nat) (hi : i < 4) W => (by
    have h := turnR_any y (i : Int) W (hy.more hN)
    rw [show ((i : Int) % 8).toNat = i by omega] at h
    exact h : Calls Try.prog 52 #[.agg #[.int .i64 y.a, .int .i64 y.b, .int .i64 y.c, .int .i64 y.d], .int .i64 (i : Int)] W fun e w' => e = .returned (.agg #[.int .i64 (y.turns i).a, .int .i64 (y.turns i).b, .int .i64 (y.turns i).c, .int .i64 (y.turns i).d]) ∧ Below W.heap.size W w'))
  have HTI := hide (fun i => (show (Num.times (x.part i) (y.turns i)).Within 9000000000000000000 from ((hy.turns i).times (hx.part i)).more (by omega)))
  have HP := hide (show x.prod y = x.prodTo y 4 from rfl)
  clear hx hy h0 h4 hN
  go_enter Try.func55, Try.ntmps55
  go_upto_region 3 with fail
  obtain ⟨W0, hW0⟩ : ∃ q : World, q = ((((w.alloc (.cells #[.int .i64 x.a, .int .i64 x.b, .int .i64 x.c, .int .i64 x.d] 36)).alloc (.cells #[.int .i64 y.a, .int .i64 y.b, .int .i64 y.c, .int .i64 y.d] 36)).alloc (.cells #[.int .i64 0, .int .i64 0, .int .i64 0, .int .i64 0] 36)).alloc (.cells #[.int .i64 0, .int .i64 0, .int .i64 0, .int .i64 0] 36)).alloc (.cells #[.int .i64 x.a, .int .i64 x.b, .int .i64 x.c, .int .i64 x.d] 110) := ⟨_, rfl⟩
  rw [← hW0]
  obtain ⟨g1, hg1⟩ : ∃ g, g = w.heap.size + 1 := ⟨_, rfl⟩
  obtain ⟨g2, hg2⟩ : ∃ g, g = w.heap.size + 1 + 1 := ⟨_, rfl⟩
  obtain ⟨g3, hg3⟩ : ∃ g, g = w.heap.size + 1 + 1 + 1 := ⟨_, rfl⟩
  obtain ⟨g4, hg4⟩ : ∃ g, g = w.heap.size + 1 + 1 + 1 + 1 := ⟨_, rfl⟩
  have by0 : Box W0 g1 36 #[.int .i64 y.a, .int .i64 y.b, .int .i64 y.c, .int .i64 y.d] := by rw [hW0]; exact (((Box.made (by simp [hg1])).alloc _).alloc _).alloc _
  have bz0 : Box W0 g2 36 #[.int .i64 0, .int .i64 0, .int .i64 0, .int .i64 0] := by rw [hW0]; exact ((Box.made (by simp [hg2])).alloc _).alloc _
  have ba0 : Box W0 g3 36 #[.int .i64 (x.prodTo y 0).a, .int .i64 (x.prodTo y 0).b, .int .i64 (x.prodTo y 0).c, .int .i64 (x.prodTo y 0).d] := by rw [hW0]; exact (Box.made (by simp [hg3])).alloc _
  have bp0 : Box W0 g4 110 #[.int .i64 x.a, .int .i64 x.b, .int .i64 x.c, .int .i64 x.d] := by rw [hW0]; exact Box.made (by simp [hg4])
  have hB0 : Below w.heap.size w W0 := by rw [hW0]; (repeat (first | (with_reducible exact Below.refl _ _) | (with_reducible refine Go.below_drewN ?_ _) | (with_reducible refine Below.drew ?_) | (with_reducible refine Below.alloc ?_ (by first | exact Nat.le_refl _ | (simp; done) | (simp; omega) | omega) _) | (with_reducible refine Below.setCell ?_ (by first | exact Nat.le_refl _ | (simp; done) | (simp; omega) | omega) _)))
  rw [← hg4, ← hg3, ← hg2, ← hg1]
  have n31 : g1 ≠ g3 := by omega
  have n32 : g2 ≠ g3 := by omega
  have n34 : g4 ≠ g3 := by omega
  have w2 : w.heap.size ≤ g2 := by omega
  have w3 : w.heap.size ≤ g3 := by omega
  clear hW0 hg1 hg2 hg3 hg4
  go_wp2_with fail
  go_loopw [7] (fun i wr => ∃ j : Nat, j ≤ 4 ∧ i = .int .i64 (j : Int) ∧ Box wr g1 36 #[.int .i64 y.a, .int .i64 y.b, .int .i64 y.c, .int .i64 y.d] ∧ Box wr g2 36 #[.int .i64 0, .int .i64 0, .int .i64 0, .int .i64 0] ∧ Box wr g3 36 #[.int .i64 (x.prodTo y j).a, .int .i64 (x.prodTo y j).b, .int .i64 (x.prodTo y j).c, .int .i64 (x.prodTo y j).d] ∧ Box wr g4 110 #[.int .i64 x.a, .int .i64 x.b, .int .i64 x.c, .int .i64 x.d] ∧ Below w.heap.size w wr) (fun i _ => 4 - (Go.RowKit.intOf i).toNat)
  case atStart => exact ⟨0, by decide, rfl, by0, bz0, ba0, bp0, hB0⟩
  case round =>
    clear by0 bz0 ba0 bp0 hB0
    obtain ⟨j, hj, rfl, bY, bZ, bA, bP, hB⟩ := hrel
    obtain ⟨wA, rfl⟩ : ∃ q : World, q = wr := ⟨_, rfl⟩
    obtain ⟨s, hs⟩ : ∃ s, s = x.prodTo y j := ⟨_, rfl⟩
    rw [← hs] at bA
    by_cases hlt : j < 4
    · have hltz : (j : Int) < 4 := by omega
      have HTJ := hide (fun W => HT.out j hlt W)
      obtain ⟨u, hu⟩ : ∃ u, u = y.turns j := ⟨_, rfl⟩
      have hTI := HTI.out j
      have HSS := hide (show x.prodTo y (j + 1) = s.add (Num.times (x.part j) (y.turns j)) from by rw [hs]; rfl)
      have hss := HPB.out (j + 1) hlt
      rw [HSS.out] at hss
      rw [← hu] at HTJ hTI HSS hss
      have hpart : wA.cell? ⟨g4, j, none⟩ = some (.int .i64 (x.part j)) := by
        rw [bP.at_ j]
        obtain rfl | rfl | rfl | rfl : j = 0 ∨ j = 1 ∨ j = 2 ∨ j = 3 := by omega
        all_goals rfl
      obtain ⟨pp, hpp⟩ : ∃ pp, pp = x.part j := ⟨_, rfl⟩
      rw [← hpp] at hpart hTI HSS hss
      obtain ⟨t, ht⟩ : ∃ t, t = Num.times pp u := ⟨_, rfl⟩
      rw [← ht] at hTI HSS hss
      have HPL := hide (fun W => plusR_any s t 9000000000000000000 W hss (by decide))
      have q1 : IntKind.i64.wrap (pp * u.a) = t.a := by rw [ht]; have := hTI.a; rw [ht] at this; exact IntWalk.i64_in _ (by have h : -9000000000000000000 ≤ pp * u.a ∧ pp * u.a ≤ 9000000000000000000 := this; omega)
      have q2 : IntKind.i64.wrap (pp * u.b) = t.b := by rw [ht]; have := hTI.b; rw [ht] at this; exact IntWalk.i64_in _ (by have h : -9000000000000000000 ≤ pp * u.b ∧ pp * u.b ≤ 9000000000000000000 := this; omega)
      have q3 : IntKind.i64.wrap (pp * u.c) = t.c := by rw [ht]; have := hTI.c; rw [ht] at this; exact IntWalk.i64_in _ (by have h : -9000000000000000000 ≤ pp * u.c ∧ pp * u.c ≤ 9000000000000000000 := this; omega)
      have q4 : IntKind.i64.wrap (pp * u.d) = t.d := by rw [ht]; have := hTI.d; rw [ht] at this; exact IntWalk.i64_in _ (by have h : -9000000000000000000 ≤ pp * u.d ∧ pp * u.d ≤ 9000000000000000000 := this; omega)
      obtain ⟨z, hz⟩ : ∃ z, z = s.add t := ⟨_, rfl⟩
      rw [← hz] at HPL HSS
      clear hs hu hpp ht hz hTI hss
      obtain ⟨e0, e1, e2, e3, -, -, -, -, he⟩ := bY.cells4
      go_wp2_with fail
      refine (HTJ.out _).mono ?_
      rintro r v1 ⟨rfl, hb1⟩
      have hpart1 := (hb1.cell (p := ⟨g4, j, none⟩) bP.lt).trans hpart
      replace bY := bY.below hb1
      replace bZ := bZ.below hb1
      replace bA := bA.below hb1
      replace bP := bP.below hb1
      have hB1 := hB.trans (hb1.mono hB.size)
      clear hpart hB hb1 e0 e1 e2 e3 he
      go_upto_region 7 with fail
      obtain ⟨W1, hW1⟩ : ∃ q : World, q = v1.alloc (.cells #[.int .i64 u.a, .int .i64 u.b, .int .i64 u.c, .int .i64 u.d] 36) := ⟨_, rfl⟩
      rw [← hW1]
      obtain ⟨g8, hg8⟩ : ∃ g, g = v1.heap.size := ⟨_, rfl⟩
      have b8 : Box W1 g8 36 #[.int .i64 u.a, .int .i64 u.b, .int .i64 u.c, .int .i64 u.d] := by rw [hW1]; exact Box.made hg8
      rw [← hg8]
      have hpart2 : W1.cell? ⟨g4, j, none⟩ = some (.int .i64 pp) := by rw [hW1]; exact (((Below.refl v1.heap.size v1).alloc (Nat.le_refl _) _).cell (p := ⟨g4, j, none⟩) bP.lt).trans hpart1
      have hAB : Below v1.heap.size v1 W1 := by rw [hW1]; exact (Below.refl _ _).alloc (Nat.le_refl _) _
      replace bY := bY.below hAB
      replace bZ := bZ.below hAB
      replace bA := bA.below hAB
      replace bP := bP.below hAB
      have hB2 : Below w.heap.size w W1 := by rw [hW1]; exact hB1.alloc hB1.size _
      clear hW1 hg8 hB1 hpart1 hAB
      obtain ⟨e0, e1, e2, e3, f0, f1, f2, f3, he⟩ := bA.cells4
      obtain ⟨k0, k1, k2, k3, -, -, -, -, hk⟩ := b8.cells4
      go_still_tail 26, (by kernel_rfl)
      repeat still_step
      try refine wpStill_nil ?_
      go_wp2_with fail
      refine (HPL.out _).mono ?_
      rintro r v2 ⟨rfl, hb2⟩
      have hc2 : Below W1.heap.size W1 v2 := by first | exact hb2 | exact below_of_drew hb2
      replace bY := bY.below hc2
      replace bZ := bZ.below hc2
      replace bA := bA.below hc2
      replace bP := bP.below hc2
      have hB3 := hB2.trans (hc2.mono hB2.size)
      clear hb2 hc2 hB2 b8 hpart2 k0 k1 k2 k3 hk e0 e1 e2 e3 f0 f1 f2 f3 he
      obtain ⟨e0, e1, e2, e3, f0, f1, f2, f3, he⟩ := bA.cells4
      have HA := hide (bA.put4 (.int .i64 z.a) (.int .i64 z.b) (.int .i64 z.c) (.int .i64 z.d))
      have HY := hide (bY.other4 n31 (.int .i64 z.a) (.int .i64 z.b) (.int .i64 z.c) (.int .i64 z.d))
      have HZ := hide (bZ.other4 n32 (.int .i64 z.a) (.int .i64 z.b) (.int .i64 z.c) (.int .i64 z.d))
      have HPP := hide (bP.other4 n34 (.int .i64 z.a) (.int .i64 z.b) (.int .i64 z.c) (.int .i64 z.d))
      have HL := hide (Below.put4 hB3 w3 (.int .i64 z.a) (.int .i64 z.b) (.int .i64 z.c) (.int .i64 z.d))
      clear bY bZ bA bP hB3
      go_wp2_with fail
      go_roundw
      case rel => exact ⟨j + 1, by omega, by go_num, HY.out, HZ.out, by rw [HSS.out]; exact HA.out, HPP.out, HL.out⟩
      case measure => simp [Go.RowKit.intOf]; omega
    · obtain rfl : j = 4 := by omega
      have HR := hide (HP.out.trans hs.symm)
      obtain ⟨x0, x1, x2, x3, f0, f1, f2, f3, hlx⟩ := bA.cells4
      obtain ⟨y0, y1, y2, y3, g0, g1, g2, g3, hly⟩ := bZ.cells4
      have HC := hide (bZ.put4 (.int .i64 s.a) (.int .i64 s.b) (.int .i64 s.c) (.int .i64 s.d)).cells4
      have HBL := hide (Below.put4 hB w2 (.int .i64 s.a) (.int .i64 s.b) (.int .i64 s.c) (.int .i64 s.d))
      clear bY bZ bA bP hB hs
      go_wp2_with fail
      clear y0 y1 y2 y3
      obtain ⟨y0, y1, y2, y3, -⟩ := HC.out
      refine bodyPost_ret (v := .agg #[.int .i64 s.a, .int .i64 s.b, .int .i64 s.c, .int .i64 s.d]) ?_ rfl ⟨by rw [HR.out], HBL.out⟩
      simp [results, Try.results55, go_sem, y0, y1, y2, y3]
end Go.Proofs.Ytmcgmlhpbpjmgaa
/- SquareOf and Compared of the code. -/
namespace Go.Proofs.Ytmcgmlhpbpjmgaa
open Go.RowKit
theorem parts4 (M a b c d : Int) (g : Nat) (w : World) (hg : g = w.heap.size) (hM : 0 ≤ M ∧ M ≤ 9000000000000000000) :
    Calls Try.prog 80 #[.int .i64 M, .slice (some ⟨g, 0, none⟩) 4 4] (w.alloc (.cells #[.int .i64 a, .int .i64 b, .int .i64 c, .int .i64 d] 3)) fun e w' => e = .returned (.int .i64 (Num.err M ⟨a, b, c, d⟩)) ∧ w.alloc (.cells #[.int .i64 a, .int .i64 b, .int .i64 c, .int .i64 d] 3) = w' := by
  rw [← size4 M a b c d (listF [a, b, c, d]) rfl rfl rfl rfl]
  exact partsError_any M (some ⟨g, 0, none⟩) 4 4 (listF [a, b, c, d]) _ (by decide) hM (IntsAt.of_list [a, b, c, d] 4 rfl (Box.made hg) (Nat.zero_le _))
def sqRP (x : Num) : Int := if x.err 1000000 = 0 then x.sqP else 0
def sqRQ (x : Num) : Int := if x.err 1000000 = 0 then x.sqQ else 0
/-- The error of two squares that are compared, and what Compared hands back. -/
def cmE (a b c d : Int) : Int := Num.err 10000000000000 ⟨a, b, c, d⟩
def cmR (a b c d : Int) : Int := if cmE a b c d = 0 then compI (a - c) (d - b) else 0
end Go.Proofs.Ytmcgmlhpbpjmgaa
/- Numbers of any size (downtiltbase): mathematics of digits; trimmed, wideOf. -/
namespace Go.Proofs.Ytmcgmlhpbpjmgaa
open Go.RowKit
def BB : Int := 1000000000
def valD (D : Nat → Int) : Nat → Int
  | 0 => 0
  | k + 1 => valD D k + D k * BB ^ k
def Dig (n : Nat) (D : Nat → Int) : Prop := ∀ j, j < n → 0 ≤ D j ∧ D j < BB
def Norm (n : Nat) (D : Nat → Int) : Prop := n = 0 ∨ D (n - 1) ≠ 0
def trimN (D : Nat → Int) : Nat → Nat
  | 0 => 0
  | k + 1 => if D k = 0 then trimN D k else k + 1
theorem pow_pos_BB (k : Nat) : 0 < BB ^ k := Int.pow_pos (by decide)
theorem valD_congr {D E : Nat → Int} : ∀ n, (∀ j, j < n → D j = E j) → valD D n = valD E n
  | 0, _ => rfl
  | k + 1, h => by
    show valD D k + D k * BB ^ k = valD E k + E k * BB ^ k
    rw [valD_congr k fun j hj => h j (by omega), h k (Nat.lt_succ_self k)]
theorem valD_range {D : Nat → Int} : ∀ n, Dig n D → 0 ≤ valD D n ∧ valD D n < BB ^ n
  | 0, _ => ⟨Int.le_refl _, (by decide : (0 : Int) < BB ^ 0)⟩
  | k + 1, h => by
    obtain ⟨h1, h2⟩ := valD_range k fun j hj => h j (by omega)
    obtain ⟨d0, d1⟩ := h k (Nat.lt_succ_self k)
    have hp := pow_pos_BB k
    show 0 ≤ valD D k + D k * BB ^ k ∧ valD D k + D k * BB ^ k < BB ^ (k + 1)
    rw [Int.pow_succ, Int.mul_comm (BB ^ k) BB]
    have a1 : 0 ≤ D k * BB ^ k := Int.mul_nonneg d0 (by omega)
    have a2 : (D k + 1) * BB ^ k ≤ BB * BB ^ k := Int.mul_le_mul_of_nonneg_right (by omega) (by omega)
    rw [Int.add_mul, Int.one_mul] at a2
    omega
theorem trimN_le (D : Nat → Int) : ∀ n, trimN D n ≤ n
  | 0 => Nat.le_refl _
  | k + 1 => by
    unfold trimN
    split
    · have := trimN_le D k; omega
    · exact Nat.le_refl _
theorem trimN_norm (D : Nat → Int) : ∀ n, Norm (trimN D n) D
  | 0 => .inl rfl
  | k + 1 => by
    unfold trimN
    split
    · exact trimN_norm D k
    · rename_i h; exact .inr (by simpa using h)
theorem trimN_val (D : Nat → Int) : ∀ n, valD D (trimN D n) = valD D n
  | 0 => rfl
  | k + 1 => by
    unfold trimN
    split
    · rename_i h
      rw [trimN_val D k]
      show valD D k = valD D k + D k * BB ^ k
      rw [h, Int.zero_mul, Int.add_zero]
    · rfl
theorem norm_ge {D : Nat → Int} {n : Nat} (hd : Dig (n + 1) D) (hn : Norm (n + 1) D) : BB ^ n ≤ valD D (n + 1) := by
  rcases hn with h | h
  · exact absurd h (Nat.succ_ne_zero n)
  · rw [Nat.add_sub_cancel] at h
    have h1 := (valD_range n fun j hj => hd j (by omega)).1
    obtain ⟨d0, -⟩ := hd n (Nat.lt_succ_self n)
    have hp := pow_pos_BB n
    show BB ^ n ≤ valD D n + D n * BB ^ n
    have a2 : 1 * BB ^ n ≤ D n * BB ^ n := Int.mul_le_mul_of_nonneg_right (by omega) (by omega)
    omega
theorem norm_pos {D : Nat → Int} {n : Nat} (hd : Dig n D) (hn : Norm n D) (h : 0 < n) : 0 < valD D n := by
  obtain ⟨k, rfl⟩ : ∃ k, n = k + 1 := ⟨n - 1, by omega⟩
  have := norm_ge hd hn
  have := pow_pos_BB k
  omega
theorem pow_mono_BB {a b : Nat} (h : a ≤ b) : BB ^ a ≤ BB ^ b := by
  obtain ⟨d, rfl⟩ : ∃ d, b = a + d := ⟨b - a, by omega⟩
  induction d with
  | zero => exact Int.le_refl _
  | succ d ih =>
    have := ih (by omega)
    rw [← Nat.add_assoc, Int.pow_succ]
    have hp := pow_pos_BB (a + d)
    have : BB ^ (a + d) * 1 ≤ BB ^ (a + d) * BB := Int.mul_le_mul_of_nonneg_left (by decide) (by omega)
    omega
theorem valD_fewer {D E : Nat → Int} {n m : Nat} (h : n < m) (hd : Dig n D) (he : Dig m E) (hn : Norm m E) : valD D n < valD E m := by
  obtain ⟨k, rfl⟩ : ∃ k, m = k + 1 := ⟨m - 1, by omega⟩
  have h1 := (valD_range n hd).2
  have h2 := norm_ge he hn
  have h3 := pow_mono_BB (show n ≤ k by omega)
  omega
theorem valD_less {D E : Nat → Int} {i : Nat} : ∀ {n : Nat}, Dig n D → Dig n E → i < n → D i < E i → (∀ j, i < j → j < n → D j = E j) → valD D n < valD E n
  | 0, _, _, h, _, _ => absurd h (Nat.not_lt_zero i)
  | k + 1, hd, he, hi, hl, hq => by
    show valD D k + D k * BB ^ k < valD E k + E k * BB ^ k
    have hp := pow_pos_BB k
    by_cases e : i = k
    · subst e
      have h1 := (valD_range i fun j hj => hd j (by omega)).2
      have h2 := (valD_range i fun j hj => he j (by omega)).1
      have a2 : (D i + 1) * BB ^ i ≤ E i * BB ^ i := Int.mul_le_mul_of_nonneg_right (by omega) (by omega)
      rw [Int.add_mul, Int.one_mul] at a2
      omega
    · have h1 := valD_less (D := D) (E := E) (i := i) (n := k) (fun j hj => hd j (by omega)) (fun j hj => he j (by omega)) (by omega) hl fun j h1 h2 => hq j h1 (by omega)
      rw [hq k (by omega) (Nat.lt_succ_self k)]
      omega
set_option maxHeartbeats 1000000 in
theorem trimmed_any (A : Option Addr) (n c : Nat) (D : Nat → Int) (w : World) (hn : n ≤ 1000) (hc : n ≤ c) (hI : IntsAt w 0 A n D) :
    Calls Try.prog 111 #[.slice A n c] w fun e w' => e = .returned (.slice A (trimN D n) c) ∧ w = w' := by
  have HI := hide hI
  clear hI
  go_enter Try.func111, Try.ntmps111
  go_wp2_with fail
  go_loopw [3] (fun x wr => ∃ k : Nat, k ≤ n ∧ x = .int .i64 (k : Int) ∧ Hid (trimN D k = trimN D n) ∧ w = wr) (fun x _ => (Go.RowKit.intOf x).toNat)
  case atStart => exact ⟨n, Nat.le_refl _, rfl, hide rfl, rfl⟩
  case round =>
    obtain ⟨k, hk, rfl, HT, rfl⟩ := hrel
    have hkc : (k : Int) ≤ (c : Int) := by omega
    rcases k with _ | j
    · go_wp2_with fail
      go_ret
      exact ⟨by rw [show trimN D n = 0 from HT.out.symm]; rfl, rfl⟩
    · have h0 : ((j + 1 : Nat) : Int) > 0 := by omega
      have q1 : IntKind.i64.wrap (((j + 1 : Nat) : Int) - 1) = (j : Int) := by have h := IntWalk.i64_in (((j + 1 : Nat) : Int) - 1) (by omega); rw [h]; first | done | omega
      have hjn : (j : Int) < (n : Int) := by omega
      obtain ⟨b, o, rfl, -, -, x0⟩ := HI.out j (by omega)
      by_cases hz : D j = 0
      · have HT2 := hide (show trimN D j = trimN D n from by rw [← HT.out]; show _ = if D j = 0 then trimN D j else j + 1; rw [if_pos hz])
        rw [hz] at x0
        clear hz HT
        go_wp2_with fail
        go_roundw
        case rel => exact ⟨j, by omega, by first | rfl | go_num, HT2, by first | rfl | trivial⟩
        case measure => (simp [Go.RowKit.intOf]; first | done | omega)
      · have HT2 := hide (show trimN D n = j + 1 from by rw [← HT.out]; show (if D j = 0 then trimN D j else j + 1) = _; rw [if_neg hz])
        have t1 : (D j == 0) = false := by simpa using hz
        generalize D j = x at *
        clear hz HT
        go_wp2_with fail
        go_ret
        exact ⟨by rw [HT2.out]; rfl, rfl⟩
end Go.Proofs.Ytmcgmlhpbpjmgaa
/- Numbers of any size: wideOf, cmpDigits, digit, WideNeg. -/
namespace Go.Proofs.Ytmcgmlhpbpjmgaa
open Go.RowKit
def sgnT (s : Int) (t : Nat) : Int := if t = 0 then 0 else s
set_option maxHeartbeats 1000000 in
theorem wideOf_any (s : Int) (A : Option Addr) (n c : Nat) (D : Nat → Int) (w : World) (hn : n ≤ 1000) (hc : n ≤ c) (hI : IntsAt w 0 A n D) :
    Calls Try.prog 104 #[.int .i64 s, .slice A n c] w fun e w' => e = .returned (.agg #[.int .i64 (sgnT s (trimN D n)), .slice A (trimN D n) c]) ∧ Below w.heap.size w w' := by
  have HT := hide (fun W (h : IntsAt W 0 A n D) => trimmed_any A n c D W hn hc h)
  have HI := hide hI
  have HS := hide (show sgnT s (trimN D n) = if trimN D n = 0 then 0 else s from rfl)
  have hl := trimN_le D n
  generalize trimN D n = t at *
  clear hI
  have ht9 : t ≤ 1000 := by omega
  by_cases h0 : t = 0
  · have HS2 := hide (HS.out.trans (if_pos h0))
    subst h0
    clear HS
    go_enter Try.func104, Try.ntmps104
    go_upto_region 1 with fail
    obtain ⟨W, hW⟩ : ∃ q : World, q = w.alloc (.cells #[.int .i64 0, .slice none 0 0] 119) := ⟨_, rfl⟩
    rw [← hW]
    have b0 : Box W w.heap.size 119 #[.int .i64 0, .slice none 0 0] := by rw [hW]; exact Box.made rfl
    have hB : Below w.heap.size w W := by rw [hW]; (repeat (first | (with_reducible exact Below.refl _ _) | (with_reducible refine Go.below_drewN ?_ _) | (with_reducible refine Below.drew ?_) | (with_reducible refine Below.alloc ?_ (by first | exact Nat.le_refl _ | (simp; done) | (simp; omega) | omega) _) | (with_reducible refine Below.setCell ?_ (by first | exact Nat.le_refl _ | (simp; done) | (simp; omega) | omega) _)))
    clear hW
    have h0 := b0.at_ 0
    have h1 := b0.at_ 1
    simp only [List.getElem?_toArray] at h0 h1
    have f0 := b0.free 0
    have f1 := b0.free 1
    have hlt := b0.lt
    have HC := hide ((b0.set_ 0 (.int .i64 0)).set_ 1 (.slice A 0 c))
    have HL := hide ((hB.setCell (p := ⟨w.heap.size, 0, none⟩) (Nat.le_refl _) (.int .i64 0)).setCell (p := ⟨w.heap.size, 1, none⟩) (Nat.le_refl _) (.slice A 0 c))
    have HIW := hide (HI.out.below hB)
    clear b0 hB
    go_wp2_with (go_at_call 111; refine (HT.out _ HIW.out).mono ?_; rintro e w' ⟨rfl, rfl⟩)
    clear h0 h1
    have h0 := HC.out.at_ 0
    have h1 := HC.out.at_ 1
    simp only [Array.getElem?_setIfInBounds, List.setIfInBounds_toArray, List.getElem?_toArray] at h0 h1
    refine bodyPost_ret (v := .agg #[.int .i64 0, .slice A 0 c]) ?_ rfl ⟨by rw [HS2.out], HL.out⟩
    simp [results, Try.results104, go_sem, h0, h1]
  · have HS2 := hide (HS.out.trans (if_neg h0))
    have ht : ((t : Int) == 0) = false := by simp; omega
    clear HS h0
    go_enter Try.func104, Try.ntmps104
    go_upto_region 1 with fail
    obtain ⟨W, hW⟩ : ∃ q : World, q = w.alloc (.cells #[.int .i64 0, .slice none 0 0] 119) := ⟨_, rfl⟩
    rw [← hW]
    have b0 : Box W w.heap.size 119 #[.int .i64 0, .slice none 0 0] := by rw [hW]; exact Box.made rfl
    have hB : Below w.heap.size w W := by rw [hW]; (repeat (first | (with_reducible exact Below.refl _ _) | (with_reducible refine Go.below_drewN ?_ _) | (with_reducible refine Below.drew ?_) | (with_reducible refine Below.alloc ?_ (by first | exact Nat.le_refl _ | (simp; done) | (simp; omega) | omega) _) | (with_reducible refine Below.setCell ?_ (by first | exact Nat.le_refl _ | (simp; done) | (simp; omega) | omega) _)))
    clear hW
    have h0 := b0.at_ 0
    have h1 := b0.at_ 1
    simp only [List.getElem?_toArray] at h0 h1
    have f0 := b0.free 0
    have f1 := b0.free 1
    have hlt := b0.lt
    have HC := hide ((b0.set_ 0 (.int .i64 s)).set_ 1 (.slice A t c))
    have HL := hide ((hB.setCell (p := ⟨w.heap.size, 0, none⟩) (Nat.le_refl _) (.int .i64 s)).setCell (p := ⟨w.heap.size, 1, none⟩) (Nat.le_refl _) (.slice A t c))
    have HIW := hide (HI.out.below hB)
    clear b0 hB
    go_wp2_with (go_at_call 111; refine (HT.out _ HIW.out).mono ?_; rintro e w' ⟨rfl, rfl⟩)
    clear h0 h1
    have h0 := HC.out.at_ 0
    have h1 := HC.out.at_ 1
    simp only [Array.getElem?_setIfInBounds, List.setIfInBounds_toArray, List.getElem?_toArray] at h0 h1
    refine bodyPost_ret (v := .agg #[.int .i64 s, .slice A t c]) ?_ rfl ⟨by rw [HS2.out], HL.out⟩
    simp [results, Try.results104, go_sem, h0, h1]
set_option maxHeartbeats 1000000 in
theorem wideNeg_any (s : Int) (A : Option Addr) (n c : Nat) (w : World) (hs : -1 ≤ s ∧ s ≤ 1) :
    Calls Try.prog 113 #[.agg #[.int .i64 s, .slice A n c]] w fun e w' => e = .returned (.agg #[.int .i64 (-s), .slice A n c]) ∧ Below w.heap.size w w' := by
  have q1 : IntKind.i64.wrap (-s) = -s := IntWalk.i64_in _ (by omega)
  clear hs
  go_enter Try.func113, Try.ntmps113
  go_wp2_with fail
  have hb : Box ((w.alloc (.cells #[.int .i64 s, .slice A n c] 119)).alloc (.cells #[.int .i64 (-s), .slice A n c] 119)) (w.heap.size + 1) 119 #[.int .i64 (-s), .slice A n c] := Box.made (by simp)
  have h0 := hb.at_ 0
  have h1 := hb.at_ 1
  simp only [List.getElem?_toArray] at h0 h1
  refine bodyPost_ret (v := .agg #[.int .i64 (-s), .slice A n c]) ?_ rfl ⟨rfl, by (repeat (first | (with_reducible exact Below.refl _ _) | (with_reducible refine Go.below_drewN ?_ _) | (with_reducible refine Below.drew ?_) | (with_reducible refine Below.alloc ?_ (by first | exact Nat.le_refl _ | (simp; done) | (simp; omega) | omega) _) | (with_reducible refine Below.setCell ?_ (by first | exact Nat.le_refl _ | (simp; done) | (simp; omega) | omega) _)))⟩
  simp [results, Try.results113, go_sem, h0, h1]
def digN (n : Nat) (D : Nat → Int) (i : Nat) : Int := if i < n then D i else 0
set_option maxHeartbeats 1000000 in
theorem digit_any (A : Option Addr) (n c : Nat) (D : Nat → Int) (i : Nat) (w : World) (hI : IntsAt w 0 A n D) :
    Calls Try.prog 117 #[.slice A n c, .int .i64 (i : Int)] w fun e w' => e = .returned (.int .i64 (digN n D i)) ∧ w = w' := by
  by_cases h : i < n
  · have hz : (i : Int) < (n : Int) := by omega
    have HV := hide (show digN n D i = D i from if_pos h)
    obtain ⟨b, o, rfl, -, -, x0⟩ := hI i h
    generalize digN n D i = v at *
    generalize D i = x at *
    clear hI h
    go_enter Try.func117, Try.ntmps117
    go_wp2_with fail
    go_ret
    exact ⟨by rw [HV.out]; rfl, rfl⟩
  · have hz : ¬ (i : Int) < (n : Int) := by omega
    have HV := hide (show digN n D i = 0 from if_neg h)
    generalize digN n D i = v at *
    clear hI h
    go_enter Try.func117, Try.ntmps117
    go_wp2_with fail
    go_ret
    exact ⟨by rw [HV.out]; rfl, rfl⟩
set_option maxHeartbeats 2000000 in
theorem cmpDigits_any (A B : Option Addr) (n c m d : Nat) (D E : Nat → Int) (w : World) (hn : n ≤ 1000) (hm : m ≤ 1000) (hI : IntsAt w 0 A n D) (hJ : IntsAt w 0 B m E) (hD : Dig n D) (hE : Dig m E) (hDn : Norm n D) (hEn : Norm m E) :
    Calls Try.prog 115 #[.slice A n c, .slice B m d] w fun e w' => e = .returned (.int .i64 (cmpI (valD D n) (valD E m))) ∧ Below w.heap.size w w' := by
  rcases Nat.lt_trichotomy n m with h | h | h
  · have HV := hide (cmpI_lt (valD_fewer h hD hE hEn))
    have t1 : ((n : Int) != (m : Int)) = true := by simp; omega
    have t2 : (n : Int) < (m : Int) := by omega
    generalize cmpI (valD D n) (valD E m) = v at *
    clear hI hJ hD hE hDn hEn h
    go_enter Try.func115, Try.ntmps115
    go_wp2_with fail
    go_ret
    exact ⟨by rw [HV.out]; rfl, Below.refl _ _⟩
  · subst h
    have HI := hide hI
    have HJ := hide hJ
    have t1 : ((n : Int) != (n : Int)) = false := by simp
    have HLT := hide (fun i (hi : i < n) (h1 : D i < E i) (h2 : ∀ j, i < j → j < n → D j = E j) => cmpI_lt (valD_less hD hE hi h1 h2))
    have HGT := hide (fun i (hi : i < n) (h1 : E i < D i) (h2 : ∀ j, i < j → j < n → D j = E j) => cmpI_gt (valD_less hE hD hi h1 fun j a b => (h2 j a b).symm))
    have HEQ := hide (fun (h2 : ∀ j, j < n → D j = E j) => cmpI_eq (valD_congr n h2))
    have q0 : IntKind.i64.wrap ((n : Int) - 1) = (n : Int) - 1 := IntWalk.i64_in _ (by omega)
    generalize cmpI (valD D n) (valD E n) = v at *
    clear hI hJ hD hE hDn hEn hm
    go_enter Try.func115, Try.ntmps115
    go_wp2_with fail
    go_loopw [5] (fun x wr => ∃ k : Nat, k ≤ n ∧ x = .int .i64 ((k : Int) - 1) ∧ Hid (∀ j, k ≤ j → j < n → D j = E j) ∧ Below w.heap.size w wr) (fun x _ => (Go.RowKit.intOf x + 1).toNat)
    case atStart => exact ⟨n, Nat.le_refl _, rfl, hide (fun j h1 h2 => absurd h2 (by omega)), Below.refl _ _⟩
    case round =>
      obtain ⟨k, hk, rfl, HQ, hB⟩ := hrel
      obtain ⟨wA, rfl⟩ : ∃ x : World, x = wr := ⟨_, rfl⟩
      rcases k with _ | j
      · have hv := HEQ.out fun j hj => HQ.out j (Nat.zero_le _) hj
        have t3 : ¬ (((0 : Nat) : Int) - 1 ≥ 0) := by omega
        go_wp2_with fail
        go_ret
        exact ⟨by first | rfl | (rw [hv]; rfl), hB⟩
      · have e0 : ((j + 1 : Nat) : Int) - 1 = (j : Int) := by omega
        have hjn : (j : Int) < (n : Int) := by omega
        rw [e0]
        have t3 : (j : Int) ≥ 0 := by omega
        have q1 : IntKind.i64.wrap ((j : Int) - 1) = (j : Int) - 1 := IntWalk.i64_in _ (by omega)
        obtain ⟨b, o, rfl, -, -, x0⟩ := (HI.out.below hB) j (by omega)
        obtain ⟨b', o', rfl, -, -, y0⟩ := (HJ.out.below hB) j (by omega)
        have h2 : ∀ q, j < q → q < n → D q = E q := fun q a b => HQ.out q (by omega) b
        have HLj := hide (fun h1 => HLT.out j (by omega) h1 h2)
        have HGj := hide (fun h1 => HGT.out j (by omega) h1 h2)
        have HQj := hide (show D j = E j → ∀ q, j ≤ q → q < n → D q = E q from fun e q a b => by
          by_cases h : q = j
          · rw [h]; exact e
          · exact h2 q (by omega) b)
        generalize D j = x at *
        generalize E j = y at *
        rcases Int.lt_trichotomy x y with h | h | h
        · have hv := HLj.out h
          clear HLj HGj HQj h2
          go_wp2_with fail
          go_quiet (fail)
          go_wp2_with fail
          go_ret
          exact ⟨by first | rfl | (rw [hv]; rfl), ⟨hB.os, hB.tape, hB.output, hB.size, hB.block⟩⟩
        · subst h
          have HN := hide (HQj.out rfl)
          have t4 : ¬ (x < x) := by omega
          have t5 : ¬ (x > x) := by omega
          clear HLj HGj HQj h2
          go_wp2_with fail
          go_quiet (fail)
          go_wp2_with fail
          go_quiet (fail)
          go_wp2_with fail
          go_roundw
          case rel => exact ⟨j, by omega, by first | rfl | go_num, HN, ⟨hB.os, hB.tape, hB.output, hB.size, hB.block⟩⟩
          case measure => (simp [Go.RowKit.intOf]; first | done | omega)
        · have hv := HGj.out h
          have t4 : ¬ (x < y) := by omega
          have t5 : x > y := h
          clear HLj HGj HQj h2 h
          go_wp2_with fail
          go_quiet (fail)
          go_wp2_with fail
          go_quiet (fail)
          go_wp2_with fail
          go_ret
          exact ⟨by first | rfl | (rw [hv]; rfl), ⟨hB.os, hB.tape, hB.output, hB.size, hB.block⟩⟩
  · have HV := hide (cmpI_gt (valD_fewer h hE hD hDn))
    have t1 : ((n : Int) != (m : Int)) = true := by simp; omega
    have t2 : ¬ ((n : Int) < (m : Int)) := by omega
    generalize cmpI (valD D n) (valD E m) = v at *
    clear hI hJ hD hE hDn hEn h
    go_enter Try.func115, Try.ntmps115
    go_wp2_with fail
    go_ret
    exact ⟨by rw [HV.out]; rfl, Below.refl _ _⟩
end Go.Proofs.Ytmcgmlhpbpjmgaa
