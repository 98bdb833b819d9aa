/- Lemmas: Wd, Wh, Wj, Wl, Ua, Ob, Oc, Wp. -/
import Derived.Shelf.Abstract
import Derived.Deep.QuietTactic
import Derived.BigQuiet
import Derived.Test.YtfemghbjngemlaaBk02
set_option linter.unusedVariables false
set_option linter.unusedSimpArgs false
/- partsError; numberWithin and its function; numberOf, conjugate, squareOf. -/
namespace Go.Proofs.Ytfemghbjngemlaa
open Go.RowKit
set_option maxHeartbeats 1000000 in
theorem partsError_any (M : Int) (A : Option Addr) (n c : Nat) (F : Nat → Int) (w : World) (hn : n ≤ 1000000) (hM : 0 ≤ M ∧ M ≤ 9000000000000000000) (hI : IntsAt w 0 A n F) :
    Calls Try.prog 55 #[.int .i64 M, .slice A n c] w fun e w' => e = .returned (.int .i64 (sizeE M F n)) ∧ w = w' := by
  have HI := hide hI
  have q1 : IntKind.i64.wrap (-M) = -M := IntWalk.i64_in _ (by omega)
  clear hI hM
  go_enter Try.func55, Try.ntmps55
  go_wp2_with fail
  go_loopw [9] (fun i wr => ∃ k : Nat, k ≤ n ∧ i = .int .i64 (k : Int) ∧ Hid (badE (fun j => unI (withinB (F j) (-M) M) 2) k = 0) ∧ w = wr) (fun i _ => n - (Go.RowKit.intOf i).toNat)
  case atStart => exact ⟨0, Nat.zero_le _, rfl, hide rfl, rfl⟩
  case round =>
    obtain ⟨k, hk, rfl, HZ, rfl⟩ := hrel
    by_cases hlt : k < n
    · have hltz : (k : Int) < (n : Int) := by omega
      obtain ⟨b, o, rfl, -, hb, hcell⟩ := HI.out k hlt
      have hg := hide (badE_succ HZ.out)
      have HA := hide (badE_at HZ.out (n := n) · hlt)
      cases hw : withinB (F k) (-M) M
      · have HQ := hide (show sizeE M F n = 2 from by
          have h1 : unI (withinB (F k) (-M) M) 2 = 2 := by rw [hw]; rfl
          have h2 := badE_at (g := fun j => unI (withinB (F j) (-M) M) 2) HZ.out (by show unI (withinB (F k) (-M) M) 2 ≠ 0; rw [h1]; decide) n hlt
          exact h2.trans h1)
        clear HA hg
        go_wp2_with fail
        refine (isWithin_any _ _ _ _).mono ?_
        rintro e w' ⟨rfl, rfl⟩
        rw [hw]
        go_wp2_with fail
        go_ret
        exact ⟨ret_int HQ.out.symm, rfl⟩
      · have HN := hide (show badE (fun j => unI (withinB (F j) (-M) M) 2) (k + 1) = 0 from by
          rw [badE_succ HZ.out]
          show unI (withinB (F k) (-M) M) 2 = 0
          rw [hw]; rfl)
        clear HA hg
        go_wp2_with fail
        refine (isWithin_any _ _ _ _).mono ?_
        rintro e w' ⟨rfl, rfl⟩
        rw [hw]
        go_wp2_with fail
        go_roundw
        case rel => exact ⟨k + 1, by omega, by go_num, HN, by first | rfl | trivial⟩
        case measure => simp [Go.RowKit.intOf]; omega
    · obtain rfl : k = n := by omega
      go_wp2_with fail
      go_ret
      exact ⟨ret_int HZ.out.symm, rfl⟩
set_option maxHeartbeats 1000000 in
set_option maxRecDepth 100000 in
theorem numberWithin1_any (x : Num) (M : Int) (b : Nat) (w : World) (hm : w.cell? ⟨b, 0, none⟩ = some (.int .i64 M)) (hM : 0 ≤ M ∧ M ≤ 9000000000000000000) :
    Calls Try.prog 97 #[.agg #[.int .i64 x.a, .int .i64 x.b, .int .i64 x.c, .int .i64 x.d], .pointer (some ⟨b, 0, none⟩)] w fun e w' => e = .returned (.int .i64 (x.err M)) ∧ Below w.heap.size w w' := by
  have hb := World.block_lt_of_cell? w _ hm
  simp only at hb
  have hm2 : (w.alloc (.cells #[.int .i64 x.a, .int .i64 x.b, .int .i64 x.c, .int .i64 x.d] 26)).cell? ⟨b, 0, none⟩ = some (.int .i64 M) := (((Below.refl w.heap.size w).alloc (Nat.le_refl _) _).cell (p := ⟨b, 0, none⟩) hb).trans hm
  have HPE := hide (fun (W : World) (g : Nat) (hg : g = W.heap.size) => partsError_any M (some ⟨g, 0, none⟩) 4 4 (fun j => [x.a, x.b, x.c, x.d].getD j 0) (W.alloc (.cells #[.int .i64 x.a, .int .i64 x.b, .int .i64 x.c, .int .i64 x.d] 3)) (by decide) hM (fun k hk => by
    have hb : Box (W.alloc (.cells #[.int .i64 x.a, .int .i64 x.b, .int .i64 x.c, .int .i64 x.d] 3)) g 3 #[.int .i64 x.a, .int .i64 x.b, .int .i64 x.c, .int .i64 x.d] := Box.made hg
    refine ⟨_, _, rfl, Nat.zero_le _, hb.lt, ?_⟩
    rw [hb.at_]
    match k, hk with
    | 0, _ => rfl
    | 1, _ => rfl
    | 2, _ => rfl
    | 3, _ => rfl))
  rw [size4 M x.a x.b x.c x.d (fun j => [x.a, x.b, x.c, x.d].getD j 0) rfl rfl rfl rfl] at HPE
  clear hm hM
  go_enter Try.func97, Try.ntmps97
  go_wp2_with fail
  refine (HPE.out _ _ (by simp)).mono ?_
  rintro e w1 ⟨rfl, rfl⟩
  go_wp2_with fail
  go_ret
  exact ⟨rfl, by (repeat (first | (with_reducible exact Below.refl _ _) | (with_reducible refine Go.below_drewN ?_ _) | (with_reducible refine Below.drew ?_) | (with_reducible refine Below.alloc ?_ (by first | exact Nat.le_refl _ | (simp; done) | (simp; omega) | omega) _) | (with_reducible refine Below.setCell ?_ (by first | exact Nat.le_refl _ | (simp; done) | (simp; omega) | omega) _)))⟩
end Go.Proofs.Ytfemghbjngemlaa
/- firstWrong, itemsError of numbers; smallError, resultError. -/
namespace Go.Proofs.Ytfemghbjngemlaa
open Go.RowKit
set_option maxHeartbeats 2000000 in
theorem firstWrong_nums (g : Nat) (lb : Array Value) (eg : ∀ args w, (callFunc g args).run Try.prog w = .ok (.enter g args) w) (p : Num → Int) (A : Option Addr) (n c : Nat) (F : Nat → Num) (w : World)
    (hn : n ≤ 100000) (hI : NumsAt w 0 A n F) (hp : ∀ (x : Num) W, Below w.heap.size w W → Calls Try.prog g (#[.agg #[.int .i64 x.a, .int .i64 x.b, .int .i64 x.c, .int .i64 x.d]] ++ lb) W fun e w' => e = .returned (.int .i64 (p x)) ∧ Below W.heap.size W w') :
    Calls Try.prog 96 #[.slice A n c, .func (.func g) #[] lb] w fun e w' => e = .returned (.tuple #[.int .i64 (badI (fun j => p (F j)) n : Nat), .int .i64 (badE (fun j => p (F j)) n)]) ∧ Below w.heap.size w w' := by
  have HP := hide hp
  have HI := hide hI
  clear hp hI
  go_enter Try.func96, Try.ntmps96
  go_wp2_with fail
  go_loopg [11] n (fun gg s wr => ∃ k : Nat, k ≤ n ∧ n - k ≤ gg ∧ s = .int .i64 (k : Int) ∧ Hid (badE (fun j => p (F j)) k = 0) ∧ Below w.heap.size w wr)
  case atStart => exact ⟨0, Nat.zero_le _, by omega, rfl, hide rfl, Below.refl _ _⟩
  case round =>
    obtain ⟨k, hk, hg, rfl, HZ, hB⟩ := hrel
    obtain ⟨wA, rfl⟩ : ∃ x : World, x = wr := ⟨_, rfl⟩
    have hBs := hB.size
    by_cases hlt : k < n
    · have hltz : (k : Int) < (n : Int) := by omega
      obtain ⟨b, o, rfl, -, hb, c0, c1, c2, c3⟩ := (HI.out.below hB) k hlt
      have HQ := hide (show p (F k) ≠ 0 → badE (fun j => p (F j)) n = p (F k) ∧ badI (fun j => p (F j)) n = k from fun h => ⟨badE_at (g := fun j => p (F j)) HZ.out h n hlt, badI_at (g := fun j => p (F j)) HZ.out h n hlt⟩)
      have HN := hide (show p (F k) = 0 → badE (fun j => p (F j)) (k + 1) = 0 from fun h => by rw [badE_succ HZ.out]; exact h)
      generalize F k = x at *
      have HC := hide (fun W hW => HP.out x W hW)
      generalize p x = r at *
      go_upto_region 4 with fail
      obtain ⟨W1, hW1⟩ : ∃ y : World, y = wA.alloc (.cells #[.int .i64 x.a, .int .i64 x.b, .int .i64 x.c, .int .i64 x.d] 26) := ⟨_, rfl⟩
      rw [← hW1]
      have bx1 : Box W1 wA.heap.size 26 #[.int .i64 x.a, .int .i64 x.b, .int .i64 x.c, .int .i64 x.d] := by rw [hW1]; exact Box.made rfl
      have hB1 : Below w.heap.size w W1 := by rw [hW1]; exact hB.alloc hBs _
      clear hW1 hB hb c0 c1 c2 c3
      obtain ⟨y0, y1, y2, y3, g0, g1, g2, g3, hl'⟩ := bx1.cells4
      have hcall := HC.out W1 hB1
      by_cases hr : r = 0
      · have HN2 := hide (HN.out hr)
        subst hr
        clear HQ HN
        go_wp2_with (go_at_fn g; refine hcall.mono ?_; rintro e w2 ⟨rfl, hb2⟩)
        go_roundg (n - (k + 1))
        case measure => omega
        case rel => exact ⟨k + 1, by omega, by omega, by go_num, HN2, hB1.trans (hb2.mono hB1.size)⟩
      · have t1 : (r != 0) = true := by simpa using hr
        have HQ2 := hide (HQ.out hr)
        clear HQ HN hr
        go_wp2_with (go_at_fn g; refine hcall.mono ?_; rintro e w2 ⟨rfl, hb2⟩)
        go_ret2
        exact ⟨by rw [HQ2.out.1, HQ2.out.2]; rfl, hB1.trans (hb2.mono hB1.size)⟩
    · obtain rfl : k = n := by omega
      go_wp2_with fail
      go_ret2
      exact ⟨by rw [HZ.out, badI_zero HZ.out]; rfl, hB⟩
end Go.Proofs.Ytfemghbjngemlaa
/- numberWithin, itemsError of numbers, smallError, resultError of the code. -/
namespace Go.Proofs.Ytfemghbjngemlaa
open Go.RowKit
set_option maxHeartbeats 1000000 in
theorem numberWithin_any (M : Int) (w : World) :
    Calls Try.prog 80 #[.int .i64 M] w fun e w' => e = .returned (.func (.func 97) #[] #[.pointer (some ⟨w.heap.size, 0, none⟩)]) ∧ w.alloc (.cells #[.int .i64 M] 3) = w' := by
  go_enter Try.func80, Try.ntmps80
  go_wp2_with fail
  go_ret
  exact ⟨rfl, rfl⟩
/-- The error of n numbers of size M at most. -/
def numsE (M : Int) (F : Nat → Num) (n : Nat) : Int := badE (fun j => (F j).err M) n
set_option maxHeartbeats 1000000 in
theorem itemsError_nums (M : Int) (A : Option Addr) (n c b : Nat) (F : Nat → Num) (w : World) (hn : n ≤ 100000) (hI : NumsAt w 0 A n F) (hm : w.cell? ⟨b, 0, none⟩ = some (.int .i64 M)) (hM : 0 ≤ M ∧ M ≤ 9000000000000000000) :
    Calls Try.prog 79 #[.slice A n c, .func (.func 97) #[] #[.pointer (some ⟨b, 0, none⟩)]] w fun e w' => e = .returned (.int .i64 (numsE M F n)) ∧ Below w.heap.size w w' := by
  have hb := World.block_lt_of_cell? w _ hm
  simp only at hb
  have HX := hide (firstWrong_nums 97 #[.pointer (some ⟨b, 0, none⟩)] (enters_of Try.func97 (by kernel_rfl) rfl) (fun x => x.err M) A n c F w hn hI (fun x W hW => numberWithin1_any x M b W ((hW.cell (p := ⟨b, 0, none⟩) hb).trans hm) hM))
  clear hI hm hb
  go_enter Try.func79, Try.ntmps79
  go_wp2_with (go_at_call 96; refine HX.out.mono ?_; rintro e w' ⟨rfl, hb1⟩)
  go_ret
  exact ⟨rfl, hb1⟩
set_option maxHeartbeats 1000000 in
theorem smallError_any (A : Option Addr) (n c : Nat) (F : Nat → Num) (w : World) (hn : n ≤ 100000) (hI : NumsAt w 0 A n F) :
    Calls Try.prog 48 #[.slice A n c] w fun e w' => e = .returned (.int .i64 (numsE 1000000000 F n)) ∧ Below w.heap.size w w' := by
  have HI := hide hI
  clear hI
  go_enter Try.func48, Try.ntmps48
  go_wp2_with fail
  refine (numberWithin_any _ _).mono ?_
  rintro e w1 ⟨rfl, hw1⟩
  have hc : w1.cell? ⟨w.heap.size, 0, none⟩ = some (.int .i64 1000000000) := by rw [← hw1]; exact (Box.made rfl : Box _ w.heap.size 3 #[.int .i64 1000000000]).at_ 0
  have hB1 : Below w.heap.size w w1 := by rw [← hw1]; exact (Below.refl _ _).alloc (Nat.le_refl _) _
  clear hw1
  go_wp2_with fail
  refine (itemsError_nums 1000000000 A n c w.heap.size F _ hn (HI.out.below hB1) hc (by decide)).mono ?_
  rintro e w2 ⟨rfl, hb2⟩
  go_wp2_with fail
  go_ret
  exact ⟨rfl, hB1.trans (hb2.mono hB1.size)⟩
set_option maxHeartbeats 1000000 in
theorem resultError_any (A : Option Addr) (n c : Nat) (F : Nat → Num) (w : World) (hn : n ≤ 100000) (hI : NumsAt w 0 A n F) :
    Calls Try.prog 50 #[.slice A n c] w fun e w' => e = .returned (.int .i64 (unI (numsE 1000000000 F n == 0) 8)) ∧ Below w.heap.size w w' := by
  have HX := hide (smallError_any A n c F w hn hI)
  clear hI
  generalize numsE 1000000000 F n = r at *
  go_enter Try.func50, Try.ntmps50
  go_wp2_with fail
  refine HX.out.mono ?_
  rintro e w1 ⟨rfl, hb1⟩
  go_wp2_with (go_at_call 61; refine (unless_any _ _ _).mono ?_; rintro e w' ⟨rfl, rfl⟩)
  go_ret
  exact ⟨rfl, hb1⟩
end Go.Proofs.Ytfemghbjngemlaa
/- Turned of the code. -/
namespace Go.Proofs.Ytfemghbjngemlaa
open Go.RowKit
/-- The first of two errors. -/
def twoE (a b : Int) : Int := if a = 0 then b else a
theorem firstE_two (a b : Int) : firstE [a, b] = twoE a b := by
  unfold twoE firstE
  by_cases h : a = 0
  · rw [if_pos h, if_pos h]
    unfold firstE
    by_cases h2 : b = 0
    · rw [if_pos h2, h2]; rfl
    · rw [if_neg h2]
  · rw [if_neg h, if_neg h]
def turnedE (x : Num) (n : Int) : Int := twoE (x.err 1000000000) (unI (withinB n 0 7) 2)
/-- What Turned hands back. -/
def turnedR (x : Num) (n : Int) : Num := if turnedE x n = 0 then x.turns (n % 8).toNat else Num.zero
theorem numsE_one (M : Int) (x : Num) : numsE M (fun _ => x) 1 = x.err M := by
  unfold numsE badE badE
  rw [if_pos rfl]
theorem err_within {M : Int} {x : Num} (h : x.err M = 0) : x.Within M := by
  unfold Num.err unI at h
  by_cases h1 : x.isIn M = true
  · exact Num.isIn_iff.1 h1
  · rw [if_neg h1] at h; exact absurd h (by decide)
theorem NumsAt.one {w : World} {b : Nat} {t : TypeId} {x : Num} (h : Box w b t #[.int .i64 x.a, .int .i64 x.b, .int .i64 x.c, .int .i64 x.d]) : NumsAt w 0 (some ⟨b, 0, none⟩) 1 (fun _ => x) := fun i hi => by
  obtain rfl : i = 0 := by omega
  obtain ⟨z0, z1, z2, z3, -⟩ := h.cells4
  exact ⟨b, 0, rfl, Nat.zero_le _, h.lt, by simpa using z0, by simpa using z1, by simpa using z2, by simpa using z3⟩
set_option maxHeartbeats 2000000 in
set_option maxRecDepth 100000 in
theorem Turned_any (x : Num) (n : Int) (w : World) :
    Calls Try.prog 43 #[.agg #[.int .i64 x.a, .int .i64 x.b, .int .i64 x.c, .int .i64 x.d], .int .i64 n] w fun e w' => e = .returned (.tuple #[.agg #[.int .i64 (turnedR x n).a, .int .i64 (turnedR x n).b, .int .i64 (turnedR x n).c, .int .i64 (turnedR x n).d], .int .i64 (turnedE x n)]) ∧ Below w.heap.size w w' := by
  have HE := hide (show firstE [x.err 1000000000, unI (withinB n 0 7) 2] = turnedE x n from firstE_two _ _)
  have HZ := hide (show turnedE x n = 0 → x.Within 1000000000 from fun h => by
    unfold turnedE twoE at h
    by_cases h1 : x.err 1000000000 = 0
    · exact err_within h1
    · rw [if_neg h1] at h; exact absurd h h1)
  have HR := hide (show turnedR x n = if turnedE x n = 0 then x.turns (n % 8).toNat else Num.zero from rfl)
  generalize turnedR x n = Y at *
  generalize turnedE x n = V at *
  go_enter Try.func43, Try.ntmps43
  go_upto_region 1 with fail
  obtain ⟨W, hW⟩ : ∃ y : World, y = (w.alloc (.cells #[.int .i64 x.a, .int .i64 x.b, .int .i64 x.c, .int .i64 x.d] 26)).alloc (.cells #[.int .i64 0, .int .i64 0, .int .i64 0, .int .i64 0] 26) := ⟨_, rfl⟩
  rw [← hW]
  have bx : Box W w.heap.size 26 #[.int .i64 x.a, .int .i64 x.b, .int .i64 x.c, .int .i64 x.d] := by rw [hW]; exact (Box.made rfl).alloc _
  have by' : Box W (w.heap.size + 1) 26 #[.int .i64 0, .int .i64 0, .int .i64 0, .int .i64 0] := by rw [hW]; exact Box.made (by simp)
  have hB : Below w.heap.size w W := by rw [hW]; (repeat (first | (with_reducible exact Below.refl _ _) | (with_reducible refine Go.below_drewN ?_ _) | (with_reducible refine Below.drew ?_) | (with_reducible refine Below.alloc ?_ (by first | exact Nat.le_refl _ | (simp; done) | (simp; omega) | omega) _) | (with_reducible refine Below.setCell ?_ (by first | exact Nat.le_refl _ | (simp; done) | (simp; omega) | omega) _)))
  clear hW
  obtain ⟨x0, x1, x2, x3, f0, f1, f2, f3, hlx⟩ := bx.cells4
  go_wp2_with fail
  have hB0 : Below W.heap.size W (W.alloc (.cells #[.int .i64 x.a, .int .i64 x.b, .int .i64 x.c, .int .i64 x.d] 26)) := (Below.refl _ _).alloc (Nat.le_refl _) _
  refine (smallError_any (some ⟨W.heap.size, 0, none⟩) 1 1 (fun _ => x) _ (by decide) (NumsAt.one (Box.made rfl))).mono ?_
  rintro e w1 ⟨rfl, hb1⟩
  rw [numsE_one]
  have hb1' := hB0.trans (hb1.mono (by simp))
  have bx1 := bx.below hb1'
  have by1 := by'.below hb1'
  have hB1 := hB.trans (hb1'.mono hB.size)
  clear x0 x1 x2 x3 f0 f1 f2 f3 hlx bx by' hB hB0 hb1 hb1'
  go_wp2_with (go_at_call 76; refine (eighthsError_any _ _).mono ?_; rintro e w' ⟨rfl, rfl⟩)
  refine (firstError_laid [x.err 1000000000, unI (withinB n 0 7) 2] 2 _ _ rfl (by decide)).mono ?_
  rintro e w2 ⟨rfl, hw2⟩
  rw [HE.out]
  have bx2 : Box w2 w.heap.size 26 #[.int .i64 x.a, .int .i64 x.b, .int .i64 x.c, .int .i64 x.d] := by rw [← hw2]; exact bx1.alloc _
  have by2 : Box w2 (w.heap.size + 1) 26 #[.int .i64 0, .int .i64 0, .int .i64 0, .int .i64 0] := by rw [← hw2]; exact by1.alloc _
  have hB2 : Below w.heap.size w w2 := by rw [← hw2]; exact hB1.alloc hB1.size _
  clear hw2 bx1 by1 hB1
  by_cases hv : V = 0
  · have HX := hide (HZ.out hv)
    have tv : (V != 0) = false := by simpa using hv
    have HV := hide hv
    obtain ⟨x0, x1, x2, x3, f0, f1, f2, f3, hlx⟩ := bx2.cells4
    subst hv
    go_wp2_with fail
    refine (turned_any x n _ (HX.out.more (by decide))).mono ?_
    rintro e w3 ⟨rfl, hb3⟩
    have by3 := by2.below hb3
    have hB3 := hB2.trans (hb3.mono hB2.size)
    clear x0 x1 x2 x3 f0 f1 f2 f3 hlx bx2 by2 hB2 hb3
    obtain ⟨y0, y1, y2, y3, g0, g1, g2, g3, hly⟩ := by3.cells4
    obtain ⟨z, hz⟩ : ∃ z, x.turns (n % 8).toNat = z := ⟨_, rfl⟩
    rw [hz]
    have HC := hide (by3.put4 (.int .i64 z.a) (.int .i64 z.b) (.int .i64 z.c) (.int .i64 z.d)).cells4
    have HBL := hide (Below.put4 hB3 (Nat.le_succ _) (.int .i64 z.a) (.int .i64 z.b) (.int .i64 z.c) (.int .i64 z.d))
    have HZZ := hide hz
    clear hz by3 hB3
    go_wp2_with fail
    clear y0 y1 y2 y3
    obtain ⟨y0, y1, y2, y3, -⟩ := HC.out
    refine bodyPost_ret (v := .tuple #[.agg #[.int .i64 z.a, .int .i64 z.b, .int .i64 z.c, .int .i64 z.d], .int .i64 0]) ?_ rfl ⟨by rw [show Y = z from by rw [HR.out]; simpa using HZZ.out], HBL.out⟩
    simp [results, Try.results43, go_sem, y0, y1, y2, y3]
  · have tv : (V != 0) = true := by simpa using hv
    have HV := hide hv
    obtain ⟨y0, y1, y2, y3, g0, g1, g2, g3, hly⟩ := by2.cells4
    have HC := hide (by2.put4 (.int .i64 0) (.int .i64 0) (.int .i64 0) (.int .i64 0)).cells4
    have HBL := hide (Below.put4 hB2 (Nat.le_succ _) (.int .i64 0) (.int .i64 0) (.int .i64 0) (.int .i64 0))
    clear hv bx2 by2 hB2
    go_wp2_with fail
    clear y0 y1 y2 y3
    obtain ⟨y0, y1, y2, y3, -⟩ := HC.out
    refine bodyPost_ret (v := .tuple #[.agg #[.int .i64 0, .int .i64 0, .int .i64 0, .int .i64 0], .int .i64 V]) ?_ rfl ⟨by rw [show Y = Num.zero from by rw [HR.out, if_neg HV.out]]; rfl, HBL.out⟩
    simp [results, Try.results43, go_sem, y0, y1, y2, y3]
end Go.Proofs.Ytfemghbjngemlaa
/- within, IsSmall, EighthsErr, Turn, Plus of the reference; Mod of the base. -/
namespace Go.Proofs.Ytfemghbjngemlaa
open Go.RowKit
set_option maxHeartbeats 400000 in
theorem modN_any (n m : Int) (w : World) (h0 : 0 < m) (h1 : m ≤ 1000000000) :
    Calls Try.prog 86 #[.int .i64 n, .int .i64 m] w fun e w' => e = .returned (.int .i64 (n % m)) ∧ w = w' := by
  have hm0 : ¬ m = 0 := by omega
  by_cases hn : 0 ≤ n
  · have hb := Int.emod_nonneg n (show m ≠ 0 by omega)
    have hb2 := Int.emod_lt_of_pos n h0
    go_enter Try.func86, Try.ntmps86
    go_wp2_with fail
    go_ret
    exact ⟨rfl, rfl⟩
  · have hneg : n < 0 := by omega
    obtain ⟨r, hr⟩ : ∃ r, r = n.tmod m := ⟨_, rfl⟩
    have hr' := hr.symm
    have hle : -m < r ∧ r ≤ 0 := by
      rw [hr]
      have e := Int.neg_tmod (-n) m
      rw [Int.neg_neg] at e
      rw [e]
      have h2 : (-n).tmod m = (-n) % m := Int.tmod_eq_emod_of_nonneg (by omega)
      rw [h2]
      have := Int.emod_nonneg (-n) (show m ≠ 0 by omega)
      have := Int.emod_lt_of_pos (-n) h0
      omega
    have hdm : n % m = if r < 0 then r + m else r := by
      have h3 := Int.mul_tdiv_add_tmod n m
      rw [← hr] at h3
      split
      · have : n = (r + m) + m * (n.tdiv m - 1) := by rw [Int.mul_sub]; omega
        rw [this, Int.add_mul_emod_self_left]
        exact Int.emod_eq_of_lt (by omega) (by omega)
      · have h0r : r = 0 := by omega
        have : n = 0 + m * n.tdiv m := by omega
        rw [this, Int.add_mul_emod_self_left, h0r]
        rfl
    have HD := hide hdm
    obtain ⟨l1, l2⟩ := hle
    have hnn : ¬ 0 ≤ n := hn
    clear hdm hr hn
    by_cases hrz : r < 0
    · go_enter Try.func86, Try.ntmps86
      go_wp2_with fail
      go_ret
      exact ⟨ret_int (by rw [HD.out, if_pos hrz]), rfl⟩
    · have hr0 : 0 ≤ r := by omega
      have HRZ := hide hrz
      clear hrz
      go_enter Try.func86, Try.ntmps86
      go_wp2_with fail
      go_ret
      exact ⟨ret_int (by rw [HD.out, if_neg (Int.not_lt.2 HRZ.out)]), rfl⟩


theorem mod8 (n : Int) (w : World) : Calls Try.prog 86 #[.int .i64 n, .int .i64 8] w fun e w' => e = .returned (.int .i64 (n % 8)) ∧ w = w' := modN_any n 8 w (by decide) (by decide)
set_option maxHeartbeats 2000000 in
theorem turnR_any (x : Num) (n : Int) (w : World) (hx : x.Within 4611686018427387904) :
    Calls Try.prog 52 #[.agg #[.int .i64 x.a, .int .i64 x.b, .int .i64 x.c, .int .i64 x.d], .int .i64 n] w fun e w' => e = .returned (.agg #[.int .i64 (x.turns (n % 8).toNat).a, .int .i64 (x.turns (n % 8).toNat).b, .int .i64 (x.turns (n % 8).toNat).c, .int .i64 (x.turns (n % 8).toNat).d]) ∧ Below w.heap.size w w' := by
  have HX := hide hx
  clear hx
  obtain ⟨k, hk⟩ : ∃ k, k = (n % 8).toNat := ⟨_, rfl⟩
  have hkz : n % 8 = (k : Int) := by have := Int.emod_nonneg n (show (8 : Int) ≠ 0 by decide); omega
  have hk8 : k < 8 := by have := Int.emod_lt_of_pos n (show (0 : Int) < 8 by decide); omega
  rw [← hk]
  have HM := hide (fun W => mod8 n W)
  rw [hkz] at HM
  clear hk hkz
  go_enter Try.func52, Try.ntmps52
  go_wp2_with fail
  go_loopw [5] (fun i wr => ∃ j : Nat, j ≤ k ∧ i = .int .i64 (j : Int) ∧ Box wr w.heap.size 26 #[.int .i64 (x.turns j).a, .int .i64 (x.turns j).b, .int .i64 (x.turns j).c, .int .i64 (x.turns j).d] ∧ Box wr (w.heap.size + 1) 26 #[.int .i64 0, .int .i64 0, .int .i64 0, .int .i64 0] ∧ Below w.heap.size w wr) (fun i _ => k - (Go.RowKit.intOf i).toNat)
  case atStart => exact ⟨0, Nat.zero_le _, rfl, (Box.made rfl).alloc _, Box.made (by simp), by (repeat (first | (with_reducible exact Below.refl _ _) | (with_reducible refine Go.below_drewN ?_ _) | (with_reducible refine Below.drew ?_) | (with_reducible refine Below.alloc ?_ (by first | exact Nat.le_refl _ | (simp; done) | (simp; omega) | omega) _) | (with_reducible refine Below.setCell ?_ (by first | exact Nat.le_refl _ | (simp; done) | (simp; omega) | omega) _)))⟩
  case round =>
    obtain ⟨j, hj, rfl, bx, by', hB⟩ := hrel
    have hy := HX.out.turns j
    have HT := hide (show x.turns (j + 1) = (x.turns j).turn from rfl)
    obtain ⟨y, hyx⟩ : ∃ y, x.turns j = y := ⟨_, rfl⟩
    rw [hyx] at bx hy HT
    have HYX := hide hyx
    clear hyx
    obtain ⟨h1, h2, h3, h4⟩ := hy
    obtain ⟨z0, z1, z2, z3, f0, f1, f2, f3, hl⟩ := bx.cells4
    by_cases hlt : j < k
    · have hltz : (j : Int) < (k : Int) := by omega
      have q1 : IntKind.i64.wrap (-y.d) = -y.d := IntWalk.i64_in _ (by omega)
      have HBX := hide (bx.put4 (.int .i64 (-y.d)) (.int .i64 y.a) (.int .i64 y.b) (.int .i64 y.c))
      have HBY := hide (by'.other4 (c := w.heap.size) (by omega) (.int .i64 (-y.d)) (.int .i64 y.a) (.int .i64 y.b) (.int .i64 y.c))
      have HBL := hide (Below.put4 hB (Nat.le_refl _) (.int .i64 (-y.d)) (.int .i64 y.a) (.int .i64 y.b) (.int .i64 y.c))
      clear bx by' hB h1 h2 h3 h4
      go_wp2_with (go_at_call 86; refine (HM.out _).mono ?_; rintro e w' ⟨rfl, rfl⟩)
      go_roundw
      case rel => exact ⟨j + 1, by omega, by go_num, by rw [HT.out]; exact HBX.out, HBY.out, HBL.out⟩
      case measure => simp [Go.RowKit.intOf]; omega
    · obtain rfl : j = k := by omega
      obtain ⟨y0, y1, y2, y3, g0, g1, g2, g3, hl'⟩ := by'.cells4
      have HBY := hide (by'.put4 (.int .i64 y.a) (.int .i64 y.b) (.int .i64 y.c) (.int .i64 y.d))
      have HBL := hide (Below.put4 hB (Nat.le_succ _) (.int .i64 y.a) (.int .i64 y.b) (.int .i64 y.c) (.int .i64 y.d))
      clear bx by' hB h1 h2 h3 h4
      go_wp2_with (go_at_call 86; refine (HM.out _).mono ?_; rintro e w' ⟨rfl, rfl⟩)
      refine bodyPost_ret (v := .agg #[.int .i64 y.a, .int .i64 y.b, .int .i64 y.c, .int .i64 y.d]) ?_ rfl ⟨by rw [HYX.out], HBL.out⟩
      obtain ⟨y0, y1, y2, y3, -⟩ := HBY.out.cells4
      simp [results, Try.results52, go_sem, y0, y1, y2, y3]

set_option maxHeartbeats 2000000 in
theorem withinR_any (x : Num) (M : Int) (w : World) (hM : 0 ≤ M ∧ M ≤ 9000000000000000000) :
    Calls Try.prog 87 #[.agg #[.int .i64 x.a, .int .i64 x.b, .int .i64 x.c, .int .i64 x.d], .int .i64 M] w fun e w' => e = .returned (.bool (x.isIn M)) ∧ Below w.heap.size w w' := by
  have q1 : IntKind.i64.wrap (-M) = -M := IntWalk.i64_in _ (by omega)
  have HI := hide (show x.isIn M = (((withinB x.a (-M) M && withinB x.b (-M) M) && withinB x.c (-M) M) && withinB x.d (-M) M) from by
    unfold Num.isIn
    cases withinB x.a (-M) M <;> cases withinB x.b (-M) M <;> cases withinB x.c (-M) M <;> cases withinB x.d (-M) M <;> rfl)
  generalize x.isIn M = v at *
  clear hM
  cases ea : withinB x.a (-M) M
  · have HV := hide (show v = false from by rw [HI.out, ea]; rfl)
    clear HI
    go_enter Try.func87, Try.ntmps87
    go_wp2_with (go_at_call 57; refine (within_any _ _ _ _).mono ?_; rintro e w' ⟨rfl, rfl⟩; rw [ea])
    go_ret
    exact ⟨by rw [HV.out]; rfl, by (repeat (first | (with_reducible exact Below.refl _ _) | (with_reducible refine Go.below_drewN ?_ _) | (with_reducible refine Below.drew ?_) | (with_reducible refine Below.alloc ?_ (by first | exact Nat.le_refl _ | (simp; done) | (simp; omega) | omega) _) | (with_reducible refine Below.setCell ?_ (by first | exact Nat.le_refl _ | (simp; done) | (simp; omega) | omega) _)))⟩
  cases eb : withinB x.b (-M) M
  · have HV := hide (show v = false from by rw [HI.out, ea, eb]; rfl)
    clear HI
    go_enter Try.func87, Try.ntmps87
    go_wp2_with (go_at_call 57; refine (within_any _ _ _ _).mono ?_; rintro e w' ⟨rfl, rfl⟩; first | rw [ea] | rw [eb])
    go_ret
    exact ⟨by rw [HV.out]; rfl, by (repeat (first | (with_reducible exact Below.refl _ _) | (with_reducible refine Go.below_drewN ?_ _) | (with_reducible refine Below.drew ?_) | (with_reducible refine Below.alloc ?_ (by first | exact Nat.le_refl _ | (simp; done) | (simp; omega) | omega) _) | (with_reducible refine Below.setCell ?_ (by first | exact Nat.le_refl _ | (simp; done) | (simp; omega) | omega) _)))⟩
  cases ec : withinB x.c (-M) M
  · have HV := hide (show v = false from by rw [HI.out, ea, eb, ec]; rfl)
    clear HI
    go_enter Try.func87, Try.ntmps87
    go_wp2_with (go_at_call 57; refine (within_any _ _ _ _).mono ?_; rintro e w' ⟨rfl, rfl⟩; first | rw [ea] | rw [eb] | rw [ec])
    go_ret
    exact ⟨by rw [HV.out]; rfl, by (repeat (first | (with_reducible exact Below.refl _ _) | (with_reducible refine Go.below_drewN ?_ _) | (with_reducible refine Below.drew ?_) | (with_reducible refine Below.alloc ?_ (by first | exact Nat.le_refl _ | (simp; done) | (simp; omega) | omega) _) | (with_reducible refine Below.setCell ?_ (by first | exact Nat.le_refl _ | (simp; done) | (simp; omega) | omega) _)))⟩
  have HV := hide (show v = withinB x.d (-M) M from by rw [HI.out, ea, eb, ec]; simp)
  clear HI
  go_enter Try.func87, Try.ntmps87
  go_wp2_with (go_at_call 57; refine (within_any _ _ _ _).mono ?_; rintro e w' ⟨rfl, rfl⟩; first | rw [ea] | rw [eb] | rw [ec] | skip)
  go_ret
  exact ⟨by rw [HV.out]; rfl, by (repeat (first | (with_reducible exact Below.refl _ _) | (with_reducible refine Go.below_drewN ?_ _) | (with_reducible refine Below.drew ?_) | (with_reducible refine Below.alloc ?_ (by first | exact Nat.le_refl _ | (simp; done) | (simp; omega) | omega) _) | (with_reducible refine Below.setCell ?_ (by first | exact Nat.le_refl _ | (simp; done) | (simp; omega) | omega) _)))⟩
theorem isSmall_any (x : Num) (w : World) :
    Calls Try.prog 54 #[.agg #[.int .i64 x.a, .int .i64 x.b, .int .i64 x.c, .int .i64 x.d]] w fun e w' => e = .returned (.bool (x.isIn 1000000000)) ∧ Below w.heap.size w w' := by
  have HX := hide (fun W => withinR_any x 1000000000 W (by decide))
  generalize x.isIn 1000000000 = v at *
  go_enter Try.func54, Try.ntmps54
  go_wp2_with fail
  refine (HX.out _).mono ?_
  rintro e w' ⟨rfl, hb⟩
  go_wp2_with fail
  go_ret
  exact ⟨rfl, ((Below.refl _ _).alloc (Nat.le_refl _) _).trans (hb.mono (by simp))⟩
set_option maxHeartbeats 2000000 in
set_option maxRecDepth 100000 in
theorem plusR_any (x y : Num) (M : Int) (w : World) (hx : (x.add y).Within M) (hM : M ≤ 9223372036854775807) :
    Calls Try.prog 51 #[.agg #[.int .i64 x.a, .int .i64 x.b, .int .i64 x.c, .int .i64 x.d], .agg #[.int .i64 y.a, .int .i64 y.b, .int .i64 y.c, .int .i64 y.d]] w fun e w' => e = .returned (.agg #[.int .i64 (x.add y).a, .int .i64 (x.add y).b, .int .i64 (x.add y).c, .int .i64 (x.add y).d]) ∧ Below w.heap.size w w' := by
  obtain ⟨h1, h2, h3, h4⟩ := hx
  have q1 : IntKind.i64.wrap (x.a + y.a) = x.a + y.a := IntWalk.i64_in _ (by have : -M ≤ x.a + y.a ∧ x.a + y.a ≤ M := h1; omega)
  have q2 : IntKind.i64.wrap (x.b + y.b) = x.b + y.b := IntWalk.i64_in _ (by have : -M ≤ x.b + y.b ∧ x.b + y.b ≤ M := h2; omega)
  have q3 : IntKind.i64.wrap (x.c + y.c) = x.c + y.c := IntWalk.i64_in _ (by have : -M ≤ x.c + y.c ∧ x.c + y.c ≤ M := h3; omega)
  have q4 : IntKind.i64.wrap (x.d + y.d) = x.d + y.d := IntWalk.i64_in _ (by have : -M ≤ x.d + y.d ∧ x.d + y.d ≤ M := h4; omega)
  clear h1 h2 h3 h4 hM
  go_enter Try.func51, Try.ntmps51
  go_wp2_with fail
  have hb : Box (((w.alloc (.cells #[.int .i64 x.a, .int .i64 x.b, .int .i64 x.c, .int .i64 x.d] 26)).alloc (.cells #[.int .i64 y.a, .int .i64 y.b, .int .i64 y.c, .int .i64 y.d] 26)).alloc (.cells #[.int .i64 (x.a + y.a), .int .i64 (x.b + y.b), .int .i64 (x.c + y.c), .int .i64 (x.d + y.d)] 26)) (w.heap.size + 1 + 1) 26 #[.int .i64 (x.a + y.a), .int .i64 (x.b + y.b), .int .i64 (x.c + y.c), .int .i64 (x.d + y.d)] := Box.made (by simp)
  obtain ⟨y0, y1, y2, y3, -⟩ := hb.cells4
  refine bodyPost_ret (v := .agg #[.int .i64 (x.a + y.a), .int .i64 (x.b + y.b), .int .i64 (x.c + y.c), .int .i64 (x.d + y.d)]) ?_ rfl ⟨rfl, by (repeat (first | (with_reducible exact Below.refl _ _) | (with_reducible refine Go.below_drewN ?_ _) | (with_reducible refine Below.drew ?_) | (with_reducible refine Below.alloc ?_ (by first | exact Nat.le_refl _ | (simp; done) | (simp; omega) | omega) _) | (with_reducible refine Below.setCell ?_ (by first | exact Nat.le_refl _ | (simp; done) | (simp; omega) | omega) _)))⟩
  simp [results, Try.results51, go_sem, y0, y1, y2, y3]
end Go.Proofs.Ytfemghbjngemlaa
/- The reference: CopyNumbers, NumbersErr, SamplesErr, Conj. -/
namespace Go.Proofs.Ytfemghbjngemlaa
open Go.RowKit
theorem OwnNums.empty (w : World) (g : Nat) (hg : g = w.heap.size) (F : Nat → Num) : OwnNums (w.alloc (.cells #[] 26)) w.heap.size (.slice (some ⟨g, 0, none⟩) 0 0) 0 F := by
  subst hg
  exact World.ownsRow_made w #[] 0 (Nat.le_refl _) (by decide) rfl
set_option maxHeartbeats 1000000 in
theorem copyNumbers_own (A : Option Addr) (n c : Nat) (F : Nat → Num) (w : World) (hn : n ≤ 10000000) (hI : NumsAt w 0 A n F) :
    Calls Try.prog 27 #[.slice A n c] w fun e w' => ∃ v, e = .returned v ∧ OwnNums w' w.heap.size v n F ∧ Below w.heap.size w w' := by
  have HI := hide (hI.alloc (.cells #[] 26))
  have HE := hide (OwnNums.empty w _ rfl F)
  clear hI
  go_enter Try.func27, Try.ntmps27
  go_wp2_with (at_builtin; refine wpList_append_nums _ rfl (.tmp 3) (.tmp 4) rfl w.heap.size 0 (.slice (some ⟨w.heap.size, 0, none⟩) 0 0) 0 F rfl HE.out A n c F rfl HI.out (by omega) (by simp) ?_; intro v' w' h1 hb1)
  go_ret
  have hB : Below w.heap.size w w' := ((Below.refl _ _).alloc (Nat.le_refl _) _).trans hb1
  rw [Nat.zero_add] at h1
  exact ⟨_, rfl, h1.congr fun j _ => by simp [catN], hB⟩
set_option maxHeartbeats 2000000 in
set_option maxRecDepth 100000 in
theorem numbersErrR_any (A : Option Addr) (n c : Nat) (F : Nat → Num) (w : World) (hn : n ≤ 1000000) (hI : NumsAt w 0 A n F) :
    Calls Try.prog 14 #[.slice A n c] w fun e w' => e = .returned (.int .i64 (numsE 1000000000 F n)) ∧ Below w.heap.size w w' := by
  have HI := hide hI
  have HX := hide (fun j W => isSmall_any (F j) W)
  clear hI
  go_enter Try.func14, Try.ntmps14
  go_wp2_with fail
  go_loopw [3] (fun i wr => ∃ k : Nat, k ≤ n ∧ i = .int .i64 (k : Int) ∧ Hid (badE (fun j => (F j).err 1000000000) k = 0) ∧ Below w.heap.size w wr) (fun i _ => n - (Go.RowKit.intOf i).toNat)
  case atStart => exact ⟨0, Nat.zero_le _, rfl, hide rfl, Below.refl _ _⟩
  case round =>
    obtain ⟨k, hk, rfl, HZ, hB⟩ := hrel
    obtain ⟨wA, rfl⟩ : ∃ x : World, x = wr := ⟨_, rfl⟩
    by_cases hlt : k < n
    · have hltz : (k : Int) < (n : Int) := by omega
      obtain ⟨b, o, rfl, -, hb, c0, c1, c2, c3⟩ := (HI.out.below hB) k hlt
      have HXk := hide (HX.out k)
      have HG := hide (badE_succ HZ.out)
      have HQ := hide (fun h => badE_at (g := fun j => (F j).err 1000000000) HZ.out h n hlt)
      have HV := hide (show (F k).err 1000000000 = unI ((F k).isIn 1000000000) 2 from rfl)
      have HB := hide hB
      clear hB
      cases hv : (F k).isIn 1000000000
      · rw [hv] at HXk HV
        have HE := hide (show numsE 1000000000 F n = 2 from (HQ.out (by show (F k).err 1000000000 ≠ 0; rw [HV.out]; decide)).trans HV.out)
        clear HQ HG HV hv HZ
        generalize F k = x at *
        go_wp2_with fail
        refine (HXk.out _).mono ?_
        rintro e w2 ⟨rfl, hb2⟩
        have HB2 := hide (HB.out.trans (hb2.mono HB.out.size))
        clear hb2 c0 c1 c2 c3
        go_wp2_with fail
        go_ret
        exact ⟨by rw [HE.out]; rfl, HB2.out⟩
      · rw [hv] at HXk HV
        have HE := hide (show badE (fun j => (F j).err 1000000000) (k + 1) = 0 from HG.out.trans HV.out)
        clear HQ HG HV hv HZ
        generalize F k = x at *
        go_wp2_with fail
        refine (HXk.out _).mono ?_
        rintro e w2 ⟨rfl, hb2⟩
        have HB2 := hide (HB.out.trans (hb2.mono HB.out.size))
        clear hb2 c0 c1 c2 c3
        go_wp2_with fail
        go_roundw
        case rel => exact ⟨k + 1, by omega, by go_num, HE, HB2.out⟩
        case measure => simp [Go.RowKit.intOf]; omega
    · obtain rfl : k = n := by omega
      have hltz : ¬ ((k : Int) < (k : Int)) := by omega
      have HE := hide (show numsE 1000000000 F k = 0 from HZ.out)
      have HB := hide hB
      clear HZ hB
      go_wp2_with fail
      go_ret
      exact ⟨by rw [HE.out]; rfl, HB.out⟩
/-- The error of samples. -/
def sampE (n : Nat) (F : Nat → Num) : Int := if 120 < n then 8 else numsE 1000000000 F n
set_option maxHeartbeats 1000000 in
theorem samplesErrR_any (A : Option Addr) (n c : Nat) (F : Nat → Num) (w : World) (hn : n ≤ 1000000) (hI : NumsAt w 0 A n F) :
    Calls Try.prog 31 #[.slice A n c] w fun e w' => e = .returned (.int .i64 (sampE n F)) ∧ Below w.heap.size w w' := by
  have HX := hide (numbersErrR_any A n c F w hn hI)
  clear hI
  by_cases h : 120 < n
  · have HE := hide (show sampE n F = 8 from if_pos h)
    have hz : (n : Int) > 120 := by omega
    generalize sampE n F = v at *
    clear HX h
    go_enter Try.func31, Try.ntmps31
    go_wp2_with fail
    go_ret
    exact ⟨by rw [HE.out]; rfl, Below.refl _ _⟩
  · have HE := hide (show sampE n F = numsE 1000000000 F n from if_neg h)
    have hz : ¬ ((n : Int) > 120) := by omega
    generalize numsE 1000000000 F n = u at *
    generalize sampE n F = v at *
    clear h
    go_enter Try.func31, Try.ntmps31
    go_wp2_with fail
    refine HX.out.mono ?_
    rintro e w2 ⟨rfl, hb⟩
    go_wp2_with fail
    go_ret
    exact ⟨by rw [HE.out]; rfl, hb⟩
end Go.Proofs.Ytfemghbjngemlaa
/- The reference: Same, Conj, Shifted. -/
namespace Go.Proofs.Ytfemghbjngemlaa
open Go.RowKit
set_option maxHeartbeats 2000000 in
set_option maxRecDepth 100000 in
/-- Two lists that are alike. -/
theorem same_alike (A B : Option Addr) (n c d : Nat) (F G : Nat → Num) (w : World) (hn : n ≤ 1000000) (hI : NumsAt w 0 A n F) (hJ : NumsAt w 0 B n G) (he : ∀ j, j < n → F j = G j) :
    Calls Try.prog 30 #[.slice A n c, .slice B n d] w fun e w' => e = .returned (.bool true) ∧ Below w.heap.size w w' := by
  have HI := hide hI
  have HJ := hide (hJ.congr fun j hj => (he j hj).symm)
  have t1 : ((n : Int) != (n : Int)) = false := by simp
  clear hI hJ he
  go_enter Try.func30, Try.ntmps30
  go_wp2_with fail
  go_loopw [5] (fun i wr => ∃ k : Nat, k ≤ n ∧ i = .int .i64 (k : Int) ∧ Below w.heap.size w wr) (fun i _ => n - (Go.RowKit.intOf i).toNat)
  case atStart => exact ⟨0, Nat.zero_le _, rfl, Below.refl _ _⟩
  case round =>
    obtain ⟨k, hk, rfl, hB⟩ := hrel
    obtain ⟨wA, rfl⟩ : ∃ x : World, x = wr := ⟨_, rfl⟩
    by_cases hlt : k < n
    · have hltz : (k : Int) < (n : Int) := by omega
      obtain ⟨b, o, rfl, -, -, c0, c1, c2, c3⟩ := (HI.out.below hB) k hlt
      obtain ⟨b', o', rfl, -, -, d0, d1, d2, d3⟩ := (HJ.out.below hB) k hlt
      generalize F k = x at *
      have HB := hide hB
      clear hB
      go_wp2_with fail
      go_quiet (fail)
      go_wp2_with fail
      go_roundw
      case rel => exact ⟨k + 1, by omega, by go_num, Go.below_drewN HB.out _⟩
      case measure => simp [Go.RowKit.intOf]; omega
    · obtain rfl : k = n := by omega
      have hltz : ¬ ((k : Int) < (k : Int)) := by omega
      have HB := hide hB
      clear hB
      go_wp2_with fail
      go_ret
      exact ⟨rfl, HB.out⟩
/-- Numbers that are turned on. -/
def shiftN (F : Nat → Num) (q : Int) (j : Nat) : Num := (F j).turns ((q * (j : Int)) % 8).toNat
end Go.Proofs.Ytfemghbjngemlaa
/- turnedOn of the code. -/
namespace Go.Proofs.Ytfemghbjngemlaa
open Go.RowKit
set_option maxHeartbeats 400000 in
set_option maxRecDepth 100000 in
theorem turnedOn_any (A : Option Addr) (n c : Nat) (F : Nat → Num) (e : Int) (w : World) (hn : n ≤ 100000) (he : -1000 ≤ e ∧ e ≤ 1000) (hI : NumsAt w 0 A n F) (hF : ∀ i, i < n → (F i).Within 4611686018427387904) :
    Calls Try.prog 82 #[.slice A n c, .int .i64 e] w fun r w' => ∃ v, r = .returned v ∧ OwnNums w' w.heap.size v n (fun i => (F i).turns ((e * (i : Int)) % 8).toNat) ∧ Below w.heap.size w w' := by
  have hmk := fun W => make_nums n (by omega) W
  have HI := hide hI
  have HT := hide (fun i (hi : i < n) W => turned_any (F i) (e * (i : Int)) W (hF i hi))
  have HW := hide (fun i (hi : i < n) => (show IntKind.i64.wrap (e * (i : Int)) = e * (i : Int) from IntWalk.i64_in _ (by
    have := mul_within (M := 1000) (N := 100000) he (show -100000 ≤ (i : Int) ∧ (i : Int) ≤ 100000 by omega)
    omega)))
  have hmade := hide (OwnNums.made w w.heap.size w.heap.size n (Nat.le_refl _) rfl (by unfold maxLen; omega))
  clear hI hF he
  go_enter Try.func82, Try.ntmps82
  go_wp2_with fail
  clear hmk
  go_loopw [13] (fun i wr => ∃ k : Nat, k ≤ n ∧ i = .int .i64 (k : Int) ∧ OwnNums wr w.heap.size (.slice (some ⟨w.heap.size, 0, none⟩) n n) n (fun i => if i < k then (F i).turns ((e * (i : Int)) % 8).toNat else Num.zero) ∧ Below w.heap.size w wr) (fun i _ => n - (Go.RowKit.intOf i).toNat)
  case atStart => exact ⟨0, Nat.zero_le _, rfl, hmade.out.congr (fun _ _ => by simp), by (repeat (first | (with_reducible exact Below.refl _ _) | (with_reducible refine Go.below_drewN ?_ _) | (with_reducible refine Below.drew ?_) | (with_reducible refine Below.alloc ?_ (by first | exact Nat.le_refl _ | (simp; done) | (simp; omega) | omega) _) | (with_reducible refine Below.setCell ?_ (by first | exact Nat.le_refl _ | (simp; done) | (simp; omega) | omega) _)))⟩
  case round =>
    clear hmade
    obtain ⟨k, hk, rfl, ho, hB⟩ := hrel
    obtain ⟨wA, rfl⟩ : ∃ x : World, x = wr := ⟨_, rfl⟩
    have hBs := hB.size
    by_cases hlt : k < n
    · have hltz : (k : Int) < (n : Int) := by omega
      obtain ⟨b, o, rfl, -, hb, c0, c1, c2, c3⟩ := (HI.out.below hB) k hlt
      have HTk := hide (fun W => HT.out k hlt W)
      have q1 := HW.out k hlt
      have HE := hide (fun (G : Nat → Num) (x : Num) (hx : x = (F k).turns ((e * (k : Int)) % 8).toNat) (hG : G = fun i => if i < k then (F i).turns ((e * (i : Int)) % 8).toNat else Num.zero) i (_ : i < n) => (show setNum G k x i = if i < k + 1 then (F i).turns ((e * (i : Int)) % 8).toNat else Num.zero from by
        subst hx; subst hG
        unfold setNum
        by_cases e1 : i = k
        · subst e1; rw [if_pos rfl, if_pos (by omega)]
        · rw [if_neg e1]
          show (if i < k then (F i).turns ((e * (i : Int)) % 8).toNat else Num.zero) = _
          by_cases e2 : i < k
          · rw [if_pos e2, if_pos (by omega)]
          · rw [if_neg e2, if_neg (by omega)]))
      obtain ⟨G, hG⟩ : ∃ G, G = fun i => if i < k then (F i).turns ((e * (i : Int)) % 8).toNat else Num.zero := ⟨_, rfl⟩
      obtain ⟨y, hy⟩ : ∃ y, y = (F k).turns ((e * (k : Int)) % 8).toNat := ⟨_, rfl⟩
      have HEE := hide (HE.out G y hy hG)
      rw [← hG] at ho
      rw [← hy] at HTk
      clear hG hy HE
      generalize F k = x at *
      obtain ⟨m, hm⟩ : ∃ m, m = e * (k : Int) := ⟨_, rfl⟩
      rw [← hm] at HTk
      replace q1 := q1.trans hm.symm
      clear hm
      go_upto_region 5 with fail
      obtain ⟨W1, hW1⟩ : ∃ y : World, y = wA.alloc (.cells #[.int .i64 x.a, .int .i64 x.b, .int .i64 x.c, .int .i64 x.d] 26) := ⟨_, rfl⟩
      rw [← hW1]
      have bx1 : Box W1 wA.heap.size 26 #[.int .i64 x.a, .int .i64 x.b, .int .i64 x.c, .int .i64 x.d] := by rw [hW1]; exact Box.made rfl
      have ho1 := ho.alloc (.cells #[.int .i64 x.a, .int .i64 x.b, .int .i64 x.c, .int .i64 x.d] 26)
      have hB1 := hB.alloc hBs (.cells #[.int .i64 x.a, .int .i64 x.b, .int .i64 x.c, .int .i64 x.d] 26)
      rw [← hW1] at ho1 hB1
      clear hW1 ho hB hb c0 c1 c2 c3
      obtain ⟨y0, y1, y2, y3, g0, g1, g2, g3, hl'⟩ := bx1.cells4
      go_wp2_with fail
      refine (HTk.out _).mono ?_
      rintro r w2 ⟨rfl, hb2⟩
      have hc2 : Below W1.heap.size W1 w2 := by first | exact hb2 | exact below_of_drew hb2
      have ho2 := ho1.below hc2
      have hB2 := hB1.trans (hc2.mono hB1.size)
      clear y0 y1 y2 y3 g0 g1 g2 g3 hl' bx1 ho1 hB1 hb2 hc2
      obtain ⟨z0, z1, z2, z3⟩ := ho2.cells hlt
      obtain ⟨f0, f1, f2, f3⟩ := ho2.frozen4 k
      have hlw := ho2.lt.2
      have HOO := hide (ho2.put k y)
      have HBB := hide (Below.put4at (o := k * 4) hB2 (Nat.le_refl _) (.int .i64 y.a) (.int .i64 y.b) (.int .i64 y.c) (.int .i64 y.d))
      clear ho2 hB2
      go_wp2_with fail
      go_roundw
      case rel => exact ⟨k + 1, by omega, by go_num, HOO.out.congr HEE.out, HBB.out⟩
      case measure => simp [Go.RowKit.intOf]; omega
    · obtain rfl : k = n := by omega
      go_wp2_with fail
      go_ret
      exact ⟨_, rfl, ho.congr (fun i hi => by rw [if_pos hi]), hB⟩
end Go.Proofs.Ytfemghbjngemlaa
