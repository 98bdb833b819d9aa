/- Lemmas: Jb, Lb, Hc, Jc, Lf. -/
import Derived.Test.YtnglmfdcnoglhaaBk04
import Derived.Test.YtnglmfdcnoglhaaBk05
set_option linter.unusedVariables false
set_option linter.unusedSimpArgs false
/- Errors of sums, versions, counts, lengths: of the code and of the reference. -/
namespace Go.Proofs.Ytnglmfdcnoglhaa
open Go.RowKit
def sizedB (n : Nat) (F : Nat → Int) (m : Int) : Bool := !anyN n fun j => !withinB (F j) (-m) m
theorem sizedB_iff {n : Nat} {F : Nat → Int} {m : Int} : sizedB n F m = true ↔ ∀ j, j < n → -m ≤ F j ∧ F j ≤ m := by
  unfold sizedB
  rw [Bool.not_eq_true', ← Bool.not_eq_true, anyN_iff]
  constructor
  · intro h j hj
    refine Classical.byContradiction fun hno => h ⟨j, hj, ?_⟩
    rw [withinB_no hno]; rfl
  · rintro h ⟨j, hj, e⟩
    rw [withinB_yes (h j hj)] at e
    cases e
def sizedErrI (n cnt : Nat) (F : Nat → Int) (m : Int) : Int := if n = 0 then 10 else if cnt < n then 8 else if sizedB n F m = true then 0 else 2
theorem sizedErr_first (n cnt : Nat) (F : Nat → Int) (m : Int) : firstE [firstE [unI (decide (0 < n)) 10, unI (decide (n ≤ cnt)) 8], unI (sizedB n F m) 2] = sizedErrI n cnt F m := by
  unfold sizedErrI
  by_cases h1 : n = 0
  · rw [if_pos h1, h1]; rfl
  · rw [if_neg h1, decide_eq_true (show 0 < n by omega)]
    by_cases h2 : cnt < n
    · rw [if_pos h2, decide_eq_false (show ¬ n ≤ cnt by omega)]; rfl
    · rw [if_neg h2, decide_eq_true (show n ≤ cnt by omega)]
      cases sizedB n F m <;> rfl
theorem sizedErr_zero {n cnt : Nat} {F : Nat → Int} {m : Int} (h : sizedErrI n cnt F m = 0) : 0 < n ∧ n ≤ cnt ∧ ∀ j, j < n → -m ≤ F j ∧ F j ≤ m := by
  unfold sizedErrI at h
  by_cases h1 : n = 0
  · rw [if_pos h1] at h; exact absurd h (by decide)
  · rw [if_neg h1] at h
    by_cases h2 : cnt < n
    · rw [if_pos h2] at h; exact absurd h (by decide)
    · rw [if_neg h2] at h
      by_cases h3 : sizedB n F m = true
      · exact ⟨by omega, by omega, sizedB_iff.1 h3⟩
      · rw [if_neg h3] at h; exact absurd h (by decide)
theorem softErr_any (A : Option Addr) (n c : Nat) (F : Nat → Int) (w : World) (hn : n ≤ 100000) (hI : IntsAt w 0 A n F) :
    Calls Try.prog 68 #[.slice A n c] w fun e w' => e = .returned (.int .i64 (sizedErrI n 400 F 1000000)) ∧ Below w.heap.size w w' :=
  (softError_any A n c F w hn hI).mono fun e w' h => ⟨by rw [h.1, ← sizedErr_first]; rfl, h.2⟩
set_option maxHeartbeats 1000000 in
theorem sumsErr_any (A : Option Addr) (n c : Nat) (F : Nat → Int) (w : World) (hn : n ≤ 100000) (hI : IntsAt w 0 A n F) :
    Calls Try.prog 53 #[.slice A n c] w fun e w' => e = .returned (.int .i64 (sizedErrI n 200 F 1000000000)) ∧ Below w.heap.size w w' := by
  have HI := hide hI
  have HF := hide (sizedErr_first n 200 F 1000000000)
  unfold sizedB at HF
  clear hI
  go_enter Try.func53, Try.ntmps53
  go_wp2_with fail
  refine (countedError_any n 200 _ hn (by omega)).mono ?_
  rintro e w1 ⟨rfl, hb1⟩
  go_wp2_with fail
  refine (areWithin_any A n c F 1000000000 _ hn (HI.out.below hb1) (by omega) (by omega)).mono ?_
  rintro e w2 ⟨rfl, hb2⟩
  go_wp2_with (go_at_call 38; refine (unless_any _ _ _).mono ?_; rintro e w' ⟨rfl, rfl⟩)
  refine (firstError_laid [firstE [unI (decide (0 < n)) 10, unI (decide (n ≤ 200)) 8], unI (!anyN n fun j => !withinB (F j) (-1000000000) 1000000000) 2] 2 _ _ rfl (by decide)).mono ?_
  rintro e w' ⟨rfl, rfl⟩
  go_wp2_with fail
  go_ret
  have s1 := hb1.size
  have s2 := hb2.size
  exact ⟨ret_int HF.out, by (repeat (first | (with_reducible exact Below.refl _ _) | (with_reducible refine below_drewN ?_ _) | (with_reducible refine Below.drew ?_) | (with_reducible refine Below.alloc ?_ (by first | exact Nat.le_refl _ | (simp; done) | (simp; omega) | omega) _) | (with_reducible refine Below.trans ?_ (Below.mono hb2 (by first | exact Nat.le_refl _ | (simp; done) | (simp; omega) | omega))) | (with_reducible refine Below.trans ?_ (Below.mono hb1 (by first | exact Nat.le_refl _ | (simp; done) | (simp; omega) | omega))) | (with_reducible refine Below.setCell ?_ (by first | exact Nat.le_refl _ | (simp; done) | (simp; omega) | omega) _)))⟩
theorem lengthError_any (v : Int) (w : World) : Calls Try.prog 37 #[.int .i64 v] w fun e w' => e = .returned (.int .i64 (unI (withinB v 1 200) 2)) ∧ w = w' := by
  go_enter Try.func37, Try.ntmps37
  go_wp2_with (first | (go_at_call 39; refine (isWithin_any _ _ _ _).mono ?_; rintro e w' ⟨rfl, rfl⟩) | (go_at_call 38; refine (unless_any _ _ _).mono ?_; rintro e w' ⟨rfl, rfl⟩))
  go_ret
  exact ⟨rfl, rfl⟩
set_option maxHeartbeats 400000 in
theorem versionErrR_any (v : Int) (w : World) : Calls Try.prog 61 #[.int .i64 v] w fun e w' => e = .returned (.int .i64 (unI (withinB v 0 3) 15)) ∧ w = w' := by
  cases h : withinB v 0 3
  all_goals
    go_enter Try.func61, Try.ntmps61
    go_wp2_with fail
    refine (within_any _ _ _ _).mono ?_; rintro e w' ⟨rfl, rfl⟩
    rw [h]
    go_wp2_with fail
    go_ret
    exact ⟨rfl, rfl⟩
set_option maxHeartbeats 400000 in
theorem countErrR_any (v : Int) (w : World) : Calls Try.prog 71 #[.int .i64 v] w fun e w' => e = .returned (.int .i64 (unI (withinB v 1 400) 2)) ∧ w = w' := by
  cases h : withinB v 1 400
  all_goals
    go_enter Try.func71, Try.ntmps71
    go_wp2_with fail
    refine (within_any _ _ _ _).mono ?_; rintro e w' ⟨rfl, rfl⟩
    rw [h]
    go_wp2_with fail
    go_ret
    exact ⟨rfl, rfl⟩
set_option maxHeartbeats 400000 in
theorem lengthErrR_any (v : Int) (w : World) : Calls Try.prog 40 #[.int .i64 v] w fun e w' => e = .returned (.int .i64 (unI (withinB v 1 200) 2)) ∧ w = w' := by
  cases h : withinB v 1 200
  all_goals
    go_enter Try.func40, Try.ntmps40
    go_wp2_with fail
    refine (within_any _ _ _ _).mono ?_; rintro e w' ⟨rfl, rfl⟩
    rw [h]
    go_wp2_with fail
    go_ret
    exact ⟨rfl, rfl⟩
set_option maxHeartbeats 1000000 in
theorem sizedErrR_any (A : Option Addr) (n c cnt : Nat) (m : Int) (F : Nat → Int) (w : World) (hn : n ≤ 9223372036854775807) (hc : cnt ≤ 1000) (h0 : 0 ≤ m) (h1 : m ≤ 1000000000000) (hI : IntsAt w 0 A n F) :
    Calls Try.prog 73 #[.slice A n c, .int .i64 (cnt : Int), .int .i64 m] w fun e w' => e = .returned (.int .i64 (sizedErrI n cnt F m)) ∧ ∃ q, w' = w.drewN q := by
  by_cases hz : n = 0
  · have EQ := hide (show sizedErrI n cnt F m = 10 from if_pos hz)
    generalize sizedErrI n cnt F m = R at *
    subst hz
    clear hI
    go_enter Try.func73, Try.ntmps73
    go_wp2_with fail
    go_ret
    exact ⟨ret_int EQ.out.symm, 0, rfl⟩
  · have t1 : ((n : Int) == 0) = false := by simp; omega
    by_cases h2 : cnt < n
    · have EQ := hide (show sizedErrI n cnt F m = 8 from by unfold sizedErrI; rw [if_neg hz, if_pos h2])
      have t2 : decide ((cnt : Int) < (n : Int)) = true := by simp; omega
      have t2' : decide (cnt < n) = true := by simp; omega
      generalize sizedErrI n cnt F m = R at *
      clear hI hz
      go_enter Try.func73, Try.ntmps73
      go_wp2_with fail
      go_ret
      exact ⟨ret_int EQ.out.symm, 0, rfl⟩
    · have EQ := hide (show sizedErrI n cnt F m = (if sizedB n F m = true then 0 else 2) from by unfold sizedErrI; rw [if_neg hz, if_neg h2])
      have t2 : decide ((cnt : Int) < (n : Int)) = false := by simp; omega
      have t2' : decide (cnt < n) = false := by simp; omega
      generalize sizedErrI n cnt F m = R at *
      have HI := hide hI
      clear hI hz
      go_enter Try.func73, Try.ntmps73
      go_wp2_with fail
      go_loopw [7] (fun i wr => ∃ k q : Nat, k ≤ n ∧ i = .int .i64 k ∧ wr = w.drewN q ∧ Hid (∀ j, j < k → -m ≤ F j ∧ F j ≤ m)) (fun i _ => n - (intOf i).toNat)
      case atStart => exact ⟨0, 0, Nat.zero_le _, rfl, rfl, hide fun j h => absurd h (Nat.not_lt_zero _)⟩
      case round =>
        obtain ⟨k, q, hk, rfl, rfl, HZ⟩ := hrel
        by_cases hlt : k < n
        · obtain ⟨b, o, rfl, -, hb, hcell⟩ := HI.out k hlt
          have hltz : (k : Int) < (n : Int) := by omega
          by_cases he : -m ≤ F k ∧ F k ≤ m
          · have HE := hide he
            have hw := withinB_yes he
            clear he
            go_wp2_with fail
            refine (within_any _ _ _ _).mono ?_; rintro e w' ⟨rfl, rfl⟩
            rw [hw]
            go_wp2_with fail
            refine ⟨⟨k + 1, q, by omega, by simp, rfl, hide fun j hj => ?_⟩, by simp [intOf]; omega⟩
            rcases Nat.lt_or_ge j k with h | h
            · exact HZ.out j h
            · obtain rfl : j = k := by omega
              exact HE.out
          · have hw := withinB_no he
            have HE := hide (show sizedB n F m = false from by
              rw [← Bool.not_eq_true, sizedB_iff]
              exact fun h => he (h k hlt))
            clear he
            go_wp2_with fail
            refine (within_any _ _ _ _).mono ?_; rintro e w' ⟨rfl, rfl⟩
            rw [hw]
            go_wp2_with fail
            go_ret
            exact ⟨ret_int (by rw [EQ.out, HE.out]; rfl), _, rfl⟩
        · obtain rfl : k = n := by omega
          go_wp2_with fail
          go_ret
          exact ⟨ret_int (by rw [EQ.out, if_pos (sizedB_iff.2 HZ.out)]), _, rfl⟩
theorem softErrR_any (A : Option Addr) (n c : Nat) (F : Nat → Int) (w : World) (hn : n ≤ 9223372036854775807) (hI : IntsAt w 0 A n F) :
    Calls Try.prog 62 #[.slice A n c] w fun e w' => e = .returned (.int .i64 (sizedErrI n 400 F 1000000)) ∧ ∃ q, w' = w.drewN q := by
  have HX := hide (sizedErrR_any A n c 400 1000000 F w hn (by omega) (by omega) (by omega) hI)
  clear hI
  go_enter Try.func62, Try.ntmps62
  go_wp2_with fail
  refine HX.out.mono ?_; rintro e w' ⟨rfl, q, rfl⟩
  go_wp2_with fail
  go_ret
  exact ⟨rfl, q, rfl⟩
theorem sumsErrR_any (A : Option Addr) (n c : Nat) (F : Nat → Int) (w : World) (hn : n ≤ 9223372036854775807) (hI : IntsAt w 0 A n F) :
    Calls Try.prog 41 #[.slice A n c] w fun e w' => e = .returned (.int .i64 (sizedErrI n 200 F 1000000000)) ∧ ∃ q, w' = w.drewN q := by
  have HX := hide (sizedErrR_any A n c 200 1000000000 F w hn (by omega) (by omega) (by omega) hI)
  clear hI
  go_enter Try.func41, Try.ntmps41
  go_wp2_with fail
  refine HX.out.mono ?_; rintro e w' ⟨rfl, q, rfl⟩
  go_wp2_with fail
  go_ret
  exact ⟨rfl, q, rfl⟩
end Go.Proofs.Ytnglmfdcnoglhaa
/- chainError. -/
namespace Go.Proofs.Ytnglmfdcnoglhaa
open Go.RowKit
/-- The error of a chain. -/
def chainErrI (d t p : Int) (n : Nat) (F : Nat → Int) (k : Int) : Int := firstE [polyErrI d t, polarErrI p n F, unI (decide (d < (n : Int))) 10, unI (withinB k 1 400) 2]
theorem firstE_zero_cons {e : Int} {r : List Int} (h : firstE (e :: r) = 0) : e = 0 ∧ firstE r = 0 := by
  rw [firstE_cons] at h
  by_cases h1 : e = 0
  · rw [if_pos h1] at h; exact ⟨h1, h⟩
  · rw [if_neg h1] at h; exact absurd h h1
theorem unI_zero {b : Bool} {e : Int} (he : e ≠ 0) (h : unI b e = 0) : b = true := by
  cases b
  · exact absurd h he
  · rfl
theorem withinB_of {n lo hi : Int} (h : withinB n lo hi = true) : lo ≤ n ∧ n ≤ hi := by
  refine Classical.byContradiction fun hh => ?_
  rw [withinB_no hh] at h
  cases h
/-- A chain that is right. -/
structure ChainOk (d t p : Int) (n : Nat) (F : Nat → Int) (k : Int) (x y q j : Nat) : Prop where
  ed : d = x
  et : t = y
  ep : p = q
  ek : k = j
  d0 : 1 ≤ x
  d1 : x ≤ 16
  t1 : y < 2 ^ x
  odd : y % 2 = 1
  polar : PolarOk q n F
  q6 : q ≤ 6
  less : x < n
  k1 : 1 ≤ j
  k4 : j ≤ 400
theorem chainErr_zero {d t p : Int} {n : Nat} {F : Nat → Int} {k : Int} (h : chainErrI d t p n F k = 0) : ∃ x y q j, ChainOk d t p n F k x y q j := by
  obtain ⟨h1, h⟩ := firstE_zero_cons h
  obtain ⟨h2, h⟩ := firstE_zero_cons h
  obtain ⟨h3, h⟩ := firstE_zero_cons h
  obtain ⟨h4, -⟩ := firstE_zero_cons h
  have h3 := of_decide_eq_true (unI_zero (by decide) h3)
  have h4 := withinB_of (unI_zero (by decide) h4)
  obtain ⟨g1, g2, g3, g4, g5⟩ := poly_of h1
  obtain ⟨p1, p2, p3⟩ := polarOk_of h2
  obtain ⟨x, rfl⟩ := Int.eq_ofNat_of_zero_le (show 0 ≤ d by omega)
  obtain ⟨y, rfl⟩ := Int.eq_ofNat_of_zero_le (show 0 ≤ t by omega)
  obtain ⟨q, rfl⟩ := Int.eq_ofNat_of_zero_le p1
  obtain ⟨j, rfl⟩ := Int.eq_ofNat_of_zero_le (show 0 ≤ k by omega)
  rw [Int.toNat_natCast] at g4 p3
  have : ((2 ^ x : Nat) : Int) = (2 : Int) ^ x := by simp
  exact ⟨x, y, q, j, rfl, rfl, rfl, rfl, by omega, by omega, by omega, by omega, p3, by omega, by omega, by omega, by omega⟩
theorem bstep5 {B : Nat} {w1 W w2 : World} {p q r s t : Prop} (hb : Below W.heap.size W w2) (h : p ∧ q ∧ r ∧ s ∧ t ∧ Below B w1 W) (hB : B ≤ w1.heap.size) : Below B w1 w2 := h.2.2.2.2.2.trans (hb.mono (Nat.le_trans hB h.2.2.2.2.2.size))
set_option maxHeartbeats 2000000 in
theorem chainError_any (d t p k : Int) (A : Option Addr) (n c : Nat) (F : Nat → Int) (w : World) (hn : n ≤ 1000) (hI : IntsAt w 0 A n F) :
    Calls Try.prog 42 #[.agg #[.int .i64 d, .int .i64 t, .int .i64 p, .slice A n c, .int .i64 k]] w fun e w' => e = .returned (.int .i64 (chainErrI d t p n F k)) ∧ Below w.heap.size w w' := by
  have HI := hide hI
  clear hI
  go_enter Try.func42, Try.ntmps42
  go_wp2_with fail
  generalize hW : World.alloc w _ = W
  have bx : Box W w.heap.size 28 #[.int .i64 d, .int .i64 t, .int .i64 p, .slice A n c, .int .i64 k] := by rw [← hW]; exact Box.made rfl
  have hB : Below w.heap.size w W := by rw [← hW]; exact (Below.refl _ _).alloc (Nat.le_refl _) _
  clear hW
  have x0 : W.cell? ⟨w.heap.size, 0, none⟩ = some (.int .i64 d) := bx.at_ 0
  have x1 : W.cell? ⟨w.heap.size, 1, none⟩ = some (.int .i64 t) := bx.at_ 1
  have x2 : W.cell? ⟨w.heap.size, 2, none⟩ = some (.int .i64 p) := bx.at_ 2
  have x3 : W.cell? ⟨w.heap.size, 3, none⟩ = some (.slice A n c) := bx.at_ 3
  have x4 : W.cell? ⟨w.heap.size, 4, none⟩ = some (.int .i64 k) := bx.at_ 4
  have hz : w.heap.size + 1 ≤ W.heap.size := bx.lt
  have SOF := hide (fun W' (h : Below (w.heap.size + 1) W W') => (⟨(h.cell (p := ⟨w.heap.size, 0, none⟩) (by simp)).trans x0, (h.cell (p := ⟨w.heap.size, 1, none⟩) (by simp)).trans x1, (h.cell (p := ⟨w.heap.size, 2, none⟩) (by simp)).trans x2, (h.cell (p := ⟨w.heap.size, 3, none⟩) (by simp)).trans x3, (h.cell (p := ⟨w.heap.size, 4, none⟩) (by simp)).trans x4, h⟩ :
     W'.cell? ⟨w.heap.size, 0, none⟩ = some (.int .i64 d) ∧ W'.cell? ⟨w.heap.size, 1, none⟩ = some (.int .i64 t) ∧ W'.cell? ⟨w.heap.size, 2, none⟩ = some (.int .i64 p) ∧ W'.cell? ⟨w.heap.size, 3, none⟩ = some (.slice A n c) ∧ W'.cell? ⟨w.heap.size, 4, none⟩ = some (.int .i64 k) ∧ Below (w.heap.size + 1) W W'))
  have KI := hide (fun W' (h : W'.cell? ⟨w.heap.size, 0, none⟩ = some (.int .i64 d) ∧ W'.cell? ⟨w.heap.size, 1, none⟩ = some (.int .i64 t) ∧ W'.cell? ⟨w.heap.size, 2, none⟩ = some (.int .i64 p) ∧ W'.cell? ⟨w.heap.size, 3, none⟩ = some (.slice A n c) ∧ W'.cell? ⟨w.heap.size, 4, none⟩ = some (.int .i64 k) ∧ Below (w.heap.size + 1) W W') => HI.out.below (hB.trans (h.2.2.2.2.2.mono (by omega))))
  have b0 : Below (w.heap.size + 1) W W := Below.refl _ _
  have HBB := hide hB
  clear x0 x1 x2 x3 x4 hB
  go_region_held3 (fun w' => w'.cell? ⟨w.heap.size, 0, none⟩ = some (.int .i64 d) ∧ w'.cell? ⟨w.heap.size, 1, none⟩ = some (.int .i64 t) ∧ w'.cell? ⟨w.heap.size, 2, none⟩ = some (.int .i64 p) ∧ w'.cell? ⟨w.heap.size, 3, none⟩ = some (.slice A n c) ∧ w'.cell? ⟨w.heap.size, 4, none⟩ = some (.int .i64 k) ∧ Below (w.heap.size + 1) W w')
      (first | assumption | exact SOF.out _ (by assumption) | exact SOF.out _ b0.drew | exact SOF.out _ (balloc' (by assumption) hz _))
      (first
        | (go_at_call 65; refine (checkPoly_any d t _).mono ?_; rintro e w2 ⟨rfl, hb2⟩; have hs2 : Below (w.heap.size + 1) W w2 := bstep5 hb2 (by assumption) hz)
        | (go_at_call 67; refine (checkPolar_any p A n c F _ hn (KI.out _ (by assumption))).mono ?_; rintro e w3 ⟨rfl, hb3⟩; have hs3 : Below (w.heap.size + 1) W w3 := bstep5 hb3 (by assumption) hz)
        | (go_at_call 38; refine (unless_any _ _ _).mono ?_; rintro e w4 ⟨rfl, rfl⟩)
        | (go_at_call 74; refine (countError_any _ _).mono ?_; rintro e w5 ⟨rfl, rfl⟩)
        | (go_at_call 36; refine (firstError_laid [polyErrI d t, polarErrI p n F, unI (decide (d < (n : Int))) 10, unI (withinB k 1 400) 2] 4 _ _ rfl (by decide)).mono ?_; rintro e w6 ⟨rfl, rfl⟩))
  go_wp2_with fail
  go_ret
  have hB3 := HBB.out.trans (hs3.mono (by omega))
  exact ⟨rfl, hB3.alloc hB3.size _⟩
end Go.Proofs.Ytnglmfdcnoglhaa
/- BitsOf. -/
namespace Go.Proofs.Ytnglmfdcnoglhaa
open Go.RowKit
/-- The bits of a number, the greatest power first. -/
def bitsOfF (t n : Nat) (j : Nat) : Int := ((t / 2 ^ (n - 1 - j) % 2 : Nat) : Int)
end Go.Proofs.Ytnglmfdcnoglhaa
/- place, Match and Gathered of the reference. -/
namespace Go.Proofs.Ytnglmfdcnoglhaa
open Go.RowKit Go.Shelf
set_option maxHeartbeats 1000000 in
theorem place_any (n v k : Nat) (w : World) (hv : v ≤ 3) (hn : 1 ≤ n) (hn9 : n ≤ 1000) (hk : k ≤ 1000) :
    Calls Try.prog 88 #[.int .i64 (n : Int), .int .i64 (v : Int), .int .i64 (k : Int)] w fun e w' => e = .returned (.int .i64 ((placeN v n k : Nat) : Int)) ∧ w = w' := by
  obtain ⟨m, hm⟩ : ∃ m, m = v * n := ⟨_, rfl⟩
  have hm9 : m ≤ 3000 := by
    have := Nat.mul_le_mul hv hn9
    omega
  have HP := hide (show placeN v n k = (m / 4 + k) % n from by rw [hm]; rfl)
  have hmz : (v : Int) * (n : Int) = (m : Int) := by rw [hm]; simp
  have hn0 : ¬ (n : Int) = 0 := by omega
  clear hm
  go_enter Try.func88, Try.ntmps88
  go_wp2_with fail
  go_ret
  exact ⟨ret_int (by rw [HP.out]; simp), rfl⟩
/-- What is gathered at a place behind k soft bits. -/
def gatherF (v n : Nat) (S : Nat → Int) : Nat → Nat → Int
  | 0, _ => 0
  | k + 1, p => if p = placeN v n k then gatherF v n S k p + S k else gatherF v n S k p
theorem gatherF_le {v n : Nat} {S : Nat → Int} {C : Nat} (hS : ∀ k, k < C → -1000000 ≤ S k ∧ S k ≤ 1000000) : ∀ {k}, k ≤ C → ∀ p, -((k : Int) * 1000000) ≤ gatherF v n S k p ∧ gatherF v n S k p ≤ (k : Int) * 1000000
  | 0, _, p => by simp [gatherF]
  | k + 1, hk, p => by
    have h := gatherF_le (v := v) (n := n) hS (show k ≤ C by omega) p
    have h2 := hS k (by omega)
    unfold gatherF
    split
    · omega
    · omega
set_option maxHeartbeats 2000000 in
theorem gatheredR_any (A : Option Addr) (C c v n : Nat) (S : Nat → Int) (w : World) (hI : IntsAt w 0 A C S) (hS : ∀ k, k < C → -1000000 ≤ S k ∧ S k ≤ 1000000) (hv : v ≤ 3) (hn : 1 ≤ n) (hn9 : n ≤ 1000) (hC : C ≤ 1000) :
    Calls Try.prog 63 #[.slice A C c, .int .i64 (v : Int), .int .i64 (n : Int)] w fun e w' => ∃ x, e = .returned x ∧ GaveInts w n (gatherF v n S C) x w' := by
  obtain ⟨i0, hi, hz0, hz1, hz2⟩ := info_parts intInfo
  have hmk := fun W => run_make_row (P := Try.prog) 24 3 i0 (.int .i64 0) Try.underlying24 hi hz0 hz1 rfl .i64 .i64 n (by rw [hz2]; omega) (by omega) W
  have HI := hide hI
  have HS := hide hS
  clear hI hS hi hz0 hz1 hz2
  go_enter Try.func63, Try.ntmps63
  go_wp2_with fail
  clear hmk
  go_loopw [8, 9] (fun i x wr => ∃ k : Nat, k ≤ C ∧ i = .int .i64 k ∧ wr.rowIs w.heap.size 3 n (fun p => .int .i64 (gatherF v n S k p)) ∧ Below w.heap.size w wr) (fun i _ _ => C - (intOf i).toNat)
  case atStart => exact ⟨0, Nat.zero_le _, rfl, (World.rowIs_made w (.int .i64 0) n 3).congr (fun _ _ => rfl), by (repeat (first | (with_reducible exact Below.refl _ _) | (with_reducible refine below_drewN ?_ _) | (with_reducible refine Below.drew ?_) | (with_reducible refine Below.alloc ?_ (by first | exact Nat.le_refl _ | (simp; done) | (simp; omega) | omega) _) | (with_reducible refine Below.setCell ?_ (by first | exact Nat.le_refl _ | (simp; done) | (simp; omega) | omega) _)))⟩
  case round =>
    obtain ⟨k, hk, rfl, hR, hB⟩ := hrel
    by_cases hlt : k < C
    · have hltz : (k : Int) < (C : Int) := by omega
      have hI := HI.out.below hB
      obtain ⟨b, o, rfl, -, hb, hcell⟩ := hI k hlt
      go_wp2_with fail
      refine (place_any n v k _ hv hn hn9 (by omega)).mono ?_
      rintro e w' ⟨rfl, rfl⟩
      have hpl := placeN_lt (v := v) (k := k) (show 0 < n by omega)
      have HN := hide (show ∀ p, gatherF v n S (k + 1) p = if p = placeN v n k then gatherF v n S k p + S k else gatherF v n S k p from fun _ => rfl)
      have hg9 := gatherF_le (v := v) (n := n) HS.out hk (placeN v n k)
      have hs9 := HS.out k hlt
      have hc := hR.cell hpl
      have hf := hR.frozen (placeN v n k)
      have HG := hide (show gatherF v n S k (placeN v n k) = gatherF v n S k (placeN v n k) from rfl)
      obtain ⟨p, hp⟩ : ∃ p, p = placeN v n k := ⟨_, rfl⟩
      rw [← hp] at hpl HN hg9 hc hf ⊢
      obtain ⟨y, hy⟩ : ∃ y, y = gatherF v n S k p := ⟨_, rfl⟩
      rw [← hy] at hg9 hc
      have HY := hide hy
      clear hp hy HG
      have hpz : (p : Int) < (n : Int) := by omega
      have q1 : IntKind.i64.wrap (y + S k) = y + S k := IntWalk.i64_in _ (by omega)
      go_wp2_with fail
      go_region
      go_wp2_with fail
      refine ⟨⟨k + 1, by omega, by simp, (hR.set p _).congr (fun j _ => ?_), (hB.setCell (by simp) _).drew⟩, by simp [intOf]; omega⟩
      show (if j = p then _ else _) = _
      rw [HN.out j]
      by_cases e : j = p
      · subst e; rw [if_pos rfl, if_pos rfl, HY.out]
      · rw [if_neg e, if_neg e]
    · obtain rfl : k = C := by omega
      go_wp2_with fail
      go_ret
      exact ⟨_, rfl, GaveInts.of_row hR (Nat.le_refl _) hB⟩
end Go.Proofs.Ytnglmfdcnoglhaa
/- Sent and Recovered. -/
namespace Go.Proofs.Ytnglmfdcnoglhaa
open Go.RowKit Go.Shelf
/-- The error of Sent. -/
def sentErrI (d t p : Int) (n : Nat) (F : Nat → Int) (k : Int) (m : Nat) (B : Nat → Int) (v : Int) : Int := firstE [chainErrI d t p n F k, bitsErrR m B, unI (decide ((m : Int) + d = (n : Int))) 10, unI (withinB v 0 3) 15]
theorem sentErr_of (d t p : Int) (n : Nat) (F : Nat → Int) (k : Int) (m : Nat) (B : Nat → Int) (v : Int) (b : Bool) (h : chainErrI d t p n F k = 0 → b = decide ((m : Int) + d = (n : Int))) :
    firstE [chainErrI d t p n F k, firstE [firstE [unI (decide (0 < m)) 10, unI (decide (m ≤ 200)) 8], unI (bitsB m B) 15], unI b 10, unI (withinB v 0 3) 15] = sentErrI d t p n F k m B v := by
  rw [show firstE [firstE [unI (decide (0 < m)) 10, unI (decide (m ≤ 200)) 8], unI (bitsB m B) 15] = bitsErrR m B from bitsErrC_eq m B]
  unfold sentErrI
  rw [firstE_cons, firstE_cons (chainErrI d t p n F k)]
  by_cases h1 : chainErrI d t p n F k = 0
  · rw [h h1]
  · rw [if_neg h1, if_neg h1]
/-- What a chain sends. -/
def sentF (d t p n : Nat) (F : Nat → Int) (m : Nat) (B : Nat → Int) (v j : Nat) : Int := wordF (2 ^ p) (fun x => posF F (catF m B (remB d t m B)) x n) (placeN v (2 ^ p) j)
theorem catF_bits {n m : Nat} {F G : Nat → Int} (hF : ∀ k, k < n → IsBit (F k)) (hG : ∀ k, IsBit (G k)) : ∀ k, k < n + m → IsBit (catF n F G k) := fun k _ => by
  unfold catF
  split
  · exact hF k (by assumption)
  · exact hG _
set_option maxHeartbeats 4000000 in
theorem Sent_any (d t p k v : Int) (A C : Option Addr) (n c m e : Nat) (F B : Nat → Int) (w : World) (hn : n ≤ 1000) (hm : m ≤ 1000) (hd9 : -9223372036854775808 ≤ d ∧ d ≤ 9223372036854775807) (hI : IntsAt w 0 A n F) (hJ : IntsAt w 0 C m B) :
    Calls Try.prog 13 #[.agg #[.int .i64 d, .int .i64 t, .int .i64 p, .slice A n c, .int .i64 k], .slice C m e, .int .i64 v] w (GaveOr (sentErrI d t p n F k m B v) k.toNat (sentF d.toNat t.toNat p.toNat n F m B v.toNat) w) := by
  have HI := hide hI
  have HJ := hide hJ
  have HFE := hide (sentErr_of d t p n F k m B v (IntKind.i64.wrap ((m : Int) + d) == (n : Int)) (fun h => by
    obtain ⟨x, y, q, j, ok⟩ := chainErr_zero h
    have := ok.ed
    have := ok.d1
    rw [IntWalk.i64_in _ (by omega)]
    rfl))
  clear hI hJ
  go_enter Try.func13, Try.ntmps13
  go_wp2_with fail
  generalize hW : World.alloc w _ = W
  have bx : Box W w.heap.size 28 #[.int .i64 d, .int .i64 t, .int .i64 p, .slice A n c, .int .i64 k] := by rw [← hW]; exact Box.made rfl
  have hB : Below w.heap.size w W := by rw [← hW]; exact (Below.refl _ _).alloc (Nat.le_refl _) _
  clear hW
  have x0 : W.cell? ⟨w.heap.size, 0, none⟩ = some (.int .i64 d) := bx.at_ 0
  have x1 : W.cell? ⟨w.heap.size, 1, none⟩ = some (.int .i64 t) := bx.at_ 1
  have x2 : W.cell? ⟨w.heap.size, 2, none⟩ = some (.int .i64 p) := bx.at_ 2
  have x3 : W.cell? ⟨w.heap.size, 3, none⟩ = some (.slice A n c) := bx.at_ 3
  have x4 : W.cell? ⟨w.heap.size, 4, none⟩ = some (.int .i64 k) := bx.at_ 4
  have hz : w.heap.size + 1 ≤ W.heap.size := bx.lt
  have SOF := hide (fun W' (h : Below (w.heap.size + 1) W W') => (⟨(h.cell (p := ⟨w.heap.size, 0, none⟩) (by simp)).trans x0, (h.cell (p := ⟨w.heap.size, 1, none⟩) (by simp)).trans x1, (h.cell (p := ⟨w.heap.size, 2, none⟩) (by simp)).trans x2, (h.cell (p := ⟨w.heap.size, 3, none⟩) (by simp)).trans x3, (h.cell (p := ⟨w.heap.size, 4, none⟩) (by simp)).trans x4, h⟩ :
     W'.cell? ⟨w.heap.size, 0, none⟩ = some (.int .i64 d) ∧ W'.cell? ⟨w.heap.size, 1, none⟩ = some (.int .i64 t) ∧ W'.cell? ⟨w.heap.size, 2, none⟩ = some (.int .i64 p) ∧ W'.cell? ⟨w.heap.size, 3, none⟩ = some (.slice A n c) ∧ W'.cell? ⟨w.heap.size, 4, none⟩ = some (.int .i64 k) ∧ Below (w.heap.size + 1) W W'))
  have KI := hide (fun W' (h : W'.cell? ⟨w.heap.size, 0, none⟩ = some (.int .i64 d) ∧ W'.cell? ⟨w.heap.size, 1, none⟩ = some (.int .i64 t) ∧ W'.cell? ⟨w.heap.size, 2, none⟩ = some (.int .i64 p) ∧ W'.cell? ⟨w.heap.size, 3, none⟩ = some (.slice A n c) ∧ W'.cell? ⟨w.heap.size, 4, none⟩ = some (.int .i64 k) ∧ Below (w.heap.size + 1) W W') => HI.out.below (hB.trans (h.2.2.2.2.2.mono (by omega))))
  have KJ := hide (fun W' (h : W'.cell? ⟨w.heap.size, 0, none⟩ = some (.int .i64 d) ∧ W'.cell? ⟨w.heap.size, 1, none⟩ = some (.int .i64 t) ∧ W'.cell? ⟨w.heap.size, 2, none⟩ = some (.int .i64 p) ∧ W'.cell? ⟨w.heap.size, 3, none⟩ = some (.slice A n c) ∧ W'.cell? ⟨w.heap.size, 4, none⟩ = some (.int .i64 k) ∧ Below (w.heap.size + 1) W W') => HJ.out.below (hB.trans (h.2.2.2.2.2.mono (by omega))))
  have b0 : Below (w.heap.size + 1) W W := Below.refl _ _
  have HBB := hide hB
  clear x0 x1 x2 x3 x4 hB
  go_region_held3 (fun w' => w'.cell? ⟨w.heap.size, 0, none⟩ = some (.int .i64 d) ∧ w'.cell? ⟨w.heap.size, 1, none⟩ = some (.int .i64 t) ∧ w'.cell? ⟨w.heap.size, 2, none⟩ = some (.int .i64 p) ∧ w'.cell? ⟨w.heap.size, 3, none⟩ = some (.slice A n c) ∧ w'.cell? ⟨w.heap.size, 4, none⟩ = some (.int .i64 k) ∧ Below (w.heap.size + 1) W w')
      (first | assumption | exact SOF.out _ (by assumption) | exact SOF.out _ b0.drew | exact SOF.out _ (balloc' (by assumption) hz _))
      (first
        | (go_at_call 42; refine (chainError_any d t p k A n c F _ hn (KI.out _ (by assumption))).mono ?_; rintro e w2 ⟨rfl, hb2⟩; have hs2 : Below (w.heap.size + 1) W w2 := bstep5 hb2 (by assumption) hz)
        | (go_at_call 43; refine (bitsError_any C m e B _ (by omega) (KJ.out _ (by assumption))).mono ?_; rintro e w3 ⟨rfl, hb3⟩; have hs3 : Below (w.heap.size + 1) W w3 := bstep5 hb3 (by assumption) hz)
        | (go_at_call 38; refine (unless_any _ _ _).mono ?_; rintro e w4 ⟨rfl, rfl⟩)
        | (go_at_call 44; refine (versionError_any _ _).mono ?_; rintro e w5 ⟨rfl, rfl⟩)
        | (go_at_call 36; refine (firstError_laid [chainErrI d t p n F k, firstE [firstE [unI (decide (0 < m)) 10, unI (decide (m ≤ 200)) 8], unI (bitsB m B) 15], unI _ 10, unI (withinB v 0 3) 15] 4 _ _ rfl (by decide)).mono ?_; rintro e w6 ⟨rfl, rfl⟩))
  rw [HFE.out]
  generalize hV : World.alloc w3 _ = w6
  have hs6 : Below (w.heap.size + 1) W w6 := by rw [← hV]; exact hs3.alloc (Nat.le_trans hz hs3.size) _
  clear hV
  by_cases hz9 : sentErrI d t p n F k m B v = 0
  · have HZ := hide hz9
    rw [hz9]
    obtain ⟨g1, h⟩ := firstE_zero_cons hz9
    obtain ⟨g2, h⟩ := firstE_zero_cons h
    obtain ⟨g3, h⟩ := firstE_zero_cons h
    obtain ⟨g4, -⟩ := firstE_zero_cons h
    have g3 := of_decide_eq_true (unI_zero (by decide) g3)
    have g4 := withinB_of (unI_zero (by decide) g4)
    obtain ⟨m0, m2, hbits⟩ := bitsErrR_zero g2
    obtain ⟨x, y, q, j, ok⟩ := chainErr_zero g1
    obtain ⟨rfl, rfl, rfl, rfl, d0, d1, t1, -, hpol, q6, hless, k1, k4⟩ := ok
    obtain ⟨v, rfl⟩ := Int.eq_ofNat_of_zero_le g4.1
    have hmn : m + x = n := by omega
    have HB := hide hbits
    have HP := hide hpol
    clear hbits hpol g1 g2 g3 hz9 h
    obtain rfl : n = m + x := by omega
    obtain ⟨z0, z1, z2, z3, z4, z5⟩ := SOF.out _ hs6
    go_wp2_with fail
    go_region_held3 (fun w' => w'.cell? ⟨w.heap.size, 0, none⟩ = some (.int .i64 (x : Int)) ∧ w'.cell? ⟨w.heap.size, 1, none⟩ = some (.int .i64 (y : Int)) ∧ w'.cell? ⟨w.heap.size, 2, none⟩ = some (.int .i64 (q : Int)) ∧ w'.cell? ⟨w.heap.size, 3, none⟩ = some (.slice A (m + x) c) ∧ w'.cell? ⟨w.heap.size, 4, none⟩ = some (.int .i64 (j : Int)) ∧ Below (w.heap.size + 1) W w')
      (first | assumption | exact SOF.out _ (by assumption) | exact SOF.out _ hs6.drew | exact SOF.out _ (below_drewN (by assumption) _) | exact SOF.out _ (balloc' (by assumption) hz _))
      (first
        | (go_at_call 46; refine (checked_any x y C m e B _ d0 d1 t1 (by omega) (KJ.out _ (by assumption)) HB.out).mono ?_; rintro e w7 ⟨v7, rfl, A7, c7, rfl, hc7, hI7, hb7⟩; have hs7 : Below (w.heap.size + 1) W w7 := bstep5 hb7 (by assumption) hz)
        | (go_at_call 45; refine (encoded_any q A A7 (m + x) c c7 F (catF m B (remB x y m B)) _ HP.out hn (KI.out _ (by assumption)) (hI7.weak (Nat.zero_le _)) (catF_bits HB.out (remB_bit x y m B))).mono ?_; rintro e w8 ⟨v8, rfl, A8, c8, rfl, hc8, hI8, hb8⟩; have hs8 : Below (w.heap.size + 1) W w8 := bstep5 hb8 (by assumption) hz))
    obtain ⟨-, -, -, -, y4, -⟩ := SOF.out _ hs8
    have hq64 : 2 ^ q ≤ 2 ^ 6 := Nat.pow_le_pow_right (by decide) q6
    have hB8 : Below w.heap.size w w8 := HBB.out.trans (hs8.mono (by omega))
    go_wp2_with fail
    refine (matched_any A8 (2 ^ q) c8 v j _ _ (hI8.weak (Nat.zero_le _)) (by omega) (Nat.two_pow_pos q) (by omega) (by omega)).mono ?_
    rintro e w9 ⟨v9, rfl, A9, c9, rfl, hc9, hI9, hb9⟩
    go_wp2_with fail
    go_ret2
    exact .inr ⟨HZ.out, _, rfl, A9, c9, rfl, hc9, hI9.weak hB8.size, hB8.trans (hb9.mono hB8.size)⟩
  · have ht : (sentErrI d t p n F k m B v != 0) = true := by simpa using hz9
    have HZ := hide hz9
    clear hz9
    go_wp2_with fail
    go_ret2
    exact .inl ⟨HZ.out, rfl, HBB.out.trans (hs6.mono (by omega))⟩
/-- What a chain finds, and whether that is right. -/
def recF (p n : Nat) (F S : Nat → Int) (k : Nat) : Int := cancelF p (fun x => isPos F x n) S (F k).toNat
def recRight (d t p n : Nat) (F S : Nat → Int) : Bool := intsB d (remB d t (n - d) (recF p n F S)) d (fun j => recF p n F S (n - d + j))
theorem recF_bit (p n : Nat) (F S : Nat → Int) (k : Nat) : IsBit (recF p n F S k) := cancelF_bit _ _ _ _
def recPre (d t p : Int) (n : Nat) (F : Nat → Int) (k : Int) (m : Nat) (S : Nat → Int) : Int := firstE [chainErrI d t p n F k, sizedErrI m 200 S 1000000000]
def recErrI (d t p : Int) (n : Nat) (F : Nat → Int) (k : Int) (m : Nat) (S : Nat → Int) : Int :=
  if recPre d t p n F k m S = 0 then (if m = 2 ^ p.toNat then (if recRight d.toNat t.toNat p.toNat n F S = true then 0 else 21) else 10) else recPre d t p n F k m S
/-- As GaveOr, with a bound on the room. -/
def GaveOrCap (err : Int) (n : Nat) (F : Nat → Int) (w : World) (e : Ending) (w' : World) : Prop :=
  (err ≠ 0 ∧ e = .returned (.tuple #[.slice none 0 0, .int .i64 err]) ∧ Below w.heap.size w w') ∨ (err = 0 ∧ ∃ v, e = .returned (.tuple #[v, .int .i64 0]) ∧ (∃ A c, v = .slice A n c ∧ c ≤ 9223372036854775807) ∧ GaveInts w n F v w')
set_option maxHeartbeats 4000000 in
theorem Recovered_cap (d t p k : Int) (A C : Option Addr) (n c m e : Nat) (F S : Nat → Int) (w : World) (hn : n ≤ 1000) (hm : m ≤ 1000) (hme : m ≤ e) (he : e ≤ 9223372036854775807) (hI : IntsAt w 0 A n F) (hJ : IntsAt w 0 C m S) :
    Calls Try.prog 21 #[.agg #[.int .i64 d, .int .i64 t, .int .i64 p, .slice A n c, .int .i64 k], .slice C m e] w (GaveOrCap (recErrI d t p n F k m S) (n - d.toNat) (recF p.toNat n F S) w) := by
  have HI := hide hI
  have HJ := hide hJ
  clear hI hJ
  go_enter Try.func21, Try.ntmps21
  go_wp2_with fail
  refine (chainError_any d t p k A n c F _ hn (HI.out.alloc _)).mono ?_
  rintro r w1 ⟨rfl, hb1⟩
  have h1 := below_of_alloc hb1
  go_wp2_with fail
  refine (sumsErr_any C m e S _ (by omega) (HJ.out.below h1)).mono ?_
  rintro r w2 ⟨rfl, hb2⟩
  go_wp2_with fail
  refine (firstError_laid [chainErrI d t p n F k, sizedErrI m 200 S 1000000000] 2 _ _ rfl (by decide)).mono ?_
  rintro r w3 ⟨rfl, hw3⟩
  rw [show firstE [chainErrI d t p n F k, sizedErrI m 200 S 1000000000] = recPre d t p n F k m S from rfl]
  have bx : Box w3 w.heap.size 28 #[.int .i64 d, .int .i64 t, .int .i64 p, .slice A n c, .int .i64 k] := by rw [← hw3]; exact (((Box.made rfl).below hb1).below hb2).alloc _
  have hB3 : Below w.heap.size w w3 := by
    rw [← hw3]
    exact (h1.trans (hb2.mono h1.size)).alloc (Nat.le_trans h1.size hb2.size) _
  clear hw3 hb1 hb2 h1
  by_cases hz9 : recPre d t p n F k m S = 0
  · obtain ⟨g1, h⟩ := firstE_zero_cons hz9
    obtain ⟨g2, -⟩ := firstE_zero_cons h
    obtain ⟨m0, m2, hS9⟩ := sizedErr_zero g2
    obtain ⟨x, y, q, j, ok⟩ := chainErr_zero g1
    obtain ⟨rfl, rfl, rfl, rfl, d0, d1, t1, -, hpol, q6, hless, k1, k4⟩ := ok
    obtain ⟨N, hN⟩ : ∃ N, N = 2 ^ q := ⟨_, rfl⟩
    have EQ : recErrI (x : Int) y q n F j m S = if m = N then (if recRight x y q n F S = true then 0 else 21) else 10 := by
      unfold recErrI
      rw [if_pos hz9, hN]
      rfl
    rw [hz9]
    have eN : (2 : Int) ^ q = (N : Int) := by rw [hN]; simp
    have hN1 : 1 ≤ N := by rw [hN]; exact Nat.two_pow_pos q
    have hN9 : N ≤ 64 := by rw [hN]; exact Nat.pow_le_pow_right (by decide) q6
    have HP := hide hpol
    have HN := hide hN
    have HS9 := hide hS9
    have hMM : (1000000000 : Int) * 2 ^ q ≤ 1000000000000 := by rw [eN]; omega
    clear hpol g1 g2 hz9 h hN hS9
    have x0 := bx.at_ 0
    have x1 := bx.at_ 1
    have x2 := bx.at_ 2
    have x3 := bx.at_ 3
    simp only [List.getElem?_toArray] at x0 x1 x2 x3
    have hl3 := bx.lt
    by_cases hmN : m = N
    · subst hmN
      rw [if_pos rfl] at EQ
      have tN : ((m : Int) != (m : Int)) = false := by simp
      have HQ := hide EQ
      have HMM := hide hMM
      clear EQ hMM
      go_wp2_with fail
      refine (decoded_own q A C n c m e F S _ HP.out hn HN.out (HI.out.below hB3) (HJ.out.below hB3) hme he 1000000000 HMM.out HS9.out).mono ?_
      rintro r w4 ⟨g, rfl, hI4, hb4⟩
      have bx4 := bx.below hb4
      have hB4 := hB3.trans (hb4.mono hB3.size)
      clear x0 x1 x2 x3 hl3 bx
      have x0 := bx4.at_ 0
      have x1 := bx4.at_ 1
      simp only [List.getElem?_toArray] at x0 x1
      have hl4 := bx4.lt
      have hI4' : IntsAt w4 w3.heap.size (some ⟨g, 0, none⟩) n (recF q n F S) := hI4
      clear hI4
      go_wp2_with fail
      refine (isRight_any x y g 0 n n (recF q n F S) _ d0 d1 t1 hless (by omega) (Nat.le_refl _) (by omega) (hI4'.weak (Nat.zero_le _)) (fun k _ => recF_bit _ _ _ _ k)).mono ?_
      rintro r w5 ⟨rfl, hb5⟩
      rw [show intsB x (remB x y (n - x) (recF q n F S)) x (fun j => recF q n F S (n - x + j)) = recRight x y q n F S from rfl]
      have bx5 := bx4.below hb5
      have hB5 := hB4.trans (hb5.mono hB4.size)
      have hI5 := hI4'.below hb5
      clear x0 x1 hl4 bx4
      have x0 := bx5.at_ 0
      simp only [List.getElem?_toArray] at x0
      have hl5 := bx5.lt
      cases hrr : recRight x y q n F S
      · have HE := hide (show recErrI (x : Int) y q n F j m S = 21 from by rw [HQ.out, hrr]; rfl)
        go_wp2_with fail
        go_ret2
        exact .inl ⟨by rw [HE.out]; decide, by rw [HE.out]; rfl, hB5⟩
      · have HE := hide (show recErrI (x : Int) y q n F j m S = 0 from by rw [HQ.out, hrr]; rfl)
        obtain ⟨z, hzz⟩ : ∃ z : Nat, z = n - x := ⟨_, rfl⟩
        have q1 : IntKind.i64.wrap ((n : Int) - (x : Int)) = (z : Int) := by rw [IntWalk.i64_in _ (by omega)]; omega
        have hzn : z ≤ n := by omega
        have hznz : (z : Int) ≤ (n : Int) := by omega
        have HZZ := hide hzz
        clear hzz
        go_wp2_with fail
        go_ret2
        exact .inr ⟨HE.out, .slice (some ⟨g, 0, none⟩) z n, rfl, ⟨some ⟨g, 0, none⟩, n, by (show Value.slice _ z n = Value.slice _ (n - x) n); rw [HZZ.out], by omega⟩, some ⟨g, 0, none⟩, n, by (show Value.slice _ z n = Value.slice _ (n - x) n); rw [HZZ.out], by (show n - x ≤ n); omega, ((hI5.fewer (m := n - x) (by omega)).weak hB3.size), hB5⟩
    · rw [if_neg hmN] at EQ
      have tN : ((m : Int) != (N : Int)) = true := by simp; omega
      have HQ := hide EQ
      clear EQ hmN
      go_wp2_with fail
      go_ret2
      exact .inl ⟨by rw [HQ.out]; decide, by rw [HQ.out]; rfl, hB3⟩
  · have ht : (recPre d t p n F k m S != 0) = true := by simpa using hz9
    have EQ := hide (show recErrI d t p n F k m S = recPre d t p n F k m S from if_neg hz9)
    have HZ := hide hz9
    clear hz9
    go_wp2_with fail
    go_ret2
    exact .inl ⟨by rw [EQ.out]; exact HZ.out, by rw [EQ.out]; rfl, hB3⟩
theorem Recovered_any (d t p k : Int) (A C : Option Addr) (n c m e : Nat) (F S : Nat → Int) (w : World) (hn : n ≤ 1000) (hm : m ≤ 1000) (hme : m ≤ e) (he : e ≤ 9223372036854775807) (hI : IntsAt w 0 A n F) (hJ : IntsAt w 0 C m S) :
    Calls Try.prog 21 #[.agg #[.int .i64 d, .int .i64 t, .int .i64 p, .slice A n c, .int .i64 k], .slice C m e] w (GaveOr (recErrI d t p n F k m S) (n - d.toNat) (recF p.toNat n F S) w) :=
  (Recovered_cap d t p k A C n c m e F S w hn hm hme he hI hJ).mono fun _ _ h => h.elim .inl fun ⟨h0, v, h1, _, h2⟩ => .inr ⟨h0, v, h1, h2⟩
end Go.Proofs.Ytnglmfdcnoglhaa
