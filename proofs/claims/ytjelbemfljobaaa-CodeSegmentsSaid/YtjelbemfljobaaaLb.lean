/- chainError. -/
import Derived.Test.YtjelbemfljobaaaLa
import Derived.Test.YtjelbemfljobaaaJb
namespace Go.Proofs.Ytjelbemfljobaaa
open Go.RowKit
/-- The error of a chain. -/
def chainErrI (d t p : Int) (n : Nat) (F : Nat → Int) (k : Int) : Int := firstE [polyErrI d t, polarErrI p n F, unI (decide (d < (n : Int))) 10, unI (withinB k 1 400) 2]
theorem firstE_zero_cons {e : Int} {r : List Int} (h : firstE (e :: r) = 0) : e = 0 ∧ firstE r = 0 := by
  rw [firstE_cons] at h
  by_cases h1 : e = 0
  · rw [if_pos h1] at h; exact ⟨h1, h⟩
  · rw [if_neg h1] at h; exact absurd h h1
theorem unI_zero {b : Bool} {e : Int} (he : e ≠ 0) (h : unI b e = 0) : b = true := by
  cases b
  · exact absurd h he
  · rfl
theorem withinB_of {n lo hi : Int} (h : withinB n lo hi = true) : lo ≤ n ∧ n ≤ hi := by
  refine Classical.byContradiction fun hh => ?_
  rw [withinB_no hh] at h
  cases h
/-- A chain that is right. -/
structure ChainOk (d t p : Int) (n : Nat) (F : Nat → Int) (k : Int) (x y q j : Nat) : Prop where
  ed : d = x
  et : t = y
  ep : p = q
  ek : k = j
  d0 : 1 ≤ x
  d1 : x ≤ 16
  t1 : y < 2 ^ x
  odd : y % 2 = 1
  polar : PolarOk q n F
  q6 : q ≤ 6
  less : x < n
  k1 : 1 ≤ j
  k4 : j ≤ 400
theorem chainErr_zero {d t p : Int} {n : Nat} {F : Nat → Int} {k : Int} (h : chainErrI d t p n F k = 0) : ∃ x y q j, ChainOk d t p n F k x y q j := by
  obtain ⟨h1, h⟩ := firstE_zero_cons h
  obtain ⟨h2, h⟩ := firstE_zero_cons h
  obtain ⟨h3, h⟩ := firstE_zero_cons h
  obtain ⟨h4, -⟩ := firstE_zero_cons h
  have h3 := of_decide_eq_true (unI_zero (by decide) h3)
  have h4 := withinB_of (unI_zero (by decide) h4)
  obtain ⟨g1, g2, g3, g4, g5⟩ := poly_of h1
  obtain ⟨p1, p2, p3⟩ := polarOk_of h2
  obtain ⟨x, rfl⟩ := Int.eq_ofNat_of_zero_le (show 0 ≤ d by omega)
  obtain ⟨y, rfl⟩ := Int.eq_ofNat_of_zero_le (show 0 ≤ t by omega)
  obtain ⟨q, rfl⟩ := Int.eq_ofNat_of_zero_le p1
  obtain ⟨j, rfl⟩ := Int.eq_ofNat_of_zero_le (show 0 ≤ k by omega)
  rw [Int.toNat_natCast] at g4 p3
  have : ((2 ^ x : Nat) : Int) = (2 : Int) ^ x := by simp
  exact ⟨x, y, q, j, rfl, rfl, rfl, rfl, by omega, by omega, by omega, by omega, p3, by omega, by omega, by omega, by omega⟩
theorem bstep5 {B : Nat} {w1 W w2 : World} {p q r s t : Prop} (hb : Below W.heap.size W w2) (h : p ∧ q ∧ r ∧ s ∧ t ∧ Below B w1 W) (hB : B ≤ w1.heap.size) : Below B w1 w2 := h.2.2.2.2.2.trans (hb.mono (Nat.le_trans hB h.2.2.2.2.2.size))
set_option maxHeartbeats 2000000 in
theorem chainError_any (d t p k : Int) (A : Option Addr) (n c : Nat) (F : Nat → Int) (w : World) (hn : n ≤ 1000) (hI : IntsAt w 0 A n F) :
    Calls Try.prog 57 #[.agg #[.int .i64 d, .int .i64 t, .int .i64 p, .slice A n c, .int .i64 k]] w fun e w' => e = .returned (.int .i64 (chainErrI d t p n F k)) ∧ Below w.heap.size w w' := by
  have HI := hide hI
  clear hI
  go_enter Try.func57, Try.ntmps57
  go_wp2_with fail
  generalize hW : World.alloc w _ = W
  have bx : Box W w.heap.size 28 #[.int .i64 d, .int .i64 t, .int .i64 p, .slice A n c, .int .i64 k] := by rw [← hW]; exact Box.made rfl
  have hB : Below w.heap.size w W := by rw [← hW]; exact (Below.refl _ _).alloc (Nat.le_refl _) _
  clear hW
  have x0 : W.cell? ⟨w.heap.size, 0, none⟩ = some (.int .i64 d) := bx.at_ 0
  have x1 : W.cell? ⟨w.heap.size, 1, none⟩ = some (.int .i64 t) := bx.at_ 1
  have x2 : W.cell? ⟨w.heap.size, 2, none⟩ = some (.int .i64 p) := bx.at_ 2
  have x3 : W.cell? ⟨w.heap.size, 3, none⟩ = some (.slice A n c) := bx.at_ 3
  have x4 : W.cell? ⟨w.heap.size, 4, none⟩ = some (.int .i64 k) := bx.at_ 4
  have hz : w.heap.size + 1 ≤ W.heap.size := bx.lt
  have SOF := hide (fun W' (h : Below (w.heap.size + 1) W W') => (⟨(h.cell (p := ⟨w.heap.size, 0, none⟩) (by simp)).trans x0, (h.cell (p := ⟨w.heap.size, 1, none⟩) (by simp)).trans x1, (h.cell (p := ⟨w.heap.size, 2, none⟩) (by simp)).trans x2, (h.cell (p := ⟨w.heap.size, 3, none⟩) (by simp)).trans x3, (h.cell (p := ⟨w.heap.size, 4, none⟩) (by simp)).trans x4, h⟩ :
     W'.cell? ⟨w.heap.size, 0, none⟩ = some (.int .i64 d) ∧ W'.cell? ⟨w.heap.size, 1, none⟩ = some (.int .i64 t) ∧ W'.cell? ⟨w.heap.size, 2, none⟩ = some (.int .i64 p) ∧ W'.cell? ⟨w.heap.size, 3, none⟩ = some (.slice A n c) ∧ W'.cell? ⟨w.heap.size, 4, none⟩ = some (.int .i64 k) ∧ Below (w.heap.size + 1) W W'))
  have KI := hide (fun W' (h : W'.cell? ⟨w.heap.size, 0, none⟩ = some (.int .i64 d) ∧ W'.cell? ⟨w.heap.size, 1, none⟩ = some (.int .i64 t) ∧ W'.cell? ⟨w.heap.size, 2, none⟩ = some (.int .i64 p) ∧ W'.cell? ⟨w.heap.size, 3, none⟩ = some (.slice A n c) ∧ W'.cell? ⟨w.heap.size, 4, none⟩ = some (.int .i64 k) ∧ Below (w.heap.size + 1) W W') => HI.out.below (hB.trans (h.2.2.2.2.2.mono (by omega))))
  have b0 : Below (w.heap.size + 1) W W := Below.refl _ _
  have HBB := hide hB
  clear x0 x1 x2 x3 x4 hB
  go_region_held3 (fun w' => w'.cell? ⟨w.heap.size, 0, none⟩ = some (.int .i64 d) ∧ w'.cell? ⟨w.heap.size, 1, none⟩ = some (.int .i64 t) ∧ w'.cell? ⟨w.heap.size, 2, none⟩ = some (.int .i64 p) ∧ w'.cell? ⟨w.heap.size, 3, none⟩ = some (.slice A n c) ∧ w'.cell? ⟨w.heap.size, 4, none⟩ = some (.int .i64 k) ∧ Below (w.heap.size + 1) W w')
      (first | assumption | exact SOF.out _ (by assumption) | exact SOF.out _ b0.drew | exact SOF.out _ (balloc' (by assumption) hz _))
      (first
        | (go_at_call 97; refine (checkPoly_any d t _).mono ?_; rintro e w2 ⟨rfl, hb2⟩; have hs2 : Below (w.heap.size + 1) W w2 := bstep5 hb2 (by assumption) hz)
        | (go_at_call 99; refine (checkPolar_any p A n c F _ hn (KI.out _ (by assumption))).mono ?_; rintro e w3 ⟨rfl, hb3⟩; have hs3 : Below (w.heap.size + 1) W w3 := bstep5 hb3 (by assumption) hz)
        | (go_at_call 59; refine (unless_any _ _ _).mono ?_; rintro e w4 ⟨rfl, rfl⟩)
        | (go_at_call 100; refine (countError_any _ _).mono ?_; rintro e w5 ⟨rfl, rfl⟩)
        | (go_at_call 56; refine (firstError_laid [polyErrI d t, polarErrI p n F, unI (decide (d < (n : Int))) 10, unI (withinB k 1 400) 2] 4 _ _ rfl (by decide)).mono ?_; rintro e w6 ⟨rfl, rfl⟩))
  go_wp2_with fail
  go_ret
  have hB3 := HBB.out.trans (hs3.mono (by omega))
  exact ⟨rfl, hB3.alloc hB3.size _⟩
end Go.Proofs.Ytjelbemfljobaaa
