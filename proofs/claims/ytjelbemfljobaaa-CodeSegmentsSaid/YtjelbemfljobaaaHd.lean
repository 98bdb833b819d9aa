/- checked, isRight; Remainder, Checked and IsRight with their errors. -/
import Derived.Test.YtjelbemfljobaaaHa
import Derived.Test.YtjelbemfljobaaaHb
import Derived.Test.YtjelbemfljobaaaFb
import Derived.Test.YtjelbemfljobaaaFa
import Derived.Test.YtjelbemfljobaaaEk
import Derived.Test.YtjelbemfljobaaaEg
namespace Go.Proofs.Ytjelbemfljobaaa
open Go.RowKit
set_option maxHeartbeats 1000000 in
theorem checked_any (d t : Nat) (A : Option Addr) (n c : Nat) (F : Nat → Int) (w : World) (h0 : 1 ≤ d) (h1 : d ≤ 16) (t1 : t < 2 ^ d) (hn : n ≤ 100000) (hI : IntsAt w 0 A n F) (hb : ∀ k, k < n → IsBit (F k)) :
    Calls Try.prog 62 #[.agg #[.int .i64 (d : Int), .int .i64 (t : Int)], .slice A n c] w fun e w' => ∃ v, e = .returned v ∧ GaveInts w (n + d) (catF n F (remB d t n F)) v w' := by
  have HI := hide hI
  have HB := hide hb
  clear hI hb
  go_enter Try.func62, Try.ntmps62
  go_wp2_with fail
  refine (remainder_any d t A n c F _ h0 h1 t1 hn (HI.out.alloc _) HB.out).mono ?_
  rintro e w1 ⟨v, rfl, A1, c1, rfl, hc1, hI1, hb1⟩
  have hB1 := below_of_alloc hb1
  have hI0 := HI.out.below hB1
  have hs1 := hB1.size
  go_wp2_with fail
  refine (concat_any w1.heap.size 24 A A1 n d c c1 2 F (remB d t n F) _ (by omega) (by omega) (Box.made rfl) (hI0.alloc _) ((hI1.weak (Nat.zero_le _)).alloc _)).mono ?_
  rintro e w2 ⟨v, rfl, A2, c2, rfl, hc2, hI2, hb2⟩
  have hB2 := hB1.trans ((below_of_alloc hb2).mono hs1)
  go_wp2_with fail
  go_ret
  exact ⟨_, rfl, A2, c2, rfl, hc2, hI2.weak (by simp; omega), hB2⟩
set_option maxHeartbeats 1000000 in
theorem isRight_any (d t : Nat) (b o n c : Nat) (F : Nat → Int) (w : World) (h0 : 1 ≤ d) (h1 : d ≤ 16) (t1 : t < 2 ^ d) (hdn : d < n) (hn : n ≤ 100000) (hnc : n ≤ c) (hc : c ≤ 9223372036854775807) (hI : IntsAt w 0 (some ⟨b, o, none⟩) n F) (hb : ∀ k, k < n → IsBit (F k)) :
    Calls Try.prog 74 #[.agg #[.int .i64 (d : Int), .int .i64 (t : Int)], .slice (some ⟨b, o, none⟩) n c] w fun e w' => e = .returned (.bool (intsB d (remB d t (n - d) F) d (fun j => F (n - d + j)))) ∧ Below w.heap.size w w' := by
  obtain ⟨m, hm⟩ : ∃ m : Nat, m = n - d := ⟨_, rfl⟩
  rw [← hm]
  have q1 : IntKind.i64.wrap ((n : Int) - (d : Int)) = (m : Int) := by rw [IntWalk.i64_in _ (by omega)]; omega
  have hmn : m ≤ n := by omega
  have hmnz : (m : Int) ≤ (n : Int) := by omega
  have hmcz : (m : Int) ≤ (c : Int) := by omega
  have hd : n - m = d := by omega
  have HI := hide hI
  have HB := hide hb
  have HM := hide hm
  clear hI hb hm
  go_enter Try.func74, Try.ntmps74
  go_wp2_with fail
  generalize hW : World.alloc w _ = W
  have bx : Box W w.heap.size 23 #[.int .i64 (d : Int), .int .i64 (t : Int)] := by rw [← hW]; exact Box.made rfl
  have hB : Below w.heap.size w W := by rw [← hW]; exact (Below.refl _ _).alloc (Nat.le_refl _) _
  clear hW
  have x0 : W.cell? ⟨w.heap.size, 0, none⟩ = some (.int .i64 (d : Int)) := bx.at_ 0
  have x1 : W.cell? ⟨w.heap.size, 1, none⟩ = some (.int .i64 (t : Int)) := bx.at_ 1
  have hz : w.heap.size + 1 ≤ W.heap.size := bx.lt
  have SOF := hide (fun W' (h : Below (w.heap.size + 1) W W') => (⟨(h.cell (p := ⟨w.heap.size, 0, none⟩) (by simp)).trans x0, (h.cell (p := ⟨w.heap.size, 1, none⟩) (by simp)).trans x1, h⟩ :
     W'.cell? ⟨w.heap.size, 0, none⟩ = some (.int .i64 (d : Int)) ∧ W'.cell? ⟨w.heap.size, 1, none⟩ = some (.int .i64 (t : Int)) ∧ Below (w.heap.size + 1) W W'))
  have KI := hide (fun W' (h : W'.cell? ⟨w.heap.size, 0, none⟩ = some (.int .i64 (d : Int)) ∧ W'.cell? ⟨w.heap.size, 1, none⟩ = some (.int .i64 (t : Int)) ∧ Below (w.heap.size + 1) W W') => HI.out.below (hB.trans (h.2.2.mono (by omega))))
  have b0 : Below (w.heap.size + 1) W W := Below.refl _ _
  have HBB := hide hB
  clear x0 x1 hB
  go_region_held3 (fun w' => w'.cell? ⟨w.heap.size, 0, none⟩ = some (.int .i64 (d : Int)) ∧ w'.cell? ⟨w.heap.size, 1, none⟩ = some (.int .i64 (t : Int)) ∧ Below (w.heap.size + 1) W w')
      (first | assumption | exact SOF.out _ (by assumption) | exact SOF.out _ b0.drew | exact SOF.out _ (below_drewN (by assumption) _) | exact SOF.out _ (balloc' (by assumption) hz _))
      (first
        | (go_at_call 98; refine (remainder_any d t (some ⟨b, o, none⟩) m c F _ h0 h1 t1 (by omega) ((KI.out _ (by assumption)).fewer hmn) (fun k hk => HB.out k (by omega))).mono ?_; rintro e w2 ⟨v2, rfl, A2, c2, rfl, hc2, hI2, hb2⟩; have hs2 : Below (w.heap.size + 1) W w2 := bstep2 hb2 (by assumption) hz)
        | (go_at_call 111; refine (equal_any A2 (some ⟨b, o + m, none⟩) d d c2 (c - m) (remB d t m F) (fun k => F (m + k)) _ (by omega) (by omega) (hI2.weak (Nat.zero_le _)) ((KI.out _ (by assumption)).cut (by omega))).mono ?_; rintro e w3 ⟨rfl, q3, rfl⟩))
  go_wp2_with fail
  go_ret
  exact ⟨rfl, below_drewN (HBB.out.trans (hs2.mono (by omega))) _⟩
def bitsErrC (n : Nat) (F : Nat → Int) : Int := firstE [firstE [unI (decide (0 < n)) 10, unI (decide (n ≤ 200)) 8], unI (bitsB n F) 15]
theorem bitsErrC_eq (n : Nat) (F : Nat → Int) : bitsErrC n F = bitsErrR n F := by
  unfold bitsErrC bitsErrR
  by_cases h1 : n = 0
  · subst h1; rfl
  · rw [if_neg h1, decide_eq_true (show 0 < n by omega)]
    by_cases h2 : 200 < n
    · rw [if_pos h2, decide_eq_false (show ¬ n ≤ 200 by omega)]; rfl
    · rw [if_neg h2, decide_eq_true (show n ≤ 200 by omega)]
      cases bitsB n F <;> rfl
/-- The first error of a polynomial and of bits. -/
def polyBitsErr (d t : Int) (n : Nat) (F : Nat → Int) : Int := if polyErrI d t = 0 then bitsErrR n F else polyErrI d t
theorem polyBitsErr_first (d t : Int) (n : Nat) (F : Nat → Int) : firstE [polyErrI d t, bitsErrR n F] = polyBitsErr d t n F := by
  unfold polyBitsErr
  rw [firstE_cons, firstE_cons, firstE_nil]
  split
  · split
    · rename_i h; exact h.symm
    · rfl
  · rfl
theorem poly_of {d t : Int} (h : polyErrI d t = 0) : 1 ≤ d ∧ d ≤ 16 ∧ 1 ≤ t ∧ t ≤ 2 ^ d.toNat - 1 ∧ t % 2 = 1 := by
  unfold polyErrI at h
  by_cases h1 : 1 ≤ d ∧ d ≤ 16
  · rw [if_pos h1] at h
    by_cases h2 : 1 ≤ t ∧ t ≤ 2 ^ d.toNat - 1
    · rw [if_pos h2] at h
      by_cases h3 : t % 2 = 0
      · rw [if_pos h3] at h; exact absurd h (by decide)
      · exact ⟨h1.1, h1.2, h2.1, h2.2, by omega⟩
    · rw [if_neg h2] at h; exact absurd h (by decide)
  · rw [if_neg h1] at h; exact absurd h (by decide)
theorem polyBitsErr_zero {d t : Int} {n : Nat} {F : Nat → Int} (h : polyBitsErr d t n F = 0) : ∃ x y : Nat, d = x ∧ t = y ∧ 1 ≤ x ∧ x ≤ 16 ∧ y < 2 ^ x ∧ y % 2 = 1 ∧ 0 < n ∧ n ≤ 200 ∧ ∀ k, k < n → IsBit (F k) := by
  unfold polyBitsErr at h
  by_cases hp : polyErrI d t = 0
  · rw [if_pos hp] at h
    obtain ⟨h1, h2, h3, h4, h5⟩ := poly_of hp
    obtain ⟨x, rfl⟩ := Int.eq_ofNat_of_zero_le (show 0 ≤ d by omega)
    obtain ⟨y, rfl⟩ := Int.eq_ofNat_of_zero_le (show 0 ≤ t by omega)
    rw [Int.toNat_natCast] at h4
    have : ((2 ^ x : Nat) : Int) = (2 : Int) ^ x := by simp
    obtain ⟨g1, g2, g3⟩ := bitsErrR_zero h
    exact ⟨x, y, rfl, rfl, by omega, by omega, by omega, by omega, g1, g2, g3⟩
  · rw [if_neg hp] at h; exact absurd h hp
/-- What Remainder and Checked give: bits, or nothing and an error. -/
def GaveOr (err : Int) (n : Nat) (F : Nat → Int) (w : World) (e : Ending) (w' : World) : Prop :=
  (err ≠ 0 ∧ e = .returned (.tuple #[.slice none 0 0, .int .i64 err]) ∧ Below w.heap.size w w') ∨ (err = 0 ∧ ∃ v, e = .returned (.tuple #[v, .int .i64 0]) ∧ GaveInts w n F v w')
set_option maxHeartbeats 1000000 in
theorem Remainder_any (d t : Int) (A : Option Addr) (n c : Nat) (F : Nat → Int) (w : World) (hn : n ≤ 100000) (hI : IntsAt w 0 A n F) :
    Calls Try.prog 50 #[.agg #[.int .i64 d, .int .i64 t], .slice A n c] w (GaveOr (polyBitsErr d t n F) d.toNat (remB d.toNat t.toNat n F) w) := by
  have HI := hide hI
  clear hI
  go_enter Try.func50, Try.ntmps50
  go_wp2_with fail
  refine (checkPoly_any _ _ _).mono ?_
  rintro e w1 ⟨rfl, hb1⟩
  have hs1 := hb1.size
  have hI1 := HI.out.below (below_of_alloc hb1)
  go_wp2_with fail
  refine (bitsError_any A n c F _ (by omega) hI1).mono ?_
  rintro e w2 ⟨rfl, hb2⟩
  rw [show firstE [firstE [unI (decide (0 < n)) 10, unI (decide (n ≤ 200)) 8], unI (bitsB n F) 15] = bitsErrR n F from bitsErrC_eq n F]
  go_wp2_with fail
  refine (firstError_laid [polyErrI d t, bitsErrR n F] 2 _ _ rfl (by decide)).mono ?_
  rintro e w3 ⟨rfl, hw3⟩
  rw [polyBitsErr_first]
  have bx : Box w3 w.heap.size 23 #[.int .i64 d, .int .i64 t] := by rw [← hw3]; exact (((Box.made rfl).below hb1).below hb2).alloc _
  have hB3 : Below w.heap.size w w3 := by
    rw [← hw3]
    have h1 := below_of_alloc hb1
    exact (h1.trans (hb2.mono h1.size)).alloc (Nat.le_trans h1.size hb2.size) _
  clear hw3 hb1 hb2 hs1 hI1
  by_cases hz : polyBitsErr d t n F = 0
  · rw [hz]
    obtain ⟨d, t, rfl, rfl, h0, h1, t1, t2, n0, n1, hb⟩ := polyBitsErr_zero hz
    have HB := hide hb
    have HZ := hide hz
    clear hb hz
    have x0 : w3.cell? ⟨w.heap.size, 0, none⟩ = some (.int .i64 (d : Int)) := bx.at_ 0
    have x1 : w3.cell? ⟨w.heap.size, 1, none⟩ = some (.int .i64 (t : Int)) := bx.at_ 1
    have hl3 := bx.lt
    go_wp2_with fail
    refine (remainder_any d t A n c F _ h0 h1 t1 (by omega) (HI.out.below hB3) HB.out).mono ?_
    rintro e w4 ⟨v, rfl, A4, c4, rfl, hc4, hI4, hb4⟩
    go_wp2_with fail
    go_ret2
    exact .inr ⟨HZ.out, _, rfl, A4, c4, rfl, hc4, hI4.weak hB3.size, hB3.trans (hb4.mono hB3.size)⟩
  · have ht : (polyBitsErr d t n F != 0) = true := by simpa using hz
    have HZ := hide hz
    clear hz
    go_wp2_with fail
    go_ret2
    exact .inl ⟨HZ.out, rfl, hB3⟩
/-- The error of IsRight. -/
def rightErr (d t : Int) (n : Nat) (F : Nat → Int) : Int := if polyBitsErr d t n F = 0 then (if d < (n : Int) then 0 else 10) else polyBitsErr d t n F
theorem rightErr_first (d t : Int) (n : Nat) (F : Nat → Int) : firstE [polyErrI d t, bitsErrR n F, unI (decide (d < (n : Int))) 10] = rightErr d t n F := by
  unfold rightErr polyBitsErr
  rw [firstE_cons, firstE_cons, firstE_cons, firstE_nil]
  by_cases h1 : polyErrI d t = 0
  · rw [if_pos h1, if_pos h1]
    by_cases h2 : bitsErrR n F = 0
    · rw [if_pos h2, if_pos h2]
      by_cases h3 : d < (n : Int)
      · rw [decide_eq_true h3, if_pos h3]; rfl
      · rw [decide_eq_false h3, if_neg h3]; rfl
    · rw [if_neg h2, if_neg h2]
  · rw [if_neg h1, if_neg h1, if_neg h1]
def GaveRight (d t : Int) (n : Nat) (F : Nat → Int) (w : World) (e : Ending) (w' : World) : Prop :=
  e = .returned (.tuple #[.bool (decide (rightErr d t n F = 0) && intsB d.toNat (remB d.toNat t.toNat (n - d.toNat) F) d.toNat (fun j => F (n - d.toNat + j))), .int .i64 (rightErr d t n F)]) ∧ Below w.heap.size w w'
end Go.Proofs.Ytjelbemfljobaaa
