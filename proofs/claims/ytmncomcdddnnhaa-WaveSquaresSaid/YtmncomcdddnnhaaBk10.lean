/- Lemmas: Ga, Hc, Hm, He, Bd, Bg. -/
import Derived.Laws.OwnMore
import Derived.Test.YtmncomcdddnnhaaBk01
import Derived.Test.YtmncomcdddnnhaaBk02
import Derived.Test.YtmncomcdddnnhaaBk05
import Derived.Test.YtmncomcdddnnhaaBk09
set_option linter.unusedVariables false
set_option linter.unusedSimpArgs false
/- Mod, power, small, kindErr, BitsErr, Length, CopyPolar of the reference and the law. -/
namespace Go.Proofs.Ytmncomcdddnnhaa
open Go.RowKit

set_option maxHeartbeats 400000 in
theorem mod_any (n m : Int) (w : World) (h0 : 0 < m) (h1 : m ≤ 1000000000) :
    Calls Try.prog 84 #[.int .i64 n, .int .i64 m] w fun e w' => e = .returned (.int .i64 (n % m)) ∧ w = w' := by
  have hm0 : ¬ m = 0 := by omega
  by_cases hn : 0 ≤ n
  · have hb := Int.emod_nonneg n (show m ≠ 0 by omega)
    have hb2 := Int.emod_lt_of_pos n h0
    go_enter Try.func84, Try.ntmps84
    go_wp2_with fail
    go_ret
    exact ⟨rfl, rfl⟩
  · have hneg : n < 0 := by omega
    obtain ⟨r, hr⟩ : ∃ r, r = n.tmod m := ⟨_, rfl⟩
    have hr' := hr.symm
    have hle : -m < r ∧ r ≤ 0 := by
      rw [hr]
      have e := Int.neg_tmod (-n) m
      rw [Int.neg_neg] at e
      rw [e]
      have h2 : (-n).tmod m = (-n) % m := Int.tmod_eq_emod_of_nonneg (by omega)
      rw [h2]
      have := Int.emod_nonneg (-n) (show m ≠ 0 by omega)
      have := Int.emod_lt_of_pos (-n) h0
      omega
    have hdm : n % m = if r < 0 then r + m else r := by
      have h3 := Int.mul_tdiv_add_tmod n m
      rw [← hr] at h3
      split
      · have : n = (r + m) + m * (n.tdiv m - 1) := by rw [Int.mul_sub]; omega
        rw [this, Int.add_mul_emod_self_left]
        exact Int.emod_eq_of_lt (by omega) (by omega)
      · have h0r : r = 0 := by omega
        have : n = 0 + m * n.tdiv m := by omega
        rw [this, Int.add_mul_emod_self_left, h0r]
        rfl
    have HD := hide hdm
    obtain ⟨l1, l2⟩ := hle
    have hnn : ¬ 0 ≤ n := hn
    clear hdm hr hn
    by_cases hrz : r < 0
    · go_enter Try.func84, Try.ntmps84
      go_wp2_with fail
      go_ret
      exact ⟨ret_int (by rw [HD.out, if_pos hrz]), rfl⟩
    · have hr0 : 0 ≤ r := by omega
      have HRZ := hide hrz
      clear hrz
      go_enter Try.func84, Try.ntmps84
      go_wp2_with fail
      go_ret
      exact ⟨ret_int (by rw [HD.out, if_neg (Int.not_lt.2 HRZ.out)]), rfl⟩

def bitsErrR (n : Nat) (F : Nat → Int) : Int := if n = 0 then 10 else if 200 < n then 8 else if bitsB n F = true then 0 else 15
theorem bitsErrR_zero {n : Nat} {F : Nat → Int} (h : bitsErrR n F = 0) : 0 < n ∧ n ≤ 200 ∧ ∀ k, k < n → IsBit (F k) := by
  unfold bitsErrR at h
  by_cases h1 : n = 0
  · rw [if_pos h1] at h; exact absurd h (by decide)
  · rw [if_neg h1] at h
    by_cases h2 : 200 < n
    · rw [if_pos h2] at h; exact absurd h (by decide)
    · rw [if_neg h2] at h
      by_cases h3 : bitsB n F = true
      · exact ⟨by omega, by omega, bitsB_iff.1 h3⟩
      · rw [if_neg h3] at h; exact absurd h (by decide)

end Go.Proofs.Ytmncomcdddnnhaa
/- BitsOf. -/
namespace Go.Proofs.Ytmncomcdddnnhaa
open Go.RowKit
/-- The bits of a number, the greatest power first. -/
def bitsOfF (t n : Nat) (j : Nat) : Int := ((t / 2 ^ (n - 1 - j) % 2 : Nat) : Int)
end Go.Proofs.Ytmncomcdddnnhaa
/- A burst is caught: mathematics of remainders. -/
namespace Go.Proofs.Ytmncomcdddnnhaa
/-- The bit that a step of the division carries out. -/
def carryB (d s b : Nat) : Bool := decide ((s >>> (d - 1)) ^^^ b = 1)
theorem carry_bit {d s b : Nat} (h0 : 1 ≤ d) (hs : s < 2 ^ d) (hb : b ≤ 1) : carryB d s b = (s.testBit (d - 1) ^^ decide (b = 1)) := by
  have h1 : s >>> (d - 1) ≤ 1 := by
    rw [Nat.shiftRight_eq_div_pow]
    have : 2 ^ d = 2 ^ (d - 1) * 2 := by rw [← Nat.pow_succ]; congr 1; omega
    have := Nat.div_lt_of_lt_mul (show s < 2 ^ (d - 1) * 2 by omega)
    omega
  have h2 : s.testBit (d - 1) = decide (s >>> (d - 1) = 1) := by
    rw [Nat.testBit, Nat.one_and_eq_mod_two]
    generalize s >>> (d - 1) = x at *
    have : x = 0 ∨ x = 1 := by omega
    rcases this with rfl | rfl <;> rfl
  rw [h2]
  unfold carryB
  generalize s >>> (d - 1) = x at *
  have hx : x = 0 ∨ x = 1 := by omega
  have hy : b = 0 ∨ b = 1 := by omega
  rcases hx with rfl | rfl <;> rcases hy with rfl | rfl <;> rfl
theorem step_bit {d t s b : Nat} (ht : t < 2 ^ d) {i : Nat} (hi : i < d) : (remStep d t s b).testBit i = ((decide (0 < i) && s.testBit (i - 1)) ^^ (carryB d s b && t.testBit i)) := by
  have e : (2 * s % 2 ^ d).testBit i = (decide (0 < i) && s.testBit (i - 1)) := by
    rw [Nat.testBit_mod_two_pow, decide_eq_true hi, Bool.true_and]
    cases i with
    | zero => simp [Nat.testBit_zero]
    | succ j => rw [Nat.testBit_succ, Nat.mul_div_cancel_left _ (by decide)]; simp
  unfold remStep carryB
  by_cases h : (s >>> (d - 1)) ^^^ b = 1
  · rw [if_pos h, decide_eq_true h, Nat.testBit_xor, e, Bool.true_and]
  · rw [if_neg h, decide_eq_false h, e, Bool.false_and, Bool.xor_false]
theorem bxor_cancel : ∀ {a b c : Bool}, (a ^^ c) = (b ^^ c) → a = b := by decide
theorem bxor_cancel' : ∀ {a b c : Bool}, (c ^^ a) = (c ^^ b) → a = b := by decide
/-- Two registers differ at a bit of at most this number. -/
def Far (k s s' : Nat) : Prop := ∃ i, i ≤ k ∧ s.testBit i ≠ s'.testBit i
theorem step_far {d t s s' b b' k : Nat} (h0 : 1 ≤ d) (ht : t < 2 ^ d) (todd : t % 2 = 1) (h : Far k s s') (hk : k + 1 < d) : Far (k + 1) (remStep d t s b) (remStep d t s' b') := by
  obtain ⟨i, hi, hne⟩ := h
  have t0 : t.testBit 0 = true := by rw [Nat.testBit_zero]; simp [todd]
  by_cases hc : carryB d s b = carryB d s' b'
  · refine ⟨i + 1, by omega, ?_⟩
    rw [step_bit ht (by omega), step_bit ht (by omega), hc]
    intro h
    have h := bxor_cancel h
    rw [decide_eq_true (Nat.succ_pos i), Bool.true_and, Bool.true_and] at h
    exact hne h
  · refine ⟨0, by omega, ?_⟩
    rw [step_bit ht (by omega), step_bit ht (by omega), t0]
    intro h
    have h := bxor_cancel' h
    rw [Bool.and_true, Bool.and_true] at h
    exact hc h
/-- A further bit that differs. -/
theorem step_new {d t s b b' : Nat} (h0 : 1 ≤ d) (ht : t < 2 ^ d) (todd : t % 2 = 1) (hs : s < 2 ^ d) (hb : b ≤ 1) (hb' : b' ≤ 1) (hne : b ≠ b') : Far 0 (remStep d t s b) (remStep d t s b') := by
  have t0 : t.testBit 0 = true := by rw [Nat.testBit_zero]; simp [todd]
  refine ⟨0, by omega, ?_⟩
  rw [step_bit ht (by omega), step_bit ht (by omega), t0, carry_bit h0 hs hb, carry_bit h0 hs hb']
  have hx : b = 0 ∨ b = 1 := by omega
  have hy : b' = 0 ∨ b' = 1 := by omega
  rcases hx with rfl | rfl <;> rcases hy with rfl | rfl <;> simp at hne ⊢
/-- The same bit behind different registers: they stay different. -/
theorem step_ne {d t s s' b : Nat} (h0 : 1 ≤ d) (ht : t < 2 ^ d) (todd : t % 2 = 1) (hs : s < 2 ^ d) (hs' : s' < 2 ^ d) (hb : b ≤ 1) (hne : s ≠ s') : remStep d t s b ≠ remStep d t s' b := by
  have t0 : t.testBit 0 = true := by rw [Nat.testBit_zero]; simp [todd]
  intro h
  apply hne
  have hc : carryB d s b = carryB d s' b := by
    have this : (remStep d t s b).testBit 0 = (remStep d t s' b).testBit 0 := by rw [h]
    rw [step_bit ht (by omega), step_bit ht (by omega), t0] at this
    simpa using this
  refine Nat.eq_of_testBit_eq fun i => ?_
  by_cases hi : i < d
  · by_cases hl : i = d - 1
    · have h1 := carry_bit h0 hs hb
      have h2 := carry_bit h0 hs' hb
      rw [hc, h2] at h1
      subst hl
      exact (bxor_cancel h1).symm
    · have this : (remStep d t s b).testBit (i + 1) = (remStep d t s' b).testBit (i + 1) := by rw [h]
      rw [step_bit ht (by omega), step_bit ht (by omega), hc] at this
      have h := bxor_cancel this
      rw [decide_eq_true (Nat.succ_pos i), Bool.true_and, Bool.true_and] at h
      exact h
  · have hle : 2 ^ d ≤ 2 ^ i := Nat.pow_le_pow_right (by decide) (by omega)
    rw [Nat.testBit_lt_two_pow (Nat.lt_of_lt_of_le hs hle), Nat.testBit_lt_two_pow (Nat.lt_of_lt_of_le hs' hle)]
theorem IsBit.nat {x : Int} (h : IsBit x) : x.toNat ≤ 1 := by have := h.le; omega
/-- Behind a burst of at most d bits the registers differ. -/
theorem burst_far {d t : Nat} {F G : Nat → Int} (h0 : 1 ≤ d) (ht : t < 2 ^ d) (todd : t % 2 = 1) (hF : ∀ k, IsBit (F k)) (hG : ∀ k, IsBit (G k)) {a m : Nat} (hs : remF d t F m = remF d t G m) (ham : a ≤ m) (hma : m < a + d) (hne : F m ≠ G m) :
    ∀ k, m + 1 + k ≤ a + d → Far k (remF d t F (m + 1 + k)) (remF d t G (m + 1 + k))
  | 0, _ => by
    show Far 0 (remStep d t (remF d t F m) (F m).toNat) (remStep d t (remF d t G m) (G m).toNat)
    rw [← hs]
    refine step_new h0 ht todd (remF_lt F ht m) (hF m).nat (hG m).nat fun e => hne ?_
    have := (hF m).le
    have := (hG m).le
    omega
  | k + 1, hk => step_far h0 ht todd (burst_far h0 ht todd hF hG hs ham hma hne k (by omega)) (by omega)
theorem remF_congr {d t : Nat} {F G : Nat → Int} : ∀ {n}, (∀ k, k < n → F k = G k) → remF d t F n = remF d t G n
  | 0, _ => rfl
  | n + 1, h => by
    show remStep d t (remF d t F n) (F n).toNat = remStep d t (remF d t G n) (G n).toNat
    rw [remF_congr fun k hk => h k (by omega), h n (by omega)]
/-- The word of n bits and their check ends with a register of 0. -/
theorem right_zero {d t n : Nat} {F : Nat → Int} (h0 : 1 ≤ d) (ht : t < 2 ^ d) (hr : ∀ j, j < d → F (n + j) = remB d t n F j) :
    ∀ j, j ≤ d → ∀ i, i < d → (remF d t F (n + j)).testBit i = (decide (j ≤ i) && (remF d t F n).testBit (i - j))
  | 0, _, i, hi => by simp
  | j + 1, hj, i, hi => by
    have ih := right_zero h0 ht hr j (by omega)
    have hb : (F (n + j)).toNat = remF d t F n >>> (d - 1 - j) &&& 1 := by rw [hr j (by omega)]; unfold remB; omega
    have hb1 : (F (n + j)).toNat ≤ 1 := by rw [hb, Nat.and_one_is_mod]; omega
    have hc : carryB d (remF d t F (n + j)) (F (n + j)).toNat = false := by
      rw [carry_bit h0 (remF_lt F ht _) hb1, ih (d - 1) (by omega), decide_eq_true (show j ≤ d - 1 by omega), Bool.true_and, hb, Nat.testBit, Nat.one_and_eq_mod_two, Nat.and_one_is_mod]
      generalize remF d t F n >>> (d - 1 - j) = x
      have : x % 2 = 0 ∨ x % 2 = 1 := by omega
      rcases this with h | h <;> rw [h] <;> rfl
    show (remStep d t (remF d t F (n + j)) (F (n + j)).toNat).testBit i = _
    rw [step_bit ht hi, hc, Bool.false_and, Bool.xor_false]
    by_cases h : 0 < i
    · rw [ih (i - 1) (by omega), decide_eq_true h, Bool.true_and]
      by_cases h2 : j + 1 ≤ i
      · rw [decide_eq_true h2, decide_eq_true (show j ≤ i - 1 by omega), show i - 1 - j = i - (j + 1) by omega]
      · rw [decide_eq_false h2, decide_eq_false (show ¬ j ≤ i - 1 by omega), Bool.false_and, Bool.false_and]
    · rw [decide_eq_false h, decide_eq_false (show ¬ j + 1 ≤ i by omega), Bool.false_and, Bool.false_and]
theorem right_end {d t n : Nat} {F : Nat → Int} (h0 : 1 ≤ d) (ht : t < 2 ^ d) (hr : ∀ j, j < d → F (n + j) = remB d t n F j) : remF d t F (n + d) = 0 := by
  refine Nat.eq_of_testBit_eq fun i => ?_
  rw [Nat.zero_testBit]
  by_cases hi : i < d
  · rw [right_zero h0 ht hr d (Nat.le_refl _) i hi, decide_eq_false (by omega), Bool.false_and]
  · exact Nat.testBit_lt_two_pow (Nat.lt_of_lt_of_le (remF_lt F ht _) (Nat.pow_le_pow_right (by decide) (by omega)))
/-- A BURST IS CAUGHT. -/
theorem burst_caught {d t n a : Nat} {F G : Nat → Int} (h0 : 1 ≤ d) (ht : t < 2 ^ d) (todd : t % 2 = 1) (hF : ∀ k, IsBit (F k)) (hG : ∀ k, IsBit (G k)) (ha : a ≤ n) (hlo : ∀ k, k < a → F k = G k) (hhi : ∀ k, a + d ≤ k → k < n + d → F k = G k)
    (hne : ∃ k, a ≤ k ∧ k < a + d ∧ F k ≠ G k) (hr : ∀ j, j < d → F (n + j) = remB d t n F j) : ¬ ∀ j, j < d → G (n + j) = remB d t n G j := by
  intro hr'
  have e1 := right_end h0 ht hr
  have e2 := right_end h0 ht hr'
  -- the first place that differs
  have hmin : ∃ m, a ≤ m ∧ m < a + d ∧ F m ≠ G m ∧ ∀ k, k < m → F k = G k := by
    obtain ⟨k, hk⟩ := hne
    induction k using Nat.strongRecOn with
    | ind k ih =>
      by_cases h : ∀ j, j < k → F j = G j
      · exact ⟨k, hk.1, hk.2.1, hk.2.2, h⟩
      · obtain ⟨j, h⟩ := Classical.not_forall.1 h
        obtain ⟨hj, h⟩ := Classical.not_imp.1 h
        exact ih j hj ⟨Nat.le_of_not_lt fun hh => h (hlo j hh), by omega, h⟩
  obtain ⟨m, h1, h2, h3, h4⟩ := hmin
  have hf := burst_far h0 ht todd hF hG (remF_congr h4) h1 h2 h3 (a + d - (m + 1)) (by omega)
  rw [show m + 1 + (a + d - (m + 1)) = a + d by omega] at hf
  have hlast : ∀ k, a + d + k ≤ n + d → remF d t F (a + d + k) ≠ remF d t G (a + d + k) := by
    intro k
    induction k with
    | zero => intro _ e; obtain ⟨i, -, hi⟩ := hf; exact hi (by rw [show a + d + 0 = a + d from rfl] at e; rw [e])
    | succ k ih =>
      intro hk
      have e := hhi (a + d + k) (by omega) (by omega)
      show remStep d t (remF d t F (a + d + k)) (F (a + d + k)).toNat ≠ remStep d t (remF d t G (a + d + k)) (G (a + d + k)).toNat
      rw [← e]
      exact step_ne h0 ht todd (remF_lt F ht _) (remF_lt G ht _) (hF _).nat (ih (by omega))
  have := hlast (n - a) (by omega)
  rw [show a + d + (n - a) = n + d by omega] at this
  exact this (e1.trans e2.symm)
end Go.Proofs.Ytmncomcdddnnhaa
/- A copy that is the law's own: cells read, stored; a pattern that is not 0 has a 1. -/
namespace Go.Proofs.Ytmncomcdddnnhaa
open Go.RowKit Go.Lib
theorem OwnInts.cap_any {w : World} {base n c : Nat} {A : Option Addr} {F : Nat → Int} (h : OwnInts w base (.slice A n c) n F) : n ≤ c ∧ c ≤ 9223372036854775807 := by
  have hm9 : maxLen ≤ 9223372036854775807 := by decide
  rcases h.2 with ⟨h1, h2⟩ | ⟨g, cap, cur, h1, -, -, hn, hm, -⟩
  · injection h1 with _ _ h3
    omega
  · injection h1 with _ _ h3
    omega
theorem OwnInts.row {w : World} {base n : Nat} {v : Value} {F : Nat → Int} (h : OwnInts w base v n F) (hn : 0 < n) : ∃ g cap, v = .slice (some ⟨g, 0, none⟩) n cap ∧ base ≤ g ∧ g < w.heap.size := by
  rcases h.2 with ⟨h1, h2⟩ | ⟨g, cap, cur, h1, hb, hg, -⟩
  · omega
  · exact ⟨g, cap, h1, hb, by
      rcases Nat.lt_or_ge g w.heap.size with h' | h'
      · exact h'
      · rw [Array.getElem?_eq_none h'] at hg; cases hg⟩
theorem OwnInts.cellAt {w : World} {base n g c : Nat} {F : Nat → Int} (h : OwnInts w base (.slice (some ⟨g, 0, none⟩) n c) n F) {k : Nat} (hk : k < n) : w.cell? ⟨g, k, none⟩ = some (.int .i64 (F k)) := by
  rw [World.ownsRow.cellAt h k (by omega), intCells_get, if_pos hk]
theorem OwnInts.frozen {w : World} {base n g c : Nat} {F : Nat → Int} (h : OwnInts w base (.slice (some ⟨g, 0, none⟩) n c) n F) (k : Nat) : w.frozen? ⟨g, k, none⟩ = false := World.ownsRow.frozenAt h k
def setF (F : Nat → Int) (k : Nat) (x : Int) (j : Nat) : Int := if j = k then x else F j
theorem OwnInts.set_ {w : World} {base n g c : Nat} {F : Nat → Int} (h : OwnInts w base (.slice (some ⟨g, 0, none⟩) n c) n F) (k : Nat) (x : Int) : OwnInts (w.setCell ⟨g, k, none⟩ (.int .i64 x)) base (.slice (some ⟨g, 0, none⟩) n c) n (setF F k x) := by
  have h1 := (World.ownsRow.stored h k (.int .i64 x)).1
  have e : (intCells n F).set k (.int .i64 x) = intCells n (setF F k x) := by
    apply List.ext_getElem?
    intro j
    rw [List.getElem?_set, intCells_get, intCells_get, intCells_len]
    unfold setF
    by_cases e : k = j
    · subst e
      by_cases hk : k < n
      · rw [if_pos rfl, if_pos hk, if_pos hk, if_pos rfl]
      · rw [if_pos rfl, if_neg hk, if_neg hk]
    · rw [if_neg e, if_neg (show ¬ j = k from fun h => e h.symm)]
  rw [e] at h1
  exact h1
set_option maxHeartbeats 1000000 in
theorem copyInts_own (A : Option Addr) (n c : Nat) (F : Nat → Int) (w : World) (hn : n ≤ 100000000) (hI : IntsAt w 0 A n F) :
    Calls Try.prog 10 #[.slice A n c] w fun e w' => ∃ v, e = .returned v ∧ OwnInts w' w.heap.size v n F ∧ Below w.heap.size w w' := by
  go_enter Try.func10, Try.ntmps10
  go_wp2_with (at_builtin; refine wpList_append_ints _ rfl (.tmp 3) (.tmp 4) rfl w.heap.size 0 (.slice (some ⟨w.heap.size, 0, none⟩) 0 0) 0 F rfl (World.ownsRow_made w #[] 0 (Nat.le_refl _) (by unfold maxLen; omega) rfl) A n c F rfl (hI.alloc _) (by omega) (by simp) ?_; intro v' w' h1 hb1)
  go_ret
  have hB : Below w.heap.size w w' := ((Below.refl _ _).alloc (Nat.le_refl _) _).trans hb1
  rw [Nat.zero_add] at h1
  exact ⟨_, rfl, h1.congr fun j _ => by simp [catF], hB⟩
theorem bitsOfF_bit (x d j : Nat) : IsBit (bitsOfF x d j) := by
  unfold bitsOfF IsBit
  omega
theorem pat_some {x d : Nat} (h0 : 0 < x) (h1 : x < 2 ^ d) : ∃ j, j < d ∧ bitsOfF x d j = 1 := by
  refine Classical.byContradiction fun hno => ?_
  have hz : x = 0 := by
    refine Nat.eq_of_testBit_eq fun i => ?_
    rw [Nat.zero_testBit]
    by_cases hi : i < d
    · rw [Nat.testBit_eq_decide_div_mod_eq, decide_eq_false]
      intro h
      refine hno ⟨d - 1 - i, by omega, ?_⟩
      unfold bitsOfF
      rw [show d - 1 - (d - 1 - i) = i by omega, h]
      rfl
    · exact Nat.testBit_lt_two_pow (Nat.lt_of_lt_of_le h1 (Nat.pow_le_pow_right (by decide) (by omega)))
  omega
end Go.Proofs.Ytmncomcdddnnhaa
/- Numbers of any size: the mathematics of a product, and what a number of any size is in memory. -/
namespace Go.Proofs.Ytmncomcdddnnhaa
open Go.RowKit
theorem valD_set {F : Nat → Int} {p : Nat} {v : Int} : ∀ N, p < N → valD (setF F p v) N = valD F N + (v - F p) * BB ^ p
  | 0, h => absurd h (Nat.not_lt_zero p)
  | k + 1, h => by
    show valD (setF F p v) k + setF F p v k * BB ^ k = valD F k + F k * BB ^ k + (v - F p) * BB ^ p
    by_cases e : p = k
    · subst e
      rw [valD_congr (D := setF F p v) (E := F) p fun j hj => if_neg (show ¬ j = p by omega), show setF F p v p = v from if_pos rfl, Int.sub_mul]
      omega
    · rw [valD_set k (by omega), show setF F p v k = F k from if_neg (by omega)]
      omega
theorem valD_zero : ∀ n, valD (fun _ => 0) n = 0
  | 0 => rfl
  | k + 1 => by
    show valD (fun _ => 0) k + 0 * BB ^ k = 0
    rw [valD_zero k, Int.zero_mul, Int.add_zero]
/-- One step of the schoolbook product. -/
theorem mul_step {F : Nat → Int} {q N k i : Nat} {a b c V0 vb s : Int} (hq : q = i + k) (hN : q < N) (hs : s = F q + a * b + c) (h : valD F N + c * BB ^ q = V0 + a * vb * BB ^ i) :
    valD (setF F q (s % BB)) N + s / BB * BB ^ (q + 1) = V0 + a * (vb + b * BB ^ k) * BB ^ i := by
  rw [valD_set N hN, Int.pow_succ, Int.mul_comm (BB ^ q) BB]
  have hm := Int.emod_add_mul_ediv s BB
  have e1 : s % BB * BB ^ q + s / BB * (BB * BB ^ q) = F q * BB ^ q + a * b * BB ^ q + c * BB ^ q := by
    rw [← Int.mul_assoc, Int.mul_comm (s / BB) BB, ← Int.add_mul, hm, hs, Int.add_mul, Int.add_mul]
  have e2 : a * (vb + b * BB ^ k) * BB ^ i = a * vb * BB ^ i + a * b * BB ^ q := by
    rw [Int.mul_add, Int.add_mul, ← Int.mul_assoc a b, Int.mul_assoc (a * b), ← Int.pow_add, Nat.add_comm k i, hq]
  rw [e2, Int.sub_mul]
  omega
theorem mul_bound {f a b c s : Int} (hs : s = f + a * b + c) (f0 : 0 ≤ f) (f1 : f < BB) (a0 : 0 ≤ a) (a1 : a < BB) (b0 : 0 ≤ b) (b1 : b < BB) (c0 : 0 ≤ c) (c1 : c < BB) :
    0 ≤ a * b ∧ a * b ≤ 999999998000000001 ∧ 0 ≤ s ∧ s < 1000000000000000000 ∧ 0 ≤ s % BB ∧ s % BB < BB ∧ 0 ≤ s / BB ∧ s / BB < BB := by
  unfold BB at *
  have h1 : 0 ≤ a * b := Int.mul_nonneg a0 b0
  have h2 : a * b ≤ 999999999 * 999999999 := Int.mul_le_mul (by omega) (by omega) b0 (by decide)
  omega
/-- A number of any size: its sign and its digits. -/
def WideAt (w : World) (lo : Nat) (V : Value) (m : Nat) (x : Int) : Prop :=
  ∃ (s : Int) (A : Option Addr) (n c : Nat) (D : Nat → Int), V = .agg #[.int .i64 s, .slice A n c] ∧ n ≤ m ∧ n ≤ c ∧ IntsAt w lo A n D ∧ Dig n D ∧ Norm n D ∧ (s = -1 ∨ s = 0 ∨ s = 1) ∧ (s = 0 ↔ n = 0) ∧ x = s * valD D n
theorem WideAt.below {w w' : World} {lo m : Nat} {V : Value} {x : Int} (h : WideAt w lo V m x) (hb : Below w.heap.size w w') : WideAt w' lo V m x := by
  obtain ⟨s, A, n, c, D, h1, h2, h3, h4, h5⟩ := h
  exact ⟨s, A, n, c, D, h1, h2, h3, h4.below hb, h5⟩
theorem WideAt.weak {w : World} {lo lo' m m' : Nat} {V : Value} {x : Int} (h : WideAt w lo V m x) (h1 : lo' ≤ lo) (h2 : m ≤ m') : WideAt w lo' V m' x := by
  obtain ⟨s, A, n, c, D, g1, g2, g3, g4, g5⟩ := h
  exact ⟨s, A, n, c, D, g1, Nat.le_trans g2 h2, g3, g4.weak h1, g5⟩
theorem sgnT_cases {s : Int} {n : Nat} {D : Nat → Int} (hD : Dig n D) (hs : s = 1 ∨ s = -1 ∨ (s = 0 ∧ valD D n = 0)) :
    (sgnT s (trimN D n) = -1 ∨ sgnT s (trimN D n) = 0 ∨ sgnT s (trimN D n) = 1) ∧ (sgnT s (trimN D n) = 0 ↔ trimN D n = 0) ∧ s * valD D n = sgnT s (trimN D n) * valD D (trimN D n) := by
  have hv := trimN_val D n
  have hp := norm_pos (n := trimN D n) (fun j hj => hD j (Nat.lt_of_lt_of_le hj (trimN_le D n))) (trimN_norm D n)
  rw [hv]
  rw [hv] at hp
  unfold sgnT
  by_cases h : trimN D n = 0
  · rw [if_pos h]
    have h0 : valD D n = 0 := by rw [← hv, h]; rfl
    rw [h0]
    exact ⟨.inr (.inl rfl), ⟨fun _ => h, fun _ => rfl⟩, by rw [Int.mul_zero, Int.mul_zero]⟩
  · rw [if_neg h]
    have h1 := hp (by omega)
    refine ⟨by omega, ⟨fun e => ?_, fun e => absurd e h⟩, rfl⟩
    omega
theorem WideAt.of {w : World} {lo m n c : Nat} {A : Option Addr} {D : Nat → Int} {s : Int} (hI : IntsAt w lo A n D) (hD : Dig n D) (hc : n ≤ c) (hm : n ≤ m) (hs : s = 1 ∨ s = -1 ∨ (s = 0 ∧ valD D n = 0)) :
    WideAt w lo (.agg #[.int .i64 (sgnT s (trimN D n)), .slice A (trimN D n) c]) m (s * valD D n) := by
  have ht := trimN_le D n
  obtain ⟨h1, h2, h3⟩ := sgnT_cases hD hs
  exact ⟨_, A, trimN D n, c, D, rfl, by omega, by omega, fun j hj => hI j (by omega), fun j hj => hD j (by omega), trimN_norm D n, h1, h2, h3⟩
theorem WideAt.sign_pos {w : World} {lo m : Nat} {V : Value} {x : Int} (h : WideAt w lo V m x) (hx : 0 < x) :
    ∃ (A : Option Addr) (n c : Nat) (D : Nat → Int), V = .agg #[.int .i64 1, .slice A n c] ∧ n ≤ m ∧ n ≤ c ∧ IntsAt w lo A n D ∧ Dig n D ∧ Norm n D ∧ 0 < n ∧ x = valD D n := by
  obtain ⟨s, A, n, c, D, h1, h2, h3, h4, h5, h6, h7, h8, h9⟩ := h
  have hv := (valD_range n h5).1
  rcases h7 with rfl | rfl | rfl
  · exfalso; omega
  · rw [Int.zero_mul] at h9; omega
  · rw [Int.one_mul] at h9
    exact ⟨A, n, c, D, h1, h2, h3, h4, h5, h6, by have := h8.2; omega, h9⟩
end Go.Proofs.Ytmncomcdddnnhaa
/- Numbers of any size: WideCmp of two above 0. -/
namespace Go.Proofs.Ytmncomcdddnnhaa
open Go.RowKit
theorem sgnT_pos {s : Int} {D : Nat → Int} {n : Nat} (h : valD D n ≠ 0) : sgnT s (trimN D n) = s := if_neg fun e => h (by rw [← trimN_val, e]; rfl)
theorem fewer_of {D E : Nat → Int} {n m : Nat} (hD : Dig n D) (hE : Dig m E) (hEn : Norm m E) (h : valD E m < valD D n) : m ≤ n := by
  rcases Nat.lt_or_ge n m with e | e
  · have := valD_fewer e hD hE hEn; omega
  · exact e
theorem sub_sign {D E : Nat → Int} {n m : Nat} {s : Int} (hD : Dig n D) (hE : Dig m E) (hEn : Norm m E) (h : valD E m < valD D n) : sgnT s (trimN (subD D (digN m E)) (trimN (subD D (digN m E)) n)) = s :=
  sgnT_pos (by rw [trimN_val, sub_val hD hE (fewer_of hD hE hEn h) (Int.le_of_lt h)]; omega)
set_option maxHeartbeats 4000000 in
set_option maxRecDepth 100000 in
theorem wideAdd_opp (A B : Option Addr) (n c m d : Nat) (D E : Nat → Int) (w : World) (hn : n ≤ 1000) (hm : m ≤ 1000) (hI : IntsAt w 0 A n D) (hJ : IntsAt w 0 B m E) (hD : Dig n D) (hE : Dig m E) (hDn : Norm n D) (hEn : Norm m E) :
    Calls Try.prog 93 #[.agg #[.int .i64 1, .slice A n c], .agg #[.int .i64 (-1), .slice B m d]] w fun e w' => ∃ R r s, e = .returned (.agg #[.int .i64 (cmpI (valD D n) (valD E m)), .slice R r s]) ∧ Below w.heap.size w w' := by
  have HI := hide hI
  have HJ := hide hJ
  have HCM := hide (fun W (h1 : IntsAt W 0 A n D) (h2 : IntsAt W 0 B m E) => cmpDigits_any A B n c m d D E W hn hm h1 h2 hD hE hDn hEn)
  have HSA := hide (fun W (h1 : IntsAt W 0 A n D) (h2 : IntsAt W 0 B m E) => subDigits_any A B n c m d D E W hn h1 h2 hD hE)
  have HSB := hide (fun W (h1 : IntsAt W 0 A n D) (h2 : IntsAt W 0 B m E) => subDigits_any B A m d n c E D W hm h2 h1 hE hD)
  have HWA := hide (fun (R : Option Addr) (r : Nat) (W : World) (hr : n ≤ r) (h : IntsAt W 0 R n (subD D (digN m E))) => wideOf_any 1 R (trimN (subD D (digN m E)) n) r _ W (Nat.le_trans (trimN_le _ _) hn) (Nat.le_trans (trimN_le _ _) hr) (h.fewer (trimN_le _ _)))
  have HWB := hide (fun (R : Option Addr) (r : Nat) (W : World) (hr : m ≤ r) (h : IntsAt W 0 R m (subD E (digN n D))) => wideOf_any (-1) R (trimN (subD E (digN n D)) m) r _ W (Nat.le_trans (trimN_le _ _) hm) (Nat.le_trans (trimN_le _ _) hr) (h.fewer (trimN_le _ _)))
  have HGA := hide (fun (h : valD E m < valD D n) => sub_sign (s := 1) hD hE hEn h)
  have HGB := hide (fun (h : valD D n < valD E m) => sub_sign (s := -1) hE hD hDn h)
  clear hI hJ hD hE hDn hEn
  generalize subD D (digN m E) = G at *
  generalize subD E (digN n D) = H at *
  generalize valD D n = x at *
  generalize valD E m = y at *
  obtain ⟨z, hz⟩ : ∃ z, z = cmpI x y := ⟨_, rfl⟩
  rw [← hz] at HCM ⊢
  go_enter Try.func93, Try.ntmps93
  go_upto_region 1 with fail
  obtain ⟨W, hW⟩ : ∃ q : World, q = ((w.alloc (.cells #[.int .i64 1, .slice A n c] 81)).alloc (.cells #[.int .i64 (-1), .slice B m d] 81)).alloc (.cells #[.int .i64 0, .slice none 0 0] 81) := ⟨_, rfl⟩
  rw [← hW]
  have ba : Box W w.heap.size 81 #[.int .i64 1, .slice A n c] := by rw [hW]; exact ((Box.made rfl).alloc _).alloc _
  have bb : Box W (w.heap.size + 1) 81 #[.int .i64 (-1), .slice B m d] := by rw [hW]; exact (Box.made (by simp)).alloc _
  have bc : Box W (w.heap.size + 1 + 1) 81 #[.int .i64 0, .slice none 0 0] := by rw [hW]; exact Box.made (by simp)
  have hBW : Below w.heap.size w W := by rw [hW]; (repeat (first | (with_reducible exact Below.refl _ _) | (with_reducible refine Go.below_drewN ?_ _) | (with_reducible refine Below.drew ?_) | (with_reducible refine Below.alloc ?_ (by first | exact Nat.le_refl _ | (simp; done) | (simp; omega) | omega) _) | (with_reducible refine Below.setCell ?_ (by first | exact Nat.le_refl _ | (simp; done) | (simp; omega) | omega) _)))
  clear hW
  have x0 := ba.at_ 0
  have x1 := ba.at_ 1
  have y0 := bb.at_ 0
  have y1 := bb.at_ 1
  simp only [List.getElem?_toArray] at x0 x1 y0 y1
  have HB := hide hBW
  go_upto_region 7 with fail
  clear x0 x1 y0 y1
  have HIW := hide (HI.out.below hBW)
  have HJW := hide (HJ.out.below hBW)
  clear hBW
  have x0 := ba.at_ 0
  have x1 := ba.at_ 1
  have y0 := bb.at_ 0
  have y1 := bb.at_ 1
  simp only [List.getElem?_toArray] at x0 x1 y0 y1
  rcases Int.lt_trichotomy x y with h | h | h
  · have HC := hide (HCM.out W HIW.out HJW.out)
    clear HCM
    obtain rfl : z = -1 := hz.trans (cmpI_lt h)
    go_wp2_with fail
    refine HC.out.mono ?_
    rintro e w1 ⟨rfl, hb1⟩
    clear x0 x1 y0 y1
    have hS1 : Box w1 w.heap.size 81 #[.int .i64 1, .slice A n c] ∧ Box w1 (w.heap.size + 1) 81 #[.int .i64 (-1), .slice B m d] := ⟨ba.below hb1, bb.below hb1⟩
    have bc1 := bc.below hb1
    have hB1 := HB.out.trans (hb1.mono HB.out.size)
    have HI1 := hide (HIW.out.below hb1)
    have HJ1 := hide (HJW.out.below hb1)
    clear hb1 ba bb bc HB HIW HJW HI HJ
    have HSG := hide (HGB.out h)
    have HBC := hide bc1
    have HB1 := hide hB1
    clear hz h bc1 hB1
    go_wp2_with fail
    refine wp_region_held_drew (S := fun w' => Box w' w.heap.size 81 #[.int .i64 1, .slice A n c] ∧ Box w' (w.heap.size + 1) 81 #[.int .i64 (-1), .slice B m d]) (by kernel_rfl) hS1 (fun hHeld => ?_)
    refine wpAnyH_take (i := 0) (oi := ⟨some 45, _, _, _, _, _⟩) (v := ?_) rfl (by kernel_rfl) (by kernel_rfl) (by kernel_rfl) (fun _ _ _ h => h) (Or.inl ⟨by rfl, ?_⟩) (by assumption) ?_
    rotate_left
    · (intro w' hSw; (try dsimp only at hSw); have u0 := hSw.1.at_ 0; have u1 := hSw.1.at_ 1; have v0 := hSw.2.at_ 0; have v1 := hSw.2.at_ 1; simp only [List.getElem?_toArray] at u0 u1 v0 v1; go_simp <;> (with_reducible rfl))
    try simp only [Act.put, List.setIfInBounds_toArray, List.set_cons_zero, List.set_cons_succ]
    refine wpAnyH_take (i := 1) (oi := ⟨some 46, _, _, _, _, _⟩) (v := ?_) rfl (by kernel_rfl) (by kernel_rfl) (by kernel_rfl) (fun _ _ _ h => h) (Or.inl ⟨by rfl, ?_⟩) (by assumption) ?_
    rotate_left
    · (intro w' hSw; (try dsimp only at hSw); have u0 := hSw.1.at_ 0; have u1 := hSw.1.at_ 1; have v0 := hSw.2.at_ 0; have v1 := hSw.2.at_ 1; simp only [List.getElem?_toArray] at u0 u1 v0 v1; go_simp <;> (with_reducible rfl))
    try simp only [Act.put, List.setIfInBounds_toArray, List.set_cons_zero, List.set_cons_succ]
    refine wpAnyH_take (i := 2) (oi := ⟨some 47, _, _, _, _, _⟩) (v := ?_) rfl (by kernel_rfl) (by kernel_rfl) (by kernel_rfl) (fun _ _ _ h => h) (Or.inl ⟨by rfl, ?_⟩) (by assumption) ?_
    rotate_left
    · (intro w' hSw; (try dsimp only at hSw); have u0 := hSw.1.at_ 0; have u1 := hSw.1.at_ 1; have v0 := hSw.2.at_ 0; have v1 := hSw.2.at_ 1; simp only [List.getElem?_toArray] at u0 u1 v0 v1; go_simp <;> (with_reducible rfl))
    try simp only [Act.put, List.setIfInBounds_toArray, List.set_cons_zero, List.set_cons_succ]
    refine wpAnyH_take (i := 3) (oi := ⟨some 48, _, _, _, _, _⟩) (v := ?_) rfl (by kernel_rfl) (by kernel_rfl) (by kernel_rfl) (fun _ _ _ h => h) (Or.inl ⟨by rfl, ?_⟩) (by assumption) ?_
    rotate_left
    · (intro w' hSw; (try dsimp only at hSw); have u0 := hSw.1.at_ 0; have u1 := hSw.1.at_ 1; have v0 := hSw.2.at_ 0; have v1 := hSw.2.at_ 1; simp only [List.getElem?_toArray] at u0 u1 v0 v1; go_simp <;> (with_reducible rfl))
    try simp only [Act.put, List.setIfInBounds_toArray, List.set_cons_zero, List.set_cons_succ]
    refine wpAnyH_take (i := 4) (oi := ⟨some 49, _, _, _, _, _⟩) (v := ?_) rfl (by kernel_rfl) (by kernel_rfl) (by kernel_rfl) (fun _ _ _ h => h) (Or.inl ⟨by rfl, ?_⟩) (by assumption) ?_
    rotate_left
    · (intro w' hSw; (try dsimp only at hSw); have u0 := hSw.1.at_ 0; have u1 := hSw.1.at_ 1; have v0 := hSw.2.at_ 0; have v1 := hSw.2.at_ 1; simp only [List.getElem?_toArray] at u0 u1 v0 v1; go_simp <;> (with_reducible rfl))
    try simp only [Act.put, List.setIfInBounds_toArray, List.set_cons_zero, List.set_cons_succ]
    refine wpAnyH_take (i := 5) (oi := ⟨some 50, _, _, _, _, _⟩) (v := ?_) rfl (by kernel_rfl) (by kernel_rfl) (by kernel_rfl) (fun _ _ _ h => h) (Or.inl ⟨by rfl, ?_⟩) (by assumption) ?_
    rotate_left
    · (intro w' hSw; (try dsimp only at hSw); have u0 := hSw.1.at_ 0; have u1 := hSw.1.at_ 1; have v0 := hSw.2.at_ 0; have v1 := hSw.2.at_ 1; simp only [List.getElem?_toArray] at u0 u1 v0 v1; go_simp <;> (with_reducible rfl))
    try simp only [Act.put, List.setIfInBounds_toArray, List.set_cons_zero, List.set_cons_succ]
    refine wpAnyH_ready (rs := [6]) (by kernel_rfl) (by simp) ?_
    refine AllReadyH.cons (o := ⟨some 51, _, _, _, _, _⟩) rfl (fun K' hK => ?_) AllReadyH.nil
    go_simp
    go_at_call 100
    refine (HSB.out _ (by exact HI1.out) (by exact HJ1.out)).mono ?_
    rintro e w2 ⟨R, r, rfl, hr, hI2, hb2⟩
    have hc2 : Below w1.heap.size w1 w2 := by first | exact hb2 | exact below_of_drew hb2 | exact below_of_drew (below_of_drew hb2)
    have hS2 : Box w2 w.heap.size 81 #[.int .i64 1, .slice A n c] ∧ Box w2 (w.heap.size + 1) 81 #[.int .i64 (-1), .slice B m d] := ⟨hS1.1.below hc2, hS1.2.below hc2⟩
    have HBC2 := hide (HBC.out.below hc2)
    have HB2 := hide (HB1.out.trans (hc2.mono HB1.out.size))
    have HI2 := hide (hI2.weak (Nat.zero_le _))
    clear hb2 hc2 hS1 HBC HB1 HI1 HJ1 hI2
    go_wp2_with fail
    refine hK.out _ _ hS2 (fun hHeld => ?_)
    clear hK K'
    try simp only [Act.put, List.setIfInBounds_toArray, List.set_cons_zero, List.set_cons_succ]
    refine wpAnyH_ready (rs := [7]) (by kernel_rfl) (by simp) ?_
    refine AllReadyH.cons (o := ⟨some 52, _, _, _, _, _⟩) rfl (fun K' hK => ?_) AllReadyH.nil
    go_simp
    go_at_call 78
    refine (HWB.out R r _ hr (by exact HI2.out)).mono ?_
    rintro e w3 ⟨rfl, hb2⟩
    rw [HSG.out]
    have hc3 : Below w2.heap.size w2 w3 := by first | exact hb2 | exact below_of_drew hb2 | exact below_of_drew (below_of_drew hb2)
    have hS3 : Box w3 w.heap.size 81 #[.int .i64 1, .slice A n c] ∧ Box w3 (w.heap.size + 1) 81 #[.int .i64 (-1), .slice B m d] := ⟨hS2.1.below hc3, hS2.2.below hc3⟩
    have bc3 := HBC2.out.below hc3
    have hB3 := HB2.out.trans (hc3.mono HB2.out.size)
    clear hb2 hc3 hS2 HBC2 HB2 HI2
    go_wp2_with fail
    refine hK.out _ _ hS3 (fun hHeld => ?_)
    clear hK K'
    try simp only [Act.put, List.setIfInBounds_toArray, List.set_cons_zero, List.set_cons_succ]
    have f0 := bc3.free 0
    have f1 := bc3.free 1
    have z0 := bc3.at_ 0
    have z1 := bc3.at_ 1
    simp only [List.getElem?_toArray] at z0 z1
    have hlt3 := bc3.lt
    have HC3 := hide ((bc3.set_ 0 (.int .i64 (-1))).set_ 1 (.slice R (trimN H (trimN H m)) r))
    have HL := hide ((hB3.setCell (p := ⟨w.heap.size + 1 + 1, 0, none⟩) (show w.heap.size ≤ w.heap.size + 1 + 1 by omega) (.int .i64 (-1))).setCell (p := ⟨w.heap.size + 1 + 1, 1, none⟩) (show w.heap.size ≤ w.heap.size + 1 + 1 by omega) (.slice R (trimN H (trimN H m)) r))
    have HSS := hide (show Box ((w3.setCell ⟨w.heap.size + 1 + 1, 0, none⟩ (.int .i64 (-1))).setCell ⟨w.heap.size + 1 + 1, 1, none⟩ (.slice R (trimN H (trimN H m)) r)) w.heap.size 81 #[.int .i64 1, .slice A n c] ∧ Box ((w3.setCell ⟨w.heap.size + 1 + 1, 0, none⟩ (.int .i64 (-1))).setCell ⟨w.heap.size + 1 + 1, 1, none⟩ (.slice R (trimN H (trimN H m)) r)) (w.heap.size + 1) 81 #[.int .i64 (-1), .slice B m d] from ⟨(hS3.1.other (by simp; omega) _).other (by simp; omega) _, (hS3.2.other (by simp) _).other (by simp) _⟩)
    clear hS3 bc3 hB3
    refine wpAnyH_ready (rs := [8]) (by kernel_rfl) (by simp) ?_
    refine AllReadyH.cons (o := ⟨none, _, _, _, _, _⟩) rfl (fun K' hK => ?_) AllReadyH.nil
    go_simp
    refine hK.out _ _ HSS.out (fun hHeld => ?_)
    clear hK K' f0 f1 z0 z1 hlt3
    try simp only [Act.put, List.setIfInBounds_toArray, List.set_cons_zero, List.set_cons_succ]
    refine wpAnyH_done (by kernel_rfl) ?_ _
    go_wp2_with fail
    have z0 := HC3.out.at_ 0
    have z1 := HC3.out.at_ 1
    simp only [Array.getElem?_setIfInBounds, List.setIfInBounds_toArray, List.getElem?_toArray] at z0 z1
    refine bodyPost_ret (v := .agg #[.int .i64 (-1), .slice R (trimN H (trimN H m)) r]) ?_ rfl ⟨_, _, _, rfl, by have h := HL.out; exact ⟨h.os, h.tape, h.output, h.size, h.block⟩⟩
    simp [results, Try.results93, go_sem, z0, z1]
  · have HC := hide (HCM.out W HIW.out HJW.out)
    clear HCM
    obtain rfl : z = 0 := hz.trans (cmpI_eq h)
    go_wp2_with fail
    refine HC.out.mono ?_
    rintro e w1 ⟨rfl, hb1⟩
    clear x0 x1 y0 y1
    have hS1 : Box w1 w.heap.size 81 #[.int .i64 1, .slice A n c] ∧ Box w1 (w.heap.size + 1) 81 #[.int .i64 (-1), .slice B m d] := ⟨ba.below hb1, bb.below hb1⟩
    have bc1 := bc.below hb1
    have hB1 := HB.out.trans (hb1.mono HB.out.size)
    have HI1 := hide (HIW.out.below hb1)
    have HJ1 := hide (HJW.out.below hb1)
    clear hb1 ba bb bc HB HIW HJW HI HJ
    clear hS1
    have f0 := bc1.free 0
    have f1 := bc1.free 1
    have z0 := bc1.at_ 0
    have z1 := bc1.at_ 1
    simp only [List.getElem?_toArray] at z0 z1
    have hlt1 := bc1.lt
    have HC1 := hide ((bc1.set_ 0 (.int .i64 0)).set_ 1 (.slice none 0 0))
    have HL := hide ((hB1.setCell (p := ⟨w.heap.size + 1 + 1, 0, none⟩) (show w.heap.size ≤ w.heap.size + 1 + 1 by omega) (.int .i64 0)).setCell (p := ⟨w.heap.size + 1 + 1, 1, none⟩) (show w.heap.size ≤ w.heap.size + 1 + 1 by omega) (.slice none 0 0))
    clear hz h bc1 hB1
    go_wp2_with fail
    clear z0 z1
    have z0 := HC1.out.at_ 0
    have z1 := HC1.out.at_ 1
    simp only [Array.getElem?_setIfInBounds, List.setIfInBounds_toArray, List.getElem?_toArray] at z0 z1
    refine bodyPost_ret (v := .agg #[.int .i64 0, .slice none 0 0]) ?_ rfl ⟨_, _, _, rfl, HL.out⟩
    simp [results, Try.results93, go_sem, z0, z1]
  · have HC := hide (HCM.out W HIW.out HJW.out)
    clear HCM
    obtain rfl : z = 1 := hz.trans (cmpI_gt h)
    go_wp2_with fail
    refine HC.out.mono ?_
    rintro e w1 ⟨rfl, hb1⟩
    clear x0 x1 y0 y1
    have hS1 : Box w1 w.heap.size 81 #[.int .i64 1, .slice A n c] ∧ Box w1 (w.heap.size + 1) 81 #[.int .i64 (-1), .slice B m d] := ⟨ba.below hb1, bb.below hb1⟩
    have bc1 := bc.below hb1
    have hB1 := HB.out.trans (hb1.mono HB.out.size)
    have HI1 := hide (HIW.out.below hb1)
    have HJ1 := hide (HJW.out.below hb1)
    clear hb1 ba bb bc HB HIW HJW HI HJ
    have HSG := hide (HGA.out h)
    have HBC := hide bc1
    have HB1 := hide hB1
    clear hz h bc1 hB1
    go_wp2_with fail
    refine wp_region_held_drew (S := fun w' => Box w' w.heap.size 81 #[.int .i64 1, .slice A n c] ∧ Box w' (w.heap.size + 1) 81 #[.int .i64 (-1), .slice B m d]) (by kernel_rfl) hS1 (fun hHeld => ?_)
    refine wpAnyH_take (i := 0) (oi := ⟨some 37, _, _, _, _, _⟩) (v := ?_) rfl (by kernel_rfl) (by kernel_rfl) (by kernel_rfl) (fun _ _ _ h => h) (Or.inl ⟨by rfl, ?_⟩) (by assumption) ?_
    rotate_left
    · (intro w' hSw; (try dsimp only at hSw); have u0 := hSw.1.at_ 0; have u1 := hSw.1.at_ 1; have v0 := hSw.2.at_ 0; have v1 := hSw.2.at_ 1; simp only [List.getElem?_toArray] at u0 u1 v0 v1; go_simp <;> (with_reducible rfl))
    try simp only [Act.put, List.setIfInBounds_toArray, List.set_cons_zero, List.set_cons_succ]
    refine wpAnyH_take (i := 1) (oi := ⟨some 38, _, _, _, _, _⟩) (v := ?_) rfl (by kernel_rfl) (by kernel_rfl) (by kernel_rfl) (fun _ _ _ h => h) (Or.inl ⟨by rfl, ?_⟩) (by assumption) ?_
    rotate_left
    · (intro w' hSw; (try dsimp only at hSw); have u0 := hSw.1.at_ 0; have u1 := hSw.1.at_ 1; have v0 := hSw.2.at_ 0; have v1 := hSw.2.at_ 1; simp only [List.getElem?_toArray] at u0 u1 v0 v1; go_simp <;> (with_reducible rfl))
    try simp only [Act.put, List.setIfInBounds_toArray, List.set_cons_zero, List.set_cons_succ]
    refine wpAnyH_take (i := 2) (oi := ⟨some 39, _, _, _, _, _⟩) (v := ?_) rfl (by kernel_rfl) (by kernel_rfl) (by kernel_rfl) (fun _ _ _ h => h) (Or.inl ⟨by rfl, ?_⟩) (by assumption) ?_
    rotate_left
    · (intro w' hSw; (try dsimp only at hSw); have u0 := hSw.1.at_ 0; have u1 := hSw.1.at_ 1; have v0 := hSw.2.at_ 0; have v1 := hSw.2.at_ 1; simp only [List.getElem?_toArray] at u0 u1 v0 v1; go_simp <;> (with_reducible rfl))
    try simp only [Act.put, List.setIfInBounds_toArray, List.set_cons_zero, List.set_cons_succ]
    refine wpAnyH_take (i := 3) (oi := ⟨some 40, _, _, _, _, _⟩) (v := ?_) rfl (by kernel_rfl) (by kernel_rfl) (by kernel_rfl) (fun _ _ _ h => h) (Or.inl ⟨by rfl, ?_⟩) (by assumption) ?_
    rotate_left
    · (intro w' hSw; (try dsimp only at hSw); have u0 := hSw.1.at_ 0; have u1 := hSw.1.at_ 1; have v0 := hSw.2.at_ 0; have v1 := hSw.2.at_ 1; simp only [List.getElem?_toArray] at u0 u1 v0 v1; go_simp <;> (with_reducible rfl))
    try simp only [Act.put, List.setIfInBounds_toArray, List.set_cons_zero, List.set_cons_succ]
    refine wpAnyH_take (i := 4) (oi := ⟨some 41, _, _, _, _, _⟩) (v := ?_) rfl (by kernel_rfl) (by kernel_rfl) (by kernel_rfl) (fun _ _ _ h => h) (Or.inl ⟨by rfl, ?_⟩) (by assumption) ?_
    rotate_left
    · (intro w' hSw; (try dsimp only at hSw); have u0 := hSw.1.at_ 0; have u1 := hSw.1.at_ 1; have v0 := hSw.2.at_ 0; have v1 := hSw.2.at_ 1; simp only [List.getElem?_toArray] at u0 u1 v0 v1; go_simp <;> (with_reducible rfl))
    try simp only [Act.put, List.setIfInBounds_toArray, List.set_cons_zero, List.set_cons_succ]
    refine wpAnyH_take (i := 5) (oi := ⟨some 42, _, _, _, _, _⟩) (v := ?_) rfl (by kernel_rfl) (by kernel_rfl) (by kernel_rfl) (fun _ _ _ h => h) (Or.inl ⟨by rfl, ?_⟩) (by assumption) ?_
    rotate_left
    · (intro w' hSw; (try dsimp only at hSw); have u0 := hSw.1.at_ 0; have u1 := hSw.1.at_ 1; have v0 := hSw.2.at_ 0; have v1 := hSw.2.at_ 1; simp only [List.getElem?_toArray] at u0 u1 v0 v1; go_simp <;> (with_reducible rfl))
    try simp only [Act.put, List.setIfInBounds_toArray, List.set_cons_zero, List.set_cons_succ]
    refine wpAnyH_ready (rs := [6]) (by kernel_rfl) (by simp) ?_
    refine AllReadyH.cons (o := ⟨some 43, _, _, _, _, _⟩) rfl (fun K' hK => ?_) AllReadyH.nil
    go_simp
    go_at_call 100
    refine (HSA.out _ (by exact HI1.out) (by exact HJ1.out)).mono ?_
    rintro e w2 ⟨R, r, rfl, hr, hI2, hb2⟩
    have hc2 : Below w1.heap.size w1 w2 := by first | exact hb2 | exact below_of_drew hb2 | exact below_of_drew (below_of_drew hb2)
    have hS2 : Box w2 w.heap.size 81 #[.int .i64 1, .slice A n c] ∧ Box w2 (w.heap.size + 1) 81 #[.int .i64 (-1), .slice B m d] := ⟨hS1.1.below hc2, hS1.2.below hc2⟩
    have HBC2 := hide (HBC.out.below hc2)
    have HB2 := hide (HB1.out.trans (hc2.mono HB1.out.size))
    have HI2 := hide (hI2.weak (Nat.zero_le _))
    clear hb2 hc2 hS1 HBC HB1 HI1 HJ1 hI2
    go_wp2_with fail
    refine hK.out _ _ hS2 (fun hHeld => ?_)
    clear hK K'
    try simp only [Act.put, List.setIfInBounds_toArray, List.set_cons_zero, List.set_cons_succ]
    refine wpAnyH_ready (rs := [7]) (by kernel_rfl) (by simp) ?_
    refine AllReadyH.cons (o := ⟨some 44, _, _, _, _, _⟩) rfl (fun K' hK => ?_) AllReadyH.nil
    go_simp
    go_at_call 78
    refine (HWA.out R r _ hr (by exact HI2.out)).mono ?_
    rintro e w3 ⟨rfl, hb2⟩
    rw [HSG.out]
    have hc3 : Below w2.heap.size w2 w3 := by first | exact hb2 | exact below_of_drew hb2 | exact below_of_drew (below_of_drew hb2)
    have hS3 : Box w3 w.heap.size 81 #[.int .i64 1, .slice A n c] ∧ Box w3 (w.heap.size + 1) 81 #[.int .i64 (-1), .slice B m d] := ⟨hS2.1.below hc3, hS2.2.below hc3⟩
    have bc3 := HBC2.out.below hc3
    have hB3 := HB2.out.trans (hc3.mono HB2.out.size)
    clear hb2 hc3 hS2 HBC2 HB2 HI2
    go_wp2_with fail
    refine hK.out _ _ hS3 (fun hHeld => ?_)
    clear hK K'
    try simp only [Act.put, List.setIfInBounds_toArray, List.set_cons_zero, List.set_cons_succ]
    have f0 := bc3.free 0
    have f1 := bc3.free 1
    have z0 := bc3.at_ 0
    have z1 := bc3.at_ 1
    simp only [List.getElem?_toArray] at z0 z1
    have hlt3 := bc3.lt
    have HC3 := hide ((bc3.set_ 0 (.int .i64 1)).set_ 1 (.slice R (trimN G (trimN G n)) r))
    have HL := hide ((hB3.setCell (p := ⟨w.heap.size + 1 + 1, 0, none⟩) (show w.heap.size ≤ w.heap.size + 1 + 1 by omega) (.int .i64 1)).setCell (p := ⟨w.heap.size + 1 + 1, 1, none⟩) (show w.heap.size ≤ w.heap.size + 1 + 1 by omega) (.slice R (trimN G (trimN G n)) r))
    have HSS := hide (show Box ((w3.setCell ⟨w.heap.size + 1 + 1, 0, none⟩ (.int .i64 1)).setCell ⟨w.heap.size + 1 + 1, 1, none⟩ (.slice R (trimN G (trimN G n)) r)) w.heap.size 81 #[.int .i64 1, .slice A n c] ∧ Box ((w3.setCell ⟨w.heap.size + 1 + 1, 0, none⟩ (.int .i64 1)).setCell ⟨w.heap.size + 1 + 1, 1, none⟩ (.slice R (trimN G (trimN G n)) r)) (w.heap.size + 1) 81 #[.int .i64 (-1), .slice B m d] from ⟨(hS3.1.other (by simp; omega) _).other (by simp; omega) _, (hS3.2.other (by simp) _).other (by simp) _⟩)
    clear hS3 bc3 hB3
    refine wpAnyH_ready (rs := [8]) (by kernel_rfl) (by simp) ?_
    refine AllReadyH.cons (o := ⟨none, _, _, _, _, _⟩) rfl (fun K' hK => ?_) AllReadyH.nil
    go_simp
    refine hK.out _ _ HSS.out (fun hHeld => ?_)
    clear hK K' f0 f1 z0 z1 hlt3
    try simp only [Act.put, List.setIfInBounds_toArray, List.set_cons_zero, List.set_cons_succ]
    refine wpAnyH_done (by kernel_rfl) ?_ _
    go_wp2_with fail
    have z0 := HC3.out.at_ 0
    have z1 := HC3.out.at_ 1
    simp only [Array.getElem?_setIfInBounds, List.setIfInBounds_toArray, List.getElem?_toArray] at z0 z1
    refine bodyPost_ret (v := .agg #[.int .i64 1, .slice R (trimN G (trimN G n)) r]) ?_ rfl ⟨_, _, _, rfl, by have h := HL.out; exact ⟨h.os, h.tape, h.output, h.size, h.block⟩⟩
    simp [results, Try.results93, go_sem, z0, z1]
end Go.Proofs.Ytmncomcdddnnhaa
