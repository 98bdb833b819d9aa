/- Lemmas: Vh, Fg, Eh, Ga, Hc, Hm, He, H0, Sa. -/
import Derived.Laws.OwnMore
import Derived.Shelf.Abstract
import Derived.Test.YtlhbkjgddpelgaaBk01
import Derived.Test.YtlhbkjgddpelgaaBk02
import Derived.Test.YtlhbkjgddpelgaaBk03
import Derived.Test.YtlhbkjgddpelgaaBk04
import Derived.Test.YtlhbkjgddpelgaaBk06
import Derived.Test.YtlhbkjgddpelgaaBk07
import Derived.Test.YtlhbkjgddpelgaaBk08
set_option linter.unusedVariables false
set_option linter.unusedSimpArgs false
/- awake of chapter 4: the document's examples. -/
namespace Go.Proofs.Ytlhbkjgddpelgaa
open Go.RowKit Go.Great
theorem Box.path {w : World} {g lo : Nat} {t : TypeId} {a b c d e f : Int} (h : Box w g t #[.int .i64 a, .int .i64 b, .int .i64 c, .int .i64 d, .int .i64 e, .int .i64 f]) (hl : lo ≤ g) :
    PathsAt w lo (some ⟨g, 0, none⟩) 2 (fun i => if i = 0 then a else d) (fun i => if i = 0 then b else e) (fun i => if i = 0 then c else f) := fun i hi => by
  match i, hi with
  | 0, _ => exact ⟨g, 0, rfl, hl, h.lt, h.at_ 0, h.at_ 1, h.at_ 2⟩
  | 1, _ => exact ⟨g, 0, rfl, hl, h.lt, h.at_ 3, h.at_ 4, h.at_ 5⟩
theorem tDoc : turnedR ⟨0, 0, 0, 1⟩ 1 = ⟨-1, 0, 0, 0⟩ := by rfl
theorem tDocE : turnedE ⟨0, 0, 0, 1⟩ 1 = 0 := by decide
theorem chkDoc : chkE 2 (fun i => if i = 0 then 0 else 1) (fun i => if i = 0 then 1 else 2) (fun i => if i = 0 then 0 else 0) = 0 := by decide
theorem okDoc : PathsOk 2 (fun i => if i = 0 then 0 else 1) (fun i => if i = 0 then 1 else 2) (fun i => if i = 0 then 0 else 0) :=
  ⟨by decide, by decide, fun j hj => by match j, hj with | 0, _ => decide | 1, _ => decide, fun j hj => by match j, hj with | 0, _ => decide | 1, _ => decide⟩
theorem respDoc : respTo (fun i => if i = 0 then 0 else 1) (fun i => if i = 0 then 1 else 2) (fun i => if i = 0 then 0 else 0) 2 2 = ⟨1, 0, -2, 0⟩ := by rfl
def oneF (_ : Nat) : Num := ⟨1, 0, 0, 0⟩
def twoF (i : Nat) : Num := if i = 0 then ⟨1, 0, 0, 0⟩ else ⟨0, 0, 1, 0⟩
theorem offDoc : offR 2 2 oneF twoF = 2 := by kernel_rfl
theorem offDocE : offE 2 2 oneF twoF = 0 := by kernel_rfl
theorem seqDoc0 : seqF 0 0 = -1 := by decide
theorem seqDoc1 : seqF 0 1 = 1 := by decide
theorem Box.two {w : World} {g lo : Nat} {t : TypeId} {a b c d e f p q : Int} (h : Box w g t #[.int .i64 a, .int .i64 b, .int .i64 c, .int .i64 d, .int .i64 e, .int .i64 f, .int .i64 p, .int .i64 q]) (hl : lo ≤ g) (F : Nat → Num) (h0 : F 0 = ⟨a, b, c, d⟩) (h1 : F 1 = ⟨e, f, p, q⟩) :
    NumsAt w lo (some ⟨g, 0, none⟩) 2 F := fun i hi => by
  match i, hi with
  | 0, _ => rw [h0]; exact ⟨g, 0, rfl, hl, h.lt, h.at_ 0, h.at_ 1, h.at_ 2, h.at_ 3⟩
  | 1, _ => rw [h1]; exact ⟨g, 0, rfl, hl, h.lt, h.at_ 4, h.at_ 5, h.at_ 6, h.at_ 7⟩
set_option maxHeartbeats 8000000 in
set_option maxRecDepth 100000 in
theorem awake_any (w : World) : Calls Try.prog 6 #[] w fun e w' => e = .returned (.bool true) ∧ Below w.heap.size w w' := by
  have HT := hide (fun W => Turned_any ⟨0, 0, 0, 1⟩ 1 W)
  rw [tDoc, tDocE] at HT
  have HO := hide (fun A B c d W h k => OffsetOf_any A B 2 c 2 d oneF twoF W (by decide) (by decide) h k)
  rw [offDoc, offDocE] at HO
  have HS := hide (fun W => SequenceOf_right 0 W (by decide))
  go_enter Try.func6, Try.ntmps6
  go_wp2_with fail
  refine (HT.out _).mono ?_
  rintro e w1 ⟨rfl, hb1⟩
  simp only []
  go_wp2_with fail
  obtain ⟨W1, hW1⟩ : ∃ q : World, q = w1.alloc (.cells #[.int .i64 (-1), .int .i64 0, .int .i64 0, .int .i64 0] 51) := ⟨_, rfl⟩
  rw [← hW1]
  obtain ⟨g1, hg1⟩ : ∃ g, g = w1.heap.size := ⟨_, rfl⟩
  have b1 : Box W1 g1 51 #[.int .i64 (-1), .int .i64 0, .int .i64 0, .int .i64 0] := by rw [hW1]; exact Box.made hg1
  have hB1 : Below w.heap.size w W1 := by rw [hW1]; exact hb1.alloc hb1.size _
  have hs1 : w1.heap.size + 1 = W1.heap.size := by rw [hW1]; simp
  rw [hs1, ← hg1]
  clear hW1 hb1 hg1 hs1
  refine (ResponseOf_right _ 2 2 _ _ _ _ okDoc chkDoc ((Box.made rfl).path (Nat.zero_le _))).mono ?_
  rintro e w2 ⟨rfl, hb2⟩
  have hB2 : Below w.heap.size w w2 := hB1.trans ((below_behind hb2).mono hB1.size)
  replace b1 := b1.below (below_behind hb2)
  clear hb2 hB1
  obtain ⟨F, hF⟩ : ∃ F, F = fun k => respTo (fun i => if i = 0 then 0 else 1) (fun i => if i = 0 then 1 else 2) (fun i => if i = 0 then 0 else 0) k 2 := ⟨_, rfl⟩
  have HF := hide (show F 2 = ⟨1, 0, -2, 0⟩ from by rw [hF]; exact respDoc)
  rw [← hF]
  clear hF
  go_upto_region 3 with (first | (refine wpList_store8 rfl (.tmp 3) (.tmp 21) rfl w2.heap.size (fun _ => Num.zero) F rfl rfl (arrNums_alloc w2 _ _ rfl) ?_; intro W3 r3 o3) | (refine wpList_allocTo rfl (some 3) rfl (.pointer (some ⟨w2.heap.size, 0, none⟩)) (.cells (arr8 fun _ => Num.zero) 57) (by kernel_rfl) ?_))
  obtain ⟨g3, hg3⟩ : ∃ g, g = w2.heap.size := ⟨_, rfl⟩
  have hB3 : Below w.heap.size w W3 := (hB2.alloc hB2.size _).trans (o3.to_below hB2.size (Nat.le_trans hB2.size (by simp)))
  replace b1 := o3.box (b1.alloc _) (by have := b1.lt; omega)
  rw [← hg3] at r3
  rw [← hg3]
  clear hg3 o3 hB2
  go_wp2_with fail
  refine (HS.out _).mono ?_
  rintro e w4 ⟨A4, c4, rfl, hc4, hI4, hb4⟩
  replace r3 := r3.below hb4
  replace b1 := b1.below hb4
  have hB4 := hB3.trans (hb4.mono hB3.size)
  clear hb4 hB3
  go_wp2_with fail
  refine (HO.out _ _ _ _ _ (((Box.made rfl).two (Nat.zero_le _) oneF rfl rfl).alloc _) ((Box.made (by simp)).two (Nat.zero_le _) twoF rfl rfl)).mono ?_
  rintro e w5 ⟨rfl, hb5⟩
  have hc5 := below_behind (below_behind hb5)
  replace r3 := r3.below hc5
  replace b1 := b1.below hc5
  replace hI4 := hI4.below hc5
  have hB5 := hB4.trans (hc5.mono hB4.size)
  obtain ⟨b0, o0, rfl, -, -, i0⟩ := hI4 0 (by decide)
  obtain ⟨b0', o0', e0', -, -, i1⟩ := hI4 1 (by decide)
  injection e0' with e0'
  injection e0' with e1' e2'
  subst e1' e2'
  rw [seqDoc0, Nat.add_zero] at i0
  rw [seqDoc1] at i1
  have y0 := r3.part (show 2 < 8 by decide) (show 0 < 4 by decide)
  have y1 := r3.part (show 2 < 8 by decide) (show 1 < 4 by decide)
  have y2 := r3.part (show 2 < 8 by decide) (show 2 < 4 by decide)
  have y3 := r3.part (show 2 < 8 by decide) (show 3 < 4 by decide)
  rw [HF.out] at y0 y1 y2 y3
  replace y0 : w5.cell? ⟨g3, 8, none⟩ = some (.int .i64 1) := y0
  replace y1 : w5.cell? ⟨g3, 9, none⟩ = some (.int .i64 0) := y1
  replace y2 : w5.cell? ⟨g3, 10, none⟩ = some (.int .i64 (-2)) := y2
  replace y3 : w5.cell? ⟨g3, 11, none⟩ = some (.int .i64 0) := y3
  obtain ⟨x0, x1, x2, x3, -, -, -, -, -⟩ := b1.cells4
  clear r3 b1 hI4 hb5 hB4 hc5 HF HO HS HT
  go_wp2_with fail
  go_ret
  exact ⟨rfl, hB5⟩
end Go.Proofs.Ytlhbkjgddpelgaa
/- base.AreBits -/
namespace Go.Proofs.Ytlhbkjgddpelgaa
open Go.RowKit
end Go.Proofs.Ytlhbkjgddpelgaa
/- exploring: CheckPolar -/
namespace Go.Proofs.Ytlhbkjgddpelgaa
open Go.RowKit
/-- A right polar code: n positions F, ascending, below 2 to the power p. -/
structure PolarOk (p n : Nat) (F : Nat → Int) : Prop where
  power : p ≤ 6
  some_ : 0 < n
  range : ∀ k, k < n → 0 ≤ F k ∧ F k ≤ 2 ^ p - 1
  order : ∀ k, k + 1 < n → F k < F (k + 1)
def beforeI (F : Nat → Int) : Nat → Int
  | 0 => -1
  | k + 1 => F k
end Go.Proofs.Ytlhbkjgddpelgaa
/- Mod, power, small, kindErr, BitsErr, Length, CopyPolar of the reference and the law. -/
namespace Go.Proofs.Ytlhbkjgddpelgaa
open Go.RowKit

def bitsErrR (n : Nat) (F : Nat → Int) : Int := if n = 0 then 10 else if 200 < n then 8 else if bitsB n F = true then 0 else 15
theorem bitsErrR_zero {n : Nat} {F : Nat → Int} (h : bitsErrR n F = 0) : 0 < n ∧ n ≤ 200 ∧ ∀ k, k < n → IsBit (F k) := by
  unfold bitsErrR at h
  by_cases h1 : n = 0
  · rw [if_pos h1] at h; exact absurd h (by decide)
  · rw [if_neg h1] at h
    by_cases h2 : 200 < n
    · rw [if_pos h2] at h; exact absurd h (by decide)
    · rw [if_neg h2] at h
      by_cases h3 : bitsB n F = true
      · exact ⟨by omega, by omega, bitsB_iff.1 h3⟩
      · rw [if_neg h3] at h; exact absurd h (by decide)

end Go.Proofs.Ytlhbkjgddpelgaa
/- BitsOf. -/
namespace Go.Proofs.Ytlhbkjgddpelgaa
open Go.RowKit
/-- The bits of a number, the greatest power first. -/
def bitsOfF (t n : Nat) (j : Nat) : Int := ((t / 2 ^ (n - 1 - j) % 2 : Nat) : Int)
end Go.Proofs.Ytlhbkjgddpelgaa
/- A burst is caught: mathematics of remainders. -/
namespace Go.Proofs.Ytlhbkjgddpelgaa
/-- The bit that a step of the division carries out. -/
def carryB (d s b : Nat) : Bool := decide ((s >>> (d - 1)) ^^^ b = 1)
theorem carry_bit {d s b : Nat} (h0 : 1 ≤ d) (hs : s < 2 ^ d) (hb : b ≤ 1) : carryB d s b = (s.testBit (d - 1) ^^ decide (b = 1)) := by
  have h1 : s >>> (d - 1) ≤ 1 := by
    rw [Nat.shiftRight_eq_div_pow]
    have : 2 ^ d = 2 ^ (d - 1) * 2 := by rw [← Nat.pow_succ]; congr 1; omega
    have := Nat.div_lt_of_lt_mul (show s < 2 ^ (d - 1) * 2 by omega)
    omega
  have h2 : s.testBit (d - 1) = decide (s >>> (d - 1) = 1) := by
    rw [Nat.testBit, Nat.one_and_eq_mod_two]
    generalize s >>> (d - 1) = x at *
    have : x = 0 ∨ x = 1 := by omega
    rcases this with rfl | rfl <;> rfl
  rw [h2]
  unfold carryB
  generalize s >>> (d - 1) = x at *
  have hx : x = 0 ∨ x = 1 := by omega
  have hy : b = 0 ∨ b = 1 := by omega
  rcases hx with rfl | rfl <;> rcases hy with rfl | rfl <;> rfl
theorem step_bit {d t s b : Nat} (ht : t < 2 ^ d) {i : Nat} (hi : i < d) : (remStep d t s b).testBit i = ((decide (0 < i) && s.testBit (i - 1)) ^^ (carryB d s b && t.testBit i)) := by
  have e : (2 * s % 2 ^ d).testBit i = (decide (0 < i) && s.testBit (i - 1)) := by
    rw [Nat.testBit_mod_two_pow, decide_eq_true hi, Bool.true_and]
    cases i with
    | zero => simp [Nat.testBit_zero]
    | succ j => rw [Nat.testBit_succ, Nat.mul_div_cancel_left _ (by decide)]; simp
  unfold remStep carryB
  by_cases h : (s >>> (d - 1)) ^^^ b = 1
  · rw [if_pos h, decide_eq_true h, Nat.testBit_xor, e, Bool.true_and]
  · rw [if_neg h, decide_eq_false h, e, Bool.false_and, Bool.xor_false]
theorem bxor_cancel : ∀ {a b c : Bool}, (a ^^ c) = (b ^^ c) → a = b := by decide
theorem bxor_cancel' : ∀ {a b c : Bool}, (c ^^ a) = (c ^^ b) → a = b := by decide
/-- Two registers differ at a bit of at most this number. -/
def Far (k s s' : Nat) : Prop := ∃ i, i ≤ k ∧ s.testBit i ≠ s'.testBit i
theorem step_far {d t s s' b b' k : Nat} (h0 : 1 ≤ d) (ht : t < 2 ^ d) (todd : t % 2 = 1) (h : Far k s s') (hk : k + 1 < d) : Far (k + 1) (remStep d t s b) (remStep d t s' b') := by
  obtain ⟨i, hi, hne⟩ := h
  have t0 : t.testBit 0 = true := by rw [Nat.testBit_zero]; simp [todd]
  by_cases hc : carryB d s b = carryB d s' b'
  · refine ⟨i + 1, by omega, ?_⟩
    rw [step_bit ht (by omega), step_bit ht (by omega), hc]
    intro h
    have h := bxor_cancel h
    rw [decide_eq_true (Nat.succ_pos i), Bool.true_and, Bool.true_and] at h
    exact hne h
  · refine ⟨0, by omega, ?_⟩
    rw [step_bit ht (by omega), step_bit ht (by omega), t0]
    intro h
    have h := bxor_cancel' h
    rw [Bool.and_true, Bool.and_true] at h
    exact hc h
/-- A further bit that differs. -/
theorem step_new {d t s b b' : Nat} (h0 : 1 ≤ d) (ht : t < 2 ^ d) (todd : t % 2 = 1) (hs : s < 2 ^ d) (hb : b ≤ 1) (hb' : b' ≤ 1) (hne : b ≠ b') : Far 0 (remStep d t s b) (remStep d t s b') := by
  have t0 : t.testBit 0 = true := by rw [Nat.testBit_zero]; simp [todd]
  refine ⟨0, by omega, ?_⟩
  rw [step_bit ht (by omega), step_bit ht (by omega), t0, carry_bit h0 hs hb, carry_bit h0 hs hb']
  have hx : b = 0 ∨ b = 1 := by omega
  have hy : b' = 0 ∨ b' = 1 := by omega
  rcases hx with rfl | rfl <;> rcases hy with rfl | rfl <;> simp at hne ⊢
/-- The same bit behind different registers: they stay different. -/
theorem step_ne {d t s s' b : Nat} (h0 : 1 ≤ d) (ht : t < 2 ^ d) (todd : t % 2 = 1) (hs : s < 2 ^ d) (hs' : s' < 2 ^ d) (hb : b ≤ 1) (hne : s ≠ s') : remStep d t s b ≠ remStep d t s' b := by
  have t0 : t.testBit 0 = true := by rw [Nat.testBit_zero]; simp [todd]
  intro h
  apply hne
  have hc : carryB d s b = carryB d s' b := by
    have this : (remStep d t s b).testBit 0 = (remStep d t s' b).testBit 0 := by rw [h]
    rw [step_bit ht (by omega), step_bit ht (by omega), t0] at this
    simpa using this
  refine Nat.eq_of_testBit_eq fun i => ?_
  by_cases hi : i < d
  · by_cases hl : i = d - 1
    · have h1 := carry_bit h0 hs hb
      have h2 := carry_bit h0 hs' hb
      rw [hc, h2] at h1
      subst hl
      exact (bxor_cancel h1).symm
    · have this : (remStep d t s b).testBit (i + 1) = (remStep d t s' b).testBit (i + 1) := by rw [h]
      rw [step_bit ht (by omega), step_bit ht (by omega), hc] at this
      have h := bxor_cancel this
      rw [decide_eq_true (Nat.succ_pos i), Bool.true_and, Bool.true_and] at h
      exact h
  · have hle : 2 ^ d ≤ 2 ^ i := Nat.pow_le_pow_right (by decide) (by omega)
    rw [Nat.testBit_lt_two_pow (Nat.lt_of_lt_of_le hs hle), Nat.testBit_lt_two_pow (Nat.lt_of_lt_of_le hs' hle)]
theorem IsBit.nat {x : Int} (h : IsBit x) : x.toNat ≤ 1 := by have := h.le; omega
/-- Behind a burst of at most d bits the registers differ. -/
theorem burst_far {d t : Nat} {F G : Nat → Int} (h0 : 1 ≤ d) (ht : t < 2 ^ d) (todd : t % 2 = 1) (hF : ∀ k, IsBit (F k)) (hG : ∀ k, IsBit (G k)) {a m : Nat} (hs : remF d t F m = remF d t G m) (ham : a ≤ m) (hma : m < a + d) (hne : F m ≠ G m) :
    ∀ k, m + 1 + k ≤ a + d → Far k (remF d t F (m + 1 + k)) (remF d t G (m + 1 + k))
  | 0, _ => by
    show Far 0 (remStep d t (remF d t F m) (F m).toNat) (remStep d t (remF d t G m) (G m).toNat)
    rw [← hs]
    refine step_new h0 ht todd (remF_lt F ht m) (hF m).nat (hG m).nat fun e => hne ?_
    have := (hF m).le
    have := (hG m).le
    omega
  | k + 1, hk => step_far h0 ht todd (burst_far h0 ht todd hF hG hs ham hma hne k (by omega)) (by omega)
theorem remF_congr {d t : Nat} {F G : Nat → Int} : ∀ {n}, (∀ k, k < n → F k = G k) → remF d t F n = remF d t G n
  | 0, _ => rfl
  | n + 1, h => by
    show remStep d t (remF d t F n) (F n).toNat = remStep d t (remF d t G n) (G n).toNat
    rw [remF_congr fun k hk => h k (by omega), h n (by omega)]
/-- The word of n bits and their check ends with a register of 0. -/
theorem right_zero {d t n : Nat} {F : Nat → Int} (h0 : 1 ≤ d) (ht : t < 2 ^ d) (hr : ∀ j, j < d → F (n + j) = remB d t n F j) :
    ∀ j, j ≤ d → ∀ i, i < d → (remF d t F (n + j)).testBit i = (decide (j ≤ i) && (remF d t F n).testBit (i - j))
  | 0, _, i, hi => by simp
  | j + 1, hj, i, hi => by
    have ih := right_zero h0 ht hr j (by omega)
    have hb : (F (n + j)).toNat = remF d t F n >>> (d - 1 - j) &&& 1 := by rw [hr j (by omega)]; unfold remB; omega
    have hb1 : (F (n + j)).toNat ≤ 1 := by rw [hb, Nat.and_one_is_mod]; omega
    have hc : carryB d (remF d t F (n + j)) (F (n + j)).toNat = false := by
      rw [carry_bit h0 (remF_lt F ht _) hb1, ih (d - 1) (by omega), decide_eq_true (show j ≤ d - 1 by omega), Bool.true_and, hb, Nat.testBit, Nat.one_and_eq_mod_two, Nat.and_one_is_mod]
      generalize remF d t F n >>> (d - 1 - j) = x
      have : x % 2 = 0 ∨ x % 2 = 1 := by omega
      rcases this with h | h <;> rw [h] <;> rfl
    show (remStep d t (remF d t F (n + j)) (F (n + j)).toNat).testBit i = _
    rw [step_bit ht hi, hc, Bool.false_and, Bool.xor_false]
    by_cases h : 0 < i
    · rw [ih (i - 1) (by omega), decide_eq_true h, Bool.true_and]
      by_cases h2 : j + 1 ≤ i
      · rw [decide_eq_true h2, decide_eq_true (show j ≤ i - 1 by omega), show i - 1 - j = i - (j + 1) by omega]
      · rw [decide_eq_false h2, decide_eq_false (show ¬ j ≤ i - 1 by omega), Bool.false_and, Bool.false_and]
    · rw [decide_eq_false h, decide_eq_false (show ¬ j + 1 ≤ i by omega), Bool.false_and, Bool.false_and]
theorem right_end {d t n : Nat} {F : Nat → Int} (h0 : 1 ≤ d) (ht : t < 2 ^ d) (hr : ∀ j, j < d → F (n + j) = remB d t n F j) : remF d t F (n + d) = 0 := by
  refine Nat.eq_of_testBit_eq fun i => ?_
  rw [Nat.zero_testBit]
  by_cases hi : i < d
  · rw [right_zero h0 ht hr d (Nat.le_refl _) i hi, decide_eq_false (by omega), Bool.false_and]
  · exact Nat.testBit_lt_two_pow (Nat.lt_of_lt_of_le (remF_lt F ht _) (Nat.pow_le_pow_right (by decide) (by omega)))
/-- A BURST IS CAUGHT. -/
theorem burst_caught {d t n a : Nat} {F G : Nat → Int} (h0 : 1 ≤ d) (ht : t < 2 ^ d) (todd : t % 2 = 1) (hF : ∀ k, IsBit (F k)) (hG : ∀ k, IsBit (G k)) (ha : a ≤ n) (hlo : ∀ k, k < a → F k = G k) (hhi : ∀ k, a + d ≤ k → k < n + d → F k = G k)
    (hne : ∃ k, a ≤ k ∧ k < a + d ∧ F k ≠ G k) (hr : ∀ j, j < d → F (n + j) = remB d t n F j) : ¬ ∀ j, j < d → G (n + j) = remB d t n G j := by
  intro hr'
  have e1 := right_end h0 ht hr
  have e2 := right_end h0 ht hr'
  -- the first place that differs
  have hmin : ∃ m, a ≤ m ∧ m < a + d ∧ F m ≠ G m ∧ ∀ k, k < m → F k = G k := by
    obtain ⟨k, hk⟩ := hne
    induction k using Nat.strongRecOn with
    | ind k ih =>
      by_cases h : ∀ j, j < k → F j = G j
      · exact ⟨k, hk.1, hk.2.1, hk.2.2, h⟩
      · obtain ⟨j, h⟩ := Classical.not_forall.1 h
        obtain ⟨hj, h⟩ := Classical.not_imp.1 h
        exact ih j hj ⟨Nat.le_of_not_lt fun hh => h (hlo j hh), by omega, h⟩
  obtain ⟨m, h1, h2, h3, h4⟩ := hmin
  have hf := burst_far h0 ht todd hF hG (remF_congr h4) h1 h2 h3 (a + d - (m + 1)) (by omega)
  rw [show m + 1 + (a + d - (m + 1)) = a + d by omega] at hf
  have hlast : ∀ k, a + d + k ≤ n + d → remF d t F (a + d + k) ≠ remF d t G (a + d + k) := by
    intro k
    induction k with
    | zero => intro _ e; obtain ⟨i, -, hi⟩ := hf; exact hi (by rw [show a + d + 0 = a + d from rfl] at e; rw [e])
    | succ k ih =>
      intro hk
      have e := hhi (a + d + k) (by omega) (by omega)
      show remStep d t (remF d t F (a + d + k)) (F (a + d + k)).toNat ≠ remStep d t (remF d t G (a + d + k)) (G (a + d + k)).toNat
      rw [← e]
      exact step_ne h0 ht todd (remF_lt F ht _) (remF_lt G ht _) (hF _).nat (ih (by omega))
  have := hlast (n - a) (by omega)
  rw [show a + d + (n - a) = n + d by omega] at this
  exact this (e1.trans e2.symm)
end Go.Proofs.Ytlhbkjgddpelgaa
/- A copy that is the law's own: cells read, stored; a pattern that is not 0 has a 1. -/
namespace Go.Proofs.Ytlhbkjgddpelgaa
open Go.RowKit Go.Lib
theorem OwnInts.cap_any {w : World} {base n c : Nat} {A : Option Addr} {F : Nat → Int} (h : OwnInts w base (.slice A n c) n F) : n ≤ c ∧ c ≤ 9223372036854775807 := by
  have hm9 : maxLen ≤ 9223372036854775807 := by decide
  rcases h.2 with ⟨h1, h2⟩ | ⟨g, cap, cur, h1, -, -, hn, hm, -⟩
  · injection h1 with _ _ h3
    omega
  · injection h1 with _ _ h3
    omega
theorem OwnInts.row {w : World} {base n : Nat} {v : Value} {F : Nat → Int} (h : OwnInts w base v n F) (hn : 0 < n) : ∃ g cap, v = .slice (some ⟨g, 0, none⟩) n cap ∧ base ≤ g ∧ g < w.heap.size := by
  rcases h.2 with ⟨h1, h2⟩ | ⟨g, cap, cur, h1, hb, hg, -⟩
  · omega
  · exact ⟨g, cap, h1, hb, by
      rcases Nat.lt_or_ge g w.heap.size with h' | h'
      · exact h'
      · rw [Array.getElem?_eq_none h'] at hg; cases hg⟩
theorem OwnInts.cellAt {w : World} {base n g c : Nat} {F : Nat → Int} (h : OwnInts w base (.slice (some ⟨g, 0, none⟩) n c) n F) {k : Nat} (hk : k < n) : w.cell? ⟨g, k, none⟩ = some (.int .i64 (F k)) := by
  rw [World.ownsRow.cellAt h k (by omega), intCells_get, if_pos hk]
theorem OwnInts.frozen {w : World} {base n g c : Nat} {F : Nat → Int} (h : OwnInts w base (.slice (some ⟨g, 0, none⟩) n c) n F) (k : Nat) : w.frozen? ⟨g, k, none⟩ = false := World.ownsRow.frozenAt h k
def setF (F : Nat → Int) (k : Nat) (x : Int) (j : Nat) : Int := if j = k then x else F j
theorem OwnInts.set_ {w : World} {base n g c : Nat} {F : Nat → Int} (h : OwnInts w base (.slice (some ⟨g, 0, none⟩) n c) n F) (k : Nat) (x : Int) : OwnInts (w.setCell ⟨g, k, none⟩ (.int .i64 x)) base (.slice (some ⟨g, 0, none⟩) n c) n (setF F k x) := by
  have h1 := (World.ownsRow.stored h k (.int .i64 x)).1
  have e : (intCells n F).set k (.int .i64 x) = intCells n (setF F k x) := by
    apply List.ext_getElem?
    intro j
    rw [List.getElem?_set, intCells_get, intCells_get, intCells_len]
    unfold setF
    by_cases e : k = j
    · subst e
      by_cases hk : k < n
      · rw [if_pos rfl, if_pos hk, if_pos hk, if_pos rfl]
      · rw [if_pos rfl, if_neg hk, if_neg hk]
    · rw [if_neg e, if_neg (show ¬ j = k from fun h => e h.symm)]
  rw [e] at h1
  exact h1
set_option maxHeartbeats 1000000 in
theorem copyInts_own (A : Option Addr) (n c : Nat) (F : Nat → Int) (w : World) (hn : n ≤ 100000000) (hI : IntsAt w 0 A n F) :
    Calls Try.prog 8 #[.slice A n c] w fun e w' => ∃ v, e = .returned v ∧ OwnInts w' w.heap.size v n F ∧ Below w.heap.size w w' := by
  go_enter Try.func8, Try.ntmps8
  go_wp2_with (at_builtin; refine wpList_append_ints _ rfl (.tmp 3) (.tmp 4) rfl w.heap.size 0 (.slice (some ⟨w.heap.size, 0, none⟩) 0 0) 0 F rfl (World.ownsRow_made w #[] 0 (Nat.le_refl _) (by unfold maxLen; omega) rfl) A n c F rfl (hI.alloc _) (by omega) (by simp) ?_; intro v' w' h1 hb1)
  go_ret
  have hB : Below w.heap.size w w' := ((Below.refl _ _).alloc (Nat.le_refl _) _).trans hb1
  rw [Nat.zero_add] at h1
  exact ⟨_, rfl, h1.congr fun j _ => by simp [catF], hB⟩
theorem bitsOfF_bit (x d j : Nat) : IsBit (bitsOfF x d j) := by
  unfold bitsOfF IsBit
  omega
theorem pat_some {x d : Nat} (h0 : 0 < x) (h1 : x < 2 ^ d) : ∃ j, j < d ∧ bitsOfF x d j = 1 := by
  refine Classical.byContradiction fun hno => ?_
  have hz : x = 0 := by
    refine Nat.eq_of_testBit_eq fun i => ?_
    rw [Nat.zero_testBit]
    by_cases hi : i < d
    · rw [Nat.testBit_eq_decide_div_mod_eq, decide_eq_false]
      intro h
      refine hno ⟨d - 1 - i, by omega, ?_⟩
      unfold bitsOfF
      rw [show d - 1 - (d - 1 - i) = i by omega, h]
      rfl
    · exact Nat.testBit_lt_two_pow (Nat.lt_of_lt_of_le h1 (Nat.pow_le_pow_right (by decide) (by omega)))
  omega
end Go.Proofs.Ytlhbkjgddpelgaa
/- Lists of lists of numbers: read, made by appending (the part of Ma of chapter 2 that needs no polynomials). -/
namespace Go.Proofs.Ytlhbkjgddpelgaa
open Go.RowKit Go.Shelf
/-- A slice of n slices; the slice i has L i numbers F i. -/
def ListsAt (w : World) (lo : Nat) (A : Option Addr) (n : Nat) (L : Nat → Nat) (F : Nat → Nat → Int) : Prop :=
  ∀ i, i < n → ∃ b o Ai ci, A = some ⟨b, o, none⟩ ∧ lo ≤ b ∧ b < w.heap.size ∧ w.cell? ⟨b, o + i, none⟩ = some (.slice Ai (L i) ci) ∧ L i ≤ ci ∧ ci ≤ 9223372036854775807 ∧ IntsAt w lo Ai (L i) (F i)
section
variable {w w' : World} {lo n : Nat} {A : Option Addr} {L : Nat → Nat} {F : Nat → Nat → Int}
theorem ListsAt.nil_ : ListsAt w lo A 0 L F := fun i h => absurd h (Nat.not_lt_zero i)
theorem ListsAt.below (h : ListsAt w lo A n L F) (hb : Below w.heap.size w w') : ListsAt w' lo A n L F := fun i hi => by
  obtain ⟨b, o, Ai, ci, e, h1, h2, h3, h4, h5, h6⟩ := h i hi
  exact ⟨b, o, Ai, ci, e, h1, Nat.lt_of_lt_of_le h2 hb.size, (hb.cell (p := ⟨b, o + i, none⟩) h2).trans h3, h4, h5, h6.below hb⟩
theorem ListsAt.alloc (h : ListsAt w lo A n L F) (x : Obj) : ListsAt (w.alloc x) lo A n L F := h.below ((Below.refl _ _).alloc (Nat.le_refl _) _)
theorem ListsAt.drewN (h : ListsAt w lo A n L F) (m : Nat) : ListsAt (w.drewN m) lo A n L F := h
theorem ListsAt.weak {lo' : Nat} (h : ListsAt w lo A n L F) (hl : lo' ≤ lo) : ListsAt w lo' A n L F := fun i hi => by
  obtain ⟨b, o, Ai, ci, e, h1, h2, h3, h4, h5, h6⟩ := h i hi
  exact ⟨b, o, Ai, ci, e, Nat.le_trans hl h1, h2, h3, h4, h5, h6.weak hl⟩
theorem IntsAt.block {b o k : Nat} {G : Nat → Int} (h : IntsAt w lo (some ⟨b, o, none⟩) n G) (hk : k < n) : lo ≤ b ∧ b < w.heap.size := by
  obtain ⟨b', o', e, h1, h2, -⟩ := h k hk
  injection e with e; injection e with e1 e2; subst e1
  exact ⟨h1, h2⟩
end
theorem OwnInts.block {w : World} {base n c b o : Nat} {m : Option Nat} {F : Nat → Int} (h : OwnInts w base (.slice (some ⟨b, o, none⟩) n c) n F) : base ≤ b ∧ b < w.heap.size := by
  rcases h.2 with ⟨h1, -⟩ | ⟨g, cap, cur, h1, hb, hg, -⟩
  · simp at h1
  · injection h1 with e1; injection e1 with e1; injection e1 with e1; subst e1
    exact ⟨hb, (Array.getElem?_eq_some_iff.1 hg).1⟩
/-- A slice of slices of the call's own: its row, and rows of numbers in other blocks. -/
def OwnLists (w : World) (base : Nat) (v : Value) (n : Nat) (L : Nat → Nat) (F : Nat → Nat → Int) : Prop :=
  ∃ xs : List Value, w.ownsRow base 22 1 v n xs ∧ ∀ i, i < n → ∃ Ai ci, xs[i]? = some (.slice Ai (L i) ci) ∧ L i ≤ ci ∧ ci ≤ 9223372036854775807 ∧ IntsAt w base Ai (L i) (F i) ∧ ∀ b o, Ai = some ⟨b, o, none⟩ → v.ownBlock ≠ some b ∧ b < w.heap.size
section
variable {w w' : World} {base n : Nat} {v : Value} {L : Nat → Nat} {F : Nat → Nat → Int}
theorem OwnLists.nil_ (w : World) (base : Nat) (L : Nat → Nat) (F : Nat → Nat → Int) : OwnLists w base (.slice none 0 0) 0 L F := ⟨[], World.ownsRow_nil _ _ _ _, fun i h => absurd h (Nat.not_lt_zero i)⟩
theorem OwnLists.below (h : OwnLists w base v n L F) (hb : Below w.heap.size w w') : OwnLists w' base v n L F := by
  obtain ⟨xs, h1, h2⟩ := h
  refine ⟨xs, World.ownsRow.kept h1 (row := none) ⟨hb.os, hb.tape, hb.output, hb.size, fun k hk _ => hb.block k hk⟩ (by cases v.ownBlock <;> simp), fun i hi => ?_⟩
  obtain ⟨Ai, ci, e, h3, h4, h5, h6⟩ := h2 i hi
  exact ⟨Ai, ci, e, h3, h4, h5.below hb, fun b o e => ⟨(h6 b o e).1, Nat.lt_of_lt_of_le (h6 b o e).2 hb.size⟩⟩
theorem OwnLists.alloc (h : OwnLists w base v n L F) (o : Obj) : OwnLists (w.alloc o) base v n L F := h.below ((Below.refl _ _).alloc (Nat.le_refl _) _)
theorem OwnLists.drew (h : OwnLists w base v n L F) : OwnLists w.drew base v n L F := h
theorem OwnLists.drewN (h : OwnLists w base v n L F) (q : Nat) : OwnLists (w.drewN q) base v n L F := h
theorem OwnLists.congr {L' : Nat → Nat} {F' : Nat → Nat → Int} (h : OwnLists w base v n L F) (e : ∀ i, i < n → L i = L' i ∧ ∀ k, k < L i → F i k = F' i k) : OwnLists w base v n L' F' := by
  obtain ⟨xs, h1, h2⟩ := h
  refine ⟨xs, h1, fun i hi => ?_⟩
  obtain ⟨Ai, ci, g, h3, h4, h5, h6⟩ := h2 i hi
  obtain ⟨e1, e2⟩ := e i hi
  exact ⟨Ai, ci, by rw [← e1]; exact g, by omega, h4, by rw [← e1]; exact h5.congr e2, h6⟩
theorem OwnLists.form (h : OwnLists w base v n L F) : ∃ A c, v = .slice A n c ∧ n ≤ c ∧ c ≤ 9223372036854775807 ∧ ListsAt w base A n L F := by
  obtain ⟨xs, h1, h2⟩ := h
  have hm9 : maxLen ≤ 9223372036854775807 := by decide
  rcases h1.2 with ⟨rfl, rfl⟩ | ⟨g, cap, cur, rfl, hb, hg, hnc, hm, -⟩
  · exact ⟨_, _, rfl, Nat.le_refl _, by decide, ListsAt.nil_⟩
  · refine ⟨_, _, rfl, hnc, by omega, fun i hi => ?_⟩
    obtain ⟨Ai, ci, e, h3, h4, h5, h6⟩ := h2 i hi
    have hc := World.ownsRow.cells h1 (g := g) rfl i _ e
    rw [Addr.add_lit] at hc
    exact ⟨g, 0, Ai, ci, rfl, hb, (Array.getElem?_eq_some_iff.1 hg).1, hc, h3, h4, h5⟩
theorem OwnLists.lt (h : OwnLists w base v n L F) {k : Nat} (hk : v.ownBlock = some k) : base ≤ k ∧ k < w.heap.size := by
  obtain ⟨xs, h1, -⟩ := h
  exact World.ownsRow.lt h1 k hk
end
theorem IntsAt.grown {w w' : World} {lo n : Nat} {A : Option Addr} {G : Nat → Int} {row : Option Nat} (h : IntsAt w lo A n G) (hg : w.grownBy w' row) (ha : ∀ b o, A = some ⟨b, o, none⟩ → row ≠ some b) : IntsAt w' lo A n G := fun k hk => by
  obtain ⟨b, o, e, h1, h2, h3⟩ := h k hk
  exact ⟨b, o, e, h1, Nat.lt_of_lt_of_le h2 hg.size, (World.cell?_of_block (a := ⟨b, o + k, none⟩) (hg.block b h2 (fun x => ha b o e x.symm))).trans h3⟩
def snocN (n : Nat) (L : Nat → Nat) (m : Nat) (i : Nat) : Nat := if i < n then L i else m
def snocF (n : Nat) (F : Nat → Nat → Int) (G : Nat → Int) (i : Nat) : Nat → Int := if i < n then F i else G
theorem listInfo : (Try.prog.info? 22).map (fun i => (i.zero, i.size, i.bytes)) = some (some (.slice none 0 0), 1, 24) := by kernel_rfl
set_option maxRecDepth 100000 in
theorem run_append_list (w : World) (ty : TypeId) (base : Nat) (v : Value) (n : Nat) (L : Nat → Nat) (F : Nat → Nat → Int) (hown : OwnLists w base v n L F)
    (g1 : Nat) (A : Option Addr) (m c : Nat) (G : Nat → Int) (hc : w.cell? ⟨g1, 0, none⟩ = some (.slice A m c)) (hmc : m ≤ c) (hc9 : c ≤ 9223372036854775807) (hr : IntsAt w base A m G) (ha : ∀ b o, A = some ⟨b, o, none⟩ → v.ownBlock ≠ some b ∧ b < w.heap.size) (hn : n ≤ 1000000) (hbase : base ≤ w.heap.size) :
    ∃ v' w', (Builtin.append_ #[65, 65] ty #[v, .slice (some ⟨g1, 0, none⟩) 1 1]).run Try.prog w = .ok v' w' ∧ OwnLists w' base v' (n + 1) (snocN n L m) (snocF n F G) ∧ Below base w w' ∧ w.grownBy w' v.ownBlock := by
  obtain ⟨i0, hi, hz0, hz1, hz2⟩ := info_parts listInfo
  obtain ⟨xs, h1, h2⟩ := hown
  have hlen : xs.length = n := by rw [h1.1, Nat.mul_one]
  obtain ⟨v', w', hrun, hown', hg, -, hblk⟩ := run_append_own_at (P := Try.prog) w base 65 ty 22 i0 (.slice none 0 0) 1 24 Try.underlying65 hi hz0 hz1 hz2 rfl (by decide) v n xs h1 ⟨g1, 0, none⟩ 1 1 [.slice A m c] rfl
    (fun j u hu => by
      match j, hu with
      | 0, hu =>
        simp at hu
        subst hu
        exact hc
      | j + 1, hu => simp at hu)
    (fun u hu => by
      simp at hu
      subst hu
      rfl) (by unfold maxLen; omega) (by omega) hbase
  have hb : Below base w w' := (Below.refl _ _).grown hg hbase (fun k hk => (World.ownsRow.lt h1 k hk).1)
  refine ⟨v', w', hrun, ⟨_, hown', fun i hi => ?_⟩, hb, hg⟩
  have apart : ∀ (B : Option Addr), (∀ b o, B = some ⟨b, o, none⟩ → v.ownBlock ≠ some b ∧ b < w.heap.size) → ∀ b o, B = some ⟨b, o, none⟩ → v'.ownBlock ≠ some b ∧ b < w'.heap.size := fun B hB b o e => by
    obtain ⟨x1, x2⟩ := hB b o e
    refine ⟨?_, Nat.lt_of_lt_of_le x2 hg.size⟩
    rcases hblk with y | y
    · rw [y]; exact x1
    · rw [y]; intro z; injection z with z; omega
  by_cases hin : i < n
  · obtain ⟨Ai, ci, e, h3, h4, h5, h6⟩ := h2 i hin
    unfold snocN snocF
    rw [if_pos hin, if_pos hin]
    exact ⟨Ai, ci, by rw [List.getElem?_append_left (by omega)]; exact e, h3, h4, h5.grown hg (fun b o e => (h6 b o e).1), apart Ai h6⟩
  · have hi' : i = n := by omega
    unfold snocN snocF
    rw [if_neg hin, if_neg hin]
    refine ⟨A, c, ?_, hmc, hc9, hr.grown hg (fun b o e => (ha b o e).1), apart A ha⟩
    rw [List.getElem?_append_right (by omega), hlen, hi', Nat.sub_self]
    rfl
theorem wp_append_list {o : Oper} {a : Act} {K : Act → World → Prop} {Q : Exit → Act → World → Prop} (w : World) (s x : Operand)
    (ho : o.op = .call { callee := .builtin .append, args := #[s, x], argTypes := #[65, 65] })
    (base : Nat) (v : Value) (n : Nat) (L : Nat → Nat) (F : Nat → Nat → Int) (hs : a.eval s = v) (hown : OwnLists w base v n L F)
    (g1 : Nat) (A : Option Addr) (m c : Nat) (G : Nat → Int) (hx : a.eval x = .slice (some ⟨g1, 0, none⟩) 1 1) (hc : w.cell? ⟨g1, 0, none⟩ = some (.slice A m c)) (hmc : m ≤ c) (hc9 : c ≤ 9223372036854775807) (hr : IntsAt w base A m G) (ha : ∀ b o, A = some ⟨b, o, none⟩ → v.ownBlock ≠ some b ∧ b < w.heap.size) (hn : n ≤ 1000000) (hbase : base ≤ w.heap.size)
    (h : ∀ v' w', OwnLists w' base v' (n + 1) (snocN n L m) (snocF n F G) → Below base w w' → K (a.put o.dst v') w') : o.wp Try.prog a w K Q := by
  obtain ⟨v', w', hrun, h1, h2, -⟩ := run_append_list w o.type base v n L F hown g1 A m c G hc hmc hc9 hr ha hn hbase
  unfold Oper.wp execOp
  simp only [ho, resolve, invoke, builtin, Sem.run_bind, Sem.run_pure, Result.andThen_ok, List.map_toArray, List.map_cons, List.map_nil, hs, hx, hrun]
  exact h v' w' h1 h2
theorem wpList_append_list {ops : Array Oper} {rest : List Oper} {o : Oper} {a : Act} {Q : Exit → Act → World → Prop} (w : World) (hgd : o.guard = none) (s x : Operand)
    (ho : o.op = .call { callee := .builtin .append, args := #[s, x], argTypes := #[65, 65] })
    (base : Nat) (v : Value) (n : Nat) (L : Nat → Nat) (F : Nat → Nat → Int) (hs : a.eval s = v) (hown : OwnLists w base v n L F)
    (g1 : Nat) (A : Option Addr) (m c : Nat) (G : Nat → Int) (hx : a.eval x = .slice (some ⟨g1, 0, none⟩) 1 1) (hc : w.cell? ⟨g1, 0, none⟩ = some (.slice A m c)) (hmc : m ≤ c) (hc9 : c ≤ 9223372036854775807) (hr : IntsAt w base A m G) (ha : ∀ b o, A = some ⟨b, o, none⟩ → v.ownBlock ≠ some b ∧ b < w.heap.size) (hn : n ≤ 1000000) (hbase : base ≤ w.heap.size)
    (h : ∀ v' w', OwnLists w' base v' (n + 1) (snocN n L m) (snocF n F G) → Below base w w' → wpList Try.prog ops Q rest (a.put o.dst v') w') : wpList Try.prog ops Q (o :: rest) a w :=
  wpList_plain hgd fun _ hK => wp_append_list w s x ho base v n L F hs hown g1 A m c G hx hc hmc hc9 hr ha hn hbase fun v' w' h1 h2 => hK _ _ (h v' w' h1 h2)
theorem step_append_list {ops : Array Oper} {o : Oper} {a : Act} {K : Act → World → Prop} {Q : Exit → Act → World → Prop} {E : Prop} (w : World) (hgd : o.guard = none) (s x : Operand)
    (ho : o.op = .call { callee := .builtin .append, args := #[s, x], argTypes := #[65, 65] })
    (base : Nat) (v : Value) (n : Nat) (L : Nat → Nat) (F : Nat → Nat → Int) (hs : a.eval s = v) (hown : OwnLists w base v n L F)
    (g1 : Nat) (A : Option Addr) (m c : Nat) (G : Nat → Int) (hx : a.eval x = .slice (some ⟨g1, 0, none⟩) 1 1) (hc : w.cell? ⟨g1, 0, none⟩ = some (.slice A m c)) (hmc : m ≤ c) (hc9 : c ≤ 9223372036854775807) (hr : IntsAt w base A m G) (ha : ∀ b o, A = some ⟨b, o, none⟩ → v.ownBlock ≠ some b ∧ b < w.heap.size) (hn : n ≤ 1000000) (hbase : base ≤ w.heap.size)
    (h : ∀ v' w', OwnLists w' base v' (n + 1) (snocN n L m) (snocF n F G) → Below base w w' → K (a.put o.dst v') w') :
    if Region.wanted o (yielded ops a.tmps) = true then Oper.wp Try.prog o a w K Q else E := by
  have hw : Region.wanted o (yielded ops a.tmps) = true := by simp [Region.wanted, hgd]
  rw [if_pos hw]
  exact wp_append_list w s x ho base v n L F hs hown g1 A m c G hx hc hmc hc9 hr ha hn hbase h
end Go.Proofs.Ytlhbkjgddpelgaa
/- valueWithin, firstWrong, itemsError of ints, receivedError, correlation, CorrelationOf, Shifts of the code. -/
namespace Go.Proofs.Ytlhbkjgddpelgaa
open Go.RowKit
def valE (x : Int) : Int := unI (withinB x (-100000) 100000) 2
def valsE (n : Nat) (F : Nat → Int) : Int := badE (fun j => valE (F j)) n
def recE (n : Nat) (F : Nat → Int) : Int := firstE [unI (decide ((n : Int) ≤ 120)) 8, valsE n F]
set_option maxHeartbeats 1000000 in
theorem valueWithin1_any (x : Int) (b : Nat) (w : World) (hm : w.cell? ⟨b, 0, none⟩ = some (.int .i64 100000)) :
    Calls Try.prog 68 #[.int .i64 x, .pointer (some ⟨b, 0, none⟩)] w fun e w' => e = .returned (.int .i64 (valE x)) ∧ Below w.heap.size w w' := by
  have HP := hide (fun W A (h : IntsAt W 0 A 1 (fun _ => x)) => (show Calls Try.prog 62 #[.int .i64 100000, .slice A 1 1] W fun e w' => e = .returned (.int .i64 (valE x)) ∧ W = w' from by
    have h1 := partsError_any 100000 A 1 1 (fun _ => x) W (by decide) (by decide) h
    rw [show sizeE 100000 (fun _ => x) 1 = valE x from by unfold sizeE badE badE; rw [if_pos rfl]; rfl] at h1
    exact h1))
  generalize valE x = v at *
  go_enter Try.func68, Try.ntmps68
  go_wp2_with fail
  refine (HP.out _ _ (IntsAt.one _ _ _ _ (Nat.zero_le _))).mono ?_
  rintro e w1 ⟨rfl, rfl⟩
  go_wp2_with fail
  go_ret
  exact ⟨rfl, by (repeat (first | (with_reducible exact Below.refl _ _) | (with_reducible refine Go.below_drewN ?_ _) | (with_reducible refine Below.drew ?_) | (with_reducible refine Below.alloc ?_ (by first | exact Nat.le_refl _ | (simp; done) | (simp; omega) | omega) _) | (with_reducible refine Below.setCell ?_ (by first | exact Nat.le_refl _ | (simp; done) | (simp; omega) | omega) _)))⟩
set_option maxHeartbeats 1000000 in
theorem valueWithin_any (w : World) :
    Calls Try.prog 48 #[.int .i64 100000] w fun e w' => e = .returned (.func (.func 68) #[] #[.pointer (some ⟨w.heap.size, 0, none⟩)]) ∧ w.alloc (.cells #[.int .i64 100000] 3) = w' := by
  go_enter Try.func48, Try.ntmps48
  go_wp2_with fail
  go_ret
  exact ⟨rfl, rfl⟩
set_option maxHeartbeats 2000000 in
theorem firstWrong_ints (g : Nat) (lb : Array Value) (eg : ∀ args w, (callFunc g args).run Try.prog w = .ok (.enter g args) w) (p : Int → Int) (A : Option Addr) (n c : Nat) (F : Nat → Int) (w : World)
    (hn : n ≤ 100000) (hI : IntsAt w 0 A n F) (hp : ∀ (x : Int) W, Below w.heap.size w W → Calls Try.prog g (#[.int .i64 x] ++ lb) W fun e w' => e = .returned (.int .i64 (p x)) ∧ Below W.heap.size W w') :
    Calls Try.prog 67 #[.slice A n c, .func (.func g) #[] lb] w fun e w' => e = .returned (.tuple #[.int .i64 (badI (fun j => p (F j)) n : Nat), .int .i64 (badE (fun j => p (F j)) n)]) ∧ Below w.heap.size w w' := by
  have HP := hide hp
  have HI := hide hI
  clear hp hI
  go_enter Try.func67, Try.ntmps67
  go_wp2_with fail
  go_loopg [11] n (fun gg s wr => ∃ k : Nat, k ≤ n ∧ n - k ≤ gg ∧ s = .int .i64 (k : Int) ∧ Hid (badE (fun j => p (F j)) k = 0) ∧ Below w.heap.size w wr)
  case atStart => exact ⟨0, Nat.zero_le _, by omega, rfl, hide rfl, Below.refl _ _⟩
  case round =>
    obtain ⟨k, hk, hg, rfl, HZ, hB⟩ := hrel
    obtain ⟨wA, rfl⟩ : ∃ x : World, x = wr := ⟨_, rfl⟩
    have hBs := hB.size
    by_cases hlt : k < n
    · have hltz : (k : Int) < (n : Int) := by omega
      obtain ⟨b, o, rfl, -, hb, c0⟩ := (HI.out.below hB) k hlt
      have HQ := hide (show p (F k) ≠ 0 → badE (fun j => p (F j)) n = p (F k) ∧ badI (fun j => p (F j)) n = k from fun h => ⟨badE_at (g := fun j => p (F j)) HZ.out h n hlt, badI_at (g := fun j => p (F j)) HZ.out h n hlt⟩)
      have HN := hide (show p (F k) = 0 → badE (fun j => p (F j)) (k + 1) = 0 from fun h => by rw [badE_succ HZ.out]; exact h)
      generalize F k = x at *
      have HC := hide (fun W hW => HP.out x W hW)
      generalize p x = r at *
      have hcall := HC.out wA hB
      by_cases hr : r = 0
      · have HN2 := hide (HN.out hr)
        subst hr
        clear HQ HN
        go_wp2_with (go_at_fn g; refine hcall.mono ?_; rintro e w2 ⟨rfl, hb2⟩)
        go_roundg (n - (k + 1))
        case measure => omega
        case rel => exact ⟨k + 1, by omega, by omega, by go_num, HN2, hB.trans (hb2.mono hB.size)⟩
      · have t1 : (r != 0) = true := by simpa using hr
        have HQ2 := hide (HQ.out hr)
        clear HQ HN hr
        go_wp2_with (go_at_fn g; refine hcall.mono ?_; rintro e w2 ⟨rfl, hb2⟩)
        go_ret2
        exact ⟨by rw [HQ2.out.1, HQ2.out.2]; rfl, hB.trans (hb2.mono hB.size)⟩
    · obtain rfl : k = n := by omega
      go_wp2_with fail
      go_ret2
      exact ⟨by rw [HZ.out, badI_zero HZ.out]; rfl, hB⟩
set_option maxHeartbeats 1000000 in
theorem itemsError_ints (A : Option Addr) (n c b : Nat) (F : Nat → Int) (w : World) (hn : n ≤ 100000) (hI : IntsAt w 0 A n F) (hm : w.cell? ⟨b, 0, none⟩ = some (.int .i64 100000)) :
    Calls Try.prog 47 #[.slice A n c, .func (.func 68) #[] #[.pointer (some ⟨b, 0, none⟩)]] w fun e w' => e = .returned (.int .i64 (valsE n F)) ∧ Below w.heap.size w w' := by
  have hb := World.block_lt_of_cell? w _ hm
  simp only at hb
  have HX := hide (firstWrong_ints 68 #[.pointer (some ⟨b, 0, none⟩)] (enters_of Try.func68 (by kernel_rfl) rfl) valE A n c F w hn hI (fun x W hW => valueWithin1_any x b W ((hW.cell (p := ⟨b, 0, none⟩) hb).trans hm)))
  clear hI hm hb
  go_enter Try.func47, Try.ntmps47
  go_wp2_with (go_at_call 67; refine HX.out.mono ?_; rintro e w' ⟨rfl, hb1⟩)
  go_ret
  exact ⟨rfl, hb1⟩
set_option maxHeartbeats 1000000 in
theorem receivedError_any (A : Option Addr) (n c : Nat) (F : Nat → Int) (w : World) (hn : n ≤ 100000) (hI : IntsAt w 0 A n F) :
    Calls Try.prog 23 #[.slice A n c] w fun e w' => e = .returned (.int .i64 (recE n F)) ∧ Below w.heap.size w w' := by
  have HI := hide hI
  have HE := hide (show firstE [unI (decide ((n : Int) ≤ 120)) 8, valsE n F] = recE n F from rfl)
  generalize recE n F = v at *
  clear hI
  go_enter Try.func23, Try.ntmps23
  go_wp2_with (go_at_call 24; refine (unless_any _ _ _).mono ?_; rintro e w' ⟨rfl, rfl⟩)
  refine (valueWithin_any _).mono ?_
  rintro e w1 ⟨rfl, hw1⟩
  have hc : w1.cell? ⟨w.heap.size, 0, none⟩ = some (.int .i64 100000) := by rw [← hw1]; exact (Box.made rfl : Box _ w.heap.size 3 #[.int .i64 100000]).at_ 0
  have hB1 : Below w.heap.size w w1 := by rw [← hw1]; exact (Below.refl _ _).alloc (Nat.le_refl _) _
  clear hw1
  go_wp2_with fail
  refine (itemsError_ints A n c w.heap.size F _ hn (HI.out.below hB1) hc).mono ?_
  rintro e w2 ⟨rfl, hb2⟩
  have hB2 := hB1.trans (hb2.mono hB1.size)
  clear hc hB1 hb2
  go_wp2_with fail
  refine (firstError_laid [unI (decide ((n : Int) ≤ 120)) 8, valsE n F] 2 _ _ rfl (by decide)).mono ?_
  rintro e w3 ⟨rfl, hw3⟩
  rw [HE.out]
  have hB3 : Below w.heap.size w w3 := by rw [← hw3]; exact hB2.alloc hB2.size _
  clear hw3 hB2
  go_wp2_with fail
  go_ret
  exact ⟨rfl, hB3⟩
/-- The sum of products of the first k values. -/
def corS (F G : Nat → Int) : Nat → Int
  | 0 => 0
  | k + 1 => corS F G k + F k * G k
theorem corS_le {F G : Nat → Int} : ∀ {k : Nat}, (∀ j, j < k → IsSign (F j) ∧ -100000 ≤ G j ∧ G j ≤ 100000) → -(k * 100000 : Int) ≤ corS F G k ∧ corS F G k ≤ k * 100000
  | 0, _ => by show -(((0 : Nat) : Int) * 100000) ≤ 0 ∧ (0 : Int) ≤ ((0 : Nat) : Int) * 100000; omega
  | k + 1, h => by
    have h1 := corS_le (k := k) fun j hj => h j (by omega)
    obtain ⟨hf, hg⟩ := h k (Nat.lt_succ_self k)
    show _ ≤ corS F G k + F k * G k ∧ corS F G k + F k * G k ≤ _
    rcases hf with e | e <;> rw [e] <;> omega
set_option maxHeartbeats 1000000 in
theorem correlation_any (A B : Option Addr) (n c m d : Nat) (F G : Nat → Int) (w : World) (hn : n ≤ 1000) (hnm : n ≤ m) (hI : IntsAt w 0 A n F) (hJ : IntsAt w 0 B m G) (hb : ∀ j, j < n → IsSign (F j) ∧ -100000 ≤ G j ∧ G j ≤ 100000) :
    Calls Try.prog 69 #[.slice A n c, .slice B m d] w fun e w' => e = .returned (.int .i64 (corS F G n)) ∧ w = w' := by
  have HI := hide hI
  have HJ := hide hJ
  have HB := hide hb
  clear hI hJ hb
  go_enter Try.func69, Try.ntmps69
  go_wp2_with fail
  go_loopw [5, 10] (fun s i wr => ∃ k : Nat, k ≤ n ∧ s = .int .i64 (corS F G k) ∧ i = .int .i64 (k : Int) ∧ w = wr) (fun _ i _ => n - (Go.RowKit.intOf i).toNat)
  case atStart => exact ⟨0, Nat.zero_le _, rfl, rfl, rfl⟩
  case round =>
    obtain ⟨k, hk, rfl, rfl, rfl⟩ := hrel
    have hs := corS_le (F := F) (G := G) (k := k) fun j hj => HB.out j (by omega)
    have HS := hide (show corS F G (k + 1) = corS F G k + F k * G k from rfl)
    obtain ⟨s, hs'⟩ : ∃ s, s = corS F G k := ⟨_, rfl⟩
    rw [← hs'] at hs HS
    rw [← hs']
    by_cases hlt : k < n
    · have hltz : (k : Int) < (n : Int) := by omega
      have hltm : (k : Int) < (m : Int) := by omega
      obtain ⟨b, o, rfl, -, -, x0⟩ := HI.out k hlt
      obtain ⟨b', o', rfl, -, -, y0⟩ := HJ.out k (by omega)
      obtain ⟨hf, hg⟩ := HB.out k hlt
      generalize F k = p at *
      generalize G k = q at *
      have hpq : -100000 ≤ p * q ∧ p * q ≤ 100000 := by rcases hf with e | e <;> rw [e] <;> omega
      obtain ⟨r, hr⟩ : ∃ r, r = p * q := ⟨_, rfl⟩
      have q1 : IntKind.i64.wrap (p * q) = r := by rw [IntWalk.i64_in _ (by omega), hr]
      rw [← hr] at HS hpq
      have q2 : IntKind.i64.wrap (s + r) = s + r := IntWalk.i64_in _ (by omega)
      clear hf hg hpq hr hs hs'
      go_wp2_with fail
      go_roundw
      case rel => exact ⟨k + 1, by omega, by rw [HS.out], by go_num, by first | rfl | trivial⟩
      case measure => simp [Go.RowKit.intOf]; omega
    · obtain rfl : k = n := by omega
      go_wp2_with fail
      go_ret
      exact ⟨by rw [← hs']; rfl, rfl⟩
end Go.Proofs.Ytlhbkjgddpelgaa
