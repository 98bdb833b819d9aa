/- Lemmas: Vh, Fg, Eh, Ga, Hc, Hm, He, Ia, Ha, Hb, Eb, Ee, Ef, Ed, Ei, Ec, El, Em, En, Eo, Er, Fb, Ea, Eg, Fa. -/
import Derived.Laws.OwnMore
import Derived.Lib.AppendZerosOnto
import Derived.Deep.RegionWith
import Derived.RangeFuncNested
import Derived.RangeFuncBound
import Derived.RangeFuncCalls
import Derived.RangeFuncLeaves
import Derived.Shelf.Abstract
import Derived.Shelf.RegionOpen
import Derived.OwnWalkIn
import Derived.TacticsInMore
import Derived.LoopNIn
import Derived.LoopIn
import Derived.Test.YtlhbkjgddpelgaaBk01
import Derived.Test.YtlhbkjgddpelgaaBk02
import Derived.Test.YtlhbkjgddpelgaaBk03
import Derived.Test.YtlhbkjgddpelgaaBk04
import Derived.Test.YtlhbkjgddpelgaaBk07
import Derived.Test.YtlhbkjgddpelgaaBk08
set_option linter.unusedVariables false
set_option linter.unusedSimpArgs false
/- awake of chapter 4: the document's examples. -/
namespace Go.Proofs.Ytlhbkjgddpelgaa
open Go.RowKit Go.Great
theorem Box.path {w : World} {g lo : Nat} {t : TypeId} {a b c d e f : Int} (h : Box w g t #[.int .i64 a, .int .i64 b, .int .i64 c, .int .i64 d, .int .i64 e, .int .i64 f]) (hl : lo ≤ g) :
    PathsAt w lo (some ⟨g, 0, none⟩) 2 (fun i => if i = 0 then a else d) (fun i => if i = 0 then b else e) (fun i => if i = 0 then c else f) := fun i hi => by
  match i, hi with
  | 0, _ => exact ⟨g, 0, rfl, hl, h.lt, h.at_ 0, h.at_ 1, h.at_ 2⟩
  | 1, _ => exact ⟨g, 0, rfl, hl, h.lt, h.at_ 3, h.at_ 4, h.at_ 5⟩
theorem tDoc : turnedR ⟨0, 0, 0, 1⟩ 1 = ⟨-1, 0, 0, 0⟩ := by rfl
theorem tDocE : turnedE ⟨0, 0, 0, 1⟩ 1 = 0 := by decide
theorem chkDoc : chkE 2 (fun i => if i = 0 then 0 else 1) (fun i => if i = 0 then 1 else 2) (fun i => if i = 0 then 0 else 0) = 0 := by decide
theorem okDoc : PathsOk 2 (fun i => if i = 0 then 0 else 1) (fun i => if i = 0 then 1 else 2) (fun i => if i = 0 then 0 else 0) :=
  ⟨by decide, by decide, fun j hj => by match j, hj with | 0, _ => decide | 1, _ => decide, fun j hj => by match j, hj with | 0, _ => decide | 1, _ => decide⟩
theorem respDoc : respTo (fun i => if i = 0 then 0 else 1) (fun i => if i = 0 then 1 else 2) (fun i => if i = 0 then 0 else 0) 2 2 = ⟨1, 0, -2, 0⟩ := by rfl
def oneF (_ : Nat) : Num := ⟨1, 0, 0, 0⟩
def twoF (i : Nat) : Num := if i = 0 then ⟨1, 0, 0, 0⟩ else ⟨0, 0, 1, 0⟩
theorem offDoc : offR 2 2 oneF twoF = 2 := by kernel_rfl
theorem offDocE : offE 2 2 oneF twoF = 0 := by kernel_rfl
theorem seqDoc0 : seqF 0 0 = -1 := by decide
theorem seqDoc1 : seqF 0 1 = 1 := by decide
theorem Box.two {w : World} {g lo : Nat} {t : TypeId} {a b c d e f p q : Int} (h : Box w g t #[.int .i64 a, .int .i64 b, .int .i64 c, .int .i64 d, .int .i64 e, .int .i64 f, .int .i64 p, .int .i64 q]) (hl : lo ≤ g) (F : Nat → Num) (h0 : F 0 = ⟨a, b, c, d⟩) (h1 : F 1 = ⟨e, f, p, q⟩) :
    NumsAt w lo (some ⟨g, 0, none⟩) 2 F := fun i hi => by
  match i, hi with
  | 0, _ => rw [h0]; exact ⟨g, 0, rfl, hl, h.lt, h.at_ 0, h.at_ 1, h.at_ 2, h.at_ 3⟩
  | 1, _ => rw [h1]; exact ⟨g, 0, rfl, hl, h.lt, h.at_ 4, h.at_ 5, h.at_ 6, h.at_ 7⟩
set_option maxHeartbeats 8000000 in
set_option maxRecDepth 100000 in
theorem awake_any (w : World) : Calls Try.prog 6 #[] w fun e w' => e = .returned (.bool true) ∧ Below w.heap.size w w' := by
  have HT := hide (fun W => Turned_any ⟨0, 0, 0, 1⟩ 1 W)
  rw [tDoc, tDocE] at HT
  have HO := hide (fun A B c d W h k => OffsetOf_any A B 2 c 2 d oneF twoF W (by decide) (by decide) h k)
  rw [offDoc, offDocE] at HO
  have HS := hide (fun W => SequenceOf_right 0 W (by decide))
  go_enter Try.func6, Try.ntmps6
  go_wp2_with fail
  refine (HT.out _).mono ?_
  rintro e w1 ⟨rfl, hb1⟩
  simp only []
  go_wp2_with fail
  obtain ⟨W1, hW1⟩ : ∃ q : World, q = w1.alloc (.cells #[.int .i64 (-1), .int .i64 0, .int .i64 0, .int .i64 0] 51) := ⟨_, rfl⟩
  rw [← hW1]
  obtain ⟨g1, hg1⟩ : ∃ g, g = w1.heap.size := ⟨_, rfl⟩
  have b1 : Box W1 g1 51 #[.int .i64 (-1), .int .i64 0, .int .i64 0, .int .i64 0] := by rw [hW1]; exact Box.made hg1
  have hB1 : Below w.heap.size w W1 := by rw [hW1]; exact hb1.alloc hb1.size _
  have hs1 : w1.heap.size + 1 = W1.heap.size := by rw [hW1]; simp
  rw [hs1, ← hg1]
  clear hW1 hb1 hg1 hs1
  refine (ResponseOf_right _ 2 2 _ _ _ _ okDoc chkDoc ((Box.made rfl).path (Nat.zero_le _))).mono ?_
  rintro e w2 ⟨rfl, hb2⟩
  have hB2 : Below w.heap.size w w2 := hB1.trans ((below_behind hb2).mono hB1.size)
  replace b1 := b1.below (below_behind hb2)
  clear hb2 hB1
  obtain ⟨F, hF⟩ : ∃ F, F = fun k => respTo (fun i => if i = 0 then 0 else 1) (fun i => if i = 0 then 1 else 2) (fun i => if i = 0 then 0 else 0) k 2 := ⟨_, rfl⟩
  have HF := hide (show F 2 = ⟨1, 0, -2, 0⟩ from by rw [hF]; exact respDoc)
  rw [← hF]
  clear hF
  go_upto_region 3 with (first | (refine wpList_store8 rfl (.tmp 3) (.tmp 21) rfl w2.heap.size (fun _ => Num.zero) F rfl rfl (arrNums_alloc w2 _ _ rfl) ?_; intro W3 r3 o3) | (refine wpList_allocTo rfl (some 3) rfl (.pointer (some ⟨w2.heap.size, 0, none⟩)) (.cells (arr8 fun _ => Num.zero) 57) (by kernel_rfl) ?_))
  obtain ⟨g3, hg3⟩ : ∃ g, g = w2.heap.size := ⟨_, rfl⟩
  have hB3 : Below w.heap.size w W3 := (hB2.alloc hB2.size _).trans (o3.to_below hB2.size (Nat.le_trans hB2.size (by simp)))
  replace b1 := o3.box (b1.alloc _) (by have := b1.lt; omega)
  rw [← hg3] at r3
  rw [← hg3]
  clear hg3 o3 hB2
  go_wp2_with fail
  refine (HS.out _).mono ?_
  rintro e w4 ⟨A4, c4, rfl, hc4, hI4, hb4⟩
  replace r3 := r3.below hb4
  replace b1 := b1.below hb4
  have hB4 := hB3.trans (hb4.mono hB3.size)
  clear hb4 hB3
  go_wp2_with fail
  refine (HO.out _ _ _ _ _ (((Box.made rfl).two (Nat.zero_le _) oneF rfl rfl).alloc _) ((Box.made (by simp)).two (Nat.zero_le _) twoF rfl rfl)).mono ?_
  rintro e w5 ⟨rfl, hb5⟩
  have hc5 := below_behind (below_behind hb5)
  replace r3 := r3.below hc5
  replace b1 := b1.below hc5
  replace hI4 := hI4.below hc5
  have hB5 := hB4.trans (hc5.mono hB4.size)
  obtain ⟨b0, o0, rfl, -, -, i0⟩ := hI4 0 (by decide)
  obtain ⟨b0', o0', e0', -, -, i1⟩ := hI4 1 (by decide)
  injection e0' with e0'
  injection e0' with e1' e2'
  subst e1' e2'
  rw [seqDoc0, Nat.add_zero] at i0
  rw [seqDoc1] at i1
  have y0 := r3.part (show 2 < 8 by decide) (show 0 < 4 by decide)
  have y1 := r3.part (show 2 < 8 by decide) (show 1 < 4 by decide)
  have y2 := r3.part (show 2 < 8 by decide) (show 2 < 4 by decide)
  have y3 := r3.part (show 2 < 8 by decide) (show 3 < 4 by decide)
  rw [HF.out] at y0 y1 y2 y3
  replace y0 : w5.cell? ⟨g3, 8, none⟩ = some (.int .i64 1) := y0
  replace y1 : w5.cell? ⟨g3, 9, none⟩ = some (.int .i64 0) := y1
  replace y2 : w5.cell? ⟨g3, 10, none⟩ = some (.int .i64 (-2)) := y2
  replace y3 : w5.cell? ⟨g3, 11, none⟩ = some (.int .i64 0) := y3
  obtain ⟨x0, x1, x2, x3, -, -, -, -, -⟩ := b1.cells4
  clear r3 b1 hI4 hb5 hB4 hc5 HF HO HS HT
  go_wp2_with fail
  go_ret
  exact ⟨rfl, hB5⟩
end Go.Proofs.Ytlhbkjgddpelgaa
/- base.AreBits -/
namespace Go.Proofs.Ytlhbkjgddpelgaa
open Go.RowKit
end Go.Proofs.Ytlhbkjgddpelgaa
/- exploring: CheckPolar -/
namespace Go.Proofs.Ytlhbkjgddpelgaa
open Go.RowKit
/-- A right polar code: n positions F, ascending, below 2 to the power p. -/
structure PolarOk (p n : Nat) (F : Nat → Int) : Prop where
  power : p ≤ 6
  some_ : 0 < n
  range : ∀ k, k < n → 0 ≤ F k ∧ F k ≤ 2 ^ p - 1
  order : ∀ k, k + 1 < n → F k < F (k + 1)
def beforeI (F : Nat → Int) : Nat → Int
  | 0 => -1
  | k + 1 => F k
end Go.Proofs.Ytlhbkjgddpelgaa
/- Mod, power, small, kindErr, BitsErr, Length, CopyPolar of the reference and the law. -/
namespace Go.Proofs.Ytlhbkjgddpelgaa
open Go.RowKit

def bitsErrR (n : Nat) (F : Nat → Int) : Int := if n = 0 then 10 else if 200 < n then 8 else if bitsB n F = true then 0 else 15
theorem bitsErrR_zero {n : Nat} {F : Nat → Int} (h : bitsErrR n F = 0) : 0 < n ∧ n ≤ 200 ∧ ∀ k, k < n → IsBit (F k) := by
  unfold bitsErrR at h
  by_cases h1 : n = 0
  · rw [if_pos h1] at h; exact absurd h (by decide)
  · rw [if_neg h1] at h
    by_cases h2 : 200 < n
    · rw [if_pos h2] at h; exact absurd h (by decide)
    · rw [if_neg h2] at h
      by_cases h3 : bitsB n F = true
      · exact ⟨by omega, by omega, bitsB_iff.1 h3⟩
      · rw [if_neg h3] at h; exact absurd h (by decide)

end Go.Proofs.Ytlhbkjgddpelgaa
/- BitsOf. -/
namespace Go.Proofs.Ytlhbkjgddpelgaa
open Go.RowKit
/-- The bits of a number, the greatest power first. -/
def bitsOfF (t n : Nat) (j : Nat) : Int := ((t / 2 ^ (n - 1 - j) % 2 : Nat) : Int)
end Go.Proofs.Ytlhbkjgddpelgaa
/- A burst is caught: mathematics of remainders. -/
namespace Go.Proofs.Ytlhbkjgddpelgaa
/-- The bit that a step of the division carries out. -/
def carryB (d s b : Nat) : Bool := decide ((s >>> (d - 1)) ^^^ b = 1)
theorem carry_bit {d s b : Nat} (h0 : 1 ≤ d) (hs : s < 2 ^ d) (hb : b ≤ 1) : carryB d s b = (s.testBit (d - 1) ^^ decide (b = 1)) := by
  have h1 : s >>> (d - 1) ≤ 1 := by
    rw [Nat.shiftRight_eq_div_pow]
    have : 2 ^ d = 2 ^ (d - 1) * 2 := by rw [← Nat.pow_succ]; congr 1; omega
    have := Nat.div_lt_of_lt_mul (show s < 2 ^ (d - 1) * 2 by omega)
    omega
  have h2 : s.testBit (d - 1) = decide (s >>> (d - 1) = 1) := by
    rw [Nat.testBit, Nat.one_and_eq_mod_two]
    generalize s >>> (d - 1) = x at *
    have : x = 0 ∨ x = 1 := by omega
    rcases this with rfl | rfl <;> rfl
  rw [h2]
  unfold carryB
  generalize s >>> (d - 1) = x at *
  have hx : x = 0 ∨ x = 1 := by omega
  have hy : b = 0 ∨ b = 1 := by omega
  rcases hx with rfl | rfl <;> rcases hy with rfl | rfl <;> rfl
theorem step_bit {d t s b : Nat} (ht : t < 2 ^ d) {i : Nat} (hi : i < d) : (remStep d t s b).testBit i = ((decide (0 < i) && s.testBit (i - 1)) ^^ (carryB d s b && t.testBit i)) := by
  have e : (2 * s % 2 ^ d).testBit i = (decide (0 < i) && s.testBit (i - 1)) := by
    rw [Nat.testBit_mod_two_pow, decide_eq_true hi, Bool.true_and]
    cases i with
    | zero => simp [Nat.testBit_zero]
    | succ j => rw [Nat.testBit_succ, Nat.mul_div_cancel_left _ (by decide)]; simp
  unfold remStep carryB
  by_cases h : (s >>> (d - 1)) ^^^ b = 1
  · rw [if_pos h, decide_eq_true h, Nat.testBit_xor, e, Bool.true_and]
  · rw [if_neg h, decide_eq_false h, e, Bool.false_and, Bool.xor_false]
theorem bxor_cancel : ∀ {a b c : Bool}, (a ^^ c) = (b ^^ c) → a = b := by decide
theorem bxor_cancel' : ∀ {a b c : Bool}, (c ^^ a) = (c ^^ b) → a = b := by decide
/-- Two registers differ at a bit of at most this number. -/
def Far (k s s' : Nat) : Prop := ∃ i, i ≤ k ∧ s.testBit i ≠ s'.testBit i
theorem step_far {d t s s' b b' k : Nat} (h0 : 1 ≤ d) (ht : t < 2 ^ d) (todd : t % 2 = 1) (h : Far k s s') (hk : k + 1 < d) : Far (k + 1) (remStep d t s b) (remStep d t s' b') := by
  obtain ⟨i, hi, hne⟩ := h
  have t0 : t.testBit 0 = true := by rw [Nat.testBit_zero]; simp [todd]
  by_cases hc : carryB d s b = carryB d s' b'
  · refine ⟨i + 1, by omega, ?_⟩
    rw [step_bit ht (by omega), step_bit ht (by omega), hc]
    intro h
    have h := bxor_cancel h
    rw [decide_eq_true (Nat.succ_pos i), Bool.true_and, Bool.true_and] at h
    exact hne h
  · refine ⟨0, by omega, ?_⟩
    rw [step_bit ht (by omega), step_bit ht (by omega), t0]
    intro h
    have h := bxor_cancel' h
    rw [Bool.and_true, Bool.and_true] at h
    exact hc h
/-- A further bit that differs. -/
theorem step_new {d t s b b' : Nat} (h0 : 1 ≤ d) (ht : t < 2 ^ d) (todd : t % 2 = 1) (hs : s < 2 ^ d) (hb : b ≤ 1) (hb' : b' ≤ 1) (hne : b ≠ b') : Far 0 (remStep d t s b) (remStep d t s b') := by
  have t0 : t.testBit 0 = true := by rw [Nat.testBit_zero]; simp [todd]
  refine ⟨0, by omega, ?_⟩
  rw [step_bit ht (by omega), step_bit ht (by omega), t0, carry_bit h0 hs hb, carry_bit h0 hs hb']
  have hx : b = 0 ∨ b = 1 := by omega
  have hy : b' = 0 ∨ b' = 1 := by omega
  rcases hx with rfl | rfl <;> rcases hy with rfl | rfl <;> simp at hne ⊢
/-- The same bit behind different registers: they stay different. -/
theorem step_ne {d t s s' b : Nat} (h0 : 1 ≤ d) (ht : t < 2 ^ d) (todd : t % 2 = 1) (hs : s < 2 ^ d) (hs' : s' < 2 ^ d) (hb : b ≤ 1) (hne : s ≠ s') : remStep d t s b ≠ remStep d t s' b := by
  have t0 : t.testBit 0 = true := by rw [Nat.testBit_zero]; simp [todd]
  intro h
  apply hne
  have hc : carryB d s b = carryB d s' b := by
    have this : (remStep d t s b).testBit 0 = (remStep d t s' b).testBit 0 := by rw [h]
    rw [step_bit ht (by omega), step_bit ht (by omega), t0] at this
    simpa using this
  refine Nat.eq_of_testBit_eq fun i => ?_
  by_cases hi : i < d
  · by_cases hl : i = d - 1
    · have h1 := carry_bit h0 hs hb
      have h2 := carry_bit h0 hs' hb
      rw [hc, h2] at h1
      subst hl
      exact (bxor_cancel h1).symm
    · have this : (remStep d t s b).testBit (i + 1) = (remStep d t s' b).testBit (i + 1) := by rw [h]
      rw [step_bit ht (by omega), step_bit ht (by omega), hc] at this
      have h := bxor_cancel this
      rw [decide_eq_true (Nat.succ_pos i), Bool.true_and, Bool.true_and] at h
      exact h
  · have hle : 2 ^ d ≤ 2 ^ i := Nat.pow_le_pow_right (by decide) (by omega)
    rw [Nat.testBit_lt_two_pow (Nat.lt_of_lt_of_le hs hle), Nat.testBit_lt_two_pow (Nat.lt_of_lt_of_le hs' hle)]
theorem IsBit.nat {x : Int} (h : IsBit x) : x.toNat ≤ 1 := by have := h.le; omega
/-- Behind a burst of at most d bits the registers differ. -/
theorem burst_far {d t : Nat} {F G : Nat → Int} (h0 : 1 ≤ d) (ht : t < 2 ^ d) (todd : t % 2 = 1) (hF : ∀ k, IsBit (F k)) (hG : ∀ k, IsBit (G k)) {a m : Nat} (hs : remF d t F m = remF d t G m) (ham : a ≤ m) (hma : m < a + d) (hne : F m ≠ G m) :
    ∀ k, m + 1 + k ≤ a + d → Far k (remF d t F (m + 1 + k)) (remF d t G (m + 1 + k))
  | 0, _ => by
    show Far 0 (remStep d t (remF d t F m) (F m).toNat) (remStep d t (remF d t G m) (G m).toNat)
    rw [← hs]
    refine step_new h0 ht todd (remF_lt F ht m) (hF m).nat (hG m).nat fun e => hne ?_
    have := (hF m).le
    have := (hG m).le
    omega
  | k + 1, hk => step_far h0 ht todd (burst_far h0 ht todd hF hG hs ham hma hne k (by omega)) (by omega)
theorem remF_congr {d t : Nat} {F G : Nat → Int} : ∀ {n}, (∀ k, k < n → F k = G k) → remF d t F n = remF d t G n
  | 0, _ => rfl
  | n + 1, h => by
    show remStep d t (remF d t F n) (F n).toNat = remStep d t (remF d t G n) (G n).toNat
    rw [remF_congr fun k hk => h k (by omega), h n (by omega)]
/-- The word of n bits and their check ends with a register of 0. -/
theorem right_zero {d t n : Nat} {F : Nat → Int} (h0 : 1 ≤ d) (ht : t < 2 ^ d) (hr : ∀ j, j < d → F (n + j) = remB d t n F j) :
    ∀ j, j ≤ d → ∀ i, i < d → (remF d t F (n + j)).testBit i = (decide (j ≤ i) && (remF d t F n).testBit (i - j))
  | 0, _, i, hi => by simp
  | j + 1, hj, i, hi => by
    have ih := right_zero h0 ht hr j (by omega)
    have hb : (F (n + j)).toNat = remF d t F n >>> (d - 1 - j) &&& 1 := by rw [hr j (by omega)]; unfold remB; omega
    have hb1 : (F (n + j)).toNat ≤ 1 := by rw [hb, Nat.and_one_is_mod]; omega
    have hc : carryB d (remF d t F (n + j)) (F (n + j)).toNat = false := by
      rw [carry_bit h0 (remF_lt F ht _) hb1, ih (d - 1) (by omega), decide_eq_true (show j ≤ d - 1 by omega), Bool.true_and, hb, Nat.testBit, Nat.one_and_eq_mod_two, Nat.and_one_is_mod]
      generalize remF d t F n >>> (d - 1 - j) = x
      have : x % 2 = 0 ∨ x % 2 = 1 := by omega
      rcases this with h | h <;> rw [h] <;> rfl
    show (remStep d t (remF d t F (n + j)) (F (n + j)).toNat).testBit i = _
    rw [step_bit ht hi, hc, Bool.false_and, Bool.xor_false]
    by_cases h : 0 < i
    · rw [ih (i - 1) (by omega), decide_eq_true h, Bool.true_and]
      by_cases h2 : j + 1 ≤ i
      · rw [decide_eq_true h2, decide_eq_true (show j ≤ i - 1 by omega), show i - 1 - j = i - (j + 1) by omega]
      · rw [decide_eq_false h2, decide_eq_false (show ¬ j ≤ i - 1 by omega), Bool.false_and, Bool.false_and]
    · rw [decide_eq_false h, decide_eq_false (show ¬ j + 1 ≤ i by omega), Bool.false_and, Bool.false_and]
theorem right_end {d t n : Nat} {F : Nat → Int} (h0 : 1 ≤ d) (ht : t < 2 ^ d) (hr : ∀ j, j < d → F (n + j) = remB d t n F j) : remF d t F (n + d) = 0 := by
  refine Nat.eq_of_testBit_eq fun i => ?_
  rw [Nat.zero_testBit]
  by_cases hi : i < d
  · rw [right_zero h0 ht hr d (Nat.le_refl _) i hi, decide_eq_false (by omega), Bool.false_and]
  · exact Nat.testBit_lt_two_pow (Nat.lt_of_lt_of_le (remF_lt F ht _) (Nat.pow_le_pow_right (by decide) (by omega)))
/-- A BURST IS CAUGHT. -/
theorem burst_caught {d t n a : Nat} {F G : Nat → Int} (h0 : 1 ≤ d) (ht : t < 2 ^ d) (todd : t % 2 = 1) (hF : ∀ k, IsBit (F k)) (hG : ∀ k, IsBit (G k)) (ha : a ≤ n) (hlo : ∀ k, k < a → F k = G k) (hhi : ∀ k, a + d ≤ k → k < n + d → F k = G k)
    (hne : ∃ k, a ≤ k ∧ k < a + d ∧ F k ≠ G k) (hr : ∀ j, j < d → F (n + j) = remB d t n F j) : ¬ ∀ j, j < d → G (n + j) = remB d t n G j := by
  intro hr'
  have e1 := right_end h0 ht hr
  have e2 := right_end h0 ht hr'
  -- the first place that differs
  have hmin : ∃ m, a ≤ m ∧ m < a + d ∧ F m ≠ G m ∧ ∀ k, k < m → F k = G k := by
    obtain ⟨k, hk⟩ := hne
    induction k using Nat.strongRecOn with
    | ind k ih =>
      by_cases h : ∀ j, j < k → F j = G j
      · exact ⟨k, hk.1, hk.2.1, hk.2.2, h⟩
      · obtain ⟨j, h⟩ := Classical.not_forall.1 h
        obtain ⟨hj, h⟩ := Classical.not_imp.1 h
        exact ih j hj ⟨Nat.le_of_not_lt fun hh => h (hlo j hh), by omega, h⟩
  obtain ⟨m, h1, h2, h3, h4⟩ := hmin
  have hf := burst_far h0 ht todd hF hG (remF_congr h4) h1 h2 h3 (a + d - (m + 1)) (by omega)
  rw [show m + 1 + (a + d - (m + 1)) = a + d by omega] at hf
  have hlast : ∀ k, a + d + k ≤ n + d → remF d t F (a + d + k) ≠ remF d t G (a + d + k) := by
    intro k
    induction k with
    | zero => intro _ e; obtain ⟨i, -, hi⟩ := hf; exact hi (by rw [show a + d + 0 = a + d from rfl] at e; rw [e])
    | succ k ih =>
      intro hk
      have e := hhi (a + d + k) (by omega) (by omega)
      show remStep d t (remF d t F (a + d + k)) (F (a + d + k)).toNat ≠ remStep d t (remF d t G (a + d + k)) (G (a + d + k)).toNat
      rw [← e]
      exact step_ne h0 ht todd (remF_lt F ht _) (remF_lt G ht _) (hF _).nat (ih (by omega))
  have := hlast (n - a) (by omega)
  rw [show a + d + (n - a) = n + d by omega] at this
  exact this (e1.trans e2.symm)
end Go.Proofs.Ytlhbkjgddpelgaa
/- A copy that is the law's own: cells read, stored; a pattern that is not 0 has a 1. -/
namespace Go.Proofs.Ytlhbkjgddpelgaa
open Go.RowKit Go.Lib
theorem OwnInts.cap_any {w : World} {base n c : Nat} {A : Option Addr} {F : Nat → Int} (h : OwnInts w base (.slice A n c) n F) : n ≤ c ∧ c ≤ 9223372036854775807 := by
  have hm9 : maxLen ≤ 9223372036854775807 := by decide
  rcases h.2 with ⟨h1, h2⟩ | ⟨g, cap, cur, h1, -, -, hn, hm, -⟩
  · injection h1 with _ _ h3
    omega
  · injection h1 with _ _ h3
    omega
theorem OwnInts.row {w : World} {base n : Nat} {v : Value} {F : Nat → Int} (h : OwnInts w base v n F) (hn : 0 < n) : ∃ g cap, v = .slice (some ⟨g, 0, none⟩) n cap ∧ base ≤ g ∧ g < w.heap.size := by
  rcases h.2 with ⟨h1, h2⟩ | ⟨g, cap, cur, h1, hb, hg, -⟩
  · omega
  · exact ⟨g, cap, h1, hb, by
      rcases Nat.lt_or_ge g w.heap.size with h' | h'
      · exact h'
      · rw [Array.getElem?_eq_none h'] at hg; cases hg⟩
theorem OwnInts.cellAt {w : World} {base n g c : Nat} {F : Nat → Int} (h : OwnInts w base (.slice (some ⟨g, 0, none⟩) n c) n F) {k : Nat} (hk : k < n) : w.cell? ⟨g, k, none⟩ = some (.int .i64 (F k)) := by
  rw [World.ownsRow.cellAt h k (by omega), intCells_get, if_pos hk]
theorem OwnInts.frozen {w : World} {base n g c : Nat} {F : Nat → Int} (h : OwnInts w base (.slice (some ⟨g, 0, none⟩) n c) n F) (k : Nat) : w.frozen? ⟨g, k, none⟩ = false := World.ownsRow.frozenAt h k
def setF (F : Nat → Int) (k : Nat) (x : Int) (j : Nat) : Int := if j = k then x else F j
theorem OwnInts.set_ {w : World} {base n g c : Nat} {F : Nat → Int} (h : OwnInts w base (.slice (some ⟨g, 0, none⟩) n c) n F) (k : Nat) (x : Int) : OwnInts (w.setCell ⟨g, k, none⟩ (.int .i64 x)) base (.slice (some ⟨g, 0, none⟩) n c) n (setF F k x) := by
  have h1 := (World.ownsRow.stored h k (.int .i64 x)).1
  have e : (intCells n F).set k (.int .i64 x) = intCells n (setF F k x) := by
    apply List.ext_getElem?
    intro j
    rw [List.getElem?_set, intCells_get, intCells_get, intCells_len]
    unfold setF
    by_cases e : k = j
    · subst e
      by_cases hk : k < n
      · rw [if_pos rfl, if_pos hk, if_pos hk, if_pos rfl]
      · rw [if_pos rfl, if_neg hk, if_neg hk]
    · rw [if_neg e, if_neg (show ¬ j = k from fun h => e h.symm)]
  rw [e] at h1
  exact h1
set_option maxHeartbeats 1000000 in
theorem copyInts_own (A : Option Addr) (n c : Nat) (F : Nat → Int) (w : World) (hn : n ≤ 100000000) (hI : IntsAt w 0 A n F) :
    Calls Try.prog 8 #[.slice A n c] w fun e w' => ∃ v, e = .returned v ∧ OwnInts w' w.heap.size v n F ∧ Below w.heap.size w w' := by
  go_enter Try.func8, Try.ntmps8
  go_wp2_with (at_builtin; refine wpList_append_ints _ rfl (.tmp 3) (.tmp 4) rfl w.heap.size 0 (.slice (some ⟨w.heap.size, 0, none⟩) 0 0) 0 F rfl (World.ownsRow_made w #[] 0 (Nat.le_refl _) (by unfold maxLen; omega) rfl) A n c F rfl (hI.alloc _) (by omega) (by simp) ?_; intro v' w' h1 hb1)
  go_ret
  have hB : Below w.heap.size w w' := ((Below.refl _ _).alloc (Nat.le_refl _) _).trans hb1
  rw [Nat.zero_add] at h1
  exact ⟨_, rfl, h1.congr fun j _ => by simp [catF], hB⟩
theorem bitsOfF_bit (x d j : Nat) : IsBit (bitsOfF x d j) := by
  unfold bitsOfF IsBit
  omega
theorem pat_some {x d : Nat} (h0 : 0 < x) (h1 : x < 2 ^ d) : ∃ j, j < d ∧ bitsOfF x d j = 1 := by
  refine Classical.byContradiction fun hno => ?_
  have hz : x = 0 := by
    refine Nat.eq_of_testBit_eq fun i => ?_
    rw [Nat.zero_testBit]
    by_cases hi : i < d
    · rw [Nat.testBit_eq_decide_div_mod_eq, decide_eq_false]
      intro h
      refine hno ⟨d - 1 - i, by omega, ?_⟩
      unfold bitsOfF
      rw [show d - 1 - (d - 1 - i) = i by omega, h]
      rfl
    · exact Nat.testBit_lt_two_pow (Nat.lt_of_lt_of_le h1 (Nat.pow_le_pow_right (by decide) (by omega)))
  omega
end Go.Proofs.Ytlhbkjgddpelgaa
/- Zeros of a make, appended to a row of one's own. -/
namespace Go.Proofs.Ytlhbkjgddpelgaa
open Go.RowKit Go.Lib
theorem zeroCells_ints (k : Nat) : (Builtin.zeroCells (Value.int .i64 0).cells k).toList = intCells k (fun _ => 0) := by
  apply List.ext_getElem?
  intro j
  rw [intCells_get]
  have hs : (Value.int .i64 0).cells.size = 1 := rfl
  have hz : (Value.int .i64 0).cells = #[.int .i64 0] := rfl
  by_cases hj : j < k
  · rw [if_pos hj]
    simp [Builtin.zeroCells, hz, hj, Nat.mod_one]
  · rw [if_neg hj]
    simp [Builtin.zeroCells, hz, hj]
set_option maxHeartbeats 1000000 in
theorem run_append_zero_ints (w : World) (ty : TypeId) (base : Nat) (v : Value) (n : Nat) (F : Nat → Int) (hown : OwnInts w base v n F) (hn : 0 < n) (k : Nat) (hk : 0 < k) (hnk : n + k ≤ 1000000000) (hbase : base ≤ w.heap.size) :
    ∃ v' w', (Builtin.append_ #[22, 3] ty #[v, .int .i64 (k : Int)]).run Try.prog w = .ok v' w' ∧ OwnInts w' base v' (n + k) (catF n F (fun _ => 0)) ∧ Below base w w' := by
  obtain ⟨i0, hi, hz0, hz1, hz2⟩ := info_parts intInfo
  rcases hown.2 with ⟨-, h0⟩ | ⟨g, cap, cur, rfl, hbg, hg, hnc, hcm, hcs, htake⟩
  · omega
  · rw [Nat.mul_one] at hcs htake
    have hnk0 : k ≠ 0 := by omega
    by_cases hroom : n + k ≤ cap
    · have hst := run_storeCells_at (P := Try.prog) g n 3 (intCells k (fun _ => 0)) 0 cur w hg (by rw [intCells_len]; omega) (fun u hu => by
        obtain ⟨j, -, rfl⟩ := List.mem_map.1 hu
        rfl)
      have hw : IntKind.i64.wrap (k : Int) = k := by rw [IntKind.wrap_i64]; omega
      have h48i : ¬ (281474976710656 < (k : Int) * 8) := by omega
      have hneg : ¬ ((k : Int) < 0) := by omega
      have hzz := zeroCells_ints k
      have hrun : (Builtin.append_ #[22, 3] ty #[.slice (some ⟨g, 0, none⟩) n cap, .int .i64 (k : Int)]).run Try.prog w = .ok (.slice (some ⟨g, 0, none⟩) (n + k) cap) (w.setRow g (cur.toList.take n ++ intCells k (fun _ => 0) ++ cur.toList.drop (n + k)).toArray) := by
        rw [Nat.add_zero, intCells_len] at hst
        simp [Builtin.append_, run_underlying Try.underlying22, run_underlying Try.underlying3, sizeOf, typeInfo, zeroValue, hi, hz0, hz1, hz2, asInt, asIntOf, hw, hroom, hneg, hnk0, h48i, hzz, Addr.add_lit, hst]
      refine ⟨_, _, hrun, ⟨by rw [intCells_len, Nat.mul_one], .inr ⟨g, cap, _, rfl, hbg, setRow_heap w g cur _ 3 _ hg, hroom, hcm, ?_, ?_⟩⟩, (Below.refl _ _).grown (row := some g) ⟨rfl, rfl, rfl, by simp, fun k _ hk => setRow_other w g k _ (fun e => hk (by simp [e]))⟩ hbase (fun k hk => by injection hk with hk; omega)⟩
      · rw [htake]
        simp only [List.size_toArray, List.length_append, intCells_len, List.length_drop, Array.length_toList]
        omega
      · rw [htake, intCells_cat, Nat.mul_one]
        exact List.take_left' (by rw [intCells_len])
    · have hold := run_firstCells_some (P := Try.prog) w.drew i0.size n ⟨g, 0, none⟩ n cap (intCells n F) (by rw [intCells_len, hz1, Nat.mul_one]) (fun j u hu => World.ownsRow.cells hown (g := g) rfl j u hu)
      have hrun := run_append_grow_zeros (P := Try.prog) w 22 3 ty 3 i0 (.int .i64 0) .i64 .i64 Try.underlying22 Try.underlying3 hi hz0 (some ⟨g, 0, none⟩) n cap (intCells n F) hold k hk (by omega) (by omega) (by omega) (by rw [hz2]; omega) (growslice_fits (by omega) (by rw [hz2]; omega))
      have hge := grownCap_ge w (n + k) cap 3
      have hle := grownCap_le_maxLen w (n + k) cap 3 (by unfold maxLen; omega)
      refine ⟨_, _, hrun, ⟨by rw [intCells_len, Nat.mul_one], .inr ⟨w.heap.size, _, _, rfl, hbase, heap_alloc_new w.drew _, hge, hle, ?_, ?_⟩⟩, ((Below.refl _ _).drew).alloc hbase _⟩
      · simp only [Array.size_append, List.size_toArray, size_zeroCells, intCells_len]
        show n + k * 1 + _ * 1 = _
        omega
      · simp only [Array.toList_append, zeroCells_ints]
        rw [intCells_cat, Nat.mul_one]
        exact List.take_left' (by rw [intCells_len])
theorem step_append_zeros {ops : Array Oper} {o : Oper} {a : Act} {K : Act → World → Prop} {Q : Exit → Act → World → Prop} {E : Prop} (w : World) (hgd : o.guard = none) (s x : Operand)
    (ho : o.op = .call { callee := .builtin .append, args := #[s, x], argTypes := #[22, 3] })
    (base : Nat) (v : Value) (n : Nat) (F : Nat → Int) (hs : a.eval s = v) (hown : OwnInts w base v n F) (hn : 0 < n)
    (k : Nat) (hx : a.eval x = .int .i64 (k : Int)) (hk : 0 < k) (hnk : n + k ≤ 1000000000) (hbase : base ≤ w.heap.size)
    (h : ∀ v' w', OwnInts w' base v' (n + k) (catF n F (fun _ => 0)) → Below base w w' → K (a.put o.dst v') w') :
    if Region.wanted o (yielded ops a.tmps) = true then Oper.wp Try.prog o a w K Q else E := by
  have hw : Region.wanted o (yielded ops a.tmps) = true := by simp [Region.wanted, hgd]
  rw [if_pos hw]
  obtain ⟨v', w', hrun, h1, h2⟩ := run_append_zero_ints w o.type base v n F hown hn k hk hnk hbase
  unfold Oper.wp execOp
  simp only [ho, resolve, invoke, builtin, Sem.run_bind, Sem.run_pure, Result.andThen_ok, List.map_toArray, List.map_cons, List.map_nil, hs, hx, hrun]
  exact h v' w' h1 h2
end Go.Proofs.Ytlhbkjgddpelgaa
/- slices.Equal of two lists of numbers. -/
namespace Go.Proofs.Ytlhbkjgddpelgaa
open Go.RowKit
end Go.Proofs.Ytlhbkjgddpelgaa
/- CheckPoly of the reference; power and few of the law. -/
namespace Go.Proofs.Ytlhbkjgddpelgaa
open Go.RowKit
end Go.Proofs.Ytlhbkjgddpelgaa
/- exploring -/
namespace Go.Proofs.Ytlhbkjgddpelgaa
open Go.RowKit
end Go.Proofs.Ytlhbkjgddpelgaa
/- exploring: areWithin -/
namespace Go.Proofs.Ytlhbkjgddpelgaa
open Go.RowKit
end Go.Proofs.Ytlhbkjgddpelgaa
/- exploring: bitsError, softError -/
namespace Go.Proofs.Ytlhbkjgddpelgaa
open Go.RowKit
theorem below_of_alloc {w w1 : World} {o : Obj} (h : Below (w.alloc o).heap.size (w.alloc o) w1) : Below w.heap.size w w1 := ((Below.refl _ _).alloc (Nat.le_refl _) o).trans (h.mono (by simp))
end Go.Proofs.Ytlhbkjgddpelgaa
/- exploring: wordOf -/
namespace Go.Proofs.Ytlhbkjgddpelgaa
open Go.RowKit
theorem intInfo' : (Try.prog.info? 3).map (fun i => (i.zero, i.size, i.bytes)) = some (some (.int .i64 0), 1, 8) := by kernel_rfl
end Go.Proofs.Ytlhbkjgddpelgaa
/- exploring: encoded -/
namespace Go.Proofs.Ytlhbkjgddpelgaa
open Go.RowKit
/-- What stands at the position x of a polar code. -/
def posF (F B : Nat → Int) (x : Nat) : Nat → Int
  | 0 => 0
  | k + 1 => if F k = x then B k else posF F B x k
theorem posF_bit {F B : Nat → Int} : ∀ {n : Nat}, (∀ k, k < n → IsBit (B k)) → ∀ x, IsBit (posF F B x n)
  | 0, _, _ => .inl rfl
  | n + 1, h, x => by
    unfold posF
    split
    · exact h n (Nat.lt_succ_self _)
    · exact posF_bit (fun k hk => h k (by omega)) x
end Go.Proofs.Ytlhbkjgddpelgaa
/- exploring: lesser -/
namespace Go.Proofs.Ytlhbkjgddpelgaa
open Go.RowKit
theorem sizeI_neg {a : Int} (h : a < 0) : sizeI a = -a := by unfold sizeI; omega
theorem sizeI_pos {a : Int} (h : 0 ≤ a) : sizeI a = a := by unfold sizeI; omega
end Go.Proofs.Ytlhbkjgddpelgaa
/- cancelled, decoded -/
namespace Go.Proofs.Ytlhbkjgddpelgaa
open Go.RowKit Go.Lib
/-- A row of bools I, n of them. -/
def BoolsAt (w : World) (A : Option Addr) (n : Nat) (I : Nat → Bool) : Prop :=
  ∀ k, k < n → ∃ b o, A = some ⟨b, o, none⟩ ∧ b < w.heap.size ∧ w.cell? ⟨b, o + k, none⟩ = some (.bool (I k))
theorem BoolsAt.below {w w' : World} {A : Option Addr} {n : Nat} {I : Nat → Bool} (h : BoolsAt w A n I) (hb : Below w.heap.size w w') : BoolsAt w' A n I := fun k hk => by
  obtain ⟨b, o, e, h2, h3⟩ := h k hk
  exact ⟨b, o, e, Nat.lt_of_lt_of_le h2 hb.size, (hb.cell (p := ⟨b, o + k, none⟩) h2).trans h3⟩
theorem BoolsAt.cut {w : World} {b o j n m : Nat} {I : Nat → Bool} (h : BoolsAt w (some ⟨b, o, none⟩) n I) (hm : j + m ≤ n) : BoolsAt w (some ⟨b, o + j, none⟩) m (fun k => I (j + k)) := fun k hk => by
  obtain ⟨b', o', e, h2, h3⟩ := h (j + k) (by omega)
  injection e with e
  injection e with e1 e2
  subst e1; subst e2
  exact ⟨_, _, rfl, h2, by rw [Nat.add_assoc]; exact h3⟩
theorem BoolsAt.fewer {w : World} {A : Option Addr} {n m : Nat} {I : Nat → Bool} (h : BoolsAt w A n I) (hm : m ≤ n) : BoolsAt w A m I := fun k hk => h k (Nat.lt_of_lt_of_le hk hm)

end Go.Proofs.Ytlhbkjgddpelgaa
/- cancelled, by halves -/
namespace Go.Proofs.Ytlhbkjgddpelgaa
open Go.RowKit Go.Lib

theorem cancelF_succ (k : Nat) (I : Nat → Bool) (S : Nat → Int) (N : Nat) (hN : N = 2 ^ k) (x : Nat) : cancelF (k + 1) I S x = if x < N then cancelF k I (fun i => lesserI (S i) (S (N + i))) x
    else cancelF k (fun i => I (N + i)) (fun i => farF (wordF N (cancelF k I (fun i => lesserI (S i) (S (N + i)))) i) (S i) (S (N + i))) (x - N) := by
  subst hN
  rfl
theorem farF_le {v a b M : Int} (ha : -M ≤ a ∧ a ≤ M) (hb : -M ≤ b ∧ b ≤ M) : -(2 * M) ≤ farF v a b ∧ farF v a b ≤ 2 * M := by
  unfold farF; split <;> omega

end Go.Proofs.Ytlhbkjgddpelgaa
/- decoded -/
namespace Go.Proofs.Ytlhbkjgddpelgaa
open Go.RowKit Go.Lib
theorem boolInfo : (Try.prog.info? 4).map (fun i => (i.zero, i.size, i.bytes)) = some (some (.bool false), 1, 1) := by kernel_rfl
/-- Is x one of the first k positions. -/
def isPos (F : Nat → Int) (x : Nat) : Nat → Bool
  | 0 => false
  | k + 1 => if F k = x then true else isPos F x k
end Go.Proofs.Ytlhbkjgddpelgaa
/- code: placesOf and its iterator. -/
namespace Go.Proofs.Ytlhbkjgddpelgaa
open Go.RowKit Go.Shelf
attribute [local go_sem] Oper.semAt_some

/-- The numbers from 0 on. -/
def seqTo (C : Nat) : Nat → List (Fin C)
  | 0 => []
  | j + 1 => if h : j < C then seqTo C j ++ [⟨j, h⟩] else seqTo C j
theorem seqTo_succ {C j : Nat} (h : j < C) : seqTo C (j + 1) = seqTo C j ++ [⟨j, h⟩] := by rw [seqTo, dif_pos h]
theorem seqTo_len (C : Nat) : ∀ j, (seqTo C j).length ≤ j
  | 0 => Nat.le_refl _
  | j + 1 => by
    have := seqTo_len C j
    rw [seqTo]
    split
    · rw [List.length_append]; simp; omega
    · omega
theorem seqTo_mem {C : Nat} : ∀ {j : Nat} (x : Fin C), x.1 < j → x ∈ seqTo C j
  | 0, _, h => absurd h (Nat.not_lt_zero _)
  | j + 1, x, h => by
    have hx := x.2
    by_cases hj : j < C
    · rw [seqTo_succ hj, List.mem_append]
      rcases Nat.lt_or_ge x.1 j with h1 | h1
      · exact .inl (seqTo_mem x h1)
      · exact .inr (List.mem_singleton.2 (Fin.ext (by show x.1 = j; omega)))
    · rw [seqTo, dif_neg hj]
      exact seqTo_mem x (by omega)
theorem grown_of_below {w w' : World} (h : Below w.heap.size w w') : w.grownBy w' none := ⟨h.os, h.tape, h.output, h.size, fun k hk _ => h.block k hk⟩

/-- Three blocks stay as they are. -/
def K3 (a : Nat) (A B : World) : Prop := A.heap.size ≤ B.heap.size ∧ B.heap[a]? = A.heap[a]? ∧ B.heap[a + 1]? = A.heap[a + 1]? ∧ B.heap[a + 1 + 1]? = A.heap[a + 1 + 1]?
theorem K3.refl (a : Nat) (A : World) : K3 a A A := ⟨Nat.le_refl _, rfl, rfl, rfl⟩
theorem K3.trans {a : Nat} {A B C : World} (h : K3 a A B) (k : K3 a B C) : K3 a A C := ⟨Nat.le_trans h.1 k.1, k.2.1.trans h.2.1, k.2.2.1.trans h.2.2.1, k.2.2.2.trans h.2.2.2⟩
theorem K3.of_below {a : Nat} {A B : World} (h : Below A.heap.size A B) (hk : a + 1 + 1 < A.heap.size) : K3 a A B := ⟨h.size, h.block _ (by omega), h.block _ (by omega), h.block _ hk⟩
theorem K3.of_only {a b : Nat} {A B : World} (h : Only b A B) (hk : a + 1 + 1 < A.heap.size) (h1 : b < a ∨ a + 1 + 1 < b) : K3 a A B :=
  ⟨h.size, h.block _ (by omega) (fun e => by injection e; omega), h.block _ (by omega) (fun e => by injection e; omega), h.block _ hk (fun e => by injection e; omega)⟩
theorem K3.put {a l : Nat} {W : World} {o' : Obj} (h1 : l < a ∨ a + 1 + 1 < l) : K3 a W (W.putObj l o') :=
  ⟨by simp, World.putObj_heap_other (by omega), World.putObj_heap_other (by omega), World.putObj_heap_other (by omega)⟩

/-- What the iterator hands to a round. -/
def encP (v n C : Nat) (x : Fin C) : Array Value := #[.int .i64 ((x.1 : Nat) : Int), .int .i64 ((placeN v n x.1 : Nat) : Int)]

end Go.Proofs.Ytlhbkjgddpelgaa
/- matched -/
namespace Go.Proofs.Ytlhbkjgddpelgaa
open Go.RowKit Go.Shelf
attribute [local go_sem] Oper.semAt_some
def hasP {C : Nat} (pre : List (Fin C)) (y : Nat) : Bool := pre.any fun x => x.1 == y
theorem hasP_snoc {C : Nat} (pre : List (Fin C)) (x : Fin C) (y : Nat) : hasP (pre ++ [x]) y = (hasP pre y || x.1 == y) := by simp [hasP]
theorem hasP_all {C : Nat} {y : Nat} (h : y < C) : hasP (seqTo C C) y = true := by
  unfold hasP
  rw [List.any_eq_true]
  exact ⟨⟨y, h⟩, seqTo_mem _ h, by simp⟩

/-- What holds between two rounds. -/
structure MInv (w W : World) (A : Option Addr) (n c C : Nat) (T : Nat → Int) (pre : List (Fin C)) : Prop where
  row : W.rowIs (w.heap.size + 1) 3 C (fun y => .int .i64 (if hasP pre y = true then T y else 0))
  b0 : Box W w.heap.size 22 #[.slice A n c]
  b2 : Box W (w.heap.size + 1 + 1) 22 #[.slice (some ⟨w.heap.size + 1, 0, none⟩) C C]
  below : Below w.heap.size w W
  size : w.heap.size + 6 ≤ W.heap.size
theorem MInv.grown {w W Y : World} {A : Option Addr} {n c C : Nat} {T : Nat → Int} {pre : List (Fin C)} {row : Option Nat} (h : MInv w W A n c C T pre) (hg : W.grownBy Y row) (hr : ∀ r, row = some r → w.heap.size + 6 ≤ r) : MInv w Y A n c C T pre := by
  have hs := h.size
  have hk : ∀ k, k < w.heap.size + 6 → Y.heap[k]? = W.heap[k]? := fun k hk => hg.block k (by omega) (fun e => by have := hr k e.symm; omega)
  exact ⟨h.row.of_block (hk _ (by omega)), (hk _ (by omega)).trans h.b0, (hk _ (by omega)).trans h.b2, h.below.grown hg (Nat.le_trans (by omega) hs) (fun k e => by have := hr k e; omega), Nat.le_trans hs hg.size⟩
theorem MInv.set_ {w W : World} {A : Option Addr} {n c C : Nat} {T : Nat → Int} {pre : List (Fin C)} (h : MInv w W A n c C T pre) (x : Fin C) : MInv w (W.setCell ⟨w.heap.size + 1, x.1, none⟩ (.int .i64 (T x.1))) A n c C T (pre ++ [x]) := by
  refine ⟨(h.row.set x.1 _).congr (fun y _ => ?_), h.b0.other (by simp) _, h.b2.other (by simp) _, h.below.setCell (by simp) _, by simpa [World.setCell] using h.size⟩
  rw [hasP_snoc]
  by_cases e : y = x.1
  · subst e
    simp
  · rw [if_neg e]
    have : (x.1 == y) = false := by simpa using fun e' => e e'.symm
    rw [this, Bool.or_false]
theorem MInv.drew {w W : World} {A : Option Addr} {n c C : Nat} {T : Nat → Int} {pre : List (Fin C)} (h : MInv w W A n c C T pre) : MInv w W.drew A n c C T pre := ⟨h.row, h.b0, h.b2, h.below.drew, h.size⟩
theorem MInv.drewN {w W : World} {A : Option Addr} {n c C : Nat} {T : Nat → Int} {pre : List (Fin C)} (h : MInv w W A n c C T pre) (k : Nat) : MInv w (W.drewN k) A n c C T pre := ⟨h.row, h.b0, h.b2, Go.below_drewN h.below k, h.size⟩

end Go.Proofs.Ytlhbkjgddpelgaa
/- Encode, Decode, Match on what is right -/
namespace Go.Proofs.Ytlhbkjgddpelgaa
open Go.RowKit Go.Shelf
theorem bitsErr_ok' {n : Nat} {F : Nat → Int} (h0 : 0 < n) (h1 : n ≤ 200) (hb : ∀ k, k < n → IsBit (F k)) : firstE [firstE [unI (decide (0 < n)) 10, unI (decide (n ≤ 200)) 8], unI (bitsB n F) 15] = 0 := by
  have e1 : decide (0 < n) = true := by simpa using h0
  have e2 : decide (n ≤ 200) = true := by simpa using h1
  have e3 := bitsB_iff.2 hb
  rw [e1, e2, e3]; rfl
theorem softErr_ok {n : Nat} {F : Nat → Int} (h0 : 0 < n) (h1 : n ≤ 400) (hb : ∀ k, k < n → -1000000 ≤ F k ∧ F k ≤ 1000000) : firstE [firstE [unI (decide (0 < n)) 10, unI (decide (n ≤ 400)) 8], unI (!anyN n fun j => !withinB (F j) (-1000000) 1000000) 2] = 0 := by
  have e1 : decide (0 < n) = true := by simpa using h0
  have e2 : decide (n ≤ 400) = true := by simpa using h1
  have e3 : (!anyN n fun j => !withinB (F j) (-1000000) 1000000) = true := by
    rw [Bool.not_eq_true', ← Bool.not_eq_true, anyN_iff]
    rintro ⟨j, hj, h⟩
    rw [withinB_yes (hb j hj)] at h
    cases h
  rw [e1, e2, e3]; rfl
theorem balloc' {B : Nat} {w1 W : World} (h : Below B w1 W) (hB : B ≤ w1.heap.size) (o : Obj) : Below B w1 (W.alloc o) := h.alloc (Nat.le_trans hB h.size) o
theorem bstep2 {B : Nat} {w1 W w2 : World} {p q : Prop} (hb : Below W.heap.size W w2) (h : p ∧ q ∧ Below B w1 W) (hB : B ≤ w1.heap.size) : Below B w1 w2 := h.2.2.trans (hb.mono (Nat.le_trans hB h.2.2.size))
end Go.Proofs.Ytlhbkjgddpelgaa
/- exploring -/
namespace Go.Proofs.Ytlhbkjgddpelgaa
open Go.RowKit
theorem balloc {B : Nat} {w1 W : World} (h : Below B w1 W) (hB : B ≤ w1.heap.size) (o : Obj) : Below B w1 (W.alloc o) := h.alloc (Nat.le_trans hB h.size) o
theorem bstep {B : Nat} {w1 W w2 : World} (hb : Below W.heap.size W w2) (h : Below B w1 W) (hB : B ≤ w1.heap.size) : Below B w1 w2 := h.trans (hb.mono (Nat.le_trans hB h.size))
theorem bstepS {B : Nat} {w1 W w2 : World} {p q : Prop} (hb : Below W.heap.size W w2) (h : p ∧ q ∧ Below B w1 W) (hB : B ≤ w1.heap.size) : Below B w1 w2 := bstep hb h.2.2 hB
end Go.Proofs.Ytlhbkjgddpelgaa
/- exploring: remainder -/
namespace Go.Proofs.Ytlhbkjgddpelgaa
open Go.RowKit
end Go.Proofs.Ytlhbkjgddpelgaa
/- Remainder, Encode, Decode, Match on what is right -/
namespace Go.Proofs.Ytlhbkjgddpelgaa
open Go.RowKit
/-- The numbers of a list, 0 behind it. -/
def getL (l : List Int) (k : Nat) : Int := l.getD k 0
theorem IntsAt.of_box {w : World} {lo g : Nat} {t : TypeId} (l : List Int) (n : Nat) (hn : n = l.length) (h : Box w g t (l.map (Value.int .i64)).toArray) (hl : lo ≤ g) : IntsAt w lo (some ⟨g, 0, none⟩) n (getL l) := fun k hk => by
  subst hn
  refine ⟨g, 0, rfl, hl, h.lt, ?_⟩
  rw [Nat.zero_add, h.at_ k, List.getElem?_toArray, List.getElem?_map, List.getElem?_eq_getElem hk]
  simp [getL, hk]
theorem firstE_none : firstE [] = 0 := rfl
theorem firstE_cons (e : Int) (r : List Int) : firstE (e :: r) = if e = 0 then firstE r else e := rfl
theorem bitsErr_ok {n : Nat} {F : Nat → Int} (h0 : 0 < n) (h1 : n ≤ 200) (hb : ∀ k, k < n → IsBit (F k)) : firstE [firstE [unI (decide (0 < n)) 10, unI (decide (n ≤ 200)) 8], unI (bitsB n F) 15] = 0 := by
  have e1 : decide (0 < n) = true := by simpa using h0
  have e2 : decide (n ≤ 200) = true := by simpa using h1
  have e3 := bitsB_iff.2 hb
  rw [e1, e2, e3]; rfl
end Go.Proofs.Ytlhbkjgddpelgaa
