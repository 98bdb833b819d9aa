/- Lemmas: Bi, Ba, Bb, Bc, Fg, Eh, Ga, Hc, Hm, He, Bd, Bg, Bf, Bh, Be, Bj, Bm, Of, Og. -/
import Derived.BigQuiet
import Derived.Deep.QuietTactic
import Derived.Laws.OwnMore
import Derived.StillTailTactics
import Derived.Test.YtcndeegfkgfnkaaBy01
import Derived.Test.YtcndeegfkgfnkaaBy02
import Derived.Test.YtcndeegfkgfnkaaBy03
import Derived.Test.YtcndeegfkgfnkaaBy04
import Derived.Test.YtcndeegfkgfnkaaBy05
import Derived.Test.YtcndeegfkgfnkaaBy09
set_option linter.unusedVariables false
set_option linter.unusedSimpArgs false
/- SquareOf and Compared of the code. -/
namespace Go.Proofs.Ytcndeegfkgfnkaa
open Go.RowKit
theorem parts4 (M a b c d : Int) (g : Nat) (w : World) (hg : g = w.heap.size) (hM : 0 ≤ M ∧ M ≤ 9000000000000000000) :
    Calls Try.prog 56 #[.int .i64 M, .slice (some ⟨g, 0, none⟩) 4 4] (w.alloc (.cells #[.int .i64 a, .int .i64 b, .int .i64 c, .int .i64 d] 3)) fun e w' => e = .returned (.int .i64 (Num.err M ⟨a, b, c, d⟩)) ∧ w.alloc (.cells #[.int .i64 a, .int .i64 b, .int .i64 c, .int .i64 d] 3) = w' := by
  rw [← size4 M a b c d (listF [a, b, c, d]) rfl rfl rfl rfl]
  exact partsError_any M (some ⟨g, 0, none⟩) 4 4 (listF [a, b, c, d]) _ (by decide) hM (IntsAt.of_list [a, b, c, d] 4 rfl (Box.made hg) (Nat.zero_le _))
def sqRP (x : Num) : Int := if x.err 1000000 = 0 then x.sqP else 0
def sqRQ (x : Num) : Int := if x.err 1000000 = 0 then x.sqQ else 0
/-- The error of two squares that are compared, and what Compared hands back. -/
def cmE (a b c d : Int) : Int := Num.err 10000000000000 ⟨a, b, c, d⟩
def cmR (a b c d : Int) : Int := if cmE a b c d = 0 then compI (a - c) (d - b) else 0
end Go.Proofs.Ytcndeegfkgfnkaa
/- Numbers of any size (downtiltbase): mathematics of digits; trimmed, wideOf. -/
namespace Go.Proofs.Ytcndeegfkgfnkaa
open Go.RowKit
def BB : Int := 1000000000
def valD (D : Nat → Int) : Nat → Int
  | 0 => 0
  | k + 1 => valD D k + D k * BB ^ k
def Dig (n : Nat) (D : Nat → Int) : Prop := ∀ j, j < n → 0 ≤ D j ∧ D j < BB
def Norm (n : Nat) (D : Nat → Int) : Prop := n = 0 ∨ D (n - 1) ≠ 0
def trimN (D : Nat → Int) : Nat → Nat
  | 0 => 0
  | k + 1 => if D k = 0 then trimN D k else k + 1
theorem pow_pos_BB (k : Nat) : 0 < BB ^ k := Int.pow_pos (by decide)
theorem valD_congr {D E : Nat → Int} : ∀ n, (∀ j, j < n → D j = E j) → valD D n = valD E n
  | 0, _ => rfl
  | k + 1, h => by
    show valD D k + D k * BB ^ k = valD E k + E k * BB ^ k
    rw [valD_congr k fun j hj => h j (by omega), h k (Nat.lt_succ_self k)]
theorem valD_range {D : Nat → Int} : ∀ n, Dig n D → 0 ≤ valD D n ∧ valD D n < BB ^ n
  | 0, _ => ⟨Int.le_refl _, (by decide : (0 : Int) < BB ^ 0)⟩
  | k + 1, h => by
    obtain ⟨h1, h2⟩ := valD_range k fun j hj => h j (by omega)
    obtain ⟨d0, d1⟩ := h k (Nat.lt_succ_self k)
    have hp := pow_pos_BB k
    show 0 ≤ valD D k + D k * BB ^ k ∧ valD D k + D k * BB ^ k < BB ^ (k + 1)
    rw [Int.pow_succ, Int.mul_comm (BB ^ k) BB]
    have a1 : 0 ≤ D k * BB ^ k := Int.mul_nonneg d0 (by omega)
    have a2 : (D k + 1) * BB ^ k ≤ BB * BB ^ k := Int.mul_le_mul_of_nonneg_right (by omega) (by omega)
    rw [Int.add_mul, Int.one_mul] at a2
    omega
theorem trimN_le (D : Nat → Int) : ∀ n, trimN D n ≤ n
  | 0 => Nat.le_refl _
  | k + 1 => by
    unfold trimN
    split
    · have := trimN_le D k; omega
    · exact Nat.le_refl _
theorem trimN_norm (D : Nat → Int) : ∀ n, Norm (trimN D n) D
  | 0 => .inl rfl
  | k + 1 => by
    unfold trimN
    split
    · exact trimN_norm D k
    · rename_i h; exact .inr (by simpa using h)
theorem trimN_val (D : Nat → Int) : ∀ n, valD D (trimN D n) = valD D n
  | 0 => rfl
  | k + 1 => by
    unfold trimN
    split
    · rename_i h
      rw [trimN_val D k]
      show valD D k = valD D k + D k * BB ^ k
      rw [h, Int.zero_mul, Int.add_zero]
    · rfl
theorem norm_ge {D : Nat → Int} {n : Nat} (hd : Dig (n + 1) D) (hn : Norm (n + 1) D) : BB ^ n ≤ valD D (n + 1) := by
  rcases hn with h | h
  · exact absurd h (Nat.succ_ne_zero n)
  · rw [Nat.add_sub_cancel] at h
    have h1 := (valD_range n fun j hj => hd j (by omega)).1
    obtain ⟨d0, -⟩ := hd n (Nat.lt_succ_self n)
    have hp := pow_pos_BB n
    show BB ^ n ≤ valD D n + D n * BB ^ n
    have a2 : 1 * BB ^ n ≤ D n * BB ^ n := Int.mul_le_mul_of_nonneg_right (by omega) (by omega)
    omega
theorem norm_pos {D : Nat → Int} {n : Nat} (hd : Dig n D) (hn : Norm n D) (h : 0 < n) : 0 < valD D n := by
  obtain ⟨k, rfl⟩ : ∃ k, n = k + 1 := ⟨n - 1, by omega⟩
  have := norm_ge hd hn
  have := pow_pos_BB k
  omega
theorem pow_mono_BB {a b : Nat} (h : a ≤ b) : BB ^ a ≤ BB ^ b := by
  obtain ⟨d, rfl⟩ : ∃ d, b = a + d := ⟨b - a, by omega⟩
  induction d with
  | zero => exact Int.le_refl _
  | succ d ih =>
    have := ih (by omega)
    rw [← Nat.add_assoc, Int.pow_succ]
    have hp := pow_pos_BB (a + d)
    have : BB ^ (a + d) * 1 ≤ BB ^ (a + d) * BB := Int.mul_le_mul_of_nonneg_left (by decide) (by omega)
    omega
theorem valD_fewer {D E : Nat → Int} {n m : Nat} (h : n < m) (hd : Dig n D) (he : Dig m E) (hn : Norm m E) : valD D n < valD E m := by
  obtain ⟨k, rfl⟩ : ∃ k, m = k + 1 := ⟨m - 1, by omega⟩
  have h1 := (valD_range n hd).2
  have h2 := norm_ge he hn
  have h3 := pow_mono_BB (show n ≤ k by omega)
  omega
theorem valD_less {D E : Nat → Int} {i : Nat} : ∀ {n : Nat}, Dig n D → Dig n E → i < n → D i < E i → (∀ j, i < j → j < n → D j = E j) → valD D n < valD E n
  | 0, _, _, h, _, _ => absurd h (Nat.not_lt_zero i)
  | k + 1, hd, he, hi, hl, hq => by
    show valD D k + D k * BB ^ k < valD E k + E k * BB ^ k
    have hp := pow_pos_BB k
    by_cases e : i = k
    · subst e
      have h1 := (valD_range i fun j hj => hd j (by omega)).2
      have h2 := (valD_range i fun j hj => he j (by omega)).1
      have a2 : (D i + 1) * BB ^ i ≤ E i * BB ^ i := Int.mul_le_mul_of_nonneg_right (by omega) (by omega)
      rw [Int.add_mul, Int.one_mul] at a2
      omega
    · have h1 := valD_less (D := D) (E := E) (i := i) (n := k) (fun j hj => hd j (by omega)) (fun j hj => he j (by omega)) (by omega) hl fun j h1 h2 => hq j h1 (by omega)
      rw [hq k (by omega) (Nat.lt_succ_self k)]
      omega
end Go.Proofs.Ytcndeegfkgfnkaa
/- Numbers of any size: wideOf, cmpDigits, digit, WideNeg. -/
namespace Go.Proofs.Ytcndeegfkgfnkaa
open Go.RowKit
def sgnT (s : Int) (t : Nat) : Int := if t = 0 then 0 else s
def digN (n : Nat) (D : Nat → Int) (i : Nat) : Int := if i < n then D i else 0
end Go.Proofs.Ytcndeegfkgfnkaa
/- Numbers of any size: subDigits. -/
namespace Go.Proofs.Ytcndeegfkgfnkaa
open Go.RowKit
/-- The digit i of a difference, and the borrow behind the first i digits. -/
def subB (D G : Nat → Int) : Nat → Int
  | 0 => 0
  | k + 1 => if D k - G k - subB D G k < 0 then 1 else 0
def subD (D G : Nat → Int) (k : Nat) : Int := if D k - G k - subB D G k < 0 then D k - G k - subB D G k + BB else D k - G k - subB D G k
theorem subB_bit {D G : Nat → Int} : ∀ k, subB D G k = 0 ∨ subB D G k = 1
  | 0 => .inl rfl
  | k + 1 => by
    show (if _ then (1 : Int) else 0) = 0 ∨ (if _ then (1 : Int) else 0) = 1
    split
    · exact .inr rfl
    · exact .inl rfl
theorem subD_dig {D G : Nat → Int} {n : Nat} (hD : Dig n D) (hG : Dig n G) : Dig n (subD D G) := fun j hj => by
  obtain ⟨d0, d1⟩ := hD j hj
  obtain ⟨g0, g1⟩ := hG j hj
  have hb := subB_bit (D := D) (G := G) j
  unfold subD
  unfold BB at *
  generalize subB D G j = b at *
  rcases hb with rfl | rfl <;> split <;> omega
theorem subD_val {D G : Nat → Int} : ∀ n, valD (subD D G) n - subB D G n * BB ^ n = valD D n - valD G n
  | 0 => rfl
  | k + 1 => by
    have ih := subD_val (D := D) (G := G) k
    have hs : subD D G k = if D k - G k - subB D G k < 0 then D k - G k - subB D G k + BB else D k - G k - subB D G k := rfl
    show valD (subD D G) k + subD D G k * BB ^ k - (if D k - G k - subB D G k < 0 then (1 : Int) else 0) * BB ^ (k + 1) = valD D k + D k * BB ^ k - (valD G k + G k * BB ^ k)
    rw [Int.pow_succ, Int.mul_comm (BB ^ k) BB]
    generalize subD D G k = z at *
    generalize valD (subD D G) k = V at *
    generalize BB ^ k = p at *
    generalize subB D G k = b at *
    have e1 : (D k - G k - b + BB) * p = D k * p - G k * p - b * p + BB * p := by rw [Int.add_mul, Int.sub_mul, Int.sub_mul]
    have e2 : (D k - G k - b) * p = D k * p - G k * p - b * p := by rw [Int.sub_mul, Int.sub_mul]
    by_cases h : D k - G k - b < 0
    · rw [if_pos h] at hs ⊢
      rw [hs, e1, Int.one_mul]
      omega
    · rw [if_neg h] at hs ⊢
      rw [hs, e2, Int.zero_mul]
      omega
theorem digN_dig {n m : Nat} {E : Nat → Int} (hE : Dig m E) : Dig n (digN m E) := fun j _ => by
  unfold digN
  split
  · rename_i h; exact hE j h
  · exact ⟨Int.le_refl _, by decide⟩
theorem digN_val {m : Nat} {E : Nat → Int} : ∀ n, m ≤ n → valD (digN m E) n = valD E m
  | 0, h => by rw [show m = 0 by omega]; rfl
  | k + 1, h => by
    by_cases e : m = k + 1
    · rw [e]
      exact valD_congr (k + 1) fun j hj => if_pos hj
    · show valD (digN m E) k + digN m E k * BB ^ k = valD E m
      rw [digN_val k (by omega), show digN m E k = 0 from if_neg (by omega), Int.zero_mul, Int.add_zero]
/-- A difference that is not below 0. -/
theorem sub_val {D E : Nat → Int} {n m : Nat} (hD : Dig n D) (hE : Dig m E) (hm : m ≤ n) (h : valD E m ≤ valD D n) : valD (subD D (digN m E)) n = valD D n - valD E m := by
  have h1 := subD_val (D := D) (G := digN m E) n
  rw [digN_val n hm] at h1
  have h2 := (valD_range n (subD_dig hD (digN_dig hE (n := n)))).2
  have hp := pow_pos_BB n
  rcases subB_bit (D := D) (G := digN m E) n with e | e <;> rw [e] at h1
  · rw [Int.zero_mul] at h1; omega
  · rw [Int.one_mul] at h1; omega
end Go.Proofs.Ytcndeegfkgfnkaa
/- base.AreBits -/
namespace Go.Proofs.Ytcndeegfkgfnkaa
open Go.RowKit
end Go.Proofs.Ytcndeegfkgfnkaa
/- exploring: CheckPolar -/
namespace Go.Proofs.Ytcndeegfkgfnkaa
open Go.RowKit
/-- A right polar code: n positions F, ascending, below 2 to the power p. -/
structure PolarOk (p n : Nat) (F : Nat → Int) : Prop where
  power : p ≤ 6
  some_ : 0 < n
  range : ∀ k, k < n → 0 ≤ F k ∧ F k ≤ 2 ^ p - 1
  order : ∀ k, k + 1 < n → F k < F (k + 1)
def beforeI (F : Nat → Int) : Nat → Int
  | 0 => -1
  | k + 1 => F k
end Go.Proofs.Ytcndeegfkgfnkaa
/- Mod, power, small, kindErr, BitsErr, Length, CopyPolar of the reference and the law. -/
namespace Go.Proofs.Ytcndeegfkgfnkaa
open Go.RowKit

def bitsErrR (n : Nat) (F : Nat → Int) : Int := if n = 0 then 10 else if 200 < n then 8 else if bitsB n F = true then 0 else 15
theorem bitsErrR_zero {n : Nat} {F : Nat → Int} (h : bitsErrR n F = 0) : 0 < n ∧ n ≤ 200 ∧ ∀ k, k < n → IsBit (F k) := by
  unfold bitsErrR at h
  by_cases h1 : n = 0
  · rw [if_pos h1] at h; exact absurd h (by decide)
  · rw [if_neg h1] at h
    by_cases h2 : 200 < n
    · rw [if_pos h2] at h; exact absurd h (by decide)
    · rw [if_neg h2] at h
      by_cases h3 : bitsB n F = true
      · exact ⟨by omega, by omega, bitsB_iff.1 h3⟩
      · rw [if_neg h3] at h; exact absurd h (by decide)

end Go.Proofs.Ytcndeegfkgfnkaa
/- BitsOf. -/
namespace Go.Proofs.Ytcndeegfkgfnkaa
open Go.RowKit
/-- The bits of a number, the greatest power first. -/
def bitsOfF (t n : Nat) (j : Nat) : Int := ((t / 2 ^ (n - 1 - j) % 2 : Nat) : Int)
end Go.Proofs.Ytcndeegfkgfnkaa
/- A burst is caught: mathematics of remainders. -/
namespace Go.Proofs.Ytcndeegfkgfnkaa
/-- The bit that a step of the division carries out. -/
def carryB (d s b : Nat) : Bool := decide ((s >>> (d - 1)) ^^^ b = 1)
theorem carry_bit {d s b : Nat} (h0 : 1 ≤ d) (hs : s < 2 ^ d) (hb : b ≤ 1) : carryB d s b = (s.testBit (d - 1) ^^ decide (b = 1)) := by
  have h1 : s >>> (d - 1) ≤ 1 := by
    rw [Nat.shiftRight_eq_div_pow]
    have : 2 ^ d = 2 ^ (d - 1) * 2 := by rw [← Nat.pow_succ]; congr 1; omega
    have := Nat.div_lt_of_lt_mul (show s < 2 ^ (d - 1) * 2 by omega)
    omega
  have h2 : s.testBit (d - 1) = decide (s >>> (d - 1) = 1) := by
    rw [Nat.testBit, Nat.one_and_eq_mod_two]
    generalize s >>> (d - 1) = x at *
    have : x = 0 ∨ x = 1 := by omega
    rcases this with rfl | rfl <;> rfl
  rw [h2]
  unfold carryB
  generalize s >>> (d - 1) = x at *
  have hx : x = 0 ∨ x = 1 := by omega
  have hy : b = 0 ∨ b = 1 := by omega
  rcases hx with rfl | rfl <;> rcases hy with rfl | rfl <;> rfl
theorem step_bit {d t s b : Nat} (ht : t < 2 ^ d) {i : Nat} (hi : i < d) : (remStep d t s b).testBit i = ((decide (0 < i) && s.testBit (i - 1)) ^^ (carryB d s b && t.testBit i)) := by
  have e : (2 * s % 2 ^ d).testBit i = (decide (0 < i) && s.testBit (i - 1)) := by
    rw [Nat.testBit_mod_two_pow, decide_eq_true hi, Bool.true_and]
    cases i with
    | zero => simp [Nat.testBit_zero]
    | succ j => rw [Nat.testBit_succ, Nat.mul_div_cancel_left _ (by decide)]; simp
  unfold remStep carryB
  by_cases h : (s >>> (d - 1)) ^^^ b = 1
  · rw [if_pos h, decide_eq_true h, Nat.testBit_xor, e, Bool.true_and]
  · rw [if_neg h, decide_eq_false h, e, Bool.false_and, Bool.xor_false]
theorem bxor_cancel : ∀ {a b c : Bool}, (a ^^ c) = (b ^^ c) → a = b := by decide
theorem bxor_cancel' : ∀ {a b c : Bool}, (c ^^ a) = (c ^^ b) → a = b := by decide
/-- Two registers differ at a bit of at most this number. -/
def Far (k s s' : Nat) : Prop := ∃ i, i ≤ k ∧ s.testBit i ≠ s'.testBit i
theorem step_far {d t s s' b b' k : Nat} (h0 : 1 ≤ d) (ht : t < 2 ^ d) (todd : t % 2 = 1) (h : Far k s s') (hk : k + 1 < d) : Far (k + 1) (remStep d t s b) (remStep d t s' b') := by
  obtain ⟨i, hi, hne⟩ := h
  have t0 : t.testBit 0 = true := by rw [Nat.testBit_zero]; simp [todd]
  by_cases hc : carryB d s b = carryB d s' b'
  · refine ⟨i + 1, by omega, ?_⟩
    rw [step_bit ht (by omega), step_bit ht (by omega), hc]
    intro h
    have h := bxor_cancel h
    rw [decide_eq_true (Nat.succ_pos i), Bool.true_and, Bool.true_and] at h
    exact hne h
  · refine ⟨0, by omega, ?_⟩
    rw [step_bit ht (by omega), step_bit ht (by omega), t0]
    intro h
    have h := bxor_cancel' h
    rw [Bool.and_true, Bool.and_true] at h
    exact hc h
/-- A further bit that differs. -/
theorem step_new {d t s b b' : Nat} (h0 : 1 ≤ d) (ht : t < 2 ^ d) (todd : t % 2 = 1) (hs : s < 2 ^ d) (hb : b ≤ 1) (hb' : b' ≤ 1) (hne : b ≠ b') : Far 0 (remStep d t s b) (remStep d t s b') := by
  have t0 : t.testBit 0 = true := by rw [Nat.testBit_zero]; simp [todd]
  refine ⟨0, by omega, ?_⟩
  rw [step_bit ht (by omega), step_bit ht (by omega), t0, carry_bit h0 hs hb, carry_bit h0 hs hb']
  have hx : b = 0 ∨ b = 1 := by omega
  have hy : b' = 0 ∨ b' = 1 := by omega
  rcases hx with rfl | rfl <;> rcases hy with rfl | rfl <;> simp at hne ⊢
/-- The same bit behind different registers: they stay different. -/
theorem step_ne {d t s s' b : Nat} (h0 : 1 ≤ d) (ht : t < 2 ^ d) (todd : t % 2 = 1) (hs : s < 2 ^ d) (hs' : s' < 2 ^ d) (hb : b ≤ 1) (hne : s ≠ s') : remStep d t s b ≠ remStep d t s' b := by
  have t0 : t.testBit 0 = true := by rw [Nat.testBit_zero]; simp [todd]
  intro h
  apply hne
  have hc : carryB d s b = carryB d s' b := by
    have this : (remStep d t s b).testBit 0 = (remStep d t s' b).testBit 0 := by rw [h]
    rw [step_bit ht (by omega), step_bit ht (by omega), t0] at this
    simpa using this
  refine Nat.eq_of_testBit_eq fun i => ?_
  by_cases hi : i < d
  · by_cases hl : i = d - 1
    · have h1 := carry_bit h0 hs hb
      have h2 := carry_bit h0 hs' hb
      rw [hc, h2] at h1
      subst hl
      exact (bxor_cancel h1).symm
    · have this : (remStep d t s b).testBit (i + 1) = (remStep d t s' b).testBit (i + 1) := by rw [h]
      rw [step_bit ht (by omega), step_bit ht (by omega), hc] at this
      have h := bxor_cancel this
      rw [decide_eq_true (Nat.succ_pos i), Bool.true_and, Bool.true_and] at h
      exact h
  · have hle : 2 ^ d ≤ 2 ^ i := Nat.pow_le_pow_right (by decide) (by omega)
    rw [Nat.testBit_lt_two_pow (Nat.lt_of_lt_of_le hs hle), Nat.testBit_lt_two_pow (Nat.lt_of_lt_of_le hs' hle)]
theorem IsBit.nat {x : Int} (h : IsBit x) : x.toNat ≤ 1 := by have := h.le; omega
/-- Behind a burst of at most d bits the registers differ. -/
theorem burst_far {d t : Nat} {F G : Nat → Int} (h0 : 1 ≤ d) (ht : t < 2 ^ d) (todd : t % 2 = 1) (hF : ∀ k, IsBit (F k)) (hG : ∀ k, IsBit (G k)) {a m : Nat} (hs : remF d t F m = remF d t G m) (ham : a ≤ m) (hma : m < a + d) (hne : F m ≠ G m) :
    ∀ k, m + 1 + k ≤ a + d → Far k (remF d t F (m + 1 + k)) (remF d t G (m + 1 + k))
  | 0, _ => by
    show Far 0 (remStep d t (remF d t F m) (F m).toNat) (remStep d t (remF d t G m) (G m).toNat)
    rw [← hs]
    refine step_new h0 ht todd (remF_lt F ht m) (hF m).nat (hG m).nat fun e => hne ?_
    have := (hF m).le
    have := (hG m).le
    omega
  | k + 1, hk => step_far h0 ht todd (burst_far h0 ht todd hF hG hs ham hma hne k (by omega)) (by omega)
theorem remF_congr {d t : Nat} {F G : Nat → Int} : ∀ {n}, (∀ k, k < n → F k = G k) → remF d t F n = remF d t G n
  | 0, _ => rfl
  | n + 1, h => by
    show remStep d t (remF d t F n) (F n).toNat = remStep d t (remF d t G n) (G n).toNat
    rw [remF_congr fun k hk => h k (by omega), h n (by omega)]
/-- The word of n bits and their check ends with a register of 0. -/
theorem right_zero {d t n : Nat} {F : Nat → Int} (h0 : 1 ≤ d) (ht : t < 2 ^ d) (hr : ∀ j, j < d → F (n + j) = remB d t n F j) :
    ∀ j, j ≤ d → ∀ i, i < d → (remF d t F (n + j)).testBit i = (decide (j ≤ i) && (remF d t F n).testBit (i - j))
  | 0, _, i, hi => by simp
  | j + 1, hj, i, hi => by
    have ih := right_zero h0 ht hr j (by omega)
    have hb : (F (n + j)).toNat = remF d t F n >>> (d - 1 - j) &&& 1 := by rw [hr j (by omega)]; unfold remB; omega
    have hb1 : (F (n + j)).toNat ≤ 1 := by rw [hb, Nat.and_one_is_mod]; omega
    have hc : carryB d (remF d t F (n + j)) (F (n + j)).toNat = false := by
      rw [carry_bit h0 (remF_lt F ht _) hb1, ih (d - 1) (by omega), decide_eq_true (show j ≤ d - 1 by omega), Bool.true_and, hb, Nat.testBit, Nat.one_and_eq_mod_two, Nat.and_one_is_mod]
      generalize remF d t F n >>> (d - 1 - j) = x
      have : x % 2 = 0 ∨ x % 2 = 1 := by omega
      rcases this with h | h <;> rw [h] <;> rfl
    show (remStep d t (remF d t F (n + j)) (F (n + j)).toNat).testBit i = _
    rw [step_bit ht hi, hc, Bool.false_and, Bool.xor_false]
    by_cases h : 0 < i
    · rw [ih (i - 1) (by omega), decide_eq_true h, Bool.true_and]
      by_cases h2 : j + 1 ≤ i
      · rw [decide_eq_true h2, decide_eq_true (show j ≤ i - 1 by omega), show i - 1 - j = i - (j + 1) by omega]
      · rw [decide_eq_false h2, decide_eq_false (show ¬ j ≤ i - 1 by omega), Bool.false_and, Bool.false_and]
    · rw [decide_eq_false h, decide_eq_false (show ¬ j + 1 ≤ i by omega), Bool.false_and, Bool.false_and]
theorem right_end {d t n : Nat} {F : Nat → Int} (h0 : 1 ≤ d) (ht : t < 2 ^ d) (hr : ∀ j, j < d → F (n + j) = remB d t n F j) : remF d t F (n + d) = 0 := by
  refine Nat.eq_of_testBit_eq fun i => ?_
  rw [Nat.zero_testBit]
  by_cases hi : i < d
  · rw [right_zero h0 ht hr d (Nat.le_refl _) i hi, decide_eq_false (by omega), Bool.false_and]
  · exact Nat.testBit_lt_two_pow (Nat.lt_of_lt_of_le (remF_lt F ht _) (Nat.pow_le_pow_right (by decide) (by omega)))
/-- A BURST IS CAUGHT. -/
theorem burst_caught {d t n a : Nat} {F G : Nat → Int} (h0 : 1 ≤ d) (ht : t < 2 ^ d) (todd : t % 2 = 1) (hF : ∀ k, IsBit (F k)) (hG : ∀ k, IsBit (G k)) (ha : a ≤ n) (hlo : ∀ k, k < a → F k = G k) (hhi : ∀ k, a + d ≤ k → k < n + d → F k = G k)
    (hne : ∃ k, a ≤ k ∧ k < a + d ∧ F k ≠ G k) (hr : ∀ j, j < d → F (n + j) = remB d t n F j) : ¬ ∀ j, j < d → G (n + j) = remB d t n G j := by
  intro hr'
  have e1 := right_end h0 ht hr
  have e2 := right_end h0 ht hr'
  -- the first place that differs
  have hmin : ∃ m, a ≤ m ∧ m < a + d ∧ F m ≠ G m ∧ ∀ k, k < m → F k = G k := by
    obtain ⟨k, hk⟩ := hne
    induction k using Nat.strongRecOn with
    | ind k ih =>
      by_cases h : ∀ j, j < k → F j = G j
      · exact ⟨k, hk.1, hk.2.1, hk.2.2, h⟩
      · obtain ⟨j, h⟩ := Classical.not_forall.1 h
        obtain ⟨hj, h⟩ := Classical.not_imp.1 h
        exact ih j hj ⟨Nat.le_of_not_lt fun hh => h (hlo j hh), by omega, h⟩
  obtain ⟨m, h1, h2, h3, h4⟩ := hmin
  have hf := burst_far h0 ht todd hF hG (remF_congr h4) h1 h2 h3 (a + d - (m + 1)) (by omega)
  rw [show m + 1 + (a + d - (m + 1)) = a + d by omega] at hf
  have hlast : ∀ k, a + d + k ≤ n + d → remF d t F (a + d + k) ≠ remF d t G (a + d + k) := by
    intro k
    induction k with
    | zero => intro _ e; obtain ⟨i, -, hi⟩ := hf; exact hi (by rw [show a + d + 0 = a + d from rfl] at e; rw [e])
    | succ k ih =>
      intro hk
      have e := hhi (a + d + k) (by omega) (by omega)
      show remStep d t (remF d t F (a + d + k)) (F (a + d + k)).toNat ≠ remStep d t (remF d t G (a + d + k)) (G (a + d + k)).toNat
      rw [← e]
      exact step_ne h0 ht todd (remF_lt F ht _) (remF_lt G ht _) (hF _).nat (ih (by omega))
  have := hlast (n - a) (by omega)
  rw [show a + d + (n - a) = n + d by omega] at this
  exact this (e1.trans e2.symm)
end Go.Proofs.Ytcndeegfkgfnkaa
/- A copy that is the law's own: cells read, stored; a pattern that is not 0 has a 1. -/
namespace Go.Proofs.Ytcndeegfkgfnkaa
open Go.RowKit Go.Lib
theorem OwnInts.cap_any {w : World} {base n c : Nat} {A : Option Addr} {F : Nat → Int} (h : OwnInts w base (.slice A n c) n F) : n ≤ c ∧ c ≤ 9223372036854775807 := by
  have hm9 : maxLen ≤ 9223372036854775807 := by decide
  rcases h.2 with ⟨h1, h2⟩ | ⟨g, cap, cur, h1, -, -, hn, hm, -⟩
  · injection h1 with _ _ h3
    omega
  · injection h1 with _ _ h3
    omega
theorem OwnInts.row {w : World} {base n : Nat} {v : Value} {F : Nat → Int} (h : OwnInts w base v n F) (hn : 0 < n) : ∃ g cap, v = .slice (some ⟨g, 0, none⟩) n cap ∧ base ≤ g ∧ g < w.heap.size := by
  rcases h.2 with ⟨h1, h2⟩ | ⟨g, cap, cur, h1, hb, hg, -⟩
  · omega
  · exact ⟨g, cap, h1, hb, by
      rcases Nat.lt_or_ge g w.heap.size with h' | h'
      · exact h'
      · rw [Array.getElem?_eq_none h'] at hg; cases hg⟩
theorem OwnInts.cellAt {w : World} {base n g c : Nat} {F : Nat → Int} (h : OwnInts w base (.slice (some ⟨g, 0, none⟩) n c) n F) {k : Nat} (hk : k < n) : w.cell? ⟨g, k, none⟩ = some (.int .i64 (F k)) := by
  rw [World.ownsRow.cellAt h k (by omega), intCells_get, if_pos hk]
theorem OwnInts.frozen {w : World} {base n g c : Nat} {F : Nat → Int} (h : OwnInts w base (.slice (some ⟨g, 0, none⟩) n c) n F) (k : Nat) : w.frozen? ⟨g, k, none⟩ = false := World.ownsRow.frozenAt h k
def setF (F : Nat → Int) (k : Nat) (x : Int) (j : Nat) : Int := if j = k then x else F j
theorem OwnInts.set_ {w : World} {base n g c : Nat} {F : Nat → Int} (h : OwnInts w base (.slice (some ⟨g, 0, none⟩) n c) n F) (k : Nat) (x : Int) : OwnInts (w.setCell ⟨g, k, none⟩ (.int .i64 x)) base (.slice (some ⟨g, 0, none⟩) n c) n (setF F k x) := by
  have h1 := (World.ownsRow.stored h k (.int .i64 x)).1
  have e : (intCells n F).set k (.int .i64 x) = intCells n (setF F k x) := by
    apply List.ext_getElem?
    intro j
    rw [List.getElem?_set, intCells_get, intCells_get, intCells_len]
    unfold setF
    by_cases e : k = j
    · subst e
      by_cases hk : k < n
      · rw [if_pos rfl, if_pos hk, if_pos hk, if_pos rfl]
      · rw [if_pos rfl, if_neg hk, if_neg hk]
    · rw [if_neg e, if_neg (show ¬ j = k from fun h => e h.symm)]
  rw [e] at h1
  exact h1
set_option maxHeartbeats 1000000 in
theorem copyInts_own (A : Option Addr) (n c : Nat) (F : Nat → Int) (w : World) (hn : n ≤ 100000000) (hI : IntsAt w 0 A n F) :
    Calls Try.prog 10 #[.slice A n c] w fun e w' => ∃ v, e = .returned v ∧ OwnInts w' w.heap.size v n F ∧ Below w.heap.size w w' := by
  go_enter Try.func10, Try.ntmps10
  go_wp2_with (at_builtin; refine wpList_append_ints _ rfl (.tmp 3) (.tmp 4) rfl w.heap.size 0 (.slice (some ⟨w.heap.size, 0, none⟩) 0 0) 0 F rfl (World.ownsRow_made w #[] 0 (Nat.le_refl _) (by unfold maxLen; omega) rfl) A n c F rfl (hI.alloc _) (by omega) (by simp) ?_; intro v' w' h1 hb1)
  go_ret
  have hB : Below w.heap.size w w' := ((Below.refl _ _).alloc (Nat.le_refl _) _).trans hb1
  rw [Nat.zero_add] at h1
  exact ⟨_, rfl, h1.congr fun j _ => by simp [catF], hB⟩
theorem bitsOfF_bit (x d j : Nat) : IsBit (bitsOfF x d j) := by
  unfold bitsOfF IsBit
  omega
theorem pat_some {x d : Nat} (h0 : 0 < x) (h1 : x < 2 ^ d) : ∃ j, j < d ∧ bitsOfF x d j = 1 := by
  refine Classical.byContradiction fun hno => ?_
  have hz : x = 0 := by
    refine Nat.eq_of_testBit_eq fun i => ?_
    rw [Nat.zero_testBit]
    by_cases hi : i < d
    · rw [Nat.testBit_eq_decide_div_mod_eq, decide_eq_false]
      intro h
      refine hno ⟨d - 1 - i, by omega, ?_⟩
      unfold bitsOfF
      rw [show d - 1 - (d - 1 - i) = i by omega, h]
      rfl
    · exact Nat.testBit_lt_two_pow (Nat.lt_of_lt_of_le h1 (Nat.pow_le_pow_right (by decide) (by omega)))
  omega
end Go.Proofs.Ytcndeegfkgfnkaa
/- Numbers of any size: the mathematics of a product, and what a number of any size is in memory. -/
namespace Go.Proofs.Ytcndeegfkgfnkaa
open Go.RowKit
theorem valD_set {F : Nat → Int} {p : Nat} {v : Int} : ∀ N, p < N → valD (setF F p v) N = valD F N + (v - F p) * BB ^ p
  | 0, h => absurd h (Nat.not_lt_zero p)
  | k + 1, h => by
    show valD (setF F p v) k + setF F p v k * BB ^ k = valD F k + F k * BB ^ k + (v - F p) * BB ^ p
    by_cases e : p = k
    · subst e
      rw [valD_congr (D := setF F p v) (E := F) p fun j hj => if_neg (show ¬ j = p by omega), show setF F p v p = v from if_pos rfl, Int.sub_mul]
      omega
    · rw [valD_set k (by omega), show setF F p v k = F k from if_neg (by omega)]
      omega
theorem valD_zero : ∀ n, valD (fun _ => 0) n = 0
  | 0 => rfl
  | k + 1 => by
    show valD (fun _ => 0) k + 0 * BB ^ k = 0
    rw [valD_zero k, Int.zero_mul, Int.add_zero]
/-- One step of the schoolbook product. -/
theorem mul_step {F : Nat → Int} {q N k i : Nat} {a b c V0 vb s : Int} (hq : q = i + k) (hN : q < N) (hs : s = F q + a * b + c) (h : valD F N + c * BB ^ q = V0 + a * vb * BB ^ i) :
    valD (setF F q (s % BB)) N + s / BB * BB ^ (q + 1) = V0 + a * (vb + b * BB ^ k) * BB ^ i := by
  rw [valD_set N hN, Int.pow_succ, Int.mul_comm (BB ^ q) BB]
  have hm := Int.emod_add_mul_ediv s BB
  have e1 : s % BB * BB ^ q + s / BB * (BB * BB ^ q) = F q * BB ^ q + a * b * BB ^ q + c * BB ^ q := by
    rw [← Int.mul_assoc, Int.mul_comm (s / BB) BB, ← Int.add_mul, hm, hs, Int.add_mul, Int.add_mul]
  have e2 : a * (vb + b * BB ^ k) * BB ^ i = a * vb * BB ^ i + a * b * BB ^ q := by
    rw [Int.mul_add, Int.add_mul, ← Int.mul_assoc a b, Int.mul_assoc (a * b), ← Int.pow_add, Nat.add_comm k i, hq]
  rw [e2, Int.sub_mul]
  omega
theorem mul_bound {f a b c s : Int} (hs : s = f + a * b + c) (f0 : 0 ≤ f) (f1 : f < BB) (a0 : 0 ≤ a) (a1 : a < BB) (b0 : 0 ≤ b) (b1 : b < BB) (c0 : 0 ≤ c) (c1 : c < BB) :
    0 ≤ a * b ∧ a * b ≤ 999999998000000001 ∧ 0 ≤ s ∧ s < 1000000000000000000 ∧ 0 ≤ s % BB ∧ s % BB < BB ∧ 0 ≤ s / BB ∧ s / BB < BB := by
  unfold BB at *
  have h1 : 0 ≤ a * b := Int.mul_nonneg a0 b0
  have h2 : a * b ≤ 999999999 * 999999999 := Int.mul_le_mul (by omega) (by omega) b0 (by decide)
  omega
/-- A number of any size: its sign and its digits. -/
def WideAt (w : World) (lo : Nat) (V : Value) (m : Nat) (x : Int) : Prop :=
  ∃ (s : Int) (A : Option Addr) (n c : Nat) (D : Nat → Int), V = .agg #[.int .i64 s, .slice A n c] ∧ n ≤ m ∧ n ≤ c ∧ IntsAt w lo A n D ∧ Dig n D ∧ Norm n D ∧ (s = -1 ∨ s = 0 ∨ s = 1) ∧ (s = 0 ↔ n = 0) ∧ x = s * valD D n
theorem WideAt.below {w w' : World} {lo m : Nat} {V : Value} {x : Int} (h : WideAt w lo V m x) (hb : Below w.heap.size w w') : WideAt w' lo V m x := by
  obtain ⟨s, A, n, c, D, h1, h2, h3, h4, h5⟩ := h
  exact ⟨s, A, n, c, D, h1, h2, h3, h4.below hb, h5⟩
theorem WideAt.weak {w : World} {lo lo' m m' : Nat} {V : Value} {x : Int} (h : WideAt w lo V m x) (h1 : lo' ≤ lo) (h2 : m ≤ m') : WideAt w lo' V m' x := by
  obtain ⟨s, A, n, c, D, g1, g2, g3, g4, g5⟩ := h
  exact ⟨s, A, n, c, D, g1, Nat.le_trans g2 h2, g3, g4.weak h1, g5⟩
theorem sgnT_cases {s : Int} {n : Nat} {D : Nat → Int} (hD : Dig n D) (hs : s = 1 ∨ s = -1 ∨ (s = 0 ∧ valD D n = 0)) :
    (sgnT s (trimN D n) = -1 ∨ sgnT s (trimN D n) = 0 ∨ sgnT s (trimN D n) = 1) ∧ (sgnT s (trimN D n) = 0 ↔ trimN D n = 0) ∧ s * valD D n = sgnT s (trimN D n) * valD D (trimN D n) := by
  have hv := trimN_val D n
  have hp := norm_pos (n := trimN D n) (fun j hj => hD j (Nat.lt_of_lt_of_le hj (trimN_le D n))) (trimN_norm D n)
  rw [hv]
  rw [hv] at hp
  unfold sgnT
  by_cases h : trimN D n = 0
  · rw [if_pos h]
    have h0 : valD D n = 0 := by rw [← hv, h]; rfl
    rw [h0]
    exact ⟨.inr (.inl rfl), ⟨fun _ => h, fun _ => rfl⟩, by rw [Int.mul_zero, Int.mul_zero]⟩
  · rw [if_neg h]
    have h1 := hp (by omega)
    refine ⟨by omega, ⟨fun e => ?_, fun e => absurd e h⟩, rfl⟩
    omega
theorem WideAt.of {w : World} {lo m n c : Nat} {A : Option Addr} {D : Nat → Int} {s : Int} (hI : IntsAt w lo A n D) (hD : Dig n D) (hc : n ≤ c) (hm : n ≤ m) (hs : s = 1 ∨ s = -1 ∨ (s = 0 ∧ valD D n = 0)) :
    WideAt w lo (.agg #[.int .i64 (sgnT s (trimN D n)), .slice A (trimN D n) c]) m (s * valD D n) := by
  have ht := trimN_le D n
  obtain ⟨h1, h2, h3⟩ := sgnT_cases hD hs
  exact ⟨_, A, trimN D n, c, D, rfl, by omega, by omega, fun j hj => hI j (by omega), fun j hj => hD j (by omega), trimN_norm D n, h1, h2, h3⟩
theorem WideAt.sign_pos {w : World} {lo m : Nat} {V : Value} {x : Int} (h : WideAt w lo V m x) (hx : 0 < x) :
    ∃ (A : Option Addr) (n c : Nat) (D : Nat → Int), V = .agg #[.int .i64 1, .slice A n c] ∧ n ≤ m ∧ n ≤ c ∧ IntsAt w lo A n D ∧ Dig n D ∧ Norm n D ∧ 0 < n ∧ x = valD D n := by
  obtain ⟨s, A, n, c, D, h1, h2, h3, h4, h5, h6, h7, h8, h9⟩ := h
  have hv := (valD_range n h5).1
  rcases h7 with rfl | rfl | rfl
  · exfalso; omega
  · rw [Int.zero_mul] at h9; omega
  · rw [Int.one_mul] at h9
    exact ⟨A, n, c, D, h1, h2, h3, h4, h5, h6, by have := h8.2; omega, h9⟩
end Go.Proofs.Ytcndeegfkgfnkaa
/- Numbers of any size: WideCmp of two above 0. -/
namespace Go.Proofs.Ytcndeegfkgfnkaa
open Go.RowKit
theorem sgnT_pos {s : Int} {D : Nat → Int} {n : Nat} (h : valD D n ≠ 0) : sgnT s (trimN D n) = s := if_neg fun e => h (by rw [← trimN_val, e]; rfl)
theorem fewer_of {D E : Nat → Int} {n m : Nat} (hD : Dig n D) (hE : Dig m E) (hEn : Norm m E) (h : valD E m < valD D n) : m ≤ n := by
  rcases Nat.lt_or_ge n m with e | e
  · have := valD_fewer e hD hE hEn; omega
  · exact e
theorem sub_sign {D E : Nat → Int} {n m : Nat} {s : Int} (hD : Dig n D) (hE : Dig m E) (hEn : Norm m E) (h : valD E m < valD D n) : sgnT s (trimN (subD D (digN m E)) (trimN (subD D (digN m E)) n)) = s :=
  sgnT_pos (by rw [trimN_val, sub_val hD hE (fewer_of hD hE hEn h) (Int.le_of_lt h)]; omega)
end Go.Proofs.Ytcndeegfkgfnkaa
/- Numbers of any size: WideMul. -/
namespace Go.Proofs.Ytcndeegfkgfnkaa
open Go.RowKit
theorem ownInts_zeros (w : World) (base g f : Nat) (hb : base ≤ w.heap.size) (hg : g = w.heap.size) (hf : f ≤ maxLen) : OwnInts (w.alloc (.cells (madeCells #[.int .i64 0] f) 3)) base (.slice (some ⟨g, 0, none⟩) f f) f (fun _ => 0) :=
  hg ▸ ⟨by rw [intCells_len, Nat.mul_one], .inr ⟨w.heap.size, f, _, rfl, hb, heap_alloc_new w _, Nat.le_refl _, hf, by simp [madeCells], by
    apply List.ext_getElem?
    intro j
    rw [intCells_get, Nat.mul_one]
    by_cases hj : j < f
    · rw [if_pos hj]; simp [madeCells, hj, Nat.mod_one]
    · rw [if_neg hj]; simp [madeCells, hj]⟩⟩
theorem ownInts_ints {w : World} {base n c : Nat} {A : Option Addr} {F : Nat → Int} (h : OwnInts w base (.slice A n c) n F) : IntsAt w base A n F := by
  obtain ⟨A', c', e, -, hI⟩ := h.form
  injection e with e1
  subst e1
  exact hI
theorem mul_end {F : Nat → Int} {q N i : Nat} {c V vb a : Int} (hN : q < N) (h0 : F q = 0) (h : valD F N + c * BB ^ q = V * vb + a * vb * BB ^ i) : valD (setF F q c) N = (V + a * BB ^ i) * vb := by
  rw [valD_set N hN, h0, Int.sub_zero, h, Int.add_mul, Int.mul_assoc a, Int.mul_assoc a, Int.mul_comm vb]
end Go.Proofs.Ytcndeegfkgfnkaa
/- Numbers of any size: WideSub and WideCmp of two above 0. -/
namespace Go.Proofs.Ytcndeegfkgfnkaa
open Go.RowKit
end Go.Proofs.Ytcndeegfkgfnkaa
/- Numbers of any size: WideOf. -/
namespace Go.Proofs.Ytcndeegfkgfnkaa
open Go.RowKit
def digW (x : Nat) (j : Nat) : Int := ((x / 1000000000 ^ j % 1000000000 : Nat) : Int)
theorem digW_dig (n x : Nat) : Dig n (digW x) := fun j _ => by
  have h := Nat.mod_lt (x / 1000000000 ^ j) (show 0 < 1000000000 by decide)
  unfold digW BB
  omega
theorem digW_next (x k : Nat) : x / 1000000000 ^ (k + 1) = x / 1000000000 ^ k / 1000000000 := by
  rw [Nat.pow_succ, Nat.div_div_eq_div_mul]
theorem digW_val (x : Nat) : ∀ k, valD (digW x) k + ((x / 1000000000 ^ k : Nat) : Int) * BB ^ k = (x : Int)
  | 0 => by rw [Nat.pow_zero, Nat.div_one, Int.pow_zero, Int.mul_one]; exact Int.zero_add _
  | k + 1 => by
    have ih := digW_val x k
    show valD (digW x) k + digW x k * BB ^ k + ((x / 1000000000 ^ (k + 1) : Nat) : Int) * BB ^ (k + 1) = (x : Int)
    rw [digW_next, Int.pow_succ, Int.mul_comm (BB ^ k) BB, show digW x k = ((x / 1000000000 ^ k % 1000000000 : Nat) : Int) from rfl]
    generalize x / 1000000000 ^ k = y at *
    have e1 : ((y % 1000000000 : Nat) : Int) * BB ^ k + ((y / 1000000000 : Nat) : Int) * (BB * BB ^ k) = (y : Int) * BB ^ k := by
      rw [← Int.mul_assoc, ← Int.add_mul]
      congr 1
      unfold BB
      omega
    omega
theorem digW_few {x : Nat} (h : x ≤ 9223372036854775807) : x / 1000000000 ^ 3 = 0 := Nat.div_eq_of_lt (by omega)
end Go.Proofs.Ytcndeegfkgfnkaa
/- SquareErr, SquareOf, SquaresErr and Compared of the reference. -/
namespace Go.Proofs.Ytcndeegfkgfnkaa
open Go.RowKit
/-- Twice a square is no square. -/
theorem no_root : ∀ (n p q : Nat), q ≤ n → p * p = 2 * (q * q) → q = 0
  | 0, _, _, h, _ => by omega
  | n + 1, p, q, h, e => by
    rcases Nat.mod_two_eq_zero_or_one p with h2 | h2
    · obtain ⟨k, rfl⟩ : ∃ k, p = 2 * k := ⟨p / 2, by omega⟩
      have e0 : 2 * k * (2 * k) = 2 * 2 * (k * k) := Nat.mul_mul_mul_comm 2 k 2 k
      have e1 : q * q = 2 * (k * k) := by omega
      rcases Nat.eq_zero_or_pos q with hq | hq
      · exact hq
      · have hqq := Nat.mul_pos hq hq
        have hk : k < q := by
          rcases Nat.lt_or_ge k q with h' | h'
          · exact h'
          · have := Nat.mul_le_mul h' h'
            omega
        have hk0 := no_root n q k (by omega) e1
        subst hk0
        omega
    · obtain ⟨k, rfl⟩ : ∃ k, p = 2 * k + 1 := ⟨p / 2, by omega⟩
      rw [Nat.add_mul, Nat.one_mul, Nat.mul_assoc] at e
      omega
theorem no_rootI {p q : Int} (hq : q ≠ 0) : p * p ≠ 2 * (q * q) := fun e => by
  have e1 := congrArg Int.natAbs e
  rw [Int.natAbs_mul, Int.natAbs_mul, Int.natAbs_mul] at e1
  have := no_root q.natAbs p.natAbs q.natAbs (Nat.le_refl _) e1
  omega
/-- What the reference's Compared says of the differences of two squares. -/
def refC (p q : Int) : Int := if 0 ≤ p ∧ 0 ≤ q then (if p = 0 ∧ q = 0 then 0 else 1) else if p ≤ 0 ∧ q ≤ 0 then -1 else if (0 < cmpI (p * p) (2 * (q * q))) = (0 < p) then 1 else -1
theorem refC_comp (p q : Int) : refC p q = compI p (-q) := by
  unfold refC compI
  have e1 : -q * (-q * 2) = 2 * (q * q) := by rw [Int.neg_mul, Int.neg_mul, Int.mul_neg, Int.neg_neg, Int.mul_comm 2, Int.mul_assoc]
  rw [e1]
  rcases Int.lt_trichotomy p 0 with hp | hp | hp
  · rcases Int.lt_trichotomy q 0 with hq | hq | hq
    · rw [if_neg (by omega), if_pos (by omega), cmpI_lt hp, cmpI_gt (show 0 < -q by omega)]; rw [if_neg (by decide)]; decide
    · subst hq
      rw [if_neg (by omega), if_pos (by omega), cmpI_lt hp]; rw [if_neg (by decide)]; decide
    · have hn := no_rootI (p := p) (q := q) (by omega)
      rw [if_neg (by omega), if_neg (by omega), cmpI_lt hp, cmpI_lt (show -q < 0 by omega), if_pos rfl]
      rcases Int.lt_trichotomy (p * p) (2 * (q * q)) with h | h | h
      · rw [cmpI_lt h, if_pos (by simp; omega)]; decide
      · exact absurd h hn
      · rw [cmpI_gt h, if_neg (by simp; omega)]; decide
  · subst hp
    rcases Int.lt_trichotomy q 0 with hq | hq | hq
    · rw [if_neg (by omega), if_pos (by omega), cmpI_gt (show 0 < -q by omega)]; rw [if_neg (by decide)]; decide
    · subst hq; decide
    · rw [if_pos (by omega), if_neg (by omega), cmpI_lt (show -q < 0 by omega)]; rw [if_neg (by decide)]; decide
  · rcases Int.lt_trichotomy q 0 with hq | hq | hq
    · have hn := no_rootI (p := p) (q := q) (by omega)
      rw [if_neg (by omega), if_neg (by omega), cmpI_gt hp, cmpI_gt (show 0 < -q by omega), if_pos rfl]
      rcases Int.lt_trichotomy (p * p) (2 * (q * q)) with h | h | h
      · rw [cmpI_lt h, if_neg (by simp; omega)]; decide
      · exact absurd h hn
      · rw [cmpI_gt h, if_pos (by simp; omega)]; decide
    · subst hq
      rw [if_pos (by omega), if_neg (by omega), cmpI_gt hp]; rw [if_neg (by decide)]; decide
    · rw [if_pos (by omega), if_neg (by omega), cmpI_gt hp, cmpI_lt (show -q < 0 by omega)]; rw [if_neg (by decide)]; decide
end Go.Proofs.Ytcndeegfkgfnkaa
/- Compared of the reference. -/
namespace Go.Proofs.Ytcndeegfkgfnkaa
open Go.RowKit
end Go.Proofs.Ytcndeegfkgfnkaa
/- OffsetOf of the reference. -/
namespace Go.Proofs.Ytcndeegfkgfnkaa
open Go.RowKit Go.Great
/-- The reference's best offset of the first f ones, and its square. -/
def refB (P : Nat → Num) (n : Nat) : Nat → Int × Int × Int
  | 0 => (0, 0, 0)
  | f + 1 => if f = 0 ∨ 0 < refC ((offS P n f).sqP - (refB P n f).2.1) ((offS P n f).sqQ - (refB P n f).2.2) then ((f : Int), (offS P n f).sqP, (offS P n f).sqQ) else refB P n f
theorem refB_within {P : Nat → Num} {n : Nat} (hn : n ≤ 16) (h : ∀ i, i < n → (P i).Within 40000) : ∀ f, (-2000000000000 ≤ (refB P n f).2.1 ∧ (refB P n f).2.1 ≤ 2000000000000) ∧ -2000000000000 ≤ (refB P n f).2.2 ∧ (refB P n f).2.2 ≤ 2000000000000
  | 0 => by
    show (-2000000000000 ≤ (0 : Int) ∧ (0 : Int) ≤ 2000000000000) ∧ -2000000000000 ≤ (0 : Int) ∧ (0 : Int) ≤ 2000000000000
    exact ⟨⟨by decide, by decide⟩, by decide, by decide⟩
  | f + 1 => by
    unfold refB
    split
    · exact (offS_within hn h f).squares
    · exact refB_within hn h f
theorem nums_cells {w : World} {lo n b o j : Nat} {F : Nat → Num} (h : NumsAt w lo (some ⟨b, o, none⟩) n F) (hj : j < n) : w.cell? ⟨b, o + j * 4, none⟩ = some (.int .i64 (F j).a) ∧ w.cell? ⟨b, o + j * 4 + 1, none⟩ = some (.int .i64 (F j).b) ∧ w.cell? ⟨b, o + j * 4 + 2, none⟩ = some (.int .i64 (F j).c) ∧ w.cell? ⟨b, o + j * 4 + 3, none⟩ = some (.int .i64 (F j).d) := by
  obtain ⟨b', o', e, -, -, h0, h1, h2, h3⟩ := h j hj
  injection e with e
  injection e with e1 e2
  subst e1
  subst e2
  exact ⟨h0, h1, h2, h3⟩
theorem exec_load2r {a : Act} {x : Operand} {d : Option Tmp} {ty : TypeId} {pos : String} {aft : Array Edge} {gd : Option (Nat × Bool)} {b : Nat} {p q : Value} {W : World} (hx : a.eval x = .pointer (some ⟨b, 0, none⟩)) (hr : Box W b 81 #[p, q]) :
    (execOp a.eval ⟨d, .load 81 x, ty, pos, aft, gd⟩).run Try.prog W = .ok (.value (.agg #[p, q])) W := by
  have h0 := hr.at_ 0
  have h1 := hr.at_ 1
  simp only [List.getElem?_toArray] at h0 h1
  simp only [execOp, Instr.loadAt, hx, Instr.sureAddr, Sem.run_bind, Sem.run_pure, Result.andThen_ok]
  have := run_loadVar_mid (P := Try.prog) W b 0 81 [p, q] _ (fun j v hv => by
    match j with
    | 0 => simp at hv; subst hv; simpa using h0
    | 1 => simp at hv; subst hv; simpa using h1
    | n + 2 => simp at hv) Try.underlying81 rfl (by kernel_rfl)
  rw [this]
  rfl
end Go.Proofs.Ytcndeegfkgfnkaa
/- The squares of sizes are not below 0; the offset of the reference is that of the code. -/
namespace Go.Proofs.Ytcndeegfkgfnkaa
open Go.RowKit
theorem two_sq (b d s t : Int) : (b * s + d * t) * (b * s + d * t) + (b * t - d * s) * (b * t - d * s) = (b * b + d * d) * (s * s + t * t) := by grind
theorem two_u (a c : Int) : (a + c) * (a + c) + (c - a) * (c - a) = 2 * (a * a + c * c) := by grind
theorem four_uv (u v : Int) : (u + v) * (u + v) = 4 * (u * v) + (u - v) * (u - v) := by grind
theorem sq_nonneg (a : Int) : 0 ≤ a * a := by
  rcases Int.le_total 0 a with h | h
  · exact Int.mul_nonneg h h
  · exact Int.mul_nonneg_of_nonpos_of_nonpos h h
theorem sqP_nonneg (x : Num) : 0 ≤ x.sqP := by
  have h1 := sq_nonneg x.a
  have h2 := sq_nonneg x.b
  have h3 := sq_nonneg x.c
  have h4 := sq_nonneg x.d
  unfold Num.sqP
  omega
/-- The square of a size, p + q r with r r = 2, is not below 0. -/
theorem sq_norm (x : Num) : 2 * (x.sqQ * x.sqQ) ≤ x.sqP * x.sqP := by
  obtain ⟨a, b, c, d⟩ := x
  have hP : (⟨a, b, c, d⟩ : Num).sqP = (a * a + c * c) + (b * b + d * d) := by show a * a + b * b + c * c + d * d = _; omega
  have hQ : (⟨a, b, c, d⟩ : Num).sqQ = b * (a + c) + d * (c - a) := by show a * b + b * c + c * d - a * d = _; grind
  rw [hP, hQ]
  have e1 := two_sq b d (a + c) (c - a)
  have e2 := two_u a c
  have e3 := four_uv (a * a + c * c) (b * b + d * d)
  have n1 := sq_nonneg (b * (c - a) - d * (a + c))
  have n2 := sq_nonneg ((a * a + c * c) - (b * b + d * d))
  rw [e2] at e1
  generalize (b * (a + c) + d * (c - a)) * (b * (a + c) + d * (c - a)) = q2 at *
  generalize (b * (c - a) - d * (a + c)) * (b * (c - a) - d * (a + c)) = r2 at *
  generalize ((a * a + c * c) - (b * b + d * d)) * ((a * a + c * c) - (b * b + d * d)) = m2 at *
  generalize (a * a + c * c) + (b * b + d * d) = p at *
  generalize p * p = p2 at *
  generalize a * a + c * c = u at *
  generalize b * b + d * d = v at *
  have e4 : v * (2 * u) = 2 * (u * v) := by grind
  omega
theorem sq_sign (x : Num) : (x.sqP = 0 ∧ x.sqQ = 0) ∨ 0 < refC x.sqP x.sqQ := by
  have h0 := sqP_nonneg x
  have h1 := sq_norm x
  generalize x.sqP = p at *
  generalize x.sqQ = q at *
  unfold refC
  by_cases hq : 0 ≤ q
  · rw [if_pos ⟨h0, hq⟩]
    by_cases h : p = 0 ∧ q = 0
    · exact .inl h
    · rw [if_neg h]; exact .inr (by decide)
  · have hqq : 0 < q * q := Int.mul_pos_of_neg_of_neg (by omega) (by omega)
    have hp : 0 < p := by
      rcases Int.lt_or_eq_of_le h0 with h | h
      · exact h
      · exfalso
        rw [← h] at h1
        omega
    have hn := no_rootI (p := p) (q := q) (by omega)
    rw [if_neg (by omega), if_neg (by omega), cmpI_gt (show 2 * (q * q) < p * p by omega), if_pos (by simp; omega)]
    exact .inr (by decide)
theorem refB_offB (P : Nat → Num) (n : Nat) : ∀ f, refB P n f = offB P n f
  | 0 => rfl
  | f + 1 => by
    have ih := refB_offB P n f
    unfold refB offB
    rw [ih, refC_comp, show -((offS P n f).sqQ - (offB P n f).2.2) = (offB P n f).2.2 - (offS P n f).sqQ by omega]
    by_cases h : 0 < compI ((offS P n f).sqP - (offB P n f).2.1) ((offB P n f).2.2 - (offS P n f).sqQ)
    · rw [if_pos (.inr h), if_pos h]
    · by_cases h0 : f = 0
      · subst h0
        rw [if_pos (.inl rfl), if_neg h]
        have hb : offB P n 0 = (0, 0, 0) := rfl
        rw [hb] at h ⊢
        rcases sq_sign (offS P n 0) with ⟨e1, e2⟩ | e
        · rw [e1, e2]; rfl
        · exfalso
          apply h
          rw [refC_comp] at e
          simpa using e
      · rw [if_neg (by rintro (e | e); exact h0 e; exact h e), if_neg h]
end Go.Proofs.Ytcndeegfkgfnkaa
