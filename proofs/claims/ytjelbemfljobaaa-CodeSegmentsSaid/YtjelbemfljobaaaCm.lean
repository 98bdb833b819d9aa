/- Plain functions of chapter 2: what words, decoding, remainders and versions are, on functions of the place. -/
import Derived.Laws.BitsAllLaws
import Derived.Laws.BitsLemmas
import Derived.IntWalk
namespace Go.Proofs.Ytjelbemfljobaaa

/-- Bits of two numbers that are not below 0, at int. -/
theorem ofInt_small (a : Nat) (h : a < 2 ^ 63) : (BitVec.ofInt 64 (a : Int)).toNat = a := by
  rw [BitVec.ofInt_natCast, BitVec.toNat_ofNat]
  exact Nat.mod_eq_of_lt (by omega)
theorem wrap_small (x : Nat) (h : x < 2 ^ 63) : IntKind.i64.wrap (x : Int) = x := by
  rw [IntKind.wrap_i64]; omega
theorem andI (a b : Nat) (ha : a < 2 ^ 63) (hb : b < 2 ^ 63) : bits .and .i64 (a : Int) (b : Int) = ((a &&& b : Nat) : Int) := by
  have hx : a &&& b < 2 ^ 63 := Nat.and_lt_two_pow _ hb
  show IntKind.i64.wrap ((BitVec.ofInt 64 (a : Int) &&& BitVec.ofInt 64 (b : Int)).toNat : Int) = _
  rw [BitVec.toNat_and, ofInt_small a ha, ofInt_small b hb, wrap_small _ hx]
theorem xorI (a b : Nat) (ha : a < 2 ^ 63) (hb : b < 2 ^ 63) : bits .xor .i64 (a : Int) (b : Int) = ((a ^^^ b : Nat) : Int) := by
  have hx : a ^^^ b < 2 ^ 63 := Nat.xor_lt_two_pow ha hb
  show IntKind.i64.wrap ((BitVec.ofInt 64 (a : Int) ^^^ BitVec.ofInt 64 (b : Int)).toNat : Int) = _
  rw [BitVec.toNat_xor, ofInt_small a ha, ofInt_small b hb, wrap_small _ hx]

/-- A number is a bit. -/
def IsBit (x : Int) : Prop := x = 0 ∨ x = 1
instance (x : Int) : Decidable (IsBit x) := by unfold IsBit; exact inferInstance
theorem IsBit.le {x : Int} (h : IsBit x) : 0 ≤ x ∧ x ≤ 1 := by rcases h with h | h <;> omega
theorem isBit_iff {x : Int} : IsBit x ↔ 0 ≤ x ∧ x ≤ 1 := ⟨IsBit.le, fun h => by unfold IsBit; omega⟩

/-- The sum of two bits, modulo 2. -/
def xor1 (a b : Int) : Int := (a + b) % 2
theorem xor1_bit (a b : Int) : IsBit (xor1 a b) := by unfold xor1 IsBit; omega
theorem xor1_bits {a b : Int} (ha : IsBit a) (hb : IsBit b) : bits .xor .i64 a b = xor1 a b := by
  rcases ha with rfl | rfl <;> rcases hb with rfl | rfl <;> decide

/-- The bit j of a word, of the first i positions. -/
def wsum (U : Nat → Int) (j : Nat) : Nat → Int
  | 0 => 0
  | i + 1 => if i &&& j = j then xor1 (wsum U j i) (U i) else wsum U j i
theorem wsum_bit (U : Nat → Int) (j : Nat) : ∀ i, IsBit (wsum U j i)
  | 0 => .inl rfl
  | i + 1 => by
    unfold wsum
    split
    · exact xor1_bit _ _
    · exact wsum_bit U j i
def wordF (n : Nat) (U : Nat → Int) (j : Nat) : Int := wsum U j n
theorem wordF_bit (n : Nat) (U : Nat → Int) (j : Nat) : IsBit (wordF n U j) := wsum_bit U j n
theorem wsum_congr {U V : Nat → Int} {j : Nat} : ∀ {i : Nat}, (∀ k, k < i → U k = V k) → wsum U j i = wsum V j i
  | 0, _ => rfl
  | i + 1, h => by
    unfold wsum
    rw [wsum_congr (i := i) (fun k hk => h k (by omega)), h i (by omega)]

/-- The size of a number. -/
def sizeI (a : Int) : Int := max a (-a)
/-- The lesser size of two, with the sign of the product. -/
def lesserI (a b : Int) : Int := if decide (a < 0) = decide (b < 0) then min (sizeI a) (sizeI b) else -min (sizeI a) (sizeI b)
theorem lesserI_le {a b M : Int} (ha : -M ≤ a ∧ a ≤ M) (hb : -M ≤ b ∧ b ≤ M) : -M ≤ lesserI a b ∧ lesserI a b ≤ M := by
  unfold lesserI sizeI; split <;> omega

/-- What the second half is found from. -/
def farF (v a b : Int) : Int := if v = 1 then b - a else b + a
/-- Successive cancellation, of 2 to the power k soft bits. -/
def cancelF : Nat → (Nat → Bool) → (Nat → Int) → Nat → Int
  | 0, I, S, _ => if I 0 = true ∧ S 0 < 0 then 1 else 0
  | k + 1, I, S, j =>
    let first := cancelF k I (fun i => lesserI (S i) (S (2 ^ k + i)))
    if j < 2 ^ k then first j
    else cancelF k (fun i => I (2 ^ k + i)) (fun i => farF (wordF (2 ^ k) first i) (S i) (S (2 ^ k + i))) (j - 2 ^ k)
theorem cancelF_bit : ∀ (k : Nat) (I : Nat → Bool) (S : Nat → Int) (j : Nat), IsBit (cancelF k I S j)
  | 0, I, S, j => by unfold cancelF; split; exact .inr rfl; exact .inl rfl
  | k + 1, I, S, j => by
    unfold cancelF
    simp only
    split
    · exact cancelF_bit k _ _ _
    · exact cancelF_bit k _ _ _

/-- The remainder's register behind a further bit. -/
def remStep (d taps rest b : Nat) : Nat :=
  if (rest >>> (d - 1)) ^^^ b = 1 then ((2 * rest) % 2 ^ d) ^^^ taps else (2 * rest) % 2 ^ d
def remF (d taps : Nat) (F : Nat → Int) : Nat → Nat
  | 0 => 0
  | k + 1 => remStep d taps (remF d taps F k) (F k).toNat
theorem remStep_lt {d taps rest b : Nat} (ht : taps < 2 ^ d) : remStep d taps rest b < 2 ^ d := by
  unfold remStep
  have h : (2 * rest) % 2 ^ d < 2 ^ d := Nat.mod_lt _ (Nat.two_pow_pos d)
  split
  · exact Nat.xor_lt_two_pow h ht
  · exact h
theorem remF_lt {d taps : Nat} (F : Nat → Int) (ht : taps < 2 ^ d) : ∀ k, remF d taps F k < 2 ^ d
  | 0 => Nat.two_pow_pos d
  | _ + 1 => remStep_lt ht
/-- The bits of the remainder of n bits. -/
def remB (d taps n : Nat) (F : Nat → Int) (j : Nat) : Int := ((remF d taps F n >>> (d - 1 - j) &&& 1 : Nat) : Int)
theorem remB_bit (d taps n : Nat) (F : Nat → Int) (j : Nat) : IsBit (remB d taps n F j) := by
  unfold remB
  rw [Nat.and_one_is_mod]
  unfold IsBit; omega

/-- The place of a bit that is sent. -/
def placeN (v n k : Nat) : Nat := (v * n / 4 + k) % n
theorem placeN_lt {v n k : Nat} (hn : 0 < n) : placeN v n k < n := Nat.mod_lt _ hn
theorem placeN_zero {v n : Nat} (hv : v < 4) (hn : 0 < n) : placeN v n 0 = v * n / 4 := by
  unfold placeN
  have : v * n / 4 < n := by
    rw [Nat.div_lt_iff_lt_mul (by decide), Nat.mul_comm n 4]
    exact Nat.mul_lt_mul_of_pos_right hv hn
  rw [Nat.add_zero, Nat.mod_eq_of_lt this]
theorem placeN_succ (v n k : Nat) : placeN v n (k + 1) = (placeN v n k + 1) % n := by
  unfold placeN
  rw [Nat.mod_add_mod, Nat.add_assoc]

end Go.Proofs.Ytjelbemfljobaaa
