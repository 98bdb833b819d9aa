/- Lemmas: E36, E37, Wd, Rb. -/
import Derived.Shelf.Abstract
import Derived.Test.YtdkbjgnkehoplaaBy02
import Derived.Test.YtdkbjgnkehoplaaBy03
import Derived.Test.YtdkbjgnkehoplaaBy05
import Derived.Test.YtdkbjgnkehoplaaBy06
set_option linter.unusedVariables false
set_option linter.unusedSimpArgs false
/- Mathematics of channels: inner products, energies, a channel that is cleared of another one. -/
namespace Go.Proofs.Ytdkbjgnkehoplaa
/-- The energy of the first numbers. -/
def enI (X : Nat → Gau) : Nat → Int
  | 0 => 0
  | k + 1 => enI X k + ((X k).re * (X k).re + (X k).im * (X k).im)
/-- The inner product of the first numbers. -/
def inA (G H : Nat → Gau) : Nat → Int
  | 0 => 0
  | k + 1 => inA G H k + ((G k).re * (H k).re + (G k).im * (H k).im)
def inB (G H : Nat → Gau) : Nat → Int
  | 0 => 0
  | k + 1 => inB G H k + ((G k).re * (H k).im - (G k).im * (H k).re)
/-- One number of a cleared channel. -/
def clG (e p q : Int) (x y : Gau) : Gau := ⟨e * y.re - (p * x.re - q * x.im), e * y.im - (p * x.im + q * x.re)⟩
theorem inA_self (X : Nat → Gau) : ∀ n, inA X X n = enI X n
  | 0 => rfl
  | n + 1 => by unfold inA enI; rw [inA_self X n]
theorem inB_self (X : Nat → Gau) : ∀ n, inB X X n = 0
  | 0 => rfl
  | n + 1 => by unfold inB; rw [inB_self X n, Int.mul_comm]; omega
theorem inA_comm (G H : Nat → Gau) : ∀ n, inA H G n = inA G H n
  | 0 => rfl
  | n + 1 => by unfold inA; rw [inA_comm G H n, Int.mul_comm (H n).re, Int.mul_comm (H n).im]
theorem inB_comm (G H : Nat → Gau) : ∀ n, inB H G n = -inB G H n
  | 0 => rfl
  | n + 1 => by
    have h := inB_comm G H n
    unfold inB
    rw [h]
    grind
theorem sq_nonneg (x : Int) : 0 ≤ x * x := by
  rcases Int.le_total 0 x with h | h
  · exact Int.mul_nonneg h h
  · have := Int.mul_nonneg (show 0 ≤ -x by omega) (show 0 ≤ -x by omega)
    rwa [Int.neg_mul_neg] at this
theorem sq_zero {x : Int} (h : x * x = 0) : x = 0 := by
  rcases Int.mul_eq_zero.1 h with h | h <;> exact h
theorem enI_nonneg (X : Nat → Gau) : ∀ n, 0 ≤ enI X n
  | 0 => Int.le_refl _
  | n + 1 => by
    have h := enI_nonneg X n
    have h1 := sq_nonneg (X n).re
    have h2 := sq_nonneg (X n).im
    unfold enI
    omega
theorem enI_zero {X : Nat → Gau} : ∀ {n}, enI X n = 0 → ∀ j, j < n → (X j).re = 0 ∧ (X j).im = 0
  | 0, _, j, hj => absurd hj (Nat.not_lt_zero _)
  | n + 1, h, j, hj => by
    have h0 := enI_nonneg X n
    have h1 := sq_nonneg (X n).re
    have h2 := sq_nonneg (X n).im
    unfold enI at h
    rcases Nat.lt_or_ge j n with hl | hl
    · exact enI_zero (by omega) j hl
    · obtain rfl : j = n := by omega
      exact ⟨sq_zero (by omega), sq_zero (by omega)⟩
theorem enI_none {X : Nat → Gau} : ∀ {n}, (∀ j, j < n → (X j).re = 0 ∧ (X j).im = 0) → enI X n = 0
  | 0, _ => rfl
  | n + 1, h => by
    obtain ⟨h1, h2⟩ := h n (Nat.lt_succ_self n)
    unfold enI
    rw [h1, h2, enI_none fun j hj => h j (by omega)]
    rfl
theorem part_sq {M x : Int} (h : -M ≤ x ∧ x ≤ M) : x * x ≤ M * M := by
  rcases Int.le_total 0 x with h0 | h0
  · exact Int.mul_le_mul h.2 h.2 h0 (by omega)
  · have := Int.mul_le_mul (show -x ≤ M by omega) (show -x ≤ M by omega) (by omega) (by omega)
    rwa [Int.neg_mul_neg] at this
theorem enI_le {X : Nat → Gau} {M : Int} : ∀ {n : Nat}, (∀ j, j < n → (X j).Within M) → enI X n ≤ n * (2 * (M * M))
  | 0, _ => by
    rw [show ((0 : Nat) : Int) * (2 * (M * M)) = 0 from Int.zero_mul _]
    exact Int.le_refl _
  | n + 1, h => by
    have h0 : enI X n ≤ n * (2 * (M * M)) := enI_le fun j hj => h j (Nat.lt_succ_of_lt hj)
    have h1 := part_sq (h n (Nat.lt_succ_self n)).re
    have h2 := part_sq (h n (Nat.lt_succ_self n)).im
    have e : ((n + 1 : Nat) : Int) * (2 * (M * M)) = n * (2 * (M * M)) + 2 * (M * M) := by rw [Int.natCast_succ, Int.add_mul, Int.one_mul]
    rw [e]
    unfold enI
    omega
theorem prod_le {M x y : Int} (h : -M ≤ x ∧ x ≤ M) (k : -M ≤ y ∧ y ≤ M) : -(M * M) ≤ x * y ∧ x * y ≤ M * M := by
  have h1 := part_sq h
  have h2 := part_sq k
  have h3 := sq_nonneg (x - y)
  have h4 := sq_nonneg (x + y)
  have e3 : (x - y) * (x - y) = x * x - 2 * (x * y) + y * y := by grind
  have e4 : (x + y) * (x + y) = x * x + 2 * (x * y) + y * y := by grind
  omega
theorem inA_le {G H : Nat → Gau} {M : Int} : ∀ {n : Nat}, (∀ j, j < n → (G j).Within M ∧ (H j).Within M) → -(n * (2 * (M * M))) ≤ inA G H n ∧ inA G H n ≤ n * (2 * (M * M))
  | 0, _ => by
    rw [show ((0 : Nat) : Int) * (2 * (M * M)) = 0 from Int.zero_mul _]
    exact ⟨Int.le_refl _, Int.le_refl _⟩
  | n + 1, h => by
    have h0 : -(n * (2 * (M * M))) ≤ inA G H n ∧ inA G H n ≤ n * (2 * (M * M)) := inA_le fun j hj => h j (Nat.lt_succ_of_lt hj)
    obtain ⟨hg, hh⟩ := h n (Nat.lt_succ_self n)
    have h1 := prod_le hg.re hh.re
    have h2 := prod_le hg.im hh.im
    have e : ((n + 1 : Nat) : Int) * (2 * (M * M)) = n * (2 * (M * M)) + 2 * (M * M) := by rw [Int.natCast_succ, Int.add_mul, Int.one_mul]
    rw [e]
    unfold inA
    omega
theorem inB_le {G H : Nat → Gau} {M : Int} : ∀ {n : Nat}, (∀ j, j < n → (G j).Within M ∧ (H j).Within M) → -(n * (2 * (M * M))) ≤ inB G H n ∧ inB G H n ≤ n * (2 * (M * M))
  | 0, _ => by
    rw [show ((0 : Nat) : Int) * (2 * (M * M)) = 0 from Int.zero_mul _]
    exact ⟨Int.le_refl _, Int.le_refl _⟩
  | n + 1, h => by
    have h0 : -(n * (2 * (M * M))) ≤ inB G H n ∧ inB G H n ≤ n * (2 * (M * M)) := inB_le fun j hj => h j (Nat.lt_succ_of_lt hj)
    obtain ⟨hg, hh⟩ := h n (Nat.lt_succ_self n)
    have h1 := prod_le hg.re hh.im
    have h2 := prod_le hg.im hh.re
    have e : ((n + 1 : Nat) : Int) * (2 * (M * M)) = n * (2 * (M * M)) + 2 * (M * M) := by rw [Int.natCast_succ, Int.add_mul, Int.one_mul]
    rw [e]
    unfold inB
    omega
/-- The inner product with a cleared channel. -/
theorem inA_clear (G H : Nat → Gau) (e p q : Int) : ∀ n, inA G (fun j => clG e p q (G j) (H j)) n = e * inA G H n - p * enI G n
  | 0 => by simp [inA, enI]
  | n + 1 => by
    have h := inA_clear G H e p q n
    unfold inA enI
    rw [h]
    simp only [clG]
    grind
theorem inB_clear (G H : Nat → Gau) (e p q : Int) : ∀ n, inB G (fun j => clG e p q (G j) (H j)) n = e * inB G H n - q * enI G n
  | 0 => by simp [inB, enI]
  | n + 1 => by
    have h := inB_clear G H e p q n
    unfold inB enI
    rw [h]
    simp only [clG]
    grind
theorem enI_clear (G H : Nat → Gau) (e p q : Int) : ∀ n, enI (fun j => clG e p q (G j) (H j)) n = e * e * enI H n - 2 * e * (p * inA G H n + q * inB G H n) + (p * p + q * q) * enI G n
  | 0 => by simp [inA, inB, enI]
  | n + 1 => by
    have h := enI_clear G H e p q n
    unfold enI inA inB
    rw [h]
    simp only [clG]
    grind
/-- The product of the other channel and a cleared one. -/
theorem inA_other (G H : Nat → Gau) (e p q : Int) : ∀ n, inA H (fun j => clG e p q (G j) (H j)) n = e * enI H n - (p * inA G H n + q * inB G H n)
  | 0 => by simp [inA, inB, enI]
  | n + 1 => by
    have h := inA_other G H e p q n
    unfold inA inB enI
    rw [h]
    simp only [clG]
    grind
theorem inB_other (G H : Nat → Gau) (e p q : Int) : ∀ n, inB H (fun j => clG e p q (G j) (H j)) n = p * inB G H n - q * inA G H n
  | 0 => by simp [inA, inB]
  | n + 1 => by
    have h := inB_other G H e p q n
    unfold inA inB
    rw [h]
    simp only [clG]
    grind
/-- What two channels have in common, its square, and what is left. -/
def nmI (G H : Nat → Gau) (n : Nat) : Int := inA G H n * inA G H n + inB G H n * inB G H n
def clF (G H : Nat → Gau) (n : Nat) (j : Nat) : Gau := clG (enI G n) (inA G H n) (inB G H n) (G j) (H j)
theorem clear_apart (G H : Nat → Gau) (n : Nat) : inA G (clF G H n) n = 0 ∧ inB G (clF G H n) n = 0 := by
  unfold clF
  rw [inA_clear, inB_clear]
  constructor <;> grind
theorem clear_energy (G H : Nat → Gau) (n : Nat) : enI (clF G H n) n = enI G n * (enI G n * enI H n - nmI G H n) := by
  unfold clF nmI
  rw [enI_clear]
  grind
theorem clear_other (G H : Nat → Gau) (n : Nat) : inA H (clF G H n) n = enI G n * enI H n - nmI G H n ∧ inB H (clF G H n) n = 0 := by
  unfold clF nmI
  rw [inA_other, inB_other]
  constructor <;> grind
theorem nmI_comm (G H : Nat → Gau) (n : Nat) : nmI H G n = nmI G H n := by
  unfold nmI
  rw [inA_comm, inB_comm, Int.neg_mul_neg]
theorem nmI_nonneg (G H : Nat → Gau) (n : Nat) : 0 ≤ nmI G H n := by
  have h1 := sq_nonneg (inA G H n)
  have h2 := sq_nonneg (inB G H n)
  unfold nmI
  omega
theorem nmI_le {G H : Nat → Gau} {n : Nat} (h : 0 < enI G n) : nmI G H n ≤ enI G n * enI H n := by
  have h1 := enI_nonneg (clF G H n) n
  rw [clear_energy] at h1
  have := Int.le_of_mul_le_mul_left (a := enI G n) (b := 0) (c := enI G n * enI H n - nmI G H n) (by rw [Int.mul_zero]; exact h1) h
  omega
/-- Nothing is left just if all is in common. -/
theorem clear_none {G H : Nat → Gau} {n : Nat} (h : 0 < enI G n) : (∀ j, j < n → (clF G H n j).re = 0 ∧ (clF G H n j).im = 0) ↔ enI G n * enI H n - nmI G H n = 0 := by
  constructor
  · intro hz
    have := enI_none hz
    rw [clear_energy] at this
    rcases Int.mul_eq_zero.1 this with h1 | h1
    · omega
    · exact h1
  · intro hz
    exact enI_zero (by rw [clear_energy, hz, Int.mul_zero])
end Go.Proofs.Ytdkbjgnkehoplaa
/- asComplex, complexOf, inner, energyOf of the code. -/
namespace Go.Proofs.Ytdkbjgnkehoplaa
open Go.RowKit Go.Great Ieee
theorem neg_bits (b : Nat) : (b ^^^ 2 ^ 63) % 9223372036854775808 = b % 9223372036854775808 ∧ (b ^^^ 2 ^ 63) / 9223372036854775808 % 2 = (1 - b / 9223372036854775808 % 2) := by
  have h1 := Nat.xor_mod_two_pow (a := b) (b := 2 ^ 63) (n := 63)
  have h2 := Nat.xor_div_two_pow (a := b) (b := 2 ^ 63) (n := 63)
  have e : (2 : Nat) ^ 63 = 9223372036854775808 := by decide
  rw [e] at h1 h2 ⊢
  refine ⟨by rw [h1]; simp, ?_⟩
  rw [h2]
  have h3 := Nat.xor_mod_two_pow (a := b / 9223372036854775808) (b := 1) (n := 1)
  simp only [Nat.pow_one] at h3
  rw [show (9223372036854775808 : Nat) / 9223372036854775808 = 1 by decide, h3]
  obtain e | e : b / 9223372036854775808 % 2 = 0 ∨ b / 9223372036854775808 % 2 = 1 := by omega
  · rw [e]; decide
  · rw [e]; decide
theorem neg_read (b : Nat) : double.read (Op.negFloat .f64 b) = (double.read b).opposite := by
  have e : Op.negFloat .f64 b = b ^^^ 2 ^ 63 := rfl
  obtain ⟨h1, h2⟩ := neg_bits b
  have h3 : ((b ^^^ 2 ^ 63) / 9223372036854775808 % 2 == 1) = !(b / 9223372036854775808 % 2 == 1) := by
    rw [h2]
    obtain e | e : b / 9223372036854775808 % 2 = 0 ∨ b / 9223372036854775808 % 2 = 1 := by omega
    · rw [e]; rfl
    · rw [e]; rfl
  rw [e]
  unfold Format.read
  simp only [dbl_sign]
  rw [h1, h3]
  split
  · rfl
  · split
    · rfl
    · split <;> rfl
theorem whole_neg {b : Nat} {n : Int} (h : Whole b n) : Whole (Op.negFloat .f64 b) (-n) := by
  show WholeD (double.read (Op.negFloat .f64 b)) (-n)
  rw [neg_read]
  exact whole_opposite h
def cU (X : Nat → Gau) (j : Nat) : Nat := floatOfInt .f64 (X j).re
def cV (X : Nat → Gau) (j : Nat) : Nat := floatOfInt .f64 (X j).im
theorem cUV_whole {X : Nat → Gau} {n : Nat} (h : ∀ j, j < n → (X j).Within 1000000) : ∀ j, j < n → Whole (cU X j) (X j).re ∧ Whole (cV X j) (X j).im := fun j hj => by
  obtain ⟨h1, h2⟩ := h j hj
  exact ⟨whole_ofInt (abs_lt h1 (by decide)), whole_ofInt (abs_lt h2 (by decide))⟩
set_option maxHeartbeats 1000000 in
theorem asComplex_any (a b : Int) (w : World) :
    Calls Try.prog 127 #[.agg #[.int .i64 a, .int .i64 b]] w fun e w' => e = .returned (.complex .f64 (floatOfInt .f64 a) (floatOfInt .f64 b)) ∧ Below w.heap.size w w' := by
  go_enter Try.func127, Try.ntmps127
  go_wp2_with fail
  go_ret
  exact ⟨rfl, by (repeat (first | (with_reducible exact Below.refl _ _) | (with_reducible refine Go.below_drewN ?_ _) | (with_reducible refine Below.drew ?_) | (with_reducible refine Below.alloc ?_ (by first | exact Nat.le_refl _ | (simp; done) | (simp; omega) | omega) _) | (with_reducible refine Below.setCell ?_ (by first | exact Nat.le_refl _ | (simp; done) | (simp; omega) | omega) _)))⟩
set_option maxHeartbeats 4000000 in
set_option maxRecDepth 100000 in
theorem complexOf_any (A : Option Addr) (n c : Nat) (X : Nat → Gau) (w : World) (hn : n ≤ 100) (hI : GausAt w 0 A n X) :
    Calls Try.prog 83 #[.slice A n c] w fun e w' => ∃ B, e = .returned (.slice B n n) ∧ CpxAt w' B n (cU X) (cV X) ∧ Below w.heap.size w w' := by
  obtain ⟨i1, hj, hy0, hy1, hy2⟩ := info_parts cpxInfo
  have hmc := fun W => run_make_row (P := Try.prog) 120 118 i1 (.complex .f64 0 0) Try.underlying120 hj hy0 hy1 rfl .i64 .i64 n (by rw [hy2]; omega) (by omega) W
  have HI := hide hI
  have HU := hide (fun j => (show floatOfInt .f64 (X j).re = cU X j ∧ floatOfInt .f64 (X j).im = cV X j from ⟨rfl, rfl⟩))
  obtain ⟨U, hU⟩ : ∃ z, cU X = z := ⟨_, rfl⟩
  obtain ⟨V, hV⟩ : ∃ z, cV X = z := ⟨_, rfl⟩
  simp only [hU, hV] at HU
  rw [hU, hV]
  clear hI hj hy0 hy1 hy2 hU hV
  go_enter Try.func83, Try.ntmps83
  go_wp2_with fail
  clear hmc
  go_loopw [11] (fun i wr => ∃ k : Nat, k ≤ n ∧ i = .int .i64 (k : Int) ∧ wr.rowIs w.heap.size 118 n (fun j => .complex .f64 (if j < k then U j else 0) (if j < k then V j else 0)) ∧ Below w.heap.size w wr) (fun i _ => n - (Go.RowKit.intOf i).toNat)
  case atStart => exact ⟨0, Nat.zero_le _, rfl, (World.rowIs_made w (.complex .f64 0 0) n 118).congr (fun _ _ => by simp), by (repeat (first | (with_reducible exact Below.refl _ _) | (with_reducible refine Go.below_drewN ?_ _) | (with_reducible refine Below.drew ?_) | (with_reducible refine Below.alloc ?_ (by first | exact Nat.le_refl _ | (simp; done) | (simp; omega) | omega) _) | (with_reducible refine Below.setCell ?_ (by first | exact Nat.le_refl _ | (simp; done) | (simp; omega) | omega) _)))⟩
  case round =>
    obtain ⟨k, hk, rfl, hR, hB⟩ := hrel
    obtain ⟨wA, rfl⟩ : ∃ x : World, x = wr := ⟨_, rfl⟩
    by_cases hlt : k < n
    · have hltz : (k : Int) < (n : Int) := by omega
      obtain ⟨b, o, rfl, -, hbl, c0, c1⟩ := (HI.out.below hB) k hlt
      have HUK := hide (HU.out k)
      obtain ⟨x, hx⟩ : ∃ z, X k = z := ⟨_, rfl⟩
      simp only [hx] at c0 c1 HUK
      obtain ⟨p, hp⟩ : ∃ z, x.re = z := ⟨_, rfl⟩
      obtain ⟨q, hq⟩ : ∃ z, x.im = z := ⟨_, rfl⟩
      simp only [hp, hq] at c0 c1 HUK
      clear hp hq hx
      have hBs := hB.size
      go_upto_region 5 with fail
      obtain ⟨W1, hW1⟩ : ∃ y : World, y = wA.alloc (.cells #[.int .i64 p, .int .i64 q] 53) := ⟨_, rfl⟩
      rw [← hW1]
      have bx1 : Box W1 wA.heap.size 53 #[.int .i64 p, .int .i64 q] := by rw [hW1]; exact Box.made rfl
      have hR1 := hR.alloc (.cells #[.int .i64 p, .int .i64 q] 53)
      have hB1 := hB.alloc hBs (.cells #[.int .i64 p, .int .i64 q] 53)
      rw [← hW1] at hR1 hB1
      clear hW1 hB hR c0 c1 hbl hBs
      obtain ⟨y0, y1, -, -, hlb⟩ := bx1.c2
      have HAC := hide (asComplex_any p q)
      obtain ⟨⟨u, hu⟩, v, hv⟩ : (∃ z, floatOfInt .f64 p = z) ∧ ∃ z, floatOfInt .f64 q = z := ⟨⟨_, rfl⟩, _, rfl⟩
      simp only [hu, hv] at HAC HUK
      go_wp2_with fail
      refine (HAC.out _).mono ?_
      rintro e w2 ⟨rfl, hb2⟩
      have hR2 := rowIs_below hR1 hb2
      have hB2 := hB1.trans (hb2.mono hB1.size)
      clear hR1 hB1 hb2 y0 y1 hlb bx1 hu hv HAC
      have hc2 := hR2.cell hlt
      have hf2 := hR2.frozen k
      have hl2 := hR2.lt
      have hst : Sem.run Try.prog (Go.store ⟨w.heap.size, k, none⟩ (.complex .f64 u v)) w2 = .ok () (w2.setCell ⟨w.heap.size, k, none⟩ (.complex .f64 u v)) := by rw [run_store _ _ _ _ _ rfl]; simp [hc2, hf2]
      have HR := hide ((hR2.set k (.complex .f64 u v)).congr (g := fun j => .complex .f64 (if j < k + 1 then U j else 0) (if j < k + 1 then V j else 0)) (fun x _ => by
        by_cases e : x = k
        · subst e
          rw [if_pos rfl, if_pos (Nat.lt_succ_self _), if_pos (Nat.lt_succ_self _), ← HUK.out.1, ← HUK.out.2]
        · rw [if_neg e]
          by_cases e2 : x < k
          · rw [if_pos e2, if_pos e2, if_pos (by omega), if_pos (by omega)]
          · rw [if_neg e2, if_neg e2, if_neg (by omega), if_neg (by omega)]))
      have HBB := hide (hB2.setCell (p := ⟨w.heap.size, k, none⟩) (Nat.le_refl _) (.complex .f64 u v))
      clear hR2 hB2
      go_wp2_with fail
      go_roundw
      case rel => exact ⟨k + 1, by omega, by go_num, HR.out, HBB.out⟩
      case measure => simp [Go.RowKit.intOf]; omega
    · obtain rfl : k = n := by omega
      have HC := hide (CpxAt.of_row (U := U) (V := V) (hR.congr fun j hj => by rw [if_pos hj, if_pos hj]))
      clear hR
      go_wp2_with fail
      go_ret
      exact ⟨_, rfl, HC.out, hB⟩
/-- A product of a conjugate number and another one, in floats, added to a sum. -/
theorem inner_step {x y : Gau} {u v s t p q : Nat} {a b : Int} (hx : x.Within 1000000) (hy : y.Within 1000000) (hu : Whole u x.re) (hv : Whole v x.im) (hs : Whole s y.re) (ht : Whole t y.im) (hp : Whole p a) (hq : Whole q b) (ha : -1000000000000000 ≤ a ∧ a ≤ 1000000000000000) (hb : -1000000000000000 ≤ b ∧ b ≤ 1000000000000000) :
    ∃ m k r z, cMulBits u (Op.negFloat .f64 v) s t = some (m, k) ∧ cSumBits .add .f64 p q m k = some (r, z) ∧ Whole r (a + (x.re * y.re + x.im * y.im)) ∧ Whole z (b + (x.re * y.im - x.im * y.re)) := by
  have h1 := prod_le hx.re hy.re
  have h2 := prod_le hx.im hy.im
  have h3 := prod_le hx.re hy.im
  have h4 := prod_le hx.im hy.re
  have e2 : -x.im * y.im = -(x.im * y.im) := Int.neg_mul _ _
  have e4 : -x.im * y.re = -(x.im * y.re) := Int.neg_mul _ _
  obtain ⟨m, k, hm, hm1, hm2⟩ := whole_cmul hu (whole_neg hv) hs ht (abs_lt (M := 1000000000000) h1 (by decide)) (abs_lt (M := 1000000000000) (by omega) (by decide)) (abs_lt (M := 2000000000000) (by omega) (by decide)) (abs_lt (M := 1000000000000) h3 (by decide)) (abs_lt (M := 1000000000000) (by omega) (by decide)) (abs_lt (M := 2000000000000) (by omega) (by decide))
  rw [show x.re * y.re - -x.im * y.im = x.re * y.re + x.im * y.im by omega] at hm1
  rw [show x.re * y.im + -x.im * y.re = x.re * y.im - x.im * y.re by omega] at hm2
  obtain ⟨r, z, hr, hr1, hr2⟩ := whole_csum hp hq hm1 hm2 (abs_lt (M := 1002000000000000) (by omega) (by decide)) (abs_lt (M := 1002000000000000) (by omega) (by decide))
  exact ⟨m, k, r, z, hm, hr, hr1, hr2⟩
set_option maxHeartbeats 4000000 in
set_option maxRecDepth 100000 in
theorem inner_any (A B : Option Addr) (n c d : Nat) (U V S T : Nat → Nat) (X Y : Nat → Gau) (w : World) (hn : n ≤ 100) (hA : CpxAt w A n U V) (hB : CpxAt w B n S T) (hX : ∀ j, j < n → (X j).Within 1000000) (hY : ∀ j, j < n → (Y j).Within 1000000) (hU : ∀ j, j < n → Whole (U j) (X j).re ∧ Whole (V j) (X j).im) (hS : ∀ j, j < n → Whole (S j) (Y j).re ∧ Whole (T j) (Y j).im) :
    Calls Try.prog 82 #[.slice A n c, .slice B n d] w fun e w' => ∃ r z, e = .returned (.complex .f64 r z) ∧ Whole r (inA X Y n) ∧ Whole z (inB X Y n) ∧ Below w.heap.size w w' := by
  have HA := hide hA
  have HB := hide hB
  have HX := hide hX
  have HY := hide hY
  have HU := hide hU
  have HS := hide hS
  have HIA := hide (fun k (hk : k ≤ n) => inA_le (G := X) (H := Y) (M := 1000000) (n := k) fun j hj => ⟨hX j (by omega), hY j (by omega)⟩)
  have HIB := hide (fun k (hk : k ≤ n) => inB_le (G := X) (H := Y) (M := 1000000) (n := k) fun j hj => ⟨hX j (by omega), hY j (by omega)⟩)
  have HSA := hide (fun k => (show inA X Y (k + 1) = inA X Y k + ((X k).re * (Y k).re + (X k).im * (Y k).im) from rfl))
  have HSB := hide (fun k => (show inB X Y (k + 1) = inB X Y k + ((X k).re * (Y k).im - (X k).im * (Y k).re) from rfl))
  have H0 := hide (show inA X Y 0 = 0 ∧ inB X Y 0 = 0 from ⟨rfl, rfl⟩)
  obtain ⟨I, hI⟩ : ∃ z, inA X Y = z := ⟨_, rfl⟩
  obtain ⟨J, hJ⟩ : ∃ z, inB X Y = z := ⟨_, rfl⟩
  simp only [hI, hJ] at HIA HIB HSA HSB H0 ⊢
  clear hA hB hX hY hU hS hI hJ
  go_enter Try.func82, Try.ntmps82
  go_wp2_with fail
  go_loopw [5, 10] (fun s i wr => ∃ k p q : Nat, k ≤ n ∧ s = .complex .f64 p q ∧ i = .int .i64 (k : Int) ∧ Hid (Whole p (I k)) ∧ Hid (Whole q (J k)) ∧ Hid (Below w.heap.size w wr)) (fun _ i _ => n - (Go.RowKit.intOf i).toNat)
  case atStart => exact ⟨0, 0, 0, Nat.zero_le _, rfl, rfl, hide (by rw [H0.out.1]; exact whole_zero), hide (by rw [H0.out.2]; exact whole_zero), hide (Below.refl _ _)⟩
  case round =>
    obtain ⟨k, p, q, hk, rfl, rfl, HP, HQ, HL⟩ := hrel
    obtain ⟨wA, rfl⟩ : ∃ x : World, x = wr := ⟨_, rfl⟩
    by_cases hlt : k < n
    · have hltz : (k : Int) < (n : Int) := by omega
      obtain ⟨b, o, rfl, hbl, hc⟩ := (HA.out.below HL.out) k hlt
      obtain ⟨b', o', rfl, hbl', hc'⟩ := (HB.out.below HL.out) k hlt
      obtain ⟨hu, hv⟩ := HU.out k hlt
      obtain ⟨hs, ht⟩ := HS.out k hlt
      have hia := HIA.out k hk
      have hib := HIB.out k hk
      obtain ⟨m, z, r, y, hm, hr, hr1, hr2⟩ := inner_step (HX.out k hlt) (HY.out k hlt) hu hv hs ht HP.out HQ.out (by omega) (by omega)
      rw [← HSA.out k] at hr1
      rw [← HSB.out k] at hr2
      have HP2 := hide hr1
      have HQ2 := hide hr2
      have hng : ∀ (b : Nat) (W : World), (Op.unary .neg (.float .f64 b)).run Try.prog W = .ok (.float .f64 (Op.negFloat .f64 b)) W := fun _ _ => rfl
      have hmu := fun W => run_complex_mul (P := Try.prog) W 118 _ _ _ _ _ _ hm
      have had := fun W => run_complex_sum (P := Try.prog) W .add (.inl rfl) 118 .f64 _ _ _ _ _ _ hr
      clear hm hr hr1 hr2 hu hv hs ht hia hib HP HQ
      go_wp2_with fail
      go_roundw
      case rel => exact ⟨k + 1, r, y, by omega, rfl, by go_num, HP2, HQ2, HL⟩
      case measure => simp [Go.RowKit.intOf]; omega
    · obtain rfl : k = n := by omega
      go_wp2_with fail
      go_ret
      exact ⟨_, _, rfl, HP.out, HQ.out, HL.out⟩
end Go.Proofs.Ytdkbjgnkehoplaa
/- partsError; numberWithin and its function; numberOf, conjugate, squareOf. -/
namespace Go.Proofs.Ytdkbjgnkehoplaa
open Go.RowKit
end Go.Proofs.Ytdkbjgnkehoplaa
/- gaussWithin, firstWrong and itemsError of whole complex numbers, entriesError of the code. -/
namespace Go.Proofs.Ytdkbjgnkehoplaa
open Go.RowKit
theorem size2 (M a b : Int) (F : Nat → Int) (h0 : F 0 = a) (h1 : F 1 = b) : sizeE M F 2 = (⟨a, b⟩ : Gau).err M := by
  unfold sizeE badE badE badE Gau.err Gau.isIn
  rw [h0, h1]
  cases withinB a (-M) M <;> cases withinB b (-M) M <;> simp [unI]
theorem Box.cells2 {w : World} {b : Nat} {t : TypeId} {p0 p1 : Value} (h : Box w b t #[p0, p1]) :
    w.cell? ⟨b, 0, none⟩ = some p0 ∧ w.cell? ⟨b, 1, none⟩ = some p1 ∧ w.frozen? ⟨b, 0, none⟩ = false ∧ w.frozen? ⟨b, 1, none⟩ = false ∧ b < w.heap.size :=
  ⟨h.at_ 0, h.at_ 1, h.free 0, h.free 1, h.lt⟩
set_option maxHeartbeats 2000000 in
theorem firstWrong_gaus (g : Nat) (lb : Array Value) (eg : ∀ args w, (callFunc g args).run Try.prog w = .ok (.enter g args) w) (p : Gau → Int) (A : Option Addr) (n c : Nat) (F : Nat → Gau) (w : World)
    (hn : n ≤ 100000) (hI : GausAt w 0 A n F) (hp : ∀ (x : Gau) W, Below w.heap.size w W → Calls Try.prog g (#[.agg #[.int .i64 x.re, .int .i64 x.im]] ++ lb) W fun e w' => e = .returned (.int .i64 (p x)) ∧ Below W.heap.size W w') :
    Calls Try.prog 144 #[.slice A n c, .func (.func g) #[] lb] w fun e w' => e = .returned (.tuple #[.int .i64 (badI (fun j => p (F j)) n : Nat), .int .i64 (badE (fun j => p (F j)) n)]) ∧ Below w.heap.size w w' := by
  have HP := hide hp
  have HI := hide hI
  clear hp hI
  go_enter Try.func144, Try.ntmps144
  go_wp2_with fail
  go_loopg [11] n (fun gg s wr => ∃ k : Nat, k ≤ n ∧ n - k ≤ gg ∧ s = .int .i64 (k : Int) ∧ Hid (badE (fun j => p (F j)) k = 0) ∧ Below w.heap.size w wr)
  case atStart => exact ⟨0, Nat.zero_le _, by omega, rfl, hide rfl, Below.refl _ _⟩
  case round =>
    obtain ⟨k, hk, hg, rfl, HZ, hB⟩ := hrel
    obtain ⟨wA, rfl⟩ : ∃ x : World, x = wr := ⟨_, rfl⟩
    have hBs := hB.size
    by_cases hlt : k < n
    · have hltz : (k : Int) < (n : Int) := by omega
      obtain ⟨b, o, rfl, -, hb, c0, c1⟩ := (HI.out.below hB) k hlt
      have HQ := hide (show p (F k) ≠ 0 → badE (fun j => p (F j)) n = p (F k) ∧ badI (fun j => p (F j)) n = k from fun h => ⟨badE_at (g := fun j => p (F j)) HZ.out h n hlt, badI_at (g := fun j => p (F j)) HZ.out h n hlt⟩)
      have HN := hide (show p (F k) = 0 → badE (fun j => p (F j)) (k + 1) = 0 from fun h => by rw [badE_succ HZ.out]; exact h)
      generalize F k = x at *
      have HC := hide (fun W hW => HP.out x W hW)
      generalize p x = r at *
      go_upto_region 4 with fail
      obtain ⟨W1, hW1⟩ : ∃ y : World, y = wA.alloc (.cells #[.int .i64 x.re, .int .i64 x.im] 53) := ⟨_, rfl⟩
      rw [← hW1]
      have bx1 : Box W1 wA.heap.size 53 #[.int .i64 x.re, .int .i64 x.im] := by rw [hW1]; exact Box.made rfl
      have hB1 : Below w.heap.size w W1 := by rw [hW1]; exact hB.alloc hBs _
      clear hW1 hB hb c0 c1
      obtain ⟨y0, y1, g0, g1, hl'⟩ := bx1.cells2
      have hcall := HC.out W1 hB1
      by_cases hr : r = 0
      · have HN2 := hide (HN.out hr)
        subst hr
        clear HQ HN
        go_wp2_with (go_at_fn g; refine hcall.mono ?_; rintro e w2 ⟨rfl, hb2⟩)
        go_roundg (n - (k + 1))
        case measure => omega
        case rel => exact ⟨k + 1, by omega, by omega, by go_num, HN2, hB1.trans (hb2.mono hB1.size)⟩
      · have t1 : (r != 0) = true := by simpa using hr
        have HQ2 := hide (HQ.out hr)
        clear HQ HN hr
        go_wp2_with (go_at_fn g; refine hcall.mono ?_; rintro e w2 ⟨rfl, hb2⟩)
        go_ret2
        exact ⟨by rw [HQ2.out.1, HQ2.out.2]; rfl, hB1.trans (hb2.mono hB1.size)⟩
    · obtain rfl : k = n := by omega
      go_wp2_with fail
      go_ret2
      exact ⟨by rw [HZ.out, badI_zero HZ.out]; rfl, hB⟩
end Go.Proofs.Ytdkbjgnkehoplaa
