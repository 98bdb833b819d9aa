/- Lemmas: MSa0, MSa1, MS78, MS80, MS82, S67, MS49. -/
import Derived.Deep.DeepCutAuto
import Derived.Test.YtcdplfjegopmdaaGreatBk01
import Derived.Test.YtcdplfjegopmdaaGreatBk02
import Derived.Test.YtcdplfjegopmdaaGreatBk03
import Derived.Test.YtcdplfjegopmdaaGreatBk04
import Derived.Test.YtcdplfjegopmdaaGreatBk06
import Derived.Test.YtcdplfjegopmdaaGreatBk07
import Derived.Test.YtcdplfjegopmdaaGreatBk08
import Derived.Test.YtcdplfjegopmdaaGreatBk09
import Derived.Test.YtcdplfjegopmdaaGreatBk10
import Derived.Test.YtcdplfjegopmdaaGreatBk11
import Derived.Test.YtcdplfjegopmdaaGreatBk12
import Derived.Test.YtcdplfjegopmdaaGreatBk13
import Derived.Test.YtcdplfjegopmdaaGreatBk14
import Derived.Test.YtcdplfjegopmdaaGreatBk15
import Derived.Test.YtcdplfjegopmdaaGreatBk16
import Derived.Test.YtcdplfjegopmdaaGreatBk17
import Derived.Test.YtcdplfjegopmdaaGreatBk18
import Derived.Test.YtcdplfjegopmdaaGreatBk19
import Derived.Test.YtcdplfjegopmdaaGreatBk20
import Derived.Test.YtcdplfjegopmdaaGreatBk21
import Derived.Test.YtcdplfjegopmdaaGreatBk22
import Derived.Test.YtcdplfjegopmdaaGreatBk23
import Derived.Test.YtcdplfjegopmdaaGreatBk24
import Derived.Test.YtcdplfjegopmdaaGreatBk25
import Derived.Test.YtcdplfjegopmdaaGreatBk26
set_option linter.unusedVariables false
set_option linter.unusedSimpArgs false
/- Sa0 of chapter 03, in a namespace of its own. -/
namespace Go.Proofs.YtcdplfjegopmdaaGreat
open Go Go.RowKit Go.Lib
theorem leastTo_geI {D : Nat → Int} {c p b : Nat} {x : Int} (hx : x ≤ 9223372036854775807) : ∀ {k : Nat}, (∀ j, j < k → labF c j p = (b : Int) → x ≤ D j) → x ≤ leastTo D c k p b
  | 0, _ => hx
  | k + 1, h => by
    have ih := leastTo_geI (c := c) (p := p) (b := b) hx (k := k) fun j hj => h j (by omega)
    unfold leastTo
    by_cases e : labF c k p = (b : Int)
    · rw [if_pos e]
      have := h k (by omega) e
      omega
    · rw [if_neg e]; exact ih
theorem far_level {g r v l : Int} (hg : 1 ≤ g) (hr : -g < r ∧ r < g) (h : 2 ≤ v - l ∨ v - l ≤ -2) : g + 1 ≤ ((g * v + r - g * l).natAbs : Int) := by
  have e : g * v - g * l = g * (v - l) := (Int.mul_sub g v l).symm
  rcases h with h | h
  · have := Int.mul_le_mul_of_nonneg_left h (show 0 ≤ g by omega)
    omega
  · have := Int.mul_le_mul_of_nonneg_left h (show 0 ≤ g by omega)
    omega
theorem sign_hard {g r : Int} {c : Nat} {F : Nat → Int} (hg : 1 ≤ g ∧ g ≤ 10000000) (h1 : 1 ≤ c) (h3 : c ≤ 3) (hF : ∀ j, j < c → IsBit (F j)) (hr : -g < r ∧ r < g) {i : Nat} (hi : i < c) :
    hardP (g * lvl c F + r) g c i = F i ∧ (F i = 0 → 0 < softP (g * lvl c F + r) g c i) ∧ (F i = 1 → softP (g * lvl c F + r) g c i < 0) := by
  obtain ⟨j0, hj0, hlab⟩ := lab_ex h1 h3 hF
  have hl0 : lvl c (labF c j0) = lvl c F := lvl_same h1 h3 hlab
  have hl7 := lvl_le h1 h3 hF
  have hgl := gl_le (v := lvl c F) ⟨hg.1, by omega⟩ hl7
  obtain ⟨v, hv⟩ : ∃ z, lvl c F = z := ⟨_, rfl⟩
  rw [hv] at hl0 hgl hl7 ⊢
  have hp : -100000000 ≤ g * v + r ∧ g * v + r ≤ 100000000 := by omega
  have hg2 : 1 ≤ g ∧ g ≤ 10000000 := by omega
  have d0 : distF (g * v + r) g c j0 ≤ g - 1 ∧ 0 ≤ distF (g * v + r) g c j0 := by unfold distF; rw [hl0]; omega
  have far : ∀ j, j < 2 ^ c → j ≠ j0 → g + 1 ≤ distF (g * v + r) g c j := fun j hj hne => by
    have hne2 : lvl c (labF c j) ≠ v := fun e => hne (one_lev h1 h3 hj hj0 (e.trans hl0.symm))
    obtain ⟨s, -, es⟩ := lev_hit h1 h3 hj
    obtain ⟨t, -, et⟩ := lev_hit h1 h3 hj0
    rw [hl0] at et
    unfold distF
    exact far_level hg.1 hr (by omega)
  obtain ⟨k1, -, k3⟩ := hard_level hp hg2 h1 h3
  have hJ : hardJ (g * v + r) g c = j0 := by
    by_cases e : hardJ (g * v + r) g c = j0
    · exact e
    · have a := far _ k1 e
      have b := k3 j0 hj0
      omega
  have hlo : ∀ b, 0 ≤ leastTo (distF (g * v + r) g c) c (2 ^ c) i b := fun b => (leastTo_low fun j => (distF_le (j := j) hp hg2 h1 h3).1).1
  have near : ∀ b : Nat, F i = (b : Int) → leastTo (distF (g * v + r) g c) c (2 ^ c) i b ≤ g - 1 := fun b e => Int.le_trans (leastTo_le hj0 ((hlab i hi).trans e)) d0.1
  have away : ∀ b : Nat, F i ≠ (b : Int) → g + 1 ≤ leastTo (distF (g * v + r) g c) c (2 ^ c) i b := fun b e => leastTo_geI (by omega) fun j hj ej => far j hj (fun z => e (by rw [← ej, z]; exact (hlab i hi).symm))
  refine ⟨by show labF c (hardJ (g * v + r) g c) i = F i; rw [hJ]; exact hlab i hi, fun e => ?_, fun e => ?_⟩
  · have a := near 0 e
    have b := away 1 (by rw [e]; decide)
    have l0 := hlo 0
    unfold softP
    have := (sq_lt l0 (show 0 ≤ leastTo (distF (g * v + r) g c) c (2 ^ c) i 1 by omega)).2 (by omega)
    omega
  · have a := near 1 e
    have b := away 0 (by rw [e]; decide)
    have l1 := hlo 1
    unfold softP
    have := (sq_lt l1 (show 0 ≤ leastTo (distF (g * v + r) g c) c (2 ^ c) i 0 by omega)).2 (by omega)
    omega
/-- Symbols at a gain with errors that are less than it. -/
def NearTo (g : Int) (c C : Nat) (F : Nat → Int) (R : Nat → Gau) : Prop := ∀ j, j < C → ∃ a b : Int, (-g < a ∧ a < g) ∧ (-g < b ∧ b < g) ∧ R j = ⟨g * (pntF c F (j * (2 * c))).re + a, g * (pntF c F (j * (2 * c))).im + b⟩
theorem sign_bop {g : Int} {c C : Nat} {F : Nat → Int} {R : Nat → Gau} (hg : 1 ≤ g ∧ g ≤ 10000000) (h1 : 1 ≤ c) (h3 : c ≤ 3) (hF : ∀ q, q < C * (2 * c) → IsBit (F q)) (hR : NearTo g c C F R) {q : Nat} (hq : q < C * (2 * c)) :
    bopF c (fun p => hardP p g c) R q = F q ∧ (F q = 0 → 0 < bopF c (fun p => softP p g c) R q) ∧ (F q = 1 → bopF c (fun p => softP p g c) R q < 0) := by
  have hp : 0 < 2 * c := by omega
  have hj : q / (2 * c) < C := Nat.div_lt_of_lt_mul (by rw [Nat.mul_comm]; exact hq)
  have hr : q % (2 * c) < 2 * c := Nat.mod_lt _ hp
  have hqe : q / (2 * c) * (2 * c) + q % (2 * c) = q := by rw [Nat.mul_comm]; exact Nat.div_add_mod q (2 * c)
  obtain ⟨a, b, ha, hb, e⟩ := hR _ hj
  unfold bopF
  rw [e]
  obtain ⟨j, ej⟩ : ∃ z, q / (2 * c) = z := ⟨_, rfl⟩
  obtain ⟨r, er⟩ : ∃ z, q % (2 * c) = z := ⟨_, rfl⟩
  rw [ej] at hj hqe ⊢
  rw [er] at hr hqe ⊢
  have hb2 : (j + 1) * (2 * c) ≤ C * (2 * c) := Nat.mul_le_mul_right _ hj
  rw [Nat.add_mul, Nat.one_mul] at hb2
  obtain h | h : r % 2 = 0 ∨ r % 2 = 1 := by omega
  · rw [h]
    have key := sign_hard (F := fun z => F (j * (2 * c) + 2 * z)) hg h1 h3 (fun z hz => hF _ (by omega)) ha (i := r / 2) (by omega)
    have eq : j * (2 * c) + 2 * (r / 2) = q := by omega
    simp only [eq] at key
    exact key
  · rw [h]
    have key := sign_hard (F := fun z => F (j * (2 * c) + (2 * z + 1))) hg h1 h3 (fun z hz => hF _ (by omega)) hb (i := r / 2) (by omega)
    have eq : j * (2 * c) + (2 * (r / 2) + 1) = q := by omega
    simp only [eq] at key
    exact key
theorem pnt_le {c : Nat} {F : Nat → Int} {i : Nat} (h1 : 1 ≤ c) (h3 : c ≤ 3) (hF : ∀ r, r < 2 * c → IsBit (F (i + r))) : (-7 ≤ (pntF c F i).re ∧ (pntF c F i).re ≤ 7) ∧ -7 ≤ (pntF c F i).im ∧ (pntF c F i).im ≤ 7 :=
  ⟨lvl_le h1 h3 fun q hq => hF (2 * q) (by omega), lvl_le h1 h3 fun q hq => hF (2 * q + 1) (by omega)⟩
end Go.Proofs.YtcdplfjegopmdaaGreat
/- Sa1 of chapter 03, in a namespace of its own. -/
namespace Go.Proofs.YtcdplfjegopmdaaGreat
open Go Go.RowKit Go.Lib
theorem tm_two {n c : Nat} (h1 : 1 ≤ c) (h3 : c ≤ 3) : (n : Int).tmod (2 * (c : Int)) = ((n % (2 * c) : Nat) : Int) ∧ (n : Int).tdiv (2 * (c : Int)) = ((n / (2 * c) : Nat) : Int) := by
  obtain rfl | rfl | rfl : c = 1 ∨ c = 2 ∨ c = 3 := by omega
  all_goals
    constructor
    · rw [Int.tmod_eq_emod_of_nonneg (by omega)]; omega
    · rw [Int.tdiv_eq_ediv_of_nonneg (by omega)]; omega
/-- The point of the symbol j. -/
def ptF (c : Nat) (F : Nat → Int) (j : Nat) : Gau := pntF c F (j * (2 * c))
theorem ptF_le {c C : Nat} {F : Nat → Int} (h1 : 1 ≤ c) (h3 : c ≤ 3) (hF : ∀ q, q < C * (2 * c) → IsBit (F q)) {j : Nat} (hj : j < C) : (-7 ≤ (ptF c F j).re ∧ (ptF c F j).re ≤ 7) ∧ -7 ≤ (ptF c F j).im ∧ (ptF c F j).im ≤ 7 := by
  have hb2 : (j + 1) * (2 * c) ≤ C * (2 * c) := Nat.mul_le_mul_right _ hj
  rw [Nat.add_mul, Nat.one_mul] at hb2
  exact pnt_le h1 h3 fun r hr => hF _ (by omega)
/-- What is received: at the gain g, with errors E turned into less than the gain. -/
def rcvF (g : Int) (P E : Nat → Gau) (j : Nat) : Gau := ⟨g * (P j).re + ((E j).re % (2 * g - 1) - g + 1), g * (P j).im + ((E j).im % (2 * g - 1) - g + 1)⟩
theorem err_in {g e : Int} (hg : 1 ≤ g) : (0 ≤ e % (2 * g - 1) ∧ e % (2 * g - 1) ≤ 2 * g - 2) ∧ -g < e % (2 * g - 1) - g + 1 ∧ e % (2 * g - 1) - g + 1 < g := by
  have h1 := Int.emod_nonneg e (show 2 * g - 1 ≠ 0 by omega)
  have h2 := Int.emod_lt_of_pos e (show 0 < 2 * g - 1 by omega)
  omega
theorem rcv_near {g : Int} {c C : Nat} {F : Nat → Int} {E : Nat → Gau} (hg : 1 ≤ g) : NearTo g c C F (rcvF g (ptF c F) E) := fun j _ => ⟨_, _, (err_in hg).2, (err_in hg).2, rfl⟩
theorem rcv_in {g : Int} {c C : Nat} {F : Nat → Int} {E : Nat → Gau} (hg : 1 ≤ g ∧ g ≤ 10000000) (h1 : 1 ≤ c) (h3 : c ≤ 3) (hF : ∀ q, q < C * (2 * c) → IsBit (F q)) {j : Nat} (hj : j < C) : (rcvF g (ptF c F) E j).Within 100000000 := by
  obtain ⟨a, b⟩ := ptF_le h1 h3 hF hj
  have a2 := gl_le (g := g) ⟨hg.1, by omega⟩ a
  have b2 := gl_le (g := g) ⟨hg.1, by omega⟩ b
  have ea := (err_in (g := g) (e := (E j).re) hg.1).2
  have eb := (err_in (g := g) (e := (E j).im) hg.1).2
  exact ⟨by unfold rcvF; simp only; omega, by unfold rcvF; simp only; omega⟩
theorem rcv_right {k g : Int} {c C : Nat} {F : Nat → Int} {E : Nat → Gau} (hk : ordE k = 0) (hg : 1 ≤ g ∧ g ≤ 10000000) (h1 : 1 ≤ c) (h3 : c ≤ 3) (hC : 0 < C ∧ C ≤ 200) (hF : ∀ q, q < C * (2 * c) → IsBit (F q)) : recvE k g C (rcvF g (ptF c F) E) = 0 := by
  unfold recvE
  rw [if_pos hk, if_pos (withinB_yes (by omega))]
  exact symsE_ok hC.1 hC.2 fun j hj => rcv_in hg h1 h3 hF hj
theorem pts_right {c C : Nat} {F : Nat → Int} (h1 : 1 ≤ c) (h3 : c ≤ 3) (hC : 0 < C ∧ C ≤ 200) (hF : ∀ q, q < C * (2 * c) → IsBit (F q)) : symsE C (ptF c F) = 0 :=
  symsE_ok hC.1 hC.2 fun j hj => by
    obtain ⟨a, b⟩ := ptF_le h1 h3 hF hj
    exact ⟨by omega, by omega⟩
theorem modE_right {k : Int} {c C : Nat} {F : Nat → Int} (hk : ordE k = 0) (hkc : k = 2 * (c : Int)) (hb : bitE (C * (2 * c)) F 400 = 0) : modE (2 * (c : Int)) (C * (2 * c)) F = 0 := by
  rw [hkc] at hk
  have e1 : orS (ordE (2 * (c : Int))) (bitE (C * (2 * c)) F 400) = 0 := by unfold orS; rw [if_pos hk]; exact hb
  have e2 : ((C * (2 * c) : Nat) : Int) % (2 * (c : Int)) = 0 := by
    rw [show ((C * (2 * c) : Nat) : Int) = (C : Int) * (2 * (c : Int)) by rw [Int.natCast_mul, Int.natCast_mul]; rfl]
    exact Int.mul_emod_left _ _
  unfold modE
  rw [if_pos e1, if_pos e2]
end Go.Proofs.YtcdplfjegopmdaaGreat
/- S78 of chapter 03, in a namespace of its own. -/
namespace Go.Proofs.YtcdplfjegopmdaaGreat
open Go Go.RowKit Go.Lib
theorem Gau.mul_plus (x y z : Gau) : x.mul (y.plus z) = (x.mul y).plus (x.mul z) := by
  apply Gau.same <;> simp only [Gau.mul, Gau.plus] <;> grind
theorem Gau.mul_mul (x y z : Gau) : x.mul (y.mul z) = (x.mul y).mul z := by
  apply Gau.same <;> simp only [Gau.mul] <;> grind
theorem Gau.mul_zero (x : Gau) : x.mul Gau.zero = Gau.zero := by
  apply Gau.same <;> simp [Gau.mul, Gau.zero]
theorem gsum_scale (x : Gau) (X Y : Nat → Nat → Gau) (r c : Nat) : ∀ k, gsum (fun i j => x.mul (X i j)) Y r c k = x.mul (gsum X Y r c k)
  | 0 => (Gau.mul_zero x).symm
  | k + 1 => by
    show (gsum (fun i j => x.mul (X i j)) Y r c k).plus ((x.mul (X r k)).mul (Y k c)) = x.mul ((gsum X Y r c k).plus ((X r k).mul (Y k c)))
    rw [gsum_scale x X Y r c k, Gau.mul_plus, Gau.mul_mul]
theorem eqF_sum (n : Nat) (F Y : Nat → Nat → Gau) (d : Gau) (r c k : Nat) : gsum (eqF n F d) Y r c k = d.conj.mul (gsum (adjF n F) Y r c k) := gsum_scale d.conj (adjF n F) Y r c k
end Go.Proofs.YtcdplfjegopmdaaGreat
/- S80 of chapter 03, in a namespace of its own. -/
namespace Go.Proofs.YtcdplfjegopmdaaGreat
open Go Go.RowKit Go.Lib
theorem Gau.plus_mul (x y z : Gau) : (x.plus y).mul z = (x.mul z).plus (y.mul z) := by
  apply Gau.same <;> simp only [Gau.mul, Gau.plus] <;> grind
theorem Gau.zero_mul (x : Gau) : Gau.zero.mul x = Gau.zero := by
  apply Gau.same <;> simp [Gau.mul, Gau.zero]
theorem Gau.plus_plus (x y z t : Gau) : (x.plus y).plus (z.plus t) = (x.plus z).plus (y.plus t) := by
  apply Gau.same <;> simp only [Gau.plus] <;> omega
theorem Gau.zero_plus (x : Gau) : Gau.zero.plus x = x := by
  apply Gau.same <;> simp [Gau.plus, Gau.zero]
theorem Gau.plus_zero (x : Gau) : x.plus Gau.zero = x := by
  apply Gau.same <;> simp [Gau.plus, Gau.zero]
theorem gsum_congr {A A' Y Y' : Nat → Nat → Gau} {r r' c c' : Nat} : ∀ {n : Nat}, (∀ k, k < n → A r k = A' r' k ∧ Y k c = Y' k c') → gsum A Y r c n = gsum A' Y' r' c' n
  | 0, _ => rfl
  | n + 1, h => by
    show (gsum A Y r c n).plus ((A r n).mul (Y n c)) = (gsum A' Y' r' c' n).plus ((A' r' n).mul (Y' n c'))
    rw [gsum_congr (n := n) fun k hk => h k (by omega), (h n (Nat.lt_succ_self n)).1, (h n (Nat.lt_succ_self n)).2]
theorem gsum_none (A : Nat → Nat → Gau) (r c : Nat) : ∀ n, gsum A (fun _ _ => Gau.zero) r c n = Gau.zero
  | 0 => rfl
  | n + 1 => by
    show (gsum A (fun _ _ => Gau.zero) r c n).plus ((A r n).mul Gau.zero) = Gau.zero
    rw [gsum_none A r c n, Gau.mul_zero, Gau.zero_plus]
theorem gsum_add (A U V : Nat → Nat → Gau) (r c : Nat) : ∀ n, gsum A (fun j d => (U j d).plus (V j d)) r c n = (gsum A U r c n).plus (gsum A V r c n)
  | 0 => by show Gau.zero = Gau.zero.plus Gau.zero; rw [Gau.zero_plus]
  | n + 1 => by
    show (gsum A (fun j d => (U j d).plus (V j d)) r c n).plus ((A r n).mul ((U n c).plus (V n c))) = ((gsum A U r c n).plus ((A r n).mul (U n c))).plus ((gsum A V r c n).plus ((A r n).mul (V n c)))
    rw [gsum_add A U V r c n, Gau.mul_plus, Gau.plus_plus]
theorem gsum_right (A U : Nat → Nat → Gau) (z : Gau) (r c : Nat) : ∀ n, gsum A (fun j d => (U j d).mul z) r c n = (gsum A U r c n).mul z
  | 0 => (Gau.zero_mul z).symm
  | n + 1 => by
    show (gsum A (fun j d => (U j d).mul z) r c n).plus ((A r n).mul ((U n c).mul z)) = ((gsum A U r c n).plus ((A r n).mul (U n c))).mul z
    rw [gsum_right A U z r c n, Gau.plus_mul, Gau.mul_mul]
/-- Applying a product is applying both. -/
theorem gsum_assoc (A B Y : Nat → Nat → Gau) (r c n : Nat) : ∀ m, gsum (fun r j => gsum A B r j n) Y r c m = gsum A (fun j d => gsum B Y j d m) r c n
  | 0 => (gsum_none A r c n).symm
  | m + 1 => by
    show (gsum (fun r j => gsum A B r j n) Y r c m).plus ((gsum A B r m n).mul (Y m c)) = gsum A (fun j d => (gsum B Y j d m).plus ((B j m).mul (Y m d))) r c n
    rw [gsum_assoc A B Y r c n m, gsum_add, gsum_congr (A := A) (A' := A) (Y := fun j d => (B j m).mul (Y m d)) (Y' := fun j _ => (B j m).mul (Y m c)) (r := r) (r' := r) (c := c) (c' := c) (n := n) (fun _ _ => ⟨rfl, rfl⟩), gsum_right A (fun j _ => B j m) (Y m c) r c n,
      gsum_congr (A := A) (A' := A) (Y := fun j _ => B j m) (Y' := B) (r := r) (r' := r) (c := c) (c' := m) (n := n) (fun _ _ => ⟨rfl, rfl⟩)]
/-- The adjugate times the matrix is the determinant. -/
theorem adj_det {n : Nat} (B : Nat → Nat → Gau) (hn : n = 1 ∨ n = 2) (i j : Nat) (hi : i < n) (hj : j < n) : gsum (adjF n B) B i j n = if i = j then detG n B else Gau.zero := by
  rcases hn with rfl | rfl
  · obtain rfl : i = 0 := by omega
    obtain rfl : j = 0 := by omega
    rw [if_pos rfl]
    apply Gau.same <;> simp [gsum, adjF, detG, Gau.mul, Gau.plus, Gau.zero]
  · obtain rfl | rfl : i = 0 ∨ i = 1 := by omega
    · obtain rfl | rfl : j = 0 ∨ j = 1 := by omega
      · rw [if_pos rfl]
        apply Gau.same <;> simp only [gsum, adjF, detG, Gau.mul, Gau.plus, Gau.less, Gau.zero, Gau.neg, if_true, if_false, Nat.reduceEqDiff, Nat.zero_ne_one, Nat.one_ne_zero] <;> grind
      · rw [if_neg (by decide)]
        apply Gau.same <;> simp only [gsum, adjF, detG, Gau.mul, Gau.plus, Gau.less, Gau.zero, Gau.neg, if_true, if_false, Nat.reduceEqDiff, Nat.zero_ne_one, Nat.one_ne_zero] <;> grind
    · obtain rfl | rfl : j = 0 ∨ j = 1 := by omega
      · rw [if_neg (by decide)]
        apply Gau.same <;> simp only [gsum, adjF, detG, Gau.mul, Gau.plus, Gau.less, Gau.zero, Gau.neg, if_true, if_false, Nat.reduceEqDiff, Nat.zero_ne_one, Nat.one_ne_zero] <;> grind
      · rw [if_pos rfl]
        apply Gau.same <;> simp only [gsum, adjF, detG, Gau.mul, Gau.plus, Gau.less, Gau.zero, Gau.neg, if_true, if_false, Nat.reduceEqDiff, Nat.zero_ne_one, Nat.one_ne_zero] <;> grind
/-- A matrix of one entry d times a vector. -/
theorem gsum_diag {n : Nat} (X Y : Nat → Nat → Gau) (d : Gau) (i c : Nat) (hn : n = 1 ∨ n = 2) (hi : i < n) (h : ∀ j, j < n → X i j = if i = j then d else Gau.zero) : gsum X Y i c n = d.mul (Y i c) := by
  rcases hn with rfl | rfl
  · obtain rfl : i = 0 := by omega
    show Gau.zero.plus ((X 0 0).mul (Y 0 c)) = _
    rw [Gau.zero_plus, h 0 (by decide), if_pos rfl]
  · have h0 := h 0 (by decide)
    have h1 := h 1 (by decide)
    show (Gau.zero.plus ((X i 0).mul (Y 0 c))).plus ((X i 1).mul (Y 1 c)) = _
    rw [Gau.zero_plus, h0, h1]
    obtain rfl | rfl : i = 0 ∨ i = 1 := by omega
    · rw [if_pos rfl, if_neg (by decide), Gau.zero_mul, Gau.plus_zero]
    · rw [if_neg (by decide), if_pos rfl, Gau.zero_mul, Gau.zero_plus]
theorem conj_gain (d y : Gau) : d.conj.mul (d.mul y) = ⟨gainG d * y.re, gainG d * y.im⟩ := by
  apply Gau.same <;> simp only [Gau.mul, Gau.conj, gainG] <;> grind
/-- What was put on is taken off. -/
theorem taken_off {n : Nat} (B Y : Nat → Nat → Gau) (hn : n = 1 ∨ n = 2) (i c : Nat) (hi : i < n) :
    gsum (eqF n B (detG n B)) (fun j d => gsum B Y j d n) i c n = ⟨gainG (detG n B) * (Y i c).re, gainG (detG n B) * (Y i c).im⟩ := by
  rw [eqF_sum, ← gsum_assoc, gsum_diag (fun r j => gsum (adjF n B) B r j n) Y (detG n B) i c hn hi fun j hj => adj_det B hn i j hi hj, conj_gain]
/-- Layers whose parts are within are right. -/
theorem laysE_ok {n q : Nat} {F : Nat → Nat → Gau} (h1 : 1 ≤ n) (h4 : n ≤ 4) (q1 : 1 ≤ q) (q9 : q ≤ 200) (h : rowsB 100000000 n q F = true) : laysE n (fun _ => q) F = 0 := by
  unfold laysE
  rw [if_neg (by omega), if_neg (by omega)]
  have hr := rowsB_iff.1 h
  have hz : ∀ i, i < n → layE q q (F i) = 0 := fun i hi => by
    unfold layE
    rw [if_pos (symsE_ok (by omega) q9 (insideB_iff.1 (hr i hi))), if_pos rfl]
  have : ∀ m, m ≤ n → badE (fun i => layE q q (F i)) m = 0 := fun m => by
    induction m with
    | zero => exact fun _ => rfl
    | succ m ih => exact fun hm => (badE_succ (ih (by omega))).trans (hz m (by omega))
  exact this n (Nat.le_refl n)
theorem lpE_cases (M : Int) (n m k q : Nat) (X Y : Nat → Nat → Gau) : lpE M n m k q X Y = 0 ∨ lpE M n m k q X Y = 13 ∨ lpE M n m k q X Y = 8 := by
  unfold lpE
  by_cases h : m = k
  · rw [if_pos h]
    cases rowsB M n q fun r c => gsum X Y r c m
    · exact .inr (.inr rfl)
    · exact .inl rfl
  · rw [if_neg h]; exact .inr (.inl rfl)
theorem lpE_zero {M : Int} {n m k q : Nat} {X Y : Nat → Nat → Gau} (h : lpE M n m k q X Y = 0) : m = k ∧ rowsB M n q (fun r c => gsum X Y r c m) = true := by
  unfold lpE at h
  by_cases e : m = k
  · rw [if_pos e] at h
    refine ⟨e, ?_⟩
    cases hb : rowsB M n q fun r c => gsum X Y r c m
    · rw [hb] at h; exact absurd h (by decide)
    · rfl
  · rw [if_neg e] at h; exact absurd h (by decide)
end Go.Proofs.YtcdplfjegopmdaaGreat
/- S82 of chapter 03, in a namespace of its own. -/
namespace Go.Proofs.YtcdplfjegopmdaaGreat
open Go Go.RowKit Go.Lib Ieee
theorem eqE_parts {n k : Nat} {L K : Nat → Nat} {X Y : Nat → Nat → Gau} (h : eqE n L X k K Y = 0) : detE n L X = 0 ∧ 1 ≤ gainG (detV n L X) ∧ gainG (detV n L X) ≤ 10000000 := by
  have hn := sq_nn (detV n L X).re
  have hm := sq_nn (detV n L X).im
  unfold eqE at h
  by_cases e : orS (detE n L X) (laysE k K Y) = 0
  · rw [if_pos e] at h
    refine ⟨(orS_zero e).1, ?_⟩
    by_cases e2 : k = n
    · rw [if_pos e2] at h
      by_cases e3 : gainG (detV n L X) = 0
      · rw [if_pos e3] at h; exact absurd h (by decide)
      · rw [if_neg e3] at h
        by_cases e4 : 10000000 < gainG (detV n L X)
        · rw [if_pos e4] at h; exact absurd h (by decide)
        · unfold gainG at e3 e4 ⊢
          omega
    · rw [if_neg e2] at h; exact absurd h (by decide)
  · rw [if_neg e] at h; exact absurd h e
end Go.Proofs.YtcdplfjegopmdaaGreat
/- The examples of the Top statements of chapter 3: symbolAwake. -/
namespace Go.Proofs.YtcdplfjegopmdaaGreat
open Go Go.RowKit Go.Lib Ieee
theorem gausB_selfT {n : Nat} {F : Nat → Gau} : gausB n F n F = true := gausB_iff.2 ⟨rfl, fun _ _ => rfl⟩
set_option maxHeartbeats 16000000 in
set_option maxRecDepth 100000 in
theorem symbolAwake_any (w : World) : Calls Tryz.prog 5 #[] w fun e w' => e = .returned (.bool true) ∧ Below w.heap.size w w' := by
  have HB := hide (Below.refl w.heap.size w)
  go_enter Tryz.func5, Tryz.ntmps5
  go_wp2_with fail
  obtain ⟨v1, hv1⟩ : ∃ z : World, z = (w.alloc (.cells #[.int .i64 0, .int .i64 1, .int .i64 1, .int .i64 0] 3)) := ⟨_, rfl⟩
  try rw [← hv1]
  have HA := hide (show Box v1 (w.heap.size) 3 #[.int .i64 0, .int .i64 1, .int .i64 1, .int .i64 0] by rw [hv1]; exact Box.made rfl)
  have hb1 : Below w.heap.size w v1 := by rw [hv1]; (repeat (first | (with_reducible exact Below.refl _ _) | (with_reducible refine Go.below_drewN ?_ _) | (with_reducible refine Below.drew ?_) | (with_reducible refine Below.alloc ?_ (by first | exact Nat.le_refl _ | (simp; done) | (simp; omega) | omega) _) | (with_reducible refine Below.setCell ?_ (by first | exact Nat.le_refl _ | (simp; done) | (simp; omega) | omega) _)))
  clear hv1
  replace HB := hide (HB.out.trans (hb1.mono HB.out.size))
  clear hb1
  obtain ⟨b1, eb1⟩ : ∃ z, w.heap.size = z := ⟨_, rfl⟩
  simp only [eb1] at HA
  try simp only [eb1]
  clear eb1
  refine (mod_ex (b1) _ (ints_lit [0, 1, 1, 0] HA.out rfl)).mono ?_
  rintro e_ v2 ⟨Am, cm, rfl, hm, hb2⟩
  replace HA := hide (HA.out.below hb2)
  replace HB := hide (HB.out.trans (hb2.mono HB.out.size))
  clear hb2
  have HM := hide hm
  clear hm
  go_wp2_with fail
  clear HA
  obtain ⟨v3, hv3⟩ : ∃ z : World, z = (v2.alloc (.cells #[.int .i64 5, .int .i64 1] 62)) := ⟨_, rfl⟩
  try rw [← hv3]
  have HA := hide (show Box v3 (v2.heap.size) 62 #[.int .i64 5, .int .i64 1] by rw [hv3]; exact Box.made rfl)
  have hb3 : Below v2.heap.size v2 v3 := by rw [hv3]; (repeat (first | (with_reducible exact Below.refl _ _) | (with_reducible refine Go.below_drewN ?_ _) | (with_reducible refine Below.drew ?_) | (with_reducible refine Below.alloc ?_ (by first | exact Nat.le_refl _ | (simp; done) | (simp; omega) | omega) _) | (with_reducible refine Below.setCell ?_ (by first | exact Nat.le_refl _ | (simp; done) | (simp; omega) | omega) _)))
  clear hv3
  replace HM := hide (HM.out.below hb3)
  replace HB := hide (HB.out.trans (hb3.mono HB.out.size))
  clear hb3
  obtain ⟨b3, eb3⟩ : ∃ z, v2.heap.size = z := ⟨_, rfl⟩
  simp only [eb3] at HA
  try simp only [eb3]
  clear eb3
  refine (soft_ex (b3) _ (gaus_lit1 (x := ⟨5, 1⟩) HA.out)).mono ?_
  rintro e_ v4 ⟨As, cs, rfl, hs, hb4⟩
  replace HM := hide (HM.out.below hb4)
  replace HA := hide (HA.out.below hb4)
  replace HB := hide (HB.out.trans (hb4.mono HB.out.size))
  clear hb4
  have HSO := hide hs
  clear hs
  go_wp2_with fail
  clear HA
  obtain ⟨v5, hv5⟩ : ∃ z : World, z = (v4.alloc (.cells #[.int .i64 3, .int .i64 (-1)] 62)) := ⟨_, rfl⟩
  try rw [← hv5]
  have HA := hide (show Box v5 (v4.heap.size) 62 #[.int .i64 3, .int .i64 (-1)] by rw [hv5]; exact Box.made rfl)
  have hb5 : Below v4.heap.size v4 v5 := by rw [hv5]; (repeat (first | (with_reducible exact Below.refl _ _) | (with_reducible refine Go.below_drewN ?_ _) | (with_reducible refine Below.drew ?_) | (with_reducible refine Below.alloc ?_ (by first | exact Nat.le_refl _ | (simp; done) | (simp; omega) | omega) _) | (with_reducible refine Below.setCell ?_ (by first | exact Nat.le_refl _ | (simp; done) | (simp; omega) | omega) _)))
  clear hv5
  replace HM := hide (HM.out.below hb5)
  replace HSO := hide (HSO.out.below hb5)
  replace HB := hide (HB.out.trans (hb5.mono HB.out.size))
  clear hb5
  obtain ⟨b5, eb5⟩ : ∃ z, v4.heap.size = z := ⟨_, rfl⟩
  simp only [eb5] at HA
  try simp only [eb5]
  clear eb5
  have H8 := hide (gausses_any Am (some ⟨(b5), 0, none⟩) 1 1 cm 1 (fun _ => ⟨3, -1⟩) (fun _ => ⟨3, -1⟩) _ (by decide) (by decide) HM.out (gaus_lit1 (x := ⟨3, -1⟩) HA.out))
  rw [gausB_selfT] at H8
  refine H8.out.mono ?_
  rintro e_ v6 ⟨rfl, q6, hq6⟩
  have hb6 : Below v5.heap.size v5 v6 := by rw [hq6]; exact Go.below_drewN (Below.refl _ _) _
  clear hq6
  replace HM := hide (HM.out.below hb6)
  replace HSO := hide (HSO.out.below hb6)
  replace HA := hide (HA.out.below hb6)
  replace HB := hide (HB.out.trans (hb6.mono HB.out.size))
  clear hb6
  clear H8
  go_wp2_with fail
  clear HM HA
  obtain ⟨v7, hv7⟩ : ∃ z : World, z = (v6.alloc (.cells #[.int .i64 48, .int .i64 8, .int .i64 (-8), .int .i64 24] 3)) := ⟨_, rfl⟩
  try rw [← hv7]
  have HA := hide (show Box v7 (v6.heap.size) 3 #[.int .i64 48, .int .i64 8, .int .i64 (-8), .int .i64 24] by rw [hv7]; exact Box.made rfl)
  have hb7 : Below v6.heap.size v6 v7 := by rw [hv7]; (repeat (first | (with_reducible exact Below.refl _ _) | (with_reducible refine Go.below_drewN ?_ _) | (with_reducible refine Below.drew ?_) | (with_reducible refine Below.alloc ?_ (by first | exact Nat.le_refl _ | (simp; done) | (simp; omega) | omega) _) | (with_reducible refine Below.setCell ?_ (by first | exact Nat.le_refl _ | (simp; done) | (simp; omega) | omega) _)))
  clear hv7
  replace HSO := hide (HSO.out.below hb7)
  replace HB := hide (HB.out.trans (hb7.mono HB.out.size))
  clear hb7
  obtain ⟨b7, eb7⟩ : ∃ z, v6.heap.size = z := ⟨_, rfl⟩
  simp only [eb7] at HA
  try simp only [eb7]
  clear eb7
  have H9 := hide (ints_any As (some ⟨(b7), 0, none⟩) 4 4 cs 4 exSoft exSoft _ (by decide) (by decide) HSO.out (ints_lit [48, 8, -8, 24] HA.out rfl))
  rw [intsB_self] at H9
  refine H9.out.mono ?_
  rintro e_ v8 ⟨rfl, q8, hq8⟩
  have hb8 : Below v7.heap.size v7 v8 := by rw [hq8]; exact Go.below_drewN (Below.refl _ _) _
  clear hq8
  replace HSO := hide (HSO.out.below hb8)
  replace HA := hide (HA.out.below hb8)
  replace HB := hide (HB.out.trans (hb8.mono HB.out.size))
  clear hb8
  clear H9
  go_wp2_with fail
  go_ret
  exact ⟨rfl, HB.out⟩
end Go.Proofs.YtcdplfjegopmdaaGreat
/- S49 of chapter 03, in a namespace of its own. -/
namespace Go.Proofs.YtcdplfjegopmdaaGreat
open Go Go.RowKit Go.Lib
theorem bitE_bits {m : Nat} {S S' : Nat → Int} {L : Int} (h : bitE m S L = 0) (hb : ∀ j, j < m → IsBit (S' j)) : bitE m S' L = 0 := by
  unfold bitE at h ⊢
  by_cases h0 : m = 0
  · rw [if_pos h0] at h; exact absurd h (by decide)
  rw [if_neg h0] at h ⊢
  by_cases h1 : L < (m : Int)
  · rw [if_pos h1] at h; exact absurd h (by decide)
  rw [if_neg h1]
  unfold unI
  rw [if_pos (bitsB_iff.2 hb)]
theorem regE_bits {L : Int} {n m : Nat} {T S S' : Nat → Int} (h : regE L n T m S = 0) (hb : ∀ j, j < m → IsBit (S' j)) : regE L n T m S' = 0 := by
  unfold regE at h ⊢
  by_cases h0 : withinB L 2 10 = true
  case neg => rw [if_neg h0] at h; exact absurd h (by decide)
  rw [if_pos h0] at h ⊢
  by_cases h1 : tapE L n T = 0
  case neg => rw [if_neg h1] at h; exact absurd h h1
  rw [if_pos h1] at h ⊢
  by_cases h2 : (m : Int) = L
  case neg => rw [if_neg h2] at h; exact absurd h (by decide)
  rw [if_pos h2] at h ⊢
  exact bitE_bits h hb
theorem copyOk (L : Int) (A B : Option Addr) (n c m d : Nat) (T S : Nat → Int) (w : World) (hn : n ≤ 100000) (hm : m ≤ 100000) (hn0 : 0 < n) (hm0 : 0 < m) (hT : IntsAt w 0 A n T) (hS : IntsAt w 0 B m S) :
    Calls Tryz.prog 17 #[.agg #[.int .i64 L, .slice A n c, .slice B m d]] w fun e w' => ∃ g f h k, e = .returned (.agg #[.int .i64 L, .slice (some ⟨g, 0, none⟩) n f, .slice (some ⟨h, 0, none⟩) m k]) ∧ IntsAt w' 0 (some ⟨g, 0, none⟩) n T ∧ IntsAt w' 0 (some ⟨h, 0, none⟩) m S ∧ Below w.heap.size w w' :=
  (CopyRegister_any L A B n c m d T S w hn hm hT hS).mono fun e w' ⟨C, f, D, k, e1, h1, h2, h3, _⟩ => by
    obtain ⟨g, f', e2, -, -⟩ := own_form h1 hn0
    obtain ⟨h, k', e3, -, -⟩ := own_form h2 hm0
    injection e2 with e2 _ e4
    injection e3 with e3 _ e5
    subst e2; subst e3
    exact ⟨g, f, h, k, e1, h1.atG (Nat.zero_le _), h2.atG (Nat.zero_le _), h3⟩
end Go.Proofs.YtcdplfjegopmdaaGreat
