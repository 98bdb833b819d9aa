/- Lemmas: Sb, H4, H5, H6, H7. -/
import Derived.BigQuiet
import Derived.Test.YtcndeegfkgfnkaaBy04
import Derived.Test.YtcndeegfkgfnkaaBy09
import Derived.Test.YtcndeegfkgfnkaaBy14
import Derived.Test.YtcndeegfkgfnkaaBy15
set_option linter.unusedVariables false
set_option linter.unusedSimpArgs false
/- CorrelationOf and Shifts of the code; Shifts, ValuesErr of the reference. -/
namespace Go.Proofs.Ytcndeegfkgfnkaa
open Go.RowKit
def ccE (a : Int) (n : Nat) (F : Nat → Int) : Int := firstE [unI (withinB a 0 1007) 2, unI ((n : Int) == 62) 10, recE n F]
def ccV (a : Int) (n : Nat) (F : Nat → Int) : Int := if ccE a n F = 0 then corS (seqF a.toNat) F 62 else 0
theorem valE_zero {x : Int} (h : valE x = 0) : -100000 ≤ x ∧ x ≤ 100000 := withinB_iff.1 (unI_zero (by decide) h)
theorem ccE_zero {a : Int} {n : Nat} {F : Nat → Int} (h : ccE a n F = 0) : (0 ≤ a ∧ a ≤ 1007) ∧ n = 62 ∧ ∀ j, j < n → -100000 ≤ F j ∧ F j ≤ 100000 := by
  obtain ⟨h1, h2⟩ := firstE_nil h
  obtain ⟨h3, h4⟩ := firstE_nil h2
  obtain ⟨h5, -⟩ := firstE_nil h4
  obtain ⟨-, h6⟩ := firstE_nil h5
  obtain ⟨h7, -⟩ := firstE_nil h6
  refine ⟨withinB_iff.1 (unI_zero (by decide) h1), by have := unI_zero (by decide) h3; simp at this; omega, fun j hj => valE_zero (badE_zero h7 j hj)⟩
theorem seqF_sign {i j : Nat} (hj : j < 62) : IsSign (seqF i j) := by
  have hm : ∀ q, q % 31 < 31 := fun q => Nat.mod_lt q (by decide)
  unfold seqF catF
  split
  · exact sgF_sign (fun i _ => T2_lt i) _ (hm _)
  · exact (sgF_sign (fun i _ => T2_lt i) _ (hm _)).mul (sgF_sign (fun i _ => T4_lt i) _ (hm _))
def vE (n : Nat) (F : Nat → Int) : Int := if 120 < n then 8 else valsE n F
end Go.Proofs.Ytcndeegfkgfnkaa
/- Cells that are found (without a walk): the correlations of all halves at a place, and the best of them; a sequence among zeros is found, and with errors its identity. -/
namespace Go.Proofs.Ytcndeegfkgfnkaa
open Go.RowKit
theorem corS_congr {F F' G G' : Nat → Int} : ∀ {k : Nat}, (∀ j, j < k → F j = F' j ∧ G j = G' j) → corS F G k = corS F' G' k
  | 0, _ => rfl
  | k + 1, h => by
    show corS F G k + F k * G k = corS F' G' k + F' k * G' k
    rw [corS_congr (k := k) fun j hj => h j (by omega), (h k (Nat.lt_succ_self k)).1, (h k (Nat.lt_succ_self k)).2]
theorem corS_add {F G E : Nat → Int} : ∀ k : Nat, corS F (fun j => G j + E j) k = corS F G k + corS F E k
  | 0 => rfl
  | k + 1 => by
    show corS F (fun j => G j + E j) k + F k * (G k + E k) = corS F G k + F k * G k + (corS F E k + F k * E k)
    rw [corS_add k, Int.mul_add]
    omega
theorem corS_abs {F G : Nat → Int} {M : Int} : ∀ k : Nat, (∀ j, j < k → IsSign (F j) ∧ -M ≤ G j ∧ G j ≤ M) → -((k : Int) * M) ≤ corS F G k ∧ corS F G k ≤ (k : Int) * M
  | 0, _ => by show -(((0 : Nat) : Int) * M) ≤ 0 ∧ (0 : Int) ≤ ((0 : Nat) : Int) * M; simp
  | k + 1, h => by
    have h1 := corS_abs k fun j hj => h j (by omega)
    obtain ⟨hf, hg⟩ := h k (Nat.lt_succ_self k)
    have e : ((k + 1 : Nat) : Int) * M = (k : Int) * M + M := by rw [Int.natCast_add, Int.add_mul]; omega
    rw [e]
    show -((k : Int) * M + M) ≤ corS F G k + F k * G k ∧ corS F G k + F k * G k ≤ (k : Int) * M + M
    rcases hf with hf | hf <;> rw [hf] <;> omega
/-- The first value is 0. -/
theorem corS_none {F G : Nat → Int} {M : Int} (h0 : G 0 = 0) : ∀ k : Nat, (∀ j, j < k + 1 → IsSign (F j) ∧ -M ≤ G j ∧ G j ≤ M) → corS F G (k + 1) ≤ (k : Int) * M
  | 0, _ => by show (0 : Int) + F 0 * G 0 ≤ ((0 : Nat) : Int) * M; rw [h0]; simp
  | k + 1, h => by
    have h1 := corS_none h0 k fun j hj => h j (by omega)
    obtain ⟨hf, hg⟩ := h (k + 1) (Nat.lt_succ_self _)
    have e : ((k + 1 : Nat) : Int) * M = (k : Int) * M + M := by rw [Int.natCast_add, Int.add_mul]; omega
    rw [e]
    show corS F G (k + 1) + F (k + 1) * G (k + 1) ≤ (k : Int) * M + M
    rcases hf with hf | hf <;> rw [hf] <;> omega
/-- What signs have in common with a multiple of signs. -/
theorem corS_dif {F H : Nat → Int} {s : Int} : ∀ k : Nat, (∀ j, j < k → IsSign (F j) ∧ IsSign (H j)) → corS F (fun j => s * H j) k = s * ((k : Int) - 2 * (difN F H k : Int))
  | 0, _ => by show (0 : Int) = s * (((0 : Nat) : Int) - 2 * ((0 : Nat) : Int)); simp
  | k + 1, h => by
    have h1 := corS_dif (s := s) k fun j hj => h j (by omega)
    obtain ⟨hf, hg⟩ := h k (Nat.lt_succ_self k)
    show corS F (fun j => s * H j) k + F k * (s * H k) = s * (((k + 1 : Nat) : Int) - 2 * ((if F k = H k then difN F H k else difN F H k + 1 : Nat) : Int))
    rw [h1]
    have e : ((k + 1 : Nat) : Int) = (k : Int) + 1 := Int.natCast_add k 1
    have e2 : ((difN F H k + 1 : Nat) : Int) = (difN F H k : Int) + 1 := Int.natCast_add _ 1
    generalize (difN F H k) = d at *
    rcases hf with hf | hf <;> rcases hg with hg | hg <;> simp only [hf, hg, if_true, if_false, reduceCtorEq, show ¬ ((1 : Int) = -1) from by decide, show ¬ ((-1 : Int) = 1) from by decide, e, e2] <;> grind
theorem halfA_sign (i n : Nat) : IsSign (halfA i n) := by rw [halfA_table]; exact tS_sign (Nat.mod_lt _ (by decide))
theorem halfB_sign (i n : Nat) : IsSign (halfB i n) := by rw [halfB_table]; exact (tS_sign (Nat.mod_lt _ (by decide))).mul (tV_sign (Nat.mod_lt _ (by decide)))
/-- The correlation of values from a place on with the first half of a sector, and with the second half of a group. -/
def fA (X : Nat → Int) (p i : Nat) : Int := corS (halfA i) (fun j => X (p + j)) 31
def fB (X : Nat → Int) (p g : Nat) : Int := corS (halfB (3 * g)) (fun j => X (p + 31 + j)) 31
/-- The identity with the greatest correlation at a place, and this. -/
def fId (X : Nat → Int) (p : Nat) : Nat := 3 * bsN (fB X p) 336 + bsN (fA X p) 3
def fCo (X : Nat → Int) (p : Nat) : Int := bsC (fA X p) 3 + bsC (fB X p) 336
theorem fA_ref (X : Nat → Int) (p : Nat) : (fun n => corS (fun j => seqF (1 * n) (0 + j)) (fun j => X (p + j)) 31) = fA X p := by
  funext n
  exact corS_congr fun j hj => ⟨by rw [Nat.one_mul, Nat.zero_add]; exact seqF_first hj, rfl⟩
theorem fB_ref (X : Nat → Int) (p : Nat) : (fun n => corS (fun j => seqF (3 * n) (31 + j)) (fun j => X (p + 31 + j)) 31) = fB X p := by
  funext n
  exact corS_congr fun j _ => ⟨seqF_second, rfl⟩
theorem fA_le {X : Nat → Int} {p : Nat} {M : Int} (h : ∀ j, j < 62 → -M ≤ X (p + j) ∧ X (p + j) ≤ M) (i : Nat) : -(31 * M) ≤ fA X p i ∧ fA X p i ≤ 31 * M :=
  corS_abs 31 fun j hj => ⟨halfA_sign i j, h j (by omega)⟩
theorem fB_le {X : Nat → Int} {p : Nat} {M : Int} (h : ∀ j, j < 62 → -M ≤ X (p + j) ∧ X (p + j) ≤ M) (g : Nat) : -(31 * M) ≤ fB X p g ∧ fB X p g ≤ 31 * M :=
  corS_abs 31 fun j hj => ⟨halfB_sign _ j, by have := h (31 + j) (by omega); rw [← Nat.add_assoc] at this; exact this⟩
theorem fCo_le {X : Nat → Int} {p : Nat} (h : ∀ j, j < 62 → -100000 ≤ X (p + j) ∧ X (p + j) ≤ 100000) : -6200000 ≤ fCo X p ∧ fCo X p ≤ 6200000 := by
  have h1 := bsC_le (M := 3100000) (fun i => fA_le (M := 100000) h i) 3
  have h2 := bsC_le (M := 3100000) (fun i => fB_le (M := 100000) h i) 336
  unfold fCo
  omega
theorem fId_lt (X : Nat → Int) (p : Nat) : fId X p < 1008 := by
  have h1 := bsN_below (K := fA X p) 3 (by decide)
  have h2 := bsN_below (K := fB X p) 336 (by decide)
  unfold fId
  omega
theorem bsC_at {K : Nat → Int} : ∀ n, bsC K n = K (bsN K n)
  | 0 => rfl
  | n + 1 => by
    show (if bsC K n < K n then K n else bsC K n) = K (if bsC K n < K n then n else bsN K n)
    split
    · rfl
    · exact bsC_at n
theorem bsC_ge {K : Nat → Int} : ∀ n j, j < n → K j ≤ bsC K n
  | 0, j, hj => absurd hj (Nat.not_lt_zero j)
  | n + 1, j, hj => by
    show K j ≤ if bsC K n < K n then K n else bsC K n
    by_cases e : j = n
    · subst e; split <;> omega
    · have := bsC_ge (K := K) n j (by omega)
      split <;> omega
theorem bsN_is {K : Nat → Int} {i n : Nat} (hi : i < n) (h : ∀ j, j < n → j ≠ i → K j < K i) : bsN K n = i := by
  by_cases e : bsN K n = i
  · exact e
  · exfalso
    have h1 := h _ (bsN_below n (by omega)) e
    have h2 := bsC_ge (K := K) n i hi
    rw [bsC_at] at h2
    omega
/-- A place of the first halves, and of the second ones, where a sequence with errors stands. -/
theorem fA_at {X E : Nat → Int} {p i : Nat} {s : Int} (hX : ∀ j, j < 62 → X (p + j) = s * seqF i j + E j) (u : Nat) : fA X p u = s * (31 - 2 * (difN (halfA u) (halfA i) 31 : Int)) + corS (halfA u) E 31 := by
  unfold fA
  rw [corS_congr (F' := halfA u) (G' := fun j => s * halfA i j + E j) fun j hj => ⟨rfl, by rw [hX j (by omega), seqF_first hj]⟩, corS_add (G := fun j => s * halfA i j), corS_dif 31 fun j _ => ⟨halfA_sign u j, halfA_sign i j⟩]
  rfl
theorem fB_at {X E : Nat → Int} {p i : Nat} {s : Int} (hX : ∀ j, j < 62 → X (p + j) = s * seqF i j + E j) (g : Nat) : fB X p g = s * (31 - 2 * (difN (halfB (3 * g)) (halfB i) 31 : Int)) + corS (halfB (3 * g)) (fun j => E (31 + j)) 31 := by
  unfold fB
  rw [corS_congr (F' := halfB (3 * g)) (G' := fun j => s * halfB i j + E (31 + j)) fun j hj => ⟨rfl, by rw [Nat.add_assoc, hX (31 + j) (by omega), seqF_second]⟩, corS_add (G := fun j => s * halfB i j), corS_dif 31 fun j _ => ⟨halfB_sign _ j, halfB_sign i j⟩]
  rfl
theorem mul_cap {s : Int} {d e : Int} (hs : 0 ≤ s) (h : d ≤ e) : s * d ≤ s * e := Int.mul_le_mul_of_nonneg_left h hs
/-- The sector and the group that were sent have the greatest correlation, even with errors. -/
theorem best_at {X E : Nat → Int} {p i : Nat} {s M : Int} (hi : i < 1008) (hs : 1 ≤ s) (hM : 62 * M < 11 * s) (hE : ∀ j, j < 62 → -M ≤ E j ∧ E j ≤ M) (hX : ∀ j, j < 62 → X (p + j) = s * seqF i j + E j) :
    bsN (fA X p) 3 = i % 3 ∧ bsN (fB X p) 336 = i / 3 := by
  have hA := fun u => corS_abs (M := M) 31 (F := halfA u) (G := E) fun j hj => ⟨halfA_sign u j, hE j (by omega)⟩
  have hB := fun g => corS_abs (M := M) 31 (F := halfB (3 * g)) (G := fun j => E (31 + j)) fun j hj => ⟨halfB_sign _ j, hE (31 + j) (by omega)⟩
  constructor
  · refine bsN_is (by omega) fun u hu hne => ?_
    rw [fA_at hX u, fA_at hX (i % 3), first_is, first_is, if_neg (by omega), if_pos (by omega)]
    have h1 := hA u
    have h2 := hA (i % 3)
    omega
  · refine bsN_is (by omega) fun g hg hne => ?_
    rw [fB_at hX g, fB_at hX (i / 3), second_same (a := 3 * (i / 3)) (b := i) (by omega)]
    have h1 := hB g
    have h2 := hB (i / 3)
    have h3 := second_apart (a := 3 * g) (b := i) (by omega) hi (by omega)
    have h4 := mul_cap (s := s) (d := 31 - 2 * (difN (halfB (3 * g)) (halfB i) 31 : Int)) (e := 9) (by omega) (by omega)
    omega
theorem fId_at {X E : Nat → Int} {p i : Nat} {s M : Int} (hi : i < 1008) (hs : 1 ≤ s) (hM : 62 * M < 11 * s) (hE : ∀ j, j < 62 → -M ≤ E j ∧ E j ≤ M) (hX : ∀ j, j < 62 → X (p + j) = s * seqF i j + E j) : fId X p = i := by
  obtain ⟨h1, h2⟩ := best_at hi hs hM hE hX
  unfold fId
  rw [h1, h2]
  omega
theorem fCo_at {X : Nat → Int} {p i : Nat} {s : Int} (hi : i < 1008) (hs : 1 ≤ s) (hX : ∀ j, j < 62 → X (p + j) = s * seqF i j) : fCo X p = 62 * s := by
  have hX' : ∀ j, j < 62 → X (p + j) = s * seqF i j + (fun _ => 0) j := fun j hj => by rw [hX j hj]; simp
  obtain ⟨h1, h2⟩ := best_at (M := 0) hi hs (by omega) (fun _ _ => ⟨by simp, by simp⟩) hX'
  have hz : ∀ F : Nat → Int, corS F (fun _ => 0) 31 = 0 := fun F => by
    have : ∀ k, corS F (fun _ => 0) k = 0 := fun k => by
      induction k with
      | zero => rfl
      | succ k ih => show corS F (fun _ => 0) k + F k * 0 = 0; rw [ih]; simp
    exact this 31
  unfold fCo
  rw [bsC_at, bsC_at, h1, h2, fA_at hX', fB_at hX', hz, hz, first_is, second_same (a := 3 * (i / 3)) (b := i) (by omega), if_pos (by omega)]
  omega
/-- At another place less comes together. -/
theorem fCo_else {X : Nat → Int} {p q : Nat} {s : Int} (hs : 1 ≤ s) (hX : ∀ j, -s ≤ X j ∧ X j ≤ s) (hl : ∀ j, j < p → X j = 0) (hr : ∀ j, p + 62 ≤ j → X j = 0) (hq : q ≠ p) : fCo X q < 62 * s := by
  have hA := fA_le (X := X) (p := q) (M := s) (fun j _ => hX _) (bsN (fA X q) 3)
  have hB := fB_le (X := X) (p := q) (M := s) (fun j _ => hX _) (bsN (fB X q) 336)
  unfold fCo
  rw [bsC_at, bsC_at]
  generalize bsN (fA X q) 3 = u at *
  generalize bsN (fB X q) 336 = g at *
  by_cases h : q < p
  · have h1 : fA X q u ≤ 30 * s := corS_none (hl (q + 0) (by omega)) 30 fun j _ => ⟨halfA_sign u j, hX _⟩
    omega
  · have h1 : corS (halfB (3 * g)) (fun j => X (q + 31 + j)) 30 ≤ 30 * s := (corS_abs 30 fun j _ => ⟨halfB_sign _ j, hX _⟩).2
    have h2 : fB X q g = corS (halfB (3 * g)) (fun j => X (q + 31 + j)) 30 + halfB (3 * g) 30 * X (q + 31 + 30) := rfl
    rw [hr (q + 31 + 30) (by omega)] at h2
    omega
/-- The cell is found. -/
theorem cell_found {X : Nat → Int} {p i n : Nat} {s : Int} (hi : i < 1008) (hs : 1 ≤ s) (hp : p < n) (hX : ∀ j, j < 62 → X (p + j) = s * seqF i j) (hl : ∀ j, j < p → X j = 0) (hr : ∀ j, p + 62 ≤ j → X j = 0) :
    bsN (fCo X) n = p ∧ fId X p = i ∧ fCo X p = 62 * s := by
  have hc := fCo_at hi hs hX
  have hb : ∀ j, -s ≤ X j ∧ X j ≤ s := fun j => by
    by_cases h1 : j < p
    · rw [hl j h1]; omega
    · by_cases h2 : p + 62 ≤ j
      · rw [hr j h2]; omega
      · obtain ⟨k, rfl⟩ : ∃ k, j = p + k := ⟨j - p, by omega⟩
        rw [hX k (by omega)]
        rcases seqF_sign (i := i) (j := k) (by omega) with e | e <;> rw [e] <;> omega
  refine ⟨bsN_is hp fun q _ hne => ?_, ?_, hc⟩
  · rw [hc]
    exact fCo_else hs hb hl hr hne
  · exact fId_at (E := fun _ => 0) (M := 0) hi hs (by omega) (fun _ _ => ⟨by simp, by simp⟩) fun j hj => by rw [hX j hj]; simp
end Go.Proofs.Ytcndeegfkgfnkaa
/- found of the code: the identity with the greatest correlation at a place. -/
namespace Go.Proofs.Ytcndeegfkgfnkaa
open Go.RowKit Go.Great
theorem Box.putT {w : World} {b : Nat} {t : TypeId} {p0 p1 p2 : Value} (h : Box w b t #[p0, p1, p2]) (u0 u1 u2 : Value) : Box (((w.setCell ⟨b, 0, none⟩ u0).setCell ⟨b, 1, none⟩ u1).setCell ⟨b, 2, none⟩ u2) b t #[u0, u1, u2] := by
  have := ((h.set_ 0 u0).set_ 1 u1).set_ 2 u2
  simpa using this
theorem Box.cellsT {w : World} {b : Nat} {t : TypeId} {p0 p1 p2 : Value} (h : Box w b t #[p0, p1, p2]) :
    w.cell? ⟨b, 0, none⟩ = some p0 ∧ w.cell? ⟨b, 1, none⟩ = some p1 ∧ w.cell? ⟨b, 2, none⟩ = some p2 ∧ w.frozen? ⟨b, 0, none⟩ = false ∧ w.frozen? ⟨b, 1, none⟩ = false ∧ w.frozen? ⟨b, 2, none⟩ = false ∧ b < w.heap.size :=
  ⟨h.at_ 0, h.at_ 1, h.at_ 2, h.free 0, h.free 1, h.free 2, h.lt⟩
theorem Below.putT {B c : Nat} {w W : World} (h : Below B w W) (hc : B ≤ c) (u0 u1 u2 : Value) : Below B w (((W.setCell ⟨c, 0, none⟩ u0).setCell ⟨c, 1, none⟩ u1).setCell ⟨c, 2, none⟩ u2) :=
  ((h.setCell hc u0).setCell hc u1).setCell hc u2
set_option maxHeartbeats 4000000 in
set_option maxRecDepth 100000 in
theorem found_any (A1 A2 : Option Addr) (c1 c2 b o n c p : Nat) (X : Nat → Int) (w : World) (hp : p + 62 ≤ n) (hn : n ≤ 1000) (hnc : n ≤ c) (hc9 : c ≤ 9223372036854775807)
    (h1 : ListsAt w 0 A1 3 (fun _ => 31) halfA) (h2 : ListsAt w 0 A2 336 (fun _ => 31) (fun g => halfB (3 * g))) (hI : IntsAt w 0 (some ⟨b, o, none⟩) n X) (hX : ∀ j, j < 62 → -100000 ≤ X (p + j) ∧ X (p + j) ≤ 100000) :
    Calls Try.prog 24 #[.agg #[.slice A1 3 c1, .slice A2 336 c2], .slice (some ⟨b, o, none⟩) n c, .int .i64 (p : Int)] w fun e w' => e = .returned (.agg #[.int .i64 (p : Int), .int .i64 (fId X p : Int), .int .i64 (fCo X p)]) ∧ Below w.heap.size w w' := by
  have hs1 := bsN_below (K := fA X p) 3 (by decide)
  have hs2 := bsN_below (K := fB X p) 336 (by decide)
  have hk1 := bsC_le (M := 3100000) (fun i => fA_le (M := 100000) hX i) 3
  have hk2 := bsC_le (M := 3100000) (fun i => fB_le (M := 100000) hX i) 336
  obtain ⟨m, hm⟩ : ∃ m : Nat, p + 31 = m := ⟨_, rfl⟩
  have HB1 : Hid (∀ W, ListsAt W 0 A1 3 (fun _ => 31) halfA → IntsAt W 0 (some ⟨b, o + p, none⟩) 31 (fun j => X (p + j)) → Calls Try.prog 49 #[.slice A1 3 c1, .slice (some ⟨b, o + p, none⟩) 31 (c - p)] W fun e w' => e = .returned (.tuple #[.int .i64 (bsN (fA X p) 3 : Int), .int .i64 (bsC (fA X p) 3)]) ∧ W = w') :=
    hide (fun W a k => bestOf_any A1 (some ⟨b, o + p, none⟩) 3 c1 (c - p) halfA (fun j => X (p + j)) W (by decide) (by decide) a k (fun j hj => hX j (by omega)) (fun i _ j _ => halfA_sign i j))
  have HB2 : Hid (∀ W, ListsAt W 0 A2 336 (fun _ => 31) (fun g => halfB (3 * g)) → IntsAt W 0 (some ⟨b, o + m, none⟩) 31 (fun j => X (p + 31 + j)) → Calls Try.prog 49 #[.slice A2 336 c2, .slice (some ⟨b, o + m, none⟩) 31 (c - m)] W fun e w' => e = .returned (.tuple #[.int .i64 (bsN (fB X p) 336 : Int), .int .i64 (bsC (fB X p) 336)]) ∧ W = w') :=
    hide (fun W a k => bestOf_any A2 (some ⟨b, o + m, none⟩) 336 c2 (c - m) (fun g => halfB (3 * g)) (fun j => X (p + 31 + j)) W (by decide) (by decide) a k (fun j hj => by have := hX (31 + j) (by omega); rw [← Nat.add_assoc] at this; exact this) (fun i _ j _ => halfB_sign _ j))
  have HI1 := hide (show IntsAt w 0 (some ⟨b, o + p, none⟩) 31 (fun j => X (p + j)) from hI.cut (by omega))
  have HI2 := hide (show IntsAt w 0 (some ⟨b, o + m, none⟩) 31 (fun j => X (p + 31 + j)) from by have := hI.cut (j := m) (m := 31) (by omega); rw [← hm] at this ⊢; exact this)
  have HF := hide (show (3 * (bsN (fB X p) 336 : Int) + (bsN (fA X p) 3 : Int)) = (fId X p : Int) from by unfold fId; omega)
  have HC := hide (show bsC (fA X p) 3 + bsC (fB X p) 336 = fCo X p from rfl)
  have HL1 := hide h1
  have HL2 := hide h2
  generalize bsN (fA X p) 3 = s1 at *
  generalize bsN (fB X p) 336 = s2 at *
  generalize bsC (fA X p) 3 = k1 at *
  generalize bsC (fB X p) 336 = k2 at *
  generalize fId X p = fi at *
  generalize fCo X p = fc at *
  have q1 : IntKind.i64.wrap ((p : Int) + 31) = (m : Int) := by rw [IntWalk.i64_in _ (by omega)]; omega
  obtain ⟨e, he⟩ : ∃ e : Nat, m + 31 = e := ⟨_, rfl⟩
  have q2 : IntKind.i64.wrap ((m : Int) + 31) = (e : Int) := by rw [IntWalk.i64_in _ (by omega)]; omega
  obtain ⟨t2, ht2⟩ : ∃ z : Int, 3 * (s2 : Int) = z := ⟨_, rfl⟩
  have q3 : IntKind.i64.wrap (3 * (s2 : Int)) = t2 := by rw [IntWalk.i64_in _ (by omega)]; exact ht2
  have q4 : IntKind.i64.wrap (t2 + (s1 : Int)) = (fi : Int) := by rw [IntWalk.i64_in _ (by omega), ← ht2]; exact HF.out
  have q5 : IntKind.i64.wrap (k1 + k2) = fc := by rw [IntWalk.i64_in _ (by omega)]; exact HC.out
  have d1 : m - p = 31 := by omega
  have d2 : e - m = 31 := by omega
  have l1 : p ≤ m := by omega
  have l2 : m ≤ c := by omega
  have l3 : m ≤ e := by omega
  have l4 : e ≤ c := by omega
  have z1 : (p : Int) ≤ (m : Int) := by omega
  have z2 : (m : Int) ≤ (c : Int) := by omega
  have z3 : (m : Int) ≤ (e : Int) := by omega
  have z4 : (e : Int) ≤ (c : Int) := by omega
  have n1 : ¬ c = p := by omega
  have n2 : ¬ c = m := by omega
  clear hs1 hs2 hk1 hk2 hm he ht2 HF HC h1 h2 hI hX hp hn hnc
  go_enter Try.func24, Try.ntmps24
  go_upto_region 1 with fail
  obtain ⟨W, hW⟩ : ∃ y : World, y = (w.alloc (.cells #[.slice A1 3 c1, .slice A2 336 c2] 64)).alloc (.cells #[.int .i64 0, .int .i64 0, .int .i64 0] 32) := ⟨_, rfl⟩
  rw [← hW]
  have bx : Box W w.heap.size 64 #[.slice A1 3 c1, .slice A2 336 c2] := by rw [hW]; exact (Box.made rfl).alloc _
  have by' : Box W (w.heap.size + 1) 32 #[.int .i64 0, .int .i64 0, .int .i64 0] := by rw [hW]; exact Box.made (by simp)
  have hB : Below w.heap.size w W := by rw [hW]; (repeat (first | (with_reducible exact Below.refl _ _) | (with_reducible refine Go.below_drewN ?_ _) | (with_reducible refine Below.drew ?_) | (with_reducible refine Below.alloc ?_ (by first | exact Nat.le_refl _ | (simp; done) | (simp; omega) | omega) _) | (with_reducible refine Below.setCell ?_ (by first | exact Nat.le_refl _ | (simp; done) | (simp; omega) | omega) _)))
  have HM1 := hide (HL1.out.below hB)
  have HM2 := hide (HL2.out.below hB)
  have HJ1 := hide (HI1.out.below hB)
  have HJ2 := hide (HI2.out.below hB)
  have HBB := hide (fun q => ((by'.drewN q).putT (.int .i64 (p : Int)) (.int .i64 (fi : Int)) (.int .i64 fc)).cellsT)
  have HBL := hide (Below.putT hB (c := w.heap.size + 1) (Nat.le_succ _) (.int .i64 (p : Int)) (.int .i64 (fi : Int)) (.int .i64 fc))
  clear hW HL1 HL2 HI1 HI2
  obtain ⟨x0, x1, f0, f1, hlx⟩ := box_two bx
  obtain ⟨y0, y1, y2, g0, g1, g2, hly⟩ := by'.cellsT
  clear bx by' hB
  go_wp2_with fail
  go_quiet ((go_at_call 49; exact Calls.quiet_of_same ((HB1.out _ (by exact HM1.out) (by exact HJ1.out)).mono fun _ _ h => ⟨h.1, h.2.symm⟩)))
  obtain ⟨n1, hn1⟩ : ∃ z : Nat, nq = z := ⟨_, rfl⟩
  try simp only [hn1]
  clear hn1
  go_wp2_with fail
  go_quiet ((go_at_call 49; exact quiet_add_same ((HB2.out _ (by exact HM2.out) (by exact HJ2.out)).mono fun _ _ h => ⟨h.1, h.2.symm⟩)))
  go_wp2_with fail
  clear y0 y1 y2
  obtain ⟨y0, y1, y2, -⟩ := HBB.out (n1 + nq)
  refine bodyPost_ret (v := .agg #[.int .i64 (p : Int), .int .i64 (fi : Int), .int .i64 fc]) ?_ rfl ⟨rfl, ⟨HBL.out.os, HBL.out.tape, HBL.out.output, HBL.out.size, HBL.out.block⟩⟩
  simp [results, Try.results24, go_sem, y0, y1, y2]
end Go.Proofs.Ytcndeegfkgfnkaa
/- IdentityAt of the code. -/
namespace Go.Proofs.Ytcndeegfkgfnkaa
open Go.RowKit Go.Great
/-- The error of a place in received values. -/
def idE (n : Nat) (X : Nat → Int) (a : Int) : Int := firstE [recE n X, unI (withinB a 0 ((n : Int) - 62)) 6]
def idP (n : Nat) (X : Nat → Int) (a : Int) : Int := if idE n X a = 0 then a else 0
def idI (n : Nat) (X : Nat → Int) (a : Int) : Int := if idE n X a = 0 then (fId X a.toNat : Int) else 0
def idC (n : Nat) (X : Nat → Int) (a : Int) : Int := if idE n X a = 0 then fCo X a.toNat else 0
theorem recE_zero {n : Nat} {X : Nat → Int} (h : recE n X = 0) : n ≤ 120 ∧ ∀ j, j < n → -100000 ≤ X j ∧ X j ≤ 100000 := by
  obtain ⟨h1, h2⟩ := firstE_nil h
  obtain ⟨h3, -⟩ := firstE_nil h2
  have h4 := unI_zero (by decide) h1
  simp at h4
  exact ⟨by omega, fun j hj => valE_zero (badE_zero h3 j hj)⟩
theorem idE_zero {n : Nat} {X : Nat → Int} {a : Int} (h : idE n X a = 0) : n ≤ 120 ∧ (∀ j, j < n → -100000 ≤ X j ∧ X j ≤ 100000) ∧ 0 ≤ a ∧ a ≤ (n : Int) - 62 := by
  obtain ⟨h1, h2⟩ := firstE_nil h
  obtain ⟨h3, -⟩ := firstE_nil h2
  obtain ⟨h4, h5⟩ := recE_zero h1
  obtain ⟨h6, h7⟩ := withinB_iff.1 (unI_zero (by decide) h3)
  exact ⟨h4, h5, h6, h7⟩
theorem OwnLists.at_zero {w : World} {base n : Nat} {v : Value} {L : Nat → Nat} {F : Nat → Nat → Int} (h : OwnLists w base v n L F) : ∃ A c, v = .slice A n c ∧ ListsAt w 0 A n L F := by
  obtain ⟨A, c, e, -, -, h1⟩ := h.form
  exact ⟨A, c, e, h1.weak (Nat.zero_le _)⟩
set_option maxHeartbeats 4000000 in
set_option maxRecDepth 100000 in
theorem IdentityAt_any (A : Option Addr) (n c : Nat) (X : Nat → Int) (a : Int) (w : World) (hn : n ≤ 100000) (hnc : n ≤ c) (hc9 : c ≤ 9223372036854775807) (hI : IntsAt w 0 A n X) :
    Calls Try.prog 11 #[.slice A n c, .int .i64 a] w fun e w' => e = .returned (.tuple #[.agg #[.int .i64 (idP n X a), .int .i64 (idI n X a), .int .i64 (idC n X a)], .int .i64 (idE n X a)]) ∧ Below w.heap.size w w' := by
  have HE := hide (show firstE [recE n X, unI (withinB a 0 ((n : Int) - 62)) 6] = idE n X a from rfl)
  have HZ := hide (idE_zero (n := n) (X := X) (a := a))
  have HP := hide (show idP n X a = if idE n X a = 0 then a else 0 from rfl)
  have HQ := hide (show idI n X a = if idE n X a = 0 then (fId X a.toNat : Int) else 0 from rfl)
  have HR := hide (show idC n X a = if idE n X a = 0 then fCo X a.toNat else 0 from rfl)
  have HRE := hide (fun W (h : IntsAt W 0 A n X) => receivedError_any A n c X W hn h)
  have HI := hide hI
  have q1 : IntKind.i64.wrap ((n : Int) - 62) = (n : Int) - 62 := IntWalk.i64_in _ (by omega)
  generalize idP n X a = vp at *
  generalize idI n X a = vi at *
  generalize idC n X a = vc at *
  generalize idE n X a = V at *
  obtain ⟨r, hr⟩ : ∃ z, recE n X = z := ⟨_, rfl⟩
  simp only [hr] at HE HRE
  clear hI hr
  go_enter Try.func11, Try.ntmps11
  go_upto_region 1 with fail
  obtain ⟨W, hW⟩ : ∃ y : World, y = w.alloc (.cells #[.int .i64 0, .int .i64 0, .int .i64 0] 32) := ⟨_, rfl⟩
  rw [← hW]
  have b4 : Box W w.heap.size 32 #[.int .i64 0, .int .i64 0, .int .i64 0] := by rw [hW]; exact Box.made rfl
  have hB : Below w.heap.size w W := by rw [hW]; (repeat (first | (with_reducible exact Below.refl _ _) | (with_reducible refine Go.below_drewN ?_ _) | (with_reducible refine Below.drew ?_) | (with_reducible refine Below.alloc ?_ (by first | exact Nat.le_refl _ | (simp; done) | (simp; omega) | omega) _) | (with_reducible refine Below.setCell ?_ (by first | exact Nat.le_refl _ | (simp; done) | (simp; omega) | omega) _)))
  clear hW
  go_wp2_with fail
  refine (HRE.out _ (HI.out.below hB)).mono ?_
  rintro e w1 ⟨rfl, hb1⟩
  have b41 := b4.below hb1
  have hB1 := hB.trans (hb1.mono hB.size)
  clear hb1 b4 hB HRE
  go_wp2_with (first | (go_at_call 25; refine (isWithin_any _ _ _ _).mono ?_; rintro e w' ⟨rfl, rfl⟩) | (go_at_call 22; refine (unless_any _ _ _).mono ?_; rintro e w' ⟨rfl, rfl⟩))
  refine (firstError_laid [r, unI (withinB a 0 ((n : Int) - 62)) 6] 2 _ _ rfl (by decide)).mono ?_
  rintro e w2 ⟨rfl, hw2⟩
  rw [HE.out]
  have b42 : Box w2 w.heap.size 32 #[.int .i64 0, .int .i64 0, .int .i64 0] := by rw [← hw2]; exact b41.alloc _
  have hB2 : Below w.heap.size w w2 := by rw [← hw2]; exact hB1.alloc hB1.size _
  clear hw2 b41 hB1 HE
  by_cases hv : V = 0
  · obtain ⟨hn1, hX, a0, a1⟩ := HZ.out hv
    obtain ⟨p, rfl⟩ : ∃ p : Nat, a = (p : Int) := ⟨a.toNat, by omega⟩
    have hp : p + 62 ≤ n := by omega
    have HPP := hide (HP.out.trans (if_pos hv))
    have HQQ := hide (HQ.out.trans (if_pos hv))
    have HRR := hide (HR.out.trans (if_pos hv))
    simp only [Int.toNat_natCast] at HQQ HRR
    obtain ⟨b, o, rfl, -⟩ := HI.out 0 (by omega)
    have HFO := hide (fun A1 c1 A2 c2 W (h1 : ListsAt W 0 A1 3 (fun _ => 31) halfA) (h2 : ListsAt W 0 A2 336 (fun _ => 31) (fun g => halfB (3 * g))) (h3 : IntsAt W 0 (some ⟨b, o, none⟩) n X) => found_any A1 A2 c1 c2 b o n c p X W hp (by omega) hnc hc9 h1 h2 h3 (fun j hj => hX (p + j) (by omega)))
    rw [← HQQ.out, ← HRR.out] at HFO
    have tv : (V != 0) = false := by simpa using hv
    subst hv
    clear HZ HP HQ HR hX a0 a1 HQQ HRR
    go_wp2_with fail
    refine (allHalves_any _).mono ?_
    rintro e w3 ⟨v1, v2, rfl, ho1, ho2, hb3⟩
    obtain ⟨A1, c1, rfl, hl1⟩ := ho1.at_zero
    obtain ⟨A2, c2, rfl, hl2⟩ := ho2.at_zero
    have b43 := b42.below hb3
    have hB3 := hB2.trans (hb3.mono hB2.size)
    clear hb3 b42 hB2 ho1 ho2
    go_wp2_with fail
    refine (HFO.out A1 c1 A2 c2 _ hl1 hl2 (HI.out.below hB3)).mono ?_
    rintro e w4 ⟨rfl, hb4⟩
    have b44 := b43.below hb4
    have hB4 := hB3.trans (hb4.mono hB3.size)
    clear hb4 b43 hB3 hl1 hl2 HFO
    obtain ⟨y0, y1, y2, g0, g1, g2, hly⟩ := b44.cellsT
    have HBB := hide (b44.putT (.int .i64 (p : Int)) (.int .i64 vi) (.int .i64 vc)).cellsT
    have HBL := hide (Below.putT hB4 (c := w.heap.size) (Nat.le_refl _) (.int .i64 (p : Int)) (.int .i64 vi) (.int .i64 vc))
    clear b44 hB4
    go_wp2_with fail
    clear y0 y1 y2
    obtain ⟨y0, y1, y2, -⟩ := HBB.out
    refine bodyPost_ret (v := .tuple #[.agg #[.int .i64 (p : Int), .int .i64 vi, .int .i64 vc], .int .i64 0]) ?_ rfl ⟨by rw [HPP.out], HBL.out⟩
    simp [results, Try.results11, go_sem, y0, y1, y2]
  · have tv : (V != 0) = true := by simpa using hv
    have HPP := hide (HP.out.trans (if_neg hv))
    have HQQ := hide (HQ.out.trans (if_neg hv))
    have HRR := hide (HR.out.trans (if_neg hv))
    obtain ⟨y0, y1, y2, g0, g1, g2, hly⟩ := b42.cellsT
    have HBB := hide (b42.putT (.int .i64 0) (.int .i64 0) (.int .i64 0)).cellsT
    have HBL := hide (Below.putT hB2 (c := w.heap.size) (Nat.le_refl _) (.int .i64 0) (.int .i64 0) (.int .i64 0))
    clear hv b42 hB2 HZ HP HQ HR
    go_wp2_with fail
    clear y0 y1 y2
    obtain ⟨y0, y1, y2, -⟩ := HBB.out
    refine bodyPost_ret (v := .tuple #[.agg #[.int .i64 0, .int .i64 0, .int .i64 0], .int .i64 V]) ?_ rfl ⟨by rw [HPP.out, HQQ.out, HRR.out], HBL.out⟩
    simp [results, Try.results11, go_sem, y0, y1, y2]
end Go.Proofs.Ytcndeegfkgfnkaa
/- Search of the code. -/
namespace Go.Proofs.Ytcndeegfkgfnkaa
open Go.RowKit Go.Great
/-- The error of values that are searched, and what is found. -/
def seE (n : Nat) (X : Nat → Int) : Int := firstE [recE n X, unI (decide ((62 : Int) ≤ (n : Int))) 10]
def sePl (n : Nat) (X : Nat → Int) : Nat := bsN (fCo X) (n - 61)
def seP (n : Nat) (X : Nat → Int) : Int := if seE n X = 0 then (sePl n X : Int) else 0
def seI (n : Nat) (X : Nat → Int) : Int := if seE n X = 0 then (fId X (sePl n X) : Int) else 0
def seC (n : Nat) (X : Nat → Int) : Int := if seE n X = 0 then fCo X (sePl n X) else 0
theorem seE_zero {n : Nat} {X : Nat → Int} (h : seE n X = 0) : n ≤ 120 ∧ (∀ j, j < n → -100000 ≤ X j ∧ X j ≤ 100000) ∧ 62 ≤ n := by
  obtain ⟨h1, h2⟩ := firstE_nil h
  obtain ⟨h3, -⟩ := firstE_nil h2
  obtain ⟨h4, h5⟩ := recE_zero h1
  have h6 := unI_zero (by decide) h3
  simp at h6
  exact ⟨h4, h5, by omega⟩
theorem bsN_next (K : Nat → Int) (k : Nat) : bsN K (k + 1) = if K (bsN K k) < K k then k else bsN K k := by
  show (if bsC K k < K k then k else bsN K k) = _
  rw [bsC_at]
set_option maxHeartbeats 8000000 in
set_option maxRecDepth 100000 in
theorem Search_any (A : Option Addr) (n c : Nat) (X : Nat → Int) (w : World) (hn : n ≤ 100000) (hnc : n ≤ c) (hc9 : c ≤ 9223372036854775807) (hI : IntsAt w 0 A n X) :
    Calls Try.prog 9 #[.slice A n c] w fun e w' => e = .returned (.tuple #[.agg #[.int .i64 (seP n X), .int .i64 (seI n X), .int .i64 (seC n X)], .int .i64 (seE n X)]) ∧ Below w.heap.size w w' := by
  have HE := hide (show firstE [recE n X, unI (decide ((62 : Int) ≤ (n : Int))) 10] = seE n X from rfl)
  have HZ := hide (seE_zero (n := n) (X := X))
  have HP := hide (show seP n X = if seE n X = 0 then (bsN (fCo X) (n - 61) : Int) else 0 from rfl)
  have HQ := hide (show seI n X = if seE n X = 0 then (fId X (bsN (fCo X) (n - 61)) : Int) else 0 from rfl)
  have HR := hide (show seC n X = if seE n X = 0 then fCo X (bsN (fCo X) (n - 61)) else 0 from rfl)
  have HRE := hide (fun W (h : IntsAt W 0 A n X) => receivedError_any A n c X W hn h)
  have HI := hide hI
  generalize seP n X = vp at *
  generalize seI n X = vi at *
  generalize seC n X = vc at *
  generalize seE n X = V at *
  obtain ⟨r, hr⟩ : ∃ z, recE n X = z := ⟨_, rfl⟩
  simp only [hr] at HE HRE
  clear hI hr
  go_enter Try.func9, Try.ntmps9
  go_upto_region 1 with fail
  obtain ⟨W, hW⟩ : ∃ y : World, y = w.alloc (.cells #[.int .i64 0, .int .i64 0, .int .i64 0] 32) := ⟨_, rfl⟩
  rw [← hW]
  have b2 : Box W w.heap.size 32 #[.int .i64 0, .int .i64 0, .int .i64 0] := by rw [hW]; exact Box.made rfl
  have hB : Below w.heap.size w W := by rw [hW]; (repeat (first | (with_reducible exact Below.refl _ _) | (with_reducible refine Go.below_drewN ?_ _) | (with_reducible refine Below.drew ?_) | (with_reducible refine Below.alloc ?_ (by first | exact Nat.le_refl _ | (simp; done) | (simp; omega) | omega) _) | (with_reducible refine Below.setCell ?_ (by first | exact Nat.le_refl _ | (simp; done) | (simp; omega) | omega) _)))
  clear hW
  go_wp2_with fail
  refine (HRE.out _ (HI.out.below hB)).mono ?_
  rintro e w1 ⟨rfl, hb1⟩
  have b21 := b2.below hb1
  have hB1 := hB.trans (hb1.mono hB.size)
  clear hb1 b2 hB HRE
  go_wp2_with (go_at_call 22; refine (unless_any _ _ _).mono ?_; rintro e w' ⟨rfl, rfl⟩)
  refine (firstError_laid [r, unI (decide ((62 : Int) ≤ (n : Int))) 10] 2 _ _ rfl (by decide)).mono ?_
  rintro e w2 ⟨rfl, hw2⟩
  rw [HE.out]
  have b22 : Box w2 w.heap.size 32 #[.int .i64 0, .int .i64 0, .int .i64 0] := by rw [← hw2]; exact b21.alloc _
  have hB2 : Below w.heap.size w w2 := by rw [← hw2]; exact hB1.alloc hB1.size _
  clear hw2 b21 hB1 HE
  by_cases hv : V = 0
  · obtain ⟨hn1, hX, h62⟩ := HZ.out hv
    have HPP := hide (HP.out.trans (if_pos hv))
    have HQQ := hide (HQ.out.trans (if_pos hv))
    have HRR := hide (HR.out.trans (if_pos hv))
    obtain ⟨b, o, rfl, -⟩ := HI.out 0 (by omega)
    have HFO := hide (fun p A1 c1 A2 c2 W (hp : p + 62 ≤ n) (h1 : ListsAt W 0 A1 3 (fun _ => 31) halfA) (h2 : ListsAt W 0 A2 336 (fun _ => 31) (fun g => halfB (3 * g))) (h3 : IntsAt W 0 (some ⟨b, o, none⟩) n X) => found_any A1 A2 c1 c2 b o n c p X W hp (by omega) hnc hc9 h1 h2 h3 (fun j hj => hX (p + j) (by omega)))
    obtain ⟨K, hK⟩ : ∃ z : Nat → Int, fCo X = z := ⟨_, rfl⟩
    obtain ⟨J, hJ⟩ : ∃ z : Nat → Nat, fId X = z := ⟨_, rfl⟩
    simp only [hK, hJ] at HFO HPP HQQ HRR
    have HF0 : Hid (∀ A1 c1 A2 c2 W, ListsAt W 0 A1 3 (fun _ => 31) halfA → ListsAt W 0 A2 336 (fun _ => 31) (fun g => halfB (3 * g)) → IntsAt W 0 (some ⟨b, o, none⟩) n X → Calls Try.prog 24 #[.agg #[.slice A1 3 c1, .slice A2 336 c2], .slice (some ⟨b, o, none⟩) n c, .int .i64 0] W fun e w' => e = .returned (.agg #[.int .i64 0, .int .i64 (J 0 : Int), .int .i64 (K 0)]) ∧ Below W.heap.size W w') :=
      hide (fun A1 c1 A2 c2 W h1 h2 h3 => HFO.out 0 A1 c1 A2 c2 W (by omega) h1 h2 h3)
    have tv : (V != 0) = false := by simpa using hv
    have HB1 := hide (show bsN K 1 = 0 from by show (if _ then _ else _) = _; split <;> rfl)
    have q0 : IntKind.i64.wrap ((n : Int) - 62) = (n : Int) - 62 := IntWalk.i64_in _ (by omega)
    subst hv
    clear HZ HP HQ HR hX hK hJ
    go_wp2_with fail
    refine (allHalves_any _).mono ?_
    rintro e w3 ⟨v1, v2, rfl, ho1, ho2, hb3⟩
    obtain ⟨A1, c1, rfl, hl1⟩ := ho1.at_zero
    obtain ⟨A2, c2, rfl, hl2⟩ := ho2.at_zero
    have b23 := b22.below hb3
    have hB3 := hB2.trans (hb3.mono hB2.size)
    have HI3 := hide (HI.out.below hB3)
    clear hb3 b22 hB2 ho1 ho2
    go_upto_region 5 with fail
    obtain ⟨W5, hW5⟩ : ∃ q : World, q = w3.alloc (.cells #[.slice A1 3 c1, .slice A2 336 c2] 64) := ⟨_, rfl⟩
    try rw [← hW5]
    have b5 : Box W5 w3.heap.size 64 #[.slice A1 3 c1, .slice A2 336 c2] := by rw [hW5]; exact Box.made rfl
    have hb5 : Below w3.heap.size w3 W5 := by rw [hW5]; (repeat (first | (with_reducible exact Below.refl _ _) | (with_reducible refine Go.below_drewN ?_ _) | (with_reducible refine Below.drew ?_) | (with_reducible refine Below.alloc ?_ (by first | exact Nat.le_refl _ | (simp; done) | (simp; omega) | omega) _) | (with_reducible refine Below.setCell ?_ (by first | exact Nat.le_refl _ | (simp; done) | (simp; omega) | omega) _)))
    have b25 := b23.below hb5
    have hB5 := hB3.trans (hb5.mono hB3.size)
    have HI5 := hide (HI3.out.below hb5)
    have HL1 := hide (hl1.below hb5)
    have HL2 := hide (hl2.below hb5)
    obtain ⟨g5, hg5⟩ : ∃ g, w3.heap.size = g := ⟨_, rfl⟩
    try rw [hg5]
    rw [hg5] at b5
    clear hW5 hb5 b23 hB3 hl1 hl2 HI3 hg5
    obtain ⟨x0, x1, f0, f1, hlx⟩ := box_two b5
    go_wp2_with fail
    refine (HF0.out A1 c1 A2 c2 _ HL1.out HL2.out HI5.out).mono ?_
    rintro e w6 ⟨rfl, hb6⟩
    have HBX := hide (b5.below hb6)
    have HB2 := hide (b25.below hb6)
    have HBB := hide (hB5.trans (hb6.mono hB5.size))
    have HI6 := hide (HI5.out.below hb6)
    have HM1 := hide (HL1.out.below hb6)
    have HM2 := hide (HL2.out.below hb6)
    clear x0 x1 f0 f1 hlx b5 b25 hB5 hb6 HF0 HI5 HL1 HL2
    go_upto_region 6 with fail
    obtain ⟨W6, hW6⟩ : ∃ q : World, q = w6.alloc (.cells #[.int .i64 0, .int .i64 (J 0 : Int), .int .i64 (K 0)] 32) := ⟨_, rfl⟩
    try rw [← hW6]
    have b6 : Box W6 w6.heap.size 32 #[.int .i64 0, .int .i64 (J 0 : Int), .int .i64 (K 0)] := by rw [hW6]; exact Box.made rfl
    have hb6 : Below w6.heap.size w6 W6 := by rw [hW6]; (repeat (first | (with_reducible exact Below.refl _ _) | (with_reducible refine Go.below_drewN ?_ _) | (with_reducible refine Below.drew ?_) | (with_reducible refine Below.alloc ?_ (by first | exact Nat.le_refl _ | (simp; done) | (simp; omega) | omega) _) | (with_reducible refine Below.setCell ?_ (by first | exact Nat.le_refl _ | (simp; done) | (simp; omega) | omega) _)))
    obtain ⟨g6, hg6⟩ : ∃ g, w6.heap.size = g := ⟨_, rfl⟩
    try rw [hg6]
    rw [hg6] at b6 hb6
    have HG6 := hide hg6
    clear hW6 hg6
    go_wp2_with fail
    go_loopw [7, 8] (fun i _ wr => ∃ k : Nat, 1 ≤ k ∧ k + 61 ≤ n ∧ i = .int .i64 (k : Int) ∧ Box wr g6 32 #[.int .i64 (bsN K k : Int), .int .i64 (J (bsN K k) : Int), .int .i64 (K (bsN K k))] ∧ Below g6 w6 wr) (fun i _ _ => n - (Go.RowKit.intOf i).toNat)
    case atStart => exact ⟨1, Nat.le_refl _, by omega, rfl, by rw [HB1.out]; exact b6, hb6⟩
    case round =>
      clear b6 hb6 HB1
      obtain ⟨k, hk1, hk2, rfl, hb, hB⟩ := hrel
      obtain ⟨wA, rfl⟩ : ∃ x : World, x = wr := ⟨_, rfl⟩
      have hBB : Below w6.heap.size w6 wA := by rw [HG6.out]; exact hB
      have HN := hide (bsN_next K k)
      obtain ⟨q, hq⟩ : ∃ z, bsN K k = z := ⟨_, rfl⟩
      have HQN := hide hq
      rw [hq] at hb HN
      clear hq
      by_cases hlt : k + 62 ≤ n
      · have hltz : (k : Int) ≤ (n : Int) - 62 := by omega
        obtain ⟨x0, x1, f0, f1, hlx⟩ := box_two (HBX.out.below hBB)
        go_wp2_with fail
        refine (HFO.out k A1 c1 A2 c2 _ hlt (HM1.out.below hBB) (HM2.out.below hBB) (HI6.out.below hBB)).mono ?_
        rintro e w7 ⟨rfl, hb7⟩
        have b7 := hb.below hb7
        have hB7 := hB.trans (hb7.mono (by have := hb.lt; omega))
        clear x0 x1 f0 f1 hlx hb hB hBB hb7
        go_upto_region 10 with fail
        obtain ⟨W8, hW8⟩ : ∃ z : World, z = w7.alloc (.cells #[.int .i64 (k : Int), .int .i64 (J k : Int), .int .i64 (K k)] 32) := ⟨_, rfl⟩
        try rw [← hW8]
        have b8 : Box W8 w7.heap.size 32 #[.int .i64 (k : Int), .int .i64 (J k : Int), .int .i64 (K k)] := by rw [hW8]; exact Box.made rfl
        have b6 : Box W8 g6 32 #[.int .i64 (q : Int), .int .i64 (J q : Int), .int .i64 (K q)] := by rw [hW8]; exact b7.alloc _
        have hB8 : Below g6 w6 W8 := by rw [hW8]; exact hB7.alloc (by have := b7.lt; omega) _
        clear hW8 hB7 b7
        obtain ⟨x0, x1, x2, -, -, -, hlx⟩ := b8.cellsT
        obtain ⟨y0, y1, y2, g0, g1, g2, hly⟩ := b6.cellsT
        have HB6 := hide b6
        have HX6 := hide (b6.putT (.int .i64 (k : Int)) (.int .i64 (J k : Int)) (.int .i64 (K k)))
        have HB8 := hide hB8
        have HY8 := hide (Below.putT hB8 (c := g6) (Nat.le_refl _) (.int .i64 (k : Int)) (.int .i64 (J k : Int)) (.int .i64 (K k)))
        clear b8 b6 hB8
        by_cases hgt : K q < K k
        · have t1 : decide (K q < K k) = true := by simpa using hgt
          rw [if_pos hgt] at HN
          clear hgt
          go_wp2_with fail
          go_roundw
          case rel => exact ⟨k + 1, by omega, by omega, by go_num, by rw [HN.out]; exact HX6.out, HY8.out⟩
          case measure => simp [Go.RowKit.intOf]; omega
        · have t1 : decide (K q < K k) = false := by simpa using hgt
          rw [if_neg hgt] at HN
          clear hgt
          go_wp2_with fail
          go_roundw
          case rel => exact ⟨k + 1, by omega, by omega, by go_num, by rw [HN.out]; exact HB6.out, HB8.out⟩
          case measure => simp [Go.RowKit.intOf]; omega
      · have hkn : n - 61 = k := by omega
        have hltz : ¬ (k : Int) ≤ (n : Int) - 62 := by omega
        rw [hkn, HQN.out] at HPP HQQ HRR
        obtain ⟨x0, x1, x2, -, -, -, hlx⟩ := hb.cellsT
        have b2 := HB2.out.below hBB
        have hBF := HBB.out.trans (hBB.mono HBB.out.size)
        obtain ⟨y0, y1, y2, g0, g1, g2, hly⟩ := b2.cellsT
        have HZ1 := hide (b2.putT (.int .i64 (q : Int)) (.int .i64 (J q : Int)) (.int .i64 (K q))).cellsT
        have HZ2 := hide (Below.putT hBF (c := w.heap.size) (Nat.le_refl _) (.int .i64 (q : Int)) (.int .i64 (J q : Int)) (.int .i64 (K q)))
        clear hb b2 hB hBB hBF hkn hlt
        go_wp2_with fail
        clear x0 x1 x2 y0 y1 y2
        obtain ⟨y0, y1, y2, -⟩ := HZ1.out
        refine bodyPost_ret (v := .tuple #[.agg #[.int .i64 (q : Int), .int .i64 (J q : Int), .int .i64 (K q)], .int .i64 0]) ?_ rfl ⟨by rw [HPP.out, HQQ.out, HRR.out], HZ2.out⟩
        simp [results, Try.results9, go_sem, y0, y1, y2]
  · have tv : (V != 0) = true := by simpa using hv
    have HPP := hide (HP.out.trans (if_neg hv))
    have HQQ := hide (HQ.out.trans (if_neg hv))
    have HRR := hide (HR.out.trans (if_neg hv))
    obtain ⟨y0, y1, y2, g0, g1, g2, hly⟩ := b22.cellsT
    have HBB := hide (b22.putT (.int .i64 0) (.int .i64 0) (.int .i64 0)).cellsT
    have HBL := hide (Below.putT hB2 (c := w.heap.size) (Nat.le_refl _) (.int .i64 0) (.int .i64 0) (.int .i64 0))
    clear hv b22 hB2 HZ HP HQ HR
    go_wp2_with fail
    clear y0 y1 y2
    obtain ⟨y0, y1, y2, -⟩ := HBB.out
    refine bodyPost_ret (v := .tuple #[.agg #[.int .i64 0, .int .i64 0, .int .i64 0], .int .i64 V]) ?_ rfl ⟨by rw [HPP.out, HQQ.out, HRR.out], HBL.out⟩
    simp [results, Try.results9, go_sem, y0, y1, y2]
end Go.Proofs.Ytcndeegfkgfnkaa
