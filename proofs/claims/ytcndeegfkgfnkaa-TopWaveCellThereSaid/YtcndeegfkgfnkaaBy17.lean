/- Lemmas: K1. -/
import Derived.Test.YtcndeegfkgfnkaaBy16
set_option linter.unusedVariables false
set_option linter.unusedSimpArgs false
/- Cells that are found (without a walk): what Search and IdentityAt of the code hand back for a sequence among zeros, and for one with errors. -/
namespace Go.Proofs.Ytcndeegfkgfnkaa
open Go.RowKit
theorem recE_ok {n : Nat} {X : Nat → Int} (hn : n ≤ 120) (h : ∀ j, j < n → -100000 ≤ X j ∧ X j ≤ 100000) : recE n X = 0 := by
  have h1 : ∀ m, m ≤ n → badE (fun j => valE (X j)) m = 0 := fun m => by
    induction m with
    | zero => intro _; rfl
    | succ m ih =>
      intro hm
      unfold badE
      rw [if_pos (ih (by omega))]
      show unI (withinB (X m) (-100000) 100000) 2 = 0
      rw [withinB_yes (h m (by omega))]
      rfl
  unfold recE
  rw [show decide ((n : Int) ≤ 120) = true by simp; omega, show valsE n X = 0 from h1 n (Nat.le_refl _)]
  rfl
/-- The first k values of a sequence, so strong, at a place. -/
def fndX (i a : Nat) (s : Int) (k j : Nat) : Int := if a ≤ j ∧ j < a + k then s * seqF i (j - a) else 0
/-- The whole sequence with the first k errors. -/
def fndY (i a : Nat) (s : Int) (F : Nat → Int) (k j : Nat) : Int := fndX i a s 62 j + (if a ≤ j ∧ j < a + k then F (j - a) else 0)
theorem fndX_at {i a : Nat} {s : Int} {j : Nat} (hj : j < 62) : fndX i a s 62 (a + j) = s * seqF i j := by
  unfold fndX
  rw [if_pos (by omega), Nat.add_sub_cancel_left]
theorem fndX_le {i a : Nat} {s : Int} (hs : 1 ≤ s) (k j : Nat) (hk : k ≤ 62) : -s ≤ fndX i a s k j ∧ fndX i a s k j ≤ s := by
  unfold fndX
  by_cases e : a ≤ j ∧ j < a + k
  · rw [if_pos e]
    rcases seqF_sign (i := i) (j := j - a) (by omega) with e | e <;> rw [e] <;> omega
  · rw [if_neg e]; omega
theorem fndX_set (i a : Nat) (s : Int) (k : Nat) : setF (fndX i a s k) (a + k) (s * seqF i k) = fndX i a s (k + 1) := by
  funext j
  unfold setF fndX
  by_cases e : j = a + k
  · subst e
    rw [if_pos rfl, if_pos (by omega), Nat.add_sub_cancel_left]
  · rw [if_neg e]
    by_cases e2 : a ≤ j ∧ j < a + k
    · rw [if_pos e2, if_pos (by omega)]
    · rw [if_neg e2, if_neg (by omega)]
theorem fndX_zero (i a : Nat) (s : Int) : fndX i a s 0 = fun _ => 0 := by
  funext j
  exact if_neg (by omega)
theorem fndY_zero (i a : Nat) (s : Int) (F : Nat → Int) : fndY i a s F 0 = fndX i a s 62 := by
  funext j
  show fndX i a s 62 j + (if a ≤ j ∧ j < a + 0 then F (j - a) else 0) = _
  rw [if_neg (by omega), Int.add_zero]
theorem fndY_new {i a : Nat} {s : Int} {F : Nat → Int} {k : Nat} (hk : k < 62) : fndY i a s F k (a + k) = s * seqF i k := by
  unfold fndY
  rw [fndX_at hk, if_neg (by omega), Int.add_zero]
theorem fndY_set (i a : Nat) (s : Int) (F : Nat → Int) (k : Nat) (hk : k < 62) : setF (fndY i a s F k) (a + k) (s * seqF i k + F k) = fndY i a s F (k + 1) := by
  funext j
  unfold setF
  by_cases e : j = a + k
  · subst e
    unfold fndY
    rw [if_pos rfl, if_pos (by omega), Nat.add_sub_cancel_left, fndX_at hk]
  · rw [if_neg e]
    unfold fndY
    by_cases e2 : a ≤ j ∧ j < a + k
    · rw [if_pos e2, if_pos (by omega)]
    · rw [if_neg e2, if_neg (by omega)]
theorem found_all {i a b N : Nat} {s : Int} (hi : i < 1008) (hs : 1 ≤ s) (hs2 : s ≤ 50000) (ha : a ≤ 20) (hb : b ≤ 20) (hN : N = a + 62 + b) :
    seE N (fndX i a s 62) = 0 ∧ seP N (fndX i a s 62) = (a : Int) ∧ seI N (fndX i a s 62) = (i : Int) ∧ seC N (fndX i a s 62) = 62 * s := by
  have h0 : seE N (fndX i a s 62) = 0 := by
    unfold seE
    rw [recE_ok (by omega) fun j _ => by have := fndX_le (i := i) (a := a) hs 62 j (Nat.le_refl _); omega, show decide ((62 : Int) ≤ (N : Int)) = true by simp; omega]
    rfl
  obtain ⟨h1, h2, h3⟩ := cell_found (X := fndX i a s 62) (p := a) (i := i) (n := N - 61) hi hs (by omega) (fun j hj => fndX_at hj) (fun j hj => if_neg (by omega)) (fun j hj => if_neg (by omega))
  have h4 : sePl N (fndX i a s 62) = a := h1
  refine ⟨h0, ?_, ?_, ?_⟩
  · unfold seP; rw [if_pos h0, h4]
  · unfold seI; rw [if_pos h0, h4, h2]
  · unfold seC; rw [if_pos h0, h4, h3]
theorem at_all {i a b N : Nat} {s : Int} {F : Nat → Int} {k : Nat} (hi : i < 1008) (hs : 1 ≤ s) (hs2 : s ≤ 50000) (ha : a ≤ 20) (hb : b ≤ 20) (hN : N = a + 62 + b) (hk : k ≤ 62)
    (hF : ∀ j, j < k → (-50000 ≤ F j ∧ F j ≤ 50000) ∧ 62 * F j < 11 * s ∧ -(62 * F j) < 11 * s) :
    idE N (fndY i a s F k) (a : Int) = 0 ∧ idP N (fndY i a s F k) (a : Int) = (a : Int) ∧ idI N (fndY i a s F k) (a : Int) = (i : Int) := by
  have hY : ∀ j, j < 62 → fndY i a s F k (a + j) = s * seqF i j + (if j < k then F j else 0) := fun j hj => by
    unfold fndY
    rw [fndX_at hj]
    by_cases e : j < k
    · rw [if_pos (by omega), if_pos e, Nat.add_sub_cancel_left]
    · rw [if_neg (by omega), if_neg e]
  have h0 : idE N (fndY i a s F k) (a : Int) = 0 := by
    unfold idE
    rw [recE_ok (by omega) fun j _ => by
      have h1 := fndX_le (i := i) (a := a) hs 62 j (Nat.le_refl _)
      unfold fndY
      by_cases e : a ≤ j ∧ j < a + k
      · have := (hF (j - a) (by omega)).1
        rw [if_pos e]; omega
      · rw [if_neg e]; omega, withinB_yes (show (0 : Int) ≤ (a : Int) ∧ (a : Int) ≤ (N : Int) - 62 by omega)]
    rfl
  have h2 := fId_at (X := fndY i a s F k) (E := fun j => if j < k then F j else 0) (p := a) (i := i) (s := s) (M := (11 * s - 1) / 62) hi hs (by omega) (fun j hj => by
    show -((11 * s - 1) / 62) ≤ (if j < k then F j else 0) ∧ (if j < k then F j else 0) ≤ (11 * s - 1) / 62
    by_cases e : j < k
    · obtain ⟨-, h3, h4⟩ := hF j e
      rw [if_pos e]; omega
    · rw [if_neg e]; omega) hY
  refine ⟨h0, ?_, ?_⟩
  · unfold idP; rw [if_pos h0]
  · unfold idI; rw [if_pos h0]; show ((fId (fndY i a s F k) a : Nat) : Int) = _; rw [h2]
theorem Box.c5 {w : World} {b : Nat} {t : TypeId} {p0 p1 p2 p3 p4 : Value} (h : Box w b t #[p0, p1, p2, p3, p4]) :
    w.cell? ⟨b, 0, none⟩ = some p0 ∧ w.cell? ⟨b, 1, none⟩ = some p1 ∧ w.cell? ⟨b, 2, none⟩ = some p2 ∧ w.cell? ⟨b, 3, none⟩ = some p3 ∧ w.cell? ⟨b, 4, none⟩ = some p4 ∧ b < w.heap.size :=
  ⟨h.at_ 0, h.at_ 1, h.at_ 2, h.at_ 3, h.at_ 4, h.lt⟩
theorem intsAt_cell {w : World} {lo b o n k : Nat} {F : Nat → Int} (h : IntsAt w lo (some ⟨b, o, none⟩) n F) (hk : k < n) : w.cell? ⟨b, o + k, none⟩ = some (.int .i64 (F k)) := by
  obtain ⟨b', o', e, -, -, hc⟩ := h k hk
  injection e with e
  injection e with e1 e2
  subst e1; subst e2
  exact hc
end Go.Proofs.Ytcndeegfkgfnkaa
