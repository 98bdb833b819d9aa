/- So far apart: of blocks. -/
import Derived.Test.YtdimjagmecnldaaKm
import Derived.Test.YtdimjagmecnldaaEi
import Derived.Test.YtdimjagmecnldaaGc
namespace Go.Proofs.Ytdimjagmecnldaa
theorem posF_xor (F B Z : Nat → Int) (x : Nat) : ∀ n, posF F (fun j => xor1 (B j) (Z j)) x n = xor1 (posF F B x n) (posF F Z x n)
  | 0 => rfl
  | n + 1 => by
    unfold posF
    split
    · rfl
    · exact posF_xor F B Z x n
theorem posF_one {F G : Nat → Int} {x : Nat} : ∀ {n}, posF F G x n = 1 → ∃ k, k < n ∧ F k = x ∧ G k = 1
  | 0, h => absurd (show (0 : Int) = 1 from h) (by decide)
  | n + 1, h => by
    unfold posF at h
    by_cases e : F n = x
    · rw [if_pos e] at h; exact ⟨n, by omega, e, h⟩
    · rw [if_neg e] at h
      obtain ⟨k, hk, h1⟩ := posF_one h
      exact ⟨k, by omega, h1⟩
theorem PolarOk.less' {p n : Nat} {F : Nat → Int} (h : PolarOk p n F) : ∀ {j}, j < n → ∀ {i}, i < j → F i < F j
  | j + 1, hj, i, hi => by
    have h1 := h.order j hj
    by_cases e : i = j
    · subst e; exact h1
    · exact Int.lt_trans (h.less' (by omega) (show i < j by omega)) h1
theorem posF_hit {F G : Nat → Int} {x k : Nat} (hx : F k = x) : ∀ {n : Nat}, k < n → (∀ j, k < j → j < n → F j ≠ x) → posF F G x n = G k
  | n + 1, hk, h => by
    unfold posF
    by_cases e : k = n
    · subst e; rw [if_pos hx]
    · rw [if_neg (h n (by omega) (by omega))]
      exact posF_hit hx (by omega) (fun j h1 h2 => h j h1 (by omega))
theorem posF_on {p n : Nat} {F G : Nat → Int} (h : PolarOk p n F) {k : Nat} (hk : k < n) : posF F G (F k).toNat n = G k := by
  have hr := (h.range k hk).1
  exact posF_hit (show F k = ((F k).toNat : Int) by omega) hk fun j h1 h2 => by have := h.less' h2 h1; omega
theorem pow_lt {p n : Nat} {F : Nat → Int} (h : PolarOk p n F) {k : Nat} (hk : k < n) : (F k).toNat < 2 ^ p := by
  have hr := h.range k hk
  have e : ((2 ^ p : Nat) : Int) = (2 : Int) ^ p := by simp
  omega
/-- The words of two different blocks differ at 2 to the power D places, at least. -/
theorem blocks_apart {p n b : Nat} {F B Z : Nat → Int} (h : PolarOk p n F) (hB : ∀ k, k < n → IsBit (B k)) (hZ : ∀ k, k < n → IsBit (Z k)) (hmin : ∀ j, j < n → onesN p (F b).toNat ≤ onesN p (F j).toNat)
    (hne : ¬ ∀ k, k < n → B k = Z k) : (2 : Int) ^ onesN p (F b).toNat ≤ wt (2 ^ p) (fun j => xor1 (wordF (2 ^ p) (fun x => posF F B x n) j) (wordF (2 ^ p) (fun x => posF F Z x n) j)) := by
  have e : wt (2 ^ p) (fun j => xor1 (wordF (2 ^ p) (fun x => posF F B x n) j) (wordF (2 ^ p) (fun x => posF F Z x n) j)) = wt (2 ^ p) (wordF (2 ^ p) (fun x => posF F (fun j => xor1 (B j) (Z j)) x n)) := wt_congr fun j _ => by
    rw [← wordF_xor]
    unfold wordF
    exact wsum_congr fun x _ => (posF_xor F B Z x n).symm
  rw [e]
  obtain ⟨k, hk⟩ := Classical.not_forall.1 hne
  obtain ⟨hk, hd⟩ := Classical.not_imp.1 hk
  have h1 : xor1 (B k) (Z k) = 1 := by
    rcases hB k hk with hb | hb <;> rcases hZ k hk with hz | hz <;> rw [hb, hz] at hd ⊢ <;> first | exact absurd rfl hd | rfl
  refine far_apart p _ _ (fun i => posF_bit (fun k _ => xor1_bit _ _) i) ⟨(F k).toNat, pow_lt h hk, by rw [posF_on h hk]; exact h1⟩ fun i hi hu => ?_
  obtain ⟨j, hj, e1, -⟩ := posF_one hu
  have := hmin j hj
  rw [e1, Int.toNat_natCast] at this
  exact this
theorem blocks_same {p n : Nat} {F B Z : Nat → Int} (he : ∀ k, k < n → B k = Z k) : wt (2 ^ p) (fun j => xor1 (wordF (2 ^ p) (fun x => posF F B x n) j) (wordF (2 ^ p) (fun x => posF F Z x n) j)) = 0 := by
  have hp : ∀ x, ∀ m, m ≤ n → posF F B x m = posF F Z x m := fun x m => by
    induction m with
    | zero => intro _; rfl
    | succ m ih =>
      intro hm
      unfold posF
      rw [he m (by omega), ih (by omega)]
  rw [show wt (2 ^ p) (fun j => xor1 (wordF (2 ^ p) (fun x => posF F B x n) j) (wordF (2 ^ p) (fun x => posF F Z x n) j)) = wt (2 ^ p) (fun _ => 0) from wt_congr fun j _ => by
    have e : wordF (2 ^ p) (fun x => posF F B x n) j = wordF (2 ^ p) (fun x => posF F Z x n) j := by
      unfold wordF
      exact wsum_congr fun x _ => hp x n (Nat.le_refl _)
    rw [e]
    unfold xor1; omega, wt_zero]
theorem words_sum {p n : Nat} (F B Z : Nat → Int) (j : Nat) : wordF (2 ^ p) (fun x => posF F (fun j => xor1 (B j) (Z j)) x n) j = xor1 (wordF (2 ^ p) (fun x => posF F B x n) j) (wordF (2 ^ p) (fun x => posF F Z x n) j) := by
  rw [← wordF_xor]
  unfold wordF
  exact wsum_congr fun x _ => posF_xor F B Z x n
/-- The bits that are told have just so many ones. -/
theorem told_ones {p n b : Nat} {F : Nat → Int} (h : PolarOk p n F) (hb : b < n) : wt (2 ^ p) (wordF (2 ^ p) (fun x => posF F (fun j => if j = b then 1 else 0) x n)) = 2 ^ onesN p (F b).toNat := by
  have hr := (h.range b hb).1
  have e : ∀ j, wordF (2 ^ p) (fun x => posF F (fun j => if j = b then 1 else 0) x n) j = wordF (2 ^ p) (fun x => if x = (F b).toNat then 1 else 0) j := fun j => by
    unfold wordF
    refine wsum_congr fun x _ => ?_
    by_cases hx : x = (F b).toNat
    · rw [if_pos hx, hx, posF_on h hb, if_pos rfl]
    · rw [if_neg hx]
      refine (posF_bit (B := fun j => if j = b then 1 else 0) (n := n) (fun k _ => by split; exact .inr rfl; exact .inl rfl) x).resolve_right fun h1 => ?_
      obtain ⟨k, hk, e1, e2⟩ := posF_one h1
      by_cases hkb : k = b
      · subst hkb; omega
      · rw [if_neg hkb] at e2; exact absurd e2 (by decide)
  rw [wt_congr fun j _ => e j]
  exact single_wt p _ (pow_lt h hb)
end Go.Proofs.Ytdimjagmecnldaa
