/- Lemmas: Hm, He, Ia, Fc, Hn, Ib, Ic, Id. -/
import Derived.Laws.OwnMore
import Derived.Lib.AppendZerosOnto
import Derived.Test.YtdkoohfcpikgiaaBk01
import Derived.Test.YtdkoohfcpikgiaaBk02
import Derived.Test.YtdkoohfcpikgiaaBk04
set_option linter.unusedVariables false
set_option linter.unusedSimpArgs false
/- A burst is caught: mathematics of remainders. -/
namespace Go.Proofs.Ytdkoohfcpikgiaa
/-- The bit that a step of the division carries out. -/
def carryB (d s b : Nat) : Bool := decide ((s >>> (d - 1)) ^^^ b = 1)
theorem carry_bit {d s b : Nat} (h0 : 1 ≤ d) (hs : s < 2 ^ d) (hb : b ≤ 1) : carryB d s b = (s.testBit (d - 1) ^^ decide (b = 1)) := by
  have h1 : s >>> (d - 1) ≤ 1 := by
    rw [Nat.shiftRight_eq_div_pow]
    have : 2 ^ d = 2 ^ (d - 1) * 2 := by rw [← Nat.pow_succ]; congr 1; omega
    have := Nat.div_lt_of_lt_mul (show s < 2 ^ (d - 1) * 2 by omega)
    omega
  have h2 : s.testBit (d - 1) = decide (s >>> (d - 1) = 1) := by
    rw [Nat.testBit, Nat.one_and_eq_mod_two]
    generalize s >>> (d - 1) = x at *
    have : x = 0 ∨ x = 1 := by omega
    rcases this with rfl | rfl <;> rfl
  rw [h2]
  unfold carryB
  generalize s >>> (d - 1) = x at *
  have hx : x = 0 ∨ x = 1 := by omega
  have hy : b = 0 ∨ b = 1 := by omega
  rcases hx with rfl | rfl <;> rcases hy with rfl | rfl <;> rfl
theorem step_bit {d t s b : Nat} (ht : t < 2 ^ d) {i : Nat} (hi : i < d) : (remStep d t s b).testBit i = ((decide (0 < i) && s.testBit (i - 1)) ^^ (carryB d s b && t.testBit i)) := by
  have e : (2 * s % 2 ^ d).testBit i = (decide (0 < i) && s.testBit (i - 1)) := by
    rw [Nat.testBit_mod_two_pow, decide_eq_true hi, Bool.true_and]
    cases i with
    | zero => simp [Nat.testBit_zero]
    | succ j => rw [Nat.testBit_succ, Nat.mul_div_cancel_left _ (by decide)]; simp
  unfold remStep carryB
  by_cases h : (s >>> (d - 1)) ^^^ b = 1
  · rw [if_pos h, decide_eq_true h, Nat.testBit_xor, e, Bool.true_and]
  · rw [if_neg h, decide_eq_false h, e, Bool.false_and, Bool.xor_false]
theorem bxor_cancel : ∀ {a b c : Bool}, (a ^^ c) = (b ^^ c) → a = b := by decide
theorem bxor_cancel' : ∀ {a b c : Bool}, (c ^^ a) = (c ^^ b) → a = b := by decide
/-- Two registers differ at a bit of at most this number. -/
def Far (k s s' : Nat) : Prop := ∃ i, i ≤ k ∧ s.testBit i ≠ s'.testBit i
theorem step_far {d t s s' b b' k : Nat} (h0 : 1 ≤ d) (ht : t < 2 ^ d) (todd : t % 2 = 1) (h : Far k s s') (hk : k + 1 < d) : Far (k + 1) (remStep d t s b) (remStep d t s' b') := by
  obtain ⟨i, hi, hne⟩ := h
  have t0 : t.testBit 0 = true := by rw [Nat.testBit_zero]; simp [todd]
  by_cases hc : carryB d s b = carryB d s' b'
  · refine ⟨i + 1, by omega, ?_⟩
    rw [step_bit ht (by omega), step_bit ht (by omega), hc]
    intro h
    have h := bxor_cancel h
    rw [decide_eq_true (Nat.succ_pos i), Bool.true_and, Bool.true_and] at h
    exact hne h
  · refine ⟨0, by omega, ?_⟩
    rw [step_bit ht (by omega), step_bit ht (by omega), t0]
    intro h
    have h := bxor_cancel' h
    rw [Bool.and_true, Bool.and_true] at h
    exact hc h
/-- A further bit that differs. -/
theorem step_new {d t s b b' : Nat} (h0 : 1 ≤ d) (ht : t < 2 ^ d) (todd : t % 2 = 1) (hs : s < 2 ^ d) (hb : b ≤ 1) (hb' : b' ≤ 1) (hne : b ≠ b') : Far 0 (remStep d t s b) (remStep d t s b') := by
  have t0 : t.testBit 0 = true := by rw [Nat.testBit_zero]; simp [todd]
  refine ⟨0, by omega, ?_⟩
  rw [step_bit ht (by omega), step_bit ht (by omega), t0, carry_bit h0 hs hb, carry_bit h0 hs hb']
  have hx : b = 0 ∨ b = 1 := by omega
  have hy : b' = 0 ∨ b' = 1 := by omega
  rcases hx with rfl | rfl <;> rcases hy with rfl | rfl <;> simp at hne ⊢
/-- The same bit behind different registers: they stay different. -/
theorem step_ne {d t s s' b : Nat} (h0 : 1 ≤ d) (ht : t < 2 ^ d) (todd : t % 2 = 1) (hs : s < 2 ^ d) (hs' : s' < 2 ^ d) (hb : b ≤ 1) (hne : s ≠ s') : remStep d t s b ≠ remStep d t s' b := by
  have t0 : t.testBit 0 = true := by rw [Nat.testBit_zero]; simp [todd]
  intro h
  apply hne
  have hc : carryB d s b = carryB d s' b := by
    have this : (remStep d t s b).testBit 0 = (remStep d t s' b).testBit 0 := by rw [h]
    rw [step_bit ht (by omega), step_bit ht (by omega), t0] at this
    simpa using this
  refine Nat.eq_of_testBit_eq fun i => ?_
  by_cases hi : i < d
  · by_cases hl : i = d - 1
    · have h1 := carry_bit h0 hs hb
      have h2 := carry_bit h0 hs' hb
      rw [hc, h2] at h1
      subst hl
      exact (bxor_cancel h1).symm
    · have this : (remStep d t s b).testBit (i + 1) = (remStep d t s' b).testBit (i + 1) := by rw [h]
      rw [step_bit ht (by omega), step_bit ht (by omega), hc] at this
      have h := bxor_cancel this
      rw [decide_eq_true (Nat.succ_pos i), Bool.true_and, Bool.true_and] at h
      exact h
  · have hle : 2 ^ d ≤ 2 ^ i := Nat.pow_le_pow_right (by decide) (by omega)
    rw [Nat.testBit_lt_two_pow (Nat.lt_of_lt_of_le hs hle), Nat.testBit_lt_two_pow (Nat.lt_of_lt_of_le hs' hle)]
theorem IsBit.nat {x : Int} (h : IsBit x) : x.toNat ≤ 1 := by have := h.le; omega
/-- Behind a burst of at most d bits the registers differ. -/
theorem burst_far {d t : Nat} {F G : Nat → Int} (h0 : 1 ≤ d) (ht : t < 2 ^ d) (todd : t % 2 = 1) (hF : ∀ k, IsBit (F k)) (hG : ∀ k, IsBit (G k)) {a m : Nat} (hs : remF d t F m = remF d t G m) (ham : a ≤ m) (hma : m < a + d) (hne : F m ≠ G m) :
    ∀ k, m + 1 + k ≤ a + d → Far k (remF d t F (m + 1 + k)) (remF d t G (m + 1 + k))
  | 0, _ => by
    show Far 0 (remStep d t (remF d t F m) (F m).toNat) (remStep d t (remF d t G m) (G m).toNat)
    rw [← hs]
    refine step_new h0 ht todd (remF_lt F ht m) (hF m).nat (hG m).nat fun e => hne ?_
    have := (hF m).le
    have := (hG m).le
    omega
  | k + 1, hk => step_far h0 ht todd (burst_far h0 ht todd hF hG hs ham hma hne k (by omega)) (by omega)
theorem remF_congr {d t : Nat} {F G : Nat → Int} : ∀ {n}, (∀ k, k < n → F k = G k) → remF d t F n = remF d t G n
  | 0, _ => rfl
  | n + 1, h => by
    show remStep d t (remF d t F n) (F n).toNat = remStep d t (remF d t G n) (G n).toNat
    rw [remF_congr fun k hk => h k (by omega), h n (by omega)]
/-- The word of n bits and their check ends with a register of 0. -/
theorem right_zero {d t n : Nat} {F : Nat → Int} (h0 : 1 ≤ d) (ht : t < 2 ^ d) (hr : ∀ j, j < d → F (n + j) = remB d t n F j) :
    ∀ j, j ≤ d → ∀ i, i < d → (remF d t F (n + j)).testBit i = (decide (j ≤ i) && (remF d t F n).testBit (i - j))
  | 0, _, i, hi => by simp
  | j + 1, hj, i, hi => by
    have ih := right_zero h0 ht hr j (by omega)
    have hb : (F (n + j)).toNat = remF d t F n >>> (d - 1 - j) &&& 1 := by rw [hr j (by omega)]; unfold remB; omega
    have hb1 : (F (n + j)).toNat ≤ 1 := by rw [hb, Nat.and_one_is_mod]; omega
    have hc : carryB d (remF d t F (n + j)) (F (n + j)).toNat = false := by
      rw [carry_bit h0 (remF_lt F ht _) hb1, ih (d - 1) (by omega), decide_eq_true (show j ≤ d - 1 by omega), Bool.true_and, hb, Nat.testBit, Nat.one_and_eq_mod_two, Nat.and_one_is_mod]
      generalize remF d t F n >>> (d - 1 - j) = x
      have : x % 2 = 0 ∨ x % 2 = 1 := by omega
      rcases this with h | h <;> rw [h] <;> rfl
    show (remStep d t (remF d t F (n + j)) (F (n + j)).toNat).testBit i = _
    rw [step_bit ht hi, hc, Bool.false_and, Bool.xor_false]
    by_cases h : 0 < i
    · rw [ih (i - 1) (by omega), decide_eq_true h, Bool.true_and]
      by_cases h2 : j + 1 ≤ i
      · rw [decide_eq_true h2, decide_eq_true (show j ≤ i - 1 by omega), show i - 1 - j = i - (j + 1) by omega]
      · rw [decide_eq_false h2, decide_eq_false (show ¬ j ≤ i - 1 by omega), Bool.false_and, Bool.false_and]
    · rw [decide_eq_false h, decide_eq_false (show ¬ j + 1 ≤ i by omega), Bool.false_and, Bool.false_and]
theorem right_end {d t n : Nat} {F : Nat → Int} (h0 : 1 ≤ d) (ht : t < 2 ^ d) (hr : ∀ j, j < d → F (n + j) = remB d t n F j) : remF d t F (n + d) = 0 := by
  refine Nat.eq_of_testBit_eq fun i => ?_
  rw [Nat.zero_testBit]
  by_cases hi : i < d
  · rw [right_zero h0 ht hr d (Nat.le_refl _) i hi, decide_eq_false (by omega), Bool.false_and]
  · exact Nat.testBit_lt_two_pow (Nat.lt_of_lt_of_le (remF_lt F ht _) (Nat.pow_le_pow_right (by decide) (by omega)))
/-- A BURST IS CAUGHT. -/
theorem burst_caught {d t n a : Nat} {F G : Nat → Int} (h0 : 1 ≤ d) (ht : t < 2 ^ d) (todd : t % 2 = 1) (hF : ∀ k, IsBit (F k)) (hG : ∀ k, IsBit (G k)) (ha : a ≤ n) (hlo : ∀ k, k < a → F k = G k) (hhi : ∀ k, a + d ≤ k → k < n + d → F k = G k)
    (hne : ∃ k, a ≤ k ∧ k < a + d ∧ F k ≠ G k) (hr : ∀ j, j < d → F (n + j) = remB d t n F j) : ¬ ∀ j, j < d → G (n + j) = remB d t n G j := by
  intro hr'
  have e1 := right_end h0 ht hr
  have e2 := right_end h0 ht hr'
  -- the first place that differs
  have hmin : ∃ m, a ≤ m ∧ m < a + d ∧ F m ≠ G m ∧ ∀ k, k < m → F k = G k := by
    obtain ⟨k, hk⟩ := hne
    induction k using Nat.strongRecOn with
    | ind k ih =>
      by_cases h : ∀ j, j < k → F j = G j
      · exact ⟨k, hk.1, hk.2.1, hk.2.2, h⟩
      · obtain ⟨j, h⟩ := Classical.not_forall.1 h
        obtain ⟨hj, h⟩ := Classical.not_imp.1 h
        exact ih j hj ⟨Nat.le_of_not_lt fun hh => h (hlo j hh), by omega, h⟩
  obtain ⟨m, h1, h2, h3, h4⟩ := hmin
  have hf := burst_far h0 ht todd hF hG (remF_congr h4) h1 h2 h3 (a + d - (m + 1)) (by omega)
  rw [show m + 1 + (a + d - (m + 1)) = a + d by omega] at hf
  have hlast : ∀ k, a + d + k ≤ n + d → remF d t F (a + d + k) ≠ remF d t G (a + d + k) := by
    intro k
    induction k with
    | zero => intro _ e; obtain ⟨i, -, hi⟩ := hf; exact hi (by rw [show a + d + 0 = a + d from rfl] at e; rw [e])
    | succ k ih =>
      intro hk
      have e := hhi (a + d + k) (by omega) (by omega)
      show remStep d t (remF d t F (a + d + k)) (F (a + d + k)).toNat ≠ remStep d t (remF d t G (a + d + k)) (G (a + d + k)).toNat
      rw [← e]
      exact step_ne h0 ht todd (remF_lt F ht _) (remF_lt G ht _) (hF _).nat (ih (by omega))
  have := hlast (n - a) (by omega)
  rw [show a + d + (n - a) = n + d by omega] at this
  exact this (e1.trans e2.symm)
end Go.Proofs.Ytdkoohfcpikgiaa
/- A copy that is the law's own: cells read, stored; a pattern that is not 0 has a 1. -/
namespace Go.Proofs.Ytdkoohfcpikgiaa
open Go.RowKit Go.Lib
theorem OwnInts.cap_any {w : World} {base n c : Nat} {A : Option Addr} {F : Nat → Int} (h : OwnInts w base (.slice A n c) n F) : n ≤ c ∧ c ≤ 9223372036854775807 := by
  have hm9 : maxLen ≤ 9223372036854775807 := by decide
  rcases h.2 with ⟨h1, h2⟩ | ⟨g, cap, cur, h1, -, -, hn, hm, -⟩
  · injection h1 with _ _ h3
    omega
  · injection h1 with _ _ h3
    omega
theorem OwnInts.row {w : World} {base n : Nat} {v : Value} {F : Nat → Int} (h : OwnInts w base v n F) (hn : 0 < n) : ∃ g cap, v = .slice (some ⟨g, 0, none⟩) n cap ∧ base ≤ g ∧ g < w.heap.size := by
  rcases h.2 with ⟨h1, h2⟩ | ⟨g, cap, cur, h1, hb, hg, -⟩
  · omega
  · exact ⟨g, cap, h1, hb, by
      rcases Nat.lt_or_ge g w.heap.size with h' | h'
      · exact h'
      · rw [Array.getElem?_eq_none h'] at hg; cases hg⟩
theorem OwnInts.cellAt {w : World} {base n g c : Nat} {F : Nat → Int} (h : OwnInts w base (.slice (some ⟨g, 0, none⟩) n c) n F) {k : Nat} (hk : k < n) : w.cell? ⟨g, k, none⟩ = some (.int .i64 (F k)) := by
  rw [World.ownsRow.cellAt h k (by omega), intCells_get, if_pos hk]
theorem OwnInts.frozen {w : World} {base n g c : Nat} {F : Nat → Int} (h : OwnInts w base (.slice (some ⟨g, 0, none⟩) n c) n F) (k : Nat) : w.frozen? ⟨g, k, none⟩ = false := World.ownsRow.frozenAt h k
def setF (F : Nat → Int) (k : Nat) (x : Int) (j : Nat) : Int := if j = k then x else F j
theorem OwnInts.set_ {w : World} {base n g c : Nat} {F : Nat → Int} (h : OwnInts w base (.slice (some ⟨g, 0, none⟩) n c) n F) (k : Nat) (x : Int) : OwnInts (w.setCell ⟨g, k, none⟩ (.int .i64 x)) base (.slice (some ⟨g, 0, none⟩) n c) n (setF F k x) := by
  have h1 := (World.ownsRow.stored h k (.int .i64 x)).1
  have e : (intCells n F).set k (.int .i64 x) = intCells n (setF F k x) := by
    apply List.ext_getElem?
    intro j
    rw [List.getElem?_set, intCells_get, intCells_get, intCells_len]
    unfold setF
    by_cases e : k = j
    · subst e
      by_cases hk : k < n
      · rw [if_pos rfl, if_pos hk, if_pos hk, if_pos rfl]
      · rw [if_pos rfl, if_neg hk, if_neg hk]
    · rw [if_neg e, if_neg (show ¬ j = k from fun h => e h.symm)]
  rw [e] at h1
  exact h1
set_option maxHeartbeats 1000000 in
theorem copyInts_own (A : Option Addr) (n c : Nat) (F : Nat → Int) (w : World) (hn : n ≤ 100000000) (hI : IntsAt w 0 A n F) :
    Calls Try.prog 11 #[.slice A n c] w fun e w' => ∃ v, e = .returned v ∧ OwnInts w' w.heap.size v n F ∧ Below w.heap.size w w' := by
  go_enter Try.func11, Try.ntmps11
  go_wp2_with (at_builtin; refine wpList_append_ints _ rfl (.tmp 3) (.tmp 4) rfl w.heap.size 0 (.slice (some ⟨w.heap.size, 0, none⟩) 0 0) 0 F rfl (World.ownsRow_made w #[] 0 (Nat.le_refl _) (by unfold maxLen; omega) rfl) A n c F rfl (hI.alloc _) (by omega) (by simp) ?_; intro v' w' h1 hb1)
  go_ret
  have hB : Below w.heap.size w w' := ((Below.refl _ _).alloc (Nat.le_refl _) _).trans hb1
  rw [Nat.zero_add] at h1
  exact ⟨_, rfl, h1.congr fun j _ => by simp [catF], hB⟩
theorem bitsOfF_bit (x d j : Nat) : IsBit (bitsOfF x d j) := by
  unfold bitsOfF IsBit
  omega
theorem pat_some {x d : Nat} (h0 : 0 < x) (h1 : x < 2 ^ d) : ∃ j, j < d ∧ bitsOfF x d j = 1 := by
  refine Classical.byContradiction fun hno => ?_
  have hz : x = 0 := by
    refine Nat.eq_of_testBit_eq fun i => ?_
    rw [Nat.zero_testBit]
    by_cases hi : i < d
    · rw [Nat.testBit_eq_decide_div_mod_eq, decide_eq_false]
      intro h
      refine hno ⟨d - 1 - i, by omega, ?_⟩
      unfold bitsOfF
      rw [show d - 1 - (d - 1 - i) = i by omega, h]
      rfl
    · exact Nat.testBit_lt_two_pow (Nat.lt_of_lt_of_le h1 (Nat.pow_le_pow_right (by decide) (by omega)))
  omega
end Go.Proofs.Ytdkoohfcpikgiaa
/- Zeros of a make, appended to a row of one's own. -/
namespace Go.Proofs.Ytdkoohfcpikgiaa
open Go.RowKit Go.Lib
theorem zeroCells_ints (k : Nat) : (Builtin.zeroCells (Value.int .i64 0).cells k).toList = intCells k (fun _ => 0) := by
  apply List.ext_getElem?
  intro j
  rw [intCells_get]
  have hs : (Value.int .i64 0).cells.size = 1 := rfl
  have hz : (Value.int .i64 0).cells = #[.int .i64 0] := rfl
  by_cases hj : j < k
  · rw [if_pos hj]
    simp [Builtin.zeroCells, hz, hj, Nat.mod_one]
  · rw [if_neg hj]
    simp [Builtin.zeroCells, hz, hj]
set_option maxHeartbeats 1000000 in
theorem run_append_zero_ints (w : World) (ty : TypeId) (base : Nat) (v : Value) (n : Nat) (F : Nat → Int) (hown : OwnInts w base v n F) (hn : 0 < n) (k : Nat) (hk : 0 < k) (hnk : n + k ≤ 1000000000) (hbase : base ≤ w.heap.size) :
    ∃ v' w', (Builtin.append_ #[25, 3] ty #[v, .int .i64 (k : Int)]).run Try.prog w = .ok v' w' ∧ OwnInts w' base v' (n + k) (catF n F (fun _ => 0)) ∧ Below base w w' := by
  obtain ⟨i0, hi, hz0, hz1, hz2⟩ := info_parts intInfo
  rcases hown.2 with ⟨-, h0⟩ | ⟨g, cap, cur, rfl, hbg, hg, hnc, hcm, hcs, htake⟩
  · omega
  · rw [Nat.mul_one] at hcs htake
    have hnk0 : k ≠ 0 := by omega
    by_cases hroom : n + k ≤ cap
    · have hst := run_storeCells_at (P := Try.prog) g n 3 (intCells k (fun _ => 0)) 0 cur w hg (by rw [intCells_len]; omega) (fun u hu => by
        obtain ⟨j, -, rfl⟩ := List.mem_map.1 hu
        rfl)
      have hw : IntKind.i64.wrap (k : Int) = k := by rw [IntKind.wrap_i64]; omega
      have h48i : ¬ (281474976710656 < (k : Int) * 8) := by omega
      have hneg : ¬ ((k : Int) < 0) := by omega
      have hzz := zeroCells_ints k
      have hrun : (Builtin.append_ #[25, 3] ty #[.slice (some ⟨g, 0, none⟩) n cap, .int .i64 (k : Int)]).run Try.prog w = .ok (.slice (some ⟨g, 0, none⟩) (n + k) cap) (w.setRow g (cur.toList.take n ++ intCells k (fun _ => 0) ++ cur.toList.drop (n + k)).toArray) := by
        rw [Nat.add_zero, intCells_len] at hst
        simp [Builtin.append_, run_underlying Try.underlying25, run_underlying Try.underlying3, sizeOf, typeInfo, zeroValue, hi, hz0, hz1, hz2, asInt, asIntOf, hw, hroom, hneg, hnk0, h48i, hzz, Addr.add_lit, hst]
      refine ⟨_, _, hrun, ⟨by rw [intCells_len, Nat.mul_one], .inr ⟨g, cap, _, rfl, hbg, setRow_heap w g cur _ 3 _ hg, hroom, hcm, ?_, ?_⟩⟩, (Below.refl _ _).grown (row := some g) ⟨rfl, rfl, rfl, by simp, fun k _ hk => setRow_other w g k _ (fun e => hk (by simp [e]))⟩ hbase (fun k hk => by injection hk with hk; omega)⟩
      · rw [htake]
        simp only [List.size_toArray, List.length_append, intCells_len, List.length_drop, Array.length_toList]
        omega
      · rw [htake, intCells_cat, Nat.mul_one]
        exact List.take_left' (by rw [intCells_len])
    · have hold := run_firstCells_some (P := Try.prog) w.drew i0.size n ⟨g, 0, none⟩ n cap (intCells n F) (by rw [intCells_len, hz1, Nat.mul_one]) (fun j u hu => World.ownsRow.cells hown (g := g) rfl j u hu)
      have hrun := run_append_grow_zeros (P := Try.prog) w 25 3 ty 3 i0 (.int .i64 0) .i64 .i64 Try.underlying25 Try.underlying3 hi hz0 (some ⟨g, 0, none⟩) n cap (intCells n F) hold k hk (by omega) (by omega) (by omega) (by rw [hz2]; omega) (growslice_fits (by omega) (by rw [hz2]; omega))
      have hge := grownCap_ge w (n + k) cap 3
      have hle := grownCap_le_maxLen w (n + k) cap 3 (by unfold maxLen; omega)
      refine ⟨_, _, hrun, ⟨by rw [intCells_len, Nat.mul_one], .inr ⟨w.heap.size, _, _, rfl, hbase, heap_alloc_new w.drew _, hge, hle, ?_, ?_⟩⟩, ((Below.refl _ _).drew).alloc hbase _⟩
      · simp only [Array.size_append, List.size_toArray, size_zeroCells, intCells_len]
        show n + k * 1 + _ * 1 = _
        omega
      · simp only [Array.toList_append, zeroCells_ints]
        rw [intCells_cat, Nat.mul_one]
        exact List.take_left' (by rw [intCells_len])
theorem step_append_zeros {ops : Array Oper} {o : Oper} {a : Act} {K : Act → World → Prop} {Q : Exit → Act → World → Prop} {E : Prop} (w : World) (hgd : o.guard = none) (s x : Operand)
    (ho : o.op = .call { callee := .builtin .append, args := #[s, x], argTypes := #[25, 3] })
    (base : Nat) (v : Value) (n : Nat) (F : Nat → Int) (hs : a.eval s = v) (hown : OwnInts w base v n F) (hn : 0 < n)
    (k : Nat) (hx : a.eval x = .int .i64 (k : Int)) (hk : 0 < k) (hnk : n + k ≤ 1000000000) (hbase : base ≤ w.heap.size)
    (h : ∀ v' w', OwnInts w' base v' (n + k) (catF n F (fun _ => 0)) → Below base w w' → K (a.put o.dst v') w') :
    if Region.wanted o (yielded ops a.tmps) = true then Oper.wp Try.prog o a w K Q else E := by
  have hw : Region.wanted o (yielded ops a.tmps) = true := by simp [Region.wanted, hgd]
  rw [if_pos hw]
  obtain ⟨v', w', hrun, h1, h2⟩ := run_append_zero_ints w o.type base v n F hown hn k hk hnk hbase
  unfold Oper.wp execOp
  simp only [ho, resolve, invoke, builtin, Sem.run_bind, Sem.run_pure, Result.andThen_ok, List.map_toArray, List.map_cons, List.map_nil, hs, hx, hrun]
  exact h v' w' h1 h2
end Go.Proofs.Ytdkoohfcpikgiaa
/- awake: the document's examples. -/
namespace Go.Proofs.Ytdkoohfcpikgiaa
open Go.RowKit Go.Shelf
theorem polarOk_doc : PolarOk 2 3 (getL [1, 2, 3]) := ⟨by decide, by decide, fun k hk => by match k, hk with | 0, _ => decide | 1, _ => decide | 2, _ => decide, fun k hk => by match k, hk with | 0, _ => decide | 1, _ => decide⟩
theorem isBits_doc (l : List Int) (n : Nat) (h : ((List.range n).all fun k => decide (IsBit (getL l k))) = true) : ∀ k, k < n → IsBit (getL l k) := fun k hk => by
  rw [List.all_eq_true] at h
  simpa using h k (List.mem_range.2 hk)
theorem ints_b (A C : Option Addr) (n m c d : Nat) (F G : Nat → Int) (w : World) (hn : n ≤ 100000) (hm : m ≤ 100000) (hF : IntsAt w 0 A n F) (hG : IntsAt w 0 C m G) :
    Calls Try.prog 16 #[.slice A n c, .slice C m d] w fun e w' => e = .returned (.bool (intsB n F m G)) ∧ Below w.heap.size w w' :=
  (ints_any A C n m c d F G w hn hm hF hG).mono fun _ _ ⟨h, q, hq⟩ => ⟨h, by rw [hq]; exact below_drewN (Below.refl _ _) q⟩
set_option maxHeartbeats 8000000 in
set_option maxRecDepth 100000 in
theorem awake_any (w : World) : Calls Try.prog 5 #[] w fun e w' => e = .returned (.bool true) ∧ Below w.heap.size w w' := by
  go_enter Try.func5, Try.ntmps5
  go_wp2_with fail
  refine (Poly_any _).mono ?_
  rintro e w1 ⟨rfl, hb1⟩
  go_wp2_with fail
  refine (Remainder_ok 3 3 (some ⟨w1.heap.size, 0, none⟩) 1 1 (getL [1]) _ (by decide) (by decide) (by decide) (by decide) (by decide) (by decide) (IntsAt.of_box [1] 1 rfl (Box.made rfl) (Nat.zero_le _)) (isBits_doc _ _ (by decide))).mono ?_
  rintro e w2 ⟨v2, rfl, A2, c2, rfl, hc2, hI2, hb2⟩
  have hB2 : Below w.heap.size w w2 := hb1.trans ((below_of_alloc hb2).mono hb1.size)
  clear hb1 hb2
  go_wp2_with fail
  refine (Polar_any _).mono ?_
  rintro e w3 ⟨g3, rfl, hP3, hb3⟩
  have hB3 : Below w.heap.size w w3 := hB2.trans (hb3.mono hB2.size)
  have hI3 := hI2.below hb3
  clear hb3 hB2 hI2
  go_wp2_with fail
  refine (Encode_ok 2 (some ⟨g3, 0, none⟩) (some ⟨w3.heap.size, 0, none⟩) 3 3 3 (getL [1, 2, 3]) (getL [1, 0, 1]) _ polarOk_doc (by decide) ((hP3.weak (Nat.zero_le _)).alloc _) (IntsAt.of_box [1, 0, 1] 3 rfl (Box.made rfl) (Nat.zero_le _)) (isBits_doc _ _ (by decide))).mono ?_
  rintro e w4 ⟨v4, rfl, A4, c4, rfl, hc4, hI4, hb4⟩
  have hB4 : Below w.heap.size w w4 := hB3.trans ((below_of_alloc hb4).mono hB3.size)
  have hJ4 := hI3.below (below_of_alloc hb4)
  clear hb4 hB3 hI3 hP3
  go_wp2_with fail
  refine (Polar_any _).mono ?_
  rintro e w5 ⟨g5, rfl, hP5, hb5⟩
  have hB5 : Below w.heap.size w w5 := hB4.trans (hb5.mono hB4.size)
  have hI5 := hI4.below hb5
  have hJ5 := hJ4.below hb5
  clear hb5 hB4 hI4 hJ4
  go_wp2_with fail
  refine (Decode_ok 2 4 (some ⟨g5, 0, none⟩) (some ⟨w5.heap.size, 0, none⟩) 3 3 4 (getL [1, 2, 3]) (getL [4, 3, -2, -5]) _ polarOk_doc (by decide) (by decide) ((hP5.weak (Nat.zero_le _)).alloc _) (IntsAt.of_box [4, 3, -2, -5] 4 rfl (Box.made rfl) (Nat.zero_le _)) (by decide) (by decide) (fun k hk => by match k, hk with | 0, _ => decide | 1, _ => decide | 2, _ => decide | 3, _ => decide)).mono ?_
  rintro e w6 ⟨v6, rfl, A6, c6, rfl, hc6, hI6, hb6⟩
  have hB6 : Below w.heap.size w w6 := hB5.trans ((below_of_alloc hb6).mono hB5.size)
  have hJ6 := hI5.below (below_of_alloc hb6)
  have hK6 := hJ5.below (below_of_alloc hb6)
  clear hb6 hB5 hI5 hJ5 hP5
  go_wp2_with fail
  refine (Match_ok (some ⟨w6.heap.size, 0, none⟩) 5 5 1 7 (getL [0, 0, 1, 1, 1]) _ (IntsAt.of_box [0, 0, 1, 1, 1] 5 rfl (Box.made rfl) (Nat.zero_le _)) (isBits_doc _ _ (by decide)) (by decide) (by decide) (by decide) (by decide) (by decide)).mono ?_
  rintro e w7 ⟨v7, rfl, A7, c7, rfl, hc7, hI7, hb7⟩
  have hB7 : Below w.heap.size w w7 := hB6.trans ((below_of_alloc hb7).mono hB6.size)
  have hM7 := hI6.below (below_of_alloc hb7)
  have hJ7 := hJ6.below (below_of_alloc hb7)
  have hK7 := hK6.below (below_of_alloc hb7)
  clear hb7 hB6 hI6 hJ6 hK6
  go_wp2_with fail
  refine (ints_b A2 (some ⟨w7.heap.size, 0, none⟩) 3 3 c2 3 _ (getL [0, 1, 1]) _ (by decide) (by decide) ((hK7.weak (Nat.zero_le _)).alloc _) (IntsAt.of_box [0, 1, 1] 3 rfl (Box.made rfl) (Nat.zero_le _))).mono ?_
  rintro e x1 ⟨rfl, hc1'⟩
  rw [show intsB 3 (remB 3 3 1 (getL [1])) 3 (getL [0, 1, 1]) = true from by decide]
  have hC1 : Below w.heap.size w x1 := hB7.trans ((below_of_alloc hc1').mono hB7.size)
  have hJ7x := hJ7.below (below_of_alloc hc1')
  have hM7x := hM7.below (below_of_alloc hc1')
  have hI7x := hI7.below (below_of_alloc hc1')
  go_wp2_with fail
  refine (ints_b A4 (some ⟨x1.heap.size, 0, none⟩) 4 4 c4 4 _ (getL [0, 0, 1, 1]) _ (by decide) (by decide) ((hJ7x.weak (Nat.zero_le _)).alloc _) (IntsAt.of_box [0, 0, 1, 1] 4 rfl (Box.made rfl) (Nat.zero_le _))).mono ?_
  rintro e x2 ⟨rfl, hc2'⟩
  rw [show intsB 4 (wordF 4 fun x => posF (getL [1, 2, 3]) (getL [1, 0, 1]) x 3) 4 (getL [0, 0, 1, 1]) = true from by decide]
  have hC2 : Below w.heap.size w x2 := hC1.trans ((below_of_alloc hc2').mono hC1.size)
  have hM7xx := hM7x.below (below_of_alloc hc2')
  have hI7xx := hI7x.below (below_of_alloc hc2')
  go_wp2_with fail
  refine (ints_b A6 (some ⟨x2.heap.size, 0, none⟩) 3 3 c6 3 _ (getL [1, 0, 1]) _ (by decide) (by decide) ((hM7xx.weak (Nat.zero_le _)).alloc _) (IntsAt.of_box [1, 0, 1] 3 rfl (Box.made rfl) (Nat.zero_le _))).mono ?_
  rintro e x3 ⟨rfl, hc3'⟩
  rw [show intsB 3 (fun k => cancelF 2 (fun x => isPos (getL [1, 2, 3]) x 3) (getL [4, 3, -2, -5]) (getL [1, 2, 3] k).toNat) 3 (getL [1, 0, 1]) = true from by decide]
  have hC3 : Below w.heap.size w x3 := hC2.trans ((below_of_alloc hc3').mono hC2.size)
  have hI7xxx := hI7xx.below (below_of_alloc hc3')
  go_wp2_with fail
  refine (ints_b A7 (some ⟨x3.heap.size, 0, none⟩) 7 7 c7 7 _ (getL [0, 1, 1, 1, 0, 0, 1]) _ (by decide) (by decide) ((hI7xxx.weak (Nat.zero_le _)).alloc _) (IntsAt.of_box [0, 1, 1, 1, 0, 0, 1] 7 rfl (Box.made rfl) (Nat.zero_le _))).mono ?_
  rintro e x4 ⟨rfl, hc4'⟩
  rw [show intsB 7 (fun k => getL [0, 0, 1, 1, 1] (placeN 1 5 k)) 7 (getL [0, 1, 1, 1, 0, 0, 1]) = true from by decide]
  have hC4 : Below w.heap.size w x4 := hC3.trans ((below_of_alloc hc4').mono hC3.size)
  go_wp2_with fail
  go_ret
  exact ⟨rfl, hC4⟩
end Go.Proofs.Ytdkoohfcpikgiaa
/- A burst put on bits. -/
namespace Go.Proofs.Ytdkoohfcpikgiaa
open Go.RowKit Go.Shelf
/-- A word with a pattern's first i bits changed from the place a on. -/
def burstF (G : Nat → Int) (a x d i k : Nat) : Int := if a ≤ k ∧ k < a + i then (G k + bitsOfF x d (k - a)) % 2 else G k
theorem burstF_succ (G : Nat → Int) (a x d k j : Nat) : burstF G a x d (k + 1) j = setF (burstF G a x d k) (a + k) ((G (a + k) + bitsOfF x d k) % 2) j := by
  show (if a ≤ j ∧ j < a + (k + 1) then (G j + bitsOfF x d (j - a)) % 2 else G j) = if j = a + k then ((G (a + k) + bitsOfF x d k) % 2) else if a ≤ j ∧ j < a + k then (G j + bitsOfF x d (j - a)) % 2 else G j
  by_cases e : j = a + k
  · subst e
    rw [if_pos (by omega), if_pos rfl, Nat.add_sub_cancel_left]
  · rw [if_neg e]
    by_cases e2 : a ≤ j ∧ j < a + k
    · rw [if_pos e2, if_pos (by omega)]
    · rw [if_neg e2, if_neg (by omega)]
theorem burstF_bit {G : Nat → Int} (h : ∀ k, IsBit (G k)) (a x d i k : Nat) : IsBit (burstF G a x d i k) := by
  unfold burstF
  split
  · unfold IsBit; omega
  · exact h k
end Go.Proofs.Ytdkoohfcpikgiaa
/- Long division bit by bit: the reference's Remainder. -/
namespace Go.Proofs.Ytdkoohfcpikgiaa
open Go.RowKit Go.Shelf
def bitI (s j : Nat) : Int := if s.testBit j = true then 1 else 0
/-- What stands at place j behind i steps of the division. -/
def divF (d t n : Nat) (F : Nat → Int) (i j : Nat) : Int := ((if j < n then F j else 0) + (if j < i + d then bitI (remF d t F i) (i + d - 1 - j) else 0)) % 2
theorem divF_zero {d t n : Nat} {F : Nat → Int} (hF : ∀ k, k < n → IsBit (F k)) (j : Nat) : divF d t n F 0 j = if j < n then F j else 0 := by
  have e : remF d t F 0 = 0 := rfl
  unfold divF bitI
  rw [e, Nat.zero_testBit]
  by_cases hj : j < n
  · have := (hF j hj).le
    rw [if_pos hj]
    simp
    omega
  · rw [if_neg hj]; simp
theorem divF_bit (d t n : Nat) (F : Nat → Int) (i j : Nat) : IsBit (divF d t n F i j) := by unfold divF IsBit; omega
theorem bitI_bit (s j : Nat) : bitI s j = 0 ∨ bitI s j = 1 := by unfold bitI; split <;> simp
theorem bitsOfF_bitI (t d j : Nat) : bitsOfF t d j = bitI t (d - 1 - j) := by
  unfold bitsOfF bitI
  rw [Nat.testBit_eq_decide_div_mod_eq]
  have : t / 2 ^ (d - 1 - j) % 2 = 0 ∨ t / 2 ^ (d - 1 - j) % 2 = 1 := by omega
  rcases this with h | h <;> rw [h] <;> rfl
theorem carry_div {d t n i : Nat} {F : Nat → Int} (h0 : 1 ≤ d) (ht : t < 2 ^ d) (hF : ∀ k, k < n → IsBit (F k)) (hi : i < n) : carryB d (remF d t F i) (F i).toNat = decide (divF d t n F i i = 1) := by
  rw [carry_bit h0 (remF_lt F ht i) (hF i hi).nat]
  unfold divF bitI
  rw [if_pos hi, if_pos (show i < i + d by omega), show i + d - 1 - i = d - 1 by omega]
  rcases hF i hi with h | h <;> rw [h] <;> cases (remF d t F i).testBit (d - 1) <;> rfl
/-- One step of the division, where the head is 0, and where it is 1. -/
theorem divF_succ {d t n i : Nat} {F : Nat → Int} (h0 : 1 ≤ d) (ht : t < 2 ^ d) (hF : ∀ k, k < n → IsBit (F k)) (hi : i < n) {j : Nat} (hj : i + 1 ≤ j) :
    divF d t n F (i + 1) j = if divF d t n F i i = 1 ∧ j < i + 1 + d then (divF d t n F i j + bitsOfF t d (j - (i + 1))) % 2 else divF d t n F i j := by
  have hc := carry_div h0 ht hF hi
  by_cases hlt : j < i + 1 + d
  · have hb := step_bit (s := remF d t F i) (b := (F i).toNat) ht (show i + d - j < d by omega)
    have hs : (remF d t F (i + 1)).testBit (i + d - j) = ((decide (0 < i + d - j) && (remF d t F i).testBit (i + d - j - 1)) ^^ (decide (divF d t n F i i = 1) && t.testBit (i + d - j))) := by rw [← hc]; exact hb
    rw [bitsOfF_bitI, show d - 1 - (j - (i + 1)) = i + d - j by omega]
    have e1 : divF d t n F (i + 1) j = ((if j < n then F j else 0) + bitI (remF d t F (i + 1)) (i + d - j)) % 2 := by
      unfold divF; rw [if_pos hlt, show i + 1 + d - 1 - j = i + d - j by omega]
    have e2 : divF d t n F i j = ((if j < n then F j else 0) + (if (decide (0 < i + d - j) && (remF d t F i).testBit (i + d - j - 1)) = true then 1 else 0)) % 2 := by
      unfold divF bitI
      by_cases h2 : j < i + d
      · rw [if_pos h2, decide_eq_true (show 0 < i + d - j by omega), Bool.true_and, show i + d - 1 - j = i + d - j - 1 by omega]
      · rw [if_neg h2, decide_eq_false (show ¬ 0 < i + d - j by omega)]; simp
    by_cases h1 : divF d t n F i i = 1
    · rw [if_pos ⟨h1, hlt⟩, e1, e2]
      unfold bitI
      rw [hs, decide_eq_true h1]
      generalize (if j < n then F j else 0) = f
      cases (decide (0 < i + d - j) && (remF d t F i).testBit (i + d - j - 1)) <;> cases t.testBit (i + d - j) <;> simp <;> omega
    · rw [if_neg (fun h => h1 h.1), e1, e2]
      unfold bitI
      rw [hs, decide_eq_false h1]
      generalize (if j < n then F j else 0) = f
      cases (decide (0 < i + d - j) && (remF d t F i).testBit (i + d - j - 1)) <;> simp
  · rw [if_neg (fun h => hlt h.2)]
    unfold divF
    rw [if_neg hlt, if_neg (show ¬ j < i + d by omega)]
theorem divF_end {d t n : Nat} {F : Nat → Int} {j : Nat} (hj : j < d) : divF d t n F n (n + j) = remB d t n F j := by
  unfold divF remB bitI
  rw [if_neg (by omega), if_pos (by omega), show n + d - 1 - (n + j) = d - 1 - j by omega, Nat.testBit, Nat.one_and_eq_mod_two, Nat.and_one_is_mod]
  generalize remF d t F n >>> (d - 1 - j) = x
  have : x % 2 = 0 ∨ x % 2 = 1 := by omega
  rcases this with h | h <;> rw [h] <;> rfl
end Go.Proofs.Ytdkoohfcpikgiaa
/- The reference's Remainder: the walk. -/
namespace Go.Proofs.Ytdkoohfcpikgiaa
open Go.RowKit Go.Shelf
theorem OwnInts.ints {w : World} {base n c : Nat} {A : Option Addr} {F : Nat → Int} (h : OwnInts w base (.slice A n c) n F) : IntsAt w base A n F := by
  obtain ⟨A', c', e, -, hI⟩ := h.form
  injection e with e1
  subst e1
  exact hI
end Go.Proofs.Ytdkoohfcpikgiaa
/- The reference's Checked and IsRight. -/
namespace Go.Proofs.Ytdkoohfcpikgiaa
open Go.RowKit Go.Shelf
theorem OwnInts.weak {w : World} {base base' n : Nat} {v : Value} {F : Nat → Int} (h : OwnInts w base v n F) (hb : base' ≤ base) : OwnInts w base' v n F :=
  ⟨h.1, h.2.elim Or.inl (fun ⟨g, cap, cur, hv, hg, r⟩ => Or.inr ⟨g, cap, cur, hv, Nat.le_trans hb hg, r⟩)⟩
end Go.Proofs.Ytdkoohfcpikgiaa
