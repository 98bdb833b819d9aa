/- Lemmas: Ta, Tb, Sb, H4, H5, H6. -/
import Derived.BigQuiet
import Derived.Test.YtlhbkjgddpelgaaBk03
import Derived.Test.YtlhbkjgddpelgaaBk04
import Derived.Test.YtlhbkjgddpelgaaBk09
import Derived.Test.YtlhbkjgddpelgaaBk10
import Derived.Test.YtlhbkjgddpelgaaBk11
set_option linter.unusedVariables false
set_option linter.unusedSimpArgs false
/- Mathematics: the two sequences of signs as tables; how far sequences are apart. -/
namespace Go.Proofs.Ytlhbkjgddpelgaa
open Go.RowKit
/-- What the array is at the end obeys its own rule. -/
theorem sgA_keep (T : Nat → Nat) (m : Nat) {k j : Nat} (hj : j < k + 5) : ∀ d, sgA T m (k + d) j = sgA T m k j
  | 0 => rfl
  | d + 1 => by
    show (if j = (k + d) + 5 then _ else sgA T m (k + d) j) = _
    rw [if_neg (by omega)]
    exact sgA_keep T m hj d
theorem tapP_congr {T : Nat → Nat} {S R : Nat → Int} {k m : Nat} (hT : ∀ i, i < m → T i < 5) (h : ∀ j, j < k + 5 → S j = R j) : ∀ i, i ≤ m → tapP T S k i = tapP T R k i
  | 0, _ => rfl
  | i + 1, hi => by
    show tapP T S k i * S (k + T i) = tapP T R k i * R (k + T i)
    rw [tapP_congr hT h i (by omega), h _ (by have := hT i (by omega); omega)]
theorem sgF_step (T : Nat → Nat) (m : Nat) (hT : ∀ i, i < m → T i < 5) {k : Nat} (hk : k < 26) : sgF T m (k + 5) = tapP T (sgF T m) k m := by
  unfold sgF
  rw [show (26 : Nat) = (k + 1) + (25 - k) by omega, sgA_keep T m (show k + 5 < (k + 1) + 5 by omega)]
  show (if k + 5 = k + 5 then tapP T (sgA T m k) k m else _) = _
  rw [if_pos rfl]
  exact tapP_congr hT (fun j hj => by rw [show (k + 1) + (25 - k) = k + (26 - k) by omega, sgA_keep T m hj]) m (Nat.le_refl m)
theorem sgF_low (T : Nat → Nat) (m : Nat) {j : Nat} (hj : j < 5) : sgF T m j = if j = 0 then -1 else 1 := by
  unfold sgF
  rw [show (26 : Nat) = 0 + 26 from rfl, sgA_keep T m (k := 0) (by omega)]
  show (if j = 0 then (-1 : Int) else if j < 5 then 1 else 0) = _
  rw [if_pos hj]
theorem sgF_table (T : Nat → Nat) (m : Nat) (hT : ∀ i, i < m → T i < 5) (R : Nat → Int) (h0 : ∀ j, j < 5 → R j = if j = 0 then -1 else 1) (h1 : ∀ k, k < 26 → R (k + 5) = tapP T R k m) :
    ∀ n j, j < n → j < 31 → sgF T m j = R j
  | 0, j, hj, _ => absurd hj (Nat.not_lt_zero j)
  | n + 1, j, hj, h31 => by
    by_cases h5 : j < 5
    · rw [sgF_low T m h5, h0 j h5]
    · obtain ⟨k, rfl⟩ : ∃ k, j = k + 5 := ⟨j - 5, by omega⟩
      rw [sgF_step T m hT (by omega), h1 k (by omega)]
      exact tapP_congr hT (fun q hq => sgF_table T m hT R h0 h1 n q (by omega) (by omega)) m (Nat.le_refl m)
def tS (j : Nat) : Int := ([-1, 1, 1, 1, 1, -1, 1, 1, -1, 1, -1, -1, 1, 1, -1, -1, -1, -1, -1, 1, 1, 1, -1, -1, 1, -1, -1, -1, 1, -1, 1] : List Int).getD j 0
def tV (j : Nat) : Int := ([-1, 1, 1, 1, 1, -1, -1, 1, 1, -1, 1, 1, -1, -1, -1, -1, -1, 1, -1, -1, -1, 1, 1, 1, -1, 1, -1, 1, -1, -1, 1] : List Int).getD j 0
theorem sgS {j : Nat} (hj : j < 31) : sgF T2 2 j = tS j :=
  sgF_table T2 2 (fun i _ => T2_lt i) tS (by decide) (by decide) (j + 1) j (Nat.lt_succ_self j) hj
theorem sgV {j : Nat} (hj : j < 31) : sgF T4 4 j = tV j :=
  sgF_table T4 4 (fun i _ => T4_lt i) tV (by decide) (by decide) (j + 1) j (Nat.lt_succ_self j) hj
/-- A sequence shifted, or all ones (e = 31). -/
def shE (t : Nat → Int) (e n : Nat) : Int := if e = 31 then 1 else t ((n + e) % 31)
def okE (t : Nat → Int) (b c e : Nat) : Bool := (List.range 31).all fun n => t ((n + b) % 31) * t ((n + c) % 31) == shE t e n
def pairOk (t : Nat → Int) (b c : Nat) : Bool := (List.range 32).any fun e => okE t b c e && (e != 31 || b == c)
def allOk (t : Nat → Int) : Bool := (List.range 31).all fun b => (List.range 31).all fun c => pairOk t b c
theorem allS : allOk tS = true := by kernel_rfl
theorem allV : allOk tV = true := by kernel_rfl
/-- How many of the first k values are -1. -/
def negN (H : Nat → Int) : Nat → Nat
  | 0 => 0
  | k + 1 => if H k = -1 then negN H k + 1 else negN H k
def farOk : Bool := (List.range 32).all fun e => (List.range 32).all fun f => (e == 31 && f == 31) || decide (11 ≤ negN (fun n => shE tS e n * shE tV f n) 31)
theorem far : farOk = true := by kernel_rfl
theorem pair_of {t : Nat → Int} (h : allOk t = true) {b c : Nat} (hb : b < 31) (hc : c < 31) : ∃ e, e < 32 ∧ (∀ n, n < 31 → t ((n + b) % 31) * t ((n + c) % 31) = shE t e n) ∧ (e = 31 → b = c) := by
  unfold allOk at h
  rw [List.all_eq_true] at h
  have h1 := h b (List.mem_range.2 hb)
  rw [List.all_eq_true] at h1
  have h2 := h1 c (List.mem_range.2 hc)
  unfold pairOk at h2
  rw [List.any_eq_true] at h2
  obtain ⟨e, he, h3⟩ := h2
  rw [Bool.and_eq_true] at h3
  refine ⟨e, List.mem_range.1 he, fun n hn => ?_, fun e31 => ?_⟩
  · have h4 := h3.1
    unfold okE at h4
    rw [List.all_eq_true] at h4
    simpa using h4 n (List.mem_range.2 hn)
  · have h5 := h3.2
    rw [e31] at h5
    simpa using h5
theorem far_of {e f : Nat} (he : e < 32) (hf : f < 32) (h : ¬ (e = 31 ∧ f = 31)) : 11 ≤ negN (fun n => shE tS e n * shE tV f n) 31 := by
  have h0 := far
  unfold farOk at h0
  rw [List.all_eq_true] at h0
  have h1 := h0 e (List.mem_range.2 he)
  rw [List.all_eq_true] at h1
  have h2 := h1 f (List.mem_range.2 hf)
  rw [Bool.or_eq_true] at h2
  rcases h2 with h2 | h2
  · exact absurd (by simpa using h2) h
  · exact of_decide_eq_true h2
/-- At how many of the first k places two sequences differ. -/
def difN (F G : Nat → Int) : Nat → Nat
  | 0 => 0
  | k + 1 => if F k = G k then difN F G k else difN F G k + 1
theorem difN_neg {F G : Nat → Int} : ∀ k, (∀ n, n < k → IsSign (F n) ∧ IsSign (G n)) → difN F G k = negN (fun n => F n * G n) k
  | 0, _ => rfl
  | k + 1, h => by
    unfold difN negN
    rw [difN_neg k fun n hn => h n (by omega)]
    obtain ⟨hf, hg⟩ := h k (Nat.lt_succ_self k)
    rcases hf with hf | hf <;> rcases hg with hg | hg <;> simp [hf, hg]
theorem negN_congr {H K : Nat → Int} : ∀ k, (∀ n, n < k → H n = K n) → negN H k = negN K k
  | 0, _ => rfl
  | k + 1, h => by
    unfold negN
    rw [negN_congr k fun n hn => h n (by omega), h k (Nat.lt_succ_self k)]
theorem difN_same {F : Nat → Int} : ∀ k, difN F F k = 0
  | 0 => rfl
  | k + 1 => by unfold difN; rw [if_pos rfl]; exact difN_same k
theorem difN_congr {F G F' G' : Nat → Int} : ∀ k, (∀ n, n < k → F n = F' n ∧ G n = G' n) → difN F G k = difN F' G' k
  | 0, _ => rfl
  | k + 1, h => by
    unfold difN
    rw [difN_congr k fun n hn => h n (by omega), (h k (Nat.lt_succ_self k)).1, (h k (Nat.lt_succ_self k)).2]
theorem difN_le {F G : Nat → Int} : ∀ k, difN F G k ≤ k
  | 0 => Nat.le_refl _
  | k + 1 => by unfold difN; split <;> (have := difN_le (F := F) (G := G) k; omega)
theorem halfA_table {i n : Nat} : halfA i n = tS ((n + 10 * (i % 3)) % 31) := sgS (Nat.mod_lt _ (by decide))
theorem halfB_table {i n : Nat} : halfB i n = tS ((n + i / 3 % 31) % 31) * tV ((n + i / 3 / 31) % 31) := by
  unfold halfB
  rw [sgS (Nat.mod_lt _ (by decide)), sgV (Nat.mod_lt _ (by decide))]
theorem tS_sign {j : Nat} (hj : j < 31) : IsSign (tS j) := by rw [← sgS hj]; exact sgF_sign (fun i _ => T2_lt i) j hj
theorem tV_sign {j : Nat} (hj : j < 31) : IsSign (tV j) := by rw [← sgV hj]; exact sgF_sign (fun i _ => T4_lt i) j hj
/-- Second halves of two groups. -/
theorem second_apart {a b : Nat} (ha : a < 1008) (hb : b < 1008) (h : a / 3 ≠ b / 3) : 11 ≤ difN (halfB a) (halfB b) 31 := by
  have hm : ∀ q, q % 31 < 31 := fun q => Nat.mod_lt q (by decide)
  rw [difN_neg 31 fun n _ => ⟨by rw [halfB_table]; exact (tS_sign (hm _)).mul (tV_sign (hm _)), by rw [halfB_table]; exact (tS_sign (hm _)).mul (tV_sign (hm _))⟩]
  obtain ⟨e, he, h1, h1'⟩ := pair_of allS (hm (a / 3)) (hm (b / 3))
  obtain ⟨f, hf, h2, h2'⟩ := pair_of allV (b := a / 3 / 31) (c := b / 3 / 31) (by omega) (by omega)
  rw [negN_congr (K := fun n => shE tS e n * shE tV f n) 31 fun n hn => by
    show halfB a n * halfB b n = _
    rw [halfB_table, halfB_table, ← h1 n hn, ← h2 n hn]
    generalize tS ((n + a / 3 % 31) % 31) = p
    generalize tV ((n + a / 3 / 31) % 31) = q
    generalize tS ((n + b / 3 % 31) % 31) = r
    generalize tV ((n + b / 3 / 31) % 31) = s
    rw [Int.mul_assoc, Int.mul_assoc, Int.mul_left_comm q r s]]
  exact far_of he hf fun ⟨e31, f31⟩ => by have := h1' e31; have := h2' f31; omega
theorem second_same {a b : Nat} (h : a / 3 = b / 3) : difN (halfB a) (halfB b) 31 = 0 := by
  rw [difN_congr (F' := halfB b) (G' := halfB b) 31 fun n _ => ⟨by unfold halfB; rw [h], rfl⟩]
  exact difN_same 31
def firstOk : Bool := (List.range 3).all fun s => (List.range 3).all fun t => difN (fun n => tS ((n + 10 * s) % 31)) (fun n => tS ((n + 10 * t) % 31)) 31 == if s = t then 0 else 16
theorem first_all : firstOk = true := by kernel_rfl
theorem first_is (a b : Nat) : difN (halfA a) (halfA b) 31 = if a % 3 = b % 3 then 0 else 16 := by
  rw [difN_congr (F' := fun n => tS ((n + 10 * (a % 3)) % 31)) (G' := fun n => tS ((n + 10 * (b % 3)) % 31)) 31 fun n _ => ⟨halfA_table, halfA_table⟩]
  have h0 := first_all
  unfold firstOk at h0
  rw [List.all_eq_true] at h0
  have h1 := h0 (a % 3) (List.mem_range.2 (Nat.mod_lt a (by decide)))
  rw [List.all_eq_true] at h1
  have h2 := h1 (b % 3) (List.mem_range.2 (Nat.mod_lt b (by decide)))
  simpa using h2
end Go.Proofs.Ytlhbkjgddpelgaa
/- The walk of WaveApart. -/
namespace Go.Proofs.Ytlhbkjgddpelgaa
open Go.RowKit Go.Great
theorem identityErr_any (n : Int) (w : World) :
    Calls Try.prog 13 #[.int .i64 n] w fun e w' => e = .returned (.int .i64 (unI (withinB n 0 1007) 2)) ∧ w = w' := by
  have HX := hide (fun W => within_any n 0 1007 W)
  generalize withinB n 0 1007 = v at *
  cases v
  all_goals
    go_enter Try.func13, Try.ntmps13
    go_wp2_with (go_at_call 14; refine (HX.out _).mono ?_; rintro e w' ⟨rfl, rfl⟩)
    go_ret
    exact ⟨rfl, rfl⟩
theorem seqF_first {i k : Nat} (h : k < 31) : seqF i k = halfA i k := by unfold seqF catF; rw [if_pos h]
theorem seqF_second {i k : Nat} : seqF i (31 + k) = halfB i k := by unfold seqF catF; rw [if_neg (by omega), show 31 + k - 31 = k by omega]
end Go.Proofs.Ytlhbkjgddpelgaa
/- CorrelationOf and Shifts of the code; Shifts, ValuesErr of the reference. -/
namespace Go.Proofs.Ytlhbkjgddpelgaa
open Go.RowKit
def ccE (a : Int) (n : Nat) (F : Nat → Int) : Int := firstE [unI (withinB a 0 1007) 2, unI ((n : Int) == 62) 10, recE n F]
def ccV (a : Int) (n : Nat) (F : Nat → Int) : Int := if ccE a n F = 0 then corS (seqF a.toNat) F 62 else 0
theorem valE_zero {x : Int} (h : valE x = 0) : -100000 ≤ x ∧ x ≤ 100000 := withinB_iff.1 (unI_zero (by decide) h)
theorem ccE_zero {a : Int} {n : Nat} {F : Nat → Int} (h : ccE a n F = 0) : (0 ≤ a ∧ a ≤ 1007) ∧ n = 62 ∧ ∀ j, j < n → -100000 ≤ F j ∧ F j ≤ 100000 := by
  obtain ⟨h1, h2⟩ := firstE_nil h
  obtain ⟨h3, h4⟩ := firstE_nil h2
  obtain ⟨h5, -⟩ := firstE_nil h4
  obtain ⟨-, h6⟩ := firstE_nil h5
  obtain ⟨h7, -⟩ := firstE_nil h6
  refine ⟨withinB_iff.1 (unI_zero (by decide) h1), by have := unI_zero (by decide) h3; simp at this; omega, fun j hj => valE_zero (badE_zero h7 j hj)⟩
theorem seqF_sign {i j : Nat} (hj : j < 62) : IsSign (seqF i j) := by
  have hm : ∀ q, q % 31 < 31 := fun q => Nat.mod_lt q (by decide)
  unfold seqF catF
  split
  · exact sgF_sign (fun i _ => T2_lt i) _ (hm _)
  · exact (sgF_sign (fun i _ => T2_lt i) _ (hm _)).mul (sgF_sign (fun i _ => T4_lt i) _ (hm _))
set_option maxHeartbeats 2000000 in
theorem ShiftsR_any (i : Nat) (w : World) (hi : i < 1008) :
    Calls Try.prog 71 #[.int .i64 (i : Int)] w fun e w' => e = .returned (.agg #[.int .i64 ((10 * (i % 3) : Nat) : Int), .int .i64 ((i / 3 % 31 : Nat) : Int), .int .i64 ((i / 3 / 31 : Nat) : Int)]) ∧ Below w.heap.size w w' := by
  have q1 : IntKind.i64.wrap (10 * ((i : Int) % 3)) = 10 * ((i : Int) % 3) := IntWalk.i64_in _ (by omega)
  go_enter Try.func71, Try.ntmps71
  go_wp2_with fail
  have hb : Box (w.alloc (.cells #[.int .i64 (10 * ((i : Int) % 3)), .int .i64 ((i : Int) / 3 % 31), .int .i64 ((i : Int) / 3 / 31)] 97)) w.heap.size 97 #[.int .i64 (10 * ((i : Int) % 3)), .int .i64 ((i : Int) / 3 % 31), .int .i64 ((i : Int) / 3 / 31)] := Box.made rfl
  have h0 := hb.at_ 0
  have h1 := hb.at_ 1
  have h2 := hb.at_ 2
  simp only [List.getElem?_toArray] at h0 h1 h2
  refine bodyPost_ret (v := .agg #[.int .i64 (10 * ((i : Int) % 3)), .int .i64 ((i : Int) / 3 % 31), .int .i64 ((i : Int) / 3 / 31)]) ?_ rfl ⟨by simp, by (repeat (first | (with_reducible exact Below.refl _ _) | (with_reducible refine Go.below_drewN ?_ _) | (with_reducible refine Below.drew ?_) | (with_reducible refine Below.alloc ?_ (by first | exact Nat.le_refl _ | (simp; done) | (simp; omega) | omega) _) | (with_reducible refine Below.setCell ?_ (by first | exact Nat.le_refl _ | (simp; done) | (simp; omega) | omega) _)))⟩
  simp [results, Try.results71, go_sem, h0, h1, h2]
def vE (n : Nat) (F : Nat → Int) : Int := if 120 < n then 8 else valsE n F
set_option maxHeartbeats 2000000 in
theorem valuesErr_any (A : Option Addr) (n c : Nat) (F : Nat → Int) (w : World) (hI : IntsAt w 0 A n F) (hn9 : n ≤ 100000) :
    Calls Try.prog 10 #[.slice A n c] w fun e w' => e = .returned (.int .i64 (vE n F)) ∧ w = w' := by
  have HI := hide hI
  clear hI
  by_cases hn : 120 < n
  · have hnz : (n : Int) > 120 := by omega
    have HV := hide (show vE n F = 8 from if_pos hn)
    generalize vE n F = v at *
    clear hn
    go_enter Try.func10, Try.ntmps10
    go_wp2_with fail
    go_ret
    exact ⟨by rw [HV.out]; rfl, rfl⟩
  · have hnz : ¬ (n : Int) > 120 := by omega
    have HV := hide (show vE n F = badE (fun j => valE (F j)) n from if_neg hn)
    generalize vE n F = v at *
    have hn' : n ≤ 120 := by omega
    clear hn
    go_enter Try.func10, Try.ntmps10
    go_wp2_with fail
    go_loopw [3] (fun i wr => ∃ k : Nat, k ≤ n ∧ i = .int .i64 (k : Int) ∧ Hid (badE (fun j => valE (F j)) k = 0) ∧ w = wr) (fun i _ => n - (Go.RowKit.intOf i).toNat)
    case atStart => exact ⟨0, Nat.zero_le _, rfl, hide rfl, rfl⟩
    case round =>
      obtain ⟨k, hk, rfl, HZ, rfl⟩ := hrel
      by_cases hlt : k < n
      · have hltz : (k : Int) < (n : Int) := by omega
        obtain ⟨b, o, rfl, -, hb, hcell⟩ := HI.out k hlt
        cases hw : withinB (F k) (-100000) 100000
        · have HQ := hide (show v = 2 from by
            have h1 : valE (F k) = 2 := by unfold valE; rw [hw]; rfl
            rw [HV.out]
            have h2 := badE_at (g := fun j => valE (F j)) HZ.out (by show valE (F k) ≠ 0; rw [h1]; decide) n hlt
            exact h2.trans h1)
          go_wp2_with fail
          refine (within_any _ _ _ _).mono ?_
          rintro e w' ⟨rfl, rfl⟩
          rw [hw]
          go_wp2_with fail
          go_ret
          exact ⟨by rw [HQ.out]; rfl, rfl⟩
        · have HN := hide (show badE (fun j => valE (F j)) (k + 1) = 0 from by
            rw [badE_succ HZ.out]
            show valE (F k) = 0
            unfold valE
            rw [hw]; rfl)
          go_wp2_with fail
          refine (within_any _ _ _ _).mono ?_
          rintro e w' ⟨rfl, rfl⟩
          rw [hw]
          go_wp2_with fail
          go_roundw
          case rel => exact ⟨k + 1, by omega, by go_num, HN, by first | rfl | trivial⟩
          case measure => simp [Go.RowKit.intOf]; omega
      · obtain rfl : k = n := by omega
        go_wp2_with fail
        go_ret
        exact ⟨by rw [HV.out, HZ.out]; rfl, rfl⟩
end Go.Proofs.Ytlhbkjgddpelgaa
/- Cells that are found (without a walk): the correlations of all halves at a place, and the best of them; a sequence among zeros is found, and with errors its identity. -/
namespace Go.Proofs.Ytlhbkjgddpelgaa
open Go.RowKit
theorem corS_congr {F F' G G' : Nat → Int} : ∀ {k : Nat}, (∀ j, j < k → F j = F' j ∧ G j = G' j) → corS F G k = corS F' G' k
  | 0, _ => rfl
  | k + 1, h => by
    show corS F G k + F k * G k = corS F' G' k + F' k * G' k
    rw [corS_congr (k := k) fun j hj => h j (by omega), (h k (Nat.lt_succ_self k)).1, (h k (Nat.lt_succ_self k)).2]
theorem corS_add {F G E : Nat → Int} : ∀ k : Nat, corS F (fun j => G j + E j) k = corS F G k + corS F E k
  | 0 => rfl
  | k + 1 => by
    show corS F (fun j => G j + E j) k + F k * (G k + E k) = corS F G k + F k * G k + (corS F E k + F k * E k)
    rw [corS_add k, Int.mul_add]
    omega
theorem corS_abs {F G : Nat → Int} {M : Int} : ∀ k : Nat, (∀ j, j < k → IsSign (F j) ∧ -M ≤ G j ∧ G j ≤ M) → -((k : Int) * M) ≤ corS F G k ∧ corS F G k ≤ (k : Int) * M
  | 0, _ => by show -(((0 : Nat) : Int) * M) ≤ 0 ∧ (0 : Int) ≤ ((0 : Nat) : Int) * M; simp
  | k + 1, h => by
    have h1 := corS_abs k fun j hj => h j (by omega)
    obtain ⟨hf, hg⟩ := h k (Nat.lt_succ_self k)
    have e : ((k + 1 : Nat) : Int) * M = (k : Int) * M + M := by rw [Int.natCast_add, Int.add_mul]; omega
    rw [e]
    show -((k : Int) * M + M) ≤ corS F G k + F k * G k ∧ corS F G k + F k * G k ≤ (k : Int) * M + M
    rcases hf with hf | hf <;> rw [hf] <;> omega
/-- The first value is 0. -/
theorem corS_none {F G : Nat → Int} {M : Int} (h0 : G 0 = 0) : ∀ k : Nat, (∀ j, j < k + 1 → IsSign (F j) ∧ -M ≤ G j ∧ G j ≤ M) → corS F G (k + 1) ≤ (k : Int) * M
  | 0, _ => by show (0 : Int) + F 0 * G 0 ≤ ((0 : Nat) : Int) * M; rw [h0]; simp
  | k + 1, h => by
    have h1 := corS_none h0 k fun j hj => h j (by omega)
    obtain ⟨hf, hg⟩ := h (k + 1) (Nat.lt_succ_self _)
    have e : ((k + 1 : Nat) : Int) * M = (k : Int) * M + M := by rw [Int.natCast_add, Int.add_mul]; omega
    rw [e]
    show corS F G (k + 1) + F (k + 1) * G (k + 1) ≤ (k : Int) * M + M
    rcases hf with hf | hf <;> rw [hf] <;> omega
/-- What signs have in common with a multiple of signs. -/
theorem corS_dif {F H : Nat → Int} {s : Int} : ∀ k : Nat, (∀ j, j < k → IsSign (F j) ∧ IsSign (H j)) → corS F (fun j => s * H j) k = s * ((k : Int) - 2 * (difN F H k : Int))
  | 0, _ => by show (0 : Int) = s * (((0 : Nat) : Int) - 2 * ((0 : Nat) : Int)); simp
  | k + 1, h => by
    have h1 := corS_dif (s := s) k fun j hj => h j (by omega)
    obtain ⟨hf, hg⟩ := h k (Nat.lt_succ_self k)
    show corS F (fun j => s * H j) k + F k * (s * H k) = s * (((k + 1 : Nat) : Int) - 2 * ((if F k = H k then difN F H k else difN F H k + 1 : Nat) : Int))
    rw [h1]
    have e : ((k + 1 : Nat) : Int) = (k : Int) + 1 := Int.natCast_add k 1
    have e2 : ((difN F H k + 1 : Nat) : Int) = (difN F H k : Int) + 1 := Int.natCast_add _ 1
    generalize (difN F H k) = d at *
    rcases hf with hf | hf <;> rcases hg with hg | hg <;> simp only [hf, hg, if_true, if_false, reduceCtorEq, show ¬ ((1 : Int) = -1) from by decide, show ¬ ((-1 : Int) = 1) from by decide, e, e2] <;> grind
theorem halfA_sign (i n : Nat) : IsSign (halfA i n) := by rw [halfA_table]; exact tS_sign (Nat.mod_lt _ (by decide))
theorem halfB_sign (i n : Nat) : IsSign (halfB i n) := by rw [halfB_table]; exact (tS_sign (Nat.mod_lt _ (by decide))).mul (tV_sign (Nat.mod_lt _ (by decide)))
/-- The correlation of values from a place on with the first half of a sector, and with the second half of a group. -/
def fA (X : Nat → Int) (p i : Nat) : Int := corS (halfA i) (fun j => X (p + j)) 31
def fB (X : Nat → Int) (p g : Nat) : Int := corS (halfB (3 * g)) (fun j => X (p + 31 + j)) 31
/-- The identity with the greatest correlation at a place, and this. -/
def fId (X : Nat → Int) (p : Nat) : Nat := 3 * bsN (fB X p) 336 + bsN (fA X p) 3
def fCo (X : Nat → Int) (p : Nat) : Int := bsC (fA X p) 3 + bsC (fB X p) 336
theorem fA_ref (X : Nat → Int) (p : Nat) : (fun n => corS (fun j => seqF (1 * n) (0 + j)) (fun j => X (p + j)) 31) = fA X p := by
  funext n
  exact corS_congr fun j hj => ⟨by rw [Nat.one_mul, Nat.zero_add]; exact seqF_first hj, rfl⟩
theorem fB_ref (X : Nat → Int) (p : Nat) : (fun n => corS (fun j => seqF (3 * n) (31 + j)) (fun j => X (p + 31 + j)) 31) = fB X p := by
  funext n
  exact corS_congr fun j _ => ⟨seqF_second, rfl⟩
theorem fA_le {X : Nat → Int} {p : Nat} {M : Int} (h : ∀ j, j < 62 → -M ≤ X (p + j) ∧ X (p + j) ≤ M) (i : Nat) : -(31 * M) ≤ fA X p i ∧ fA X p i ≤ 31 * M :=
  corS_abs 31 fun j hj => ⟨halfA_sign i j, h j (by omega)⟩
theorem fB_le {X : Nat → Int} {p : Nat} {M : Int} (h : ∀ j, j < 62 → -M ≤ X (p + j) ∧ X (p + j) ≤ M) (g : Nat) : -(31 * M) ≤ fB X p g ∧ fB X p g ≤ 31 * M :=
  corS_abs 31 fun j hj => ⟨halfB_sign _ j, by have := h (31 + j) (by omega); rw [← Nat.add_assoc] at this; exact this⟩
theorem fCo_le {X : Nat → Int} {p : Nat} (h : ∀ j, j < 62 → -100000 ≤ X (p + j) ∧ X (p + j) ≤ 100000) : -6200000 ≤ fCo X p ∧ fCo X p ≤ 6200000 := by
  have h1 := bsC_le (M := 3100000) (fun i => fA_le (M := 100000) h i) 3
  have h2 := bsC_le (M := 3100000) (fun i => fB_le (M := 100000) h i) 336
  unfold fCo
  omega
theorem fId_lt (X : Nat → Int) (p : Nat) : fId X p < 1008 := by
  have h1 := bsN_below (K := fA X p) 3 (by decide)
  have h2 := bsN_below (K := fB X p) 336 (by decide)
  unfold fId
  omega
theorem bsC_at {K : Nat → Int} : ∀ n, bsC K n = K (bsN K n)
  | 0 => rfl
  | n + 1 => by
    show (if bsC K n < K n then K n else bsC K n) = K (if bsC K n < K n then n else bsN K n)
    split
    · rfl
    · exact bsC_at n
theorem bsC_ge {K : Nat → Int} : ∀ n j, j < n → K j ≤ bsC K n
  | 0, j, hj => absurd hj (Nat.not_lt_zero j)
  | n + 1, j, hj => by
    show K j ≤ if bsC K n < K n then K n else bsC K n
    by_cases e : j = n
    · subst e; split <;> omega
    · have := bsC_ge (K := K) n j (by omega)
      split <;> omega
theorem bsN_is {K : Nat → Int} {i n : Nat} (hi : i < n) (h : ∀ j, j < n → j ≠ i → K j < K i) : bsN K n = i := by
  by_cases e : bsN K n = i
  · exact e
  · exfalso
    have h1 := h _ (bsN_below n (by omega)) e
    have h2 := bsC_ge (K := K) n i hi
    rw [bsC_at] at h2
    omega
/-- A place of the first halves, and of the second ones, where a sequence with errors stands. -/
theorem fA_at {X E : Nat → Int} {p i : Nat} {s : Int} (hX : ∀ j, j < 62 → X (p + j) = s * seqF i j + E j) (u : Nat) : fA X p u = s * (31 - 2 * (difN (halfA u) (halfA i) 31 : Int)) + corS (halfA u) E 31 := by
  unfold fA
  rw [corS_congr (F' := halfA u) (G' := fun j => s * halfA i j + E j) fun j hj => ⟨rfl, by rw [hX j (by omega), seqF_first hj]⟩, corS_add (G := fun j => s * halfA i j), corS_dif 31 fun j _ => ⟨halfA_sign u j, halfA_sign i j⟩]
  rfl
theorem fB_at {X E : Nat → Int} {p i : Nat} {s : Int} (hX : ∀ j, j < 62 → X (p + j) = s * seqF i j + E j) (g : Nat) : fB X p g = s * (31 - 2 * (difN (halfB (3 * g)) (halfB i) 31 : Int)) + corS (halfB (3 * g)) (fun j => E (31 + j)) 31 := by
  unfold fB
  rw [corS_congr (F' := halfB (3 * g)) (G' := fun j => s * halfB i j + E (31 + j)) fun j hj => ⟨rfl, by rw [Nat.add_assoc, hX (31 + j) (by omega), seqF_second]⟩, corS_add (G := fun j => s * halfB i j), corS_dif 31 fun j _ => ⟨halfB_sign _ j, halfB_sign i j⟩]
  rfl
theorem mul_cap {s : Int} {d e : Int} (hs : 0 ≤ s) (h : d ≤ e) : s * d ≤ s * e := Int.mul_le_mul_of_nonneg_left h hs
/-- The sector and the group that were sent have the greatest correlation, even with errors. -/
theorem best_at {X E : Nat → Int} {p i : Nat} {s M : Int} (hi : i < 1008) (hs : 1 ≤ s) (hM : 62 * M < 11 * s) (hE : ∀ j, j < 62 → -M ≤ E j ∧ E j ≤ M) (hX : ∀ j, j < 62 → X (p + j) = s * seqF i j + E j) :
    bsN (fA X p) 3 = i % 3 ∧ bsN (fB X p) 336 = i / 3 := by
  have hA := fun u => corS_abs (M := M) 31 (F := halfA u) (G := E) fun j hj => ⟨halfA_sign u j, hE j (by omega)⟩
  have hB := fun g => corS_abs (M := M) 31 (F := halfB (3 * g)) (G := fun j => E (31 + j)) fun j hj => ⟨halfB_sign _ j, hE (31 + j) (by omega)⟩
  constructor
  · refine bsN_is (by omega) fun u hu hne => ?_
    rw [fA_at hX u, fA_at hX (i % 3), first_is, first_is, if_neg (by omega), if_pos (by omega)]
    have h1 := hA u
    have h2 := hA (i % 3)
    omega
  · refine bsN_is (by omega) fun g hg hne => ?_
    rw [fB_at hX g, fB_at hX (i / 3), second_same (a := 3 * (i / 3)) (b := i) (by omega)]
    have h1 := hB g
    have h2 := hB (i / 3)
    have h3 := second_apart (a := 3 * g) (b := i) (by omega) hi (by omega)
    have h4 := mul_cap (s := s) (d := 31 - 2 * (difN (halfB (3 * g)) (halfB i) 31 : Int)) (e := 9) (by omega) (by omega)
    omega
theorem fId_at {X E : Nat → Int} {p i : Nat} {s M : Int} (hi : i < 1008) (hs : 1 ≤ s) (hM : 62 * M < 11 * s) (hE : ∀ j, j < 62 → -M ≤ E j ∧ E j ≤ M) (hX : ∀ j, j < 62 → X (p + j) = s * seqF i j + E j) : fId X p = i := by
  obtain ⟨h1, h2⟩ := best_at hi hs hM hE hX
  unfold fId
  rw [h1, h2]
  omega
theorem fCo_at {X : Nat → Int} {p i : Nat} {s : Int} (hi : i < 1008) (hs : 1 ≤ s) (hX : ∀ j, j < 62 → X (p + j) = s * seqF i j) : fCo X p = 62 * s := by
  have hX' : ∀ j, j < 62 → X (p + j) = s * seqF i j + (fun _ => 0) j := fun j hj => by rw [hX j hj]; simp
  obtain ⟨h1, h2⟩ := best_at (M := 0) hi hs (by omega) (fun _ _ => ⟨by simp, by simp⟩) hX'
  have hz : ∀ F : Nat → Int, corS F (fun _ => 0) 31 = 0 := fun F => by
    have : ∀ k, corS F (fun _ => 0) k = 0 := fun k => by
      induction k with
      | zero => rfl
      | succ k ih => show corS F (fun _ => 0) k + F k * 0 = 0; rw [ih]; simp
    exact this 31
  unfold fCo
  rw [bsC_at, bsC_at, h1, h2, fA_at hX', fB_at hX', hz, hz, first_is, second_same (a := 3 * (i / 3)) (b := i) (by omega), if_pos (by omega)]
  omega
/-- At another place less comes together. -/
theorem fCo_else {X : Nat → Int} {p q : Nat} {s : Int} (hs : 1 ≤ s) (hX : ∀ j, -s ≤ X j ∧ X j ≤ s) (hl : ∀ j, j < p → X j = 0) (hr : ∀ j, p + 62 ≤ j → X j = 0) (hq : q ≠ p) : fCo X q < 62 * s := by
  have hA := fA_le (X := X) (p := q) (M := s) (fun j _ => hX _) (bsN (fA X q) 3)
  have hB := fB_le (X := X) (p := q) (M := s) (fun j _ => hX _) (bsN (fB X q) 336)
  unfold fCo
  rw [bsC_at, bsC_at]
  generalize bsN (fA X q) 3 = u at *
  generalize bsN (fB X q) 336 = g at *
  by_cases h : q < p
  · have h1 : fA X q u ≤ 30 * s := corS_none (hl (q + 0) (by omega)) 30 fun j _ => ⟨halfA_sign u j, hX _⟩
    omega
  · have h1 : corS (halfB (3 * g)) (fun j => X (q + 31 + j)) 30 ≤ 30 * s := (corS_abs 30 fun j _ => ⟨halfB_sign _ j, hX _⟩).2
    have h2 : fB X q g = corS (halfB (3 * g)) (fun j => X (q + 31 + j)) 30 + halfB (3 * g) 30 * X (q + 31 + 30) := rfl
    rw [hr (q + 31 + 30) (by omega)] at h2
    omega
/-- The cell is found. -/
theorem cell_found {X : Nat → Int} {p i n : Nat} {s : Int} (hi : i < 1008) (hs : 1 ≤ s) (hp : p < n) (hX : ∀ j, j < 62 → X (p + j) = s * seqF i j) (hl : ∀ j, j < p → X j = 0) (hr : ∀ j, p + 62 ≤ j → X j = 0) :
    bsN (fCo X) n = p ∧ fId X p = i ∧ fCo X p = 62 * s := by
  have hc := fCo_at hi hs hX
  have hb : ∀ j, -s ≤ X j ∧ X j ≤ s := fun j => by
    by_cases h1 : j < p
    · rw [hl j h1]; omega
    · by_cases h2 : p + 62 ≤ j
      · rw [hr j h2]; omega
      · obtain ⟨k, rfl⟩ : ∃ k, j = p + k := ⟨j - p, by omega⟩
        rw [hX k (by omega)]
        rcases seqF_sign (i := i) (j := k) (by omega) with e | e <;> rw [e] <;> omega
  refine ⟨bsN_is hp fun q _ hne => ?_, ?_, hc⟩
  · rw [hc]
    exact fCo_else hs hb hl hr hne
  · exact fId_at (E := fun _ => 0) (M := 0) hi hs (by omega) (fun _ _ => ⟨by simp, by simp⟩) fun j hj => by rw [hX j hj]; simp
end Go.Proofs.Ytlhbkjgddpelgaa
/- found of the code: the identity with the greatest correlation at a place. -/
namespace Go.Proofs.Ytlhbkjgddpelgaa
open Go.RowKit Go.Great
theorem Box.putT {w : World} {b : Nat} {t : TypeId} {p0 p1 p2 : Value} (h : Box w b t #[p0, p1, p2]) (u0 u1 u2 : Value) : Box (((w.setCell ⟨b, 0, none⟩ u0).setCell ⟨b, 1, none⟩ u1).setCell ⟨b, 2, none⟩ u2) b t #[u0, u1, u2] := by
  have := ((h.set_ 0 u0).set_ 1 u1).set_ 2 u2
  simpa using this
theorem Box.cellsT {w : World} {b : Nat} {t : TypeId} {p0 p1 p2 : Value} (h : Box w b t #[p0, p1, p2]) :
    w.cell? ⟨b, 0, none⟩ = some p0 ∧ w.cell? ⟨b, 1, none⟩ = some p1 ∧ w.cell? ⟨b, 2, none⟩ = some p2 ∧ w.frozen? ⟨b, 0, none⟩ = false ∧ w.frozen? ⟨b, 1, none⟩ = false ∧ w.frozen? ⟨b, 2, none⟩ = false ∧ b < w.heap.size :=
  ⟨h.at_ 0, h.at_ 1, h.at_ 2, h.free 0, h.free 1, h.free 2, h.lt⟩
theorem Below.putT {B c : Nat} {w W : World} (h : Below B w W) (hc : B ≤ c) (u0 u1 u2 : Value) : Below B w (((W.setCell ⟨c, 0, none⟩ u0).setCell ⟨c, 1, none⟩ u1).setCell ⟨c, 2, none⟩ u2) :=
  ((h.setCell hc u0).setCell hc u1).setCell hc u2
set_option maxHeartbeats 4000000 in
set_option maxRecDepth 100000 in
theorem found_any (A1 A2 : Option Addr) (c1 c2 b o n c p : Nat) (X : Nat → Int) (w : World) (hp : p + 62 ≤ n) (hn : n ≤ 1000) (hnc : n ≤ c) (hc9 : c ≤ 9223372036854775807)
    (h1 : ListsAt w 0 A1 3 (fun _ => 31) halfA) (h2 : ListsAt w 0 A2 336 (fun _ => 31) (fun g => halfB (3 * g))) (hI : IntsAt w 0 (some ⟨b, o, none⟩) n X) (hX : ∀ j, j < 62 → -100000 ≤ X (p + j) ∧ X (p + j) ≤ 100000) :
    Calls Try.prog 27 #[.agg #[.slice A1 3 c1, .slice A2 336 c2], .slice (some ⟨b, o, none⟩) n c, .int .i64 (p : Int)] w fun e w' => e = .returned (.agg #[.int .i64 (p : Int), .int .i64 (fId X p : Int), .int .i64 (fCo X p)]) ∧ Below w.heap.size w w' := by
  have hs1 := bsN_below (K := fA X p) 3 (by decide)
  have hs2 := bsN_below (K := fB X p) 336 (by decide)
  have hk1 := bsC_le (M := 3100000) (fun i => fA_le (M := 100000) hX i) 3
  have hk2 := bsC_le (M := 3100000) (fun i => fB_le (M := 100000) hX i) 336
  obtain ⟨m, hm⟩ : ∃ m : Nat, p + 31 = m := ⟨_, rfl⟩
  have HB1 : Hid (∀ W, ListsAt W 0 A1 3 (fun _ => 31) halfA → IntsAt W 0 (some ⟨b, o + p, none⟩) 31 (fun j => X (p + j)) → Calls Try.prog 53 #[.slice A1 3 c1, .slice (some ⟨b, o + p, none⟩) 31 (c - p)] W fun e w' => e = .returned (.tuple #[.int .i64 (bsN (fA X p) 3 : Int), .int .i64 (bsC (fA X p) 3)]) ∧ W = w') :=
    hide (fun W a k => bestOf_any A1 (some ⟨b, o + p, none⟩) 3 c1 (c - p) halfA (fun j => X (p + j)) W (by decide) (by decide) a k (fun j hj => hX j (by omega)) (fun i _ j _ => halfA_sign i j))
  have HB2 : Hid (∀ W, ListsAt W 0 A2 336 (fun _ => 31) (fun g => halfB (3 * g)) → IntsAt W 0 (some ⟨b, o + m, none⟩) 31 (fun j => X (p + 31 + j)) → Calls Try.prog 53 #[.slice A2 336 c2, .slice (some ⟨b, o + m, none⟩) 31 (c - m)] W fun e w' => e = .returned (.tuple #[.int .i64 (bsN (fB X p) 336 : Int), .int .i64 (bsC (fB X p) 336)]) ∧ W = w') :=
    hide (fun W a k => bestOf_any A2 (some ⟨b, o + m, none⟩) 336 c2 (c - m) (fun g => halfB (3 * g)) (fun j => X (p + 31 + j)) W (by decide) (by decide) a k (fun j hj => by have := hX (31 + j) (by omega); rw [← Nat.add_assoc] at this; exact this) (fun i _ j _ => halfB_sign _ j))
  have HI1 := hide (show IntsAt w 0 (some ⟨b, o + p, none⟩) 31 (fun j => X (p + j)) from hI.cut (by omega))
  have HI2 := hide (show IntsAt w 0 (some ⟨b, o + m, none⟩) 31 (fun j => X (p + 31 + j)) from by have := hI.cut (j := m) (m := 31) (by omega); rw [← hm] at this ⊢; exact this)
  have HF := hide (show (3 * (bsN (fB X p) 336 : Int) + (bsN (fA X p) 3 : Int)) = (fId X p : Int) from by unfold fId; omega)
  have HC := hide (show bsC (fA X p) 3 + bsC (fB X p) 336 = fCo X p from rfl)
  have HL1 := hide h1
  have HL2 := hide h2
  generalize bsN (fA X p) 3 = s1 at *
  generalize bsN (fB X p) 336 = s2 at *
  generalize bsC (fA X p) 3 = k1 at *
  generalize bsC (fB X p) 336 = k2 at *
  generalize fId X p = fi at *
  generalize fCo X p = fc at *
  have q1 : IntKind.i64.wrap ((p : Int) + 31) = (m : Int) := by rw [IntWalk.i64_in _ (by omega)]; omega
  obtain ⟨e, he⟩ : ∃ e : Nat, m + 31 = e := ⟨_, rfl⟩
  have q2 : IntKind.i64.wrap ((m : Int) + 31) = (e : Int) := by rw [IntWalk.i64_in _ (by omega)]; omega
  obtain ⟨t2, ht2⟩ : ∃ z : Int, 3 * (s2 : Int) = z := ⟨_, rfl⟩
  have q3 : IntKind.i64.wrap (3 * (s2 : Int)) = t2 := by rw [IntWalk.i64_in _ (by omega)]; exact ht2
  have q4 : IntKind.i64.wrap (t2 + (s1 : Int)) = (fi : Int) := by rw [IntWalk.i64_in _ (by omega), ← ht2]; exact HF.out
  have q5 : IntKind.i64.wrap (k1 + k2) = fc := by rw [IntWalk.i64_in _ (by omega)]; exact HC.out
  have d1 : m - p = 31 := by omega
  have d2 : e - m = 31 := by omega
  have l1 : p ≤ m := by omega
  have l2 : m ≤ c := by omega
  have l3 : m ≤ e := by omega
  have l4 : e ≤ c := by omega
  have z1 : (p : Int) ≤ (m : Int) := by omega
  have z2 : (m : Int) ≤ (c : Int) := by omega
  have z3 : (m : Int) ≤ (e : Int) := by omega
  have z4 : (e : Int) ≤ (c : Int) := by omega
  have n1 : ¬ c = p := by omega
  have n2 : ¬ c = m := by omega
  clear hs1 hs2 hk1 hk2 hm he ht2 HF HC h1 h2 hI hX hp hn hnc
  go_enter Try.func27, Try.ntmps27
  go_upto_region 1 with fail
  obtain ⟨W, hW⟩ : ∃ y : World, y = (w.alloc (.cells #[.slice A1 3 c1, .slice A2 336 c2] 67)).alloc (.cells #[.int .i64 0, .int .i64 0, .int .i64 0] 25) := ⟨_, rfl⟩
  rw [← hW]
  have bx : Box W w.heap.size 67 #[.slice A1 3 c1, .slice A2 336 c2] := by rw [hW]; exact (Box.made rfl).alloc _
  have by' : Box W (w.heap.size + 1) 25 #[.int .i64 0, .int .i64 0, .int .i64 0] := by rw [hW]; exact Box.made (by simp)
  have hB : Below w.heap.size w W := by rw [hW]; (repeat (first | (with_reducible exact Below.refl _ _) | (with_reducible refine Go.below_drewN ?_ _) | (with_reducible refine Below.drew ?_) | (with_reducible refine Below.alloc ?_ (by first | exact Nat.le_refl _ | (simp; done) | (simp; omega) | omega) _) | (with_reducible refine Below.setCell ?_ (by first | exact Nat.le_refl _ | (simp; done) | (simp; omega) | omega) _)))
  have HM1 := hide (HL1.out.below hB)
  have HM2 := hide (HL2.out.below hB)
  have HJ1 := hide (HI1.out.below hB)
  have HJ2 := hide (HI2.out.below hB)
  have HBB := hide (fun q => ((by'.drewN q).putT (.int .i64 (p : Int)) (.int .i64 (fi : Int)) (.int .i64 fc)).cellsT)
  have HBL := hide (Below.putT hB (c := w.heap.size + 1) (Nat.le_succ _) (.int .i64 (p : Int)) (.int .i64 (fi : Int)) (.int .i64 fc))
  clear hW HL1 HL2 HI1 HI2
  obtain ⟨x0, x1, f0, f1, hlx⟩ := box_two bx
  obtain ⟨y0, y1, y2, g0, g1, g2, hly⟩ := by'.cellsT
  clear bx by' hB
  go_wp2_with fail
  go_quiet ((go_at_call 53; exact Calls.quiet_of_same ((HB1.out _ (by exact HM1.out) (by exact HJ1.out)).mono fun _ _ h => ⟨h.1, h.2.symm⟩)))
  obtain ⟨n1, hn1⟩ : ∃ z : Nat, nq = z := ⟨_, rfl⟩
  try simp only [hn1]
  clear hn1
  go_wp2_with fail
  go_quiet ((go_at_call 53; exact quiet_add_same ((HB2.out _ (by exact HM2.out) (by exact HJ2.out)).mono fun _ _ h => ⟨h.1, h.2.symm⟩)))
  go_wp2_with fail
  clear y0 y1 y2
  obtain ⟨y0, y1, y2, -⟩ := HBB.out (n1 + nq)
  refine bodyPost_ret (v := .agg #[.int .i64 (p : Int), .int .i64 (fi : Int), .int .i64 fc]) ?_ rfl ⟨rfl, ⟨HBL.out.os, HBL.out.tape, HBL.out.output, HBL.out.size, HBL.out.block⟩⟩
  simp [results, Try.results27, go_sem, y0, y1, y2]
end Go.Proofs.Ytlhbkjgddpelgaa
/- IdentityAt of the code. -/
namespace Go.Proofs.Ytlhbkjgddpelgaa
open Go.RowKit Go.Great
/-- The error of a place in received values. -/
def idE (n : Nat) (X : Nat → Int) (a : Int) : Int := firstE [recE n X, unI (withinB a 0 ((n : Int) - 62)) 6]
def idP (n : Nat) (X : Nat → Int) (a : Int) : Int := if idE n X a = 0 then a else 0
def idI (n : Nat) (X : Nat → Int) (a : Int) : Int := if idE n X a = 0 then (fId X a.toNat : Int) else 0
def idC (n : Nat) (X : Nat → Int) (a : Int) : Int := if idE n X a = 0 then fCo X a.toNat else 0
theorem recE_zero {n : Nat} {X : Nat → Int} (h : recE n X = 0) : n ≤ 120 ∧ ∀ j, j < n → -100000 ≤ X j ∧ X j ≤ 100000 := by
  obtain ⟨h1, h2⟩ := firstE_nil h
  obtain ⟨h3, -⟩ := firstE_nil h2
  have h4 := unI_zero (by decide) h1
  simp at h4
  exact ⟨by omega, fun j hj => valE_zero (badE_zero h3 j hj)⟩
theorem idE_zero {n : Nat} {X : Nat → Int} {a : Int} (h : idE n X a = 0) : n ≤ 120 ∧ (∀ j, j < n → -100000 ≤ X j ∧ X j ≤ 100000) ∧ 0 ≤ a ∧ a ≤ (n : Int) - 62 := by
  obtain ⟨h1, h2⟩ := firstE_nil h
  obtain ⟨h3, -⟩ := firstE_nil h2
  obtain ⟨h4, h5⟩ := recE_zero h1
  obtain ⟨h6, h7⟩ := withinB_iff.1 (unI_zero (by decide) h3)
  exact ⟨h4, h5, h6, h7⟩
theorem OwnLists.at_zero {w : World} {base n : Nat} {v : Value} {L : Nat → Nat} {F : Nat → Nat → Int} (h : OwnLists w base v n L F) : ∃ A c, v = .slice A n c ∧ ListsAt w 0 A n L F := by
  obtain ⟨A, c, e, -, -, h1⟩ := h.form
  exact ⟨A, c, e, h1.weak (Nat.zero_le _)⟩
set_option maxHeartbeats 4000000 in
set_option maxRecDepth 100000 in
theorem IdentityAt_any (A : Option Addr) (n c : Nat) (X : Nat → Int) (a : Int) (w : World) (hn : n ≤ 100000) (hnc : n ≤ c) (hc9 : c ≤ 9223372036854775807) (hI : IntsAt w 0 A n X) :
    Calls Try.prog 7 #[.slice A n c, .int .i64 a] w fun e w' => e = .returned (.tuple #[.agg #[.int .i64 (idP n X a), .int .i64 (idI n X a), .int .i64 (idC n X a)], .int .i64 (idE n X a)]) ∧ Below w.heap.size w w' := by
  have HE := hide (show firstE [recE n X, unI (withinB a 0 ((n : Int) - 62)) 6] = idE n X a from rfl)
  have HZ := hide (idE_zero (n := n) (X := X) (a := a))
  have HP := hide (show idP n X a = if idE n X a = 0 then a else 0 from rfl)
  have HQ := hide (show idI n X a = if idE n X a = 0 then (fId X a.toNat : Int) else 0 from rfl)
  have HR := hide (show idC n X a = if idE n X a = 0 then fCo X a.toNat else 0 from rfl)
  have HRE := hide (fun W (h : IntsAt W 0 A n X) => receivedError_any A n c X W hn h)
  have HI := hide hI
  have q1 : IntKind.i64.wrap ((n : Int) - 62) = (n : Int) - 62 := IntWalk.i64_in _ (by omega)
  generalize idP n X a = vp at *
  generalize idI n X a = vi at *
  generalize idC n X a = vc at *
  generalize idE n X a = V at *
  obtain ⟨r, hr⟩ : ∃ z, recE n X = z := ⟨_, rfl⟩
  simp only [hr] at HE HRE
  clear hI hr
  go_enter Try.func7, Try.ntmps7
  go_upto_region 1 with fail
  obtain ⟨W, hW⟩ : ∃ y : World, y = w.alloc (.cells #[.int .i64 0, .int .i64 0, .int .i64 0] 25) := ⟨_, rfl⟩
  rw [← hW]
  have b4 : Box W w.heap.size 25 #[.int .i64 0, .int .i64 0, .int .i64 0] := by rw [hW]; exact Box.made rfl
  have hB : Below w.heap.size w W := by rw [hW]; (repeat (first | (with_reducible exact Below.refl _ _) | (with_reducible refine Go.below_drewN ?_ _) | (with_reducible refine Below.drew ?_) | (with_reducible refine Below.alloc ?_ (by first | exact Nat.le_refl _ | (simp; done) | (simp; omega) | omega) _) | (with_reducible refine Below.setCell ?_ (by first | exact Nat.le_refl _ | (simp; done) | (simp; omega) | omega) _)))
  clear hW
  go_wp2_with fail
  refine (HRE.out _ (HI.out.below hB)).mono ?_
  rintro e w1 ⟨rfl, hb1⟩
  have b41 := b4.below hb1
  have hB1 := hB.trans (hb1.mono hB.size)
  clear hb1 b4 hB HRE
  go_wp2_with (first | (go_at_call 25; refine (isWithin_any _ _ _ _).mono ?_; rintro e w' ⟨rfl, rfl⟩) | (go_at_call 24; refine (unless_any _ _ _).mono ?_; rintro e w' ⟨rfl, rfl⟩))
  refine (firstError_laid [r, unI (withinB a 0 ((n : Int) - 62)) 6] 2 _ _ rfl (by decide)).mono ?_
  rintro e w2 ⟨rfl, hw2⟩
  rw [HE.out]
  have b42 : Box w2 w.heap.size 25 #[.int .i64 0, .int .i64 0, .int .i64 0] := by rw [← hw2]; exact b41.alloc _
  have hB2 : Below w.heap.size w w2 := by rw [← hw2]; exact hB1.alloc hB1.size _
  clear hw2 b41 hB1 HE
  by_cases hv : V = 0
  · obtain ⟨hn1, hX, a0, a1⟩ := HZ.out hv
    obtain ⟨p, rfl⟩ : ∃ p : Nat, a = (p : Int) := ⟨a.toNat, by omega⟩
    have hp : p + 62 ≤ n := by omega
    have HPP := hide (HP.out.trans (if_pos hv))
    have HQQ := hide (HQ.out.trans (if_pos hv))
    have HRR := hide (HR.out.trans (if_pos hv))
    simp only [Int.toNat_natCast] at HQQ HRR
    obtain ⟨b, o, rfl, -⟩ := HI.out 0 (by omega)
    have HFO := hide (fun A1 c1 A2 c2 W (h1 : ListsAt W 0 A1 3 (fun _ => 31) halfA) (h2 : ListsAt W 0 A2 336 (fun _ => 31) (fun g => halfB (3 * g))) (h3 : IntsAt W 0 (some ⟨b, o, none⟩) n X) => found_any A1 A2 c1 c2 b o n c p X W hp (by omega) hnc hc9 h1 h2 h3 (fun j hj => hX (p + j) (by omega)))
    rw [← HQQ.out, ← HRR.out] at HFO
    have tv : (V != 0) = false := by simpa using hv
    subst hv
    clear HZ HP HQ HR hX a0 a1 HQQ HRR
    go_wp2_with fail
    refine (allHalves_any _).mono ?_
    rintro e w3 ⟨v1, v2, rfl, ho1, ho2, hb3⟩
    obtain ⟨A1, c1, rfl, hl1⟩ := ho1.at_zero
    obtain ⟨A2, c2, rfl, hl2⟩ := ho2.at_zero
    have b43 := b42.below hb3
    have hB3 := hB2.trans (hb3.mono hB2.size)
    clear hb3 b42 hB2 ho1 ho2
    go_wp2_with fail
    refine (HFO.out A1 c1 A2 c2 _ hl1 hl2 (HI.out.below hB3)).mono ?_
    rintro e w4 ⟨rfl, hb4⟩
    have b44 := b43.below hb4
    have hB4 := hB3.trans (hb4.mono hB3.size)
    clear hb4 b43 hB3 hl1 hl2 HFO
    obtain ⟨y0, y1, y2, g0, g1, g2, hly⟩ := b44.cellsT
    have HBB := hide (b44.putT (.int .i64 (p : Int)) (.int .i64 vi) (.int .i64 vc)).cellsT
    have HBL := hide (Below.putT hB4 (c := w.heap.size) (Nat.le_refl _) (.int .i64 (p : Int)) (.int .i64 vi) (.int .i64 vc))
    clear b44 hB4
    go_wp2_with fail
    clear y0 y1 y2
    obtain ⟨y0, y1, y2, -⟩ := HBB.out
    refine bodyPost_ret (v := .tuple #[.agg #[.int .i64 (p : Int), .int .i64 vi, .int .i64 vc], .int .i64 0]) ?_ rfl ⟨by rw [HPP.out], HBL.out⟩
    simp [results, Try.results7, go_sem, y0, y1, y2]
  · have tv : (V != 0) = true := by simpa using hv
    have HPP := hide (HP.out.trans (if_neg hv))
    have HQQ := hide (HQ.out.trans (if_neg hv))
    have HRR := hide (HR.out.trans (if_neg hv))
    obtain ⟨y0, y1, y2, g0, g1, g2, hly⟩ := b42.cellsT
    have HBB := hide (b42.putT (.int .i64 0) (.int .i64 0) (.int .i64 0)).cellsT
    have HBL := hide (Below.putT hB2 (c := w.heap.size) (Nat.le_refl _) (.int .i64 0) (.int .i64 0) (.int .i64 0))
    clear hv b42 hB2 HZ HP HQ HR
    go_wp2_with fail
    clear y0 y1 y2
    obtain ⟨y0, y1, y2, -⟩ := HBB.out
    refine bodyPost_ret (v := .tuple #[.agg #[.int .i64 0, .int .i64 0, .int .i64 0], .int .i64 V]) ?_ rfl ⟨by rw [HPP.out, HQQ.out, HRR.out], HBL.out⟩
    simp [results, Try.results7, go_sem, y0, y1, y2]
end Go.Proofs.Ytlhbkjgddpelgaa
