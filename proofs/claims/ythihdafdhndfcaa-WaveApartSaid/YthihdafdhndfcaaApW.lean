/- Lemmas: Ta, Tb. -/
import Derived.BigQuiet
import Derived.Test.YthihdafdhndfcaaBk03
import Derived.Test.YthihdafdhndfcaaBk09
set_option linter.unusedVariables false
set_option linter.unusedSimpArgs false
/- Mathematics: the two sequences of signs as tables; how far sequences are apart. -/
namespace Go.Proofs.Ythihdafdhndfcaa
open Go.RowKit
/-- What the array is at the end obeys its own rule. -/
theorem sgA_keep (T : Nat → Nat) (m : Nat) {k j : Nat} (hj : j < k + 5) : ∀ d, sgA T m (k + d) j = sgA T m k j
  | 0 => rfl
  | d + 1 => by
    show (if j = (k + d) + 5 then _ else sgA T m (k + d) j) = _
    rw [if_neg (by omega)]
    exact sgA_keep T m hj d
theorem tapP_congr {T : Nat → Nat} {S R : Nat → Int} {k m : Nat} (hT : ∀ i, i < m → T i < 5) (h : ∀ j, j < k + 5 → S j = R j) : ∀ i, i ≤ m → tapP T S k i = tapP T R k i
  | 0, _ => rfl
  | i + 1, hi => by
    show tapP T S k i * S (k + T i) = tapP T R k i * R (k + T i)
    rw [tapP_congr hT h i (by omega), h _ (by have := hT i (by omega); omega)]
theorem sgF_step (T : Nat → Nat) (m : Nat) (hT : ∀ i, i < m → T i < 5) {k : Nat} (hk : k < 26) : sgF T m (k + 5) = tapP T (sgF T m) k m := by
  unfold sgF
  rw [show (26 : Nat) = (k + 1) + (25 - k) by omega, sgA_keep T m (show k + 5 < (k + 1) + 5 by omega)]
  show (if k + 5 = k + 5 then tapP T (sgA T m k) k m else _) = _
  rw [if_pos rfl]
  exact tapP_congr hT (fun j hj => by rw [show (k + 1) + (25 - k) = k + (26 - k) by omega, sgA_keep T m hj]) m (Nat.le_refl m)
theorem sgF_low (T : Nat → Nat) (m : Nat) {j : Nat} (hj : j < 5) : sgF T m j = if j = 0 then -1 else 1 := by
  unfold sgF
  rw [show (26 : Nat) = 0 + 26 from rfl, sgA_keep T m (k := 0) (by omega)]
  show (if j = 0 then (-1 : Int) else if j < 5 then 1 else 0) = _
  rw [if_pos hj]
theorem sgF_table (T : Nat → Nat) (m : Nat) (hT : ∀ i, i < m → T i < 5) (R : Nat → Int) (h0 : ∀ j, j < 5 → R j = if j = 0 then -1 else 1) (h1 : ∀ k, k < 26 → R (k + 5) = tapP T R k m) :
    ∀ n j, j < n → j < 31 → sgF T m j = R j
  | 0, j, hj, _ => absurd hj (Nat.not_lt_zero j)
  | n + 1, j, hj, h31 => by
    by_cases h5 : j < 5
    · rw [sgF_low T m h5, h0 j h5]
    · obtain ⟨k, rfl⟩ : ∃ k, j = k + 5 := ⟨j - 5, by omega⟩
      rw [sgF_step T m hT (by omega), h1 k (by omega)]
      exact tapP_congr hT (fun q hq => sgF_table T m hT R h0 h1 n q (by omega) (by omega)) m (Nat.le_refl m)
def tS (j : Nat) : Int := ([-1, 1, 1, 1, 1, -1, 1, 1, -1, 1, -1, -1, 1, 1, -1, -1, -1, -1, -1, 1, 1, 1, -1, -1, 1, -1, -1, -1, 1, -1, 1] : List Int).getD j 0
def tV (j : Nat) : Int := ([-1, 1, 1, 1, 1, -1, -1, 1, 1, -1, 1, 1, -1, -1, -1, -1, -1, 1, -1, -1, -1, 1, 1, 1, -1, 1, -1, 1, -1, -1, 1] : List Int).getD j 0
theorem sgS {j : Nat} (hj : j < 31) : sgF T2 2 j = tS j :=
  sgF_table T2 2 (fun i _ => T2_lt i) tS (by decide) (by decide) (j + 1) j (Nat.lt_succ_self j) hj
theorem sgV {j : Nat} (hj : j < 31) : sgF T4 4 j = tV j :=
  sgF_table T4 4 (fun i _ => T4_lt i) tV (by decide) (by decide) (j + 1) j (Nat.lt_succ_self j) hj
/-- A sequence shifted, or all ones (e = 31). -/
def shE (t : Nat → Int) (e n : Nat) : Int := if e = 31 then 1 else t ((n + e) % 31)
def okE (t : Nat → Int) (b c e : Nat) : Bool := (List.range 31).all fun n => t ((n + b) % 31) * t ((n + c) % 31) == shE t e n
def pairOk (t : Nat → Int) (b c : Nat) : Bool := (List.range 32).any fun e => okE t b c e && (e != 31 || b == c)
def allOk (t : Nat → Int) : Bool := (List.range 31).all fun b => (List.range 31).all fun c => pairOk t b c
theorem allS : allOk tS = true := by kernel_rfl
theorem allV : allOk tV = true := by kernel_rfl
/-- How many of the first k values are -1. -/
def negN (H : Nat → Int) : Nat → Nat
  | 0 => 0
  | k + 1 => if H k = -1 then negN H k + 1 else negN H k
def farOk : Bool := (List.range 32).all fun e => (List.range 32).all fun f => (e == 31 && f == 31) || decide (11 ≤ negN (fun n => shE tS e n * shE tV f n) 31)
theorem far : farOk = true := by kernel_rfl
theorem pair_of {t : Nat → Int} (h : allOk t = true) {b c : Nat} (hb : b < 31) (hc : c < 31) : ∃ e, e < 32 ∧ (∀ n, n < 31 → t ((n + b) % 31) * t ((n + c) % 31) = shE t e n) ∧ (e = 31 → b = c) := by
  unfold allOk at h
  rw [List.all_eq_true] at h
  have h1 := h b (List.mem_range.2 hb)
  rw [List.all_eq_true] at h1
  have h2 := h1 c (List.mem_range.2 hc)
  unfold pairOk at h2
  rw [List.any_eq_true] at h2
  obtain ⟨e, he, h3⟩ := h2
  rw [Bool.and_eq_true] at h3
  refine ⟨e, List.mem_range.1 he, fun n hn => ?_, fun e31 => ?_⟩
  · have h4 := h3.1
    unfold okE at h4
    rw [List.all_eq_true] at h4
    simpa using h4 n (List.mem_range.2 hn)
  · have h5 := h3.2
    rw [e31] at h5
    simpa using h5
theorem far_of {e f : Nat} (he : e < 32) (hf : f < 32) (h : ¬ (e = 31 ∧ f = 31)) : 11 ≤ negN (fun n => shE tS e n * shE tV f n) 31 := by
  have h0 := far
  unfold farOk at h0
  rw [List.all_eq_true] at h0
  have h1 := h0 e (List.mem_range.2 he)
  rw [List.all_eq_true] at h1
  have h2 := h1 f (List.mem_range.2 hf)
  rw [Bool.or_eq_true] at h2
  rcases h2 with h2 | h2
  · exact absurd (by simpa using h2) h
  · exact of_decide_eq_true h2
/-- At how many of the first k places two sequences differ. -/
def difN (F G : Nat → Int) : Nat → Nat
  | 0 => 0
  | k + 1 => if F k = G k then difN F G k else difN F G k + 1
theorem difN_neg {F G : Nat → Int} : ∀ k, (∀ n, n < k → IsSign (F n) ∧ IsSign (G n)) → difN F G k = negN (fun n => F n * G n) k
  | 0, _ => rfl
  | k + 1, h => by
    unfold difN negN
    rw [difN_neg k fun n hn => h n (by omega)]
    obtain ⟨hf, hg⟩ := h k (Nat.lt_succ_self k)
    rcases hf with hf | hf <;> rcases hg with hg | hg <;> simp [hf, hg]
theorem negN_congr {H K : Nat → Int} : ∀ k, (∀ n, n < k → H n = K n) → negN H k = negN K k
  | 0, _ => rfl
  | k + 1, h => by
    unfold negN
    rw [negN_congr k fun n hn => h n (by omega), h k (Nat.lt_succ_self k)]
theorem difN_same {F : Nat → Int} : ∀ k, difN F F k = 0
  | 0 => rfl
  | k + 1 => by unfold difN; rw [if_pos rfl]; exact difN_same k
theorem difN_congr {F G F' G' : Nat → Int} : ∀ k, (∀ n, n < k → F n = F' n ∧ G n = G' n) → difN F G k = difN F' G' k
  | 0, _ => rfl
  | k + 1, h => by
    unfold difN
    rw [difN_congr k fun n hn => h n (by omega), (h k (Nat.lt_succ_self k)).1, (h k (Nat.lt_succ_self k)).2]
theorem difN_le {F G : Nat → Int} : ∀ k, difN F G k ≤ k
  | 0 => Nat.le_refl _
  | k + 1 => by unfold difN; split <;> (have := difN_le (F := F) (G := G) k; omega)
theorem halfA_table {i n : Nat} : halfA i n = tS ((n + 10 * (i % 3)) % 31) := sgS (Nat.mod_lt _ (by decide))
theorem halfB_table {i n : Nat} : halfB i n = tS ((n + i / 3 % 31) % 31) * tV ((n + i / 3 / 31) % 31) := by
  unfold halfB
  rw [sgS (Nat.mod_lt _ (by decide)), sgV (Nat.mod_lt _ (by decide))]
theorem tS_sign {j : Nat} (hj : j < 31) : IsSign (tS j) := by rw [← sgS hj]; exact sgF_sign (fun i _ => T2_lt i) j hj
theorem tV_sign {j : Nat} (hj : j < 31) : IsSign (tV j) := by rw [← sgV hj]; exact sgF_sign (fun i _ => T4_lt i) j hj
/-- Second halves of two groups. -/
theorem second_apart {a b : Nat} (ha : a < 1008) (hb : b < 1008) (h : a / 3 ≠ b / 3) : 11 ≤ difN (halfB a) (halfB b) 31 := by
  have hm : ∀ q, q % 31 < 31 := fun q => Nat.mod_lt q (by decide)
  rw [difN_neg 31 fun n _ => ⟨by rw [halfB_table]; exact (tS_sign (hm _)).mul (tV_sign (hm _)), by rw [halfB_table]; exact (tS_sign (hm _)).mul (tV_sign (hm _))⟩]
  obtain ⟨e, he, h1, h1'⟩ := pair_of allS (hm (a / 3)) (hm (b / 3))
  obtain ⟨f, hf, h2, h2'⟩ := pair_of allV (b := a / 3 / 31) (c := b / 3 / 31) (by omega) (by omega)
  rw [negN_congr (K := fun n => shE tS e n * shE tV f n) 31 fun n hn => by
    show halfB a n * halfB b n = _
    rw [halfB_table, halfB_table, ← h1 n hn, ← h2 n hn]
    generalize tS ((n + a / 3 % 31) % 31) = p
    generalize tV ((n + a / 3 / 31) % 31) = q
    generalize tS ((n + b / 3 % 31) % 31) = r
    generalize tV ((n + b / 3 / 31) % 31) = s
    rw [Int.mul_assoc, Int.mul_assoc, Int.mul_left_comm q r s]]
  exact far_of he hf fun ⟨e31, f31⟩ => by have := h1' e31; have := h2' f31; omega
theorem second_same {a b : Nat} (h : a / 3 = b / 3) : difN (halfB a) (halfB b) 31 = 0 := by
  rw [difN_congr (F' := halfB b) (G' := halfB b) 31 fun n _ => ⟨by unfold halfB; rw [h], rfl⟩]
  exact difN_same 31
def firstOk : Bool := (List.range 3).all fun s => (List.range 3).all fun t => difN (fun n => tS ((n + 10 * s) % 31)) (fun n => tS ((n + 10 * t) % 31)) 31 == if s = t then 0 else 16
theorem first_all : firstOk = true := by kernel_rfl
theorem first_is (a b : Nat) : difN (halfA a) (halfA b) 31 = if a % 3 = b % 3 then 0 else 16 := by
  rw [difN_congr (F' := fun n => tS ((n + 10 * (a % 3)) % 31)) (G' := fun n => tS ((n + 10 * (b % 3)) % 31)) 31 fun n _ => ⟨halfA_table, halfA_table⟩]
  have h0 := first_all
  unfold firstOk at h0
  rw [List.all_eq_true] at h0
  have h1 := h0 (a % 3) (List.mem_range.2 (Nat.mod_lt a (by decide)))
  rw [List.all_eq_true] at h1
  have h2 := h1 (b % 3) (List.mem_range.2 (Nat.mod_lt b (by decide)))
  simpa using h2
end Go.Proofs.Ythihdafdhndfcaa
/- The walk of WaveApart. -/
namespace Go.Proofs.Ythihdafdhndfcaa
open Go.RowKit Go.Great
theorem identityErr_any (n : Int) (w : World) :
    Calls Try.prog 33 #[.int .i64 n] w fun e w' => e = .returned (.int .i64 (unI (withinB n 0 1007) 2)) ∧ w = w' := by
  have HX := hide (fun W => within_any n 0 1007 W)
  generalize withinB n 0 1007 = v at *
  cases v
  all_goals
    go_enter Try.func33, Try.ntmps33
    go_wp2_with (go_at_call 47; refine (HX.out _).mono ?_; rintro e w' ⟨rfl, rfl⟩)
    go_ret
    exact ⟨rfl, rfl⟩
theorem seqF_first {i k : Nat} (h : k < 31) : seqF i k = halfA i k := by unfold seqF catF; rw [if_pos h]
theorem seqF_second {i k : Nat} : seqF i (31 + k) = halfB i k := by unfold seqF catF; rw [if_neg (by omega), show 31 + k - 31 = k by omega]
set_option maxHeartbeats 8000000 in
set_option maxRecDepth 100000 in
theorem waveApart_walk (a b : Int) (w : World) :
    Calls Try.prog 7 #[.int .i64 a, .int .i64 b] w fun e w' => e = .returned (.bool true) ∧ Below w.heap.size w w' := by
  have HAW := hide (fun W => awake_any W)
  cases hza : withinB a 0 1007
  · have HZA := hide (show unI (withinB a 0 1007) 2 = 2 from by rw [hza]; rfl)
    have HZB := HZA
    clear hza
    go_enter Try.func7, Try.ntmps7
    go_wp2_with fail
    refine (HAW.out _).mono ?_
    rintro e w1 ⟨rfl, hb1⟩
    go_wp2_with (go_at_call 33; refine (identityErr_any _ _).mono ?_; rintro e w' ⟨rfl, rfl⟩; first | rw [HZA.out] | rw [HZB.out])
    go_ret
    exact ⟨rfl, hb1⟩
  cases hzb : withinB b 0 1007
  · have HZA := hide (show unI (withinB a 0 1007) 2 = 0 from by rw [hza]; rfl)
    have HZB := hide (show unI (withinB b 0 1007) 2 = 2 from by rw [hzb]; rfl)
    clear hza hzb
    go_enter Try.func7, Try.ntmps7
    go_wp2_with fail
    refine (HAW.out _).mono ?_
    rintro e w1 ⟨rfl, hb1⟩
    go_wp2_with (go_at_call 33; refine (identityErr_any _ _).mono ?_; rintro e w' ⟨rfl, rfl⟩; first | rw [HZA.out] | rw [HZB.out])
    go_ret
    exact ⟨rfl, hb1⟩
  have HZA := hide (show unI (withinB a 0 1007) 2 = 0 from by rw [hza]; rfl)
  have HZB := hide (show unI (withinB b 0 1007) 2 = 0 from by rw [hzb]; rfl)
  obtain ⟨a0, a1⟩ := withinB_iff.1 hza
  obtain ⟨b0, b1⟩ := withinB_iff.1 hzb
  obtain ⟨i, rfl⟩ : ∃ i : Nat, a = (i : Int) := ⟨a.toNat, by omega⟩
  obtain ⟨j, rfl⟩ : ∃ j : Nat, b = (j : Int) := ⟨b.toNat, by omega⟩
  have hi : i < 1008 := by omega
  have hj : j < 1008 := by omega
  have HSI := hide (fun W => SequenceOf_right i W hi)
  have HSJ := hide (fun W => SequenceOf_right j W hj)
  have HSEC := hide (show (i / 3 ≠ j / 3 → 11 ≤ difN (halfB i) (halfB j) 31) ∧ (i / 3 = j / 3 → difN (halfB i) (halfB j) 31 = 0) from ⟨second_apart hi hj, second_same⟩)
  have HFST := hide (first_is i j)
  clear hza hzb a0 a1 b0 b1
  go_enter Try.func7, Try.ntmps7
  go_wp2_with fail
  refine (HAW.out _).mono ?_
  rintro e w1 ⟨rfl, hb1⟩
  go_wp2_with (go_at_call 33; refine (identityErr_any _ _).mono ?_; rintro e w' ⟨rfl, rfl⟩; first | rw [HZA.out] | rw [HZB.out])
  refine (HSI.out _).mono ?_
  rintro e w2 ⟨A, c, rfl, hc, hI, hb2⟩
  have hB2 := hb1.trans (hb2.mono hb1.size)
  clear hb1 hb2
  go_wp2_with fail
  refine (HSJ.out _).mono ?_
  rintro e w3 ⟨B, d, rfl, hd, hJ, hb3⟩
  replace hI := (hI.below hb3).weak (Nat.zero_le _)
  replace hJ := hJ.weak (Nat.zero_le _)
  have hB3 := hB2.trans (hb3.mono hB2.size)
  clear hb3 hB2
  have HI := hide hI
  have HJ := hide hJ
  clear hI hJ hc hd
  go_wp2_with fail
  go_loopw [9, 10, 11] (fun f s n wr => ∃ k : Nat, k ≤ 31 ∧ f = .int .i64 (difN (halfA i) (halfA j) k : Nat) ∧ s = .int .i64 (difN (halfB i) (halfB j) k : Nat) ∧ n = .int .i64 (k : Int) ∧ Below w3.heap.size w3 wr) (fun _ _ n _ => 31 - (Go.RowKit.intOf n).toNat)
  case atStart => exact ⟨0, by decide, rfl, rfl, rfl, Below.refl _ _⟩
  case round =>
    obtain ⟨k, hk, rfl, rfl, rfl, hW⟩ := hrel
    obtain ⟨wA, rfl⟩ : ∃ q : World, q = wr := ⟨_, rfl⟩
    have l1 := difN_le (F := halfA i) (G := halfA j) k
    have l2 := difN_le (F := halfB i) (G := halfB j) k
    have HF := hide (show difN (halfA i) (halfA j) (k + 1) = if halfA i k = halfA j k then difN (halfA i) (halfA j) k else difN (halfA i) (halfA j) k + 1 from rfl)
    have HG := hide (show difN (halfB i) (halfB j) (k + 1) = if halfB i k = halfB j k then difN (halfB i) (halfB j) k else difN (halfB i) (halfB j) k + 1 from rfl)
    obtain ⟨f, hf⟩ : ∃ f, f = difN (halfA i) (halfA j) k := ⟨_, rfl⟩
    obtain ⟨g, hg⟩ : ∃ g, g = difN (halfB i) (halfB j) k := ⟨_, rfl⟩
    rw [← hf] at l1 HF
    rw [← hg] at l2 HG
    rw [← hf, ← hg]
    by_cases hlt : k < 31
    · have hltz : (k : Int) < 31 := by omega
      obtain ⟨m, hm⟩ : ∃ m, m = 31 + k := ⟨_, rfl⟩
      have hmz : (m : Int) < 62 := by omega
      have hkz : (k : Int) < 62 := by omega
      have q1 : IntKind.i64.wrap (31 + (k : Int)) = (m : Int) := by rw [IntWalk.i64_in _ (by omega)]; omega
      obtain ⟨ab, ao, hA, -, -, x0⟩ := (HI.out.below hW) k (by omega)
      obtain ⟨ab', ao', hA', -, -, x1⟩ := (HI.out.below hW) m (by omega)
      obtain ⟨bb, bo, hBB, -, -, y0⟩ := (HJ.out.below hW) k (by omega)
      obtain ⟨bb', bo', hBB', -, -, y1⟩ := (HJ.out.below hW) m (by omega)
      subst hA hBB
      injection hA' with e1
      injection e1 with e2 e3
      subst e2 e3
      injection hBB' with e1
      injection e1 with e2 e3
      subst e2 e3
      rw [seqF_first hlt] at x0 y0
      rw [hm, seqF_second, ← hm] at x1 y1
      generalize halfA i k = p at *
      generalize halfA j k = q at *
      generalize halfB i k = r at *
      generalize halfB j k = s at *
      clear hf hg hm
      by_cases hpq : p = q <;> by_cases hrs : r = s
      · skip
        have HF' := hide (HF.out.trans (if_pos hpq))
        have HG' := hide (HG.out.trans (if_pos hrs))
        have t1 : (p != q) = false := by simpa using hpq
        have t2 : (r != s) = false := by simpa using hrs
        clear hpq hrs HF HG
        go_wp2_with fail
        go_quiet (fail)
        go_wp2_with fail
        go_quiet (fail)
        go_wp2_with fail
        go_roundw
        case rel => exact ⟨k + 1, by omega, by rw [HF'.out], by rw [HG'.out], by go_num, ⟨hW.os, hW.tape, hW.output, hW.size, hW.block⟩⟩
        case measure => simp [Go.RowKit.intOf]; omega
      · skip
        have HF' := hide (HF.out.trans (if_pos hpq))
        have HG' := hide (HG.out.trans (if_neg hrs))
        have t1 : (p != q) = false := by simpa using hpq
        have t2 : (r != s) = true := by simpa using hrs
        clear hpq hrs HF HG
        go_wp2_with fail
        go_quiet (fail)
        go_wp2_with fail
        go_quiet (fail)
        go_wp2_with fail
        go_roundw
        case rel => exact ⟨k + 1, by omega, by rw [HF'.out], by rw [HG'.out]; go_num, by go_num, ⟨hW.os, hW.tape, hW.output, hW.size, hW.block⟩⟩
        case measure => simp [Go.RowKit.intOf]; omega
      · skip
        have HF' := hide (HF.out.trans (if_neg hpq))
        have HG' := hide (HG.out.trans (if_pos hrs))
        have t1 : (p != q) = true := by simpa using hpq
        have t2 : (r != s) = false := by simpa using hrs
        clear hpq hrs HF HG
        go_wp2_with fail
        go_quiet (fail)
        go_wp2_with fail
        go_quiet (fail)
        go_wp2_with fail
        go_roundw
        case rel => exact ⟨k + 1, by omega, by rw [HF'.out]; go_num, by rw [HG'.out], by go_num, ⟨hW.os, hW.tape, hW.output, hW.size, hW.block⟩⟩
        case measure => simp [Go.RowKit.intOf]; omega
      · skip
        have HF' := hide (HF.out.trans (if_neg hpq))
        have HG' := hide (HG.out.trans (if_neg hrs))
        have t1 : (p != q) = true := by simpa using hpq
        have t2 : (r != s) = true := by simpa using hrs
        clear hpq hrs HF HG
        go_wp2_with fail
        go_quiet (fail)
        go_wp2_with fail
        go_quiet (fail)
        go_wp2_with fail
        go_roundw
        case rel => exact ⟨k + 1, by omega, by rw [HF'.out]; go_num, by rw [HG'.out]; go_num, by go_num, ⟨hW.os, hW.tape, hW.output, hW.size, hW.block⟩⟩
        case measure => simp [Go.RowKit.intOf]; omega
    · obtain rfl : k = 31 := by omega
      obtain ⟨hs1, hs2⟩ := HSEC.out
      have hfi := HFST.out
      rw [← hg] at hs1 hs2
      rw [← hf] at hfi
      clear hf hg HF HG
      by_cases hgr : i / 3 = j / 3 <;> by_cases hse : i % 3 = j % 3
      · have tg : ((i : Int) / 3 != (j : Int) / 3) = false := by simp; omega
        have ts : ((i : Int) % 3 != (j : Int) % 3) = false := by simp; omega
        have hg0 := hs2 hgr
        subst hg0
        have hf0 : f = 0 := hfi.trans (if_pos hse)
        subst hf0
        clear hgr hse hs1 hs2 hfi
        go_wp2_with fail
        go_ret
        exact ⟨rfl, hB3.trans (hW.mono hB3.size)⟩
      · have tg : ((i : Int) / 3 != (j : Int) / 3) = false := by simp; omega
        have ts : ((i : Int) % 3 != (j : Int) % 3) = true := by simp; omega
        have hg0 := hs2 hgr
        subst hg0
        have hf0 : f = 16 := hfi.trans (if_neg hse)
        subst hf0
        clear hgr hse hs1 hs2 hfi
        go_wp2_with fail
        go_ret
        exact ⟨rfl, hB3.trans (hW.mono hB3.size)⟩
      · have tg : ((i : Int) / 3 != (j : Int) / 3) = true := by simp; omega
        have ts : ((i : Int) % 3 != (j : Int) % 3) = false := by simp; omega
        have hg11 : (11 : Int) ≤ (g : Int) := by have := hs1 hgr; omega
        have hf0 : f = 0 := hfi.trans (if_pos hse)
        subst hf0
        clear hgr hse hs1 hs2 hfi
        go_wp2_with fail
        go_ret
        exact ⟨rfl, hB3.trans (hW.mono hB3.size)⟩
      · have tg : ((i : Int) / 3 != (j : Int) / 3) = true := by simp; omega
        have ts : ((i : Int) % 3 != (j : Int) % 3) = true := by simp; omega
        have hg11 : (11 : Int) ≤ (g : Int) := by have := hs1 hgr; omega
        have hf0 : f = 16 := hfi.trans (if_neg hse)
        subst hf0
        clear hgr hse hs1 hs2 hfi
        go_wp2_with fail
        go_ret
        exact ⟨rfl, hB3.trans (hW.mono hB3.size)⟩
end Go.Proofs.Ythihdafdhndfcaa
