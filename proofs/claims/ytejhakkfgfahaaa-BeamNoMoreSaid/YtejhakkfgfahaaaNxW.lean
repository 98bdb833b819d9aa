/- Lemmas: E34, E35. -/
import Derived.Test.YtejhakkfgfahaaaBq12
import Derived.Test.YtejhakkfgfahaaaBq15
import Derived.Test.YtejhakkfgfahaaaBq16
import Derived.Test.YtejhakkfgfahaaaBq19
import Derived.Test.YtejhakkfgfahaaaBq20
set_option linter.unusedVariables false
set_option linter.unusedSimpArgs false
/- The mathematics of gains: none above the square of the antennas that are on; the eight together are eight times as many as those. -/
namespace Go.Proofs.Ytejhakkfgfahaaa
open Go.RowKit
theorem Num.add_zero_ (x : Num) : x.add Num.zero = x := by
  obtain ⟨a, b, c, d⟩ := x
  simp [Num.add, Num.zero]
theorem zero_turns : ∀ k, Num.zero.turns k = Num.zero
  | 0 => rfl
  | k + 1 => by
    show (Num.zero.turns k).turn = Num.zero
    rw [zero_turns k]
    rfl
def onI (F : Nat → Int) (j : Nat) : Int := if F j = -1 then 0 else 1
def phM (F : Nat → Int) (s j : Nat) : Nat := if F j = -1 then 0 else (ahF F s j).toNat
theorem rs_step {F : Nat → Int} {s k : Nat} (hF : -1 ≤ F k) : rsN F s (k + 1) = (rsN F s k).add ((realN (onI F k) 0).turns (phM F s k)) := by
  unfold onI phM
  by_cases h : F k = -1
  · rw [if_pos h, if_pos h, rs_off h]
    exact (Num.add_zero_ _).symm
  · rw [if_neg h, if_neg h, rs_on h hF]
    have e : ahF F s k = (F k + ((k * s : Nat) : Int)) % 8 := if_neg h
    rw [e]
    rfl
theorem rs_sum {F : Nat → Int} {s : Nat} : ∀ k, (∀ j, j < k → -1 ≤ F j) → rsN F s k = sumT (onI F) (fun _ => 0) (phM F s) k
  | 0, _ => rfl
  | k + 1, h => by
    rw [rs_step (h k (Nat.lt_succ_self k)), rs_sum k fun j hj => h j (by omega)]
    rfl
theorem onI_sum (F : Nat → Int) : ∀ k, sumI (onI F) k = (onN F k : Int)
  | 0 => rfl
  | k + 1 => by
    have ih := onI_sum F k
    show sumI (onI F) k + onI F k = _
    rw [ih, show onN F (k + 1) = if F k = -1 then onN F k else onN F k + 1 from rfl]
    unfold onI
    by_cases h : F k = -1
    · rw [if_pos h, if_pos h]; omega
    · rw [if_neg h, if_neg h]; omega
theorem zeroI_sum : ∀ k, sumI (fun _ => (0 : Int)) k = 0
  | 0 => rfl
  | k + 1 => by
    show sumI (fun _ => (0 : Int)) k + 0 = 0
    rw [zeroI_sum k]
    rfl
theorem gain_TN {F : Nat → Int} {s n : Nat} (hF : ∀ j, j < n → -1 ≤ F j ∧ F j ≤ 7) : TN ((onN F n : Int) * (onN F n : Int) - (rsN F s n).sqP) (-(rsN F s n).sqQ) := by
  have h := def_TN (p := onI F) (q := fun _ => 0) (m := phM F s) n fun i hi => by
    refine ⟨?_, ?_⟩
    · unfold onI
      split
      · exact ⟨by decide, by decide⟩
      · exact ⟨by decide, by decide⟩
    · unfold phM ahF
      split
      · omega
      · first | omega | (split <;> omega)
  unfold defP defQ at h
  rw [← rs_sum n fun j hj => (hF j hj).1, onI_sum, zeroI_sum] at h
  have e1 : (onN F n : Int) * (onN F n : Int) + 2 * (0 * 0) - (rsN F s n).sqP = (onN F n : Int) * (onN F n : Int) - (rsN F s n).sqP := by omega
  have e2 : 2 * ((onN F n : Int) * 0) - (rsN F s n).sqQ = -(rsN F s n).sqQ := by omega
  rw [e1, e2] at h
  exact h
/-- No gain is larger than the square of the antennas that are on. -/
theorem no_more {F : Nat → Int} {s n : Nat} (hF : ∀ j, j < n → -1 ≤ F j ∧ F j ≤ 7) : compI ((rsN F s n).sqP - (onN F n : Int) * (onN F n : Int)) (0 - (rsN F s n).sqQ) ≤ 0 := by
  have h := gain_TN (s := s) hF
  generalize (rsN F s n).sqP = P at *
  generalize (rsN F s n).sqQ = Q at *
  generalize (onN F n : Int) * (onN F n : Int) = m at *
  rw [show (0 : Int) - Q = -Q by omega, ← refC_comp]
  by_cases h0 : 0 < m - P
  · have h1 := (refC_pos h h0).2
    rw [show -(m - P) = P - m by omega, Int.neg_neg] at h1
    omega
  · obtain ⟨h1, h2⟩ := h
    have e : m - P = 0 := by omega
    rw [e] at h2
    have hq : Q = 0 := by
      have h3 : 0 ≤ Q * Q := by
        rcases Int.le_total 0 Q with k | k
        · exact Int.mul_nonneg k k
        · have := Int.mul_nonneg (show 0 ≤ -Q by omega) (show 0 ≤ -Q by omega)
          rwa [Int.neg_mul_neg] at this
      rw [Int.neg_mul_neg] at h2
      have h4 : Q * Q = 0 := by omega
      rcases Int.mul_eq_zero.1 h4 with k | k <;> exact k
    rw [show P - m = 0 by omega, hq]
    decide
/-- The antennas as the parts of a transform. -/
def anE (F : Nat → Int) (n k : Nat) : Num := if k < n ∧ F k ≠ -1 then oneN.turns (F k).toNat else Num.zero
theorem tz_zero (k : Int) : tz Num.zero k = Num.zero := zero_turns _
theorem anE_turn {F : Nat → Int} {s n k : Nat} (hk : k < n) (hF : -1 ≤ F k ∧ F k ≤ 7) : tz (anE F n k) ((k : Int) * (s : Int)) = (realN (onI F k) 0).turns (phM F s k) := by
  unfold anE onI phM
  by_cases h : F k = -1
  · rw [if_neg (fun q => q.2 h), if_pos h, if_pos h, tz_zero]
    rfl
  · rw [if_pos ⟨hk, h⟩, if_neg h, if_neg h]
    have e : ahF F s k = (F k + ((k * s : Nat) : Int)) % 8 := if_neg h
    rw [e, ← Int.natCast_mul, tz_nat, turns_add, turns_mod]
    have e2 : ((F k).toNat + k * s) % 8 = ((F k + ((k * s : Nat) : Int)) % 8).toNat := by omega
    rw [e2]
    rfl
theorem rs_idft {F : Nat → Int} {s n : Nat} (hn : n ≤ 8) (hF : ∀ j, j < n → -1 ≤ F j ∧ F j ≤ 7) : rsN F s n = idft (anE F n) (s : Int) := by
  have h1 : ∀ k, k ≤ n → rsN F s k = sumF (fun j => tz (anE F n j) ((j : Int) * (s : Int))) k := fun k => by
    induction k with
    | zero => intro _; rfl
    | succ k ih =>
      intro hk
      rw [rs_step (hF k (by omega)).1, ih (by omega), ← anE_turn (n := n) (by omega) (hF k (by omega))]
      rfl
  have h2 : ∀ d, sumF (fun j => tz (anE F n j) ((j : Int) * (s : Int))) (n + d) = sumF (fun j => tz (anE F n j) ((j : Int) * (s : Int))) n := fun d => by
    induction d with
    | zero => rfl
    | succ d ih =>
      show (sumF (fun j => tz (anE F n j) ((j : Int) * (s : Int))) (n + d)).add (tz (anE F n (n + d)) (((n + d : Nat) : Int) * (s : Int))) = _
      rw [ih]
      have : anE F n (n + d) = Num.zero := if_neg (fun q => by omega)
      rw [this, tz_zero, Num.add_zero_]
  rw [h1 n (Nat.le_refl n), ← h2 (8 - n), show n + (8 - n) = 8 by omega]
  rfl
theorem anE_sq (F : Nat → Int) (n k : Nat) : (anE F n k).sqP = (if k < n ∧ F k ≠ -1 then 1 else 0) ∧ (anE F n k).sqQ = 0 := by
  unfold anE
  split
  · rw [(sq_turns _ _).1, (sq_turns _ _).2]
    exact ⟨by decide, by decide⟩
  · exact ⟨by decide, by decide⟩
theorem anE_sum {F : Nat → Int} {n : Nat} : ∀ k, k ≤ n → sumI (fun j => (anE F n j).sqP) k = (onN F k : Int)
  | 0, _ => rfl
  | k + 1, h => by
    have ih := anE_sum (F := F) (n := n) k (by omega)
    show sumI (fun j => (anE F n j).sqP) k + (anE F n k).sqP = _
    rw [ih, (anE_sq F n k).1, show onN F (k + 1) = if F k = -1 then onN F k else onN F k + 1 from rfl]
    by_cases hq : F k = -1
    · rw [if_neg (fun q => q.2 hq), if_pos hq]; omega
    · rw [if_pos ⟨by omega, hq⟩, if_neg hq]; omega
/-- The eight gains together. -/
theorem gains_sum {F : Nat → Int} {n : Nat} (hn : n ≤ 8) (hF : ∀ j, j < n → -1 ≤ F j ∧ F j ≤ 7) : sumI (fun s => (rsN F s n).sqP) 8 = 8 * (onN F n : Int) ∧ sumI (fun s => (rsN F s n).sqQ) 8 = 0 := by
  have h := parseval (anE F n)
  rw [show (fun s : Nat => (idft (anE F n) (s : Int)).sqP) = fun s => (rsN F s n).sqP from funext fun s => by rw [rs_idft hn hF]] at h
  rw [show (fun s : Nat => (idft (anE F n) (s : Int)).sqQ) = fun s => (rsN F s n).sqQ from funext fun s => by rw [rs_idft hn hF]] at h
  rw [show (fun k => (anE F n k).sqQ) = fun _ => (0 : Int) from funext fun k => (anE_sq F n k).2, zeroI_sum] at h
  refine ⟨?_, h.2⟩
  rw [h.1]
  have h1 : ∀ d, sumI (fun j => (anE F n j).sqP) (n + d) = (onN F n : Int) := fun d => by
    induction d with
    | zero => exact anE_sum n (Nat.le_refl n)
    | succ d ih =>
      show sumI (fun j => (anE F n j).sqP) (n + d) + (anE F n (n + d)).sqP = _
      rw [ih, (anE_sq F n (n + d)).1, if_neg (fun q => by omega)]
      omega
  have := h1 (8 - n)
  rw [show n + (8 - n) = 8 by omega] at this
  rw [this]
end Go.Proofs.Ytejhakkfgfahaaa
/- The walk of BeamNoMore. -/
namespace Go.Proofs.Ytejhakkfgfahaaa
open Go.RowKit Go.Great
def fullB (n s : Nat) : Bool := gnE n (stF s 1) s == 0 && (gnP n (stF s 1) s == (n : Int) * (n : Int) && gnQ n (stF s 1) s == 0)
set_option maxRecDepth 100000 in
theorem full_all : (List.range 8).all (fun s => (List.range 8).all fun n => fullB (n + 1) s) = true := by kernel_rfl
theorem full_at {n s : Nat} (hs : s ≤ 7) (h0 : 0 < n) (hn : n ≤ 8) : gnE n (stF s 1) s = 0 ∧ gnP n (stF s 1) s = (n : Int) * (n : Int) ∧ gnQ n (stF s 1) s = 0 := by
  obtain ⟨m, rfl⟩ : ∃ m, n = m + 1 := ⟨n - 1, by omega⟩
  have h := List.all_eq_true.1 (List.all_eq_true.1 full_all s (List.mem_range.2 (by omega))) m (List.mem_range.2 (by omega))
  unfold fullB at h
  simp only [Bool.and_eq_true, beq_iff_eq] at h
  exact ⟨h.1, h.2.1, h.2.2⟩
theorem steE_right {a k : Nat} (h0 : 0 < a) (h8 : a ≤ 8) (hk : k ≤ 7) : steE (a : Int) (k : Int) = 0 := by
  unfold steE stepE
  rw [withinB_iff.2 ⟨by omega, by omega⟩, withinB_iff.2 ⟨by omega, by omega⟩]
  rfl
/-- The gain of a right beam in the direction k. -/
theorem gain_right {n k : Nat} {F : Nat → Int} (h : cbE n F = 0) (hk : k ≤ 7) : gnE n F (k : Int) = 0 ∧ gnP n F (k : Int) = (rsN F k n).sqP ∧ gnQ n F (k : Int) = (rsN F k n).sqQ := by
  have e : gnE n F (k : Int) = 0 := by
    rw [gn_cases, if_pos h]
    unfold stepE
    rw [withinB_iff.2 ⟨by omega, by omega⟩]
    rfl
  exact ⟨e, if_pos e, if_pos e⟩
theorem gain_bounds {n s : Nat} {F : Nat → Int} (hn : n ≤ 8) : (-256 ≤ (rsN F s n).sqP ∧ (rsN F s n).sqP ≤ 256) ∧ -256 ≤ (rsN F s n).sqQ ∧ (rsN F s n).sqQ ≤ 256 := by
  have h : (rsN F s n).Within 8 := (rsN_within F s n).more (by omega)
  generalize rsN F s n = x at h
  obtain ⟨a, b, c, d⟩ := h
  have h1 := mul8 a a
  have h2 := mul8 b b
  have h3 := mul8 c c
  have h4 := mul8 d d
  have h5 := mul8 a b
  have h6 := mul8 b c
  have h7 := mul8 c d
  have h8 := mul8 a d
  have hP : x.sqP = x.a * x.a + x.b * x.b + x.c * x.c + x.d * x.d := rfl
  have hQ : x.sqQ = x.a * x.b + x.b * x.c + x.c * x.d - x.a * x.d := rfl
  rw [hP, hQ]
  omega
theorem sqIn_of {p q : Int} (hp : -1000000 ≤ p ∧ p ≤ 1000000) (hq : -1000000 ≤ q ∧ q ≤ 1000000) : sqIn p q = true := by
  unfold sqIn
  rw [withinB_iff.2 ⟨by omega, by omega⟩, withinB_iff.2 ⟨by omega, by omega⟩]
  rfl
set_option maxHeartbeats 8000000 in
set_option maxRecDepth 100000 in
theorem beamNoMore_walk (A : Option Addr) (n c : Nat) (F : Nat → Int) (s : Int) (w : World) (hn9 : n ≤ 9223372036854775807) (hI : IntsAt w 0 A n F) :
    Calls Try.prog 5 #[.agg #[.slice A n c], .int .i64 s] w fun e w' => e = .returned (.bool true) ∧ Below w.heap.size w w' := by
  have HI := hide hI
  clear hI
  have HBE := hide (fun W (h : IntsAt W 0 A n F) => BeamErr_any A n c F W hn9 h)
  have HSE := hide (fun W => StepErr_any s W)
  have HSZ := hide (stepE_zero (s := s))
  have HZ := hide (cbE_zero (n := n) (F := F))
  have HGR := hide (fun (h : cbE n F = 0) (k : Nat) (hk : k ≤ 7) => gain_right h hk)
  obtain ⟨E, hE⟩ : ∃ z, cbE n F = z := ⟨_, rfl⟩
  obtain ⟨V, hV⟩ : ∃ z, stepE s = z := ⟨_, rfl⟩
  simp only [hE] at HBE HZ
  simp only [hV] at HSE HSZ
  have HEE := hide hE
  clear hE hV
  go_enter Try.func5, Try.ntmps5
  go_upto_region 1 with fail
  obtain ⟨w_1, hw_1⟩ : ∃ q : World, q = (w.alloc (.cells #[.slice A n c] 24)) := ⟨_, rfl⟩
  try rw [← hw_1]
  have HX0 := hide (show Box w_1 (w.heap.size) 24 #[.slice A n c] by rw [hw_1]; exact Box.made rfl)
  have HB := hide (show Below w.heap.size w w_1 by rw [hw_1]; (repeat (first | (with_reducible exact Below.refl _ _) | (with_reducible refine Go.below_drewN ?_ _) | (with_reducible refine Below.drew ?_) | (with_reducible refine Below.alloc ?_ (by first | exact Nat.le_refl _ | (simp; done) | (simp; omega) | omega) _) | (with_reducible refine Below.setCell ?_ (by first | exact Nat.le_refl _ | (simp; done) | (simp; omega) | omega) _))))
  clear hw_1
  go_wp2_with fail
  refine (awake_any _).mono ?_
  rintro e_ w_2 ⟨rfl, hb_2⟩
  replace HX0 := hide (HX0.out.below hb_2)
  replace HB := hide (HB.out.trans (hb_2.mono HB.out.size))
  clear hb_2
  obtain ⟨x0, -, hlx⟩ := HX0.out.c1
  go_wp2_with fail
  refine (HBE.out _ (HI.out.below HB.out)).mono ?_
  rintro e_ w_3 ⟨rfl, hb_3⟩
  replace HX0 := hide (HX0.out.below hb_3)
  replace HB := hide (HB.out.trans (hb_3.mono HB.out.size))
  clear hb_3
  by_cases h0 : E = 0
  case neg =>
    have tv : (E != 0) = true := by simpa using h0
    go_wp2_with fail
    go_ret
    exact ⟨rfl, HB.out⟩
  subst h0
  go_wp2_with fail
  refine (HSE.out _).mono ?_
  rintro e_ v_ ⟨rfl, rfl⟩
  by_cases h1 : V = 0
  case neg =>
    have tv : (V != 0) = true := by simpa using h1
    go_wp2_with fail
    go_ret
    exact ⟨rfl, HB.out⟩
  clear x0 hlx
  subst h1
  obtain ⟨hs0, hs7⟩ := HSZ.out (by first | rfl | trivial)
  obtain ⟨⟨hn0, hn8⟩, hF, -⟩ := HZ.out (by first | rfl | trivial)
  obtain ⟨m, rfl⟩ : ∃ m : Nat, s = (m : Int) := ⟨s.toNat, by omega⟩
  have hm7 : m ≤ 7 := by omega
  have HON := hide (fun W (h : IntsAt W 0 A n F) => On_any A n c F W (by omega) h)
  have HCP := hide (fun W (h : IntsAt W 0 A n F) => Copy_any A n c F W (by omega) h)
  have HGA := hide (fun (k : Nat) (B : Option Addr) d W (hk : k ≤ 7) (h : IntsAt W 0 B n F) => (show Calls Try.prog 22 #[.agg #[.slice B n d], .int .i64 (k : Int)] W fun e w' => e = .returned (.tuple #[.agg #[.int .i64 (rsN F k n).sqP, .int .i64 (rsN F k n).sqQ], .int .i64 0]) ∧ Below W.heap.size W w' by
      have := GainOf_any B n d F (k : Int) W (by omega) h
      obtain ⟨e1, e2, e3⟩ := HGR.out HEE.out k hk
      rw [e1, e2, e3] at this
      exact this))
  have HNM := hide (fun (k : Nat) => no_more (s := k) hF)
  have HGS := hide (gains_sum hn8 hF)
  have HGB := hide (fun (k : Nat) => gain_bounds (F := F) (s := k) hn8)
  have hol := onN_le F n
  obtain ⟨on, hon⟩ : ∃ z, onN F n = z := ⟨_, rfl⟩
  simp only [hon] at HON HNM HGS
  rw [hon] at hol
  obtain ⟨gp, hgp⟩ : ∃ z : Nat → Int, (fun k => (rsN F k n).sqP) = z := ⟨_, rfl⟩
  obtain ⟨gq, hgq⟩ : ∃ z : Nat → Int, (fun k => (rsN F k n).sqQ) = z := ⟨_, rfl⟩
  have hp : ∀ k, (rsN F k n).sqP = gp k := fun k => congrFun hgp k
  have hq : ∀ k, (rsN F k n).sqQ = gq k := fun k => congrFun hgq k
  rw [hgp, hgq] at HGS
  simp only [hp, hq] at HGA HNM HGB
  clear hp hq hgp hgq hon HGR HZ HSZ HBE HSE
  obtain ⟨oo, hoo⟩ : ∃ z : Nat, on * on = z := ⟨_, rfl⟩
  have hob : oo ≤ 64 := by rw [← hoo]; exact Nat.le_trans (Nat.mul_le_mul (show on ≤ 8 by omega) (show on ≤ 8 by omega)) (by decide)
  have hoz : (on : Int) * (on : Int) = (oo : Int) := by rw [← hoo]; exact (Int.natCast_mul on on).symm
  simp only [hoz] at HNM
  have q1 : IntKind.i64.wrap ((on : Int) * (on : Int)) = (oo : Int) := by rw [hoz]; exact IntWalk.i64_in _ (by omega)
  have q2 : IntKind.i64.wrap (8 * (on : Int)) = 8 * (on : Int) := IntWalk.i64_in _ (by omega)
  have HSB := hide (fun (k : Nat) (hk : k ≤ 8) => (show (-(256 * (k : Int)) ≤ sumI gp k ∧ sumI gp k ≤ 256 * (k : Int)) ∧ -(256 * (k : Int)) ≤ sumI gq k ∧ sumI gq k ≤ 256 * (k : Int) by
      clear hk
      induction k with
      | zero =>
        have e1 : sumI gp 0 = 0 := rfl
        have e2 : sumI gq 0 = 0 := rfl
        omega
      | succ k ih =>
        have h1 := HGB.out k
        have e1 : sumI gp (k + 1) = sumI gp k + gp k := rfl
        have e2 : sumI gq (k + 1) = sumI gq k + gq k := rfl
        omega))
  obtain ⟨x0, -, hlx⟩ := HX0.out.c1
  go_wp2_with fail
  refine (HON.out _ (HI.out.below HB.out)).mono ?_
  rintro e_ w_4 ⟨rfl, hb_4⟩
  replace HX0 := hide (HX0.out.below hb_4)
  replace HB := hide (HB.out.trans (hb_4.mono HB.out.size))
  clear hb_4
  clear x0 hlx
  go_wp2_with fail
  have hozc := hide hoz
  have hooc := hide hoo
  clear hoz hoo
  go_loopw [6, 7, 8] (fun p q i wr => ∃ k : Nat, k ≤ 8 ∧ p = .int .i64 (sumI gp k) ∧ q = .int .i64 (sumI gq k) ∧ i = .int .i64 (k : Int) ∧ Hid (Box wr w.heap.size 24 #[.slice A n c]) ∧ Hid (Below w.heap.size w wr)) (fun _ _ i _ => 8 - (Go.RowKit.intOf i).toNat)
  case atStart => exact ⟨0, Nat.zero_le _, rfl, rfl, rfl, HX0, HB⟩
  case round =>
    clear HX0 HB
    obtain ⟨k, hk, rfl, rfl, rfl, HX0, HB⟩ := hrel
    obtain ⟨wA, rfl⟩ : ∃ x : World, x = wr := ⟨_, rfl⟩
    have hsb := HSB.out k hk
    by_cases hlt : k < 8
    case pos =>
      have hltz : (k : Int) < 8 := by omega
      have hgb := HGB.out k
      have hnm := HNM.out k
      have HGK := hide (fun B d W h => HGA.out k B d W (by omega) h)
      have hs1 : sumI gp (k + 1) = sumI gp k + gp k := rfl
      have hs2 : sumI gq (k + 1) = sumI gq k + gq k := rfl
      obtain ⟨x, hx⟩ : ∃ z, gp k = z := ⟨_, rfl⟩
      obtain ⟨y, hy⟩ : ∃ z, gq k = z := ⟨_, rfl⟩
      obtain ⟨u, hu⟩ : ∃ z, sumI gp k = z := ⟨_, rfl⟩
      obtain ⟨v, hv⟩ : ∃ z, sumI gq k = z := ⟨_, rfl⟩
      simp only [hx, hy] at HGK hgb hnm
      rw [hu, hx] at hs1
      rw [hv, hy] at hs2
      rw [hu, hv] at hsb
      simp only [hu, hv]
      have HS1 := hide hs1
      have HS2 := hide hs2
      clear hs1 hs2 hx hy hu hv
      have q5 : IntKind.i64.wrap (u + x) = u + x := IntWalk.i64_in _ (by omega)
      have q6 : IntKind.i64.wrap (v + y) = v + y := IntWalk.i64_in _ (by omega)
      have HSQ := hide (fun W => (show Calls Try.prog 29 #[.agg #[.int .i64 x, .int .i64 y]] W fun e w' => e = .returned (.int .i64 0) ∧ Below W.heap.size W w' by
          have := SquareErr_any x y W
          rw [sqIn_of ⟨by omega, by omega⟩ ⟨by omega, by omega⟩] at this
          exact this))
      obtain ⟨L, hL⟩ : ∃ z, compI (x - (oo : Int)) (0 - y) = z := ⟨_, rfl⟩
      rw [hL] at hnm
      have HLA := hide (fun W => (show Calls Try.prog 30 #[.agg #[.int .i64 x, .int .i64 y], .agg #[.int .i64 (oo : Int), .int .i64 0]] W fun e w' => e = .returned (.tuple #[.int .i64 L, .int .i64 0]) ∧ Below W.heap.size W w' by
          have := Larger_any x y (oo : Int) 0 W
          have e0 : lgE x y (oo : Int) 0 = 0 := by
            unfold lgE
            rw [sqIn_of ⟨by omega, by omega⟩ ⟨by omega, by omega⟩, sqIn_of ⟨by omega, by omega⟩ ⟨by decide, by decide⟩]
            rfl
          have e1 : lgR x y (oo : Int) 0 = L := (if_pos e0).trans hL
          rw [e0, e1] at this
          exact this))
      have hL0 : ¬ 0 < L := by omega
      clear hL hgb hsb hnm
      obtain ⟨x0, -, hlx⟩ := HX0.out.c1
      go_wp2_with fail
      refine (HCP.out _ (HI.out.below HB.out)).mono ?_
      rintro e_ w_5 ⟨B, d, rfl, hd, hd9, hi, hb_5⟩
      replace HX0 := hide (HX0.out.below hb_5)
      replace HB := hide (HB.out.trans (hb_5.mono HB.out.size))
      clear hb_5
      have HC := hide (hi.weak (Nat.zero_le _))
      clear hi
      clear x0 hlx
      go_wp2_with fail
      refine (HGK.out _ _ _ HC.out).mono ?_
      rintro e_ w_6 ⟨rfl, hb_6⟩
      replace HX0 := hide (HX0.out.below hb_6)
      replace HC := hide (HC.out.below hb_6)
      replace HB := hide (HB.out.trans (hb_6.mono HB.out.size))
      clear hb_6
      clear HC
      go_upto_region 11 with fail
      obtain ⟨g9, hg9⟩ : ∃ q, w_6.heap.size = q := ⟨_, rfl⟩
      obtain ⟨w_7, hw_7⟩ : ∃ q : World, q = w_6.alloc (.cells #[.int .i64 x, .int .i64 y] 45) := ⟨_, rfl⟩
      try rw [← hw_7]
      have HX9 := hide (show Box w_7 g9 45 #[.int .i64 x, .int .i64 y] by rw [hw_7]; exact Box.made hg9.symm)
      have hc_7 : Below w_6.heap.size w_6 w_7 := by rw [hw_7]; exact (Below.refl _ _).alloc (Nat.le_refl _) _
      clear hw_7
      replace HX0 := hide (HX0.out.below hc_7)
      replace HB := hide (HB.out.trans (hc_7.mono HB.out.size))
      clear hc_7
      try simp only [hg9]
      clear hg9
      obtain ⟨y0, y1, -, -, hly⟩ := HX9.out.c2
      go_wp2_with fail
      refine (HSQ.out _).mono ?_
      rintro e_ w_8 ⟨rfl, hb_8⟩
      replace HX0 := hide (HX0.out.below hb_8)
      replace HX9 := hide (HX9.out.below hb_8)
      replace HB := hide (HB.out.trans (hb_8.mono HB.out.size))
      clear hb_8
      clear y0 y1 hly
      obtain ⟨y0, y1, -, -, hly⟩ := HX9.out.c2
      go_wp2_with fail
      refine (HLA.out _).mono ?_
      rintro e_ w_9 ⟨rfl, hb_9⟩
      replace HX0 := hide (HX0.out.below hb_9)
      replace HX9 := hide (HX9.out.below hb_9)
      replace HB := hide (HB.out.trans (hb_9.mono HB.out.size))
      clear hb_9
      clear y0 y1 hly
      go_upto_region 16 with fail
      refine wp_region_held_drew (S := fun w' => w'.cell? ⟨g9, 0, none⟩ = some (.int .i64 x) ∧ w'.cell? ⟨g9, 1, none⟩ = some (.int .i64 y)) (by kernel_rfl) ⟨HX9.out.c2.1, HX9.out.c2.2.1⟩ (fun hHeld => ?_)
      obtain ⟨w_10, hw_10⟩ : ∃ q : World, q = w_9.drew := ⟨_, rfl⟩
      rw [← hw_10] at hHeld ⊢
      have hc_10 : Below w_9.heap.size w_9 w_10 := by rw [hw_10]; exact (Below.refl _ _).drew
      clear hw_10
      replace HX0 := hide (HX0.out.below hc_10)
      replace HX9 := hide (HX9.out.below hc_10)
      replace HB := hide (HB.out.trans (hc_10.mono HB.out.size))
      clear hc_10
      refine wpAnyH_take (i := 0) (oi := ⟨some 62, _, _, _, _, _⟩) (v := ?_) rfl (by kernel_rfl) (by kernel_rfl) (by kernel_rfl) (fun _ _ _ h => h) (Or.inl ⟨by rfl, ?_⟩) (by assumption) ?_
      rotate_left
      · (intro w' hSw; (try dsimp only at hSw); go_simp <;> (with_reducible rfl))
      try simp only [Act.put, List.setIfInBounds_toArray, List.set_cons_zero, List.set_cons_succ]
      refine wpAnyH_take (i := 1) (oi := ⟨some 63, _, _, _, _, _⟩) (v := ?_) rfl (by kernel_rfl) (by kernel_rfl) (by kernel_rfl) (fun _ _ _ h => h) (Or.inl ⟨by rfl, ?_⟩) (by assumption) ?_
      rotate_left
      · (intro w' hSw; (try dsimp only at hSw); go_simp <;> (with_reducible rfl))
      try simp only [Act.put, List.setIfInBounds_toArray, List.set_cons_zero, List.set_cons_succ]
      refine wpAnyH_take (i := 2) (oi := ⟨some 64, _, _, _, _, _⟩) (v := ?_) rfl (by kernel_rfl) (by kernel_rfl) (by kernel_rfl) (fun _ _ _ h => h) (Or.inl ⟨by rfl, ?_⟩) (by assumption) ?_
      rotate_left
      · (intro w' hSw; (try dsimp only at hSw); go_simp <;> (with_reducible rfl))
      try simp only [Act.put, List.setIfInBounds_toArray, List.set_cons_zero, List.set_cons_succ]
      refine wpAnyH_take (i := 3) (oi := ⟨some 65, _, _, _, _, _⟩) (v := ?_) rfl (by kernel_rfl) (by kernel_rfl) (by kernel_rfl) (fun _ _ _ h => h) (Or.inl ⟨by rfl, ?_⟩) (by assumption) ?_
      rotate_left
      · (intro w' hSw; (try dsimp only at hSw); go_simp <;> (with_reducible rfl))
      try simp only [Act.put, List.setIfInBounds_toArray, List.set_cons_zero, List.set_cons_succ]
      refine wpAnyH_take (i := 4) (oi := ⟨some 66, _, _, _, _, _⟩) (v := ?_) rfl (by kernel_rfl) (by kernel_rfl) (by kernel_rfl) (fun _ _ _ h => h) (Or.inl ⟨by rfl, ?_⟩) (by assumption) ?_
      rotate_left
      · (intro w' hSw; (try dsimp only at hSw); go_simp <;> (with_reducible rfl))
      try simp only [Act.put, List.setIfInBounds_toArray, List.set_cons_zero, List.set_cons_succ]
      refine wpAnyH_take (i := 5) (oi := ⟨some 67, _, _, _, _, _⟩) (v := ?_) rfl (by kernel_rfl) (by kernel_rfl) (by kernel_rfl) (fun _ _ _ h => h) (Or.inl ⟨by rfl, ?_⟩) (by assumption) ?_
      rotate_left
      · (intro w' hSw; (try dsimp only at hSw); go_simp <;> (with_reducible rfl))
      try simp only [Act.put, List.setIfInBounds_toArray, List.set_cons_zero, List.set_cons_succ]
      refine wpAnyH_take (i := 6) (oi := ⟨some 68, _, _, _, _, _⟩) (v := ?_) rfl (by kernel_rfl) (by kernel_rfl) (by kernel_rfl) (fun _ _ _ h => h) (Or.inl ⟨by rfl, ?_⟩) (by assumption) ?_
      rotate_left
      · (intro w' hSw; (try dsimp only at hSw); go_simp <;> (with_reducible rfl))
      try simp only [Act.put, List.setIfInBounds_toArray, List.set_cons_zero, List.set_cons_succ]
      refine wpAnyH_take (i := 7) (oi := ⟨some 69, _, _, _, _, _⟩) (v := ?_) rfl (by kernel_rfl) (by kernel_rfl) (by kernel_rfl) (fun _ _ _ h => h) (Or.inl ⟨by rfl, ?_⟩) (by assumption) ?_
      rotate_left
      · (intro w' hSw; (try dsimp only at hSw); go_simp <;> (with_reducible rfl))
      try simp only [Act.put, List.setIfInBounds_toArray, List.set_cons_zero, List.set_cons_succ]
      refine wpAnyH_take (i := 8) (oi := ⟨some 6, _, _, _, _, _⟩) (v := ?_) rfl (by kernel_rfl) (by kernel_rfl) (by kernel_rfl) (fun _ _ _ h => h) (Or.inl ⟨by rfl, ?_⟩) (by assumption) ?_
      rotate_left
      · (intro w' hSw; (try dsimp only at hSw); go_simp <;> (with_reducible rfl))
      try simp only [Act.put, List.setIfInBounds_toArray, List.set_cons_zero, List.set_cons_succ]
      refine wpAnyH_take (i := 9) (oi := ⟨some 7, _, _, _, _, _⟩) (v := ?_) rfl (by kernel_rfl) (by kernel_rfl) (by kernel_rfl) (fun _ _ _ h => h) (Or.inl ⟨by rfl, ?_⟩) (by assumption) ?_
      rotate_left
      · (intro w' hSw; (try dsimp only at hSw); go_simp <;> (with_reducible rfl))
      try simp only [Act.put, List.setIfInBounds_toArray, List.set_cons_zero, List.set_cons_succ]
      refine wpAnyH_done (by kernel_rfl) ?_ _
      go_wp2_with fail
      go_roundw
      case rel => exact ⟨k + 1, by omega, by rw [HS1.out], by rw [HS2.out], by go_num, HX0, HB⟩
      case measure => simp [Go.RowKit.intOf]; omega
    obtain rfl : k = 8 := by omega
    obtain ⟨hS1, hS2⟩ := HGS.out
    rw [hS1, hS2]
    clear hS1 hS2 hsb
    have HSG := hide (fun W => (show Calls Try.prog 15 #[.int .i64 (n : Int), .int .i64 (m : Int)] W fun e w' => ∃ A c, e = .returned (.tuple #[.agg #[.slice A n c], .int .i64 0]) ∧ IntsAt w' W.heap.size A n (stF m 1) ∧ Below W.heap.size W w' by
        refine (Steering_any (n : Int) (m : Int) W).mono ?_
        rintro e_ w_ ⟨A, q, c, rfl, hm, -, -, hi, hb⟩
        have e0 := steE_right hn0 hn8 hm7
        obtain rfl : q = n := hm.1 e0
        rw [e0]
        exact ⟨A, c, rfl, hi, hb⟩))
    obtain ⟨nn, hnn⟩ : ∃ z : Nat, n * n = z := ⟨_, rfl⟩
    have hnb : nn ≤ 64 := by rw [← hnn]; exact Nat.le_trans (Nat.mul_le_mul hn8 hn8) (by decide)
    have hnz : (n : Int) * (n : Int) = (nn : Int) := by rw [← hnn]; exact (Int.natCast_mul n n).symm
    have q7 : IntKind.i64.wrap ((n : Int) * (n : Int)) = (nn : Int) := by rw [hnz]; exact IntWalk.i64_in _ (by omega)
    have HGG := hide (fun (A : Option Addr) c W (h : IntsAt W 0 A n (stF m 1)) => (show Calls Try.prog 22 #[.agg #[.slice A n c], .int .i64 (m : Int)] W fun e w' => e = .returned (.tuple #[.agg #[.int .i64 (nn : Int), .int .i64 0], .int .i64 0]) ∧ Below W.heap.size W w' by
        have := GainOf_any A n c (stF m 1) (m : Int) W (by omega) h
        obtain ⟨e1, e2, e3⟩ := full_at hm7 hn0 hn8
        rw [e1, e2, e3, hnz] at this
        exact this))
    clear hnn hnz
    obtain ⟨x0, -, hlx⟩ := HX0.out.c1
    go_wp2_with fail
    refine (HSG.out _).mono ?_
    rintro e_ w_11 ⟨C, e, rfl, hi, hb_11⟩
    replace HX0 := hide (HX0.out.below hb_11)
    replace HB := hide (HB.out.trans (hb_11.mono HB.out.size))
    clear hb_11
    have HI2 := hide (hi.weak (Nat.zero_le _))
    clear hi
    clear x0 hlx
    go_upto_region 20 with fail
    obtain ⟨g13, hg13⟩ : ∃ q, w_11.heap.size = q := ⟨_, rfl⟩
    obtain ⟨w_12, hw_12⟩ : ∃ q : World, q = w_11.alloc (.cells #[.slice C n e] 24) := ⟨_, rfl⟩
    try rw [← hw_12]
    have HX13 := hide (show Box w_12 g13 24 #[.slice C n e] by rw [hw_12]; exact Box.made hg13.symm)
    have hc_12 : Below w_11.heap.size w_11 w_12 := by rw [hw_12]; exact (Below.refl _ _).alloc (Nat.le_refl _) _
    clear hw_12
    replace HX0 := hide (HX0.out.below hc_12)
    replace HI2 := hide (HI2.out.below hc_12)
    replace HB := hide (HB.out.trans (hc_12.mono HB.out.size))
    clear hc_12
    try simp only [hg13]
    clear hg13
    obtain ⟨z0, -, hlz⟩ := HX13.out.c1
    go_wp2_with fail
    refine (HGG.out _ _ _ HI2.out).mono ?_
    rintro e_ w_13 ⟨rfl, hb_13⟩
    replace HX0 := hide (HX0.out.below hb_13)
    replace HI2 := hide (HI2.out.below hb_13)
    replace HX13 := hide (HX13.out.below hb_13)
    replace HB := hide (HB.out.trans (hb_13.mono HB.out.size))
    clear hb_13
    clear z0 hlz
    clear HI2 HX13
    go_upto_region 21 with fail
    obtain ⟨g15, hg15⟩ : ∃ q, w_13.heap.size = q := ⟨_, rfl⟩
    obtain ⟨w_14, hw_14⟩ : ∃ q : World, q = w_13.alloc (.cells #[.int .i64 (nn : Int), .int .i64 0] 45) := ⟨_, rfl⟩
    try rw [← hw_14]
    have HX15 := hide (show Box w_14 g15 45 #[.int .i64 (nn : Int), .int .i64 0] by rw [hw_14]; exact Box.made hg15.symm)
    have hc_14 : Below w_13.heap.size w_13 w_14 := by rw [hw_14]; exact (Below.refl _ _).alloc (Nat.le_refl _) _
    clear hw_14
    replace HX0 := hide (HX0.out.below hc_14)
    replace HB := hide (HB.out.trans (hc_14.mono HB.out.size))
    clear hc_14
    try simp only [hg15]
    clear hg15
    obtain ⟨x0, -, hlx⟩ := HX0.out.c1
    obtain ⟨y0, y1, -, -, hly⟩ := HX15.out.c2
    go_wp2_with fail
    go_ret
    exact ⟨by first | rfl | simp, HB.out⟩
end Go.Proofs.Ytejhakkfgfahaaa
