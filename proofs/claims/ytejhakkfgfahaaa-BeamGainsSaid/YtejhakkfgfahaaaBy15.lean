/- Lemmas: Bj. -/
import Derived.Test.YtejhakkfgfahaaaBy10
import Derived.Test.YtejhakkfgfahaaaBy12
import Derived.Test.YtejhakkfgfahaaaBy14
set_option linter.unusedVariables false
set_option linter.unusedSimpArgs false
/- SquareErr, SquareOf, SquaresErr and Compared of the reference. -/
namespace Go.Proofs.Ytejhakkfgfahaaa
open Go.RowKit
set_option maxHeartbeats 2000000 in
set_option maxRecDepth 100000 in
theorem squareOfR_any (x : Num) (w : World) (hx : x.Within 1000000) :
    Calls Try.prog 27 #[.agg #[.int .i64 x.a, .int .i64 x.b, .int .i64 x.c, .int .i64 x.d]] w fun e w' => e = .returned (.agg #[.int .i64 x.sqP, .int .i64 x.sqQ]) ∧ Below w.heap.size w w' := by
  obtain ⟨ha, hb, hc, hd⟩ := hx
  have HP := hide (show x.sqP = x.a * x.a + x.b * x.b + x.c * x.c + x.d * x.d from rfl)
  have HQ := hide (show x.sqQ = x.a * x.b + x.b * x.c + x.c * x.d - x.a * x.d from rfl)
  obtain ⟨a, b, c, d⟩ := x
  simp only at ha hb hc hd HP HQ ⊢
  have m1 := mul_within ha ha
  have m2 := mul_within hb hb
  have m3 := mul_within hc hc
  have m4 := mul_within hd hd
  have m5 := mul_within ha hb
  have m6 := mul_within hb hc
  have m7 := mul_within hc hd
  have m8 := mul_within ha hd
  obtain ⟨P, hP⟩ : ∃ P, P = (⟨a, b, c, d⟩ : Num).sqP := ⟨_, rfl⟩
  obtain ⟨Q, hQ⟩ : ∃ Q, Q = (⟨a, b, c, d⟩ : Num).sqQ := ⟨_, rfl⟩
  rw [← hP] at HP ⊢
  rw [← hQ] at HQ ⊢
  clear hP hQ ha hb hc hd
  generalize e1 : a * a = aa at *
  generalize e2 : b * b = bb at *
  generalize e3 : c * c = cc at *
  generalize e4 : d * d = dd at *
  generalize e5 : a * b = ab at *
  generalize e6 : b * c = bc at *
  generalize e7 : c * d = cd at *
  generalize e8 : a * d = ad at *
  have q1 : IntKind.i64.wrap aa = aa := IntWalk.i64_in _ (by omega)
  have q2 : IntKind.i64.wrap bb = bb := IntWalk.i64_in _ (by omega)
  have q3 : IntKind.i64.wrap cc = cc := IntWalk.i64_in _ (by omega)
  have q4 : IntKind.i64.wrap dd = dd := IntWalk.i64_in _ (by omega)
  have q5 : IntKind.i64.wrap ab = ab := IntWalk.i64_in _ (by omega)
  have q6 : IntKind.i64.wrap bc = bc := IntWalk.i64_in _ (by omega)
  have q7 : IntKind.i64.wrap cd = cd := IntWalk.i64_in _ (by omega)
  have q8 : IntKind.i64.wrap ad = ad := IntWalk.i64_in _ (by omega)
  have q9 : IntKind.i64.wrap (aa + bb) = aa + bb := IntWalk.i64_in _ (by omega)
  have q10 : IntKind.i64.wrap (aa + bb + cc) = aa + bb + cc := IntWalk.i64_in _ (by omega)
  have q11 : IntKind.i64.wrap (aa + bb + cc + dd) = P := by rw [HP.out]; exact IntWalk.i64_in _ (by omega)
  have q12 : IntKind.i64.wrap (ab + bc) = ab + bc := IntWalk.i64_in _ (by omega)
  have q13 : IntKind.i64.wrap (ab + bc + cd) = ab + bc + cd := IntWalk.i64_in _ (by omega)
  have q14 : IntKind.i64.wrap (ab + bc + cd - ad) = Q := by rw [HQ.out]; exact IntWalk.i64_in _ (by omega)
  clear m1 m2 m3 m4 m5 m6 m7 m8
  go_enter Try.func27, Try.ntmps27
  go_wp2_with fail
  have hbx : Box ((w.alloc (.cells #[.int .i64 a, .int .i64 b, .int .i64 c, .int .i64 d] 41)).alloc (.cells #[.int .i64 P, .int .i64 Q] 45)) (w.heap.size + 1) 45 #[.int .i64 P, .int .i64 Q] := Box.made (by simp)
  have y0 := hbx.at_ 0
  have y1 := hbx.at_ 1
  simp only [List.getElem?_toArray] at y0 y1
  refine bodyPost_ret (v := .agg #[.int .i64 P, .int .i64 Q]) ?_ rfl ⟨rfl, by (repeat (first | (with_reducible exact Below.refl _ _) | (with_reducible refine Go.below_drewN ?_ _) | (with_reducible refine Below.drew ?_) | (with_reducible refine Below.alloc ?_ (by first | exact Nat.le_refl _ | (simp; done) | (simp; omega) | omega) _) | (with_reducible refine Below.setCell ?_ (by first | exact Nat.le_refl _ | (simp; done) | (simp; omega) | omega) _)))⟩
  simp [results, Try.results27, go_sem, y0, y1]
/-- Twice a square is no square. -/
theorem no_root : ∀ (n p q : Nat), q ≤ n → p * p = 2 * (q * q) → q = 0
  | 0, _, _, h, _ => by omega
  | n + 1, p, q, h, e => by
    rcases Nat.mod_two_eq_zero_or_one p with h2 | h2
    · obtain ⟨k, rfl⟩ : ∃ k, p = 2 * k := ⟨p / 2, by omega⟩
      have e0 : 2 * k * (2 * k) = 2 * 2 * (k * k) := Nat.mul_mul_mul_comm 2 k 2 k
      have e1 : q * q = 2 * (k * k) := by omega
      rcases Nat.eq_zero_or_pos q with hq | hq
      · exact hq
      · have hqq := Nat.mul_pos hq hq
        have hk : k < q := by
          rcases Nat.lt_or_ge k q with h' | h'
          · exact h'
          · have := Nat.mul_le_mul h' h'
            omega
        have hk0 := no_root n q k (by omega) e1
        subst hk0
        omega
    · obtain ⟨k, rfl⟩ : ∃ k, p = 2 * k + 1 := ⟨p / 2, by omega⟩
      rw [Nat.add_mul, Nat.one_mul, Nat.mul_assoc] at e
      omega
theorem no_rootI {p q : Int} (hq : q ≠ 0) : p * p ≠ 2 * (q * q) := fun e => by
  have e1 := congrArg Int.natAbs e
  rw [Int.natAbs_mul, Int.natAbs_mul, Int.natAbs_mul] at e1
  have := no_root q.natAbs p.natAbs q.natAbs (Nat.le_refl _) e1
  omega
/-- What the reference's Compared says of the differences of two squares. -/
def refC (p q : Int) : Int := if 0 ≤ p ∧ 0 ≤ q then (if p = 0 ∧ q = 0 then 0 else 1) else if p ≤ 0 ∧ q ≤ 0 then -1 else if (0 < cmpI (p * p) (2 * (q * q))) = (0 < p) then 1 else -1
theorem refC_comp (p q : Int) : refC p q = compI p (-q) := by
  unfold refC compI
  have e1 : -q * (-q * 2) = 2 * (q * q) := by rw [Int.neg_mul, Int.neg_mul, Int.mul_neg, Int.neg_neg, Int.mul_comm 2, Int.mul_assoc]
  rw [e1]
  rcases Int.lt_trichotomy p 0 with hp | hp | hp
  · rcases Int.lt_trichotomy q 0 with hq | hq | hq
    · rw [if_neg (by omega), if_pos (by omega), cmpI_lt hp, cmpI_gt (show 0 < -q by omega)]; rw [if_neg (by decide)]; decide
    · subst hq
      rw [if_neg (by omega), if_pos (by omega), cmpI_lt hp]; rw [if_neg (by decide)]; decide
    · have hn := no_rootI (p := p) (q := q) (by omega)
      rw [if_neg (by omega), if_neg (by omega), cmpI_lt hp, cmpI_lt (show -q < 0 by omega), if_pos rfl]
      rcases Int.lt_trichotomy (p * p) (2 * (q * q)) with h | h | h
      · rw [cmpI_lt h, if_pos (by simp; omega)]; decide
      · exact absurd h hn
      · rw [cmpI_gt h, if_neg (by simp; omega)]; decide
  · subst hp
    rcases Int.lt_trichotomy q 0 with hq | hq | hq
    · rw [if_neg (by omega), if_pos (by omega), cmpI_gt (show 0 < -q by omega)]; rw [if_neg (by decide)]; decide
    · subst hq; decide
    · rw [if_pos (by omega), if_neg (by omega), cmpI_lt (show -q < 0 by omega)]; rw [if_neg (by decide)]; decide
  · rcases Int.lt_trichotomy q 0 with hq | hq | hq
    · have hn := no_rootI (p := p) (q := q) (by omega)
      rw [if_neg (by omega), if_neg (by omega), cmpI_gt hp, cmpI_gt (show 0 < -q by omega), if_pos rfl]
      rcases Int.lt_trichotomy (p * p) (2 * (q * q)) with h | h | h
      · rw [cmpI_lt h, if_neg (by simp; omega)]; decide
      · exact absurd h hn
      · rw [cmpI_gt h, if_pos (by simp; omega)]; decide
    · subst hq
      rw [if_pos (by omega), if_neg (by omega), cmpI_gt hp]; rw [if_neg (by decide)]; decide
    · rw [if_pos (by omega), if_neg (by omega), cmpI_gt hp, cmpI_lt (show -q < 0 by omega)]; rw [if_neg (by decide)]; decide
end Go.Proofs.Ytejhakkfgfahaaa
