/- Lemmas: We, Wi, Wk, Wg, Wt, Od, Oe, Wn. -/
import Derived.Laws.Bits64b
import Derived.Lib.Mul64
import Derived.Deep.RegionHeld3
import Derived.Test.YtibdbopejnkefaaBk01
import Derived.Test.YtibdbopejnkefaaBk02
import Derived.Test.YtibdbopejnkefaaBk03
set_option linter.unusedVariables false
set_option linter.unusedSimpArgs false
/- cmp.Compare, cmp.Or, bits.Mul64. -/
namespace Go.Proofs.Ytibdbopejnkefaa
open Go.RowKit Go.Lib
/-- -1, 0 or 1. -/
def cmpI (a b : Int) : Int := if a < b then -1 else if b < a then 1 else 0
theorem cmpI_lt {a b : Int} (h : a < b) : cmpI a b = -1 := if_pos h
theorem cmpI_gt {a b : Int} (h : b < a) : cmpI a b = 1 := by unfold cmpI; rw [if_neg (by omega), if_pos h]
theorem cmpI_eq {a b : Int} (h : a = b) : cmpI a b = 0 := by unfold cmpI; rw [if_neg (by omega), if_neg (by omega)]
theorem cmpI_le (a b : Int) : -1 ≤ cmpI a b ∧ cmpI a b ≤ 1 := by
  unfold cmpI
  split
  · decide
  · split <;> decide
set_option maxHeartbeats 400000 in
theorem isNaN_int (a : Int) (w : World) : Calls Try.prog 63 #[.int .i64 a] w fun e w' => e = .returned (.bool false) ∧ w = w' := by
  have t1 : (a != a) = false := by simp
  go_enter Try.func63, Try.ntmps63
  go_wp2_with fail
  go_ret
  exact ⟨rfl, rfl⟩
set_option maxHeartbeats 400000 in
theorem isNaN_u64 (a : Int) (w : World) : Calls Try.prog 64 #[.int .u64 a] w fun e w' => e = .returned (.bool false) ∧ w = w' := by
  have t1 : (a != a) = false := by simp
  go_enter Try.func64, Try.ntmps64
  go_wp2_with fail
  go_ret
  exact ⟨rfl, rfl⟩
set_option maxHeartbeats 1000000 in
theorem compare_int (a b : Int) (w : World) : Calls Try.prog 53 #[.int .i64 a, .int .i64 b] w fun e w' => e = .returned (.int .i64 (cmpI a b)) ∧ w = w' := by
  by_cases h1 : a < b
  · have t1 : decide (a < b) = true := decide_eq_true h1
    rw [cmpI_lt h1]
    clear h1
    go_enter Try.func53, Try.ntmps53
    go_wp2_with (go_at_call 63; refine (isNaN_int _ _).mono ?_; rintro e w' ⟨rfl, rfl⟩)
    go_ret
    exact ⟨rfl, rfl⟩
  · have t1 : decide (a < b) = false := decide_eq_false h1
    by_cases h2 : b < a
    · have t2 : decide (b < a) = true := decide_eq_true h2
      rw [cmpI_gt h2]
      clear h1 h2
      go_enter Try.func53, Try.ntmps53
      go_wp2_with (go_at_call 63; refine (isNaN_int _ _).mono ?_; rintro e w' ⟨rfl, rfl⟩)
      go_ret
      exact ⟨rfl, rfl⟩
    · have t2 : decide (b < a) = false := decide_eq_false h2
      rw [cmpI_eq (show a = b by omega)]
      clear h1 h2
      go_enter Try.func53, Try.ntmps53
      go_wp2_with (go_at_call 63; refine (isNaN_int _ _).mono ?_; rintro e w' ⟨rfl, rfl⟩)
      go_ret
      exact ⟨rfl, rfl⟩
set_option maxHeartbeats 1000000 in
theorem compare_u64 (a b : Int) (w : World) : Calls Try.prog 56 #[.int .u64 a, .int .u64 b] w fun e w' => e = .returned (.int .i64 (cmpI a b)) ∧ w = w' := by
  by_cases h1 : a < b
  · have t1 : decide (a < b) = true := decide_eq_true h1
    rw [cmpI_lt h1]
    clear h1
    go_enter Try.func56, Try.ntmps56
    go_wp2_with (go_at_call 64; refine (isNaN_u64 _ _).mono ?_; rintro e w' ⟨rfl, rfl⟩)
    go_ret
    exact ⟨rfl, rfl⟩
  · have t1 : decide (a < b) = false := decide_eq_false h1
    by_cases h2 : b < a
    · have t2 : decide (b < a) = true := decide_eq_true h2
      rw [cmpI_gt h2]
      clear h1 h2
      go_enter Try.func56, Try.ntmps56
      go_wp2_with (go_at_call 64; refine (isNaN_u64 _ _).mono ?_; rintro e w' ⟨rfl, rfl⟩)
      go_ret
      exact ⟨rfl, rfl⟩
    · have t2 : decide (b < a) = false := decide_eq_false h2
      rw [cmpI_eq (show a = b by omega)]
      clear h1 h2
      go_enter Try.func56, Try.ntmps56
      go_wp2_with (go_at_call 64; refine (isNaN_u64 _ _).mono ?_; rintro e w' ⟨rfl, rfl⟩)
      go_ret
      exact ⟨rfl, rfl⟩
/-- cmp.Or of two numbers in a new block. -/
def orI (a b : Int) : Int := if a = 0 then b else a
set_option maxHeartbeats 1000000 in
theorem or_two (a b : Int) (g c : Nat) (w : World) (h0 : w.cell? ⟨g, 0, none⟩ = some (.int .i64 a)) (h1 : w.cell? ⟨g, 1, none⟩ = some (.int .i64 b)) :
    Calls Try.prog 55 #[.slice (some ⟨g, 0, none⟩) 2 c] w fun e w' => e = .returned (.int .i64 (orI a b)) ∧ w = w' := by
  have H0 := hide h0
  have H1 := hide h1
  clear h0 h1
  go_enter Try.func55, Try.ntmps55
  go_wp2_with fail
  go_loopw [8] (fun i wr => ∃ k : Nat, k ≤ 2 ∧ i = .int .i64 (k : Int) ∧ Hid (0 < k → a = 0) ∧ Hid (1 < k → b = 0) ∧ w = wr) (fun i _ => 2 - (Go.RowKit.intOf i).toNat)
  case atStart => exact ⟨0, by decide, rfl, hide fun h => absurd h (by decide), hide fun h => absurd h (by decide), rfl⟩
  case round =>
    obtain ⟨k, hk, rfl, HA, HB, rfl⟩ := hrel
    match k, hk with
    | 0, _ =>
      have hc := H0.out
      by_cases ha : a = 0
      · have HQ := hide ha
        subst ha
        go_wp2_with fail
        go_roundw
        case rel => exact ⟨1, by decide, rfl, hide fun _ => by first | rfl | trivial, hide fun h => absurd h (by decide), by first | rfl | trivial⟩
        case measure => simp [Go.RowKit.intOf]
      · have t1 : (a != 0) = true := by simpa using ha
        have HQ := hide (show orI a b = a from if_neg ha)
        clear ha
        go_wp2_with fail
        go_ret
        exact ⟨ret_int HQ.out.symm, rfl⟩
    | 1, _ =>
      have hc := H1.out
      have ha := HA.out (by decide)
      by_cases hb : b = 0
      · have HQ := hide hb
        subst hb
        go_wp2_with fail
        go_roundw
        case rel => exact ⟨2, by decide, rfl, hide fun _ => ha, hide fun _ => by first | rfl | trivial, by first | rfl | trivial⟩
        case measure => simp [Go.RowKit.intOf]
      · have t1 : (b != 0) = true := by simpa using hb
        have HQ := hide (show orI a b = b from if_pos ha)
        clear ha hb
        go_wp2_with fail
        go_ret
        exact ⟨ret_int HQ.out.symm, rfl⟩
    | 2, _ =>
      have HQ := hide (show orI a b = 0 from by rw [show orI a b = b from if_pos (HA.out (by decide)), HB.out (by decide)])
      go_wp2_with fail
      go_ret
      exact ⟨ret_int HQ.out.symm, rfl⟩
theorem maskN (a : Nat) (ha : a < 18446744073709551616) : bits .and .u64 (a : Int) 4294967295 = ((a % 4294967296 : Nat) : Int) := by
  have h := bits_and_u64_nat a 4294967295 ha (by omega)
  have e : a &&& 4294967295 = a % 4294967296 := Nat.and_two_pow_sub_one_eq_mod a 32
  rw [e] at h
  exact h
theorem divN (a : Nat) : (a : Int) / 4294967296 = ((a / 4294967296 : Nat) : Int) := by omega
theorem mulN (a b : Nat) : (a : Int) * (b : Int) = ((a * b : Nat) : Int) := (Int.natCast_mul a b).symm
theorem addN (a b : Nat) : (a : Int) + (b : Int) = ((a + b : Nat) : Int) := (Int.natCast_add a b).symm
theorem wrapN (a : Nat) (ha : a < 18446744073709551616) : IntKind.u64.wrap (a : Int) = (a : Int) := by rw [IntKind.wrap_u64]; omega
theorem wrapM (a : Nat) : IntKind.u64.wrap (a : Int) = ((a % 18446744073709551616 : Nat) : Int) := by rw [IntKind.wrap_u64]; omega
end Go.Proofs.Ytibdbopejnkefaa
/- Mul64, squareOf of the code. -/
namespace Go.Proofs.Ytibdbopejnkefaa
open Go.RowKit Go.Lib
set_option maxHeartbeats 1000000 in
theorem mul64_any (x y : Nat) (hx : x < 18446744073709551616) (hy : y < 18446744073709551616) (w : World) :
    Calls Try.prog 54 #[.int .u64 x, .int .u64 y] w fun e w' => e = .returned (.tuple #[.int .u64 ((x * y / 18446744073709551616 : Nat) : Int), .int .u64 ((x * y % 18446744073709551616 : Nat) : Int)]) ∧ w = w' := by
  obtain ⟨bd, bt, bw, hhi⟩ := Lib.mul64_hi x y hx hy
  have ba := Lib.half_mul_le (a := x / 4294967296) (b := y / 4294967296) (by omega) (by omega)
  have bb := Lib.half_mul_le (a := x / 4294967296) (b := y % 4294967296) (by omega) (by omega)
  have bc := Lib.half_mul_le (a := x % 4294967296) (b := y / 4294967296) (by omega) (by omega)
  have ba' : x / 4294967296 * (y / 4294967296) < 18446744073709551616 := by omega
  have bb' : x / 4294967296 * (y % 4294967296) < 18446744073709551616 := by omega
  have bc' : x % 4294967296 * (y / 4294967296) < 18446744073709551616 := by omega
  have bh1 : x / 4294967296 * (y / 4294967296) + (x / 4294967296 * (y % 4294967296) + x % 4294967296 * (y % 4294967296) / 4294967296) / 4294967296 < 18446744073709551616 := by omega
  have bh : x / 4294967296 * (y / 4294967296) + (x / 4294967296 * (y % 4294967296) + x % 4294967296 * (y % 4294967296) / 4294967296) / 4294967296 + ((x / 4294967296 * (y % 4294967296) + x % 4294967296 * (y % 4294967296) / 4294967296) % 4294967296 + x % 4294967296 * (y / 4294967296)) / 4294967296 < 18446744073709551616 := by omega
  go_enter Try.func54, Try.ntmps54
  go_wp2
  simp only [maskN x hx, maskN y hy, divN, mulN, addN, wrapN _ bd, wrapN _ bb', wrapN _ bt, maskN _ bt, wrapN _ bc', wrapN _ bw, wrapN _ ba', wrapN _ bh1, wrapN _ bh, wrapM]
  rw [hhi]
  go_ret2
  exact ⟨rfl, rfl⟩
set_option maxHeartbeats 2000000 in
theorem squareOf_any (x : Num) (w : World) (hx : x.Within 1000000000) :
    Calls Try.prog 34 #[.agg #[.int .i64 x.a, .int .i64 x.b, .int .i64 x.c, .int .i64 x.d]] w fun e w' => e = .returned (.agg #[.int .i64 x.sqP, .int .i64 x.sqQ]) ∧ Below w.heap.size w w' := by
  obtain ⟨ha, hb, hc, hd⟩ := hx
  have HP := hide (show x.sqP = x.a * x.a + x.b * x.b + x.c * x.c + x.d * x.d from rfl)
  have HQ := hide (show x.sqQ = x.a * x.b + x.b * x.c + x.c * x.d - x.a * x.d from rfl)
  obtain ⟨a, b, c, d⟩ := x
  simp only at ha hb hc hd HP HQ ⊢
  have m1 := mul_within ha ha
  have m2 := mul_within hb hb
  have m3 := mul_within hc hc
  have m4 := mul_within hd hd
  have m5 := mul_within ha hb
  have m6 := mul_within hb hc
  have m7 := mul_within hc hd
  have m8 := mul_within ha hd
  obtain ⟨P, hP⟩ : ∃ P, P = (⟨a, b, c, d⟩ : Num).sqP := ⟨_, rfl⟩
  obtain ⟨Q, hQ⟩ : ∃ Q, Q = (⟨a, b, c, d⟩ : Num).sqQ := ⟨_, rfl⟩
  rw [← hP] at HP ⊢
  rw [← hQ] at HQ ⊢
  clear hP hQ ha hb hc hd
  generalize e1 : a * a = aa at *
  generalize e2 : b * b = bb at *
  generalize e3 : c * c = cc at *
  generalize e4 : d * d = dd at *
  generalize e5 : a * b = ab at *
  generalize e6 : b * c = bc at *
  generalize e7 : c * d = cd at *
  generalize e8 : a * d = ad at *
  have q1 : IntKind.i64.wrap aa = aa := IntWalk.i64_in _ (by omega)
  have q2 : IntKind.i64.wrap bb = bb := IntWalk.i64_in _ (by omega)
  have q3 : IntKind.i64.wrap cc = cc := IntWalk.i64_in _ (by omega)
  have q4 : IntKind.i64.wrap dd = dd := IntWalk.i64_in _ (by omega)
  have q5 : IntKind.i64.wrap ab = ab := IntWalk.i64_in _ (by omega)
  have q6 : IntKind.i64.wrap bc = bc := IntWalk.i64_in _ (by omega)
  have q7 : IntKind.i64.wrap cd = cd := IntWalk.i64_in _ (by omega)
  have q8 : IntKind.i64.wrap ad = ad := IntWalk.i64_in _ (by omega)
  have q9 : IntKind.i64.wrap (aa + bb) = aa + bb := IntWalk.i64_in _ (by omega)
  have q10 : IntKind.i64.wrap (aa + bb + cc) = aa + bb + cc := IntWalk.i64_in _ (by omega)
  have q11 : IntKind.i64.wrap (aa + bb + cc + dd) = P := by rw [HP.out]; exact IntWalk.i64_in _ (by omega)
  have q12 : IntKind.i64.wrap (ab + bc) = ab + bc := IntWalk.i64_in _ (by omega)
  have q13 : IntKind.i64.wrap (ab + bc + cd) = ab + bc + cd := IntWalk.i64_in _ (by omega)
  have q14 : IntKind.i64.wrap (ab + bc + cd - ad) = Q := by rw [HQ.out]; exact IntWalk.i64_in _ (by omega)
  clear m1 m2 m3 m4 m5 m6 m7 m8
  go_enter Try.func34, Try.ntmps34
  go_wp2_with fail
  have hbx : Box ((w.alloc (.cells #[.int .i64 a, .int .i64 b, .int .i64 c, .int .i64 d] 35)).alloc (.cells #[.int .i64 P, .int .i64 Q] 70)) (w.heap.size + 1) 70 #[.int .i64 P, .int .i64 Q] := Box.made (by simp)
  have y0 := hbx.at_ 0
  have y1 := hbx.at_ 1
  simp only [List.getElem?_toArray] at y0 y1
  refine bodyPost_ret (v := .agg #[.int .i64 P, .int .i64 Q]) ?_ rfl ⟨rfl, by (repeat (first | (with_reducible exact Below.refl _ _) | (with_reducible refine Go.below_drewN ?_ _) | (with_reducible refine Below.drew ?_) | (with_reducible refine Below.alloc ?_ (by first | exact Nat.le_refl _ | (simp; done) | (simp; omega) | omega) _) | (with_reducible refine Below.setCell ?_ (by first | exact Nat.le_refl _ | (simp; done) | (simp; omega) | omega) _)))⟩
  simp [results, Try.results34, go_sem, y0, y1]
end Go.Proofs.Ytibdbopejnkefaa
/- compared of the code. -/
namespace Go.Proofs.Ytibdbopejnkefaa
open Go.RowKit Go.Lib
theorem or_cmp (X Y : Nat) : orI (cmpI ((X / 18446744073709551616 : Nat) : Int) ((Y / 18446744073709551616 : Nat) : Int)) (cmpI ((X % 18446744073709551616 : Nat) : Int) ((Y % 18446744073709551616 : Nat) : Int)) = cmpI X Y := by
  obtain ⟨a, ha⟩ : ∃ a, a = X / 18446744073709551616 := ⟨_, rfl⟩
  obtain ⟨b, hb⟩ : ∃ b, b = Y / 18446744073709551616 := ⟨_, rfl⟩
  obtain ⟨c, hc⟩ : ∃ c, c = X % 18446744073709551616 := ⟨_, rfl⟩
  obtain ⟨d, hd⟩ : ∃ d, d = Y % 18446744073709551616 := ⟨_, rfl⟩
  rw [← ha, ← hb, ← hc, ← hd]
  have hX : X = 18446744073709551616 * a + c := by omega
  have hY : Y = 18446744073709551616 * b + d := by omega
  have hc9 : c < 18446744073709551616 := by omega
  have hd9 : d < 18446744073709551616 := by omega
  rcases Nat.lt_trichotomy a b with e | e | e
  · rw [cmpI_lt (by omega), cmpI_lt (show (X : Int) < Y by omega)]; rfl
  · rw [cmpI_eq (by omega)]
    show cmpI c d = cmpI X Y
    rcases Nat.lt_trichotomy c d with f | f | f
    · rw [cmpI_lt (by omega), cmpI_lt (by omega)]
    · rw [cmpI_eq (by omega), cmpI_eq (by omega)]
    · rw [cmpI_gt (by omega), cmpI_gt (by omega)]
  · rw [cmpI_gt (by omega), cmpI_gt (show (Y : Int) < X by omega)]; rfl
/-- Which one of two squares is greater, of the differences p of P, and q of Q the other way round. -/
def compI (p q : Int) : Int := if cmpI p 0 = cmpI q 0 then cmpI p 0 * cmpI (p * p) (q * (q * 2)) else cmpI (cmpI p 0) (cmpI q 0)
theorem sign_cases (p : Int) : (p < 0 ∧ cmpI p 0 = -1) ∨ (p = 0 ∧ cmpI p 0 = 0) ∨ (0 < p ∧ cmpI p 0 = 1) := by
  rcases Int.lt_trichotomy p 0 with h | h | h
  · exact .inl ⟨h, cmpI_lt h⟩
  · exact .inr (.inl ⟨h, cmpI_eq h⟩)
  · exact .inr (.inr ⟨h, cmpI_gt h⟩)
/-- A number times its sign is a natural number with the same square. -/
theorem sign_mul (p : Int) : ∃ n : Nat, cmpI p 0 * p = (n : Int) ∧ (n : Int) * n = p * p ∧ (n = p ∨ (n : Int) = -p) := by
  rcases sign_cases p with ⟨h, e⟩ | ⟨h, e⟩ | ⟨h, e⟩
  · refine ⟨(-p).toNat, by rw [e]; omega, ?_, .inr (by omega)⟩
    rw [show (((-p).toNat : Nat) : Int) = -p by omega, Int.neg_mul_neg]
  · subst h; exact ⟨0, by simp, by simp, .inl rfl⟩
  · refine ⟨p.toNat, by rw [e]; omega, ?_, .inl (by omega)⟩
    rw [show ((p.toNat : Nat) : Int) = p by omega]
set_option maxHeartbeats 600000 in
set_option maxRecDepth 100000 in
theorem compared_any (a b c d : Int) (w : World) (ha : -100000000000000000 ≤ a ∧ a ≤ 100000000000000000) (hb : -100000000000000000 ≤ b ∧ b ≤ 100000000000000000) (hc : -100000000000000000 ≤ c ∧ c ≤ 100000000000000000) (hd : -100000000000000000 ≤ d ∧ d ≤ 100000000000000000) :
    Calls Try.prog 36 #[.agg #[.int .i64 a, .int .i64 b], .agg #[.int .i64 c, .int .i64 d]] w fun e w' => e = .returned (.int .i64 (compI (a - c) (d - b))) ∧ Below w.heap.size w w' := by
  obtain ⟨p, hp⟩ : ∃ p, p = a - c := ⟨_, rfl⟩
  obtain ⟨q, hq⟩ : ∃ q, q = d - b := ⟨_, rfl⟩
  have q1 : IntKind.i64.wrap (a - c) = p := by rw [hp]; exact IntWalk.i64_in _ (by omega)
  have q2 : IntKind.i64.wrap (d - b) = q := by rw [hq]; exact IntWalk.i64_in _ (by omega)
  have hpb : -200000000000000000 ≤ p ∧ p ≤ 200000000000000000 := by omega
  have hqb : -200000000000000000 ≤ q ∧ q ≤ 200000000000000000 := by omega
  rw [← hp, ← hq]
  have HD := hide (show compI p q = if cmpI p 0 = cmpI q 0 then cmpI p 0 * cmpI (p * p) (q * (q * 2)) else cmpI (cmpI p 0) (cmpI q 0) from rfl)
  have hsl := cmpI_le p 0
  have htl := cmpI_le q 0
  obtain ⟨mp, hnp, hnp2, hnp3⟩ := sign_mul p
  obtain ⟨mq, hnq, hnq2, hnq3⟩ := sign_mul q
  have CP := hide (fun W => compare_int p 0 W)
  have CQ := hide (fun W => compare_int q 0 W)
  obtain ⟨R, hR⟩ : ∃ R, R = compI p q := ⟨_, rfl⟩
  rw [← hR] at HD ⊢
  clear hR hp hq ha hb hc hd
  generalize hs : cmpI p 0 = s at *
  generalize ht : cmpI q 0 = t at *
  clear hs ht
  by_cases hst : s = t
  · subst hst
    have t1 : (s != s) = false := by simp
    have q3 : IntKind.i64.wrap (s * p) = (mp : Int) := by rw [hnp]; exact IntWalk.i64_in _ (by omega)
    have q4 : IntKind.i64.wrap (s * q) = (mq : Int) := by rw [hnq]; exact IntWalk.i64_in _ (by omega)
    have q5 : IntKind.i64.wrap ((mq : Int) * 2) = ((mq * 2 : Nat) : Int) := by rw [IntWalk.i64_in _ (by omega)]; omega
    have u1 : IntKind.u64.wrap (mp : Int) = (mp : Int) := wrapN mp (by omega)
    have u2 : IntKind.u64.wrap (mq : Int) = (mq : Int) := wrapN mq (by omega)
    obtain ⟨n2, hn2⟩ : ∃ n2, n2 = mq * 2 := ⟨_, rfl⟩
    have u3 : IntKind.u64.wrap (n2 : Int) = (n2 : Int) := wrapN n2 (by omega)
    have M1 := hide (fun W => mul64_any mp mp (by omega) (by omega) W)
    have M2 := hide (fun W => mul64_any mq n2 (by omega) (by omega) W)
    have HF := hide (show s * orI (cmpI ((mp * mp / 18446744073709551616 : Nat) : Int) ((mq * n2 / 18446744073709551616 : Nat) : Int)) (cmpI ((mp * mp % 18446744073709551616 : Nat) : Int) ((mq * n2 % 18446744073709551616 : Nat) : Int)) = R from by
      rw [or_cmp, HD.out, if_pos rfl, Int.natCast_mul, Int.natCast_mul, hnp2, hn2, Int.natCast_mul, ← Int.mul_assoc, ← Int.mul_assoc, hnq2]
      rfl)
    rw [← hn2] at q5
    generalize mp * mp / 18446744073709551616 = x1 at *
    generalize mp * mp % 18446744073709551616 = x2 at *
    generalize mq * n2 / 18446744073709551616 = y1 at *
    generalize mq * n2 % 18446744073709551616 = y2 at *
    have hl1 := cmpI_le (x1 : Int) (y1 : Int)
    have hl2 := cmpI_le (x2 : Int) (y2 : Int)
    have hol : -1 ≤ orI (cmpI (x1 : Int) (y1 : Int)) (cmpI (x2 : Int) (y2 : Int)) ∧ orI (cmpI (x1 : Int) (y1 : Int)) (cmpI (x2 : Int) (y2 : Int)) ≤ 1 := by unfold orI; split <;> omega
    have hRb : IntKind.i64.wrap (s * orI (cmpI (x1 : Int) (y1 : Int)) (cmpI (x2 : Int) (y2 : Int))) = R := by
      have := mul_within (M := 1) (N := 1) (show -1 ≤ s ∧ s ≤ 1 by omega) hol
      rw [IntWalk.i64_in _ (by omega), HF.out]
    clear hnp hnq hnp2 hnq2 hnp3 hnq3 hn2 HD hol
    go_enter Try.func36, Try.ntmps36
    go_upto_region 1 with fail
    obtain ⟨W, hW⟩ : ∃ y : World, y = (w.alloc (.cells #[.int .i64 a, .int .i64 b] 70)).alloc (.cells #[.int .i64 c, .int .i64 d] 70) := ⟨_, rfl⟩
    rw [← hW]
    have bx : Box W w.heap.size 70 #[.int .i64 a, .int .i64 b] := by rw [hW]; exact (Box.made rfl).alloc _
    have by' : Box W (w.heap.size + 1) 70 #[.int .i64 c, .int .i64 d] := by rw [hW]; exact Box.made (by simp)
    have hB : Below w.heap.size w W := by rw [hW]; (repeat (first | (with_reducible exact Below.refl _ _) | (with_reducible refine Go.below_drewN ?_ _) | (with_reducible refine Below.drew ?_) | (with_reducible refine Below.alloc ?_ (by first | exact Nat.le_refl _ | (simp; done) | (simp; omega) | omega) _) | (with_reducible refine Below.setCell ?_ (by first | exact Nat.le_refl _ | (simp; done) | (simp; omega) | omega) _)))
    have x0 : W.cell? ⟨w.heap.size, 0, none⟩ = some (.int .i64 a) := bx.at_ 0
    have x1 : W.cell? ⟨w.heap.size, 1, none⟩ = some (.int .i64 b) := bx.at_ 1
    have y0 : W.cell? ⟨w.heap.size + 1, 0, none⟩ = some (.int .i64 c) := by'.at_ 0
    have y1 : W.cell? ⟨w.heap.size + 1, 1, none⟩ = some (.int .i64 d) := by'.at_ 1
    have hlx := bx.lt
    have hly := by'.lt
    clear hW bx by'
    go_quiet (fail)
    clear x0 x1 y0 y1 hlx hly
    have hBV := Go.below_drewN hB nq
    generalize W.drewN nq = V at *
    clear hB
    go_wp2_with fail
    refine (CP.out _).mono ?_
    rintro e w' ⟨rfl, rfl⟩
    go_wp2_with fail
    refine (CQ.out _).mono ?_
    rintro e w' ⟨rfl, rfl⟩
    go_wp2_with fail
    refine (M1.out _).mono ?_
    rintro e w' ⟨rfl, rfl⟩
    go_wp2_with fail
    refine (M2.out _).mono ?_
    rintro e w' ⟨rfl, rfl⟩
    go_wp2_with fail
    refine (compare_u64 _ _ _).mono ?_
    rintro e w' ⟨rfl, rfl⟩
    go_wp2_with fail
    refine (compare_u64 _ _ _).mono ?_
    rintro e w' ⟨rfl, rfl⟩
    go_wp2_with fail
    have hb2 : Box (V.alloc (.cells #[.int .i64 (cmpI (x1 : Int) (y1 : Int)), .int .i64 (cmpI (x2 : Int) (y2 : Int))] 3)) V.heap.size 3 #[.int .i64 (cmpI (x1 : Int) (y1 : Int)), .int .i64 (cmpI (x2 : Int) (y2 : Int))] := Box.made rfl
    refine (or_two (cmpI (x1 : Int) (y1 : Int)) (cmpI (x2 : Int) (y2 : Int)) V.heap.size _ _ (hb2.at_ 0) (hb2.at_ 1)).mono ?_
    rintro e w' ⟨rfl, rfl⟩
    clear hb2
    go_wp2_with fail
    go_ret
    exact ⟨rfl, hBV.alloc hBV.size _⟩
  · have t1 : (s != t) = true := by simpa using hst
    have HE := hide (HD.out.trans (if_neg hst))
    clear hst HD hnp hnq hnp2 hnq2 hnp3 hnq3
    go_enter Try.func36, Try.ntmps36
    go_upto_region 1 with fail
    obtain ⟨W, hW⟩ : ∃ y : World, y = (w.alloc (.cells #[.int .i64 a, .int .i64 b] 70)).alloc (.cells #[.int .i64 c, .int .i64 d] 70) := ⟨_, rfl⟩
    rw [← hW]
    have bx : Box W w.heap.size 70 #[.int .i64 a, .int .i64 b] := by rw [hW]; exact (Box.made rfl).alloc _
    have by' : Box W (w.heap.size + 1) 70 #[.int .i64 c, .int .i64 d] := by rw [hW]; exact Box.made (by simp)
    have hB : Below w.heap.size w W := by rw [hW]; (repeat (first | (with_reducible exact Below.refl _ _) | (with_reducible refine Go.below_drewN ?_ _) | (with_reducible refine Below.drew ?_) | (with_reducible refine Below.alloc ?_ (by first | exact Nat.le_refl _ | (simp; done) | (simp; omega) | omega) _) | (with_reducible refine Below.setCell ?_ (by first | exact Nat.le_refl _ | (simp; done) | (simp; omega) | omega) _)))
    have x0 : W.cell? ⟨w.heap.size, 0, none⟩ = some (.int .i64 a) := bx.at_ 0
    have x1 : W.cell? ⟨w.heap.size, 1, none⟩ = some (.int .i64 b) := bx.at_ 1
    have y0 : W.cell? ⟨w.heap.size + 1, 0, none⟩ = some (.int .i64 c) := by'.at_ 0
    have y1 : W.cell? ⟨w.heap.size + 1, 1, none⟩ = some (.int .i64 d) := by'.at_ 1
    have hlx := bx.lt
    have hly := by'.lt
    clear hW bx by'
    go_quiet (fail)
    clear x0 x1 y0 y1 hlx hly
    have hBV := Go.below_drewN hB nq
    generalize W.drewN nq = V at *
    clear hB
    go_wp2_with fail
    refine (CP.out _).mono ?_
    rintro e w' ⟨rfl, rfl⟩
    go_wp2_with fail
    refine (CQ.out _).mono ?_
    rintro e w' ⟨rfl, rfl⟩
    go_wp2_with fail
    refine (CQ.out _).mono ?_
    rintro e w' ⟨rfl, rfl⟩
    go_wp2_with fail
    refine (compare_int s t _).mono ?_
    rintro e w' ⟨rfl, rfl⟩
    go_wp2_with fail
    go_ret
    exact ⟨ret_int HE.out.symm, hBV⟩
end Go.Proofs.Ytibdbopejnkefaa
/- sum of the code. -/
namespace Go.Proofs.Ytibdbopejnkefaa
open Go.RowKit
/-- The sum of the first k numbers. -/
def sumF (F : Nat → Num) : Nat → Num
  | 0 => Num.zero
  | k + 1 => (sumF F k).add (F k)
theorem sumF_within {F : Nat → Num} {M : Int} : ∀ {k : Nat}, (∀ j, j < k → (F j).Within M) → (sumF F k).Within (k * M)
  | 0, _ => by
    have e : ((0 : Nat) : Int) * M = 0 := by simp
    rw [e]
    show Num.zero.Within 0
    exact ⟨⟨by decide, by decide⟩, ⟨by decide, by decide⟩, ⟨by decide, by decide⟩, ⟨by decide, by decide⟩⟩
  | k + 1, h => by
    have e : ((k + 1 : Nat) : Int) * M = (k : Int) * M + M := by rw [Int.natCast_add, Int.add_mul]; simp
    rw [e]
    exact (sumF_within fun j hj => h j (by omega)).add (h k (by omega))
set_option maxHeartbeats 4000000 in
theorem sum_any (A : Option Addr) (n c : Nat) (F : Nat → Num) (M : Int) (w : World) (hn : n ≤ 100000) (hI : NumsAt w 0 A n F) (hM : ∀ k, k ≤ n → (sumF F k).Within M) (hM9 : M ≤ 9223372036854775807) :
    Calls Try.prog 25 #[.slice A n c] w fun e w' => e = .returned (.agg #[.int .i64 (sumF F n).a, .int .i64 (sumF F n).b, .int .i64 (sumF F n).c, .int .i64 (sumF F n).d]) ∧ Below w.heap.size w w' := by
  have HI := hide hI
  have HM := hide hM
  clear hI hM
  go_enter Try.func25, Try.ntmps25
  go_wp2_with fail
  go_loopw [8] (fun i wr => ∃ k : Nat, k ≤ n ∧ i = .int .i64 (k : Int) ∧ Box wr w.heap.size 35 #[.int .i64 0, .int .i64 0, .int .i64 0, .int .i64 0] ∧ Box wr (w.heap.size + 1) 35 #[.int .i64 (sumF F k).a, .int .i64 (sumF F k).b, .int .i64 (sumF F k).c, .int .i64 (sumF F k).d] ∧ Below w.heap.size w wr) (fun i _ => n - (Go.RowKit.intOf i).toNat)
  case atStart => exact ⟨0, Nat.zero_le _, rfl, (Box.made rfl).alloc _, Box.made (by simp), by (repeat (first | (with_reducible exact Below.refl _ _) | (with_reducible refine Go.below_drewN ?_ _) | (with_reducible refine Below.drew ?_) | (with_reducible refine Below.alloc ?_ (by first | exact Nat.le_refl _ | (simp; done) | (simp; omega) | omega) _) | (with_reducible refine Below.setCell ?_ (by first | exact Nat.le_refl _ | (simp; done) | (simp; omega) | omega) _)))⟩
  case round =>
    obtain ⟨k, hk, rfl, bz, bs, hB⟩ := hrel
    obtain ⟨wA, rfl⟩ : ∃ x : World, x = wr := ⟨_, rfl⟩
    have hBs := hB.size
    by_cases hlt : k < n
    · have hltz : (k : Int) < (n : Int) := by omega
      obtain ⟨b, o, rfl, -, hb, c0, c1, c2, c3⟩ := (HI.out.below hB) k hlt
      have hw := HM.out (k + 1) hlt
      have HS := hide (show sumF F (k + 1) = (sumF F k).add (F k) from rfl)
      rw [HS.out] at hw
      generalize sumF F k = s at *
      generalize F k = x at *
      have q1 : IntKind.i64.wrap (s.a + x.a) = s.a + x.a := IntWalk.i64_in _ (by have : -M ≤ s.a + x.a ∧ s.a + x.a ≤ M := hw.a; omega)
      have q2 : IntKind.i64.wrap (s.b + x.b) = s.b + x.b := IntWalk.i64_in _ (by have : -M ≤ s.b + x.b ∧ s.b + x.b ≤ M := hw.b; omega)
      have q3 : IntKind.i64.wrap (s.c + x.c) = s.c + x.c := IntWalk.i64_in _ (by have : -M ≤ s.c + x.c ∧ s.c + x.c ≤ M := hw.c; omega)
      have q4 : IntKind.i64.wrap (s.d + x.d) = s.d + x.d := IntWalk.i64_in _ (by have : -M ≤ s.d + x.d ∧ s.d + x.d ≤ M := hw.d; omega)
      clear hw
      go_upto_region 5 with fail
      obtain ⟨W1, hW1⟩ : ∃ y : World, y = wA.alloc (.cells #[.int .i64 x.a, .int .i64 x.b, .int .i64 x.c, .int .i64 x.d] 35) := ⟨_, rfl⟩
      rw [← hW1]
      have bx1 : Box W1 wA.heap.size 35 #[.int .i64 x.a, .int .i64 x.b, .int .i64 x.c, .int .i64 x.d] := by rw [hW1]; exact Box.made rfl
      have bs1 := bs.alloc (.cells #[.int .i64 x.a, .int .i64 x.b, .int .i64 x.c, .int .i64 x.d] 35)
      have bz1 := bz.alloc (.cells #[.int .i64 x.a, .int .i64 x.b, .int .i64 x.c, .int .i64 x.d] 35)
      have hB1 := hB.alloc hBs (.cells #[.int .i64 x.a, .int .i64 x.b, .int .i64 x.c, .int .i64 x.d] 35)
      rw [← hW1] at bs1 bz1 hB1
      have hls := bs.lt
      clear hW1 bs bz hB hb c0 c1 c2 c3
      obtain ⟨z0, z1, z2, z3, f0, f1, f2, f3, hl⟩ := bs1.cells4
      obtain ⟨y0, y1, y2, y3, g0, g1, g2, g3, hl'⟩ := bx1.cells4
      have HBS := hide (bs1.put4 (.int .i64 (s.a + x.a)) (.int .i64 (s.b + x.b)) (.int .i64 (s.c + x.c)) (.int .i64 (s.d + x.d)))
      have HBZ := hide (bz1.other4 (c := w.heap.size + 1) (by omega) (.int .i64 (s.a + x.a)) (.int .i64 (s.b + x.b)) (.int .i64 (s.c + x.c)) (.int .i64 (s.d + x.d)))
      have HBL := hide (Below.put4 hB1 (Nat.le_succ _) (.int .i64 (s.a + x.a)) (.int .i64 (s.b + x.b)) (.int .i64 (s.c + x.c)) (.int .i64 (s.d + x.d)))
      clear bs1 bz1 bx1 hB1
      go_wp2_with fail
      go_roundw
      case rel => exact ⟨k + 1, by omega, by go_num, HBZ.out, by rw [HS.out]; exact HBS.out, HBL.out⟩
      case measure => simp [Go.RowKit.intOf]; omega
    · obtain rfl : k = n := by omega
      obtain ⟨s, hs⟩ : ∃ s, sumF F k = s := ⟨_, rfl⟩
      rw [hs] at bs
      have HYS := hide hs
      clear hs
      obtain ⟨z0, z1, z2, z3, f0, f1, f2, f3, hl⟩ := bs.cells4
      obtain ⟨y0, y1, y2, y3, g0, g1, g2, g3, hl'⟩ := bz.cells4
      have HCE := hide (bz.put4 (.int .i64 s.a) (.int .i64 s.b) (.int .i64 s.c) (.int .i64 s.d)).cells4
      have HBL := hide (Below.put4 hB (Nat.le_refl _) (.int .i64 s.a) (.int .i64 s.b) (.int .i64 s.c) (.int .i64 s.d))
      clear bz bs hB
      go_wp2_with fail
      clear y0 y1 y2 y3
      obtain ⟨y0, y1, y2, y3, -⟩ := HCE.out
      refine bodyPost_ret (v := .agg #[.int .i64 s.a, .int .i64 s.b, .int .i64 s.c, .int .i64 s.d]) ?_ rfl ⟨by rw [HYS.out], HBL.out⟩
      simp [results, Try.results25, go_sem, y0, y1, y2, y3]
end Go.Proofs.Ytibdbopejnkefaa
/- OffsetOf without a walk: its errors, products, sums, and the best of them. -/
namespace Go.Proofs.Ytibdbopejnkefaa
open Go.RowKit
def offE (n m : Nat) (F G : Nat → Num) : Int := firstE [unI (decide (0 < n) && ((m : Int) == (n : Int))) 10, unI (decide ((n : Int) ≤ 16)) 8, numsE 100 F n, numsE 100 G m]
def offP (F G : Nat → Num) (i : Nat) : Num := (F i).conj.prod (G i)
def offS (P : Nat → Num) (n f : Nat) : Num := sumF (fun i => (P i).turns ((-(f : Int) * (i : Int)) % 8).toNat) n
/-- The best offset of the first f ones, and its square. -/
def offB (P : Nat → Num) (n : Nat) : Nat → Int × Int × Int
  | 0 => (0, 0, 0)
  | f + 1 => if 0 < compI ((offS P n f).sqP - (offB P n f).2.1) ((offB P n f).2.2 - (offS P n f).sqQ) then ((f : Int), (offS P n f).sqP, (offS P n f).sqQ) else offB P n f
/-- What OffsetOf hands back. -/
def offR (n m : Nat) (F G : Nat → Num) : Int := if offE n m F G = 0 then (offB (offP F G) n 8).1 else 0
theorem badE_zero {g : Nat → Int} : ∀ {n : Nat}, badE g n = 0 → ∀ i, i < n → g i = 0
  | 0, _, i, hi => absurd hi (Nat.not_lt_zero i)
  | n + 1, h, i, hi => by
    unfold badE at h
    by_cases h0 : badE g n = 0
    · rw [if_pos h0] at h
      rcases Nat.lt_or_ge i n with h1 | h1
      · exact badE_zero h0 i h1
      · obtain rfl : i = n := by omega
        exact h
    · rw [if_neg h0] at h; exact absurd h h0
theorem numsE_zero {M : Int} {F : Nat → Num} {n : Nat} (h : numsE M F n = 0) : ∀ i, i < n → (F i).Within M := fun i hi => err_within (badE_zero h i hi)
theorem firstE_nil {a : Int} {r : List Int} (h : firstE (a :: r) = 0) : a = 0 ∧ firstE r = 0 := by
  rw [firstE] at h
  by_cases ha : a = 0
  · rw [if_pos ha] at h; exact ⟨ha, h⟩
  · rw [if_neg ha] at h; exact absurd h ha
theorem unI_zero {b : Bool} {e : Int} (he : e ≠ 0) (h : unI b e = 0) : b = true := by
  unfold unI at h
  cases b
  · exact absurd h (by simpa using he)
  · rfl
theorem offE_zero {n m : Nat} {F G : Nat → Num} (h : offE n m F G = 0) : 0 < n ∧ m = n ∧ n ≤ 16 ∧ (∀ i, i < n → (F i).Within 100) ∧ ∀ i, i < n → (G i).Within 100 := by
  unfold offE at h
  obtain ⟨h1, h⟩ := firstE_nil h
  obtain ⟨h2, h⟩ := firstE_nil h
  obtain ⟨h3, h⟩ := firstE_nil h
  obtain ⟨h4, -⟩ := firstE_nil h
  have k1 := unI_zero (by decide) h1
  have k2 := unI_zero (by decide) h2
  simp at k1 k2
  obtain ⟨k0, k1⟩ := k1
  have e : m = n := by omega
  subst e
  exact ⟨k0, rfl, by omega, numsE_zero h3, numsE_zero h4⟩
theorem Num.Within.conj {M : Int} {x : Num} (h : x.Within M) : x.conj.Within M :=
  ⟨h.a, by have := h.d; show -M ≤ -x.d ∧ -x.d ≤ M; omega, by have := h.c; show -M ≤ -x.c ∧ -x.c ≤ M; omega, by have := h.b; show -M ≤ -x.b ∧ -x.b ≤ M; omega⟩
theorem offP_within {F G : Nat → Num} {i : Nat} (h : (F i).Within 100) (k : (G i).Within 100) : (offP F G i).Within 40000 := by
  have := Num.Within.prodTo h.conj k 4
  exact this.more (by decide)
theorem sums_within {P : Nat → Num} {n : Nat} (hn : n ≤ 16) (h : ∀ i, i < n → (P i).Within 40000) (f : Int) : ∀ k, k ≤ n → (sumF (fun i => (P i).turns ((f * (i : Int)) % 8).toNat) k).Within 640000 := fun k hk =>
  (sumF_within (M := 40000) fun j hj => (h j (by omega)).turns _).more (by omega)
theorem offS_within {P : Nat → Num} {n : Nat} (hn : n ≤ 16) (h : ∀ i, i < n → (P i).Within 40000) (f : Nat) : (offS P n f).Within 640000 := sums_within hn h (-(f : Int)) n (Nat.le_refl n)
theorem Num.Within.squares {x : Num} (h : x.Within 640000) : (-2000000000000 ≤ x.sqP ∧ x.sqP ≤ 2000000000000) ∧ -2000000000000 ≤ x.sqQ ∧ x.sqQ ≤ 2000000000000 := by
  obtain ⟨ha, hb, hc, hd⟩ := h
  have m1 := mul_within ha ha
  have m2 := mul_within hb hb
  have m3 := mul_within hc hc
  have m4 := mul_within hd hd
  have m5 := mul_within ha hb
  have m6 := mul_within hb hc
  have m7 := mul_within hc hd
  have m8 := mul_within ha hd
  unfold Num.sqP Num.sqQ
  omega
theorem offB_within {P : Nat → Num} {n : Nat} (hn : n ≤ 16) (h : ∀ i, i < n → (P i).Within 40000) : ∀ f, (-2000000000000 ≤ (offB P n f).2.1 ∧ (offB P n f).2.1 ≤ 2000000000000) ∧ -2000000000000 ≤ (offB P n f).2.2 ∧ (offB P n f).2.2 ≤ 2000000000000
  | 0 => by
    show (-2000000000000 ≤ (0 : Int) ∧ (0 : Int) ≤ 2000000000000) ∧ -2000000000000 ≤ (0 : Int) ∧ (0 : Int) ≤ 2000000000000
    exact ⟨⟨by decide, by decide⟩, by decide, by decide⟩
  | f + 1 => by
    unfold offB
    split
    · exact (offS_within hn h f).squares
    · exact offB_within hn h f
theorem OwnNums.form {w : World} {base n : Nat} {v : Value} {F : Nat → Num} (h : OwnNums w base v n F) : ∃ A c, v = .slice A n c ∧ n ≤ c ∧ NumsAt w base A n F := by
  have h' := h
  rcases h.2 with ⟨rfl, hx⟩ | ⟨g, cap, cur, rfl, hb, hg, hnc, hm, hsz, htake⟩
  · subst hx
    exact ⟨_, _, rfl, Nat.le_refl _, NumsAt.nil_⟩
  · exact ⟨_, _, rfl, hnc, OwnNums.nums (c := cap) h'⟩
theorem cells8_below {W W' : World} {p0 p1 p2 p3 p4 p5 p6 p7 : Addr} {v0 v1 v2 v3 v4 v5 v6 v7 : Value} (hb : Below W.heap.size W W') (h : W.cell? p0 = some v0 ∧ W.cell? p1 = some v1 ∧ W.cell? p2 = some v2 ∧ W.cell? p3 = some v3 ∧ W.cell? p4 = some v4 ∧ W.cell? p5 = some v5 ∧ W.cell? p6 = some v6 ∧ W.cell? p7 = some v7) :
    W'.cell? p0 = some v0 ∧ W'.cell? p1 = some v1 ∧ W'.cell? p2 = some v2 ∧ W'.cell? p3 = some v3 ∧ W'.cell? p4 = some v4 ∧ W'.cell? p5 = some v5 ∧ W'.cell? p6 = some v6 ∧ W'.cell? p7 = some v7 := by
  obtain ⟨h0, h1, h2, h3, h4, h5, h6, h7⟩ := h
  have f := fun (p : Addr) (v : Value) (h : W.cell? p = some v) => (hb.cell (World.block_lt_of_cell? W p h)).trans h
  exact ⟨f _ _ h0, f _ _ h1, f _ _ h2, f _ _ h3, f _ _ h4, f _ _ h5, f _ _ h6, f _ _ h7⟩
end Go.Proofs.Ytibdbopejnkefaa
/- KnownErr of the reference; Shifted of the code. -/
namespace Go.Proofs.Ytibdbopejnkefaa
open Go.RowKit
theorem err_cases (M : Int) (x : Num) : x.err M = unI (x.isIn M) 2 := rfl
theorem offE_far {n m : Nat} {F G : Nat → Num} (h : n = 0 ∨ m ≠ n) : offE n m F G = 10 := by
  unfold offE
  rw [firstE, if_neg]
  · unfold unI
    rw [if_neg]
    simp
    omega
  · unfold unI
    rw [if_neg]
    · decide
    · simp
      omega
theorem offE_many {n : Nat} {F G : Nat → Num} (h : 16 < n) : offE n n F G = 8 := by
  unfold offE
  rw [firstE, if_pos, firstE, if_neg]
  · unfold unI; rw [if_neg]; simp; omega
  · unfold unI; rw [if_neg]
    · decide
    · simp; omega
  · unfold unI; rw [if_pos]; simp; omega
theorem offE_few {n : Nat} {F G : Nat → Num} (h0 : 0 < n) (h : n ≤ 16) : offE n n F G = firstE [numsE 100 F n, numsE 100 G n] := by
  unfold offE
  rw [firstE, if_pos, firstE, if_pos]
  · unfold unI; rw [if_pos]; simp; omega
  · unfold unI; rw [if_pos]; simp; omega
end Go.Proofs.Ytibdbopejnkefaa
/- samplesError and Shifted of the code. -/
namespace Go.Proofs.Ytibdbopejnkefaa
open Go.RowKit
theorem sampE_first (n : Nat) (F : Nat → Num) : firstE [unI (decide ((n : Int) ≤ 120)) 8, numsE 1000000000 F n] = sampE n F := by
  rw [firstE_two]
  unfold sampE twoE unI
  by_cases h : 120 < n
  · rw [if_pos h, if_neg (show ¬ decide ((n : Int) ≤ 120) = true by simp; omega), if_neg (by decide)]
  · rw [if_neg h, if_pos (show decide ((n : Int) ≤ 120) = true by simp; omega), if_pos rfl]
/-- The error of samples that are turned on. -/
def shiftE (n : Nat) (F : Nat → Num) (q : Int) : Int := twoE (sampE n F) (unI (withinB q 0 7) 2)
theorem shiftE_zero {n : Nat} {F : Nat → Num} {q : Int} (h : shiftE n F q = 0) : n ≤ 120 ∧ (∀ j, j < n → (F j).Within 1000000000) ∧ 0 ≤ q ∧ q ≤ 7 := by
  unfold shiftE twoE at h
  by_cases h1 : sampE n F = 0
  · rw [if_pos h1] at h
    have h2 := unI_zero (by decide) h
    unfold sampE at h1
    by_cases h3 : 120 < n
    · rw [if_pos h3] at h1; exact absurd h1 (by decide)
    · rw [if_neg h3] at h1
      unfold withinB at h2
      simp at h2
      exact ⟨by omega, numsE_zero h1, by omega, by omega⟩
  · rw [if_neg h1] at h; exact absurd h h1
theorem ownNums_weak {w : World} {base base' n : Nat} {v : Value} {F : Nat → Num} (h : OwnNums w base v n F) (hb : base' ≤ base) : OwnNums w base' v n F :=
  ⟨h.1, h.2.elim Or.inl (fun ⟨g, cap, cur, hv, hg, r⟩ => Or.inr ⟨g, cap, cur, hv, Nat.le_trans hb hg, r⟩)⟩
/-- What Shifted hands back: n numbers, or none where there is an error. -/
def GaveShift (w' : World) (base : Nat) (v : Value) (n : Nat) (F : Nat → Num) (q V : Int) : Prop := OwnNums w' base v (if V = 0 then n else 0) (shiftN F q)
end Go.Proofs.Ytibdbopejnkefaa
/- An array by value, indexed. -/
namespace Go.Proofs.Ytibdbopejnkefaa
open Go.RowKit
theorem run_index_four (cs : Array Value) (k : Nat) (v : Value) (w : World) (hk : k < 4) (hn : cs.size = 4) (hv : cs[k]? = some v) (hv1 : v.cells.size = 1) : (Instr.index 94 (.agg cs) (.int .i64 (k : Int))).run Try.prog w = .ok v w := by
  have h1 : (k : Int) < 4 := by omega
  have h2 : (0 : Int) ≤ (k : Int) := by omega
  simp [Instr.index, run_underlying Try.underlying94, asIntOf, go_sem, h1, h2, hv]
  intro h; omega
theorem wpList_index_four {ops : Array Oper} {rest : List Oper} {o : Oper} {a : Act} {w : World} {Q : Exit → Act → World → Prop} (hgd : o.guard = none) (s i : Operand) (ho : o.op = .index 94 s i)
    (cs : Array Value) (k : Nat) (v : Value) (hs : a.eval s = .agg cs) (hi : a.eval i = .int .i64 (k : Int)) (hk : k < 4) (hn : cs.size = 4) (hv : cs[k]? = some v) (hv1 : v.cells.size = 1)
    (h : wpList Try.prog ops Q rest (a.put o.dst v) w) : wpList Try.prog ops Q (o :: rest) a w :=
  wpList_plain hgd fun _ hK => by
    unfold Oper.wp execOp
    simp only [ho, hs, hi, Sem.run_bind, Sem.run_pure, Result.andThen_ok, run_index_four cs k v w hk hn hv hv1]
    exact hK _ _ h
end Go.Proofs.Ytibdbopejnkefaa
