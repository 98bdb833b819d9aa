/- Lemmas: Bj, E30, E22. -/
import Derived.Deep.QuietTactic
import Derived.Test.YtejhakkfgfahaaaBz07
import Derived.Test.YtejhakkfgfahaaaBz10
import Derived.Test.YtejhakkfgfahaaaBz12
import Derived.Test.YtejhakkfgfahaaaBz13
import Derived.Test.YtejhakkfgfahaaaBz15
set_option linter.unusedVariables false
set_option linter.unusedSimpArgs false
/- SquareErr, SquareOf, SquaresErr and Compared of the reference. -/
namespace Go.Proofs.Ytejhakkfgfahaaa
open Go.RowKit
set_option maxHeartbeats 2000000 in
set_option maxRecDepth 100000 in
theorem squareOfR_any (x : Num) (w : World) (hx : x.Within 1000000) :
    Calls Try.prog 27 #[.agg #[.int .i64 x.a, .int .i64 x.b, .int .i64 x.c, .int .i64 x.d]] w fun e w' => e = .returned (.agg #[.int .i64 x.sqP, .int .i64 x.sqQ]) ∧ Below w.heap.size w w' := by
  obtain ⟨ha, hb, hc, hd⟩ := hx
  have HP := hide (show x.sqP = x.a * x.a + x.b * x.b + x.c * x.c + x.d * x.d from rfl)
  have HQ := hide (show x.sqQ = x.a * x.b + x.b * x.c + x.c * x.d - x.a * x.d from rfl)
  obtain ⟨a, b, c, d⟩ := x
  simp only at ha hb hc hd HP HQ ⊢
  have m1 := mul_within ha ha
  have m2 := mul_within hb hb
  have m3 := mul_within hc hc
  have m4 := mul_within hd hd
  have m5 := mul_within ha hb
  have m6 := mul_within hb hc
  have m7 := mul_within hc hd
  have m8 := mul_within ha hd
  obtain ⟨P, hP⟩ : ∃ P, P = (⟨a, b, c, d⟩ : Num).sqP := ⟨_, rfl⟩
  obtain ⟨Q, hQ⟩ : ∃ Q, Q = (⟨a, b, c, d⟩ : Num).sqQ := ⟨_, rfl⟩
  rw [← hP] at HP ⊢
  rw [← hQ] at HQ ⊢
  clear hP hQ ha hb hc hd
  generalize e1 : a * a = aa at *
  generalize e2 : b * b = bb at *
  generalize e3 : c * c = cc at *
  generalize e4 : d * d = dd at *
  generalize e5 : a * b = ab at *
  generalize e6 : b * c = bc at *
  generalize e7 : c * d = cd at *
  generalize e8 : a * d = ad at *
  have q1 : IntKind.i64.wrap aa = aa := IntWalk.i64_in _ (by omega)
  have q2 : IntKind.i64.wrap bb = bb := IntWalk.i64_in _ (by omega)
  have q3 : IntKind.i64.wrap cc = cc := IntWalk.i64_in _ (by omega)
  have q4 : IntKind.i64.wrap dd = dd := IntWalk.i64_in _ (by omega)
  have q5 : IntKind.i64.wrap ab = ab := IntWalk.i64_in _ (by omega)
  have q6 : IntKind.i64.wrap bc = bc := IntWalk.i64_in _ (by omega)
  have q7 : IntKind.i64.wrap cd = cd := IntWalk.i64_in _ (by omega)
  have q8 : IntKind.i64.wrap ad = ad := IntWalk.i64_in _ (by omega)
  have q9 : IntKind.i64.wrap (aa + bb) = aa + bb := IntWalk.i64_in _ (by omega)
  have q10 : IntKind.i64.wrap (aa + bb + cc) = aa + bb + cc := IntWalk.i64_in _ (by omega)
  have q11 : IntKind.i64.wrap (aa + bb + cc + dd) = P := by rw [HP.out]; exact IntWalk.i64_in _ (by omega)
  have q12 : IntKind.i64.wrap (ab + bc) = ab + bc := IntWalk.i64_in _ (by omega)
  have q13 : IntKind.i64.wrap (ab + bc + cd) = ab + bc + cd := IntWalk.i64_in _ (by omega)
  have q14 : IntKind.i64.wrap (ab + bc + cd - ad) = Q := by rw [HQ.out]; exact IntWalk.i64_in _ (by omega)
  clear m1 m2 m3 m4 m5 m6 m7 m8
  go_enter Try.func27, Try.ntmps27
  go_wp2_with fail
  have hbx : Box ((w.alloc (.cells #[.int .i64 a, .int .i64 b, .int .i64 c, .int .i64 d] 41)).alloc (.cells #[.int .i64 P, .int .i64 Q] 45)) (w.heap.size + 1) 45 #[.int .i64 P, .int .i64 Q] := Box.made (by simp)
  have y0 := hbx.at_ 0
  have y1 := hbx.at_ 1
  simp only [List.getElem?_toArray] at y0 y1
  refine bodyPost_ret (v := .agg #[.int .i64 P, .int .i64 Q]) ?_ rfl ⟨rfl, by (repeat (first | (with_reducible exact Below.refl _ _) | (with_reducible refine Go.below_drewN ?_ _) | (with_reducible refine Below.drew ?_) | (with_reducible refine Below.alloc ?_ (by first | exact Nat.le_refl _ | (simp; done) | (simp; omega) | omega) _) | (with_reducible refine Below.setCell ?_ (by first | exact Nat.le_refl _ | (simp; done) | (simp; omega) | omega) _)))⟩
  simp [results, Try.results27, go_sem, y0, y1]
/-- Twice a square is no square. -/
theorem no_root : ∀ (n p q : Nat), q ≤ n → p * p = 2 * (q * q) → q = 0
  | 0, _, _, h, _ => by omega
  | n + 1, p, q, h, e => by
    rcases Nat.mod_two_eq_zero_or_one p with h2 | h2
    · obtain ⟨k, rfl⟩ : ∃ k, p = 2 * k := ⟨p / 2, by omega⟩
      have e0 : 2 * k * (2 * k) = 2 * 2 * (k * k) := Nat.mul_mul_mul_comm 2 k 2 k
      have e1 : q * q = 2 * (k * k) := by omega
      rcases Nat.eq_zero_or_pos q with hq | hq
      · exact hq
      · have hqq := Nat.mul_pos hq hq
        have hk : k < q := by
          rcases Nat.lt_or_ge k q with h' | h'
          · exact h'
          · have := Nat.mul_le_mul h' h'
            omega
        have hk0 := no_root n q k (by omega) e1
        subst hk0
        omega
    · obtain ⟨k, rfl⟩ : ∃ k, p = 2 * k + 1 := ⟨p / 2, by omega⟩
      rw [Nat.add_mul, Nat.one_mul, Nat.mul_assoc] at e
      omega
theorem no_rootI {p q : Int} (hq : q ≠ 0) : p * p ≠ 2 * (q * q) := fun e => by
  have e1 := congrArg Int.natAbs e
  rw [Int.natAbs_mul, Int.natAbs_mul, Int.natAbs_mul] at e1
  have := no_root q.natAbs p.natAbs q.natAbs (Nat.le_refl _) e1
  omega
/-- What the reference's Compared says of the differences of two squares. -/
def refC (p q : Int) : Int := if 0 ≤ p ∧ 0 ≤ q then (if p = 0 ∧ q = 0 then 0 else 1) else if p ≤ 0 ∧ q ≤ 0 then -1 else if (0 < cmpI (p * p) (2 * (q * q))) = (0 < p) then 1 else -1
theorem refC_comp (p q : Int) : refC p q = compI p (-q) := by
  unfold refC compI
  have e1 : -q * (-q * 2) = 2 * (q * q) := by rw [Int.neg_mul, Int.neg_mul, Int.mul_neg, Int.neg_neg, Int.mul_comm 2, Int.mul_assoc]
  rw [e1]
  rcases Int.lt_trichotomy p 0 with hp | hp | hp
  · rcases Int.lt_trichotomy q 0 with hq | hq | hq
    · rw [if_neg (by omega), if_pos (by omega), cmpI_lt hp, cmpI_gt (show 0 < -q by omega)]; rw [if_neg (by decide)]; decide
    · subst hq
      rw [if_neg (by omega), if_pos (by omega), cmpI_lt hp]; rw [if_neg (by decide)]; decide
    · have hn := no_rootI (p := p) (q := q) (by omega)
      rw [if_neg (by omega), if_neg (by omega), cmpI_lt hp, cmpI_lt (show -q < 0 by omega), if_pos rfl]
      rcases Int.lt_trichotomy (p * p) (2 * (q * q)) with h | h | h
      · rw [cmpI_lt h, if_pos (by simp; omega)]; decide
      · exact absurd h hn
      · rw [cmpI_gt h, if_neg (by simp; omega)]; decide
  · subst hp
    rcases Int.lt_trichotomy q 0 with hq | hq | hq
    · rw [if_neg (by omega), if_pos (by omega), cmpI_gt (show 0 < -q by omega)]; rw [if_neg (by decide)]; decide
    · subst hq; decide
    · rw [if_pos (by omega), if_neg (by omega), cmpI_lt (show -q < 0 by omega)]; rw [if_neg (by decide)]; decide
  · rcases Int.lt_trichotomy q 0 with hq | hq | hq
    · have hn := no_rootI (p := p) (q := q) (by omega)
      rw [if_neg (by omega), if_neg (by omega), cmpI_gt hp, cmpI_gt (show 0 < -q by omega), if_pos rfl]
      rcases Int.lt_trichotomy (p * p) (2 * (q * q)) with h | h | h
      · rw [cmpI_lt h, if_neg (by simp; omega)]; decide
      · exact absurd h hn
      · rw [cmpI_gt h, if_pos (by simp; omega)]; decide
    · subst hq
      rw [if_pos (by omega), if_neg (by omega), cmpI_gt hp]; rw [if_neg (by decide)]; decide
    · rw [if_pos (by omega), if_neg (by omega), cmpI_gt hp, cmpI_lt (show -q < 0 by omega)]; rw [if_neg (by decide)]; decide
end Go.Proofs.Ytejhakkfgfahaaa
/- look of the reference. -/
namespace Go.Proofs.Ytejhakkfgfahaaa
open Go.RowKit Go.Great
structure LtW (a b : Nat) : Prop where lt : a < b
def mkF (k a i j : Nat) : Int := if j < i ∧ ¬ j % a = 0 then -1 else stF k 1 j
theorem mkF_end {k a j : Nat} (hj : j < 8) : mkF k a 8 j = stF k a j := by
  unfold mkF stF
  rw [if_pos (Nat.mod_one j)]
  by_cases h : j % a = 0
  · rw [if_neg (fun q => q.2 h), if_pos h]
  · rw [if_pos ⟨hj, h⟩, if_neg h]
set_option maxHeartbeats 8000000 in
set_option maxRecDepth 100000 in
theorem look_ref (a k s : Nat) (w : World) (ha : 1 ≤ a) (ha8 : a ≤ 8) (hk : k ≤ 7) (hs : s ≤ 7) :
    Calls Try.prog 65 #[.int .i64 (a : Int), .int .i64 (k : Int), .int .i64 (s : Int)] w fun e w' => ∃ D d, e = .returned (.agg #[.slice D 8 d, .int .i64 (lkN k a s).sqP, .int .i64 (lkN k a s).sqQ]) ∧ (8 ≤ d ∧ d ≤ 9223372036854775807) ∧ IntsAt w' w.heap.size D 8 (stF k a) ∧ Below w.heap.size w w' := by
  have HST := hide (fun W => (show Calls Try.prog 20 #[.int .i64 8, .int .i64 (k : Int)] W fun e w' => ∃ B d, e = .returned (.agg #[.slice B 8 d]) ∧ OwnInts w' (W.heap.size + 1 + 1) (.slice B 8 d) 8 (stF k 1) ∧ Below W.heap.size W w' from Steering_ref 8 k W (by decide) hk))
  have HRO := hide (fun A c W (h : IntsAt W 0 A 8 (stF k a)) => (show Calls Try.prog 26 #[.agg #[.slice A 8 c], .int .i64 (s : Int)] W fun e w' => e = .returned (.agg #[.int .i64 (lkN k a s).a, .int .i64 (lkN k a s).b, .int .i64 (lkN k a s).c, .int .i64 (lkN k a s).d]) ∧ Below W.heap.size W w' from ResponseOf_ref A 8 c (stF k a) s W (by decide) hs h (fun _ _ => stF_in)))
  have HSQ := hide (fun W => squareOfR_any (lkN k a s) W ((rsN_within (stF k a) s 8).more (by decide)))
  have HMK := hide (fun i j => (show mkF k a i j = if j < i ∧ ¬ j % a = 0 then -1 else stF k 1 j from rfl))
  have HEN := hide (fun j (h : j < 8) => mkF_end (k := k) (a := a) h)
  obtain ⟨S, hS⟩ : ∃ z, lkN k a s = z := ⟨_, rfl⟩
  simp only [hS] at HRO HSQ ⊢
  obtain ⟨P, hP⟩ : ∃ z, S.sqP = z := ⟨_, rfl⟩
  obtain ⟨Q, hQ⟩ : ∃ z, S.sqQ = z := ⟨_, rfl⟩
  simp only [hP, hQ] at HSQ ⊢
  obtain ⟨F, hF⟩ : ∃ z, stF k a = z := ⟨_, rfl⟩
  obtain ⟨F1, hF1⟩ : ∃ z, stF k 1 = z := ⟨_, rfl⟩
  simp only [hF, hF1] at HST HRO HMK HEN ⊢
  obtain ⟨s0, hs0⟩ : ∃ z, S.a = z := ⟨_, rfl⟩
  obtain ⟨s1, hs1⟩ : ∃ z, S.b = z := ⟨_, rfl⟩
  obtain ⟨s2, hs2⟩ : ∃ z, S.c = z := ⟨_, rfl⟩
  obtain ⟨s3, hs3⟩ : ∃ z, S.d = z := ⟨_, rfl⟩
  simp only [hs0, hs1, hs2, hs3] at HRO HSQ
  clear hS hP hQ hF hF1 hs0 hs1 hs2 hs3
  go_enter Try.func65, Try.ntmps65
  go_upto_region 1 with fail
  obtain ⟨w_1, hw_1⟩ : ∃ q : World, q = (w.alloc (.cells #[.slice none 0 0, .int .i64 0, .int .i64 0] 100)) := ⟨_, rfl⟩
  try rw [← hw_1]
  have HX0 := hide (show Box w_1 (w.heap.size) 100 #[.slice none 0 0, .int .i64 0, .int .i64 0] by rw [hw_1]; exact Box.made rfl)
  have HB := hide (show Below w.heap.size w w_1 by rw [hw_1]; (repeat (first | (with_reducible exact Below.refl _ _) | (with_reducible refine Go.below_drewN ?_ _) | (with_reducible refine Below.drew ?_) | (with_reducible refine Below.alloc ?_ (by first | exact Nat.le_refl _ | (simp; done) | (simp; omega) | omega) _) | (with_reducible refine Below.setCell ?_ (by first | exact Nat.le_refl _ | (simp; done) | (simp; omega) | omega) _))))
  clear hw_1
  go_wp2_with fail
  have HS0 := hide (LtW.mk HX0.out.lt)
  refine (HST.out _).mono ?_
  rintro e_ w_2 ⟨B, d, rfl, ho, hb_2⟩
  replace HX0 := hide (HX0.out.below hb_2)
  replace HB := hide (HB.out.trans (hb_2.mono HB.out.size))
  clear hb_2
  obtain ⟨gD, cD, eD, hgb, hgl⟩ := ho.row (by decide)
  injection eD with eB _ ed
  subst eB ed
  obtain ⟨bD, hbD⟩ : ∃ z, w_1.heap.size + 1 + 1 = z := ⟨_, rfl⟩
  rw [hbD] at ho hgb
  have hbw : w.heap.size < bD := by rw [← hbD]; have := HS0.out.lt; omega
  have HO := hide ho
  have HLT := hide (LtW.mk hgl)
  have hcap := ho.cap_any
  clear ho hgl hbD
  go_upto_region 2 with fail
  obtain ⟨g7, hg7⟩ : ∃ q, w_2.heap.size = q := ⟨_, rfl⟩
  obtain ⟨w_3, hw_3⟩ : ∃ q : World, q = w_2.alloc (.cells #[.slice (some ⟨gD, 0, none⟩) 8 d] 24) := ⟨_, rfl⟩
  try rw [← hw_3]
  have lt_HLT_g7 : gD < g7 := by rw [← hg7]; exact HLT.out.lt
  have lt_HX0_g7 : w.heap.size < g7 := by rw [← hg7]; exact HX0.out.lt
  have HX7 := hide (show Box w_3 g7 24 #[.slice (some ⟨gD, 0, none⟩) 8 d] by rw [hw_3]; exact Box.made hg7.symm)
  have hc_3 : Below w_2.heap.size w_2 w_3 := by rw [hw_3]; exact (Below.refl _ _).alloc (Nat.le_refl _) _
  clear hw_3
  replace HX0 := hide (HX0.out.below hc_3)
  replace HO := hide (HO.out.below hc_3)
  replace HB := hide (HB.out.trans (hc_3.mono HB.out.size))
  clear hc_3
  try simp only [hg7]
  clear hg7
  clear HLT HS0
  go_wp2_with fail
  go_loopw [8] (fun i wr => ∃ j : Nat, j ≤ 8 ∧ i = .int .i64 (j : Int) ∧ Hid (Box wr w.heap.size 100 #[.slice none 0 0, .int .i64 0, .int .i64 0]) ∧ Hid (Box wr g7 24 #[.slice (some ⟨gD, 0, none⟩) 8 d]) ∧ Hid (OwnInts wr bD (.slice (some ⟨gD, 0, none⟩) 8 d) 8 (mkF k a j)) ∧ Hid (Below w.heap.size w wr)) (fun i _ => 8 - (Go.RowKit.intOf i).toNat)
  case atStart => exact ⟨0, Nat.zero_le _, rfl, HX0, HX7, hide (HO.out.congr fun j hj => by rw [HMK.out, if_neg (fun q => absurd q.1 (Nat.not_lt_zero j))]), HB⟩
  case round =>
    clear HX0 HX7 HO HB
    obtain ⟨j, hj, rfl, HX0, HX7, HO, HB⟩ := hrel
    obtain ⟨wA, rfl⟩ : ∃ x : World, x = wr := ⟨_, rfl⟩
    by_cases hlt : j < 8
    case pos =>
      have hltz : (j : Int) < 8 := by omega
      have hna : ¬ (a : Int) = 0 := by omega
      obtain ⟨r, hr⟩ : ∃ z : Nat, j % a = z := ⟨_, rfl⟩
      have q1 : (j : Int).tmod (a : Int) = (r : Int) := by rw [Int.tmod_eq_emod_of_nonneg (by omega), ← Int.natCast_emod, hr]
      have HRJ := hide hr
      obtain ⟨x0, -, hlx⟩ := HX7.out.c1
      by_cases h0 : r = 0
      case pos =>
        have t1 : ((r : Int) != 0) = false := by simp; omega
        go_wp2_with fail
        go_roundw
        case rel =>
          exact ⟨j + 1, by omega, by go_num, HX0, HX7, hide (HO.out.congr fun i hi => by
            rw [HMK.out, HMK.out]
            by_cases e : i < j
            · by_cases e2 : i % a = 0
              · rw [if_neg (fun q => q.2 e2), if_neg (fun q => q.2 e2)]
              · rw [if_pos ⟨e, e2⟩, if_pos ⟨by omega, e2⟩]
            · rw [if_neg (fun q => e q.1), if_neg]
              intro q
              obtain rfl : i = j := by omega
              exact q.2 (by rw [HRJ.out]; exact h0)), HB⟩
        case measure => simp [Go.RowKit.intOf]; omega
      have t1 : ((r : Int) != 0) = true := by simp; omega
      have z0 := HO.out.cellAt hlt
      have zf := HO.out.frozen j
      have ne0 : w.heap.size ≠ gD := by omega
      have ne7 : g7 ≠ gD := by omega
      have HY0 := hide (HX0.out.other (p := ⟨gD, j, none⟩) (by show w.heap.size ≠ gD; exact ne0) (.int .i64 (-1)))
      have HY7 := hide (HX7.out.other (p := ⟨gD, j, none⟩) (by show g7 ≠ gD; exact ne7) (.int .i64 (-1)))
      have HOY := hide (HO.out.set_ j (-1))
      have HBY := hide (HB.out.setCell (p := ⟨gD, j, none⟩) (by show w.heap.size ≤ gD; omega) (.int .i64 (-1)))
      clear HX0 HX7 HO HB
      go_wp2_with fail
      go_roundw
      case rel =>
        exact ⟨j + 1, by omega, by go_num, HY0, HY7, hide (HOY.out.congr fun i hi => by
          unfold setF
          by_cases e : i = j
          · rw [if_pos e, HMK.out, if_pos ⟨by omega, by rw [e, HRJ.out]; exact h0⟩]
          · rw [if_neg e, HMK.out, HMK.out]
            by_cases e2 : i % a = 0
            · rw [if_neg (fun q => q.2 e2), if_neg (fun q => q.2 e2)]
            · by_cases e3 : i < j
              · rw [if_pos ⟨e3, e2⟩, if_pos ⟨by omega, e2⟩]
              · rw [if_neg (fun q => e3 q.1), if_neg (fun q => by omega)]), HBY⟩
      case measure => simp [Go.RowKit.intOf]; omega
    obtain rfl : j = 8 := by omega
    have HOF := hide (HO.out.congr fun j hj => HEN.out j hj)
    obtain ⟨A7, c7, e7, -, hi7⟩ := HOF.out.form
    injection e7 with e71 _ e72
    subst e71 e72
    have HI := hide (hi7.weak (show w.heap.size + 1 ≤ bD from hbw))
    clear hi7 HO HOF HST HMK HEN
    have lt_HX0_g7 : w.heap.size < g7 := by omega
    go_upto_region 7 with fail
    refine wp_region_held_drew (S := fun w' => w'.cell? ⟨g7, 0, none⟩ = some (.slice (some ⟨gD, 0, none⟩) 8 d)) (by kernel_rfl) HX7.out.c1.1 (fun hHeld => ?_)
    obtain ⟨w_4, hw_4⟩ : ∃ q : World, q = wA.drew := ⟨_, rfl⟩
    rw [← hw_4] at hHeld ⊢
    have hc_4 : Below wA.heap.size wA w_4 := by rw [hw_4]; exact (Below.refl _ _).drew
    clear hw_4
    replace HX0 := hide (HX0.out.below hc_4)
    replace HX7 := hide (HX7.out.below hc_4)
    replace HI := hide (HI.out.below hc_4)
    replace HB := hide (HB.out.trans (hc_4.mono HB.out.size))
    clear hc_4
    refine wpAnyH_take (i := 0) (oi := ⟨some 23, _, _, _, _, _⟩) (v := ?_) rfl (by kernel_rfl) (by kernel_rfl) (by kernel_rfl) (fun _ _ _ h => h) (Or.inl ⟨by rfl, ?_⟩) (by assumption) ?_
    rotate_left
    · (intro w' hSw; (try dsimp only at hSw); go_simp <;> (with_reducible rfl))
    try simp only [Act.put, List.setIfInBounds_toArray, List.set_cons_zero, List.set_cons_succ]
    refine wpAnyH_take (i := 1) (oi := ⟨some 24, _, _, _, _, _⟩) (v := ?_) rfl (by kernel_rfl) (by kernel_rfl) (by kernel_rfl) (fun _ _ _ h => h) (Or.inl ⟨by rfl, ?_⟩) (by assumption) ?_
    rotate_left
    · (intro w' hSw; (try dsimp only at hSw); go_simp <;> (with_reducible rfl))
    try simp only [Act.put, List.setIfInBounds_toArray, List.set_cons_zero, List.set_cons_succ]
    refine wpAnyH_take (i := 2) (oi := ⟨some 25, _, _, _, _, _⟩) (v := ?_) rfl (by kernel_rfl) (by kernel_rfl) (by kernel_rfl) (fun _ _ _ h => h) (Or.inl ⟨by rfl, ?_⟩) (by assumption) ?_
    rotate_left
    · (intro w' hSw; (try dsimp only at hSw); go_simp <;> (with_reducible rfl))
    try simp only [Act.put, List.setIfInBounds_toArray, List.set_cons_zero, List.set_cons_succ]
    refine wpAnyH_ready (rs := [3]) (by kernel_rfl) (by simp) ?_
    refine AllReadyH.cons (o := ⟨some 26, _, _, _, _, _⟩) rfl (fun K' hK => ?_) AllReadyH.nil
    go_simp
    go_at_call 26
    refine (HRO.out _ _ _ (HI.out.weak (Nat.zero_le _))).mono ?_
    rintro e_ w_5 ⟨rfl, hb_5⟩
    replace HX0 := hide (HX0.out.below hb_5)
    replace HX7 := hide (HX7.out.below hb_5)
    replace HI := hide (HI.out.below hb_5)
    replace HB := hide (HB.out.trans (hb_5.mono HB.out.size))
    clear hb_5
    go_wp2_with fail
    refine hK.out _ _ HX7.out.c1.1 (fun hHeld => ?_)
    clear hK K'
    try simp only [Act.put, List.setIfInBounds_toArray, List.set_cons_zero, List.set_cons_succ]
    refine wpAnyH_ready (rs := [4]) (by kernel_rfl) (by simp) ?_
    refine AllReadyH.cons (o := ⟨some 27, _, _, _, _, _⟩) rfl (fun K' hK => ?_) AllReadyH.nil
    go_simp
    go_at_call 27
    refine (HSQ.out _).mono ?_
    rintro e_ w_6 ⟨rfl, hb_6⟩
    replace HX0 := hide (HX0.out.below hb_6)
    replace HX7 := hide (HX7.out.below hb_6)
    replace HI := hide (HI.out.below hb_6)
    replace HB := hide (HB.out.trans (hb_6.mono HB.out.size))
    clear hb_6
    go_wp2_with fail
    refine hK.out _ _ HX7.out.c1.1 (fun hHeld => ?_)
    clear hK K'
    try simp only [Act.put, List.setIfInBounds_toArray, List.set_cons_zero, List.set_cons_succ]
    refine wpAnyH_take (i := 5) (oi := ⟨some 28, _, _, _, _, _⟩) (v := ?_) rfl (by kernel_rfl) (by kernel_rfl) (by kernel_rfl) (fun _ _ _ h => h) (Or.inl ⟨by rfl, ?_⟩) (by assumption) ?_
    rotate_left
    · (intro w' hSw; (try dsimp only at hSw); go_simp <;> (with_reducible rfl))
    try simp only [Act.put, List.setIfInBounds_toArray, List.set_cons_zero, List.set_cons_succ]
    refine wpAnyH_ready (rs := [6]) (by kernel_rfl) (by simp) ?_
    refine AllReadyH.cons (o := ⟨none, _, _, _, _, _⟩) rfl (fun K' hK => ?_) AllReadyH.nil
    obtain ⟨y0, y1, y2, f0, f1, f2, hly⟩ := HX0.out.cellsT
    go_simp
    clear y0 y1 y2 f0 f1 f2 hly
    have HZ := hide (HX0.out.putT (.slice (some ⟨gD, 0, none⟩) 8 d) (.int .i64 P) (.int .i64 Q)).cellsT
    have HBL := hide (Below.putT HB.out (c := w.heap.size) (Nat.le_refl _) (.slice (some ⟨gD, 0, none⟩) 8 d) (.int .i64 P) (.int .i64 Q))
    have HIL := hide ((((HI.out.other (p := ⟨w.heap.size, 0, none⟩) (Nat.lt_succ_self _) (.slice (some ⟨gD, 0, none⟩) 8 d)).other (p := ⟨w.heap.size, 1, none⟩) (Nat.lt_succ_self _) (.int .i64 P)).other (p := ⟨w.heap.size, 2, none⟩) (Nat.lt_succ_self _) (.int .i64 Q)).weak (Nat.le_succ _))
    have hS7 := ((HX7.out.other (p := ⟨w.heap.size, 0, none⟩) (Ne.symm (Nat.ne_of_lt lt_HX0_g7)) (.slice (some ⟨gD, 0, none⟩) 8 d)).other (p := ⟨w.heap.size, 1, none⟩) (Ne.symm (Nat.ne_of_lt lt_HX0_g7)) (.int .i64 P)).other (p := ⟨w.heap.size, 2, none⟩) (Ne.symm (Nat.ne_of_lt lt_HX0_g7)) (.int .i64 Q)
    refine hK.out _ _ hS7.c1.1 (fun hHeld => ?_)
    clear hK K'
    try simp only [Act.put, List.setIfInBounds_toArray, List.set_cons_zero, List.set_cons_succ]
    refine wpAnyH_done (by kernel_rfl) ?_ _
    clear hHeld hS7
    go_wp2_with fail
    obtain ⟨y0, y1, y2, -⟩ := HZ.out
    refine bodyPost_ret (v := .agg #[.slice (some ⟨gD, 0, none⟩) 8 d, .int .i64 P, .int .i64 Q]) ?_ rfl ⟨_, d, rfl, hcap, HIL.out, HBL.out⟩
    simp [results, Try.results65, go_sem, y0, y1, y2]
end Go.Proofs.Ytejhakkfgfahaaa
/- Larger of the reference (written from XBm of wave). -/
namespace Go.Proofs.Ytejhakkfgfahaaa
open Go.RowKit
theorem wideOfI (x : Int) (w : World) (hx : -1000000000000000000 ≤ x ∧ x ≤ 1000000000000000000) :
    Calls Try.prog 62 #[.int .i64 x] w fun e w' => ∃ V, e = .returned V ∧ WideAt w' 0 V 3 x ∧ Below w.heap.size w w' :=
  (wideOf1_any x x.natAbs w (by omega) (by omega)).mono fun _ _ ⟨V, h1, h2, h3⟩ => ⟨V, h1, h2.weak (Nat.zero_le _) (Nat.le_refl _), h3⟩
set_option maxHeartbeats 8000000 in
set_option maxRecDepth 100000 in
theorem largerR_any (a b c d : Int) (w : World) (ha : -10000000000000 ≤ a ∧ a ≤ 10000000000000) (hb : -10000000000000 ≤ b ∧ b ≤ 10000000000000) (hc : -10000000000000 ≤ c ∧ c ≤ 10000000000000) (hd : -10000000000000 ≤ d ∧ d ≤ 10000000000000) :
    Calls Try.prog 31 #[.agg #[.int .i64 a, .int .i64 b], .agg #[.int .i64 c, .int .i64 d]] w fun e w' => e = .returned (.int .i64 (refC (a - c) (b - d))) ∧ Below w.heap.size w w' := by
  obtain ⟨p, hp⟩ : ∃ p, p = a - c := ⟨_, rfl⟩
  obtain ⟨q, hq⟩ : ∃ q, q = b - d := ⟨_, rfl⟩
  have q1 : IntKind.i64.wrap (a - c) = p := by rw [hp]; exact IntWalk.i64_in _ (by omega)
  have q2 : IntKind.i64.wrap (b - d) = q := by rw [hq]; exact IntWalk.i64_in _ (by omega)
  have hpb : -1000000000000000000 ≤ p ∧ p ≤ 1000000000000000000 := by omega
  have hqb : -1000000000000000000 ≤ q ∧ q ≤ 1000000000000000000 := by omega
  rw [← hp, ← hq]
  have HWP := hide (fun W => wideOfI p W hpb)
  have HWQ := hide (fun W => wideOfI q W hqb)
  have HW2 := hide (fun W => wideOfI 2 W (by decide))
  obtain ⟨R, hR⟩ : ∃ R, R = refC p q := ⟨_, rfl⟩
  have HR := hide (show R = if 0 ≤ p ∧ 0 ≤ q then (if p = 0 ∧ q = 0 then 0 else 1) else if p ≤ 0 ∧ q ≤ 0 then -1 else if (0 < cmpI (p * p) (2 * (q * q))) = (0 < p) then 1 else -1 from hR)
  rw [← hR]
  clear hR hp hq ha hb hc hd
  by_cases hA : 0 ≤ p ∧ 0 ≤ q
  · have t1 : p ≥ 0 := hA.1
    have t2 : q ≥ 0 := hA.2
    by_cases h0 : p = 0 ∧ q = 0
    · have HV := hide (show R = 0 by rw [HR.out, if_pos hA, if_pos h0])
      obtain ⟨h1, h2⟩ := h0
      have e1 : (p == 0) = true := by simp [h1]
      have e2 : (q == 0) = true := by simp [h2]
      clear HR hpb hqb HWP HWQ HW2 h1 h2 hA
      go_enter Try.func31, Try.ntmps31
      go_wp2_with fail
      go_quiet (fail)
      clear q1 q2
      obtain ⟨W, hW⟩ : ∃ y : World, y = ((w.alloc (.cells #[.int .i64 a, .int .i64 b] 45)).alloc (.cells #[.int .i64 c, .int .i64 d] 45)).drewN nq := ⟨_, rfl⟩
      rw [← hW]
      have hX : Below w.heap.size w ((w.alloc (.cells #[.int .i64 a, .int .i64 b] 45)).alloc (.cells #[.int .i64 c, .int .i64 d] 45)) := by (repeat (first | (with_reducible exact Below.refl _ _) | (with_reducible refine Go.below_drewN ?_ _) | (with_reducible refine Below.drew ?_) | (with_reducible refine Below.alloc ?_ (by first | exact Nat.le_refl _ | (simp; done) | (simp; omega) | omega) _) | (with_reducible refine Below.setCell ?_ (by first | exact Nat.le_refl _ | (simp; done) | (simp; omega) | omega) _)))
      have HB := hide (show Below w.heap.size w W by rw [hW]; exact ⟨hX.os, hX.tape, hX.output, hX.size, hX.block⟩)
      clear hW hX
      go_wp2_with fail
      go_ret
      exact ⟨by rw [HV.out]; rfl, HB.out⟩
    · have HV := hide (show R = 1 by rw [HR.out, if_pos hA, if_neg h0])
      by_cases h1 : p = 0
      · have e1 : (p == 0) = true := by simp [h1]
        have e2 : (q == 0) = false := by simp; omega
        clear HR hpb hqb HWP HWQ HW2 h0 h1 hA
        go_enter Try.func31, Try.ntmps31
        go_wp2_with fail
        go_quiet (fail)
        clear q1 q2
        obtain ⟨W, hW⟩ : ∃ y : World, y = ((w.alloc (.cells #[.int .i64 a, .int .i64 b] 45)).alloc (.cells #[.int .i64 c, .int .i64 d] 45)).drewN nq := ⟨_, rfl⟩
        rw [← hW]
        have hX : Below w.heap.size w ((w.alloc (.cells #[.int .i64 a, .int .i64 b] 45)).alloc (.cells #[.int .i64 c, .int .i64 d] 45)) := by (repeat (first | (with_reducible exact Below.refl _ _) | (with_reducible refine Go.below_drewN ?_ _) | (with_reducible refine Below.drew ?_) | (with_reducible refine Below.alloc ?_ (by first | exact Nat.le_refl _ | (simp; done) | (simp; omega) | omega) _) | (with_reducible refine Below.setCell ?_ (by first | exact Nat.le_refl _ | (simp; done) | (simp; omega) | omega) _)))
        have HB := hide (show Below w.heap.size w W by rw [hW]; exact ⟨hX.os, hX.tape, hX.output, hX.size, hX.block⟩)
        clear hW hX
        go_wp2_with fail
        go_ret
        exact ⟨by rw [HV.out]; rfl, HB.out⟩
      · have e1 : (p == 0) = false := by simp; omega
        clear HR hpb hqb HWP HWQ HW2 h0 h1 hA
        go_enter Try.func31, Try.ntmps31
        go_wp2_with fail
        go_quiet (fail)
        clear q1 q2
        obtain ⟨W, hW⟩ : ∃ y : World, y = ((w.alloc (.cells #[.int .i64 a, .int .i64 b] 45)).alloc (.cells #[.int .i64 c, .int .i64 d] 45)).drewN nq := ⟨_, rfl⟩
        rw [← hW]
        have hX : Below w.heap.size w ((w.alloc (.cells #[.int .i64 a, .int .i64 b] 45)).alloc (.cells #[.int .i64 c, .int .i64 d] 45)) := by (repeat (first | (with_reducible exact Below.refl _ _) | (with_reducible refine Go.below_drewN ?_ _) | (with_reducible refine Below.drew ?_) | (with_reducible refine Below.alloc ?_ (by first | exact Nat.le_refl _ | (simp; done) | (simp; omega) | omega) _) | (with_reducible refine Below.setCell ?_ (by first | exact Nat.le_refl _ | (simp; done) | (simp; omega) | omega) _)))
        have HB := hide (show Below w.heap.size w W by rw [hW]; exact ⟨hX.os, hX.tape, hX.output, hX.size, hX.block⟩)
        clear hW hX
        go_wp2_with fail
        go_ret
        exact ⟨by rw [HV.out]; rfl, HB.out⟩
  · by_cases hB : p ≤ 0 ∧ q ≤ 0
    · have HV := hide (show R = -1 by rw [HR.out, if_neg hA, if_pos hB])
      have t1 : p ≤ 0 := hB.1
      have t2 : q ≤ 0 := hB.2
      by_cases h1 : p = 0
      · have t3 : p ≥ 0 := by omega
        have t4 : ¬ (q ≥ 0) := by omega
        clear HR hpb hqb HWP HWQ HW2 h1 hA hB
        go_enter Try.func31, Try.ntmps31
        go_wp2_with fail
        go_quiet (fail)
        clear q1 q2
        obtain ⟨W, hW⟩ : ∃ y : World, y = ((w.alloc (.cells #[.int .i64 a, .int .i64 b] 45)).alloc (.cells #[.int .i64 c, .int .i64 d] 45)).drewN nq := ⟨_, rfl⟩
        rw [← hW]
        have hX : Below w.heap.size w ((w.alloc (.cells #[.int .i64 a, .int .i64 b] 45)).alloc (.cells #[.int .i64 c, .int .i64 d] 45)) := by (repeat (first | (with_reducible exact Below.refl _ _) | (with_reducible refine Go.below_drewN ?_ _) | (with_reducible refine Below.drew ?_) | (with_reducible refine Below.alloc ?_ (by first | exact Nat.le_refl _ | (simp; done) | (simp; omega) | omega) _) | (with_reducible refine Below.setCell ?_ (by first | exact Nat.le_refl _ | (simp; done) | (simp; omega) | omega) _)))
        have HB := hide (show Below w.heap.size w W by rw [hW]; exact ⟨hX.os, hX.tape, hX.output, hX.size, hX.block⟩)
        clear hW hX
        go_wp2_with fail
        go_ret
        exact ⟨by rw [HV.out]; rfl, HB.out⟩
      · have t3 : ¬ (p ≥ 0) := by omega
        clear HR hpb hqb HWP HWQ HW2 h1 hA hB
        go_enter Try.func31, Try.ntmps31
        go_wp2_with fail
        go_quiet (fail)
        clear q1 q2
        obtain ⟨W, hW⟩ : ∃ y : World, y = ((w.alloc (.cells #[.int .i64 a, .int .i64 b] 45)).alloc (.cells #[.int .i64 c, .int .i64 d] 45)).drewN nq := ⟨_, rfl⟩
        rw [← hW]
        have hX : Below w.heap.size w ((w.alloc (.cells #[.int .i64 a, .int .i64 b] 45)).alloc (.cells #[.int .i64 c, .int .i64 d] 45)) := by (repeat (first | (with_reducible exact Below.refl _ _) | (with_reducible refine Go.below_drewN ?_ _) | (with_reducible refine Below.drew ?_) | (with_reducible refine Below.alloc ?_ (by first | exact Nat.le_refl _ | (simp; done) | (simp; omega) | omega) _) | (with_reducible refine Below.setCell ?_ (by first | exact Nat.le_refl _ | (simp; done) | (simp; omega) | omega) _)))
        have HB := hide (show Below w.heap.size w W by rw [hW]; exact ⟨hX.os, hX.tape, hX.output, hX.size, hX.block⟩)
        clear hW hX
        go_wp2_with fail
        go_ret
        exact ⟨by rw [HV.out]; rfl, HB.out⟩
    · have hp0 : p ≠ 0 := by omega
      have hq0 : q ≠ 0 := by omega
      have hpp : 0 < p * p := by
        rcases Int.lt_or_gt_of_ne hp0 with h | h
        · exact Int.mul_pos_of_neg_of_neg h h
        · exact Int.mul_pos h h
      have hqq : 0 < q * q := by
        rcases Int.lt_or_gt_of_ne hq0 with h | h
        · exact Int.mul_pos_of_neg_of_neg h h
        · exact Int.mul_pos h h
      have HSP := hide (fun (V U : Value) (W : World) (h1 : WideAt W 0 V 3 p) (h2 : WideAt W 0 U 3 p) => wideMul_self V U 3 3 p W h1 h2 (by decide) (by decide) hp0)
      have HSQ := hide (fun (V U : Value) (W : World) (h1 : WideAt W 0 V 3 q) (h2 : WideAt W 0 U 3 q) => wideMul_self V U 3 3 q W h1 h2 (by decide) (by decide) hq0)
      have HS2 := hide (fun (V U : Value) (W : World) (h1 : WideAt W 0 V 3 2) (h2 : WideAt W 0 U 7 (q * q)) => wideMul_pos V U 3 7 2 (q * q) W h1 h2 (by decide) (by decide) (by decide) hqq)
      have HCM := hide (fun (V U : Value) (W : World) (h1 : WideAt W 0 V 7 (p * p)) (h2 : WideAt W 0 U 11 (2 * (q * q))) => wideCmp_pos V U 7 11 (p * p) (2 * (q * q)) W h1 h2 hpp (by omega) (by decide) (by decide))
      have HRR := hide (show R = if (0 < cmpI (p * p) (2 * (q * q))) = (0 < p) then 1 else -1 by rw [HR.out, if_neg hA, if_neg hB])
      have HPP := hide hpp
      have HQQ := hide (show 0 < 2 * (q * q) by omega)
      have HNA := hide hA
      have HNB := hide hB
      clear HR hp0 hq0 hpp hqq hpb hqb hA hB
      generalize p * p = pp at *
      generalize q * q = qq at *
      generalize cmpI pp (2 * qq) = z at *
      have hsides : (p < 0 ∧ 0 < q) ∨ (0 < p ∧ q < 0) := by have h1 := HNA.out; have h2 := HNB.out; omega
      have HE := hide HNA.out
      clear HNA HNB HE
      rcases hsides with ⟨hp, hq⟩ | ⟨hp, hq⟩
      · have t1 : ¬ (p ≥ 0) := by omega
        have t2 : p ≤ 0 := by omega
        have t3 : ¬ (q ≤ 0) := by omega
        have t5 : ¬ (p > 0) := by omega
        go_enter Try.func31, Try.ntmps31
        go_wp2_with fail
        go_quiet (fail)
        clear q1 q2
        obtain ⟨W, hW⟩ : ∃ y : World, y = ((w.alloc (.cells #[.int .i64 a, .int .i64 b] 45)).alloc (.cells #[.int .i64 c, .int .i64 d] 45)).drewN nq := ⟨_, rfl⟩
        rw [← hW]
        have hX : Below w.heap.size w ((w.alloc (.cells #[.int .i64 a, .int .i64 b] 45)).alloc (.cells #[.int .i64 c, .int .i64 d] 45)) := by (repeat (first | (with_reducible exact Below.refl _ _) | (with_reducible refine Go.below_drewN ?_ _) | (with_reducible refine Below.drew ?_) | (with_reducible refine Below.alloc ?_ (by first | exact Nat.le_refl _ | (simp; done) | (simp; omega) | omega) _) | (with_reducible refine Below.setCell ?_ (by first | exact Nat.le_refl _ | (simp; done) | (simp; omega) | omega) _)))
        have HB := hide (show Below w.heap.size w W by rw [hW]; exact ⟨hX.os, hX.tape, hX.output, hX.size, hX.block⟩)
        clear hW hX
        go_wp2_with fail
        refine (HWP.out _).mono ?_
        rintro e w1 ⟨V1, rfl, hV1, hb1⟩
        have HB1 := hide (HB.out.trans (hb1.mono HB.out.size))
        have HV1 := hide hV1
        clear hb1 hV1 HB
        go_wp2_with fail
        refine (HWP.out _).mono ?_
        rintro e w2 ⟨V2, rfl, hV2, hb2⟩
        have HB2 := hide (HB1.out.trans (hb2.mono HB1.out.size))
        have HV1b := hide (HV1.out.below hb2)
        have HV2 := hide hV2
        clear hb2 hV2 HB1 HV1 HWP
        go_wp2_with fail
        refine (HSP.out V1 V2 _ HV1b.out HV2.out).mono ?_
        rintro e w3 ⟨V3, rfl, hV3, hb3⟩
        have HB3 := hide (HB2.out.trans (hb3.mono HB2.out.size))
        replace hV3 := hV3.weak (Nat.zero_le _) (Nat.le_refl _)
        obtain ⟨A3, n3, c3, D3, rfl, -⟩ := hV3.sign_pos HPP.out
        have HV3 := hide hV3
        clear hb3 hV3 HB2 HV1b HV2 HSP
        go_wp2_with fail
        obtain ⟨W4, hW4⟩ : ∃ y : World, y = w3.alloc (.cells #[.int .i64 1, .slice A3 n3 c3] 93) := ⟨_, rfl⟩
        rw [← hW4]
        have b7 : Box W4 w3.heap.size 93 #[.int .i64 1, .slice A3 n3 c3] := by rw [hW4]; exact Box.made rfl
        have hb4 : Below w3.heap.size w3 W4 := by rw [hW4]; exact (Below.refl _ _).alloc (Nat.le_refl _) _
        have HB4 := hide (HB3.out.trans (hb4.mono HB3.out.size))
        have HV4 := hide (HV3.out.below hb4)
        have HB7 := hide b7
        clear hW4 hb4 b7 HB3 HV3
        refine (HW2.out _).mono ?_
        rintro e w5 ⟨V5, rfl, hV5, hb5⟩
        have HB5 := hide (HB4.out.trans (hb5.mono HB4.out.size))
        have HX5 := hide (HB7.out.below hb5)
        have HP5 := hide (HV4.out.below hb5)
        have HV5 := hide hV5
        clear hb5 hV5 HB4 HB7 HV4 HW2
        go_wp2_with fail
        refine (HWQ.out _).mono ?_
        rintro e w6 ⟨V6, rfl, hV6, hb6⟩
        have HB6 := hide (HB5.out.trans (hb6.mono HB5.out.size))
        have HX6 := hide (HX5.out.below hb6)
        have HP6 := hide (HP5.out.below hb6)
        have HT6 := hide (HV5.out.below hb6)
        have HV6 := hide hV6
        clear hb6 hV6 HB5 HX5 HP5 HV5
        go_wp2_with fail
        refine (HWQ.out _).mono ?_
        rintro e w7 ⟨V7, rfl, hV7, hb7⟩
        have HB7 := hide (HB6.out.trans (hb7.mono HB6.out.size))
        have HX7 := hide (HX6.out.below hb7)
        have HP7 := hide (HP6.out.below hb7)
        have HT7 := hide (HT6.out.below hb7)
        have HQ7 := hide (HV6.out.below hb7)
        have HV7 := hide hV7
        clear hb7 hV7 HB6 HX6 HP6 HT6 HV6 HWQ
        go_wp2_with fail
        refine (HSQ.out V6 V7 _ HQ7.out HV7.out).mono ?_
        rintro e w8 ⟨V8, rfl, hV8, hb8⟩
        have HB8 := hide (HB7.out.trans (hb8.mono HB7.out.size))
        have HX8 := hide (HX7.out.below hb8)
        have HP8 := hide (HP7.out.below hb8)
        have HT8 := hide (HT7.out.below hb8)
        have HV8 := hide (hV8.weak (Nat.zero_le _) (Nat.le_refl _))
        clear hb8 hV8 HB7 HX7 HP7 HT7 HQ7 HV7 HSQ
        go_wp2_with fail
        refine (HS2.out V5 V8 _ HT8.out HV8.out).mono ?_
        rintro e w9 ⟨V9, rfl, hV9, hb9⟩
        have HB9 := hide (HB8.out.trans (hb9.mono HB8.out.size))
        have HX9 := hide (HX8.out.below hb9)
        have HP9 := hide (HP8.out.below hb9)
        replace hV9 := hV9.weak (Nat.zero_le _) (Nat.le_refl _)
        obtain ⟨A9, n9, c9, D9, rfl, -⟩ := hV9.sign_pos HQQ.out
        have HV9 := hide hV9
        clear hb9 hV9 HB8 HX8 HP8 HT8 HV8 HS2
        go_upto_region 10 with fail
        obtain ⟨Wa, hWa⟩ : ∃ y : World, y = w9.alloc (.cells #[.int .i64 1, .slice A9 n9 c9] 93) := ⟨_, rfl⟩
        rw [← hWa]
        have b8 : Box Wa w9.heap.size 93 #[.int .i64 1, .slice A9 n9 c9] := by rw [hWa]; exact Box.made rfl
        have hba : Below w9.heap.size w9 Wa := by rw [hWa]; exact (Below.refl _ _).alloc (Nat.le_refl _) _
        have HBa := hide (HB9.out.trans (hba.mono HB9.out.size))
        have HPa := hide (HP9.out.below hba)
        have HQa := hide (HV9.out.below hba)
        have b7 := HX9.out.below hba
        have x0 := b7.at_ 0
        have x1 := b7.at_ 1
        have y0 := b8.at_ 0
        have y1 := b8.at_ 1
        simp only [List.getElem?_toArray] at x0 x1 y0 y1
        clear hWa hba b7 b8 HB9 HP9 HV9 HX9
        go_wp2_with fail
        refine (HCM.out _ _ _ HPa.out HQa.out).mono ?_
        rintro e wz ⟨rfl, hbz⟩
        have HBz := hide (HBa.out.trans (hbz.mono HBa.out.size))
        clear x0 x1 y0 y1 hbz HBa HPa HQa HCM
        by_cases hz : z > 0
        · have HV := hide (show R = -1 by rw [HRR.out, if_neg (by simp; omega)])
          clear HRR
          go_wp2_with fail
          go_ret
          exact ⟨by rw [HV.out]; rfl, HBz.out⟩
        · have HV := hide (show R = 1 by rw [HRR.out, if_pos (by simp; omega)])
          have te : (decide (0 < z) == decide (0 < p)) = true := by rw [decide_eq_false (by omega), decide_eq_false (by omega)]; rfl
          clear HRR
          go_wp2_with fail
          go_ret
          exact ⟨by rw [HV.out]; rfl, HBz.out⟩
      · have t1 : p ≥ 0 := by omega
        have t2 : ¬ (q ≥ 0) := by omega
        have t3 : ¬ (p ≤ 0) := by omega
        have t5 : p > 0 := by omega
        go_enter Try.func31, Try.ntmps31
        go_wp2_with fail
        go_quiet (fail)
        clear q1 q2
        obtain ⟨W, hW⟩ : ∃ y : World, y = ((w.alloc (.cells #[.int .i64 a, .int .i64 b] 45)).alloc (.cells #[.int .i64 c, .int .i64 d] 45)).drewN nq := ⟨_, rfl⟩
        rw [← hW]
        have hX : Below w.heap.size w ((w.alloc (.cells #[.int .i64 a, .int .i64 b] 45)).alloc (.cells #[.int .i64 c, .int .i64 d] 45)) := by (repeat (first | (with_reducible exact Below.refl _ _) | (with_reducible refine Go.below_drewN ?_ _) | (with_reducible refine Below.drew ?_) | (with_reducible refine Below.alloc ?_ (by first | exact Nat.le_refl _ | (simp; done) | (simp; omega) | omega) _) | (with_reducible refine Below.setCell ?_ (by first | exact Nat.le_refl _ | (simp; done) | (simp; omega) | omega) _)))
        have HB := hide (show Below w.heap.size w W by rw [hW]; exact ⟨hX.os, hX.tape, hX.output, hX.size, hX.block⟩)
        clear hW hX
        go_wp2_with fail
        refine (HWP.out _).mono ?_
        rintro e w1 ⟨V1, rfl, hV1, hb1⟩
        have HB1 := hide (HB.out.trans (hb1.mono HB.out.size))
        have HV1 := hide hV1
        clear hb1 hV1 HB
        go_wp2_with fail
        refine (HWP.out _).mono ?_
        rintro e w2 ⟨V2, rfl, hV2, hb2⟩
        have HB2 := hide (HB1.out.trans (hb2.mono HB1.out.size))
        have HV1b := hide (HV1.out.below hb2)
        have HV2 := hide hV2
        clear hb2 hV2 HB1 HV1 HWP
        go_wp2_with fail
        refine (HSP.out V1 V2 _ HV1b.out HV2.out).mono ?_
        rintro e w3 ⟨V3, rfl, hV3, hb3⟩
        have HB3 := hide (HB2.out.trans (hb3.mono HB2.out.size))
        replace hV3 := hV3.weak (Nat.zero_le _) (Nat.le_refl _)
        obtain ⟨A3, n3, c3, D3, rfl, -⟩ := hV3.sign_pos HPP.out
        have HV3 := hide hV3
        clear hb3 hV3 HB2 HV1b HV2 HSP
        go_wp2_with fail
        obtain ⟨W4, hW4⟩ : ∃ y : World, y = w3.alloc (.cells #[.int .i64 1, .slice A3 n3 c3] 93) := ⟨_, rfl⟩
        rw [← hW4]
        have b7 : Box W4 w3.heap.size 93 #[.int .i64 1, .slice A3 n3 c3] := by rw [hW4]; exact Box.made rfl
        have hb4 : Below w3.heap.size w3 W4 := by rw [hW4]; exact (Below.refl _ _).alloc (Nat.le_refl _) _
        have HB4 := hide (HB3.out.trans (hb4.mono HB3.out.size))
        have HV4 := hide (HV3.out.below hb4)
        have HB7 := hide b7
        clear hW4 hb4 b7 HB3 HV3
        refine (HW2.out _).mono ?_
        rintro e w5 ⟨V5, rfl, hV5, hb5⟩
        have HB5 := hide (HB4.out.trans (hb5.mono HB4.out.size))
        have HX5 := hide (HB7.out.below hb5)
        have HP5 := hide (HV4.out.below hb5)
        have HV5 := hide hV5
        clear hb5 hV5 HB4 HB7 HV4 HW2
        go_wp2_with fail
        refine (HWQ.out _).mono ?_
        rintro e w6 ⟨V6, rfl, hV6, hb6⟩
        have HB6 := hide (HB5.out.trans (hb6.mono HB5.out.size))
        have HX6 := hide (HX5.out.below hb6)
        have HP6 := hide (HP5.out.below hb6)
        have HT6 := hide (HV5.out.below hb6)
        have HV6 := hide hV6
        clear hb6 hV6 HB5 HX5 HP5 HV5
        go_wp2_with fail
        refine (HWQ.out _).mono ?_
        rintro e w7 ⟨V7, rfl, hV7, hb7⟩
        have HB7 := hide (HB6.out.trans (hb7.mono HB6.out.size))
        have HX7 := hide (HX6.out.below hb7)
        have HP7 := hide (HP6.out.below hb7)
        have HT7 := hide (HT6.out.below hb7)
        have HQ7 := hide (HV6.out.below hb7)
        have HV7 := hide hV7
        clear hb7 hV7 HB6 HX6 HP6 HT6 HV6 HWQ
        go_wp2_with fail
        refine (HSQ.out V6 V7 _ HQ7.out HV7.out).mono ?_
        rintro e w8 ⟨V8, rfl, hV8, hb8⟩
        have HB8 := hide (HB7.out.trans (hb8.mono HB7.out.size))
        have HX8 := hide (HX7.out.below hb8)
        have HP8 := hide (HP7.out.below hb8)
        have HT8 := hide (HT7.out.below hb8)
        have HV8 := hide (hV8.weak (Nat.zero_le _) (Nat.le_refl _))
        clear hb8 hV8 HB7 HX7 HP7 HT7 HQ7 HV7 HSQ
        go_wp2_with fail
        refine (HS2.out V5 V8 _ HT8.out HV8.out).mono ?_
        rintro e w9 ⟨V9, rfl, hV9, hb9⟩
        have HB9 := hide (HB8.out.trans (hb9.mono HB8.out.size))
        have HX9 := hide (HX8.out.below hb9)
        have HP9 := hide (HP8.out.below hb9)
        replace hV9 := hV9.weak (Nat.zero_le _) (Nat.le_refl _)
        obtain ⟨A9, n9, c9, D9, rfl, -⟩ := hV9.sign_pos HQQ.out
        have HV9 := hide hV9
        clear hb9 hV9 HB8 HX8 HP8 HT8 HV8 HS2
        go_upto_region 10 with fail
        obtain ⟨Wa, hWa⟩ : ∃ y : World, y = w9.alloc (.cells #[.int .i64 1, .slice A9 n9 c9] 93) := ⟨_, rfl⟩
        rw [← hWa]
        have b8 : Box Wa w9.heap.size 93 #[.int .i64 1, .slice A9 n9 c9] := by rw [hWa]; exact Box.made rfl
        have hba : Below w9.heap.size w9 Wa := by rw [hWa]; exact (Below.refl _ _).alloc (Nat.le_refl _) _
        have HBa := hide (HB9.out.trans (hba.mono HB9.out.size))
        have HPa := hide (HP9.out.below hba)
        have HQa := hide (HV9.out.below hba)
        have b7 := HX9.out.below hba
        have x0 := b7.at_ 0
        have x1 := b7.at_ 1
        have y0 := b8.at_ 0
        have y1 := b8.at_ 1
        simp only [List.getElem?_toArray] at x0 x1 y0 y1
        clear hWa hba b7 b8 HB9 HP9 HV9 HX9
        go_wp2_with fail
        refine (HCM.out _ _ _ HPa.out HQa.out).mono ?_
        rintro e wz ⟨rfl, hbz⟩
        have HBz := hide (HBa.out.trans (hbz.mono HBa.out.size))
        clear x0 x1 y0 y1 hbz HBa HPa HQa HCM
        by_cases hz : z > 0
        · have HV := hide (show R = 1 by rw [HRR.out, if_pos (by simp; omega)])
          clear HRR
          go_wp2_with fail
          go_ret
          exact ⟨by rw [HV.out]; rfl, HBz.out⟩
        · have HV := hide (show R = -1 by rw [HRR.out, if_neg (by simp; omega)])
          clear HRR
          go_wp2_with fail
          go_ret
          exact ⟨by rw [HV.out]; rfl, HBz.out⟩
end Go.Proofs.Ytejhakkfgfahaaa
