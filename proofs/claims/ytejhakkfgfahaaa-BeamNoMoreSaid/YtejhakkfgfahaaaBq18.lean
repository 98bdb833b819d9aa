/- Lemmas: E22, E31. -/
import Derived.Deep.QuietTactic
import Derived.Test.YtejhakkfgfahaaaBq07
import Derived.Test.YtejhakkfgfahaaaBq08
import Derived.Test.YtejhakkfgfahaaaBq15
import Derived.Test.YtejhakkfgfahaaaBq17
set_option linter.unusedVariables false
set_option linter.unusedSimpArgs false
/- Larger of the reference (written from XBm of wave). -/
namespace Go.Proofs.Ytejhakkfgfahaaa
open Go.RowKit
theorem wideOfB (x : Int) (w : World) (hx : -1000000000000000000 ≤ x ∧ x ≤ 1000000000000000000) :
    Calls Try.prog 62 #[.int .i64 x] w fun e w' => ∃ V, e = .returned V ∧ WideAt w' 0 V 3 x ∧ Below w.heap.size w w' :=
  (wideOf1_any x x.natAbs w (by omega) (by omega)).mono fun _ _ ⟨V, h1, h2, h3⟩ => ⟨V, h1, h2.weak (Nat.zero_le _) (Nat.le_refl _), h3⟩
set_option maxHeartbeats 8000000 in
set_option maxRecDepth 100000 in
theorem largerR_any (a b c d : Int) (w : World) (ha : -10000000000000 ≤ a ∧ a ≤ 10000000000000) (hb : -10000000000000 ≤ b ∧ b ≤ 10000000000000) (hc : -10000000000000 ≤ c ∧ c ≤ 10000000000000) (hd : -10000000000000 ≤ d ∧ d ≤ 10000000000000) :
    Calls Try.prog 31 #[.agg #[.int .i64 a, .int .i64 b], .agg #[.int .i64 c, .int .i64 d]] w fun e w' => e = .returned (.int .i64 (refC (a - c) (b - d))) ∧ Below w.heap.size w w' := by
  obtain ⟨p, hp⟩ : ∃ p, p = a - c := ⟨_, rfl⟩
  obtain ⟨q, hq⟩ : ∃ q, q = b - d := ⟨_, rfl⟩
  have q1 : IntKind.i64.wrap (a - c) = p := by rw [hp]; exact IntWalk.i64_in _ (by omega)
  have q2 : IntKind.i64.wrap (b - d) = q := by rw [hq]; exact IntWalk.i64_in _ (by omega)
  have hpb : -1000000000000000000 ≤ p ∧ p ≤ 1000000000000000000 := by omega
  have hqb : -1000000000000000000 ≤ q ∧ q ≤ 1000000000000000000 := by omega
  rw [← hp, ← hq]
  have HWP := hide (fun W => wideOfB p W hpb)
  have HWQ := hide (fun W => wideOfB q W hqb)
  have HW2 := hide (fun W => wideOfB 2 W (by decide))
  obtain ⟨R, hR⟩ : ∃ R, R = refC p q := ⟨_, rfl⟩
  have HR := hide (show R = if 0 ≤ p ∧ 0 ≤ q then (if p = 0 ∧ q = 0 then 0 else 1) else if p ≤ 0 ∧ q ≤ 0 then -1 else if (0 < cmpI (p * p) (2 * (q * q))) = (0 < p) then 1 else -1 from hR)
  rw [← hR]
  clear hR hp hq ha hb hc hd
  by_cases hA : 0 ≤ p ∧ 0 ≤ q
  · have t1 : p ≥ 0 := hA.1
    have t2 : q ≥ 0 := hA.2
    by_cases h0 : p = 0 ∧ q = 0
    · have HV := hide (show R = 0 by rw [HR.out, if_pos hA, if_pos h0])
      obtain ⟨h1, h2⟩ := h0
      have e1 : (p == 0) = true := by simp [h1]
      have e2 : (q == 0) = true := by simp [h2]
      clear HR hpb hqb HWP HWQ HW2 h1 h2 hA
      go_enter Try.func31, Try.ntmps31
      go_wp2_with fail
      go_quiet (fail)
      clear q1 q2
      obtain ⟨W, hW⟩ : ∃ y : World, y = ((w.alloc (.cells #[.int .i64 a, .int .i64 b] 45)).alloc (.cells #[.int .i64 c, .int .i64 d] 45)).drewN nq := ⟨_, rfl⟩
      rw [← hW]
      have hX : Below w.heap.size w ((w.alloc (.cells #[.int .i64 a, .int .i64 b] 45)).alloc (.cells #[.int .i64 c, .int .i64 d] 45)) := by (repeat (first | (with_reducible exact Below.refl _ _) | (with_reducible refine Go.below_drewN ?_ _) | (with_reducible refine Below.drew ?_) | (with_reducible refine Below.alloc ?_ (by first | exact Nat.le_refl _ | (simp; done) | (simp; omega) | omega) _) | (with_reducible refine Below.setCell ?_ (by first | exact Nat.le_refl _ | (simp; done) | (simp; omega) | omega) _)))
      have HB := hide (show Below w.heap.size w W by rw [hW]; exact ⟨hX.os, hX.tape, hX.output, hX.size, hX.block⟩)
      clear hW hX
      go_wp2_with fail
      go_ret
      exact ⟨by rw [HV.out]; rfl, HB.out⟩
    · have HV := hide (show R = 1 by rw [HR.out, if_pos hA, if_neg h0])
      by_cases h1 : p = 0
      · have e1 : (p == 0) = true := by simp [h1]
        have e2 : (q == 0) = false := by simp; omega
        clear HR hpb hqb HWP HWQ HW2 h0 h1 hA
        go_enter Try.func31, Try.ntmps31
        go_wp2_with fail
        go_quiet (fail)
        clear q1 q2
        obtain ⟨W, hW⟩ : ∃ y : World, y = ((w.alloc (.cells #[.int .i64 a, .int .i64 b] 45)).alloc (.cells #[.int .i64 c, .int .i64 d] 45)).drewN nq := ⟨_, rfl⟩
        rw [← hW]
        have hX : Below w.heap.size w ((w.alloc (.cells #[.int .i64 a, .int .i64 b] 45)).alloc (.cells #[.int .i64 c, .int .i64 d] 45)) := by (repeat (first | (with_reducible exact Below.refl _ _) | (with_reducible refine Go.below_drewN ?_ _) | (with_reducible refine Below.drew ?_) | (with_reducible refine Below.alloc ?_ (by first | exact Nat.le_refl _ | (simp; done) | (simp; omega) | omega) _) | (with_reducible refine Below.setCell ?_ (by first | exact Nat.le_refl _ | (simp; done) | (simp; omega) | omega) _)))
        have HB := hide (show Below w.heap.size w W by rw [hW]; exact ⟨hX.os, hX.tape, hX.output, hX.size, hX.block⟩)
        clear hW hX
        go_wp2_with fail
        go_ret
        exact ⟨by rw [HV.out]; rfl, HB.out⟩
      · have e1 : (p == 0) = false := by simp; omega
        clear HR hpb hqb HWP HWQ HW2 h0 h1 hA
        go_enter Try.func31, Try.ntmps31
        go_wp2_with fail
        go_quiet (fail)
        clear q1 q2
        obtain ⟨W, hW⟩ : ∃ y : World, y = ((w.alloc (.cells #[.int .i64 a, .int .i64 b] 45)).alloc (.cells #[.int .i64 c, .int .i64 d] 45)).drewN nq := ⟨_, rfl⟩
        rw [← hW]
        have hX : Below w.heap.size w ((w.alloc (.cells #[.int .i64 a, .int .i64 b] 45)).alloc (.cells #[.int .i64 c, .int .i64 d] 45)) := by (repeat (first | (with_reducible exact Below.refl _ _) | (with_reducible refine Go.below_drewN ?_ _) | (with_reducible refine Below.drew ?_) | (with_reducible refine Below.alloc ?_ (by first | exact Nat.le_refl _ | (simp; done) | (simp; omega) | omega) _) | (with_reducible refine Below.setCell ?_ (by first | exact Nat.le_refl _ | (simp; done) | (simp; omega) | omega) _)))
        have HB := hide (show Below w.heap.size w W by rw [hW]; exact ⟨hX.os, hX.tape, hX.output, hX.size, hX.block⟩)
        clear hW hX
        go_wp2_with fail
        go_ret
        exact ⟨by rw [HV.out]; rfl, HB.out⟩
  · by_cases hB : p ≤ 0 ∧ q ≤ 0
    · have HV := hide (show R = -1 by rw [HR.out, if_neg hA, if_pos hB])
      have t1 : p ≤ 0 := hB.1
      have t2 : q ≤ 0 := hB.2
      by_cases h1 : p = 0
      · have t3 : p ≥ 0 := by omega
        have t4 : ¬ (q ≥ 0) := by omega
        clear HR hpb hqb HWP HWQ HW2 h1 hA hB
        go_enter Try.func31, Try.ntmps31
        go_wp2_with fail
        go_quiet (fail)
        clear q1 q2
        obtain ⟨W, hW⟩ : ∃ y : World, y = ((w.alloc (.cells #[.int .i64 a, .int .i64 b] 45)).alloc (.cells #[.int .i64 c, .int .i64 d] 45)).drewN nq := ⟨_, rfl⟩
        rw [← hW]
        have hX : Below w.heap.size w ((w.alloc (.cells #[.int .i64 a, .int .i64 b] 45)).alloc (.cells #[.int .i64 c, .int .i64 d] 45)) := by (repeat (first | (with_reducible exact Below.refl _ _) | (with_reducible refine Go.below_drewN ?_ _) | (with_reducible refine Below.drew ?_) | (with_reducible refine Below.alloc ?_ (by first | exact Nat.le_refl _ | (simp; done) | (simp; omega) | omega) _) | (with_reducible refine Below.setCell ?_ (by first | exact Nat.le_refl _ | (simp; done) | (simp; omega) | omega) _)))
        have HB := hide (show Below w.heap.size w W by rw [hW]; exact ⟨hX.os, hX.tape, hX.output, hX.size, hX.block⟩)
        clear hW hX
        go_wp2_with fail
        go_ret
        exact ⟨by rw [HV.out]; rfl, HB.out⟩
      · have t3 : ¬ (p ≥ 0) := by omega
        clear HR hpb hqb HWP HWQ HW2 h1 hA hB
        go_enter Try.func31, Try.ntmps31
        go_wp2_with fail
        go_quiet (fail)
        clear q1 q2
        obtain ⟨W, hW⟩ : ∃ y : World, y = ((w.alloc (.cells #[.int .i64 a, .int .i64 b] 45)).alloc (.cells #[.int .i64 c, .int .i64 d] 45)).drewN nq := ⟨_, rfl⟩
        rw [← hW]
        have hX : Below w.heap.size w ((w.alloc (.cells #[.int .i64 a, .int .i64 b] 45)).alloc (.cells #[.int .i64 c, .int .i64 d] 45)) := by (repeat (first | (with_reducible exact Below.refl _ _) | (with_reducible refine Go.below_drewN ?_ _) | (with_reducible refine Below.drew ?_) | (with_reducible refine Below.alloc ?_ (by first | exact Nat.le_refl _ | (simp; done) | (simp; omega) | omega) _) | (with_reducible refine Below.setCell ?_ (by first | exact Nat.le_refl _ | (simp; done) | (simp; omega) | omega) _)))
        have HB := hide (show Below w.heap.size w W by rw [hW]; exact ⟨hX.os, hX.tape, hX.output, hX.size, hX.block⟩)
        clear hW hX
        go_wp2_with fail
        go_ret
        exact ⟨by rw [HV.out]; rfl, HB.out⟩
    · have hp0 : p ≠ 0 := by omega
      have hq0 : q ≠ 0 := by omega
      have hpp : 0 < p * p := by
        rcases Int.lt_or_gt_of_ne hp0 with h | h
        · exact Int.mul_pos_of_neg_of_neg h h
        · exact Int.mul_pos h h
      have hqq : 0 < q * q := by
        rcases Int.lt_or_gt_of_ne hq0 with h | h
        · exact Int.mul_pos_of_neg_of_neg h h
        · exact Int.mul_pos h h
      have HSP := hide (fun (V U : Value) (W : World) (h1 : WideAt W 0 V 3 p) (h2 : WideAt W 0 U 3 p) => wideMul_self V U 3 3 p W h1 h2 (by decide) (by decide) hp0)
      have HSQ := hide (fun (V U : Value) (W : World) (h1 : WideAt W 0 V 3 q) (h2 : WideAt W 0 U 3 q) => wideMul_self V U 3 3 q W h1 h2 (by decide) (by decide) hq0)
      have HS2 := hide (fun (V U : Value) (W : World) (h1 : WideAt W 0 V 3 2) (h2 : WideAt W 0 U 7 (q * q)) => wideMul_pos V U 3 7 2 (q * q) W h1 h2 (by decide) (by decide) (by decide) hqq)
      have HCM := hide (fun (V U : Value) (W : World) (h1 : WideAt W 0 V 7 (p * p)) (h2 : WideAt W 0 U 11 (2 * (q * q))) => wideCmp_pos V U 7 11 (p * p) (2 * (q * q)) W h1 h2 hpp (by omega) (by decide) (by decide))
      have HRR := hide (show R = if (0 < cmpI (p * p) (2 * (q * q))) = (0 < p) then 1 else -1 by rw [HR.out, if_neg hA, if_neg hB])
      have HPP := hide hpp
      have HQQ := hide (show 0 < 2 * (q * q) by omega)
      have HNA := hide hA
      have HNB := hide hB
      clear HR hp0 hq0 hpp hqq hpb hqb hA hB
      generalize p * p = pp at *
      generalize q * q = qq at *
      generalize cmpI pp (2 * qq) = z at *
      have hsides : (p < 0 ∧ 0 < q) ∨ (0 < p ∧ q < 0) := by have h1 := HNA.out; have h2 := HNB.out; omega
      have HE := hide HNA.out
      clear HNA HNB HE
      rcases hsides with ⟨hp, hq⟩ | ⟨hp, hq⟩
      · have t1 : ¬ (p ≥ 0) := by omega
        have t2 : p ≤ 0 := by omega
        have t3 : ¬ (q ≤ 0) := by omega
        have t5 : ¬ (p > 0) := by omega
        go_enter Try.func31, Try.ntmps31
        go_wp2_with fail
        go_quiet (fail)
        clear q1 q2
        obtain ⟨W, hW⟩ : ∃ y : World, y = ((w.alloc (.cells #[.int .i64 a, .int .i64 b] 45)).alloc (.cells #[.int .i64 c, .int .i64 d] 45)).drewN nq := ⟨_, rfl⟩
        rw [← hW]
        have hX : Below w.heap.size w ((w.alloc (.cells #[.int .i64 a, .int .i64 b] 45)).alloc (.cells #[.int .i64 c, .int .i64 d] 45)) := by (repeat (first | (with_reducible exact Below.refl _ _) | (with_reducible refine Go.below_drewN ?_ _) | (with_reducible refine Below.drew ?_) | (with_reducible refine Below.alloc ?_ (by first | exact Nat.le_refl _ | (simp; done) | (simp; omega) | omega) _) | (with_reducible refine Below.setCell ?_ (by first | exact Nat.le_refl _ | (simp; done) | (simp; omega) | omega) _)))
        have HB := hide (show Below w.heap.size w W by rw [hW]; exact ⟨hX.os, hX.tape, hX.output, hX.size, hX.block⟩)
        clear hW hX
        go_wp2_with fail
        refine (HWP.out _).mono ?_
        rintro e w1 ⟨V1, rfl, hV1, hb1⟩
        have HB1 := hide (HB.out.trans (hb1.mono HB.out.size))
        have HV1 := hide hV1
        clear hb1 hV1 HB
        go_wp2_with fail
        refine (HWP.out _).mono ?_
        rintro e w2 ⟨V2, rfl, hV2, hb2⟩
        have HB2 := hide (HB1.out.trans (hb2.mono HB1.out.size))
        have HV1b := hide (HV1.out.below hb2)
        have HV2 := hide hV2
        clear hb2 hV2 HB1 HV1 HWP
        go_wp2_with fail
        refine (HSP.out V1 V2 _ HV1b.out HV2.out).mono ?_
        rintro e w3 ⟨V3, rfl, hV3, hb3⟩
        have HB3 := hide (HB2.out.trans (hb3.mono HB2.out.size))
        replace hV3 := hV3.weak (Nat.zero_le _) (Nat.le_refl _)
        obtain ⟨A3, n3, c3, D3, rfl, -⟩ := hV3.sign_pos HPP.out
        have HV3 := hide hV3
        clear hb3 hV3 HB2 HV1b HV2 HSP
        go_wp2_with fail
        obtain ⟨W4, hW4⟩ : ∃ y : World, y = w3.alloc (.cells #[.int .i64 1, .slice A3 n3 c3] 93) := ⟨_, rfl⟩
        rw [← hW4]
        have b7 : Box W4 w3.heap.size 93 #[.int .i64 1, .slice A3 n3 c3] := by rw [hW4]; exact Box.made rfl
        have hb4 : Below w3.heap.size w3 W4 := by rw [hW4]; exact (Below.refl _ _).alloc (Nat.le_refl _) _
        have HB4 := hide (HB3.out.trans (hb4.mono HB3.out.size))
        have HV4 := hide (HV3.out.below hb4)
        have HB7 := hide b7
        clear hW4 hb4 b7 HB3 HV3
        refine (HW2.out _).mono ?_
        rintro e w5 ⟨V5, rfl, hV5, hb5⟩
        have HB5 := hide (HB4.out.trans (hb5.mono HB4.out.size))
        have HX5 := hide (HB7.out.below hb5)
        have HP5 := hide (HV4.out.below hb5)
        have HV5 := hide hV5
        clear hb5 hV5 HB4 HB7 HV4 HW2
        go_wp2_with fail
        refine (HWQ.out _).mono ?_
        rintro e w6 ⟨V6, rfl, hV6, hb6⟩
        have HB6 := hide (HB5.out.trans (hb6.mono HB5.out.size))
        have HX6 := hide (HX5.out.below hb6)
        have HP6 := hide (HP5.out.below hb6)
        have HT6 := hide (HV5.out.below hb6)
        have HV6 := hide hV6
        clear hb6 hV6 HB5 HX5 HP5 HV5
        go_wp2_with fail
        refine (HWQ.out _).mono ?_
        rintro e w7 ⟨V7, rfl, hV7, hb7⟩
        have HB7 := hide (HB6.out.trans (hb7.mono HB6.out.size))
        have HX7 := hide (HX6.out.below hb7)
        have HP7 := hide (HP6.out.below hb7)
        have HT7 := hide (HT6.out.below hb7)
        have HQ7 := hide (HV6.out.below hb7)
        have HV7 := hide hV7
        clear hb7 hV7 HB6 HX6 HP6 HT6 HV6 HWQ
        go_wp2_with fail
        refine (HSQ.out V6 V7 _ HQ7.out HV7.out).mono ?_
        rintro e w8 ⟨V8, rfl, hV8, hb8⟩
        have HB8 := hide (HB7.out.trans (hb8.mono HB7.out.size))
        have HX8 := hide (HX7.out.below hb8)
        have HP8 := hide (HP7.out.below hb8)
        have HT8 := hide (HT7.out.below hb8)
        have HV8 := hide (hV8.weak (Nat.zero_le _) (Nat.le_refl _))
        clear hb8 hV8 HB7 HX7 HP7 HT7 HQ7 HV7 HSQ
        go_wp2_with fail
        refine (HS2.out V5 V8 _ HT8.out HV8.out).mono ?_
        rintro e w9 ⟨V9, rfl, hV9, hb9⟩
        have HB9 := hide (HB8.out.trans (hb9.mono HB8.out.size))
        have HX9 := hide (HX8.out.below hb9)
        have HP9 := hide (HP8.out.below hb9)
        replace hV9 := hV9.weak (Nat.zero_le _) (Nat.le_refl _)
        obtain ⟨A9, n9, c9, D9, rfl, -⟩ := hV9.sign_pos HQQ.out
        have HV9 := hide hV9
        clear hb9 hV9 HB8 HX8 HP8 HT8 HV8 HS2
        go_upto_region 10 with fail
        obtain ⟨Wa, hWa⟩ : ∃ y : World, y = w9.alloc (.cells #[.int .i64 1, .slice A9 n9 c9] 93) := ⟨_, rfl⟩
        rw [← hWa]
        have b8 : Box Wa w9.heap.size 93 #[.int .i64 1, .slice A9 n9 c9] := by rw [hWa]; exact Box.made rfl
        have hba : Below w9.heap.size w9 Wa := by rw [hWa]; exact (Below.refl _ _).alloc (Nat.le_refl _) _
        have HBa := hide (HB9.out.trans (hba.mono HB9.out.size))
        have HPa := hide (HP9.out.below hba)
        have HQa := hide (HV9.out.below hba)
        have b7 := HX9.out.below hba
        have x0 := b7.at_ 0
        have x1 := b7.at_ 1
        have y0 := b8.at_ 0
        have y1 := b8.at_ 1
        simp only [List.getElem?_toArray] at x0 x1 y0 y1
        clear hWa hba b7 b8 HB9 HP9 HV9 HX9
        go_wp2_with fail
        refine (HCM.out _ _ _ HPa.out HQa.out).mono ?_
        rintro e wz ⟨rfl, hbz⟩
        have HBz := hide (HBa.out.trans (hbz.mono HBa.out.size))
        clear x0 x1 y0 y1 hbz HBa HPa HQa HCM
        by_cases hz : z > 0
        · have HV := hide (show R = -1 by rw [HRR.out, if_neg (by simp; omega)])
          clear HRR
          go_wp2_with fail
          go_ret
          exact ⟨by rw [HV.out]; rfl, HBz.out⟩
        · have HV := hide (show R = 1 by rw [HRR.out, if_pos (by simp; omega)])
          have te : (decide (0 < z) == decide (0 < p)) = true := by rw [decide_eq_false (by omega), decide_eq_false (by omega)]; rfl
          clear HRR
          go_wp2_with fail
          go_ret
          exact ⟨by rw [HV.out]; rfl, HBz.out⟩
      · have t1 : p ≥ 0 := by omega
        have t2 : ¬ (q ≥ 0) := by omega
        have t3 : ¬ (p ≤ 0) := by omega
        have t5 : p > 0 := by omega
        go_enter Try.func31, Try.ntmps31
        go_wp2_with fail
        go_quiet (fail)
        clear q1 q2
        obtain ⟨W, hW⟩ : ∃ y : World, y = ((w.alloc (.cells #[.int .i64 a, .int .i64 b] 45)).alloc (.cells #[.int .i64 c, .int .i64 d] 45)).drewN nq := ⟨_, rfl⟩
        rw [← hW]
        have hX : Below w.heap.size w ((w.alloc (.cells #[.int .i64 a, .int .i64 b] 45)).alloc (.cells #[.int .i64 c, .int .i64 d] 45)) := by (repeat (first | (with_reducible exact Below.refl _ _) | (with_reducible refine Go.below_drewN ?_ _) | (with_reducible refine Below.drew ?_) | (with_reducible refine Below.alloc ?_ (by first | exact Nat.le_refl _ | (simp; done) | (simp; omega) | omega) _) | (with_reducible refine Below.setCell ?_ (by first | exact Nat.le_refl _ | (simp; done) | (simp; omega) | omega) _)))
        have HB := hide (show Below w.heap.size w W by rw [hW]; exact ⟨hX.os, hX.tape, hX.output, hX.size, hX.block⟩)
        clear hW hX
        go_wp2_with fail
        refine (HWP.out _).mono ?_
        rintro e w1 ⟨V1, rfl, hV1, hb1⟩
        have HB1 := hide (HB.out.trans (hb1.mono HB.out.size))
        have HV1 := hide hV1
        clear hb1 hV1 HB
        go_wp2_with fail
        refine (HWP.out _).mono ?_
        rintro e w2 ⟨V2, rfl, hV2, hb2⟩
        have HB2 := hide (HB1.out.trans (hb2.mono HB1.out.size))
        have HV1b := hide (HV1.out.below hb2)
        have HV2 := hide hV2
        clear hb2 hV2 HB1 HV1 HWP
        go_wp2_with fail
        refine (HSP.out V1 V2 _ HV1b.out HV2.out).mono ?_
        rintro e w3 ⟨V3, rfl, hV3, hb3⟩
        have HB3 := hide (HB2.out.trans (hb3.mono HB2.out.size))
        replace hV3 := hV3.weak (Nat.zero_le _) (Nat.le_refl _)
        obtain ⟨A3, n3, c3, D3, rfl, -⟩ := hV3.sign_pos HPP.out
        have HV3 := hide hV3
        clear hb3 hV3 HB2 HV1b HV2 HSP
        go_wp2_with fail
        obtain ⟨W4, hW4⟩ : ∃ y : World, y = w3.alloc (.cells #[.int .i64 1, .slice A3 n3 c3] 93) := ⟨_, rfl⟩
        rw [← hW4]
        have b7 : Box W4 w3.heap.size 93 #[.int .i64 1, .slice A3 n3 c3] := by rw [hW4]; exact Box.made rfl
        have hb4 : Below w3.heap.size w3 W4 := by rw [hW4]; exact (Below.refl _ _).alloc (Nat.le_refl _) _
        have HB4 := hide (HB3.out.trans (hb4.mono HB3.out.size))
        have HV4 := hide (HV3.out.below hb4)
        have HB7 := hide b7
        clear hW4 hb4 b7 HB3 HV3
        refine (HW2.out _).mono ?_
        rintro e w5 ⟨V5, rfl, hV5, hb5⟩
        have HB5 := hide (HB4.out.trans (hb5.mono HB4.out.size))
        have HX5 := hide (HB7.out.below hb5)
        have HP5 := hide (HV4.out.below hb5)
        have HV5 := hide hV5
        clear hb5 hV5 HB4 HB7 HV4 HW2
        go_wp2_with fail
        refine (HWQ.out _).mono ?_
        rintro e w6 ⟨V6, rfl, hV6, hb6⟩
        have HB6 := hide (HB5.out.trans (hb6.mono HB5.out.size))
        have HX6 := hide (HX5.out.below hb6)
        have HP6 := hide (HP5.out.below hb6)
        have HT6 := hide (HV5.out.below hb6)
        have HV6 := hide hV6
        clear hb6 hV6 HB5 HX5 HP5 HV5
        go_wp2_with fail
        refine (HWQ.out _).mono ?_
        rintro e w7 ⟨V7, rfl, hV7, hb7⟩
        have HB7 := hide (HB6.out.trans (hb7.mono HB6.out.size))
        have HX7 := hide (HX6.out.below hb7)
        have HP7 := hide (HP6.out.below hb7)
        have HT7 := hide (HT6.out.below hb7)
        have HQ7 := hide (HV6.out.below hb7)
        have HV7 := hide hV7
        clear hb7 hV7 HB6 HX6 HP6 HT6 HV6 HWQ
        go_wp2_with fail
        refine (HSQ.out V6 V7 _ HQ7.out HV7.out).mono ?_
        rintro e w8 ⟨V8, rfl, hV8, hb8⟩
        have HB8 := hide (HB7.out.trans (hb8.mono HB7.out.size))
        have HX8 := hide (HX7.out.below hb8)
        have HP8 := hide (HP7.out.below hb8)
        have HT8 := hide (HT7.out.below hb8)
        have HV8 := hide (hV8.weak (Nat.zero_le _) (Nat.le_refl _))
        clear hb8 hV8 HB7 HX7 HP7 HT7 HQ7 HV7 HSQ
        go_wp2_with fail
        refine (HS2.out V5 V8 _ HT8.out HV8.out).mono ?_
        rintro e w9 ⟨V9, rfl, hV9, hb9⟩
        have HB9 := hide (HB8.out.trans (hb9.mono HB8.out.size))
        have HX9 := hide (HX8.out.below hb9)
        have HP9 := hide (HP8.out.below hb9)
        replace hV9 := hV9.weak (Nat.zero_le _) (Nat.le_refl _)
        obtain ⟨A9, n9, c9, D9, rfl, -⟩ := hV9.sign_pos HQQ.out
        have HV9 := hide hV9
        clear hb9 hV9 HB8 HX8 HP8 HT8 HV8 HS2
        go_upto_region 10 with fail
        obtain ⟨Wa, hWa⟩ : ∃ y : World, y = w9.alloc (.cells #[.int .i64 1, .slice A9 n9 c9] 93) := ⟨_, rfl⟩
        rw [← hWa]
        have b8 : Box Wa w9.heap.size 93 #[.int .i64 1, .slice A9 n9 c9] := by rw [hWa]; exact Box.made rfl
        have hba : Below w9.heap.size w9 Wa := by rw [hWa]; exact (Below.refl _ _).alloc (Nat.le_refl _) _
        have HBa := hide (HB9.out.trans (hba.mono HB9.out.size))
        have HPa := hide (HP9.out.below hba)
        have HQa := hide (HV9.out.below hba)
        have b7 := HX9.out.below hba
        have x0 := b7.at_ 0
        have x1 := b7.at_ 1
        have y0 := b8.at_ 0
        have y1 := b8.at_ 1
        simp only [List.getElem?_toArray] at x0 x1 y0 y1
        clear hWa hba b7 b8 HB9 HP9 HV9 HX9
        go_wp2_with fail
        refine (HCM.out _ _ _ HPa.out HQa.out).mono ?_
        rintro e wz ⟨rfl, hbz⟩
        have HBz := hide (HBa.out.trans (hbz.mono HBa.out.size))
        clear x0 x1 y0 y1 hbz HBa HPa HQa HCM
        by_cases hz : z > 0
        · have HV := hide (show R = 1 by rw [HRR.out, if_pos (by simp; omega)])
          clear HRR
          go_wp2_with fail
          go_ret
          exact ⟨by rw [HV.out]; rfl, HBz.out⟩
        · have HV := hide (show R = -1 by rw [HRR.out, if_neg (by simp; omega)])
          clear HRR
          go_wp2_with fail
          go_ret
          exact ⟨by rw [HV.out]; rfl, HBz.out⟩
end Go.Proofs.Ytejhakkfgfahaaa
/- Refined of the reference. -/
namespace Go.Proofs.Ytejhakkfgfahaaa
open Go.RowKit Go.Shelf Go.Great
set_option maxHeartbeats 8000000 in
set_option maxRecDepth 100000 in
theorem Refined_ref (s : Nat) (w : World) (hs7 : s ≤ 7) :
    Calls Try.prog 33 #[.int .i64 (s : Int)] w fun e w' => ∃ v, e = .returned (.tuple #[v, .int .i64 ((rfK s 3 : Nat) : Int)]) ∧ OwnLooks w' w.heap.size v 6 (rfF s) (rfP s) (rfQ s) ∧ Below w.heap.size w w' := by
  have HLK := hide (fun (a k : Nat) W h1 h2 h3 => look_ref a k s W h1 h2 h3 hs7)
  have HST := hide (fun r => (show rfK s (r + 1) = if 0 < compI ((lkN (rfK s r + 2 ^ r) (4 / 2 ^ r) s).sqP - (lkN (rfK s r) (4 / 2 ^ r) s).sqP) ((lkN (rfK s r) (4 / 2 ^ r) s).sqQ - (lkN (rfK s r + 2 ^ r) (4 / 2 ^ r) s).sqQ) then rfK s r + 2 ^ r else rfK s r from rfl))
  have HLT := hide (fun r => rfK_lt s r)
  have HFF := hide (fun r j (hj : j < 2) => (show rfF s (2 * r + j) = stF (rfK s r + j * 2 ^ r) (4 / 2 ^ r) ∧ rfP s (2 * r + j) = (lkN (rfK s r + j * 2 ^ r) (4 / 2 ^ r) s).sqP ∧ rfQ s (2 * r + j) = (lkN (rfK s r + j * 2 ^ r) (4 / 2 ^ r) s).sqQ by
    unfold rfF rfP rfQ rK rA
    rw [show (2 * r + j) / 2 = r by omega, show (2 * r + j) % 2 = j by omega]
    exact ⟨rfl, rfl, rfl⟩))
  go_enter Try.func33, Try.ntmps33
  go_wp2_with fail
  go_loopw [4, 5, 6, 7] (fun v k f a wr => ∃ r : Nat, r ≤ 3 ∧ k = .int .i64 ((rfK s r : Nat) : Int) ∧ f = .int .i64 ((2 ^ r : Nat) : Int) ∧ a = .int .i64 ((4 / 2 ^ r : Nat) : Int) ∧ Hid (OwnLooks wr w.heap.size v (2 * r) (rfF s) (rfP s) (rfQ s)) ∧ Hid (Below w.heap.size w wr)) (fun _ _ _ a _ => (Go.RowKit.intOf a).toNat)
  case atStart => exact ⟨0, Nat.zero_le _, rfl, rfl, rfl, hide (OwnLooks.nil_ _ _ _ _ _), hide (Below.refl _ _)⟩
  case round =>
    obtain ⟨r, hr, rfl, rfl, rfl, HO, HB⟩ := hrel
    obtain ⟨wA, rfl⟩ : ∃ x : World, x = wr := ⟨_, rfl⟩
    have hBs := HB.out.size
    have hST := HST.out r
    have hkf := HLT.out r
    have hF0 := HFF.out r 0 (by decide)
    have hF1 := HFF.out r 1 (by decide)
    have hf2 : 2 ^ (r + 1) = 2 ^ r * 2 := Nat.pow_succ 2 r
    have hcase : r = 0 ∨ r = 1 ∨ r = 2 ∨ r = 3 := by omega
    by_cases hlt : r < 3
    case neg =>
      obtain rfl : r = 3 := by omega
      have q9 : ((4 / 2 ^ 3 : Nat) : Int) = 0 := rfl
      rw [q9]
      go_wp2_with fail
      go_ret2
      exact ⟨_, rfl, HO.out, HB.out⟩
    have hf : 1 ≤ 2 ^ r ∧ 2 ^ r ≤ 4 ∧ 1 ≤ 4 / 2 ^ r ∧ 4 / 2 ^ r ≤ 4 ∧ 4 / 2 ^ (r + 1) = (4 / 2 ^ r) / 2 := by
      rcases hcase with rfl | rfl | rfl | rfl
      · decide
      · decide
      · decide
      · omega
    have hfe2 : (4 / 2 ^ r) / 2 = 4 / 2 ^ (r + 1) := hf.2.2.2.2.symm
    obtain ⟨f, hfe⟩ : ∃ z, 2 ^ r = z := ⟨_, rfl⟩
    rw [hfe] at hf hST hkf hF0 hF1 hf2 hfe2
    simp only [hfe]
    obtain ⟨a, hae⟩ : ∃ z, 4 / f = z := ⟨_, rfl⟩
    rw [hae] at hf hST hF0 hF1 hfe2
    simp only [hae]
    obtain ⟨k, hke⟩ : ∃ z, rfK s r = z := ⟨_, rfl⟩
    rw [hke] at hST hkf hF0 hF1
    simp only [hke]
    rw [Nat.zero_mul, Nat.add_zero, Nat.add_zero] at hF0
    rw [Nat.one_mul] at hF1
    obtain ⟨hf1, hf4, ha1, ha4, -⟩ := hf
    have haz : (1 : Int) ≤ (a : Int) := by omega
    have q1 : IntKind.i64.wrap ((k : Int) + (f : Int)) = ((k + f : Nat) : Int) := by rw [← Int.natCast_add]; exact IntWalk.i64_in _ (by omega)
    have q4 : IntKind.i64.wrap (2 * (f : Int)) = ((f * 2 : Nat) : Int) := by rw [show 2 * (f : Int) = ((f * 2 : Nat) : Int) by omega]; exact IntWalk.i64_in _ (by omega)
    have q5 : (a : Int).tdiv 2 = ((a / 2 : Nat) : Int) := by rw [Int.tdiv_eq_ediv_of_nonneg (by omega)]; omega
    have q6 : IntKind.i64.wrap ((a / 2 : Nat) : Int) = ((a / 2 : Nat) : Int) := IntWalk.i64_in _ (by omega)
    have HREL := hide (show 2 ^ (r + 1) = f * 2 by rw [hf2])
    have HREA := hide (show 4 / 2 ^ (r + 1) = a / 2 from hfe2.symm)
    have HST1 := hide hST
    have HF0 := hide hF0
    have HF1 := hide hF1
    have hvlt := fun b => (HO.out.lt (k := b))
    clear hST hF0 hF1 hf2 hfe hae hke hcase HST HFF HLT hfe2
    have HN0 := lkN_bounds k a s
    have HN1 := lkN_bounds (k + f) a s
    have HLK0 := hide (fun W => HLK.out a k W ha1 (by omega) (by omega))
    have HLK1 := hide (fun W => HLK.out a (k + f) W ha1 (by omega) (by omega))
    obtain ⟨p0, hp0⟩ : ∃ z, (lkN k a s).sqP = z := ⟨_, rfl⟩
    obtain ⟨q0, hq0⟩ : ∃ z, (lkN k a s).sqQ = z := ⟨_, rfl⟩
    obtain ⟨p1, hp1⟩ : ∃ z, (lkN (k + f) a s).sqP = z := ⟨_, rfl⟩
    obtain ⟨qq, hq1⟩ : ∃ z, (lkN (k + f) a s).sqQ = z := ⟨_, rfl⟩
    rw [hp0, hq0] at HN0
    rw [hp1, hq1] at HN1
    rw [hp0, hq0, hp1, hq1] at HST1
    rw [hp0, hq0] at HF0
    rw [hp1, hq1] at HF1
    simp only [hp0, hq0] at HLK0
    simp only [hp1, hq1] at HLK1
    have HLA := hide (fun W => (show Calls Try.prog 31 #[.agg #[.int .i64 p1, .int .i64 qq], .agg #[.int .i64 p0, .int .i64 q0]] W fun e w' => e = .returned (.int .i64 (compI (p1 - p0) (q0 - qq))) ∧ Below W.heap.size W w' by
      have := largerR_any p1 qq p0 q0 W (by omega) (by omega) (by omega) (by omega)
      rw [refC_comp, Int.neg_sub] at this
      exact this))
    clear hp0 hq0 hp1 hq1 HN0 HN1 HLK
    go_wp2_with fail
    refine (HLK0.out _).mono ?_
    rintro e_ w_1 ⟨D0, d0, rfl, hc0, hi0, hb_1⟩
    have hsz := hb_1.size
    replace HO := hide (HO.out.below hb_1)
    replace HB := hide (HB.out.trans (hb_1.mono HB.out.size))
    clear hb_1
    have hap0 : ∀ b o, D0 = some ⟨b, o, none⟩ → wA.heap.size ≤ b ∧ b < w_1.heap.size := fun b o e => by subst e; exact hi0.block (by decide : 0 < 8)
    have HI0 := hide (hi0.weak hBs)
    have hs1 := HB.out.size
    skip
    clear hi0
    have HSA := hide (show wA.heap.size ≤ w_1.heap.size from hsz)
    go_wp2_with fail
    refine (HLK1.out _).mono ?_
    rintro e_ w_2 ⟨D1, d1, rfl, hc1, hi1, hb_2⟩
    have hsz2 := hb_2.size
    replace HO := hide (HO.out.below hb_2)
    replace HI0 := hide (HI0.out.below hb_2)
    replace HB := hide (HB.out.trans (hb_2.mono HB.out.size))
    clear hb_2
    have hap1 : ∀ b o, D1 = some ⟨b, o, none⟩ → w_1.heap.size ≤ b ∧ b < w_2.heap.size := fun b o e => by subst e; exact hi1.block (by decide : 0 < 8)
    have HI1 := hide (hi1.weak hs1)
    clear hi1 HLK0 HLK1
    have HSB := hide (show wA.heap.size ≤ w_1.heap.size ∧ w_1.heap.size ≤ w_2.heap.size from ⟨hsz, hsz2⟩)
    go_upto_region 7 with fail
    clear hs1
    obtain ⟨g8, hg8⟩ : ∃ q, w_2.heap.size = q := ⟨_, rfl⟩
    obtain ⟨w_3, hw_3⟩ : ∃ q : World, q = w_2.alloc (.cells #[.slice D0 8 d0, .int .i64 p0, .int .i64 q0] 100) := ⟨_, rfl⟩
    try rw [← hw_3]
    have HX8 := hide (show Box w_3 g8 100 #[.slice D0 8 d0, .int .i64 p0, .int .i64 q0] by rw [hw_3]; exact Box.made hg8.symm)
    have hs8 : w_2.heap.size = g8 := hg8
    have hs3 : w_3.heap.size = g8 + 1 := by rw [hw_3, ← hg8]; simp
    have hc_3 : Below w_2.heap.size w_2 w_3 := by rw [hw_3]; exact (Below.refl _ _).alloc (Nat.le_refl _) _
    clear hw_3
    replace HO := hide (HO.out.below hc_3)
    replace HI0 := hide (HI0.out.below hc_3)
    replace HI1 := hide (HI1.out.below hc_3)
    replace HB := hide (HB.out.trans (hc_3.mono HB.out.size))
    clear hc_3
    try simp only [hg8]
    clear hg8
    obtain ⟨g9, hg9⟩ : ∃ q, w_3.heap.size = q := ⟨_, rfl⟩
    obtain ⟨w_4, hw_4⟩ : ∃ q : World, q = w_3.alloc (.cells #[.slice D1 8 d1, .int .i64 p1, .int .i64 qq] 100) := ⟨_, rfl⟩
    try rw [← hw_4]
    have HX9 := hide (show Box w_4 g9 100 #[.slice D1 8 d1, .int .i64 p1, .int .i64 qq] by rw [hw_4]; exact Box.made hg9.symm)
    have he9 : g8 + 1 = g9 := hs3.symm.trans hg9
    have hc_4 : Below w_3.heap.size w_3 w_4 := by rw [hw_4]; exact (Below.refl _ _).alloc (Nat.le_refl _) _
    clear hw_4
    replace HO := hide (HO.out.below hc_4)
    replace HI0 := hide (HI0.out.below hc_4)
    replace HI1 := hide (HI1.out.below hc_4)
    replace HX8 := hide (HX8.out.below hc_4)
    replace HB := hide (HB.out.trans (hc_4.mono HB.out.size))
    clear hc_4
    try simp only [hg9]
    clear hg9
    simp only [he9]
    clear hs3
    obtain ⟨x0, x1, x2, -, -, -, hlx⟩ := HX8.out.cellsT
    obtain ⟨y0, y1, y2, -, -, -, hly⟩ := HX9.out.cellsT
    obtain ⟨w9, hw9⟩ : ∃ z : World, z = w_4.alloc (.cells #[.slice D0 8 d0, .int .i64 p0, .int .i64 q0, .slice D1 8 d1, .int .i64 p1, .int .i64 qq] 100) := ⟨_, rfl⟩
    have hw9s : w9.heap.size = w_4.heap.size + 1 := by rw [hw9]; simp
    have HBX := hide (show Box w9 w_4.heap.size 100 #[.slice D0 8 d0, .int .i64 p0, .int .i64 q0, .slice D1 8 d1, .int .i64 p1, .int .i64 qq] by rw [hw9]; exact Box.made rfl)
    replace HO := hide (show OwnLooks w9 w.heap.size _ (2 * r) (rfF s) (rfP s) (rfQ s) by rw [hw9]; exact HO.out.alloc _)
    replace HI0 := hide (show IntsAt w9 w.heap.size D0 8 (stF k a) by rw [hw9]; exact HI0.out.alloc _)
    replace HI1 := hide (show IntsAt w9 w.heap.size D1 8 (stF (k + f) a) by rw [hw9]; exact HI1.out.alloc _)
    replace HX8 := hide (show Box w9 g8 100 #[.slice D0 8 d0, .int .i64 p0, .int .i64 q0] by rw [hw9]; exact HX8.out.alloc _)
    replace HX9 := hide (show Box w9 g9 100 #[.slice D1 8 d1, .int .i64 p1, .int .i64 qq] by rw [hw9]; exact HX9.out.alloc _)
    replace HB := hide (show Below w.heap.size w w9 by rw [hw9]; exact HB.out.alloc HB.out.size _)
    have HW9 := hide hw9
    have HWS := hide hw9s
    clear hw9 hw9s
    go_upto_region 8 with (at_builtin; (try rw [← HW9.out]); refine wpList_append_looks _ rfl (.tmp 24) (.tmp 27) rfl w.heap.size _ (2 * r) (rfF s) (rfP s) (rfQ s) rfl HO.out ⟨w_4.heap.size, 0, none⟩ 2 2 _ _ _ [.slice D0 8 d0, .int .i64 p0, .int .i64 q0, .slice D1 8 d1, .int .i64 p1, .int .i64 qq] rfl rfl (looks_two HBX.out HI0.out HI1.out (fun b o e => ⟨fun y => (by have h1 := hap0 b o e; have h2 := (hvlt _ y).2; omega), by have := hap0 b o e; have := HWS.out; omega⟩) (fun b o e => ⟨fun y => (by have h1 := hap1 b o e; have h2 := (hvlt _ y).2; omega), by have := hap1 b o e; have := HWS.out; omega⟩)).1 (by intro u hu; simp at hu; rcases hu with rfl | rfl | rfl | rfl | rfl | rfl <;> rfl) (looks_two HBX.out HI0.out HI1.out (fun b o e => ⟨fun y => (by have h1 := hap0 b o e; have h2 := (hvlt _ y).2; omega), by have := hap0 b o e; have := HWS.out; omega⟩) (fun b o e => ⟨fun y => (by have h1 := hap1 b o e; have h2 := (hvlt _ y).2; omega), by have := hap1 b o e; have := HWS.out; omega⟩)).2 (by omega) HB.out.size ?_; intro v2 w10 h1 h2 h3)
    have hvl := HO.out
    have ne8 : some g8 ≠ _ := fun y => (by have h4 := (hvlt g8 y.symm).2; omega)
    have ne9 : some g9 ≠ _ := fun y => (by have h4 := (hvlt g9 y.symm).2; omega)
    have HY8 := hide ((h3.block g8 HX8.out.lt ne8).trans HX8.out)
    have HY9 := hide ((h3.block g9 HX9.out.lt ne9).trans HX9.out)
    have HO2 := hide h1
    replace HB := hide (HB.out.trans h2)
    have hB9 := HB.out.size
    obtain ⟨c0, c1, c2, -, -, -, hlc⟩ := (show Box w10 g8 100 #[.slice D0 8 d0, .int .i64 p0, .int .i64 q0] from HY8.out).cellsT
    obtain ⟨e0, e1, e2, -, -, -, hle⟩ := (show Box w10 g9 100 #[.slice D1 8 d1, .int .i64 p1, .int .i64 qq] from HY9.out).cellsT
    clear h1 h2 h3 hvl ne8 ne9 x0 x1 x2 hlx y0 y1 y2 hly HX8 HX9 HO HI0 HI1 HBX hap0 hap1 hvlt
    go_wp2_with fail
    refine (HLA.out _).mono ?_
    rintro e_ w11 ⟨rfl, hb⟩
    have HO3 := hide (HO2.out.below hb)
    replace HB := hide (HB.out.trans (hb.mono HB.out.size))
    clear c0 c1 c2 hlc e0 e1 e2 hle hb HLA HO2
    have HO4 := hide (HO3.out.congr (F' := rfF s) (P' := rfP s) (Q' := rfQ s) fun i hi => by
        unfold catA
        by_cases e : i < 2 * r
        · rw [if_pos e, if_pos e, if_pos e]; exact ⟨rfl, rfl, rfl⟩
        · rw [if_neg e, if_neg e, if_neg e]
          have : i = 2 * r ∨ i = 2 * r + 1 := by omega
          rcases this with rfl | rfl
          · rw [Nat.sub_self]; exact ⟨HF0.out.1.symm, HF0.out.2.1.symm, HF0.out.2.2.symm⟩
          · rw [Nat.add_sub_cancel_left]; exact ⟨HF1.out.1.symm, HF1.out.2.1.symm, HF1.out.2.2.symm⟩)
    clear HO3
    by_cases hc : 0 < compI (p1 - p0) (q0 - qq)
    · have hst := hide (HST1.out.trans (if_pos hc))
      clear HST1
      go_wp2_with fail
      go_roundw
      case rel => exact ⟨r + 1, by omega, by rw [hst.out]; try go_num, by rw [HREL.out]; try go_num, by rw [HREA.out]; try go_num, hide (by rw [show 2 * (r + 1) = 2 * r + 2 by omega]; exact HO4.out), HB⟩
      case measure => simp [Go.RowKit.intOf]; omega
    · have hst := hide (HST1.out.trans (if_neg hc))
      have hc' : ¬ 0 < compI (p1 - p0) (q0 - qq) := hc
      clear HST1
      go_wp2_with fail
      go_roundw
      case rel => exact ⟨r + 1, by omega, by rw [hst.out]; try go_num, by rw [HREL.out]; try go_num, by rw [HREA.out]; try go_num, hide (by rw [show 2 * (r + 1) = 2 * r + 2 by omega]; exact HO4.out), HB⟩
      case measure => simp [Go.RowKit.intOf]; omega
end Go.Proofs.Ytejhakkfgfahaaa
