/- Lemmas: E22. -/
import Derived.Deep.QuietTactic
import Derived.Test.YtdkbjgnkehoplaaBy07
import Derived.Test.YtdkbjgnkehoplaaBy24
set_option linter.unusedVariables false
set_option linter.unusedSimpArgs false
/- Larger of the reference (written from XBm of wave). -/
namespace Go.Proofs.Ytdkbjgnkehoplaa
open Go.RowKit
theorem wideOfB (x : Int) (w : World) (hx : -1000000000000000000 ≤ x ∧ x ≤ 1000000000000000000) :
    Calls Try.prog 113 #[.int .i64 x] w fun e w' => ∃ V, e = .returned V ∧ WideAt w' 0 V 3 x ∧ Below w.heap.size w w' :=
  (wideOf1_any x x.natAbs w (by omega) (by omega)).mono fun _ _ ⟨V, h1, h2, h3⟩ => ⟨V, h1, h2.weak (Nat.zero_le _) (Nat.le_refl _), h3⟩
set_option maxHeartbeats 8000000 in
set_option maxRecDepth 100000 in
theorem largerR_any (a b c d : Int) (w : World) (ha : -10000000000000 ≤ a ∧ a ≤ 10000000000000) (hb : -10000000000000 ≤ b ∧ b ≤ 10000000000000) (hc : -10000000000000 ≤ c ∧ c ≤ 10000000000000) (hd : -10000000000000 ≤ d ∧ d ≤ 10000000000000) :
    Calls Try.prog 66 #[.agg #[.int .i64 a, .int .i64 b], .agg #[.int .i64 c, .int .i64 d]] w fun e w' => e = .returned (.int .i64 (refC (a - c) (b - d))) ∧ Below w.heap.size w w' := by
  obtain ⟨p, hp⟩ : ∃ p, p = a - c := ⟨_, rfl⟩
  obtain ⟨q, hq⟩ : ∃ q, q = b - d := ⟨_, rfl⟩
  have q1 : IntKind.i64.wrap (a - c) = p := by rw [hp]; exact IntWalk.i64_in _ (by omega)
  have q2 : IntKind.i64.wrap (b - d) = q := by rw [hq]; exact IntWalk.i64_in _ (by omega)
  have hpb : -1000000000000000000 ≤ p ∧ p ≤ 1000000000000000000 := by omega
  have hqb : -1000000000000000000 ≤ q ∧ q ≤ 1000000000000000000 := by omega
  rw [← hp, ← hq]
  have HWP := hide (fun W => wideOfB p W hpb)
  have HWQ := hide (fun W => wideOfB q W hqb)
  have HW2 := hide (fun W => wideOfB 2 W (by decide))
  obtain ⟨R, hR⟩ : ∃ R, R = refC p q := ⟨_, rfl⟩
  have HR := hide (show R = if 0 ≤ p ∧ 0 ≤ q then (if p = 0 ∧ q = 0 then 0 else 1) else if p ≤ 0 ∧ q ≤ 0 then -1 else if (0 < cmpI (p * p) (2 * (q * q))) = (0 < p) then 1 else -1 from hR)
  rw [← hR]
  clear hR hp hq ha hb hc hd
  by_cases hA : 0 ≤ p ∧ 0 ≤ q
  · have t1 : p ≥ 0 := hA.1
    have t2 : q ≥ 0 := hA.2
    by_cases h0 : p = 0 ∧ q = 0
    · have HV := hide (show R = 0 by rw [HR.out, if_pos hA, if_pos h0])
      obtain ⟨h1, h2⟩ := h0
      have e1 : (p == 0) = true := by simp [h1]
      have e2 : (q == 0) = true := by simp [h2]
      clear HR hpb hqb HWP HWQ HW2 h1 h2 hA
      go_enter Try.func66, Try.ntmps66
      go_wp2_with fail
      go_quiet (fail)
      clear q1 q2
      obtain ⟨W, hW⟩ : ∃ y : World, y = ((w.alloc (.cells #[.int .i64 a, .int .i64 b] 39)).alloc (.cells #[.int .i64 c, .int .i64 d] 39)).drewN nq := ⟨_, rfl⟩
      rw [← hW]
      have hX : Below w.heap.size w ((w.alloc (.cells #[.int .i64 a, .int .i64 b] 39)).alloc (.cells #[.int .i64 c, .int .i64 d] 39)) := by (repeat (first | (with_reducible exact Below.refl _ _) | (with_reducible refine Go.below_drewN ?_ _) | (with_reducible refine Below.drew ?_) | (with_reducible refine Below.alloc ?_ (by first | exact Nat.le_refl _ | (simp; done) | (simp; omega) | omega) _) | (with_reducible refine Below.setCell ?_ (by first | exact Nat.le_refl _ | (simp; done) | (simp; omega) | omega) _)))
      have HB := hide (show Below w.heap.size w W by rw [hW]; exact ⟨hX.os, hX.tape, hX.output, hX.size, hX.block⟩)
      clear hW hX
      go_wp2_with fail
      go_ret
      exact ⟨by rw [HV.out]; rfl, HB.out⟩
    · have HV := hide (show R = 1 by rw [HR.out, if_pos hA, if_neg h0])
      by_cases h1 : p = 0
      · have e1 : (p == 0) = true := by simp [h1]
        have e2 : (q == 0) = false := by simp; omega
        clear HR hpb hqb HWP HWQ HW2 h0 h1 hA
        go_enter Try.func66, Try.ntmps66
        go_wp2_with fail
        go_quiet (fail)
        clear q1 q2
        obtain ⟨W, hW⟩ : ∃ y : World, y = ((w.alloc (.cells #[.int .i64 a, .int .i64 b] 39)).alloc (.cells #[.int .i64 c, .int .i64 d] 39)).drewN nq := ⟨_, rfl⟩
        rw [← hW]
        have hX : Below w.heap.size w ((w.alloc (.cells #[.int .i64 a, .int .i64 b] 39)).alloc (.cells #[.int .i64 c, .int .i64 d] 39)) := by (repeat (first | (with_reducible exact Below.refl _ _) | (with_reducible refine Go.below_drewN ?_ _) | (with_reducible refine Below.drew ?_) | (with_reducible refine Below.alloc ?_ (by first | exact Nat.le_refl _ | (simp; done) | (simp; omega) | omega) _) | (with_reducible refine Below.setCell ?_ (by first | exact Nat.le_refl _ | (simp; done) | (simp; omega) | omega) _)))
        have HB := hide (show Below w.heap.size w W by rw [hW]; exact ⟨hX.os, hX.tape, hX.output, hX.size, hX.block⟩)
        clear hW hX
        go_wp2_with fail
        go_ret
        exact ⟨by rw [HV.out]; rfl, HB.out⟩
      · have e1 : (p == 0) = false := by simp; omega
        clear HR hpb hqb HWP HWQ HW2 h0 h1 hA
        go_enter Try.func66, Try.ntmps66
        go_wp2_with fail
        go_quiet (fail)
        clear q1 q2
        obtain ⟨W, hW⟩ : ∃ y : World, y = ((w.alloc (.cells #[.int .i64 a, .int .i64 b] 39)).alloc (.cells #[.int .i64 c, .int .i64 d] 39)).drewN nq := ⟨_, rfl⟩
        rw [← hW]
        have hX : Below w.heap.size w ((w.alloc (.cells #[.int .i64 a, .int .i64 b] 39)).alloc (.cells #[.int .i64 c, .int .i64 d] 39)) := by (repeat (first | (with_reducible exact Below.refl _ _) | (with_reducible refine Go.below_drewN ?_ _) | (with_reducible refine Below.drew ?_) | (with_reducible refine Below.alloc ?_ (by first | exact Nat.le_refl _ | (simp; done) | (simp; omega) | omega) _) | (with_reducible refine Below.setCell ?_ (by first | exact Nat.le_refl _ | (simp; done) | (simp; omega) | omega) _)))
        have HB := hide (show Below w.heap.size w W by rw [hW]; exact ⟨hX.os, hX.tape, hX.output, hX.size, hX.block⟩)
        clear hW hX
        go_wp2_with fail
        go_ret
        exact ⟨by rw [HV.out]; rfl, HB.out⟩
  · by_cases hB : p ≤ 0 ∧ q ≤ 0
    · have HV := hide (show R = -1 by rw [HR.out, if_neg hA, if_pos hB])
      have t1 : p ≤ 0 := hB.1
      have t2 : q ≤ 0 := hB.2
      by_cases h1 : p = 0
      · have t3 : p ≥ 0 := by omega
        have t4 : ¬ (q ≥ 0) := by omega
        clear HR hpb hqb HWP HWQ HW2 h1 hA hB
        go_enter Try.func66, Try.ntmps66
        go_wp2_with fail
        go_quiet (fail)
        clear q1 q2
        obtain ⟨W, hW⟩ : ∃ y : World, y = ((w.alloc (.cells #[.int .i64 a, .int .i64 b] 39)).alloc (.cells #[.int .i64 c, .int .i64 d] 39)).drewN nq := ⟨_, rfl⟩
        rw [← hW]
        have hX : Below w.heap.size w ((w.alloc (.cells #[.int .i64 a, .int .i64 b] 39)).alloc (.cells #[.int .i64 c, .int .i64 d] 39)) := by (repeat (first | (with_reducible exact Below.refl _ _) | (with_reducible refine Go.below_drewN ?_ _) | (with_reducible refine Below.drew ?_) | (with_reducible refine Below.alloc ?_ (by first | exact Nat.le_refl _ | (simp; done) | (simp; omega) | omega) _) | (with_reducible refine Below.setCell ?_ (by first | exact Nat.le_refl _ | (simp; done) | (simp; omega) | omega) _)))
        have HB := hide (show Below w.heap.size w W by rw [hW]; exact ⟨hX.os, hX.tape, hX.output, hX.size, hX.block⟩)
        clear hW hX
        go_wp2_with fail
        go_ret
        exact ⟨by rw [HV.out]; rfl, HB.out⟩
      · have t3 : ¬ (p ≥ 0) := by omega
        clear HR hpb hqb HWP HWQ HW2 h1 hA hB
        go_enter Try.func66, Try.ntmps66
        go_wp2_with fail
        go_quiet (fail)
        clear q1 q2
        obtain ⟨W, hW⟩ : ∃ y : World, y = ((w.alloc (.cells #[.int .i64 a, .int .i64 b] 39)).alloc (.cells #[.int .i64 c, .int .i64 d] 39)).drewN nq := ⟨_, rfl⟩
        rw [← hW]
        have hX : Below w.heap.size w ((w.alloc (.cells #[.int .i64 a, .int .i64 b] 39)).alloc (.cells #[.int .i64 c, .int .i64 d] 39)) := by (repeat (first | (with_reducible exact Below.refl _ _) | (with_reducible refine Go.below_drewN ?_ _) | (with_reducible refine Below.drew ?_) | (with_reducible refine Below.alloc ?_ (by first | exact Nat.le_refl _ | (simp; done) | (simp; omega) | omega) _) | (with_reducible refine Below.setCell ?_ (by first | exact Nat.le_refl _ | (simp; done) | (simp; omega) | omega) _)))
        have HB := hide (show Below w.heap.size w W by rw [hW]; exact ⟨hX.os, hX.tape, hX.output, hX.size, hX.block⟩)
        clear hW hX
        go_wp2_with fail
        go_ret
        exact ⟨by rw [HV.out]; rfl, HB.out⟩
    · have hp0 : p ≠ 0 := by omega
      have hq0 : q ≠ 0 := by omega
      have hpp : 0 < p * p := by
        rcases Int.lt_or_gt_of_ne hp0 with h | h
        · exact Int.mul_pos_of_neg_of_neg h h
        · exact Int.mul_pos h h
      have hqq : 0 < q * q := by
        rcases Int.lt_or_gt_of_ne hq0 with h | h
        · exact Int.mul_pos_of_neg_of_neg h h
        · exact Int.mul_pos h h
      have HSP := hide (fun (V U : Value) (W : World) (h1 : WideAt W 0 V 3 p) (h2 : WideAt W 0 U 3 p) => wideMul_self V U 3 3 p W h1 h2 (by decide) (by decide) hp0)
      have HSQ := hide (fun (V U : Value) (W : World) (h1 : WideAt W 0 V 3 q) (h2 : WideAt W 0 U 3 q) => wideMul_self V U 3 3 q W h1 h2 (by decide) (by decide) hq0)
      have HS2 := hide (fun (V U : Value) (W : World) (h1 : WideAt W 0 V 3 2) (h2 : WideAt W 0 U 7 (q * q)) => wideMul_pos V U 3 7 2 (q * q) W h1 h2 (by decide) (by decide) (by decide) hqq)
      have HCM := hide (fun (V U : Value) (W : World) (h1 : WideAt W 0 V 7 (p * p)) (h2 : WideAt W 0 U 11 (2 * (q * q))) => wideCmp_pos V U 7 11 (p * p) (2 * (q * q)) W h1 h2 hpp (by omega) (by decide) (by decide))
      have HRR := hide (show R = if (0 < cmpI (p * p) (2 * (q * q))) = (0 < p) then 1 else -1 by rw [HR.out, if_neg hA, if_neg hB])
      have HPP := hide hpp
      have HQQ := hide (show 0 < 2 * (q * q) by omega)
      have HNA := hide hA
      have HNB := hide hB
      clear HR hp0 hq0 hpp hqq hpb hqb hA hB
      generalize p * p = pp at *
      generalize q * q = qq at *
      generalize cmpI pp (2 * qq) = z at *
      have hsides : (p < 0 ∧ 0 < q) ∨ (0 < p ∧ q < 0) := by have h1 := HNA.out; have h2 := HNB.out; omega
      have HE := hide HNA.out
      clear HNA HNB HE
      rcases hsides with ⟨hp, hq⟩ | ⟨hp, hq⟩
      · have t1 : ¬ (p ≥ 0) := by omega
        have t2 : p ≤ 0 := by omega
        have t3 : ¬ (q ≤ 0) := by omega
        have t5 : ¬ (p > 0) := by omega
        go_enter Try.func66, Try.ntmps66
        go_wp2_with fail
        go_quiet (fail)
        clear q1 q2
        obtain ⟨W, hW⟩ : ∃ y : World, y = ((w.alloc (.cells #[.int .i64 a, .int .i64 b] 39)).alloc (.cells #[.int .i64 c, .int .i64 d] 39)).drewN nq := ⟨_, rfl⟩
        rw [← hW]
        have hX : Below w.heap.size w ((w.alloc (.cells #[.int .i64 a, .int .i64 b] 39)).alloc (.cells #[.int .i64 c, .int .i64 d] 39)) := by (repeat (first | (with_reducible exact Below.refl _ _) | (with_reducible refine Go.below_drewN ?_ _) | (with_reducible refine Below.drew ?_) | (with_reducible refine Below.alloc ?_ (by first | exact Nat.le_refl _ | (simp; done) | (simp; omega) | omega) _) | (with_reducible refine Below.setCell ?_ (by first | exact Nat.le_refl _ | (simp; done) | (simp; omega) | omega) _)))
        have HB := hide (show Below w.heap.size w W by rw [hW]; exact ⟨hX.os, hX.tape, hX.output, hX.size, hX.block⟩)
        clear hW hX
        go_wp2_with fail
        refine (HWP.out _).mono ?_
        rintro e w1 ⟨V1, rfl, hV1, hb1⟩
        have HB1 := hide (HB.out.trans (hb1.mono HB.out.size))
        have HV1 := hide hV1
        clear hb1 hV1 HB
        go_wp2_with fail
        refine (HWP.out _).mono ?_
        rintro e w2 ⟨V2, rfl, hV2, hb2⟩
        have HB2 := hide (HB1.out.trans (hb2.mono HB1.out.size))
        have HV1b := hide (HV1.out.below hb2)
        have HV2 := hide hV2
        clear hb2 hV2 HB1 HV1 HWP
        go_wp2_with fail
        refine (HSP.out V1 V2 _ HV1b.out HV2.out).mono ?_
        rintro e w3 ⟨V3, rfl, hV3, hb3⟩
        have HB3 := hide (HB2.out.trans (hb3.mono HB2.out.size))
        replace hV3 := hV3.weak (Nat.zero_le _) (Nat.le_refl _)
        obtain ⟨A3, n3, c3, D3, rfl, -⟩ := hV3.sign_pos HPP.out
        have HV3 := hide hV3
        clear hb3 hV3 HB2 HV1b HV2 HSP
        go_wp2_with fail
        obtain ⟨W4, hW4⟩ : ∃ y : World, y = w3.alloc (.cells #[.int .i64 1, .slice A3 n3 c3] 150) := ⟨_, rfl⟩
        rw [← hW4]
        have b7 : Box W4 w3.heap.size 150 #[.int .i64 1, .slice A3 n3 c3] := by rw [hW4]; exact Box.made rfl
        have hb4 : Below w3.heap.size w3 W4 := by rw [hW4]; exact (Below.refl _ _).alloc (Nat.le_refl _) _
        have HB4 := hide (HB3.out.trans (hb4.mono HB3.out.size))
        have HV4 := hide (HV3.out.below hb4)
        have HB7 := hide b7
        clear hW4 hb4 b7 HB3 HV3
        refine (HW2.out _).mono ?_
        rintro e w5 ⟨V5, rfl, hV5, hb5⟩
        have HB5 := hide (HB4.out.trans (hb5.mono HB4.out.size))
        have HX5 := hide (HB7.out.below hb5)
        have HP5 := hide (HV4.out.below hb5)
        have HV5 := hide hV5
        clear hb5 hV5 HB4 HB7 HV4 HW2
        go_wp2_with fail
        refine (HWQ.out _).mono ?_
        rintro e w6 ⟨V6, rfl, hV6, hb6⟩
        have HB6 := hide (HB5.out.trans (hb6.mono HB5.out.size))
        have HX6 := hide (HX5.out.below hb6)
        have HP6 := hide (HP5.out.below hb6)
        have HT6 := hide (HV5.out.below hb6)
        have HV6 := hide hV6
        clear hb6 hV6 HB5 HX5 HP5 HV5
        go_wp2_with fail
        refine (HWQ.out _).mono ?_
        rintro e w7 ⟨V7, rfl, hV7, hb7⟩
        have HB7 := hide (HB6.out.trans (hb7.mono HB6.out.size))
        have HX7 := hide (HX6.out.below hb7)
        have HP7 := hide (HP6.out.below hb7)
        have HT7 := hide (HT6.out.below hb7)
        have HQ7 := hide (HV6.out.below hb7)
        have HV7 := hide hV7
        clear hb7 hV7 HB6 HX6 HP6 HT6 HV6 HWQ
        go_wp2_with fail
        refine (HSQ.out V6 V7 _ HQ7.out HV7.out).mono ?_
        rintro e w8 ⟨V8, rfl, hV8, hb8⟩
        have HB8 := hide (HB7.out.trans (hb8.mono HB7.out.size))
        have HX8 := hide (HX7.out.below hb8)
        have HP8 := hide (HP7.out.below hb8)
        have HT8 := hide (HT7.out.below hb8)
        have HV8 := hide (hV8.weak (Nat.zero_le _) (Nat.le_refl _))
        clear hb8 hV8 HB7 HX7 HP7 HT7 HQ7 HV7 HSQ
        go_wp2_with fail
        refine (HS2.out V5 V8 _ HT8.out HV8.out).mono ?_
        rintro e w9 ⟨V9, rfl, hV9, hb9⟩
        have HB9 := hide (HB8.out.trans (hb9.mono HB8.out.size))
        have HX9 := hide (HX8.out.below hb9)
        have HP9 := hide (HP8.out.below hb9)
        replace hV9 := hV9.weak (Nat.zero_le _) (Nat.le_refl _)
        obtain ⟨A9, n9, c9, D9, rfl, -⟩ := hV9.sign_pos HQQ.out
        have HV9 := hide hV9
        clear hb9 hV9 HB8 HX8 HP8 HT8 HV8 HS2
        go_upto_region 10 with fail
        obtain ⟨Wa, hWa⟩ : ∃ y : World, y = w9.alloc (.cells #[.int .i64 1, .slice A9 n9 c9] 150) := ⟨_, rfl⟩
        rw [← hWa]
        have b8 : Box Wa w9.heap.size 150 #[.int .i64 1, .slice A9 n9 c9] := by rw [hWa]; exact Box.made rfl
        have hba : Below w9.heap.size w9 Wa := by rw [hWa]; exact (Below.refl _ _).alloc (Nat.le_refl _) _
        have HBa := hide (HB9.out.trans (hba.mono HB9.out.size))
        have HPa := hide (HP9.out.below hba)
        have HQa := hide (HV9.out.below hba)
        have b7 := HX9.out.below hba
        have x0 := b7.at_ 0
        have x1 := b7.at_ 1
        have y0 := b8.at_ 0
        have y1 := b8.at_ 1
        simp only [List.getElem?_toArray] at x0 x1 y0 y1
        clear hWa hba b7 b8 HB9 HP9 HV9 HX9
        go_wp2_with fail
        refine (HCM.out _ _ _ HPa.out HQa.out).mono ?_
        rintro e wz ⟨rfl, hbz⟩
        have HBz := hide (HBa.out.trans (hbz.mono HBa.out.size))
        clear x0 x1 y0 y1 hbz HBa HPa HQa HCM
        by_cases hz : z > 0
        · have HV := hide (show R = -1 by rw [HRR.out, if_neg (by simp; omega)])
          clear HRR
          go_wp2_with fail
          go_ret
          exact ⟨by rw [HV.out]; rfl, HBz.out⟩
        · have HV := hide (show R = 1 by rw [HRR.out, if_pos (by simp; omega)])
          have te : (decide (0 < z) == decide (0 < p)) = true := by rw [decide_eq_false (by omega), decide_eq_false (by omega)]; rfl
          clear HRR
          go_wp2_with fail
          go_ret
          exact ⟨by rw [HV.out]; rfl, HBz.out⟩
      · have t1 : p ≥ 0 := by omega
        have t2 : ¬ (q ≥ 0) := by omega
        have t3 : ¬ (p ≤ 0) := by omega
        have t5 : p > 0 := by omega
        go_enter Try.func66, Try.ntmps66
        go_wp2_with fail
        go_quiet (fail)
        clear q1 q2
        obtain ⟨W, hW⟩ : ∃ y : World, y = ((w.alloc (.cells #[.int .i64 a, .int .i64 b] 39)).alloc (.cells #[.int .i64 c, .int .i64 d] 39)).drewN nq := ⟨_, rfl⟩
        rw [← hW]
        have hX : Below w.heap.size w ((w.alloc (.cells #[.int .i64 a, .int .i64 b] 39)).alloc (.cells #[.int .i64 c, .int .i64 d] 39)) := by (repeat (first | (with_reducible exact Below.refl _ _) | (with_reducible refine Go.below_drewN ?_ _) | (with_reducible refine Below.drew ?_) | (with_reducible refine Below.alloc ?_ (by first | exact Nat.le_refl _ | (simp; done) | (simp; omega) | omega) _) | (with_reducible refine Below.setCell ?_ (by first | exact Nat.le_refl _ | (simp; done) | (simp; omega) | omega) _)))
        have HB := hide (show Below w.heap.size w W by rw [hW]; exact ⟨hX.os, hX.tape, hX.output, hX.size, hX.block⟩)
        clear hW hX
        go_wp2_with fail
        refine (HWP.out _).mono ?_
        rintro e w1 ⟨V1, rfl, hV1, hb1⟩
        have HB1 := hide (HB.out.trans (hb1.mono HB.out.size))
        have HV1 := hide hV1
        clear hb1 hV1 HB
        go_wp2_with fail
        refine (HWP.out _).mono ?_
        rintro e w2 ⟨V2, rfl, hV2, hb2⟩
        have HB2 := hide (HB1.out.trans (hb2.mono HB1.out.size))
        have HV1b := hide (HV1.out.below hb2)
        have HV2 := hide hV2
        clear hb2 hV2 HB1 HV1 HWP
        go_wp2_with fail
        refine (HSP.out V1 V2 _ HV1b.out HV2.out).mono ?_
        rintro e w3 ⟨V3, rfl, hV3, hb3⟩
        have HB3 := hide (HB2.out.trans (hb3.mono HB2.out.size))
        replace hV3 := hV3.weak (Nat.zero_le _) (Nat.le_refl _)
        obtain ⟨A3, n3, c3, D3, rfl, -⟩ := hV3.sign_pos HPP.out
        have HV3 := hide hV3
        clear hb3 hV3 HB2 HV1b HV2 HSP
        go_wp2_with fail
        obtain ⟨W4, hW4⟩ : ∃ y : World, y = w3.alloc (.cells #[.int .i64 1, .slice A3 n3 c3] 150) := ⟨_, rfl⟩
        rw [← hW4]
        have b7 : Box W4 w3.heap.size 150 #[.int .i64 1, .slice A3 n3 c3] := by rw [hW4]; exact Box.made rfl
        have hb4 : Below w3.heap.size w3 W4 := by rw [hW4]; exact (Below.refl _ _).alloc (Nat.le_refl _) _
        have HB4 := hide (HB3.out.trans (hb4.mono HB3.out.size))
        have HV4 := hide (HV3.out.below hb4)
        have HB7 := hide b7
        clear hW4 hb4 b7 HB3 HV3
        refine (HW2.out _).mono ?_
        rintro e w5 ⟨V5, rfl, hV5, hb5⟩
        have HB5 := hide (HB4.out.trans (hb5.mono HB4.out.size))
        have HX5 := hide (HB7.out.below hb5)
        have HP5 := hide (HV4.out.below hb5)
        have HV5 := hide hV5
        clear hb5 hV5 HB4 HB7 HV4 HW2
        go_wp2_with fail
        refine (HWQ.out _).mono ?_
        rintro e w6 ⟨V6, rfl, hV6, hb6⟩
        have HB6 := hide (HB5.out.trans (hb6.mono HB5.out.size))
        have HX6 := hide (HX5.out.below hb6)
        have HP6 := hide (HP5.out.below hb6)
        have HT6 := hide (HV5.out.below hb6)
        have HV6 := hide hV6
        clear hb6 hV6 HB5 HX5 HP5 HV5
        go_wp2_with fail
        refine (HWQ.out _).mono ?_
        rintro e w7 ⟨V7, rfl, hV7, hb7⟩
        have HB7 := hide (HB6.out.trans (hb7.mono HB6.out.size))
        have HX7 := hide (HX6.out.below hb7)
        have HP7 := hide (HP6.out.below hb7)
        have HT7 := hide (HT6.out.below hb7)
        have HQ7 := hide (HV6.out.below hb7)
        have HV7 := hide hV7
        clear hb7 hV7 HB6 HX6 HP6 HT6 HV6 HWQ
        go_wp2_with fail
        refine (HSQ.out V6 V7 _ HQ7.out HV7.out).mono ?_
        rintro e w8 ⟨V8, rfl, hV8, hb8⟩
        have HB8 := hide (HB7.out.trans (hb8.mono HB7.out.size))
        have HX8 := hide (HX7.out.below hb8)
        have HP8 := hide (HP7.out.below hb8)
        have HT8 := hide (HT7.out.below hb8)
        have HV8 := hide (hV8.weak (Nat.zero_le _) (Nat.le_refl _))
        clear hb8 hV8 HB7 HX7 HP7 HT7 HQ7 HV7 HSQ
        go_wp2_with fail
        refine (HS2.out V5 V8 _ HT8.out HV8.out).mono ?_
        rintro e w9 ⟨V9, rfl, hV9, hb9⟩
        have HB9 := hide (HB8.out.trans (hb9.mono HB8.out.size))
        have HX9 := hide (HX8.out.below hb9)
        have HP9 := hide (HP8.out.below hb9)
        replace hV9 := hV9.weak (Nat.zero_le _) (Nat.le_refl _)
        obtain ⟨A9, n9, c9, D9, rfl, -⟩ := hV9.sign_pos HQQ.out
        have HV9 := hide hV9
        clear hb9 hV9 HB8 HX8 HP8 HT8 HV8 HS2
        go_upto_region 10 with fail
        obtain ⟨Wa, hWa⟩ : ∃ y : World, y = w9.alloc (.cells #[.int .i64 1, .slice A9 n9 c9] 150) := ⟨_, rfl⟩
        rw [← hWa]
        have b8 : Box Wa w9.heap.size 150 #[.int .i64 1, .slice A9 n9 c9] := by rw [hWa]; exact Box.made rfl
        have hba : Below w9.heap.size w9 Wa := by rw [hWa]; exact (Below.refl _ _).alloc (Nat.le_refl _) _
        have HBa := hide (HB9.out.trans (hba.mono HB9.out.size))
        have HPa := hide (HP9.out.below hba)
        have HQa := hide (HV9.out.below hba)
        have b7 := HX9.out.below hba
        have x0 := b7.at_ 0
        have x1 := b7.at_ 1
        have y0 := b8.at_ 0
        have y1 := b8.at_ 1
        simp only [List.getElem?_toArray] at x0 x1 y0 y1
        clear hWa hba b7 b8 HB9 HP9 HV9 HX9
        go_wp2_with fail
        refine (HCM.out _ _ _ HPa.out HQa.out).mono ?_
        rintro e wz ⟨rfl, hbz⟩
        have HBz := hide (HBa.out.trans (hbz.mono HBa.out.size))
        clear x0 x1 y0 y1 hbz HBa HPa HQa HCM
        by_cases hz : z > 0
        · have HV := hide (show R = 1 by rw [HRR.out, if_pos (by simp; omega)])
          clear HRR
          go_wp2_with fail
          go_ret
          exact ⟨by rw [HV.out]; rfl, HBz.out⟩
        · have HV := hide (show R = -1 by rw [HRR.out, if_neg (by simp; omega)])
          clear HRR
          go_wp2_with fail
          go_ret
          exact ⟨by rw [HV.out]; rfl, HBz.out⟩
end Go.Proofs.Ytdkbjgnkehoplaa
