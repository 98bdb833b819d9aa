/- Lemmas: Bn. -/
import Derived.Test.YtmncomcdddnnhaaBk09
import Derived.Test.YtmncomcdddnnhaaBk12
set_option linter.unusedVariables false
set_option linter.unusedSimpArgs false
/- The walk of WaveSquares. -/
namespace Go.Proofs.Ytmncomcdddnnhaa
open Go.RowKit Go.Great
theorem exec_load2s {a : Act} {x : Operand} {d : Option Tmp} {ty : TypeId} {pos : String} {aft : Array Edge} {gd : Option (Nat × Bool)} {b : Nat} {p q : Value} {W : World} (hx : a.eval x = .pointer (some ⟨b, 0, none⟩)) (hr : Box W b 43 #[p, q]) :
    (execOp a.eval ⟨d, .load 43 x, ty, pos, aft, gd⟩).run Try.prog W = .ok (.value (.agg #[p, q])) W := by
  have h0 := hr.at_ 0
  have h1 := hr.at_ 1
  simp only [List.getElem?_toArray] at h0 h1
  simp only [execOp, Instr.loadAt, hx, Instr.sureAddr, Sem.run_bind, Sem.run_pure, Result.andThen_ok]
  have := run_loadVar_mid (P := Try.prog) W b 0 43 [p, q] _ (fun j v hv => by
    match j with
    | 0 => simp at hv; subst hv; simpa using h0
    | 1 => simp at hv; subst hv; simpa using h1
    | n + 2 => simp at hv) Try.underlying43 rfl (by kernel_rfl)
  rw [this]
  rfl
theorem exec_load4s {a : Act} {x : Operand} {d : Option Tmp} {ty : TypeId} {pos : String} {aft : Array Edge} {gd : Option (Nat × Bool)} {b : Nat} {p q r s : Value} {W : World} (hx : a.eval x = .pointer (some ⟨b, 0, none⟩)) (hr : Box W b 41 #[p, q, r, s]) :
    (execOp a.eval ⟨d, .load 41 x, ty, pos, aft, gd⟩).run Try.prog W = .ok (.value (.agg #[p, q, r, s])) W := by
  have h0 := hr.at_ 0
  have h1 := hr.at_ 1
  have h2 := hr.at_ 2
  have h3 := hr.at_ 3
  simp only [List.getElem?_toArray] at h0 h1 h2 h3
  simp only [execOp, Instr.loadAt, hx, Instr.sureAddr, Sem.run_bind, Sem.run_pure, Result.andThen_ok]
  have := run_loadVar_mid (P := Try.prog) W b 0 41 [p, q, r, s] _ (fun j v hv => by
    match j with
    | 0 => simp at hv; subst hv; simpa using h0
    | 1 => simp at hv; subst hv; simpa using h1
    | 2 => simp at hv; subst hv; simpa using h2
    | 3 => simp at hv; subst hv; simpa using h3
    | n + 4 => simp at hv) Try.underlying41 rfl (by kernel_rfl)
  rw [this]
  rfl
theorem refC_le (p q : Int) : -1 ≤ refC p q ∧ refC p q ≤ 1 := by
  unfold refC
  split
  · split <;> decide
  · split
    · decide
    · split <;> decide
theorem cmpI_neg (a : Int) : cmpI (-a) 0 = -cmpI a 0 := by
  rcases sign_cases a with ⟨h, e⟩ | ⟨h, e⟩ | ⟨h, e⟩
  · rw [e, cmpI_gt (show 0 < -a by omega)]; rfl
  · subst h; rfl
  · rw [e, cmpI_lt (show -a < 0 by omega)]
theorem compI_neg (p q : Int) : compI (-p) (-q) = -compI p q := by
  unfold compI
  have e1 : -q * (-q * 2) = q * (q * 2) := by rw [Int.neg_mul, Int.neg_mul, Int.mul_neg, Int.neg_neg]
  rw [Int.neg_mul_neg, e1, cmpI_neg, cmpI_neg]
  generalize cmpI (p * p) (q * (q * 2)) = z
  obtain ⟨h1, h2⟩ := cmpI_le p 0
  obtain ⟨h3, h4⟩ := cmpI_le q 0
  generalize cmpI p 0 = s at *
  generalize cmpI q 0 = t at *
  by_cases h : s = t
  · rw [if_pos h, if_pos (by omega), Int.neg_mul]
  · rw [if_neg h, if_neg (by omega)]
    unfold cmpI
    by_cases h5 : s < t
    · rw [if_pos h5, if_neg (by omega), if_pos (by omega)]; rfl
    · rw [if_neg h5, if_pos (show t < s by omega), if_pos (show -s < -t by omega)]
set_option maxHeartbeats 16000000 in
set_option maxRecDepth 100000 in
theorem waveSquares_walk (x : Num) (a b c d : Int) (w : World) :
    Calls Try.prog 4 #[.agg #[.int .i64 x.a, .int .i64 x.b, .int .i64 x.c, .int .i64 x.d], .agg #[.int .i64 a, .int .i64 b], .agg #[.int .i64 c, .int .i64 d]] w fun e w' => e = .returned (.bool true) ∧ Below w.heap.size w w' := by
  have HAW := hide (fun W => awake_any W)
  have HS := hide (fun W => SquareOf_any x W)
  have HE := hide (fun W => squareErrR_any x W)
  have HC := hide (fun W => Compared_any a b c d W)
  have HEA := hide (fun W => squaresErrR_any a b W)
  have HEC := hide (fun W => squaresErrR_any c d W)
  have HII := hide (show (⟨a, b, c, d⟩ : Num).isIn 10000000000000 = ((withinB a (-10000000000000) 10000000000000 && withinB b (-10000000000000) 10000000000000) && (withinB c (-10000000000000) 10000000000000 && withinB d (-10000000000000) 10000000000000)) from by
    unfold Num.isIn
    cases withinB a (-10000000000000) 10000000000000 <;> cases withinB b (-10000000000000) 10000000000000 <;> cases withinB c (-10000000000000) 10000000000000 <;> cases withinB d (-10000000000000) 10000000000000 <;> rfl)
  go_enter Try.func4, Try.ntmps4
  go_upto_region 1 with fail
  obtain ⟨W0, hW0⟩ : ∃ q : World, q = ((w.alloc (.cells #[.int .i64 x.a, .int .i64 x.b, .int .i64 x.c, .int .i64 x.d] 41)).alloc (.cells #[.int .i64 a, .int .i64 b] 43)).alloc (.cells #[.int .i64 c, .int .i64 d] 43) := ⟨_, rfl⟩
  rw [← hW0]
  obtain ⟨g2, hg2⟩ : ∃ g, g = w.heap.size + 1 + 1 := ⟨_, rfl⟩
  obtain ⟨g1, hg1⟩ : ∃ g, g = w.heap.size + 1 := ⟨_, rfl⟩
  have bX : Box W0 w.heap.size 41 #[.int .i64 x.a, .int .i64 x.b, .int .i64 x.c, .int .i64 x.d] := by rw [hW0]; exact ((Box.made rfl).alloc _).alloc _
  have bA : Box W0 g1 43 #[.int .i64 a, .int .i64 b] := by rw [hW0]; exact (Box.made (by simp [hg1])).alloc _
  have bC : Box W0 g2 43 #[.int .i64 c, .int .i64 d] := by rw [hW0]; exact Box.made (by simp [hg2])
  have hB0 : Below w.heap.size w W0 := by rw [hW0]; (repeat (first | (with_reducible exact Below.refl _ _) | (with_reducible refine Go.below_drewN ?_ _) | (with_reducible refine Below.drew ?_) | (with_reducible refine Below.alloc ?_ (by first | exact Nat.le_refl _ | (simp; done) | (simp; omega) | omega) _) | (with_reducible refine Below.setCell ?_ (by first | exact Nat.le_refl _ | (simp; done) | (simp; omega) | omega) _)))
  rw [← hg2, ← hg1]
  clear hW0 hg1 hg2
  cases hsx : x.isIn 1000000
  · cases hea : (withinB a (-10000000000000) 10000000000000 && withinB b (-10000000000000) 10000000000000)
    · skip
      have EV : x.err 1000000 = 2 := by unfold Num.err unI; rw [hsx]; rfl
      have RP : sqRP x = 0 := by unfold sqRP; rw [if_neg (by rw [EV]; decide)]
      have RQ : sqRQ x = 0 := by unfold sqRQ; rw [if_neg (by rw [EV]; decide)]
      rw [EV, RP, RQ] at HS
      rw [EV] at HE
      have CE : cmE a b c d = 2 := by unfold cmE Num.err unI; rw [HII.out, hea]; rfl
      have CR : cmR a b c d = 0 := by unfold cmR; rw [if_neg (by rw [CE]; decide)]
      rw [CE, CR] at HC
      clear CE CR
      rw [hea] at HEA
      replace HEA : Hid (∀ W, Calls Try.prog 21 #[.agg #[.int .i64 a, .int .i64 b]] W fun e w' => e = .returned (.int .i64 2) ∧ Below W.heap.size W w') := HEA
      clear EV RP RQ hsx hea HII
      go_wp2_with fail
      refine (HAW.out _).mono ?_
      rintro e v1 ⟨rfl, hb1⟩
      replace bX := bX.below hb1
      replace bA := bA.below hb1
      replace bC := bC.below hb1
      replace hB0 := hB0.trans (hb1.mono hB0.size)
      clear hb1
      obtain ⟨qX0, qX1, qX2, qX3, -, -, -, -, qX4⟩ := bX.cells4
      go_wp2_with fail
      clear qX0 qX1 qX2 qX3 qX4
      refine (HS.out _).mono ?_
      rintro e v2 ⟨rfl, hb2⟩
      replace bX := bX.below hb2
      replace bA := bA.below hb2
      replace bC := bC.below hb2
      replace hB0 := hB0.trans (hb2.mono hB0.size)
      clear hb2
      go_upto_region 4 with fail
      obtain ⟨u3, hu3⟩ : ∃ q : World, q = v2.alloc (.cells #[.int .i64 0, .int .i64 0] 43) := ⟨_, rfl⟩
      rw [← hu3]
      obtain ⟨g7, hg7⟩ : ∃ g, g = v2.heap.size := ⟨_, rfl⟩
      have b7 : Box u3 g7 43 #[.int .i64 0, .int .i64 0] := by rw [hu3]; exact Box.made hg7
      have hbu : Below v2.heap.size v2 u3 := by rw [hu3]; (repeat (first | (with_reducible exact Below.refl _ _) | (with_reducible refine Go.below_drewN ?_ _) | (with_reducible refine Below.drew ?_) | (with_reducible refine Below.alloc ?_ (by first | exact Nat.le_refl _ | (simp; done) | (simp; omega) | omega) _) | (with_reducible refine Below.setCell ?_ (by first | exact Nat.le_refl _ | (simp; done) | (simp; omega) | omega) _)))
      rw [← hg7]
      replace bX := bX.below hbu
      replace bA := bA.below hbu
      replace bC := bC.below hbu
      replace hB0 := hB0.trans (hbu.mono hB0.size)
      clear hbu
      clear hu3 hg7
      have qA0 := bA.at_ 0
      have qA1 := bA.at_ 1
      simp only [List.getElem?_toArray] at qA0 qA1
      have qC0 := bC.at_ 0
      have qC1 := bC.at_ 1
      simp only [List.getElem?_toArray] at qC0 qC1
      go_wp2_with fail
      clear qA0 qA1 qC0 qC1
      refine (HC.out _).mono ?_
      rintro e v3 ⟨rfl, hb3⟩
      replace bX := bX.below hb3
      replace bA := bA.below hb3
      replace bC := bC.below hb3
      replace b7 := b7.below hb3
      replace hB0 := hB0.trans (hb3.mono hB0.size)
      clear hb3
      obtain ⟨qX0, qX1, qX2, qX3, -, -, -, -, qX4⟩ := bX.cells4
      go_wp2_with fail
      clear qX0 qX1 qX2 qX3 qX4
      refine (HE.out _).mono ?_
      rintro e v4 ⟨rfl, hb4⟩
      replace bX := bX.below hb4
      replace bA := bA.below hb4
      replace bC := bC.below hb4
      replace b7 := b7.below hb4
      replace hB0 := hB0.trans (hb4.mono hB0.size)
      clear hb4
      have q70 := b7.at_ 0
      have q71 := b7.at_ 1
      simp only [List.getElem?_toArray] at q70 q71
      have qA0 := bA.at_ 0
      have qA1 := bA.at_ 1
      simp only [List.getElem?_toArray] at qA0 qA1
      go_wp2_with fail
      clear q70 q71 qA0 qA1
      refine (HEA.out _).mono ?_
      rintro e v5 ⟨rfl, hb5⟩
      replace bX := bX.below hb5
      replace bA := bA.below hb5
      replace bC := bC.below hb5
      replace b7 := b7.below hb5
      replace hB0 := hB0.trans (hb5.mono hB0.size)
      clear hb5
      go_wp2_with fail
      go_ret
      exact ⟨rfl, hB0⟩
    · cases hec : (withinB c (-10000000000000) 10000000000000 && withinB d (-10000000000000) 10000000000000)
      · skip
        have EV : x.err 1000000 = 2 := by unfold Num.err unI; rw [hsx]; rfl
        have RP : sqRP x = 0 := by unfold sqRP; rw [if_neg (by rw [EV]; decide)]
        have RQ : sqRQ x = 0 := by unfold sqRQ; rw [if_neg (by rw [EV]; decide)]
        rw [EV, RP, RQ] at HS
        rw [EV] at HE
        have CE : cmE a b c d = 2 := by unfold cmE Num.err unI; rw [HII.out, hea, hec]; rfl
        have CR : cmR a b c d = 0 := by unfold cmR; rw [if_neg (by rw [CE]; decide)]
        rw [CE, CR] at HC
        clear CE CR
        rw [hea] at HEA
        rw [hec] at HEC
        replace HEA : Hid (∀ W, Calls Try.prog 21 #[.agg #[.int .i64 a, .int .i64 b]] W fun e w' => e = .returned (.int .i64 0) ∧ Below W.heap.size W w') := HEA
        replace HEC : Hid (∀ W, Calls Try.prog 21 #[.agg #[.int .i64 c, .int .i64 d]] W fun e w' => e = .returned (.int .i64 2) ∧ Below W.heap.size W w') := HEC
        clear EV RP RQ hsx hea HII hec
        go_wp2_with fail
        refine (HAW.out _).mono ?_
        rintro e v1 ⟨rfl, hb1⟩
        replace bX := bX.below hb1
        replace bA := bA.below hb1
        replace bC := bC.below hb1
        replace hB0 := hB0.trans (hb1.mono hB0.size)
        clear hb1
        obtain ⟨qX0, qX1, qX2, qX3, -, -, -, -, qX4⟩ := bX.cells4
        go_wp2_with fail
        clear qX0 qX1 qX2 qX3 qX4
        refine (HS.out _).mono ?_
        rintro e v2 ⟨rfl, hb2⟩
        replace bX := bX.below hb2
        replace bA := bA.below hb2
        replace bC := bC.below hb2
        replace hB0 := hB0.trans (hb2.mono hB0.size)
        clear hb2
        go_upto_region 4 with fail
        obtain ⟨u3, hu3⟩ : ∃ q : World, q = v2.alloc (.cells #[.int .i64 0, .int .i64 0] 43) := ⟨_, rfl⟩
        rw [← hu3]
        obtain ⟨g7, hg7⟩ : ∃ g, g = v2.heap.size := ⟨_, rfl⟩
        have b7 : Box u3 g7 43 #[.int .i64 0, .int .i64 0] := by rw [hu3]; exact Box.made hg7
        have hbu : Below v2.heap.size v2 u3 := by rw [hu3]; (repeat (first | (with_reducible exact Below.refl _ _) | (with_reducible refine Go.below_drewN ?_ _) | (with_reducible refine Below.drew ?_) | (with_reducible refine Below.alloc ?_ (by first | exact Nat.le_refl _ | (simp; done) | (simp; omega) | omega) _) | (with_reducible refine Below.setCell ?_ (by first | exact Nat.le_refl _ | (simp; done) | (simp; omega) | omega) _)))
        rw [← hg7]
        replace bX := bX.below hbu
        replace bA := bA.below hbu
        replace bC := bC.below hbu
        replace hB0 := hB0.trans (hbu.mono hB0.size)
        clear hbu
        clear hu3 hg7
        have qA0 := bA.at_ 0
        have qA1 := bA.at_ 1
        simp only [List.getElem?_toArray] at qA0 qA1
        have qC0 := bC.at_ 0
        have qC1 := bC.at_ 1
        simp only [List.getElem?_toArray] at qC0 qC1
        go_wp2_with fail
        clear qA0 qA1 qC0 qC1
        refine (HC.out _).mono ?_
        rintro e v3 ⟨rfl, hb3⟩
        replace bX := bX.below hb3
        replace bA := bA.below hb3
        replace bC := bC.below hb3
        replace b7 := b7.below hb3
        replace hB0 := hB0.trans (hb3.mono hB0.size)
        clear hb3
        obtain ⟨qX0, qX1, qX2, qX3, -, -, -, -, qX4⟩ := bX.cells4
        go_wp2_with fail
        clear qX0 qX1 qX2 qX3 qX4
        refine (HE.out _).mono ?_
        rintro e v4 ⟨rfl, hb4⟩
        replace bX := bX.below hb4
        replace bA := bA.below hb4
        replace bC := bC.below hb4
        replace b7 := b7.below hb4
        replace hB0 := hB0.trans (hb4.mono hB0.size)
        clear hb4
        have q70 := b7.at_ 0
        have q71 := b7.at_ 1
        simp only [List.getElem?_toArray] at q70 q71
        have qA0 := bA.at_ 0
        have qA1 := bA.at_ 1
        simp only [List.getElem?_toArray] at qA0 qA1
        go_wp2_with fail
        clear q70 q71 qA0 qA1
        refine (HEA.out _).mono ?_
        rintro e v5 ⟨rfl, hb5⟩
        replace bX := bX.below hb5
        replace bA := bA.below hb5
        replace bC := bC.below hb5
        replace b7 := b7.below hb5
        replace hB0 := hB0.trans (hb5.mono hB0.size)
        clear hb5
        have qC0 := bC.at_ 0
        have qC1 := bC.at_ 1
        simp only [List.getElem?_toArray] at qC0 qC1
        go_wp2_with fail
        clear qC0 qC1
        refine (HEC.out _).mono ?_
        rintro e v6 ⟨rfl, hb6⟩
        replace bX := bX.below hb6
        replace bA := bA.below hb6
        replace bC := bC.below hb6
        replace b7 := b7.below hb6
        replace hB0 := hB0.trans (hb6.mono hB0.size)
        clear hb6
        go_wp2_with fail
        go_ret
        exact ⟨rfl, hB0⟩
      · skip
        have EV : x.err 1000000 = 2 := by unfold Num.err unI; rw [hsx]; rfl
        have RP : sqRP x = 0 := by unfold sqRP; rw [if_neg (by rw [EV]; decide)]
        have RQ : sqRQ x = 0 := by unfold sqRQ; rw [if_neg (by rw [EV]; decide)]
        rw [EV, RP, RQ] at HS
        rw [EV] at HE
        have hw4 := Num.isIn_iff.1 (show (⟨a, b, c, d⟩ : Num).isIn 10000000000000 = true by rw [HII.out, hea, hec]; rfl)
        obtain ⟨ha, hb, hc, hd⟩ := hw4
        simp only at ha hb hc hd
        have CE : cmE a b c d = 0 := by unfold cmE Num.err unI; rw [HII.out, hea, hec]; rfl
        have CE2 : cmE c d a b = 0 := by
          have h : (⟨c, d, a, b⟩ : Num).isIn 10000000000000 = true := Num.isIn_iff.2 ⟨hc, hd, ha, hb⟩
          unfold cmE Num.err unI
          rw [h]
          rfl
        have HRF := hide (fun W => comparedR_any a b c d W ha hb hc hd)
        have hn := refC_le (a - c) (b - d)
        have e1 : cmR a b c d = refC (a - c) (b - d) := by unfold cmR; rw [if_pos CE, refC_comp, show -(b - d) = d - b by omega]
        have e2 : cmR c d a b = -refC (a - c) (b - d) := by unfold cmR; rw [if_pos CE2, refC_comp, ← compI_neg, show -(a - c) = c - a by omega, show - -(b - d) = b - d by omega]
        have HC2 := hide (fun W => Compared_any c d a b W)
        rw [CE2, e2] at HC2
        rw [CE, e1] at HC
        generalize refC (a - c) (b - d) = n at *
        have qn : IntKind.i64.wrap (-n) = -n := IntWalk.i64_in _ (by omega)
        clear CE CE2 e1 e2 ha hb hc hd
        rw [hea] at HEA
        rw [hec] at HEC
        replace HEA : Hid (∀ W, Calls Try.prog 21 #[.agg #[.int .i64 a, .int .i64 b]] W fun e w' => e = .returned (.int .i64 0) ∧ Below W.heap.size W w') := HEA
        replace HEC : Hid (∀ W, Calls Try.prog 21 #[.agg #[.int .i64 c, .int .i64 d]] W fun e w' => e = .returned (.int .i64 0) ∧ Below W.heap.size W w') := HEC
        clear EV RP RQ hsx hea HII hec
        go_wp2_with fail
        refine (HAW.out _).mono ?_
        rintro e v1 ⟨rfl, hb1⟩
        replace bX := bX.below hb1
        replace bA := bA.below hb1
        replace bC := bC.below hb1
        replace hB0 := hB0.trans (hb1.mono hB0.size)
        clear hb1
        obtain ⟨qX0, qX1, qX2, qX3, -, -, -, -, qX4⟩ := bX.cells4
        go_wp2_with fail
        clear qX0 qX1 qX2 qX3 qX4
        refine (HS.out _).mono ?_
        rintro e v2 ⟨rfl, hb2⟩
        replace bX := bX.below hb2
        replace bA := bA.below hb2
        replace bC := bC.below hb2
        replace hB0 := hB0.trans (hb2.mono hB0.size)
        clear hb2
        go_upto_region 4 with fail
        obtain ⟨u3, hu3⟩ : ∃ q : World, q = v2.alloc (.cells #[.int .i64 0, .int .i64 0] 43) := ⟨_, rfl⟩
        rw [← hu3]
        obtain ⟨g7, hg7⟩ : ∃ g, g = v2.heap.size := ⟨_, rfl⟩
        have b7 : Box u3 g7 43 #[.int .i64 0, .int .i64 0] := by rw [hu3]; exact Box.made hg7
        have hbu : Below v2.heap.size v2 u3 := by rw [hu3]; (repeat (first | (with_reducible exact Below.refl _ _) | (with_reducible refine Go.below_drewN ?_ _) | (with_reducible refine Below.drew ?_) | (with_reducible refine Below.alloc ?_ (by first | exact Nat.le_refl _ | (simp; done) | (simp; omega) | omega) _) | (with_reducible refine Below.setCell ?_ (by first | exact Nat.le_refl _ | (simp; done) | (simp; omega) | omega) _)))
        rw [← hg7]
        replace bX := bX.below hbu
        replace bA := bA.below hbu
        replace bC := bC.below hbu
        replace hB0 := hB0.trans (hbu.mono hB0.size)
        clear hbu
        clear hu3 hg7
        have qA0 := bA.at_ 0
        have qA1 := bA.at_ 1
        simp only [List.getElem?_toArray] at qA0 qA1
        have qC0 := bC.at_ 0
        have qC1 := bC.at_ 1
        simp only [List.getElem?_toArray] at qC0 qC1
        go_wp2_with fail
        clear qA0 qA1 qC0 qC1
        refine (HC.out _).mono ?_
        rintro e v3 ⟨rfl, hb3⟩
        replace bX := bX.below hb3
        replace bA := bA.below hb3
        replace bC := bC.below hb3
        replace b7 := b7.below hb3
        replace hB0 := hB0.trans (hb3.mono hB0.size)
        clear hb3
        obtain ⟨qX0, qX1, qX2, qX3, -, -, -, -, qX4⟩ := bX.cells4
        go_wp2_with fail
        clear qX0 qX1 qX2 qX3 qX4
        refine (HE.out _).mono ?_
        rintro e v4 ⟨rfl, hb4⟩
        replace bX := bX.below hb4
        replace bA := bA.below hb4
        replace bC := bC.below hb4
        replace b7 := b7.below hb4
        replace hB0 := hB0.trans (hb4.mono hB0.size)
        clear hb4
        have q70 := b7.at_ 0
        have q71 := b7.at_ 1
        simp only [List.getElem?_toArray] at q70 q71
        have qA0 := bA.at_ 0
        have qA1 := bA.at_ 1
        simp only [List.getElem?_toArray] at qA0 qA1
        go_wp2_with fail
        clear q70 q71 qA0 qA1
        refine (HEA.out _).mono ?_
        rintro e v5 ⟨rfl, hb5⟩
        replace bX := bX.below hb5
        replace bA := bA.below hb5
        replace bC := bC.below hb5
        replace b7 := b7.below hb5
        replace hB0 := hB0.trans (hb5.mono hB0.size)
        clear hb5
        have qC0 := bC.at_ 0
        have qC1 := bC.at_ 1
        simp only [List.getElem?_toArray] at qC0 qC1
        go_wp2_with fail
        clear qC0 qC1
        refine (HEC.out _).mono ?_
        rintro e v6 ⟨rfl, hb6⟩
        replace bX := bX.below hb6
        replace bA := bA.below hb6
        replace bC := bC.below hb6
        replace b7 := b7.below hb6
        replace hB0 := hB0.trans (hb6.mono hB0.size)
        clear hb6
        have qA0 := bA.at_ 0
        have qA1 := bA.at_ 1
        simp only [List.getElem?_toArray] at qA0 qA1
        have qC0 := bC.at_ 0
        have qC1 := bC.at_ 1
        simp only [List.getElem?_toArray] at qC0 qC1
        go_wp2_with fail
        clear qA0 qA1 qC0 qC1
        refine (HC2.out _).mono ?_
        rintro e v7 ⟨rfl, hb7⟩
        replace bX := bX.below hb7
        replace bA := bA.below hb7
        replace bC := bC.below hb7
        replace b7 := b7.below hb7
        replace hB0 := hB0.trans (hb7.mono hB0.size)
        clear hb7
        have qA0 := bA.at_ 0
        have qA1 := bA.at_ 1
        simp only [List.getElem?_toArray] at qA0 qA1
        have qC0 := bC.at_ 0
        have qC1 := bC.at_ 1
        simp only [List.getElem?_toArray] at qC0 qC1
        go_wp2_with fail
        clear qA0 qA1 qC0 qC1
        refine (HRF.out _).mono ?_
        rintro e v8 ⟨rfl, hb8⟩
        replace bX := bX.below hb8
        replace bA := bA.below hb8
        replace bC := bC.below hb8
        replace b7 := b7.below hb8
        replace hB0 := hB0.trans (hb8.mono hB0.size)
        clear hb8
        go_wp2_with fail
        go_ret
        exact ⟨rfl, hB0⟩
  · cases hea : (withinB a (-10000000000000) 10000000000000 && withinB b (-10000000000000) 10000000000000)
    · skip
      have hxw := Num.isIn_iff.1 hsx
      have EV : x.err 1000000 = 0 := by unfold Num.err unI; rw [hsx]; rfl
      have RP : sqRP x = x.sqP := by unfold sqRP; rw [if_pos EV]
      have RQ : sqRQ x = x.sqQ := by unfold sqRQ; rw [if_pos EV]
      have HSR := hide (fun W => squareOfR_any x W hxw)
      rw [EV, RP, RQ] at HS
      rw [EV] at HE
      generalize x.sqP = Y at *
      generalize x.sqQ = Z at *
      have CE : cmE a b c d = 2 := by unfold cmE Num.err unI; rw [HII.out, hea]; rfl
      have CR : cmR a b c d = 0 := by unfold cmR; rw [if_neg (by rw [CE]; decide)]
      rw [CE, CR] at HC
      clear CE CR
      rw [hea] at HEA
      replace HEA : Hid (∀ W, Calls Try.prog 21 #[.agg #[.int .i64 a, .int .i64 b]] W fun e w' => e = .returned (.int .i64 2) ∧ Below W.heap.size W w') := HEA
      clear EV RP RQ hsx hea HII hxw
      go_wp2_with fail
      refine (HAW.out _).mono ?_
      rintro e v1 ⟨rfl, hb1⟩
      replace bX := bX.below hb1
      replace bA := bA.below hb1
      replace bC := bC.below hb1
      replace hB0 := hB0.trans (hb1.mono hB0.size)
      clear hb1
      obtain ⟨qX0, qX1, qX2, qX3, -, -, -, -, qX4⟩ := bX.cells4
      go_wp2_with fail
      clear qX0 qX1 qX2 qX3 qX4
      refine (HS.out _).mono ?_
      rintro e v2 ⟨rfl, hb2⟩
      replace bX := bX.below hb2
      replace bA := bA.below hb2
      replace bC := bC.below hb2
      replace hB0 := hB0.trans (hb2.mono hB0.size)
      clear hb2
      go_upto_region 4 with fail
      obtain ⟨u3, hu3⟩ : ∃ q : World, q = v2.alloc (.cells #[.int .i64 Y, .int .i64 Z] 43) := ⟨_, rfl⟩
      rw [← hu3]
      obtain ⟨g7, hg7⟩ : ∃ g, g = v2.heap.size := ⟨_, rfl⟩
      have b7 : Box u3 g7 43 #[.int .i64 Y, .int .i64 Z] := by rw [hu3]; exact Box.made hg7
      have hbu : Below v2.heap.size v2 u3 := by rw [hu3]; (repeat (first | (with_reducible exact Below.refl _ _) | (with_reducible refine Go.below_drewN ?_ _) | (with_reducible refine Below.drew ?_) | (with_reducible refine Below.alloc ?_ (by first | exact Nat.le_refl _ | (simp; done) | (simp; omega) | omega) _) | (with_reducible refine Below.setCell ?_ (by first | exact Nat.le_refl _ | (simp; done) | (simp; omega) | omega) _)))
      rw [← hg7]
      replace bX := bX.below hbu
      replace bA := bA.below hbu
      replace bC := bC.below hbu
      replace hB0 := hB0.trans (hbu.mono hB0.size)
      clear hbu
      clear hu3 hg7
      have qA0 := bA.at_ 0
      have qA1 := bA.at_ 1
      simp only [List.getElem?_toArray] at qA0 qA1
      have qC0 := bC.at_ 0
      have qC1 := bC.at_ 1
      simp only [List.getElem?_toArray] at qC0 qC1
      go_wp2_with fail
      clear qA0 qA1 qC0 qC1
      refine (HC.out _).mono ?_
      rintro e v3 ⟨rfl, hb3⟩
      replace bX := bX.below hb3
      replace bA := bA.below hb3
      replace bC := bC.below hb3
      replace b7 := b7.below hb3
      replace hB0 := hB0.trans (hb3.mono hB0.size)
      clear hb3
      obtain ⟨qX0, qX1, qX2, qX3, -, -, -, -, qX4⟩ := bX.cells4
      go_wp2_with fail
      clear qX0 qX1 qX2 qX3 qX4
      refine (HE.out _).mono ?_
      rintro e v4 ⟨rfl, hb4⟩
      replace bX := bX.below hb4
      replace bA := bA.below hb4
      replace bC := bC.below hb4
      replace b7 := b7.below hb4
      replace hB0 := hB0.trans (hb4.mono hB0.size)
      clear hb4
      go_wp2_with fail
      refine wp_region_held_drew (S := fun w' => Below v4.heap.size v4 w') (by kernel_rfl) (Below.refl _ _).drew (fun hHeld => ?_)
      refine wpAnyH_take (i := 0) (oi := ⟨some 39, _, _, _, _, _⟩) (v := ?_) rfl (by kernel_rfl) (by kernel_rfl) (by kernel_rfl) (fun _ _ _ h => h) (Or.inl ⟨by rfl, ?_⟩) (by assumption) ?_
      rotate_left
      · (intro w' hSw; (try dsimp only at hSw); go_simp <;> (with_reducible rfl))
      try simp only [Act.put, List.setIfInBounds_toArray, List.set_cons_zero, List.set_cons_succ]
      refine wpAnyH_take (i := 1) (oi := ⟨some 40, _, _, _, _, _⟩) (v := ?_) rfl (by kernel_rfl) (by kernel_rfl) (by kernel_rfl) (fun _ _ _ h => h) (Or.inl ⟨by rfl, ?_⟩) (by assumption) ?_
      rotate_left
      · (intro w' hSw; (try dsimp only at hSw); go_simp <;> (with_reducible rfl))
      try simp only [Act.put, List.setIfInBounds_toArray, List.set_cons_zero, List.set_cons_succ]
      refine wpAnyH_take (i := 2) (oi := ⟨some 41, _, _, _, _, _⟩) (v := ?_) rfl (by kernel_rfl) (by kernel_rfl) (by kernel_rfl) (fun _ _ _ h => h) (Or.inl ⟨by rfl, ?_⟩) (by assumption) ?_
      rotate_left
      · (intro w' hSw; (try dsimp only at hSw); go_simp <;> (with_reducible rfl))
      try simp only [Act.put, List.setIfInBounds_toArray, List.set_cons_zero, List.set_cons_succ]
      refine wpAnyH_take (i := 3) (oi := ⟨some 42, _, _, _, _, _⟩) (v := .agg #[.int .i64 Y, .int .i64 Z]) rfl (by kernel_rfl) (by kernel_rfl) (by kernel_rfl) (fun _ _ _ h => h) (Or.inl ⟨by rfl, fun w' hSw => exec_load2s rfl (b7.below hSw)⟩) (by assumption) ?_
      try simp only [Act.put, List.setIfInBounds_toArray, List.set_cons_zero, List.set_cons_succ]
      refine wpAnyH_take (i := 4) (oi := ⟨some 43, _, _, _, _, _⟩) (v := .agg #[.int .i64 x.a, .int .i64 x.b, .int .i64 x.c, .int .i64 x.d]) rfl (by kernel_rfl) (by kernel_rfl) (by kernel_rfl) (fun _ _ _ h => h) (Or.inl ⟨by rfl, fun w' hSw => exec_load4s rfl (bX.below hSw)⟩) (by assumption) ?_
      try simp only [Act.put, List.setIfInBounds_toArray, List.set_cons_zero, List.set_cons_succ]
      refine wpAnyH_ready (rs := [5]) (by kernel_rfl) (by simp) ?_
      refine AllReadyH.cons (o := ⟨some 44, _, _, _, _, _⟩) rfl (fun K' hK => ?_) AllReadyH.nil
      go_simp
      go_at_call 20
      refine (HSR.out _).mono ?_
      rintro e vT ⟨rfl, hbT⟩
      have hcT : Below v4.heap.size v4 vT := by first | exact hbT | exact below_of_drew hbT | exact below_of_drew (below_of_drew hbT)
      go_wp2_with fail
      refine hK.out _ _ hcT (fun hHeld => ?_)
      clear hK K'
      try simp only [Act.put, List.setIfInBounds_toArray, List.set_cons_zero, List.set_cons_succ]
      refine wpAnyH_take (i := 6) (oi := ⟨some 45, _, _, _, _, _⟩) (v := ?_) rfl (by kernel_rfl) (by kernel_rfl) (by kernel_rfl) (fun _ _ _ h => h) (Or.inl ⟨by rfl, ?_⟩) (by assumption) ?_
      rotate_left
      · (intro w' hSw; (try dsimp only at hSw); go_simp <;> (with_reducible rfl))
      try simp only [Act.put, List.setIfInBounds_toArray, List.set_cons_zero, List.set_cons_succ]
      refine wpAnyH_take (i := 7) (oi := ⟨some 46, _, _, _, _, _⟩) (v := ?_) rfl (by kernel_rfl) (by kernel_rfl) (by kernel_rfl) (fun _ _ _ h => h) (Or.inl ⟨by rfl, ?_⟩) (by assumption) ?_
      rotate_left
      · (intro w' hSw; (try dsimp only at hSw); go_simp <;> (with_reducible rfl))
      try simp only [Act.put, List.setIfInBounds_toArray, List.set_cons_zero, List.set_cons_succ]
      refine wpAnyH_done (by kernel_rfl) ?_ _
      clear hbT
      replace bX := bX.below hcT
      replace bA := bA.below hcT
      replace bC := bC.below hcT
      replace b7 := b7.below hcT
      replace hB0 := hB0.trans (hcT.mono hB0.size)
      clear hcT
      have qA0 := bA.at_ 0
      have qA1 := bA.at_ 1
      simp only [List.getElem?_toArray] at qA0 qA1
      go_wp2_with fail
      clear qA0 qA1
      refine (HEA.out _).mono ?_
      rintro e v5 ⟨rfl, hb5⟩
      replace bX := bX.below hb5
      replace bA := bA.below hb5
      replace bC := bC.below hb5
      replace b7 := b7.below hb5
      replace hB0 := hB0.trans (hb5.mono hB0.size)
      clear hb5
      go_wp2_with fail
      go_ret
      exact ⟨rfl, hB0⟩
    · cases hec : (withinB c (-10000000000000) 10000000000000 && withinB d (-10000000000000) 10000000000000)
      · skip
        have hxw := Num.isIn_iff.1 hsx
        have EV : x.err 1000000 = 0 := by unfold Num.err unI; rw [hsx]; rfl
        have RP : sqRP x = x.sqP := by unfold sqRP; rw [if_pos EV]
        have RQ : sqRQ x = x.sqQ := by unfold sqRQ; rw [if_pos EV]
        have HSR := hide (fun W => squareOfR_any x W hxw)
        rw [EV, RP, RQ] at HS
        rw [EV] at HE
        generalize x.sqP = Y at *
        generalize x.sqQ = Z at *
        have CE : cmE a b c d = 2 := by unfold cmE Num.err unI; rw [HII.out, hea, hec]; rfl
        have CR : cmR a b c d = 0 := by unfold cmR; rw [if_neg (by rw [CE]; decide)]
        rw [CE, CR] at HC
        clear CE CR
        rw [hea] at HEA
        rw [hec] at HEC
        replace HEA : Hid (∀ W, Calls Try.prog 21 #[.agg #[.int .i64 a, .int .i64 b]] W fun e w' => e = .returned (.int .i64 0) ∧ Below W.heap.size W w') := HEA
        replace HEC : Hid (∀ W, Calls Try.prog 21 #[.agg #[.int .i64 c, .int .i64 d]] W fun e w' => e = .returned (.int .i64 2) ∧ Below W.heap.size W w') := HEC
        clear EV RP RQ hsx hea HII hec hxw
        go_wp2_with fail
        refine (HAW.out _).mono ?_
        rintro e v1 ⟨rfl, hb1⟩
        replace bX := bX.below hb1
        replace bA := bA.below hb1
        replace bC := bC.below hb1
        replace hB0 := hB0.trans (hb1.mono hB0.size)
        clear hb1
        obtain ⟨qX0, qX1, qX2, qX3, -, -, -, -, qX4⟩ := bX.cells4
        go_wp2_with fail
        clear qX0 qX1 qX2 qX3 qX4
        refine (HS.out _).mono ?_
        rintro e v2 ⟨rfl, hb2⟩
        replace bX := bX.below hb2
        replace bA := bA.below hb2
        replace bC := bC.below hb2
        replace hB0 := hB0.trans (hb2.mono hB0.size)
        clear hb2
        go_upto_region 4 with fail
        obtain ⟨u3, hu3⟩ : ∃ q : World, q = v2.alloc (.cells #[.int .i64 Y, .int .i64 Z] 43) := ⟨_, rfl⟩
        rw [← hu3]
        obtain ⟨g7, hg7⟩ : ∃ g, g = v2.heap.size := ⟨_, rfl⟩
        have b7 : Box u3 g7 43 #[.int .i64 Y, .int .i64 Z] := by rw [hu3]; exact Box.made hg7
        have hbu : Below v2.heap.size v2 u3 := by rw [hu3]; (repeat (first | (with_reducible exact Below.refl _ _) | (with_reducible refine Go.below_drewN ?_ _) | (with_reducible refine Below.drew ?_) | (with_reducible refine Below.alloc ?_ (by first | exact Nat.le_refl _ | (simp; done) | (simp; omega) | omega) _) | (with_reducible refine Below.setCell ?_ (by first | exact Nat.le_refl _ | (simp; done) | (simp; omega) | omega) _)))
        rw [← hg7]
        replace bX := bX.below hbu
        replace bA := bA.below hbu
        replace bC := bC.below hbu
        replace hB0 := hB0.trans (hbu.mono hB0.size)
        clear hbu
        clear hu3 hg7
        have qA0 := bA.at_ 0
        have qA1 := bA.at_ 1
        simp only [List.getElem?_toArray] at qA0 qA1
        have qC0 := bC.at_ 0
        have qC1 := bC.at_ 1
        simp only [List.getElem?_toArray] at qC0 qC1
        go_wp2_with fail
        clear qA0 qA1 qC0 qC1
        refine (HC.out _).mono ?_
        rintro e v3 ⟨rfl, hb3⟩
        replace bX := bX.below hb3
        replace bA := bA.below hb3
        replace bC := bC.below hb3
        replace b7 := b7.below hb3
        replace hB0 := hB0.trans (hb3.mono hB0.size)
        clear hb3
        obtain ⟨qX0, qX1, qX2, qX3, -, -, -, -, qX4⟩ := bX.cells4
        go_wp2_with fail
        clear qX0 qX1 qX2 qX3 qX4
        refine (HE.out _).mono ?_
        rintro e v4 ⟨rfl, hb4⟩
        replace bX := bX.below hb4
        replace bA := bA.below hb4
        replace bC := bC.below hb4
        replace b7 := b7.below hb4
        replace hB0 := hB0.trans (hb4.mono hB0.size)
        clear hb4
        go_wp2_with fail
        refine wp_region_held_drew (S := fun w' => Below v4.heap.size v4 w') (by kernel_rfl) (Below.refl _ _).drew (fun hHeld => ?_)
        refine wpAnyH_take (i := 0) (oi := ⟨some 39, _, _, _, _, _⟩) (v := ?_) rfl (by kernel_rfl) (by kernel_rfl) (by kernel_rfl) (fun _ _ _ h => h) (Or.inl ⟨by rfl, ?_⟩) (by assumption) ?_
        rotate_left
        · (intro w' hSw; (try dsimp only at hSw); go_simp <;> (with_reducible rfl))
        try simp only [Act.put, List.setIfInBounds_toArray, List.set_cons_zero, List.set_cons_succ]
        refine wpAnyH_take (i := 1) (oi := ⟨some 40, _, _, _, _, _⟩) (v := ?_) rfl (by kernel_rfl) (by kernel_rfl) (by kernel_rfl) (fun _ _ _ h => h) (Or.inl ⟨by rfl, ?_⟩) (by assumption) ?_
        rotate_left
        · (intro w' hSw; (try dsimp only at hSw); go_simp <;> (with_reducible rfl))
        try simp only [Act.put, List.setIfInBounds_toArray, List.set_cons_zero, List.set_cons_succ]
        refine wpAnyH_take (i := 2) (oi := ⟨some 41, _, _, _, _, _⟩) (v := ?_) rfl (by kernel_rfl) (by kernel_rfl) (by kernel_rfl) (fun _ _ _ h => h) (Or.inl ⟨by rfl, ?_⟩) (by assumption) ?_
        rotate_left
        · (intro w' hSw; (try dsimp only at hSw); go_simp <;> (with_reducible rfl))
        try simp only [Act.put, List.setIfInBounds_toArray, List.set_cons_zero, List.set_cons_succ]
        refine wpAnyH_take (i := 3) (oi := ⟨some 42, _, _, _, _, _⟩) (v := .agg #[.int .i64 Y, .int .i64 Z]) rfl (by kernel_rfl) (by kernel_rfl) (by kernel_rfl) (fun _ _ _ h => h) (Or.inl ⟨by rfl, fun w' hSw => exec_load2s rfl (b7.below hSw)⟩) (by assumption) ?_
        try simp only [Act.put, List.setIfInBounds_toArray, List.set_cons_zero, List.set_cons_succ]
        refine wpAnyH_take (i := 4) (oi := ⟨some 43, _, _, _, _, _⟩) (v := .agg #[.int .i64 x.a, .int .i64 x.b, .int .i64 x.c, .int .i64 x.d]) rfl (by kernel_rfl) (by kernel_rfl) (by kernel_rfl) (fun _ _ _ h => h) (Or.inl ⟨by rfl, fun w' hSw => exec_load4s rfl (bX.below hSw)⟩) (by assumption) ?_
        try simp only [Act.put, List.setIfInBounds_toArray, List.set_cons_zero, List.set_cons_succ]
        refine wpAnyH_ready (rs := [5]) (by kernel_rfl) (by simp) ?_
        refine AllReadyH.cons (o := ⟨some 44, _, _, _, _, _⟩) rfl (fun K' hK => ?_) AllReadyH.nil
        go_simp
        go_at_call 20
        refine (HSR.out _).mono ?_
        rintro e vT ⟨rfl, hbT⟩
        have hcT : Below v4.heap.size v4 vT := by first | exact hbT | exact below_of_drew hbT | exact below_of_drew (below_of_drew hbT)
        go_wp2_with fail
        refine hK.out _ _ hcT (fun hHeld => ?_)
        clear hK K'
        try simp only [Act.put, List.setIfInBounds_toArray, List.set_cons_zero, List.set_cons_succ]
        refine wpAnyH_take (i := 6) (oi := ⟨some 45, _, _, _, _, _⟩) (v := ?_) rfl (by kernel_rfl) (by kernel_rfl) (by kernel_rfl) (fun _ _ _ h => h) (Or.inl ⟨by rfl, ?_⟩) (by assumption) ?_
        rotate_left
        · (intro w' hSw; (try dsimp only at hSw); go_simp <;> (with_reducible rfl))
        try simp only [Act.put, List.setIfInBounds_toArray, List.set_cons_zero, List.set_cons_succ]
        refine wpAnyH_take (i := 7) (oi := ⟨some 46, _, _, _, _, _⟩) (v := ?_) rfl (by kernel_rfl) (by kernel_rfl) (by kernel_rfl) (fun _ _ _ h => h) (Or.inl ⟨by rfl, ?_⟩) (by assumption) ?_
        rotate_left
        · (intro w' hSw; (try dsimp only at hSw); go_simp <;> (with_reducible rfl))
        try simp only [Act.put, List.setIfInBounds_toArray, List.set_cons_zero, List.set_cons_succ]
        refine wpAnyH_done (by kernel_rfl) ?_ _
        clear hbT
        replace bX := bX.below hcT
        replace bA := bA.below hcT
        replace bC := bC.below hcT
        replace b7 := b7.below hcT
        replace hB0 := hB0.trans (hcT.mono hB0.size)
        clear hcT
        have qA0 := bA.at_ 0
        have qA1 := bA.at_ 1
        simp only [List.getElem?_toArray] at qA0 qA1
        go_wp2_with fail
        clear qA0 qA1
        refine (HEA.out _).mono ?_
        rintro e v5 ⟨rfl, hb5⟩
        replace bX := bX.below hb5
        replace bA := bA.below hb5
        replace bC := bC.below hb5
        replace b7 := b7.below hb5
        replace hB0 := hB0.trans (hb5.mono hB0.size)
        clear hb5
        have qC0 := bC.at_ 0
        have qC1 := bC.at_ 1
        simp only [List.getElem?_toArray] at qC0 qC1
        go_wp2_with fail
        clear qC0 qC1
        refine (HEC.out _).mono ?_
        rintro e v6 ⟨rfl, hb6⟩
        replace bX := bX.below hb6
        replace bA := bA.below hb6
        replace bC := bC.below hb6
        replace b7 := b7.below hb6
        replace hB0 := hB0.trans (hb6.mono hB0.size)
        clear hb6
        go_wp2_with fail
        go_ret
        exact ⟨rfl, hB0⟩
      · skip
        have hxw := Num.isIn_iff.1 hsx
        have EV : x.err 1000000 = 0 := by unfold Num.err unI; rw [hsx]; rfl
        have RP : sqRP x = x.sqP := by unfold sqRP; rw [if_pos EV]
        have RQ : sqRQ x = x.sqQ := by unfold sqRQ; rw [if_pos EV]
        have HSR := hide (fun W => squareOfR_any x W hxw)
        rw [EV, RP, RQ] at HS
        rw [EV] at HE
        generalize x.sqP = Y at *
        generalize x.sqQ = Z at *
        have hw4 := Num.isIn_iff.1 (show (⟨a, b, c, d⟩ : Num).isIn 10000000000000 = true by rw [HII.out, hea, hec]; rfl)
        obtain ⟨ha, hb, hc, hd⟩ := hw4
        simp only at ha hb hc hd
        have CE : cmE a b c d = 0 := by unfold cmE Num.err unI; rw [HII.out, hea, hec]; rfl
        have CE2 : cmE c d a b = 0 := by
          have h : (⟨c, d, a, b⟩ : Num).isIn 10000000000000 = true := Num.isIn_iff.2 ⟨hc, hd, ha, hb⟩
          unfold cmE Num.err unI
          rw [h]
          rfl
        have HRF := hide (fun W => comparedR_any a b c d W ha hb hc hd)
        have hn := refC_le (a - c) (b - d)
        have e1 : cmR a b c d = refC (a - c) (b - d) := by unfold cmR; rw [if_pos CE, refC_comp, show -(b - d) = d - b by omega]
        have e2 : cmR c d a b = -refC (a - c) (b - d) := by unfold cmR; rw [if_pos CE2, refC_comp, ← compI_neg, show -(a - c) = c - a by omega, show - -(b - d) = b - d by omega]
        have HC2 := hide (fun W => Compared_any c d a b W)
        rw [CE2, e2] at HC2
        rw [CE, e1] at HC
        generalize refC (a - c) (b - d) = n at *
        have qn : IntKind.i64.wrap (-n) = -n := IntWalk.i64_in _ (by omega)
        clear CE CE2 e1 e2 ha hb hc hd
        rw [hea] at HEA
        rw [hec] at HEC
        replace HEA : Hid (∀ W, Calls Try.prog 21 #[.agg #[.int .i64 a, .int .i64 b]] W fun e w' => e = .returned (.int .i64 0) ∧ Below W.heap.size W w') := HEA
        replace HEC : Hid (∀ W, Calls Try.prog 21 #[.agg #[.int .i64 c, .int .i64 d]] W fun e w' => e = .returned (.int .i64 0) ∧ Below W.heap.size W w') := HEC
        clear EV RP RQ hsx hea HII hec hxw
        go_wp2_with fail
        refine (HAW.out _).mono ?_
        rintro e v1 ⟨rfl, hb1⟩
        replace bX := bX.below hb1
        replace bA := bA.below hb1
        replace bC := bC.below hb1
        replace hB0 := hB0.trans (hb1.mono hB0.size)
        clear hb1
        obtain ⟨qX0, qX1, qX2, qX3, -, -, -, -, qX4⟩ := bX.cells4
        go_wp2_with fail
        clear qX0 qX1 qX2 qX3 qX4
        refine (HS.out _).mono ?_
        rintro e v2 ⟨rfl, hb2⟩
        replace bX := bX.below hb2
        replace bA := bA.below hb2
        replace bC := bC.below hb2
        replace hB0 := hB0.trans (hb2.mono hB0.size)
        clear hb2
        go_upto_region 4 with fail
        obtain ⟨u3, hu3⟩ : ∃ q : World, q = v2.alloc (.cells #[.int .i64 Y, .int .i64 Z] 43) := ⟨_, rfl⟩
        rw [← hu3]
        obtain ⟨g7, hg7⟩ : ∃ g, g = v2.heap.size := ⟨_, rfl⟩
        have b7 : Box u3 g7 43 #[.int .i64 Y, .int .i64 Z] := by rw [hu3]; exact Box.made hg7
        have hbu : Below v2.heap.size v2 u3 := by rw [hu3]; (repeat (first | (with_reducible exact Below.refl _ _) | (with_reducible refine Go.below_drewN ?_ _) | (with_reducible refine Below.drew ?_) | (with_reducible refine Below.alloc ?_ (by first | exact Nat.le_refl _ | (simp; done) | (simp; omega) | omega) _) | (with_reducible refine Below.setCell ?_ (by first | exact Nat.le_refl _ | (simp; done) | (simp; omega) | omega) _)))
        rw [← hg7]
        replace bX := bX.below hbu
        replace bA := bA.below hbu
        replace bC := bC.below hbu
        replace hB0 := hB0.trans (hbu.mono hB0.size)
        clear hbu
        clear hu3 hg7
        have qA0 := bA.at_ 0
        have qA1 := bA.at_ 1
        simp only [List.getElem?_toArray] at qA0 qA1
        have qC0 := bC.at_ 0
        have qC1 := bC.at_ 1
        simp only [List.getElem?_toArray] at qC0 qC1
        go_wp2_with fail
        clear qA0 qA1 qC0 qC1
        refine (HC.out _).mono ?_
        rintro e v3 ⟨rfl, hb3⟩
        replace bX := bX.below hb3
        replace bA := bA.below hb3
        replace bC := bC.below hb3
        replace b7 := b7.below hb3
        replace hB0 := hB0.trans (hb3.mono hB0.size)
        clear hb3
        obtain ⟨qX0, qX1, qX2, qX3, -, -, -, -, qX4⟩ := bX.cells4
        go_wp2_with fail
        clear qX0 qX1 qX2 qX3 qX4
        refine (HE.out _).mono ?_
        rintro e v4 ⟨rfl, hb4⟩
        replace bX := bX.below hb4
        replace bA := bA.below hb4
        replace bC := bC.below hb4
        replace b7 := b7.below hb4
        replace hB0 := hB0.trans (hb4.mono hB0.size)
        clear hb4
        go_wp2_with fail
        refine wp_region_held_drew (S := fun w' => Below v4.heap.size v4 w') (by kernel_rfl) (Below.refl _ _).drew (fun hHeld => ?_)
        refine wpAnyH_take (i := 0) (oi := ⟨some 39, _, _, _, _, _⟩) (v := ?_) rfl (by kernel_rfl) (by kernel_rfl) (by kernel_rfl) (fun _ _ _ h => h) (Or.inl ⟨by rfl, ?_⟩) (by assumption) ?_
        rotate_left
        · (intro w' hSw; (try dsimp only at hSw); go_simp <;> (with_reducible rfl))
        try simp only [Act.put, List.setIfInBounds_toArray, List.set_cons_zero, List.set_cons_succ]
        refine wpAnyH_take (i := 1) (oi := ⟨some 40, _, _, _, _, _⟩) (v := ?_) rfl (by kernel_rfl) (by kernel_rfl) (by kernel_rfl) (fun _ _ _ h => h) (Or.inl ⟨by rfl, ?_⟩) (by assumption) ?_
        rotate_left
        · (intro w' hSw; (try dsimp only at hSw); go_simp <;> (with_reducible rfl))
        try simp only [Act.put, List.setIfInBounds_toArray, List.set_cons_zero, List.set_cons_succ]
        refine wpAnyH_take (i := 2) (oi := ⟨some 41, _, _, _, _, _⟩) (v := ?_) rfl (by kernel_rfl) (by kernel_rfl) (by kernel_rfl) (fun _ _ _ h => h) (Or.inl ⟨by rfl, ?_⟩) (by assumption) ?_
        rotate_left
        · (intro w' hSw; (try dsimp only at hSw); go_simp <;> (with_reducible rfl))
        try simp only [Act.put, List.setIfInBounds_toArray, List.set_cons_zero, List.set_cons_succ]
        refine wpAnyH_take (i := 3) (oi := ⟨some 42, _, _, _, _, _⟩) (v := .agg #[.int .i64 Y, .int .i64 Z]) rfl (by kernel_rfl) (by kernel_rfl) (by kernel_rfl) (fun _ _ _ h => h) (Or.inl ⟨by rfl, fun w' hSw => exec_load2s rfl (b7.below hSw)⟩) (by assumption) ?_
        try simp only [Act.put, List.setIfInBounds_toArray, List.set_cons_zero, List.set_cons_succ]
        refine wpAnyH_take (i := 4) (oi := ⟨some 43, _, _, _, _, _⟩) (v := .agg #[.int .i64 x.a, .int .i64 x.b, .int .i64 x.c, .int .i64 x.d]) rfl (by kernel_rfl) (by kernel_rfl) (by kernel_rfl) (fun _ _ _ h => h) (Or.inl ⟨by rfl, fun w' hSw => exec_load4s rfl (bX.below hSw)⟩) (by assumption) ?_
        try simp only [Act.put, List.setIfInBounds_toArray, List.set_cons_zero, List.set_cons_succ]
        refine wpAnyH_ready (rs := [5]) (by kernel_rfl) (by simp) ?_
        refine AllReadyH.cons (o := ⟨some 44, _, _, _, _, _⟩) rfl (fun K' hK => ?_) AllReadyH.nil
        go_simp
        go_at_call 20
        refine (HSR.out _).mono ?_
        rintro e vT ⟨rfl, hbT⟩
        have hcT : Below v4.heap.size v4 vT := by first | exact hbT | exact below_of_drew hbT | exact below_of_drew (below_of_drew hbT)
        go_wp2_with fail
        refine hK.out _ _ hcT (fun hHeld => ?_)
        clear hK K'
        try simp only [Act.put, List.setIfInBounds_toArray, List.set_cons_zero, List.set_cons_succ]
        refine wpAnyH_take (i := 6) (oi := ⟨some 45, _, _, _, _, _⟩) (v := ?_) rfl (by kernel_rfl) (by kernel_rfl) (by kernel_rfl) (fun _ _ _ h => h) (Or.inl ⟨by rfl, ?_⟩) (by assumption) ?_
        rotate_left
        · (intro w' hSw; (try dsimp only at hSw); go_simp <;> (with_reducible rfl))
        try simp only [Act.put, List.setIfInBounds_toArray, List.set_cons_zero, List.set_cons_succ]
        refine wpAnyH_take (i := 7) (oi := ⟨some 46, _, _, _, _, _⟩) (v := ?_) rfl (by kernel_rfl) (by kernel_rfl) (by kernel_rfl) (fun _ _ _ h => h) (Or.inl ⟨by rfl, ?_⟩) (by assumption) ?_
        rotate_left
        · (intro w' hSw; (try dsimp only at hSw); go_simp <;> (with_reducible rfl))
        try simp only [Act.put, List.setIfInBounds_toArray, List.set_cons_zero, List.set_cons_succ]
        refine wpAnyH_done (by kernel_rfl) ?_ _
        clear hbT
        replace bX := bX.below hcT
        replace bA := bA.below hcT
        replace bC := bC.below hcT
        replace b7 := b7.below hcT
        replace hB0 := hB0.trans (hcT.mono hB0.size)
        clear hcT
        have qA0 := bA.at_ 0
        have qA1 := bA.at_ 1
        simp only [List.getElem?_toArray] at qA0 qA1
        go_wp2_with fail
        clear qA0 qA1
        refine (HEA.out _).mono ?_
        rintro e v5 ⟨rfl, hb5⟩
        replace bX := bX.below hb5
        replace bA := bA.below hb5
        replace bC := bC.below hb5
        replace b7 := b7.below hb5
        replace hB0 := hB0.trans (hb5.mono hB0.size)
        clear hb5
        have qC0 := bC.at_ 0
        have qC1 := bC.at_ 1
        simp only [List.getElem?_toArray] at qC0 qC1
        go_wp2_with fail
        clear qC0 qC1
        refine (HEC.out _).mono ?_
        rintro e v6 ⟨rfl, hb6⟩
        replace bX := bX.below hb6
        replace bA := bA.below hb6
        replace bC := bC.below hb6
        replace b7 := b7.below hb6
        replace hB0 := hB0.trans (hb6.mono hB0.size)
        clear hb6
        have qA0 := bA.at_ 0
        have qA1 := bA.at_ 1
        simp only [List.getElem?_toArray] at qA0 qA1
        have qC0 := bC.at_ 0
        have qC1 := bC.at_ 1
        simp only [List.getElem?_toArray] at qC0 qC1
        go_wp2_with fail
        clear qA0 qA1 qC0 qC1
        refine (HC2.out _).mono ?_
        rintro e v7 ⟨rfl, hb7⟩
        replace bX := bX.below hb7
        replace bA := bA.below hb7
        replace bC := bC.below hb7
        replace b7 := b7.below hb7
        replace hB0 := hB0.trans (hb7.mono hB0.size)
        clear hb7
        have qA0 := bA.at_ 0
        have qA1 := bA.at_ 1
        simp only [List.getElem?_toArray] at qA0 qA1
        have qC0 := bC.at_ 0
        have qC1 := bC.at_ 1
        simp only [List.getElem?_toArray] at qC0 qC1
        go_wp2_with fail
        clear qA0 qA1 qC0 qC1
        refine (HRF.out _).mono ?_
        rintro e v8 ⟨rfl, hb8⟩
        replace bX := bX.below hb8
        replace bA := bA.below hb8
        replace bC := bC.below hb8
        replace b7 := b7.below hb8
        replace hB0 := hB0.trans (hb8.mono hB0.size)
        clear hb8
        go_wp2_with fail
        go_ret
        exact ⟨rfl, hB0⟩
end Go.Proofs.Ytmncomcdddnnhaa
