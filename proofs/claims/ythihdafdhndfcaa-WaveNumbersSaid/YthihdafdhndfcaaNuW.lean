/- Lemmas: Ud. -/
import Derived.Test.YthihdafdhndfcaaBk09
set_option linter.unusedVariables false
set_option linter.unusedSimpArgs false
/- The walk of WaveNumbers. -/
namespace Go.Proofs.Ythihdafdhndfcaa
open Go.RowKit Go.Great
theorem exec_load4 {a : Act} {x : Operand} {d : Option Tmp} {ty : TypeId} {pos : String} {aft : Array Edge} {gd : Option (Nat × Bool)} {b : Nat} {p q r s : Value} {W : World} (hx : a.eval x = .pointer (some ⟨b, 0, none⟩)) (hr : Box W b 23 #[p, q, r, s]) :
    (execOp a.eval ⟨d, .load 23 x, ty, pos, aft, gd⟩).run Try.prog W = .ok (.value (.agg #[p, q, r, s])) W := by
  have h0 := hr.at_ 0
  have h1 := hr.at_ 1
  have h2 := hr.at_ 2
  have h3 := hr.at_ 3
  simp only [List.getElem?_toArray] at h0 h1 h2 h3
  simp only [execOp, Instr.loadAt, hx, Instr.sureAddr, Sem.run_bind, Sem.run_pure, Result.andThen_ok]
  have := run_loadVar_mid (P := Try.prog) W b 0 23 [p, q, r, s] _ (fun j v hv => by
    match j with
    | 0 => simp at hv; subst hv; simpa using h0
    | 1 => simp at hv; subst hv; simpa using h1
    | 2 => simp at hv; subst hv; simpa using h2
    | 3 => simp at hv; subst hv; simpa using h3
    | n + 4 => simp at hv) Try.underlying23 rfl (by kernel_rfl)
  rw [this]
  rfl
set_option maxHeartbeats 16000000 in
set_option maxRecDepth 100000 in
theorem waveNumbers_walk (x y : Num) (n : Int) (w : World) :
    Calls Try.prog 3 #[.agg #[.int .i64 x.a, .int .i64 x.b, .int .i64 x.c, .int .i64 x.d], .agg #[.int .i64 y.a, .int .i64 y.b, .int .i64 y.c, .int .i64 y.d], .int .i64 n] w fun e w' => e = .returned (.bool true) ∧ Below w.heap.size w w' := by
  have HAW := hide (fun W => awake_any W)
  have HT := hide (fun W => Turned_any x n W)
  have HP := hide (fun W => Product_any x y W)
  have HSX := hide (fun W => isSmall_any x W)
  have HSY := hide (fun W => isSmall_any y W)
  have HEI := hide (fun W => eighthsErr_any n W)
  go_enter Try.func3, Try.ntmps3
  go_upto_region 1 with fail
  obtain ⟨W0, hW0⟩ : ∃ q : World, q = (w.alloc (.cells #[.int .i64 x.a, .int .i64 x.b, .int .i64 x.c, .int .i64 x.d] 23)).alloc (.cells #[.int .i64 y.a, .int .i64 y.b, .int .i64 y.c, .int .i64 y.d] 23) := ⟨_, rfl⟩
  rw [← hW0]
  obtain ⟨g1, hg1⟩ : ∃ g, g = w.heap.size + 1 := ⟨_, rfl⟩
  have bX : Box W0 w.heap.size 23 #[.int .i64 x.a, .int .i64 x.b, .int .i64 x.c, .int .i64 x.d] := by rw [hW0]; exact (Box.made rfl).alloc _
  have bY : Box W0 g1 23 #[.int .i64 y.a, .int .i64 y.b, .int .i64 y.c, .int .i64 y.d] := by rw [hW0]; exact Box.made (by simp [hg1])
  have hB0 : Below w.heap.size w W0 := by rw [hW0]; (repeat (first | (with_reducible exact Below.refl _ _) | (with_reducible refine Go.below_drewN ?_ _) | (with_reducible refine Below.drew ?_) | (with_reducible refine Below.alloc ?_ (by first | exact Nat.le_refl _ | (simp; done) | (simp; omega) | omega) _) | (with_reducible refine Below.setCell ?_ (by first | exact Nat.le_refl _ | (simp; done) | (simp; omega) | omega) _)))
  rw [← hg1]
  clear hW0 hg1
  cases hsx : x.isIn 1000000000
  · cases h7 : withinB n 0 7
    · skip
      have EV : turnedE x n = 2 := by unfold turnedE twoE Num.err unI; rw [hsx, h7]; rfl
      have RV : turnedR x n = Num.zero := by unfold turnedR; rw [EV]; rfl
      have PE : prodE x y = 2 := by unfold prodE twoE smallE Num.err unI; rw [hsx]; rfl
      have PV : prodV x y = Num.zero := by unfold prodV; rw [PE]; rfl
      rw [EV, RV] at HT
      rw [PE, PV] at HP
      rw [hsx] at HSX
      rw [h7] at HEI
      replace HT : Hid (∀ W, Calls Try.prog 9 #[.agg #[.int .i64 x.a, .int .i64 x.b, .int .i64 x.c, .int .i64 x.d], .int .i64 n] W fun e w' => e = .returned (.tuple #[.agg #[.int .i64 0, .int .i64 0, .int .i64 0, .int .i64 0], .int .i64 2]) ∧ Below W.heap.size W w') := HT
      replace HP : Hid (∀ W, Calls Try.prog 10 #[.agg #[.int .i64 x.a, .int .i64 x.b, .int .i64 x.c, .int .i64 x.d], .agg #[.int .i64 y.a, .int .i64 y.b, .int .i64 y.c, .int .i64 y.d]] W fun e w' => e = .returned (.tuple #[.agg #[.int .i64 0, .int .i64 0, .int .i64 0, .int .i64 0], .int .i64 2]) ∧ Below W.heap.size W w') := HP
      replace HEI : Hid (∀ W, Calls Try.prog 12 #[.int .i64 n] W fun e w' => e = .returned (.int .i64 2) ∧ W = w') := HEI
      clear EV RV PE PV h7 hsx
      go_wp2_with fail
      refine (HAW.out _).mono ?_
      rintro e v1 ⟨rfl, hb1⟩
      replace bX := bX.below hb1
      replace bY := bY.below hb1
      replace hB0 := hB0.trans (hb1.mono hB0.size)
      clear hb1
      obtain ⟨qX0, qX1, qX2, qX3, -, -, -, -, qX4⟩ := bX.cells4
      go_wp2_with fail
      clear qX0 qX1 qX2 qX3 qX4
      refine (HT.out _).mono ?_
      rintro e v2 ⟨rfl, hb2⟩
      replace bX := bX.below hb2
      replace bY := bY.below hb2
      replace hB0 := hB0.trans (hb2.mono hB0.size)
      clear hb2
      go_upto_region 4 with fail
      obtain ⟨v3, hv3⟩ : ∃ q : World, q = v2.alloc (.cells #[.int .i64 0, .int .i64 0, .int .i64 0, .int .i64 0] 23) := ⟨_, rfl⟩
      rw [← hv3]
      obtain ⟨g7, hg7⟩ : ∃ g, g = v2.heap.size := ⟨_, rfl⟩
      have b7 : Box v3 g7 23 #[.int .i64 0, .int .i64 0, .int .i64 0, .int .i64 0] := by rw [hv3]; exact Box.made hg7
      have hb3 : Below v2.heap.size v2 v3 := by rw [hv3]; (repeat (first | (with_reducible exact Below.refl _ _) | (with_reducible refine Go.below_drewN ?_ _) | (with_reducible refine Below.drew ?_) | (with_reducible refine Below.alloc ?_ (by first | exact Nat.le_refl _ | (simp; done) | (simp; omega) | omega) _) | (with_reducible refine Below.setCell ?_ (by first | exact Nat.le_refl _ | (simp; done) | (simp; omega) | omega) _)))
      rw [← hg7]
      replace bX := bX.below hb3
      replace bY := bY.below hb3
      replace hB0 := hB0.trans (hb3.mono hB0.size)
      clear hb3 hv3 hg7
      obtain ⟨qX0, qX1, qX2, qX3, -, -, -, -, qX4⟩ := bX.cells4
      obtain ⟨qY0, qY1, qY2, qY3, -, -, -, -, qY4⟩ := bY.cells4
      go_wp2_with fail
      clear qX0 qX1 qX2 qX3 qX4 qY0 qY1 qY2 qY3 qY4
      refine (HP.out _).mono ?_
      rintro e v4 ⟨rfl, hb4⟩
      replace bX := bX.below hb4
      replace bY := bY.below hb4
      replace b7 := b7.below hb4
      replace hB0 := hB0.trans (hb4.mono hB0.size)
      clear hb4
      go_upto_region 5 with fail
      obtain ⟨v5, hv5⟩ : ∃ q : World, q = v4.alloc (.cells #[.int .i64 0, .int .i64 0, .int .i64 0, .int .i64 0] 23) := ⟨_, rfl⟩
      rw [← hv5]
      obtain ⟨g9, hg9⟩ : ∃ g, g = v4.heap.size := ⟨_, rfl⟩
      have b9 : Box v5 g9 23 #[.int .i64 0, .int .i64 0, .int .i64 0, .int .i64 0] := by rw [hv5]; exact Box.made hg9
      have hb5 : Below v4.heap.size v4 v5 := by rw [hv5]; (repeat (first | (with_reducible exact Below.refl _ _) | (with_reducible refine Go.below_drewN ?_ _) | (with_reducible refine Below.drew ?_) | (with_reducible refine Below.alloc ?_ (by first | exact Nat.le_refl _ | (simp; done) | (simp; omega) | omega) _) | (with_reducible refine Below.setCell ?_ (by first | exact Nat.le_refl _ | (simp; done) | (simp; omega) | omega) _)))
      rw [← hg9]
      replace bX := bX.below hb5
      replace bY := bY.below hb5
      replace b7 := b7.below hb5
      replace hB0 := hB0.trans (hb5.mono hB0.size)
      clear hb5 hv5 hg9
      obtain ⟨qX0, qX1, qX2, qX3, -, -, -, -, qX4⟩ := bX.cells4
      go_wp2_with fail
      clear qX0 qX1 qX2 qX3 qX4
      refine (HSX.out _).mono ?_
      rintro e v6 ⟨rfl, hb6⟩
      replace bX := bX.below hb6
      replace bY := bY.below hb6
      replace b7 := b7.below hb6
      replace b9 := b9.below hb6
      replace hB0 := hB0.trans (hb6.mono hB0.size)
      clear hb6
      obtain ⟨q70, q71, q72, q73, -, -, -, -, q74⟩ := b7.cells4
      obtain ⟨q90, q91, q92, q93, -, -, -, -, q94⟩ := b9.cells4
      go_wp2_with (first | (go_at_call 12; refine (HEI.out _).mono ?_; rintro e w' ⟨rfl, rfl⟩) | (refine wpList_readTo rfl (some 42) rfl (.int .i64 2) (by kernel_rfl) ?_))
      go_ret
      exact ⟨rfl, hB0⟩
    · skip
      have EV : turnedE x n = 2 := by unfold turnedE twoE Num.err unI; rw [hsx, h7]; rfl
      have RV : turnedR x n = Num.zero := by unfold turnedR; rw [EV]; rfl
      have PE : prodE x y = 2 := by unfold prodE twoE smallE Num.err unI; rw [hsx]; rfl
      have PV : prodV x y = Num.zero := by unfold prodV; rw [PE]; rfl
      rw [EV, RV] at HT
      rw [PE, PV] at HP
      rw [hsx] at HSX
      rw [h7] at HEI
      replace HT : Hid (∀ W, Calls Try.prog 9 #[.agg #[.int .i64 x.a, .int .i64 x.b, .int .i64 x.c, .int .i64 x.d], .int .i64 n] W fun e w' => e = .returned (.tuple #[.agg #[.int .i64 0, .int .i64 0, .int .i64 0, .int .i64 0], .int .i64 2]) ∧ Below W.heap.size W w') := HT
      replace HP : Hid (∀ W, Calls Try.prog 10 #[.agg #[.int .i64 x.a, .int .i64 x.b, .int .i64 x.c, .int .i64 x.d], .agg #[.int .i64 y.a, .int .i64 y.b, .int .i64 y.c, .int .i64 y.d]] W fun e w' => e = .returned (.tuple #[.agg #[.int .i64 0, .int .i64 0, .int .i64 0, .int .i64 0], .int .i64 2]) ∧ Below W.heap.size W w') := HP
      replace HEI : Hid (∀ W, Calls Try.prog 12 #[.int .i64 n] W fun e w' => e = .returned (.int .i64 0) ∧ W = w') := HEI
      clear EV RV PE PV h7 hsx
      go_wp2_with fail
      refine (HAW.out _).mono ?_
      rintro e v1 ⟨rfl, hb1⟩
      replace bX := bX.below hb1
      replace bY := bY.below hb1
      replace hB0 := hB0.trans (hb1.mono hB0.size)
      clear hb1
      obtain ⟨qX0, qX1, qX2, qX3, -, -, -, -, qX4⟩ := bX.cells4
      go_wp2_with fail
      clear qX0 qX1 qX2 qX3 qX4
      refine (HT.out _).mono ?_
      rintro e v2 ⟨rfl, hb2⟩
      replace bX := bX.below hb2
      replace bY := bY.below hb2
      replace hB0 := hB0.trans (hb2.mono hB0.size)
      clear hb2
      go_upto_region 4 with fail
      obtain ⟨v3, hv3⟩ : ∃ q : World, q = v2.alloc (.cells #[.int .i64 0, .int .i64 0, .int .i64 0, .int .i64 0] 23) := ⟨_, rfl⟩
      rw [← hv3]
      obtain ⟨g7, hg7⟩ : ∃ g, g = v2.heap.size := ⟨_, rfl⟩
      have b7 : Box v3 g7 23 #[.int .i64 0, .int .i64 0, .int .i64 0, .int .i64 0] := by rw [hv3]; exact Box.made hg7
      have hb3 : Below v2.heap.size v2 v3 := by rw [hv3]; (repeat (first | (with_reducible exact Below.refl _ _) | (with_reducible refine Go.below_drewN ?_ _) | (with_reducible refine Below.drew ?_) | (with_reducible refine Below.alloc ?_ (by first | exact Nat.le_refl _ | (simp; done) | (simp; omega) | omega) _) | (with_reducible refine Below.setCell ?_ (by first | exact Nat.le_refl _ | (simp; done) | (simp; omega) | omega) _)))
      rw [← hg7]
      replace bX := bX.below hb3
      replace bY := bY.below hb3
      replace hB0 := hB0.trans (hb3.mono hB0.size)
      clear hb3 hv3 hg7
      obtain ⟨qX0, qX1, qX2, qX3, -, -, -, -, qX4⟩ := bX.cells4
      obtain ⟨qY0, qY1, qY2, qY3, -, -, -, -, qY4⟩ := bY.cells4
      go_wp2_with fail
      clear qX0 qX1 qX2 qX3 qX4 qY0 qY1 qY2 qY3 qY4
      refine (HP.out _).mono ?_
      rintro e v4 ⟨rfl, hb4⟩
      replace bX := bX.below hb4
      replace bY := bY.below hb4
      replace b7 := b7.below hb4
      replace hB0 := hB0.trans (hb4.mono hB0.size)
      clear hb4
      go_upto_region 5 with fail
      obtain ⟨v5, hv5⟩ : ∃ q : World, q = v4.alloc (.cells #[.int .i64 0, .int .i64 0, .int .i64 0, .int .i64 0] 23) := ⟨_, rfl⟩
      rw [← hv5]
      obtain ⟨g9, hg9⟩ : ∃ g, g = v4.heap.size := ⟨_, rfl⟩
      have b9 : Box v5 g9 23 #[.int .i64 0, .int .i64 0, .int .i64 0, .int .i64 0] := by rw [hv5]; exact Box.made hg9
      have hb5 : Below v4.heap.size v4 v5 := by rw [hv5]; (repeat (first | (with_reducible exact Below.refl _ _) | (with_reducible refine Go.below_drewN ?_ _) | (with_reducible refine Below.drew ?_) | (with_reducible refine Below.alloc ?_ (by first | exact Nat.le_refl _ | (simp; done) | (simp; omega) | omega) _) | (with_reducible refine Below.setCell ?_ (by first | exact Nat.le_refl _ | (simp; done) | (simp; omega) | omega) _)))
      rw [← hg9]
      replace bX := bX.below hb5
      replace bY := bY.below hb5
      replace b7 := b7.below hb5
      replace hB0 := hB0.trans (hb5.mono hB0.size)
      clear hb5 hv5 hg9
      obtain ⟨qX0, qX1, qX2, qX3, -, -, -, -, qX4⟩ := bX.cells4
      go_wp2_with fail
      clear qX0 qX1 qX2 qX3 qX4
      refine (HSX.out _).mono ?_
      rintro e v6 ⟨rfl, hb6⟩
      replace bX := bX.below hb6
      replace bY := bY.below hb6
      replace b7 := b7.below hb6
      replace b9 := b9.below hb6
      replace hB0 := hB0.trans (hb6.mono hB0.size)
      clear hb6
      obtain ⟨q70, q71, q72, q73, -, -, -, -, q74⟩ := b7.cells4
      obtain ⟨q90, q91, q92, q93, -, -, -, -, q94⟩ := b9.cells4
      go_wp2_with (first | (go_at_call 12; refine (HEI.out _).mono ?_; rintro e w' ⟨rfl, rfl⟩) | (refine wpList_readTo rfl (some 42) rfl (.int .i64 2) (by kernel_rfl) ?_))
      go_ret
      exact ⟨rfl, hB0⟩
  · cases h7 : withinB n 0 7
    · cases hsy : y.isIn 1000000000
      · skip
        have EV : turnedE x n = 2 := by unfold turnedE twoE Num.err unI; rw [hsx, h7]; rfl
        have RV : turnedR x n = Num.zero := by unfold turnedR; rw [EV]; rfl
        have PE : prodE x y = 2 := by unfold prodE twoE smallE Num.err unI; rw [hsx, hsy]; rfl
        have PV : prodV x y = Num.zero := by unfold prodV; rw [PE]; rfl
        rw [EV, RV] at HT
        rw [PE, PV] at HP
        rw [hsx] at HSX
        rw [h7] at HEI
        rw [hsy] at HSY
        have hxw := Num.isIn_iff.1 hsx
        replace HT : Hid (∀ W, Calls Try.prog 9 #[.agg #[.int .i64 x.a, .int .i64 x.b, .int .i64 x.c, .int .i64 x.d], .int .i64 n] W fun e w' => e = .returned (.tuple #[.agg #[.int .i64 0, .int .i64 0, .int .i64 0, .int .i64 0], .int .i64 2]) ∧ Below W.heap.size W w') := HT
        replace HP : Hid (∀ W, Calls Try.prog 10 #[.agg #[.int .i64 x.a, .int .i64 x.b, .int .i64 x.c, .int .i64 x.d], .agg #[.int .i64 y.a, .int .i64 y.b, .int .i64 y.c, .int .i64 y.d]] W fun e w' => e = .returned (.tuple #[.agg #[.int .i64 0, .int .i64 0, .int .i64 0, .int .i64 0], .int .i64 2]) ∧ Below W.heap.size W w') := HP
        replace HEI : Hid (∀ W, Calls Try.prog 12 #[.int .i64 n] W fun e w' => e = .returned (.int .i64 2) ∧ W = w') := HEI
        clear EV RV PE PV h7 hsx hsy hxw
        go_wp2_with fail
        refine (HAW.out _).mono ?_
        rintro e v1 ⟨rfl, hb1⟩
        replace bX := bX.below hb1
        replace bY := bY.below hb1
        replace hB0 := hB0.trans (hb1.mono hB0.size)
        clear hb1
        obtain ⟨qX0, qX1, qX2, qX3, -, -, -, -, qX4⟩ := bX.cells4
        go_wp2_with fail
        clear qX0 qX1 qX2 qX3 qX4
        refine (HT.out _).mono ?_
        rintro e v2 ⟨rfl, hb2⟩
        replace bX := bX.below hb2
        replace bY := bY.below hb2
        replace hB0 := hB0.trans (hb2.mono hB0.size)
        clear hb2
        go_upto_region 4 with fail
        obtain ⟨v3, hv3⟩ : ∃ q : World, q = v2.alloc (.cells #[.int .i64 0, .int .i64 0, .int .i64 0, .int .i64 0] 23) := ⟨_, rfl⟩
        rw [← hv3]
        obtain ⟨g7, hg7⟩ : ∃ g, g = v2.heap.size := ⟨_, rfl⟩
        have b7 : Box v3 g7 23 #[.int .i64 0, .int .i64 0, .int .i64 0, .int .i64 0] := by rw [hv3]; exact Box.made hg7
        have hb3 : Below v2.heap.size v2 v3 := by rw [hv3]; (repeat (first | (with_reducible exact Below.refl _ _) | (with_reducible refine Go.below_drewN ?_ _) | (with_reducible refine Below.drew ?_) | (with_reducible refine Below.alloc ?_ (by first | exact Nat.le_refl _ | (simp; done) | (simp; omega) | omega) _) | (with_reducible refine Below.setCell ?_ (by first | exact Nat.le_refl _ | (simp; done) | (simp; omega) | omega) _)))
        rw [← hg7]
        replace bX := bX.below hb3
        replace bY := bY.below hb3
        replace hB0 := hB0.trans (hb3.mono hB0.size)
        clear hb3 hv3 hg7
        obtain ⟨qX0, qX1, qX2, qX3, -, -, -, -, qX4⟩ := bX.cells4
        obtain ⟨qY0, qY1, qY2, qY3, -, -, -, -, qY4⟩ := bY.cells4
        go_wp2_with fail
        clear qX0 qX1 qX2 qX3 qX4 qY0 qY1 qY2 qY3 qY4
        refine (HP.out _).mono ?_
        rintro e v4 ⟨rfl, hb4⟩
        replace bX := bX.below hb4
        replace bY := bY.below hb4
        replace b7 := b7.below hb4
        replace hB0 := hB0.trans (hb4.mono hB0.size)
        clear hb4
        go_upto_region 5 with fail
        obtain ⟨v5, hv5⟩ : ∃ q : World, q = v4.alloc (.cells #[.int .i64 0, .int .i64 0, .int .i64 0, .int .i64 0] 23) := ⟨_, rfl⟩
        rw [← hv5]
        obtain ⟨g9, hg9⟩ : ∃ g, g = v4.heap.size := ⟨_, rfl⟩
        have b9 : Box v5 g9 23 #[.int .i64 0, .int .i64 0, .int .i64 0, .int .i64 0] := by rw [hv5]; exact Box.made hg9
        have hb5 : Below v4.heap.size v4 v5 := by rw [hv5]; (repeat (first | (with_reducible exact Below.refl _ _) | (with_reducible refine Go.below_drewN ?_ _) | (with_reducible refine Below.drew ?_) | (with_reducible refine Below.alloc ?_ (by first | exact Nat.le_refl _ | (simp; done) | (simp; omega) | omega) _) | (with_reducible refine Below.setCell ?_ (by first | exact Nat.le_refl _ | (simp; done) | (simp; omega) | omega) _)))
        rw [← hg9]
        replace bX := bX.below hb5
        replace bY := bY.below hb5
        replace b7 := b7.below hb5
        replace hB0 := hB0.trans (hb5.mono hB0.size)
        clear hb5 hv5 hg9
        obtain ⟨qX0, qX1, qX2, qX3, -, -, -, -, qX4⟩ := bX.cells4
        go_wp2_with fail
        clear qX0 qX1 qX2 qX3 qX4
        refine (HSX.out _).mono ?_
        rintro e v6 ⟨rfl, hb6⟩
        replace bX := bX.below hb6
        replace bY := bY.below hb6
        replace b7 := b7.below hb6
        replace b9 := b9.below hb6
        replace hB0 := hB0.trans (hb6.mono hB0.size)
        clear hb6
        obtain ⟨q70, q71, q72, q73, -, -, -, -, q74⟩ := b7.cells4
        obtain ⟨q90, q91, q92, q93, -, -, -, -, q94⟩ := b9.cells4
        obtain ⟨qY0, qY1, qY2, qY3, -, -, -, -, qY4⟩ := bY.cells4
        go_wp2_with (first | (go_at_call 12; refine (HEI.out _).mono ?_; rintro e w' ⟨rfl, rfl⟩) | (refine wpList_readTo rfl (some 42) rfl (.int .i64 2) (by kernel_rfl) ?_))
        clear q70 q71 q72 q73 q74 q90 q91 q92 q93 q94 qY0 qY1 qY2 qY3 qY4
        refine (HSY.out _).mono ?_
        rintro e v7 ⟨rfl, hb7⟩
        replace bX := bX.below hb7
        replace bY := bY.below hb7
        replace b7 := b7.below hb7
        replace b9 := b9.below hb7
        replace hB0 := hB0.trans (hb7.mono hB0.size)
        clear hb7
        obtain ⟨q90, q91, q92, q93, -, -, -, -, q94⟩ := b9.cells4
        go_wp2_with fail
        go_ret
        exact ⟨rfl, hB0⟩
      · cases hsz : (x.prod y).isIn 1000000000
        · skip
          have EV : turnedE x n = 2 := by unfold turnedE twoE Num.err unI; rw [hsx, h7]; rfl
          have RV : turnedR x n = Num.zero := by unfold turnedR; rw [EV]; rfl
          have PE : prodE x y = 8 := by unfold prodE twoE smallE Num.err unI; rw [hsx, hsy, hsz]; rfl
          have PV : prodV x y = Num.zero := by unfold prodV; rw [PE]; rfl
          rw [EV, RV] at HT
          rw [PE, PV] at HP
          rw [hsx] at HSX
          rw [h7] at HEI
          rw [hsy] at HSY
          have hxw := Num.isIn_iff.1 hsx
          have hyw := Num.isIn_iff.1 hsy
          have HPR := hide (fun W => productR_any x y 1000000000 1000000000 W hxw hyw (by decide) (by decide) (by decide))
          have HSZ := hide (fun W => isSmall_any (x.prod y) W)
          rw [hsz] at HSZ
          generalize x.prod y = z at *
          replace HT : Hid (∀ W, Calls Try.prog 9 #[.agg #[.int .i64 x.a, .int .i64 x.b, .int .i64 x.c, .int .i64 x.d], .int .i64 n] W fun e w' => e = .returned (.tuple #[.agg #[.int .i64 0, .int .i64 0, .int .i64 0, .int .i64 0], .int .i64 2]) ∧ Below W.heap.size W w') := HT
          replace HP : Hid (∀ W, Calls Try.prog 10 #[.agg #[.int .i64 x.a, .int .i64 x.b, .int .i64 x.c, .int .i64 x.d], .agg #[.int .i64 y.a, .int .i64 y.b, .int .i64 y.c, .int .i64 y.d]] W fun e w' => e = .returned (.tuple #[.agg #[.int .i64 0, .int .i64 0, .int .i64 0, .int .i64 0], .int .i64 8]) ∧ Below W.heap.size W w') := HP
          replace HEI : Hid (∀ W, Calls Try.prog 12 #[.int .i64 n] W fun e w' => e = .returned (.int .i64 2) ∧ W = w') := HEI
          clear EV RV PE PV h7 hsx hsy hsz hxw hyw
          go_wp2_with fail
          refine (HAW.out _).mono ?_
          rintro e v1 ⟨rfl, hb1⟩
          replace bX := bX.below hb1
          replace bY := bY.below hb1
          replace hB0 := hB0.trans (hb1.mono hB0.size)
          clear hb1
          obtain ⟨qX0, qX1, qX2, qX3, -, -, -, -, qX4⟩ := bX.cells4
          go_wp2_with fail
          clear qX0 qX1 qX2 qX3 qX4
          refine (HT.out _).mono ?_
          rintro e v2 ⟨rfl, hb2⟩
          replace bX := bX.below hb2
          replace bY := bY.below hb2
          replace hB0 := hB0.trans (hb2.mono hB0.size)
          clear hb2
          go_upto_region 4 with fail
          obtain ⟨v3, hv3⟩ : ∃ q : World, q = v2.alloc (.cells #[.int .i64 0, .int .i64 0, .int .i64 0, .int .i64 0] 23) := ⟨_, rfl⟩
          rw [← hv3]
          obtain ⟨g7, hg7⟩ : ∃ g, g = v2.heap.size := ⟨_, rfl⟩
          have b7 : Box v3 g7 23 #[.int .i64 0, .int .i64 0, .int .i64 0, .int .i64 0] := by rw [hv3]; exact Box.made hg7
          have hb3 : Below v2.heap.size v2 v3 := by rw [hv3]; (repeat (first | (with_reducible exact Below.refl _ _) | (with_reducible refine Go.below_drewN ?_ _) | (with_reducible refine Below.drew ?_) | (with_reducible refine Below.alloc ?_ (by first | exact Nat.le_refl _ | (simp; done) | (simp; omega) | omega) _) | (with_reducible refine Below.setCell ?_ (by first | exact Nat.le_refl _ | (simp; done) | (simp; omega) | omega) _)))
          rw [← hg7]
          replace bX := bX.below hb3
          replace bY := bY.below hb3
          replace hB0 := hB0.trans (hb3.mono hB0.size)
          clear hb3 hv3 hg7
          obtain ⟨qX0, qX1, qX2, qX3, -, -, -, -, qX4⟩ := bX.cells4
          obtain ⟨qY0, qY1, qY2, qY3, -, -, -, -, qY4⟩ := bY.cells4
          go_wp2_with fail
          clear qX0 qX1 qX2 qX3 qX4 qY0 qY1 qY2 qY3 qY4
          refine (HP.out _).mono ?_
          rintro e v4 ⟨rfl, hb4⟩
          replace bX := bX.below hb4
          replace bY := bY.below hb4
          replace b7 := b7.below hb4
          replace hB0 := hB0.trans (hb4.mono hB0.size)
          clear hb4
          go_upto_region 5 with fail
          obtain ⟨v5, hv5⟩ : ∃ q : World, q = v4.alloc (.cells #[.int .i64 0, .int .i64 0, .int .i64 0, .int .i64 0] 23) := ⟨_, rfl⟩
          rw [← hv5]
          obtain ⟨g9, hg9⟩ : ∃ g, g = v4.heap.size := ⟨_, rfl⟩
          have b9 : Box v5 g9 23 #[.int .i64 0, .int .i64 0, .int .i64 0, .int .i64 0] := by rw [hv5]; exact Box.made hg9
          have hb5 : Below v4.heap.size v4 v5 := by rw [hv5]; (repeat (first | (with_reducible exact Below.refl _ _) | (with_reducible refine Go.below_drewN ?_ _) | (with_reducible refine Below.drew ?_) | (with_reducible refine Below.alloc ?_ (by first | exact Nat.le_refl _ | (simp; done) | (simp; omega) | omega) _) | (with_reducible refine Below.setCell ?_ (by first | exact Nat.le_refl _ | (simp; done) | (simp; omega) | omega) _)))
          rw [← hg9]
          replace bX := bX.below hb5
          replace bY := bY.below hb5
          replace b7 := b7.below hb5
          replace hB0 := hB0.trans (hb5.mono hB0.size)
          clear hb5 hv5 hg9
          obtain ⟨qX0, qX1, qX2, qX3, -, -, -, -, qX4⟩ := bX.cells4
          go_wp2_with fail
          clear qX0 qX1 qX2 qX3 qX4
          refine (HSX.out _).mono ?_
          rintro e v6 ⟨rfl, hb6⟩
          replace bX := bX.below hb6
          replace bY := bY.below hb6
          replace b7 := b7.below hb6
          replace b9 := b9.below hb6
          replace hB0 := hB0.trans (hb6.mono hB0.size)
          clear hb6
          obtain ⟨q70, q71, q72, q73, -, -, -, -, q74⟩ := b7.cells4
          obtain ⟨q90, q91, q92, q93, -, -, -, -, q94⟩ := b9.cells4
          obtain ⟨qY0, qY1, qY2, qY3, -, -, -, -, qY4⟩ := bY.cells4
          go_wp2_with (first | (go_at_call 12; refine (HEI.out _).mono ?_; rintro e w' ⟨rfl, rfl⟩) | (refine wpList_readTo rfl (some 42) rfl (.int .i64 2) (by kernel_rfl) ?_))
          clear q70 q71 q72 q73 q74 q90 q91 q92 q93 q94 qY0 qY1 qY2 qY3 qY4
          refine (HSY.out _).mono ?_
          rintro e v7 ⟨rfl, hb7⟩
          replace bX := bX.below hb7
          replace bY := bY.below hb7
          replace b7 := b7.below hb7
          replace b9 := b9.below hb7
          replace hB0 := hB0.trans (hb7.mono hB0.size)
          clear hb7
          obtain ⟨q90, q91, q92, q93, -, -, -, -, q94⟩ := b9.cells4
          obtain ⟨qX0, qX1, qX2, qX3, -, -, -, -, qX4⟩ := bX.cells4
          obtain ⟨qY0, qY1, qY2, qY3, -, -, -, -, qY4⟩ := bY.cells4
          go_wp2_with fail
          clear q90 q91 q92 q93 q94 qX0 qX1 qX2 qX3 qX4 qY0 qY1 qY2 qY3 qY4
          refine (HPR.out _).mono ?_
          rintro e v8 ⟨rfl, hb8⟩
          replace bX := bX.below hb8
          replace bY := bY.below hb8
          replace b7 := b7.below hb8
          replace b9 := b9.below hb8
          replace hB0 := hB0.trans (hb8.mono hB0.size)
          clear hb8
          go_upto_region 17 with fail
          obtain ⟨v9, hv9⟩ : ∃ q : World, q = v8.alloc (.cells #[.int .i64 z.a, .int .i64 z.b, .int .i64 z.c, .int .i64 z.d] 23) := ⟨_, rfl⟩
          rw [← hv9]
          obtain ⟨g13, hg13⟩ : ∃ g, g = v8.heap.size := ⟨_, rfl⟩
          have b13 : Box v9 g13 23 #[.int .i64 z.a, .int .i64 z.b, .int .i64 z.c, .int .i64 z.d] := by rw [hv9]; exact Box.made hg13
          have hb9 : Below v8.heap.size v8 v9 := by rw [hv9]; (repeat (first | (with_reducible exact Below.refl _ _) | (with_reducible refine Go.below_drewN ?_ _) | (with_reducible refine Below.drew ?_) | (with_reducible refine Below.alloc ?_ (by first | exact Nat.le_refl _ | (simp; done) | (simp; omega) | omega) _) | (with_reducible refine Below.setCell ?_ (by first | exact Nat.le_refl _ | (simp; done) | (simp; omega) | omega) _)))
          rw [← hg13]
          replace bX := bX.below hb9
          replace bY := bY.below hb9
          replace b7 := b7.below hb9
          replace b9 := b9.below hb9
          replace hB0 := hB0.trans (hb9.mono hB0.size)
          clear hb9 hv9 hg13
          obtain ⟨q130, q131, q132, q133, -, -, -, -, q134⟩ := b13.cells4
          go_wp2_with fail
          clear q130 q131 q132 q133 q134
          refine (HSZ.out _).mono ?_
          rintro e v10 ⟨rfl, hb10⟩
          replace bX := bX.below hb10
          replace bY := bY.below hb10
          replace b7 := b7.below hb10
          replace b9 := b9.below hb10
          replace b13 := b13.below hb10
          replace hB0 := hB0.trans (hb10.mono hB0.size)
          clear hb10
          obtain ⟨q90, q91, q92, q93, -, -, -, -, q94⟩ := b9.cells4
          obtain ⟨q130, q131, q132, q133, -, -, -, -, q134⟩ := b13.cells4
          go_wp2_with fail
          go_ret
          exact ⟨rfl, hB0⟩
        · skip
          have EV : turnedE x n = 2 := by unfold turnedE twoE Num.err unI; rw [hsx, h7]; rfl
          have RV : turnedR x n = Num.zero := by unfold turnedR; rw [EV]; rfl
          have PE : prodE x y = 0 := by unfold prodE twoE smallE Num.err unI; rw [hsx, hsy, hsz]; rfl
          have PV : prodV x y = x.prod y := by unfold prodV; rw [PE]; rfl
          rw [EV, RV] at HT
          rw [PE, PV] at HP
          rw [hsx] at HSX
          rw [h7] at HEI
          rw [hsy] at HSY
          have hxw := Num.isIn_iff.1 hsx
          have hyw := Num.isIn_iff.1 hsy
          have HPR := hide (fun W => productR_any x y 1000000000 1000000000 W hxw hyw (by decide) (by decide) (by decide))
          have HSZ := hide (fun W => isSmall_any (x.prod y) W)
          rw [hsz] at HSZ
          generalize x.prod y = z at *
          replace HT : Hid (∀ W, Calls Try.prog 9 #[.agg #[.int .i64 x.a, .int .i64 x.b, .int .i64 x.c, .int .i64 x.d], .int .i64 n] W fun e w' => e = .returned (.tuple #[.agg #[.int .i64 0, .int .i64 0, .int .i64 0, .int .i64 0], .int .i64 2]) ∧ Below W.heap.size W w') := HT
          replace HP : Hid (∀ W, Calls Try.prog 10 #[.agg #[.int .i64 x.a, .int .i64 x.b, .int .i64 x.c, .int .i64 x.d], .agg #[.int .i64 y.a, .int .i64 y.b, .int .i64 y.c, .int .i64 y.d]] W fun e w' => e = .returned (.tuple #[.agg #[.int .i64 z.a, .int .i64 z.b, .int .i64 z.c, .int .i64 z.d], .int .i64 0]) ∧ Below W.heap.size W w') := HP
          replace HEI : Hid (∀ W, Calls Try.prog 12 #[.int .i64 n] W fun e w' => e = .returned (.int .i64 2) ∧ W = w') := HEI
          clear EV RV PE PV h7 hsx hsy hsz hxw hyw
          go_wp2_with fail
          refine (HAW.out _).mono ?_
          rintro e v1 ⟨rfl, hb1⟩
          replace bX := bX.below hb1
          replace bY := bY.below hb1
          replace hB0 := hB0.trans (hb1.mono hB0.size)
          clear hb1
          obtain ⟨qX0, qX1, qX2, qX3, -, -, -, -, qX4⟩ := bX.cells4
          go_wp2_with fail
          clear qX0 qX1 qX2 qX3 qX4
          refine (HT.out _).mono ?_
          rintro e v2 ⟨rfl, hb2⟩
          replace bX := bX.below hb2
          replace bY := bY.below hb2
          replace hB0 := hB0.trans (hb2.mono hB0.size)
          clear hb2
          go_upto_region 4 with fail
          obtain ⟨v3, hv3⟩ : ∃ q : World, q = v2.alloc (.cells #[.int .i64 0, .int .i64 0, .int .i64 0, .int .i64 0] 23) := ⟨_, rfl⟩
          rw [← hv3]
          obtain ⟨g7, hg7⟩ : ∃ g, g = v2.heap.size := ⟨_, rfl⟩
          have b7 : Box v3 g7 23 #[.int .i64 0, .int .i64 0, .int .i64 0, .int .i64 0] := by rw [hv3]; exact Box.made hg7
          have hb3 : Below v2.heap.size v2 v3 := by rw [hv3]; (repeat (first | (with_reducible exact Below.refl _ _) | (with_reducible refine Go.below_drewN ?_ _) | (with_reducible refine Below.drew ?_) | (with_reducible refine Below.alloc ?_ (by first | exact Nat.le_refl _ | (simp; done) | (simp; omega) | omega) _) | (with_reducible refine Below.setCell ?_ (by first | exact Nat.le_refl _ | (simp; done) | (simp; omega) | omega) _)))
          rw [← hg7]
          replace bX := bX.below hb3
          replace bY := bY.below hb3
          replace hB0 := hB0.trans (hb3.mono hB0.size)
          clear hb3 hv3 hg7
          obtain ⟨qX0, qX1, qX2, qX3, -, -, -, -, qX4⟩ := bX.cells4
          obtain ⟨qY0, qY1, qY2, qY3, -, -, -, -, qY4⟩ := bY.cells4
          go_wp2_with fail
          clear qX0 qX1 qX2 qX3 qX4 qY0 qY1 qY2 qY3 qY4
          refine (HP.out _).mono ?_
          rintro e v4 ⟨rfl, hb4⟩
          replace bX := bX.below hb4
          replace bY := bY.below hb4
          replace b7 := b7.below hb4
          replace hB0 := hB0.trans (hb4.mono hB0.size)
          clear hb4
          go_upto_region 5 with fail
          obtain ⟨v5, hv5⟩ : ∃ q : World, q = v4.alloc (.cells #[.int .i64 z.a, .int .i64 z.b, .int .i64 z.c, .int .i64 z.d] 23) := ⟨_, rfl⟩
          rw [← hv5]
          obtain ⟨g9, hg9⟩ : ∃ g, g = v4.heap.size := ⟨_, rfl⟩
          have b9 : Box v5 g9 23 #[.int .i64 z.a, .int .i64 z.b, .int .i64 z.c, .int .i64 z.d] := by rw [hv5]; exact Box.made hg9
          have hb5 : Below v4.heap.size v4 v5 := by rw [hv5]; (repeat (first | (with_reducible exact Below.refl _ _) | (with_reducible refine Go.below_drewN ?_ _) | (with_reducible refine Below.drew ?_) | (with_reducible refine Below.alloc ?_ (by first | exact Nat.le_refl _ | (simp; done) | (simp; omega) | omega) _) | (with_reducible refine Below.setCell ?_ (by first | exact Nat.le_refl _ | (simp; done) | (simp; omega) | omega) _)))
          rw [← hg9]
          replace bX := bX.below hb5
          replace bY := bY.below hb5
          replace b7 := b7.below hb5
          replace hB0 := hB0.trans (hb5.mono hB0.size)
          clear hb5 hv5 hg9
          obtain ⟨qX0, qX1, qX2, qX3, -, -, -, -, qX4⟩ := bX.cells4
          go_wp2_with fail
          clear qX0 qX1 qX2 qX3 qX4
          refine (HSX.out _).mono ?_
          rintro e v6 ⟨rfl, hb6⟩
          replace bX := bX.below hb6
          replace bY := bY.below hb6
          replace b7 := b7.below hb6
          replace b9 := b9.below hb6
          replace hB0 := hB0.trans (hb6.mono hB0.size)
          clear hb6
          obtain ⟨q70, q71, q72, q73, -, -, -, -, q74⟩ := b7.cells4
          obtain ⟨q90, q91, q92, q93, -, -, -, -, q94⟩ := b9.cells4
          obtain ⟨qY0, qY1, qY2, qY3, -, -, -, -, qY4⟩ := bY.cells4
          go_wp2_with (first | (go_at_call 12; refine (HEI.out _).mono ?_; rintro e w' ⟨rfl, rfl⟩) | (refine wpList_readTo rfl (some 42) rfl (.int .i64 2) (by kernel_rfl) ?_))
          clear q70 q71 q72 q73 q74 q90 q91 q92 q93 q94 qY0 qY1 qY2 qY3 qY4
          refine (HSY.out _).mono ?_
          rintro e v7 ⟨rfl, hb7⟩
          replace bX := bX.below hb7
          replace bY := bY.below hb7
          replace b7 := b7.below hb7
          replace b9 := b9.below hb7
          replace hB0 := hB0.trans (hb7.mono hB0.size)
          clear hb7
          obtain ⟨q90, q91, q92, q93, -, -, -, -, q94⟩ := b9.cells4
          obtain ⟨qX0, qX1, qX2, qX3, -, -, -, -, qX4⟩ := bX.cells4
          obtain ⟨qY0, qY1, qY2, qY3, -, -, -, -, qY4⟩ := bY.cells4
          go_wp2_with fail
          clear q90 q91 q92 q93 q94 qX0 qX1 qX2 qX3 qX4 qY0 qY1 qY2 qY3 qY4
          refine (HPR.out _).mono ?_
          rintro e v8 ⟨rfl, hb8⟩
          replace bX := bX.below hb8
          replace bY := bY.below hb8
          replace b7 := b7.below hb8
          replace b9 := b9.below hb8
          replace hB0 := hB0.trans (hb8.mono hB0.size)
          clear hb8
          go_upto_region 17 with fail
          obtain ⟨v9, hv9⟩ : ∃ q : World, q = v8.alloc (.cells #[.int .i64 z.a, .int .i64 z.b, .int .i64 z.c, .int .i64 z.d] 23) := ⟨_, rfl⟩
          rw [← hv9]
          obtain ⟨g13, hg13⟩ : ∃ g, g = v8.heap.size := ⟨_, rfl⟩
          have b13 : Box v9 g13 23 #[.int .i64 z.a, .int .i64 z.b, .int .i64 z.c, .int .i64 z.d] := by rw [hv9]; exact Box.made hg13
          have hb9 : Below v8.heap.size v8 v9 := by rw [hv9]; (repeat (first | (with_reducible exact Below.refl _ _) | (with_reducible refine Go.below_drewN ?_ _) | (with_reducible refine Below.drew ?_) | (with_reducible refine Below.alloc ?_ (by first | exact Nat.le_refl _ | (simp; done) | (simp; omega) | omega) _) | (with_reducible refine Below.setCell ?_ (by first | exact Nat.le_refl _ | (simp; done) | (simp; omega) | omega) _)))
          rw [← hg13]
          replace bX := bX.below hb9
          replace bY := bY.below hb9
          replace b7 := b7.below hb9
          replace b9 := b9.below hb9
          replace hB0 := hB0.trans (hb9.mono hB0.size)
          clear hb9 hv9 hg13
          obtain ⟨q130, q131, q132, q133, -, -, -, -, q134⟩ := b13.cells4
          go_wp2_with fail
          clear q130 q131 q132 q133 q134
          refine (HSZ.out _).mono ?_
          rintro e v10 ⟨rfl, hb10⟩
          replace bX := bX.below hb10
          replace bY := bY.below hb10
          replace b7 := b7.below hb10
          replace b9 := b9.below hb10
          replace b13 := b13.below hb10
          replace hB0 := hB0.trans (hb10.mono hB0.size)
          clear hb10
          obtain ⟨q90, q91, q92, q93, -, -, -, -, q94⟩ := b9.cells4
          obtain ⟨q130, q131, q132, q133, -, -, -, -, q134⟩ := b13.cells4
          go_wp2_with fail
          go_ret
          exact ⟨rfl, hB0⟩
    · cases hsy : y.isIn 1000000000
      · skip
        have EV : turnedE x n = 0 := by unfold turnedE twoE Num.err unI; rw [hsx, h7]; rfl
        have RV : turnedR x n = x.turns (n % 8).toNat := by unfold turnedR; rw [EV]; rfl
        have PE : prodE x y = 2 := by unfold prodE twoE smallE Num.err unI; rw [hsx, hsy]; rfl
        have PV : prodV x y = Num.zero := by unfold prodV; rw [PE]; rfl
        rw [EV, RV] at HT
        rw [PE, PV] at HP
        rw [hsx] at HSX
        rw [h7] at HEI
        rw [hsy] at HSY
        have hxw := Num.isIn_iff.1 hsx
        have HTR := hide (fun W => turnR_any x n W (hxw.more (by decide)))
        generalize x.turns (n % 8).toNat = t at *
        replace HT : Hid (∀ W, Calls Try.prog 9 #[.agg #[.int .i64 x.a, .int .i64 x.b, .int .i64 x.c, .int .i64 x.d], .int .i64 n] W fun e w' => e = .returned (.tuple #[.agg #[.int .i64 t.a, .int .i64 t.b, .int .i64 t.c, .int .i64 t.d], .int .i64 0]) ∧ Below W.heap.size W w') := HT
        replace HP : Hid (∀ W, Calls Try.prog 10 #[.agg #[.int .i64 x.a, .int .i64 x.b, .int .i64 x.c, .int .i64 x.d], .agg #[.int .i64 y.a, .int .i64 y.b, .int .i64 y.c, .int .i64 y.d]] W fun e w' => e = .returned (.tuple #[.agg #[.int .i64 0, .int .i64 0, .int .i64 0, .int .i64 0], .int .i64 2]) ∧ Below W.heap.size W w') := HP
        replace HEI : Hid (∀ W, Calls Try.prog 12 #[.int .i64 n] W fun e w' => e = .returned (.int .i64 0) ∧ W = w') := HEI
        clear EV RV PE PV h7 hsx hsy hxw
        go_wp2_with fail
        refine (HAW.out _).mono ?_
        rintro e v1 ⟨rfl, hb1⟩
        replace bX := bX.below hb1
        replace bY := bY.below hb1
        replace hB0 := hB0.trans (hb1.mono hB0.size)
        clear hb1
        obtain ⟨qX0, qX1, qX2, qX3, -, -, -, -, qX4⟩ := bX.cells4
        go_wp2_with fail
        clear qX0 qX1 qX2 qX3 qX4
        refine (HT.out _).mono ?_
        rintro e v2 ⟨rfl, hb2⟩
        replace bX := bX.below hb2
        replace bY := bY.below hb2
        replace hB0 := hB0.trans (hb2.mono hB0.size)
        clear hb2
        go_upto_region 4 with fail
        obtain ⟨v3, hv3⟩ : ∃ q : World, q = v2.alloc (.cells #[.int .i64 t.a, .int .i64 t.b, .int .i64 t.c, .int .i64 t.d] 23) := ⟨_, rfl⟩
        rw [← hv3]
        obtain ⟨g7, hg7⟩ : ∃ g, g = v2.heap.size := ⟨_, rfl⟩
        have b7 : Box v3 g7 23 #[.int .i64 t.a, .int .i64 t.b, .int .i64 t.c, .int .i64 t.d] := by rw [hv3]; exact Box.made hg7
        have hb3 : Below v2.heap.size v2 v3 := by rw [hv3]; (repeat (first | (with_reducible exact Below.refl _ _) | (with_reducible refine Go.below_drewN ?_ _) | (with_reducible refine Below.drew ?_) | (with_reducible refine Below.alloc ?_ (by first | exact Nat.le_refl _ | (simp; done) | (simp; omega) | omega) _) | (with_reducible refine Below.setCell ?_ (by first | exact Nat.le_refl _ | (simp; done) | (simp; omega) | omega) _)))
        rw [← hg7]
        replace bX := bX.below hb3
        replace bY := bY.below hb3
        replace hB0 := hB0.trans (hb3.mono hB0.size)
        clear hb3 hv3 hg7
        obtain ⟨qX0, qX1, qX2, qX3, -, -, -, -, qX4⟩ := bX.cells4
        obtain ⟨qY0, qY1, qY2, qY3, -, -, -, -, qY4⟩ := bY.cells4
        go_wp2_with fail
        clear qX0 qX1 qX2 qX3 qX4 qY0 qY1 qY2 qY3 qY4
        refine (HP.out _).mono ?_
        rintro e v4 ⟨rfl, hb4⟩
        replace bX := bX.below hb4
        replace bY := bY.below hb4
        replace b7 := b7.below hb4
        replace hB0 := hB0.trans (hb4.mono hB0.size)
        clear hb4
        go_upto_region 5 with fail
        obtain ⟨v5, hv5⟩ : ∃ q : World, q = v4.alloc (.cells #[.int .i64 0, .int .i64 0, .int .i64 0, .int .i64 0] 23) := ⟨_, rfl⟩
        rw [← hv5]
        obtain ⟨g9, hg9⟩ : ∃ g, g = v4.heap.size := ⟨_, rfl⟩
        have b9 : Box v5 g9 23 #[.int .i64 0, .int .i64 0, .int .i64 0, .int .i64 0] := by rw [hv5]; exact Box.made hg9
        have hb5 : Below v4.heap.size v4 v5 := by rw [hv5]; (repeat (first | (with_reducible exact Below.refl _ _) | (with_reducible refine Go.below_drewN ?_ _) | (with_reducible refine Below.drew ?_) | (with_reducible refine Below.alloc ?_ (by first | exact Nat.le_refl _ | (simp; done) | (simp; omega) | omega) _) | (with_reducible refine Below.setCell ?_ (by first | exact Nat.le_refl _ | (simp; done) | (simp; omega) | omega) _)))
        rw [← hg9]
        replace bX := bX.below hb5
        replace bY := bY.below hb5
        replace b7 := b7.below hb5
        replace hB0 := hB0.trans (hb5.mono hB0.size)
        clear hb5 hv5 hg9
        obtain ⟨qX0, qX1, qX2, qX3, -, -, -, -, qX4⟩ := bX.cells4
        go_wp2_with fail
        clear qX0 qX1 qX2 qX3 qX4
        refine (HSX.out _).mono ?_
        rintro e v6 ⟨rfl, hb6⟩
        replace bX := bX.below hb6
        replace bY := bY.below hb6
        replace b7 := b7.below hb6
        replace b9 := b9.below hb6
        replace hB0 := hB0.trans (hb6.mono hB0.size)
        clear hb6
        obtain ⟨q70, q71, q72, q73, -, -, -, -, q74⟩ := b7.cells4
        obtain ⟨q90, q91, q92, q93, -, -, -, -, q94⟩ := b9.cells4
        obtain ⟨qX0, qX1, qX2, qX3, -, -, -, -, qX4⟩ := bX.cells4
        obtain ⟨qY0, qY1, qY2, qY3, -, -, -, -, qY4⟩ := bY.cells4
        go_wp2_with (go_at_call 12; refine (HEI.out _).mono ?_; rintro e w' ⟨rfl, rfl⟩)
        clear q70 q71 q72 q73 q74 q90 q91 q92 q93 q94 qX0 qX1 qX2 qX3 qX4 qY0 qY1 qY2 qY3 qY4
        clear HEI HT HP HSX HAW
        refine wp_region_held_drew (S := fun w' => Below v6.heap.size v6 w') (by kernel_rfl) (Below.refl _ _).drew (fun hHeld => ?_)
        refine wpAnyH_take (i := 0) (oi := ⟨some 49, _, _, _, _, _⟩) (v := ?_) rfl (by kernel_rfl) (by kernel_rfl) (by kernel_rfl) (fun _ _ _ h => h) (Or.inl ⟨by rfl, ?_⟩) (by assumption) ?_
        rotate_left
        · (intro w' hSw; (try dsimp only at hSw); go_simp <;> (with_reducible rfl))
        try simp only [Act.put, List.setIfInBounds_toArray, List.set_cons_zero, List.set_cons_succ]
        refine wpAnyH_take (i := 1) (oi := ⟨some 50, _, _, _, _, _⟩) (v := ?_) rfl (by kernel_rfl) (by kernel_rfl) (by kernel_rfl) (fun _ _ _ h => h) (Or.inl ⟨by rfl, ?_⟩) (by assumption) ?_
        rotate_left
        · (intro w' hSw; (try dsimp only at hSw); go_simp <;> (with_reducible rfl))
        try simp only [Act.put, List.setIfInBounds_toArray, List.set_cons_zero, List.set_cons_succ]
        refine wpAnyH_take (i := 2) (oi := ⟨some 51, _, _, _, _, _⟩) (v := ?_) rfl (by kernel_rfl) (by kernel_rfl) (by kernel_rfl) (fun _ _ _ h => h) (Or.inl ⟨by rfl, ?_⟩) (by assumption) ?_
        rotate_left
        · (intro w' hSw; (try dsimp only at hSw); go_simp <;> (with_reducible rfl))
        try simp only [Act.put, List.setIfInBounds_toArray, List.set_cons_zero, List.set_cons_succ]
        refine wpAnyH_take (i := 3) (oi := ⟨some 52, _, _, _, _, _⟩) (v := .agg #[.int .i64 t.a, .int .i64 t.b, .int .i64 t.c, .int .i64 t.d]) rfl (by kernel_rfl) (by kernel_rfl) (by kernel_rfl) (fun _ _ _ h => h) (Or.inl ⟨by rfl, fun w' hSw => exec_load4 rfl (b7.below hSw)⟩) (by assumption) ?_
        try simp only [Act.put, List.setIfInBounds_toArray, List.set_cons_zero, List.set_cons_succ]
        refine wpAnyH_take (i := 4) (oi := ⟨some 53, _, _, _, _, _⟩) (v := .agg #[.int .i64 x.a, .int .i64 x.b, .int .i64 x.c, .int .i64 x.d]) rfl (by kernel_rfl) (by kernel_rfl) (by kernel_rfl) (fun _ _ _ h => h) (Or.inl ⟨by rfl, fun w' hSw => exec_load4 rfl (bX.below hSw)⟩) (by assumption) ?_
        try simp only [Act.put, List.setIfInBounds_toArray, List.set_cons_zero, List.set_cons_succ]
        refine wpAnyH_take (i := 5) (oi := ⟨some 54, _, _, _, _, _⟩) (v := ?_) rfl (by kernel_rfl) (by kernel_rfl) (by kernel_rfl) (fun _ _ _ h => h) (Or.inl ⟨by rfl, ?_⟩) (by assumption) ?_
        rotate_left
        · (intro w' hSw; (try dsimp only at hSw); go_simp <;> (with_reducible rfl))
        try simp only [Act.put, List.setIfInBounds_toArray, List.set_cons_zero, List.set_cons_succ]
        refine wpAnyH_ready (rs := [6]) (by kernel_rfl) (by simp) ?_
        refine AllReadyH.cons (o := ⟨some 55, _, _, _, _, _⟩) rfl (fun K' hK => ?_) AllReadyH.nil
        go_simp
        go_at_call 13
        refine (HTR.out _).mono ?_
        rintro e vT ⟨rfl, hbT⟩
        have hcT : Below v6.heap.size v6 vT := by first | exact hbT | exact below_of_drew hbT
        go_wp2_with fail
        refine hK.out _ _ hcT (fun hHeld => ?_)
        clear hK K'
        try simp only [Act.put, List.setIfInBounds_toArray, List.set_cons_zero, List.set_cons_succ]
        refine wpAnyH_take (i := 7) (oi := ⟨some 56, _, _, _, _, _⟩) (v := ?_) rfl (by kernel_rfl) (by kernel_rfl) (by kernel_rfl) (fun _ _ _ h => h) (Or.inl ⟨by rfl, ?_⟩) (by assumption) ?_
        rotate_left
        · (intro w' hSw; (try dsimp only at hSw); go_simp <;> (with_reducible rfl))
        try simp only [Act.put, List.setIfInBounds_toArray, List.set_cons_zero, List.set_cons_succ]
        refine wpAnyH_take (i := 8) (oi := ⟨some 57, _, _, _, _, _⟩) (v := ?_) rfl (by kernel_rfl) (by kernel_rfl) (by kernel_rfl) (fun _ _ _ h => h) (Or.inl ⟨by rfl, ?_⟩) (by assumption) ?_
        rotate_left
        · (intro w' hSw; (try dsimp only at hSw); go_simp <;> (with_reducible rfl))
        try simp only [Act.put, List.setIfInBounds_toArray, List.set_cons_zero, List.set_cons_succ]
        refine wpAnyH_done (by kernel_rfl) ?_ _
        replace bX := bX.below hcT
        replace bY := bY.below hcT
        replace b7 := b7.below hcT
        replace b9 := b9.below hcT
        replace hB0 := hB0.trans (hcT.mono hB0.size)
        clear hcT hbT
        obtain ⟨qY0, qY1, qY2, qY3, -, -, -, -, qY4⟩ := bY.cells4
        go_wp2_with fail
        clear qY0 qY1 qY2 qY3 qY4
        refine (HSY.out _).mono ?_
        rintro e v7 ⟨rfl, hb7⟩
        replace bX := bX.below hb7
        replace bY := bY.below hb7
        replace b7 := b7.below hb7
        replace b9 := b9.below hb7
        replace hB0 := hB0.trans (hb7.mono hB0.size)
        clear hb7
        obtain ⟨q90, q91, q92, q93, -, -, -, -, q94⟩ := b9.cells4
        go_wp2_with fail
        go_ret
        exact ⟨rfl, hB0⟩
      · cases hsz : (x.prod y).isIn 1000000000
        · skip
          have EV : turnedE x n = 0 := by unfold turnedE twoE Num.err unI; rw [hsx, h7]; rfl
          have RV : turnedR x n = x.turns (n % 8).toNat := by unfold turnedR; rw [EV]; rfl
          have PE : prodE x y = 8 := by unfold prodE twoE smallE Num.err unI; rw [hsx, hsy, hsz]; rfl
          have PV : prodV x y = Num.zero := by unfold prodV; rw [PE]; rfl
          rw [EV, RV] at HT
          rw [PE, PV] at HP
          rw [hsx] at HSX
          rw [h7] at HEI
          rw [hsy] at HSY
          have hxw := Num.isIn_iff.1 hsx
          have hyw := Num.isIn_iff.1 hsy
          have HPR := hide (fun W => productR_any x y 1000000000 1000000000 W hxw hyw (by decide) (by decide) (by decide))
          have HSZ := hide (fun W => isSmall_any (x.prod y) W)
          rw [hsz] at HSZ
          generalize x.prod y = z at *
          have HTR := hide (fun W => turnR_any x n W (hxw.more (by decide)))
          generalize x.turns (n % 8).toNat = t at *
          replace HT : Hid (∀ W, Calls Try.prog 9 #[.agg #[.int .i64 x.a, .int .i64 x.b, .int .i64 x.c, .int .i64 x.d], .int .i64 n] W fun e w' => e = .returned (.tuple #[.agg #[.int .i64 t.a, .int .i64 t.b, .int .i64 t.c, .int .i64 t.d], .int .i64 0]) ∧ Below W.heap.size W w') := HT
          replace HP : Hid (∀ W, Calls Try.prog 10 #[.agg #[.int .i64 x.a, .int .i64 x.b, .int .i64 x.c, .int .i64 x.d], .agg #[.int .i64 y.a, .int .i64 y.b, .int .i64 y.c, .int .i64 y.d]] W fun e w' => e = .returned (.tuple #[.agg #[.int .i64 0, .int .i64 0, .int .i64 0, .int .i64 0], .int .i64 8]) ∧ Below W.heap.size W w') := HP
          replace HEI : Hid (∀ W, Calls Try.prog 12 #[.int .i64 n] W fun e w' => e = .returned (.int .i64 0) ∧ W = w') := HEI
          clear EV RV PE PV h7 hsx hsy hsz hxw hyw
          go_wp2_with fail
          refine (HAW.out _).mono ?_
          rintro e v1 ⟨rfl, hb1⟩
          replace bX := bX.below hb1
          replace bY := bY.below hb1
          replace hB0 := hB0.trans (hb1.mono hB0.size)
          clear hb1
          obtain ⟨qX0, qX1, qX2, qX3, -, -, -, -, qX4⟩ := bX.cells4
          go_wp2_with fail
          clear qX0 qX1 qX2 qX3 qX4
          refine (HT.out _).mono ?_
          rintro e v2 ⟨rfl, hb2⟩
          replace bX := bX.below hb2
          replace bY := bY.below hb2
          replace hB0 := hB0.trans (hb2.mono hB0.size)
          clear hb2
          go_upto_region 4 with fail
          obtain ⟨v3, hv3⟩ : ∃ q : World, q = v2.alloc (.cells #[.int .i64 t.a, .int .i64 t.b, .int .i64 t.c, .int .i64 t.d] 23) := ⟨_, rfl⟩
          rw [← hv3]
          obtain ⟨g7, hg7⟩ : ∃ g, g = v2.heap.size := ⟨_, rfl⟩
          have b7 : Box v3 g7 23 #[.int .i64 t.a, .int .i64 t.b, .int .i64 t.c, .int .i64 t.d] := by rw [hv3]; exact Box.made hg7
          have hb3 : Below v2.heap.size v2 v3 := by rw [hv3]; (repeat (first | (with_reducible exact Below.refl _ _) | (with_reducible refine Go.below_drewN ?_ _) | (with_reducible refine Below.drew ?_) | (with_reducible refine Below.alloc ?_ (by first | exact Nat.le_refl _ | (simp; done) | (simp; omega) | omega) _) | (with_reducible refine Below.setCell ?_ (by first | exact Nat.le_refl _ | (simp; done) | (simp; omega) | omega) _)))
          rw [← hg7]
          replace bX := bX.below hb3
          replace bY := bY.below hb3
          replace hB0 := hB0.trans (hb3.mono hB0.size)
          clear hb3 hv3 hg7
          obtain ⟨qX0, qX1, qX2, qX3, -, -, -, -, qX4⟩ := bX.cells4
          obtain ⟨qY0, qY1, qY2, qY3, -, -, -, -, qY4⟩ := bY.cells4
          go_wp2_with fail
          clear qX0 qX1 qX2 qX3 qX4 qY0 qY1 qY2 qY3 qY4
          refine (HP.out _).mono ?_
          rintro e v4 ⟨rfl, hb4⟩
          replace bX := bX.below hb4
          replace bY := bY.below hb4
          replace b7 := b7.below hb4
          replace hB0 := hB0.trans (hb4.mono hB0.size)
          clear hb4
          go_upto_region 5 with fail
          obtain ⟨v5, hv5⟩ : ∃ q : World, q = v4.alloc (.cells #[.int .i64 0, .int .i64 0, .int .i64 0, .int .i64 0] 23) := ⟨_, rfl⟩
          rw [← hv5]
          obtain ⟨g9, hg9⟩ : ∃ g, g = v4.heap.size := ⟨_, rfl⟩
          have b9 : Box v5 g9 23 #[.int .i64 0, .int .i64 0, .int .i64 0, .int .i64 0] := by rw [hv5]; exact Box.made hg9
          have hb5 : Below v4.heap.size v4 v5 := by rw [hv5]; (repeat (first | (with_reducible exact Below.refl _ _) | (with_reducible refine Go.below_drewN ?_ _) | (with_reducible refine Below.drew ?_) | (with_reducible refine Below.alloc ?_ (by first | exact Nat.le_refl _ | (simp; done) | (simp; omega) | omega) _) | (with_reducible refine Below.setCell ?_ (by first | exact Nat.le_refl _ | (simp; done) | (simp; omega) | omega) _)))
          rw [← hg9]
          replace bX := bX.below hb5
          replace bY := bY.below hb5
          replace b7 := b7.below hb5
          replace hB0 := hB0.trans (hb5.mono hB0.size)
          clear hb5 hv5 hg9
          obtain ⟨qX0, qX1, qX2, qX3, -, -, -, -, qX4⟩ := bX.cells4
          go_wp2_with fail
          clear qX0 qX1 qX2 qX3 qX4
          refine (HSX.out _).mono ?_
          rintro e v6 ⟨rfl, hb6⟩
          replace bX := bX.below hb6
          replace bY := bY.below hb6
          replace b7 := b7.below hb6
          replace b9 := b9.below hb6
          replace hB0 := hB0.trans (hb6.mono hB0.size)
          clear hb6
          obtain ⟨q70, q71, q72, q73, -, -, -, -, q74⟩ := b7.cells4
          obtain ⟨q90, q91, q92, q93, -, -, -, -, q94⟩ := b9.cells4
          obtain ⟨qX0, qX1, qX2, qX3, -, -, -, -, qX4⟩ := bX.cells4
          obtain ⟨qY0, qY1, qY2, qY3, -, -, -, -, qY4⟩ := bY.cells4
          go_wp2_with (go_at_call 12; refine (HEI.out _).mono ?_; rintro e w' ⟨rfl, rfl⟩)
          clear q70 q71 q72 q73 q74 q90 q91 q92 q93 q94 qX0 qX1 qX2 qX3 qX4 qY0 qY1 qY2 qY3 qY4
          clear HEI HT HP HSX HAW
          refine wp_region_held_drew (S := fun w' => Below v6.heap.size v6 w') (by kernel_rfl) (Below.refl _ _).drew (fun hHeld => ?_)
          refine wpAnyH_take (i := 0) (oi := ⟨some 49, _, _, _, _, _⟩) (v := ?_) rfl (by kernel_rfl) (by kernel_rfl) (by kernel_rfl) (fun _ _ _ h => h) (Or.inl ⟨by rfl, ?_⟩) (by assumption) ?_
          rotate_left
          · (intro w' hSw; (try dsimp only at hSw); go_simp <;> (with_reducible rfl))
          try simp only [Act.put, List.setIfInBounds_toArray, List.set_cons_zero, List.set_cons_succ]
          refine wpAnyH_take (i := 1) (oi := ⟨some 50, _, _, _, _, _⟩) (v := ?_) rfl (by kernel_rfl) (by kernel_rfl) (by kernel_rfl) (fun _ _ _ h => h) (Or.inl ⟨by rfl, ?_⟩) (by assumption) ?_
          rotate_left
          · (intro w' hSw; (try dsimp only at hSw); go_simp <;> (with_reducible rfl))
          try simp only [Act.put, List.setIfInBounds_toArray, List.set_cons_zero, List.set_cons_succ]
          refine wpAnyH_take (i := 2) (oi := ⟨some 51, _, _, _, _, _⟩) (v := ?_) rfl (by kernel_rfl) (by kernel_rfl) (by kernel_rfl) (fun _ _ _ h => h) (Or.inl ⟨by rfl, ?_⟩) (by assumption) ?_
          rotate_left
          · (intro w' hSw; (try dsimp only at hSw); go_simp <;> (with_reducible rfl))
          try simp only [Act.put, List.setIfInBounds_toArray, List.set_cons_zero, List.set_cons_succ]
          refine wpAnyH_take (i := 3) (oi := ⟨some 52, _, _, _, _, _⟩) (v := .agg #[.int .i64 t.a, .int .i64 t.b, .int .i64 t.c, .int .i64 t.d]) rfl (by kernel_rfl) (by kernel_rfl) (by kernel_rfl) (fun _ _ _ h => h) (Or.inl ⟨by rfl, fun w' hSw => exec_load4 rfl (b7.below hSw)⟩) (by assumption) ?_
          try simp only [Act.put, List.setIfInBounds_toArray, List.set_cons_zero, List.set_cons_succ]
          refine wpAnyH_take (i := 4) (oi := ⟨some 53, _, _, _, _, _⟩) (v := .agg #[.int .i64 x.a, .int .i64 x.b, .int .i64 x.c, .int .i64 x.d]) rfl (by kernel_rfl) (by kernel_rfl) (by kernel_rfl) (fun _ _ _ h => h) (Or.inl ⟨by rfl, fun w' hSw => exec_load4 rfl (bX.below hSw)⟩) (by assumption) ?_
          try simp only [Act.put, List.setIfInBounds_toArray, List.set_cons_zero, List.set_cons_succ]
          refine wpAnyH_take (i := 5) (oi := ⟨some 54, _, _, _, _, _⟩) (v := ?_) rfl (by kernel_rfl) (by kernel_rfl) (by kernel_rfl) (fun _ _ _ h => h) (Or.inl ⟨by rfl, ?_⟩) (by assumption) ?_
          rotate_left
          · (intro w' hSw; (try dsimp only at hSw); go_simp <;> (with_reducible rfl))
          try simp only [Act.put, List.setIfInBounds_toArray, List.set_cons_zero, List.set_cons_succ]
          refine wpAnyH_ready (rs := [6]) (by kernel_rfl) (by simp) ?_
          refine AllReadyH.cons (o := ⟨some 55, _, _, _, _, _⟩) rfl (fun K' hK => ?_) AllReadyH.nil
          go_simp
          go_at_call 13
          refine (HTR.out _).mono ?_
          rintro e vT ⟨rfl, hbT⟩
          have hcT : Below v6.heap.size v6 vT := by first | exact hbT | exact below_of_drew hbT
          go_wp2_with fail
          refine hK.out _ _ hcT (fun hHeld => ?_)
          clear hK K'
          try simp only [Act.put, List.setIfInBounds_toArray, List.set_cons_zero, List.set_cons_succ]
          refine wpAnyH_take (i := 7) (oi := ⟨some 56, _, _, _, _, _⟩) (v := ?_) rfl (by kernel_rfl) (by kernel_rfl) (by kernel_rfl) (fun _ _ _ h => h) (Or.inl ⟨by rfl, ?_⟩) (by assumption) ?_
          rotate_left
          · (intro w' hSw; (try dsimp only at hSw); go_simp <;> (with_reducible rfl))
          try simp only [Act.put, List.setIfInBounds_toArray, List.set_cons_zero, List.set_cons_succ]
          refine wpAnyH_take (i := 8) (oi := ⟨some 57, _, _, _, _, _⟩) (v := ?_) rfl (by kernel_rfl) (by kernel_rfl) (by kernel_rfl) (fun _ _ _ h => h) (Or.inl ⟨by rfl, ?_⟩) (by assumption) ?_
          rotate_left
          · (intro w' hSw; (try dsimp only at hSw); go_simp <;> (with_reducible rfl))
          try simp only [Act.put, List.setIfInBounds_toArray, List.set_cons_zero, List.set_cons_succ]
          refine wpAnyH_done (by kernel_rfl) ?_ _
          replace bX := bX.below hcT
          replace bY := bY.below hcT
          replace b7 := b7.below hcT
          replace b9 := b9.below hcT
          replace hB0 := hB0.trans (hcT.mono hB0.size)
          clear hcT hbT
          obtain ⟨qY0, qY1, qY2, qY3, -, -, -, -, qY4⟩ := bY.cells4
          go_wp2_with fail
          clear qY0 qY1 qY2 qY3 qY4
          refine (HSY.out _).mono ?_
          rintro e v7 ⟨rfl, hb7⟩
          replace bX := bX.below hb7
          replace bY := bY.below hb7
          replace b7 := b7.below hb7
          replace b9 := b9.below hb7
          replace hB0 := hB0.trans (hb7.mono hB0.size)
          clear hb7
          obtain ⟨q90, q91, q92, q93, -, -, -, -, q94⟩ := b9.cells4
          obtain ⟨qX0, qX1, qX2, qX3, -, -, -, -, qX4⟩ := bX.cells4
          obtain ⟨qY0, qY1, qY2, qY3, -, -, -, -, qY4⟩ := bY.cells4
          go_wp2_with fail
          clear q90 q91 q92 q93 q94 qX0 qX1 qX2 qX3 qX4 qY0 qY1 qY2 qY3 qY4
          refine (HPR.out _).mono ?_
          rintro e v8 ⟨rfl, hb8⟩
          replace bX := bX.below hb8
          replace bY := bY.below hb8
          replace b7 := b7.below hb8
          replace b9 := b9.below hb8
          replace hB0 := hB0.trans (hb8.mono hB0.size)
          clear hb8
          go_upto_region 17 with fail
          obtain ⟨v9, hv9⟩ : ∃ q : World, q = v8.alloc (.cells #[.int .i64 z.a, .int .i64 z.b, .int .i64 z.c, .int .i64 z.d] 23) := ⟨_, rfl⟩
          rw [← hv9]
          obtain ⟨g13, hg13⟩ : ∃ g, g = v8.heap.size := ⟨_, rfl⟩
          have b13 : Box v9 g13 23 #[.int .i64 z.a, .int .i64 z.b, .int .i64 z.c, .int .i64 z.d] := by rw [hv9]; exact Box.made hg13
          have hb9 : Below v8.heap.size v8 v9 := by rw [hv9]; (repeat (first | (with_reducible exact Below.refl _ _) | (with_reducible refine Go.below_drewN ?_ _) | (with_reducible refine Below.drew ?_) | (with_reducible refine Below.alloc ?_ (by first | exact Nat.le_refl _ | (simp; done) | (simp; omega) | omega) _) | (with_reducible refine Below.setCell ?_ (by first | exact Nat.le_refl _ | (simp; done) | (simp; omega) | omega) _)))
          rw [← hg13]
          replace bX := bX.below hb9
          replace bY := bY.below hb9
          replace b7 := b7.below hb9
          replace b9 := b9.below hb9
          replace hB0 := hB0.trans (hb9.mono hB0.size)
          clear hb9 hv9 hg13
          obtain ⟨q130, q131, q132, q133, -, -, -, -, q134⟩ := b13.cells4
          go_wp2_with fail
          clear q130 q131 q132 q133 q134
          refine (HSZ.out _).mono ?_
          rintro e v10 ⟨rfl, hb10⟩
          replace bX := bX.below hb10
          replace bY := bY.below hb10
          replace b7 := b7.below hb10
          replace b9 := b9.below hb10
          replace b13 := b13.below hb10
          replace hB0 := hB0.trans (hb10.mono hB0.size)
          clear hb10
          obtain ⟨q90, q91, q92, q93, -, -, -, -, q94⟩ := b9.cells4
          obtain ⟨q130, q131, q132, q133, -, -, -, -, q134⟩ := b13.cells4
          go_wp2_with fail
          go_ret
          exact ⟨rfl, hB0⟩
        · skip
          have EV : turnedE x n = 0 := by unfold turnedE twoE Num.err unI; rw [hsx, h7]; rfl
          have RV : turnedR x n = x.turns (n % 8).toNat := by unfold turnedR; rw [EV]; rfl
          have PE : prodE x y = 0 := by unfold prodE twoE smallE Num.err unI; rw [hsx, hsy, hsz]; rfl
          have PV : prodV x y = x.prod y := by unfold prodV; rw [PE]; rfl
          rw [EV, RV] at HT
          rw [PE, PV] at HP
          rw [hsx] at HSX
          rw [h7] at HEI
          rw [hsy] at HSY
          have hxw := Num.isIn_iff.1 hsx
          have hyw := Num.isIn_iff.1 hsy
          have HPR := hide (fun W => productR_any x y 1000000000 1000000000 W hxw hyw (by decide) (by decide) (by decide))
          have HSZ := hide (fun W => isSmall_any (x.prod y) W)
          rw [hsz] at HSZ
          generalize x.prod y = z at *
          have HTR := hide (fun W => turnR_any x n W (hxw.more (by decide)))
          generalize x.turns (n % 8).toNat = t at *
          replace HT : Hid (∀ W, Calls Try.prog 9 #[.agg #[.int .i64 x.a, .int .i64 x.b, .int .i64 x.c, .int .i64 x.d], .int .i64 n] W fun e w' => e = .returned (.tuple #[.agg #[.int .i64 t.a, .int .i64 t.b, .int .i64 t.c, .int .i64 t.d], .int .i64 0]) ∧ Below W.heap.size W w') := HT
          replace HP : Hid (∀ W, Calls Try.prog 10 #[.agg #[.int .i64 x.a, .int .i64 x.b, .int .i64 x.c, .int .i64 x.d], .agg #[.int .i64 y.a, .int .i64 y.b, .int .i64 y.c, .int .i64 y.d]] W fun e w' => e = .returned (.tuple #[.agg #[.int .i64 z.a, .int .i64 z.b, .int .i64 z.c, .int .i64 z.d], .int .i64 0]) ∧ Below W.heap.size W w') := HP
          replace HEI : Hid (∀ W, Calls Try.prog 12 #[.int .i64 n] W fun e w' => e = .returned (.int .i64 0) ∧ W = w') := HEI
          clear EV RV PE PV h7 hsx hsy hsz hxw hyw
          go_wp2_with fail
          refine (HAW.out _).mono ?_
          rintro e v1 ⟨rfl, hb1⟩
          replace bX := bX.below hb1
          replace bY := bY.below hb1
          replace hB0 := hB0.trans (hb1.mono hB0.size)
          clear hb1
          obtain ⟨qX0, qX1, qX2, qX3, -, -, -, -, qX4⟩ := bX.cells4
          go_wp2_with fail
          clear qX0 qX1 qX2 qX3 qX4
          refine (HT.out _).mono ?_
          rintro e v2 ⟨rfl, hb2⟩
          replace bX := bX.below hb2
          replace bY := bY.below hb2
          replace hB0 := hB0.trans (hb2.mono hB0.size)
          clear hb2
          go_upto_region 4 with fail
          obtain ⟨v3, hv3⟩ : ∃ q : World, q = v2.alloc (.cells #[.int .i64 t.a, .int .i64 t.b, .int .i64 t.c, .int .i64 t.d] 23) := ⟨_, rfl⟩
          rw [← hv3]
          obtain ⟨g7, hg7⟩ : ∃ g, g = v2.heap.size := ⟨_, rfl⟩
          have b7 : Box v3 g7 23 #[.int .i64 t.a, .int .i64 t.b, .int .i64 t.c, .int .i64 t.d] := by rw [hv3]; exact Box.made hg7
          have hb3 : Below v2.heap.size v2 v3 := by rw [hv3]; (repeat (first | (with_reducible exact Below.refl _ _) | (with_reducible refine Go.below_drewN ?_ _) | (with_reducible refine Below.drew ?_) | (with_reducible refine Below.alloc ?_ (by first | exact Nat.le_refl _ | (simp; done) | (simp; omega) | omega) _) | (with_reducible refine Below.setCell ?_ (by first | exact Nat.le_refl _ | (simp; done) | (simp; omega) | omega) _)))
          rw [← hg7]
          replace bX := bX.below hb3
          replace bY := bY.below hb3
          replace hB0 := hB0.trans (hb3.mono hB0.size)
          clear hb3 hv3 hg7
          obtain ⟨qX0, qX1, qX2, qX3, -, -, -, -, qX4⟩ := bX.cells4
          obtain ⟨qY0, qY1, qY2, qY3, -, -, -, -, qY4⟩ := bY.cells4
          go_wp2_with fail
          clear qX0 qX1 qX2 qX3 qX4 qY0 qY1 qY2 qY3 qY4
          refine (HP.out _).mono ?_
          rintro e v4 ⟨rfl, hb4⟩
          replace bX := bX.below hb4
          replace bY := bY.below hb4
          replace b7 := b7.below hb4
          replace hB0 := hB0.trans (hb4.mono hB0.size)
          clear hb4
          go_upto_region 5 with fail
          obtain ⟨v5, hv5⟩ : ∃ q : World, q = v4.alloc (.cells #[.int .i64 z.a, .int .i64 z.b, .int .i64 z.c, .int .i64 z.d] 23) := ⟨_, rfl⟩
          rw [← hv5]
          obtain ⟨g9, hg9⟩ : ∃ g, g = v4.heap.size := ⟨_, rfl⟩
          have b9 : Box v5 g9 23 #[.int .i64 z.a, .int .i64 z.b, .int .i64 z.c, .int .i64 z.d] := by rw [hv5]; exact Box.made hg9
          have hb5 : Below v4.heap.size v4 v5 := by rw [hv5]; (repeat (first | (with_reducible exact Below.refl _ _) | (with_reducible refine Go.below_drewN ?_ _) | (with_reducible refine Below.drew ?_) | (with_reducible refine Below.alloc ?_ (by first | exact Nat.le_refl _ | (simp; done) | (simp; omega) | omega) _) | (with_reducible refine Below.setCell ?_ (by first | exact Nat.le_refl _ | (simp; done) | (simp; omega) | omega) _)))
          rw [← hg9]
          replace bX := bX.below hb5
          replace bY := bY.below hb5
          replace b7 := b7.below hb5
          replace hB0 := hB0.trans (hb5.mono hB0.size)
          clear hb5 hv5 hg9
          obtain ⟨qX0, qX1, qX2, qX3, -, -, -, -, qX4⟩ := bX.cells4
          go_wp2_with fail
          clear qX0 qX1 qX2 qX3 qX4
          refine (HSX.out _).mono ?_
          rintro e v6 ⟨rfl, hb6⟩
          replace bX := bX.below hb6
          replace bY := bY.below hb6
          replace b7 := b7.below hb6
          replace b9 := b9.below hb6
          replace hB0 := hB0.trans (hb6.mono hB0.size)
          clear hb6
          obtain ⟨q70, q71, q72, q73, -, -, -, -, q74⟩ := b7.cells4
          obtain ⟨q90, q91, q92, q93, -, -, -, -, q94⟩ := b9.cells4
          obtain ⟨qX0, qX1, qX2, qX3, -, -, -, -, qX4⟩ := bX.cells4
          obtain ⟨qY0, qY1, qY2, qY3, -, -, -, -, qY4⟩ := bY.cells4
          go_wp2_with (go_at_call 12; refine (HEI.out _).mono ?_; rintro e w' ⟨rfl, rfl⟩)
          clear q70 q71 q72 q73 q74 q90 q91 q92 q93 q94 qX0 qX1 qX2 qX3 qX4 qY0 qY1 qY2 qY3 qY4
          clear HEI HT HP HSX HAW
          refine wp_region_held_drew (S := fun w' => Below v6.heap.size v6 w') (by kernel_rfl) (Below.refl _ _).drew (fun hHeld => ?_)
          refine wpAnyH_take (i := 0) (oi := ⟨some 49, _, _, _, _, _⟩) (v := ?_) rfl (by kernel_rfl) (by kernel_rfl) (by kernel_rfl) (fun _ _ _ h => h) (Or.inl ⟨by rfl, ?_⟩) (by assumption) ?_
          rotate_left
          · (intro w' hSw; (try dsimp only at hSw); go_simp <;> (with_reducible rfl))
          try simp only [Act.put, List.setIfInBounds_toArray, List.set_cons_zero, List.set_cons_succ]
          refine wpAnyH_take (i := 1) (oi := ⟨some 50, _, _, _, _, _⟩) (v := ?_) rfl (by kernel_rfl) (by kernel_rfl) (by kernel_rfl) (fun _ _ _ h => h) (Or.inl ⟨by rfl, ?_⟩) (by assumption) ?_
          rotate_left
          · (intro w' hSw; (try dsimp only at hSw); go_simp <;> (with_reducible rfl))
          try simp only [Act.put, List.setIfInBounds_toArray, List.set_cons_zero, List.set_cons_succ]
          refine wpAnyH_take (i := 2) (oi := ⟨some 51, _, _, _, _, _⟩) (v := ?_) rfl (by kernel_rfl) (by kernel_rfl) (by kernel_rfl) (fun _ _ _ h => h) (Or.inl ⟨by rfl, ?_⟩) (by assumption) ?_
          rotate_left
          · (intro w' hSw; (try dsimp only at hSw); go_simp <;> (with_reducible rfl))
          try simp only [Act.put, List.setIfInBounds_toArray, List.set_cons_zero, List.set_cons_succ]
          refine wpAnyH_take (i := 3) (oi := ⟨some 52, _, _, _, _, _⟩) (v := .agg #[.int .i64 t.a, .int .i64 t.b, .int .i64 t.c, .int .i64 t.d]) rfl (by kernel_rfl) (by kernel_rfl) (by kernel_rfl) (fun _ _ _ h => h) (Or.inl ⟨by rfl, fun w' hSw => exec_load4 rfl (b7.below hSw)⟩) (by assumption) ?_
          try simp only [Act.put, List.setIfInBounds_toArray, List.set_cons_zero, List.set_cons_succ]
          refine wpAnyH_take (i := 4) (oi := ⟨some 53, _, _, _, _, _⟩) (v := .agg #[.int .i64 x.a, .int .i64 x.b, .int .i64 x.c, .int .i64 x.d]) rfl (by kernel_rfl) (by kernel_rfl) (by kernel_rfl) (fun _ _ _ h => h) (Or.inl ⟨by rfl, fun w' hSw => exec_load4 rfl (bX.below hSw)⟩) (by assumption) ?_
          try simp only [Act.put, List.setIfInBounds_toArray, List.set_cons_zero, List.set_cons_succ]
          refine wpAnyH_take (i := 5) (oi := ⟨some 54, _, _, _, _, _⟩) (v := ?_) rfl (by kernel_rfl) (by kernel_rfl) (by kernel_rfl) (fun _ _ _ h => h) (Or.inl ⟨by rfl, ?_⟩) (by assumption) ?_
          rotate_left
          · (intro w' hSw; (try dsimp only at hSw); go_simp <;> (with_reducible rfl))
          try simp only [Act.put, List.setIfInBounds_toArray, List.set_cons_zero, List.set_cons_succ]
          refine wpAnyH_ready (rs := [6]) (by kernel_rfl) (by simp) ?_
          refine AllReadyH.cons (o := ⟨some 55, _, _, _, _, _⟩) rfl (fun K' hK => ?_) AllReadyH.nil
          go_simp
          go_at_call 13
          refine (HTR.out _).mono ?_
          rintro e vT ⟨rfl, hbT⟩
          have hcT : Below v6.heap.size v6 vT := by first | exact hbT | exact below_of_drew hbT
          go_wp2_with fail
          refine hK.out _ _ hcT (fun hHeld => ?_)
          clear hK K'
          try simp only [Act.put, List.setIfInBounds_toArray, List.set_cons_zero, List.set_cons_succ]
          refine wpAnyH_take (i := 7) (oi := ⟨some 56, _, _, _, _, _⟩) (v := ?_) rfl (by kernel_rfl) (by kernel_rfl) (by kernel_rfl) (fun _ _ _ h => h) (Or.inl ⟨by rfl, ?_⟩) (by assumption) ?_
          rotate_left
          · (intro w' hSw; (try dsimp only at hSw); go_simp <;> (with_reducible rfl))
          try simp only [Act.put, List.setIfInBounds_toArray, List.set_cons_zero, List.set_cons_succ]
          refine wpAnyH_take (i := 8) (oi := ⟨some 57, _, _, _, _, _⟩) (v := ?_) rfl (by kernel_rfl) (by kernel_rfl) (by kernel_rfl) (fun _ _ _ h => h) (Or.inl ⟨by rfl, ?_⟩) (by assumption) ?_
          rotate_left
          · (intro w' hSw; (try dsimp only at hSw); go_simp <;> (with_reducible rfl))
          try simp only [Act.put, List.setIfInBounds_toArray, List.set_cons_zero, List.set_cons_succ]
          refine wpAnyH_done (by kernel_rfl) ?_ _
          replace bX := bX.below hcT
          replace bY := bY.below hcT
          replace b7 := b7.below hcT
          replace b9 := b9.below hcT
          replace hB0 := hB0.trans (hcT.mono hB0.size)
          clear hcT hbT
          obtain ⟨qY0, qY1, qY2, qY3, -, -, -, -, qY4⟩ := bY.cells4
          go_wp2_with fail
          clear qY0 qY1 qY2 qY3 qY4
          refine (HSY.out _).mono ?_
          rintro e v7 ⟨rfl, hb7⟩
          replace bX := bX.below hb7
          replace bY := bY.below hb7
          replace b7 := b7.below hb7
          replace b9 := b9.below hb7
          replace hB0 := hB0.trans (hb7.mono hB0.size)
          clear hb7
          obtain ⟨q90, q91, q92, q93, -, -, -, -, q94⟩ := b9.cells4
          obtain ⟨qX0, qX1, qX2, qX3, -, -, -, -, qX4⟩ := bX.cells4
          obtain ⟨qY0, qY1, qY2, qY3, -, -, -, -, qY4⟩ := bY.cells4
          go_wp2_with fail
          clear q90 q91 q92 q93 q94 qX0 qX1 qX2 qX3 qX4 qY0 qY1 qY2 qY3 qY4
          refine (HPR.out _).mono ?_
          rintro e v8 ⟨rfl, hb8⟩
          replace bX := bX.below hb8
          replace bY := bY.below hb8
          replace b7 := b7.below hb8
          replace b9 := b9.below hb8
          replace hB0 := hB0.trans (hb8.mono hB0.size)
          clear hb8
          go_upto_region 17 with fail
          obtain ⟨v9, hv9⟩ : ∃ q : World, q = v8.alloc (.cells #[.int .i64 z.a, .int .i64 z.b, .int .i64 z.c, .int .i64 z.d] 23) := ⟨_, rfl⟩
          rw [← hv9]
          obtain ⟨g13, hg13⟩ : ∃ g, g = v8.heap.size := ⟨_, rfl⟩
          have b13 : Box v9 g13 23 #[.int .i64 z.a, .int .i64 z.b, .int .i64 z.c, .int .i64 z.d] := by rw [hv9]; exact Box.made hg13
          have hb9 : Below v8.heap.size v8 v9 := by rw [hv9]; (repeat (first | (with_reducible exact Below.refl _ _) | (with_reducible refine Go.below_drewN ?_ _) | (with_reducible refine Below.drew ?_) | (with_reducible refine Below.alloc ?_ (by first | exact Nat.le_refl _ | (simp; done) | (simp; omega) | omega) _) | (with_reducible refine Below.setCell ?_ (by first | exact Nat.le_refl _ | (simp; done) | (simp; omega) | omega) _)))
          rw [← hg13]
          replace bX := bX.below hb9
          replace bY := bY.below hb9
          replace b7 := b7.below hb9
          replace b9 := b9.below hb9
          replace hB0 := hB0.trans (hb9.mono hB0.size)
          clear hb9 hv9 hg13
          obtain ⟨q130, q131, q132, q133, -, -, -, -, q134⟩ := b13.cells4
          go_wp2_with fail
          clear q130 q131 q132 q133 q134
          refine (HSZ.out _).mono ?_
          rintro e v10 ⟨rfl, hb10⟩
          replace bX := bX.below hb10
          replace bY := bY.below hb10
          replace b7 := b7.below hb10
          replace b9 := b9.below hb10
          replace b13 := b13.below hb10
          replace hB0 := hB0.trans (hb10.mono hB0.size)
          clear hb10
          obtain ⟨q90, q91, q92, q93, -, -, -, -, q94⟩ := b9.cells4
          obtain ⟨q130, q131, q132, q133, -, -, -, -, q134⟩ := b13.cells4
          go_wp2_with fail
          go_ret
          exact ⟨rfl, hB0⟩
end Go.Proofs.Ythihdafdhndfcaa
