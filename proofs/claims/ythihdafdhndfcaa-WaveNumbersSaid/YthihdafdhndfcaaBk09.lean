/- Lemmas: Vh, Ua, Ub, Uc. -/
import Derived.StillTailTactics
import Derived.Test.YthihdafdhndfcaaBk03
import Derived.Test.YthihdafdhndfcaaBk04
import Derived.Test.YthihdafdhndfcaaBk05
import Derived.Test.YthihdafdhndfcaaBk07
import Derived.Test.YthihdafdhndfcaaBk08
set_option linter.unusedVariables false
set_option linter.unusedSimpArgs false
/- awake of chapter 4: the document's examples. -/
namespace Go.Proofs.Ythihdafdhndfcaa
open Go.RowKit Go.Great
theorem Box.path {w : World} {g lo : Nat} {t : TypeId} {a b c d e f : Int} (h : Box w g t #[.int .i64 a, .int .i64 b, .int .i64 c, .int .i64 d, .int .i64 e, .int .i64 f]) (hl : lo ≤ g) :
    PathsAt w lo (some ⟨g, 0, none⟩) 2 (fun i => if i = 0 then a else d) (fun i => if i = 0 then b else e) (fun i => if i = 0 then c else f) := fun i hi => by
  match i, hi with
  | 0, _ => exact ⟨g, 0, rfl, hl, h.lt, h.at_ 0, h.at_ 1, h.at_ 2⟩
  | 1, _ => exact ⟨g, 0, rfl, hl, h.lt, h.at_ 3, h.at_ 4, h.at_ 5⟩
theorem tDoc : turnedR ⟨0, 0, 0, 1⟩ 1 = ⟨-1, 0, 0, 0⟩ := by rfl
theorem tDocE : turnedE ⟨0, 0, 0, 1⟩ 1 = 0 := by decide
theorem chkDoc : chkE 2 (fun i => if i = 0 then 0 else 1) (fun i => if i = 0 then 1 else 2) (fun i => if i = 0 then 0 else 0) = 0 := by decide
theorem okDoc : PathsOk 2 (fun i => if i = 0 then 0 else 1) (fun i => if i = 0 then 1 else 2) (fun i => if i = 0 then 0 else 0) :=
  ⟨by decide, by decide, fun j hj => by match j, hj with | 0, _ => decide | 1, _ => decide, fun j hj => by match j, hj with | 0, _ => decide | 1, _ => decide⟩
theorem respDoc : respTo (fun i => if i = 0 then 0 else 1) (fun i => if i = 0 then 1 else 2) (fun i => if i = 0 then 0 else 0) 2 2 = ⟨1, 0, -2, 0⟩ := by rfl
def oneF (_ : Nat) : Num := ⟨1, 0, 0, 0⟩
def twoF (i : Nat) : Num := if i = 0 then ⟨1, 0, 0, 0⟩ else ⟨0, 0, 1, 0⟩
theorem offDoc : offR 2 2 oneF twoF = 2 := by kernel_rfl
theorem offDocE : offE 2 2 oneF twoF = 0 := by kernel_rfl
theorem seqDoc0 : seqF 0 0 = -1 := by decide
theorem seqDoc1 : seqF 0 1 = 1 := by decide
theorem Box.two {w : World} {g lo : Nat} {t : TypeId} {a b c d e f p q : Int} (h : Box w g t #[.int .i64 a, .int .i64 b, .int .i64 c, .int .i64 d, .int .i64 e, .int .i64 f, .int .i64 p, .int .i64 q]) (hl : lo ≤ g) (F : Nat → Num) (h0 : F 0 = ⟨a, b, c, d⟩) (h1 : F 1 = ⟨e, f, p, q⟩) :
    NumsAt w lo (some ⟨g, 0, none⟩) 2 F := fun i hi => by
  match i, hi with
  | 0, _ => rw [h0]; exact ⟨g, 0, rfl, hl, h.lt, h.at_ 0, h.at_ 1, h.at_ 2, h.at_ 3⟩
  | 1, _ => rw [h1]; exact ⟨g, 0, rfl, hl, h.lt, h.at_ 4, h.at_ 5, h.at_ 6, h.at_ 7⟩
set_option maxHeartbeats 8000000 in
set_option maxRecDepth 100000 in
theorem awake_any (w : World) : Calls Try.prog 8 #[] w fun e w' => e = .returned (.bool true) ∧ Below w.heap.size w w' := by
  have HT := hide (fun W => Turned_any ⟨0, 0, 0, 1⟩ 1 W)
  rw [tDoc, tDocE] at HT
  have HO := hide (fun A B c d W h k => OffsetOf_any A B 2 c 2 d oneF twoF W (by decide) (by decide) h k)
  rw [offDoc, offDocE] at HO
  have HS := hide (fun W => SequenceOf_right 0 W (by decide))
  go_enter Try.func8, Try.ntmps8
  go_wp2_with fail
  refine (HT.out _).mono ?_
  rintro e w1 ⟨rfl, hb1⟩
  simp only []
  go_wp2_with fail
  obtain ⟨W1, hW1⟩ : ∃ q : World, q = w1.alloc (.cells #[.int .i64 (-1), .int .i64 0, .int .i64 0, .int .i64 0] 23) := ⟨_, rfl⟩
  rw [← hW1]
  obtain ⟨g1, hg1⟩ : ∃ g, g = w1.heap.size := ⟨_, rfl⟩
  have b1 : Box W1 g1 23 #[.int .i64 (-1), .int .i64 0, .int .i64 0, .int .i64 0] := by rw [hW1]; exact Box.made hg1
  have hB1 : Below w.heap.size w W1 := by rw [hW1]; exact hb1.alloc hb1.size _
  have hs1 : w1.heap.size + 1 = W1.heap.size := by rw [hW1]; simp
  rw [hs1, ← hg1]
  clear hW1 hb1 hg1 hs1
  refine (ResponseOf_right _ 2 2 _ _ _ _ okDoc chkDoc ((Box.made rfl).path (Nat.zero_le _))).mono ?_
  rintro e w2 ⟨rfl, hb2⟩
  have hB2 : Below w.heap.size w w2 := hB1.trans ((below_behind hb2).mono hB1.size)
  replace b1 := b1.below (below_behind hb2)
  clear hb2 hB1
  obtain ⟨F, hF⟩ : ∃ F, F = fun k => respTo (fun i => if i = 0 then 0 else 1) (fun i => if i = 0 then 1 else 2) (fun i => if i = 0 then 0 else 0) k 2 := ⟨_, rfl⟩
  have HF := hide (show F 2 = ⟨1, 0, -2, 0⟩ from by rw [hF]; exact respDoc)
  rw [← hF]
  clear hF
  go_upto_region 3 with (first | (refine wpList_store8 rfl (.tmp 3) (.tmp 21) rfl w2.heap.size (fun _ => Num.zero) F rfl rfl (arrNums_alloc w2 _ _ rfl) ?_; intro W3 r3 o3) | (refine wpList_allocTo rfl (some 3) rfl (.pointer (some ⟨w2.heap.size, 0, none⟩)) (.cells (arr8 fun _ => Num.zero) 70) (by kernel_rfl) ?_))
  obtain ⟨g3, hg3⟩ : ∃ g, g = w2.heap.size := ⟨_, rfl⟩
  have hB3 : Below w.heap.size w W3 := (hB2.alloc hB2.size _).trans (o3.to_below hB2.size (Nat.le_trans hB2.size (by simp)))
  replace b1 := o3.box (b1.alloc _) (by have := b1.lt; omega)
  rw [← hg3] at r3
  rw [← hg3]
  clear hg3 o3 hB2
  go_wp2_with fail
  refine (HS.out _).mono ?_
  rintro e w4 ⟨A4, c4, rfl, hc4, hI4, hb4⟩
  replace r3 := r3.below hb4
  replace b1 := b1.below hb4
  have hB4 := hB3.trans (hb4.mono hB3.size)
  clear hb4 hB3
  go_wp2_with fail
  refine (HO.out _ _ _ _ _ (((Box.made rfl).two (Nat.zero_le _) oneF rfl rfl).alloc _) ((Box.made (by simp)).two (Nat.zero_le _) twoF rfl rfl)).mono ?_
  rintro e w5 ⟨rfl, hb5⟩
  have hc5 := below_behind (below_behind hb5)
  replace r3 := r3.below hc5
  replace b1 := b1.below hc5
  replace hI4 := hI4.below hc5
  have hB5 := hB4.trans (hc5.mono hB4.size)
  obtain ⟨b0, o0, rfl, -, -, i0⟩ := hI4 0 (by decide)
  obtain ⟨b0', o0', e0', -, -, i1⟩ := hI4 1 (by decide)
  injection e0' with e0'
  injection e0' with e1' e2'
  subst e1' e2'
  rw [seqDoc0, Nat.add_zero] at i0
  rw [seqDoc1] at i1
  have y0 := r3.part (show 2 < 8 by decide) (show 0 < 4 by decide)
  have y1 := r3.part (show 2 < 8 by decide) (show 1 < 4 by decide)
  have y2 := r3.part (show 2 < 8 by decide) (show 2 < 4 by decide)
  have y3 := r3.part (show 2 < 8 by decide) (show 3 < 4 by decide)
  rw [HF.out] at y0 y1 y2 y3
  replace y0 : w5.cell? ⟨g3, 8, none⟩ = some (.int .i64 1) := y0
  replace y1 : w5.cell? ⟨g3, 9, none⟩ = some (.int .i64 0) := y1
  replace y2 : w5.cell? ⟨g3, 10, none⟩ = some (.int .i64 (-2)) := y2
  replace y3 : w5.cell? ⟨g3, 11, none⟩ = some (.int .i64 0) := y3
  obtain ⟨x0, x1, x2, x3, -, -, -, -, -⟩ := b1.cells4
  clear r3 b1 hI4 hb5 hB4 hc5 HF HO HS HT
  go_wp2_with fail
  go_ret
  exact ⟨rfl, hB5⟩
end Go.Proofs.Ythihdafdhndfcaa
/- within, IsSmall, EighthsErr, Turn, Plus of the reference; Mod of the base. -/
namespace Go.Proofs.Ythihdafdhndfcaa
open Go.RowKit
set_option maxHeartbeats 400000 in
theorem modN_any (n m : Int) (w : World) (h0 : 0 < m) (h1 : m ≤ 1000000000) :
    Calls Try.prog 48 #[.int .i64 n, .int .i64 m] w fun e w' => e = .returned (.int .i64 (n % m)) ∧ w = w' := by
  have hm0 : ¬ m = 0 := by omega
  by_cases hn : 0 ≤ n
  · have hb := Int.emod_nonneg n (show m ≠ 0 by omega)
    have hb2 := Int.emod_lt_of_pos n h0
    go_enter Try.func48, Try.ntmps48
    go_wp2_with fail
    go_ret
    exact ⟨rfl, rfl⟩
  · have hneg : n < 0 := by omega
    obtain ⟨r, hr⟩ : ∃ r, r = n.tmod m := ⟨_, rfl⟩
    have hr' := hr.symm
    have hle : -m < r ∧ r ≤ 0 := by
      rw [hr]
      have e := Int.neg_tmod (-n) m
      rw [Int.neg_neg] at e
      rw [e]
      have h2 : (-n).tmod m = (-n) % m := Int.tmod_eq_emod_of_nonneg (by omega)
      rw [h2]
      have := Int.emod_nonneg (-n) (show m ≠ 0 by omega)
      have := Int.emod_lt_of_pos (-n) h0
      omega
    have hdm : n % m = if r < 0 then r + m else r := by
      have h3 := Int.mul_tdiv_add_tmod n m
      rw [← hr] at h3
      split
      · have : n = (r + m) + m * (n.tdiv m - 1) := by rw [Int.mul_sub]; omega
        rw [this, Int.add_mul_emod_self_left]
        exact Int.emod_eq_of_lt (by omega) (by omega)
      · have h0r : r = 0 := by omega
        have : n = 0 + m * n.tdiv m := by omega
        rw [this, Int.add_mul_emod_self_left, h0r]
        rfl
    have HD := hide hdm
    obtain ⟨l1, l2⟩ := hle
    have hnn : ¬ 0 ≤ n := hn
    clear hdm hr hn
    by_cases hrz : r < 0
    · go_enter Try.func48, Try.ntmps48
      go_wp2_with fail
      go_ret
      exact ⟨ret_int (by rw [HD.out, if_pos hrz]), rfl⟩
    · have hr0 : 0 ≤ r := by omega
      have HRZ := hide hrz
      clear hrz
      go_enter Try.func48, Try.ntmps48
      go_wp2_with fail
      go_ret
      exact ⟨ret_int (by rw [HD.out, if_neg (Int.not_lt.2 HRZ.out)]), rfl⟩


theorem mod8 (n : Int) (w : World) : Calls Try.prog 48 #[.int .i64 n, .int .i64 8] w fun e w' => e = .returned (.int .i64 (n % 8)) ∧ w = w' := modN_any n 8 w (by decide) (by decide)
set_option maxHeartbeats 2000000 in
theorem turnR_any (x : Num) (n : Int) (w : World) (hx : x.Within 4611686018427387904) :
    Calls Try.prog 13 #[.agg #[.int .i64 x.a, .int .i64 x.b, .int .i64 x.c, .int .i64 x.d], .int .i64 n] w fun e w' => e = .returned (.agg #[.int .i64 (x.turns (n % 8).toNat).a, .int .i64 (x.turns (n % 8).toNat).b, .int .i64 (x.turns (n % 8).toNat).c, .int .i64 (x.turns (n % 8).toNat).d]) ∧ Below w.heap.size w w' := by
  have HX := hide hx
  clear hx
  obtain ⟨k, hk⟩ : ∃ k, k = (n % 8).toNat := ⟨_, rfl⟩
  have hkz : n % 8 = (k : Int) := by have := Int.emod_nonneg n (show (8 : Int) ≠ 0 by decide); omega
  have hk8 : k < 8 := by have := Int.emod_lt_of_pos n (show (0 : Int) < 8 by decide); omega
  rw [← hk]
  have HM := hide (fun W => mod8 n W)
  rw [hkz] at HM
  clear hk hkz
  go_enter Try.func13, Try.ntmps13
  go_wp2_with fail
  go_loopw [5] (fun i wr => ∃ j : Nat, j ≤ k ∧ i = .int .i64 (j : Int) ∧ Box wr w.heap.size 23 #[.int .i64 (x.turns j).a, .int .i64 (x.turns j).b, .int .i64 (x.turns j).c, .int .i64 (x.turns j).d] ∧ Box wr (w.heap.size + 1) 23 #[.int .i64 0, .int .i64 0, .int .i64 0, .int .i64 0] ∧ Below w.heap.size w wr) (fun i _ => k - (Go.RowKit.intOf i).toNat)
  case atStart => exact ⟨0, Nat.zero_le _, rfl, (Box.made rfl).alloc _, Box.made (by simp), by (repeat (first | (with_reducible exact Below.refl _ _) | (with_reducible refine Go.below_drewN ?_ _) | (with_reducible refine Below.drew ?_) | (with_reducible refine Below.alloc ?_ (by first | exact Nat.le_refl _ | (simp; done) | (simp; omega) | omega) _) | (with_reducible refine Below.setCell ?_ (by first | exact Nat.le_refl _ | (simp; done) | (simp; omega) | omega) _)))⟩
  case round =>
    obtain ⟨j, hj, rfl, bx, by', hB⟩ := hrel
    have hy := HX.out.turns j
    have HT := hide (show x.turns (j + 1) = (x.turns j).turn from rfl)
    obtain ⟨y, hyx⟩ : ∃ y, x.turns j = y := ⟨_, rfl⟩
    rw [hyx] at bx hy HT
    have HYX := hide hyx
    clear hyx
    obtain ⟨h1, h2, h3, h4⟩ := hy
    obtain ⟨z0, z1, z2, z3, f0, f1, f2, f3, hl⟩ := bx.cells4
    by_cases hlt : j < k
    · have hltz : (j : Int) < (k : Int) := by omega
      have q1 : IntKind.i64.wrap (-y.d) = -y.d := IntWalk.i64_in _ (by omega)
      have HBX := hide (bx.put4 (.int .i64 (-y.d)) (.int .i64 y.a) (.int .i64 y.b) (.int .i64 y.c))
      have HBY := hide (by'.other4 (c := w.heap.size) (by omega) (.int .i64 (-y.d)) (.int .i64 y.a) (.int .i64 y.b) (.int .i64 y.c))
      have HBL := hide (Below.put4 hB (Nat.le_refl _) (.int .i64 (-y.d)) (.int .i64 y.a) (.int .i64 y.b) (.int .i64 y.c))
      clear bx by' hB h1 h2 h3 h4
      go_wp2_with (go_at_call 48; refine (HM.out _).mono ?_; rintro e w' ⟨rfl, rfl⟩)
      go_roundw
      case rel => exact ⟨j + 1, by omega, by go_num, by rw [HT.out]; exact HBX.out, HBY.out, HBL.out⟩
      case measure => simp [Go.RowKit.intOf]; omega
    · obtain rfl : j = k := by omega
      obtain ⟨y0, y1, y2, y3, g0, g1, g2, g3, hl'⟩ := by'.cells4
      have HBY := hide (by'.put4 (.int .i64 y.a) (.int .i64 y.b) (.int .i64 y.c) (.int .i64 y.d))
      have HBL := hide (Below.put4 hB (Nat.le_succ _) (.int .i64 y.a) (.int .i64 y.b) (.int .i64 y.c) (.int .i64 y.d))
      clear bx by' hB h1 h2 h3 h4
      go_wp2_with (go_at_call 48; refine (HM.out _).mono ?_; rintro e w' ⟨rfl, rfl⟩)
      refine bodyPost_ret (v := .agg #[.int .i64 y.a, .int .i64 y.b, .int .i64 y.c, .int .i64 y.d]) ?_ rfl ⟨by rw [HYX.out], HBL.out⟩
      obtain ⟨y0, y1, y2, y3, -⟩ := HBY.out.cells4
      simp [results, Try.results13, go_sem, y0, y1, y2, y3]

set_option maxHeartbeats 2000000 in
theorem withinR_any (x : Num) (M : Int) (w : World) (hM : 0 ≤ M ∧ M ≤ 9000000000000000000) :
    Calls Try.prog 46 #[.agg #[.int .i64 x.a, .int .i64 x.b, .int .i64 x.c, .int .i64 x.d], .int .i64 M] w fun e w' => e = .returned (.bool (x.isIn M)) ∧ Below w.heap.size w w' := by
  have q1 : IntKind.i64.wrap (-M) = -M := IntWalk.i64_in _ (by omega)
  have HI := hide (show x.isIn M = (((withinB x.a (-M) M && withinB x.b (-M) M) && withinB x.c (-M) M) && withinB x.d (-M) M) from by
    unfold Num.isIn
    cases withinB x.a (-M) M <;> cases withinB x.b (-M) M <;> cases withinB x.c (-M) M <;> cases withinB x.d (-M) M <;> rfl)
  generalize x.isIn M = v at *
  clear hM
  cases ea : withinB x.a (-M) M
  · have HV := hide (show v = false from by rw [HI.out, ea]; rfl)
    clear HI
    go_enter Try.func46, Try.ntmps46
    go_wp2_with (go_at_call 47; refine (within_any _ _ _ _).mono ?_; rintro e w' ⟨rfl, rfl⟩; rw [ea])
    go_ret
    exact ⟨by rw [HV.out]; rfl, by (repeat (first | (with_reducible exact Below.refl _ _) | (with_reducible refine Go.below_drewN ?_ _) | (with_reducible refine Below.drew ?_) | (with_reducible refine Below.alloc ?_ (by first | exact Nat.le_refl _ | (simp; done) | (simp; omega) | omega) _) | (with_reducible refine Below.setCell ?_ (by first | exact Nat.le_refl _ | (simp; done) | (simp; omega) | omega) _)))⟩
  cases eb : withinB x.b (-M) M
  · have HV := hide (show v = false from by rw [HI.out, ea, eb]; rfl)
    clear HI
    go_enter Try.func46, Try.ntmps46
    go_wp2_with (go_at_call 47; refine (within_any _ _ _ _).mono ?_; rintro e w' ⟨rfl, rfl⟩; first | rw [ea] | rw [eb])
    go_ret
    exact ⟨by rw [HV.out]; rfl, by (repeat (first | (with_reducible exact Below.refl _ _) | (with_reducible refine Go.below_drewN ?_ _) | (with_reducible refine Below.drew ?_) | (with_reducible refine Below.alloc ?_ (by first | exact Nat.le_refl _ | (simp; done) | (simp; omega) | omega) _) | (with_reducible refine Below.setCell ?_ (by first | exact Nat.le_refl _ | (simp; done) | (simp; omega) | omega) _)))⟩
  cases ec : withinB x.c (-M) M
  · have HV := hide (show v = false from by rw [HI.out, ea, eb, ec]; rfl)
    clear HI
    go_enter Try.func46, Try.ntmps46
    go_wp2_with (go_at_call 47; refine (within_any _ _ _ _).mono ?_; rintro e w' ⟨rfl, rfl⟩; first | rw [ea] | rw [eb] | rw [ec])
    go_ret
    exact ⟨by rw [HV.out]; rfl, by (repeat (first | (with_reducible exact Below.refl _ _) | (with_reducible refine Go.below_drewN ?_ _) | (with_reducible refine Below.drew ?_) | (with_reducible refine Below.alloc ?_ (by first | exact Nat.le_refl _ | (simp; done) | (simp; omega) | omega) _) | (with_reducible refine Below.setCell ?_ (by first | exact Nat.le_refl _ | (simp; done) | (simp; omega) | omega) _)))⟩
  have HV := hide (show v = withinB x.d (-M) M from by rw [HI.out, ea, eb, ec]; simp)
  clear HI
  go_enter Try.func46, Try.ntmps46
  go_wp2_with (go_at_call 47; refine (within_any _ _ _ _).mono ?_; rintro e w' ⟨rfl, rfl⟩; first | rw [ea] | rw [eb] | rw [ec] | skip)
  go_ret
  exact ⟨by rw [HV.out]; rfl, by (repeat (first | (with_reducible exact Below.refl _ _) | (with_reducible refine Go.below_drewN ?_ _) | (with_reducible refine Below.drew ?_) | (with_reducible refine Below.alloc ?_ (by first | exact Nat.le_refl _ | (simp; done) | (simp; omega) | omega) _) | (with_reducible refine Below.setCell ?_ (by first | exact Nat.le_refl _ | (simp; done) | (simp; omega) | omega) _)))⟩
theorem isSmall_any (x : Num) (w : World) :
    Calls Try.prog 11 #[.agg #[.int .i64 x.a, .int .i64 x.b, .int .i64 x.c, .int .i64 x.d]] w fun e w' => e = .returned (.bool (x.isIn 1000000000)) ∧ Below w.heap.size w w' := by
  have HX := hide (fun W => withinR_any x 1000000000 W (by decide))
  generalize x.isIn 1000000000 = v at *
  go_enter Try.func11, Try.ntmps11
  go_wp2_with fail
  refine (HX.out _).mono ?_
  rintro e w' ⟨rfl, hb⟩
  go_wp2_with fail
  go_ret
  exact ⟨rfl, ((Below.refl _ _).alloc (Nat.le_refl _) _).trans (hb.mono (by simp))⟩
theorem eighthsErr_any (n : Int) (w : World) :
    Calls Try.prog 12 #[.int .i64 n] w fun e w' => e = .returned (.int .i64 (unI (withinB n 0 7) 2)) ∧ w = w' := by
  have HX := hide (fun W => within_any n 0 7 W)
  generalize withinB n 0 7 = v at *
  cases v
  all_goals
    go_enter Try.func12, Try.ntmps12
    go_wp2_with (go_at_call 47; refine (HX.out _).mono ?_; rintro e w' ⟨rfl, rfl⟩)
    go_ret
    exact ⟨rfl, rfl⟩
set_option maxHeartbeats 2000000 in
set_option maxRecDepth 100000 in
theorem plusR_any (x y : Num) (M : Int) (w : World) (hx : (x.add y).Within M) (hM : M ≤ 9223372036854775807) :
    Calls Try.prog 49 #[.agg #[.int .i64 x.a, .int .i64 x.b, .int .i64 x.c, .int .i64 x.d], .agg #[.int .i64 y.a, .int .i64 y.b, .int .i64 y.c, .int .i64 y.d]] w fun e w' => e = .returned (.agg #[.int .i64 (x.add y).a, .int .i64 (x.add y).b, .int .i64 (x.add y).c, .int .i64 (x.add y).d]) ∧ Below w.heap.size w w' := by
  obtain ⟨h1, h2, h3, h4⟩ := hx
  have q1 : IntKind.i64.wrap (x.a + y.a) = x.a + y.a := IntWalk.i64_in _ (by have : -M ≤ x.a + y.a ∧ x.a + y.a ≤ M := h1; omega)
  have q2 : IntKind.i64.wrap (x.b + y.b) = x.b + y.b := IntWalk.i64_in _ (by have : -M ≤ x.b + y.b ∧ x.b + y.b ≤ M := h2; omega)
  have q3 : IntKind.i64.wrap (x.c + y.c) = x.c + y.c := IntWalk.i64_in _ (by have : -M ≤ x.c + y.c ∧ x.c + y.c ≤ M := h3; omega)
  have q4 : IntKind.i64.wrap (x.d + y.d) = x.d + y.d := IntWalk.i64_in _ (by have : -M ≤ x.d + y.d ∧ x.d + y.d ≤ M := h4; omega)
  clear h1 h2 h3 h4 hM
  go_enter Try.func49, Try.ntmps49
  go_wp2_with fail
  have hb : Box (((w.alloc (.cells #[.int .i64 x.a, .int .i64 x.b, .int .i64 x.c, .int .i64 x.d] 23)).alloc (.cells #[.int .i64 y.a, .int .i64 y.b, .int .i64 y.c, .int .i64 y.d] 23)).alloc (.cells #[.int .i64 (x.a + y.a), .int .i64 (x.b + y.b), .int .i64 (x.c + y.c), .int .i64 (x.d + y.d)] 23)) (w.heap.size + 1 + 1) 23 #[.int .i64 (x.a + y.a), .int .i64 (x.b + y.b), .int .i64 (x.c + y.c), .int .i64 (x.d + y.d)] := Box.made (by simp)
  obtain ⟨y0, y1, y2, y3, -⟩ := hb.cells4
  refine bodyPost_ret (v := .agg #[.int .i64 (x.a + y.a), .int .i64 (x.b + y.b), .int .i64 (x.c + y.c), .int .i64 (x.d + y.d)]) ?_ rfl ⟨rfl, by (repeat (first | (with_reducible exact Below.refl _ _) | (with_reducible refine Go.below_drewN ?_ _) | (with_reducible refine Below.drew ?_) | (with_reducible refine Below.alloc ?_ (by first | exact Nat.le_refl _ | (simp; done) | (simp; omega) | omega) _) | (with_reducible refine Below.setCell ?_ (by first | exact Nat.le_refl _ | (simp; done) | (simp; omega) | omega) _)))⟩
  simp [results, Try.results49, go_sem, y0, y1, y2, y3]
end Go.Proofs.Ythihdafdhndfcaa
/- Product of the code. -/
namespace Go.Proofs.Ythihdafdhndfcaa
open Go.RowKit
def smallE (x : Num) : Int := x.err 1000000000
/-- The error of a product. -/
def prodE (x y : Num) : Int := if twoE (smallE x) (smallE y) = 0 then unI ((x.prod y).isIn 1000000000) 8 else twoE (smallE x) (smallE y)
/-- What Product hands back. -/
def prodV (x y : Num) : Num := if prodE x y = 0 then x.prod y else Num.zero
theorem numsE_two (M : Int) (x y : Num) : numsE M (fun i => if i = 0 then x else y) 2 = twoE (x.err M) (y.err M) := by
  have e0 : badE (fun j => Num.err M (if j = 0 then x else y)) 1 = x.err M := by
    unfold badE badE
    rw [if_pos rfl]
    rfl
  unfold numsE twoE
  show (if badE (fun j => Num.err M (if j = 0 then x else y)) 1 = 0 then Num.err M (if 1 = 0 then x else y) else badE (fun j => Num.err M (if j = 0 then x else y)) 1) = _
  rw [e0]
  rfl
theorem twoE_zero {a b : Int} (h : twoE a b = 0) : a = 0 ∧ b = 0 := by
  unfold twoE at h
  by_cases h1 : a = 0
  · rw [if_pos h1] at h; exact ⟨h1, h⟩
  · rw [if_neg h1] at h; exact absurd h h1
theorem err_is (M : Int) (x : Num) : (numsE M (fun _ => x) 1 == 0) = x.isIn M := by
  rw [numsE_one]
  unfold Num.err unI
  cases x.isIn M <;> rfl
set_option maxHeartbeats 2000000 in
set_option maxRecDepth 100000 in
theorem Product_any (x y : Num) (w : World) :
    Calls Try.prog 10 #[.agg #[.int .i64 x.a, .int .i64 x.b, .int .i64 x.c, .int .i64 x.d], .agg #[.int .i64 y.a, .int .i64 y.b, .int .i64 y.c, .int .i64 y.d]] w fun e w' => e = .returned (.tuple #[.agg #[.int .i64 (prodV x y).a, .int .i64 (prodV x y).b, .int .i64 (prodV x y).c, .int .i64 (prodV x y).d], .int .i64 (prodE x y)]) ∧ Below w.heap.size w w' := by
  have HE := hide (show prodE x y = if twoE (smallE x) (smallE y) = 0 then unI ((x.prod y).isIn 1000000000) 8 else twoE (smallE x) (smallE y) from rfl)
  have HZ := hide (show twoE (smallE x) (smallE y) = 0 → x.Within 1000000000 ∧ y.Within 1000000000 from fun h => ⟨err_within (twoE_zero h).1, err_within (twoE_zero h).2⟩)
  have HR := hide (show prodV x y = if prodE x y = 0 then x.prod y else Num.zero from rfl)
  have H2 := hide (show numsE 1000000000 (fun i => if i = 0 then x else y) 2 = twoE (smallE x) (smallE y) from numsE_two _ _ _)
  generalize prodV x y = Y at *
  generalize prodE x y = V at *
  generalize twoE (smallE x) (smallE y) = E at *
  go_enter Try.func10, Try.ntmps10
  go_upto_region 1 with fail
  obtain ⟨W, hW⟩ : ∃ q : World, q = ((w.alloc (.cells #[.int .i64 x.a, .int .i64 x.b, .int .i64 x.c, .int .i64 x.d] 23)).alloc (.cells #[.int .i64 y.a, .int .i64 y.b, .int .i64 y.c, .int .i64 y.d] 23)).alloc (.cells #[.int .i64 0, .int .i64 0, .int .i64 0, .int .i64 0] 23) := ⟨_, rfl⟩
  rw [← hW]
  obtain ⟨g1, hg1⟩ : ∃ g, g = w.heap.size + 1 := ⟨_, rfl⟩
  obtain ⟨g2, hg2⟩ : ∃ g, g = w.heap.size + 1 + 1 := ⟨_, rfl⟩
  have bX : Box W w.heap.size 23 #[.int .i64 x.a, .int .i64 x.b, .int .i64 x.c, .int .i64 x.d] := by rw [hW]; exact ((Box.made rfl).alloc _).alloc _
  have bY : Box W g1 23 #[.int .i64 y.a, .int .i64 y.b, .int .i64 y.c, .int .i64 y.d] := by rw [hW]; exact (Box.made (by simp [hg1])).alloc _
  have bZ : Box W g2 23 #[.int .i64 0, .int .i64 0, .int .i64 0, .int .i64 0] := by rw [hW]; exact Box.made (by simp [hg2])
  have hB : Below w.heap.size w W := by rw [hW]; (repeat (first | (with_reducible exact Below.refl _ _) | (with_reducible refine Go.below_drewN ?_ _) | (with_reducible refine Below.drew ?_) | (with_reducible refine Below.alloc ?_ (by first | exact Nat.le_refl _ | (simp; done) | (simp; omega) | omega) _) | (with_reducible refine Below.setCell ?_ (by first | exact Nat.le_refl _ | (simp; done) | (simp; omega) | omega) _)))
  rw [← hg2, ← hg1]
  have hw2 : w.heap.size ≤ g2 := by omega
  clear hW hg1 hg2
  obtain ⟨x0, x1, x2, x3, -, -, -, -, hx⟩ := bX.cells4
  obtain ⟨y0, y1, y2, y3, -, -, -, -, hy⟩ := bY.cells4
  go_wp2_with fail
  refine (smallError_any (some ⟨W.heap.size, 0, none⟩) 2 2 (fun i => if i = 0 then x else y) _ (by decide) (NumsAt.two (Box.made rfl))).mono ?_
  rintro e w1 ⟨rfl, hb1⟩
  rw [H2.out]
  have hc1 : Below W.heap.size W w1 := ((Below.refl _ _).alloc (Nat.le_refl _) _).trans (hb1.mono (by simp))
  replace bX := bX.below hc1
  replace bY := bY.below hc1
  replace bZ := bZ.below hc1
  replace hB := hB.trans (hc1.mono hB.size)
  clear hc1 hb1 x0 x1 x2 x3 hx y0 y1 y2 y3 hy H2
  by_cases he : E = 0
  · obtain ⟨hxw, hyw⟩ := HZ.out he
    have HV := hide (HE.out.trans (if_pos he))
    subst he
    clear HE HZ
    have HP := hide (fun W => product_any x y 1000000000 1000000000 W hxw hyw (by decide) (by decide) (by decide))
    obtain ⟨z, hz⟩ : ∃ z, z = x.prod y := ⟨_, rfl⟩
    rw [← hz] at HP HV HR
    clear hz hxw hyw
    obtain ⟨x0, x1, x2, x3, -, -, -, -, hx⟩ := bX.cells4
    obtain ⟨y0, y1, y2, y3, -, -, -, -, hy⟩ := bY.cells4
    go_wp2_with fail
    refine (HP.out _).mono ?_
    rintro e w2 ⟨rfl, hb2⟩
    replace bZ := bZ.below hb2
    replace hB := hB.trans (hb2.mono hB.size)
    clear bX bY hb2 x0 x1 x2 x3 hx y0 y1 y2 y3 hy HP
    go_wp2_with fail
    have hc2 : Below w2.heap.size w2 ((w2.alloc (.cells #[.int .i64 z.a, .int .i64 z.b, .int .i64 z.c, .int .i64 z.d] 23)).alloc (.cells #[.int .i64 z.a, .int .i64 z.b, .int .i64 z.c, .int .i64 z.d] 23)) := by (repeat (first | (with_reducible exact Below.refl _ _) | (with_reducible refine Go.below_drewN ?_ _) | (with_reducible refine Below.drew ?_) | (with_reducible refine Below.alloc ?_ (by first | exact Nat.le_refl _ | (simp; done) | (simp; omega) | omega) _) | (with_reducible refine Below.setCell ?_ (by first | exact Nat.le_refl _ | (simp; done) | (simp; omega) | omega) _)))
    refine (resultError_any (some ⟨w2.heap.size + 1, 0, none⟩) 1 1 (fun _ => z) _ (by decide) (NumsAt.one (Box.made (by simp)))).mono ?_
    rintro e w3 ⟨rfl, hb3⟩
    rw [err_is, ← HV.out]
    have bZ3 := (bZ.below hc2).below hb3
    have bz3 : Box w3 w2.heap.size 23 #[.int .i64 z.a, .int .i64 z.b, .int .i64 z.c, .int .i64 z.d] := (((Box.made rfl).alloc _).below hb3)
    have hB3 := (hB.trans (hc2.mono hB.size)).trans (hb3.mono (by have := hB.size; simp; omega))
    clear hc2 hb3 bZ hB
    obtain ⟨x0, x1, x2, x3, -, -, -, -, hx⟩ := bz3.cells4
    obtain ⟨y0, y1, y2, y3, f0, f1, f2, f3, hy⟩ := bZ3.cells4
    by_cases hv : V = 0
    · have HVZ := hide hv
      subst hv
      have HC := hide (bZ3.put4 (.int .i64 z.a) (.int .i64 z.b) (.int .i64 z.c) (.int .i64 z.d)).cells4
      have HBL := hide (Below.put4 hB3 hw2 (.int .i64 z.a) (.int .i64 z.b) (.int .i64 z.c) (.int .i64 z.d))
      clear bZ3 bz3 hB3
      go_wp2_with fail
      clear y0 y1 y2 y3
      obtain ⟨y0, y1, y2, y3, -⟩ := HC.out
      refine bodyPost_ret (v := .tuple #[.agg #[.int .i64 z.a, .int .i64 z.b, .int .i64 z.c, .int .i64 z.d], .int .i64 0]) ?_ rfl ⟨by rw [show Y = z from by rw [HR.out]; simp], HBL.out⟩
      simp [results, Try.results10, go_sem, y0, y1, y2, y3]
    · have HVN := hide hv
      have tv : (V != 0) = true := by simpa using hv
      have HC := hide (bZ3.put4 (.int .i64 0) (.int .i64 0) (.int .i64 0) (.int .i64 0)).cells4
      have HBL := hide (Below.put4 hB3 hw2 (.int .i64 0) (.int .i64 0) (.int .i64 0) (.int .i64 0))
      clear bZ3 bz3 hB3 hv HV
      go_wp2_with fail
      clear y0 y1 y2 y3
      obtain ⟨y0, y1, y2, y3, -⟩ := HC.out
      refine bodyPost_ret (v := .tuple #[.agg #[.int .i64 0, .int .i64 0, .int .i64 0, .int .i64 0], .int .i64 V]) ?_ rfl ⟨by rw [HR.out, if_neg HVN.out]; rfl, HBL.out⟩
      simp [results, Try.results10, go_sem, y0, y1, y2, y3]
  · have HEN := hide he
    have te : (E != 0) = true := by simpa using he
    have HV := hide (HE.out.trans (if_neg he))
    obtain ⟨y0, y1, y2, y3, f0, f1, f2, f3, hy⟩ := bZ.cells4
    have HC := hide (bZ.put4 (.int .i64 0) (.int .i64 0) (.int .i64 0) (.int .i64 0)).cells4
    have HBL := hide (Below.put4 hB hw2 (.int .i64 0) (.int .i64 0) (.int .i64 0) (.int .i64 0))
    clear bX bY bZ hB he HE HZ
    go_wp2_with fail
    clear y0 y1 y2 y3
    obtain ⟨y0, y1, y2, y3, -⟩ := HC.out
    refine bodyPost_ret (v := .tuple #[.agg #[.int .i64 0, .int .i64 0, .int .i64 0, .int .i64 0], .int .i64 E]) ?_ rfl ⟨by rw [HR.out, HV.out, if_neg HEN.out]; rfl, HBL.out⟩
    simp [results, Try.results10, go_sem, y0, y1, y2, y3]
end Go.Proofs.Ythihdafdhndfcaa
/- Product of the reference. -/
namespace Go.Proofs.Ythihdafdhndfcaa
open Go.RowKit
set_option maxHeartbeats 8000000 in
set_option maxRecDepth 100000 in
theorem productR_any (x y : Num) (M N : Int) (w : World) (hx : x.Within M) (hy : y.Within N) (h0 : 0 ≤ M * N) (h4 : 4 * (M * N) ≤ 9000000000000000000) (hN : N ≤ 4611686018427387904) :
    Calls Try.prog 14 #[.agg #[.int .i64 x.a, .int .i64 x.b, .int .i64 x.c, .int .i64 x.d], .agg #[.int .i64 y.a, .int .i64 y.b, .int .i64 y.c, .int .i64 y.d]] w fun e w' => e = .returned (.agg #[.int .i64 (x.prod y).a, .int .i64 (x.prod y).b, .int .i64 (x.prod y).c, .int .i64 (x.prod y).d]) ∧ Below w.heap.size w w' := by
  have HPB := hide (fun i (hi : i ≤ 4) => (show (x.prodTo y i).Within 9000000000000000000 from (hx.prodTo hy i).more (by
    obtain ⟨p, hp⟩ : ∃ p, p = M * N := ⟨_, rfl⟩
    rw [← hp] at h0 h4 ⊢
    have h1 : (i : Int) * p ≤ 4 * p := Int.mul_le_mul_of_nonneg_right (by omega) h0
    omega)))
  have HT := hide (fun (i : Nat) (hi : i < 4) W => (by
    have h := turnR_any y (i : Int) W (hy.more hN)
    rw [show ((i : Int) % 8).toNat = i by omega] at h
    exact h : Calls Try.prog 13 #[.agg #[.int .i64 y.a, .int .i64 y.b, .int .i64 y.c, .int .i64 y.d], .int .i64 (i : Int)] W fun e w' => e = .returned (.agg #[.int .i64 (y.turns i).a, .int .i64 (y.turns i).b, .int .i64 (y.turns i).c, .int .i64 (y.turns i).d]) ∧ Below W.heap.size W w'))
  have HTI := hide (fun i => (show (Num.times (x.part i) (y.turns i)).Within 9000000000000000000 from ((hy.turns i).times (hx.part i)).more (by omega)))
  have HP := hide (show x.prod y = x.prodTo y 4 from rfl)
  clear hx hy h0 h4 hN
  go_enter Try.func14, Try.ntmps14
  go_upto_region 3 with fail
  obtain ⟨W0, hW0⟩ : ∃ q : World, q = ((((w.alloc (.cells #[.int .i64 x.a, .int .i64 x.b, .int .i64 x.c, .int .i64 x.d] 23)).alloc (.cells #[.int .i64 y.a, .int .i64 y.b, .int .i64 y.c, .int .i64 y.d] 23)).alloc (.cells #[.int .i64 0, .int .i64 0, .int .i64 0, .int .i64 0] 23)).alloc (.cells #[.int .i64 0, .int .i64 0, .int .i64 0, .int .i64 0] 23)).alloc (.cells #[.int .i64 x.a, .int .i64 x.b, .int .i64 x.c, .int .i64 x.d] 84) := ⟨_, rfl⟩
  rw [← hW0]
  obtain ⟨g1, hg1⟩ : ∃ g, g = w.heap.size + 1 := ⟨_, rfl⟩
  obtain ⟨g2, hg2⟩ : ∃ g, g = w.heap.size + 1 + 1 := ⟨_, rfl⟩
  obtain ⟨g3, hg3⟩ : ∃ g, g = w.heap.size + 1 + 1 + 1 := ⟨_, rfl⟩
  obtain ⟨g4, hg4⟩ : ∃ g, g = w.heap.size + 1 + 1 + 1 + 1 := ⟨_, rfl⟩
  have by0 : Box W0 g1 23 #[.int .i64 y.a, .int .i64 y.b, .int .i64 y.c, .int .i64 y.d] := by rw [hW0]; exact (((Box.made (by simp [hg1])).alloc _).alloc _).alloc _
  have bz0 : Box W0 g2 23 #[.int .i64 0, .int .i64 0, .int .i64 0, .int .i64 0] := by rw [hW0]; exact ((Box.made (by simp [hg2])).alloc _).alloc _
  have ba0 : Box W0 g3 23 #[.int .i64 (x.prodTo y 0).a, .int .i64 (x.prodTo y 0).b, .int .i64 (x.prodTo y 0).c, .int .i64 (x.prodTo y 0).d] := by rw [hW0]; exact (Box.made (by simp [hg3])).alloc _
  have bp0 : Box W0 g4 84 #[.int .i64 x.a, .int .i64 x.b, .int .i64 x.c, .int .i64 x.d] := by rw [hW0]; exact Box.made (by simp [hg4])
  have hB0 : Below w.heap.size w W0 := by rw [hW0]; (repeat (first | (with_reducible exact Below.refl _ _) | (with_reducible refine Go.below_drewN ?_ _) | (with_reducible refine Below.drew ?_) | (with_reducible refine Below.alloc ?_ (by first | exact Nat.le_refl _ | (simp; done) | (simp; omega) | omega) _) | (with_reducible refine Below.setCell ?_ (by first | exact Nat.le_refl _ | (simp; done) | (simp; omega) | omega) _)))
  rw [← hg4, ← hg3, ← hg2, ← hg1]
  have n31 : g1 ≠ g3 := by omega
  have n32 : g2 ≠ g3 := by omega
  have n34 : g4 ≠ g3 := by omega
  have w2 : w.heap.size ≤ g2 := by omega
  have w3 : w.heap.size ≤ g3 := by omega
  clear hW0 hg1 hg2 hg3 hg4
  go_wp2_with fail
  go_loopw [7] (fun i wr => ∃ j : Nat, j ≤ 4 ∧ i = .int .i64 (j : Int) ∧ Box wr g1 23 #[.int .i64 y.a, .int .i64 y.b, .int .i64 y.c, .int .i64 y.d] ∧ Box wr g2 23 #[.int .i64 0, .int .i64 0, .int .i64 0, .int .i64 0] ∧ Box wr g3 23 #[.int .i64 (x.prodTo y j).a, .int .i64 (x.prodTo y j).b, .int .i64 (x.prodTo y j).c, .int .i64 (x.prodTo y j).d] ∧ Box wr g4 84 #[.int .i64 x.a, .int .i64 x.b, .int .i64 x.c, .int .i64 x.d] ∧ Below w.heap.size w wr) (fun i _ => 4 - (Go.RowKit.intOf i).toNat)
  case atStart => exact ⟨0, by decide, rfl, by0, bz0, ba0, bp0, hB0⟩
  case round =>
    clear by0 bz0 ba0 bp0 hB0
    obtain ⟨j, hj, rfl, bY, bZ, bA, bP, hB⟩ := hrel
    obtain ⟨wA, rfl⟩ : ∃ q : World, q = wr := ⟨_, rfl⟩
    obtain ⟨s, hs⟩ : ∃ s, s = x.prodTo y j := ⟨_, rfl⟩
    rw [← hs] at bA
    by_cases hlt : j < 4
    · have hltz : (j : Int) < 4 := by omega
      have HTJ := hide (fun W => HT.out j hlt W)
      obtain ⟨u, hu⟩ : ∃ u, u = y.turns j := ⟨_, rfl⟩
      have hTI := HTI.out j
      have HSS := hide (show x.prodTo y (j + 1) = s.add (Num.times (x.part j) (y.turns j)) from by rw [hs]; rfl)
      have hss := HPB.out (j + 1) hlt
      rw [HSS.out] at hss
      rw [← hu] at HTJ hTI HSS hss
      have hpart : wA.cell? ⟨g4, j, none⟩ = some (.int .i64 (x.part j)) := by
        rw [bP.at_ j]
        obtain rfl | rfl | rfl | rfl : j = 0 ∨ j = 1 ∨ j = 2 ∨ j = 3 := by omega
        all_goals rfl
      obtain ⟨pp, hpp⟩ : ∃ pp, pp = x.part j := ⟨_, rfl⟩
      rw [← hpp] at hpart hTI HSS hss
      obtain ⟨t, ht⟩ : ∃ t, t = Num.times pp u := ⟨_, rfl⟩
      rw [← ht] at hTI HSS hss
      have HPL := hide (fun W => plusR_any s t 9000000000000000000 W hss (by decide))
      have q1 : IntKind.i64.wrap (pp * u.a) = t.a := by rw [ht]; have := hTI.a; rw [ht] at this; exact IntWalk.i64_in _ (by have h : -9000000000000000000 ≤ pp * u.a ∧ pp * u.a ≤ 9000000000000000000 := this; omega)
      have q2 : IntKind.i64.wrap (pp * u.b) = t.b := by rw [ht]; have := hTI.b; rw [ht] at this; exact IntWalk.i64_in _ (by have h : -9000000000000000000 ≤ pp * u.b ∧ pp * u.b ≤ 9000000000000000000 := this; omega)
      have q3 : IntKind.i64.wrap (pp * u.c) = t.c := by rw [ht]; have := hTI.c; rw [ht] at this; exact IntWalk.i64_in _ (by have h : -9000000000000000000 ≤ pp * u.c ∧ pp * u.c ≤ 9000000000000000000 := this; omega)
      have q4 : IntKind.i64.wrap (pp * u.d) = t.d := by rw [ht]; have := hTI.d; rw [ht] at this; exact IntWalk.i64_in _ (by have h : -9000000000000000000 ≤ pp * u.d ∧ pp * u.d ≤ 9000000000000000000 := this; omega)
      obtain ⟨z, hz⟩ : ∃ z, z = s.add t := ⟨_, rfl⟩
      rw [← hz] at HPL HSS
      clear hs hu hpp ht hz hTI hss
      obtain ⟨e0, e1, e2, e3, -, -, -, -, he⟩ := bY.cells4
      go_wp2_with fail
      refine (HTJ.out _).mono ?_
      rintro r v1 ⟨rfl, hb1⟩
      have hpart1 := (hb1.cell (p := ⟨g4, j, none⟩) bP.lt).trans hpart
      replace bY := bY.below hb1
      replace bZ := bZ.below hb1
      replace bA := bA.below hb1
      replace bP := bP.below hb1
      have hB1 := hB.trans (hb1.mono hB.size)
      clear hpart hB hb1 e0 e1 e2 e3 he
      go_upto_region 7 with fail
      obtain ⟨W1, hW1⟩ : ∃ q : World, q = v1.alloc (.cells #[.int .i64 u.a, .int .i64 u.b, .int .i64 u.c, .int .i64 u.d] 23) := ⟨_, rfl⟩
      rw [← hW1]
      obtain ⟨g8, hg8⟩ : ∃ g, g = v1.heap.size := ⟨_, rfl⟩
      have b8 : Box W1 g8 23 #[.int .i64 u.a, .int .i64 u.b, .int .i64 u.c, .int .i64 u.d] := by rw [hW1]; exact Box.made hg8
      rw [← hg8]
      have hpart2 : W1.cell? ⟨g4, j, none⟩ = some (.int .i64 pp) := by rw [hW1]; exact (((Below.refl v1.heap.size v1).alloc (Nat.le_refl _) _).cell (p := ⟨g4, j, none⟩) bP.lt).trans hpart1
      have hAB : Below v1.heap.size v1 W1 := by rw [hW1]; exact (Below.refl _ _).alloc (Nat.le_refl _) _
      replace bY := bY.below hAB
      replace bZ := bZ.below hAB
      replace bA := bA.below hAB
      replace bP := bP.below hAB
      have hB2 : Below w.heap.size w W1 := by rw [hW1]; exact hB1.alloc hB1.size _
      clear hW1 hg8 hB1 hpart1 hAB
      obtain ⟨e0, e1, e2, e3, f0, f1, f2, f3, he⟩ := bA.cells4
      obtain ⟨k0, k1, k2, k3, -, -, -, -, hk⟩ := b8.cells4
      go_still_tail 26, (by kernel_rfl)
      repeat still_step
      try refine wpStill_nil ?_
      go_wp2_with fail
      refine (HPL.out _).mono ?_
      rintro r v2 ⟨rfl, hb2⟩
      have hc2 : Below W1.heap.size W1 v2 := by first | exact hb2 | exact below_of_drew hb2
      replace bY := bY.below hc2
      replace bZ := bZ.below hc2
      replace bA := bA.below hc2
      replace bP := bP.below hc2
      have hB3 := hB2.trans (hc2.mono hB2.size)
      clear hb2 hc2 hB2 b8 hpart2 k0 k1 k2 k3 hk e0 e1 e2 e3 f0 f1 f2 f3 he
      obtain ⟨e0, e1, e2, e3, f0, f1, f2, f3, he⟩ := bA.cells4
      have HA := hide (bA.put4 (.int .i64 z.a) (.int .i64 z.b) (.int .i64 z.c) (.int .i64 z.d))
      have HY := hide (bY.other4 n31 (.int .i64 z.a) (.int .i64 z.b) (.int .i64 z.c) (.int .i64 z.d))
      have HZ := hide (bZ.other4 n32 (.int .i64 z.a) (.int .i64 z.b) (.int .i64 z.c) (.int .i64 z.d))
      have HPP := hide (bP.other4 n34 (.int .i64 z.a) (.int .i64 z.b) (.int .i64 z.c) (.int .i64 z.d))
      have HL := hide (Below.put4 hB3 w3 (.int .i64 z.a) (.int .i64 z.b) (.int .i64 z.c) (.int .i64 z.d))
      clear bY bZ bA bP hB3
      go_wp2_with fail
      go_roundw
      case rel => exact ⟨j + 1, by omega, by go_num, HY.out, HZ.out, by rw [HSS.out]; exact HA.out, HPP.out, HL.out⟩
      case measure => simp [Go.RowKit.intOf]; omega
    · obtain rfl : j = 4 := by omega
      have HR := hide (HP.out.trans hs.symm)
      obtain ⟨x0, x1, x2, x3, f0, f1, f2, f3, hlx⟩ := bA.cells4
      obtain ⟨y0, y1, y2, y3, g0, g1, g2, g3, hly⟩ := bZ.cells4
      have HC := hide (bZ.put4 (.int .i64 s.a) (.int .i64 s.b) (.int .i64 s.c) (.int .i64 s.d)).cells4
      have HBL := hide (Below.put4 hB w2 (.int .i64 s.a) (.int .i64 s.b) (.int .i64 s.c) (.int .i64 s.d))
      clear bY bZ bA bP hB hs
      go_wp2_with fail
      clear y0 y1 y2 y3
      obtain ⟨y0, y1, y2, y3, -⟩ := HC.out
      refine bodyPost_ret (v := .agg #[.int .i64 s.a, .int .i64 s.b, .int .i64 s.c, .int .i64 s.d]) ?_ rfl ⟨by rw [HR.out], HBL.out⟩
      simp [results, Try.results14, go_sem, y0, y1, y2, y3]
end Go.Proofs.Ythihdafdhndfcaa
