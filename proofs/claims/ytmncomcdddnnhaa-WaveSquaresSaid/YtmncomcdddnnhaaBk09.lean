/- Lemmas: Vh, Bi, Ba, Bb, Bc, Fg, Eh. -/
import Derived.BigQuiet
import Derived.Deep.QuietTactic
import Derived.Test.YtmncomcdddnnhaaBk01
import Derived.Test.YtmncomcdddnnhaaBk02
import Derived.Test.YtmncomcdddnnhaaBk03
import Derived.Test.YtmncomcdddnnhaaBk04
import Derived.Test.YtmncomcdddnnhaaBk07
import Derived.Test.YtmncomcdddnnhaaBk08
set_option linter.unusedVariables false
set_option linter.unusedSimpArgs false
/- awake of chapter 4: the document's examples. -/
namespace Go.Proofs.Ytmncomcdddnnhaa
open Go.RowKit Go.Great
theorem Box.path {w : World} {g lo : Nat} {t : TypeId} {a b c d e f : Int} (h : Box w g t #[.int .i64 a, .int .i64 b, .int .i64 c, .int .i64 d, .int .i64 e, .int .i64 f]) (hl : lo ≤ g) :
    PathsAt w lo (some ⟨g, 0, none⟩) 2 (fun i => if i = 0 then a else d) (fun i => if i = 0 then b else e) (fun i => if i = 0 then c else f) := fun i hi => by
  match i, hi with
  | 0, _ => exact ⟨g, 0, rfl, hl, h.lt, h.at_ 0, h.at_ 1, h.at_ 2⟩
  | 1, _ => exact ⟨g, 0, rfl, hl, h.lt, h.at_ 3, h.at_ 4, h.at_ 5⟩
theorem tDoc : turnedR ⟨0, 0, 0, 1⟩ 1 = ⟨-1, 0, 0, 0⟩ := by rfl
theorem tDocE : turnedE ⟨0, 0, 0, 1⟩ 1 = 0 := by decide
theorem chkDoc : chkE 2 (fun i => if i = 0 then 0 else 1) (fun i => if i = 0 then 1 else 2) (fun i => if i = 0 then 0 else 0) = 0 := by decide
theorem okDoc : PathsOk 2 (fun i => if i = 0 then 0 else 1) (fun i => if i = 0 then 1 else 2) (fun i => if i = 0 then 0 else 0) :=
  ⟨by decide, by decide, fun j hj => by match j, hj with | 0, _ => decide | 1, _ => decide, fun j hj => by match j, hj with | 0, _ => decide | 1, _ => decide⟩
theorem respDoc : respTo (fun i => if i = 0 then 0 else 1) (fun i => if i = 0 then 1 else 2) (fun i => if i = 0 then 0 else 0) 2 2 = ⟨1, 0, -2, 0⟩ := by rfl
def oneF (_ : Nat) : Num := ⟨1, 0, 0, 0⟩
def twoF (i : Nat) : Num := if i = 0 then ⟨1, 0, 0, 0⟩ else ⟨0, 0, 1, 0⟩
theorem offDoc : offR 2 2 oneF twoF = 2 := by kernel_rfl
theorem offDocE : offE 2 2 oneF twoF = 0 := by kernel_rfl
theorem seqDoc0 : seqF 0 0 = -1 := by decide
theorem seqDoc1 : seqF 0 1 = 1 := by decide
theorem Box.two {w : World} {g lo : Nat} {t : TypeId} {a b c d e f p q : Int} (h : Box w g t #[.int .i64 a, .int .i64 b, .int .i64 c, .int .i64 d, .int .i64 e, .int .i64 f, .int .i64 p, .int .i64 q]) (hl : lo ≤ g) (F : Nat → Num) (h0 : F 0 = ⟨a, b, c, d⟩) (h1 : F 1 = ⟨e, f, p, q⟩) :
    NumsAt w lo (some ⟨g, 0, none⟩) 2 F := fun i hi => by
  match i, hi with
  | 0, _ => rw [h0]; exact ⟨g, 0, rfl, hl, h.lt, h.at_ 0, h.at_ 1, h.at_ 2, h.at_ 3⟩
  | 1, _ => rw [h1]; exact ⟨g, 0, rfl, hl, h.lt, h.at_ 4, h.at_ 5, h.at_ 6, h.at_ 7⟩
set_option maxHeartbeats 8000000 in
set_option maxRecDepth 100000 in
theorem awake_any (w : World) : Calls Try.prog 6 #[] w fun e w' => e = .returned (.bool true) ∧ Below w.heap.size w w' := by
  have HT := hide (fun W => Turned_any ⟨0, 0, 0, 1⟩ 1 W)
  rw [tDoc, tDocE] at HT
  have HO := hide (fun A B c d W h k => OffsetOf_any A B 2 c 2 d oneF twoF W (by decide) (by decide) h k)
  rw [offDoc, offDocE] at HO
  have HS := hide (fun W => SequenceOf_right 0 W (by decide))
  go_enter Try.func6, Try.ntmps6
  go_wp2_with fail
  refine (HT.out _).mono ?_
  rintro e w1 ⟨rfl, hb1⟩
  simp only []
  go_wp2_with fail
  obtain ⟨W1, hW1⟩ : ∃ q : World, q = w1.alloc (.cells #[.int .i64 (-1), .int .i64 0, .int .i64 0, .int .i64 0] 41) := ⟨_, rfl⟩
  rw [← hW1]
  obtain ⟨g1, hg1⟩ : ∃ g, g = w1.heap.size := ⟨_, rfl⟩
  have b1 : Box W1 g1 41 #[.int .i64 (-1), .int .i64 0, .int .i64 0, .int .i64 0] := by rw [hW1]; exact Box.made hg1
  have hB1 : Below w.heap.size w W1 := by rw [hW1]; exact hb1.alloc hb1.size _
  have hs1 : w1.heap.size + 1 = W1.heap.size := by rw [hW1]; simp
  rw [hs1, ← hg1]
  clear hW1 hb1 hg1 hs1
  refine (ResponseOf_right _ 2 2 _ _ _ _ okDoc chkDoc ((Box.made rfl).path (Nat.zero_le _))).mono ?_
  rintro e w2 ⟨rfl, hb2⟩
  have hB2 : Below w.heap.size w w2 := hB1.trans ((below_behind hb2).mono hB1.size)
  replace b1 := b1.below (below_behind hb2)
  clear hb2 hB1
  obtain ⟨F, hF⟩ : ∃ F, F = fun k => respTo (fun i => if i = 0 then 0 else 1) (fun i => if i = 0 then 1 else 2) (fun i => if i = 0 then 0 else 0) k 2 := ⟨_, rfl⟩
  have HF := hide (show F 2 = ⟨1, 0, -2, 0⟩ from by rw [hF]; exact respDoc)
  rw [← hF]
  clear hF
  go_upto_region 3 with (first | (refine wpList_store8 rfl (.tmp 3) (.tmp 21) rfl w2.heap.size (fun _ => Num.zero) F rfl rfl (arrNums_alloc w2 _ _ rfl) ?_; intro W3 r3 o3) | (refine wpList_allocTo rfl (some 3) rfl (.pointer (some ⟨w2.heap.size, 0, none⟩)) (.cells (arr8 fun _ => Num.zero) 64) (by kernel_rfl) ?_))
  obtain ⟨g3, hg3⟩ : ∃ g, g = w2.heap.size := ⟨_, rfl⟩
  have hB3 : Below w.heap.size w W3 := (hB2.alloc hB2.size _).trans (o3.to_below hB2.size (Nat.le_trans hB2.size (by simp)))
  replace b1 := o3.box (b1.alloc _) (by have := b1.lt; omega)
  rw [← hg3] at r3
  rw [← hg3]
  clear hg3 o3 hB2
  go_wp2_with fail
  refine (HS.out _).mono ?_
  rintro e w4 ⟨A4, c4, rfl, hc4, hI4, hb4⟩
  replace r3 := r3.below hb4
  replace b1 := b1.below hb4
  have hB4 := hB3.trans (hb4.mono hB3.size)
  clear hb4 hB3
  go_wp2_with fail
  refine (HO.out _ _ _ _ _ (((Box.made rfl).two (Nat.zero_le _) oneF rfl rfl).alloc _) ((Box.made (by simp)).two (Nat.zero_le _) twoF rfl rfl)).mono ?_
  rintro e w5 ⟨rfl, hb5⟩
  have hc5 := below_behind (below_behind hb5)
  replace r3 := r3.below hc5
  replace b1 := b1.below hc5
  replace hI4 := hI4.below hc5
  have hB5 := hB4.trans (hc5.mono hB4.size)
  obtain ⟨b0, o0, rfl, -, -, i0⟩ := hI4 0 (by decide)
  obtain ⟨b0', o0', e0', -, -, i1⟩ := hI4 1 (by decide)
  injection e0' with e0'
  injection e0' with e1' e2'
  subst e1' e2'
  rw [seqDoc0, Nat.add_zero] at i0
  rw [seqDoc1] at i1
  have y0 := r3.part (show 2 < 8 by decide) (show 0 < 4 by decide)
  have y1 := r3.part (show 2 < 8 by decide) (show 1 < 4 by decide)
  have y2 := r3.part (show 2 < 8 by decide) (show 2 < 4 by decide)
  have y3 := r3.part (show 2 < 8 by decide) (show 3 < 4 by decide)
  rw [HF.out] at y0 y1 y2 y3
  replace y0 : w5.cell? ⟨g3, 8, none⟩ = some (.int .i64 1) := y0
  replace y1 : w5.cell? ⟨g3, 9, none⟩ = some (.int .i64 0) := y1
  replace y2 : w5.cell? ⟨g3, 10, none⟩ = some (.int .i64 (-2)) := y2
  replace y3 : w5.cell? ⟨g3, 11, none⟩ = some (.int .i64 0) := y3
  obtain ⟨x0, x1, x2, x3, -, -, -, -, -⟩ := b1.cells4
  clear r3 b1 hI4 hb5 hB4 hc5 HF HO HS HT
  go_wp2_with fail
  go_ret
  exact ⟨rfl, hB5⟩
end Go.Proofs.Ytmncomcdddnnhaa
/- SquareOf and Compared of the code. -/
namespace Go.Proofs.Ytmncomcdddnnhaa
open Go.RowKit
theorem parts4 (M a b c d : Int) (g : Nat) (w : World) (hg : g = w.heap.size) (hM : 0 ≤ M ∧ M ≤ 9000000000000000000) :
    Calls Try.prog 43 #[.int .i64 M, .slice (some ⟨g, 0, none⟩) 4 4] (w.alloc (.cells #[.int .i64 a, .int .i64 b, .int .i64 c, .int .i64 d] 3)) fun e w' => e = .returned (.int .i64 (Num.err M ⟨a, b, c, d⟩)) ∧ w.alloc (.cells #[.int .i64 a, .int .i64 b, .int .i64 c, .int .i64 d] 3) = w' := by
  rw [← size4 M a b c d (listF [a, b, c, d]) rfl rfl rfl rfl]
  exact partsError_any M (some ⟨g, 0, none⟩) 4 4 (listF [a, b, c, d]) _ (by decide) hM (IntsAt.of_list [a, b, c, d] 4 rfl (Box.made hg) (Nat.zero_le _))
def sqRP (x : Num) : Int := if x.err 1000000 = 0 then x.sqP else 0
def sqRQ (x : Num) : Int := if x.err 1000000 = 0 then x.sqQ else 0
set_option maxHeartbeats 2000000 in
set_option maxRecDepth 100000 in
theorem SquareOf_any (x : Num) (w : World) :
    Calls Try.prog 17 #[.agg #[.int .i64 x.a, .int .i64 x.b, .int .i64 x.c, .int .i64 x.d]] w fun e w' => e = .returned (.tuple #[.agg #[.int .i64 (sqRP x), .int .i64 (sqRQ x)], .int .i64 (x.err 1000000)]) ∧ Below w.heap.size w w' := by
  have HP := hide (fun W (g : Nat) (hg : g = W.heap.size) => parts4 1000000 x.a x.b x.c x.d g W hg (by decide))
  have HZ := hide (show x.err 1000000 = 0 → x.Within 1000000 from fun h => err_within h)
  have HRP := hide (show sqRP x = if x.err 1000000 = 0 then x.sqP else 0 from rfl)
  have HRQ := hide (show sqRQ x = if x.err 1000000 = 0 then x.sqQ else 0 from rfl)
  rw [show (⟨x.a, x.b, x.c, x.d⟩ : Num) = x from rfl] at HP
  generalize sqRP x = Y at *
  generalize sqRQ x = Z at *
  generalize x.err 1000000 = V at *
  go_enter Try.func17, Try.ntmps17
  go_upto_region 1 with fail
  obtain ⟨W, hW⟩ : ∃ y : World, y = (w.alloc (.cells #[.int .i64 x.a, .int .i64 x.b, .int .i64 x.c, .int .i64 x.d] 41)).alloc (.cells #[.int .i64 0, .int .i64 0] 43) := ⟨_, rfl⟩
  rw [← hW]
  have bx : Box W w.heap.size 41 #[.int .i64 x.a, .int .i64 x.b, .int .i64 x.c, .int .i64 x.d] := by rw [hW]; exact (Box.made rfl).alloc _
  have bs : Box W (w.heap.size + 1) 43 #[.int .i64 0, .int .i64 0] := by rw [hW]; exact Box.made (by simp)
  have hB : Below w.heap.size w W := by rw [hW]; (repeat (first | (with_reducible exact Below.refl _ _) | (with_reducible refine Go.below_drewN ?_ _) | (with_reducible refine Below.drew ?_) | (with_reducible refine Below.alloc ?_ (by first | exact Nat.le_refl _ | (simp; done) | (simp; omega) | omega) _) | (with_reducible refine Below.setCell ?_ (by first | exact Nat.le_refl _ | (simp; done) | (simp; omega) | omega) _)))
  clear hW
  obtain ⟨x0, x1, x2, x3, f0, f1, f2, f3, hlx⟩ := bx.cells4
  go_wp2_with fail
  refine (HP.out W W.heap.size rfl).mono ?_
  rintro e w2 ⟨rfl, hw2⟩
  have bx2 : Box w2 w.heap.size 41 #[.int .i64 x.a, .int .i64 x.b, .int .i64 x.c, .int .i64 x.d] := by rw [← hw2]; exact bx.alloc _
  have bs2 : Box w2 (w.heap.size + 1) 43 #[.int .i64 0, .int .i64 0] := by rw [← hw2]; exact bs.alloc _
  have hB2 : Below w.heap.size w w2 := by rw [← hw2]; exact hB.alloc hB.size _
  clear hw2 bx bs hB x0 x1 x2 x3 f0 f1 f2 f3 hlx HP
  by_cases hv : V = 0
  · have HX := hide (HZ.out hv)
    have tv : (V != 0) = false := by simpa using hv
    rw [if_pos hv] at HRP HRQ
    obtain ⟨x0, x1, x2, x3, f0, f1, f2, f3, hlx⟩ := bx2.cells4
    subst hv
    go_wp2_with fail
    refine (squareOf_any x _ (HX.out.more (by decide))).mono ?_
    rintro e w3 ⟨rfl, hb3⟩
    have bs3 := bs2.below hb3
    have hB3 := hB2.trans (hb3.mono hB2.size)
    clear x0 x1 x2 x3 f0 f1 f2 f3 hlx bx2 bs2 hB2 hb3
    rw [← HRP.out, ← HRQ.out]
    have f0 := bs3.free 0
    have f1 := bs3.free 1
    have y0 := bs3.at_ 0
    have y1 := bs3.at_ 1
    simp only [List.getElem?_toArray] at y0 y1
    have hlt := bs3.lt
    have HC := hide ((bs3.set_ 0 (.int .i64 Y)).set_ 1 (.int .i64 Z))
    have HL := hide ((hB3.setCell (p := ⟨w.heap.size + 1, 0, none⟩) (show w.heap.size ≤ w.heap.size + 1 by omega) (.int .i64 Y)).setCell (p := ⟨w.heap.size + 1, 1, none⟩) (show w.heap.size ≤ w.heap.size + 1 by omega) (.int .i64 Z))
    clear bs3 hB3
    go_wp2_with fail
    clear y0 y1
    have y0 := HC.out.at_ 0
    have y1 := HC.out.at_ 1
    simp only [Array.getElem?_setIfInBounds, List.setIfInBounds_toArray, List.getElem?_toArray] at y0 y1
    refine bodyPost_ret (v := .tuple #[.agg #[.int .i64 Y, .int .i64 Z], .int .i64 0]) ?_ rfl ⟨rfl, HL.out⟩
    simp [results, Try.results17, go_sem, y0, y1]
  · have tv : (V != 0) = true := by simpa using hv
    rw [if_neg hv] at HRP HRQ
    have f0 := bs2.free 0
    have f1 := bs2.free 1
    have y0 := bs2.at_ 0
    have y1 := bs2.at_ 1
    simp only [List.getElem?_toArray] at y0 y1
    have hlt := bs2.lt
    have HC := hide ((bs2.set_ 0 (.int .i64 0)).set_ 1 (.int .i64 0))
    have HL := hide ((hB2.setCell (p := ⟨w.heap.size + 1, 0, none⟩) (show w.heap.size ≤ w.heap.size + 1 by omega) (.int .i64 0)).setCell (p := ⟨w.heap.size + 1, 1, none⟩) (show w.heap.size ≤ w.heap.size + 1 by omega) (.int .i64 0))
    clear hv bx2 bs2 hB2
    go_wp2_with fail
    clear y0 y1
    have y0 := HC.out.at_ 0
    have y1 := HC.out.at_ 1
    simp only [Array.getElem?_setIfInBounds, List.setIfInBounds_toArray, List.getElem?_toArray] at y0 y1
    refine bodyPost_ret (v := .tuple #[.agg #[.int .i64 0, .int .i64 0], .int .i64 V]) ?_ rfl ⟨by rw [HRP.out, HRQ.out], HL.out⟩
    simp [results, Try.results17, go_sem, y0, y1]
/-- The error of two squares that are compared, and what Compared hands back. -/
def cmE (a b c d : Int) : Int := Num.err 10000000000000 ⟨a, b, c, d⟩
def cmR (a b c d : Int) : Int := if cmE a b c d = 0 then compI (a - c) (d - b) else 0
set_option maxHeartbeats 2000000 in
set_option maxRecDepth 100000 in
theorem Compared_any (a b c d : Int) (w : World) :
    Calls Try.prog 18 #[.agg #[.int .i64 a, .int .i64 b], .agg #[.int .i64 c, .int .i64 d]] w fun e w' => e = .returned (.tuple #[.int .i64 (cmR a b c d), .int .i64 (cmE a b c d)]) ∧ Below w.heap.size w w' := by
  have HP := hide (fun W (g : Nat) (hg : g = W.heap.size) => parts4 10000000000000 a b c d g W hg (by decide))
  have HZ := hide (show cmE a b c d = 0 → (⟨a, b, c, d⟩ : Num).Within 10000000000000 from fun h => err_within h)
  have HR := hide (show cmR a b c d = if cmE a b c d = 0 then compI (a - c) (d - b) else 0 from rfl)
  rw [show Num.err 10000000000000 ⟨a, b, c, d⟩ = cmE a b c d from rfl] at HP
  generalize cmR a b c d = Y at *
  generalize cmE a b c d = V at *
  go_enter Try.func18, Try.ntmps18
  go_upto_region 1 with fail
  obtain ⟨W, hW⟩ : ∃ y : World, y = (w.alloc (.cells #[.int .i64 a, .int .i64 b] 43)).alloc (.cells #[.int .i64 c, .int .i64 d] 43) := ⟨_, rfl⟩
  rw [← hW]
  have ba : Box W w.heap.size 43 #[.int .i64 a, .int .i64 b] := by rw [hW]; exact (Box.made rfl).alloc _
  have bb : Box W (w.heap.size + 1) 43 #[.int .i64 c, .int .i64 d] := by rw [hW]; exact Box.made (by simp)
  have hB : Below w.heap.size w W := by rw [hW]; (repeat (first | (with_reducible exact Below.refl _ _) | (with_reducible refine Go.below_drewN ?_ _) | (with_reducible refine Below.drew ?_) | (with_reducible refine Below.alloc ?_ (by first | exact Nat.le_refl _ | (simp; done) | (simp; omega) | omega) _) | (with_reducible refine Below.setCell ?_ (by first | exact Nat.le_refl _ | (simp; done) | (simp; omega) | omega) _)))
  clear hW
  have x0 := ba.at_ 0
  have x1 := ba.at_ 1
  have y0 := bb.at_ 0
  have y1 := bb.at_ 1
  simp only [List.getElem?_toArray] at x0 x1 y0 y1
  go_wp2_with fail
  refine (HP.out W W.heap.size rfl).mono ?_
  rintro e w2 ⟨rfl, hw2⟩
  have ba2 : Box w2 w.heap.size 43 #[.int .i64 a, .int .i64 b] := by rw [← hw2]; exact ba.alloc _
  have bb2 : Box w2 (w.heap.size + 1) 43 #[.int .i64 c, .int .i64 d] := by rw [← hw2]; exact bb.alloc _
  have hB2 : Below w.heap.size w w2 := by rw [← hw2]; exact hB.alloc hB.size _
  clear hw2 ba bb hB x0 x1 y0 y1 HP
  by_cases hv : V = 0
  · obtain ⟨h1, h2, h3, h4⟩ := HZ.out hv
    have HCC := hide (fun W => compared_any a b c d W (by simp only at h1; omega) (by simp only at h2; omega) (by simp only at h3; omega) (by simp only at h4; omega))
    have tv : (V != 0) = false := by simpa using hv
    rw [if_pos hv] at HR
    rw [← HR.out] at HCC
    have x0 := ba2.at_ 0
    have x1 := ba2.at_ 1
    have y0 := bb2.at_ 0
    have y1 := bb2.at_ 1
    simp only [List.getElem?_toArray] at x0 x1 y0 y1
    have HB := hide hB2
    clear h1 h2 h3 h4 ba2 bb2 hB2 HZ HR
    subst hv
    go_wp2_with fail
    refine (HCC.out _).mono ?_
    rintro e w3 ⟨rfl, hb3⟩
    have HB3 := hide (HB.out.trans (hb3.mono HB.out.size))
    clear x0 x1 y0 y1 hb3 HB
    go_wp2_with fail
    go_ret2
    exact ⟨rfl, HB3.out⟩
  · have tv : (V != 0) = true := by simpa using hv
    rw [if_neg hv] at HR
    have HB := hide hB2
    clear hv ba2 bb2 hB2 HZ
    go_wp2_with fail
    go_ret2
    exact ⟨by rw [HR.out]; rfl, HB.out⟩
end Go.Proofs.Ytmncomcdddnnhaa
/- Numbers of any size (downtiltbase): mathematics of digits; trimmed, wideOf. -/
namespace Go.Proofs.Ytmncomcdddnnhaa
open Go.RowKit
def BB : Int := 1000000000
def valD (D : Nat → Int) : Nat → Int
  | 0 => 0
  | k + 1 => valD D k + D k * BB ^ k
def Dig (n : Nat) (D : Nat → Int) : Prop := ∀ j, j < n → 0 ≤ D j ∧ D j < BB
def Norm (n : Nat) (D : Nat → Int) : Prop := n = 0 ∨ D (n - 1) ≠ 0
def trimN (D : Nat → Int) : Nat → Nat
  | 0 => 0
  | k + 1 => if D k = 0 then trimN D k else k + 1
theorem pow_pos_BB (k : Nat) : 0 < BB ^ k := Int.pow_pos (by decide)
theorem valD_congr {D E : Nat → Int} : ∀ n, (∀ j, j < n → D j = E j) → valD D n = valD E n
  | 0, _ => rfl
  | k + 1, h => by
    show valD D k + D k * BB ^ k = valD E k + E k * BB ^ k
    rw [valD_congr k fun j hj => h j (by omega), h k (Nat.lt_succ_self k)]
theorem valD_range {D : Nat → Int} : ∀ n, Dig n D → 0 ≤ valD D n ∧ valD D n < BB ^ n
  | 0, _ => ⟨Int.le_refl _, (by decide : (0 : Int) < BB ^ 0)⟩
  | k + 1, h => by
    obtain ⟨h1, h2⟩ := valD_range k fun j hj => h j (by omega)
    obtain ⟨d0, d1⟩ := h k (Nat.lt_succ_self k)
    have hp := pow_pos_BB k
    show 0 ≤ valD D k + D k * BB ^ k ∧ valD D k + D k * BB ^ k < BB ^ (k + 1)
    rw [Int.pow_succ, Int.mul_comm (BB ^ k) BB]
    have a1 : 0 ≤ D k * BB ^ k := Int.mul_nonneg d0 (by omega)
    have a2 : (D k + 1) * BB ^ k ≤ BB * BB ^ k := Int.mul_le_mul_of_nonneg_right (by omega) (by omega)
    rw [Int.add_mul, Int.one_mul] at a2
    omega
theorem trimN_le (D : Nat → Int) : ∀ n, trimN D n ≤ n
  | 0 => Nat.le_refl _
  | k + 1 => by
    unfold trimN
    split
    · have := trimN_le D k; omega
    · exact Nat.le_refl _
theorem trimN_norm (D : Nat → Int) : ∀ n, Norm (trimN D n) D
  | 0 => .inl rfl
  | k + 1 => by
    unfold trimN
    split
    · exact trimN_norm D k
    · rename_i h; exact .inr (by simpa using h)
theorem trimN_val (D : Nat → Int) : ∀ n, valD D (trimN D n) = valD D n
  | 0 => rfl
  | k + 1 => by
    unfold trimN
    split
    · rename_i h
      rw [trimN_val D k]
      show valD D k = valD D k + D k * BB ^ k
      rw [h, Int.zero_mul, Int.add_zero]
    · rfl
theorem norm_ge {D : Nat → Int} {n : Nat} (hd : Dig (n + 1) D) (hn : Norm (n + 1) D) : BB ^ n ≤ valD D (n + 1) := by
  rcases hn with h | h
  · exact absurd h (Nat.succ_ne_zero n)
  · rw [Nat.add_sub_cancel] at h
    have h1 := (valD_range n fun j hj => hd j (by omega)).1
    obtain ⟨d0, -⟩ := hd n (Nat.lt_succ_self n)
    have hp := pow_pos_BB n
    show BB ^ n ≤ valD D n + D n * BB ^ n
    have a2 : 1 * BB ^ n ≤ D n * BB ^ n := Int.mul_le_mul_of_nonneg_right (by omega) (by omega)
    omega
theorem norm_pos {D : Nat → Int} {n : Nat} (hd : Dig n D) (hn : Norm n D) (h : 0 < n) : 0 < valD D n := by
  obtain ⟨k, rfl⟩ : ∃ k, n = k + 1 := ⟨n - 1, by omega⟩
  have := norm_ge hd hn
  have := pow_pos_BB k
  omega
theorem pow_mono_BB {a b : Nat} (h : a ≤ b) : BB ^ a ≤ BB ^ b := by
  obtain ⟨d, rfl⟩ : ∃ d, b = a + d := ⟨b - a, by omega⟩
  induction d with
  | zero => exact Int.le_refl _
  | succ d ih =>
    have := ih (by omega)
    rw [← Nat.add_assoc, Int.pow_succ]
    have hp := pow_pos_BB (a + d)
    have : BB ^ (a + d) * 1 ≤ BB ^ (a + d) * BB := Int.mul_le_mul_of_nonneg_left (by decide) (by omega)
    omega
theorem valD_fewer {D E : Nat → Int} {n m : Nat} (h : n < m) (hd : Dig n D) (he : Dig m E) (hn : Norm m E) : valD D n < valD E m := by
  obtain ⟨k, rfl⟩ : ∃ k, m = k + 1 := ⟨m - 1, by omega⟩
  have h1 := (valD_range n hd).2
  have h2 := norm_ge he hn
  have h3 := pow_mono_BB (show n ≤ k by omega)
  omega
theorem valD_less {D E : Nat → Int} {i : Nat} : ∀ {n : Nat}, Dig n D → Dig n E → i < n → D i < E i → (∀ j, i < j → j < n → D j = E j) → valD D n < valD E n
  | 0, _, _, h, _, _ => absurd h (Nat.not_lt_zero i)
  | k + 1, hd, he, hi, hl, hq => by
    show valD D k + D k * BB ^ k < valD E k + E k * BB ^ k
    have hp := pow_pos_BB k
    by_cases e : i = k
    · subst e
      have h1 := (valD_range i fun j hj => hd j (by omega)).2
      have h2 := (valD_range i fun j hj => he j (by omega)).1
      have a2 : (D i + 1) * BB ^ i ≤ E i * BB ^ i := Int.mul_le_mul_of_nonneg_right (by omega) (by omega)
      rw [Int.add_mul, Int.one_mul] at a2
      omega
    · have h1 := valD_less (D := D) (E := E) (i := i) (n := k) (fun j hj => hd j (by omega)) (fun j hj => he j (by omega)) (by omega) hl fun j h1 h2 => hq j h1 (by omega)
      rw [hq k (by omega) (Nat.lt_succ_self k)]
      omega
set_option maxHeartbeats 1000000 in
theorem trimmed_any (A : Option Addr) (n c : Nat) (D : Nat → Int) (w : World) (hn : n ≤ 1000) (hc : n ≤ c) (hI : IntsAt w 0 A n D) :
    Calls Try.prog 92 #[.slice A n c] w fun e w' => e = .returned (.slice A (trimN D n) c) ∧ w = w' := by
  have HI := hide hI
  clear hI
  go_enter Try.func92, Try.ntmps92
  go_wp2_with fail
  go_loopw [3] (fun x wr => ∃ k : Nat, k ≤ n ∧ x = .int .i64 (k : Int) ∧ Hid (trimN D k = trimN D n) ∧ w = wr) (fun x _ => (Go.RowKit.intOf x).toNat)
  case atStart => exact ⟨n, Nat.le_refl _, rfl, hide rfl, rfl⟩
  case round =>
    obtain ⟨k, hk, rfl, HT, rfl⟩ := hrel
    have hkc : (k : Int) ≤ (c : Int) := by omega
    rcases k with _ | j
    · go_wp2_with fail
      go_ret
      exact ⟨by rw [show trimN D n = 0 from HT.out.symm]; rfl, rfl⟩
    · have h0 : ((j + 1 : Nat) : Int) > 0 := by omega
      have q1 : IntKind.i64.wrap (((j + 1 : Nat) : Int) - 1) = (j : Int) := by have h := IntWalk.i64_in (((j + 1 : Nat) : Int) - 1) (by omega); rw [h]; first | done | omega
      have hjn : (j : Int) < (n : Int) := by omega
      obtain ⟨b, o, rfl, -, -, x0⟩ := HI.out j (by omega)
      by_cases hz : D j = 0
      · have HT2 := hide (show trimN D j = trimN D n from by rw [← HT.out]; show _ = if D j = 0 then trimN D j else j + 1; rw [if_pos hz])
        rw [hz] at x0
        clear hz HT
        go_wp2_with fail
        go_roundw
        case rel => exact ⟨j, by omega, by first | rfl | go_num, HT2, by first | rfl | trivial⟩
        case measure => (simp [Go.RowKit.intOf]; first | done | omega)
      · have HT2 := hide (show trimN D n = j + 1 from by rw [← HT.out]; show (if D j = 0 then trimN D j else j + 1) = _; rw [if_neg hz])
        have t1 : (D j == 0) = false := by simpa using hz
        generalize D j = x at *
        clear hz HT
        go_wp2_with fail
        go_ret
        exact ⟨by rw [HT2.out]; rfl, rfl⟩
end Go.Proofs.Ytmncomcdddnnhaa
/- Numbers of any size: wideOf, cmpDigits, digit, WideNeg. -/
namespace Go.Proofs.Ytmncomcdddnnhaa
open Go.RowKit
def sgnT (s : Int) (t : Nat) : Int := if t = 0 then 0 else s
set_option maxHeartbeats 1000000 in
theorem wideOf_any (s : Int) (A : Option Addr) (n c : Nat) (D : Nat → Int) (w : World) (hn : n ≤ 1000) (hc : n ≤ c) (hI : IntsAt w 0 A n D) :
    Calls Try.prog 78 #[.int .i64 s, .slice A n c] w fun e w' => e = .returned (.agg #[.int .i64 (sgnT s (trimN D n)), .slice A (trimN D n) c]) ∧ Below w.heap.size w w' := by
  have HT := hide (fun W (h : IntsAt W 0 A n D) => trimmed_any A n c D W hn hc h)
  have HI := hide hI
  have HS := hide (show sgnT s (trimN D n) = if trimN D n = 0 then 0 else s from rfl)
  have hl := trimN_le D n
  generalize trimN D n = t at *
  clear hI
  have ht9 : t ≤ 1000 := by omega
  by_cases h0 : t = 0
  · have HS2 := hide (HS.out.trans (if_pos h0))
    subst h0
    clear HS
    go_enter Try.func78, Try.ntmps78
    go_upto_region 1 with fail
    obtain ⟨W, hW⟩ : ∃ q : World, q = w.alloc (.cells #[.int .i64 0, .slice none 0 0] 81) := ⟨_, rfl⟩
    rw [← hW]
    have b0 : Box W w.heap.size 81 #[.int .i64 0, .slice none 0 0] := by rw [hW]; exact Box.made rfl
    have hB : Below w.heap.size w W := by rw [hW]; (repeat (first | (with_reducible exact Below.refl _ _) | (with_reducible refine Go.below_drewN ?_ _) | (with_reducible refine Below.drew ?_) | (with_reducible refine Below.alloc ?_ (by first | exact Nat.le_refl _ | (simp; done) | (simp; omega) | omega) _) | (with_reducible refine Below.setCell ?_ (by first | exact Nat.le_refl _ | (simp; done) | (simp; omega) | omega) _)))
    clear hW
    have h0 := b0.at_ 0
    have h1 := b0.at_ 1
    simp only [List.getElem?_toArray] at h0 h1
    have f0 := b0.free 0
    have f1 := b0.free 1
    have hlt := b0.lt
    have HC := hide ((b0.set_ 0 (.int .i64 0)).set_ 1 (.slice A 0 c))
    have HL := hide ((hB.setCell (p := ⟨w.heap.size, 0, none⟩) (Nat.le_refl _) (.int .i64 0)).setCell (p := ⟨w.heap.size, 1, none⟩) (Nat.le_refl _) (.slice A 0 c))
    have HIW := hide (HI.out.below hB)
    clear b0 hB
    go_wp2_with (go_at_call 92; refine (HT.out _ HIW.out).mono ?_; rintro e w' ⟨rfl, rfl⟩)
    clear h0 h1
    have h0 := HC.out.at_ 0
    have h1 := HC.out.at_ 1
    simp only [Array.getElem?_setIfInBounds, List.setIfInBounds_toArray, List.getElem?_toArray] at h0 h1
    refine bodyPost_ret (v := .agg #[.int .i64 0, .slice A 0 c]) ?_ rfl ⟨by rw [HS2.out], HL.out⟩
    simp [results, Try.results78, go_sem, h0, h1]
  · have HS2 := hide (HS.out.trans (if_neg h0))
    have ht : ((t : Int) == 0) = false := by simp; omega
    clear HS h0
    go_enter Try.func78, Try.ntmps78
    go_upto_region 1 with fail
    obtain ⟨W, hW⟩ : ∃ q : World, q = w.alloc (.cells #[.int .i64 0, .slice none 0 0] 81) := ⟨_, rfl⟩
    rw [← hW]
    have b0 : Box W w.heap.size 81 #[.int .i64 0, .slice none 0 0] := by rw [hW]; exact Box.made rfl
    have hB : Below w.heap.size w W := by rw [hW]; (repeat (first | (with_reducible exact Below.refl _ _) | (with_reducible refine Go.below_drewN ?_ _) | (with_reducible refine Below.drew ?_) | (with_reducible refine Below.alloc ?_ (by first | exact Nat.le_refl _ | (simp; done) | (simp; omega) | omega) _) | (with_reducible refine Below.setCell ?_ (by first | exact Nat.le_refl _ | (simp; done) | (simp; omega) | omega) _)))
    clear hW
    have h0 := b0.at_ 0
    have h1 := b0.at_ 1
    simp only [List.getElem?_toArray] at h0 h1
    have f0 := b0.free 0
    have f1 := b0.free 1
    have hlt := b0.lt
    have HC := hide ((b0.set_ 0 (.int .i64 s)).set_ 1 (.slice A t c))
    have HL := hide ((hB.setCell (p := ⟨w.heap.size, 0, none⟩) (Nat.le_refl _) (.int .i64 s)).setCell (p := ⟨w.heap.size, 1, none⟩) (Nat.le_refl _) (.slice A t c))
    have HIW := hide (HI.out.below hB)
    clear b0 hB
    go_wp2_with (go_at_call 92; refine (HT.out _ HIW.out).mono ?_; rintro e w' ⟨rfl, rfl⟩)
    clear h0 h1
    have h0 := HC.out.at_ 0
    have h1 := HC.out.at_ 1
    simp only [Array.getElem?_setIfInBounds, List.setIfInBounds_toArray, List.getElem?_toArray] at h0 h1
    refine bodyPost_ret (v := .agg #[.int .i64 s, .slice A t c]) ?_ rfl ⟨by rw [HS2.out], HL.out⟩
    simp [results, Try.results78, go_sem, h0, h1]
set_option maxHeartbeats 1000000 in
theorem wideNeg_any (s : Int) (A : Option Addr) (n c : Nat) (w : World) (hs : -1 ≤ s ∧ s ≤ 1) :
    Calls Try.prog 94 #[.agg #[.int .i64 s, .slice A n c]] w fun e w' => e = .returned (.agg #[.int .i64 (-s), .slice A n c]) ∧ Below w.heap.size w w' := by
  have q1 : IntKind.i64.wrap (-s) = -s := IntWalk.i64_in _ (by omega)
  clear hs
  go_enter Try.func94, Try.ntmps94
  go_wp2_with fail
  have hb : Box ((w.alloc (.cells #[.int .i64 s, .slice A n c] 81)).alloc (.cells #[.int .i64 (-s), .slice A n c] 81)) (w.heap.size + 1) 81 #[.int .i64 (-s), .slice A n c] := Box.made (by simp)
  have h0 := hb.at_ 0
  have h1 := hb.at_ 1
  simp only [List.getElem?_toArray] at h0 h1
  refine bodyPost_ret (v := .agg #[.int .i64 (-s), .slice A n c]) ?_ rfl ⟨rfl, by (repeat (first | (with_reducible exact Below.refl _ _) | (with_reducible refine Go.below_drewN ?_ _) | (with_reducible refine Below.drew ?_) | (with_reducible refine Below.alloc ?_ (by first | exact Nat.le_refl _ | (simp; done) | (simp; omega) | omega) _) | (with_reducible refine Below.setCell ?_ (by first | exact Nat.le_refl _ | (simp; done) | (simp; omega) | omega) _)))⟩
  simp [results, Try.results94, go_sem, h0, h1]
def digN (n : Nat) (D : Nat → Int) (i : Nat) : Int := if i < n then D i else 0
set_option maxHeartbeats 1000000 in
theorem digit_any (A : Option Addr) (n c : Nat) (D : Nat → Int) (i : Nat) (w : World) (hI : IntsAt w 0 A n D) :
    Calls Try.prog 101 #[.slice A n c, .int .i64 (i : Int)] w fun e w' => e = .returned (.int .i64 (digN n D i)) ∧ w = w' := by
  by_cases h : i < n
  · have hz : (i : Int) < (n : Int) := by omega
    have HV := hide (show digN n D i = D i from if_pos h)
    obtain ⟨b, o, rfl, -, -, x0⟩ := hI i h
    generalize digN n D i = v at *
    generalize D i = x at *
    clear hI h
    go_enter Try.func101, Try.ntmps101
    go_wp2_with fail
    go_ret
    exact ⟨by rw [HV.out]; rfl, rfl⟩
  · have hz : ¬ (i : Int) < (n : Int) := by omega
    have HV := hide (show digN n D i = 0 from if_neg h)
    generalize digN n D i = v at *
    clear hI h
    go_enter Try.func101, Try.ntmps101
    go_wp2_with fail
    go_ret
    exact ⟨by rw [HV.out]; rfl, rfl⟩
set_option maxHeartbeats 2000000 in
theorem cmpDigits_any (A B : Option Addr) (n c m d : Nat) (D E : Nat → Int) (w : World) (hn : n ≤ 1000) (hm : m ≤ 1000) (hI : IntsAt w 0 A n D) (hJ : IntsAt w 0 B m E) (hD : Dig n D) (hE : Dig m E) (hDn : Norm n D) (hEn : Norm m E) :
    Calls Try.prog 99 #[.slice A n c, .slice B m d] w fun e w' => e = .returned (.int .i64 (cmpI (valD D n) (valD E m))) ∧ Below w.heap.size w w' := by
  rcases Nat.lt_trichotomy n m with h | h | h
  · have HV := hide (cmpI_lt (valD_fewer h hD hE hEn))
    have t1 : ((n : Int) != (m : Int)) = true := by simp; omega
    have t2 : (n : Int) < (m : Int) := by omega
    generalize cmpI (valD D n) (valD E m) = v at *
    clear hI hJ hD hE hDn hEn h
    go_enter Try.func99, Try.ntmps99
    go_wp2_with fail
    go_ret
    exact ⟨by rw [HV.out]; rfl, Below.refl _ _⟩
  · subst h
    have HI := hide hI
    have HJ := hide hJ
    have t1 : ((n : Int) != (n : Int)) = false := by simp
    have HLT := hide (fun i (hi : i < n) (h1 : D i < E i) (h2 : ∀ j, i < j → j < n → D j = E j) => cmpI_lt (valD_less hD hE hi h1 h2))
    have HGT := hide (fun i (hi : i < n) (h1 : E i < D i) (h2 : ∀ j, i < j → j < n → D j = E j) => cmpI_gt (valD_less hE hD hi h1 fun j a b => (h2 j a b).symm))
    have HEQ := hide (fun (h2 : ∀ j, j < n → D j = E j) => cmpI_eq (valD_congr n h2))
    have q0 : IntKind.i64.wrap ((n : Int) - 1) = (n : Int) - 1 := IntWalk.i64_in _ (by omega)
    generalize cmpI (valD D n) (valD E n) = v at *
    clear hI hJ hD hE hDn hEn hm
    go_enter Try.func99, Try.ntmps99
    go_wp2_with fail
    go_loopw [5] (fun x wr => ∃ k : Nat, k ≤ n ∧ x = .int .i64 ((k : Int) - 1) ∧ Hid (∀ j, k ≤ j → j < n → D j = E j) ∧ Below w.heap.size w wr) (fun x _ => (Go.RowKit.intOf x + 1).toNat)
    case atStart => exact ⟨n, Nat.le_refl _, rfl, hide (fun j h1 h2 => absurd h2 (by omega)), Below.refl _ _⟩
    case round =>
      obtain ⟨k, hk, rfl, HQ, hB⟩ := hrel
      obtain ⟨wA, rfl⟩ : ∃ x : World, x = wr := ⟨_, rfl⟩
      rcases k with _ | j
      · have hv := HEQ.out fun j hj => HQ.out j (Nat.zero_le _) hj
        have t3 : ¬ (((0 : Nat) : Int) - 1 ≥ 0) := by omega
        go_wp2_with fail
        go_ret
        exact ⟨by first | rfl | (rw [hv]; rfl), hB⟩
      · have e0 : ((j + 1 : Nat) : Int) - 1 = (j : Int) := by omega
        have hjn : (j : Int) < (n : Int) := by omega
        rw [e0]
        have t3 : (j : Int) ≥ 0 := by omega
        have q1 : IntKind.i64.wrap ((j : Int) - 1) = (j : Int) - 1 := IntWalk.i64_in _ (by omega)
        obtain ⟨b, o, rfl, -, -, x0⟩ := (HI.out.below hB) j (by omega)
        obtain ⟨b', o', rfl, -, -, y0⟩ := (HJ.out.below hB) j (by omega)
        have h2 : ∀ q, j < q → q < n → D q = E q := fun q a b => HQ.out q (by omega) b
        have HLj := hide (fun h1 => HLT.out j (by omega) h1 h2)
        have HGj := hide (fun h1 => HGT.out j (by omega) h1 h2)
        have HQj := hide (show D j = E j → ∀ q, j ≤ q → q < n → D q = E q from fun e q a b => by
          by_cases h : q = j
          · rw [h]; exact e
          · exact h2 q (by omega) b)
        generalize D j = x at *
        generalize E j = y at *
        rcases Int.lt_trichotomy x y with h | h | h
        · have hv := HLj.out h
          clear HLj HGj HQj h2
          go_wp2_with fail
          go_quiet (fail)
          go_wp2_with fail
          go_ret
          exact ⟨by first | rfl | (rw [hv]; rfl), ⟨hB.os, hB.tape, hB.output, hB.size, hB.block⟩⟩
        · subst h
          have HN := hide (HQj.out rfl)
          have t4 : ¬ (x < x) := by omega
          have t5 : ¬ (x > x) := by omega
          clear HLj HGj HQj h2
          go_wp2_with fail
          go_quiet (fail)
          go_wp2_with fail
          go_quiet (fail)
          go_wp2_with fail
          go_roundw
          case rel => exact ⟨j, by omega, by first | rfl | go_num, HN, ⟨hB.os, hB.tape, hB.output, hB.size, hB.block⟩⟩
          case measure => (simp [Go.RowKit.intOf]; first | done | omega)
        · have hv := HGj.out h
          have t4 : ¬ (x < y) := by omega
          have t5 : x > y := h
          clear HLj HGj HQj h2 h
          go_wp2_with fail
          go_quiet (fail)
          go_wp2_with fail
          go_quiet (fail)
          go_wp2_with fail
          go_ret
          exact ⟨by first | rfl | (rw [hv]; rfl), ⟨hB.os, hB.tape, hB.output, hB.size, hB.block⟩⟩
  · have HV := hide (cmpI_gt (valD_fewer h hE hD hDn))
    have t1 : ((n : Int) != (m : Int)) = true := by simp; omega
    have t2 : ¬ ((n : Int) < (m : Int)) := by omega
    generalize cmpI (valD D n) (valD E m) = v at *
    clear hI hJ hD hE hDn hEn h
    go_enter Try.func99, Try.ntmps99
    go_wp2_with fail
    go_ret
    exact ⟨by rw [HV.out]; rfl, Below.refl _ _⟩
end Go.Proofs.Ytmncomcdddnnhaa
/- Numbers of any size: subDigits. -/
namespace Go.Proofs.Ytmncomcdddnnhaa
open Go.RowKit
/-- The digit i of a difference, and the borrow behind the first i digits. -/
def subB (D G : Nat → Int) : Nat → Int
  | 0 => 0
  | k + 1 => if D k - G k - subB D G k < 0 then 1 else 0
def subD (D G : Nat → Int) (k : Nat) : Int := if D k - G k - subB D G k < 0 then D k - G k - subB D G k + BB else D k - G k - subB D G k
theorem subB_bit {D G : Nat → Int} : ∀ k, subB D G k = 0 ∨ subB D G k = 1
  | 0 => .inl rfl
  | k + 1 => by
    show (if _ then (1 : Int) else 0) = 0 ∨ (if _ then (1 : Int) else 0) = 1
    split
    · exact .inr rfl
    · exact .inl rfl
theorem subD_dig {D G : Nat → Int} {n : Nat} (hD : Dig n D) (hG : Dig n G) : Dig n (subD D G) := fun j hj => by
  obtain ⟨d0, d1⟩ := hD j hj
  obtain ⟨g0, g1⟩ := hG j hj
  have hb := subB_bit (D := D) (G := G) j
  unfold subD
  unfold BB at *
  generalize subB D G j = b at *
  rcases hb with rfl | rfl <;> split <;> omega
theorem subD_val {D G : Nat → Int} : ∀ n, valD (subD D G) n - subB D G n * BB ^ n = valD D n - valD G n
  | 0 => rfl
  | k + 1 => by
    have ih := subD_val (D := D) (G := G) k
    have hs : subD D G k = if D k - G k - subB D G k < 0 then D k - G k - subB D G k + BB else D k - G k - subB D G k := rfl
    show valD (subD D G) k + subD D G k * BB ^ k - (if D k - G k - subB D G k < 0 then (1 : Int) else 0) * BB ^ (k + 1) = valD D k + D k * BB ^ k - (valD G k + G k * BB ^ k)
    rw [Int.pow_succ, Int.mul_comm (BB ^ k) BB]
    generalize subD D G k = z at *
    generalize valD (subD D G) k = V at *
    generalize BB ^ k = p at *
    generalize subB D G k = b at *
    have e1 : (D k - G k - b + BB) * p = D k * p - G k * p - b * p + BB * p := by rw [Int.add_mul, Int.sub_mul, Int.sub_mul]
    have e2 : (D k - G k - b) * p = D k * p - G k * p - b * p := by rw [Int.sub_mul, Int.sub_mul]
    by_cases h : D k - G k - b < 0
    · rw [if_pos h] at hs ⊢
      rw [hs, e1, Int.one_mul]
      omega
    · rw [if_neg h] at hs ⊢
      rw [hs, e2, Int.zero_mul]
      omega
theorem digN_dig {n m : Nat} {E : Nat → Int} (hE : Dig m E) : Dig n (digN m E) := fun j _ => by
  unfold digN
  split
  · rename_i h; exact hE j h
  · exact ⟨Int.le_refl _, by decide⟩
theorem digN_val {m : Nat} {E : Nat → Int} : ∀ n, m ≤ n → valD (digN m E) n = valD E m
  | 0, h => by rw [show m = 0 by omega]; rfl
  | k + 1, h => by
    by_cases e : m = k + 1
    · rw [e]
      exact valD_congr (k + 1) fun j hj => if_pos hj
    · show valD (digN m E) k + digN m E k * BB ^ k = valD E m
      rw [digN_val k (by omega), show digN m E k = 0 from if_neg (by omega), Int.zero_mul, Int.add_zero]
/-- A difference that is not below 0. -/
theorem sub_val {D E : Nat → Int} {n m : Nat} (hD : Dig n D) (hE : Dig m E) (hm : m ≤ n) (h : valD E m ≤ valD D n) : valD (subD D (digN m E)) n = valD D n - valD E m := by
  have h1 := subD_val (D := D) (G := digN m E) n
  rw [digN_val n hm] at h1
  have h2 := (valD_range n (subD_dig hD (digN_dig hE (n := n)))).2
  have hp := pow_pos_BB n
  rcases subB_bit (D := D) (G := digN m E) n with e | e <;> rw [e] at h1
  · rw [Int.zero_mul] at h1; omega
  · rw [Int.one_mul] at h1; omega
set_option maxHeartbeats 4000000 in
set_option maxRecDepth 100000 in
theorem subDigits_any (A B : Option Addr) (n c m d : Nat) (D E : Nat → Int) (w : World) (hn : n ≤ 1000) (hI : IntsAt w 0 A n D) (hJ : IntsAt w 0 B m E) (hD : Dig n D) (hE : Dig m E) :
    Calls Try.prog 100 #[.slice A n c, .slice B m d] w fun e w' => ∃ R r, e = .returned (.slice R (trimN (subD D (digN m E)) n) r) ∧ n ≤ r ∧ IntsAt w' w.heap.size R n (subD D (digN m E)) ∧ Below w.heap.size w w' := by
  obtain ⟨G, hG⟩ : ∃ G, G = digN m E := ⟨_, rfl⟩
  have HI := hide hI
  have HJ := hide hJ
  have HD := hide hD
  have HG := hide (show Dig n G by rw [hG]; exact digN_dig hE)
  have HDI := hide (show ∀ (i : Nat) (W : World), IntsAt W 0 B m E → Calls Try.prog 101 #[.slice B m d, .int .i64 (i : Int)] W fun e w' => e = .returned (.int .i64 (G i)) ∧ w' = W from fun i W h => by rw [hG]; exact (digit_any B m d E i W h).mono fun _ _ h => ⟨h.1, h.2.symm⟩)
  have HT := hide (fun (O : Option Addr) (o9 : Nat) (W : World) (h1 : n ≤ o9) (h2 : IntsAt W 0 O n (subD D G)) => trimmed_any O n o9 (subD D G) W hn h1 h2)
  rw [← hG]
  clear hI hJ hD hE hG
  go_enter Try.func100, Try.ntmps100
  go_wp2_with fail
  go_loopw [5, 6, 7] (fun v b x wr => ∃ k : Nat, k ≤ n ∧ b = .int .i64 (subB D G k) ∧ x = .int .i64 (k : Int) ∧ OwnInts wr w.heap.size v k (subD D G) ∧ Below w.heap.size w wr) (fun _ _ x _ => n - (Go.RowKit.intOf x).toNat)
  case atStart => exact ⟨0, Nat.zero_le _, rfl, rfl, OwnInts.nil_ _ _ _, Below.refl _ _⟩
  case round =>
    obtain ⟨k, hk, rfl, rfl, ho, hB⟩ := hrel
    obtain ⟨wA, rfl⟩ : ∃ x : World, x = wr := ⟨_, rfl⟩
    obtain ⟨O, o9, rfl, ho9, hO⟩ := ho.form
    have hBs := hB.size
    by_cases hlt : k < n
    · have hltz : (k : Int) < (n : Int) := by omega
      obtain ⟨b0, o0, rfl, -, -, x0⟩ := (HI.out.below hB) k hlt
      have HJA := hide (HJ.out.below hB)
      obtain ⟨d0, d1⟩ := HD.out k hlt
      obtain ⟨g0, g1⟩ := HG.out k hlt
      have hb := subB_bit (D := D) (G := G) k
      have HDk := hide (HDI.out k)
      have HS1 := hide (show subB D G (k + 1) = if D k - G k - subB D G k < 0 then 1 else 0 from rfl)
      have HS2 := hide (show subD D G k = if D k - G k - subB D G k < 0 then D k - G k - subB D G k + BB else D k - G k - subB D G k from rfl)
      generalize subB D G k = b at *
      generalize D k = p at *
      generalize G k = q at *
      obtain ⟨f, hf⟩ : ∃ f, f = p - q - b := ⟨_, rfl⟩
      rw [← hf] at HS1 HS2
      unfold BB at d1 g1 HS2
      have q1 : IntKind.i64.wrap (p - q) = p - q := IntWalk.i64_in _ (by omega)
      have q2 : IntKind.i64.wrap (p - q - b) = f := by rw [hf]; exact IntWalk.i64_in _ (by omega)
      have hf9 : -1000000002 ≤ f ∧ f ≤ 1000000002 := by omega
      have HO := hide ho
      have HB := hide hB
      clear hf d0 d1 g0 g1 hb ho hB hO
      by_cases hneg : f < 0
      · obtain ⟨z, hz⟩ : ∃ z, z = f + 1000000000 := ⟨_, rfl⟩
        have q3 : IntKind.i64.wrap (f + 1000000000) = z := by rw [hz]; exact IntWalk.i64_in _ (by omega)
        have HZ := hide (show subD D G k = z by rw [hz, HS2.out, if_pos hneg])
        have HY := hide (show subB D G (k + 1) = 1 by rw [HS1.out, if_pos hneg])
        clear hz HS1 HS2 hf9
        go_wp2_with fail
        go_quiet ((go_at_call 101; exact Calls.quiet_of_same (HDk.out _ HJA.out)))
        clear q1 q2
        go_wp2_with (at_builtin; refine wpList_append_ints _ rfl (.tmp 29) (.tmp 31) rfl w.heap.size 0 (.slice O k o9) k _ rfl ((HO.out.drewN _).alloc _) (some ⟨_, 0, none⟩) 1 1 (fun _ => z) rfl (IntsAt.one _ 0 z 3 (Nat.zero_le _)) (by omega) (by simp; omega) ?_; intro v' w' h1 hb4)
        go_roundw
        case rel =>
          refine ⟨k + 1, by omega, by rw [HY.out], by go_num, h1.congr fun j hj => ?_, ((Go.below_drewN HB.out _).alloc hBs _).trans hb4⟩
          unfold catF
          by_cases e : j < k
          · rw [if_pos e]
          · obtain rfl : j = k := by omega
            rw [if_neg e, HZ.out]
        case measure => simp [Go.RowKit.intOf]; omega
      · obtain ⟨z, hz⟩ : ∃ z, z = f := ⟨_, rfl⟩
        have HZ := hide (show subD D G k = f by rw [HS2.out, if_neg hneg])
        have HY := hide (show subB D G (k + 1) = 0 by rw [HS1.out, if_neg hneg])
        clear hz HS1 HS2 hf9
        go_wp2_with fail
        go_quiet ((go_at_call 101; exact Calls.quiet_of_same (HDk.out _ HJA.out)))
        clear q1 q2
        go_wp2_with (at_builtin; refine wpList_append_ints _ rfl (.tmp 29) (.tmp 31) rfl w.heap.size 0 (.slice O k o9) k _ rfl ((HO.out.drewN _).alloc _) (some ⟨_, 0, none⟩) 1 1 (fun _ => f) rfl (IntsAt.one _ 0 f 3 (Nat.zero_le _)) (by omega) (by simp; omega) ?_; intro v' w' h1 hb4)
        go_roundw
        case rel =>
          refine ⟨k + 1, by omega, by rw [HY.out], by go_num, h1.congr fun j hj => ?_, ((Go.below_drewN HB.out _).alloc hBs _).trans hb4⟩
          unfold catF
          by_cases e : j < k
          · rw [if_pos e]
          · obtain rfl : j = k := by omega
            rw [if_neg e, HZ.out]
        case measure => simp [Go.RowKit.intOf]; omega
    · obtain rfl : k = n := by omega
      have hltz : ¬ ((k : Int) < (k : Int)) := by omega
      have HTk := hide (HT.out O o9 wA ho9 (hO.weak (Nat.zero_le _)))
      clear hlt
      go_wp2_with fail
      refine HTk.out.mono ?_
      rintro e w' ⟨rfl, rfl⟩
      go_wp2_with fail
      go_ret
      exact ⟨O, o9, rfl, ho9, hO, hB⟩
end Go.Proofs.Ytmncomcdddnnhaa
/- base.AreBits -/
namespace Go.Proofs.Ytmncomcdddnnhaa
open Go.RowKit
end Go.Proofs.Ytmncomcdddnnhaa
/- exploring: CheckPolar -/
namespace Go.Proofs.Ytmncomcdddnnhaa
open Go.RowKit
/-- A right polar code: n positions F, ascending, below 2 to the power p. -/
structure PolarOk (p n : Nat) (F : Nat → Int) : Prop where
  power : p ≤ 6
  some_ : 0 < n
  range : ∀ k, k < n → 0 ≤ F k ∧ F k ≤ 2 ^ p - 1
  order : ∀ k, k + 1 < n → F k < F (k + 1)
def beforeI (F : Nat → Int) : Nat → Int
  | 0 => -1
  | k + 1 => F k
end Go.Proofs.Ytmncomcdddnnhaa
