/- Lemmas: Bs, Wu, Wv, Wx, Wy. -/
import Derived.Deep.RegionHeld3
import Derived.Shelf.Abstract
import Derived.Test.YtcndeegfkgfnkaaBy01
import Derived.Test.YtcndeegfkgfnkaaBy04
set_option linter.unusedVariables false
set_option linter.unusedSimpArgs false
/- A step of a held region: what a call made, behind N facts and Below. -/
namespace Go.Proofs.Ytcndeegfkgfnkaa
open Go.RowKit
theorem bst0 {B : Nat} {w1 W w2 : World} (hb : Below W.heap.size W w2) (h : Below B w1 W) (hB : B ≤ w1.heap.size) : Below B w1 w2 := h.trans (hb.mono (Nat.le_trans hB h.size))
theorem bst1 {B : Nat} {w1 W w2 : World} {p0 : Prop} (hb : Below W.heap.size W w2) (h : p0 ∧ Below B w1 W) (hB : B ≤ w1.heap.size) : Below B w1 w2 := h.2.trans (hb.mono (Nat.le_trans hB h.2.size))
theorem bst2 {B : Nat} {w1 W w2 : World} {p0 p1 : Prop} (hb : Below W.heap.size W w2) (h : p0 ∧ p1 ∧ Below B w1 W) (hB : B ≤ w1.heap.size) : Below B w1 w2 := h.2.2.trans (hb.mono (Nat.le_trans hB h.2.2.size))
theorem bst3 {B : Nat} {w1 W w2 : World} {p0 p1 p2 : Prop} (hb : Below W.heap.size W w2) (h : p0 ∧ p1 ∧ p2 ∧ Below B w1 W) (hB : B ≤ w1.heap.size) : Below B w1 w2 := h.2.2.2.trans (hb.mono (Nat.le_trans hB h.2.2.2.size))
theorem bst4 {B : Nat} {w1 W w2 : World} {p0 p1 p2 p3 : Prop} (hb : Below W.heap.size W w2) (h : p0 ∧ p1 ∧ p2 ∧ p3 ∧ Below B w1 W) (hB : B ≤ w1.heap.size) : Below B w1 w2 := h.2.2.2.2.trans (hb.mono (Nat.le_trans hB h.2.2.2.2.size))
theorem bst5 {B : Nat} {w1 W w2 : World} {p0 p1 p2 p3 p4 : Prop} (hb : Below W.heap.size W w2) (h : p0 ∧ p1 ∧ p2 ∧ p3 ∧ p4 ∧ Below B w1 W) (hB : B ≤ w1.heap.size) : Below B w1 w2 := h.2.2.2.2.2.trans (hb.mono (Nat.le_trans hB h.2.2.2.2.2.size))
theorem bst6 {B : Nat} {w1 W w2 : World} {p0 p1 p2 p3 p4 p5 : Prop} (hb : Below W.heap.size W w2) (h : p0 ∧ p1 ∧ p2 ∧ p3 ∧ p4 ∧ p5 ∧ Below B w1 W) (hB : B ≤ w1.heap.size) : Below B w1 w2 := h.2.2.2.2.2.2.trans (hb.mono (Nat.le_trans hB h.2.2.2.2.2.2.size))
theorem bst7 {B : Nat} {w1 W w2 : World} {p0 p1 p2 p3 p4 p5 p6 : Prop} (hb : Below W.heap.size W w2) (h : p0 ∧ p1 ∧ p2 ∧ p3 ∧ p4 ∧ p5 ∧ p6 ∧ Below B w1 W) (hB : B ≤ w1.heap.size) : Below B w1 w2 := h.2.2.2.2.2.2.2.trans (hb.mono (Nat.le_trans hB h.2.2.2.2.2.2.2.size))
theorem bst8 {B : Nat} {w1 W w2 : World} {p0 p1 p2 p3 p4 p5 p6 p7 : Prop} (hb : Below W.heap.size W w2) (h : p0 ∧ p1 ∧ p2 ∧ p3 ∧ p4 ∧ p5 ∧ p6 ∧ p7 ∧ Below B w1 W) (hB : B ≤ w1.heap.size) : Below B w1 w2 := h.2.2.2.2.2.2.2.2.trans (hb.mono (Nat.le_trans hB h.2.2.2.2.2.2.2.2.size))
theorem bst9 {B : Nat} {w1 W w2 : World} {p0 p1 p2 p3 p4 p5 p6 p7 p8 : Prop} (hb : Below W.heap.size W w2) (h : p0 ∧ p1 ∧ p2 ∧ p3 ∧ p4 ∧ p5 ∧ p6 ∧ p7 ∧ p8 ∧ Below B w1 W) (hB : B ≤ w1.heap.size) : Below B w1 w2 := h.2.2.2.2.2.2.2.2.2.trans (hb.mono (Nat.le_trans hB h.2.2.2.2.2.2.2.2.2.size))
theorem bst10 {B : Nat} {w1 W w2 : World} {p0 p1 p2 p3 p4 p5 p6 p7 p8 p9 : Prop} (hb : Below W.heap.size W w2) (h : p0 ∧ p1 ∧ p2 ∧ p3 ∧ p4 ∧ p5 ∧ p6 ∧ p7 ∧ p8 ∧ p9 ∧ Below B w1 W) (hB : B ≤ w1.heap.size) : Below B w1 w2 := h.2.2.2.2.2.2.2.2.2.2.trans (hb.mono (Nat.le_trans hB h.2.2.2.2.2.2.2.2.2.2.size))
theorem bst11 {B : Nat} {w1 W w2 : World} {p0 p1 p2 p3 p4 p5 p6 p7 p8 p9 p10 : Prop} (hb : Below W.heap.size W w2) (h : p0 ∧ p1 ∧ p2 ∧ p3 ∧ p4 ∧ p5 ∧ p6 ∧ p7 ∧ p8 ∧ p9 ∧ p10 ∧ Below B w1 W) (hB : B ≤ w1.heap.size) : Below B w1 w2 := h.2.2.2.2.2.2.2.2.2.2.2.trans (hb.mono (Nat.le_trans hB h.2.2.2.2.2.2.2.2.2.2.2.size))
theorem bst12 {B : Nat} {w1 W w2 : World} {p0 p1 p2 p3 p4 p5 p6 p7 p8 p9 p10 p11 : Prop} (hb : Below W.heap.size W w2) (h : p0 ∧ p1 ∧ p2 ∧ p3 ∧ p4 ∧ p5 ∧ p6 ∧ p7 ∧ p8 ∧ p9 ∧ p10 ∧ p11 ∧ Below B w1 W) (hB : B ≤ w1.heap.size) : Below B w1 w2 := h.2.2.2.2.2.2.2.2.2.2.2.2.trans (hb.mono (Nat.le_trans hB h.2.2.2.2.2.2.2.2.2.2.2.2.size))
theorem bst13 {B : Nat} {w1 W w2 : World} {p0 p1 p2 p3 p4 p5 p6 p7 p8 p9 p10 p11 p12 : Prop} (hb : Below W.heap.size W w2) (h : p0 ∧ p1 ∧ p2 ∧ p3 ∧ p4 ∧ p5 ∧ p6 ∧ p7 ∧ p8 ∧ p9 ∧ p10 ∧ p11 ∧ p12 ∧ Below B w1 W) (hB : B ≤ w1.heap.size) : Below B w1 w2 := h.2.2.2.2.2.2.2.2.2.2.2.2.2.trans (hb.mono (Nat.le_trans hB h.2.2.2.2.2.2.2.2.2.2.2.2.2.size))
theorem bst14 {B : Nat} {w1 W w2 : World} {p0 p1 p2 p3 p4 p5 p6 p7 p8 p9 p10 p11 p12 p13 : Prop} (hb : Below W.heap.size W w2) (h : p0 ∧ p1 ∧ p2 ∧ p3 ∧ p4 ∧ p5 ∧ p6 ∧ p7 ∧ p8 ∧ p9 ∧ p10 ∧ p11 ∧ p12 ∧ p13 ∧ Below B w1 W) (hB : B ≤ w1.heap.size) : Below B w1 w2 := h.2.2.2.2.2.2.2.2.2.2.2.2.2.2.trans (hb.mono (Nat.le_trans hB h.2.2.2.2.2.2.2.2.2.2.2.2.2.2.size))
theorem bst15 {B : Nat} {w1 W w2 : World} {p0 p1 p2 p3 p4 p5 p6 p7 p8 p9 p10 p11 p12 p13 p14 : Prop} (hb : Below W.heap.size W w2) (h : p0 ∧ p1 ∧ p2 ∧ p3 ∧ p4 ∧ p5 ∧ p6 ∧ p7 ∧ p8 ∧ p9 ∧ p10 ∧ p11 ∧ p12 ∧ p13 ∧ p14 ∧ Below B w1 W) (hB : B ≤ w1.heap.size) : Below B w1 w2 := h.2.2.2.2.2.2.2.2.2.2.2.2.2.2.2.trans (hb.mono (Nat.le_trans hB h.2.2.2.2.2.2.2.2.2.2.2.2.2.2.2.size))
theorem bst16 {B : Nat} {w1 W w2 : World} {p0 p1 p2 p3 p4 p5 p6 p7 p8 p9 p10 p11 p12 p13 p14 p15 : Prop} (hb : Below W.heap.size W w2) (h : p0 ∧ p1 ∧ p2 ∧ p3 ∧ p4 ∧ p5 ∧ p6 ∧ p7 ∧ p8 ∧ p9 ∧ p10 ∧ p11 ∧ p12 ∧ p13 ∧ p14 ∧ p15 ∧ Below B w1 W) (hB : B ≤ w1.heap.size) : Below B w1 w2 := h.2.2.2.2.2.2.2.2.2.2.2.2.2.2.2.2.trans (hb.mono (Nat.le_trans hB h.2.2.2.2.2.2.2.2.2.2.2.2.2.2.2.2.size))
theorem ballocH {B : Nat} {w1 W : World} (h : Below B w1 W) (hB : B ≤ w1.heap.size) (o : Obj) : Below B w1 (W.alloc o) := h.alloc (Nat.le_trans hB h.size) o
theorem quiet_ex {P : Program} {f : FuncId} {args : Array Value} {w : World} {n : Nat} {v : Value}
    (h : Calls P f args (w.drewN n) fun e w' => e = .returned v ∧ ∃ q, w' = (w.drewN n).drewN q) :
    Calls P f args (w.drewN n) fun e w'' => e = .returned v ∧ ∃ m, w'' = w.drewN m :=
  h.mono fun _ _ ⟨he, q, hq⟩ => ⟨he, n + q, by rw [hq, World.drewN_drewN]⟩
end Go.Proofs.Ytcndeegfkgfnkaa
/- pathError of the code. -/
namespace Go.Proofs.Ytcndeegfkgfnkaa
open Go.RowKit
/-- The error of a path behind one of a delay. -/
def pathE (before dl re im : Int) : Int := firstE [unI (withinB dl 0 7) 2, sizeE 100 (fun i => if i = 0 then re else im) 2, unI (decide (before < dl)) 9]
theorem IntsAt.two {w : World} {b : Nat} {t : TypeId} {x y : Int} (h : Box w b t #[.int .i64 x, .int .i64 y]) : IntsAt w 0 (some ⟨b, 0, none⟩) 2 (fun i => if i = 0 then x else y) := fun i hi => by
  match i, hi with
  | 0, _ => exact ⟨b, 0, rfl, Nat.zero_le _, h.lt, h.at_ 0⟩
  | 1, _ => exact ⟨b, 0, rfl, Nat.zero_le _, h.lt, h.at_ 1⟩
set_option maxHeartbeats 4000000 in
set_option maxRecDepth 100000 in
theorem pathError_any (dl re im before : Int) (w : World) :
    Calls Try.prog 67 #[.agg #[.int .i64 dl, .int .i64 re, .int .i64 im], .int .i64 before] w fun e w' => e = .returned (.int .i64 (pathE before dl re im)) ∧ Below w.heap.size w w' := by
  have HF := hide (show pathE before dl re im = firstE [unI (withinB dl 0 7) 2, sizeE 100 (fun i => if i = 0 then re else im) 2, unI (decide (before < dl)) 9] from rfl)
  go_enter Try.func67, Try.ntmps67
  go_upto_region 1 with fail
  obtain ⟨W, hW⟩ : ∃ y : World, y = w.alloc (.cells #[.int .i64 dl, .int .i64 re, .int .i64 im] 41) := ⟨_, rfl⟩
  rw [← hW]
  have bx : Box W w.heap.size 41 #[.int .i64 dl, .int .i64 re, .int .i64 im] := by rw [hW]; exact Box.made rfl
  have hB : Below w.heap.size w W := by rw [hW]; (repeat (first | (with_reducible exact Below.refl _ _) | (with_reducible refine Go.below_drewN ?_ _) | (with_reducible refine Below.drew ?_) | (with_reducible refine Below.alloc ?_ (by first | exact Nat.le_refl _ | (simp; done) | (simp; omega) | omega) _) | (with_reducible refine Below.setCell ?_ (by first | exact Nat.le_refl _ | (simp; done) | (simp; omega) | omega) _)))
  clear hW
  have z0 : W.cell? ⟨w.heap.size, 0, none⟩ = some (.int .i64 dl) := bx.at_ 0
  have z1 : W.cell? ⟨w.heap.size, 1, none⟩ = some (.int .i64 re) := bx.at_ 1
  have z2 : W.cell? ⟨w.heap.size, 2, none⟩ = some (.int .i64 im) := bx.at_ 2
  have hlz := bx.lt
  have HIN := hide (IntsAt.two (Box.made (w := W) (cs := #[.int .i64 re, .int .i64 im]) (t := 3) rfl))
  have hS0 : W.cell? ⟨w.heap.size, 0, none⟩ = some (.int .i64 dl) ∧ W.cell? ⟨w.heap.size, 1, none⟩ = some (.int .i64 re) ∧ W.cell? ⟨w.heap.size, 2, none⟩ = some (.int .i64 im) := ⟨z0, z1, z2⟩
  have bx1 := bx.alloc (.cells #[.int .i64 re, .int .i64 im] 3)
  have bx2 := bx1.alloc (.cells #[.int .i64 (unI (withinB dl 0 7) 2), .int .i64 (sizeE 100 (fun i => if i = 0 then re else im) 2), .int .i64 (unI (decide (before < dl)) 9)] 28)
  have HEND := hide ((hB.alloc hB.size (.cells #[.int .i64 re, .int .i64 im] 3)).alloc (hB.alloc hB.size (.cells #[.int .i64 re, .int .i64 im] 3)).size (.cells #[.int .i64 (unI (withinB dl 0 7) 2), .int .i64 (sizeE 100 (fun i => if i = 0 then re else im) 2), .int .i64 (unI (decide (before < dl)) 9)] 28))
  have hS1 := (⟨bx1.at_ 0, bx1.at_ 1, bx1.at_ 2⟩ : (W.alloc (.cells #[.int .i64 re, .int .i64 im] 3)).cell? ⟨w.heap.size, 0, none⟩ = some (.int .i64 dl) ∧ (W.alloc (.cells #[.int .i64 re, .int .i64 im] 3)).cell? ⟨w.heap.size, 1, none⟩ = some (.int .i64 re) ∧ (W.alloc (.cells #[.int .i64 re, .int .i64 im] 3)).cell? ⟨w.heap.size, 2, none⟩ = some (.int .i64 im))
  have hS2 := (⟨bx2.at_ 0, bx2.at_ 1, bx2.at_ 2⟩ : World.cell? _ ⟨w.heap.size, 0, none⟩ = some (.int .i64 dl) ∧ World.cell? _ ⟨w.heap.size, 1, none⟩ = some (.int .i64 re) ∧ World.cell? _ ⟨w.heap.size, 2, none⟩ = some (.int .i64 im))
  have HFE := hide (fun j (hj : j < ([unI (withinB dl 0 7) 2, sizeE 100 (fun i => if i = 0 then re else im) 2, unI (decide (before < dl)) 9] : List Int).length) => (show ((W.alloc (.cells #[.int .i64 re, .int .i64 im] 3)).alloc (.cells #[.int .i64 (unI (withinB dl 0 7) 2), .int .i64 (sizeE 100 (fun i => if i = 0 then re else im) 2), .int .i64 (unI (decide (before < dl)) 9)] 28)).cell? ⟨W.heap.size + 1, j, none⟩ = some (.int .i64 (([unI (withinB dl 0 7) 2, sizeE 100 (fun i => if i = 0 then re else im) 2, unI (decide (before < dl)) 9] : List Int).getD j 0)) from by
    have hb : Box ((W.alloc (.cells #[.int .i64 re, .int .i64 im] 3)).alloc (.cells #[.int .i64 (unI (withinB dl 0 7) 2), .int .i64 (sizeE 100 (fun i => if i = 0 then re else im) 2), .int .i64 (unI (decide (before < dl)) 9)] 28)) (W.heap.size + 1) 28 #[.int .i64 (unI (withinB dl 0 7) 2), .int .i64 (sizeE 100 (fun i => if i = 0 then re else im) 2), .int .i64 (unI (decide (before < dl)) 9)] := Box.made (by simp)
    match j, hj with
    | 0, _ => exact hb.at_ 0
    | 1, _ => exact hb.at_ 1
    | 2, _ => exact hb.at_ 2))
  clear bx bx1 bx2 hB
  refine wp_region_held_drew (S := fun w' => w'.cell? ⟨w.heap.size, 0, none⟩ = some (.int .i64 dl) ∧ w'.cell? ⟨w.heap.size, 1, none⟩ = some (.int .i64 re) ∧ w'.cell? ⟨w.heap.size, 2, none⟩ = some (.int .i64 im)) (by kernel_rfl) hS0 (fun hHeld => ?_)
  refine wpAnyH_take (i := 0) (oi := ⟨some 5, _, _, _, _, _⟩) (v := ?_) rfl (by kernel_rfl) (by kernel_rfl) (by kernel_rfl) (fun _ _ _ h => h) (Or.inl ⟨by rfl, ?_⟩) (by assumption) ?_
  rotate_left
  · (intro w' hSw; (try dsimp only at hSw); go_simp <;> (with_reducible rfl))
  try simp only [Act.put, List.setIfInBounds_toArray, List.set_cons_zero, List.set_cons_succ]
  refine wpAnyH_take (i := 1) (oi := ⟨some 6, _, _, _, _, _⟩) (v := ?_) rfl (by kernel_rfl) (by kernel_rfl) (by kernel_rfl) (fun _ _ _ h => h) (Or.inl ⟨by rfl, ?_⟩) (by assumption) ?_
  rotate_left
  · (intro w' hSw; (try dsimp only at hSw); go_simp <;> (with_reducible rfl))
  try simp only [Act.put, List.setIfInBounds_toArray, List.set_cons_zero, List.set_cons_succ]
  refine wpAnyH_take (i := 4) (oi := ⟨some 9, _, _, _, _, _⟩) (v := ?_) rfl (by kernel_rfl) (by kernel_rfl) (by kernel_rfl) (fun _ _ _ h => h) (Or.inl ⟨by rfl, ?_⟩) (by assumption) ?_
  rotate_left
  · (intro w' hSw; (try dsimp only at hSw); go_simp <;> (with_reducible rfl))
  try simp only [Act.put, List.setIfInBounds_toArray, List.set_cons_zero, List.set_cons_succ]
  refine wpAnyH_take (i := 5) (oi := ⟨some 10, _, _, _, _, _⟩) (v := ?_) rfl (by kernel_rfl) (by kernel_rfl) (by kernel_rfl) (fun _ _ _ h => h) (Or.inl ⟨by rfl, ?_⟩) (by assumption) ?_
  rotate_left
  · (intro w' hSw; (try dsimp only at hSw); go_simp <;> (with_reducible rfl))
  try simp only [Act.put, List.setIfInBounds_toArray, List.set_cons_zero, List.set_cons_succ]
  refine wpAnyH_take (i := 6) (oi := ⟨some 11, _, _, _, _, _⟩) (v := ?_) rfl (by kernel_rfl) (by kernel_rfl) (by kernel_rfl) (fun _ _ _ h => h) (Or.inl ⟨by rfl, ?_⟩) (by assumption) ?_
  rotate_left
  · (intro w' hSw; (try dsimp only at hSw); go_simp <;> (with_reducible rfl))
  try simp only [Act.put, List.setIfInBounds_toArray, List.set_cons_zero, List.set_cons_succ]
  refine wpAnyH_take (i := 7) (oi := ⟨some 12, _, _, _, _, _⟩) (v := ?_) rfl (by kernel_rfl) (by kernel_rfl) (by kernel_rfl) (fun _ _ _ h => h) (Or.inl ⟨by rfl, ?_⟩) (by assumption) ?_
  rotate_left
  · (intro w' hSw; (try dsimp only at hSw); go_simp <;> (with_reducible rfl))
  try simp only [Act.put, List.setIfInBounds_toArray, List.set_cons_zero, List.set_cons_succ]
  refine wpAnyH_take (i := 8) (oi := ⟨some 13, _, _, _, _, _⟩) (v := ?_) rfl (by kernel_rfl) (by kernel_rfl) (by kernel_rfl) (fun _ _ _ h => h) (Or.inl ⟨by rfl, ?_⟩) (by assumption) ?_
  rotate_left
  · (intro w' hSw; (try dsimp only at hSw); go_simp <;> (with_reducible rfl))
  try simp only [Act.put, List.setIfInBounds_toArray, List.set_cons_zero, List.set_cons_succ]
  refine wpAnyH_take (i := 9) (oi := ⟨some 14, _, _, _, _, _⟩) (v := ?_) rfl (by kernel_rfl) (by kernel_rfl) (by kernel_rfl) (fun _ _ _ h => h) (Or.inl ⟨by rfl, ?_⟩) (by assumption) ?_
  rotate_left
  · (intro w' hSw; (try dsimp only at hSw); go_simp <;> (with_reducible rfl))
  try simp only [Act.put, List.setIfInBounds_toArray, List.set_cons_zero, List.set_cons_succ]
  refine wpAnyH_take (i := 12) (oi := ⟨some 17, _, _, _, _, _⟩) (v := ?_) rfl (by kernel_rfl) (by kernel_rfl) (by kernel_rfl) (fun _ _ _ h => h) (Or.inl ⟨by rfl, ?_⟩) (by assumption) ?_
  rotate_left
  · (intro w' hSw; (try dsimp only at hSw); go_simp <;> (with_reducible rfl))
  try simp only [Act.put, List.setIfInBounds_toArray, List.set_cons_zero, List.set_cons_succ]
  refine wpAnyH_take (i := 13) (oi := ⟨some 18, _, _, _, _, _⟩) (v := ?_) rfl (by kernel_rfl) (by kernel_rfl) (by kernel_rfl) (fun _ _ _ h => h) (Or.inl ⟨by rfl, ?_⟩) (by assumption) ?_
  rotate_left
  · (intro w' hSw; (try dsimp only at hSw); go_simp <;> (with_reducible rfl))
  try simp only [Act.put, List.setIfInBounds_toArray, List.set_cons_zero, List.set_cons_succ]
  refine wpAnyH_take (i := 14) (oi := ⟨some 19, _, _, _, _, _⟩) (v := ?_) rfl (by kernel_rfl) (by kernel_rfl) (by kernel_rfl) (fun _ _ _ h => h) (Or.inl ⟨by rfl, ?_⟩) (by assumption) ?_
  rotate_left
  · (intro w' hSw; (try dsimp only at hSw); go_simp <;> (with_reducible rfl))
  try simp only [Act.put, List.setIfInBounds_toArray, List.set_cons_zero, List.set_cons_succ]
  refine wpAnyH_take (i := 15) (oi := ⟨some 20, _, _, _, _, _⟩) (v := ?_) rfl (by kernel_rfl) (by kernel_rfl) (by kernel_rfl) (fun _ _ _ h => h) (Or.inl ⟨by rfl, ?_⟩) (by assumption) ?_
  rotate_left
  · (intro w' hSw; (try dsimp only at hSw); go_simp <;> (with_reducible rfl))
  try simp only [Act.put, List.setIfInBounds_toArray, List.set_cons_zero, List.set_cons_succ]
  clear z0 z1 z2
  refine wpAnyH_ready (rs := [2, 10]) (by kernel_rfl) (by simp) ?_
  refine AllReadyH.cons (o := ⟨some 7, _, _, _, _, _⟩) rfl (fun K' hK => ?_) (AllReadyH.cons (o := ⟨some 15, _, _, _, _, _⟩) rfl (fun K' hK => ?_) AllReadyH.nil)
  · skip
    go_simp
    go_at_call 25
    refine (isWithin_any _ _ _ _).mono ?_
    rintro r v ⟨rfl, rfl⟩
    go_wp2_with fail
    refine hK.out _ _ hS0 (fun hHeld => ?_)
    clear hK K'
    try simp only [Act.put, List.setIfInBounds_toArray, List.set_cons_zero, List.set_cons_succ]
    refine wpAnyH_ready (rs := [3, 10]) (by kernel_rfl) (by simp) ?_
    refine AllReadyH.cons (o := ⟨some 8, _, _, _, _, _⟩) rfl (fun K' hK => ?_) (AllReadyH.cons (o := ⟨some 15, _, _, _, _, _⟩) rfl (fun K' hK => ?_) AllReadyH.nil)
    · skip
      go_simp
      go_at_call 22
      refine (unless_any _ _ _).mono ?_
      rintro r v ⟨rfl, rfl⟩
      go_wp2_with fail
      refine hK.out _ _ hS0 (fun hHeld => ?_)
      clear hK K'
      try simp only [Act.put, List.setIfInBounds_toArray, List.set_cons_zero, List.set_cons_succ]
      refine wpAnyH_ready (rs := [10]) (by kernel_rfl) (by simp) ?_
      refine AllReadyH.cons (o := ⟨some 15, _, _, _, _, _⟩) rfl (fun K' hK => ?_) AllReadyH.nil
      go_simp
      refine hK.out _ _ hS1 (fun hHeld => ?_)
      clear hK K'
      try simp only [Act.put, List.setIfInBounds_toArray, List.set_cons_zero, List.set_cons_succ]
      refine wpAnyH_ready (rs := [11]) (by kernel_rfl) (by simp) ?_
      refine AllReadyH.cons (o := ⟨some 16, _, _, _, _, _⟩) rfl (fun K' hK => ?_) AllReadyH.nil
      go_simp
      go_at_call 56
      refine (partsError_any 100 (some ⟨W.heap.size, 0, none⟩) 2 2 (fun i => if i = 0 then re else im) _ (by decide) (by decide) (by exact HIN.out)).mono ?_
      rintro r v ⟨rfl, rfl⟩
      go_wp2_with fail
      refine hK.out _ _ hS1 (fun hHeld => ?_)
      clear hK K'
      try simp only [Act.put, List.setIfInBounds_toArray, List.set_cons_zero, List.set_cons_succ]
      refine wpAnyH_ready (rs := [16]) (by kernel_rfl) (by simp) ?_
      refine AllReadyH.cons (o := ⟨some 21, _, _, _, _, _⟩) rfl (fun K' hK => ?_) AllReadyH.nil
      go_simp
      go_at_call 22
      refine (unless_any _ _ _).mono ?_
      rintro r v ⟨rfl, rfl⟩
      go_wp2_with fail
      refine hK.out _ _ hS1 (fun hHeld => ?_)
      clear hK K'
      try simp only [Act.put, List.setIfInBounds_toArray, List.set_cons_zero, List.set_cons_succ]
      refine wpAnyH_ready (rs := [17]) (by kernel_rfl) (by simp) ?_
      refine AllReadyH.cons (o := ⟨some 22, _, _, _, _, _⟩) rfl (fun K' hK => ?_) AllReadyH.nil
      go_simp
      refine hK.out _ _ hS2 (fun hHeld => ?_)
      clear hK K'
      try simp only [Act.put, List.setIfInBounds_toArray, List.set_cons_zero, List.set_cons_succ]
      refine wpAnyH_ready (rs := [18]) (by kernel_rfl) (by simp) ?_
      refine AllReadyH.cons (o := ⟨some 23, _, _, _, _, _⟩) rfl (fun K' hK => ?_) AllReadyH.nil
      go_simp
      go_at_call 20
      refine (firstError_any (W.heap.size + 1) 3 [unI (withinB dl 0 7) 2, sizeE 100 (fun i => if i = 0 then re else im) 2, unI (decide (before < dl)) 9] 3 _ rfl (by decide) (by exact HFE.out)).mono ?_
      rintro r v ⟨rfl, rfl⟩
      go_wp2_with fail
      refine hK.out _ _ hS2 (fun hHeld => ?_)
      clear hK K'
      try simp only [Act.put, List.setIfInBounds_toArray, List.set_cons_zero, List.set_cons_succ]
      refine wpAnyH_ready (rs := [19]) (by kernel_rfl) (by simp) ?_
      refine AllReadyH.cons (o := ⟨some 4, _, _, _, _, _⟩) rfl (fun K' hK => ?_) AllReadyH.nil
      go_simp
      refine hK.out _ _ hS2 (fun hHeld => ?_)
      clear hK K'
      try simp only [Act.put, List.setIfInBounds_toArray, List.set_cons_zero, List.set_cons_succ]
      refine wpAnyH_done (by kernel_rfl) ?_ _
      go_wp2_with fail
      rw [HF.out]
      go_ret
      exact ⟨rfl, by first | exact HEND.out | exact Below.drew HEND.out | exact Below.drew (Below.drew HEND.out)⟩
    · skip
      go_simp
      refine hK.out _ _ hS1 (fun hHeld => ?_)
      clear hK K'
      try simp only [Act.put, List.setIfInBounds_toArray, List.set_cons_zero, List.set_cons_succ]
      refine wpAnyH_ready (rs := [3]) (by kernel_rfl) (by simp) ?_
      refine AllReadyH.cons (o := ⟨some 8, _, _, _, _, _⟩) rfl (fun K' hK => ?_) AllReadyH.nil
      go_simp
      go_at_call 22
      refine (unless_any _ _ _).mono ?_
      rintro r v ⟨rfl, rfl⟩
      go_wp2_with fail
      refine hK.out _ _ hS1 (fun hHeld => ?_)
      clear hK K'
      try simp only [Act.put, List.setIfInBounds_toArray, List.set_cons_zero, List.set_cons_succ]
      refine wpAnyH_ready (rs := [11]) (by kernel_rfl) (by simp) ?_
      refine AllReadyH.cons (o := ⟨some 16, _, _, _, _, _⟩) rfl (fun K' hK => ?_) AllReadyH.nil
      go_simp
      go_at_call 56
      refine (partsError_any 100 (some ⟨W.heap.size, 0, none⟩) 2 2 (fun i => if i = 0 then re else im) _ (by decide) (by decide) (by exact HIN.out)).mono ?_
      rintro r v ⟨rfl, rfl⟩
      go_wp2_with fail
      refine hK.out _ _ hS1 (fun hHeld => ?_)
      clear hK K'
      try simp only [Act.put, List.setIfInBounds_toArray, List.set_cons_zero, List.set_cons_succ]
      refine wpAnyH_ready (rs := [16]) (by kernel_rfl) (by simp) ?_
      refine AllReadyH.cons (o := ⟨some 21, _, _, _, _, _⟩) rfl (fun K' hK => ?_) AllReadyH.nil
      go_simp
      go_at_call 22
      refine (unless_any _ _ _).mono ?_
      rintro r v ⟨rfl, rfl⟩
      go_wp2_with fail
      refine hK.out _ _ hS1 (fun hHeld => ?_)
      clear hK K'
      try simp only [Act.put, List.setIfInBounds_toArray, List.set_cons_zero, List.set_cons_succ]
      refine wpAnyH_ready (rs := [17]) (by kernel_rfl) (by simp) ?_
      refine AllReadyH.cons (o := ⟨some 22, _, _, _, _, _⟩) rfl (fun K' hK => ?_) AllReadyH.nil
      go_simp
      refine hK.out _ _ hS2 (fun hHeld => ?_)
      clear hK K'
      try simp only [Act.put, List.setIfInBounds_toArray, List.set_cons_zero, List.set_cons_succ]
      refine wpAnyH_ready (rs := [18]) (by kernel_rfl) (by simp) ?_
      refine AllReadyH.cons (o := ⟨some 23, _, _, _, _, _⟩) rfl (fun K' hK => ?_) AllReadyH.nil
      go_simp
      go_at_call 20
      refine (firstError_any (W.heap.size + 1) 3 [unI (withinB dl 0 7) 2, sizeE 100 (fun i => if i = 0 then re else im) 2, unI (decide (before < dl)) 9] 3 _ rfl (by decide) (by exact HFE.out)).mono ?_
      rintro r v ⟨rfl, rfl⟩
      go_wp2_with fail
      refine hK.out _ _ hS2 (fun hHeld => ?_)
      clear hK K'
      try simp only [Act.put, List.setIfInBounds_toArray, List.set_cons_zero, List.set_cons_succ]
      refine wpAnyH_ready (rs := [19]) (by kernel_rfl) (by simp) ?_
      refine AllReadyH.cons (o := ⟨some 4, _, _, _, _, _⟩) rfl (fun K' hK => ?_) AllReadyH.nil
      go_simp
      refine hK.out _ _ hS2 (fun hHeld => ?_)
      clear hK K'
      try simp only [Act.put, List.setIfInBounds_toArray, List.set_cons_zero, List.set_cons_succ]
      refine wpAnyH_done (by kernel_rfl) ?_ _
      go_wp2_with fail
      rw [HF.out]
      go_ret
      exact ⟨rfl, by first | exact HEND.out | exact Below.drew HEND.out | exact Below.drew (Below.drew HEND.out)⟩
  · skip
    go_simp
    refine hK.out _ _ hS1 (fun hHeld => ?_)
    clear hK K'
    try simp only [Act.put, List.setIfInBounds_toArray, List.set_cons_zero, List.set_cons_succ]
    refine wpAnyH_ready (rs := [2]) (by kernel_rfl) (by simp) ?_
    refine AllReadyH.cons (o := ⟨some 7, _, _, _, _, _⟩) rfl (fun K' hK => ?_) AllReadyH.nil
    go_simp
    go_at_call 25
    refine (isWithin_any _ _ _ _).mono ?_
    rintro r v ⟨rfl, rfl⟩
    go_wp2_with fail
    refine hK.out _ _ hS1 (fun hHeld => ?_)
    clear hK K'
    try simp only [Act.put, List.setIfInBounds_toArray, List.set_cons_zero, List.set_cons_succ]
    refine wpAnyH_ready (rs := [3]) (by kernel_rfl) (by simp) ?_
    refine AllReadyH.cons (o := ⟨some 8, _, _, _, _, _⟩) rfl (fun K' hK => ?_) AllReadyH.nil
    go_simp
    go_at_call 22
    refine (unless_any _ _ _).mono ?_
    rintro r v ⟨rfl, rfl⟩
    go_wp2_with fail
    refine hK.out _ _ hS1 (fun hHeld => ?_)
    clear hK K'
    try simp only [Act.put, List.setIfInBounds_toArray, List.set_cons_zero, List.set_cons_succ]
    refine wpAnyH_ready (rs := [11]) (by kernel_rfl) (by simp) ?_
    refine AllReadyH.cons (o := ⟨some 16, _, _, _, _, _⟩) rfl (fun K' hK => ?_) AllReadyH.nil
    go_simp
    go_at_call 56
    refine (partsError_any 100 (some ⟨W.heap.size, 0, none⟩) 2 2 (fun i => if i = 0 then re else im) _ (by decide) (by decide) (by exact HIN.out)).mono ?_
    rintro r v ⟨rfl, rfl⟩
    go_wp2_with fail
    refine hK.out _ _ hS1 (fun hHeld => ?_)
    clear hK K'
    try simp only [Act.put, List.setIfInBounds_toArray, List.set_cons_zero, List.set_cons_succ]
    refine wpAnyH_ready (rs := [16]) (by kernel_rfl) (by simp) ?_
    refine AllReadyH.cons (o := ⟨some 21, _, _, _, _, _⟩) rfl (fun K' hK => ?_) AllReadyH.nil
    go_simp
    go_at_call 22
    refine (unless_any _ _ _).mono ?_
    rintro r v ⟨rfl, rfl⟩
    go_wp2_with fail
    refine hK.out _ _ hS1 (fun hHeld => ?_)
    clear hK K'
    try simp only [Act.put, List.setIfInBounds_toArray, List.set_cons_zero, List.set_cons_succ]
    refine wpAnyH_ready (rs := [17]) (by kernel_rfl) (by simp) ?_
    refine AllReadyH.cons (o := ⟨some 22, _, _, _, _, _⟩) rfl (fun K' hK => ?_) AllReadyH.nil
    go_simp
    refine hK.out _ _ hS2 (fun hHeld => ?_)
    clear hK K'
    try simp only [Act.put, List.setIfInBounds_toArray, List.set_cons_zero, List.set_cons_succ]
    refine wpAnyH_ready (rs := [18]) (by kernel_rfl) (by simp) ?_
    refine AllReadyH.cons (o := ⟨some 23, _, _, _, _, _⟩) rfl (fun K' hK => ?_) AllReadyH.nil
    go_simp
    go_at_call 20
    refine (firstError_any (W.heap.size + 1) 3 [unI (withinB dl 0 7) 2, sizeE 100 (fun i => if i = 0 then re else im) 2, unI (decide (before < dl)) 9] 3 _ rfl (by decide) (by exact HFE.out)).mono ?_
    rintro r v ⟨rfl, rfl⟩
    go_wp2_with fail
    refine hK.out _ _ hS2 (fun hHeld => ?_)
    clear hK K'
    try simp only [Act.put, List.setIfInBounds_toArray, List.set_cons_zero, List.set_cons_succ]
    refine wpAnyH_ready (rs := [19]) (by kernel_rfl) (by simp) ?_
    refine AllReadyH.cons (o := ⟨some 4, _, _, _, _, _⟩) rfl (fun K' hK => ?_) AllReadyH.nil
    go_simp
    refine hK.out _ _ hS2 (fun hHeld => ?_)
    clear hK K'
    try simp only [Act.put, List.setIfInBounds_toArray, List.set_cons_zero, List.set_cons_succ]
    refine wpAnyH_done (by kernel_rfl) ?_ _
    go_wp2_with fail
    rw [HF.out]
    go_ret
    exact ⟨rfl, by first | exact HEND.out | exact Below.drew HEND.out | exact Below.drew (Below.drew HEND.out)⟩
end Go.Proofs.Ytcndeegfkgfnkaa
/- CheckPaths's function of one path. -/
namespace Go.Proofs.Ytcndeegfkgfnkaa
open Go.RowKit
theorem Below.grown {w w' : World} (h : Below w.heap.size w w') (r : Option Nat) : w.grownBy w' r := ⟨h.os, h.tape, h.output, h.size, fun k hk _ => h.block k hk⟩
set_option maxHeartbeats 1000000 in
theorem CheckPaths1_any (dl re im before : Int) (b : Nat) (w : World) (hb : Box w b 3 #[.int .i64 before]) :
    (Calls Try.prog 66 #[.agg #[.int .i64 dl, .int .i64 re, .int .i64 im], .pointer (some ⟨b, 0, none⟩)] w fun e w' => e = .returned (.int .i64 (pathE before dl re im)) ∧ Box w' b 3 #[.int .i64 dl] ∧ w.grownBy w' (some b)) := by
  have HP := hide (fun W => pathError_any dl re im before W)
  generalize pathE before dl re im = V at *
  go_enter Try.func66, Try.ntmps66
  go_upto_region 1 with fail
  obtain ⟨W, hW⟩ : ∃ y : World, y = w.alloc (.cells #[.int .i64 dl, .int .i64 re, .int .i64 im] 41) := ⟨_, rfl⟩
  rw [← hW]
  have bx : Box W w.heap.size 41 #[.int .i64 dl, .int .i64 re, .int .i64 im] := by rw [hW]; exact Box.made rfl
  have hbW : Box W b 3 #[.int .i64 before] := by rw [hW]; exact hb.alloc _
  have hB : Below w.heap.size w W := by rw [hW]; (repeat (first | (with_reducible exact Below.refl _ _) | (with_reducible refine Go.below_drewN ?_ _) | (with_reducible refine Below.drew ?_) | (with_reducible refine Below.alloc ?_ (by first | exact Nat.le_refl _ | (simp; done) | (simp; omega) | omega) _) | (with_reducible refine Below.setCell ?_ (by first | exact Nat.le_refl _ | (simp; done) | (simp; omega) | omega) _)))
  have hbw := hb.lt
  clear hW hb
  have z0 : W.cell? ⟨w.heap.size, 0, none⟩ = some (.int .i64 dl) := bx.at_ 0
  have z1 : W.cell? ⟨w.heap.size, 1, none⟩ = some (.int .i64 re) := bx.at_ 1
  have z2 : W.cell? ⟨w.heap.size, 2, none⟩ = some (.int .i64 im) := bx.at_ 2
  have y0 : W.cell? ⟨b, 0, none⟩ = some (.int .i64 before) := hbW.at_ 0
  have hlz := bx.lt
  have hlb := hbW.lt
  go_wp2_with fail
  refine (HP.out _).mono ?_
  rintro r w1 ⟨rfl, hb1⟩
  have bx1 := bx.below hb1
  have hbW1 := hbW.below hb1
  have hB1 := hB.trans (hb1.mono hB.size)
  clear z0 z1 z2 y0 hlz hlb bx hbW hB hb1
  have z0 : w1.cell? ⟨w.heap.size, 0, none⟩ = some (.int .i64 dl) := bx1.at_ 0
  have y0 : w1.cell? ⟨b, 0, none⟩ = some (.int .i64 before) := hbW1.at_ 0
  have f0 : w1.frozen? ⟨b, 0, none⟩ = false := hbW1.free 0
  have hlz := bx1.lt
  have hlb := hbW1.lt
  have HX := hide (hbW1.set_ 0 (.int .i64 dl))
  have HG := hide (show w.grownBy (w1.setCell ⟨b, 0, none⟩ (.int .i64 dl)) (some b) from ⟨hB1.os, hB1.tape, hB1.output, by simpa using hB1.size, fun k hk hne => (heap_setCell_other w1 ⟨b, 0, none⟩ k _ (fun e => hne (by simp [e]))).trans (hB1.block k hk)⟩)
  clear hbW1 bx1 hB1
  go_wp2_with fail
  go_ret
  exact ⟨rfl, HX.out, HG.out⟩
end Go.Proofs.Ytcndeegfkgfnkaa
/- firstWrong of paths: the function that it calls keeps the delay of the path before. -/
namespace Go.Proofs.Ytcndeegfkgfnkaa
open Go.RowKit
/-- A slice of n paths. -/
def PathsAt (w : World) (lo : Nat) (A : Option Addr) (n : Nat) (D R I : Nat → Int) : Prop :=
  ∀ i, i < n → ∃ b o, A = some ⟨b, o, none⟩ ∧ lo ≤ b ∧ b < w.heap.size ∧ w.cell? ⟨b, o + i * 3, none⟩ = some (.int .i64 (D i)) ∧ w.cell? ⟨b, o + i * 3 + 1, none⟩ = some (.int .i64 (R i)) ∧ w.cell? ⟨b, o + i * 3 + 2, none⟩ = some (.int .i64 (I i))
theorem PathsAt.below {w w' : World} {lo n : Nat} {A : Option Addr} {D R I : Nat → Int} (h : PathsAt w lo A n D R I) (hb : Below w.heap.size w w') : PathsAt w' lo A n D R I := fun i hi => by
  obtain ⟨b, o, e, h1, h2, h3, h4, h5⟩ := h i hi
  exact ⟨b, o, e, h1, Nat.lt_of_lt_of_le h2 hb.size, (hb.cell (p := ⟨b, _, none⟩) h2).trans h3, (hb.cell (p := ⟨b, _, none⟩) h2).trans h4, (hb.cell (p := ⟨b, _, none⟩) h2).trans h5⟩
theorem PathsAt.only {w w' : World} {lo n q : Nat} {A : Option Addr} {D R I : Nat → Int} (h : PathsAt w lo A n D R I) (hg : Only q w w') (hq : ∀ b o, A = some ⟨b, o, none⟩ → b ≠ q) : PathsAt w' lo A n D R I := fun i hi => by
  obtain ⟨b, o, e, h1, h2, h3, h4, h5⟩ := h i hi
  have hne : some b ≠ some q := fun e2 => by injection e2 with e2; exact hq b o e e2
  exact ⟨b, o, e, h1, Nat.lt_of_lt_of_le h2 hg.size, World.grownBy.cell hg h3 hne, World.grownBy.cell hg h4 hne, World.grownBy.cell hg h5 hne⟩
/-- The delay of the path before. -/
def prevD (D : Nat → Int) : Nat → Int
  | 0 => -1
  | k + 1 => D k
/-- The error of one path of a list. -/
def pathEs (D R I : Nat → Int) (k : Nat) : Int := pathE (prevD D k) (D k) (R k) (I k)
set_option maxHeartbeats 2000000 in
theorem firstWrong_paths (q : Nat) (A : Option Addr) (n c : Nat) (D R I : Nat → Int) (w : World) (hn : n ≤ 100000) (hI : PathsAt w 0 A n D R I) (hA : ∀ b o, A = some ⟨b, o, none⟩ → b ≠ q) (hq : Box w q 3 #[.int .i64 (-1)]) :
    (Calls Try.prog 65 #[.slice A n c, .func (.func 66) #[] #[.pointer (some ⟨q, 0, none⟩)]] w fun e w' => e = .returned (.tuple #[.int .i64 (badI (pathEs D R I) n : Nat), .int .i64 (badE (pathEs D R I) n)]) ∧ Only q w w') := by
  have HI := hide hI
  have HA := hide hA
  have eg := enters_of Try.func66 (by kernel_rfl) rfl
  clear hI hA
  go_enter Try.func65, Try.ntmps65
  go_wp2_with fail
  go_loopg [11] n (fun gg s wr => ∃ k : Nat, k ≤ n ∧ n - k ≤ gg ∧ s = .int .i64 (k : Int) ∧ Hid (badE (pathEs D R I) k = 0) ∧ Box wr q 3 #[.int .i64 (prevD D k)] ∧ Only q w wr)
  case atStart => exact ⟨0, Nat.zero_le _, by omega, rfl, hide rfl, hq, Only.refl _ _⟩
  case round =>
    clear hq
    obtain ⟨k, hk, hg, rfl, HZ, hq, hO⟩ := hrel
    obtain ⟨wA, rfl⟩ : ∃ x : World, x = wr := ⟨_, rfl⟩
    by_cases hlt : k < n
    · have hltz : (k : Int) < (n : Int) := by omega
      obtain ⟨b, o, rfl, -, hb, c0, c1, c2⟩ := (HI.out.only hO HA.out) k hlt
      have HQ := hide (show pathEs D R I k ≠ 0 → badE (pathEs D R I) n = pathEs D R I k ∧ badI (pathEs D R I) n = k from fun h => ⟨badE_at (g := pathEs D R I) HZ.out h n hlt, badI_at (g := pathEs D R I) HZ.out h n hlt⟩)
      have HN := hide (show pathEs D R I k = 0 → badE (pathEs D R I) (k + 1) = 0 from fun h => by rw [badE_succ HZ.out]; exact h)
      have HC := hide (fun W hW => CheckPaths1_any (D k) (R k) (I k) (prevD D k) q W hW)
      have HE := hide (show pathE (prevD D k) (D k) (R k) (I k) = pathEs D R I k from rfl)
      rw [HE.out] at HC
      have HPD := hide (show prevD D (k + 1) = D k from rfl)
      clear HE
      generalize pathEs D R I k = r at *
      generalize prevD D k = pd at *
      generalize hdk : D k = dk at *
      generalize R k = rk at *
      generalize I k = ik at *
      clear hdk
      go_upto_region 4 with fail
      obtain ⟨W1, hW1⟩ : ∃ y : World, y = wA.alloc (.cells #[.int .i64 dk, .int .i64 rk, .int .i64 ik] 41) := ⟨_, rfl⟩
      rw [← hW1]
      have bx1 : Box W1 wA.heap.size 41 #[.int .i64 dk, .int .i64 rk, .int .i64 ik] := by rw [hW1]; exact Box.made rfl
      have hO1 : Only q w W1 := by rw [hW1]; exact hO.alloc _
      have hq1 : Box W1 q 3 #[.int .i64 pd] := by rw [hW1]; exact hq.alloc _
      clear hW1 hO hb c0 c1 c2 hq
      have y0 : W1.cell? ⟨wA.heap.size, 0, none⟩ = some (.int .i64 dk) := bx1.at_ 0
      have y1 : W1.cell? ⟨wA.heap.size, 1, none⟩ = some (.int .i64 rk) := bx1.at_ 1
      have y2 : W1.cell? ⟨wA.heap.size, 2, none⟩ = some (.int .i64 ik) := bx1.at_ 2
      have hl' := bx1.lt
      have hcall := HC.out W1 hq1
      by_cases hr : r = 0
      · have HN2 := hide (HN.out hr)
        subst hr
        clear HQ HN
        go_wp2_with (go_at_call 66; refine hcall.mono ?_; rintro e w2 ⟨rfl, hq2, hb2⟩)
        go_roundg (n - (k + 1))
        case measure => omega
        case rel => exact ⟨k + 1, by omega, by omega, by go_num, HN2, by rw [HPD.out]; exact hq2, hO1.trans hb2⟩
      · have t1 : (r != 0) = true := by simpa using hr
        have HQ2 := hide (HQ.out hr)
        clear HQ HN hr
        go_wp2_with (go_at_call 66; refine hcall.mono ?_; rintro e w2 ⟨rfl, hq2, hb2⟩)
        go_ret2
        exact ⟨by rw [HQ2.out.1, HQ2.out.2]; rfl, hO1.trans hb2⟩
    · obtain rfl : k = n := by omega
      go_wp2_with fail
      go_ret2
      exact ⟨by rw [HZ.out, badI_zero HZ.out]; rfl, hO⟩
end Go.Proofs.Ytcndeegfkgfnkaa
/- CheckPaths, pathsError of the code. -/
namespace Go.Proofs.Ytcndeegfkgfnkaa
open Go.RowKit
def lenE (n : Nat) : Int := firstE [unI (decide (0 < n)) 10, unI (decide ((n : Int) ≤ 6)) 8]
def chkE (n : Nat) (D R I : Nat → Int) : Int := if lenE n = 0 then badE (pathEs D R I) n else lenE n
def chkI (n : Nat) (D R I : Nat → Int) : Nat := if lenE n = 0 then badI (pathEs D R I) n else 0
theorem lenE_zero {n : Nat} (h : lenE n = 0) : 0 < n := by
  rcases Nat.eq_zero_or_pos n with rfl | h1
  · exact absurd h (by decide)
  · exact h1
set_option maxHeartbeats 1000000 in
theorem CheckPaths_any (A : Option Addr) (n c : Nat) (D R I : Nat → Int) (w : World) (hn : n ≤ 100000) (hI : PathsAt w 0 A n D R I) :
    Calls Try.prog 51 #[.slice A n c] w fun e w' => e = .returned (.tuple #[.int .i64 (chkI n D R I : Nat), .int .i64 (chkE n D R I)]) ∧ Below w.heap.size w w' := by
  have HI := hide hI
  have HL := hide (show firstE [unI (decide (0 < n)) 10, unI (decide ((n : Int) ≤ 6)) 8] = lenE n from rfl)
  have HZ := hide (lenE_zero (n := n))
  have HCI := hide (show chkI n D R I = if lenE n = 0 then badI (pathEs D R I) n else 0 from rfl)
  have HCE := hide (show chkE n D R I = if lenE n = 0 then badE (pathEs D R I) n else lenE n from rfl)
  generalize chkI n D R I = U at *
  generalize chkE n D R I = V at *
  generalize lenE n = e at *
  clear hI
  go_enter Try.func51, Try.ntmps51
  go_wp2_with (go_at_call 22; refine (unless_any _ _ _).mono ?_; rintro e w' ⟨rfl, rfl⟩)
  refine (firstError_laid [unI (decide (0 < n)) 10, unI (decide ((n : Int) ≤ 6)) 8] 2 _ _ rfl (by decide)).mono ?_
  rintro r w1 ⟨rfl, hw1⟩
  rw [HL.out]
  have hB1 : Below w.heap.size w w1 := by rw [← hw1]; (repeat (first | (with_reducible exact Below.refl _ _) | (with_reducible refine Go.below_drewN ?_ _) | (with_reducible refine Below.drew ?_) | (with_reducible refine Below.alloc ?_ (by first | exact Nat.le_refl _ | (simp; done) | (simp; omega) | omega) _) | (with_reducible refine Below.setCell ?_ (by first | exact Nat.le_refl _ | (simp; done) | (simp; omega) | omega) _)))
  clear hw1
  by_cases he : e = 0
  · have hn0 := HZ.out he
    have HU := hide (HCI.out.trans (if_pos he))
    have HV := hide (HCE.out.trans (if_pos he))
    subst he
    clear HL HZ HCI HCE
    obtain ⟨b0, o0, hA0, -, hb0, -⟩ := HI.out 0 hn0
    have HA := hide (show ∀ b o, A = some ⟨b, o, none⟩ → b < w.heap.size from fun b o e => by
      rw [hA0] at e; injection e with e; injection e with e1 e2; omega)
    clear hA0 hb0 hn0
    go_upto_region 5 with fail
    obtain ⟨W, hW⟩ : ∃ y : World, y = w1.alloc (.cells #[.int .i64 (-1)] 3) := ⟨_, rfl⟩
    rw [← hW]
    have hs := hB1.size
    have hq : Box W w1.heap.size 3 #[.int .i64 (-1)] := by rw [hW]; exact Box.made rfl
    have hB : Below w.heap.size w W := by rw [hW]; exact hB1.alloc hs _
    clear hW
    have HC := hide (firstWrong_paths w1.heap.size A n c D R I W hn (HI.out.below hB) (fun b o e => by have := HA.out b o e; omega) hq)
    clear hq
    go_wp2_with fail
    refine HC.out.mono ?_
    rintro r w2 ⟨rfl, hO⟩
    have hB2 := hB.trans (hO.to_below hs hB.size)
    go_wp2_with fail
    go_ret2
    exact ⟨by rw [HU.out, HV.out]; rfl, hB2⟩
  · have te : (e != 0) = true := by simpa using he
    have HU := hide (HCI.out.trans (if_neg he))
    have HV := hide (HCE.out.trans (if_neg he))
    go_wp2_with fail
    go_ret2
    exact ⟨by rw [HU.out, HV.out]; rfl, hB1⟩
set_option maxHeartbeats 1000000 in
theorem pathsError_any (A : Option Addr) (n c : Nat) (D R I : Nat → Int) (w : World) (hn : n ≤ 100000) (hI : PathsAt w 0 A n D R I) :
    Calls Try.prog 27 #[.slice A n c] w fun e w' => e = .returned (.int .i64 (chkE n D R I)) ∧ Below w.heap.size w w' := by
  have HC := hide (CheckPaths_any A n c D R I w hn hI)
  clear hI
  go_enter Try.func27, Try.ntmps27
  go_wp2_with fail
  refine HC.out.mono ?_
  rintro r w1 ⟨rfl, hb1⟩
  go_wp2_with fail
  go_ret
  exact ⟨rfl, hb1⟩
end Go.Proofs.Ytcndeegfkgfnkaa
