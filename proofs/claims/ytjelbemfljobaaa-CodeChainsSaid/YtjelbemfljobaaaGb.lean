/- CopyPolar, CheckPolar of the reference -/
import Derived.Test.YtjelbemfljobaaaGa
namespace Go.Proofs.Ytjelbemfljobaaa
open Go.RowKit
theorem ballocG {B : Nat} {w1 W : World} (h : Below B w1 W) (hB : B ≤ w1.heap.size) (o : Obj) : Below B w1 (W.alloc o) := h.alloc (Nat.le_trans hB h.size) o
theorem bstepG {B : Nat} {w1 W w2 : World} {p q : Prop} (hb : Below W.heap.size W w2) (h : p ∧ q ∧ Below B w1 W) (hB : B ≤ w1.heap.size) : Below B w1 w2 := h.2.2.trans (hb.mono (Nat.le_trans hB h.2.2.size))
set_option maxHeartbeats 1000000 in
theorem copyPolar_any (p : Int) (A : Option Addr) (n c : Nat) (F : Nat → Int) (w : World) (hn : n ≤ 100000) (hI : IntsAt w 0 A n F) :
    Calls Try.prog 64 #[.agg #[.int .i64 p, .slice A n c]] w fun e w' => ∃ A' c', e = .returned (.agg #[.int .i64 p, .slice A' n c']) ∧ n ≤ c' ∧ IntsAt w' w.heap.size A' n F ∧ Below w.heap.size w w' := by
  have HI := hide hI
  clear hI
  go_enter Try.func64, Try.ntmps64
  go_wp2_with fail
  generalize hW : World.alloc (World.alloc w _) _ = W
  have bx : Box W w.heap.size 26 #[.int .i64 p, .slice A n c] := by rw [← hW]; exact (Box.made rfl).alloc _
  have by' : Box W (w.heap.size + 1) 26 #[.int .i64 0, .slice none 0 0] := by rw [← hW]; exact Box.made (by simp)
  have hB : Below w.heap.size w W := by rw [← hW]; exact ((Below.refl _ _).alloc (Nat.le_refl _) _).alloc (by simp) _
  clear hW
  have x0 : W.cell? ⟨w.heap.size, 0, none⟩ = some (.int .i64 p) := bx.at_ 0
  have x1 : W.cell? ⟨w.heap.size, 1, none⟩ = some (.slice A n c) := bx.at_ 1
  have hz : w.heap.size + 1 + 1 ≤ W.heap.size := by'.lt
  have BY := hide by'
  have HBB := hide hB
  have SOF := hide (fun W' (h : Below (w.heap.size + 1) W W') => (⟨(h.cell (p := ⟨w.heap.size, 0, none⟩) (by simp)).trans x0, (h.cell (p := ⟨w.heap.size, 1, none⟩) (by simp)).trans x1, h⟩ :
     W'.cell? ⟨w.heap.size, 0, none⟩ = some (.int .i64 p) ∧ W'.cell? ⟨w.heap.size, 1, none⟩ = some (.slice A n c) ∧ Below (w.heap.size + 1) W W'))
  have KI := hide (fun W' (h : W'.cell? ⟨w.heap.size, 0, none⟩ = some (.int .i64 p) ∧ W'.cell? ⟨w.heap.size, 1, none⟩ = some (.slice A n c) ∧ Below (w.heap.size + 1) W W') => HI.out.below (hB.trans (h.2.2.mono (by omega))))
  have b0 : Below (w.heap.size + 1) W W := Below.refl _ _
  clear x0 x1 hB by'
  go_region_held3 (fun w' => w'.cell? ⟨w.heap.size, 0, none⟩ = some (.int .i64 p) ∧ w'.cell? ⟨w.heap.size, 1, none⟩ = some (.slice A n c) ∧ Below (w.heap.size + 1) W w')
      (first | assumption | exact SOF.out _ (by assumption) | exact SOF.out _ b0.drew | exact SOF.out _ (hs2.setCell (by simp) _) | exact SOF.out _ ((hs2.setCell (by simp) _).setCell (by simp) _))
      (first
        | (go_at_call 15; refine (copyInts_any A n c F _ (by omega) (KI.out _ (by assumption))).mono ?_; rintro e w2 ⟨v2, rfl, A2, c2, rfl, hc2, hI2, hb2⟩; have hs2 : Below (w.heap.size + 1) W w2 := bstepG hb2 (by assumption) (by omega); have hy2 := BY.out.below (below_of_drew hb2); have y0 := hy2.at_ 0; have y1 := hy2.at_ 1; have yf0 := hy2.free 0; have yf1 := hy2.free 1; have yl := hy2.lt))
  go_wp2_with fail
  refine bodyPost_ret (v := .agg #[.int .i64 p, .slice A2 n c2]) ?_ rfl ⟨A2, c2, rfl, hc2, ?_, ?_⟩
  · have z0 := ((hy2.set_ 0 (.int .i64 p)).set_ 1 (.slice A2 n c2)).at_ 0
    have z1 := ((hy2.set_ 0 (.int .i64 p)).set_ 1 (.slice A2 n c2)).at_ 1
    simp at z0 z1
    simp [results, Try.results64, go_sem, z0, z1]
  · have h := hI2.weak (show w.heap.size + 1 + 1 ≤ _ from hz)
    exact ((h.other (p := ⟨w.heap.size + 1, 0, none⟩) (by simp) _).other (p := ⟨w.heap.size + 1, 1, none⟩) (by simp) _).weak (by omega)
  · have hB2 : Below w.heap.size w w2 := HBB.out.trans (hs2.mono (by omega))
    exact (hB2.setCell (by simp) _).setCell (by simp) _
end Go.Proofs.Ytjelbemfljobaaa
