/- matched -/
import Derived.Test.YtjelbemfljobaaaEo
namespace Go.Proofs.Ytjelbemfljobaaa
open Go.RowKit Go.Shelf
attribute [local go_sem] Oper.semAt_some
def hasP {C : Nat} (pre : List (Fin C)) (y : Nat) : Bool := pre.any fun x => x.1 == y
theorem hasP_snoc {C : Nat} (pre : List (Fin C)) (x : Fin C) (y : Nat) : hasP (pre ++ [x]) y = (hasP pre y || x.1 == y) := by simp [hasP]
theorem hasP_all {C : Nat} {y : Nat} (h : y < C) : hasP (seqTo C C) y = true := by
  unfold hasP
  rw [List.any_eq_true]
  exact ⟨⟨y, h⟩, seqTo_mem _ h, by simp⟩

/-- What holds between two rounds. -/
structure MInv (w W : World) (A : Option Addr) (n c C : Nat) (T : Nat → Int) (pre : List (Fin C)) : Prop where
  row : W.rowIs (w.heap.size + 1) 3 C (fun y => .int .i64 (if hasP pre y = true then T y else 0))
  b0 : Box W w.heap.size 24 #[.slice A n c]
  b2 : Box W (w.heap.size + 1 + 1) 24 #[.slice (some ⟨w.heap.size + 1, 0, none⟩) C C]
  below : Below w.heap.size w W
  size : w.heap.size + 6 ≤ W.heap.size
theorem MInv.grown {w W Y : World} {A : Option Addr} {n c C : Nat} {T : Nat → Int} {pre : List (Fin C)} {row : Option Nat} (h : MInv w W A n c C T pre) (hg : W.grownBy Y row) (hr : ∀ r, row = some r → w.heap.size + 6 ≤ r) : MInv w Y A n c C T pre := by
  have hs := h.size
  have hk : ∀ k, k < w.heap.size + 6 → Y.heap[k]? = W.heap[k]? := fun k hk => hg.block k (by omega) (fun e => by have := hr k e.symm; omega)
  exact ⟨h.row.of_block (hk _ (by omega)), (hk _ (by omega)).trans h.b0, (hk _ (by omega)).trans h.b2, h.below.grown hg (Nat.le_trans (by omega) hs) (fun k e => by have := hr k e; omega), Nat.le_trans hs hg.size⟩
theorem MInv.set_ {w W : World} {A : Option Addr} {n c C : Nat} {T : Nat → Int} {pre : List (Fin C)} (h : MInv w W A n c C T pre) (x : Fin C) : MInv w (W.setCell ⟨w.heap.size + 1, x.1, none⟩ (.int .i64 (T x.1))) A n c C T (pre ++ [x]) := by
  refine ⟨(h.row.set x.1 _).congr (fun y _ => ?_), h.b0.other (by simp) _, h.b2.other (by simp) _, h.below.setCell (by simp) _, by simpa [World.setCell] using h.size⟩
  rw [hasP_snoc]
  by_cases e : y = x.1
  · subst e
    simp
  · rw [if_neg e]
    have : (x.1 == y) = false := by simpa using fun e' => e e'.symm
    rw [this, Bool.or_false]
theorem MInv.drew {w W : World} {A : Option Addr} {n c C : Nat} {T : Nat → Int} {pre : List (Fin C)} (h : MInv w W A n c C T pre) : MInv w W.drew A n c C T pre := ⟨h.row, h.b0, h.b2, h.below.drew, h.size⟩
theorem MInv.drewN {w W : World} {A : Option Addr} {n c C : Nat} {T : Nat → Int} {pre : List (Fin C)} (h : MInv w W A n c C T pre) (k : Nat) : MInv w (W.drewN k) A n c C T pre := ⟨h.row, h.b0, h.b2, below_drewN h.below k, h.size⟩

set_option maxHeartbeats 2000000 in
set_option maxRecDepth 100000 in
theorem matched_any (A : Option Addr) (n c v C : Nat) (B : Nat → Int) (w : World) (hI : IntsAt w 0 A n B) (hv : v ≤ 3) (hn : 1 ≤ n) (hn9 : n ≤ 1000) (hC : C ≤ 1000) :
    Calls Try.prog 63 #[.slice A n c, .int .i64 (v : Int), .int .i64 (C : Int)] w fun e w' => ∃ x, e = .returned x ∧ GaveInts w C (fun k => B (placeN v n k)) x w' := by
  obtain ⟨i0, hi, hz0, hz1, hz2⟩ := info_parts intInfo
  have hmk := fun W => run_make_row (P := Try.prog) 24 3 i0 (.int .i64 0) Try.underlying24 hi hz0 hz1 rfl .i64 .i64 C (by rw [hz2]; omega) (by omega) W
  have HI := hide hI
  clear hI hi hz0 hz1 hz2
  refine (callsIn_wide (n := 9)).1 ?_
  refine callsIn_of_wp_marks Try.func63 rfl trivial ?_ rfl
  refine wpIn_wide.2 ?_
  simp only [Try.ntmps63, List.size_toArray, List.length_cons, List.length_nil, Nat.reduceAdd, Nat.reduceSub, Array.replicate_succ, Array.replicate_zero, List.push_toArray, List.append_toArray, List.nil_append, List.cons_append]
  go_wp2_with fail
  refine (placesOf_any _ _ _ _).mono ?_
  rintro e w5 ⟨rfl, hw5⟩
  have hz5 : w5.heap.size = w.heap.size + 6 := by rw [← hw5]; simp
  have hA5 : MInv w w5 A n c C (fun k => B (placeN v n k)) [] := by
    refine ⟨?_, ?_, ?_, ?_, by omega⟩
    · rw [← hw5]
      have h := World.rowIs_made (w.alloc (.cells #[.slice A n c] 24)) (.int .i64 0) C 3
      simp only [World.size_alloc] at h
      exact ((((h.alloc _).alloc _).alloc _).alloc _).congr (fun _ _ => rfl)
    · rw [← hw5]; exact (((((Box.made rfl).alloc _).alloc _).alloc _).alloc _).alloc _
    · rw [← hw5]; exact (((Box.made (by simp)).alloc _).alloc _).alloc _
    · rw [← hw5]; (repeat (first | (with_reducible exact Below.refl _ _) | (with_reducible refine below_drewN ?_ _) | (with_reducible refine Below.drew ?_) | (with_reducible refine Below.alloc ?_ (by first | exact Nat.le_refl _ | (simp; done) | (simp; omega) | omega) _) | (with_reducible refine Below.setCell ?_ (by first | exact Nat.le_refl _ | (simp; done) | (simp; omega) | omega) _)))
  have bv : Box w5 (w.heap.size + 3) 3 #[.int .i64 (v : Int)] := by rw [← hw5]; exact ((Box.made (by simp)).alloc _).alloc _
  have bn : Box w5 (w.heap.size + 3 + 1) 3 #[.int .i64 (n : Int)] := by rw [← hw5]; exact (Box.made (by simp)).alloc _
  have bc : Box w5 (w.heap.size + 3 + 1 + 1) 3 #[.int .i64 (C : Int)] := by rw [← hw5]; exact Box.made (by simp)
  clear hw5 hmk
  have HZ5 := hide hz5
  clear hz5
  simp only [World.size_alloc]
  go_wp2_with fail
  refine (wpIn_wide (n := 9)).1 ?_
  apply wpIn_rangeFunc_ownG (n := 9) (encs := encP v n C) (Kp := K3 (w.heap.size + 3)) rfl (by decide) rfl trivial (enters_of Try.func124 (by kernel_rfl) rfl)
    (places_stops 8 (w.heap.size + 3) v n C w5 bv bn bc hv hn hn9 hC)
    K3.trans (fun W l o o' hl h _ _ => K3.put (by have := HZ5.out; omega)) (Below.refl _ _) (fun _ => rfl)
    (fun pre W => MInv w W A n c C (fun k => B (placeN v n k)) pre) (fun _ _ _ => False)
  case hI => exact fun pre X Y row hs hg hr => hs.grown hg (fun r e => by have := (hr r e).1; have := HZ5.out; omega)
  case hIx => exact fun c s X Y row hs _ _ => hs
  case h0 => exact hA5
  case hassign =>
    intro l x W K hK
    unfold encP
    gi_wp2
    exact hK
  case hbody =>
    rintro l pre x W hM hlen
    have hx2 := x.2
    have hpl := placeN_lt (v := v) (k := x.1) (show 0 < n by omega)
    have HM := hide (hM.drew.set_ x)
    have x2 : W.cell? ⟨w.heap.size + 1 + 1, 0, none⟩ = some (.slice (some ⟨w.heap.size + 1, 0, none⟩) C C) := hM.b2.at_ 0
    have hI := HI.out.below hM.below
    obtain ⟨b, o, rfl, -, hb, hcell⟩ := hI _ hpl
    have x0 : W.cell? ⟨w.heap.size, 0, none⟩ = some (.slice (some ⟨b, o, none⟩) n c) := hM.b0.at_ 0
    have hc := hM.row.cell hx2
    have hf := hM.row.frozen x.1
    have hMz := hM.size
    have HO := hide ((Only.refl (w.heap.size + 1) W).drew.set_ x.1 (.int .i64 (B (placeN v n x.1))))
    generalize placeN v n x.1 = p at *
    generalize B p = u at *
    gi_wp2_with fail
    gi_region_with (fail)
    all_goals
      gi_wp2
      exact ⟨⟨HO.out.size, fun q o' hq hk _ => (HO.out.block q (Array.getElem?_eq_some_iff.1 hk).1 (fun e => by injection e; have := HZ5.out; omega)).trans hk⟩, K3.of_only HO.out (by have := HZ5.out; omega) (by omega), HM.out⟩
  case hdone =>
    rintro D xs W hD hxs hM hK
    have x2 : W.cell? ⟨w.heap.size + 1 + 1, 0, none⟩ = some (.slice (some ⟨w.heap.size + 1, 0, none⟩) C C) := hM.b2.at_ 0
    have hK' := hide hK
    have HXS := hide hxs
    clear hxs hK
    have hlt := hM.b2.lt
    go_wp2_with fail
    refine ⟨by simp, .inl ⟨_, _, rfl, run_takeDeferred hK'.out, ?_⟩⟩
    refine ⟨_, by first | exact results_tmp rfl _ _ _ | rfl, _, rfl, ?_⟩
    have hDz : D < W.heap.size := (Array.getElem?_eq_some_iff.1 hK'.out).1
    have hMz := hM.size
    have hz5 := HZ5.out
    have hM3 : MInv w (W.putObj D (.deferred none)) A n c C (fun k => B (placeN v n k)) xs := hM.grown (grownBy_putObj' W D _) (fun r e => by cases e; omega)
    have hr := hM3.row.congr (g := fun y => .int .i64 (B (placeN v n y))) (fun y hy => by rw [HXS.out, if_pos (hasP_all hy)])
    exact GaveInts.of_row hr (by omega) hM3.below
  case hstop => exact fun D c pre W _ _ h _ => h.elim
end Go.Proofs.Ytjelbemfljobaaa
