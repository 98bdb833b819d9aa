/- Lemmas: Er, Fb, Fc, Nb, Fg, Ga. -/
import Derived.Test.YtnglmfdcnoglhaaBk01
import Derived.Test.YtnglmfdcnoglhaaBk02
import Derived.Test.YtnglmfdcnoglhaaBk03
set_option linter.unusedVariables false
set_option linter.unusedSimpArgs false
/- matched -/
namespace Go.Proofs.Ytnglmfdcnoglhaa
open Go.RowKit Go.Shelf
attribute [local go_sem] Oper.semAt_some
def hasP {C : Nat} (pre : List (Fin C)) (y : Nat) : Bool := pre.any fun x => x.1 == y
theorem hasP_snoc {C : Nat} (pre : List (Fin C)) (x : Fin C) (y : Nat) : hasP (pre ++ [x]) y = (hasP pre y || x.1 == y) := by simp [hasP]
theorem hasP_all {C : Nat} {y : Nat} (h : y < C) : hasP (seqTo C C) y = true := by
  unfold hasP
  rw [List.any_eq_true]
  exact ⟨⟨y, h⟩, seqTo_mem _ h, by simp⟩

/-- What holds between two rounds. -/
structure MInv (w W : World) (A : Option Addr) (n c C : Nat) (T : Nat → Int) (pre : List (Fin C)) : Prop where
  row : W.rowIs (w.heap.size + 1) 3 C (fun y => .int .i64 (if hasP pre y = true then T y else 0))
  b0 : Box W w.heap.size 24 #[.slice A n c]
  b2 : Box W (w.heap.size + 1 + 1) 24 #[.slice (some ⟨w.heap.size + 1, 0, none⟩) C C]
  below : Below w.heap.size w W
  size : w.heap.size + 6 ≤ W.heap.size
theorem MInv.grown {w W Y : World} {A : Option Addr} {n c C : Nat} {T : Nat → Int} {pre : List (Fin C)} {row : Option Nat} (h : MInv w W A n c C T pre) (hg : W.grownBy Y row) (hr : ∀ r, row = some r → w.heap.size + 6 ≤ r) : MInv w Y A n c C T pre := by
  have hs := h.size
  have hk : ∀ k, k < w.heap.size + 6 → Y.heap[k]? = W.heap[k]? := fun k hk => hg.block k (by omega) (fun e => by have := hr k e.symm; omega)
  exact ⟨h.row.of_block (hk _ (by omega)), (hk _ (by omega)).trans h.b0, (hk _ (by omega)).trans h.b2, h.below.grown hg (Nat.le_trans (by omega) hs) (fun k e => by have := hr k e; omega), Nat.le_trans hs hg.size⟩
theorem MInv.set_ {w W : World} {A : Option Addr} {n c C : Nat} {T : Nat → Int} {pre : List (Fin C)} (h : MInv w W A n c C T pre) (x : Fin C) : MInv w (W.setCell ⟨w.heap.size + 1, x.1, none⟩ (.int .i64 (T x.1))) A n c C T (pre ++ [x]) := by
  refine ⟨(h.row.set x.1 _).congr (fun y _ => ?_), h.b0.other (by simp) _, h.b2.other (by simp) _, h.below.setCell (by simp) _, by simpa [World.setCell] using h.size⟩
  rw [hasP_snoc]
  by_cases e : y = x.1
  · subst e
    simp
  · rw [if_neg e]
    have : (x.1 == y) = false := by simpa using fun e' => e e'.symm
    rw [this, Bool.or_false]
theorem MInv.drew {w W : World} {A : Option Addr} {n c C : Nat} {T : Nat → Int} {pre : List (Fin C)} (h : MInv w W A n c C T pre) : MInv w W.drew A n c C T pre := ⟨h.row, h.b0, h.b2, h.below.drew, h.size⟩
theorem MInv.drewN {w W : World} {A : Option Addr} {n c C : Nat} {T : Nat → Int} {pre : List (Fin C)} (h : MInv w W A n c C T pre) (k : Nat) : MInv w (W.drewN k) A n c C T pre := ⟨h.row, h.b0, h.b2, below_drewN h.below k, h.size⟩

set_option maxHeartbeats 2000000 in
set_option maxRecDepth 100000 in
theorem matched_any (A : Option Addr) (n c v C : Nat) (B : Nat → Int) (w : World) (hI : IntsAt w 0 A n B) (hv : v ≤ 3) (hn : 1 ≤ n) (hn9 : n ≤ 1000) (hC : C ≤ 1000) :
    Calls Try.prog 47 #[.slice A n c, .int .i64 (v : Int), .int .i64 (C : Int)] w fun e w' => ∃ x, e = .returned x ∧ GaveInts w C (fun k => B (placeN v n k)) x w' := by
  obtain ⟨i0, hi, hz0, hz1, hz2⟩ := info_parts intInfo
  have hmk := fun W => run_make_row (P := Try.prog) 24 3 i0 (.int .i64 0) Try.underlying24 hi hz0 hz1 rfl .i64 .i64 C (by rw [hz2]; omega) (by omega) W
  have HI := hide hI
  clear hI hi hz0 hz1 hz2
  refine (callsIn_wide (n := 9)).1 ?_
  refine callsIn_of_wp_marks Try.func47 rfl trivial ?_ rfl
  refine wpIn_wide.2 ?_
  simp only [Try.ntmps47, List.size_toArray, List.length_cons, List.length_nil, Nat.reduceAdd, Nat.reduceSub, Array.replicate_succ, Array.replicate_zero, List.push_toArray, List.append_toArray, List.nil_append, List.cons_append]
  go_wp2_with fail
  refine (placesOf_any _ _ _ _).mono ?_
  rintro e w5 ⟨rfl, hw5⟩
  have hz5 : w5.heap.size = w.heap.size + 6 := by rw [← hw5]; simp
  have hA5 : MInv w w5 A n c C (fun k => B (placeN v n k)) [] := by
    refine ⟨?_, ?_, ?_, ?_, by omega⟩
    · rw [← hw5]
      have h := World.rowIs_made (w.alloc (.cells #[.slice A n c] 24)) (.int .i64 0) C 3
      simp only [World.size_alloc] at h
      exact ((((h.alloc _).alloc _).alloc _).alloc _).congr (fun _ _ => rfl)
    · rw [← hw5]; exact (((((Box.made rfl).alloc _).alloc _).alloc _).alloc _).alloc _
    · rw [← hw5]; exact (((Box.made (by simp)).alloc _).alloc _).alloc _
    · rw [← hw5]; (repeat (first | (with_reducible exact Below.refl _ _) | (with_reducible refine below_drewN ?_ _) | (with_reducible refine Below.drew ?_) | (with_reducible refine Below.alloc ?_ (by first | exact Nat.le_refl _ | (simp; done) | (simp; omega) | omega) _) | (with_reducible refine Below.setCell ?_ (by first | exact Nat.le_refl _ | (simp; done) | (simp; omega) | omega) _)))
  have bv : Box w5 (w.heap.size + 3) 3 #[.int .i64 (v : Int)] := by rw [← hw5]; exact ((Box.made (by simp)).alloc _).alloc _
  have bn : Box w5 (w.heap.size + 3 + 1) 3 #[.int .i64 (n : Int)] := by rw [← hw5]; exact (Box.made (by simp)).alloc _
  have bc : Box w5 (w.heap.size + 3 + 1 + 1) 3 #[.int .i64 (C : Int)] := by rw [← hw5]; exact Box.made (by simp)
  clear hw5 hmk
  have HZ5 := hide hz5
  clear hz5
  simp only [World.size_alloc]
  go_wp2_with fail
  refine (wpIn_wide (n := 9)).1 ?_
  apply wpIn_rangeFunc_ownG (n := 9) (encs := encP v n C) (Kp := K3 (w.heap.size + 3)) rfl (by decide) rfl trivial (enters_of Try.func93 (by kernel_rfl) rfl)
    (places_stops 8 (w.heap.size + 3) v n C w5 bv bn bc hv hn hn9 hC)
    K3.trans (fun W l o o' hl h _ _ => K3.put (by have := HZ5.out; omega)) (Below.refl _ _) (fun _ => rfl)
    (fun pre W => MInv w W A n c C (fun k => B (placeN v n k)) pre) (fun _ _ _ => False)
  case hI => exact fun pre X Y row hs hg hr => hs.grown hg (fun r e => by have := (hr r e).1; have := HZ5.out; omega)
  case hIx => exact fun c s X Y row hs _ _ => hs
  case h0 => exact hA5
  case hassign =>
    intro l x W K hK
    unfold encP
    gi_wp2
    exact hK
  case hbody =>
    rintro l pre x W hM hlen
    have hx2 := x.2
    have hpl := placeN_lt (v := v) (k := x.1) (show 0 < n by omega)
    have HM := hide (hM.drew.set_ x)
    have x2 : W.cell? ⟨w.heap.size + 1 + 1, 0, none⟩ = some (.slice (some ⟨w.heap.size + 1, 0, none⟩) C C) := hM.b2.at_ 0
    have hI := HI.out.below hM.below
    obtain ⟨b, o, rfl, -, hb, hcell⟩ := hI _ hpl
    have x0 : W.cell? ⟨w.heap.size, 0, none⟩ = some (.slice (some ⟨b, o, none⟩) n c) := hM.b0.at_ 0
    have hc := hM.row.cell hx2
    have hf := hM.row.frozen x.1
    have hMz := hM.size
    have HO := hide ((Only.refl (w.heap.size + 1) W).drew.set_ x.1 (.int .i64 (B (placeN v n x.1))))
    generalize placeN v n x.1 = p at *
    generalize B p = u at *
    gi_wp2_with fail
    gi_region_with (fail)
    all_goals
      gi_wp2
      exact ⟨⟨HO.out.size, fun q o' hq hk _ => (HO.out.block q (Array.getElem?_eq_some_iff.1 hk).1 (fun e => by injection e; have := HZ5.out; omega)).trans hk⟩, K3.of_only HO.out (by have := HZ5.out; omega) (by omega), HM.out⟩
  case hdone =>
    rintro D xs W hD hxs hM hK
    have x2 : W.cell? ⟨w.heap.size + 1 + 1, 0, none⟩ = some (.slice (some ⟨w.heap.size + 1, 0, none⟩) C C) := hM.b2.at_ 0
    have hK' := hide hK
    have HXS := hide hxs
    clear hxs hK
    have hlt := hM.b2.lt
    go_wp2_with fail
    refine ⟨by simp, .inl ⟨_, _, rfl, run_takeDeferred hK'.out, ?_⟩⟩
    refine ⟨_, by first | exact results_tmp rfl _ _ _ | rfl, _, rfl, ?_⟩
    have hDz : D < W.heap.size := (Array.getElem?_eq_some_iff.1 hK'.out).1
    have hMz := hM.size
    have hz5 := HZ5.out
    have hM3 : MInv w (W.putObj D (.deferred none)) A n c C (fun k => B (placeN v n k)) xs := hM.grown (grownBy_putObj' W D _) (fun r e => by cases e; omega)
    have hr := hM3.row.congr (g := fun y => .int .i64 (B (placeN v n y))) (fun y hy => by rw [HXS.out, if_pos (hasP_all hy)])
    exact GaveInts.of_row hr (by omega) hM3.below
  case hstop => exact fun D c pre W _ _ h _ => h.elim
end Go.Proofs.Ytnglmfdcnoglhaa
/- Encode, Decode, Match on what is right -/
namespace Go.Proofs.Ytnglmfdcnoglhaa
open Go.RowKit Go.Shelf
theorem bitsErr_ok' {n : Nat} {F : Nat → Int} (h0 : 0 < n) (h1 : n ≤ 200) (hb : ∀ k, k < n → IsBit (F k)) : firstE [firstE [unI (decide (0 < n)) 10, unI (decide (n ≤ 200)) 8], unI (bitsB n F) 15] = 0 := by
  have e1 : decide (0 < n) = true := by simpa using h0
  have e2 : decide (n ≤ 200) = true := by simpa using h1
  have e3 := bitsB_iff.2 hb
  rw [e1, e2, e3]; rfl
theorem softErr_ok {n : Nat} {F : Nat → Int} (h0 : 0 < n) (h1 : n ≤ 400) (hb : ∀ k, k < n → -1000000 ≤ F k ∧ F k ≤ 1000000) : firstE [firstE [unI (decide (0 < n)) 10, unI (decide (n ≤ 400)) 8], unI (!anyN n fun j => !withinB (F j) (-1000000) 1000000) 2] = 0 := by
  have e1 : decide (0 < n) = true := by simpa using h0
  have e2 : decide (n ≤ 400) = true := by simpa using h1
  have e3 : (!anyN n fun j => !withinB (F j) (-1000000) 1000000) = true := by
    rw [Bool.not_eq_true', ← Bool.not_eq_true, anyN_iff]
    rintro ⟨j, hj, h⟩
    rw [withinB_yes (hb j hj)] at h
    cases h
  rw [e1, e2, e3]; rfl
theorem balloc' {B : Nat} {w1 W : World} (h : Below B w1 W) (hB : B ≤ w1.heap.size) (o : Obj) : Below B w1 (W.alloc o) := h.alloc (Nat.le_trans hB h.size) o
theorem bstep2 {B : Nat} {w1 W w2 : World} {p q : Prop} (hb : Below W.heap.size W w2) (h : p ∧ q ∧ Below B w1 W) (hB : B ≤ w1.heap.size) : Below B w1 w2 := h.2.2.trans (hb.mono (Nat.le_trans hB h.2.2.size))
theorem bitsError_ok (A : Option Addr) (n c : Nat) (F : Nat → Int) (w : World) (h0 : 0 < n) (hn : n ≤ 200) (hI : IntsAt w 0 A n F) (hb : ∀ k, k < n → IsBit (F k)) :
    Calls Try.prog 43 #[.slice A n c] w fun e w' => e = .returned (.int .i64 0) ∧ Below w.heap.size w w' := by
  have h := bitsError_any A n c F w (by omega) hI
  rw [bitsErr_ok' h0 hn hb] at h
  exact h
set_option maxHeartbeats 400000 in
theorem versionError_any (v : Int) (w : World) : Calls Try.prog 44 #[.int .i64 v] w fun e w' => e = .returned (.int .i64 (unI (withinB v 0 3) 15)) ∧ w = w' := by
  go_enter Try.func44, Try.ntmps44
  go_wp2_with (first | (go_at_call 39; refine (isWithin_any _ _ _ _).mono ?_; rintro e w' ⟨rfl, rfl⟩) | (go_at_call 38; refine (unless_any _ _ _).mono ?_; rintro e w' ⟨rfl, rfl⟩))
  go_ret
  exact ⟨rfl, rfl⟩
set_option maxHeartbeats 400000 in
theorem countError_any (v : Int) (w : World) : Calls Try.prog 74 #[.int .i64 v] w fun e w' => e = .returned (.int .i64 (unI (withinB v 1 400) 2)) ∧ w = w' := by
  go_enter Try.func74, Try.ntmps74
  go_wp2_with (first | (go_at_call 39; refine (isWithin_any _ _ _ _).mono ?_; rintro e w' ⟨rfl, rfl⟩) | (go_at_call 38; refine (unless_any _ _ _).mono ?_; rintro e w' ⟨rfl, rfl⟩))
  go_ret
  exact ⟨rfl, rfl⟩
set_option maxHeartbeats 2000000 in
theorem Encode_ok (p : Nat) (A C : Option Addr) (n c d : Nat) (F B : Nat → Int) (w : World) (hok : PolarOk p n F) (hn : n ≤ 200) (hI : IntsAt w 0 A n F) (hJ : IntsAt w 0 C n B) (hb : ∀ k, k < n → IsBit (B k)) :
    Calls Try.prog 58 #[.agg #[.int .i64 (p : Int), .slice A n c], .slice C n d] w fun e w' => ∃ v, e = .returned (.tuple #[v, .int .i64 0]) ∧ GaveInts w (2 ^ p) (wordF (2 ^ p) fun x => posF F B x n) v w' := by
  have HI := hide hI
  have HJ := hide hJ
  have HB := hide hb
  have HOK := hide hok
  have hn0 := hok.some_
  have hnn : ((n : Int) == (n : Int)) = true := by simp
  clear hI hJ hb hok
  go_enter Try.func58, Try.ntmps58
  go_wp2_with fail
  generalize hW : World.alloc w _ = W
  have bx : Box W w.heap.size 26 #[.int .i64 (p : Int), .slice A n c] := by rw [← hW]; exact Box.made rfl
  have hB : Below w.heap.size w W := by rw [← hW]; exact (Below.refl _ _).alloc (Nat.le_refl _) _
  clear hW
  have x0 : W.cell? ⟨w.heap.size, 0, none⟩ = some (.int .i64 (p : Int)) := bx.at_ 0
  have x1 : W.cell? ⟨w.heap.size, 1, none⟩ = some (.slice A n c) := bx.at_ 1
  have hz : w.heap.size + 1 ≤ W.heap.size := bx.lt
  have SOF := hide (fun W' (h : Below (w.heap.size + 1) W W') => (⟨(h.cell (p := ⟨w.heap.size, 0, none⟩) (by simp)).trans x0, (h.cell (p := ⟨w.heap.size, 1, none⟩) (by simp)).trans x1, h⟩ :
     W'.cell? ⟨w.heap.size, 0, none⟩ = some (.int .i64 (p : Int)) ∧ W'.cell? ⟨w.heap.size, 1, none⟩ = some (.slice A n c) ∧ Below (w.heap.size + 1) W W'))
  have KI := hide (fun W' (h : W'.cell? ⟨w.heap.size, 0, none⟩ = some (.int .i64 (p : Int)) ∧ W'.cell? ⟨w.heap.size, 1, none⟩ = some (.slice A n c) ∧ Below (w.heap.size + 1) W W') => HI.out.below (hB.trans (h.2.2.mono (by omega))))
  have KJ := hide (fun W' (h : W'.cell? ⟨w.heap.size, 0, none⟩ = some (.int .i64 (p : Int)) ∧ W'.cell? ⟨w.heap.size, 1, none⟩ = some (.slice A n c) ∧ Below (w.heap.size + 1) W W') => HJ.out.below (hB.trans (h.2.2.mono (by omega))))
  have b0 : Below (w.heap.size + 1) W W := Below.refl _ _
  have HBB := hide hB
  clear x0 x1 hB
  go_region_held3 (fun w' => w'.cell? ⟨w.heap.size, 0, none⟩ = some (.int .i64 (p : Int)) ∧ w'.cell? ⟨w.heap.size, 1, none⟩ = some (.slice A n c) ∧ Below (w.heap.size + 1) W w')
      (first | assumption | exact SOF.out _ (by assumption) | exact SOF.out _ b0.drew | exact SOF.out _ (balloc' (by assumption) hz _))
      (first
        | (go_at_call 67; refine (checkPolar_ok p A n c F _ HOK.out (by omega) (KI.out _ (by assumption))).mono ?_; rintro e w2 ⟨rfl, hb2⟩; have hs2 : Below (w.heap.size + 1) W w2 := bstep2 hb2 (by assumption) hz)
        | (go_at_call 43; refine (bitsError_ok C n d B _ hn0 hn (KJ.out _ (by assumption)) HB.out).mono ?_; rintro e w3 ⟨rfl, hb3⟩; have hs3 : Below (w.heap.size + 1) W w3 := bstep2 hb3 (by assumption) hz)
        | (go_at_call 38; refine (unless_any _ _ _).mono ?_; rintro e w4 ⟨rfl, rfl⟩)
        | (go_at_call 36; refine (firstError_laid [0, 0, unI true 10] 3 _ _ rfl (by decide)).mono ?_; rintro e w6 ⟨rfl, rfl⟩))
  rw [show firstE [0, 0, unI true 10] = (0 : Int) from rfl]
  go_wp2_with fail
  have hB3 : Below w.heap.size w w3 := HBB.out.trans (hs3.mono (by omega))
  refine (encoded_any p A C n c d F B _ HOK.out (by omega) ((HI.out.below hB3).alloc _) ((HJ.out.below hB3).alloc _) HB.out).mono ?_
  rintro e w4 ⟨v, rfl, A4, c4, rfl, hc4, hI4, hb4⟩
  have hB4 : Below w.heap.size w w4 := hB3.trans ((below_of_alloc hb4).mono hB3.size)
  go_wp2_with fail
  go_ret2
  exact ⟨_, rfl, A4, c4, rfl, hc4, hI4.weak (by have := hB3.size; simp; omega), hB4⟩
set_option maxHeartbeats 1000000 in
theorem Decode_ok (p N : Nat) (A C : Option Addr) (n c d : Nat) (F S : Nat → Int) (w : World) (hok : PolarOk p n F) (hn : n ≤ 200) (hN : N = 2 ^ p) (hI : IntsAt w 0 A n F) (hS : IntsAt w 0 C N S) (hNd : N ≤ d) (hd : d ≤ 9223372036854775807) (hS9 : ∀ j, j < N → -1000000 ≤ S j ∧ S j ≤ 1000000) :
    Calls Try.prog 32 #[.agg #[.int .i64 (p : Int), .slice A n c], .slice C N d] w fun e w' => ∃ v, e = .returned (.tuple #[v, .int .i64 0]) ∧ GaveInts w n (fun k => cancelF p (fun x => isPos F x n) S (F k).toNat) v w' := by
  have hp := hok.power
  have hN1 : 1 ≤ N := by rw [hN]; exact Nat.two_pow_pos p
  have hN9 : N ≤ 64 := by rw [hN]; exact Nat.pow_le_pow_right (by decide) hp
  have eN : (2 : Int) ^ p = (N : Int) := by rw [hN]; simp
  have HI := hide hI
  have HS := hide hS
  have HOK := hide hok
  have HN := hide hN
  have HS9 := hide hS9
  have HE := hide (softErr_ok (n := N) (by omega) (by omega) hS9)
  clear hI hS hok hN hS9
  go_enter Try.func32, Try.ntmps32
  go_wp2_with fail
  refine (checkPolar_ok p A n c F _ HOK.out (by omega) (HI.out.alloc _)).mono ?_
  rintro e w1 ⟨rfl, hb1⟩
  have h1 := below_of_alloc hb1
  go_wp2_with fail
  refine (softError_any C N d S _ (by omega) (HS.out.below h1)).mono ?_
  rintro e w2 ⟨rfl, hb2⟩
  rw [HE.out]
  go_wp2_with fail
  refine (firstError_laid [0, 0] 2 _ _ rfl (by decide)).mono ?_
  rintro e w3 ⟨rfl, hw3⟩
  rw [show firstE [0, 0] = (0 : Int) from rfl]
  have bx : Box w3 w.heap.size 26 #[.int .i64 (p : Int), .slice A n c] := by rw [← hw3]; exact (((Box.made rfl).below hb1).below hb2).alloc _
  have hB3 : Below w.heap.size w w3 := by
    rw [← hw3]
    exact (h1.trans (hb2.mono h1.size)).alloc (Nat.le_trans h1.size hb2.size) _
  clear hw3 hb1 hb2 h1
  have x0 : w3.cell? ⟨w.heap.size, 0, none⟩ = some (.int .i64 (p : Int)) := bx.at_ 0
  have x1 : w3.cell? ⟨w.heap.size, 1, none⟩ = some (.slice A n c) := bx.at_ 1
  have hl3 := bx.lt
  go_wp2_with fail
  refine (decoded_pre p A C n c N d F S _ HOK.out (by omega) HN.out (HI.out.below hB3) (HS.out.below hB3) hNd hd 1000000 (by rw [eN]; omega) HS9.out).mono ?_
  rintro e w4 ⟨v, rfl, A4, c4, rfl, hc4, hI4, hb4⟩
  go_wp2_with fail
  go_ret2
  exact ⟨_, rfl, A4, c4, rfl, hc4, hI4.weak hB3.size, hB3.trans (hb4.mono hB3.size)⟩
set_option maxHeartbeats 1000000 in
theorem Match_ok (A : Option Addr) (n c v C : Nat) (B : Nat → Int) (w : World) (hI : IntsAt w 0 A n B) (hb : ∀ k, k < n → IsBit (B k)) (hv : v ≤ 3) (hn : 1 ≤ n) (hn9 : n ≤ 200) (hC1 : 1 ≤ C) (hC : C ≤ 400) :
    Calls Try.prog 60 #[.slice A n c, .int .i64 (v : Int), .int .i64 (C : Int)] w fun e w' => ∃ x, e = .returned (.tuple #[x, .int .i64 0]) ∧ GaveInts w C (fun k => B (placeN v n k)) x w' := by
  have HI := hide hI
  have HE := hide (bitsErr_ok' (n := n) (by omega) hn9 hb)
  clear hI hb
  go_enter Try.func60, Try.ntmps60
  go_wp2_with fail
  refine (bitsError_any A n c B _ (by omega) HI.out).mono ?_
  rintro e w1 ⟨rfl, hb1⟩
  rw [HE.out]
  go_wp2_with (first | (go_at_call 44; refine (versionError_any _ _).mono ?_; rintro e w' ⟨rfl, rfl⟩) | (go_at_call 74; refine (countError_any _ _).mono ?_; rintro e w' ⟨rfl, rfl⟩))
  rw [withinB_yes (by omega), withinB_yes (by omega)]
  refine (firstError_laid [0, unI true 15, unI true 2] 3 _ _ rfl (by decide)).mono ?_
  rintro e w3 ⟨rfl, hw3⟩
  rw [show firstE [0, unI true 15, unI true 2] = (0 : Int) from rfl]
  have hB3 : Below w.heap.size w w3 := by
    rw [← hw3]
    exact hb1.alloc hb1.size _
  clear hw3 hb1
  go_wp2_with fail
  refine (matched_any A n c v C B _ (HI.out.below hB3) hv hn (by omega) (by omega)).mono ?_
  rintro e w4 ⟨x, rfl, A4, c4, rfl, hc4, hI4, hb4⟩
  go_wp2_with fail
  go_ret2
  exact ⟨_, rfl, A4, c4, rfl, hc4, hI4.weak hB3.size, hB3.trans (hb4.mono hB3.size)⟩
end Go.Proofs.Ytnglmfdcnoglhaa
/- awake: the document's examples. -/
namespace Go.Proofs.Ytnglmfdcnoglhaa
open Go.RowKit Go.Shelf
theorem polarOk_doc : PolarOk 2 3 (getL [1, 2, 3]) := ⟨by decide, by decide, fun k hk => by match k, hk with | 0, _ => decide | 1, _ => decide | 2, _ => decide, fun k hk => by match k, hk with | 0, _ => decide | 1, _ => decide⟩
theorem isBits_doc (l : List Int) (n : Nat) (h : ((List.range n).all fun k => decide (IsBit (getL l k))) = true) : ∀ k, k < n → IsBit (getL l k) := fun k hk => by
  rw [List.all_eq_true] at h
  simpa using h k (List.mem_range.2 hk)
theorem ints_b (A C : Option Addr) (n m c d : Nat) (F G : Nat → Int) (w : World) (hn : n ≤ 100000) (hm : m ≤ 100000) (hF : IntsAt w 0 A n F) (hG : IntsAt w 0 C m G) :
    Calls Try.prog 22 #[.slice A n c, .slice C m d] w fun e w' => e = .returned (.bool (intsB n F m G)) ∧ Below w.heap.size w w' :=
  (ints_any A C n m c d F G w hn hm hF hG).mono fun _ _ ⟨h, q, hq⟩ => ⟨h, by rw [hq]; exact below_drewN (Below.refl _ _) q⟩
set_option maxHeartbeats 8000000 in
set_option maxRecDepth 100000 in
theorem awake_any (w : World) : Calls Try.prog 24 #[] w fun e w' => e = .returned (.bool true) ∧ Below w.heap.size w w' := by
  go_enter Try.func24, Try.ntmps24
  go_wp2_with fail
  refine (Poly_any _).mono ?_
  rintro e w1 ⟨rfl, hb1⟩
  go_wp2_with fail
  refine (Remainder_ok 3 3 (some ⟨w1.heap.size, 0, none⟩) 1 1 (getL [1]) _ (by decide) (by decide) (by decide) (by decide) (by decide) (by decide) (IntsAt.of_box [1] 1 rfl (Box.made rfl) (Nat.zero_le _)) (isBits_doc _ _ (by decide))).mono ?_
  rintro e w2 ⟨v2, rfl, A2, c2, rfl, hc2, hI2, hb2⟩
  have hB2 : Below w.heap.size w w2 := hb1.trans ((below_of_alloc hb2).mono hb1.size)
  clear hb1 hb2
  go_wp2_with fail
  refine (Polar_any _).mono ?_
  rintro e w3 ⟨g3, rfl, hP3, hb3⟩
  have hB3 : Below w.heap.size w w3 := hB2.trans (hb3.mono hB2.size)
  have hI3 := hI2.below hb3
  clear hb3 hB2 hI2
  go_wp2_with fail
  refine (Encode_ok 2 (some ⟨g3, 0, none⟩) (some ⟨w3.heap.size, 0, none⟩) 3 3 3 (getL [1, 2, 3]) (getL [1, 0, 1]) _ polarOk_doc (by decide) ((hP3.weak (Nat.zero_le _)).alloc _) (IntsAt.of_box [1, 0, 1] 3 rfl (Box.made rfl) (Nat.zero_le _)) (isBits_doc _ _ (by decide))).mono ?_
  rintro e w4 ⟨v4, rfl, A4, c4, rfl, hc4, hI4, hb4⟩
  have hB4 : Below w.heap.size w w4 := hB3.trans ((below_of_alloc hb4).mono hB3.size)
  have hJ4 := hI3.below (below_of_alloc hb4)
  clear hb4 hB3 hI3 hP3
  go_wp2_with fail
  refine (Polar_any _).mono ?_
  rintro e w5 ⟨g5, rfl, hP5, hb5⟩
  have hB5 : Below w.heap.size w w5 := hB4.trans (hb5.mono hB4.size)
  have hI5 := hI4.below hb5
  have hJ5 := hJ4.below hb5
  clear hb5 hB4 hI4 hJ4
  go_wp2_with fail
  refine (Decode_ok 2 4 (some ⟨g5, 0, none⟩) (some ⟨w5.heap.size, 0, none⟩) 3 3 4 (getL [1, 2, 3]) (getL [4, 3, -2, -5]) _ polarOk_doc (by decide) (by decide) ((hP5.weak (Nat.zero_le _)).alloc _) (IntsAt.of_box [4, 3, -2, -5] 4 rfl (Box.made rfl) (Nat.zero_le _)) (by decide) (by decide) (fun k hk => by match k, hk with | 0, _ => decide | 1, _ => decide | 2, _ => decide | 3, _ => decide)).mono ?_
  rintro e w6 ⟨v6, rfl, A6, c6, rfl, hc6, hI6, hb6⟩
  have hB6 : Below w.heap.size w w6 := hB5.trans ((below_of_alloc hb6).mono hB5.size)
  have hJ6 := hI5.below (below_of_alloc hb6)
  have hK6 := hJ5.below (below_of_alloc hb6)
  clear hb6 hB5 hI5 hJ5 hP5
  go_wp2_with fail
  refine (Match_ok (some ⟨w6.heap.size, 0, none⟩) 5 5 1 7 (getL [0, 0, 1, 1, 1]) _ (IntsAt.of_box [0, 0, 1, 1, 1] 5 rfl (Box.made rfl) (Nat.zero_le _)) (isBits_doc _ _ (by decide)) (by decide) (by decide) (by decide) (by decide) (by decide)).mono ?_
  rintro e w7 ⟨v7, rfl, A7, c7, rfl, hc7, hI7, hb7⟩
  have hB7 : Below w.heap.size w w7 := hB6.trans ((below_of_alloc hb7).mono hB6.size)
  have hM7 := hI6.below (below_of_alloc hb7)
  have hJ7 := hJ6.below (below_of_alloc hb7)
  have hK7 := hK6.below (below_of_alloc hb7)
  clear hb7 hB6 hI6 hJ6 hK6
  go_wp2_with fail
  refine (ints_b A2 (some ⟨w7.heap.size, 0, none⟩) 3 3 c2 3 _ (getL [0, 1, 1]) _ (by decide) (by decide) ((hK7.weak (Nat.zero_le _)).alloc _) (IntsAt.of_box [0, 1, 1] 3 rfl (Box.made rfl) (Nat.zero_le _))).mono ?_
  rintro e x1 ⟨rfl, hc1'⟩
  rw [show intsB 3 (remB 3 3 1 (getL [1])) 3 (getL [0, 1, 1]) = true from by decide]
  have hC1 : Below w.heap.size w x1 := hB7.trans ((below_of_alloc hc1').mono hB7.size)
  have hJ7x := hJ7.below (below_of_alloc hc1')
  have hM7x := hM7.below (below_of_alloc hc1')
  have hI7x := hI7.below (below_of_alloc hc1')
  go_wp2_with fail
  refine (ints_b A4 (some ⟨x1.heap.size, 0, none⟩) 4 4 c4 4 _ (getL [0, 0, 1, 1]) _ (by decide) (by decide) ((hJ7x.weak (Nat.zero_le _)).alloc _) (IntsAt.of_box [0, 0, 1, 1] 4 rfl (Box.made rfl) (Nat.zero_le _))).mono ?_
  rintro e x2 ⟨rfl, hc2'⟩
  rw [show intsB 4 (wordF 4 fun x => posF (getL [1, 2, 3]) (getL [1, 0, 1]) x 3) 4 (getL [0, 0, 1, 1]) = true from by decide]
  have hC2 : Below w.heap.size w x2 := hC1.trans ((below_of_alloc hc2').mono hC1.size)
  have hM7xx := hM7x.below (below_of_alloc hc2')
  have hI7xx := hI7x.below (below_of_alloc hc2')
  go_wp2_with fail
  refine (ints_b A6 (some ⟨x2.heap.size, 0, none⟩) 3 3 c6 3 _ (getL [1, 0, 1]) _ (by decide) (by decide) ((hM7xx.weak (Nat.zero_le _)).alloc _) (IntsAt.of_box [1, 0, 1] 3 rfl (Box.made rfl) (Nat.zero_le _))).mono ?_
  rintro e x3 ⟨rfl, hc3'⟩
  rw [show intsB 3 (fun k => cancelF 2 (fun x => isPos (getL [1, 2, 3]) x 3) (getL [4, 3, -2, -5]) (getL [1, 2, 3] k).toNat) 3 (getL [1, 0, 1]) = true from by decide]
  have hC3 : Below w.heap.size w x3 := hC2.trans ((below_of_alloc hc3').mono hC2.size)
  have hI7xxx := hI7xx.below (below_of_alloc hc3')
  go_wp2_with fail
  refine (ints_b A7 (some ⟨x3.heap.size, 0, none⟩) 7 7 c7 7 _ (getL [0, 1, 1, 1, 0, 0, 1]) _ (by decide) (by decide) ((hI7xxx.weak (Nat.zero_le _)).alloc _) (IntsAt.of_box [0, 1, 1, 1, 0, 0, 1] 7 rfl (Box.made rfl) (Nat.zero_le _))).mono ?_
  rintro e x4 ⟨rfl, hc4'⟩
  rw [show intsB 7 (fun k => getL [0, 0, 1, 1, 1] (placeN 1 5 k)) 7 (getL [0, 1, 1, 1, 0, 0, 1]) = true from by decide]
  have hC4 : Below w.heap.size w x4 := hC3.trans ((below_of_alloc hc4').mono hC3.size)
  go_wp2_with fail
  go_ret
  exact ⟨rfl, hC4⟩
end Go.Proofs.Ytnglmfdcnoglhaa
/- coded: the document's examples of chapter 2. -/
namespace Go.Proofs.Ytnglmfdcnoglhaa
open Go.RowKit Go.Shelf
set_option maxHeartbeats 4000000 in
set_option maxRecDepth 100000 in
theorem coded_any (w : World) : Calls Try.prog 7 #[] w fun e w' => e = .returned (.bool true) ∧ Below w.heap.size w w' := by
  go_enter Try.func7, Try.ntmps7
  go_wp2_with fail
  refine (Remainder_ok 3 3 (some ⟨w.heap.size, 0, none⟩) 1 1 (getL [1]) _ (by decide) (by decide) (by decide) (by decide) (by decide) (by decide) (IntsAt.of_box [1] 1 rfl (Box.made rfl) (Nat.zero_le _)) (isBits_doc _ _ (by decide))).mono ?_
  rintro e w2 ⟨v2, rfl, A2, c2, rfl, hc2, hI2, hb2⟩
  have hB2 : Below w.heap.size w w2 := below_of_alloc hb2
  clear hb2
  go_wp2_with fail
  refine (Decode_ok 2 4 (some ⟨w2.heap.size, 0, none⟩) (some ⟨w2.heap.size + 1, 0, none⟩) 3 3 4 (getL [1, 2, 3]) (getL [4, 3, -2, -5]) _ polarOk_doc (by decide) (by decide) (IntsAt.of_box [1, 2, 3] 3 rfl ((Box.made rfl).alloc _) (Nat.zero_le _)) (IntsAt.of_box [4, 3, -2, -5] 4 rfl (Box.made (by simp)) (Nat.zero_le _)) (by decide) (by decide) (fun k hk => by match k, hk with | 0, _ => decide | 1, _ => decide | 2, _ => decide | 3, _ => decide)).mono ?_
  rintro e w6 ⟨v6, rfl, A6, c6, rfl, hc6, hI6, hb6⟩
  have hb6' : Below w2.heap.size w2 w6 := below_of_alloc (below_of_alloc hb6)
  have hB6 : Below w.heap.size w w6 := hB2.trans (hb6'.mono hB2.size)
  have hJ6 := hI2.below hb6'
  clear hb6 hb6' hB2 hI2
  go_wp2_with fail
  refine (ints_b A2 (some ⟨w6.heap.size, 0, none⟩) 3 3 c2 3 _ (getL [0, 1, 1]) _ (by decide) (by decide) ((hJ6.weak (Nat.zero_le _)).alloc _) (IntsAt.of_box [0, 1, 1] 3 rfl (Box.made rfl) (Nat.zero_le _))).mono ?_
  rintro e x1 ⟨rfl, hc1'⟩
  rw [show intsB 3 (remB 3 3 1 (getL [1])) 3 (getL [0, 1, 1]) = true from by decide]
  have hC1 : Below w.heap.size w x1 := hB6.trans ((below_of_alloc hc1').mono hB6.size)
  have hJ7 := hI6.below (below_of_alloc hc1')
  go_wp2_with fail
  refine (ints_b A6 (some ⟨x1.heap.size, 0, none⟩) 3 3 c6 3 _ (getL [1, 0, 1]) _ (by decide) (by decide) ((hJ7.weak (Nat.zero_le _)).alloc _) (IntsAt.of_box [1, 0, 1] 3 rfl (Box.made rfl) (Nat.zero_le _))).mono ?_
  rintro e x3 ⟨rfl, hc3'⟩
  rw [show intsB 3 (fun k => cancelF 2 (fun x => isPos (getL [1, 2, 3]) x 3) (getL [4, 3, -2, -5]) (getL [1, 2, 3] k).toNat) 3 (getL [1, 0, 1]) = true from by decide]
  have hC3 : Below w.heap.size w x3 := hC1.trans ((below_of_alloc hc3').mono hC1.size)
  go_wp2_with fail
  go_ret
  exact ⟨rfl, hC3⟩
end Go.Proofs.Ytnglmfdcnoglhaa
/- base.AreBits -/
namespace Go.Proofs.Ytnglmfdcnoglhaa
open Go.RowKit
set_option maxHeartbeats 1000000 in
theorem areBitsB_any (A : Option Addr) (n c : Nat) (F : Nat → Int) (w : World) (hn : n ≤ 100000) (hI : IntsAt w 0 A n F) :
    Calls Try.prog 16 #[.slice A n c] w fun e w' => e = .returned (.bool (bitsB n F)) ∧ ∃ q, w' = w.drewN q := by
  have HI := hide hI
  clear hI
  go_enter Try.func16, Try.ntmps16
  go_wp2_with fail
  go_loopw [3] (fun i wr => ∃ k q : Nat, k ≤ n ∧ i = .int .i64 k ∧ wr = w.drewN q ∧ Hid (∀ j, j < k → IsBit (F j))) (fun i _ => n - (intOf i).toNat)
  case atStart => exact ⟨0, 0, Nat.zero_le _, rfl, rfl, hide fun j h => absurd h (Nat.not_lt_zero _)⟩
  case round =>
    obtain ⟨k, q, hk, rfl, rfl, HZ⟩ := hrel
    by_cases hlt : k < n
    · have hltz : (k : Int) < (n : Int) := by omega
      obtain ⟨b, o, rfl, -, hb, hcell⟩ := HI.out k hlt
      by_cases h0 : F k = 0
      · have t1 : (F k != 0) = false := by simpa using h0
        have HB := hide (show IsBit (F k) from .inl h0)
        clear h0
        go_wp2_with fail
        go_roundw
        case rel => exact ⟨k + 1, q, by omega, by go_num, rfl, hide fun j hj => (by
          rcases Nat.lt_or_ge j k with h | h
          · exact HZ.out j h
          · obtain rfl : j = k := by omega
            exact HB.out)⟩
        case measure => simp [intOf]; omega
      · have t1 : (F k != 0) = true := by simpa using h0
        by_cases h1 : F k = 1
        · have t2 : (F k != 1) = false := by simpa using h1
          have HB := hide (show IsBit (F k) from .inr h1)
          clear h0 h1
          go_wp2_with fail
          go_roundw
          case rel => exact ⟨k + 1, q, by omega, by go_num, rfl, hide fun j hj => (by
            rcases Nat.lt_or_ge j k with h | h
            · exact HZ.out j h
            · obtain rfl : j = k := by omega
              exact HB.out)⟩
          case measure => simp [intOf]; omega
        · have t2 : (F k != 1) = true := by simpa using h1
          have HB := hide (show bitsB n F = false from by
            rw [← Bool.not_eq_true, bitsB_iff]
            intro h
            have := h k hlt
            unfold IsBit at this
            omega)
          clear h0 h1
          go_wp2_with fail
          go_ret
          exact ⟨ret_bool HB.out.symm, q, rfl⟩
    · obtain rfl : k = n := by omega
      go_wp2_with fail
      go_ret
      exact ⟨ret_bool (bitsB_iff.2 HZ.out).symm, q, rfl⟩
end Go.Proofs.Ytnglmfdcnoglhaa
/- Mod, power, small, kindErr, BitsErr, Length, CopyPolar of the reference and the law. -/
namespace Go.Proofs.Ytnglmfdcnoglhaa
open Go.RowKit

set_option maxHeartbeats 400000 in
theorem mod_any (n m : Int) (w : World) (h0 : 0 < m) (h1 : m ≤ 1000000000) :
    Calls Try.prog 12 #[.int .i64 n, .int .i64 m] w fun e w' => e = .returned (.int .i64 (n % m)) ∧ w = w' := by
  have hm0 : ¬ m = 0 := by omega
  by_cases hn : 0 ≤ n
  · have hb := Int.emod_nonneg n (show m ≠ 0 by omega)
    have hb2 := Int.emod_lt_of_pos n h0
    go_enter Try.func12, Try.ntmps12
    go_wp2_with fail
    go_ret
    exact ⟨rfl, rfl⟩
  · have hneg : n < 0 := by omega
    obtain ⟨r, hr⟩ : ∃ r, r = n.tmod m := ⟨_, rfl⟩
    have hr' := hr.symm
    have hle : -m < r ∧ r ≤ 0 := by
      rw [hr]
      have e := Int.neg_tmod (-n) m
      rw [Int.neg_neg] at e
      rw [e]
      have h2 : (-n).tmod m = (-n) % m := Int.tmod_eq_emod_of_nonneg (by omega)
      rw [h2]
      have := Int.emod_nonneg (-n) (show m ≠ 0 by omega)
      have := Int.emod_lt_of_pos (-n) h0
      omega
    have hdm : n % m = if r < 0 then r + m else r := by
      have h3 := Int.mul_tdiv_add_tmod n m
      rw [← hr] at h3
      split
      · have : n = (r + m) + m * (n.tdiv m - 1) := by rw [Int.mul_sub]; omega
        rw [this, Int.add_mul_emod_self_left]
        exact Int.emod_eq_of_lt (by omega) (by omega)
      · have h0r : r = 0 := by omega
        have : n = 0 + m * n.tdiv m := by omega
        rw [this, Int.add_mul_emod_self_left, h0r]
        rfl
    have HD := hide hdm
    obtain ⟨l1, l2⟩ := hle
    have hnn : ¬ 0 ≤ n := hn
    clear hdm hr hn
    by_cases hrz : r < 0
    · go_enter Try.func12, Try.ntmps12
      go_wp2_with fail
      go_ret
      exact ⟨ret_int (by rw [HD.out, if_pos hrz]), rfl⟩
    · have hr0 : 0 ≤ r := by omega
      have HRZ := hide hrz
      clear hrz
      go_enter Try.func12, Try.ntmps12
      go_wp2_with fail
      go_ret
      exact ⟨ret_int (by rw [HD.out, if_neg (Int.not_lt.2 HRZ.out)]), rfl⟩

set_option maxHeartbeats 400000 in
theorem powerR_any (n : Nat) (w : World) (h : n ≤ 16) : Calls Try.prog 35 #[.int .i64 (n : Int)] w fun e w' => e = .returned (.int .i64 (2 ^ n)) ∧ w = w' := by
  go_enter Try.func35, Try.ntmps35
  go_wp2
  go_loop [3, 4] (fun o i => ∃ k : Nat, k ≤ n ∧ i = .int .i64 k ∧ o = .int .i64 ((2 : Int) ^ k)) (fun _ i => n - (intOf i).toNat)
  case atStart => exact ⟨0, Nat.zero_le _, rfl, rfl⟩
  case round =>
    obtain ⟨k, hk, rfl, rfl⟩ := hrel
    obtain ⟨p1, p2⟩ := pow2_le k (by omega)
    have HS := hide (show (2 : Int) ^ (k + 1) = 2 * 2 ^ k from by rw [Int.pow_succ, Int.mul_comm])
    by_cases hlt : k < n
    · have hltz : (k : Int) < (n : Int) := by omega
      go_wp2
      go_round
      case rel => exact ⟨k + 1, by omega, by go_num, by rw [HS.out]⟩
      case measure => simp [intOf]; omega
    · obtain rfl : k = n := by omega
      go_wp2
      go_ret
      exact ⟨rfl, rfl⟩

def bitsErrR (n : Nat) (F : Nat → Int) : Int := if n = 0 then 10 else if 200 < n then 8 else if bitsB n F = true then 0 else 15
theorem bitsErrR_zero {n : Nat} {F : Nat → Int} (h : bitsErrR n F = 0) : 0 < n ∧ n ≤ 200 ∧ ∀ k, k < n → IsBit (F k) := by
  unfold bitsErrR at h
  by_cases h1 : n = 0
  · rw [if_pos h1] at h; exact absurd h (by decide)
  · rw [if_neg h1] at h
    by_cases h2 : 200 < n
    · rw [if_pos h2] at h; exact absurd h (by decide)
    · rw [if_neg h2] at h
      by_cases h3 : bitsB n F = true
      · exact ⟨by omega, by omega, bitsB_iff.1 h3⟩
      · rw [if_neg h3] at h; exact absurd h (by decide)

set_option maxHeartbeats 400000 in
theorem kindErr_any (A : Option Addr) (n c : Nat) (F : Nat → Int) (w : World) (hn : n ≤ 100000) (hI : IntsAt w 0 A n F) :
    Calls Try.prog 72 #[.slice A n c] w fun e w' => e = .returned (.int .i64 (if bitsB n F = true then 0 else 15)) ∧ ∃ q, w' = w.drewN q := by
  have HX := hide (areBitsB_any A n c F w hn hI)
  clear hI
  cases hb : bitsB n F
  · rw [hb] at HX
    have EQ := hide (show (if false = true then (0 : Int) else 15) = 15 from rfl)
    generalize (if false = true then (0 : Int) else 15) = R at *
    clear hb
    go_enter Try.func72, Try.ntmps72
    go_wp2_with (go_at_call 16; refine HX.out.mono ?_; rintro e w' ⟨rfl, q, rfl⟩)
    go_ret
    exact ⟨ret_int EQ.out.symm, q, rfl⟩
  · rw [hb] at HX
    have EQ := hide (show (if true = true then (0 : Int) else 15) = 0 from rfl)
    generalize (if true = true then (0 : Int) else 15) = R at *
    clear hb
    go_enter Try.func72, Try.ntmps72
    go_wp2_with (go_at_call 16; refine HX.out.mono ?_; rintro e w' ⟨rfl, q, rfl⟩)
    go_ret
    exact ⟨ret_int EQ.out.symm, q, rfl⟩

set_option maxHeartbeats 400000 in
theorem bitsErrR_any (A : Option Addr) (n c : Nat) (F : Nat → Int) (w : World) (hn : n ≤ 9223372036854775807) (hI : IntsAt w 0 A n F) :
    Calls Try.prog 34 #[.slice A n c] w fun e w' => e = .returned (.int .i64 (bitsErrR n F)) ∧ ∃ q, w' = w.drewN q := by
  by_cases h1 : n = 0
  · have EQ := hide (show bitsErrR n F = 10 from if_pos h1)
    subst h1
    clear hI
    go_enter Try.func34, Try.ntmps34
    go_wp2_with fail
    go_ret
    exact ⟨ret_int EQ.out.symm, 0, rfl⟩
  · have t1 : ((n : Int) == 0) = false := by simp; omega
    by_cases h2 : 200 < n
    · have EQ := hide (show bitsErrR n F = 8 from by unfold bitsErrR; rw [if_neg h1, if_pos h2])
      have t2 : decide ((200 : Int) < (n : Int)) = true := by simp; omega
      clear hI h1
      go_enter Try.func34, Try.ntmps34
      go_wp2_with fail
      go_ret
      exact ⟨ret_int EQ.out.symm, 0, rfl⟩
    · have EQ := hide (show bitsErrR n F = (if bitsB n F = true then 0 else 15) from by unfold bitsErrR; rw [if_neg h1, if_neg h2])
      have t2 : decide ((200 : Int) < (n : Int)) = false := by simp; omega
      have HX := hide (kindErr_any A n c F w (by omega) hI)
      generalize (if bitsB n F = true then (0 : Int) else 15) = R at *
      clear hI h1
      go_enter Try.func34, Try.ntmps34
      go_wp2_with (go_at_call 72; refine HX.out.mono ?_; rintro e w' ⟨rfl, q, rfl⟩)
      go_ret
      exact ⟨ret_int EQ.out.symm, q, rfl⟩

set_option maxHeartbeats 400000 in
theorem length_any (p : Nat) (A : Option Addr) (n c : Nat) (w : World) (h : p ≤ 16) : Calls Try.prog 9 #[.agg #[.int .i64 (p : Int), .slice A n c]] w fun e w' => e = .returned (.int .i64 (2 ^ p)) ∧ Below w.heap.size w w' := by
  go_enter Try.func9, Try.ntmps9
  go_wp2_with (go_at_call 35; refine (powerR_any _ _ h).mono ?_; rintro e w' ⟨rfl, rfl⟩)
  go_ret
  exact ⟨rfl, by (repeat (first | (with_reducible exact Below.refl _ _) | (with_reducible refine below_drewN ?_ _) | (with_reducible refine Below.drew ?_) | (with_reducible refine Below.alloc ?_ (by first | exact Nat.le_refl _ | (simp; done) | (simp; omega) | omega) _) | (with_reducible refine Below.setCell ?_ (by first | exact Nat.le_refl _ | (simp; done) | (simp; omega) | omega) _)))⟩

end Go.Proofs.Ytnglmfdcnoglhaa
