/- Lemmas: KJf, KGc, KLa, KLb, KJh. -/
import Derived.Test.YtcdplfjegopmdaaGreatBk02
import Derived.Test.YtcdplfjegopmdaaGreatBk04
set_option linter.unusedVariables false
set_option linter.unusedSimpArgs false
/- Jf of chapter 02, in a namespace of its own. -/
namespace Go.Proofs.YtcdplfjegopmdaaGreat.K
open Go.RowKit Go.Shelf
attribute [local go_sem] Oper.semAt_some
/-- What the rounds so far have gathered at a place. -/
def gatherL (v n : Nat) (S : Nat → Int) {C : Nat} (pre : List (Fin C)) (p : Nat) : Int := pre.foldl (fun acc x => if p = placeN v n x.1 then acc + S x.1 else acc) 0
theorem gatherL_snoc {v n : Nat} {S : Nat → Int} {C : Nat} (pre : List (Fin C)) (x : Fin C) (p : Nat) : gatherL v n S (pre ++ [x]) p = if p = placeN v n x.1 then gatherL v n S pre p + S x.1 else gatherL v n S pre p := by
  unfold gatherL
  rw [List.foldl_append]
  rfl
theorem gatherL_seq {v n : Nat} {S : Nat → Int} {C : Nat} (p : Nat) : ∀ k, k ≤ C → gatherL v n S (seqTo C k) p = gatherF v n S k p
  | 0, _ => rfl
  | k + 1, hk => by
    rw [seqTo_succ (show k < C by omega), gatherL_snoc, gatherL_seq p k (by omega)]
    rfl
theorem foldl_le {v n p : Nat} {S : Nat → Int} {C : Nat} (hS : ∀ k, k < C → -1000000 ≤ S k ∧ S k ≤ 1000000) : ∀ (pre : List (Fin C)) (a : Int), a - (pre.length : Int) * 1000000 ≤ pre.foldl (fun acc x => if p = placeN v n x.1 then acc + S x.1 else acc) a ∧ pre.foldl (fun acc x => if p = placeN v n x.1 then acc + S x.1 else acc) a ≤ a + (pre.length : Int) * 1000000
  | [], a => by simp
  | x :: r, a => by
    have hx := hS x.1 x.2
    have h := foldl_le (v := v) (n := n) (p := p) hS r (if p = placeN v n x.1 then a + S x.1 else a)
    rw [List.foldl_cons, List.length_cons]
    have e : -1000000 ≤ (if p = placeN v n x.1 then a + S x.1 else a) - a ∧ (if p = placeN v n x.1 then a + S x.1 else a) - a ≤ 1000000 := by split <;> omega
    generalize (if p = placeN v n x.1 then a + S x.1 else a) = y at *
    omega
theorem gatherL_le {v n : Nat} {S : Nat → Int} {C : Nat} (hS : ∀ k, k < C → -1000000 ≤ S k ∧ S k ≤ 1000000) (pre : List (Fin C)) (p : Nat) (hl : pre.length < 1001) : -2000000000 ≤ gatherL v n S pre p ∧ gatherL v n S pre p ≤ 2000000000 := by
  have h := foldl_le (v := v) (n := n) (p := p) hS pre 0
  have e : gatherL v n S pre p = pre.foldl (fun acc x => if p = placeN v n x.1 then acc + S x.1 else acc) 0 := rfl
  rw [← e] at h
  omega

structure GInv (w W : World) (A : Option Addr) (n c C v : Nat) (S : Nat → Int) (pre : List (Fin C)) : Prop where
  row : W.rowIs (w.heap.size + 1) 3 n (fun p => .int .i64 (gatherL v n S pre p))
  b0 : Box W w.heap.size 24 #[.slice A C c]
  b2 : Box W (w.heap.size + 1 + 1) 24 #[.slice (some ⟨w.heap.size + 1, 0, none⟩) n n]
  below : Below w.heap.size w W
  size : w.heap.size + 6 ≤ W.heap.size
theorem GInv.grown {w W Y : World} {A : Option Addr} {n c C v : Nat} {S : Nat → Int} {pre : List (Fin C)} {row : Option Nat} (h : GInv w W A n c C v S pre) (hg : W.grownBy Y row) (hr : ∀ r, row = some r → w.heap.size + 6 ≤ r) : GInv w Y A n c C v S pre := by
  have hs := h.size
  have hk : ∀ k, k < w.heap.size + 6 → Y.heap[k]? = W.heap[k]? := fun k hk => hg.block k (by omega) (fun e => by have := hr k e.symm; omega)
  exact ⟨h.row.of_block (hk _ (by omega)), (hk _ (by omega)).trans h.b0, (hk _ (by omega)).trans h.b2, h.below.grown hg (Nat.le_trans (by omega) hs) (fun k e => by have := hr k e; omega), Nat.le_trans hs hg.size⟩
theorem GInv.set_ {w W : World} {A : Option Addr} {n c C v : Nat} {S : Nat → Int} {pre : List (Fin C)} (h : GInv w W A n c C v S pre) (x : Fin C) : GInv w (W.setCell ⟨w.heap.size + 1, placeN v n x.1, none⟩ (.int .i64 (gatherL v n S pre (placeN v n x.1) + S x.1))) A n c C v S (pre ++ [x]) := by
  refine ⟨(h.row.set (placeN v n x.1) _).congr (fun y _ => ?_), h.b0.other (by simp) _, h.b2.other (by simp) _, h.below.setCell (by simp) _, by simpa [World.setCell] using h.size⟩
  rw [gatherL_snoc]
  by_cases e : y = placeN v n x.1
  · subst e
    simp
  · rw [if_neg e, if_neg e]
theorem GInv.drew {w W : World} {A : Option Addr} {n c C v : Nat} {S : Nat → Int} {pre : List (Fin C)} (h : GInv w W A n c C v S pre) : GInv w W.drew A n c C v S pre := ⟨h.row, h.b0, h.b2, h.below.drew, h.size⟩

set_option maxHeartbeats 2000000 in
/-- A function handed back a new slice of n numbers, with no room behind them. -/
def GaveRow (w : World) (n : Nat) (F : Nat → Int) (v : Value) (w' : World) : Prop := (∃ g, v = .slice (some ⟨g, 0, none⟩) n n) ∧ GaveInts w n F v w'
theorem GaveRow.of_row {w w' : World} {g n : Nat} {t : TypeId} {F : Nat → Int} (h : w'.rowIs g t n (fun j => .int .i64 (F j))) (hg : w.heap.size ≤ g) (hb : Below w.heap.size w w') : GaveRow w n F (.slice (some ⟨g, 0, none⟩) n n) w' :=
  ⟨⟨g, rfl⟩, GaveInts.of_row h hg hb⟩
set_option maxRecDepth 100000 in
theorem gathered_row (A : Option Addr) (C c v n : Nat) (S : Nat → Int) (w : World) (hI : IntsAt w 0 A C S) (hS : ∀ k, k < C → -1000000 ≤ S k ∧ S k ≤ 1000000) (hv : v ≤ 3) (hn : 1 ≤ n) (hn9 : n ≤ 1000) (hC : C ≤ 1000) :
    Calls Tryz.prog 74 #[.slice A C c, .int .i64 (v : Int), .int .i64 (n : Int)] w fun e w' => ∃ x, e = .returned x ∧ GaveRow w n (gatherF v n S C) x w' := by
  obtain ⟨i0, hi, hz0, hz1, hz2⟩ := info_parts intInfo
  have hmk := fun W => run_make_row (P := Tryz.prog) 24 3 i0 (.int .i64 0) Tryz.underlying24 hi hz0 hz1 rfl .i64 .i64 n (by rw [hz2]; omega) (by omega) W
  have HI := hide hI
  have HS := hide hS
  clear hI hS hi hz0 hz1 hz2
  refine (callsIn_wide (n := 9)).1 ?_
  refine callsIn_of_wp_marks Tryz.func74 rfl trivial ?_ rfl
  refine wpIn_wide.2 ?_
  simp only [Tryz.ntmps74, List.size_toArray, List.length_cons, List.length_nil, Nat.reduceAdd, Nat.reduceSub, Array.replicate_succ, Array.replicate_zero, List.push_toArray, List.append_toArray, List.nil_append, List.cons_append]
  go_wp2_with fail
  refine (placesOf_any _ _ _ _).mono ?_
  rintro e w5 ⟨rfl, hw5⟩
  have hz5 : w5.heap.size = w.heap.size + 6 := by rw [← hw5]; simp
  have hA5 : GInv w w5 A n c C v S [] := by
    refine ⟨?_, ?_, ?_, ?_, by omega⟩
    · rw [← hw5]
      have h := World.rowIs_made (w.alloc (.cells #[.slice A C c] 24)) (.int .i64 0) n 3
      simp only [World.size_alloc] at h
      exact ((((h.alloc _).alloc _).alloc _).alloc _).congr (fun _ _ => rfl)
    · rw [← hw5]; exact (((((Box.made rfl).alloc _).alloc _).alloc _).alloc _).alloc _
    · rw [← hw5]; exact (((Box.made (by simp)).alloc _).alloc _).alloc _
    · rw [← hw5]; (repeat (first | (with_reducible exact Below.refl _ _) | (with_reducible refine Go.below_drewN ?_ _) | (with_reducible refine Below.drew ?_) | (with_reducible refine Below.alloc ?_ (by first | exact Nat.le_refl _ | (simp; done) | (simp; omega) | omega) _) | (with_reducible refine Below.setCell ?_ (by first | exact Nat.le_refl _ | (simp; done) | (simp; omega) | omega) _)))
  have bv : Box w5 (w.heap.size + 3) 3 #[.int .i64 (v : Int)] := by rw [← hw5]; exact ((Box.made (by simp)).alloc _).alloc _
  have bn : Box w5 (w.heap.size + 3 + 1) 3 #[.int .i64 (n : Int)] := by rw [← hw5]; exact (Box.made (by simp)).alloc _
  have bc : Box w5 (w.heap.size + 3 + 1 + 1) 3 #[.int .i64 (C : Int)] := by rw [← hw5]; exact Box.made (by simp)
  clear hw5 hmk
  have HZ5 := hide hz5
  clear hz5
  simp only [World.size_alloc]
  go_wp2_with fail
  refine (wpIn_wide (n := 9)).1 ?_
  apply wpIn_rangeFunc_ownG (n := 9) (encs := encP v n C) (Kp := K3 (w.heap.size + 3)) rfl (by decide) rfl trivial (enters_of Tryz.func116 (by kernel_rfl) rfl)
    (places_stops 8 (w.heap.size + 3) v n C w5 bv bn bc hv hn hn9 hC)
    K3.trans (fun W l o o' hl h _ _ => K3.put (by have := HZ5.out; omega)) (Below.refl _ _) (fun _ => rfl)
    (fun pre W => GInv w W A n c C v S pre) (fun _ _ _ => False)
  case hI => exact fun pre X Y row hs hg hr => hs.grown hg (fun r e => by have := (hr r e).1; have := HZ5.out; omega)
  case hIx => exact fun c s X Y row hs _ _ => hs
  case h0 => exact hA5
  case hassign =>
    intro l x W K hK
    unfold encP
    gi_wp2
    exact hK
  case hbody =>
    rintro l pre x W hM hlen
    have hx2 := x.2
    have hpl := placeN_lt (v := v) (k := x.1) (show 0 < n by omega)
    have HM := hide (hM.drew.set_ x)
    have x2 : W.cell? ⟨w.heap.size + 1 + 1, 0, none⟩ = some (.slice (some ⟨w.heap.size + 1, 0, none⟩) n n) := hM.b2.at_ 0
    have hI := HI.out.below hM.below
    obtain ⟨b, o, rfl, -, hb, hcell⟩ := hI _ hx2
    have x0 : W.cell? ⟨w.heap.size, 0, none⟩ = some (.slice (some ⟨b, o, none⟩) C c) := hM.b0.at_ 0
    have hc := hM.row.cell hpl
    have hf := hM.row.frozen (placeN v n x.1)
    have hMz := hM.size
    have hg9 := gatherL_le (v := v) (n := n) HS.out pre (placeN v n x.1) (by omega)
    have hs9 := HS.out x.1 hx2
    have HO := hide ((Only.refl (w.heap.size + 1) W).drew.set_ (placeN v n x.1) (.int .i64 (gatherL v n S pre (placeN v n x.1) + S x.1)))
    generalize placeN v n x.1 = p at *
    generalize gatherL v n S pre p = y at *
    generalize S x.1 = u at *
    have q1 : IntKind.i64.wrap (y + u) = y + u := IntWalk.i64_in _ (by omega)
    gi_wp2_with fail
    refine wpIn_region_tail 10 (by kernel_rfl) (by kernel_rfl) (by kernel_rfl) (fun ⟨_, _, h⟩ => h) ?_
    simp only [List.take_succ_cons, List.take_zero, List.drop_succ_cons, List.drop_zero]
    repeat still_step
    try refine wpStill_nil ?_
    change wpList _ _ _ _ _ W.drew
    go_wp2_with fail
    go_goals
    all_goals
      exact ⟨⟨HO.out.size, fun q o' hq hk _ => (HO.out.block q (Array.getElem?_eq_some_iff.1 hk).1 (fun e => by injection e; have := HZ5.out; omega)).trans hk⟩, K3.of_only HO.out (by have := HZ5.out; omega) (by omega), HM.out⟩
  case hdone =>
    rintro D xs W hD hxs hM hK
    have x2 : W.cell? ⟨w.heap.size + 1 + 1, 0, none⟩ = some (.slice (some ⟨w.heap.size + 1, 0, none⟩) n n) := hM.b2.at_ 0
    have hK' := hide hK
    have HXS := hide hxs
    clear hxs hK
    have hlt := hM.b2.lt
    go_wp2_with fail
    refine ⟨by simp, .inl ⟨_, _, rfl, run_takeDeferred hK'.out, ?_⟩⟩
    refine ⟨_, by first | exact results_tmp rfl _ _ _ | rfl, _, rfl, ?_⟩
    have hDz : D < W.heap.size := (Array.getElem?_eq_some_iff.1 hK'.out).1
    have hMz := hM.size
    have hz5 := HZ5.out
    have hM3 : GInv w (W.putObj D (.deferred none)) A n c C v S xs := hM.grown (grownBy_putObj' W D _) (fun r e => by cases e; omega)
    have hr := hM3.row.congr (g := fun y => .int .i64 (gatherF v n S C y)) (fun y hy => by rw [HXS.out, gatherL_seq y C (Nat.le_refl _)])
    exact GaveRow.of_row hr (by omega) hM3.below
  case hstop => exact fun D c pre W _ _ h _ => h.elim
end Go.Proofs.YtcdplfjegopmdaaGreat.K
/- Gc of chapter 02, in a namespace of its own. -/
namespace Go.Proofs.YtcdplfjegopmdaaGreat.K
open Go.RowKit
/-- The error of the position k. -/
def posErr (p : Nat) (F : Nat → Int) (k : Nat) : Int := if 0 ≤ F k ∧ F k ≤ 2 ^ p - 1 then (if 0 < k ∧ F k ≤ F (k - 1) then 9 else 0) else 2
/-- The first of some errors that is one. -/
def firstBad (g : Nat → Int) : Nat → Int
  | 0 => 0
  | n + 1 => if firstBad g n = 0 then g n else firstBad g n
theorem firstBad_at {g : Nat → Int} {k : Nat} (h : firstBad g k = 0) (hk : g k ≠ 0) : ∀ n, k < n → firstBad g n = g k
  | 0, hn => absurd hn (Nat.not_lt_zero _)
  | n + 1, hn => by
    show (if firstBad g n = 0 then g n else firstBad g n) = g k
    rcases Nat.lt_or_ge k n with h1 | h1
    · have := firstBad_at h hk n h1
      rw [this, if_neg hk]
    · obtain rfl : k = n := by omega
      rw [if_pos h]
theorem firstBad_all {g : Nat → Int} : ∀ {n : Nat}, firstBad g n = 0 → ∀ k, k < n → g k = 0
  | 0, _, k, hk => absurd hk (Nat.not_lt_zero _)
  | n + 1, h, k, hk => by
    unfold firstBad at h
    by_cases h0 : firstBad g n = 0
    · rw [if_pos h0] at h
      rcases Nat.lt_or_ge k n with h1 | h1
      · exact firstBad_all h0 k h1
      · obtain rfl : k = n := by omega
        exact h
    · rw [if_neg h0] at h; exact absurd h h0
theorem firstBad_succ {g : Nat → Int} {k : Nat} (h : firstBad g k = 0) : firstBad g (k + 1) = g k := by unfold firstBad; rw [if_pos h]

def polarErrI (p : Int) (n : Nat) (F : Nat → Int) : Int := if 0 ≤ p ∧ p ≤ 6 then (if n = 0 then 10 else firstBad (posErr p.toNat F) n) else 2
theorem polarOk_of {p : Int} {n : Nat} {F : Nat → Int} (h : polarErrI p n F = 0) : 0 ≤ p ∧ p ≤ 6 ∧ PolarOk p.toNat n F := by
  unfold polarErrI at h
  by_cases hp : 0 ≤ p ∧ p ≤ 6
  · rw [if_pos hp] at h
    by_cases hn : n = 0
    · rw [if_pos hn] at h; exact absurd h (by decide)
    · rw [if_neg hn] at h
      have ha := firstBad_all h
      have hr : ∀ k, k < n → 0 ≤ F k ∧ F k ≤ 2 ^ p.toNat - 1 := fun k hk => by
        have := ha k hk
        unfold posErr at this
        by_cases h1 : 0 ≤ F k ∧ F k ≤ 2 ^ p.toNat - 1
        · exact h1
        · rw [if_neg h1] at this; exact absurd this (by decide)
      refine ⟨hp.1, hp.2, by omega, by omega, hr, fun k hk => ?_⟩
      have := ha (k + 1) hk
      unfold posErr at this
      rw [if_pos (hr (k + 1) hk)] at this
      by_cases h2 : 0 < k + 1 ∧ F (k + 1) ≤ F (k + 1 - 1)
      · rw [if_pos h2] at this; exact absurd this (by decide)
      · rw [Nat.add_sub_cancel] at h2; omega
  · rw [if_neg hp] at h; exact absurd h (by decide)

set_option maxHeartbeats 2000000 in
theorem checkPolarR_any (p : Int) (A : Option Addr) (n c : Nat) (F : Nat → Int) (w : World) (hn : n ≤ 1000) (hI : IntsAt w 0 A n F) :
    Calls Tryz.prog 83 #[.agg #[.int .i64 p, .slice A n c]] w fun e w' => e = .returned (.int .i64 (polarErrI p n F)) ∧ Below w.heap.size w w' := by
  by_cases hp : 0 ≤ p ∧ p ≤ 6
  · obtain ⟨p, rfl⟩ := Int.eq_ofNat_of_zero_le hp.1
    have hp6 : p ≤ 6 := by omega
    by_cases hn0 : n = 0
    · have EQ := hide (show polarErrI (p : Int) n F = 10 from by unfold polarErrI; rw [if_pos hp, if_pos hn0])
      generalize polarErrI (p : Int) n F = R at *
      subst hn0
      clear hI hp
      go_enter Tryz.func83, Tryz.ntmps83
      go_wp2_with fail
      refine (within_any _ _ _ _).mono ?_; rintro e w' ⟨rfl, rfl⟩
      rw [withinB_yes (by omega)]
      go_wp2_with fail
      go_ret
      exact ⟨ret_int EQ.out.symm, by (repeat (first | (with_reducible exact Below.refl _ _) | (with_reducible refine Go.below_drewN ?_ _) | (with_reducible refine Below.drew ?_) | (with_reducible refine Below.alloc ?_ (by first | exact Nat.le_refl _ | (simp; done) | (simp; omega) | omega) _) | (with_reducible refine Below.setCell ?_ (by first | exact Nat.le_refl _ | (simp; done) | (simp; omega) | omega) _)))⟩
    · have EQ := hide (show polarErrI (p : Int) n F = firstBad (posErr p F) n from by unfold polarErrI; rw [if_pos hp, if_neg hn0, Int.toNat_natCast])
      generalize polarErrI (p : Int) n F = R at *
      have t1 : ((n : Int) == 0) = false := by simp; omega
      obtain ⟨p1, p2⟩ := pow2_le p (by omega)
      have HI := hide hI
      clear hI hp hn0
      go_enter Tryz.func83, Tryz.ntmps83
      go_wp2_with fail
      refine (within_any _ _ _ _).mono ?_; rintro e w' ⟨rfl, rfl⟩
      rw [withinB_yes (by omega)]
      go_wp2_with fail
      go_loopw [3] (fun i wr => ∃ k : Nat, k ≤ n ∧ i = .int .i64 k ∧ Hid (firstBad (posErr p F) k = 0) ∧ Box wr w.heap.size 26 #[.int .i64 (p : Int), .slice A n c] ∧ Below w.heap.size w wr) (fun i _ => n - (Go.RowKit.intOf i).toNat)
      case atStart => exact ⟨0, Nat.zero_le _, rfl, hide rfl, Box.made rfl, by (repeat (first | (with_reducible exact Below.refl _ _) | (with_reducible refine Go.below_drewN ?_ _) | (with_reducible refine Below.drew ?_) | (with_reducible refine Below.alloc ?_ (by first | exact Nat.le_refl _ | (simp; done) | (simp; omega) | omega) _) | (with_reducible refine Below.setCell ?_ (by first | exact Nat.le_refl _ | (simp; done) | (simp; omega) | omega) _)))⟩
      case round =>
        obtain ⟨k, hk, rfl, HZ, bx, hB⟩ := hrel
        have x0 : wr.cell? ⟨w.heap.size, 0, none⟩ = some (.int .i64 (p : Int)) := bx.at_ 0
        have x1 : wr.cell? ⟨w.heap.size, 1, none⟩ = some (.slice A n c) := bx.at_ 1
        by_cases hlt : k < n
        · have hltz : (k : Int) < (n : Int) := by omega
          have hI := HI.out.below hB
          obtain ⟨b, o, rfl, -, hb, hcell⟩ := hI k hlt
          have q1 : IntKind.i64.wrap ((2 : Int) ^ p - 1) = 2 ^ p - 1 := IntWalk.i64_in _ (by omega)
          by_cases hr : 0 ≤ F k ∧ F k ≤ 2 ^ p - 1
          · have hw := withinB_yes hr
            by_cases hk0 : k = 0
            · have HG := hide (show posErr p F k = 0 from by unfold posErr; rw [if_pos hr, if_neg (by omega)])
              have t2 : decide (0 < k) = false := by simp; omega
              clear hr hk0
              go_wp2_with fail
              go_quiet ((first | (go_at_call 44; exact Calls.quiet_of_same ((powerR_any p _ (by omega)).mono fun _ _ h => ⟨h.1, h.2.symm⟩)) | (go_at_call 27; first | exact quiet_add_same ((within_any _ _ _ _).mono fun _ _ h => ⟨h.1, h.2.symm⟩) | exact Calls.quiet_of_same ((within_any _ _ _ _).mono fun _ _ h => ⟨h.1, h.2.symm⟩))))
              go_wp2_with fail
              go_quiet (fail)
              go_wp2_with fail
              go_roundw
              case rel => exact ⟨k + 1, by omega, by go_num, hide (by rw [firstBad_succ HZ.out]; exact HG.out), bx.drewN _, Go.below_drewN hB _⟩
              case measure => simp [Go.RowKit.intOf]; omega
            · have t2 : decide (0 < k) = true := by simp; omega
              obtain ⟨b2, o2, e2, -, hb2, hcell2⟩ := hI (k - 1) (by omega)
              injection e2 with e2; injection e2 with e2 e3; subst e2; subst e3
              have q2 : IntKind.i64.wrap ((k : Int) - 1) = ((k - 1 : Nat) : Int) := by rw [IntWalk.i64_in _ (by omega)]; omega
              have hlt2 : ((k - 1 : Nat) : Int) < (n : Int) := by omega
              by_cases ho : F k ≤ F (k - 1)
              · have t3 : decide (F k ≤ F (k - 1)) = true := by simpa using ho
                have HG := hide (show posErr p F k = 9 from by unfold posErr; rw [if_pos hr, if_pos ⟨by omega, ho⟩])
                have HE := hide (firstBad_at HZ.out (by rw [HG.out]; decide) n hlt)
                clear hr hk0 ho
                go_wp2_with fail
                go_quiet ((first | (go_at_call 44; exact Calls.quiet_of_same ((powerR_any p _ (by omega)).mono fun _ _ h => ⟨h.1, h.2.symm⟩)) | (go_at_call 27; first | exact quiet_add_same ((within_any _ _ _ _).mono fun _ _ h => ⟨h.1, h.2.symm⟩) | exact Calls.quiet_of_same ((within_any _ _ _ _).mono fun _ _ h => ⟨h.1, h.2.symm⟩))))
                go_wp2_with fail
                go_quiet (fail)
                go_wp2_with fail
                go_ret
                exact ⟨ret_int (by rw [EQ.out, HE.out, HG.out]), Go.below_drewN (Go.below_drewN hB _) _⟩
              · have t3 : decide (F k ≤ F (k - 1)) = false := by simpa using ho
                have HG := hide (show posErr p F k = 0 from by unfold posErr; rw [if_pos hr, if_neg (fun h => ho h.2)])
                clear hr hk0 ho
                go_wp2_with fail
                go_quiet ((first | (go_at_call 44; exact Calls.quiet_of_same ((powerR_any p _ (by omega)).mono fun _ _ h => ⟨h.1, h.2.symm⟩)) | (go_at_call 27; first | exact quiet_add_same ((within_any _ _ _ _).mono fun _ _ h => ⟨h.1, h.2.symm⟩) | exact Calls.quiet_of_same ((within_any _ _ _ _).mono fun _ _ h => ⟨h.1, h.2.symm⟩))))
                go_wp2_with fail
                go_quiet (fail)
                go_wp2_with fail
                go_roundw
                case rel => exact ⟨k + 1, by omega, by go_num, hide (by rw [firstBad_succ HZ.out]; exact HG.out), bx.drewN _, Go.below_drewN hB _⟩
                case measure => simp [Go.RowKit.intOf]; omega
          · have hw := withinB_no hr
            have HG := hide (show posErr p F k = 2 from if_neg hr)
            have HE := hide (firstBad_at HZ.out (by rw [HG.out]; decide) n hlt)
            clear hr
            go_wp2_with fail
            go_quiet ((first | (go_at_call 44; exact Calls.quiet_of_same ((powerR_any p _ (by omega)).mono fun _ _ h => ⟨h.1, h.2.symm⟩)) | (go_at_call 27; first | exact quiet_add_same ((within_any _ _ _ _).mono fun _ _ h => ⟨h.1, h.2.symm⟩) | exact Calls.quiet_of_same ((within_any _ _ _ _).mono fun _ _ h => ⟨h.1, h.2.symm⟩))))
            go_wp2_with fail
            go_ret
            exact ⟨ret_int (by rw [EQ.out, HE.out, HG.out]), Go.below_drewN hB _⟩
        · obtain rfl : k = n := by omega
          go_wp2_with fail
          go_ret
          exact ⟨ret_int (by rw [EQ.out, HZ.out]), hB⟩
  · have EQ := hide (show polarErrI p n F = 2 from if_neg hp)
    have HW := hide (withinB_no hp)
    generalize polarErrI p n F = R at *
    clear hp hI
    go_enter Tryz.func83, Tryz.ntmps83
    go_wp2_with fail
    refine (within_any _ _ _ _).mono ?_; rintro e w' ⟨rfl, rfl⟩
    rw [HW.out]
    go_wp2_with fail
    go_ret
    exact ⟨ret_int EQ.out.symm, by (repeat (first | (with_reducible exact Below.refl _ _) | (with_reducible refine Go.below_drewN ?_ _) | (with_reducible refine Below.drew ?_) | (with_reducible refine Below.alloc ?_ (by first | exact Nat.le_refl _ | (simp; done) | (simp; omega) | omega) _) | (with_reducible refine Below.setCell ?_ (by first | exact Nat.le_refl _ | (simp; done) | (simp; omega) | omega) _)))⟩
end Go.Proofs.YtcdplfjegopmdaaGreat.K
/- La of chapter 02, in a namespace of its own. -/
namespace Go.Proofs.YtcdplfjegopmdaaGreat.K
open Go.RowKit
theorem posErr_two {p k : Nat} {F : Nat → Int} (h : ¬ (0 ≤ F k ∧ F k ≤ 2 ^ p - 1)) : posErr p F k = 2 := by unfold posErr; rw [if_neg h]
theorem posErr_nine {p k : Nat} {F : Nat → Int} (h : 0 ≤ F k ∧ F k ≤ 2 ^ p - 1) (h2 : F k ≤ beforeI F k) : posErr p F k = 9 := by
  unfold posErr
  rw [if_pos h]
  cases k with
  | zero => have : F 0 ≤ -1 := h2; omega
  | succ j => exact if_pos ⟨Nat.succ_pos _, h2⟩
theorem posErr_zero {p k : Nat} {F : Nat → Int} (h : 0 ≤ F k ∧ F k ≤ 2 ^ p - 1) (h2 : ¬ F k ≤ beforeI F k) : posErr p F k = 0 := by
  unfold posErr
  rw [if_pos h]
  cases k with
  | zero => exact if_neg (by omega)
  | succ j => exact if_neg (fun hh => h2 hh.2)
set_option maxHeartbeats 2000000 in
theorem checkPolar_any (p : Int) (A : Option Addr) (n c : Nat) (F : Nat → Int) (w : World) (hn : n ≤ 1000) (hI : IntsAt w 0 A n F) :
    Calls Tryz.prog 81 #[.agg #[.int .i64 p, .slice A n c]] w fun e w' => e = .returned (.int .i64 (polarErrI p n F)) ∧ Below w.heap.size w w' := by
  by_cases hp : 0 ≤ p ∧ p ≤ 6
  · obtain ⟨p, rfl⟩ := Int.eq_ofNat_of_zero_le hp.1
    obtain ⟨p1, p2⟩ := pow2_le p (by omega)
    by_cases hn0 : n = 0
    · have EQ := hide (show polarErrI (p : Int) n F = 10 from by unfold polarErrI; rw [if_pos hp, if_pos hn0])
      generalize polarErrI (p : Int) n F = R at *
      subst hn0
      have HW := hide (withinB_yes hp)
      clear hI hp
      go_enter Tryz.func81, Tryz.ntmps81
      go_wp2_with fail
      refine (isWithin_any _ _ _ _).mono ?_; rintro e w' ⟨rfl, rfl⟩
      rw [HW.out]
      go_wp2_with fail
      go_ret
      exact ⟨ret_int EQ.out.symm, by (repeat (first | (with_reducible exact Below.refl _ _) | (with_reducible refine Go.below_drewN ?_ _) | (with_reducible refine Below.drew ?_) | (with_reducible refine Below.alloc ?_ (by first | exact Nat.le_refl _ | (simp; done) | (simp; omega) | omega) _) | (with_reducible refine Below.setCell ?_ (by first | exact Nat.le_refl _ | (simp; done) | (simp; omega) | omega) _)))⟩
    · have EQ := hide (show polarErrI (p : Int) n F = firstBad (posErr p F) n from by unfold polarErrI; rw [if_pos hp, if_neg hn0, Int.toNat_natCast])
      generalize polarErrI (p : Int) n F = R at *
      have HI := hide hI
      have hne : ((n : Int) == 0) = false := by simp; omega
      have HW := hide (withinB_yes hp)
      have hp6 : p ≤ 6 := by omega
      clear hI hp hn0
      go_enter Tryz.func81, Tryz.ntmps81
      go_wp2_with fail
      refine (isWithin_any _ _ _ _).mono ?_; rintro e w' ⟨rfl, rfl⟩
      rw [HW.out]
      go_wp2_with fail
      go_loopw [3, 17] (fun r i wr => ∃ k : Nat, k ≤ n ∧ i = .int .i64 k ∧ r = .int .i64 (beforeI F k) ∧ Hid (firstBad (posErr p F) k = 0) ∧ Box wr w.heap.size 26 #[.int .i64 (p : Int), .slice A n c] ∧ Below w.heap.size w wr) (fun _ i _ => n - (Go.RowKit.intOf i).toNat)
      case atStart => exact ⟨0, Nat.zero_le _, rfl, rfl, hide rfl, Box.made rfl, (Below.refl _ _).alloc (Nat.le_refl _) _⟩
      case round =>
        obtain ⟨k, hk, rfl, rfl, HZ, bx, hB⟩ := hrel
        have x0 := bx.at_ 0
        simp only [List.getElem?_toArray] at x0
        by_cases hlt : k < n
        · have hltz : (k : Int) < (n : Int) := by omega
          have hI := HI.out.below hB
          obtain ⟨b, o, rfl, -, hb, hcell⟩ := hI k hlt
          by_cases hr : 0 ≤ F k ∧ F k ≤ 2 ^ p - 1
          · have HWR := hide (withinB_yes hr)
            by_cases ho : F k ≤ beforeI F k
            · have HE := hide (show R = 9 from by rw [EQ.out, firstBad_at HZ.out (by rw [posErr_nine hr ho]; decide) n hlt, posErr_nine hr ho])
              have t1 : decide (F k ≤ beforeI F k) = true := by simpa using ho
              clear hr ho
              generalize F k = f at *
              generalize beforeI F k = g at *
              go_wp2_with fail
              refine (isWithin_any _ _ _ _).mono ?_; rintro e w' ⟨rfl, rfl⟩
              rw [HWR.out]
              go_wp2_with fail
              go_ret
              exact ⟨ret_int HE.out.symm, hB⟩
            · have HG := hide (show firstBad (posErr p F) (k + 1) = 0 from by rw [firstBad_succ HZ.out]; exact posErr_zero hr ho)
              have t1 : decide (F k ≤ beforeI F k) = false := by simpa using ho
              have HF := hide (show beforeI F (k + 1) = F k from rfl)
              clear hr ho
              generalize F k = f at *
              generalize beforeI F k = g at *
              go_wp2_with fail
              refine (isWithin_any _ _ _ _).mono ?_; rintro e w' ⟨rfl, rfl⟩
              rw [HWR.out]
              go_wp2_with fail
              go_roundw
              case rel => exact ⟨k + 1, by omega, by go_num, by rw [HF.out], HG, bx, hB⟩
              case measure => simp [Go.RowKit.intOf]; omega
          · have HWR := hide (withinB_no hr)
            have HE := hide (show R = 2 from by rw [EQ.out, firstBad_at HZ.out (by rw [posErr_two hr]; decide) n hlt, posErr_two hr])
            clear hr
            go_wp2_with fail
            refine (isWithin_any _ _ _ _).mono ?_; rintro e w' ⟨rfl, rfl⟩
            rw [HWR.out]
            go_wp2_with fail
            go_ret
            exact ⟨ret_int HE.out.symm, hB⟩
        · obtain rfl : k = n := by omega
          go_wp2_with fail
          go_ret
          exact ⟨ret_int (by rw [EQ.out, HZ.out]), hB⟩
  · have EQ := hide (show polarErrI p n F = 2 from if_neg hp)
    have HW := hide (withinB_no hp)
    generalize polarErrI p n F = R at *
    clear hp hI
    go_enter Tryz.func81, Tryz.ntmps81
    go_wp2_with fail
    refine (isWithin_any _ _ _ _).mono ?_; rintro e w' ⟨rfl, rfl⟩
    rw [HW.out]
    go_wp2_with fail
    go_ret
    exact ⟨ret_int EQ.out.symm, by (repeat (first | (with_reducible exact Below.refl _ _) | (with_reducible refine Go.below_drewN ?_ _) | (with_reducible refine Below.drew ?_) | (with_reducible refine Below.alloc ?_ (by first | exact Nat.le_refl _ | (simp; done) | (simp; omega) | omega) _) | (with_reducible refine Below.setCell ?_ (by first | exact Nat.le_refl _ | (simp; done) | (simp; omega) | omega) _)))⟩
end Go.Proofs.YtcdplfjegopmdaaGreat.K
/- Lb of chapter 02, in a namespace of its own. -/
namespace Go.Proofs.YtcdplfjegopmdaaGreat.K
open Go.RowKit
/-- The error of a chain. -/
def chainErrI (d t p : Int) (n : Nat) (F : Nat → Int) (k : Int) : Int := firstE [polyErrI d t, polarErrI p n F, unI (decide (d < (n : Int))) 10, unI (withinB k 1 400) 2]
theorem firstE_zero_cons {e : Int} {r : List Int} (h : firstE (e :: r) = 0) : e = 0 ∧ firstE r = 0 := by
  rw [firstE_cons] at h
  by_cases h1 : e = 0
  · rw [if_pos h1] at h; exact ⟨h1, h⟩
  · rw [if_neg h1] at h; exact absurd h h1
theorem unI_zero {b : Bool} {e : Int} (he : e ≠ 0) (h : unI b e = 0) : b = true := by
  cases b
  · exact absurd h he
  · rfl
theorem withinB_of {n lo hi : Int} (h : withinB n lo hi = true) : lo ≤ n ∧ n ≤ hi := by
  refine Classical.byContradiction fun hh => ?_
  rw [withinB_no hh] at h
  cases h
/-- A chain that is right. -/
structure ChainOk (d t p : Int) (n : Nat) (F : Nat → Int) (k : Int) (x y q j : Nat) : Prop where
  ed : d = x
  et : t = y
  ep : p = q
  ek : k = j
  d0 : 1 ≤ x
  d1 : x ≤ 16
  t1 : y < 2 ^ x
  odd : y % 2 = 1
  polar : PolarOk q n F
  q6 : q ≤ 6
  less : x < n
  k1 : 1 ≤ j
  k4 : j ≤ 400
theorem chainErr_zero {d t p : Int} {n : Nat} {F : Nat → Int} {k : Int} (h : chainErrI d t p n F k = 0) : ∃ x y q j, ChainOk d t p n F k x y q j := by
  obtain ⟨h1, h⟩ := firstE_zero_cons h
  obtain ⟨h2, h⟩ := firstE_zero_cons h
  obtain ⟨h3, h⟩ := firstE_zero_cons h
  obtain ⟨h4, -⟩ := firstE_zero_cons h
  have h3 := of_decide_eq_true (unI_zero (by decide) h3)
  have h4 := withinB_of (unI_zero (by decide) h4)
  obtain ⟨g1, g2, g3, g4, g5⟩ := poly_of h1
  obtain ⟨p1, p2, p3⟩ := polarOk_of h2
  obtain ⟨x, rfl⟩ := Int.eq_ofNat_of_zero_le (show 0 ≤ d by omega)
  obtain ⟨y, rfl⟩ := Int.eq_ofNat_of_zero_le (show 0 ≤ t by omega)
  obtain ⟨q, rfl⟩ := Int.eq_ofNat_of_zero_le p1
  obtain ⟨j, rfl⟩ := Int.eq_ofNat_of_zero_le (show 0 ≤ k by omega)
  rw [Int.toNat_natCast] at g4 p3
  have : ((2 ^ x : Nat) : Int) = (2 : Int) ^ x := by simp
  exact ⟨x, y, q, j, rfl, rfl, rfl, rfl, by omega, by omega, by omega, by omega, p3, by omega, by omega, by omega, by omega⟩
theorem bstep5 {B : Nat} {w1 W w2 : World} {p q r s t : Prop} (hb : Below W.heap.size W w2) (h : p ∧ q ∧ r ∧ s ∧ t ∧ Below B w1 W) (hB : B ≤ w1.heap.size) : Below B w1 w2 := h.2.2.2.2.2.trans (hb.mono (Nat.le_trans hB h.2.2.2.2.2.size))
set_option maxHeartbeats 2000000 in
theorem chainError_any (d t p k : Int) (A : Option Addr) (n c : Nat) (F : Nat → Int) (w : World) (hn : n ≤ 1000) (hI : IntsAt w 0 A n F) :
    Calls Tryz.prog 47 #[.agg #[.int .i64 d, .int .i64 t, .int .i64 p, .slice A n c, .int .i64 k]] w fun e w' => e = .returned (.int .i64 (chainErrI d t p n F k)) ∧ Below w.heap.size w w' := by
  have HI := hide hI
  clear hI
  go_enter Tryz.func47, Tryz.ntmps47
  go_wp2_with fail
  generalize hW : World.alloc w _ = W
  have bx : Box W w.heap.size 28 #[.int .i64 d, .int .i64 t, .int .i64 p, .slice A n c, .int .i64 k] := by rw [← hW]; exact Box.made rfl
  have hB : Below w.heap.size w W := by rw [← hW]; exact (Below.refl _ _).alloc (Nat.le_refl _) _
  clear hW
  have x0 : W.cell? ⟨w.heap.size, 0, none⟩ = some (.int .i64 d) := bx.at_ 0
  have x1 : W.cell? ⟨w.heap.size, 1, none⟩ = some (.int .i64 t) := bx.at_ 1
  have x2 : W.cell? ⟨w.heap.size, 2, none⟩ = some (.int .i64 p) := bx.at_ 2
  have x3 : W.cell? ⟨w.heap.size, 3, none⟩ = some (.slice A n c) := bx.at_ 3
  have x4 : W.cell? ⟨w.heap.size, 4, none⟩ = some (.int .i64 k) := bx.at_ 4
  have hz : w.heap.size + 1 ≤ W.heap.size := bx.lt
  have SOF := hide (fun W' (h : Below (w.heap.size + 1) W W') => (⟨(h.cell (p := ⟨w.heap.size, 0, none⟩) (by simp)).trans x0, (h.cell (p := ⟨w.heap.size, 1, none⟩) (by simp)).trans x1, (h.cell (p := ⟨w.heap.size, 2, none⟩) (by simp)).trans x2, (h.cell (p := ⟨w.heap.size, 3, none⟩) (by simp)).trans x3, (h.cell (p := ⟨w.heap.size, 4, none⟩) (by simp)).trans x4, h⟩ :
     W'.cell? ⟨w.heap.size, 0, none⟩ = some (.int .i64 d) ∧ W'.cell? ⟨w.heap.size, 1, none⟩ = some (.int .i64 t) ∧ W'.cell? ⟨w.heap.size, 2, none⟩ = some (.int .i64 p) ∧ W'.cell? ⟨w.heap.size, 3, none⟩ = some (.slice A n c) ∧ W'.cell? ⟨w.heap.size, 4, none⟩ = some (.int .i64 k) ∧ Below (w.heap.size + 1) W W'))
  have KI := hide (fun W' (h : W'.cell? ⟨w.heap.size, 0, none⟩ = some (.int .i64 d) ∧ W'.cell? ⟨w.heap.size, 1, none⟩ = some (.int .i64 t) ∧ W'.cell? ⟨w.heap.size, 2, none⟩ = some (.int .i64 p) ∧ W'.cell? ⟨w.heap.size, 3, none⟩ = some (.slice A n c) ∧ W'.cell? ⟨w.heap.size, 4, none⟩ = some (.int .i64 k) ∧ Below (w.heap.size + 1) W W') => HI.out.below (hB.trans (h.2.2.2.2.2.mono (by omega))))
  have b0 : Below (w.heap.size + 1) W W := Below.refl _ _
  have HBB := hide hB
  clear x0 x1 x2 x3 x4 hB
  go_region_held3 (fun w' => w'.cell? ⟨w.heap.size, 0, none⟩ = some (.int .i64 d) ∧ w'.cell? ⟨w.heap.size, 1, none⟩ = some (.int .i64 t) ∧ w'.cell? ⟨w.heap.size, 2, none⟩ = some (.int .i64 p) ∧ w'.cell? ⟨w.heap.size, 3, none⟩ = some (.slice A n c) ∧ w'.cell? ⟨w.heap.size, 4, none⟩ = some (.int .i64 k) ∧ Below (w.heap.size + 1) W w')
      (first | assumption | exact SOF.out _ (by assumption) | exact SOF.out _ b0.drew | exact SOF.out _ (balloc' (by assumption) hz _))
      (first
        | (go_at_call 79; refine (checkPoly_any d t _).mono ?_; rintro e w2 ⟨rfl, hb2⟩; have hs2 : Below (w.heap.size + 1) W w2 := bstep5 hb2 (by assumption) hz)
        | (go_at_call 81; refine (checkPolar_any p A n c F _ hn (KI.out _ (by assumption))).mono ?_; rintro e w3 ⟨rfl, hb3⟩; have hs3 : Below (w.heap.size + 1) W w3 := bstep5 hb3 (by assumption) hz)
        | (go_at_call 49; refine (unless_any _ _ _).mono ?_; rintro e w4 ⟨rfl, rfl⟩)
        | (go_at_call 85; refine (countError_any _ _).mono ?_; rintro e w5 ⟨rfl, rfl⟩)
        | (go_at_call 46; refine (firstError_laid [polyErrI d t, polarErrI p n F, unI (decide (d < (n : Int))) 10, unI (withinB k 1 400) 2] 4 _ _ rfl (by decide)).mono ?_; rintro e w6 ⟨rfl, rfl⟩))
  go_wp2_with fail
  go_ret
  have hB3 := HBB.out.trans (hs3.mono (by omega))
  exact ⟨rfl, hB3.alloc hB3.size _⟩
end Go.Proofs.YtcdplfjegopmdaaGreat.K
/- Jh of chapter 02, in a namespace of its own. -/
namespace Go.Proofs.YtcdplfjegopmdaaGreat.K
open Go.RowKit Go.Shelf
def gathErr (n : Nat) (S : Nat → Int) (v l : Int) : Int := if sizedErrI n 400 S 1000000 = 0 then (if unI (withinB v 0 3) 15 = 0 then unI (withinB l 1 200) 2 else unI (withinB v 0 3) 15) else sizedErrI n 400 S 1000000
theorem first3 (a b c : Int) : firstE [a, b, c] = if a = 0 then (if b = 0 then c else b) else a := by
  rw [firstE_cons, firstE_cons, firstE_cons, firstE_none]
  split
  · split
    · split
      · rename_i h; exact h.symm
      · rfl
    · rfl
  · rfl
theorem gathErr_zero {n : Nat} {S : Nat → Int} {v l : Int} (h : gathErr n S v l = 0) : sizedErrI n 400 S 1000000 = 0 ∧ (0 ≤ v ∧ v ≤ 3) ∧ 1 ≤ l ∧ l ≤ 200 := by
  unfold gathErr at h
  by_cases h1 : sizedErrI n 400 S 1000000 = 0
  · rw [if_pos h1] at h
    by_cases h2 : unI (withinB v 0 3) 15 = 0
    · rw [if_pos h2] at h
      exact ⟨h1, withinB_of (unI_zero (by decide) h2), withinB_of (unI_zero (by decide) h)⟩
    · rw [if_neg h2] at h; exact absurd h h2
  · rw [if_neg h1] at h; exact absurd h h1
def GaveOrRow (err : Int) (n : Nat) (F : Nat → Int) (w : World) (e : Ending) (w' : World) : Prop :=
  (err ≠ 0 ∧ e = .returned (.tuple #[.slice none 0 0, .int .i64 err]) ∧ Below w.heap.size w w') ∨ (err = 0 ∧ ∃ v, e = .returned (.tuple #[v, .int .i64 0]) ∧ GaveRow w n F v w')
set_option maxHeartbeats 1000000 in
theorem Gathered_row (A : Option Addr) (n c : Nat) (v l : Int) (S : Nat → Int) (w : World) (hI : IntsAt w 0 A n S) (hn : n ≤ 1000) :
    Calls Tryz.prog 36 #[.slice A n c, .int .i64 v, .int .i64 l] w (GaveOrRow (gathErr n S v l) l.toNat (gatherF v.toNat l.toNat S n) w) := by
  have HI := hide hI
  clear hI
  go_enter Tryz.func36, Tryz.ntmps36
  go_wp2_with fail
  refine (softErr_any A n c S _ (by omega) HI.out).mono ?_
  rintro e w1 ⟨rfl, hb1⟩
  go_wp2_with (first | (go_at_call 50; refine (versionError_any _ _).mono ?_; rintro e w' ⟨rfl, rfl⟩) | (go_at_call 73; refine (lengthError_any _ _).mono ?_; rintro e w' ⟨rfl, rfl⟩))
  refine (firstError_laid [sizedErrI n 400 S 1000000, unI (withinB v 0 3) 15, unI (withinB l 1 200) 2] 3 _ _ rfl (by decide)).mono ?_
  rintro e w3 ⟨rfl, hw3⟩
  rw [show firstE [sizedErrI n 400 S 1000000, unI (withinB v 0 3) 15, unI (withinB l 1 200) 2] = gathErr n S v l from first3 _ _ _]
  have hB3 : Below w.heap.size w w3 := by
    rw [← hw3]
    exact hb1.alloc hb1.size _
  clear hw3 hb1
  by_cases hz : gathErr n S v l = 0
  · rw [hz]
    obtain ⟨h1, ⟨v0, v1⟩, c0, c1⟩ := gathErr_zero hz
    obtain ⟨n0, n1, hS⟩ := sizedErr_zero h1
    have HZ := hide hz
    have HS := hide hS
    obtain ⟨v, rfl⟩ := Int.eq_ofNat_of_zero_le v0
    obtain ⟨l, rfl⟩ := Int.eq_ofNat_of_zero_le (show 0 ≤ l by omega)
    clear hz h1 hS
    go_wp2_with fail
    refine (gathered_row A n c v l S _ (HI.out.below hB3) HS.out (by omega) (by omega) (by omega) (by omega)).mono ?_
    rintro e w4 ⟨x, rfl, ⟨g4, rfl⟩, hG4⟩
    have HG4 := hide hG4
    clear hG4
    go_wp2_with fail
    go_ret2
    obtain ⟨A4, c4, ev4, hc4, hI4, hb4⟩ := HG4.out
    exact .inr ⟨HZ.out, _, rfl, ⟨_, rfl⟩, A4, c4, ev4, hc4, hI4.weak hB3.size, hB3.trans (hb4.mono hB3.size)⟩
  · have HZ := hide hz
    have ht : (gathErr n S v l != 0) = true := by simpa using hz
    clear hz
    go_wp2_with fail
    go_ret2
    exact .inl ⟨HZ.out, rfl, hB3⟩
end Go.Proofs.YtcdplfjegopmdaaGreat.K
