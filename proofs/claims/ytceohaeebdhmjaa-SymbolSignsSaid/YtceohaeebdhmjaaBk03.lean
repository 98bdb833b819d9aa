/- Lemmas: S3, S4, Bs, S5, S6. -/
import Derived.Laws.IdiomCopy
import Derived.Deep.RegionHeld3
import Derived.StillTailTactics
import Derived.Test.YtceohaeebdhmjaaBk01
import Derived.Test.YtceohaeebdhmjaaBk02
set_option linter.unusedVariables false
set_option linter.unusedSimpArgs false
/- A copy of a register of the code, and what a slice of a call's own holds behind a copy of itself, moved on by one. -/
namespace Go.Proofs.Ytceohaeebdhmjaa
open Go.RowKit Go.Lib
theorem ownS_weak {w : World} {base base' n : Nat} {v : Value} {F : Nat → Int} (h : OwnInts w base v n F) (hb : base' ≤ base) : OwnInts w base' v n F :=
  ⟨h.1, h.2.elim Or.inl (fun ⟨g, cap, cur, hv, hg, r⟩ => Or.inr ⟨g, cap, cur, hv, Nat.le_trans hb hg, r⟩)⟩
theorem ownS_other {w : World} {base n g c b o : Nat} {F : Nat → Int} (h : OwnInts w base (.slice (some ⟨g, 0, none⟩) n c) n F) (hb : g ≠ b) (u : Value) : OwnInts (w.setCell ⟨b, o, none⟩ u) base (.slice (some ⟨g, 0, none⟩) n c) n F :=
  ownsRow_setCell_other h (a := ⟨b, o, none⟩) (by intro e; injection e with e; exact hb e) u
theorem Box.r3put1 {w : World} {b : Nat} {t : TypeId} {p0 p1 p2 : Value} (h : Box w b t #[p0, p1, p2]) (u : Value) : Box (w.setCell ⟨b, 1, none⟩ u) b t #[p0, u, p2] := by
  have := h.set_ 1 u
  simpa using this
theorem Box.r3put2 {w : World} {b : Nat} {t : TypeId} {p0 p1 p2 : Value} (h : Box w b t #[p0, p1, p2]) (u : Value) : Box (w.setCell ⟨b, 2, none⟩ u) b t #[p0, p1, u] := by
  have := h.set_ 2 u
  simpa using this
theorem Box.r3putAll {w : World} {b : Nat} {t : TypeId} {p0 p1 p2 : Value} (h : Box w b t #[p0, p1, p2]) (u0 u1 u2 : Value) : Box (((w.setCell ⟨b, 0, none⟩ u0).setCell ⟨b, 1, none⟩ u1).setCell ⟨b, 2, none⟩ u2) b t #[u0, u1, u2] := by
  have := ((h.set_ 0 u0).set_ 1 u1).set_ 2 u2
  simpa using this
theorem ownInts_empty0 (w : World) (g : Nat) (hg : g = w.heap.size) (F : Nat → Int) : OwnInts (w.alloc (.cells #[] 3)) w.heap.size (.slice (some ⟨g, 0, none⟩) 0 0) 0 F := by
  subst hg
  exact World.ownsRow_made w #[] 0 (Nat.le_refl _) (by decide) rfl
set_option maxHeartbeats 1000000 in
set_option maxRecDepth 100000 in
theorem cloneS_any (b o n c : Nat) (F : Nat → Int) (w : World) (hn : n ≤ 100000) (hI : IntsAt w 0 (some ⟨b, o, none⟩) n F) :
    Calls Try.prog 110 #[.slice (some ⟨b, o, none⟩) n c] w fun r w' => ∃ v, r = .returned v ∧ OwnInts w' w.heap.size v n F ∧ Below w.heap.size w w' := by
  have HI := hide (hI.alloc (.cells #[] 3))
  have HE := hide (ownInts_empty0 w _ rfl F)
  clear hI
  have hnil := fun (W : World) (b o n c : Nat) => Lib.run_eql_slice_nil (P := Try.prog) W 59 3 (some ⟨b, o, none⟩) n c 0 0 Try.underlying59
  simp only [Option.isNone_some] at hnil
  go_enter Try.func110, Try.ntmps110
  go_wp2_with (at_builtin; refine wpList_append_ints _ rfl (.tmp 5) (.tmp 6) rfl w.heap.size 0 (.slice (some ⟨w.heap.size, 0, none⟩) 0 0) 0 F rfl HE.out (some ⟨b, o, none⟩) n c F rfl HI.out (by omega) (by simp) ?_; intro v' w' h1 hb2)
  go_ret
  refine ⟨_, rfl, ?_, ((Below.refl _ _).alloc (Nat.le_refl _) _).trans hb2⟩
  rw [Nat.zero_add] at h1
  exact h1.congr fun j hj => by unfold catF; rw [if_neg (Nat.not_lt_zero j), Nat.sub_zero]
set_option maxHeartbeats 4000000 in
set_option maxRecDepth 100000 in
theorem copyOf_any (L : Int) (b o n c b2 o2 m d : Nat) (T S : Nat → Int) (w : World) (hn0 : 0 < n) (hn : n ≤ 100000) (hm0 : 0 < m) (hm : m ≤ 100000) (hT : IntsAt w 0 (some ⟨b, o, none⟩) n T) (hS : IntsAt w 0 (some ⟨b2, o2, none⟩) m S) :
    Calls Try.prog 89 #[.agg #[.int .i64 L, .slice (some ⟨b, o, none⟩) n c, .slice (some ⟨b2, o2, none⟩) m d]] w fun e w' => ∃ gT cT gS cS, e = .returned (.agg #[.int .i64 L, .slice (some ⟨gT, 0, none⟩) n cT, .slice (some ⟨gS, 0, none⟩) m cS]) ∧ w.heap.size ≤ gT ∧ gT < gS ∧
      OwnInts w' w.heap.size (.slice (some ⟨gT, 0, none⟩) n cT) n T ∧ OwnInts w' w.heap.size (.slice (some ⟨gS, 0, none⟩) m cS) m S ∧ Below w.heap.size w w' := by
  have HI := hide hT
  have HJ := hide hS
  have HCT := hide (fun W (h : IntsAt W 0 (some ⟨b, o, none⟩) n T) => cloneS_any b o n c T W hn h)
  have HCS := hide (fun W (h : IntsAt W 0 (some ⟨b2, o2, none⟩) m S) => cloneS_any b2 o2 m d S W hm h)
  clear hT hS
  go_enter Try.func89, Try.ntmps89
  go_upto_region 1 with fail
  obtain ⟨W, hW⟩ : ∃ q : World, q = (w.alloc (.cells #[.int .i64 L, .slice (some ⟨b, o, none⟩) n c, .slice (some ⟨b2, o2, none⟩) m d] 81)).alloc (.cells #[.int .i64 0, .slice none 0 0, .slice none 0 0] 81) := ⟨_, rfl⟩
  try rw [← hW]
  have HX := hide (show Box W w.heap.size 81 #[.int .i64 L, .slice (some ⟨b, o, none⟩) n c, .slice (some ⟨b2, o2, none⟩) m d] by rw [hW]; exact (Box.made rfl).alloc _)
  have HY := hide (show Box W (w.heap.size + 1) 81 #[.int .i64 0, .slice none 0 0, .slice none 0 0] by rw [hW]; exact Box.made (by simp))
  have HB := hide (show Below w.heap.size w W by rw [hW]; (repeat (first | (with_reducible exact Below.refl _ _) | (with_reducible refine Go.below_drewN ?_ _) | (with_reducible refine Below.drew ?_) | (with_reducible refine Below.alloc ?_ (by first | exact Nat.le_refl _ | (simp; done) | (simp; omega) | omega) _) | (with_reducible refine Below.setCell ?_ (by first | exact Nat.le_refl _ | (simp; done) | (simp; omega) | omega) _))))
  clear hW
  obtain ⟨x0, x1, x2, f0, f1, f2, hlx⟩ := HX.out.r3
  go_wp2_with fail
  refine (HCT.out _ (HI.out.below HB.out)).mono ?_
  rintro e w1 ⟨v1, rfl, ho1, hb1⟩
  obtain ⟨gT, cT, rfl, hgT, hgT1⟩ := ho1.row hn0
  have HO1 := hide (ownS_weak ho1 (base' := w.heap.size) HB.out.size)
  have hg2 : w.heap.size + 1 < gT := Nat.lt_of_lt_of_le HY.out.lt hgT
  replace HX := hide (HX.out.below hb1)
  replace HY := hide (HY.out.below hb1)
  replace HB := hide (HB.out.trans (hb1.mono HB.out.size))
  clear hb1 ho1 hgT x0 x1 x2 f0 f1 f2 hlx
  obtain ⟨x0, x1, x2, f0, f1, f2, hlx⟩ := HX.out.r3
  have HX2 := hide (HX.out.r3put1 (.slice (some ⟨gT, 0, none⟩) n cT))
  have HY2 := hide (HY.out.other (p := ⟨w.heap.size, 1, none⟩) (by show w.heap.size + 1 ≠ w.heap.size; omega) (.slice (some ⟨gT, 0, none⟩) n cT))
  have HO2 := hide (ownS_other (b := w.heap.size) (o := 1) HO1.out (by omega) (.slice (some ⟨gT, 0, none⟩) n cT))
  have HB2 := hide (HB.out.setCell (p := ⟨w.heap.size, 1, none⟩) (Nat.le_refl _) (.slice (some ⟨gT, 0, none⟩) n cT))
  have hs1 : gT < w1.heap.size := hgT1
  clear HX HY HO1 HB
  go_upto_region 2 with fail
  obtain ⟨w2, hw2⟩ : ∃ q : World, q = w1.setCell ⟨w.heap.size, 1, none⟩ (.slice (some ⟨gT, 0, none⟩) n cT) := ⟨_, rfl⟩
  rw [← hw2] at HX2 HY2 HO2 HB2 ⊢
  have hs2 : gT < w2.heap.size := by rw [hw2]; simpa using hs1
  clear hw2 x0 x1 x2 f0 f1 f2 hlx hs1 hgT1
  obtain ⟨x0, x1, x2, f0, f1, f2, hlx⟩ := HX2.out.r3
  go_wp2_with fail
  refine (HCS.out _ (HJ.out.below HB2.out)).mono ?_
  rintro e w3 ⟨v3, rfl, ho3, hb3⟩
  obtain ⟨gS, cS, rfl, hgS, hgS1⟩ := ho3.row hm0
  have hTS : gT < gS := Nat.lt_of_lt_of_le hs2 hgS
  have HO3 := hide (ownS_weak ho3 (base' := w.heap.size) HB2.out.size)
  replace HX2 := hide (HX2.out.below hb3)
  replace HY2 := hide (HY2.out.below hb3)
  replace HO2 := hide (HO2.out.below hb3)
  replace HB2 := hide (HB2.out.trans (hb3.mono HB2.out.size))
  clear hb3 ho3 x0 x1 x2 f0 f1 f2 hlx hs2
  obtain ⟨x0, x1, x2, f0, f1, f2, hlx⟩ := HX2.out.r3
  have u := Value.slice (some ⟨gS, 0, none⟩) m cS
  have HX4 := hide (HX2.out.r3put2 (.slice (some ⟨gS, 0, none⟩) m cS))
  have HY4 := hide (HY2.out.other (p := ⟨w.heap.size, 2, none⟩) (by show w.heap.size + 1 ≠ w.heap.size; omega) (.slice (some ⟨gS, 0, none⟩) m cS))
  have HO4 := hide (ownS_other (b := w.heap.size) (o := 2) HO2.out (by omega) (.slice (some ⟨gS, 0, none⟩) m cS))
  have HO5 := hide (ownS_other (b := w.heap.size) (o := 2) HO3.out (by omega) (.slice (some ⟨gS, 0, none⟩) m cS))
  have HB4 := hide (HB2.out.setCell (p := ⟨w.heap.size, 2, none⟩) (Nat.le_refl _) (.slice (some ⟨gS, 0, none⟩) m cS))
  clear HX2 HY2 HO2 HO3 HB2 u
  go_upto_region 3 with fail
  obtain ⟨w4, hw4⟩ : ∃ q : World, q = w3.setCell ⟨w.heap.size, 2, none⟩ (.slice (some ⟨gS, 0, none⟩) m cS) := ⟨_, rfl⟩
  rw [← hw4] at HX4 HY4 HO4 HO5 HB4 ⊢
  clear hw4 x0 x1 x2 f0 f1 f2 hlx hgS1
  obtain ⟨x0, x1, x2, f0, f1, f2, hlx⟩ := HX4.out.r3
  obtain ⟨y0, y1, y2, k0, k1, k2, hly⟩ := HY4.out.r3
  have HY5 := hide (HY4.out.r3putAll (.int .i64 L) (.slice (some ⟨gT, 0, none⟩) n cT) (.slice (some ⟨gS, 0, none⟩) m cS))
  have HO6 := hide (ownS_other (b := w.heap.size + 1) (o := 2) (ownS_other (b := w.heap.size + 1) (o := 1) (ownS_other (b := w.heap.size + 1) (o := 0) HO4.out (by omega) (.int .i64 L)) (by omega) (.slice (some ⟨gT, 0, none⟩) n cT)) (by omega) (.slice (some ⟨gS, 0, none⟩) m cS))
  have HO7 := hide (ownS_other (b := w.heap.size + 1) (o := 2) (ownS_other (b := w.heap.size + 1) (o := 1) (ownS_other (b := w.heap.size + 1) (o := 0) HO5.out (by omega) (.int .i64 L)) (by omega) (.slice (some ⟨gT, 0, none⟩) n cT)) (by omega) (.slice (some ⟨gS, 0, none⟩) m cS))
  have HB5 := hide (((HB4.out.setCell (p := ⟨w.heap.size + 1, 0, none⟩) (Nat.le_succ _) (.int .i64 L)).setCell (p := ⟨w.heap.size + 1, 1, none⟩) (Nat.le_succ _) (.slice (some ⟨gT, 0, none⟩) n cT)).setCell (p := ⟨w.heap.size + 1, 2, none⟩) (Nat.le_succ _) (.slice (some ⟨gS, 0, none⟩) m cS))
  clear HX4 HY4 HO4 HO5 HB4
  go_wp2_with fail
  clear x0 x1 x2 y0 y1 y2
  obtain ⟨y0, y1, y2, -⟩ := HY5.out.r3
  refine bodyPost_ret (v := .agg #[.int .i64 L, .slice (some ⟨gT, 0, none⟩) n cT, .slice (some ⟨gS, 0, none⟩) m cS]) ?_ rfl ⟨gT, cT, gS, cS, rfl, by omega, hTS, HO6.out, HO7.out, HB5.out⟩
  simp [results, Try.results89, go_sem, y0, y1, y2]
end Go.Proofs.Ytceohaeebdhmjaa
/- A step of a register of the code. -/
namespace Go.Proofs.Ytceohaeebdhmjaa
open Go.RowKit Go.Lib
/-- The k numbers behind place i. -/
def shL (S : Nat → Int) (i : Nat) : Nat → List Int
  | 0 => []
  | k + 1 => S (i + 1) :: shL S (i + 1) k
theorem shL_len (S : Nat → Int) : ∀ (k i : Nat), (shL S i k).length = k
  | 0, _ => rfl
  | k + 1, i => by show (shL S (i + 1) k).length + 1 = k + 1; rw [shL_len S k (i + 1)]
theorem shL_get (S : Nat → Int) : ∀ (k i j : Nat), (shL S i k)[j]? = if j < k then some (S (i + j + 1)) else none
  | 0, _, _ => by simp [shL]
  | k + 1, i, 0 => by simp [shL]
  | k + 1, i, j + 1 => by
    show (shL S (i + 1) k)[j]? = _
    rw [shL_get S k (i + 1) j]
    by_cases h : j < k
    · rw [if_pos h, if_pos (by omega), show i + 1 + j + 1 = i + (j + 1) + 1 by omega]
    · rw [if_neg h, if_neg (by omega)]
def putL (F : Nat → Int) (i : Nat) : List Int → Nat → Int
  | [] => F
  | x :: r => putL (setF F i x) (i + 1) r
theorem putL_sh (S : Nat → Int) : ∀ (k i : Nat) (F : Nat → Int) (j : Nat), putL F i (shL S i k) j = if i ≤ j ∧ j < i + k then S (j + 1) else F j
  | 0, i, F, j => by rw [if_neg (by omega)]; rfl
  | k + 1, i, F, j => by
    show putL (setF F i (S (i + 1))) (i + 1) (shL S (i + 1) k) j = _
    rw [putL_sh S k (i + 1) _ j]
    by_cases e : j = i
    · subst e
      rw [if_neg (by omega), if_pos (by omega)]
      unfold setF
      rw [if_pos rfl]
    · by_cases h : i + 1 ≤ j ∧ j < i + 1 + k
      · rw [if_pos h, if_pos (by omega)]
      · rw [if_neg h, if_neg (by omega)]
        unfold setF
        rw [if_neg e]
theorem setCells_own {base n g c : Nat} : ∀ (xs : List Int) (i : Nat) (F : Nat → Int) (w : World), OwnInts w base (.slice (some ⟨g, 0, none⟩) n c) n F → OwnInts (w.setCells g i (xs.map (Value.int .i64))) base (.slice (some ⟨g, 0, none⟩) n c) n (putL F i xs)
  | [], _, _, _, h => h
  | x :: r, i, F, w, h => setCells_own r (i + 1) (setF F i x) _ (h.set_ i x)
theorem setCells_grown {g : Nat} : ∀ (vs : List Value) (i : Nat) (w W : World), w.grownBy W (some g) → w.grownBy (W.setCells g i vs) (some g)
  | [], _, _, _, h => h
  | v :: r, i, w, W, h => setCells_grown r (i + 1) w _ (h.trans ⟨rfl, rfl, rfl, by simp, fun j _ hj => heap_setCell_other W ⟨g, i, none⟩ j v (fun e => hj (by simp [e]))⟩)
theorem grown_below {w w1 w2 : World} {row : Option Nat} (h : w.grownBy w1 row) (hb : Below w1.heap.size w1 w2) : w.grownBy w2 row :=
  h.trans ⟨hb.os, hb.tape, hb.output, hb.size, fun j hj _ => hb.block j hj⟩
theorem setCells_box {b g : Nat} {t : TypeId} {cs : Array Value} (hn : b ≠ g) : ∀ (vs : List Value) (i : Nat) (w : World), Box w b t cs → Box (w.setCells g i vs) b t cs
  | [], _, _, h => h
  | v :: r, i, w, h => setCells_box hn r (i + 1) _ (h.other (p := ⟨g, i, none⟩) hn v)
theorem setCells_below {B g : Nat} (hg : B ≤ g) : ∀ (vs : List Value) (i : Nat) (w W : World), Below B w W → Below B w (W.setCells g i vs)
  | [], _, _, _, h => h
  | v :: r, i, w, W, h => setCells_below hg r (i + 1) w _ (h.setCell hg v)
theorem shL_next {n m : Nat} {T S : Nat → Int} (j : Nat) (hj : j < m + 1) : setF (putL S 0 (shL S 0 m)) m (regSum S T n % 2) j = nextS (m + 1) n T S j := by
  unfold setF nextS
  by_cases e : j = m
  · rw [if_pos e, if_neg (by omega)]
  · rw [if_neg e, if_pos (by omega), putL_sh, if_pos (by omega)]
set_option maxHeartbeats 8000000 in
set_option maxRecDepth 100000 in
theorem step_any (A : Option Addr) (g n c m cS B : Nat) (T S : Nat → Int) (w : World) (hok : RegOk (m + 1) n T S) (hT : IntsAt w 0 A n T) (hS : OwnInts w B (.slice (some ⟨g, 0, none⟩) (m + 1) cS) (m + 1) S) :
    Calls Try.prog 91 #[.agg #[.int .i64 ((m : Int) + 1), .slice A n c, .slice (some ⟨g, 0, none⟩) (m + 1) cS]] w fun e w' => e = .returned (.int .i64 (S 0)) ∧ OwnInts w' B (.slice (some ⟨g, 0, none⟩) (m + 1) cS) (m + 1) (nextS (m + 1) n T S) ∧ w.grownBy w' (some g) := by
  have hm9 := hok.most
  have hm2 := hok.two
  have hm1 : 1 ≤ m := by omega
  have hn10 : n ≤ m + 1 := hok.count
  have hcap := hS.cap_any
  have hcm : m + 1 ≤ cS := hcap.1
  have hc9 := hcap.2
  have HK := hide hok
  have HI := hide hT
  have HS := hide hS
  have hgw : g < w.heap.size := (hS.row (by omega)).elim fun g' h => h.elim fun c' h => by
    obtain ⟨e, -, h⟩ := h
    injection e with e1
    injection e1 with e1
    injection e1 with e1
    rw [e1]; exact h
  clear hcap hok hT hS
  have q1 : IntKind.i64.wrap ((m : Int) + 1 - 1) = (m : Int) := by rw [IntWalk.i64_in _ (by omega)]; omega
  go_enter Try.func91, Try.ntmps91
  go_upto_region 1 with fail
  obtain ⟨W, hW⟩ : ∃ q : World, q = w.alloc (.cells #[.int .i64 ((m : Int) + 1), .slice A n c, .slice (some ⟨g, 0, none⟩) (m + 1) cS] 81) := ⟨_, rfl⟩
  try rw [← hW]
  have HX := hide (show Box W w.heap.size 81 #[.int .i64 ((m : Int) + 1), .slice A n c, .slice (some ⟨g, 0, none⟩) (m + 1) cS] by rw [hW]; exact Box.made rfl)
  have HO := hide (show OwnInts W B (.slice (some ⟨g, 0, none⟩) (m + 1) cS) (m + 1) S by rw [hW]; exact HS.out.alloc _)
  have HT := hide (show IntsAt W 0 A n T by rw [hW]; exact HI.out.alloc _)
  have HG := hide (show w.grownBy W (some g) by rw [hW]; exact World.grownBy_alloc w _ _)
  clear hW HS HI
  obtain ⟨x0, x1, x2, f0, f1, f2, hlx⟩ := HX.out.r3
  have c0 := HO.out.cellAt (k := 0) (by omega)
  have hnz : ((0 : Int) < (m : Int) + 1) := by omega
  go_wp2_with fail
  clear x0 x1 x2 f0 f1 f2 hlx c0 hnz
  go_loopw [4, 14] (fun s i wr => ∃ k : Nat, k ≤ n ∧ i = .int .i64 (k : Int) ∧ s = .int .i64 (regSum S T k % 2) ∧ W = wr) (fun _ i _ => n - (Go.RowKit.intOf i).toNat)
  case atStart => exact ⟨0, Nat.zero_le _, rfl, rfl, rfl⟩
  case round =>
    obtain ⟨k, hk, rfl, rfl, rfl⟩ := hrel
    by_cases hlt : k < n
    case pos =>
      have hltz : (k : Int) < (n : Int) := by omega
      obtain ⟨bl, ol, hbe, -, -, c0⟩ := HT.out k hlt
      subst hbe
      obtain ⟨t, ht⟩ : ∃ t : Nat, T k = (t : Int) := ⟨(T k).toNat, by have := (HK.out.taps k hlt).1; omega⟩
      have htl : t < m + 1 := by have := HK.out.low k hlt; rw [ht] at this; simpa using this
      rw [ht] at c0
      have htz : (t : Int) < (m : Int) + 1 := by omega
      have c1 := HO.out.cellAt (k := t) htl
      obtain ⟨b, hb⟩ : ∃ z, S t = z := ⟨_, rfl⟩
      rw [hb] at c1
      have hbit : IsBit b := by rw [← hb]; exact HK.out.bits t htl
      have qx : bits .xor .i64 (regSum S T k % 2) b = regSum S T (k + 1) % 2 := by rw [xor1_bits (mod_bit _) hbit]; exact regSum_step hbit (by rw [ht]; exact hb)
      obtain ⟨s0, hs0⟩ : ∃ z, regSum S T k % 2 = z := ⟨_, rfl⟩
      obtain ⟨s1, hs1⟩ : ∃ z, regSum S T (k + 1) % 2 = z := ⟨_, rfl⟩
      rw [hs0, hs1] at qx
      rw [hs0]
      have HS1 := hide hs1
      clear ht hb hbit hs0 hs1 HG HK
      obtain ⟨x0, x1, x2, f0, f1, f2, hlx⟩ := HX.out.r3
      go_wp2_with fail
      go_roundw
      case rel => exact ⟨k + 1, by omega, by go_num, by rw [HS1.out], trivial⟩
      case measure => simp [Go.RowKit.intOf]; omega
    obtain rfl : n = k := by omega
    clear hlt hk
    obtain ⟨s0, hs0⟩ : ∃ z, regSum S T n % 2 = z := ⟨_, rfl⟩
    rw [hs0]
    have HS0 := hide hs0
    clear hs0 HK HT
    have hltz : ¬ (n : Int) < (n : Int) := by omega
    have hle1 : (1 : Int) ≤ (m : Int) + 1 := by omega
    have hcne : ¬ cS = 1 := by omega
    have hle2 : (m : Int) + 1 ≤ (cS : Int) := by omega
    obtain ⟨x0, x1, x2, f0, f1, f2, hlx⟩ := HX.out.r3
    go_upto_region 7 with fail
    clear x0 x1 x2 f0 f1 f2 hlx
    refine wp_region_held_drew (S := fun w' => w'.cell? ⟨w.heap.size, 2, none⟩ = some (.slice (some ⟨g, 0, none⟩) (m + 1) cS)) (by kernel_rfl) (show (W.drew).cell? ⟨w.heap.size, 2, none⟩ = _ from HX.out.r3.2.2.1) (fun hHeld => ?_)
    obtain ⟨w_1, hw_1⟩ : ∃ q : World, q = W.drew := ⟨_, rfl⟩
    rw [← hw_1] at hHeld ⊢
    have hc_1 : Below W.heap.size W w_1 := by rw [hw_1]; exact (Below.refl _ _).drew
    clear hw_1
    replace HG := hide (grown_below HG.out hc_1)
    replace HX := hide (HX.out.below hc_1)
    replace HO := hide (HO.out.below hc_1)
    clear hc_1
    refine wpAnyH_take (i := 0) (oi := ⟨some 26, _, _, _, _, _⟩) (v := ?_) rfl (by kernel_rfl) (by kernel_rfl) (by kernel_rfl) (fun _ _ _ h => h) (Or.inl ⟨by rfl, ?_⟩) (by assumption) ?_
    rotate_left
    · (intro w' hSw; (try dsimp only at hSw); go_simp <;> (with_reducible rfl))
    try simp only [Act.put, List.setIfInBounds_toArray, List.set_cons_zero, List.set_cons_succ]
    refine wpAnyH_take (i := 1) (oi := ⟨some 27, _, _, _, _, _⟩) (v := ?_) rfl (by kernel_rfl) (by kernel_rfl) (by kernel_rfl) (fun _ _ _ h => h) (Or.inl ⟨by rfl, ?_⟩) (by assumption) ?_
    rotate_left
    · (intro w' hSw; (try dsimp only at hSw); go_simp <;> (with_reducible rfl))
    try simp only [Act.put, List.setIfInBounds_toArray, List.set_cons_zero, List.set_cons_succ]
    refine wpAnyH_take (i := 2) (oi := ⟨some 28, _, _, _, _, _⟩) (v := ?_) rfl (by kernel_rfl) (by kernel_rfl) (by kernel_rfl) (fun _ _ _ h => h) (Or.inl ⟨by rfl, ?_⟩) (by assumption) ?_
    rotate_left
    · (intro w' hSw; (try dsimp only at hSw); go_simp <;> (with_reducible rfl))
    try simp only [Act.put, List.setIfInBounds_toArray, List.set_cons_zero, List.set_cons_succ]
    refine wpAnyH_take (i := 3) (oi := ⟨some 29, _, _, _, _, _⟩) (v := ?_) rfl (by kernel_rfl) (by kernel_rfl) (by kernel_rfl) (fun _ _ _ h => h) (Or.inl ⟨by rfl, ?_⟩) (by assumption) ?_
    rotate_left
    · (intro w' hSw; (try dsimp only at hSw); go_simp <;> (with_reducible rfl))
    try simp only [Act.put, List.setIfInBounds_toArray, List.set_cons_zero, List.set_cons_succ]
    refine wpAnyH_take (i := 4) (oi := ⟨some 30, _, _, _, _, _⟩) (v := ?_) rfl (by kernel_rfl) (by kernel_rfl) (by kernel_rfl) (fun _ _ _ h => h) (Or.inl ⟨by rfl, ?_⟩) (by assumption) ?_
    rotate_left
    · (intro w' hSw; (try dsimp only at hSw); go_simp <;> (with_reducible rfl))
    try simp only [Act.put, List.setIfInBounds_toArray, List.set_cons_zero, List.set_cons_succ]
    refine wpAnyH_ready (rs := [5]) (by kernel_rfl) (by simp) ?_
    refine AllReadyH.cons (o := ⟨some 31, _, _, _, _, _⟩) rfl (fun K' hK => ?_) AllReadyH.nil
    have hcp := run_copy_cells (P := Try.prog) w_1 59 59 3 3 g 0 (m + 1) cS ⟨g, 1, none⟩ m (cS - 1) ((shL S 0 m).map (Value.int .i64)) Try.underlying59 (by kernel_rfl) (by rw [List.length_map, shL_len]; exact (Nat.min_eq_left (Nat.le_succ m)).symm)
      (fun j v hv => by
        rw [List.getElem?_map, shL_get] at hv
        by_cases hj : j < m
        · rw [if_pos hj] at hv
          simp only [Option.map_some, Option.some.injEq] at hv
          subst hv
          have := HO.out.cellAt (k := j + 1) (by omega)
          rw [show 0 + j + 1 = j + 1 by omega]
          rw [show (⟨g, 1, none⟩ : Addr).add j = ⟨g, j + 1, none⟩ by simp [Addr.add, Nat.add_comm]]; exact this
        · rw [if_neg hj] at hv; cases hv)
      (fun j hj => by rw [List.length_map, shL_len] at hj; rw [Nat.zero_add, HO.out.cellAt (k := j) (by omega)]; rfl)
      (fun j _ => HO.out.frozen _)
      (fun v hv => by obtain ⟨x, -, rfl⟩ := List.mem_map.1 hv; rfl)
    go_simp
    clear hcp
    replace HO := hide (setCells_own (shL S 0 m) 0 S _ HO.out)
    replace HG := hide (setCells_grown ((shL S 0 m).map (Value.int .i64)) 0 _ _ HG.out)
    replace HX := hide (show Box (w_1.setCells g 0 ((shL S 0 m).map (Value.int .i64))) w.heap.size 81 #[.int .i64 ((m : Int) + 1), .slice A n c, .slice (some ⟨g, 0, none⟩) (m + 1) cS] from setCells_box (by omega) _ 0 _ HX.out)
    obtain ⟨w_2, hw_2⟩ : ∃ q : World, w_1.setCells g 0 ((shL S 0 m).map (Value.int .i64)) = q := ⟨_, rfl⟩
    rw [hw_2] at HO HG HX ⊢
    clear hw_2
    refine hK.out _ _ HX.out.r3.2.2.1 (fun hHeld => ?_)
    clear hK K'
    try simp only [Act.put, List.setIfInBounds_toArray, List.set_cons_zero, List.set_cons_succ]
    refine wpAnyH_done (by kernel_rfl) ?_ _
    clear hHeld
    obtain ⟨S2, hS2⟩ : ∃ z, putL S 0 (shL S 0 m) = z := ⟨_, rfl⟩
    rw [hS2] at HO
    have c0 := HO.out.cellAt (k := m) (by omega)
    have k0 := HO.out.frozen m
    have hmz : (m : Int) < (m : Int) + 1 := by omega
    obtain ⟨x0, x1, x2, f0, f1, f2, hlx⟩ := HX.out.r3
    have HO2 := hide (HO.out.set_ m s0)
    have HG2 := hide (setCells_grown [.int .i64 s0] m _ _ HG.out)
    clear HO HG
    go_wp2_with fail
    go_ret
    refine ⟨rfl, HO2.out.congr fun j hj => ?_, HG2.out⟩
    rw [← hS2, ← HS0.out]
    exact shL_next j hj
end Go.Proofs.Ytceohaeebdhmjaa
/- A step of a held region: what a call made, behind N facts and Below. -/
namespace Go.Proofs.Ytceohaeebdhmjaa
open Go.RowKit
theorem bst0 {B : Nat} {w1 W w2 : World} (hb : Below W.heap.size W w2) (h : Below B w1 W) (hB : B ≤ w1.heap.size) : Below B w1 w2 := h.trans (hb.mono (Nat.le_trans hB h.size))
theorem bst1 {B : Nat} {w1 W w2 : World} {p0 : Prop} (hb : Below W.heap.size W w2) (h : p0 ∧ Below B w1 W) (hB : B ≤ w1.heap.size) : Below B w1 w2 := h.2.trans (hb.mono (Nat.le_trans hB h.2.size))
theorem bst2 {B : Nat} {w1 W w2 : World} {p0 p1 : Prop} (hb : Below W.heap.size W w2) (h : p0 ∧ p1 ∧ Below B w1 W) (hB : B ≤ w1.heap.size) : Below B w1 w2 := h.2.2.trans (hb.mono (Nat.le_trans hB h.2.2.size))
theorem bst3 {B : Nat} {w1 W w2 : World} {p0 p1 p2 : Prop} (hb : Below W.heap.size W w2) (h : p0 ∧ p1 ∧ p2 ∧ Below B w1 W) (hB : B ≤ w1.heap.size) : Below B w1 w2 := h.2.2.2.trans (hb.mono (Nat.le_trans hB h.2.2.2.size))
theorem bst4 {B : Nat} {w1 W w2 : World} {p0 p1 p2 p3 : Prop} (hb : Below W.heap.size W w2) (h : p0 ∧ p1 ∧ p2 ∧ p3 ∧ Below B w1 W) (hB : B ≤ w1.heap.size) : Below B w1 w2 := h.2.2.2.2.trans (hb.mono (Nat.le_trans hB h.2.2.2.2.size))
theorem bst5 {B : Nat} {w1 W w2 : World} {p0 p1 p2 p3 p4 : Prop} (hb : Below W.heap.size W w2) (h : p0 ∧ p1 ∧ p2 ∧ p3 ∧ p4 ∧ Below B w1 W) (hB : B ≤ w1.heap.size) : Below B w1 w2 := h.2.2.2.2.2.trans (hb.mono (Nat.le_trans hB h.2.2.2.2.2.size))
theorem bst6 {B : Nat} {w1 W w2 : World} {p0 p1 p2 p3 p4 p5 : Prop} (hb : Below W.heap.size W w2) (h : p0 ∧ p1 ∧ p2 ∧ p3 ∧ p4 ∧ p5 ∧ Below B w1 W) (hB : B ≤ w1.heap.size) : Below B w1 w2 := h.2.2.2.2.2.2.trans (hb.mono (Nat.le_trans hB h.2.2.2.2.2.2.size))
theorem bst7 {B : Nat} {w1 W w2 : World} {p0 p1 p2 p3 p4 p5 p6 : Prop} (hb : Below W.heap.size W w2) (h : p0 ∧ p1 ∧ p2 ∧ p3 ∧ p4 ∧ p5 ∧ p6 ∧ Below B w1 W) (hB : B ≤ w1.heap.size) : Below B w1 w2 := h.2.2.2.2.2.2.2.trans (hb.mono (Nat.le_trans hB h.2.2.2.2.2.2.2.size))
theorem bst8 {B : Nat} {w1 W w2 : World} {p0 p1 p2 p3 p4 p5 p6 p7 : Prop} (hb : Below W.heap.size W w2) (h : p0 ∧ p1 ∧ p2 ∧ p3 ∧ p4 ∧ p5 ∧ p6 ∧ p7 ∧ Below B w1 W) (hB : B ≤ w1.heap.size) : Below B w1 w2 := h.2.2.2.2.2.2.2.2.trans (hb.mono (Nat.le_trans hB h.2.2.2.2.2.2.2.2.size))
theorem bst9 {B : Nat} {w1 W w2 : World} {p0 p1 p2 p3 p4 p5 p6 p7 p8 : Prop} (hb : Below W.heap.size W w2) (h : p0 ∧ p1 ∧ p2 ∧ p3 ∧ p4 ∧ p5 ∧ p6 ∧ p7 ∧ p8 ∧ Below B w1 W) (hB : B ≤ w1.heap.size) : Below B w1 w2 := h.2.2.2.2.2.2.2.2.2.trans (hb.mono (Nat.le_trans hB h.2.2.2.2.2.2.2.2.2.size))
theorem bst10 {B : Nat} {w1 W w2 : World} {p0 p1 p2 p3 p4 p5 p6 p7 p8 p9 : Prop} (hb : Below W.heap.size W w2) (h : p0 ∧ p1 ∧ p2 ∧ p3 ∧ p4 ∧ p5 ∧ p6 ∧ p7 ∧ p8 ∧ p9 ∧ Below B w1 W) (hB : B ≤ w1.heap.size) : Below B w1 w2 := h.2.2.2.2.2.2.2.2.2.2.trans (hb.mono (Nat.le_trans hB h.2.2.2.2.2.2.2.2.2.2.size))
theorem bst11 {B : Nat} {w1 W w2 : World} {p0 p1 p2 p3 p4 p5 p6 p7 p8 p9 p10 : Prop} (hb : Below W.heap.size W w2) (h : p0 ∧ p1 ∧ p2 ∧ p3 ∧ p4 ∧ p5 ∧ p6 ∧ p7 ∧ p8 ∧ p9 ∧ p10 ∧ Below B w1 W) (hB : B ≤ w1.heap.size) : Below B w1 w2 := h.2.2.2.2.2.2.2.2.2.2.2.trans (hb.mono (Nat.le_trans hB h.2.2.2.2.2.2.2.2.2.2.2.size))
theorem bst12 {B : Nat} {w1 W w2 : World} {p0 p1 p2 p3 p4 p5 p6 p7 p8 p9 p10 p11 : Prop} (hb : Below W.heap.size W w2) (h : p0 ∧ p1 ∧ p2 ∧ p3 ∧ p4 ∧ p5 ∧ p6 ∧ p7 ∧ p8 ∧ p9 ∧ p10 ∧ p11 ∧ Below B w1 W) (hB : B ≤ w1.heap.size) : Below B w1 w2 := h.2.2.2.2.2.2.2.2.2.2.2.2.trans (hb.mono (Nat.le_trans hB h.2.2.2.2.2.2.2.2.2.2.2.2.size))
theorem bst13 {B : Nat} {w1 W w2 : World} {p0 p1 p2 p3 p4 p5 p6 p7 p8 p9 p10 p11 p12 : Prop} (hb : Below W.heap.size W w2) (h : p0 ∧ p1 ∧ p2 ∧ p3 ∧ p4 ∧ p5 ∧ p6 ∧ p7 ∧ p8 ∧ p9 ∧ p10 ∧ p11 ∧ p12 ∧ Below B w1 W) (hB : B ≤ w1.heap.size) : Below B w1 w2 := h.2.2.2.2.2.2.2.2.2.2.2.2.2.trans (hb.mono (Nat.le_trans hB h.2.2.2.2.2.2.2.2.2.2.2.2.2.size))
theorem bst14 {B : Nat} {w1 W w2 : World} {p0 p1 p2 p3 p4 p5 p6 p7 p8 p9 p10 p11 p12 p13 : Prop} (hb : Below W.heap.size W w2) (h : p0 ∧ p1 ∧ p2 ∧ p3 ∧ p4 ∧ p5 ∧ p6 ∧ p7 ∧ p8 ∧ p9 ∧ p10 ∧ p11 ∧ p12 ∧ p13 ∧ Below B w1 W) (hB : B ≤ w1.heap.size) : Below B w1 w2 := h.2.2.2.2.2.2.2.2.2.2.2.2.2.2.trans (hb.mono (Nat.le_trans hB h.2.2.2.2.2.2.2.2.2.2.2.2.2.2.size))
theorem bst15 {B : Nat} {w1 W w2 : World} {p0 p1 p2 p3 p4 p5 p6 p7 p8 p9 p10 p11 p12 p13 p14 : Prop} (hb : Below W.heap.size W w2) (h : p0 ∧ p1 ∧ p2 ∧ p3 ∧ p4 ∧ p5 ∧ p6 ∧ p7 ∧ p8 ∧ p9 ∧ p10 ∧ p11 ∧ p12 ∧ p13 ∧ p14 ∧ Below B w1 W) (hB : B ≤ w1.heap.size) : Below B w1 w2 := h.2.2.2.2.2.2.2.2.2.2.2.2.2.2.2.trans (hb.mono (Nat.le_trans hB h.2.2.2.2.2.2.2.2.2.2.2.2.2.2.2.size))
theorem bst16 {B : Nat} {w1 W w2 : World} {p0 p1 p2 p3 p4 p5 p6 p7 p8 p9 p10 p11 p12 p13 p14 p15 : Prop} (hb : Below W.heap.size W w2) (h : p0 ∧ p1 ∧ p2 ∧ p3 ∧ p4 ∧ p5 ∧ p6 ∧ p7 ∧ p8 ∧ p9 ∧ p10 ∧ p11 ∧ p12 ∧ p13 ∧ p14 ∧ p15 ∧ Below B w1 W) (hB : B ≤ w1.heap.size) : Below B w1 w2 := h.2.2.2.2.2.2.2.2.2.2.2.2.2.2.2.2.trans (hb.mono (Nat.le_trans hB h.2.2.2.2.2.2.2.2.2.2.2.2.2.2.2.2.size))
theorem ballocH {B : Nat} {w1 W : World} (h : Below B w1 W) (hB : B ≤ w1.heap.size) (o : Obj) : Below B w1 (W.alloc o) := h.alloc (Nat.le_trans hB h.size) o
theorem quiet_ex {P : Program} {f : FuncId} {args : Array Value} {w : World} {n : Nat} {v : Value}
    (h : Calls P f args (w.drewN n) fun e w' => e = .returned v ∧ ∃ q, w' = (w.drewN n).drewN q) :
    Calls P f args (w.drewN n) fun e w'' => e = .returned v ∧ ∃ m, w'' = w.drewN m :=
  h.mono fun _ _ ⟨he, q, hq⟩ => ⟨he, n + q, by rw [hq, World.drewN_drewN]⟩
end Go.Proofs.Ytceohaeebdhmjaa
/- A register of a call's own that steps are done on; sequence of the code. -/
namespace Go.Proofs.Ytceohaeebdhmjaa
open Go.RowKit Go.Lib
theorem box_grown {w w' : World} {b : Nat} {t : TypeId} {cs : Array Value} {row : Nat} (h : Box w b t cs) (hg : w.grownBy w' (some row)) (hn : b ≠ row) : Box w' b t cs :=
  (hg.block b h.lt (fun e => hn (by injection e))).trans h
theorem ownS_grown {w w' : World} {base n g c row : Nat} {F : Nat → Int} (h : OwnInts w base (.slice (some ⟨g, 0, none⟩) n c) n F) (hg : w.grownBy w' (some row)) (hn : g ≠ row) : OwnInts w' base (.slice (some ⟨g, 0, none⟩) n c) n F :=
  World.ownsRow.kept h hg (.inr (by intro e; injection e with e; exact hn e))
theorem grown_to_below {w0 w w' : World} {B g : Nat} (h : Below B w0 w) (hg : w.grownBy w' (some g)) (hB : B ≤ g) (hs : B ≤ w.heap.size) : Below B w0 w' :=
  h.trans ⟨hg.os, hg.tape, hg.output, hg.size, fun k hk => hg.block k (by omega) (by intro e; injection e with e; omega)⟩
/-- A register of a call's own: its box, its taps and its state, each in a block of its own. -/
structure Behind (w : World) (B gb gT gS cT cS n m : Nat) (T S : Nat → Int) : Prop where
  box : Box w gb 81 #[.int .i64 ((m : Int) + 1), .slice (some ⟨gT, 0, none⟩) n cT, .slice (some ⟨gS, 0, none⟩) (m + 1) cS]
  taps : OwnInts w B (.slice (some ⟨gT, 0, none⟩) n cT) n T
  state : OwnInts w B (.slice (some ⟨gS, 0, none⟩) (m + 1) cS) (m + 1) S
  low : B ≤ gT
  ts : gT < gS
  sb : gS < gb
theorem Behind.below {w w' : World} {B gb gT gS cT cS n m : Nat} {T S : Nat → Int} (h : Behind w B gb gT gS cT cS n m T S) (hb : Below w.heap.size w w') : Behind w' B gb gT gS cT cS n m T S :=
  ⟨h.box.below hb, h.taps.below hb, h.state.below hb, h.low, h.ts, h.sb⟩
theorem Behind.step {w w' : World} {B gb gT gS cT cS n m : Nat} {T S S' : Nat → Int} (h : Behind w B gb gT gS cT cS n m T S) (hg : w.grownBy w' (some gS)) (ho : OwnInts w' B (.slice (some ⟨gS, 0, none⟩) (m + 1) cS) (m + 1) S') : Behind w' B gb gT gS cT cS n m T S' :=
  ⟨box_grown h.box hg (by have := h.sb; omega), ownS_grown h.taps hg (by have := h.ts; omega), ho, h.low, h.ts, h.sb⟩
theorem Behind.other {w : World} {B gb gT gS cT cS n m b o : Nat} {T S : Nat → Int} (h : Behind w B gb gT gS cT cS n m T S) (hb : gb < b) (u : Value) : Behind (w.setCell ⟨b, o, none⟩ u) B gb gT gS cT cS n m T S :=
  ⟨h.box.other (p := ⟨b, o, none⟩) (by show gb ≠ b; omega) u, ownS_other h.taps (by have := h.ts; have := h.sb; omega) u, ownS_other h.state (by have := h.sb; omega) u, h.low, h.ts, h.sb⟩
theorem Behind.next {w : World} {B gb gT gS cT cS n m k : Nat} {T S : Nat → Int} (hok : RegOk (m + 1) n T S) (h : Behind w B gb gT gS cT cS n m T (itS (m + 1) n T S k)) :
    Calls Try.prog 91 #[.agg #[.int .i64 ((m : Int) + 1), .slice (some ⟨gT, 0, none⟩) n cT, .slice (some ⟨gS, 0, none⟩) (m + 1) cS]] w fun e w' => e = .returned (.int .i64 (itS (m + 1) n T S k 0)) ∧ Behind w' B gb gT gS cT cS n m T (itS (m + 1) n T S (k + 1)) ∧ w.grownBy w' (some gS) :=
  (step_any (some ⟨gT, 0, none⟩) gS n cT m cS B T (itS (m + 1) n T S k) w (hok.it k) ((h.taps.form.elim fun A hA => hA.elim fun c hA => by
    obtain ⟨e, -, hI⟩ := hA
    injection e with e1
    subst e1
    exact hI.weak (Nat.zero_le _))) h.state).mono fun e w' ⟨h1, h2, h3⟩ => ⟨h1, h.step h3 h2, h3⟩
end Go.Proofs.Ytceohaeebdhmjaa
/- sequence, CheckRegister and Sequence of the code. -/
namespace Go.Proofs.Ytceohaeebdhmjaa
open Go.RowKit Go.Lib
theorem ownS_zeros (w : World) (base g f : Nat) (hb : base ≤ w.heap.size) (hg : g = w.heap.size) (hf : f ≤ maxLen) : OwnInts (w.alloc (.cells (madeCells #[.int .i64 0] f) 3)) base (.slice (some ⟨g, 0, none⟩) f f) f (fun _ => 0) :=
  hg ▸ ⟨by rw [intCells_len, Nat.mul_one], .inr ⟨w.heap.size, f, _, rfl, hb, heap_alloc_new w _, Nat.le_refl _, hf, by simp [madeCells], by
    apply List.ext_getElem?
    intro j
    rw [List.getElem?_take, intCells_get, Nat.mul_one, Array.getElem?_toList]
    by_cases hj : j < f
    · rw [if_pos hj]; simp [madeCells, hj, Nat.mod_one]
    · rw [if_neg hj]; simp [madeCells, hj]⟩⟩
/-- What the first k steps give out. -/
def outS (L n : Nat) (T S : Nat → Int) (k j : Nat) : Int := if j < k then itS L n T S j 0 else 0
theorem outS_set (L n : Nat) (T S : Nat → Int) (k : Nat) : setF (outS L n T S k) k (itS L n T S k 0) = outS L n T S (k + 1) := by
  funext j
  unfold setF outS
  by_cases e : j = k
  · subst e; rw [if_pos rfl, if_pos (by omega)]
  · rw [if_neg e]
    by_cases h : j < k
    · rw [if_pos h, if_pos (by omega)]
    · rw [if_neg h, if_neg (by omega)]
set_option maxHeartbeats 8000000 in
set_option maxRecDepth 100000 in
theorem sequence_any (b o n c b2 o2 m d q : Nat) (T S : Nat → Int) (w : World) (hok : RegOk (m + 1) n T S) (hq : q ≤ 400) (hT : IntsAt w 0 (some ⟨b, o, none⟩) n T) (hS : IntsAt w 0 (some ⟨b2, o2, none⟩) (m + 1) S) :
    Calls Try.prog 88 #[.agg #[.int .i64 ((m : Int) + 1), .slice (some ⟨b, o, none⟩) n c, .slice (some ⟨b2, o2, none⟩) (m + 1) d], .int .i64 (q : Int)] w fun e w' => ∃ g, e = .returned (.slice (some ⟨g, 0, none⟩) q q) ∧
      OwnInts w' w.heap.size (.slice (some ⟨g, 0, none⟩) q q) q (fun j => itS (m + 1) n T S j 0) ∧ Below w.heap.size w w' := by
  have hn10 := hok.count
  have hm9 := hok.most
  have HI := hide hT
  have HJ := hide hS
  have HCO := hide (fun W (h : IntsAt W 0 (some ⟨b, o, none⟩) n T) (k : IntsAt W 0 (some ⟨b2, o2, none⟩) (m + 1) S) => copyOf_any ((m : Int) + 1) b o n c b2 o2 (m + 1) d T S W hok.some_ (by omega) (by omega) (by omega) h k)
  have HNX := hide (fun (gb gT gS cT cS k : Nat) W (h : Behind W w.heap.size gb gT gS cT cS n m T (itS (m + 1) n T S k)) => Behind.next hok h)
  have HOS := hide (outS_set (m + 1) n T S)
  have HOE := hide (show ∀ j, j < q → outS (m + 1) n T S q j = itS (m + 1) n T S j 0 from fun j hj => if_pos hj)
  have HOZ := hide (show outS (m + 1) n T S 0 = fun _ => 0 from by funext j; exact if_neg (by omega))
  obtain ⟨U, hU⟩ : ∃ z, outS (m + 1) n T S = z := ⟨_, rfl⟩
  obtain ⟨I, hI⟩ : ∃ z, itS (m + 1) n T S = z := ⟨_, rfl⟩
  have HI0 := hide (show I 0 = S by rw [← hI]; rfl)
  simp only [hU, hI] at HNX HOS HOE HOZ
  rw [hI]
  obtain ⟨i0, hi, hz0, hz1, hz2⟩ := info_parts intInfo
  have hmk := fun W => run_make_row (P := Try.prog) 59 3 i0 (.int .i64 0) Try.underlying59 hi hz0 hz1 rfl .i64 .i64 q (by rw [hz2]; omega) (by omega) W
  clear hT hS hi hz0 hz1 hz2 hU hI hok
  go_enter Try.func88, Try.ntmps88
  go_upto_region 1 with fail
  obtain ⟨W, hW⟩ : ∃ q : World, q = w.alloc (.cells #[.int .i64 ((m : Int) + 1), .slice (some ⟨b, o, none⟩) n c, .slice (some ⟨b2, o2, none⟩) (m + 1) d] 81) := ⟨_, rfl⟩
  try rw [← hW]
  have HX := hide (show Box W w.heap.size 81 #[.int .i64 ((m : Int) + 1), .slice (some ⟨b, o, none⟩) n c, .slice (some ⟨b2, o2, none⟩) (m + 1) d] by rw [hW]; exact Box.made rfl)
  have HB := hide (show Below w.heap.size w W by rw [hW]; (repeat (first | (with_reducible exact Below.refl _ _) | (with_reducible refine Go.below_drewN ?_ _) | (with_reducible refine Below.drew ?_) | (with_reducible refine Below.alloc ?_ (by first | exact Nat.le_refl _ | (simp; done) | (simp; omega) | omega) _) | (with_reducible refine Below.setCell ?_ (by first | exact Nat.le_refl _ | (simp; done) | (simp; omega) | omega) _))))
  clear hW
  obtain ⟨x0, x1, x2, f0, f1, f2, hlx⟩ := HX.out.r3
  go_wp2_with fail
  clear x0 x1 x2 f0 f1 f2 hlx
  refine (HCO.out _ (HI.out.below HB.out) (HJ.out.below HB.out)).mono ?_
  rintro e w1 ⟨gT, cT, gS, cS, rfl, h1, h2, ho1, ho2, hb1⟩
  have hB0 := HB.out.size
  have hgS : gS < w1.heap.size := (ho2.row (by omega)).elim fun g' h => h.elim fun c' h => by
    obtain ⟨e, -, h⟩ := h
    injection e with e1
    injection e1 with e1
    injection e1 with e1
    rw [e1]; exact h
  replace HB := hide (HB.out.trans (hb1.mono HB.out.size))
  clear hb1 HX HI HJ HCO
  go_upto_region 2 with fail
  obtain ⟨g5, hg5⟩ : ∃ z, w1.heap.size = z := ⟨_, rfl⟩
  obtain ⟨w2, hw2⟩ : ∃ q : World, q = w1.alloc (.cells #[.int .i64 ((m : Int) + 1), .slice (some ⟨gT, 0, none⟩) n cT, .slice (some ⟨gS, 0, none⟩) (m + 1) cS] 81) := ⟨_, rfl⟩
  try rw [← hw2]
  have HR := hide (show Behind w2 w.heap.size g5 gT gS cT cS n m T (I 0) by rw [hw2, HI0.out]; exact ⟨Box.made hg5.symm, ownS_weak (ho1.alloc _) hB0, ownS_weak (ho2.alloc _) hB0, by omega, h2, by omega⟩)
  replace HB := hide (show Below w.heap.size w w2 by rw [hw2]; exact HB.out.alloc HB.out.size _)
  have hs2 : g5 < w2.heap.size := HR.out.box.lt
  clear hw2 ho1 ho2 h1 hB0
  try simp only [hg5]
  go_wp2_with fail
  clear hmk
  obtain ⟨gL, hgL⟩ : ∃ z, w2.heap.size = z := ⟨_, rfl⟩
  obtain ⟨w3, hw3⟩ : ∃ q' : World, q' = w2.alloc (.cells (madeCells #[.int .i64 0] q) 3) := ⟨_, rfl⟩
  try rw [← hw3]
  have HL := hide (show OwnInts w3 w.heap.size (.slice (some ⟨gL, 0, none⟩) q q) q (U 0) by rw [hw3, HOZ.out]; exact ownS_zeros w2 _ gL q HB.out.size hgL.symm (by unfold maxLen; omega))
  replace HR := hide (show Behind w3 w.heap.size g5 gT gS cT cS n m T (I 0) by rw [hw3]; exact HR.out.below ((Below.refl _ _).alloc (Nat.le_refl _) _))
  have hgB : w.heap.size ≤ gL := by rw [← hgL]; exact HB.out.size
  replace HB := hide (show Below w.heap.size w w3 by rw [hw3]; exact HB.out.alloc HB.out.size _)
  have h5L : g5 < gL := by omega
  clear hw3 HOZ HI0 hs2
  try simp only [hgL]
  clear hgL hg5
  go_loopw [14] (fun i wr => ∃ k : Nat, k ≤ q ∧ i = .int .i64 (k : Int) ∧ Hid (Behind wr w.heap.size g5 gT gS cT cS n m T (I k)) ∧ Hid (OwnInts wr w.heap.size (.slice (some ⟨gL, 0, none⟩) q q) q (U k)) ∧ Hid (Below w.heap.size w wr)) (fun i _ => q - (Go.RowKit.intOf i).toNat)
  case atStart => exact ⟨0, Nat.zero_le _, rfl, HR, HL, HB⟩
  case round =>
    clear HR HL HB
    obtain ⟨k, hk, rfl, HR, HL, HB⟩ := hrel
    obtain ⟨wA, rfl⟩ : ∃ x : World, x = wr := ⟨_, rfl⟩
    by_cases hlt : k < q
    case neg =>
      obtain rfl : q = k := by omega
      have hltz : ¬ (q : Int) < (q : Int) := by omega
      clear HNX HOS
      go_wp2_with fail
      go_ret
      exact ⟨gL, rfl, HL.out.congr HOE.out, HB.out⟩
    have hltz : (k : Int) < (q : Int) := by omega
    obtain ⟨x0, x1, x2, f0, f1, f2, hlx⟩ := HR.out.box.r3
    go_wp2_with fail
    clear x0 x1 x2 f0 f1 f2 hlx
    have hTS := HR.out.ts
    have hlow := HR.out.low
    have hsb := HR.out.sb
    refine (HNX.out _ _ _ _ _ k _ HR.out).mono ?_
    rintro e w4 ⟨rfl, hr, hg⟩
    have HL4 := hide (ownS_grown HL.out hg (by omega))
    have HB4 := hide (grown_to_below HB.out hg (by omega) HB.out.size)
    obtain ⟨v, hv⟩ : ∃ z, I k 0 = z := ⟨_, rfl⟩
    rw [hv]
    have HL5 := hide (HL4.out.set_ k v)
    rw [← hv, HOS.out k, hv] at HL5
    have HR5 := hide (hr.other (b := gL) (o := k) h5L (.int .i64 v))
    have HB5 := hide (HB4.out.setCell (p := ⟨gL, k, none⟩) hgB (.int .i64 v))
    have c0 := HL4.out.cellAt hlt
    have k0 := HL4.out.frozen k
    clear HL HB HR HL4 HB4 hr hg hv HNX HOS HOE
    go_wp2_with fail
    go_roundw
    case rel => exact ⟨k + 1, by omega, by go_num, HR5, HL5, HB5⟩
    case measure => simp [Go.RowKit.intOf]; omega
end Go.Proofs.Ytceohaeebdhmjaa
