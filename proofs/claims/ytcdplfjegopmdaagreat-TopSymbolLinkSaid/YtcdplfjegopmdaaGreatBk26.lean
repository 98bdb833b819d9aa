/- Lemmas: S87, S88, MS89, MS94, MS97, MS99, MS60. -/
import Derived.Laws.MakeOwn
import Derived.Test.YtcdplfjegopmdaaGreatBk01
import Derived.Test.YtcdplfjegopmdaaGreatBk02
import Derived.Test.YtcdplfjegopmdaaGreatBk03
import Derived.Test.YtcdplfjegopmdaaGreatBk04
import Derived.Test.YtcdplfjegopmdaaGreatBk06
import Derived.Test.YtcdplfjegopmdaaGreatBk07
import Derived.Test.YtcdplfjegopmdaaGreatBk08
import Derived.Test.YtcdplfjegopmdaaGreatBk09
import Derived.Test.YtcdplfjegopmdaaGreatBk10
import Derived.Test.YtcdplfjegopmdaaGreatBk11
import Derived.Test.YtcdplfjegopmdaaGreatBk12
import Derived.Test.YtcdplfjegopmdaaGreatBk13
import Derived.Test.YtcdplfjegopmdaaGreatBk14
import Derived.Test.YtcdplfjegopmdaaGreatBk15
import Derived.Test.YtcdplfjegopmdaaGreatBk16
import Derived.Test.YtcdplfjegopmdaaGreatBk17
import Derived.Test.YtcdplfjegopmdaaGreatBk18
import Derived.Test.YtcdplfjegopmdaaGreatBk19
import Derived.Test.YtcdplfjegopmdaaGreatBk20
import Derived.Test.YtcdplfjegopmdaaGreatBk21
import Derived.Test.YtcdplfjegopmdaaGreatBk22
import Derived.Test.YtcdplfjegopmdaaGreatBk23
import Derived.Test.YtcdplfjegopmdaaGreatBk24
import Derived.Test.YtcdplfjegopmdaaGreatBk25
set_option linter.unusedVariables false
set_option linter.unusedSimpArgs false
/- The reference of received symbols: ReceivedErr, parts, square. -/
namespace Go.Proofs.YtcdplfjegopmdaaGreat
open Go Go.RowKit Go.Lib
set_option maxHeartbeats 4000000 in
set_option maxRecDepth 100000 in
theorem ReceivedErrR_any (k g : Int) (A : Option Addr) (n c : Nat) (F : Nat → Gau) (w : World) (hn : n ≤ 100000) (hI : GausAt w 0 A n F) :
    Calls Tryz.prog 31 #[.agg #[.int .i64 k, .int .i64 g, .slice A n c]] w fun e w' => e = .returned (.int .i64 (recvE k g n F)) ∧ Below w.heap.size w w' := by
  have HO := hide (fun W => OrderErr_any k W)
  have HW := hide (fun W => within_any g 1 10000000 W)
  have HS := hide (fun W h => SymbolsErrR_any A n c F W hn h)
  have HE := hide (show recvE k g n F = if ordE k = 0 then if withinB g 1 10000000 = true then symsE n F else 2 else ordE k from rfl)
  have HI := hide hI
  obtain ⟨E, hE⟩ : ∃ z, recvE k g n F = z := ⟨_, rfl⟩
  rw [hE] at HE ⊢
  obtain ⟨o, ho⟩ : ∃ z, ordE k = z := ⟨_, rfl⟩
  rw [ho] at HE
  simp only [ho] at HO
  obtain ⟨s, hs⟩ : ∃ z, symsE n F = z := ⟨_, rfl⟩
  rw [hs] at HE
  simp only [hs] at HS
  clear hE ho hs hI
  go_enter Tryz.func31, Tryz.ntmps31
  go_upto_region 1 with fail
  obtain ⟨w1, hw1⟩ : ∃ z : World, z = w.alloc (.cells #[.int .i64 k, .int .i64 g, .slice A n c] 66) := ⟨_, rfl⟩
  try rw [← hw1]
  have HX := hide (show Box w1 w.heap.size 66 #[.int .i64 k, .int .i64 g, .slice A n c] by rw [hw1]; exact Box.made rfl)
  have HB := hide (show Below w.heap.size w w1 by rw [hw1]; (repeat (first | (with_reducible exact Below.refl _ _) | (with_reducible refine Go.below_drewN ?_ _) | (with_reducible refine Below.drew ?_) | (with_reducible refine Below.alloc ?_ (by first | exact Nat.le_refl _ | (simp; done) | (simp; omega) | omega) _) | (with_reducible refine Below.setCell ?_ (by first | exact Nat.le_refl _ | (simp; done) | (simp; omega) | omega) _))))
  clear hw1
  obtain ⟨x0, x1, x2, hx⟩ := rec_cells HX.out
  go_wp2_with fail
  refine (HO.out _).mono ?_
  rintro e_ v_ ⟨rfl, rfl⟩
  clear HO
  by_cases hz : o = 0
  case neg =>
    obtain rfl : E = o := HE.out.trans (if_neg hz)
    have t1 : (E != 0) = true := by simpa using hz
    clear HE HS HW hz
    go_wp2_with fail
    go_ret
    exact ⟨rfl, HB.out⟩
  subst hz
  replace HE := hide (HE.out.trans (if_pos rfl))
  have t1 : ((0 : Int) != 0) = false := by decide
  by_cases hg : 1 ≤ g ∧ g ≤ 10000000
  case neg =>
    simp only [withinB_no hg] at HW HE
    obtain rfl : E = 2 := HE.out.trans (if_neg (by decide))
    clear HE HS hg
    go_wp2_with fail
    refine (HW.out _).mono ?_
    rintro e_ v_ ⟨rfl, rfl⟩
    go_wp2_with fail
    go_ret
    exact ⟨rfl, HB.out⟩
  simp only [withinB_yes hg] at HW HE
  obtain rfl : E = s := by have h9 := HE.out; simpa using h9
  clear HE hg
  go_wp2_with fail
  refine (HW.out _).mono ?_
  rintro e_ v_ ⟨rfl, rfl⟩
  go_wp2_with fail
  refine (HS.out _ (HI.out.below HB.out)).mono ?_
  rintro e_ w2 ⟨rfl, hb2⟩
  have HB2 := hide (HB.out.trans (hb2.mono HB.out.size))
  clear hb2 x0 x1 x2 hx
  go_wp2_with fail
  go_ret
  exact ⟨rfl, HB2.out⟩
end Go.Proofs.YtcdplfjegopmdaaGreat
/- CopyReceived of the reference, scaled of the code. -/
namespace Go.Proofs.YtcdplfjegopmdaaGreat
open Go Go.RowKit Go.Lib
theorem OwnGaus.blockLtR {w : World} {base n k : Nat} {v : Value} {F : Nat → Gau} (h : OwnGaus w base v n F) (hk : v.ownBlock = some k) : base ≤ k ∧ k < w.heap.size := World.ownsRow.lt h k hk
theorem Box.r3h {w : World} {b : Nat} {t : TypeId} {x y z : Value} (h : Box w b t #[x, y, z]) : w.cell? ⟨b, 0, none⟩ = some x ∧ w.cell? ⟨b, 1, none⟩ = some y ∧ w.cell? ⟨b, 2, none⟩ = some z ∧ w.frozen? ⟨b, 0, none⟩ = false ∧ w.frozen? ⟨b, 1, none⟩ = false ∧ w.frozen? ⟨b, 2, none⟩ = false ∧ b < w.heap.size := ⟨h.at_ 0, h.at_ 1, h.at_ 2, h.free 0, h.free 1, h.free 2, h.lt⟩
theorem Box.r3hput {w : World} {b : Nat} {t : TypeId} {x y z : Value} (h : Box w b t #[x, y, z]) (u0 u1 u2 : Value) : Box (((w.setCell ⟨b, 0, none⟩ u0).setCell ⟨b, 1, none⟩ u1).setCell ⟨b, 2, none⟩ u2) b t #[u0, u1, u2] := by
  have := ((h.set_ 0 u0).set_ 1 u1).set_ 2 u2
  simpa using this
set_option maxHeartbeats 4000000 in
set_option maxRecDepth 100000 in
theorem CopyReceived_any (k gn : Int) (A : Option Addr) (n c : Nat) (F : Nat → Gau) (w : World) (hn : n ≤ 100000) (hI : GausAt w 0 A n F) :
    Calls Tryz.prog 33 #[.agg #[.int .i64 k, .int .i64 gn, .slice A n c]] w fun e w' => ∃ C d, e = .returned (.agg #[.int .i64 k, .int .i64 gn, .slice C n d]) ∧ OwnGaus w' w.heap.size (.slice C n d) n F ∧ Below w.heap.size w w' := by
  have HI := hide hI
  have HC1 := hide (fun W (h : GausAt W 0 A n F) => copyGaus_own A n c F W (by omega) h)
  clear hI
  go_enter Tryz.func33, Tryz.ntmps33
  go_upto_region 1 with fail
  obtain ⟨w_1, hw_1⟩ : ∃ q : World, q = ((w.alloc (.cells #[.int .i64 k, .int .i64 gn, .slice A n c] 66)).alloc (.cells #[.int .i64 0, .int .i64 0, .slice none 0 0] 66)) := ⟨_, rfl⟩
  try rw [← hw_1]
  have HX0 := hide (show Box w_1 (w.heap.size) 66 #[.int .i64 k, .int .i64 gn, .slice A n c] by rw [hw_1]; exact (Box.made rfl).alloc _)
  have HX1 := hide (show Box w_1 (w.heap.size + 1) 66 #[.int .i64 0, .int .i64 0, .slice none 0 0] by rw [hw_1]; exact Box.made (by simp))
  have HB := hide (show Below w.heap.size w w_1 by rw [hw_1]; (repeat (first | (with_reducible exact Below.refl _ _) | (with_reducible refine Go.below_drewN ?_ _) | (with_reducible refine Below.drew ?_) | (with_reducible refine Below.alloc ?_ (by first | exact Nat.le_refl _ | (simp; done) | (simp; omega) | omega) _) | (with_reducible refine Below.setCell ?_ (by first | exact Nat.le_refl _ | (simp; done) | (simp; omega) | omega) _))))
  clear hw_1
  refine wp_region_held_drew (S := fun w' => w'.cell? ⟨w.heap.size, 0, none⟩ = some (.int .i64 k) ∧ w'.cell? ⟨w.heap.size, 1, none⟩ = some (.int .i64 gn) ∧ w'.cell? ⟨w.heap.size, 2, none⟩ = some (.slice A n c)) (by kernel_rfl) ⟨HX0.out.at_ 0, HX0.out.at_ 1, HX0.out.at_ 2⟩ (fun hHeld => ?_)
  obtain ⟨w_2, hw_2⟩ : ∃ q : World, q = w_1.drew := ⟨_, rfl⟩
  rw [← hw_2] at hHeld ⊢
  have hc_2 : Below w_1.heap.size w_1 w_2 := by rw [hw_2]; exact (Below.refl _ _).drew
  clear hw_2
  replace HX0 := hide (HX0.out.below hc_2)
  replace HX1 := hide (HX1.out.below hc_2)
  replace HB := hide (HB.out.trans (hc_2.mono HB.out.size))
  clear hc_2
  refine wpAnyH_take (i := 0) (oi := ⟨some 3, _, _, _, _, _⟩) (v := ?_) rfl (by kernel_rfl) (by kernel_rfl) (by kernel_rfl) (fun _ _ _ h => h) (Or.inl ⟨by rfl, ?_⟩) (by assumption) ?_
  rotate_left
  · (intro w' hSw; (try dsimp only at hSw); go_simp <;> (with_reducible rfl))
  try simp only [Act.put, List.setIfInBounds_toArray, List.set_cons_zero, List.set_cons_succ]
  refine wpAnyH_take (i := 1) (oi := ⟨some 4, _, _, _, _, _⟩) (v := ?_) rfl (by kernel_rfl) (by kernel_rfl) (by kernel_rfl) (fun _ _ _ h => h) (Or.inl ⟨by rfl, ?_⟩) (by assumption) ?_
  rotate_left
  · (intro w' hSw; (try dsimp only at hSw); go_simp <;> (with_reducible rfl))
  try simp only [Act.put, List.setIfInBounds_toArray, List.set_cons_zero, List.set_cons_succ]
  refine wpAnyH_take (i := 2) (oi := ⟨some 5, _, _, _, _, _⟩) (v := ?_) rfl (by kernel_rfl) (by kernel_rfl) (by kernel_rfl) (fun _ _ _ h => h) (Or.inl ⟨by rfl, ?_⟩) (by assumption) ?_
  rotate_left
  · (intro w' hSw; (try dsimp only at hSw); go_simp <;> (with_reducible rfl))
  try simp only [Act.put, List.setIfInBounds_toArray, List.set_cons_zero, List.set_cons_succ]
  refine wpAnyH_take (i := 3) (oi := ⟨some 6, _, _, _, _, _⟩) (v := ?_) rfl (by kernel_rfl) (by kernel_rfl) (by kernel_rfl) (fun _ _ _ h => h) (Or.inl ⟨by rfl, ?_⟩) (by assumption) ?_
  rotate_left
  · (intro w' hSw; (try dsimp only at hSw); go_simp <;> (with_reducible rfl))
  try simp only [Act.put, List.setIfInBounds_toArray, List.set_cons_zero, List.set_cons_succ]
  refine wpAnyH_take (i := 4) (oi := ⟨some 7, _, _, _, _, _⟩) (v := ?_) rfl (by kernel_rfl) (by kernel_rfl) (by kernel_rfl) (fun _ _ _ h => h) (Or.inl ⟨by rfl, ?_⟩) (by assumption) ?_
  rotate_left
  · (intro w' hSw; (try dsimp only at hSw); go_simp <;> (with_reducible rfl))
  try simp only [Act.put, List.setIfInBounds_toArray, List.set_cons_zero, List.set_cons_succ]
  refine wpAnyH_take (i := 5) (oi := ⟨some 8, _, _, _, _, _⟩) (v := ?_) rfl (by kernel_rfl) (by kernel_rfl) (by kernel_rfl) (fun _ _ _ h => h) (Or.inl ⟨by rfl, ?_⟩) (by assumption) ?_
  rotate_left
  · (intro w' hSw; (try dsimp only at hSw); go_simp <;> (with_reducible rfl))
  try simp only [Act.put, List.setIfInBounds_toArray, List.set_cons_zero, List.set_cons_succ]
  refine wpAnyH_ready (rs := [6]) (by kernel_rfl) (by simp) ?_
  refine AllReadyH.cons (o := ⟨some 9, _, _, _, _, _⟩) rfl (fun K' hK => ?_) AllReadyH.nil
  go_simp
  go_at_call 22
  have hz1 : w.heap.size + 2 ≤ w_2.heap.size := HX1.out.lt
  refine (HC1.out _ (HI.out.below HB.out)).mono ?_
  rintro e_ w_3 ⟨v1, rfl, ho1, hb_3⟩
  replace HX0 := hide (HX0.out.below hb_3)
  replace HX1 := hide (HX1.out.below hb_3)
  replace HB := hide (HB.out.trans (hb_3.mono HB.out.size))
  clear hb_3
  obtain ⟨C, d, rfl, -, -⟩ := ownGaus_form ho1
  have HO1 := hide (ho1.weak hz1)
  clear ho1 hz1
  go_wp2_with fail
  refine hK.out _ _ ⟨HX0.out.at_ 0, HX0.out.at_ 1, HX0.out.at_ 2⟩ (fun hHeld => ?_)
  clear hK K'
  try simp only [Act.put, List.setIfInBounds_toArray, List.set_cons_zero, List.set_cons_succ]
  refine wpAnyH_take (i := 7) (oi := ⟨some 10, _, _, _, _, _⟩) (v := ?_) rfl (by kernel_rfl) (by kernel_rfl) (by kernel_rfl) (fun _ _ _ h => h) (Or.inl ⟨by rfl, ?_⟩) (by assumption) ?_
  rotate_left
  · (intro w' hSw; (try dsimp only at hSw); go_simp <;> (with_reducible rfl))
  try simp only [Act.put, List.setIfInBounds_toArray, List.set_cons_zero, List.set_cons_succ]
  refine wpAnyH_ready (rs := [8]) (by kernel_rfl) (by simp) ?_
  refine AllReadyH.cons (o := ⟨none, _, _, _, _, _⟩) rfl (fun K' hK => ?_) AllReadyH.nil
  obtain ⟨y0, y1, y2, k0, k1, k2, hly⟩ := HX1.out.r3h
  go_simp
  clear y0 y1 y2 k0 k1 k2 hly
  replace HX0 := hide (((HX0.out.other (p := ⟨w.heap.size + 1, 0, none⟩) (by show w.heap.size ≠ w.heap.size + 1; omega) (.int .i64 k)).other (p := ⟨w.heap.size + 1, 1, none⟩) (by show w.heap.size ≠ w.heap.size + 1; omega) (.int .i64 gn)).other (p := ⟨w.heap.size + 1, 2, none⟩) (by show w.heap.size ≠ w.heap.size + 1; omega) (.slice C n d))
  replace HX1 := hide (HX1.out.r3hput (.int .i64 k) (.int .i64 gn) (.slice C n d))
  replace HB := hide (((HB.out.setCell (p := ⟨w.heap.size + 1, 0, none⟩) (Nat.le_succ _) (.int .i64 k)).setCell (p := ⟨w.heap.size + 1, 1, none⟩) (Nat.le_succ _) (.int .i64 gn)).setCell (p := ⟨w.heap.size + 1, 2, none⟩) (Nat.le_succ _) (.slice C n d))
  have hof : ∀ z, (Value.slice C n d).ownBlock = some z → z ≠ w.heap.size + 1 := fun z hz => by have := (HO1.out.blockLtR hz).1; omega
  replace HO1 := hide (((HO1.out.other (k := w.heap.size + 1) 0 (.int .i64 k) (fun e => hof _ e rfl)).other (k := w.heap.size + 1) 1 (.int .i64 gn) (fun e => hof _ e rfl)).other (k := w.heap.size + 1) 2 (.slice C n d) (fun e => hof _ e rfl))
  clear hof
  obtain ⟨w_4, hw_4⟩ : ∃ q : World, (((w_3.setCell ⟨w.heap.size + 1, 0, none⟩ (.int .i64 k)).setCell ⟨w.heap.size + 1, 1, none⟩ (.int .i64 gn)).setCell ⟨w.heap.size + 1, 2, none⟩ (.slice C n d)) = q := ⟨_, rfl⟩
  rw [hw_4] at HX0 HX1 HB HO1 ⊢
  clear hw_4
  refine hK.out _ _ ⟨HX0.out.at_ 0, HX0.out.at_ 1, HX0.out.at_ 2⟩ (fun hHeld => ?_)
  clear hK K'
  try simp only [Act.put, List.setIfInBounds_toArray, List.set_cons_zero, List.set_cons_succ]
  refine wpAnyH_done (by kernel_rfl) ?_ _
  clear hHeld
  obtain ⟨y0, y1, y2, k0, k1, k2, hly⟩ := HX1.out.r3h
  go_wp2_with fail
  refine bodyPost_ret (v := .agg #[.int .i64 k, .int .i64 gn, .slice C n d]) ?_ rfl ⟨C, d, rfl, HO1.out.weak (by omega), HB.out⟩
  simp [results, Tryz.results33, go_sem, y0, y1, y2]
/-- Points at a gain. -/
def sclF (gn : Int) (F : Nat → Gau) (j : Nat) : Gau := ⟨(F j).re * gn, (F j).im * gn⟩
def fillC (U : Nat → Gau) (j i : Nat) : Gau := if i < j then U i else Gau.zero
theorem fillC_put (U : Nat → Gau) (j : Nat) : setGau (fillC U j) j (U j) = fillC U (j + 1) := by
  funext i
  unfold setGau fillC
  by_cases e : i = j
  · subst e; rw [if_pos rfl, if_pos (by omega)]
  · rw [if_neg e]
    by_cases h : i < j
    · rw [if_pos h, if_pos (by omega)]
    · rw [if_neg h, if_neg (by omega)]
end Go.Proofs.YtcdplfjegopmdaaGreat
/- S89 of chapter 03, in a namespace of its own. -/
namespace Go.Proofs.YtcdplfjegopmdaaGreat
open Go Go.RowKit Go.Lib
/-- Of the first k numbers: the one of the least distance D, of two the one of the lesser level; its distance, its level. -/
def hbJ (D lv : Nat → Int) : Nat → Nat × Int × Int
  | 0 => (0, 9223372036854775807, 0)
  | k + 1 => if D k < (hbJ D lv k).2.1 ∨ (D k = (hbJ D lv k).2.1 ∧ lv k < (hbJ D lv k).2.2) then (k, D k, lv k) else hbJ D lv k
theorem hbJ_facts {D lv : Nat → Int} (hD : ∀ j, D j < 9223372036854775807) : ∀ {k : Nat}, 0 < k → (hbJ D lv k).1 < k ∧ (hbJ D lv k).2.1 = D (hbJ D lv k).1 ∧ (hbJ D lv k).2.2 = lv (hbJ D lv k).1 ∧ ∀ j, j < k → D (hbJ D lv k).1 < D j ∨ (D (hbJ D lv k).1 = D j ∧ lv (hbJ D lv k).1 ≤ lv j)
  | 0, h => absurd h (Nat.lt_irrefl 0)
  | k + 1, _ => by
    unfold hbJ
    by_cases h : D k < (hbJ D lv k).2.1 ∨ (D k = (hbJ D lv k).2.1 ∧ lv k < (hbJ D lv k).2.2)
    · rw [if_pos h]
      refine ⟨Nat.lt_succ_self k, rfl, rfl, fun j hj => ?_⟩
      show D k < D j ∨ (D k = D j ∧ lv k ≤ lv j)
      by_cases e : j = k
      · subst e; exact .inr ⟨rfl, Int.le_refl _⟩
      · obtain ⟨-, h2, h3, h4⟩ := hbJ_facts (lv := lv) hD (k := k) (by omega)
        have h5 := h4 j (by omega)
        rw [h2, h3] at h
        omega
    · rw [if_neg h]
      by_cases e : k = 0
      · subst e
        exact absurd (.inl (hD 0)) h
      · obtain ⟨h1, h2, h3, h4⟩ := hbJ_facts (lv := lv) hD (k := k) (by omega)
        refine ⟨by omega, h2, h3, fun j hj => ?_⟩
        by_cases e2 : j = k
        · subst e2
          rw [h2, h3] at h
          omega
        · exact h4 j (by omega)
/-- The number whose bits are the hard bits of a part. -/
def hardJ (p g : Int) (c : Nat) : Nat := (hbJ (distF p g c) (fun j => lvl c (labF c j)) (2 ^ c)).1
def hardP (p g : Int) (c i : Nat) : Int := labF c (hardJ p g c) i
/-- Of the first k levels from lo on, each two more: the nearest, the first of them. -/
def rbL (D : Int → Int) (lo : Int) : Nat → Int
  | 0 => lo
  | t + 1 => if D (lo + 2 * (t : Int)) < D (rbL D lo t) then lo + 2 * (t : Int) else rbL D lo t
theorem rbL_facts {D : Int → Int} {lo : Int} : ∀ {t : Nat}, (∃ s : Nat, (s < t ∨ s = 0) ∧ rbL D lo t = lo + 2 * (s : Int)) ∧ ∀ s : Nat, s < t → D (rbL D lo t) < D (lo + 2 * (s : Int)) ∨ (D (rbL D lo t) = D (lo + 2 * (s : Int)) ∧ rbL D lo t ≤ lo + 2 * (s : Int))
  | 0 => ⟨⟨0, .inr rfl, by show lo = lo + 2 * ((0 : Nat) : Int); omega⟩, fun s h => absurd h (Nat.not_lt_zero s)⟩
  | t + 1 => by
    obtain ⟨⟨s0, h1, h2⟩, h3⟩ := rbL_facts (D := D) (lo := lo) (t := t)
    unfold rbL
    by_cases h : D (lo + 2 * (t : Int)) < D (rbL D lo t)
    · rw [if_pos h]
      refine ⟨⟨t, .inl (Nat.lt_succ_self t), rfl⟩, fun s hs => ?_⟩
      by_cases e : s = t
      · subst e; exact .inr ⟨rfl, Int.le_refl _⟩
      · have := h3 s (by omega); omega
    · rw [if_neg h]
      refine ⟨⟨s0, by omega, h2⟩, fun s hs => ?_⟩
      by_cases e : s = t
      · subst e
        by_cases e2 : s = 0
        · subst e2
          obtain rfl : s0 = 0 := by omega
          exact .inr ⟨by rw [h2], by rw [h2]; exact Int.le_refl _⟩
        · have h4 := h3 0 (by omega)
          by_cases e3 : D (rbL D lo s) = D (lo + 2 * (s : Int))
          · exact .inr ⟨e3, by rw [h2]; omega⟩
          · exact .inl (by omega)
      · exact h3 s (by omega)
def levHit (c : Nat) : Bool := (List.range (2 ^ c)).all fun j => (List.range (2 ^ c)).any fun s => lvl c (labF c j) == 1 - ((2 ^ c : Nat) : Int) + 2 * (s : Int)
def hitLev (c : Nat) : Bool := (List.range (2 ^ c)).all fun s => (List.range (2 ^ c)).any fun j => lvl c (labF c j) == 1 - ((2 ^ c : Nat) : Int) + 2 * (s : Int)
def oneLev (c : Nat) : Bool := (List.range (2 ^ c)).all fun j => (List.range (2 ^ c)).all fun k => j == k || !(lvl c (labF c j) == lvl c (labF c k))
theorem lev_hit {c : Nat} (h1 : 1 ≤ c) (h3 : c ≤ 3) {j : Nat} (hj : j < 2 ^ c) : ∃ s : Nat, s < 2 ^ c ∧ lvl c (labF c j) = 1 - ((2 ^ c : Nat) : Int) + 2 * (s : Int) := by
  have h : levHit c = true := by
    obtain rfl | rfl | rfl : c = 1 ∨ c = 2 ∨ c = 3 := by omega
    all_goals decide +kernel
  unfold levHit at h
  simp only [List.all_eq_true, List.any_eq_true, List.mem_range, beq_iff_eq] at h
  exact h j hj
theorem hit_lev {c : Nat} (h1 : 1 ≤ c) (h3 : c ≤ 3) {s : Nat} (hs : s < 2 ^ c) : ∃ j : Nat, j < 2 ^ c ∧ lvl c (labF c j) = 1 - ((2 ^ c : Nat) : Int) + 2 * (s : Int) := by
  have h : hitLev c = true := by
    obtain rfl | rfl | rfl : c = 1 ∨ c = 2 ∨ c = 3 := by omega
    all_goals decide +kernel
  unfold hitLev at h
  simp only [List.all_eq_true, List.any_eq_true, List.mem_range, beq_iff_eq] at h
  exact h s hs
theorem one_lev {c : Nat} (h1 : 1 ≤ c) (h3 : c ≤ 3) {j k : Nat} (hj : j < 2 ^ c) (hk : k < 2 ^ c) (he : lvl c (labF c j) = lvl c (labF c k)) : j = k := by
  have h : oneLev c = true := by
    obtain rfl | rfl | rfl : c = 1 ∨ c = 2 ∨ c = 3 := by omega
    all_goals decide +kernel
  unfold oneLev at h
  simp only [List.all_eq_true, List.mem_range, Bool.or_eq_true, beq_iff_eq, Bool.not_eq_true', beq_eq_false_iff_ne] at h
  rcases h j hj k hk with z | z
  · exact z
  · exact absurd he z
/-- The distance of a part from a level. -/
def distL (p g v : Int) : Int := ((p - g * v).natAbs : Int)
theorem distF_small {p g : Int} {c : Nat} (hp : -100000000 ≤ p ∧ p ≤ 100000000) (hg : 1 ≤ g ∧ g ≤ 10000000) (h1 : 1 ≤ c) (h3 : c ≤ 3) (j : Nat) : distF p g c j < 9223372036854775807 := by
  have := distF_le (j := j) hp hg h1 h3
  omega
/-- Both sides choose the same level. -/
theorem hard_level {p g : Int} {c : Nat} (hp : -100000000 ≤ p ∧ p ≤ 100000000) (hg : 1 ≤ g ∧ g ≤ 10000000) (h1 : 1 ≤ c) (h3 : c ≤ 3) :
    hardJ p g c < 2 ^ c ∧ lvl c (labF c (hardJ p g c)) = rbL (distL p g) (1 - ((2 ^ c : Nat) : Int)) (2 ^ c) ∧ ∀ j, j < 2 ^ c → distF p g c (hardJ p g c) ≤ distF p g c j := by
  have hN : 0 < 2 ^ c := Nat.pow_pos (by decide)
  obtain ⟨a1, -, -, a4⟩ := hbJ_facts (D := distF p g c) (lv := fun j => lvl c (labF c j)) (distF_small hp hg h1 h3) (k := 2 ^ c) hN
  obtain ⟨⟨s, b1, b2⟩, b3⟩ := rbL_facts (D := distL p g) (lo := 1 - ((2 ^ c : Nat) : Int)) (t := 2 ^ c)
  have hs : s < 2 ^ c := by omega
  refine ⟨a1, ?_, fun j hj => by have := a4 j hj; unfold hardJ; omega⟩
  obtain ⟨j, hj, ej⟩ := hit_lev h1 h3 hs
  obtain ⟨t, ht, et⟩ := lev_hit h1 h3 a1
  have c1 := a4 j hj
  have c2 := b3 t ht
  rw [← et] at c2
  rw [b2, ← ej] at c2 ⊢
  have d1 : ∀ k, distF p g c k = distL p g (lvl c (labF c k)) := fun _ => rfl
  rw [d1, d1] at c1
  unfold hardJ
  omega
end Go.Proofs.YtcdplfjegopmdaaGreat
/- S94 of chapter 03, in a namespace of its own. -/
namespace Go.Proofs.YtcdplfjegopmdaaGreat
open Go Go.RowKit Go.Lib
theorem sq_lt {x y : Int} (hx : 0 ≤ x) (hy : 0 ≤ y) : x * x < y * y ↔ x < y := by
  constructor
  · intro h
    by_cases e : x < y
    · exact e
    · have := Int.mul_le_mul (show y ≤ x by omega) (show y ≤ x by omega) hy hx
      omega
  · intro h
    have h1 := Int.mul_le_mul_of_nonneg_left (show x ≤ y by omega) hx
    have h2 := Int.mul_lt_mul_of_pos_right h (show 0 < y by omega)
    omega
end Go.Proofs.YtcdplfjegopmdaaGreat
/- S97 of chapter 03, in a namespace of its own. -/
namespace Go.Proofs.YtcdplfjegopmdaaGreat
open Go Go.RowKit Go.Lib
theorem gausC {w : World} {lo b o n : Nat} {F : Nat → Gau} (h : GausAt w lo (some ⟨b, o, none⟩) n F) {j : Nat} (hj : j < n) : w.cell? ⟨b, o + j * 2, none⟩ = some (.int .i64 (F j).re) ∧ w.cell? ⟨b, o + j * 2 + 1, none⟩ = some (.int .i64 (F j).im) ∧ b < w.heap.size := by
  obtain ⟨b', o', e, -, h1, h2, h3⟩ := h j hj
  injection e with e
  injection e with e1 e2
  subst e1
  subst e2
  exact ⟨h2, h3, h1⟩
end Go.Proofs.YtcdplfjegopmdaaGreat
/- S99 of chapter 03, in a namespace of its own. -/
namespace Go.Proofs.YtcdplfjegopmdaaGreat
open Go Go.RowKit Go.Lib
theorem same_ints {w : World} {A C : Option Addr} {n c d : Nat} {F G : Nat → Int} (hn : n ≤ 100000) (h1 : IntsAt w 0 A n F) (h2 : IntsAt w 0 C n G) (he : ∀ j, j < n → F j = G j) :
    Calls Tryz.prog 39 #[.slice A n c, .slice C n d] w fun e w' => e = .returned (.bool true) ∧ Below w.heap.size w w' := by
  have h := ints_any A C n n c d F G w hn hn h1 h2
  rw [intsB_iff.2 ⟨rfl, he⟩] at h
  exact h.mono fun e w' ⟨h1, q, h2⟩ => ⟨h1, by rw [h2]; exact Go.below_drewN (Below.refl _ _) _⟩
theorem ordE_two {k : Int} (h : ordE k = 0) : ∃ c : Nat, 1 ≤ c ∧ c ≤ 3 ∧ k = 2 * (c : Int) := by
  unfold ordE at h
  by_cases e : k = 2 ∨ k = 4 ∨ k = 6
  · rcases e with rfl | rfl | rfl
    · exact ⟨1, by decide, by decide, rfl⟩
    · exact ⟨2, by decide, by decide, rfl⟩
    · exact ⟨3, by decide, by decide, rfl⟩
  · rw [if_neg e] at h; exact absurd h (by decide)
end Go.Proofs.YtcdplfjegopmdaaGreat
/- S60 of chapter 03, in a namespace of its own. -/
namespace Go.Proofs.YtcdplfjegopmdaaGreat
open Go Go.RowKit Go.Lib Ieee
theorem lab_ex {c : Nat} {F : Nat → Int} (h1 : 1 ≤ c) (h3 : c ≤ 3) (hF : ∀ j, j < c → IsBit (F j)) : ∃ n, n < 2 ^ c ∧ ∀ j, j < c → labF c n j = F j := by
  obtain rfl | rfl | rfl : c = 1 ∨ c = 2 ∨ c = 3 := by omega
  · have a := hF 0 (by decide)
    refine ⟨(F 0).toNat, by rcases a with a | a <;> rw [a] <;> decide, fun j hj => ?_⟩
    obtain rfl : j = 0 := by omega
    rcases a with a | a <;> rw [a] <;> decide
  · have a := hF 0 (by decide)
    have b := hF 1 (by decide)
    refine ⟨(F 0).toNat * 2 + (F 1).toNat, by rcases a with a | a <;> rcases b with b | b <;> rw [a, b] <;> decide, fun j hj => ?_⟩
    obtain rfl | rfl : j = 0 ∨ j = 1 := by omega
    · rcases a with a | a <;> rcases b with b | b <;> rw [a, b] <;> decide
    · rcases a with a | a <;> rcases b with b | b <;> rw [a, b] <;> decide
  · have a := hF 0 (by decide)
    have b := hF 1 (by decide)
    have d := hF 2 (by decide)
    refine ⟨(F 0).toNat * 4 + (F 1).toNat * 2 + (F 2).toNat, by rcases a with a | a <;> rcases b with b | b <;> rcases d with d | d <;> rw [a, b, d] <;> decide, fun j hj => ?_⟩
    obtain rfl | rfl | rfl : j = 0 ∨ j = 1 ∨ j = 2 := by omega
    · rcases a with a | a <;> rcases b with b | b <;> rcases d with d | d <;> rw [a, b, d] <;> decide
    · rcases a with a | a <;> rcases b with b | b <;> rcases d with d | d <;> rw [a, b, d] <;> decide
    · rcases a with a | a <;> rcases b with b | b <;> rcases d with d | d <;> rw [a, b, d] <;> decide
theorem lvl_same {c : Nat} {F G : Nat → Int} (h1 : 1 ≤ c) (h3 : c ≤ 3) (h : ∀ j, j < c → F j = G j) : lvl c F = lvl c G := by
  obtain rfl | rfl | rfl : c = 1 ∨ c = 2 ∨ c = 3 := by omega
  · show 1 - 2 * F 0 = 1 - 2 * G 0
    rw [h 0 (by decide)]
  · show (1 - 2 * F 0) * (2 ^ 1 - (1 - 2 * F 1)) = (1 - 2 * G 0) * (2 ^ 1 - (1 - 2 * G 1))
    rw [h 0 (by decide), h 1 (by decide)]
  · show (1 - 2 * F 0) * (2 ^ 2 - (1 - 2 * F 1) * (2 ^ 1 - (1 - 2 * F 2))) = (1 - 2 * G 0) * (2 ^ 2 - (1 - 2 * G 1) * (2 ^ 1 - (1 - 2 * G 2)))
    rw [h 0 (by decide), h 1 (by decide), h 2 (by decide)]
end Go.Proofs.YtcdplfjegopmdaaGreat
