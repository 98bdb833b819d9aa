/- Lemmas: E57, E58, E59, Ua. -/
import Derived.Laws.MakeOwn
import Derived.Laws.OwnMore
import Derived.OwnWalk
import Derived.Test.YtdkbjgnkehoplaaBy02
import Derived.Test.YtdkbjgnkehoplaaBy11
import Derived.Test.YtdkbjgnkehoplaaBy16
import Derived.Test.YtdkbjgnkehoplaaBy18
set_option linter.unusedVariables false
set_option linter.unusedSimpArgs false
/- Rows of squares of the call's own. -/
namespace Go.Proofs.Ytdkbjgnkehoplaa
open Go.RowKit
def OwnSqs (w : World) (base : Nat) (v : Value) (n : Nat) (F : Nat → Gau) : Prop := w.ownsRow base 39 2 v n (gauVals n F)
theorem OwnSqs.congr {w : World} {base n : Nat} {v : Value} {F G : Nat → Gau} (h : OwnSqs w base v n F) (e : ∀ j, j < n → F j = G j) : OwnSqs w base v n G := by
  unfold OwnSqs at h ⊢
  rwa [← gauVals_congr e]
theorem OwnSqs.below {w w' : World} {base n : Nat} {v : Value} {F : Nat → Gau} (h : OwnSqs w base v n F) (hb : Below w.heap.size w w') : OwnSqs w' base v n F :=
  World.ownsRow.kept h (row := none) ⟨hb.os, hb.tape, hb.output, hb.size, fun k hk _ => hb.block k hk⟩ (by cases v.ownBlock <;> simp)
theorem OwnSqs.lt {w : World} {base n g c : Nat} {F : Nat → Gau} (h : OwnSqs w base (.slice (some ⟨g, 0, none⟩) n c) n F) : base ≤ g ∧ g < w.heap.size := World.ownsRow.lt h g rfl
theorem OwnSqs.part {w : World} {base n g c : Nat} {F : Nat → Gau} (h : OwnSqs w base (.slice (some ⟨g, 0, none⟩) n c) n F) {k i : Nat} (hk : k < n) (hi : i < 2) : w.cell? ⟨g, k * 2 + i, none⟩ = some (.int .i64 ((F k).part i)) := by
  rw [World.ownsRow.cellAt h (k * 2 + i) (by omega), gauVals_get, if_pos (by omega), show (k * 2 + i) / 2 = k by omega, show (k * 2 + i) % 2 = i by omega]
theorem OwnSqs.cells {w : World} {base n g c : Nat} {F : Nat → Gau} (h : OwnSqs w base (.slice (some ⟨g, 0, none⟩) n c) n F) {k : Nat} (hk : k < n) :
    w.cell? ⟨g, k * 2, none⟩ = some (.int .i64 (F k).re) ∧ w.cell? ⟨g, k * 2 + 1, none⟩ = some (.int .i64 (F k).im) :=
  ⟨h.part hk (show 0 < 2 by decide), h.part hk (show 1 < 2 by decide)⟩
theorem OwnSqs.frozen {w : World} {base n g c : Nat} {F : Nat → Gau} (h : OwnSqs w base (.slice (some ⟨g, 0, none⟩) n c) n F) (k : Nat) : w.frozen? ⟨g, k, none⟩ = false := World.ownsRow.frozenAt h k
theorem OwnSqs.frozen2 {w : World} {base n g c : Nat} {F : Nat → Gau} (h : OwnSqs w base (.slice (some ⟨g, 0, none⟩) n c) n F) (k : Nat) : w.frozen? ⟨g, k * 2, none⟩ = false ∧ w.frozen? ⟨g, k * 2 + 1, none⟩ = false := ⟨h.frozen _, h.frozen _⟩
theorem OwnSqs.gaus {w : World} {base n c : Nat} {A : Option Addr} {F : Nat → Gau} (h : OwnSqs w base (.slice A n c) n F) : GausAt w base A n F := fun i hi => by
  rcases h.2 with ⟨e, hx⟩ | ⟨g, cap, cur, e, hb, hg, hnc, hm, hsz, htake⟩
  · omega
  · injection e with e1 e2 e3
    subst e1
    have h' : OwnSqs w base (.slice (some ⟨g, 0, none⟩) n c) n F := h
    obtain ⟨k0, k1⟩ := h'.cells hi
    exact ⟨g, 0, rfl, hb, (Array.getElem?_eq_some_iff.1 hg).1, by rwa [Nat.zero_add], by rwa [Nat.zero_add]⟩
theorem OwnSqs.other {w : World} {base n : Nat} {v : Value} {F : Nat → Gau} (h : OwnSqs w base v n F) {k : Nat} (o : Nat) (u : Value) (hk : v.ownBlock ≠ some k) : OwnSqs (w.setCell ⟨k, o, none⟩ u) base v n F := by
  refine World.ownsRow.kept h (row := some k) ⟨rfl, rfl, rfl, by simp, fun j _ hj => heap_setCell_other w ⟨k, o, none⟩ j u (fun e => hj (by simp [e]))⟩ (.inr hk)
theorem OwnSqs.put {w : World} {base n g c : Nat} {F : Nat → Gau} (h : OwnSqs w base (.slice (some ⟨g, 0, none⟩) n c) n F) (k : Nat) (x : Gau) :
    OwnSqs ((w.setCell ⟨g, k * 2, none⟩ (.int .i64 x.re)).setCell ⟨g, k * 2 + 1, none⟩ (.int .i64 x.im)) base (.slice (some ⟨g, 0, none⟩) n c) n (setGau F k x) := by
  have h1 := (World.ownsRow.stored (World.ownsRow.stored h (k * 2) (.int .i64 x.re)).1 (k * 2 + 1) (.int .i64 x.im)).1
  have e : ((gauVals n F).set (k * 2) (.int .i64 x.re)).set (k * 2 + 1) (.int .i64 x.im) = gauVals n (setGau F k x) := by
    apply List.ext_getElem?
    intro j
    simp only [List.getElem?_set, List.length_set, gauVals_len, gauVals_get]
    by_cases hj : j < n * 2
    · have hd := Nat.div_add_mod j 2
      rw [if_pos hj]
      by_cases hk : j / 2 = k
      · have hs : setGau F k x (j / 2) = x := by unfold setGau; rw [if_pos hk]
        have hlt := Nat.mod_lt j (show 0 < 2 by decide)
        rw [hs, if_pos hj]
        obtain e | e : j % 2 = 0 ∨ j % 2 = 1 := by omega
        · rw [if_neg (by omega), if_pos (by omega), if_pos (by omega), e]; rfl
        · rw [if_pos (by omega), if_pos (by omega), e]; rfl
      · have hs : setGau F k x (j / 2) = F (j / 2) := by unfold setGau; rw [if_neg hk]
        rw [hs, if_neg (by omega), if_neg (by omega), if_pos hj]
    · rw [if_neg hj]
      simp only [if_neg hj]
      repeat' split
      all_goals first | rfl | omega
  rw [e] at h1
  exact h1
theorem OwnSqs.made (w : World) (base g f : Nat) (hb : base ≤ w.heap.size) (hg : g = w.heap.size) (hf : f ≤ maxLen) : OwnSqs (w.alloc (.cells (madeCells #[.int .i64 0, .int .i64 0] (f * 2)) 39)) base (.slice (some ⟨g, 0, none⟩) f f) f (fun _ => Gau.zero) :=
  hg ▸ ⟨by rw [gauVals_len], .inr ⟨w.heap.size, f, _, rfl, hb, heap_alloc_new w _, Nat.le_refl _, hf, by simp [madeCells], by
    apply List.ext_getElem?
    intro j
    rw [gauVals_get]
    have hlt := Nat.mod_lt j (show 0 < 2 by decide)
    by_cases hj : j < f * 2
    · rw [if_pos hj]
      obtain e | e : j % 2 = 0 ∨ j % 2 = 1 := by omega
      all_goals (simp [madeCells, hj, e, Gau.part, Gau.zero])
    · rw [if_neg hj]; simp [madeCells]; omega⟩⟩
theorem sqsInfo : (Try.prog.info? 39).map (fun i => (i.zero, i.size, i.bytes)) = some (some (.agg #[.int .i64 0, .int .i64 0]), 2, 16) := by kernel_rfl
theorem make_sqs (n : Nat) (hn : n ≤ 1000000000) (w : World) : (Instr.makeSlice 147 (.int .i64 (n : Int)) (.int .i64 (n : Int))).run Try.prog w = .ok (.slice (some ⟨w.heap.size, 0, none⟩) n n) (w.alloc (.cells (madeCells #[.int .i64 0, .int .i64 0] (n * 2)) 39)) := by
  obtain ⟨i0, hi, hz0, hz1, hz2⟩ := info_parts sqsInfo
  have hr := run_make (P := Try.prog) w 147 39 i0 _ Try.underlying147 hi hz0 .i64 .i64 n n (by omega) (Int.le_refl _) (by rw [hz2]; omega) (by omega)
  simp only [Int.toNat_natCast, hz1] at hr
  exact hr
end Go.Proofs.Ytdkbjgnkehoplaa
/- sweep of the code. -/
namespace Go.Proofs.Ytdkbjgnkehoplaa
open Go.RowKit Go.Great
set_option maxHeartbeats 4000000 in
set_option maxRecDepth 100000 in
theorem sweep1_any (i j b gp n : Nat) (base : Nat) (Z : Nat → Gau) (w : World) (hi : i < n) (hj : j < n) (hn : n ≤ 1000) (hZ : ∀ k, k < n → (Z k).Within 1000000) (h0 : CellV w b 0 (.slice (some ⟨gp, 0, none⟩) n n)) (h1 : OwnSqs w base (.slice (some ⟨gp, 0, none⟩) n n) n Z) :
    Calls Try.prog 111 #[.int .i64 (i : Int), .int .i64 (j : Int), .pointer (some ⟨b, 0, none⟩)] w fun e w' => e = .returned (.int .i64 (cmF (fun k => (Z k).re) (fun k => (Z k).im) i j)) ∧ Below w.heap.size w w' := by
  have HC0 := hide h0
  have hiz : (i : Int) < (n : Int) := by omega
  have hjz : (j : Int) < (n : Int) := by omega
  obtain ⟨p0, p1⟩ := h1.cells hi
  obtain ⟨r0, r1⟩ := h1.cells hj
  have hlg := h1.lt.2
  have b1 := (hZ i hi).re
  have b2 := (hZ i hi).im
  have b3 := (hZ j hj).re
  have b4 := (hZ j hj).im
  have HCM := hide (fun W => compared_any (Z j).re (Z j).im (Z i).re (Z i).im W (by omega) (by omega) (by omega) (by omega))
  rw [show compI ((Z j).re - (Z i).re) ((Z i).im - (Z j).im) = cmF (fun k => (Z k).re) (fun k => (Z k).im) i j from rfl] at HCM
  obtain ⟨V, hV⟩ : ∃ z, cmF (fun k => (Z k).re) (fun k => (Z k).im) i j = z := ⟨_, rfl⟩
  obtain ⟨x0, hx0⟩ : ∃ z, (Z i).re = z := ⟨_, rfl⟩
  obtain ⟨x1, hx1⟩ : ∃ z, (Z i).im = z := ⟨_, rfl⟩
  obtain ⟨y0, hy0⟩ : ∃ z, (Z j).re = z := ⟨_, rfl⟩
  obtain ⟨y1, hy1⟩ : ∃ z, (Z j).im = z := ⟨_, rfl⟩
  simp only [hV] at HCM ⊢
  simp only [hx0, hx1, hy0, hy1] at HCM p0 p1 r0 r1
  have HP0 := hide (CellV.mk (b := gp) (o := i * 2) p0)
  have HP1 := hide (CellV.mk (b := gp) (o := i * 2 + 1) p1)
  have HR0 := hide (CellV.mk (b := gp) (o := j * 2) r0)
  have HR1 := hide (CellV.mk (b := gp) (o := j * 2 + 1) r1)
  have HB := hide (Below.refl w.heap.size w)
  clear h0 h1 p0 p1 r0 r1 b1 b2 b3 b4 hV hx0 hx1 hy0 hy1 hZ hlg
  go_enter Try.func111, Try.ntmps111
  go_upto_region 1 with fail
  refine wp_region_held_drew (S := fun w' => w'.cell? ⟨b, 0, none⟩ = some (.slice (some ⟨gp, 0, none⟩) n n) ∧ w'.cell? ⟨gp, i * 2, none⟩ = some (.int .i64 x0) ∧ w'.cell? ⟨gp, i * 2 + 1, none⟩ = some (.int .i64 x1) ∧ w'.cell? ⟨gp, j * 2, none⟩ = some (.int .i64 y0) ∧ w'.cell? ⟨gp, j * 2 + 1, none⟩ = some (.int .i64 y1)) (by kernel_rfl) ⟨HC0.out.c, HP0.out.c, HP1.out.c, HR0.out.c, HR1.out.c⟩ (fun hHeld => ?_)
  obtain ⟨w_1, hw_1⟩ : ∃ q : World, q = w.drew := ⟨_, rfl⟩
  rw [← hw_1] at hHeld ⊢
  have hc_1 : Below w.heap.size w w_1 := by rw [hw_1]; exact (Below.refl _ _).drew
  clear hw_1
  replace HC0 := hide (HC0.out.below hc_1)
  replace HP0 := hide (HP0.out.below hc_1)
  replace HP1 := hide (HP1.out.below hc_1)
  replace HR0 := hide (HR0.out.below hc_1)
  replace HR1 := hide (HR1.out.below hc_1)
  replace HB := hide (HB.out.trans (hc_1.mono HB.out.size))
  clear hc_1
  refine wpAnyH_take (i := 0) (oi := ⟨some 6, _, _, _, _, _⟩) (v := ?_) rfl (by kernel_rfl) (by kernel_rfl) (by kernel_rfl) (fun _ _ _ h => h) (Or.inl ⟨by rfl, ?_⟩) (by assumption) ?_
  rotate_left
  · (intro w' hSw; (try dsimp only at hSw); go_simp <;> (with_reducible rfl))
  try simp only [Act.put, List.setIfInBounds_toArray, List.set_cons_zero, List.set_cons_succ]
  refine wpAnyH_take (i := 1) (oi := ⟨some 7, _, _, _, _, _⟩) (v := ?_) rfl (by kernel_rfl) (by kernel_rfl) (by kernel_rfl) (fun _ _ _ h => h) (Or.inl ⟨by rfl, ?_⟩) (by assumption) ?_
  rotate_left
  · (intro w' hSw; (try dsimp only at hSw); go_simp <;> (with_reducible rfl))
  try simp only [Act.put, List.setIfInBounds_toArray, List.set_cons_zero, List.set_cons_succ]
  refine wpAnyH_take (i := 2) (oi := ⟨some 8, _, _, _, _, _⟩) (v := ?_) rfl (by kernel_rfl) (by kernel_rfl) (by kernel_rfl) (fun _ _ _ h => h) (Or.inl ⟨by rfl, ?_⟩) (by assumption) ?_
  rotate_left
  · (intro w' hSw; (try dsimp only at hSw); go_simp <;> (with_reducible rfl))
  try simp only [Act.put, List.setIfInBounds_toArray, List.set_cons_zero, List.set_cons_succ]
  refine wpAnyH_take (i := 3) (oi := ⟨some 9, _, _, _, _, _⟩) (v := ?_) rfl (by kernel_rfl) (by kernel_rfl) (by kernel_rfl) (fun _ _ _ h => h) (Or.inl ⟨by rfl, ?_⟩) (by assumption) ?_
  rotate_left
  · (intro w' hSw; (try dsimp only at hSw); go_simp <;> (with_reducible rfl))
  try simp only [Act.put, List.setIfInBounds_toArray, List.set_cons_zero, List.set_cons_succ]
  refine wpAnyH_take (i := 4) (oi := ⟨some 10, _, _, _, _, _⟩) (v := ?_) rfl (by kernel_rfl) (by kernel_rfl) (by kernel_rfl) (fun _ _ _ h => h) (Or.inl ⟨by rfl, ?_⟩) (by assumption) ?_
  rotate_left
  · (intro w' hSw; (try dsimp only at hSw); go_simp <;> (with_reducible rfl))
  try simp only [Act.put, List.setIfInBounds_toArray, List.set_cons_zero, List.set_cons_succ]
  refine wpAnyH_take (i := 5) (oi := ⟨some 11, _, _, _, _, _⟩) (v := ?_) rfl (by kernel_rfl) (by kernel_rfl) (by kernel_rfl) (fun _ _ _ h => h) (Or.inl ⟨by rfl, ?_⟩) (by assumption) ?_
  rotate_left
  · (intro w' hSw; (try dsimp only at hSw); go_simp <;> (with_reducible rfl))
  try simp only [Act.put, List.setIfInBounds_toArray, List.set_cons_zero, List.set_cons_succ]
  refine wpAnyH_take (i := 6) (oi := ⟨some 12, _, _, _, _, _⟩) (v := ?_) rfl (by kernel_rfl) (by kernel_rfl) (by kernel_rfl) (fun _ _ _ h => h) (Or.inl ⟨by rfl, ?_⟩) (by assumption) ?_
  rotate_left
  · (intro w' hSw; (try dsimp only at hSw); go_simp <;> (with_reducible rfl))
  try simp only [Act.put, List.setIfInBounds_toArray, List.set_cons_zero, List.set_cons_succ]
  refine wpAnyH_take (i := 7) (oi := ⟨some 13, _, _, _, _, _⟩) (v := ?_) rfl (by kernel_rfl) (by kernel_rfl) (by kernel_rfl) (fun _ _ _ h => h) (Or.inl ⟨by rfl, ?_⟩) (by assumption) ?_
  rotate_left
  · (intro w' hSw; (try dsimp only at hSw); go_simp <;> (with_reducible rfl))
  try simp only [Act.put, List.setIfInBounds_toArray, List.set_cons_zero, List.set_cons_succ]
  refine wpAnyH_ready (rs := [8]) (by kernel_rfl) (by simp) ?_
  refine AllReadyH.cons (o := ⟨some 14, _, _, _, _, _⟩) rfl (fun K' hK => ?_) AllReadyH.nil
  go_simp
  go_at_call 79
  refine (HCM.out _).mono ?_
  rintro e_ w_2 ⟨rfl, hb_2⟩
  replace HC0 := hide (HC0.out.below hb_2)
  replace HP0 := hide (HP0.out.below hb_2)
  replace HP1 := hide (HP1.out.below hb_2)
  replace HR0 := hide (HR0.out.below hb_2)
  replace HR1 := hide (HR1.out.below hb_2)
  replace HB := hide (HB.out.trans (hb_2.mono HB.out.size))
  clear hb_2
  go_wp2_with fail
  refine hK.out _ _ ⟨HC0.out.c, HP0.out.c, HP1.out.c, HR0.out.c, HR1.out.c⟩ (fun hHeld => ?_)
  clear hK K'
  try simp only [Act.put, List.setIfInBounds_toArray, List.set_cons_zero, List.set_cons_succ]
  refine wpAnyH_take (i := 9) (oi := ⟨some 5, _, _, _, _, _⟩) (v := ?_) rfl (by kernel_rfl) (by kernel_rfl) (by kernel_rfl) (fun _ _ _ h => h) (Or.inl ⟨by rfl, ?_⟩) (by assumption) ?_
  rotate_left
  · (intro w' hSw; (try dsimp only at hSw); go_simp <;> (with_reducible rfl))
  try simp only [Act.put, List.setIfInBounds_toArray, List.set_cons_zero, List.set_cons_succ]
  refine wpAnyH_done (by kernel_rfl) ?_ _
  go_wp2_with fail
  go_ret
  exact ⟨rfl, HB.out⟩
/-- The squares of a book's powers. -/
def pwZ (m : Nat) (F : Nat → Nat → Int) (X : Nat → Gau) (i : Nat) : Gau := ⟨pwP m (F i) X, pwQ m (F i) X⟩
/-- The order of a book's beams. -/
def swc (m : Nat) (F : Nat → Nat → Int) (X : Nat → Gau) : Nat → Nat → Int := cmF (fun k => (pwZ m F X k).re) (fun k => (pwZ m F X k).im)
def swS (n m : Nat) (F : Nat → Nat → Int) (X : Nat → Gau) : Nat → Nat := isF (swc m F X) n
theorem swc_cmp (m : Nat) (F : Nat → Nat → Int) (X : Nat → Gau) : Cmp (swc m F X) := cmF_cmp _ _
theorem swS_sorted (n m : Nat) (F : Nat → Nat → Int) (X : Nat → Gau) : Sorted (swc m F X) (swS n m F X) n := (isF_sorted (swc_cmp m F X) n).1
theorem pwZ_small {m : Nat} {F : Nat → Nat → Int} {X : Nat → Gau} (h : OkC m X) (i : Nat) : (pwZ m F X i).Within 1000000 := by
  obtain ⟨h1, h2⟩ := pw_bounds (F := F i) h
  exact ⟨h1, h2⟩
set_option maxHeartbeats 8000000 in
set_option maxRecDepth 100000 in
theorem sweep_any (A B : Option Addr) (n c m d : Nat) (L : Nat → Nat) (F : Nat → Nat → Int) (X : Nat → Gau) (w : World) (h0 : 0 < n) (hn : n ≤ 16) (hX : OkC m X) (hL : ∀ i, i < n → L i = m ∧ ∀ j, j < m → -1 ≤ F i j ∧ F i j ≤ 7) (hI : BookAt w 0 A n L F) (hJ : GausAt w 0 B m X) :
    Calls Try.prog 64 #[.slice A n c, .slice B m d] w fun e w' => ∃ g, e = .returned (.slice (some ⟨g, 0, none⟩) n n) ∧ w.heap.size ≤ g ∧ NumRow w' g n (fun j => (swS n m F X j : Int)) ∧ Below w.heap.size w w' := by
  obtain ⟨i0, hi, hz0, hz1, hz2⟩ := info_parts intInfo
  have hmk := fun W => run_make_row (P := Try.prog) 27 3 i0 (.int .i64 0) Try.underlying27 hi hz0 hz1 rfl .i64 .i64 n (by rw [hz2]; omega) (by omega) W
  have hms := fun W => make_sqs n (by omega) W
  have HI := hide hI
  have HJ := hide hJ
  have HLL := hide hL
  have HPW := hide (fun i (hi : i < n) (C : Option Addr) e W (h : IntsAt W 0 C m (F i)) (k : GausAt W 0 B m X) => powerOf_any C B m e d (F i) X W hX (hL i hi).2 h k)
  have HZS := hide (pwZ_small (F := F) hX)
  have HZE := hide (fun i => (show pwP m (F i) X = (pwZ m F X i).re ∧ pwQ m (F i) X = (pwZ m F X i).im from ⟨rfl, rfl⟩))
  have HCC := hide (swc_cmp m F X)
  have HSC := hide (show cmF (fun k => (pwZ m F X k).re) (fun k => (pwZ m F X k).im) = swc m F X from rfl)
  have HSS := hide (show isF (swc m F X) n = swS n m F X from rfl)
  obtain ⟨Z, hZ⟩ : ∃ z, pwZ m F X = z := ⟨_, rfl⟩
  obtain ⟨C, hC⟩ : ∃ z, swc m F X = z := ⟨_, rfl⟩
  obtain ⟨T, hT⟩ : ∃ z, swS n m F X = z := ⟨_, rfl⟩
  simp only [hZ, hC, hT] at HZS HZE HCC HSC HSS ⊢
  clear hI hJ hL hi hz0 hz1 hz2 hZ hC hT hX
  go_enter Try.func64, Try.ntmps64
  go_upto_region 2 with fail
  obtain ⟨w_1, hw_1⟩ : ∃ q : World, q = w.alloc (.cells (madeCells #[.int .i64 0] n) 3) := ⟨_, rfl⟩
  try rw [← hw_1]
  have HN := hide (NumRow.mk (w := w_1) (g := w.heap.size) (n := n) (G := fun _ => 0) (by rw [hw_1]; exact World.rowIs_made w (.int .i64 0) n 3))
  have HB := hide (show Below w.heap.size w w_1 by rw [hw_1]; exact ((Below.refl _ _).alloc (by omega) _))
  have HS1 := hide (show w_1.heap.size = w.heap.size + 1 by rw [hw_1]; simp)
  clear hw_1 hmk
  obtain ⟨g6, hg6⟩ : ∃ q, w_1.heap.size = q := ⟨_, rfl⟩
  have HS := hide (OwnSqs.made w_1 w.heap.size g6 n (by have := HS1.out; omega) hg6.symm (by unfold maxLen; omega))
  go_upto_region 3 with fail
  try simp only [hg6]
  obtain ⟨w_2, hw_2⟩ : ∃ q : World, q = w_1.alloc (.cells (madeCells #[.int .i64 0, .int .i64 0] (n * 2)) 39) := ⟨_, rfl⟩
  rw [← hw_2] at HS
  try rw [← hw_2]
  have hc_2 : Below w_1.heap.size w_1 w_2 := by rw [hw_2]; exact (Below.refl _ _).alloc (Nat.le_refl _) _
  have HS2 := hide (show w_2.heap.size = g6 + 1 by rw [hw_2]; simp [hg6])
  replace HN := hide (HN.out.below hc_2)
  replace HB := hide (HB.out.trans (hc_2.mono (by have := HS1.out; omega)))
  clear hw_2 hc_2 hms
  have hb6 : w_2.heap.size = g6 + 1 := HS2.out
  obtain ⟨w_3, hw_3⟩ : ∃ q : World, q = w_2.alloc (.cells #[.slice (some ⟨g6, 0, none⟩) n n] 147) := ⟨_, rfl⟩
  try rw [← hw_3]
  have HX6 := hide (show Box w_3 (g6 + 1) 147 #[.slice (some ⟨g6, 0, none⟩) n n] by rw [hw_3]; exact Box.made hb6.symm)
  have hc_3 : Below w_2.heap.size w_2 w_3 := by rw [hw_3]; exact (Below.refl _ _).alloc (Nat.le_refl _) _
  replace HN := hide (HN.out.below hc_3)
  replace HS := hide (HS.out.below hc_3)
  replace HB := hide (HB.out.trans (hc_3.mono (by have := HS1.out; have := HS2.out; omega)))
  have n56 : w.heap.size ≠ g6 := by have := HS1.out; have := HS2.out; omega
  have n5b : w.heap.size ≠ (g6 + 1) := by have := HS1.out; have := HS2.out; omega
  have n6b : g6 ≠ (g6 + 1) := by have := HS1.out; have := HS2.out; omega
  have l56 : w.heap.size ≤ g6 := by have := HS1.out; have := HS2.out; omega
  have l5b : w.heap.size ≤ (g6 + 1) := by have := HS1.out; have := HS2.out; omega
  have hgw : w.heap.size ≤ w.heap.size := by omega
  clear hw_3 hc_3 HS1 HS2 hg6 hb6
  go_wp2_with fail
  go_loopw [17] (fun i wr => ∃ k : Nat, k ≤ n ∧ i = .int .i64 (k : Int) ∧ Hid (NumRow wr w.heap.size n (fun j => if j < k then (j : Int) else 0)) ∧ Hid (OwnSqs wr w.heap.size (.slice (some ⟨g6, 0, none⟩) n n) n (fun j => if j < k then Z j else Gau.zero)) ∧ Hid (Box wr (g6 + 1) 147 #[.slice (some ⟨g6, 0, none⟩) n n]) ∧ Hid (Below w.heap.size w wr)) (fun i _ => n - (Go.RowKit.intOf i).toNat)
  case atStart => exact ⟨0, Nat.zero_le _, rfl, hide (HN.out.congr fun _ _ => by simp), hide (HS.out.congr fun _ _ => by simp), HX6, HB⟩
  case round =>
    clear HN HS HX6 HB
    obtain ⟨k, hk, rfl, HN, HS, HX6, HB⟩ := hrel
    obtain ⟨wA, rfl⟩ : ∃ x : World, x = wr := ⟨_, rfl⟩
    have HBw := hide (HB.out.mono (show w.heap.size ≤ w.heap.size by omega))
    by_cases hlt : k < n
    case pos =>
      have hltz : (k : Int) < (n : Int) := by omega
      obtain ⟨b, o, Ai, ci, hbe, -, hbl, hcell, -, -, hik⟩ := HI.out k hlt
      obtain ⟨hLk, -⟩ := HLL.out k hlt
      subst hbe
      rw [hLk] at hcell hik
      have hc1 := (HBw.out.cell (p := ⟨b, o + k, none⟩) hbl).trans hcell
      have HIK := hide hik
      have HPK := hide (HPW.out k hlt)
      have HZK := hide (HZE.out k)
      obtain ⟨z, hz⟩ : ∃ z, Z k = z := ⟨_, rfl⟩
      simp only [hz] at HZK
      rw [HZK.out.1, HZK.out.2] at HPK
      have HZZ := hide hz
      clear hcell hik hLk HZK hz
      go_upto_region 6 with fail
      obtain ⟨g8, hg8⟩ : ∃ q, wA.heap.size = q := ⟨_, rfl⟩
      obtain ⟨w_3, hw_3⟩ : ∃ q : World, q = wA.alloc (.cells #[.slice Ai m ci] 43) := ⟨_, rfl⟩
      try rw [← hw_3]
      have n68 : g6 ≠ g8 := by have := HS.out.lt.2; omega
      have n58 : w.heap.size ≠ g8 := by have := HN.out.r.lt; omega
      have HX8 := hide (show Box w_3 g8 43 #[.slice Ai m ci] by rw [hw_3]; exact Box.made hg8.symm)
      have hc_3 : Below wA.heap.size wA w_3 := by rw [hw_3]; exact (Below.refl _ _).alloc (Nat.le_refl _) _
      clear hw_3
      replace HN := hide (HN.out.below hc_3)
      replace HS := hide (HS.out.below hc_3)
      replace HX6 := hide (HX6.out.below hc_3)
      replace HB := hide (HB.out.trans (hc_3.mono HB.out.size))
      clear hc_3
      try simp only [hg8]
      clear hg8
      clear HBw hc1
      refine wp_region_held_drew (S := fun w' => w'.cell? ⟨(g6 + 1), 0, none⟩ = some (.slice (some ⟨g6, 0, none⟩) n n) ∧ w'.cell? ⟨g8, 0, none⟩ = some (.slice Ai m ci)) (by kernel_rfl) ⟨HX6.out.c1.1, HX8.out.c1.1⟩ (fun hHeld => ?_)
      obtain ⟨w_4, hw_4⟩ : ∃ q : World, q = w_3.drew := ⟨_, rfl⟩
      rw [← hw_4] at hHeld ⊢
      have hc_4 : Below w_3.heap.size w_3 w_4 := by rw [hw_4]; exact (Below.refl _ _).drew
      clear hw_4
      replace HN := hide (HN.out.below hc_4)
      replace HS := hide (HS.out.below hc_4)
      replace HX6 := hide (HX6.out.below hc_4)
      replace HX8 := hide (HX8.out.below hc_4)
      replace HB := hide (HB.out.trans (hc_4.mono HB.out.size))
      clear hc_4
      refine wpAnyH_take (i := 0) (oi := ⟨some 22, _, _, _, _, _⟩) (v := ?_) rfl (by kernel_rfl) (by kernel_rfl) (by kernel_rfl) (fun _ _ _ h => h) (Or.inl ⟨by rfl, ?_⟩) (by assumption) ?_
      rotate_left
      · (intro w' hSw; (try dsimp only at hSw); go_simp <;> (with_reducible rfl))
      try simp only [Act.put, List.setIfInBounds_toArray, List.set_cons_zero, List.set_cons_succ]
      refine wpAnyH_take (i := 1) (oi := ⟨some 23, _, _, _, _, _⟩) (v := ?_) rfl (by kernel_rfl) (by kernel_rfl) (by kernel_rfl) (fun _ _ _ h => h) (Or.inl ⟨by rfl, ?_⟩) (by assumption) ?_
      rotate_left
      · (intro w' hSw; (try dsimp only at hSw); go_simp <;> (with_reducible rfl))
      try simp only [Act.put, List.setIfInBounds_toArray, List.set_cons_zero, List.set_cons_succ]
      refine wpAnyH_take (i := 2) (oi := ⟨some 24, _, _, _, _, _⟩) (v := ?_) rfl (by kernel_rfl) (by kernel_rfl) (by kernel_rfl) (fun _ _ _ h => h) (Or.inl ⟨by rfl, ?_⟩) (by assumption) ?_
      rotate_left
      · (intro w' hSw; (try dsimp only at hSw); go_simp <;> (with_reducible rfl))
      try simp only [Act.put, List.setIfInBounds_toArray, List.set_cons_zero, List.set_cons_succ]
      refine wpAnyH_take (i := 3) (oi := ⟨some 25, _, _, _, _, _⟩) (v := ?_) rfl (by kernel_rfl) (by kernel_rfl) (by kernel_rfl) (fun _ _ _ h => h) (Or.inl ⟨by rfl, ?_⟩) (by assumption) ?_
      rotate_left
      · (intro w' hSw; (try dsimp only at hSw); go_simp <;> (with_reducible rfl))
      try simp only [Act.put, List.setIfInBounds_toArray, List.set_cons_zero, List.set_cons_succ]
      refine wpAnyH_take (i := 4) (oi := ⟨some 26, _, _, _, _, _⟩) (v := ?_) rfl (by kernel_rfl) (by kernel_rfl) (by kernel_rfl) (fun _ _ _ h => h) (Or.inl ⟨by rfl, ?_⟩) (by assumption) ?_
      rotate_left
      · (intro w' hSw; (try dsimp only at hSw); go_simp <;> (with_reducible rfl))
      try simp only [Act.put, List.setIfInBounds_toArray, List.set_cons_zero, List.set_cons_succ]
      refine wpAnyH_take (i := 5) (oi := ⟨some 27, _, _, _, _, _⟩) (v := ?_) rfl (by kernel_rfl) (by kernel_rfl) (by kernel_rfl) (fun _ _ _ h => h) (Or.inl ⟨by rfl, ?_⟩) (by assumption) ?_
      rotate_left
      · (intro w' hSw; (try dsimp only at hSw); go_simp <;> (with_reducible rfl))
      try simp only [Act.put, List.setIfInBounds_toArray, List.set_cons_zero, List.set_cons_succ]
      refine wpAnyH_take (i := 6) (oi := ⟨some 28, _, _, _, _, _⟩) (v := ?_) rfl (by kernel_rfl) (by kernel_rfl) (by kernel_rfl) (fun _ _ _ h => h) (Or.inl ⟨by rfl, ?_⟩) (by assumption) ?_
      rotate_left
      · (intro w' hSw; (try dsimp only at hSw); go_simp <;> (with_reducible rfl))
      try simp only [Act.put, List.setIfInBounds_toArray, List.set_cons_zero, List.set_cons_succ]
      refine wpAnyH_ready (rs := [7]) (by kernel_rfl) (by simp) ?_
      refine AllReadyH.cons (o := ⟨some 29, _, _, _, _, _⟩) rfl (fun K' hK => ?_) AllReadyH.nil
      go_simp
      go_at_call 71
      refine (HPK.out _ _ _ (HIK.out.below (HB.out.mono hgw)) (HJ.out.below (HB.out.mono hgw))).mono ?_
      rintro e_ w_5 ⟨rfl, hb_5⟩
      replace HN := hide (HN.out.below hb_5)
      replace HS := hide (HS.out.below hb_5)
      replace HX6 := hide (HX6.out.below hb_5)
      replace HX8 := hide (HX8.out.below hb_5)
      replace HB := hide (HB.out.trans (hb_5.mono HB.out.size))
      clear hb_5
      go_wp2_with fail
      refine hK.out _ _ ⟨HX6.out.c1.1, HX8.out.c1.1⟩ (fun hHeld => ?_)
      clear hK K'
      try simp only [Act.put, List.setIfInBounds_toArray, List.set_cons_zero, List.set_cons_succ]
      refine wpAnyH_take (i := 8) (oi := ⟨some 30, _, _, _, _, _⟩) (v := ?_) rfl (by kernel_rfl) (by kernel_rfl) (by kernel_rfl) (fun _ _ _ h => h) (Or.inl ⟨by rfl, ?_⟩) (by assumption) ?_
      rotate_left
      · (intro w' hSw; (try dsimp only at hSw); go_simp <;> (with_reducible rfl))
      try simp only [Act.put, List.setIfInBounds_toArray, List.set_cons_zero, List.set_cons_succ]
      refine wpAnyH_ready (rs := [9]) (by kernel_rfl) (by simp) ?_
      refine AllReadyH.cons (o := ⟨none, _, _, _, _, _⟩) rfl (fun K' hK => ?_) AllReadyH.nil
      obtain ⟨c0, f0, hlg⟩ := HN.out.cells hlt
      go_simp
      clear c0 f0 hlg
      replace HN := hide (HN.out.put k (k : Int))
      replace HS := hide (HS.out.other (k := w.heap.size) k (.int .i64 (k : Int)) (by intro e; injection e with e; exact n56 e.symm))
      replace HX6 := hide (HX6.out.other (p := ⟨w.heap.size, k, none⟩) (Ne.symm n5b) (.int .i64 (k : Int)))
      replace HX8 := hide (HX8.out.other (p := ⟨w.heap.size, k, none⟩) (Ne.symm n58) (.int .i64 (k : Int)))
      replace HB := hide (HB.out.setCell (p := ⟨w.heap.size, k, none⟩) (Nat.le_refl _) (.int .i64 (k : Int)))
      obtain ⟨w_6, hw_6⟩ : ∃ q : World, w_5.setCell ⟨w.heap.size, k, none⟩ (.int .i64 (k : Int)) = q := ⟨_, rfl⟩
      rw [hw_6] at HN HS HX6 HX8 HB ⊢
      clear hw_6
      refine hK.out _ _ ⟨HX6.out.c1.1, HX8.out.c1.1⟩ (fun hHeld => ?_)
      clear hK K'
      try simp only [Act.put, List.setIfInBounds_toArray, List.set_cons_zero, List.set_cons_succ]
      refine wpAnyH_take (i := 10) (oi := ⟨some 31, _, _, _, _, _⟩) (v := ?_) rfl (by kernel_rfl) (by kernel_rfl) (by kernel_rfl) (fun _ _ _ h => h) (Or.inl ⟨by rfl, ?_⟩) (by assumption) ?_
      rotate_left
      · (intro w' hSw; (try dsimp only at hSw); go_simp <;> (with_reducible rfl))
      try simp only [Act.put, List.setIfInBounds_toArray, List.set_cons_zero, List.set_cons_succ]
      refine wpAnyH_ready (rs := [11]) (by kernel_rfl) (by simp) ?_
      refine AllReadyH.cons (o := ⟨none, _, _, _, _, _⟩) rfl (fun K' hK => ?_) AllReadyH.nil
      obtain ⟨c0, c1⟩ := HS.out.cells hlt
      obtain ⟨f0, f1⟩ := HS.out.frozen2 k
      have hlg := HS.out.lt.2
      go_simp
      clear c0 c1 f0 f1 hlg
      replace HN := hide (NumRow.mk ((HN.out.r.setOther (a := ⟨g6, k * 2, none⟩) n56 (.int .i64 z.re)).setOther (a := ⟨g6, k * 2 + 1, none⟩) n56 (.int .i64 z.im)))
      replace HS := hide (HS.out.put k z)
      replace HX6 := hide ((HX6.out.other (p := ⟨g6, k * 2, none⟩) (Ne.symm n6b) (.int .i64 z.re)).other (p := ⟨g6, k * 2 + 1, none⟩) (Ne.symm n6b) (.int .i64 z.im))
      replace HX8 := hide ((HX8.out.other (p := ⟨g6, k * 2, none⟩) (Ne.symm n68) (.int .i64 z.re)).other (p := ⟨g6, k * 2 + 1, none⟩) (Ne.symm n68) (.int .i64 z.im))
      replace HB := hide ((HB.out.setCell (p := ⟨g6, k * 2, none⟩) l56 (.int .i64 z.re)).setCell (p := ⟨g6, k * 2 + 1, none⟩) l56 (.int .i64 z.im))
      obtain ⟨w_7, hw_7⟩ : ∃ q : World, (w_6.setCell ⟨g6, k * 2, none⟩ (.int .i64 z.re)).setCell ⟨g6, k * 2 + 1, none⟩ (.int .i64 z.im) = q := ⟨_, rfl⟩
      rw [hw_7] at HN HS HX6 HX8 HB ⊢
      clear hw_7
      refine hK.out _ _ ⟨HX6.out.c1.1, HX8.out.c1.1⟩ (fun hHeld => ?_)
      clear hK K'
      try simp only [Act.put, List.setIfInBounds_toArray, List.set_cons_zero, List.set_cons_succ]
      refine wpAnyH_done (by kernel_rfl) ?_ _
      go_wp2_with fail
      go_roundw
      case rel => exact ⟨k + 1, by omega, by go_num, hide (HN.out.congr fun p _ => by
          by_cases e1 : p = k
          · subst e1; rw [if_pos rfl, if_pos (Nat.lt_succ_self _)]
          · rw [if_neg e1]
            by_cases e2 : p < k
            · rw [if_pos e2, if_pos (by omega)]
            · rw [if_neg e2, if_neg (by omega)]), hide (HS.out.congr fun p _ => by
          unfold setGau
          by_cases e1 : p = k
          · subst e1; rw [if_pos rfl, if_pos (Nat.lt_succ_self _)]; exact HZZ.out.symm
          · rw [if_neg e1]
            show (if p < k then Z p else Gau.zero) = _
            by_cases e2 : p < k
            · rw [if_pos e2, if_pos (by omega)]
            · rw [if_neg e2, if_neg (by omega)]), HX6, HB⟩
      case measure => simp [Go.RowKit.intOf]; omega
    obtain rfl : k = n := by omega
    have HNN := hide (HN.out.congr (H := fun j => (j : Int)) fun j hj => by rw [if_pos hj])
    have HZZ := hide (HS.out.congr (G := Z) fun j hj => by rw [if_pos hj])
    have HSO := hide (show Calls Try.prog 110 #[.slice (some ⟨w.heap.size, 0, none⟩) k k, .func (.func 111) #[] #[.pointer (some ⟨(g6 + 1), 0, none⟩)]] wA fun e w' => (∃ v, e = .returned v) ∧ NumRow w' w.heap.size k (fun j => (isF C k j : Int)) ∧ Only w.heap.size wA w' from sortStable_any 111 #[.pointer (some ⟨(g6 + 1), 0, none⟩)] (enters_of Try.func111 (by kernel_rfl) rfl) C w.heap.size k wA h0 (by omega) HCC.out HNN.out (fun a b ha hb W hO => by
      have e := HSC.out
      rw [← e]
      have hx : CellV W (g6 + 1) 0 (.slice (some ⟨g6, 0, none⟩) k k) := ⟨(hO.box HX6.out (Ne.symm n5b)).c1.1⟩
      have hz : OwnSqs W w.heap.size (.slice (some ⟨g6, 0, none⟩) k k) k Z := World.ownsRow.kept HZZ.out (row := some w.heap.size) hO (.inr (by intro e; injection e with e; exact n56 e.symm))
      exact sweep1_any a b (g6 + 1) g6 k w.heap.size Z W ha hb (by omega) (fun i _ => HZS.out i) hx hz))
    clear HN HS HNN HZZ HX6 HBw
    go_wp2_with fail
    refine HSO.out.mono ?_
    rintro e w9 ⟨⟨v9, rfl⟩, hR9, hO9⟩
    have HR9 := hide hR9
    have HO9 := hide hO9
    have HBZ := hide (HB.out.trans (hO9.to_below (Nat.le_refl _) (by have := HB.out.size; omega)))
    clear hR9 hO9 HSO HB
    go_wp2_with fail
    go_ret
    exact ⟨w.heap.size, rfl, hgw, by rw [← HSS.out]; exact HR9.out, HBZ.out.mono hgw⟩
end Go.Proofs.Ytdkbjgnkehoplaa
/- Sweep and BestOf of the code. -/
namespace Go.Proofs.Ytdkbjgnkehoplaa
open Go.RowKit Go.Great
theorem badE_all {g : Nat → Int} : ∀ {n : Nat}, badE g n = 0 → ∀ i, i < n → g i = 0 := badE_none
theorem swE_zero {n m : Nat} {L : Nat → Nat} {F : Nat → Nat → Int} {X : Nat → Gau} (h : swE n L F m X = 0) : 0 < n ∧ n ≤ 16 ∧ OkC m X ∧ ∀ i, i < n → L i = m ∧ cbE (L i) (F i) = 0 ∧ ∀ j, j < m → -1 ≤ F i j ∧ F i j ≤ 7 := by
  obtain ⟨h1, k1⟩ := firstE_none2 h
  obtain ⟨h2, k2⟩ := firstE_none2 k1
  obtain ⟨h3, k3⟩ := firstE_none2 k2
  obtain ⟨h4, k4⟩ := firstE_none2 k3
  obtain ⟨h5, -⟩ := firstE_none2 k4
  have a1 := unI_none (by decide) h1
  have a2 := unI_none (by decide) h2
  simp at a1 a2
  refine ⟨a1, by omega, chE_ok h4, fun i hi => ?_⟩
  have e1 : unI ((L i : Int) == (m : Int)) 13 = 0 := badE_all h5 i hi
  have e2 : cbE (L i) (F i) = 0 := badE_all h3 i hi
  have e3 := unI_none (by decide) e1
  simp at e3
  have e4 : L i = m := by omega
  refine ⟨e4, e2, fun j hj => (cbE_zero e2).2.1 j (by omega)⟩
/-- What Sweep hands back beside its error. -/
def GotS (W : World) (lo : Nat) (V : Int) (v : Value) (n : Nat) (S : Nat → Nat) : Prop := ∃ A q c, v = .slice A q c ∧ ((V = 0 → q = n) ∧ (V ≠ 0 → q = 0)) ∧ q ≤ c ∧ c ≤ 16 ∧ IntsAt W lo A q (fun j => (S j : Int))
theorem NumRow.ints {w : World} {g n lo : Nat} {G : Nat → Int} (h : NumRow w g n G) (hl : lo ≤ g) : IntsAt w lo (some ⟨g, 0, none⟩) n G := IntsAt.of_row h.r hl
set_option maxHeartbeats 4000000 in
set_option maxRecDepth 100000 in
theorem Sweep_any (A B : Option Addr) (n c m d : Nat) (L : Nat → Nat) (F : Nat → Nat → Int) (X : Nat → Gau) (w : World) (hn : n ≤ 100000) (hm : m ≤ 100000) (hL : ∀ i, i < n → L i ≤ 100000) (hI : BookAt w 0 A n L F) (hJ : GausAt w 0 B m X) :
    Calls Try.prog 13 #[.slice A n c, .slice B m d] w fun e w' => ∃ v, e = .returned (.tuple #[v, .int .i64 (swE n L F m X)]) ∧ GotS w' w.heap.size (swE n L F m X) v n (swS n m F X) ∧ Below w.heap.size w w' := by
  have HI := hide hI
  have HJ := hide hJ
  have HSE := hide (fun W (h : BookAt W 0 A n L F) (k : GausAt W 0 B m X) => sweepError_any A B n c m d L F X W hn hm hL h k)
  have HZ := hide (swE_zero (n := n) (m := m) (L := L) (F := F) (X := X))
  have HSW := hide (fun (h : swE n L F m X = 0) W (k1 : BookAt W 0 A n L F) (k2 : GausAt W 0 B m X) => (show Calls Try.prog 64 #[.slice A n c, .slice B m d] W fun e w' => ∃ g, e = .returned (.slice (some ⟨g, 0, none⟩) n n) ∧ W.heap.size ≤ g ∧ NumRow w' g n (fun j => (swS n m F X j : Int)) ∧ Below W.heap.size W w' by
    obtain ⟨z1, z2, z3, z4⟩ := swE_zero h
    exact sweep_any A B n c m d L F X W z1 z2 z3 (fun i hi => ⟨(z4 i hi).1, (z4 i hi).2.2⟩) k1 k2))
  obtain ⟨S, hS⟩ : ∃ z, swS n m F X = z := ⟨_, rfl⟩
  obtain ⟨V, hV⟩ : ∃ z, swE n L F m X = z := ⟨_, rfl⟩
  simp only [hS, hV] at HSE HZ HSW ⊢
  clear hI hJ hS hV hL
  go_enter Try.func13, Try.ntmps13
  go_wp2_with fail
  refine (HSE.out _ HI.out HJ.out).mono ?_
  rintro e w1 ⟨rfl, hb1⟩
  have HB1 := hide hb1
  clear hb1
  by_cases hv : V = 0
  case neg =>
    have tv : (V != 0) = true := by simpa using hv
    have HV := hide hv
    clear HZ HSW hv
    go_wp2_with fail
    go_ret2
    exact ⟨_, rfl, ⟨none, 0, 0, rfl, ⟨fun h => absurd h HV.out, fun _ => rfl⟩, Nat.le_refl _, by decide, IntsAt.nil_⟩, HB1.out⟩
  have tv : (V != 0) = false := by simpa using hv
  obtain ⟨-, hn16, -⟩ := HZ.out hv
  have HSX := hide (HSW.out hv)
  subst hv
  clear HZ HSW
  go_wp2_with fail
  refine (HSX.out _ (HI.out.below HB1.out) (HJ.out.below HB1.out)).mono ?_
  rintro e w2 ⟨g, rfl, hg, hR, hb2⟩
  have HR := hide hR
  have HG := hide hg
  have HB2 := hide (HB1.out.trans (hb2.mono HB1.out.size))
  clear hb2 hR hg HSX
  go_wp2_with fail
  go_ret2
  exact ⟨_, rfl, ⟨_, n, n, rfl, ⟨fun _ => rfl, fun h => absurd rfl h⟩, Nat.le_refl _, hn16, HR.out.ints (Nat.le_trans HB1.out.size HG.out)⟩, HB2.out⟩
def bsR (n m : Nat) (L : Nat → Nat) (F : Nat → Nat → Int) (X : Nat → Gau) : Int := if swE n L F m X = 0 then (swS n m F X 0 : Int) else 0
set_option maxHeartbeats 4000000 in
set_option maxRecDepth 100000 in
theorem BestOf_any (A B : Option Addr) (n c m d : Nat) (L : Nat → Nat) (F : Nat → Nat → Int) (X : Nat → Gau) (w : World) (hn : n ≤ 100000) (hm : m ≤ 100000) (hL : ∀ i, i < n → L i ≤ 100000) (hI : BookAt w 0 A n L F) (hJ : GausAt w 0 B m X) :
    Calls Try.prog 16 #[.slice A n c, .slice B m d] w fun e w' => e = .returned (.tuple #[.int .i64 (bsR n m L F X), .int .i64 (swE n L F m X)]) ∧ Below w.heap.size w w' := by
  have HI := hide hI
  have HJ := hide hJ
  have HSE := hide (fun W (h : BookAt W 0 A n L F) (k : GausAt W 0 B m X) => sweepError_any A B n c m d L F X W hn hm hL h k)
  have HZ := hide (swE_zero (n := n) (m := m) (L := L) (F := F) (X := X))
  have HR := hide (show bsR n m L F X = if swE n L F m X = 0 then (swS n m F X 0 : Int) else 0 from rfl)
  have HSW := hide (fun (h : swE n L F m X = 0) W (k1 : BookAt W 0 A n L F) (k2 : GausAt W 0 B m X) => (show Calls Try.prog 64 #[.slice A n c, .slice B m d] W fun e w' => ∃ g, e = .returned (.slice (some ⟨g, 0, none⟩) n n) ∧ W.heap.size ≤ g ∧ NumRow w' g n (fun j => (swS n m F X j : Int)) ∧ Below W.heap.size W w' by
    obtain ⟨z1, z2, z3, z4⟩ := swE_zero h
    exact sweep_any A B n c m d L F X W z1 z2 z3 (fun i hi => ⟨(z4 i hi).1, (z4 i hi).2.2⟩) k1 k2))
  obtain ⟨S, hS⟩ : ∃ z, swS n m F X = z := ⟨_, rfl⟩
  obtain ⟨V, hV⟩ : ∃ z, swE n L F m X = z := ⟨_, rfl⟩
  obtain ⟨R, hR⟩ : ∃ z, bsR n m L F X = z := ⟨_, rfl⟩
  simp only [hS, hV, hR] at HSE HZ HSW HR ⊢
  clear hI hJ hS hV hR hL
  go_enter Try.func16, Try.ntmps16
  go_wp2_with fail
  refine (HSE.out _ HI.out HJ.out).mono ?_
  rintro e w1 ⟨rfl, hb1⟩
  have HB1 := hide hb1
  clear hb1
  by_cases hv : V = 0
  case neg =>
    have tv : (V != 0) = true := by simpa using hv
    obtain rfl : R = 0 := HR.out.trans (if_neg hv)
    clear HZ HSW HR hv
    go_wp2_with fail
    go_ret2
    exact ⟨rfl, HB1.out⟩
  have tv : (V != 0) = false := by simpa using hv
  obtain ⟨hn0, hn16, -⟩ := HZ.out hv
  obtain ⟨s, hs⟩ : ∃ z, S 0 = z := ⟨_, rfl⟩
  obtain rfl : R = (s : Int) := by rw [← hs]; exact HR.out.trans (if_pos hv)
  have HSX := hide (HSW.out hv)
  have HS0 := hide hs
  have hn0z : (0 : Int) < (n : Int) := by omega
  subst hv
  clear HZ HSW HR hs
  go_wp2_with fail
  refine (HSX.out _ (HI.out.below HB1.out) (HJ.out.below HB1.out)).mono ?_
  rintro e w2 ⟨g, rfl, hg, hR, hb2⟩
  obtain ⟨c0, -, hlg⟩ := hR.cells hn0
  rw [HS0.out] at c0
  have HB2 := hide (HB1.out.trans (hb2.mono HB1.out.size))
  clear hb2 hR hg HSX
  go_wp2_with fail
  go_ret2
  exact ⟨rfl, HB2.out⟩
end Go.Proofs.Ytdkbjgnkehoplaa
/- within, IsSmall, EighthsErr, Turn, Plus of the reference; Mod of the base. -/
namespace Go.Proofs.Ytdkbjgnkehoplaa
open Go.RowKit
set_option maxHeartbeats 400000 in
theorem modN_any (n m : Int) (w : World) (h0 : 0 < m) (h1 : m ≤ 1000000000) :
    Calls Try.prog 120 #[.int .i64 n, .int .i64 m] w fun e w' => e = .returned (.int .i64 (n % m)) ∧ w = w' := by
  have hm0 : ¬ m = 0 := by omega
  by_cases hn : 0 ≤ n
  · have hb := Int.emod_nonneg n (show m ≠ 0 by omega)
    have hb2 := Int.emod_lt_of_pos n h0
    go_enter Try.func120, Try.ntmps120
    go_wp2_with fail
    go_ret
    exact ⟨rfl, rfl⟩
  · have hneg : n < 0 := by omega
    obtain ⟨r, hr⟩ : ∃ r, r = n.tmod m := ⟨_, rfl⟩
    have hr' := hr.symm
    have hle : -m < r ∧ r ≤ 0 := by
      rw [hr]
      have e := Int.neg_tmod (-n) m
      rw [Int.neg_neg] at e
      rw [e]
      have h2 : (-n).tmod m = (-n) % m := Int.tmod_eq_emod_of_nonneg (by omega)
      rw [h2]
      have := Int.emod_nonneg (-n) (show m ≠ 0 by omega)
      have := Int.emod_lt_of_pos (-n) h0
      omega
    have hdm : n % m = if r < 0 then r + m else r := by
      have h3 := Int.mul_tdiv_add_tmod n m
      rw [← hr] at h3
      split
      · have : n = (r + m) + m * (n.tdiv m - 1) := by rw [Int.mul_sub]; omega
        rw [this, Int.add_mul_emod_self_left]
        exact Int.emod_eq_of_lt (by omega) (by omega)
      · have h0r : r = 0 := by omega
        have : n = 0 + m * n.tdiv m := by omega
        rw [this, Int.add_mul_emod_self_left, h0r]
        rfl
    have HD := hide hdm
    obtain ⟨l1, l2⟩ := hle
    have hnn : ¬ 0 ≤ n := hn
    clear hdm hr hn
    by_cases hrz : r < 0
    · go_enter Try.func120, Try.ntmps120
      go_wp2_with fail
      go_ret
      exact ⟨ret_int (by rw [HD.out, if_pos hrz]), rfl⟩
    · have hr0 : 0 ≤ r := by omega
      have HRZ := hide hrz
      clear hrz
      go_enter Try.func120, Try.ntmps120
      go_wp2_with fail
      go_ret
      exact ⟨ret_int (by rw [HD.out, if_neg (Int.not_lt.2 HRZ.out)]), rfl⟩


theorem mod8 (n : Int) (w : World) : Calls Try.prog 120 #[.int .i64 n, .int .i64 8] w fun e w' => e = .returned (.int .i64 (n % 8)) ∧ w = w' := modN_any n 8 w (by decide) (by decide)
end Go.Proofs.Ytdkbjgnkehoplaa
