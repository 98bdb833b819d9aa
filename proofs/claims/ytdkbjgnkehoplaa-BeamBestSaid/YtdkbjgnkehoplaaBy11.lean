/- Lemmas: E38, Ya, Wo, Wp, Wh, Wj, Wl, Wg. -/
import Derived.Laws.MakeOwn
import Derived.Laws.OwnMore
import Derived.OwnWalk
import Derived.Shelf.Abstract
import Derived.Test.YtdkbjgnkehoplaaBy01
import Derived.Test.YtdkbjgnkehoplaaBy02
import Derived.Test.YtdkbjgnkehoplaaBy03
import Derived.Test.YtdkbjgnkehoplaaBy10
set_option linter.unusedVariables false
set_option linter.unusedSimpArgs false
/- channelError, isHeard, twoError, twoChannelsError of the code. -/
namespace Go.Proofs.Ytdkbjgnkehoplaa
open Go.RowKit Go.Great
structure CellV (w : World) (b o : Nat) (v : Value) : Prop where c : w.cell? ⟨b, o, none⟩ = some v
theorem CellV.lt {w : World} {b o : Nat} {v : Value} (h : CellV w b o v) : b < w.heap.size := World.block_lt_of_cell? w _ h.c
theorem CellV.below {w w' : World} {b o : Nat} {v : Value} (h : CellV w b o v) (hb : Below w.heap.size w w') : CellV w' b o v := ⟨(hb.cell (p := ⟨b, o, none⟩) h.lt).trans h.c⟩
theorem err_parts (x : Gau) : firstE [inE (-30) 30 x.re, inE (-30) 30 x.im] = x.err 30 := by
  unfold Gau.err Gau.isIn inE
  cases withinB x.re (-30) 30 <;> cases withinB x.im (-30) 30 <;> rfl
set_option maxHeartbeats 4000000 in
set_option maxRecDepth 100000 in
theorem channelError1_any (x : Gau) (b b1 b2 : Nat) (w : World) (h0 : CellV w b 0 (.func (.func 122) #[] #[.pointer (some ⟨b1, 0, none⟩), .pointer (some ⟨b2, 0, none⟩)])) (h1 : CellV w b1 0 (.int .i64 (-30))) (h2 : CellV w b2 0 (.int .i64 30)) :
    Calls Try.prog 117 #[.agg #[.int .i64 x.re, .int .i64 x.im], .pointer (some ⟨b, 0, none⟩)] w fun e w' => e = .returned (.int .i64 (x.err 30)) ∧ Below w.heap.size w w' := by
  have HQ := hide (err_parts x)
  have HP0 := hide h0
  have HP1 := hide h1
  have HP2 := hide h2
  obtain ⟨r0, hp⟩ : ∃ z, x.re = z := ⟨_, rfl⟩
  obtain ⟨r1, hq⟩ : ∃ z, x.im = z := ⟨_, rfl⟩
  simp only [hp, hq] at HQ ⊢
  clear h0 h1 h2 hp hq
  go_enter Try.func117, Try.ntmps117
  go_upto_region 1 with fail
  obtain ⟨w_1, hw_1⟩ : ∃ q : World, q = (w.alloc (.cells #[.int .i64 r0, .int .i64 r1] 53)) := ⟨_, rfl⟩
  try rw [← hw_1]
  have HX0 := hide (show Box w_1 (w.heap.size) 53 #[.int .i64 r0, .int .i64 r1] by rw [hw_1]; exact Box.made rfl)
  have HB := hide (show Below w.heap.size w w_1 by rw [hw_1]; (repeat (first | (with_reducible exact Below.refl _ _) | (with_reducible refine Go.below_drewN ?_ _) | (with_reducible refine Below.drew ?_) | (with_reducible refine Below.alloc ?_ (by first | exact Nat.le_refl _ | (simp; done) | (simp; omega) | omega) _) | (with_reducible refine Below.setCell ?_ (by first | exact Nat.le_refl _ | (simp; done) | (simp; omega) | omega) _))))
  clear hw_1
  have HC0 := hide (HP0.out.below HB.out)
  have HC1 := hide (HP1.out.below HB.out)
  have HC2 := hide (HP2.out.below HB.out)
  clear HP0 HP1 HP2
  refine wp_region_held_drew (S := fun w' => w'.cell? ⟨b, 0, none⟩ = some (.func (.func 122) #[] #[.pointer (some ⟨b1, 0, none⟩), .pointer (some ⟨b2, 0, none⟩)]) ∧ w'.cell? ⟨w.heap.size, 0, none⟩ = some (.int .i64 r0) ∧ w'.cell? ⟨w.heap.size, 1, none⟩ = some (.int .i64 r1)) (by kernel_rfl) ⟨HC0.out.c, HX0.out.c2.1, HX0.out.c2.2.1⟩ (fun hHeld => ?_)
  obtain ⟨w_2, hw_2⟩ : ∃ q : World, q = w_1.drew := ⟨_, rfl⟩
  rw [← hw_2] at hHeld ⊢
  have hc_2 : Below w_1.heap.size w_1 w_2 := by rw [hw_2]; exact (Below.refl _ _).drew
  clear hw_2
  replace HX0 := hide (HX0.out.below hc_2)
  replace HC0 := hide (HC0.out.below hc_2)
  replace HC1 := hide (HC1.out.below hc_2)
  replace HC2 := hide (HC2.out.below hc_2)
  replace HB := hide (HB.out.trans (hc_2.mono HB.out.size))
  clear hc_2
  refine wpAnyH_take (i := 0) (oi := ⟨some 4, _, _, _, _, _⟩) (v := ?_) rfl (by kernel_rfl) (by kernel_rfl) (by kernel_rfl) (fun _ _ _ h => h) (Or.inl ⟨by rfl, ?_⟩) (by assumption) ?_
  rotate_left
  · (intro w' hSw; (try dsimp only at hSw); go_simp <;> (with_reducible rfl))
  try simp only [Act.put, List.setIfInBounds_toArray, List.set_cons_zero, List.set_cons_succ]
  refine wpAnyH_take (i := 1) (oi := ⟨some 5, _, _, _, _, _⟩) (v := ?_) rfl (by kernel_rfl) (by kernel_rfl) (by kernel_rfl) (fun _ _ _ h => h) (Or.inl ⟨by rfl, ?_⟩) (by assumption) ?_
  rotate_left
  · (intro w' hSw; (try dsimp only at hSw); go_simp <;> (with_reducible rfl))
  try simp only [Act.put, List.setIfInBounds_toArray, List.set_cons_zero, List.set_cons_succ]
  refine wpAnyH_take (i := 2) (oi := ⟨some 6, _, _, _, _, _⟩) (v := ?_) rfl (by kernel_rfl) (by kernel_rfl) (by kernel_rfl) (fun _ _ _ h => h) (Or.inl ⟨by rfl, ?_⟩) (by assumption) ?_
  rotate_left
  · (intro w' hSw; (try dsimp only at hSw); go_simp <;> (with_reducible rfl))
  try simp only [Act.put, List.setIfInBounds_toArray, List.set_cons_zero, List.set_cons_succ]
  refine wpAnyH_take (i := 4) (oi := ⟨some 8, _, _, _, _, _⟩) (v := ?_) rfl (by kernel_rfl) (by kernel_rfl) (by kernel_rfl) (fun _ _ _ h => h) (Or.inl ⟨by rfl, ?_⟩) (by assumption) ?_
  rotate_left
  · (intro w' hSw; (try dsimp only at hSw); go_simp <;> (with_reducible rfl))
  try simp only [Act.put, List.setIfInBounds_toArray, List.set_cons_zero, List.set_cons_succ]
  refine wpAnyH_take (i := 5) (oi := ⟨some 9, _, _, _, _, _⟩) (v := ?_) rfl (by kernel_rfl) (by kernel_rfl) (by kernel_rfl) (fun _ _ _ h => h) (Or.inl ⟨by rfl, ?_⟩) (by assumption) ?_
  rotate_left
  · (intro w' hSw; (try dsimp only at hSw); go_simp <;> (with_reducible rfl))
  try simp only [Act.put, List.setIfInBounds_toArray, List.set_cons_zero, List.set_cons_succ]
  refine wpAnyH_take (i := 6) (oi := ⟨some 10, _, _, _, _, _⟩) (v := ?_) rfl (by kernel_rfl) (by kernel_rfl) (by kernel_rfl) (fun _ _ _ h => h) (Or.inl ⟨by rfl, ?_⟩) (by assumption) ?_
  rotate_left
  · (intro w' hSw; (try dsimp only at hSw); go_simp <;> (with_reducible rfl))
  try simp only [Act.put, List.setIfInBounds_toArray, List.set_cons_zero, List.set_cons_succ]
  refine wpAnyH_ready (rs := [3]) (by kernel_rfl) (by simp) ?_
  refine AllReadyH.cons (o := ⟨some 7, _, _, _, _, _⟩) rfl (fun K' hK => ?_) AllReadyH.nil
  go_simp
  go_at_call 122
  refine (within1_any r0 (-30) 30 b1 b2 _ HC1.out.c HC2.out.c).mono ?_
  rintro e_ v_ ⟨rfl, rfl⟩
  go_wp2_with fail
  refine hK.out _ _ ⟨HC0.out.c, HX0.out.c2.1, HX0.out.c2.2.1⟩ (fun hHeld => ?_)
  clear hK K'
  try simp only [Act.put, List.setIfInBounds_toArray, List.set_cons_zero, List.set_cons_succ]
  refine wpAnyH_ready (rs := [7]) (by kernel_rfl) (by simp) ?_
  refine AllReadyH.cons (o := ⟨some 11, _, _, _, _, _⟩) rfl (fun K' hK => ?_) AllReadyH.nil
  go_simp
  go_at_call 122
  refine (within1_any r1 (-30) 30 b1 b2 _ HC1.out.c HC2.out.c).mono ?_
  rintro e_ v_ ⟨rfl, rfl⟩
  go_wp2_with fail
  refine hK.out _ _ ⟨HC0.out.c, HX0.out.c2.1, HX0.out.c2.2.1⟩ (fun hHeld => ?_)
  clear hK K'
  try simp only [Act.put, List.setIfInBounds_toArray, List.set_cons_zero, List.set_cons_succ]
  refine wpAnyH_ready (rs := [8]) (by kernel_rfl) (by simp) ?_
  refine AllReadyH.cons (o := ⟨some 12, _, _, _, _, _⟩) rfl (fun K' hK => ?_) AllReadyH.nil
  go_simp
  obtain ⟨g2, hg2⟩ : ∃ q, w_2.heap.size = q := ⟨_, rfl⟩
  obtain ⟨w_3, hw_3⟩ : ∃ q : World, q = w_2.alloc (.cells #[.int .i64 (inE (-30) 30 r0), .int .i64 (inE (-30) 30 r1)] 28) := ⟨_, rfl⟩
  try rw [← hw_3]
  have HE2 := hide (show Box w_3 g2 28 #[.int .i64 (inE (-30) 30 r0), .int .i64 (inE (-30) 30 r1)] by rw [hw_3]; exact Box.made hg2.symm)
  have hc_3 : Below w_2.heap.size w_2 w_3 := by rw [hw_3]; exact (Below.refl _ _).alloc (Nat.le_refl _) _
  clear hw_3
  replace HX0 := hide (HX0.out.below hc_3)
  replace HC0 := hide (HC0.out.below hc_3)
  replace HC1 := hide (HC1.out.below hc_3)
  replace HC2 := hide (HC2.out.below hc_3)
  replace HB := hide (HB.out.trans (hc_3.mono HB.out.size))
  clear hc_3
  try simp only [hg2]
  clear hg2
  refine hK.out _ _ ⟨HC0.out.c, HX0.out.c2.1, HX0.out.c2.2.1⟩ (fun hHeld => ?_)
  clear hK K'
  try simp only [Act.put, List.setIfInBounds_toArray, List.set_cons_zero, List.set_cons_succ]
  refine wpAnyH_ready (rs := [9]) (by kernel_rfl) (by simp) ?_
  refine AllReadyH.cons (o := ⟨some 13, _, _, _, _, _⟩) rfl (fun K' hK => ?_) AllReadyH.nil
  go_simp
  go_at_call 67
  refine (firstError_box g2 2 [inE (-30) 30 r0, inE (-30) 30 r1] _ _ rfl (by decide) HE2.out).mono ?_
  rintro e_ v_ ⟨rfl, rfl⟩
  go_wp2_with fail
  refine hK.out _ _ ⟨HC0.out.c, HX0.out.c2.1, HX0.out.c2.2.1⟩ (fun hHeld => ?_)
  clear hK K'
  try simp only [Act.put, List.setIfInBounds_toArray, List.set_cons_zero, List.set_cons_succ]
  refine wpAnyH_take (i := 10) (oi := ⟨some 3, _, _, _, _, _⟩) (v := ?_) rfl (by kernel_rfl) (by kernel_rfl) (by kernel_rfl) (fun _ _ _ h => h) (Or.inl ⟨by rfl, ?_⟩) (by assumption) ?_
  rotate_left
  · (intro w' hSw; (try dsimp only at hSw); go_simp <;> (with_reducible rfl))
  try simp only [Act.put, List.setIfInBounds_toArray, List.set_cons_zero, List.set_cons_succ]
  refine wpAnyH_done (by kernel_rfl) ?_ _
  rw [HQ.out]
  go_wp2_with fail
  go_ret
  exact ⟨rfl, HB.out⟩
set_option maxHeartbeats 1000000 in
theorem itemsError_gau (g : Nat) (lb : Array Value) (eg : ∀ args w, (callFunc g args).run Try.prog w = .ok (.enter g args) w) (p : Gau → Int) (A : Option Addr) (n c : Nat) (F : Nat → Gau) (w : World)
    (hn : n ≤ 100000) (hI : GausAt w 0 A n F) (hp : ∀ (x : Gau) W, Below w.heap.size w W → Calls Try.prog g (#[.agg #[.int .i64 x.re, .int .i64 x.im]] ++ lb) W fun e w' => e = .returned (.int .i64 (p x)) ∧ Below W.heap.size W w') :
    Calls Try.prog 116 #[.slice A n c, .func (.func g) #[] lb] w fun e w' => e = .returned (.int .i64 (badE (fun j => p (F j)) n)) ∧ Below w.heap.size w w' := by
  have HX := hide (firstWrong_gaus g lb eg p A n c F w hn hI hp)
  clear hI hp
  go_enter Try.func116, Try.ntmps116
  go_wp2_with (go_at_call 144; refine HX.out.mono ?_; rintro e w' ⟨rfl, hb1⟩)
  go_ret
  exact ⟨rfl, hb1⟩
/-- The error of a channel. -/
def chE (n : Nat) (X : Nat → Gau) : Int := firstE [unI (decide (0 < n)) 10, unI (decide ((n : Int) ≤ 8)) 8, gausE 30 X n]
theorem chE_zero {n : Nat} {X : Nat → Gau} (h : chE n X = 0) : (0 < n ∧ n ≤ 8) ∧ ∀ j, j < n → (X j).Within 30 := by
  obtain ⟨h1, h2⟩ := firstE_none2 h
  obtain ⟨h2, h3⟩ := firstE_none2 h2
  obtain ⟨h3, -⟩ := firstE_none2 h3
  have h1 := unI_none (by decide) h1
  have h2 := unI_none (by decide) h2
  simp at h1 h2
  exact ⟨⟨by omega, by omega⟩, gausE_within h3⟩
set_option maxHeartbeats 4000000 in
set_option maxRecDepth 100000 in
theorem channelError_any (A : Option Addr) (n c : Nat) (X : Nat → Gau) (w : World) (hn : n ≤ 100000) (hI : GausAt w 0 A n X) :
    Calls Try.prog 69 #[.slice A n c] w fun e w' => e = .returned (.int .i64 (chE n X)) ∧ Below w.heap.size w w' := by
  have HQ := hide (show firstE [unI (decide (0 < n)) 10, unI (decide ((n : Int) ≤ 8)) 8, gausE 30 X n] = chE n X from rfl)
  have HI := hide hI
  have HIT := hide (fun (b b1 b2 : Nat) (W : World) (h : GausAt W 0 A n X) (h0 : CellV W b 0 (.func (.func 122) #[] #[.pointer (some ⟨b1, 0, none⟩), .pointer (some ⟨b2, 0, none⟩)])) (h1 : CellV W b1 0 (.int .i64 (-30))) (h2 : CellV W b2 0 (.int .i64 30)) => (show Calls Try.prog 116 #[.slice A n c, .func (.func 117) #[] #[.pointer (some ⟨b, 0, none⟩)]] W fun e w' => e = .returned (.int .i64 (gausE 30 X n)) ∧ Below W.heap.size W w' from itemsError_gau 117 #[.pointer (some ⟨b, 0, none⟩)] (enters_of Try.func117 (by kernel_rfl) rfl) (fun x => x.err 30) A n c X W hn h (fun x V hV => channelError1_any x b b1 b2 V (h0.below hV) (h1.below hV) (h2.below hV))))
  obtain ⟨u, hu⟩ : ∃ z, gausE 30 X n = z := ⟨_, rfl⟩
  simp only [hu] at HQ HIT
  clear hI hu
  go_enter Try.func69, Try.ntmps69
  go_wp2_with fail
  refine (within_clo _ _ _).mono ?_
  rintro e w1 ⟨rfl, c1, c2, hb1⟩
  have k1 := World.block_lt_of_cell? w1 _ c1
  have k2 := World.block_lt_of_cell? w1 _ c2
  simp only at k1 k2
  have bx : Box (w1.alloc (.cells #[.nilFunc] 114)) w1.heap.size 114 #[.nilFunc] := Box.made rfl
  obtain ⟨FV, hFV⟩ : ∃ z, Value.func (.func 122) #[] #[.pointer (some ⟨w.heap.size, 0, none⟩), .pointer (some ⟨w.heap.size + 1, 0, none⟩)] = z := ⟨_, rfl⟩
  have one : FV.oneCell' = true := by rw [← hFV]; rfl
  have hst : Sem.run Try.prog (Go.store ⟨w1.heap.size, 0, none⟩ FV) (w1.alloc (.cells #[.nilFunc] 114)) = .ok () ((w1.alloc (.cells #[.nilFunc] 114)).setCell ⟨w1.heap.size, 0, none⟩ FV) := by
    obtain ⟨x0, f0, -⟩ := bx.c1
    rw [run_store _ _ _ _ _ (by rw [← hFV]; rfl)]
    simp [x0, f0]
  rw [← hFV] at hst
  have HFV := hide hFV
  clear hFV
  go_upto_region 2 with fail
  obtain ⟨W2, hW2⟩ : ∃ q : World, q = w1.alloc (.cells #[.func (.func 122) #[] #[.pointer (some ⟨w.heap.size, 0, none⟩), .pointer (some ⟨w.heap.size + 1, 0, none⟩)]] 114) := ⟨_, rfl⟩
  rw [← hW2]
  obtain ⟨b, hb⟩ : ∃ z, w1.heap.size = z := ⟨_, rfl⟩
  have HC0 := hide (show CellV W2 b 0 (.func (.func 122) #[] #[.pointer (some ⟨w.heap.size, 0, none⟩), .pointer (some ⟨w.heap.size + 1, 0, none⟩)]) from ⟨by rw [hW2]; exact (Box.made hb.symm).at_ 0⟩)
  have hb2 : Below w1.heap.size w1 W2 := by rw [hW2]; exact (Below.refl _ _).alloc (Nat.le_refl _) _
  have HC1 := hide (show CellV W2 w.heap.size 0 (.int .i64 (-30)) from CellV.below ⟨c1⟩ hb2)
  have HC2 := hide (show CellV W2 (w.heap.size + 1) 0 (.int .i64 30) from CellV.below ⟨c2⟩ hb2)
  have HB := hide (hb1.trans (hb2.mono hb1.size))
  try simp only [hb]
  clear c1 c2 hb1 hb2 hW2 k1 k2 hb HFV bx hst one
  have HI2 := hide (HI.out.below HB.out)
  go_wp2_with (first | (go_at_call 70; refine (unless_any _ _ _).mono ?_; rintro e w' ⟨rfl, rfl⟩) | (go_at_call 116; refine (HIT.out _ _ _ _ HI2.out HC0.out HC1.out HC2.out).mono ?_; rintro e w3 ⟨rfl, hb3⟩))
  refine (firstError_laid [unI (decide (0 < n)) 10, unI (decide ((n : Int) ≤ 8)) 8, u] 3 _ _ rfl (by decide)).mono ?_
  rintro e w4 ⟨rfl, hw4⟩
  rw [HQ.out]
  go_wp2_with fail
  go_ret
  have hB3 := HB.out.trans (hb3.mono HB.out.size)
  exact ⟨rfl, by rw [← hw4]; exact hB3.alloc hB3.size _⟩
def heardB (x : Gau) : Bool := x.re != 0 || x.im != 0
set_option maxHeartbeats 1000000 in
theorem isHeard1_any (x : Gau) (w : World) : Calls Try.prog 148 #[.agg #[.int .i64 x.re, .int .i64 x.im]] w fun e w' => e = .returned (.bool (heardB x)) ∧ Below w.heap.size w w' := by
  have HQ := hide (show (x.re != 0 || x.im != 0) = heardB x from rfl)
  obtain ⟨p, hp⟩ : ∃ z, x.re = z := ⟨_, rfl⟩
  obtain ⟨q, hq⟩ : ∃ z, x.im = z := ⟨_, rfl⟩
  simp only [hp, hq] at HQ ⊢
  clear hp hq
  by_cases h0 : p = 0
  · subst h0
    by_cases h1 : q = 0
    · subst h1
      have HQ2 := hide (show heardB x = false from HQ.out.symm)
      rw [HQ2.out]
      clear HQ
      go_enter Try.func148, Try.ntmps148
      go_wp2_with fail
      go_ret
      exact ⟨rfl, by (repeat (first | (with_reducible exact Below.refl _ _) | (with_reducible refine Go.below_drewN ?_ _) | (with_reducible refine Below.drew ?_) | (with_reducible refine Below.alloc ?_ (by first | exact Nat.le_refl _ | (simp; done) | (simp; omega) | omega) _) | (with_reducible refine Below.setCell ?_ (by first | exact Nat.le_refl _ | (simp; done) | (simp; omega) | omega) _)))⟩
    · have t1 : (q == 0) = false := by simpa using h1
      have HQ2 := hide (show heardB x = true by rw [← HQ.out]; simp [h1])
      rw [HQ2.out]
      clear HQ
      go_enter Try.func148, Try.ntmps148
      go_wp2_with fail
      go_ret
      exact ⟨rfl, by (repeat (first | (with_reducible exact Below.refl _ _) | (with_reducible refine Go.below_drewN ?_ _) | (with_reducible refine Below.drew ?_) | (with_reducible refine Below.alloc ?_ (by first | exact Nat.le_refl _ | (simp; done) | (simp; omega) | omega) _) | (with_reducible refine Below.setCell ?_ (by first | exact Nat.le_refl _ | (simp; done) | (simp; omega) | omega) _)))⟩
  · have t1 : (p == 0) = false := by simpa using h0
    have HQ2 := hide (show heardB x = true by rw [← HQ.out]; simp [h0])
    rw [HQ2.out]
    clear HQ
    go_enter Try.func148, Try.ntmps148
    go_wp2_with fail
    go_ret
    exact ⟨rfl, by (repeat (first | (with_reducible exact Below.refl _ _) | (with_reducible refine Go.below_drewN ?_ _) | (with_reducible refine Below.drew ?_) | (with_reducible refine Below.alloc ?_ (by first | exact Nat.le_refl _ | (simp; done) | (simp; omega) | omega) _) | (with_reducible refine Below.setCell ?_ (by first | exact Nat.le_refl _ | (simp; done) | (simp; omega) | omega) _)))⟩
set_option maxHeartbeats 2000000 in
theorem indexFunc_gaus (g : Nat) (lb : Array Value) (eg : ∀ args w, (callFunc g args).run Try.prog w = .ok (.enter g args) w) (p : Gau → Bool) (A : Option Addr) (n c : Nat) (F : Nat → Gau) (w : World)
    (hn : n ≤ 100000) (hI : GausAt w 0 A n F) (hp : ∀ x W, Calls Try.prog g (#[.agg #[.int .i64 (Gau.re x), .int .i64 x.im]] ++ lb) W fun e w' => e = .returned (.bool (p x)) ∧ Below W.heap.size W w') :
    Calls Try.prog 157 #[.slice A n c, .func (.func g) #[] lb] w fun e w' => ∃ r : Int, e = .returned (.int .i64 r) ∧ (0 ≤ r ↔ ∃ j, j < n ∧ p (F j) = true) ∧ Below w.heap.size w w' := by
  have HP := hide hp
  have HI := hide hI
  clear hp hI
  go_enter Try.func157, Try.ntmps157
  go_wp2_with fail
  go_loopg [8] n (fun gg s8 wr => ∃ k : Nat, k ≤ n ∧ n - k ≤ gg ∧ s8 = .int .i64 k ∧ Hid (Below w.heap.size w wr) ∧ Hid (∀ j, j < k → p (F j) = false))
  case atStart => exact ⟨0, Nat.zero_le _, by omega, rfl, hide (Below.refl _ _), hide fun j h => absurd h (Nat.not_lt_zero _)⟩
  case round =>
    obtain ⟨k, hk, hg, rfl, HB, HZ⟩ := hrel
    obtain ⟨wA, rfl⟩ : ∃ x : World, x = wr := ⟨_, rfl⟩
    by_cases hlt : k < n
    · have hltz : (k : Int) < (n : Int) := by omega
      obtain ⟨b, o, rfl, -, hb, c0, c1⟩ := (HI.out.below HB.out) k hlt
      have hcall := HP.out (F k)
      have HF := hide (rfl : F k = F k)
      generalize hx : F k = x at c0 c1 hcall
      have HX := hide hx
      clear hx HF
      cases hq : p x with
      | true =>
        rw [hq] at hcall
        go_wp2_with (go_at_fn g; refine (hcall _).mono ?_; rintro e w' ⟨rfl, hb2⟩)
        go_ret
        exact ⟨(k : Int), rfl, ⟨fun _ => ⟨k, hlt, by rw [HX.out]; exact hq⟩, fun _ => by omega⟩, HB.out.trans (hb2.mono HB.out.size)⟩
      | false =>
        rw [hq] at hcall
        go_wp2_with (go_at_fn g; refine (hcall _).mono ?_; rintro e w' ⟨rfl, hb2⟩)
        go_roundg (n - (k + 1))
        case measure => omega
        case rel =>
          refine ⟨k + 1, by omega, by omega, by go_num, hide (HB.out.trans (hb2.mono HB.out.size)), hide fun j hj => ?_⟩
          rcases Nat.lt_or_ge j k with h | h
          · exact HZ.out j h
          · obtain rfl : j = k := by omega
            rw [HX.out]; exact hq
    · have hltz : ¬ (k : Int) < (n : Int) := by omega
      obtain rfl : k = n := by omega
      go_wp2_with fail
      go_ret
      exact ⟨-1, rfl, ⟨fun h => absurd h (by decide), fun ⟨j, hj, ht⟩ => by rw [HZ.out j hj] at ht; cases ht⟩, HB.out⟩
/-- Whether a channel is heard. -/
def hrB (n : Nat) (X : Nat → Gau) : Bool := anyN n fun j => heardB (X j)
theorem hrB_energy {n : Nat} {X : Nat → Gau} : hrB n X = (enI X n != 0) := by
  rw [Bool.eq_iff_iff]
  unfold hrB
  rw [anyN_iff]
  simp only [heardB, Bool.or_eq_true, bne_iff_ne]
  constructor
  · rintro ⟨j, hj, h⟩ he
    have := enI_zero he j hj
    omega
  · intro h
    refine Decidable.byContradiction fun hn => h (enI_none fun j hj => ?_)
    refine ⟨Decidable.byContradiction fun h1 => hn ⟨j, hj, .inl h1⟩, Decidable.byContradiction fun h1 => hn ⟨j, hj, .inr h1⟩⟩
set_option maxHeartbeats 1000000 in
theorem isHeard_any (A : Option Addr) (n c : Nat) (X : Nat → Gau) (w : World) (hn : n ≤ 100000) (hI : GausAt w 0 A n X) :
    Calls Try.prog 128 #[.slice A n c] w fun e w' => e = .returned (.bool (hrB n X)) ∧ Below w.heap.size w w' := by
  have HX := hide (indexFunc_gaus 148 #[] (enters_of Try.func148 (by kernel_rfl) rfl) heardB A n c X w hn hI (fun x W => isHeard1_any x W))
  have HC := hide (show Calls Try.prog 147 #[.slice A n c, .func (.func 148) #[] #[]] w fun e w' => e = .returned (.bool (hrB n X)) ∧ Below w.heap.size w w' by
    clear hI
    go_enter Try.func147, Try.ntmps147
    go_wp2_with (go_at_call 157; refine HX.out.mono ?_; rintro e w' ⟨r, rfl, hr, hb⟩)
    go_ret
    refine ⟨ret_bool ?_, hb⟩
    unfold hrB
    rw [Bool.eq_iff_iff, anyN_iff]
    exact decide_eq_true_iff)
  clear HX hI
  go_enter Try.func128, Try.ntmps128
  go_wp2_with (go_at_call 147; refine HC.out.mono ?_; rintro e w' ⟨rfl, hb⟩)
  go_ret
  exact ⟨rfl, hb⟩
/-- The errors of two channels that may be 0, and of two that may not. -/
def bthE (n m : Nat) (X Y : Nat → Gau) : Int := firstE [chE n X, chE m Y, unI ((n : Int) == (m : Int)) 13]
def tchE (n m : Nat) (X Y : Nat → Gau) : Int := firstE [bthE n m X Y, unI (hrB n X && hrB m Y) 11]
theorem bthE_zero {n m : Nat} {X Y : Nat → Gau} (h : bthE n m X Y = 0) : chE n X = 0 ∧ chE m Y = 0 ∧ m = n := by
  obtain ⟨h1, h2⟩ := firstE_none2 h
  obtain ⟨h2, h3⟩ := firstE_none2 h2
  obtain ⟨h3, -⟩ := firstE_none2 h3
  have h3 := unI_none (by decide) h3
  simp at h3
  exact ⟨h1, h2, by omega⟩
theorem tchE_zero {n m : Nat} {X Y : Nat → Gau} (h : tchE n m X Y = 0) : bthE n m X Y = 0 ∧ hrB n X = true ∧ hrB m Y = true := by
  obtain ⟨h1, h2⟩ := firstE_none2 h
  obtain ⟨h2, -⟩ := firstE_none2 h2
  have h2 := unI_none (by decide) h2
  rw [Bool.and_eq_true] at h2
  exact ⟨h1, h2⟩
set_option maxHeartbeats 2000000 in
set_option maxRecDepth 100000 in
theorem twoError_any (A B : Option Addr) (n c m d : Nat) (X Y : Nat → Gau) (w : World) (hn : n ≤ 100000) (hm : m ≤ 100000) (hI : GausAt w 0 A n X) (hJ : GausAt w 0 B m Y) :
    Calls Try.prog 80 #[.slice A n c, .slice B m d] w fun e w' => e = .returned (.int .i64 (bthE n m X Y)) ∧ Below w.heap.size w w' := by
  have HQ := hide (show firstE [chE n X, chE m Y, unI ((n : Int) == (m : Int)) 13] = bthE n m X Y from rfl)
  have HI := hide hI
  have HJ := hide hJ
  have HCX := hide (fun W (h : GausAt W 0 A n X) => channelError_any A n c X W hn h)
  have HCY := hide (fun W (h : GausAt W 0 B m Y) => channelError_any B m d Y W hm h)
  obtain ⟨u, hu⟩ : ∃ z, chE n X = z := ⟨_, rfl⟩
  obtain ⟨v, hv⟩ : ∃ z, chE m Y = z := ⟨_, rfl⟩
  simp only [hu, hv] at HQ HCX HCY
  clear hI hJ hu hv
  go_enter Try.func80, Try.ntmps80
  go_wp2_with fail
  refine (HCX.out _ HI.out).mono ?_
  rintro e w1 ⟨rfl, hb1⟩
  have HB1 := hide hb1
  clear hb1
  go_wp2_with fail
  refine (HCY.out _ (HJ.out.below HB1.out)).mono ?_
  rintro e w2 ⟨rfl, hb2⟩
  have HB2 := hide (HB1.out.trans (hb2.mono HB1.out.size))
  clear hb2 HB1
  go_wp2_with (go_at_call 70; refine (unless_any _ _ _).mono ?_; rintro e w' ⟨rfl, rfl⟩)
  refine (firstError_laid [u, v, unI ((n : Int) == (m : Int)) 13] 3 _ _ rfl (by decide)).mono ?_
  rintro e w4 ⟨rfl, hw4⟩
  rw [HQ.out]
  go_wp2_with fail
  go_ret
  exact ⟨rfl, by rw [← hw4]; exact HB2.out.alloc HB2.out.size _⟩
set_option maxHeartbeats 2000000 in
set_option maxRecDepth 100000 in
theorem twoChannelsError_any (A B : Option Addr) (n c m d : Nat) (X Y : Nat → Gau) (w : World) (hn : n ≤ 100000) (hm : m ≤ 100000) (hI : GausAt w 0 A n X) (hJ : GausAt w 0 B m Y) :
    Calls Try.prog 84 #[.slice A n c, .slice B m d] w fun e w' => e = .returned (.int .i64 (tchE n m X Y)) ∧ Below w.heap.size w w' := by
  have HQ := hide (show firstE [bthE n m X Y, unI (hrB n X && hrB m Y) 11] = tchE n m X Y from rfl)
  have HI := hide hI
  have HJ := hide hJ
  have HCT := hide (fun W (h : GausAt W 0 A n X) (k : GausAt W 0 B m Y) => twoError_any A B n c m d X Y W hn hm h k)
  have HHX := hide (fun W (h : GausAt W 0 A n X) => isHeard_any A n c X W hn h)
  have HHY := hide (fun W (h : GausAt W 0 B m Y) => isHeard_any B m d Y W hm h)
  obtain ⟨t, ht⟩ : ∃ z, tchE n m X Y = z := ⟨_, rfl⟩
  obtain ⟨u, hu⟩ : ∃ z, bthE n m X Y = z := ⟨_, rfl⟩
  obtain ⟨x, hx⟩ : ∃ z, hrB n X = z := ⟨_, rfl⟩
  obtain ⟨y, hy⟩ : ∃ z, hrB m Y = z := ⟨_, rfl⟩
  simp only [hu, hx, hy, ht] at HQ HCT HHX HHY ⊢
  clear hI hJ hu hx hy ht
  go_enter Try.func84, Try.ntmps84
  go_wp2_with fail
  refine (HCT.out _ HI.out HJ.out).mono ?_
  rintro e w1 ⟨rfl, hb1⟩
  have HB1 := hide hb1
  clear hb1
  go_wp2_with fail
  refine (HHX.out _ (HI.out.below HB1.out)).mono ?_
  rintro e w2 ⟨rfl, hb2⟩
  have HB2 := hide (HB1.out.trans (hb2.mono HB1.out.size))
  clear hb2 HB1
  cases x
  · rw [Bool.false_and] at HQ
    go_wp2_with (go_at_call 70; refine (unless_any _ _ _).mono ?_; rintro e w' ⟨rfl, rfl⟩)
    refine (firstError_laid [u, unI false 11] 2 _ _ rfl (by decide)).mono ?_
    rintro e w4 ⟨rfl, hw4⟩
    rw [HQ.out]
    go_wp2_with fail
    go_ret
    exact ⟨rfl, by rw [← hw4]; exact HB2.out.alloc HB2.out.size _⟩
  · rw [Bool.true_and] at HQ
    go_wp2_with fail
    refine (HHY.out _ (HJ.out.below HB2.out)).mono ?_
    rintro e w3 ⟨rfl, hb3⟩
    have HB3 := hide (HB2.out.trans (hb3.mono HB2.out.size))
    clear hb3 HB2
    go_wp2_with (go_at_call 70; refine (unless_any _ _ _).mono ?_; rintro e w' ⟨rfl, rfl⟩)
    refine (firstError_laid [u, unI y 11] 2 _ _ rfl (by decide)).mono ?_
    rintro e w4 ⟨rfl, hw4⟩
    rw [HQ.out]
    go_wp2_with fail
    go_ret
    exact ⟨rfl, by rw [← hw4]; exact HB3.out.alloc HB3.out.size _⟩
end Go.Proofs.Ytdkbjgnkehoplaa
/- Slices of api.Phasor in memory, those of the call's own, an append to one. -/
namespace Go.Proofs.Ytdkbjgnkehoplaa
open Go.RowKit
structure Pha where
  re : Int
  im : Int
  den : Int
theorem Pha.same {x y : Pha} (h0 : x.re = y.re) (h1 : x.im = y.im) (h2 : x.den = y.den) : x = y := by
  cases x; cases y; simp_all
def Pha.zero : Pha := ⟨0, 0, 0⟩
def Pha.part (x : Pha) (i : Nat) : Int := if i = 0 then x.re else if i = 1 then x.im else x.den
def PhasAt (w : World) (lo : Nat) (A : Option Addr) (n : Nat) (F : Nat → Pha) : Prop :=
  ∀ i, i < n → ∃ b o, A = some ⟨b, o, none⟩ ∧ lo ≤ b ∧ b < w.heap.size ∧ w.cell? ⟨b, o + i * 3, none⟩ = some (.int .i64 (F i).re) ∧ w.cell? ⟨b, o + i * 3 + 1, none⟩ = some (.int .i64 (F i).im) ∧ w.cell? ⟨b, o + i * 3 + 2, none⟩ = some (.int .i64 (F i).den)
section
variable {w w' : World} {lo n : Nat} {A : Option Addr} {F : Nat → Pha}
theorem PhasAt.nil_ : PhasAt w lo A 0 F := fun i h => absurd h (Nat.not_lt_zero i)
theorem PhasAt.below (h : PhasAt w lo A n F) (hb : Below w.heap.size w w') : PhasAt w' lo A n F := fun i hi => by
  obtain ⟨b, o, e, h1, h2, k0, k1, k2⟩ := h i hi
  exact ⟨b, o, e, h1, Nat.lt_of_lt_of_le h2 hb.size, (hb.cell (p := ⟨b, _, none⟩) h2).trans k0, (hb.cell (p := ⟨b, _, none⟩) h2).trans k1, (hb.cell (p := ⟨b, _, none⟩) h2).trans k2⟩
theorem PhasAt.alloc (h : PhasAt w lo A n F) (x : Obj) : PhasAt (w.alloc x) lo A n F := h.below ((Below.refl _ _).alloc (Nat.le_refl _) _)
theorem PhasAt.drewN (h : PhasAt w lo A n F) (m : Nat) : PhasAt (w.drewN m) lo A n F := h
theorem PhasAt.weak {lo' : Nat} (h : PhasAt w lo A n F) (hl : lo' ≤ lo) : PhasAt w lo' A n F := fun i hi => by
  obtain ⟨b, o, e, h1, h2⟩ := h i hi
  exact ⟨b, o, e, Nat.le_trans hl h1, h2⟩
theorem PhasAt.congr {G : Nat → Pha} (h : PhasAt w lo A n F) (e : ∀ i, i < n → F i = G i) : PhasAt w lo A n G := fun i hi => by
  rw [← e i hi]; exact h i hi
theorem PhasAt.fewer {m : Nat} (h : PhasAt w lo A n F) (hm : m ≤ n) : PhasAt w lo A m F := fun i hi => h i (Nat.lt_of_lt_of_le hi hm)
theorem PhasAt.one {b : Nat} {x : Pha} {t : TypeId} (h : Box w b t #[.int .i64 x.re, .int .i64 x.im, .int .i64 x.den]) : PhasAt w 0 (some ⟨b, 0, none⟩) 1 (fun _ => x) := fun i hi => by
  obtain rfl : i = 0 := by omega
  exact ⟨b, 0, rfl, Nat.zero_le _, h.lt, h.at_ 0, h.at_ 1, h.at_ 2⟩
end
def phaVals (n : Nat) (F : Nat → Pha) : List Value := (List.range (n * 3)).map fun j => Value.int .i64 ((F (j / 3)).part (j % 3))
theorem phaVals_len (n : Nat) (F : Nat → Pha) : (phaVals n F).length = n * 3 := by simp [phaVals]
theorem phaVals_get (n : Nat) (F : Nat → Pha) (j : Nat) : (phaVals n F)[j]? = if j < n * 3 then some (.int .i64 ((F (j / 3)).part (j % 3))) else none := by
  unfold phaVals
  by_cases h : j < n * 3
  · rw [if_pos h]; simp [h]
  · rw [if_neg h, List.getElem?_eq_none (by simp; omega)]
theorem phaVals_congr {n : Nat} {F G : Nat → Pha} (h : ∀ j, j < n → F j = G j) : phaVals n F = phaVals n G := by
  unfold phaVals
  exact List.map_congr_left fun j hj => by
    have := List.mem_range.1 hj
    rw [h (j / 3) (by omega)]
def setPha (F : Nat → Pha) (k : Nat) (x : Pha) (j : Nat) : Pha := if j = k then x else F j
def catPha (n : Nat) (F G : Nat → Pha) : Nat → Pha := fun j => if j < n then F j else G (j - n)
theorem phaVals_cat (n m : Nat) (F G : Nat → Pha) : phaVals n F ++ phaVals m G = phaVals (n + m) (catPha n F G) := by
  apply List.ext_getElem?
  intro j
  rw [List.getElem?_append, phaVals_len, phaVals_get, phaVals_get, phaVals_get]
  unfold catPha
  by_cases h1 : j < n * 3
  · rw [if_pos h1, if_pos h1, if_pos (by omega), if_pos (by omega)]
  · rw [if_neg h1]
    by_cases h2 : j - n * 3 < m * 3
    · rw [if_pos h2, if_pos (by omega), if_neg (by omega), show (j - n * 3) / 3 = j / 3 - n by omega, show (j - n * 3) % 3 = j % 3 by omega]
    · rw [if_neg h2, if_neg (by omega)]
theorem PhasAt.part {w : World} {lo n : Nat} {A : Option Addr} {F : Nat → Pha} (h : PhasAt w lo A n F) {j : Nat} (hj : j < n * 3) : ∃ b o, A = some ⟨b, o, none⟩ ∧ w.cell? ⟨b, o + j, none⟩ = some (.int .i64 ((F (j / 3)).part (j % 3))) := by
  obtain ⟨b, o, rfl, -, -, h0, h1, h2⟩ := h (j / 3) (by omega)
  refine ⟨b, o, rfl, ?_⟩
  have hlt := Nat.mod_lt j (show 0 < 3 by decide)
  have hd := Nat.div_add_mod j 3
  obtain e | e | e : j % 3 = 0 ∨ j % 3 = 1 ∨ j % 3 = 2 := by omega
  · rw [e, show o + j = o + j / 3 * 3 by omega]; exact h0
  · rw [e, show o + j = o + j / 3 * 3 + 1 by omega]; exact h1
  · rw [e, show o + j = o + j / 3 * 3 + 2 by omega]; exact h2
end Go.Proofs.Ytdkbjgnkehoplaa
/- Numbers of the call's own: a slice of structs of four cells in a new block. -/
namespace Go.Proofs.Ytdkbjgnkehoplaa
open Go.RowKit
def numVals (n : Nat) (F : Nat → Num) : List Value := (List.range (n * 4)).map fun j => Value.int .i64 ((F (j / 4)).part (j % 4))
theorem numVals_len (n : Nat) (F : Nat → Num) : (numVals n F).length = n * 4 := by simp [numVals]
theorem numVals_get (n : Nat) (F : Nat → Num) (j : Nat) : (numVals n F)[j]? = if j < n * 4 then some (.int .i64 ((F (j / 4)).part (j % 4))) else none := by
  unfold numVals
  by_cases h : j < n * 4
  · rw [if_pos h]; simp [h]
  · rw [if_neg h, List.getElem?_eq_none (by simp; omega)]
theorem numVals_congr {n : Nat} {F G : Nat → Num} (h : ∀ j, j < n → F j = G j) : numVals n F = numVals n G := by
  unfold numVals
  exact List.map_congr_left fun j hj => by
    have := List.mem_range.1 hj
    rw [h (j / 4) (by omega)]
def setNum (F : Nat → Num) (k : Nat) (x : Num) (j : Nat) : Num := if j = k then x else F j
/-- A slice of the call's own, of n numbers F, in a block that is not ahead of base. -/
def OwnNums (w : World) (base : Nat) (v : Value) (n : Nat) (F : Nat → Num) : Prop := w.ownsRow base 109 4 v n (numVals n F)
theorem OwnNums.congr {w : World} {base n : Nat} {v : Value} {F G : Nat → Num} (h : OwnNums w base v n F) (e : ∀ j, j < n → F j = G j) : OwnNums w base v n G := by
  unfold OwnNums at h ⊢
  rwa [← numVals_congr e]
theorem OwnNums.drew {w : World} {base n : Nat} {v : Value} {F : Nat → Num} (h : OwnNums w base v n F) : OwnNums w.drew base v n F := h
theorem OwnNums.drewN {w : World} {base n : Nat} {v : Value} {F : Nat → Num} (h : OwnNums w base v n F) (q : Nat) : OwnNums (w.drewN q) base v n F := h
theorem OwnNums.alloc {w : World} {base n : Nat} {v : Value} {F : Nat → Num} (h : OwnNums w base v n F) (o : Obj) : OwnNums (w.alloc o) base v n F := World.ownsRow.alloc h o
theorem OwnNums.below {w w' : World} {base n : Nat} {v : Value} {F : Nat → Num} (h : OwnNums w base v n F) (hb : Below w.heap.size w w') : OwnNums w' base v n F :=
  World.ownsRow.kept h (row := none) ⟨hb.os, hb.tape, hb.output, hb.size, fun k hk _ => hb.block k hk⟩ (by cases v.ownBlock <;> simp)
theorem OwnNums.lt {w : World} {base n g c : Nat} {F : Nat → Num} (h : OwnNums w base (.slice (some ⟨g, 0, none⟩) n c) n F) : base ≤ g ∧ g < w.heap.size := World.ownsRow.lt h g rfl
theorem OwnNums.part {w : World} {base n g c : Nat} {F : Nat → Num} (h : OwnNums w base (.slice (some ⟨g, 0, none⟩) n c) n F) {k i : Nat} (hk : k < n) (hi : i < 4) : w.cell? ⟨g, k * 4 + i, none⟩ = some (.int .i64 ((F k).part i)) := by
  rw [World.ownsRow.cellAt h (k * 4 + i) (by omega), numVals_get, if_pos (by omega), show (k * 4 + i) / 4 = k by omega, show (k * 4 + i) % 4 = i by omega]
theorem OwnNums.cells {w : World} {base n g c : Nat} {F : Nat → Num} (h : OwnNums w base (.slice (some ⟨g, 0, none⟩) n c) n F) {k : Nat} (hk : k < n) :
    w.cell? ⟨g, k * 4, none⟩ = some (.int .i64 (F k).a) ∧ w.cell? ⟨g, k * 4 + 1, none⟩ = some (.int .i64 (F k).b) ∧ w.cell? ⟨g, k * 4 + 2, none⟩ = some (.int .i64 (F k).c) ∧ w.cell? ⟨g, k * 4 + 3, none⟩ = some (.int .i64 (F k).d) :=
  ⟨h.part hk (show 0 < 4 by decide), h.part hk (show 1 < 4 by decide), h.part hk (show 2 < 4 by decide), h.part hk (show 3 < 4 by decide)⟩
theorem OwnNums.frozen {w : World} {base n g c : Nat} {F : Nat → Num} (h : OwnNums w base (.slice (some ⟨g, 0, none⟩) n c) n F) (k : Nat) : w.frozen? ⟨g, k, none⟩ = false := World.ownsRow.frozenAt h k
theorem OwnNums.frozen4 {w : World} {base n g c : Nat} {F : Nat → Num} (h : OwnNums w base (.slice (some ⟨g, 0, none⟩) n c) n F) (k : Nat) : w.frozen? ⟨g, k * 4, none⟩ = false ∧ w.frozen? ⟨g, k * 4 + 1, none⟩ = false ∧ w.frozen? ⟨g, k * 4 + 2, none⟩ = false ∧ w.frozen? ⟨g, k * 4 + 3, none⟩ = false := ⟨h.frozen _, h.frozen _, h.frozen _, h.frozen _⟩
theorem OwnNums.nums {w : World} {base n c : Nat} {A : Option Addr} {F : Nat → Num} (h : OwnNums w base (.slice A n c) n F) : NumsAt w base A n F := fun i hi => by
  rcases h.2 with ⟨e, hx⟩ | ⟨g, cap, cur, e, hb, hg, hnc, hm, hsz, htake⟩
  · omega
  · injection e with e1 e2 e3
    subst e1
    have h' : OwnNums w base (.slice (some ⟨g, 0, none⟩) n c) n F := h
    obtain ⟨k0, k1, k2, k3⟩ := h'.cells hi
    exact ⟨g, 0, rfl, hb, (Array.getElem?_eq_some_iff.1 hg).1, by rwa [Nat.zero_add], by rwa [Nat.zero_add], by rwa [Nat.zero_add], by rwa [Nat.zero_add]⟩
theorem OwnNums.other {w : World} {base n : Nat} {v : Value} {F : Nat → Num} (h : OwnNums w base v n F) {k : Nat} (o : Nat) (u : Value) (hk : v.ownBlock ≠ some k) : OwnNums (w.setCell ⟨k, o, none⟩ u) base v n F := by
  refine World.ownsRow.kept h (row := some k) ⟨rfl, rfl, rfl, by simp, fun j _ hj => heap_setCell_other w ⟨k, o, none⟩ j u (fun e => hj (by simp [e]))⟩ (.inr hk)
theorem OwnNums.put {w : World} {base n g c : Nat} {F : Nat → Num} (h : OwnNums w base (.slice (some ⟨g, 0, none⟩) n c) n F) (k : Nat) (x : Num) :
    OwnNums ((((w.setCell ⟨g, k * 4, none⟩ (.int .i64 x.a)).setCell ⟨g, k * 4 + 1, none⟩ (.int .i64 x.b)).setCell ⟨g, k * 4 + 2, none⟩ (.int .i64 x.c)).setCell ⟨g, k * 4 + 3, none⟩ (.int .i64 x.d)) base (.slice (some ⟨g, 0, none⟩) n c) n (setNum F k x) := by
  have h1 := (World.ownsRow.stored (World.ownsRow.stored (World.ownsRow.stored (World.ownsRow.stored h (k * 4) (.int .i64 x.a)).1 (k * 4 + 1) (.int .i64 x.b)).1 (k * 4 + 2) (.int .i64 x.c)).1 (k * 4 + 3) (.int .i64 x.d)).1
  have e : ((((numVals n F).set (k * 4) (.int .i64 x.a)).set (k * 4 + 1) (.int .i64 x.b)).set (k * 4 + 2) (.int .i64 x.c)).set (k * 4 + 3) (.int .i64 x.d) = numVals n (setNum F k x) := by
    apply List.ext_getElem?
    intro j
    simp only [List.getElem?_set, List.length_set, numVals_len, numVals_get]
    by_cases hj : j < n * 4
    · have hd := Nat.div_add_mod j 4
      rw [if_pos hj]
      by_cases hk : j / 4 = k
      · have hs : setNum F k x (j / 4) = x := by unfold setNum; rw [if_pos hk]
        have hlt := Nat.mod_lt j (show 0 < 4 by decide)
        rw [hs, if_pos hj]
        obtain e | e | e | e : j % 4 = 0 ∨ j % 4 = 1 ∨ j % 4 = 2 ∨ j % 4 = 3 := by omega
        · rw [if_neg (by omega), if_neg (by omega), if_neg (by omega), if_pos (by omega), if_pos (by omega), e]; rfl
        · rw [if_neg (by omega), if_neg (by omega), if_pos (by omega), if_pos (by omega), e]; rfl
        · rw [if_neg (by omega), if_pos (by omega), if_pos (by omega), e]; rfl
        · rw [if_pos (by omega), if_pos (by omega), e]; rfl
      · have hs : setNum F k x (j / 4) = F (j / 4) := by unfold setNum; rw [if_neg hk]
        rw [hs, if_neg (by omega), if_neg (by omega), if_neg (by omega), if_neg (by omega), if_pos hj]
    · rw [if_neg hj]
      simp only [if_neg hj]
      repeat' split
      all_goals first | rfl | omega
  rw [e] at h1
  exact h1
theorem Below.put4at {B c o : Nat} {w W : World} (h : Below B w W) (hc : B ≤ c) (u0 u1 u2 u3 : Value) : Below B w ((((W.setCell ⟨c, o, none⟩ u0).setCell ⟨c, o + 1, none⟩ u1).setCell ⟨c, o + 2, none⟩ u2).setCell ⟨c, o + 3, none⟩ u3) :=
  (((h.setCell hc u0).setCell hc u1).setCell hc u2).setCell hc u3
theorem Box.other4at {w : World} {b c o : Nat} {t : TypeId} {cs : Array Value} (h : Box w b t cs) (hn : b ≠ c) (u0 u1 u2 u3 : Value) : Box ((((w.setCell ⟨c, o, none⟩ u0).setCell ⟨c, o + 1, none⟩ u1).setCell ⟨c, o + 2, none⟩ u2).setCell ⟨c, o + 3, none⟩ u3) b t cs :=
  (((h.other (p := ⟨c, o, none⟩) hn u0).other (p := ⟨c, o + 1, none⟩) hn u1).other (p := ⟨c, o + 2, none⟩) hn u2).other (p := ⟨c, o + 3, none⟩) hn u3
theorem OwnNums.made (w : World) (base g f : Nat) (hb : base ≤ w.heap.size) (hg : g = w.heap.size) (hf : f ≤ maxLen) : OwnNums (w.alloc (.cells (madeCells #[.int .i64 0, .int .i64 0, .int .i64 0, .int .i64 0] (f * 4)) 109)) base (.slice (some ⟨g, 0, none⟩) f f) f (fun _ => Num.zero) :=
  hg ▸ ⟨by rw [numVals_len], .inr ⟨w.heap.size, f, _, rfl, hb, heap_alloc_new w _, Nat.le_refl _, hf, by simp [madeCells], by
    apply List.ext_getElem?
    intro j
    rw [numVals_get]
    have hlt := Nat.mod_lt j (show 0 < 4 by decide)
    by_cases hj : j < f * 4
    · rw [if_pos hj]
      obtain e | e | e | e : j % 4 = 0 ∨ j % 4 = 1 ∨ j % 4 = 2 ∨ j % 4 = 3 := by omega
      all_goals (simp [madeCells, hj, e, Num.part, Num.zero])
    · rw [if_neg hj]; simp [madeCells]; omega⟩⟩
theorem numInfo : (Try.prog.info? 109).map (fun i => (i.zero, i.size, i.bytes)) = some (some (.agg #[.int .i64 0, .int .i64 0, .int .i64 0, .int .i64 0]), 4, 32) := by kernel_rfl
end Go.Proofs.Ytdkbjgnkehoplaa
/- turnedOn of the code. -/
namespace Go.Proofs.Ytdkbjgnkehoplaa
open Go.RowKit
end Go.Proofs.Ytdkbjgnkehoplaa
/- firstWrong, itemsError of numbers; smallError, resultError. -/
namespace Go.Proofs.Ytdkbjgnkehoplaa
open Go.RowKit
end Go.Proofs.Ytdkbjgnkehoplaa
/- numberWithin, itemsError of numbers, smallError, resultError of the code. -/
namespace Go.Proofs.Ytdkbjgnkehoplaa
open Go.RowKit
/-- The error of n numbers of size M at most. -/
def numsE (M : Int) (F : Nat → Num) (n : Nat) : Int := badE (fun j => (F j).err M) n
end Go.Proofs.Ytdkbjgnkehoplaa
/- Turned of the code. -/
namespace Go.Proofs.Ytdkbjgnkehoplaa
open Go.RowKit
/-- The first of two errors. -/
def twoE (a b : Int) : Int := if a = 0 then b else a
theorem firstE_two (a b : Int) : firstE [a, b] = twoE a b := by
  unfold twoE firstE
  by_cases h : a = 0
  · rw [if_pos h, if_pos h]
    unfold firstE
    by_cases h2 : b = 0
    · rw [if_pos h2, h2]; rfl
    · rw [if_neg h2]
  · rw [if_neg h, if_neg h]
def turnedE (x : Num) (n : Int) : Int := twoE (x.err 1000000000) (unI (withinB n 0 7) 2)
/-- What Turned hands back. -/
def turnedR (x : Num) (n : Int) : Num := if turnedE x n = 0 then x.turns (n % 8).toNat else Num.zero
theorem numsE_one (M : Int) (x : Num) : numsE M (fun _ => x) 1 = x.err M := by
  unfold numsE badE badE
  rw [if_pos rfl]
theorem err_within {M : Int} {x : Num} (h : x.err M = 0) : x.Within M := by
  unfold Num.err unI at h
  by_cases h1 : x.isIn M = true
  · exact Num.isIn_iff.1 h1
  · rw [if_neg h1] at h; exact absurd h (by decide)
theorem NumsAt.one {w : World} {b : Nat} {t : TypeId} {x : Num} (h : Box w b t #[.int .i64 x.a, .int .i64 x.b, .int .i64 x.c, .int .i64 x.d]) : NumsAt w 0 (some ⟨b, 0, none⟩) 1 (fun _ => x) := fun i hi => by
  obtain rfl : i = 0 := by omega
  obtain ⟨z0, z1, z2, z3, -⟩ := h.cells4
  exact ⟨b, 0, rfl, Nat.zero_le _, h.lt, by simpa using z0, by simpa using z1, by simpa using z2, by simpa using z3⟩
end Go.Proofs.Ytdkbjgnkehoplaa
/- sum of the code. -/
namespace Go.Proofs.Ytdkbjgnkehoplaa
open Go.RowKit
/-- The sum of the first k numbers. -/
def sumF (F : Nat → Num) : Nat → Num
  | 0 => Num.zero
  | k + 1 => (sumF F k).add (F k)
theorem sumF_within {F : Nat → Num} {M : Int} : ∀ {k : Nat}, (∀ j, j < k → (F j).Within M) → (sumF F k).Within (k * M)
  | 0, _ => by
    have e : ((0 : Nat) : Int) * M = 0 := by simp
    rw [e]
    show Num.zero.Within 0
    exact ⟨⟨by decide, by decide⟩, ⟨by decide, by decide⟩, ⟨by decide, by decide⟩, ⟨by decide, by decide⟩⟩
  | k + 1, h => by
    have e : ((k + 1 : Nat) : Int) * M = (k : Int) * M + M := by rw [Int.natCast_add, Int.add_mul]; simp
    rw [e]
    exact (sumF_within fun j hj => h j (by omega)).add (h k (by omega))
end Go.Proofs.Ytdkbjgnkehoplaa
