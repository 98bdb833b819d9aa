/- Lemmas: Bg, Bf. -/
import Derived.StillTailTactics
import Derived.Test.YtdkbjgnkehoplaaBy03
import Derived.Test.YtdkbjgnkehoplaaBy22
set_option linter.unusedVariables false
set_option linter.unusedSimpArgs false
/- Numbers of any size: WideCmp of two above 0. -/
namespace Go.Proofs.Ytdkbjgnkehoplaa
open Go.RowKit
theorem sgnT_pos {s : Int} {D : Nat → Int} {n : Nat} (h : valD D n ≠ 0) : sgnT s (trimN D n) = s := if_neg fun e => h (by rw [← trimN_val, e]; rfl)
theorem fewer_of {D E : Nat → Int} {n m : Nat} (hD : Dig n D) (hE : Dig m E) (hEn : Norm m E) (h : valD E m < valD D n) : m ≤ n := by
  rcases Nat.lt_or_ge n m with e | e
  · have := valD_fewer e hD hE hEn; omega
  · exact e
theorem sub_sign {D E : Nat → Int} {n m : Nat} {s : Int} (hD : Dig n D) (hE : Dig m E) (hEn : Norm m E) (h : valD E m < valD D n) : sgnT s (trimN (subD D (digN m E)) (trimN (subD D (digN m E)) n)) = s :=
  sgnT_pos (by rw [trimN_val, sub_val hD hE (fewer_of hD hE hEn h) (Int.le_of_lt h)]; omega)
set_option maxHeartbeats 4000000 in
set_option maxRecDepth 100000 in
theorem wideAdd_opp (A B : Option Addr) (n c m d : Nat) (D E : Nat → Int) (w : World) (hn : n ≤ 1000) (hm : m ≤ 1000) (hI : IntsAt w 0 A n D) (hJ : IntsAt w 0 B m E) (hD : Dig n D) (hE : Dig m E) (hDn : Norm n D) (hEn : Norm m E) :
    Calls Try.prog 154 #[.agg #[.int .i64 1, .slice A n c], .agg #[.int .i64 (-1), .slice B m d]] w fun e w' => ∃ R r s, e = .returned (.agg #[.int .i64 (cmpI (valD D n) (valD E m)), .slice R r s]) ∧ Below w.heap.size w w' := by
  have HI := hide hI
  have HJ := hide hJ
  have HCM := hide (fun W (h1 : IntsAt W 0 A n D) (h2 : IntsAt W 0 B m E) => cmpDigits_any A B n c m d D E W hn hm h1 h2 hD hE hDn hEn)
  have HSA := hide (fun W (h1 : IntsAt W 0 A n D) (h2 : IntsAt W 0 B m E) => subDigits_any A B n c m d D E W hn h1 h2 hD hE)
  have HSB := hide (fun W (h1 : IntsAt W 0 A n D) (h2 : IntsAt W 0 B m E) => subDigits_any B A m d n c E D W hm h2 h1 hE hD)
  have HWA := hide (fun (R : Option Addr) (r : Nat) (W : World) (hr : n ≤ r) (h : IntsAt W 0 R n (subD D (digN m E))) => wideOf_any 1 R (trimN (subD D (digN m E)) n) r _ W (Nat.le_trans (trimN_le _ _) hn) (Nat.le_trans (trimN_le _ _) hr) (h.fewer (trimN_le _ _)))
  have HWB := hide (fun (R : Option Addr) (r : Nat) (W : World) (hr : m ≤ r) (h : IntsAt W 0 R m (subD E (digN n D))) => wideOf_any (-1) R (trimN (subD E (digN n D)) m) r _ W (Nat.le_trans (trimN_le _ _) hm) (Nat.le_trans (trimN_le _ _) hr) (h.fewer (trimN_le _ _)))
  have HGA := hide (fun (h : valD E m < valD D n) => sub_sign (s := 1) hD hE hEn h)
  have HGB := hide (fun (h : valD D n < valD E m) => sub_sign (s := -1) hE hD hDn h)
  clear hI hJ hD hE hDn hEn
  generalize subD D (digN m E) = G at *
  generalize subD E (digN n D) = H at *
  generalize valD D n = x at *
  generalize valD E m = y at *
  obtain ⟨z, hz⟩ : ∃ z, z = cmpI x y := ⟨_, rfl⟩
  rw [← hz] at HCM ⊢
  go_enter Try.func154, Try.ntmps154
  go_upto_region 1 with fail
  obtain ⟨W, hW⟩ : ∃ q : World, q = ((w.alloc (.cells #[.int .i64 1, .slice A n c] 150)).alloc (.cells #[.int .i64 (-1), .slice B m d] 150)).alloc (.cells #[.int .i64 0, .slice none 0 0] 150) := ⟨_, rfl⟩
  rw [← hW]
  have ba : Box W w.heap.size 150 #[.int .i64 1, .slice A n c] := by rw [hW]; exact ((Box.made rfl).alloc _).alloc _
  have bb : Box W (w.heap.size + 1) 150 #[.int .i64 (-1), .slice B m d] := by rw [hW]; exact (Box.made (by simp)).alloc _
  have bc : Box W (w.heap.size + 1 + 1) 150 #[.int .i64 0, .slice none 0 0] := by rw [hW]; exact Box.made (by simp)
  have hBW : Below w.heap.size w W := by rw [hW]; (repeat (first | (with_reducible exact Below.refl _ _) | (with_reducible refine Go.below_drewN ?_ _) | (with_reducible refine Below.drew ?_) | (with_reducible refine Below.alloc ?_ (by first | exact Nat.le_refl _ | (simp; done) | (simp; omega) | omega) _) | (with_reducible refine Below.setCell ?_ (by first | exact Nat.le_refl _ | (simp; done) | (simp; omega) | omega) _)))
  clear hW
  have x0 := ba.at_ 0
  have x1 := ba.at_ 1
  have y0 := bb.at_ 0
  have y1 := bb.at_ 1
  simp only [List.getElem?_toArray] at x0 x1 y0 y1
  have HB := hide hBW
  go_upto_region 7 with fail
  clear x0 x1 y0 y1
  have HIW := hide (HI.out.below hBW)
  have HJW := hide (HJ.out.below hBW)
  clear hBW
  have x0 := ba.at_ 0
  have x1 := ba.at_ 1
  have y0 := bb.at_ 0
  have y1 := bb.at_ 1
  simp only [List.getElem?_toArray] at x0 x1 y0 y1
  rcases Int.lt_trichotomy x y with h | h | h
  · have HC := hide (HCM.out W HIW.out HJW.out)
    clear HCM
    obtain rfl : z = -1 := hz.trans (cmpI_lt h)
    go_wp2_with fail
    refine HC.out.mono ?_
    rintro e w1 ⟨rfl, hb1⟩
    clear x0 x1 y0 y1
    have hS1 : Box w1 w.heap.size 150 #[.int .i64 1, .slice A n c] ∧ Box w1 (w.heap.size + 1) 150 #[.int .i64 (-1), .slice B m d] := ⟨ba.below hb1, bb.below hb1⟩
    have bc1 := bc.below hb1
    have hB1 := HB.out.trans (hb1.mono HB.out.size)
    have HI1 := hide (HIW.out.below hb1)
    have HJ1 := hide (HJW.out.below hb1)
    clear hb1 ba bb bc HB HIW HJW HI HJ
    have HSG := hide (HGB.out h)
    have HBC := hide bc1
    have HB1 := hide hB1
    clear hz h bc1 hB1
    go_wp2_with fail
    refine wp_region_held_drew (S := fun w' => Box w' w.heap.size 150 #[.int .i64 1, .slice A n c] ∧ Box w' (w.heap.size + 1) 150 #[.int .i64 (-1), .slice B m d]) (by kernel_rfl) hS1 (fun hHeld => ?_)
    refine wpAnyH_take (i := 0) (oi := ⟨some 45, _, _, _, _, _⟩) (v := ?_) rfl (by kernel_rfl) (by kernel_rfl) (by kernel_rfl) (fun _ _ _ h => h) (Or.inl ⟨by rfl, ?_⟩) (by assumption) ?_
    rotate_left
    · (intro w' hSw; (try dsimp only at hSw); have u0 := hSw.1.at_ 0; have u1 := hSw.1.at_ 1; have v0 := hSw.2.at_ 0; have v1 := hSw.2.at_ 1; simp only [List.getElem?_toArray] at u0 u1 v0 v1; go_simp <;> (with_reducible rfl))
    try simp only [Act.put, List.setIfInBounds_toArray, List.set_cons_zero, List.set_cons_succ]
    refine wpAnyH_take (i := 1) (oi := ⟨some 46, _, _, _, _, _⟩) (v := ?_) rfl (by kernel_rfl) (by kernel_rfl) (by kernel_rfl) (fun _ _ _ h => h) (Or.inl ⟨by rfl, ?_⟩) (by assumption) ?_
    rotate_left
    · (intro w' hSw; (try dsimp only at hSw); have u0 := hSw.1.at_ 0; have u1 := hSw.1.at_ 1; have v0 := hSw.2.at_ 0; have v1 := hSw.2.at_ 1; simp only [List.getElem?_toArray] at u0 u1 v0 v1; go_simp <;> (with_reducible rfl))
    try simp only [Act.put, List.setIfInBounds_toArray, List.set_cons_zero, List.set_cons_succ]
    refine wpAnyH_take (i := 2) (oi := ⟨some 47, _, _, _, _, _⟩) (v := ?_) rfl (by kernel_rfl) (by kernel_rfl) (by kernel_rfl) (fun _ _ _ h => h) (Or.inl ⟨by rfl, ?_⟩) (by assumption) ?_
    rotate_left
    · (intro w' hSw; (try dsimp only at hSw); have u0 := hSw.1.at_ 0; have u1 := hSw.1.at_ 1; have v0 := hSw.2.at_ 0; have v1 := hSw.2.at_ 1; simp only [List.getElem?_toArray] at u0 u1 v0 v1; go_simp <;> (with_reducible rfl))
    try simp only [Act.put, List.setIfInBounds_toArray, List.set_cons_zero, List.set_cons_succ]
    refine wpAnyH_take (i := 3) (oi := ⟨some 48, _, _, _, _, _⟩) (v := ?_) rfl (by kernel_rfl) (by kernel_rfl) (by kernel_rfl) (fun _ _ _ h => h) (Or.inl ⟨by rfl, ?_⟩) (by assumption) ?_
    rotate_left
    · (intro w' hSw; (try dsimp only at hSw); have u0 := hSw.1.at_ 0; have u1 := hSw.1.at_ 1; have v0 := hSw.2.at_ 0; have v1 := hSw.2.at_ 1; simp only [List.getElem?_toArray] at u0 u1 v0 v1; go_simp <;> (with_reducible rfl))
    try simp only [Act.put, List.setIfInBounds_toArray, List.set_cons_zero, List.set_cons_succ]
    refine wpAnyH_take (i := 4) (oi := ⟨some 49, _, _, _, _, _⟩) (v := ?_) rfl (by kernel_rfl) (by kernel_rfl) (by kernel_rfl) (fun _ _ _ h => h) (Or.inl ⟨by rfl, ?_⟩) (by assumption) ?_
    rotate_left
    · (intro w' hSw; (try dsimp only at hSw); have u0 := hSw.1.at_ 0; have u1 := hSw.1.at_ 1; have v0 := hSw.2.at_ 0; have v1 := hSw.2.at_ 1; simp only [List.getElem?_toArray] at u0 u1 v0 v1; go_simp <;> (with_reducible rfl))
    try simp only [Act.put, List.setIfInBounds_toArray, List.set_cons_zero, List.set_cons_succ]
    refine wpAnyH_take (i := 5) (oi := ⟨some 50, _, _, _, _, _⟩) (v := ?_) rfl (by kernel_rfl) (by kernel_rfl) (by kernel_rfl) (fun _ _ _ h => h) (Or.inl ⟨by rfl, ?_⟩) (by assumption) ?_
    rotate_left
    · (intro w' hSw; (try dsimp only at hSw); have u0 := hSw.1.at_ 0; have u1 := hSw.1.at_ 1; have v0 := hSw.2.at_ 0; have v1 := hSw.2.at_ 1; simp only [List.getElem?_toArray] at u0 u1 v0 v1; go_simp <;> (with_reducible rfl))
    try simp only [Act.put, List.setIfInBounds_toArray, List.set_cons_zero, List.set_cons_succ]
    refine wpAnyH_ready (rs := [6]) (by kernel_rfl) (by simp) ?_
    refine AllReadyH.cons (o := ⟨some 51, _, _, _, _, _⟩) rfl (fun K' hK => ?_) AllReadyH.nil
    go_simp
    go_at_call 161
    refine (HSB.out _ (by exact HI1.out) (by exact HJ1.out)).mono ?_
    rintro e w2 ⟨R, r, rfl, hr, hI2, hb2⟩
    have hc2 : Below w1.heap.size w1 w2 := by first | exact hb2 | exact below_of_drew hb2 | exact below_of_drew (below_of_drew hb2)
    have hS2 : Box w2 w.heap.size 150 #[.int .i64 1, .slice A n c] ∧ Box w2 (w.heap.size + 1) 150 #[.int .i64 (-1), .slice B m d] := ⟨hS1.1.below hc2, hS1.2.below hc2⟩
    have HBC2 := hide (HBC.out.below hc2)
    have HB2 := hide (HB1.out.trans (hc2.mono HB1.out.size))
    have HI2 := hide (hI2.weak (Nat.zero_le _))
    clear hb2 hc2 hS1 HBC HB1 HI1 HJ1 hI2
    go_wp2_with fail
    refine hK.out _ _ hS2 (fun hHeld => ?_)
    clear hK K'
    try simp only [Act.put, List.setIfInBounds_toArray, List.set_cons_zero, List.set_cons_succ]
    refine wpAnyH_ready (rs := [7]) (by kernel_rfl) (by simp) ?_
    refine AllReadyH.cons (o := ⟨some 52, _, _, _, _, _⟩) rfl (fun K' hK => ?_) AllReadyH.nil
    go_simp
    go_at_call 140
    refine (HWB.out R r _ hr (by exact HI2.out)).mono ?_
    rintro e w3 ⟨rfl, hb2⟩
    rw [HSG.out]
    have hc3 : Below w2.heap.size w2 w3 := by first | exact hb2 | exact below_of_drew hb2 | exact below_of_drew (below_of_drew hb2)
    have hS3 : Box w3 w.heap.size 150 #[.int .i64 1, .slice A n c] ∧ Box w3 (w.heap.size + 1) 150 #[.int .i64 (-1), .slice B m d] := ⟨hS2.1.below hc3, hS2.2.below hc3⟩
    have bc3 := HBC2.out.below hc3
    have hB3 := HB2.out.trans (hc3.mono HB2.out.size)
    clear hb2 hc3 hS2 HBC2 HB2 HI2
    go_wp2_with fail
    refine hK.out _ _ hS3 (fun hHeld => ?_)
    clear hK K'
    try simp only [Act.put, List.setIfInBounds_toArray, List.set_cons_zero, List.set_cons_succ]
    have f0 := bc3.free 0
    have f1 := bc3.free 1
    have z0 := bc3.at_ 0
    have z1 := bc3.at_ 1
    simp only [List.getElem?_toArray] at z0 z1
    have hlt3 := bc3.lt
    have HC3 := hide ((bc3.set_ 0 (.int .i64 (-1))).set_ 1 (.slice R (trimN H (trimN H m)) r))
    have HL := hide ((hB3.setCell (p := ⟨w.heap.size + 1 + 1, 0, none⟩) (show w.heap.size ≤ w.heap.size + 1 + 1 by omega) (.int .i64 (-1))).setCell (p := ⟨w.heap.size + 1 + 1, 1, none⟩) (show w.heap.size ≤ w.heap.size + 1 + 1 by omega) (.slice R (trimN H (trimN H m)) r))
    have HSS := hide (show Box ((w3.setCell ⟨w.heap.size + 1 + 1, 0, none⟩ (.int .i64 (-1))).setCell ⟨w.heap.size + 1 + 1, 1, none⟩ (.slice R (trimN H (trimN H m)) r)) w.heap.size 150 #[.int .i64 1, .slice A n c] ∧ Box ((w3.setCell ⟨w.heap.size + 1 + 1, 0, none⟩ (.int .i64 (-1))).setCell ⟨w.heap.size + 1 + 1, 1, none⟩ (.slice R (trimN H (trimN H m)) r)) (w.heap.size + 1) 150 #[.int .i64 (-1), .slice B m d] from ⟨(hS3.1.other (by simp; omega) _).other (by simp; omega) _, (hS3.2.other (by simp) _).other (by simp) _⟩)
    clear hS3 bc3 hB3
    refine wpAnyH_ready (rs := [8]) (by kernel_rfl) (by simp) ?_
    refine AllReadyH.cons (o := ⟨none, _, _, _, _, _⟩) rfl (fun K' hK => ?_) AllReadyH.nil
    go_simp
    refine hK.out _ _ HSS.out (fun hHeld => ?_)
    clear hK K' f0 f1 z0 z1 hlt3
    try simp only [Act.put, List.setIfInBounds_toArray, List.set_cons_zero, List.set_cons_succ]
    refine wpAnyH_done (by kernel_rfl) ?_ _
    go_wp2_with fail
    have z0 := HC3.out.at_ 0
    have z1 := HC3.out.at_ 1
    simp only [Array.getElem?_setIfInBounds, List.setIfInBounds_toArray, List.getElem?_toArray] at z0 z1
    refine bodyPost_ret (v := .agg #[.int .i64 (-1), .slice R (trimN H (trimN H m)) r]) ?_ rfl ⟨_, _, _, rfl, by have h := HL.out; exact ⟨h.os, h.tape, h.output, h.size, h.block⟩⟩
    simp [results, Try.results154, go_sem, z0, z1]
  · have HC := hide (HCM.out W HIW.out HJW.out)
    clear HCM
    obtain rfl : z = 0 := hz.trans (cmpI_eq h)
    go_wp2_with fail
    refine HC.out.mono ?_
    rintro e w1 ⟨rfl, hb1⟩
    clear x0 x1 y0 y1
    have hS1 : Box w1 w.heap.size 150 #[.int .i64 1, .slice A n c] ∧ Box w1 (w.heap.size + 1) 150 #[.int .i64 (-1), .slice B m d] := ⟨ba.below hb1, bb.below hb1⟩
    have bc1 := bc.below hb1
    have hB1 := HB.out.trans (hb1.mono HB.out.size)
    have HI1 := hide (HIW.out.below hb1)
    have HJ1 := hide (HJW.out.below hb1)
    clear hb1 ba bb bc HB HIW HJW HI HJ
    clear hS1
    have f0 := bc1.free 0
    have f1 := bc1.free 1
    have z0 := bc1.at_ 0
    have z1 := bc1.at_ 1
    simp only [List.getElem?_toArray] at z0 z1
    have hlt1 := bc1.lt
    have HC1 := hide ((bc1.set_ 0 (.int .i64 0)).set_ 1 (.slice none 0 0))
    have HL := hide ((hB1.setCell (p := ⟨w.heap.size + 1 + 1, 0, none⟩) (show w.heap.size ≤ w.heap.size + 1 + 1 by omega) (.int .i64 0)).setCell (p := ⟨w.heap.size + 1 + 1, 1, none⟩) (show w.heap.size ≤ w.heap.size + 1 + 1 by omega) (.slice none 0 0))
    clear hz h bc1 hB1
    go_wp2_with fail
    clear z0 z1
    have z0 := HC1.out.at_ 0
    have z1 := HC1.out.at_ 1
    simp only [Array.getElem?_setIfInBounds, List.setIfInBounds_toArray, List.getElem?_toArray] at z0 z1
    refine bodyPost_ret (v := .agg #[.int .i64 0, .slice none 0 0]) ?_ rfl ⟨_, _, _, rfl, HL.out⟩
    simp [results, Try.results154, go_sem, z0, z1]
  · have HC := hide (HCM.out W HIW.out HJW.out)
    clear HCM
    obtain rfl : z = 1 := hz.trans (cmpI_gt h)
    go_wp2_with fail
    refine HC.out.mono ?_
    rintro e w1 ⟨rfl, hb1⟩
    clear x0 x1 y0 y1
    have hS1 : Box w1 w.heap.size 150 #[.int .i64 1, .slice A n c] ∧ Box w1 (w.heap.size + 1) 150 #[.int .i64 (-1), .slice B m d] := ⟨ba.below hb1, bb.below hb1⟩
    have bc1 := bc.below hb1
    have hB1 := HB.out.trans (hb1.mono HB.out.size)
    have HI1 := hide (HIW.out.below hb1)
    have HJ1 := hide (HJW.out.below hb1)
    clear hb1 ba bb bc HB HIW HJW HI HJ
    have HSG := hide (HGA.out h)
    have HBC := hide bc1
    have HB1 := hide hB1
    clear hz h bc1 hB1
    go_wp2_with fail
    refine wp_region_held_drew (S := fun w' => Box w' w.heap.size 150 #[.int .i64 1, .slice A n c] ∧ Box w' (w.heap.size + 1) 150 #[.int .i64 (-1), .slice B m d]) (by kernel_rfl) hS1 (fun hHeld => ?_)
    refine wpAnyH_take (i := 0) (oi := ⟨some 37, _, _, _, _, _⟩) (v := ?_) rfl (by kernel_rfl) (by kernel_rfl) (by kernel_rfl) (fun _ _ _ h => h) (Or.inl ⟨by rfl, ?_⟩) (by assumption) ?_
    rotate_left
    · (intro w' hSw; (try dsimp only at hSw); have u0 := hSw.1.at_ 0; have u1 := hSw.1.at_ 1; have v0 := hSw.2.at_ 0; have v1 := hSw.2.at_ 1; simp only [List.getElem?_toArray] at u0 u1 v0 v1; go_simp <;> (with_reducible rfl))
    try simp only [Act.put, List.setIfInBounds_toArray, List.set_cons_zero, List.set_cons_succ]
    refine wpAnyH_take (i := 1) (oi := ⟨some 38, _, _, _, _, _⟩) (v := ?_) rfl (by kernel_rfl) (by kernel_rfl) (by kernel_rfl) (fun _ _ _ h => h) (Or.inl ⟨by rfl, ?_⟩) (by assumption) ?_
    rotate_left
    · (intro w' hSw; (try dsimp only at hSw); have u0 := hSw.1.at_ 0; have u1 := hSw.1.at_ 1; have v0 := hSw.2.at_ 0; have v1 := hSw.2.at_ 1; simp only [List.getElem?_toArray] at u0 u1 v0 v1; go_simp <;> (with_reducible rfl))
    try simp only [Act.put, List.setIfInBounds_toArray, List.set_cons_zero, List.set_cons_succ]
    refine wpAnyH_take (i := 2) (oi := ⟨some 39, _, _, _, _, _⟩) (v := ?_) rfl (by kernel_rfl) (by kernel_rfl) (by kernel_rfl) (fun _ _ _ h => h) (Or.inl ⟨by rfl, ?_⟩) (by assumption) ?_
    rotate_left
    · (intro w' hSw; (try dsimp only at hSw); have u0 := hSw.1.at_ 0; have u1 := hSw.1.at_ 1; have v0 := hSw.2.at_ 0; have v1 := hSw.2.at_ 1; simp only [List.getElem?_toArray] at u0 u1 v0 v1; go_simp <;> (with_reducible rfl))
    try simp only [Act.put, List.setIfInBounds_toArray, List.set_cons_zero, List.set_cons_succ]
    refine wpAnyH_take (i := 3) (oi := ⟨some 40, _, _, _, _, _⟩) (v := ?_) rfl (by kernel_rfl) (by kernel_rfl) (by kernel_rfl) (fun _ _ _ h => h) (Or.inl ⟨by rfl, ?_⟩) (by assumption) ?_
    rotate_left
    · (intro w' hSw; (try dsimp only at hSw); have u0 := hSw.1.at_ 0; have u1 := hSw.1.at_ 1; have v0 := hSw.2.at_ 0; have v1 := hSw.2.at_ 1; simp only [List.getElem?_toArray] at u0 u1 v0 v1; go_simp <;> (with_reducible rfl))
    try simp only [Act.put, List.setIfInBounds_toArray, List.set_cons_zero, List.set_cons_succ]
    refine wpAnyH_take (i := 4) (oi := ⟨some 41, _, _, _, _, _⟩) (v := ?_) rfl (by kernel_rfl) (by kernel_rfl) (by kernel_rfl) (fun _ _ _ h => h) (Or.inl ⟨by rfl, ?_⟩) (by assumption) ?_
    rotate_left
    · (intro w' hSw; (try dsimp only at hSw); have u0 := hSw.1.at_ 0; have u1 := hSw.1.at_ 1; have v0 := hSw.2.at_ 0; have v1 := hSw.2.at_ 1; simp only [List.getElem?_toArray] at u0 u1 v0 v1; go_simp <;> (with_reducible rfl))
    try simp only [Act.put, List.setIfInBounds_toArray, List.set_cons_zero, List.set_cons_succ]
    refine wpAnyH_take (i := 5) (oi := ⟨some 42, _, _, _, _, _⟩) (v := ?_) rfl (by kernel_rfl) (by kernel_rfl) (by kernel_rfl) (fun _ _ _ h => h) (Or.inl ⟨by rfl, ?_⟩) (by assumption) ?_
    rotate_left
    · (intro w' hSw; (try dsimp only at hSw); have u0 := hSw.1.at_ 0; have u1 := hSw.1.at_ 1; have v0 := hSw.2.at_ 0; have v1 := hSw.2.at_ 1; simp only [List.getElem?_toArray] at u0 u1 v0 v1; go_simp <;> (with_reducible rfl))
    try simp only [Act.put, List.setIfInBounds_toArray, List.set_cons_zero, List.set_cons_succ]
    refine wpAnyH_ready (rs := [6]) (by kernel_rfl) (by simp) ?_
    refine AllReadyH.cons (o := ⟨some 43, _, _, _, _, _⟩) rfl (fun K' hK => ?_) AllReadyH.nil
    go_simp
    go_at_call 161
    refine (HSA.out _ (by exact HI1.out) (by exact HJ1.out)).mono ?_
    rintro e w2 ⟨R, r, rfl, hr, hI2, hb2⟩
    have hc2 : Below w1.heap.size w1 w2 := by first | exact hb2 | exact below_of_drew hb2 | exact below_of_drew (below_of_drew hb2)
    have hS2 : Box w2 w.heap.size 150 #[.int .i64 1, .slice A n c] ∧ Box w2 (w.heap.size + 1) 150 #[.int .i64 (-1), .slice B m d] := ⟨hS1.1.below hc2, hS1.2.below hc2⟩
    have HBC2 := hide (HBC.out.below hc2)
    have HB2 := hide (HB1.out.trans (hc2.mono HB1.out.size))
    have HI2 := hide (hI2.weak (Nat.zero_le _))
    clear hb2 hc2 hS1 HBC HB1 HI1 HJ1 hI2
    go_wp2_with fail
    refine hK.out _ _ hS2 (fun hHeld => ?_)
    clear hK K'
    try simp only [Act.put, List.setIfInBounds_toArray, List.set_cons_zero, List.set_cons_succ]
    refine wpAnyH_ready (rs := [7]) (by kernel_rfl) (by simp) ?_
    refine AllReadyH.cons (o := ⟨some 44, _, _, _, _, _⟩) rfl (fun K' hK => ?_) AllReadyH.nil
    go_simp
    go_at_call 140
    refine (HWA.out R r _ hr (by exact HI2.out)).mono ?_
    rintro e w3 ⟨rfl, hb2⟩
    rw [HSG.out]
    have hc3 : Below w2.heap.size w2 w3 := by first | exact hb2 | exact below_of_drew hb2 | exact below_of_drew (below_of_drew hb2)
    have hS3 : Box w3 w.heap.size 150 #[.int .i64 1, .slice A n c] ∧ Box w3 (w.heap.size + 1) 150 #[.int .i64 (-1), .slice B m d] := ⟨hS2.1.below hc3, hS2.2.below hc3⟩
    have bc3 := HBC2.out.below hc3
    have hB3 := HB2.out.trans (hc3.mono HB2.out.size)
    clear hb2 hc3 hS2 HBC2 HB2 HI2
    go_wp2_with fail
    refine hK.out _ _ hS3 (fun hHeld => ?_)
    clear hK K'
    try simp only [Act.put, List.setIfInBounds_toArray, List.set_cons_zero, List.set_cons_succ]
    have f0 := bc3.free 0
    have f1 := bc3.free 1
    have z0 := bc3.at_ 0
    have z1 := bc3.at_ 1
    simp only [List.getElem?_toArray] at z0 z1
    have hlt3 := bc3.lt
    have HC3 := hide ((bc3.set_ 0 (.int .i64 1)).set_ 1 (.slice R (trimN G (trimN G n)) r))
    have HL := hide ((hB3.setCell (p := ⟨w.heap.size + 1 + 1, 0, none⟩) (show w.heap.size ≤ w.heap.size + 1 + 1 by omega) (.int .i64 1)).setCell (p := ⟨w.heap.size + 1 + 1, 1, none⟩) (show w.heap.size ≤ w.heap.size + 1 + 1 by omega) (.slice R (trimN G (trimN G n)) r))
    have HSS := hide (show Box ((w3.setCell ⟨w.heap.size + 1 + 1, 0, none⟩ (.int .i64 1)).setCell ⟨w.heap.size + 1 + 1, 1, none⟩ (.slice R (trimN G (trimN G n)) r)) w.heap.size 150 #[.int .i64 1, .slice A n c] ∧ Box ((w3.setCell ⟨w.heap.size + 1 + 1, 0, none⟩ (.int .i64 1)).setCell ⟨w.heap.size + 1 + 1, 1, none⟩ (.slice R (trimN G (trimN G n)) r)) (w.heap.size + 1) 150 #[.int .i64 (-1), .slice B m d] from ⟨(hS3.1.other (by simp; omega) _).other (by simp; omega) _, (hS3.2.other (by simp) _).other (by simp) _⟩)
    clear hS3 bc3 hB3
    refine wpAnyH_ready (rs := [8]) (by kernel_rfl) (by simp) ?_
    refine AllReadyH.cons (o := ⟨none, _, _, _, _, _⟩) rfl (fun K' hK => ?_) AllReadyH.nil
    go_simp
    refine hK.out _ _ HSS.out (fun hHeld => ?_)
    clear hK K' f0 f1 z0 z1 hlt3
    try simp only [Act.put, List.setIfInBounds_toArray, List.set_cons_zero, List.set_cons_succ]
    refine wpAnyH_done (by kernel_rfl) ?_ _
    go_wp2_with fail
    have z0 := HC3.out.at_ 0
    have z1 := HC3.out.at_ 1
    simp only [Array.getElem?_setIfInBounds, List.setIfInBounds_toArray, List.getElem?_toArray] at z0 z1
    refine bodyPost_ret (v := .agg #[.int .i64 1, .slice R (trimN G (trimN G n)) r]) ?_ rfl ⟨_, _, _, rfl, by have h := HL.out; exact ⟨h.os, h.tape, h.output, h.size, h.block⟩⟩
    simp [results, Try.results154, go_sem, z0, z1]
end Go.Proofs.Ytdkbjgnkehoplaa
/- Numbers of any size: WideMul. -/
namespace Go.Proofs.Ytdkbjgnkehoplaa
open Go.RowKit
theorem ownInts_zeros (w : World) (base g f : Nat) (hb : base ≤ w.heap.size) (hg : g = w.heap.size) (hf : f ≤ maxLen) : OwnInts (w.alloc (.cells (madeCells #[.int .i64 0] f) 3)) base (.slice (some ⟨g, 0, none⟩) f f) f (fun _ => 0) :=
  hg ▸ ⟨by rw [intCells_len, Nat.mul_one], .inr ⟨w.heap.size, f, _, rfl, hb, heap_alloc_new w _, Nat.le_refl _, hf, by simp [madeCells], by
    apply List.ext_getElem?
    intro j
    rw [intCells_get, Nat.mul_one]
    by_cases hj : j < f
    · rw [if_pos hj]; simp [madeCells, hj, Nat.mod_one]
    · rw [if_neg hj]; simp [madeCells, hj]⟩⟩
theorem ownInts_ints {w : World} {base n c : Nat} {A : Option Addr} {F : Nat → Int} (h : OwnInts w base (.slice A n c) n F) : IntsAt w base A n F := by
  obtain ⟨A', c', e, -, hI⟩ := h.form
  injection e with e1
  subst e1
  exact hI
theorem mul_end {F : Nat → Int} {q N i : Nat} {c V vb a : Int} (hN : q < N) (h0 : F q = 0) (h : valD F N + c * BB ^ q = V * vb + a * vb * BB ^ i) : valD (setF F q c) N = (V + a * BB ^ i) * vb := by
  rw [valD_set N hN, h0, Int.sub_zero, h, Int.add_mul, Int.mul_assoc a, Int.mul_assoc a, Int.mul_comm vb]
set_option maxHeartbeats 8000000 in
set_option maxRecDepth 100000 in
theorem wideMul_any (sa sb : Int) (A B : Option Addr) (n c m d : Nat) (D E : Nat → Int) (w : World) (hn : n ≤ 20) (hm : m ≤ 20) (hI : IntsAt w 0 A n D) (hJ : IntsAt w 0 B m E) (hD : Dig n D) (hE : Dig m E)
    (hs : sa * sb = 1 ∨ sa * sb = -1 ∨ (sa * sb = 0 ∧ valD D n * valD E m = 0)) :
    Calls Try.prog 112 #[.agg #[.int .i64 sa, .slice A n c], .agg #[.int .i64 sb, .slice B m d]] w fun e w' => ∃ V, e = .returned V ∧ WideAt w' w.heap.size V (n + m + 1) (sa * sb * (valD D n * valD E m)) ∧ Below w.heap.size w w' := by
  obtain ⟨σ, hσ⟩ : ∃ σ, σ = sa * sb := ⟨_, rfl⟩
  rw [← hσ] at hs ⊢
  have qs : IntKind.i64.wrap (sa * sb) = σ := by rw [← hσ]; exact IntWalk.i64_in _ (by omega)
  have q0 : IntKind.i64.wrap ((n : Int) + (m : Int)) = (n : Int) + (m : Int) := IntWalk.i64_in _ (by omega)
  obtain ⟨i0, hi, hz0, hz1, hz2⟩ := info_parts intInfo
  have hmk := fun W => run_make_row (P := Try.prog) 27 3 i0 (.int .i64 0) Try.underlying27 hi hz0 hz1 rfl .i64 .i64 (n + m + 1) (by rw [hz2]; omega) (by omega) W
  have eN : ((n + m + 1 : Nat) : Int) = (n : Int) + (m : Int) + 1 := by omega
  simp only [eN] at hmk
  have HI := hide hI
  have HJ := hide hJ
  have HD := hide hD
  have HE := hide hE
  have HS := hide hs
  have HQS := hide qs
  have HWO := hide (fun (F : Nat → Int) (R : Option Addr) (r : Nat) (W : World) (h : IntsAt W 0 R (n + m + 1) F) (hr : n + m + 1 ≤ r) => wideOf_any σ R (n + m + 1) r F W (by omega) hr h)
  clear hI hJ hD hE hi hz0 hz1 hz2 hs hσ qs eN
  go_enter Try.func112, Try.ntmps112
  go_upto_region 1 with fail
  obtain ⟨W, hW⟩ : ∃ q : World, q = ((w.alloc (.cells #[.int .i64 sa, .slice A n c] 150)).alloc (.cells #[.int .i64 sb, .slice B m d] 150)).alloc (.cells #[.int .i64 0, .slice none 0 0] 150) := ⟨_, rfl⟩
  rw [← hW]
  have ba : Box W w.heap.size 150 #[.int .i64 sa, .slice A n c] := by rw [hW]; exact ((Box.made rfl).alloc _).alloc _
  have bb : Box W (w.heap.size + 1) 150 #[.int .i64 sb, .slice B m d] := by rw [hW]; exact (Box.made (by simp)).alloc _
  have bc : Box W (w.heap.size + 1 + 1) 150 #[.int .i64 0, .slice none 0 0] := by rw [hW]; exact Box.made (by simp)
  have hBW : Below w.heap.size w W := by rw [hW]; (repeat (first | (with_reducible exact Below.refl _ _) | (with_reducible refine Go.below_drewN ?_ _) | (with_reducible refine Below.drew ?_) | (with_reducible refine Below.alloc ?_ (by first | exact Nat.le_refl _ | (simp; done) | (simp; omega) | omega) _) | (with_reducible refine Below.setCell ?_ (by first | exact Nat.le_refl _ | (simp; done) | (simp; omega) | omega) _)))
  clear hW
  have hc2 := bc.lt
  have x1 := ba.at_ 1
  have y1 := bb.at_ 1
  simp only [List.getElem?_toArray] at x1 y1
  have hmade := ownInts_zeros W W.heap.size W.heap.size (n + m + 1) (Nat.le_refl _) rfl (by unfold maxLen; omega)
  go_wp2_with fail
  clear hmk q0 x1 y1
  obtain ⟨W1, hW1⟩ : ∃ q : World, q = W.alloc (.cells (madeCells #[.int .i64 0] (n + m + 1)) 3) := ⟨_, rfl⟩
  rw [← hW1] at hmade ⊢
  replace ba : Box W1 w.heap.size 150 #[.int .i64 sa, .slice A n c] := by rw [hW1]; exact ba.alloc _
  replace bb : Box W1 (w.heap.size + 1) 150 #[.int .i64 sb, .slice B m d] := by rw [hW1]; exact bb.alloc _
  replace bc : Box W1 (w.heap.size + 1 + 1) 150 #[.int .i64 0, .slice none 0 0] := by rw [hW1]; exact bc.alloc _
  have hB1 : Below w.heap.size w W1 := by rw [hW1]; exact hBW.alloc hBW.size _
  have hg2 : w.heap.size + 2 < W.heap.size := by omega
  clear hW1 hBW hc2
  go_loopw [6, 7, 8, 9] (fun v6 v7 v8 v9 wr => ∃ (i : Nat) (F : Nat → Int), i ≤ n ∧ v6 = .int .i64 (i : Int) ∧ OwnInts wr W.heap.size (.slice (some ⟨W.heap.size, 0, none⟩) (n + m + 1) (n + m + 1)) (n + m + 1) F ∧ Hid (Dig (n + m + 1) F) ∧ Hid (∀ j, i + m ≤ j → j < n + m + 1 → F j = 0) ∧ Hid (valD F (n + m + 1) = valD D i * valD E m) ∧ Only W.heap.size W1 wr) (fun v6 _ _ _ _ => n - (Go.RowKit.intOf v6).toNat)
  case atStart => exact ⟨0, fun _ => 0, Nat.zero_le _, rfl, hmade, hide fun j _ => ⟨Int.le_refl _, (by decide : (0 : Int) < BB)⟩, hide fun j _ _ => rfl, hide (by rw [valD_zero]; exact (Int.zero_mul _).symm), Only.refl _ _⟩
  case round =>
    clear hmade
    obtain ⟨i, F, hi, rfl, hown, HDF, HZF, HVF, ho⟩ := hrel
    obtain ⟨wA, rfl⟩ : ∃ x : World, x = wr := ⟨_, rfl⟩
    have x1 := (ho.box ba (by omega)).at_ 1
    simp only [List.getElem?_toArray] at x1
    by_cases hlt : i < n
    · have hltz : (i : Int) < (n : Int) := by omega
      go_wp2_with fail
      clear x1
      go_loopw [7, 8, 9] (fun v7 v8 v9 wq => ∃ (k : Nat) (cv : Int) (G : Nat → Int), k ≤ m ∧ v7 = .int .i64 cv ∧ v8 = .int .i64 (k : Int) ∧ 0 ≤ cv ∧ cv < BB ∧ OwnInts wq W.heap.size (.slice (some ⟨W.heap.size, 0, none⟩) (n + m + 1) (n + m + 1)) (n + m + 1) G ∧ Hid (Dig (n + m + 1) G) ∧ Hid (∀ j, i + m ≤ j → j < n + m + 1 → G j = 0) ∧ Hid (valD G (n + m + 1) + cv * BB ^ (i + k) = valD D i * valD E m + D i * valD E k * BB ^ i) ∧ Only W.heap.size W1 wq) (fun _ v8 _ _ => m - (Go.RowKit.intOf v8).toNat)
      case atStart => exact ⟨0, 0, F, Nat.zero_le _, rfl, rfl, Int.le_refl _, by decide, hown, HDF, HZF, hide (by rw [HVF.out, Int.zero_mul, show valD E 0 = 0 from rfl, Int.mul_zero, Int.zero_mul]), ho⟩
      case round =>
        clear hown HDF HZF HVF ho F
        obtain ⟨k, cv, G, hk, rfl, rfl, hc0, hc1, hown, HDG, HZG, HVG, ho⟩ := hrel
        obtain ⟨wB, rfl⟩ : ∃ x : World, x = wr := ⟨_, rfl⟩
        have hBq := hB1.trans (ho.to_below (B := w.heap.size) (by omega) hB1.size)
        have x1 := (ho.box ba (by omega)).at_ 1
        have y1 := (ho.box bb (by omega)).at_ 1
        simp only [List.getElem?_toArray] at x1 y1
        by_cases hlk : k < m
        · have hkz : (k : Int) < (m : Int) := by omega
          have htN : i + k < n + m + 1 := by omega
          have htz : (i : Int) + (k : Int) < (n : Int) + (m : Int) + 1 := by omega
          have hc := hown.cellAt htN
          have hf := hown.frozen (i + k)
          obtain ⟨bA, oA, rfl, -, -, xa⟩ := (HI.out.below hBq) i hlt
          obtain ⟨bB, oB, rfl, -, -, xb⟩ := (HJ.out.below hBq) k hlk
          obtain ⟨a0, a1⟩ := HD.out i hlt
          obtain ⟨b0, b1⟩ := HE.out k hlk
          obtain ⟨f0, f1⟩ := HDG.out (i + k) htN
          obtain ⟨s, hs⟩ : ∃ s, s = G (i + k) + D i * E k + cv := ⟨_, rfl⟩
          have HN := hide (mul_step (F := G) (N := n + m + 1) (k := k) (i := i) (V0 := valD D i * valD E m) (vb := valD E k) rfl htN hs HVG.out)
          obtain ⟨a, ha⟩ : ∃ a, a = D i := ⟨_, rfl⟩
          obtain ⟨b, hb⟩ : ∃ b, b = E k := ⟨_, rfl⟩
          rw [← ha] at xa a0 a1 hs
          rw [← hb] at xb b0 b1 hs
          obtain ⟨f, hff⟩ : ∃ f, f = G (i + k) := ⟨_, rfl⟩
          rw [← hff] at hc hs f0 f1
          obtain ⟨p0, p1, s0, s1, r0, r1, u0, u1⟩ := mul_bound hs f0 f1 a0 a1 b0 b1 hc0 hc1
          obtain ⟨p, hp⟩ : ∃ p, p = a * b := ⟨_, rfl⟩
          rw [← hp] at hs p0 p1
          have e1 : (f + p + cv).tmod 1000000000 = s % BB := by rw [← hs]; exact Int.tmod_eq_emod_of_nonneg s0
          have e2 : (f + p + cv).tdiv 1000000000 = s / BB := by rw [← hs]; exact Int.tdiv_eq_ediv_of_nonneg s0
          unfold BB at f1 hc1
          have q2 : IntKind.i64.wrap (a * b) = p := by rw [← hp]; exact IntWalk.i64_in _ (by omega)
          have q3 : IntKind.i64.wrap (f + p) = f + p := IntWalk.i64_in _ (by omega)
          have q4 : IntKind.i64.wrap (f + p + cv) = f + p + cv := IntWalk.i64_in _ (by omega)
          have q5 : IntKind.i64.wrap (s / BB) = s / BB := IntWalk.i64_in _ (by have := u1; unfold BB at this ⊢; unfold BB at u0; omega)
          generalize s % BB = rr at *
          generalize s / BB = uu at *
          have HR := hide (And.intro r0 (And.intro r1 (And.intro u0 u1)))
          have HO := hide hown
          have HOO := hide ho
          have HHH := hide hBq
          clear hp ha hb f0 f1 a0 a1 b0 b1 hff hs p0 p1 s0 s1 r0 r1 u0 u1 hown ho hBq HVG hc0 hc1
          go_wp2_with fail
          go_quiet (fail)
          go_wp2_with fail
          go_roundw
          case rel =>
            exact ⟨k + 1, uu, setF G (i + k) rr, by omega, rfl, by go_num, HR.out.2.2.1, HR.out.2.2.2, (HO.out.drewN _).set_ (i + k) rr, hide (fun j hj => by
              unfold setF
              split
              · exact ⟨HR.out.1, HR.out.2.1⟩
              · exact HDG.out j hj), hide (fun j h1 h2 => (if_neg (by omega)).trans (HZG.out j h1 h2)), hide HN.out, (HOO.out.drewN _).set_ (i + k) _⟩
          case measure => simp [Go.RowKit.intOf]; omega
        · obtain rfl : k = m := by omega
          have htN : i + k < n + k + 1 := by omega
          have htz : (i : Int) + (k : Int) < (n : Int) + (k : Int) + 1 := by omega
          have hkz : ¬ ((k : Int) < (k : Int)) := by omega
          have hc := hown.cellAt htN
          rw [HZG.out (i + k) (Nat.le_refl _) htN] at hc
          have hf := hown.frozen (i + k)
          have HN := hide (mul_end htN (HZG.out (i + k) (Nat.le_refl _) htN) HVG.out)
          have HC := hide (And.intro hc0 hc1)
          have HO := hide hown
          have HOO := hide ho
          unfold BB at hc1
          have h0z : 0 ≤ (i : Int) + (k : Int) := by omega
          have hnat : ((i : Int) + (k : Int)).toNat = i + k := by omega
          have q0 : IntKind.i64.wrap ((i : Int) + (k : Int)) = (i : Int) + (k : Int) := IntWalk.i64_in _ (by omega)
          have q1 : IntKind.i64.wrap cv = cv := IntWalk.i64_in _ (by omega)
          have q2 : IntKind.i64.wrap (0 + cv) = cv := by rw [Int.zero_add]; exact q1
          clear hown ho hBq HVG hlk hc0 hc1
          go_wp2_with fail
          go_still_tail 17, (by kernel_rfl)
          repeat still_step
          try refine wpStill_nil ?_
          go_wp2_with fail
          go_roundw
          case rel =>
            exact ⟨i + 1, setF G (i + k) cv, by omega, by go_num, (HO.out.drewN _).set_ (i + k) cv, hide (fun j hj => by
              unfold setF
              split
              · exact HC.out
              · exact HDG.out j hj), hide (fun j h1 h2 => (if_neg (by omega)).trans (HZG.out j (by omega) h2)), hide HN.out, (HOO.out.drewN _).set_ (i + k) _⟩
          case measure => simp [Go.RowKit.intOf]; omega
    · obtain rfl : i = n := by omega
      have hltz : ¬ ((i : Int) < (i : Int)) := by omega
      have x0 := (ho.box ba (by omega)).at_ 0
      have y0 := (ho.box bb (by omega)).at_ 0
      simp only [List.getElem?_toArray] at x0 y0
      have bz := ho.box bc (by omega)
      have HT := hide (HWO.out F (some ⟨W.heap.size, 0, none⟩) (i + m + 1) wA ((ownInts_ints hown).weak (Nat.zero_le _)) (Nat.le_refl _))
      have hBA := hB1.trans (ho.to_below (B := w.heap.size) (by omega) hB1.size)
      have HI2 := hide (ownInts_ints hown)
      have hsz : w.heap.size + 1 + 1 < W.heap.size := by omega
      have hsz2 : w.heap.size ≤ W.heap.size := by omega
      have qs := HQS.out
      clear hown ho hlt
      go_wp2_with fail
      clear qs
      refine HT.out.mono ?_
      rintro e w2 ⟨rfl, hb2⟩
      have b2 := bz.below hb2
      have f0 := b2.free 0
      have f1 := b2.free 1
      clear x0 y0 x1
      have y0 := b2.at_ 0
      have y1 := b2.at_ 1
      simp only [List.getElem?_toArray] at y0 y1
      have hlt2 := b2.lt
      have HC := hide ((b2.set_ 0 (.int .i64 (sgnT σ (trimN F (i + m + 1))))).set_ 1 (.slice (some ⟨W.heap.size, 0, none⟩) (trimN F (i + m + 1)) (i + m + 1)))
      have hB2 := hBA.trans (hb2.mono hBA.size)
      have HL := hide ((hB2.setCell (p := ⟨w.heap.size + 1 + 1, 0, none⟩) (show w.heap.size ≤ w.heap.size + 1 + 1 by omega) (.int .i64 (sgnT σ (trimN F (i + m + 1))))).setCell (p := ⟨w.heap.size + 1 + 1, 1, none⟩) (show w.heap.size ≤ w.heap.size + 1 + 1 by omega) (.slice (some ⟨W.heap.size, 0, none⟩) (trimN F (i + m + 1)) (i + m + 1)))
      have hs3 : σ = 1 ∨ σ = -1 ∨ (σ = 0 ∧ valD F (i + m + 1) = 0) := by rw [HVF.out]; exact HS.out
      have hwi := WideAt.of (m := i + m + 1) (s := σ) ((((HI2.out.below hb2).other (p := ⟨w.heap.size + 1 + 1, 0, none⟩) hsz (.int .i64 (sgnT σ (trimN F (i + m + 1))))).other (p := ⟨w.heap.size + 1 + 1, 1, none⟩) hsz (.slice (some ⟨W.heap.size, 0, none⟩) (trimN F (i + m + 1)) (i + m + 1))).weak hsz2) HDF.out (Nat.le_refl _) (Nat.le_refl _) hs3
      rw [HVF.out] at hwi
      have HWI := hide hwi
      clear hwi hB2 hb2 HI2 hBA hs3 HVF
      go_wp2_with fail
      clear y0 y1
      have y0 := HC.out.at_ 0
      have y1 := HC.out.at_ 1
      simp only [Array.getElem?_setIfInBounds, List.setIfInBounds_toArray, List.getElem?_toArray] at y0 y1
      refine bodyPost_ret (v := .agg #[.int .i64 (sgnT σ (trimN F (i + m + 1))), .slice (some ⟨W.heap.size, 0, none⟩) (trimN F (i + m + 1)) (i + m + 1)]) ?_ rfl ⟨_, rfl, HWI.out, HL.out⟩
      simp [results, Try.results112, go_sem, y0, y1]
end Go.Proofs.Ytdkbjgnkehoplaa
