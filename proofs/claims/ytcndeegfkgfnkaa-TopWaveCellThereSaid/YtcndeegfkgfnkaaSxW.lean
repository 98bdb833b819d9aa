/- Lemmas: K3, K4, K5. -/
import Derived.Test.YtcndeegfkgfnkaaBy09
import Derived.Test.YtcndeegfkgfnkaaBy13
import Derived.Test.YtcndeegfkgfnkaaBy17
set_option linter.unusedVariables false
set_option linter.unusedSimpArgs false
/- waved of the statements over the chapters: the document's examples. -/
namespace Go.Proofs.Ytcndeegfkgfnkaa
open Go.RowKit Go.Great
set_option maxHeartbeats 8000000 in
set_option maxRecDepth 100000 in
theorem waved_any (w : World) : Calls Try.prog 12 #[] w fun e w' => e = .returned (.bool true) ∧ Below w.heap.size w w' := by
  have HS := hide (fun W => SequenceOf_right 0 W (by decide))
  go_enter Try.func12, Try.ntmps12
  go_wp2_with fail
  refine (ResponseOf_right _ 2 2 _ _ _ _ okDoc chkDoc ((Box.made rfl).path (Nat.zero_le _))).mono ?_
  rintro e w2 ⟨rfl, hb2⟩
  have hB2 : Below w.heap.size w w2 := below_behind hb2
  clear hb2
  obtain ⟨F, hF⟩ : ∃ F, F = fun k => respTo (fun i => if i = 0 then 0 else 1) (fun i => if i = 0 then 1 else 2) (fun i => if i = 0 then 0 else 0) k 2 := ⟨_, rfl⟩
  have HF := hide (show F 2 = ⟨1, 0, -2, 0⟩ from by rw [hF]; exact respDoc)
  rw [← hF]
  clear hF
  go_upto_region 2 with (first | (refine wpList_store8 rfl (.tmp 1) (.tmp 12) rfl w2.heap.size (fun _ => Num.zero) F rfl rfl (arrNums_alloc w2 _ _ rfl) ?_; intro W3 r3 o3) | (refine wpList_allocTo rfl (some 1) rfl (.pointer (some ⟨w2.heap.size, 0, none⟩)) (.cells (arr8 fun _ => Num.zero) 52) (by kernel_rfl) ?_))
  obtain ⟨g3, hg3⟩ : ∃ g, g = w2.heap.size := ⟨_, rfl⟩
  have hB3 : Below w.heap.size w W3 := (hB2.alloc hB2.size _).trans (o3.to_below hB2.size (Nat.le_trans hB2.size (by simp)))
  rw [← hg3] at r3
  rw [← hg3]
  clear hg3 o3 hB2
  go_wp2_with fail
  refine (HS.out _).mono ?_
  rintro e w4 ⟨A4, c4, rfl, hc4, hI4, hb4⟩
  replace r3 := r3.below hb4
  have hB4 := hB3.trans (hb4.mono hB3.size)
  clear hb4 hB3
  obtain ⟨b0, o0, rfl, -, -, i0⟩ := hI4 0 (by decide)
  rw [seqDoc0, Nat.add_zero] at i0
  have y0 := r3.part (show 2 < 8 by decide) (show 0 < 4 by decide)
  have y1 := r3.part (show 2 < 8 by decide) (show 1 < 4 by decide)
  have y2 := r3.part (show 2 < 8 by decide) (show 2 < 4 by decide)
  have y3 := r3.part (show 2 < 8 by decide) (show 3 < 4 by decide)
  rw [HF.out] at y0 y1 y2 y3
  replace y0 : w4.cell? ⟨g3, 8, none⟩ = some (.int .i64 1) := y0
  replace y1 : w4.cell? ⟨g3, 9, none⟩ = some (.int .i64 0) := y1
  replace y2 : w4.cell? ⟨g3, 10, none⟩ = some (.int .i64 (-2)) := y2
  replace y3 : w4.cell? ⟨g3, 11, none⟩ = some (.int .i64 0) := y3
  clear r3 hI4 HF HS
  go_wp2_with fail
  go_ret
  exact ⟨rfl, hB4⟩
end Go.Proofs.Ytcndeegfkgfnkaa
/- A sequence through one path (without a walk): the samples behind it, and that the cell is found in them. -/
namespace Go.Proofs.Ytcndeegfkgfnkaa
open Go.RowKit
/-- The first k values of a sequence as samples, at a place. -/
def smpX (i a k j : Nat) : Num := ⟨fndX i a 1 k j, 0, 0, 0⟩
theorem smpX_zero (i a : Nat) : smpX i a 0 = fun _ => Num.zero := by
  funext j
  show (⟨fndX i a 1 0 j, 0, 0, 0⟩ : Num) = ⟨0, 0, 0, 0⟩
  rw [fndX_zero]
theorem smpX_set (i a k : Nat) : setNum (smpX i a k) (a + k) ⟨seqF i k, 0, 0, 0⟩ = smpX i a (k + 1) := by
  funext j
  have h := congrFun (fndX_set i a 1 k) j
  unfold setF at h
  unfold setNum smpX
  by_cases e : j = a + k
  · rw [if_pos e] at h ⊢
    rw [← h, Int.one_mul]
  · rw [if_neg e] at h ⊢
    rw [h]
theorem smpX_within (i a j : Nat) : (smpX i a 62 j).Within 1 := by
  have h := fndX_le (i := i) (a := a) (s := 1) (by decide) 62 j (Nat.le_refl _)
  have z : (-1 : Int) ≤ 0 ∧ (0 : Int) ≤ 1 := by decide
  exact ⟨h, z, z, z⟩
theorem numsE_ok {M : Int} {F : Nat → Num} : ∀ {m : Nat}, (∀ j, j < m → (F j).Within M) → numsE M F m = 0
  | 0, _ => rfl
  | m + 1, h => by
    show badE (fun j => (F j).err M) (m + 1) = 0
    unfold badE
    rw [if_pos (show badE (fun j => (F j).err M) m = 0 from numsE_ok fun j hj => h j (by omega))]
    obtain ⟨ha, hb, hc, hd⟩ := h m (Nat.lt_succ_self m)
    show unI ((F m).isIn M) 2 = 0
    rw [show (F m).isIn M = true by unfold Num.isIn; rw [withinB_yes ha, withinB_yes hb, withinB_yes hc, withinB_yes hd]; rfl]
    rfl
theorem thr_one {dl re im : Int} {i a : Nat} (h0 : 0 ≤ dl) (t : Nat) : (thrTo (fun _ => dl) (fun _ => re) (fun _ => im) (smpX i a 62) 1 t).a = fndX i (a + dl.toNat) re 62 t := by
  show (if dl ≤ (t : Int) then Num.zero.add ((gN re im).prod (smpX i a 62 (t - dl.toNat))) else Num.zero : Num).a = _
  by_cases e : dl ≤ (t : Int)
  · rw [if_pos e, gN_prod]
    show (0 : Int) + (re * fndX i a 1 62 (t - dl.toNat) + im * ((smpX i a 62 (t - dl.toNat)).turns 2).a) = _
    rw [show ((smpX i a 62 (t - dl.toNat)).turns 2).a = 0 by simp [smpX, Num.turns, Num.turn]]
    unfold fndX
    by_cases e2 : a ≤ t - dl.toNat ∧ t - dl.toNat < a + 62
    · rw [if_pos e2, if_pos (by omega), show t - dl.toNat - a = t - (a + dl.toNat) by omega]
      simp
    · rw [if_neg e2, if_neg (by omega)]
      simp
  · rw [if_neg e]
    unfold fndX
    rw [if_neg (by omega)]
    rfl
theorem thr_ok {dl re im : Int} {i a N : Nat} (hN : N ≤ 120) (hc : chkE 1 (fun _ => dl) (fun _ => re) (fun _ => im) = 0) : thrR 1 (fun _ => dl) (fun _ => re) (fun _ => im) N (smpX i a 62) = 0 := by
  obtain ⟨-, -, hK⟩ := chkE_right hc
  obtain ⟨-, hr, hi⟩ := hK 0 (by decide)
  have hs : sampE N (smpX i a 62) = 0 := by
    unfold sampE
    rw [if_neg (by omega)]
    refine numsE_ok fun j _ => ?_
    obtain ⟨h1, h2, h3, h4⟩ := smpX_within i a j
    exact ⟨by omega, by omega, by omega, by omega⟩
  have hE : thrE 1 (fun _ => dl) (fun _ => re) (fun _ => im) N (smpX i a 62) = 0 := by
    unfold thrE twoE
    rw [if_pos hc, hs]
  unfold thrR
  rw [if_pos hE]
  have hT : numsE 1000000000 (thrTo (fun _ => dl) (fun _ => re) (fun _ => im) (smpX i a 62) 1) N = 0 := numsE_ok fun j hj => by
    obtain ⟨h1, h2, h3, h4⟩ := thrTo_within (D := fun _ => dl) (R := fun _ => re) (I := fun _ => im) (X := smpX i a 62) (M := 1) (by decide) (m := N) (fun i _ => smpX_within _ _ _) (j := 1) (fun q _ => by omega) hj
    exact ⟨by omega, by omega, by omega, by omega⟩
  rw [hT]
  rfl
theorem found_there {i p N : Nat} {s : Int} (hi : i < 1008) (hs : 1 ≤ s) (hs2 : s ≤ 50000) (hp : p + 62 ≤ N) (hN : N ≤ 120) :
    seE N (fndX i p s 62) = 0 ∧ seP N (fndX i p s 62) = (p : Int) ∧ seI N (fndX i p s 62) = (i : Int) ∧ seC N (fndX i p s 62) = 62 * s := by
  have h0 : seE N (fndX i p s 62) = 0 := by
    unfold seE
    rw [recE_ok hN fun j _ => by have := fndX_le (i := i) (a := p) hs 62 j (Nat.le_refl _); omega, show decide ((62 : Int) ≤ (N : Int)) = true by simp; omega]
    rfl
  obtain ⟨h1, h2, h3⟩ := cell_found (X := fndX i p s 62) (p := p) (i := i) (n := N - 61) hi hs (by omega) (fun j hj => fndX_at hj) (fun j hj => if_neg (by omega)) (fun j hj => if_neg (by omega))
  have h4 : sePl N (fndX i p s 62) = p := h1
  refine ⟨h0, ?_, ?_, ?_⟩
  · unfold seP; rw [if_pos h0, h4]
  · unfold seI; rw [if_pos h0, h4, h2]
  · unfold seC; rw [if_pos h0, h4, h3]
theorem PathsAt.one {w : World} {b : Nat} {t : TypeId} {dl re im : Int} (h : Box w b t #[.int .i64 dl, .int .i64 re, .int .i64 im]) : PathsAt w 0 (some ⟨b, 0, none⟩) 1 (fun _ => dl) (fun _ => re) (fun _ => im) := fun i hi => by
  match i, hi with
  | 0, _ => exact ⟨b, 0, rfl, Nat.zero_le _, h.lt, h.at_ 0, h.at_ 1, h.at_ 2⟩
set_option maxHeartbeats 1000000 in
theorem pathsErrT_any (A : Option Addr) (n c : Nat) (D R I : Nat → Int) (w : World) (hn : n ≤ 100000) (hI : PathsAt w 0 A n D R I) :
    Calls Try.prog 13 #[.slice A n c] w fun e w' => e = .returned (.int .i64 (chkE n D R I)) ∧ Below w.heap.size w w' := by
  have HX := hide (checkPathsR_any A n c D R I w hn hI)
  clear hI
  generalize chkE n D R I = V at *
  generalize chkI n D R I = K at *
  go_enter Try.func13, Try.ntmps13
  go_wp2_with fail
  refine HX.out.mono ?_
  rintro e w1 ⟨rfl, hb1⟩
  go_wp2_with fail
  go_ret
  exact ⟨rfl, hb1⟩
end Go.Proofs.Ytcndeegfkgfnkaa
/- The walk of TopWaveCellThere. -/
namespace Go.Proofs.Ytcndeegfkgfnkaa
open Go.RowKit Go.Great
set_option maxHeartbeats 16000000 in
set_option maxRecDepth 100000 in
theorem topWaveCellThere_walk (I a0 dl re im : Int) (w : World) :
    Calls Try.prog 4 #[.int .i64 I, .int .i64 a0, .agg #[.int .i64 dl, .int .i64 re, .int .i64 im]] w fun e w' => e = .returned (.bool true) ∧ Below w.heap.size w w' := by
  have HAW := hide (fun W => waved_any W)
  have HID := hide (fun W => identityErr_any I W)
  have HPE := hide (fun (A : Option Addr) W (h : PathsAt W 0 A 1 (fun _ => dl) (fun _ => re) (fun _ => im)) => pathsErrT_any A 1 1 _ _ _ W (by decide) h)
  by_cases h0 : withinB I 0 1007 = true
  case neg =>
    have e0 : withinB I 0 1007 = false := by simpa using h0
    replace HID : Hid (∀ W, Calls Try.prog 6 #[.int .i64 I] W fun e w' => e = .returned (.int .i64 2) ∧ W = w') := hide (fun W => by have := HID.out W; rw [e0] at this; exact this)
    clear e0 h0
    go_enter Try.func4, Try.ntmps4
    go_upto_region 1 with fail
    obtain ⟨w_1, hw_1⟩ : ∃ q : World, q = (w.alloc (.cells #[.int .i64 dl, .int .i64 re, .int .i64 im] 41)) := ⟨_, rfl⟩
    try rw [← hw_1]
    have HX0 := hide (show Box w_1 (w.heap.size) 41 #[.int .i64 dl, .int .i64 re, .int .i64 im] by rw [hw_1]; exact Box.made rfl)
    have HB := hide (show Below w.heap.size w w_1 by rw [hw_1]; (repeat (first | (with_reducible exact Below.refl _ _) | (with_reducible refine Go.below_drewN ?_ _) | (with_reducible refine Below.drew ?_) | (with_reducible refine Below.alloc ?_ (by first | exact Nat.le_refl _ | (simp; done) | (simp; omega) | omega) _) | (with_reducible refine Below.setCell ?_ (by first | exact Nat.le_refl _ | (simp; done) | (simp; omega) | omega) _))))
    clear hw_1
    go_wp2_with fail
    refine (HAW.out _).mono ?_
    rintro e_ w_2 ⟨rfl, hb_2⟩
    replace HX0 := hide (HX0.out.below hb_2)
    replace HB := hide (HB.out.trans (hb_2.mono HB.out.size))
    clear hb_2
    obtain ⟨x0, x1, x2, -, -, -, hlx⟩ := HX0.out.cellsT
    go_wp2_with (go_at_call 6; refine (HID.out _).mono ?_; rintro e_ v_ ⟨rfl, rfl⟩)
    go_ret
    exact ⟨rfl, HB.out⟩
  replace HID : Hid (∀ W, Calls Try.prog 6 #[.int .i64 I] W fun e w' => e = .returned (.int .i64 0) ∧ W = w') := hide (fun W => by have := HID.out W; rw [h0] at this; exact this)
  by_cases h1 : withinB a0 0 20 = true
  case neg =>
    have HWA := hide (show withinB a0 0 20 = false by simpa using h1)
    clear h1
    go_enter Try.func4, Try.ntmps4
    go_upto_region 1 with fail
    obtain ⟨w_3, hw_3⟩ : ∃ q : World, q = (w.alloc (.cells #[.int .i64 dl, .int .i64 re, .int .i64 im] 41)) := ⟨_, rfl⟩
    try rw [← hw_3]
    have HX0 := hide (show Box w_3 (w.heap.size) 41 #[.int .i64 dl, .int .i64 re, .int .i64 im] by rw [hw_3]; exact Box.made rfl)
    have HB := hide (show Below w.heap.size w w_3 by rw [hw_3]; (repeat (first | (with_reducible exact Below.refl _ _) | (with_reducible refine Go.below_drewN ?_ _) | (with_reducible refine Below.drew ?_) | (with_reducible refine Below.alloc ?_ (by first | exact Nat.le_refl _ | (simp; done) | (simp; omega) | omega) _) | (with_reducible refine Below.setCell ?_ (by first | exact Nat.le_refl _ | (simp; done) | (simp; omega) | omega) _))))
    clear hw_3
    go_wp2_with fail
    refine (HAW.out _).mono ?_
    rintro e_ w_4 ⟨rfl, hb_4⟩
    replace HX0 := hide (HX0.out.below hb_4)
    replace HB := hide (HB.out.trans (hb_4.mono HB.out.size))
    clear hb_4
    obtain ⟨x0, x1, x2, -, -, -, hlx⟩ := HX0.out.cellsT
    go_wp2_with (first | (go_at_call 6; refine (HID.out _).mono ?_; rintro e_ v_ ⟨rfl, rfl⟩) | (go_at_call 7; refine (within_any _ _ _ _).mono ?_; rintro e_ v_ ⟨rfl, rfl⟩; rw [HWA.out]))
    go_ret
    exact ⟨rfl, HB.out⟩
  have HWA := hide h1
  clear h1
  obtain ⟨V, hV⟩ : ∃ z, chkE 1 (fun _ => dl) (fun _ => re) (fun _ => im) = z := ⟨_, rfl⟩
  simp only [hV] at HPE
  by_cases hv : V = 0
  case neg =>
    have tv : (V != 0) = true := by simpa using hv
    clear hV
    go_enter Try.func4, Try.ntmps4
    go_upto_region 1 with fail
    obtain ⟨w_5, hw_5⟩ : ∃ q : World, q = (w.alloc (.cells #[.int .i64 dl, .int .i64 re, .int .i64 im] 41)) := ⟨_, rfl⟩
    try rw [← hw_5]
    have HX0 := hide (show Box w_5 (w.heap.size) 41 #[.int .i64 dl, .int .i64 re, .int .i64 im] by rw [hw_5]; exact Box.made rfl)
    have HB := hide (show Below w.heap.size w w_5 by rw [hw_5]; (repeat (first | (with_reducible exact Below.refl _ _) | (with_reducible refine Go.below_drewN ?_ _) | (with_reducible refine Below.drew ?_) | (with_reducible refine Below.alloc ?_ (by first | exact Nat.le_refl _ | (simp; done) | (simp; omega) | omega) _) | (with_reducible refine Below.setCell ?_ (by first | exact Nat.le_refl _ | (simp; done) | (simp; omega) | omega) _))))
    clear hw_5
    go_wp2_with fail
    refine (HAW.out _).mono ?_
    rintro e_ w_6 ⟨rfl, hb_6⟩
    replace HX0 := hide (HX0.out.below hb_6)
    replace HB := hide (HB.out.trans (hb_6.mono HB.out.size))
    clear hb_6
    obtain ⟨x0, x1, x2, -, -, -, hlx⟩ := HX0.out.cellsT
    go_wp2_with (first | (go_at_call 6; refine (HID.out _).mono ?_; rintro e_ v_ ⟨rfl, rfl⟩) | (go_at_call 7; refine (within_any _ _ _ _).mono ?_; rintro e_ v_ ⟨rfl, rfl⟩; rw [HWA.out]))
    clear x0 x1 x2 hlx
    refine (HPE.out _ _ (PathsAt.one (Box.made rfl))).mono ?_
    rintro e_ w_7 ⟨rfl, hb9⟩
    have hb_7 := below_behind hb9
    clear hb9
    replace HX0 := hide (HX0.out.below hb_7)
    replace HB := hide (HB.out.trans (hb_7.mono HB.out.size))
    clear hb_7
    obtain ⟨x0, x1, x2, -, -, -, hlx⟩ := HX0.out.cellsT
    go_wp2_with fail
    go_ret
    exact ⟨rfl, HB.out⟩
  subst hv
  obtain ⟨-, -, hK⟩ := chkE_right hV
  obtain ⟨⟨hd0, hd7⟩, ⟨hr0, hr1⟩, -⟩ := hK 0 (by decide)
  clear hK
  by_cases hre : re < 1
  case pos =>
    clear hV
    go_enter Try.func4, Try.ntmps4
    go_upto_region 1 with fail
    obtain ⟨w_8, hw_8⟩ : ∃ q : World, q = (w.alloc (.cells #[.int .i64 dl, .int .i64 re, .int .i64 im] 41)) := ⟨_, rfl⟩
    try rw [← hw_8]
    have HX0 := hide (show Box w_8 (w.heap.size) 41 #[.int .i64 dl, .int .i64 re, .int .i64 im] by rw [hw_8]; exact Box.made rfl)
    have HB := hide (show Below w.heap.size w w_8 by rw [hw_8]; (repeat (first | (with_reducible exact Below.refl _ _) | (with_reducible refine Go.below_drewN ?_ _) | (with_reducible refine Below.drew ?_) | (with_reducible refine Below.alloc ?_ (by first | exact Nat.le_refl _ | (simp; done) | (simp; omega) | omega) _) | (with_reducible refine Below.setCell ?_ (by first | exact Nat.le_refl _ | (simp; done) | (simp; omega) | omega) _))))
    clear hw_8
    go_wp2_with fail
    refine (HAW.out _).mono ?_
    rintro e_ w_9 ⟨rfl, hb_9⟩
    replace HX0 := hide (HX0.out.below hb_9)
    replace HB := hide (HB.out.trans (hb_9.mono HB.out.size))
    clear hb_9
    obtain ⟨x0, x1, x2, -, -, -, hlx⟩ := HX0.out.cellsT
    go_wp2_with (first | (go_at_call 6; refine (HID.out _).mono ?_; rintro e_ v_ ⟨rfl, rfl⟩) | (go_at_call 7; refine (within_any _ _ _ _).mono ?_; rintro e_ v_ ⟨rfl, rfl⟩; rw [HWA.out]))
    clear x0 x1 x2 hlx
    refine (HPE.out _ _ (PathsAt.one (Box.made rfl))).mono ?_
    rintro e_ w_10 ⟨rfl, hb9⟩
    have hb_10 := below_behind hb9
    clear hb9
    replace HX0 := hide (HX0.out.below hb_10)
    replace HB := hide (HB.out.trans (hb_10.mono HB.out.size))
    clear hb_10
    obtain ⟨x0, x1, x2, -, -, -, hlx⟩ := HX0.out.cellsT
    go_wp2_with fail
    go_ret
    exact ⟨rfl, HB.out⟩
  have k0 : 0 ≤ I ∧ I ≤ 1007 := by simpa [withinB] using h0
  have k1 : 0 ≤ a0 ∧ a0 ≤ 20 := by simpa [withinB] using HWA.out
  clear h0
  obtain ⟨i, rfl⟩ : ∃ z : Nat, I = (z : Int) := ⟨I.toNat, by omega⟩
  obtain ⟨a, rfl⟩ : ∃ z : Nat, a0 = (z : Int) := ⟨a0.toNat, by omega⟩
  obtain ⟨d, rfl⟩ : ∃ z : Nat, dl = (z : Int) := ⟨dl.toNat, by omega⟩
  have hi : i < 1008 := by omega
  have ha : a ≤ 20 := by omega
  have hd : d ≤ 7 := by omega
  clear k0 k1
  obtain ⟨N, hN⟩ : ∃ z, a + 62 + 7 = z := ⟨_, rfl⟩
  have HSQ := hide (fun W => SequenceOf_right i W hi)
  have HTH := hide (fun (A B : Option Addr) W (h : PathsAt W 0 A 1 (fun _ => (d : Int)) (fun _ => re) (fun _ => im)) (k : NumsAt W 0 B N (smpX i a 62)) => by
    have h1 := Through_any A B 1 1 N N _ _ _ (smpX i a 62) W (by decide) (by omega) h k
    rw [thr_ok (by omega) hV, if_pos rfl] at h1
    exact h1)
  obtain ⟨f1, f2, f3, f4⟩ := found_there (i := i) (p := a + d) (N := N) (s := re) hi (by omega) (by omega) (by omega) (by omega)
  rw [Int.natCast_add] at f2
  have HSE := hide (fun D d9 W (h1 : N ≤ d9) (h2 : d9 ≤ 9223372036854775807) (h : IntsAt W 0 D N (fndX i (a + d) re 62)) => Search_any D N d9 (fndX i (a + d) re 62) W (by omega) h1 h2 h)
  rw [f1, f2, f3, f4] at HSE
  have HTA := hide (fun t => thr_one (dl := (d : Int)) (re := re) (im := im) (i := i) (a := a) (by omega) t)
  simp only [Int.toNat_natCast] at HTA
  have HSS := hide (smpX_set i a)
  have HS0 := hide (smpX_zero i a)
  clear f1 f2 f3 f4 hV
  obtain ⟨X, hX⟩ : ∃ z, smpX i a = z := ⟨_, rfl⟩
  obtain ⟨T, hT⟩ : ∃ z, thrTo (fun _ => (d : Int)) (fun _ => re) (fun _ => im) (X 62) 1 = z := ⟨_, rfl⟩
  obtain ⟨Y, hY⟩ : ∃ z, fndX i (a + d) re 62 = z := ⟨_, rfl⟩
  simp only [hX] at HTH HTA HSS HS0
  simp only [hT] at HTH HTA
  simp only [hY] at HSE HTA
  clear hX hT hY
  have q62 : IntKind.i64.wrap (62 * re) = 62 * re := IntWalk.i64_in _ (by omega)
  have qd : IntKind.i64.wrap ((a : Int) + (d : Int)) = (a : Int) + (d : Int) := IntWalk.i64_in _ (by omega)
  have qa : IntKind.i64.wrap ((a : Int) + 62) = (a : Int) + 62 := IntWalk.i64_in _ (by omega)
  have qb : IntKind.i64.wrap ((a : Int) + 62 + 7) = (N : Int) := by rw [IntWalk.i64_in _ (by omega)]; omega
  have hmk := fun W => make_nums N (by omega) W
  go_enter Try.func4, Try.ntmps4
  go_upto_region 1 with fail
  obtain ⟨w_11, hw_11⟩ : ∃ q : World, q = (w.alloc (.cells #[.int .i64 (d : Int), .int .i64 re, .int .i64 im] 41)) := ⟨_, rfl⟩
  try rw [← hw_11]
  have HX0 := hide (show Box w_11 (w.heap.size) 41 #[.int .i64 (d : Int), .int .i64 re, .int .i64 im] by rw [hw_11]; exact Box.made rfl)
  have HB := hide (show Below w.heap.size w w_11 by rw [hw_11]; (repeat (first | (with_reducible exact Below.refl _ _) | (with_reducible refine Go.below_drewN ?_ _) | (with_reducible refine Below.drew ?_) | (with_reducible refine Below.alloc ?_ (by first | exact Nat.le_refl _ | (simp; done) | (simp; omega) | omega) _) | (with_reducible refine Below.setCell ?_ (by first | exact Nat.le_refl _ | (simp; done) | (simp; omega) | omega) _))))
  clear hw_11
  go_wp2_with fail
  refine (HAW.out _).mono ?_
  rintro e_ w_12 ⟨rfl, hb_12⟩
  replace HX0 := hide (HX0.out.below hb_12)
  replace HB := hide (HB.out.trans (hb_12.mono HB.out.size))
  clear hb_12
  obtain ⟨x0, x1, x2, -, -, -, hlx⟩ := HX0.out.cellsT
  go_wp2_with (first | (go_at_call 6; refine (HID.out _).mono ?_; rintro e_ v_ ⟨rfl, rfl⟩) | (go_at_call 7; refine (within_any _ _ _ _).mono ?_; rintro e_ v_ ⟨rfl, rfl⟩; rw [HWA.out]))
  clear x0 x1 x2 hlx
  refine (HPE.out _ _ (PathsAt.one (Box.made rfl))).mono ?_
  rintro e_ w_13 ⟨rfl, hb9⟩
  have hb_13 := below_behind hb9
  clear hb9
  replace HX0 := hide (HX0.out.below hb_13)
  replace HB := hide (HB.out.trans (hb_13.mono HB.out.size))
  clear hb_13
  obtain ⟨x0, x1, x2, -, -, -, hlx⟩ := HX0.out.cellsT
  go_wp2_with fail
  clear HID HPE HWA hre x0 x1 x2 hlx
  refine (HSQ.out _).mono ?_
  rintro e_ w_14 ⟨A1, c1, rfl, hc1, hi1, hb_14⟩
  replace HX0 := hide (HX0.out.below hb_14)
  replace HB := hide (HB.out.trans (hb_14.mono HB.out.size))
  clear hb_14
  have HL := hide (hi1.weak (Nat.zero_le _))
  clear hc1 hi1
  go_wp2_with fail
  clear hmk qa qb HSQ HAW
  obtain ⟨g, hg⟩ : ∃ q, w_14.heap.size = q := ⟨_, rfl⟩
  obtain ⟨wM, hM⟩ : ∃ q : World, q = w_14.alloc (.cells (madeCells #[.int .i64 0, .int .i64 0, .int .i64 0, .int .i64 0] (N * 4)) 46) := ⟨_, rfl⟩
  rw [← hM]
  have HO := hide (show OwnNums wM g (.slice (some ⟨g, 0, none⟩) N N) N (X 0) by rw [hM, HS0.out]; exact OwnNums.made w_14 g g N (by omega) hg.symm (by unfold maxLen; omega))
  have HW := hide (show Below w_14.heap.size w_14 wM by rw [hM]; exact (Below.refl _ _).alloc (Nat.le_refl _) _)
  have HXo := HX0
  have HLo := HL
  have HBo := HB
  have HG := hide hg
  clear HX0 HL HB hM HS0
  simp only [hg]
  obtain ⟨wO, hwO⟩ : ∃ q, w_14 = q := ⟨_, rfl⟩
  simp only [hwO] at HXo HLo HBo HG HW
  clear hwO hg
  go_loopw [10] (fun s wr => ∃ k : Nat, k ≤ 62 ∧ s = .int .i64 (k : Int) ∧ Hid (OwnNums wr g (.slice (some ⟨g, 0, none⟩) N N) N (X k)) ∧ Hid (Below wO.heap.size wO wr)) (fun s _ => 62 - (Go.RowKit.intOf s).toNat)
  case atStart => exact ⟨0, by decide, rfl, HO, HW⟩
  case round =>
    clear HO HW
    obtain ⟨k, hk, rfl, HO, HW⟩ := hrel
    obtain ⟨wA, rfl⟩ : ∃ x : World, x = wr := ⟨_, rfl⟩
    by_cases hlt : k < 62
    case pos =>
      have hltz : (k : Int) < 62 := by omega
      have HL := hide (HLo.out.below HW.out)
      obtain ⟨bl, ol, hbe, -, -, c0⟩ := HL.out k hlt
      subst hbe
      have HO2 := hide (HO.out.put (a + k) ⟨seqF i k, 0, 0, 0⟩)
      rw [HSS.out k] at HO2
      obtain ⟨u, hu⟩ : ∃ z, seqF i k = z := ⟨_, rfl⟩
      simp only [hu] at c0 HO2
      have HW2 := hide (Below.put4at HW.out (c := g) (o := (a + k) * 4) (Nat.le_of_eq HG.out) (.int .i64 u) (.int .i64 0) (.int .i64 0) (.int .i64 0))
      have q2 : IntKind.i64.wrap ((a : Int) + (k : Int)) = (a : Int) + (k : Int) := IntWalk.i64_in _ (by omega)
      have htz : (a : Int) + (k : Int) < (N : Int) := by omega
      have htz0 : 0 ≤ (a : Int) + (k : Int) := by omega
      have qt : ((a : Int) + (k : Int)).toNat = a + k := by omega
      obtain ⟨z0, z1, z2, z3⟩ := HO.out.cells (k := a + k) (by omega)
      obtain ⟨f0, f1, f2, f3⟩ := HO.out.frozen4 (a + k)
      have hgl := HO.out.lt.2
      clear HO HW HL hu
      go_wp2_with fail
      go_roundw
      case rel => exact ⟨k + 1, by omega, by go_num, HO2, HW2⟩
      case measure => simp [Go.RowKit.intOf]; omega
    obtain rfl : k = 62 := by omega
    clear hlt hk HSS HLo
    have HX0 := hide (HXo.out.below HW.out)
    have HB := hide (HBo.out.trans (HW.out.mono HBo.out.size))
    clear HXo HBo HW HG
    obtain ⟨x0, x1, x2, -, -, -, hlx⟩ := HX0.out.cellsT
    go_wp2_with fail
    clear x0 x1 x2 hlx
    refine (HTH.out _ _ _ (PathsAt.one (Box.made rfl)) ((HO.out.nums.weak (Nat.zero_le _)).alloc _)).mono ?_
    rintro e_ w_15 ⟨v1, rfl, ho1, hb9⟩
    have hb_15 := below_behind hb9
    clear hb9 HTH
    replace HX0 := hide (HX0.out.below hb_15)
    replace HB := hide (HB.out.trans (hb_15.mono HB.out.size))
    clear hb_15
    obtain ⟨C, c, rfl, -, hC⟩ := ownNums_form ho1
    replace hC := hC.weak (Nat.zero_le _)
    have HC := hide hC
    clear ho1 hC HO
    go_wp2_with fail
    go_loopw [13, 14] (fun v x wr => ∃ k : Nat, k ≤ N ∧ x = .int .i64 (k : Int) ∧ Hid (OwnInts wr w_15.heap.size v k Y) ∧ Hid (Below w_15.heap.size w_15 wr)) (fun _ x _ => N - (Go.RowKit.intOf x).toNat)
    case atStart => exact ⟨0, Nat.zero_le _, rfl, hide (OwnInts.nil_ _ _ _), hide (Below.refl _ _)⟩
    case round =>
      obtain ⟨k, hk, rfl, HO, HW⟩ := hrel
      obtain ⟨wB, rfl⟩ : ∃ x : World, x = wr := ⟨_, rfl⟩
      obtain ⟨D, d9, rfl, hd1, -⟩ := HO.out.form
      have hBs := HW.out.size
      by_cases hlt : k < N
      case pos =>
        have hltz : (k : Int) < (N : Int) := by omega
        obtain ⟨bl, ol, hbe, -, -, c0, -⟩ := (HC.out.below HW.out) k hlt
        subst hbe
        rw [HTA.out k] at c0
        obtain ⟨y, hy⟩ : ∃ z, Y k = z := ⟨_, rfl⟩
        rw [hy] at c0
        clear HX0 HB
        go_wp2_with (at_builtin; refine wpList_append_ints _ rfl (.tmp 91) (.tmp 97) rfl w_15.heap.size 0 (.slice D k d9) k _ rfl (HO.out.alloc _) (some ⟨_, 0, none⟩) 1 1 (fun _ => y) rfl (IntsAt.one _ 0 y 3 (Nat.zero_le _)) (by omega) (by simp; omega) ?_; intro v' w' h1 hb4)
        go_roundw
        case rel =>
          refine ⟨k + 1, by omega, by go_num, hide (h1.congr fun j hj => ?_), hide ((HW.out.alloc hBs _).trans hb4)⟩
          unfold catF
          by_cases e : j < k
          · rw [if_pos e]
          · obtain rfl : j = k := by omega
            rw [if_neg e, hy]
        case measure => simp [Go.RowKit.intOf]; omega
      have hkN : k = N := by omega
      subst hkN
      have hltz : ¬ (k : Int) < (k : Int) := by omega
      have hd9 := HO.out.cap_any.2
      have hD := (ownInts_ints HO.out).weak (Nat.zero_le _)
      replace HX0 := hide (HX0.out.below HW.out)
      replace HB := hide (HB.out.trans (HW.out.mono HB.out.size))
      clear HO HW hBs hlt
      go_wp2_with fail
      refine (HSE.out D d9 _ hd1 hd9 hD).mono ?_
      rintro e_ w_16 ⟨rfl, hb_16⟩
      replace HX0 := hide (HX0.out.below hb_16)
      replace HB := hide (HB.out.trans (hb_16.mono HB.out.size))
      clear hb_16
      clear hD hd9 HSE
      go_upto_region 22 with fail
      obtain ⟨g7, hg7⟩ : ∃ q, w_16.heap.size = q := ⟨_, rfl⟩
      obtain ⟨w_17, hw_17⟩ : ∃ q : World, q = w_16.alloc (.cells #[.int .i64 ((a : Int) + (d : Int)), .int .i64 (i : Int), .int .i64 (62 * re)] 32) := ⟨_, rfl⟩
      try rw [← hw_17]
      have HX7 := hide (show Box w_17 g7 32 #[.int .i64 ((a : Int) + (d : Int)), .int .i64 (i : Int), .int .i64 (62 * re)] by rw [hw_17]; exact Box.made hg7.symm)
      have hc_17 : Below w_16.heap.size w_16 w_17 := by rw [hw_17]; exact (Below.refl _ _).alloc (Nat.le_refl _) _
      clear hw_17
      replace HX0 := hide (HX0.out.below hc_17)
      replace HB := hide (HB.out.trans (hc_17.mono HB.out.size))
      clear hc_17
      try simp only [hg7]
      clear hg7
      obtain ⟨x0, x1, x2, -, -, -, hlx⟩ := HX0.out.cellsT
      obtain ⟨y0, y1, y2, -, -, -, hly⟩ := HX7.out.cellsT
      go_wp2_with fail
      go_ret
      exact ⟨rfl, HB.out⟩
end Go.Proofs.Ytcndeegfkgfnkaa
