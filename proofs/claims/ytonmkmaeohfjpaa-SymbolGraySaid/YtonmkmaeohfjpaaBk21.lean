/- Lemmas: S47, S48, S21, S22, S49, S23. -/
import Derived.ArgAppend
import Derived.Test.YtonmkmaeohfjpaaBk04
import Derived.Test.YtonmkmaeohfjpaaBk06
import Derived.Test.YtonmkmaeohfjpaaBk16
import Derived.Test.YtonmkmaeohfjpaaBk17
import Derived.Test.YtonmkmaeohfjpaaBk18
import Derived.Test.YtonmkmaeohfjpaaBk20
set_option linter.unusedVariables false
set_option linter.unusedSimpArgs false
/- The document's examples, each one alone. -/
namespace Go.Proofs.Ytonmkmaeohfjpaa
open Go Go.RowKit Go.Lib Ieee
def exSeq (j : Nat) : Int := [1, 0, 0, 1, 0, 1, 1].getD j 0
def exBits (j : Nat) : Int := [0, 1, 1, 0].getD j 0
def exSoft (j : Nat) : Int := [48, 8, -8, 24].getD j 0
theorem below7 {p : Nat → Prop} (h0 : p 0) (h1 : p 1) (h2 : p 2) (h3 : p 3) (h4 : p 4) (h5 : p 5) (h6 : p 6) : ∀ j, j < 7 → p j := fun j hj => by
  obtain rfl | rfl | rfl | rfl | rfl | rfl | rfl : j = 0 ∨ j = 1 ∨ j = 2 ∨ j = 3 ∨ j = 4 ∨ j = 5 ∨ j = 6 := by omega
  all_goals assumption
theorem below4 {p : Nat → Prop} (h0 : p 0) (h1 : p 1) (h2 : p 2) (h3 : p 3) : ∀ j, j < 4 → p j := fun j hj => by
  obtain rfl | rfl | rfl | rfl : j = 0 ∨ j = 1 ∨ j = 2 ∨ j = 3 := by omega
  all_goals assumption
theorem exSeq_ok : ∀ j, j < 7 → itS 3 2 regT regS j 0 = exSeq j := by decide
theorem seqE_ex : seqE 3 2 regT 3 regS 7 = 0 := by decide
theorem seq_ex (g1 g2 : Nat) (w : World) (hT : IntsAt w 0 (some ⟨g1, 0, none⟩) 2 regT) (hS : IntsAt w 0 (some ⟨g2, 0, none⟩) 3 regS) :
    Calls Try.prog 21 #[.agg #[.int .i64 3, .slice (some ⟨g1, 0, none⟩) 2 2, .slice (some ⟨g2, 0, none⟩) 3 3], .int .i64 7] w fun e w' => ∃ g, e = .returned (.tuple #[.slice (some ⟨g, 0, none⟩) 7 7, .int .i64 0]) ∧ IntsAt w' 0 (some ⟨g, 0, none⟩) 7 exSeq ∧ Below w.heap.size w w' := by
  have h := Sequence_any 3 7 (some ⟨g1, 0, none⟩) (some ⟨g2, 0, none⟩) 2 2 3 3 regT regS w (by decide) (by decide) hT hS
  rw [seqE_ex] at h
  refine h.mono fun e w' h2 => ?_
  obtain ⟨v, rfl, hv, -, hb⟩ := h2
  obtain ⟨g, rfl, ho⟩ := hv rfl
  exact ⟨g, rfl, (ho.atG (Nat.zero_le _)).congr fun j hj => exSeq_ok j hj, hb⟩
theorem modE_ex : modE (2 * ((2 : Nat) : Int)) 4 exBits = 0 := by decide
theorem mod_ex (g : Nat) (w : World) (hI : IntsAt w 0 (some ⟨g, 0, none⟩) 4 exBits) :
    Calls Try.prog 42 #[.int .i64 4, .slice (some ⟨g, 0, none⟩) 4 4] w fun e w' => ∃ A c, e = .returned (.tuple #[.slice A 1 c, .int .i64 0]) ∧ GausAt w' 0 A 1 (fun _ => ⟨3, -1⟩) ∧ Below w.heap.size w w' := by
  have h := Modulated_right 2 g 1 4 4 exBits w (by decide) (by decide) (by decide) (by decide) (by decide) (by decide) hI modE_ex
  rw [show (2 * ((2 : Nat) : Int)) = 4 from rfl] at h
  refine h.mono fun e w' h2 => ?_
  obtain ⟨v, rfl, ho, hb⟩ := h2
  obtain ⟨A, c, rfl, hc, hG⟩ := ownGaus_form ho
  refine ⟨A, c, rfl, (hG.weak (Nat.zero_le _)).congr fun j hj => ?_, hb⟩
  obtain rfl : j = 0 := by omega
  exact Gau.same (by decide) (by decide)
theorem recvE_ex : recvE (2 * ((2 : Nat) : Int)) 2 1 (fun _ => ⟨5, 1⟩) = 0 := by decide
theorem exSoft_ok : ∀ j, j < 4 → bopF 2 (fun p => softP p 2 2) (fun _ => ⟨5, 1⟩) j = exSoft j := by decide
theorem soft_ex (g : Nat) (w : World) (hI : GausAt w 0 (some ⟨g, 0, none⟩) 1 (fun _ => ⟨5, 1⟩)) :
    Calls Try.prog 51 #[.agg #[.int .i64 4, .int .i64 2, .slice (some ⟨g, 0, none⟩) 1 1]] w fun e w' => ∃ A c, e = .returned (.tuple #[.slice A 4 c, .int .i64 0]) ∧ IntsAt w' 0 A 4 exSoft ∧ Below w.heap.size w w' := by
  have h := Soft_right 2 2 (some ⟨g, 0, none⟩) 1 1 (fun _ => ⟨5, 1⟩) w (by decide) (by decide) (by decide) hI recvE_ex
  rw [show (2 * ((2 : Nat) : Int)) = 4 from rfl] at h
  refine h.mono fun e w' h2 => ?_
  obtain ⟨v, rfl, ho, hb⟩ := h2
  obtain ⟨A, c, rfl, hc, hG⟩ := ho.form
  exact ⟨A, c, rfl, (hG.weak (Nat.zero_le _)).congr fun j hj => exSoft_ok j hj, hb⟩
def exM (i k : Nat) : Gau := if i = 0 then if k = 0 then ⟨1, 0⟩ else ⟨0, 1⟩ else if k = 0 then ⟨0, 0⟩ else ⟨2, 0⟩
def exR (i _k : Nat) : Gau := if i = 0 then ⟨2, 1⟩ else ⟨2, 2⟩
def exX (i _k : Nat) : Gau := if i = 0 then ⟨12, 0⟩ else ⟨4, 4⟩
def exE (i k : Nat) : Gau := gsum (eqF 2 exM (detV 2 (fun _ => 2) exM)) exR i k 2
theorem eqE_ex : eqE 2 (fun _ => 2) exM 2 (fun _ => 1) exR = 0 := by decide
theorem eqG_ex : eqG 2 (fun _ => 2) exM 2 (fun _ => 1) exR = 4 := by decide
theorem exX_re : ∀ i, i < 2 → (exE i 0).re = (exX i 0).re := by decide
theorem exX_im : ∀ i, i < 2 → (exE i 0).im = (exX i 0).im := by decide
theorem eq_ex (g h : Nat) (w : World) (hI : MatsAt w 0 (some ⟨g, 0, none⟩) 2 (fun _ => 2) exM) (hJ : MatsAt w 0 (some ⟨h, 0, none⟩) 2 (fun _ => 1) exR) :
    Calls Try.prog 75 #[.slice (some ⟨g, 0, none⟩) 2 2, .slice (some ⟨h, 0, none⟩) 2 2] w fun e w' => ∃ q, e = .returned (.tuple #[.slice (some ⟨q, 0, none⟩) 2 2, .int .i64 4, .int .i64 0]) ∧ MatsAt w' 0 (some ⟨q, 0, none⟩) 2 (fun _ => 1) exX ∧ Below w.heap.size w w' := by
  have h := Equalized_any (some ⟨g, 0, none⟩) (some ⟨h, 0, none⟩) 2 2 2 2 (fun _ => 2) (fun _ => 1) exM exR w (by decide) (by decide) (fun _ _ => by decide) (fun _ _ => by decide) hI hJ
  rw [eqE_ex, eqG_ex] at h
  refine h.mono fun e w' h2 => ?_
  obtain ⟨v, rfl, hv, hb⟩ := h2
  obtain ⟨q, rfl, hm⟩ := hv.1 rfl
  refine ⟨q, rfl, fun i hi => ?_, hb⟩
  obtain ⟨b, o, Ai, ci, e1, e2, e3, e4, e5, e6, e7⟩ := hm i hi
  refine ⟨b, o, Ai, ci, e1, Nat.zero_le _, e3, e4, e5, e6, (e7.weak (Nat.zero_le _)).congr fun k hk => ?_⟩
  have hk1 : k < 1 := hk
  obtain rfl : k = 0 := by omega
  exact Gau.same (exX_re i hi) (exX_im i hi)
theorem intsB_self {n : Nat} {F : Nat → Int} : intsB n F n F = true := intsB_iff.2 ⟨rfl, fun _ _ => rfl⟩
end Go.Proofs.Ytonmkmaeohfjpaa
/- The examples together: awake of the law. -/
namespace Go.Proofs.Ytonmkmaeohfjpaa
open Go Go.RowKit Go.Lib Ieee
theorem gausB_self {n : Nat} {F : Nat → Gau} : gausB n F n F = true := gausB_iff.2 ⟨rfl, fun _ _ => rfl⟩
theorem matsB_self {n : Nat} {L : Nat → Nat} {F : Nat → Nat → Gau} : matsB n L F n L F = true := matsB_iff.2 ⟨rfl, fun _ _ => ⟨rfl, fun _ _ => rfl⟩⟩
set_option maxHeartbeats 16000000 in
set_option maxRecDepth 100000 in
theorem awakeS_any (w : World) : Calls Try.prog 15 #[] w fun e w' => e = .returned (.bool true) ∧ Below w.heap.size w w' := by
  have HB := hide (Below.refl w.heap.size w)
  go_enter Try.func15, Try.ntmps15
  go_wp2_with fail
  refine (Register_any _).mono ?_
  rintro e v1 ⟨g1, g2, rfl, hT, hS, hb1⟩
  replace HB := hide (HB.out.trans (hb1.mono HB.out.size))
  clear hb1
  have HT := hide hT
  clear hT
  have HS := hide hS
  clear hS
  go_wp2_with fail
  refine (seq_ex g1 g2 _ HT.out HS.out).mono ?_
  rintro e v2 ⟨gl, rfl, hl, hb2⟩
  replace HT := hide (HT.out.below hb2)
  replace HS := hide (HS.out.below hb2)
  replace HB := hide (HB.out.trans (hb2.mono HB.out.size))
  clear hb2
  have HL := hide hl
  clear hl
  go_wp2_with fail
  clear HT HS
  obtain ⟨v3, hv3⟩ : ∃ z : World, z = (v2.alloc (.cells #[.int .i64 0, .int .i64 1, .int .i64 1, .int .i64 0] 3)) := ⟨_, rfl⟩
  try rw [← hv3]
  have Hb3_0 := hide (show Box v3 (v2.heap.size) 3 #[.int .i64 0, .int .i64 1, .int .i64 1, .int .i64 0] by rw [hv3]; exact Box.made rfl)
  have hcv3 : Below v2.heap.size v2 v3 := by rw [hv3]; (repeat (first | (with_reducible exact Below.refl _ _) | (with_reducible refine Go.below_drewN ?_ _) | (with_reducible refine Below.drew ?_) | (with_reducible refine Below.alloc ?_ (by first | exact Nat.le_refl _ | (simp; done) | (simp; omega) | omega) _) | (with_reducible refine Below.setCell ?_ (by first | exact Nat.le_refl _ | (simp; done) | (simp; omega) | omega) _)))
  clear hv3
  replace HL := hide (HL.out.below hcv3)
  replace HB := hide (HB.out.trans (hcv3.mono HB.out.size))
  clear hcv3
  obtain ⟨b3_0, eb3_0⟩ : ∃ z, v2.heap.size = z := ⟨_, rfl⟩
  simp only [eb3_0] at Hb3_0
  try simp only [eb3_0]
  clear eb3_0
  refine (mod_ex (b3_0) _ (ints_lit [0, 1, 1, 0] Hb3_0.out rfl)).mono ?_
  rintro e v4 ⟨Am, cm, rfl, hm, hb3⟩
  replace HL := hide (HL.out.below hb3)
  replace HB := hide (HB.out.trans (hb3.mono HB.out.size))
  clear hb3
  have HM := hide hm
  clear hm
  go_wp2_with fail
  obtain ⟨v5, hv5⟩ : ∃ z : World, z = (v4.alloc (.cells #[.int .i64 5, .int .i64 1] 68)) := ⟨_, rfl⟩
  try rw [← hv5]
  have Hb5_0 := hide (show Box v5 (v4.heap.size) 68 #[.int .i64 5, .int .i64 1] by rw [hv5]; exact Box.made rfl)
  have hcv5 : Below v4.heap.size v4 v5 := by rw [hv5]; (repeat (first | (with_reducible exact Below.refl _ _) | (with_reducible refine Go.below_drewN ?_ _) | (with_reducible refine Below.drew ?_) | (with_reducible refine Below.alloc ?_ (by first | exact Nat.le_refl _ | (simp; done) | (simp; omega) | omega) _) | (with_reducible refine Below.setCell ?_ (by first | exact Nat.le_refl _ | (simp; done) | (simp; omega) | omega) _)))
  clear hv5
  replace HL := hide (HL.out.below hcv5)
  replace HM := hide (HM.out.below hcv5)
  replace HB := hide (HB.out.trans (hcv5.mono HB.out.size))
  clear hcv5
  obtain ⟨b5_0, eb5_0⟩ : ∃ z, v4.heap.size = z := ⟨_, rfl⟩
  simp only [eb5_0] at Hb5_0
  try simp only [eb5_0]
  clear eb5_0
  refine (soft_ex (b5_0) _ (gaus_lit1 (x := ⟨5, 1⟩) Hb5_0.out)).mono ?_
  rintro e v6 ⟨As, cs, rfl, hs, hb4⟩
  replace HL := hide (HL.out.below hb4)
  replace HM := hide (HM.out.below hb4)
  replace HB := hide (HB.out.trans (hb4.mono HB.out.size))
  clear hb4
  have HSO := hide hs
  clear hs
  go_wp2_with fail
  obtain ⟨v7, hv7⟩ : ∃ z : World, z = ((((((v6.alloc (.cells #[.int .i64 1, .int .i64 0, .int .i64 0, .int .i64 1] 68)).alloc (.cells #[.int .i64 0, .int .i64 0, .int .i64 2, .int .i64 0] 68)).alloc (.cells #[.slice (some ⟨v6.heap.size, 0, none⟩) 2 2, .slice (some ⟨v6.heap.size + 1, 0, none⟩) 2 2] 58)).alloc (.cells #[.int .i64 2, .int .i64 1] 68)).alloc (.cells #[.int .i64 2, .int .i64 2] 68)).alloc (.cells #[.slice (some ⟨v6.heap.size + 1 + 1 + 1, 0, none⟩) 1 1, .slice (some ⟨v6.heap.size + 1 + 1 + 1 + 1, 0, none⟩) 1 1] 58)) := ⟨_, rfl⟩
  try rw [← hv7]
  have Hb7_0 := hide (show Box v7 (v6.heap.size) 68 #[.int .i64 1, .int .i64 0, .int .i64 0, .int .i64 1] by rw [hv7]; exact (((((Box.made rfl).alloc _).alloc _).alloc _).alloc _).alloc _)
  have Hb7_1 := hide (show Box v7 (v6.heap.size + 1) 68 #[.int .i64 0, .int .i64 0, .int .i64 2, .int .i64 0] by rw [hv7]; exact ((((Box.made (by simp)).alloc _).alloc _).alloc _).alloc _)
  have Hb7_2 := hide (show Box v7 (v6.heap.size + 1 + 1) 58 #[.slice (some ⟨v6.heap.size, 0, none⟩) 2 2, .slice (some ⟨v6.heap.size + 1, 0, none⟩) 2 2] by rw [hv7]; exact (((Box.made (by simp)).alloc _).alloc _).alloc _)
  have Hb7_3 := hide (show Box v7 (v6.heap.size + 1 + 1 + 1) 68 #[.int .i64 2, .int .i64 1] by rw [hv7]; exact ((Box.made (by simp)).alloc _).alloc _)
  have Hb7_4 := hide (show Box v7 (v6.heap.size + 1 + 1 + 1 + 1) 68 #[.int .i64 2, .int .i64 2] by rw [hv7]; exact (Box.made (by simp)).alloc _)
  have Hb7_5 := hide (show Box v7 (v6.heap.size + 1 + 1 + 1 + 1 + 1) 58 #[.slice (some ⟨v6.heap.size + 1 + 1 + 1, 0, none⟩) 1 1, .slice (some ⟨v6.heap.size + 1 + 1 + 1 + 1, 0, none⟩) 1 1] by rw [hv7]; exact Box.made (by simp))
  have hcv7 : Below v6.heap.size v6 v7 := by rw [hv7]; (repeat (first | (with_reducible exact Below.refl _ _) | (with_reducible refine Go.below_drewN ?_ _) | (with_reducible refine Below.drew ?_) | (with_reducible refine Below.alloc ?_ (by first | exact Nat.le_refl _ | (simp; done) | (simp; omega) | omega) _) | (with_reducible refine Below.setCell ?_ (by first | exact Nat.le_refl _ | (simp; done) | (simp; omega) | omega) _)))
  clear hv7
  replace HL := hide (HL.out.below hcv7)
  replace HM := hide (HM.out.below hcv7)
  replace HSO := hide (HSO.out.below hcv7)
  replace HB := hide (HB.out.trans (hcv7.mono HB.out.size))
  clear hcv7
  obtain ⟨b7_0, eb7_0⟩ : ∃ z, v6.heap.size = z := ⟨_, rfl⟩
  simp only [eb7_0] at Hb7_0 Hb7_1 Hb7_2 Hb7_3 Hb7_4 Hb7_5
  try simp only [eb7_0]
  clear eb7_0
  refine (eq_ex (b7_0 + 1 + 1) (b7_0 + 1 + 1 + 1 + 1 + 1) _ (mat_lit2 Hb7_2.out (by decide) (gaus_lit2 (x := ⟨1, 0⟩) (y := ⟨0, 1⟩) Hb7_0.out rfl rfl) (gaus_lit2 (x := ⟨0, 0⟩) (y := ⟨2, 0⟩) Hb7_1.out rfl rfl)) (mat_lit2 Hb7_5.out (by decide) (gaus_lit1 (x := ⟨2, 1⟩) Hb7_3.out) (gaus_lit1 (x := ⟨2, 2⟩) Hb7_4.out))).mono ?_
  rintro e v8 ⟨ge, rfl, he, hb5⟩
  replace HL := hide (HL.out.below hb5)
  replace HM := hide (HM.out.below hb5)
  replace HSO := hide (HSO.out.below hb5)
  replace HB := hide (HB.out.trans (hb5.mono HB.out.size))
  clear hb5
  have HE := hide he
  clear he
  go_wp2_with fail
  obtain ⟨v9, hv9⟩ : ∃ z : World, z = (v8.alloc (.cells #[.int .i64 1, .int .i64 0, .int .i64 0, .int .i64 1, .int .i64 0, .int .i64 1, .int .i64 1] 3)) := ⟨_, rfl⟩
  try rw [← hv9]
  have Hb9_0 := hide (show Box v9 (v8.heap.size) 3 #[.int .i64 1, .int .i64 0, .int .i64 0, .int .i64 1, .int .i64 0, .int .i64 1, .int .i64 1] by rw [hv9]; exact Box.made rfl)
  have hcv9 : Below v8.heap.size v8 v9 := by rw [hv9]; (repeat (first | (with_reducible exact Below.refl _ _) | (with_reducible refine Go.below_drewN ?_ _) | (with_reducible refine Below.drew ?_) | (with_reducible refine Below.alloc ?_ (by first | exact Nat.le_refl _ | (simp; done) | (simp; omega) | omega) _) | (with_reducible refine Below.setCell ?_ (by first | exact Nat.le_refl _ | (simp; done) | (simp; omega) | omega) _)))
  clear hv9
  replace HL := hide (HL.out.below hcv9)
  replace HM := hide (HM.out.below hcv9)
  replace HSO := hide (HSO.out.below hcv9)
  replace HE := hide (HE.out.below hcv9)
  replace HB := hide (HB.out.trans (hcv9.mono HB.out.size))
  clear hcv9
  obtain ⟨b9_0, eb9_0⟩ : ∃ z, v8.heap.size = z := ⟨_, rfl⟩
  simp only [eb9_0] at Hb9_0
  try simp only [eb9_0]
  clear eb9_0
  have H7 := hide (ints_any (some ⟨gl, 0, none⟩) (some ⟨(b9_0), 0, none⟩) 7 7 7 7 exSeq exSeq _ (by decide) (by decide) HL.out (ints_lit [1, 0, 0, 1, 0, 1, 1] Hb9_0.out rfl))
  rw [intsB_self] at H7
  refine H7.out.mono ?_
  rintro e_ v10 ⟨rfl, q10, hq10⟩
  have hb10 : Below v9.heap.size v9 v10 := by rw [hq10]; exact Go.below_drewN (Below.refl _ _) _
  clear hq10
  replace HL := hide (HL.out.below hb10)
  replace HM := hide (HM.out.below hb10)
  replace HSO := hide (HSO.out.below hb10)
  replace HE := hide (HE.out.below hb10)
  replace HB := hide (HB.out.trans (hb10.mono HB.out.size))
  clear hb10
  clear H7
  go_wp2_with fail
  clear HL
  obtain ⟨v11, hv11⟩ : ∃ z : World, z = (v10.alloc (.cells #[.int .i64 3, .int .i64 (-1)] 68)) := ⟨_, rfl⟩
  try rw [← hv11]
  have Hb11_0 := hide (show Box v11 (v10.heap.size) 68 #[.int .i64 3, .int .i64 (-1)] by rw [hv11]; exact Box.made rfl)
  have hcv11 : Below v10.heap.size v10 v11 := by rw [hv11]; (repeat (first | (with_reducible exact Below.refl _ _) | (with_reducible refine Go.below_drewN ?_ _) | (with_reducible refine Below.drew ?_) | (with_reducible refine Below.alloc ?_ (by first | exact Nat.le_refl _ | (simp; done) | (simp; omega) | omega) _) | (with_reducible refine Below.setCell ?_ (by first | exact Nat.le_refl _ | (simp; done) | (simp; omega) | omega) _)))
  clear hv11
  replace HM := hide (HM.out.below hcv11)
  replace HSO := hide (HSO.out.below hcv11)
  replace HE := hide (HE.out.below hcv11)
  replace HB := hide (HB.out.trans (hcv11.mono HB.out.size))
  clear hcv11
  obtain ⟨b11_0, eb11_0⟩ : ∃ z, v10.heap.size = z := ⟨_, rfl⟩
  simp only [eb11_0] at Hb11_0
  try simp only [eb11_0]
  clear eb11_0
  have H8 := hide (gausses_any Am (some ⟨(b11_0), 0, none⟩) 1 1 cm 1 (fun _ => ⟨3, -1⟩) (fun _ => ⟨3, -1⟩) _ (by decide) (by decide) HM.out (gaus_lit1 (x := ⟨3, -1⟩) Hb11_0.out))
  rw [gausB_self] at H8
  refine H8.out.mono ?_
  rintro e_ v12 ⟨rfl, q12, hq12⟩
  have hb12 : Below v11.heap.size v11 v12 := by rw [hq12]; exact Go.below_drewN (Below.refl _ _) _
  clear hq12
  replace HM := hide (HM.out.below hb12)
  replace HSO := hide (HSO.out.below hb12)
  replace HE := hide (HE.out.below hb12)
  replace HB := hide (HB.out.trans (hb12.mono HB.out.size))
  clear hb12
  clear H8
  go_wp2_with fail
  clear HM
  obtain ⟨v13, hv13⟩ : ∃ z : World, z = (v12.alloc (.cells #[.int .i64 48, .int .i64 8, .int .i64 (-8), .int .i64 24] 3)) := ⟨_, rfl⟩
  try rw [← hv13]
  have Hb13_0 := hide (show Box v13 (v12.heap.size) 3 #[.int .i64 48, .int .i64 8, .int .i64 (-8), .int .i64 24] by rw [hv13]; exact Box.made rfl)
  have hcv13 : Below v12.heap.size v12 v13 := by rw [hv13]; (repeat (first | (with_reducible exact Below.refl _ _) | (with_reducible refine Go.below_drewN ?_ _) | (with_reducible refine Below.drew ?_) | (with_reducible refine Below.alloc ?_ (by first | exact Nat.le_refl _ | (simp; done) | (simp; omega) | omega) _) | (with_reducible refine Below.setCell ?_ (by first | exact Nat.le_refl _ | (simp; done) | (simp; omega) | omega) _)))
  clear hv13
  replace HSO := hide (HSO.out.below hcv13)
  replace HE := hide (HE.out.below hcv13)
  replace HB := hide (HB.out.trans (hcv13.mono HB.out.size))
  clear hcv13
  obtain ⟨b13_0, eb13_0⟩ : ∃ z, v12.heap.size = z := ⟨_, rfl⟩
  simp only [eb13_0] at Hb13_0
  try simp only [eb13_0]
  clear eb13_0
  have H9 := hide (ints_any As (some ⟨(b13_0), 0, none⟩) 4 4 cs 4 exSoft exSoft _ (by decide) (by decide) HSO.out (ints_lit [48, 8, -8, 24] Hb13_0.out rfl))
  rw [intsB_self] at H9
  refine H9.out.mono ?_
  rintro e_ v14 ⟨rfl, q14, hq14⟩
  have hb14 : Below v13.heap.size v13 v14 := by rw [hq14]; exact Go.below_drewN (Below.refl _ _) _
  clear hq14
  replace HSO := hide (HSO.out.below hb14)
  replace HE := hide (HE.out.below hb14)
  replace HB := hide (HB.out.trans (hb14.mono HB.out.size))
  clear hb14
  clear H9
  go_wp2_with fail
  clear HSO
  obtain ⟨v15, hv15⟩ : ∃ z : World, z = (((v14.alloc (.cells #[.int .i64 12, .int .i64 0] 68)).alloc (.cells #[.int .i64 4, .int .i64 4] 68)).alloc (.cells #[.slice (some ⟨v14.heap.size, 0, none⟩) 1 1, .slice (some ⟨v14.heap.size + 1, 0, none⟩) 1 1] 58)) := ⟨_, rfl⟩
  try rw [← hv15]
  have Hb15_0 := hide (show Box v15 (v14.heap.size) 68 #[.int .i64 12, .int .i64 0] by rw [hv15]; exact ((Box.made rfl).alloc _).alloc _)
  have Hb15_1 := hide (show Box v15 (v14.heap.size + 1) 68 #[.int .i64 4, .int .i64 4] by rw [hv15]; exact (Box.made (by simp)).alloc _)
  have Hb15_2 := hide (show Box v15 (v14.heap.size + 1 + 1) 58 #[.slice (some ⟨v14.heap.size, 0, none⟩) 1 1, .slice (some ⟨v14.heap.size + 1, 0, none⟩) 1 1] by rw [hv15]; exact Box.made (by simp))
  have hcv15 : Below v14.heap.size v14 v15 := by rw [hv15]; (repeat (first | (with_reducible exact Below.refl _ _) | (with_reducible refine Go.below_drewN ?_ _) | (with_reducible refine Below.drew ?_) | (with_reducible refine Below.alloc ?_ (by first | exact Nat.le_refl _ | (simp; done) | (simp; omega) | omega) _) | (with_reducible refine Below.setCell ?_ (by first | exact Nat.le_refl _ | (simp; done) | (simp; omega) | omega) _)))
  clear hv15
  replace HE := hide (HE.out.below hcv15)
  replace HB := hide (HB.out.trans (hcv15.mono HB.out.size))
  clear hcv15
  obtain ⟨b15_0, eb15_0⟩ : ∃ z, v14.heap.size = z := ⟨_, rfl⟩
  simp only [eb15_0] at Hb15_0 Hb15_1 Hb15_2
  try simp only [eb15_0]
  clear eb15_0
  have H10 := hide (sameAll_any (some ⟨ge, 0, none⟩) (some ⟨(b15_0 + 1 + 1), 0, none⟩) 2 2 2 2 (fun _ => 1) (fun _ => 1) exX exX _ (by decide) (by decide) (fun _ _ => by decide) (fun _ _ => by decide) HE.out (mat_lit2 Hb15_2.out (by decide) (gaus_lit1 (x := ⟨12, 0⟩) Hb15_0.out) (gaus_lit1 (x := ⟨4, 4⟩) Hb15_1.out)))
  rw [matsB_self] at H10
  refine H10.out.mono ?_
  rintro e_ v16 ⟨rfl, q16, hq16⟩
  have hb16 : Below v15.heap.size v15 v16 := by rw [hq16]; exact Go.below_drewN (Below.refl _ _) _
  clear hq16
  replace HE := hide (HE.out.below hb16)
  replace HB := hide (HB.out.trans (hb16.mono HB.out.size))
  clear hb16
  clear H10
  go_wp2_with fail
  go_ret
  exact ⟨rfl, HB.out⟩
end Go.Proofs.Ytonmkmaeohfjpaa
/- LevelErr of the reference; short of the statements. -/
namespace Go.Proofs.Ytonmkmaeohfjpaa
open Go.RowKit Go.Lib
set_option maxHeartbeats 1000000 in
theorem LevelErr_any (A : Option Addr) (n c : Nat) (F : Nat → Int) (w : World) (hn : n ≤ 100000) (hI : IntsAt w 0 A n F) :
    Calls Try.prog 39 #[.slice A n c] w fun e w' => e = .returned (.int .i64 (bitE n F 3)) ∧ ∃ q, w' = w.drewN q := by
  have HX := hide (areBitsB_any A n c F w hn hI)
  have HE := hide (show bitE n F 3 = if n = 0 then 10 else if (3 : Int) < (n : Int) then 8 else unI (bitsB n F) 15 from rfl)
  obtain ⟨v, hv⟩ : ∃ z, bitE n F 3 = z := ⟨_, rfl⟩
  rw [hv]
  rw [hv] at HE
  clear hI hv
  by_cases h0 : n = 0
  · have e := HE.out.trans (if_pos h0)
    have t0 : ((n : Int) == 0) = true := by simpa using h0
    subst e
    clear HX HE
    go_enter Try.func39, Try.ntmps39
    go_wp2_with fail
    go_ret
    exact ⟨rfl, 0, rfl⟩
  have h1 := HE.out.trans (if_neg h0)
  have t0 : ((n : Int) == 0) = false := by simpa using h0
  by_cases h2 : (3 : Int) < (n : Int)
  · have e := h1.trans (if_pos h2)
    have t1 : (n : Int) > 3 := h2
    subst e
    clear HX HE h1
    go_enter Try.func39, Try.ntmps39
    go_wp2_with fail
    go_ret
    exact ⟨rfl, 0, rfl⟩
  have h3 := h1.trans (if_neg h2)
  have t1 : ¬ (n : Int) > 3 := by omega
  clear HE h1 h2 h0
  obtain ⟨bb, hbb⟩ : ∃ z, bitsB n F = z := ⟨_, rfl⟩
  rw [hbb] at h3 HX
  clear hbb
  rcases bb with _ | _
  · have e : v = 15 := h3
    subst e
    clear h3
    go_enter Try.func39, Try.ntmps39
    go_wp2_with (go_at_call 87; refine HX.out.mono ?_; rintro e_ w' ⟨rfl, q, rfl⟩)
    go_ret
    exact ⟨rfl, q, rfl⟩
  · have e : v = 0 := h3
    subst e
    clear h3
    go_enter Try.func39, Try.ntmps39
    go_wp2_with (go_at_call 87; refine HX.out.mono ?_; rintro e_ w' ⟨rfl, q, rfl⟩)
    go_ret
    exact ⟨rfl, q, rfl⟩
set_option maxHeartbeats 1000000 in
theorem short_any (L : Int) (A B : Option Addr) (n c m d : Nat) (w : World) :
    Calls Try.prog 16 #[.agg #[.int .i64 L, .slice A n c, .slice B m d]] w fun e w' => e = .returned (.bool (decide ((n : Int) ≤ 12) && decide ((m : Int) ≤ 12))) ∧ Below w.heap.size w w' := by
  by_cases h1 : (n : Int) ≤ 12
  · by_cases h2 : (m : Int) ≤ 12
    · go_enter Try.func16, Try.ntmps16
      go_wp2_with fail
      go_ret
      exact ⟨ret_bool (by simp [h1, h2] <;> omega), by (repeat (first | (with_reducible exact Below.refl _ _) | (with_reducible refine Go.below_drewN ?_ _) | (with_reducible refine Below.drew ?_) | (with_reducible refine Below.alloc ?_ (by first | exact Nat.le_refl _ | (simp; done) | (simp; omega) | omega) _) | (with_reducible refine Below.setCell ?_ (by first | exact Nat.le_refl _ | (simp; done) | (simp; omega) | omega) _)))⟩
    · go_enter Try.func16, Try.ntmps16
      go_wp2_with fail
      go_ret
      exact ⟨ret_bool (by simp [h1, h2] <;> omega), by (repeat (first | (with_reducible exact Below.refl _ _) | (with_reducible refine Go.below_drewN ?_ _) | (with_reducible refine Below.drew ?_) | (with_reducible refine Below.alloc ?_ (by first | exact Nat.le_refl _ | (simp; done) | (simp; omega) | omega) _) | (with_reducible refine Below.setCell ?_ (by first | exact Nat.le_refl _ | (simp; done) | (simp; omega) | omega) _)))⟩
  · go_enter Try.func16, Try.ntmps16
    go_wp2_with fail
    go_ret
    exact ⟨ret_bool (by simp [h1] <;> omega), by (repeat (first | (with_reducible exact Below.refl _ _) | (with_reducible refine Go.below_drewN ?_ _) | (with_reducible refine Below.drew ?_) | (with_reducible refine Below.alloc ?_ (by first | exact Nat.le_refl _ | (simp; done) | (simp; omega) | omega) _) | (with_reducible refine Below.setCell ?_ (by first | exact Nat.le_refl _ | (simp; done) | (simp; omega) | omega) _)))⟩
end Go.Proofs.Ytonmkmaeohfjpaa
/- SameRegister of the reference. -/
namespace Go.Proofs.Ytonmkmaeohfjpaa
open Go.RowKit Go.Lib
set_option maxHeartbeats 4000000 in
set_option maxRecDepth 100000 in
theorem SameRegister_any (L L2 : Int) (A B A2 B2 : Option Addr) (n c m d n2 c2 m2 d2 : Nat) (T S T2 S2 : Nat → Int) (w : World) (hn : n ≤ 100000) (hm : m ≤ 100000) (hn2 : n2 ≤ 100000) (hm2 : m2 ≤ 100000) (h1 : IntsAt w 0 A n T) (h2 : IntsAt w 0 B m S) (h3 : IntsAt w 0 A2 n2 T2) (h4 : IntsAt w 0 B2 m2 S2) :
    Calls Try.prog 24 #[.agg #[.int .i64 L, .slice A n c, .slice B m d], .agg #[.int .i64 L2, .slice A2 n2 c2, .slice B2 m2 d2]] w fun e w' => e = .returned (.bool (decide (L = L2) && (intsB n T n2 T2 && intsB m S m2 S2))) ∧ Below w.heap.size w w' := by
  have H1 := hide h1
  have H2 := hide h2
  have H3 := hide h3
  have H4 := hide h4
  have HT := hide (fun W (h : IntsAt W 0 A n T) (k : IntsAt W 0 A2 n2 T2) => ints_any A A2 n n2 c c2 T T2 W hn hn2 h k)
  have HS := hide (fun W (h : IntsAt W 0 B m S) (k : IntsAt W 0 B2 m2 S2) => ints_any B B2 m m2 d d2 S S2 W hm hm2 h k)
  obtain ⟨b1, hb1⟩ : ∃ z, intsB n T n2 T2 = z := ⟨_, rfl⟩
  obtain ⟨b2, hb2⟩ : ∃ z, intsB m S m2 S2 = z := ⟨_, rfl⟩
  rw [hb1, hb2]
  rw [hb1] at HT
  rw [hb2] at HS
  clear h1 h2 h3 h4 hb1 hb2
  go_enter Try.func24, Try.ntmps24
  go_upto_region 1 with fail
  obtain ⟨W, hW⟩ : ∃ q : World, q = (w.alloc (.cells #[.int .i64 L, .slice A n c, .slice B m d] 24)).alloc (.cells #[.int .i64 L2, .slice A2 n2 c2, .slice B2 m2 d2] 24) := ⟨_, rfl⟩
  try rw [← hW]
  have HX := hide (show Box W w.heap.size 24 #[.int .i64 L, .slice A n c, .slice B m d] by rw [hW]; exact (Box.made rfl).alloc _)
  have HY := hide (show Box W (w.heap.size + 1) 24 #[.int .i64 L2, .slice A2 n2 c2, .slice B2 m2 d2] by rw [hW]; exact Box.made (by simp))
  have HB := hide (show Below w.heap.size w W by rw [hW]; (repeat (first | (with_reducible exact Below.refl _ _) | (with_reducible refine Go.below_drewN ?_ _) | (with_reducible refine Below.drew ?_) | (with_reducible refine Below.alloc ?_ (by first | exact Nat.le_refl _ | (simp; done) | (simp; omega) | omega) _) | (with_reducible refine Below.setCell ?_ (by first | exact Nat.le_refl _ | (simp; done) | (simp; omega) | omega) _))))
  clear hW
  obtain ⟨x0, x1, x2, -, -, -, hlx⟩ := HX.out.r3
  obtain ⟨y0, y1, y2, -, -, -, hly⟩ := HY.out.r3
  by_cases hL : L = L2
  case neg =>
    have tL : (L == L2) = false := by simpa using hL
    clear HT HS H1 H2 H3 H4
    go_wp2_with fail
    go_ret
    exact ⟨ret_bool (by simp [hL]), HB.out⟩
  subst hL
  have tL : (L == L) = true := by simp
  go_wp2_with fail
  refine (HT.out _ (H1.out.below HB.out) (H3.out.below HB.out)).mono ?_
  rintro e w1 ⟨rfl, q, hq⟩
  replace HX := hide (show Box w1 w.heap.size 24 #[.int .i64 L, .slice A n c, .slice B m d] by rw [hq]; exact HX.out.drewN _)
  replace HY := hide (show Box w1 (w.heap.size + 1) 24 #[.int .i64 L, .slice A2 n2 c2, .slice B2 m2 d2] by rw [hq]; exact HY.out.drewN _)
  replace HB := hide (show Below w.heap.size w w1 by rw [hq]; exact Go.below_drewN HB.out _)
  clear hq x0 x1 x2 y0 y1 y2 hlx hly HT H1 H3
  rcases b1 with _ | _
  · clear HS H2 H4
    go_wp2_with fail
    go_ret
    exact ⟨ret_bool (by simp), HB.out⟩
  obtain ⟨x0, x1, x2, -, -, -, hlx⟩ := HX.out.r3
  obtain ⟨y0, y1, y2, -, -, -, hly⟩ := HY.out.r3
  go_wp2_with fail
  refine (HS.out _ (H2.out.below HB.out) (H4.out.below HB.out)).mono ?_
  rintro e w2 ⟨rfl, q, hq⟩
  replace HB := hide (show Below w.heap.size w w2 by rw [hq]; exact Go.below_drewN HB.out _)
  clear hq x0 x1 x2 y0 y1 y2 hlx hly HS H2 H4 HX HY
  rcases b2 with _ | _
  · go_wp2_with fail
    go_ret
    exact ⟨ret_bool (by simp), HB.out⟩
  · go_wp2_with fail
    go_ret
    exact ⟨ret_bool (by simp), HB.out⟩
end Go.Proofs.Ytonmkmaeohfjpaa
/- Registers that are right: contracts of copies, jumps and steps with what they hand back; mathematics of a period. -/
namespace Go.Proofs.Ytonmkmaeohfjpaa
open Go Go.RowKit Go.Lib
theorem itS_per {L n : Nat} {T S : Nat → Int} {p : Nat} (hok : RegOk L n T S) (h : IsPer L n T S p) (k j : Nat) (hj : j < L) : itS L n T S (p + k) j = itS L n T S k j := by
  rw [itS_add]
  exact itS_congr (fun i hi => hok.low i hi) h.back k j hj
theorem itS_mod {L n : Nat} {T S : Nat → Int} {p : Nat} (hok : RegOk L n T S) (h : IsPer L n T S p) (k : Nat) : ∀ j, j < L → itS L n T S k j = itS L n T S (k % p) j := by
  induction k using Nat.strongRecOn with
  | ind k ih =>
    intro j hj
    have hp := h.pos
    by_cases hk : k < p
    · rw [Nat.mod_eq_of_lt hk]
    · obtain ⟨d, rfl⟩ : ∃ d, k = p + d := ⟨k - p, by omega⟩
      rw [itS_per hok h d j hj, ih d (by omega) j hj, Nat.add_mod_left]
theorem IsPer.it {L n : Nat} {T S : Nat → Int} {p : Nat} (hok : RegOk L n T S) (h : IsPer L n T S p) (a : Nat) : IsPer L n T (itS L n T S a) p := by
  refine ⟨h.pos, h.most, fun j hj => ?_, fun q h1 h2 => ?_⟩
  · rw [← itS_add, Nat.add_comm]
    exact itS_per hok h a j hj
  · by_cases hx : ∃ j, j < L ∧ itS L n T (itS L n T S a) q j ≠ itS L n T S a j
    · exact hx
    · obtain ⟨j, hj, hne⟩ := h.first q h1 h2
      refine absurd (itS_inj hok (a := a) (b := q) (fun i hi => ?_) j hj) hne
      rw [itS_add]
      exact Classical.byContradiction fun hn => hx ⟨i, hi, hn⟩
theorem bitE_bits {m : Nat} {S S' : Nat → Int} {L : Int} (h : bitE m S L = 0) (hb : ∀ j, j < m → IsBit (S' j)) : bitE m S' L = 0 := by
  unfold bitE at h ⊢
  by_cases h0 : m = 0
  · rw [if_pos h0] at h; exact absurd h (by decide)
  rw [if_neg h0] at h ⊢
  by_cases h1 : L < (m : Int)
  · rw [if_pos h1] at h; exact absurd h (by decide)
  rw [if_neg h1]
  unfold unI
  rw [if_pos (bitsB_iff.2 hb)]
theorem regE_bits {L : Int} {n m : Nat} {T S S' : Nat → Int} (h : regE L n T m S = 0) (hb : ∀ j, j < m → IsBit (S' j)) : regE L n T m S' = 0 := by
  unfold regE at h ⊢
  by_cases h0 : withinB L 2 10 = true
  case neg => rw [if_neg h0] at h; exact absurd h (by decide)
  rw [if_pos h0] at h ⊢
  by_cases h1 : tapE L n T = 0
  case neg => rw [if_neg h1] at h; exact absurd h h1
  rw [if_pos h1] at h ⊢
  by_cases h2 : (m : Int) = L
  case neg => rw [if_neg h2] at h; exact absurd h (by decide)
  rw [if_pos h2] at h ⊢
  exact bitE_bits h hb
theorem copyOk (L : Int) (A B : Option Addr) (n c m d : Nat) (T S : Nat → Int) (w : World) (hn : n ≤ 100000) (hm : m ≤ 100000) (hn0 : 0 < n) (hm0 : 0 < m) (hT : IntsAt w 0 A n T) (hS : IntsAt w 0 B m S) :
    Calls Try.prog 19 #[.agg #[.int .i64 L, .slice A n c, .slice B m d]] w fun e w' => ∃ g f h k, e = .returned (.agg #[.int .i64 L, .slice (some ⟨g, 0, none⟩) n f, .slice (some ⟨h, 0, none⟩) m k]) ∧ IntsAt w' 0 (some ⟨g, 0, none⟩) n T ∧ IntsAt w' 0 (some ⟨h, 0, none⟩) m S ∧ Below w.heap.size w w' :=
  (CopyRegister_any L A B n c m d T S w hn hm hT hS).mono fun e w' ⟨C, f, D, k, e1, h1, h2, h3, _⟩ => by
    obtain ⟨g, f', e2, -, -⟩ := own_form h1 hn0
    obtain ⟨h, k', e3, -, -⟩ := own_form h2 hm0
    injection e2 with e2 _ e4
    injection e3 with e3 _ e5
    subst e2; subst e3
    exact ⟨g, f, h, k, e1, h1.atG (Nat.zero_le _), h2.atG (Nat.zero_le _), h3⟩
theorem jumpOk (b n c b2 m d p s t : Nat) (T S : Nat → Int) (w : World) (hz : regE ((m : Int) + 1) n T (m + 1) S = 0) (hok : RegOk (m + 1) n T S) (hp : IsPer (m + 1) n T S p) (hs9 : s ≤ 1000000000) (ht : t = s % p) (hT : IntsAt w 0 (some ⟨b, 0, none⟩) n T) (hS : IntsAt w 0 (some ⟨b2, 0, none⟩) (m + 1) S) :
    Calls Try.prog 22 #[.agg #[.int .i64 ((m : Int) + 1), .slice (some ⟨b, 0, none⟩) n c, .slice (some ⟨b2, 0, none⟩) (m + 1) d], .int .i64 (s : Int)] w fun e w' => ∃ g f h k, e = .returned (.tuple #[.agg #[.int .i64 ((m : Int) + 1), .slice (some ⟨g, 0, none⟩) n f, .slice (some ⟨h, 0, none⟩) (m + 1) k], .int .i64 0]) ∧
      IntsAt w' 0 (some ⟨g, 0, none⟩) n T ∧ IntsAt w' 0 (some ⟨h, 0, none⟩) (m + 1) (itS (m + 1) n T S t) ∧ Below w.heap.size w w' :=
  (Jumped_right b 0 n c b2 0 m d p s t T S w hz hok hp hs9 ht hT hS).mono fun e w' ⟨g, f, h, k, e1, h1, h2, h3⟩ => ⟨g, f, h, k, e1, h1.atG (Nat.zero_le _), h2.atG (Nat.zero_le _), h3⟩
theorem nextOk (b n c b2 m d : Nat) (T S : Nat → Int) (w : World) (hz : regE ((m : Int) + 1) n T (m + 1) S = 0) (hok : RegOk (m + 1) n T S) (hT : IntsAt w 0 (some ⟨b, 0, none⟩) n T) (hS : IntsAt w 0 (some ⟨b2, 0, none⟩) (m + 1) S) :
    Calls Try.prog 20 #[.agg #[.int .i64 ((m : Int) + 1), .slice (some ⟨b, 0, none⟩) n c, .slice (some ⟨b2, 0, none⟩) (m + 1) d]] w fun e w' => ∃ g f h k, e = .returned (.tuple #[.int .i64 (S 0), .agg #[.int .i64 ((m : Int) + 1), .slice (some ⟨g, 0, none⟩) n f, .slice (some ⟨h, 0, none⟩) (m + 1) k], .int .i64 0]) ∧
      IntsAt w' 0 (some ⟨g, 0, none⟩) n T ∧ IntsAt w' 0 (some ⟨h, 0, none⟩) (m + 1) (nextS (m + 1) n T S) ∧ Below w.heap.size w w' :=
  (Next_right b 0 n c b2 0 m d T S w hz hok hT hS).mono fun e w' ⟨g, f, h, k, e1, h1, h2, h3⟩ => ⟨g, f, h, k, e1, h1.atG (Nat.zero_le _), h2.atG (Nat.zero_le _), h3⟩
theorem perOk (A B : Option Addr) (n c m d : Nat) (T S : Nat → Int) (w : World) (hn : n ≤ 100000) (hm : m ≤ 10000) (hz : regE ((m : Int) + 1) n T (m + 1) S = 0) (hT : IntsAt w 0 A n T) (hS : IntsAt w 0 B (m + 1) S) :
    Calls Try.prog 29 #[.agg #[.int .i64 ((m : Int) + 1), .slice A n c, .slice B (m + 1) d]] w fun e w' => ∃ p : Nat, e = .returned (.tuple #[.int .i64 (p : Int), .int .i64 0]) ∧ IsPer (m + 1) n T S p ∧ Below w.heap.size w w' :=
  (Period_any _ A B n c (m + 1) d T S w hn (by omega) hT hS).mono fun e w' ⟨p, e1, h1, _, h3⟩ => by
    rw [hz] at e1 h1
    obtain ⟨h4, h5⟩ := h1 rfl
    exact ⟨p.toNat, by rw [e1, show ((p.toNat : Nat) : Int) = p by omega], h5, h3⟩
theorem sameOk (L : Int) (A B A2 B2 : Option Addr) (n c m d c2 d2 : Nat) (T S S2 : Nat → Int) (w : World) (hn : n ≤ 100000) (hm : m ≤ 100000) (h1 : IntsAt w 0 A n T) (h2 : IntsAt w 0 B m S) (h3 : IntsAt w 0 A2 n T) (h4 : IntsAt w 0 B2 m S2) (he : ∀ j, j < m → S j = S2 j) :
    Calls Try.prog 24 #[.agg #[.int .i64 L, .slice A n c, .slice B m d], .agg #[.int .i64 L, .slice A2 n c2, .slice B2 m d2]] w fun e w' => e = .returned (.bool true) ∧ Below w.heap.size w w' := by
  have h := SameRegister_any L L A B A2 B2 n c m d n c2 m d2 T S T S2 w hn hm hn hm h1 h2 h3 h4
  rw [show (decide (L = L) && (intsB n T n T && intsB m S m S2)) = true by
    rw [decide_eq_true rfl, (intsB_iff (F := T) (G := T)).2 ⟨rfl, fun _ _ => rfl⟩, intsB_iff.2 ⟨rfl, he⟩]
    rfl] at h
  exact h
end Go.Proofs.Ytonmkmaeohfjpaa
/- append of one number onto the rest of a list of one's own (from place 1 on). -/
namespace Go.Proofs.Ytonmkmaeohfjpaa
open Go.RowKit Go.Lib
theorem cell_ofI {m : Nat} {F : Nat → Int} {A : Nat → Option Value} (h : ∀ j, j < m → A j = some (.int .i64 (F j))) : ∀ j u, (intCells m F)[j]? = some u → A j = some u := fun j u hu => by
  rw [intCells_get] at hu
  split at hu
  · injection hu with hu
    subst hu
    exact h j (by assumption)
  · cases hu
theorem restF_cat {m : Nat} {S : Nat → Int} {y : Int} (j : Nat) (hj : j < m + 1) : catF m (fun j => S (j + 1)) (fun _ => y) j = if j + 1 < m + 1 then S (j + 1) else y := by
  unfold catF
  by_cases e : j < m
  · rw [if_pos e, if_pos (by omega)]
  · rw [if_neg e, if_neg (by omega)]
set_option maxRecDepth 100000 in
theorem wpList_append_rest {ops : Array Oper} {rest : List Oper} {o : Oper} {a : Act} {Q : Exit → Act → World → Prop} (w : World) (hgd : o.guard = none) (s x : Operand)
    (ho : o.op = .call { callee := .builtin .append, args := #[s, x], argTypes := #[22, 22] })
    (base g m c : Nat) (S : Nat → Int) (y : Int) (hown : OwnInts w base (.slice (some ⟨g, 0, none⟩) (m + 1) c) (m + 1) S) (hs : a.eval s = .slice (some ⟨g, 1, none⟩) m (c - 1)) (q : Nat) (hx : a.eval x = .slice (some ⟨q, 0, none⟩) 1 1) (hy : w.cell? ⟨q, 0, none⟩ = some (.int .i64 y)) (hm : m ≤ 1000) (hbase : base ≤ w.heap.size)
    (h : ∀ A d w', IntsAt w' 0 A (m + 1) (fun j => if j + 1 < m + 1 then S (j + 1) else y) → m + 1 ≤ d → d ≤ 9223372036854775807 → Below base w w' → Only g w w' → (∀ b o, A = some ⟨b, o, none⟩ → b = g ∨ w.heap.size ≤ b) → wpList Try.prog ops Q rest (a.put o.dst (.slice A (m + 1) d)) w') : wpList Try.prog ops Q (o :: rest) a w := by
  obtain ⟨i0, hi, hz0, hz1, hz2⟩ := info_parts intInfo
  have hcap := hown.cap_any
  refine wpList_append_arg w hgd s x 22 ho 3 i0 (.int .i64 0) 1 8 Try.underlying22 hi hz0 hz1 hz2 rfl (by decide) g 1 m (c - 1) (intCells m fun j => S (j + 1)) hs (by rw [intCells_len, Nat.mul_one])
    (cell_ofI (A := fun j => w.cell? ⟨g, 1 + j, none⟩) fun j hj => by
      show w.cell? ⟨g, 1 + j, none⟩ = _
      rw [Nat.add_comm 1 j]
      exact hown.cellAt (k := j + 1) (by omega))
    ⟨q, 0, none⟩ 1 1 (intCells 1 fun _ => y) hx (by rw [intCells_len])
    (cell_ofI (A := fun j => w.cell? ((⟨q, 0, none⟩ : Addr).add j)) fun j hj => by
      obtain rfl : j = 0 := by omega
      show w.cell? ((⟨q, 0, none⟩ : Addr).add 0) = _
      rw [show (⟨q, 0, none⟩ : Addr).add 0 = ⟨q, 0, none⟩ by simp [Addr.add]]
      exact hy)
    (fun u hu => by
      obtain ⟨j, -, rfl⟩ := List.mem_map.1 hu
      rfl)
    (fun hr j hj => by
      rw [intCells_len] at hj
      obtain rfl : j = 0 := by omega
      refine ⟨?_, hown.frozen _⟩
      rcases hown.2 with ⟨e, -⟩ | ⟨g', cap, cur, e, -, hg, -, -, hsz, -⟩
      · cases e
      · injection e with e1 e2 e3
        injection e1 with e1
        injection e1 with e1
        subst e1; subst e3
        have hb : Box w g 3 cur := hg
        rw [hb.at_, Array.getElem?_eq_getElem (by omega)]
        rfl)
    (by unfold maxLen; omega) (by omega) (fun hr => ?_) (fun hg v' w' h1 h2 => ?_)
  · have hset := hown.set_ (m + 1) y
    rw [show (1 : Nat) + m * 1 = m + 1 by omega]
    show wpList _ _ _ _ _ (w.setCell ⟨g, m + 1, none⟩ (.int .i64 y))
    refine h (some ⟨g, 1, none⟩) (c - 1) _ (fun j hj => ⟨g, 1, rfl, Nat.zero_le _, ?_, ?_⟩) (by omega) (by omega) ?_ ?_ ?_
    · exact (ownV_at (w' := w) (v' := .slice none 0 0) hset rfl).2
    · show (w.setCell ⟨g, m + 1, none⟩ (.int .i64 y)).cell? ⟨g, 1 + j, none⟩ = some (.int .i64 (if j + 1 < m + 1 then S (j + 1) else y))
      by_cases e : j + 1 < m + 1
      · have := hset.cellAt (k := j + 1) e
        unfold setF at this
        rw [if_neg (by omega)] at this
        rw [if_pos e, Nat.add_comm 1 j]
        exact this
      · obtain rfl : j = m := by omega
        rw [if_neg e, Nat.add_comm 1 j]
        rcases hown.2 with ⟨e, -⟩ | ⟨g', cap, cur, e, -, hg, -, -, hsz, -⟩
        · cases e
        · injection e with e1 e2 e3
          injection e1 with e1
          injection e1 with e1
          subst e1; subst e3
          have hb : Box w g 3 cur := hg
          exact World.cell?_setCell_same' w ⟨g, j + 1, none⟩ _ (by rw [hb.at_, Array.getElem?_eq_getElem (by omega)]; rfl)
    · exact (Below.refl base w).setCell (p := ⟨g, m + 1, none⟩) (ownV_at (w' := w) (v' := .slice none 0 0) hown rfl).1 _
    · exact (Only.refl g w).set_ (m + 1) _
    · intro b o e
      injection e with e
      injection e with e
      exact .inl e.symm
  · rw [intCells_cat] at h1
    have hO : OwnInts w' w.heap.size v' (m + 1) (catF m (fun j => S (j + 1)) (fun _ => y)) := h1
    obtain ⟨A, d, rfl, hd, hI⟩ := hO.form
    exact h A d w' ((hI.weak (Nat.zero_le _)).congr fun j hj => restF_cat j hj) hd hO.cap_any.2 ⟨h2.os, h2.tape, h2.output, h2.size, fun k hk => h2.block k (by omega) (by simp)⟩ ⟨h2.os, h2.tape, h2.output, h2.size, fun k hk _ => h2.block k hk (by simp)⟩ (fun b o e => by
      obtain ⟨b', o', e', h5, -⟩ := hI 0 (by omega)
      rw [e] at e'
      injection e' with e'
      injection e' with e'
      subst e'
      exact .inr h5)
end Go.Proofs.Ytonmkmaeohfjpaa
