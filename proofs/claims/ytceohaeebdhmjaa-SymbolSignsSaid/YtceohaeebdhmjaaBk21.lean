/- Lemmas: S47, S48, S68, S69. -/
import Derived.Test.YtceohaeebdhmjaaBk09
import Derived.Test.YtceohaeebdhmjaaBk11
import Derived.Test.YtceohaeebdhmjaaBk20
set_option linter.unusedVariables false
set_option linter.unusedSimpArgs false
/- The document's examples, each one alone. -/
namespace Go.Proofs.Ytceohaeebdhmjaa
open Go Go.RowKit Go.Lib Ieee
def exSeq (j : Nat) : Int := [1, 0, 0, 1, 0, 1, 1].getD j 0
def exBits (j : Nat) : Int := [0, 1, 1, 0].getD j 0
def exSoft (j : Nat) : Int := [48, 8, -8, 24].getD j 0
theorem below7 {p : Nat → Prop} (h0 : p 0) (h1 : p 1) (h2 : p 2) (h3 : p 3) (h4 : p 4) (h5 : p 5) (h6 : p 6) : ∀ j, j < 7 → p j := fun j hj => by
  obtain rfl | rfl | rfl | rfl | rfl | rfl | rfl : j = 0 ∨ j = 1 ∨ j = 2 ∨ j = 3 ∨ j = 4 ∨ j = 5 ∨ j = 6 := by omega
  all_goals assumption
theorem below4 {p : Nat → Prop} (h0 : p 0) (h1 : p 1) (h2 : p 2) (h3 : p 3) : ∀ j, j < 4 → p j := fun j hj => by
  obtain rfl | rfl | rfl | rfl : j = 0 ∨ j = 1 ∨ j = 2 ∨ j = 3 := by omega
  all_goals assumption
theorem exSeq_ok : ∀ j, j < 7 → itS 3 2 regT regS j 0 = exSeq j := by decide
theorem seqE_ex : seqE 3 2 regT 3 regS 7 = 0 := by decide
theorem seq_ex (g1 g2 : Nat) (w : World) (hT : IntsAt w 0 (some ⟨g1, 0, none⟩) 2 regT) (hS : IntsAt w 0 (some ⟨g2, 0, none⟩) 3 regS) :
    Calls Try.prog 54 #[.agg #[.int .i64 3, .slice (some ⟨g1, 0, none⟩) 2 2, .slice (some ⟨g2, 0, none⟩) 3 3], .int .i64 7] w fun e w' => ∃ g, e = .returned (.tuple #[.slice (some ⟨g, 0, none⟩) 7 7, .int .i64 0]) ∧ IntsAt w' 0 (some ⟨g, 0, none⟩) 7 exSeq ∧ Below w.heap.size w w' := by
  have h := Sequence_any 3 7 (some ⟨g1, 0, none⟩) (some ⟨g2, 0, none⟩) 2 2 3 3 regT regS w (by decide) (by decide) hT hS
  rw [seqE_ex] at h
  refine h.mono fun e w' h2 => ?_
  obtain ⟨v, rfl, hv, -, hb⟩ := h2
  obtain ⟨g, rfl, ho⟩ := hv rfl
  exact ⟨g, rfl, (ho.atG (Nat.zero_le _)).congr fun j hj => exSeq_ok j hj, hb⟩
theorem modE_ex : modE (2 * ((2 : Nat) : Int)) 4 exBits = 0 := by decide
theorem mod_ex (g : Nat) (w : World) (hI : IntsAt w 0 (some ⟨g, 0, none⟩) 4 exBits) :
    Calls Try.prog 47 #[.int .i64 4, .slice (some ⟨g, 0, none⟩) 4 4] w fun e w' => ∃ A c, e = .returned (.tuple #[.slice A 1 c, .int .i64 0]) ∧ GausAt w' 0 A 1 (fun _ => ⟨3, -1⟩) ∧ Below w.heap.size w w' := by
  have h := Modulated_right 2 g 1 4 4 exBits w (by decide) (by decide) (by decide) (by decide) (by decide) (by decide) hI modE_ex
  rw [show (2 * ((2 : Nat) : Int)) = 4 from rfl] at h
  refine h.mono fun e w' h2 => ?_
  obtain ⟨v, rfl, ho, hb⟩ := h2
  obtain ⟨A, c, rfl, hc, hG⟩ := ownGaus_form ho
  refine ⟨A, c, rfl, (hG.weak (Nat.zero_le _)).congr fun j hj => ?_, hb⟩
  obtain rfl : j = 0 := by omega
  exact Gau.same (by decide) (by decide)
theorem recvE_ex : recvE (2 * ((2 : Nat) : Int)) 2 1 (fun _ => ⟨5, 1⟩) = 0 := by decide
theorem exSoft_ok : ∀ j, j < 4 → bopF 2 (fun p => softP p 2 2) (fun _ => ⟨5, 1⟩) j = exSoft j := by decide
theorem soft_ex (g : Nat) (w : World) (hI : GausAt w 0 (some ⟨g, 0, none⟩) 1 (fun _ => ⟨5, 1⟩)) :
    Calls Try.prog 37 #[.agg #[.int .i64 4, .int .i64 2, .slice (some ⟨g, 0, none⟩) 1 1]] w fun e w' => ∃ A c, e = .returned (.tuple #[.slice A 4 c, .int .i64 0]) ∧ IntsAt w' 0 A 4 exSoft ∧ Below w.heap.size w w' := by
  have h := Soft_right 2 2 (some ⟨g, 0, none⟩) 1 1 (fun _ => ⟨5, 1⟩) w (by decide) (by decide) (by decide) hI recvE_ex
  rw [show (2 * ((2 : Nat) : Int)) = 4 from rfl] at h
  refine h.mono fun e w' h2 => ?_
  obtain ⟨v, rfl, ho, hb⟩ := h2
  obtain ⟨A, c, rfl, hc, hG⟩ := ho.form
  exact ⟨A, c, rfl, (hG.weak (Nat.zero_le _)).congr fun j hj => exSoft_ok j hj, hb⟩
def exM (i k : Nat) : Gau := if i = 0 then if k = 0 then ⟨1, 0⟩ else ⟨0, 1⟩ else if k = 0 then ⟨0, 0⟩ else ⟨2, 0⟩
def exR (i _k : Nat) : Gau := if i = 0 then ⟨2, 1⟩ else ⟨2, 2⟩
def exX (i _k : Nat) : Gau := if i = 0 then ⟨12, 0⟩ else ⟨4, 4⟩
def exE (i k : Nat) : Gau := gsum (eqF 2 exM (detV 2 (fun _ => 2) exM)) exR i k 2
theorem eqE_ex : eqE 2 (fun _ => 2) exM 2 (fun _ => 1) exR = 0 := by decide
theorem eqG_ex : eqG 2 (fun _ => 2) exM 2 (fun _ => 1) exR = 4 := by decide
theorem exX_re : ∀ i, i < 2 → (exE i 0).re = (exX i 0).re := by decide
theorem exX_im : ∀ i, i < 2 → (exE i 0).im = (exX i 0).im := by decide
theorem eq_ex (g h : Nat) (w : World) (hI : MatsAt w 0 (some ⟨g, 0, none⟩) 2 (fun _ => 2) exM) (hJ : MatsAt w 0 (some ⟨h, 0, none⟩) 2 (fun _ => 1) exR) :
    Calls Try.prog 29 #[.slice (some ⟨g, 0, none⟩) 2 2, .slice (some ⟨h, 0, none⟩) 2 2] w fun e w' => ∃ q, e = .returned (.tuple #[.slice (some ⟨q, 0, none⟩) 2 2, .int .i64 4, .int .i64 0]) ∧ MatsAt w' 0 (some ⟨q, 0, none⟩) 2 (fun _ => 1) exX ∧ Below w.heap.size w w' := by
  have h := Equalized_any (some ⟨g, 0, none⟩) (some ⟨h, 0, none⟩) 2 2 2 2 (fun _ => 2) (fun _ => 1) exM exR w (by decide) (by decide) (fun _ _ => by decide) (fun _ _ => by decide) hI hJ
  rw [eqE_ex, eqG_ex] at h
  refine h.mono fun e w' h2 => ?_
  obtain ⟨v, rfl, hv, hb⟩ := h2
  obtain ⟨q, rfl, hm⟩ := hv.1 rfl
  refine ⟨q, rfl, fun i hi => ?_, hb⟩
  obtain ⟨b, o, Ai, ci, e1, e2, e3, e4, e5, e6, e7⟩ := hm i hi
  refine ⟨b, o, Ai, ci, e1, Nat.zero_le _, e3, e4, e5, e6, (e7.weak (Nat.zero_le _)).congr fun k hk => ?_⟩
  have hk1 : k < 1 := hk
  obtain rfl : k = 0 := by omega
  exact Gau.same (exX_re i hi) (exX_im i hi)
theorem intsB_self {n : Nat} {F : Nat → Int} : intsB n F n F = true := intsB_iff.2 ⟨rfl, fun _ _ => rfl⟩
end Go.Proofs.Ytceohaeebdhmjaa
/- The examples together: awake of the law. -/
namespace Go.Proofs.Ytceohaeebdhmjaa
open Go Go.RowKit Go.Lib Ieee
theorem gausB_self {n : Nat} {F : Nat → Gau} : gausB n F n F = true := gausB_iff.2 ⟨rfl, fun _ _ => rfl⟩
theorem matsB_self {n : Nat} {L : Nat → Nat} {F : Nat → Nat → Gau} : matsB n L F n L F = true := matsB_iff.2 ⟨rfl, fun _ _ => ⟨rfl, fun _ _ => rfl⟩⟩
set_option maxHeartbeats 16000000 in
set_option maxRecDepth 100000 in
theorem awakeS_any (w : World) : Calls Try.prog 10 #[] w fun e w' => e = .returned (.bool true) ∧ Below w.heap.size w w' := by
  have HB := hide (Below.refl w.heap.size w)
  go_enter Try.func10, Try.ntmps10
  go_wp2_with fail
  refine (Register_any _).mono ?_
  rintro e v1 ⟨g1, g2, rfl, hT, hS, hb1⟩
  replace HB := hide (HB.out.trans (hb1.mono HB.out.size))
  clear hb1
  have HT := hide hT
  clear hT
  have HS := hide hS
  clear hS
  go_wp2_with fail
  refine (seq_ex g1 g2 _ HT.out HS.out).mono ?_
  rintro e v2 ⟨gl, rfl, hl, hb2⟩
  replace HT := hide (HT.out.below hb2)
  replace HS := hide (HS.out.below hb2)
  replace HB := hide (HB.out.trans (hb2.mono HB.out.size))
  clear hb2
  have HL := hide hl
  clear hl
  go_wp2_with fail
  clear HT HS
  obtain ⟨v3, hv3⟩ : ∃ z : World, z = (v2.alloc (.cells #[.int .i64 0, .int .i64 1, .int .i64 1, .int .i64 0] 3)) := ⟨_, rfl⟩
  try rw [← hv3]
  have Hb3_0 := hide (show Box v3 (v2.heap.size) 3 #[.int .i64 0, .int .i64 1, .int .i64 1, .int .i64 0] by rw [hv3]; exact Box.made rfl)
  have hcv3 : Below v2.heap.size v2 v3 := by rw [hv3]; (repeat (first | (with_reducible exact Below.refl _ _) | (with_reducible refine Go.below_drewN ?_ _) | (with_reducible refine Below.drew ?_) | (with_reducible refine Below.alloc ?_ (by first | exact Nat.le_refl _ | (simp; done) | (simp; omega) | omega) _) | (with_reducible refine Below.setCell ?_ (by first | exact Nat.le_refl _ | (simp; done) | (simp; omega) | omega) _)))
  clear hv3
  replace HL := hide (HL.out.below hcv3)
  replace HB := hide (HB.out.trans (hcv3.mono HB.out.size))
  clear hcv3
  obtain ⟨b3_0, eb3_0⟩ : ∃ z, v2.heap.size = z := ⟨_, rfl⟩
  simp only [eb3_0] at Hb3_0
  try simp only [eb3_0]
  clear eb3_0
  refine (mod_ex (b3_0) _ (ints_lit [0, 1, 1, 0] Hb3_0.out rfl)).mono ?_
  rintro e v4 ⟨Am, cm, rfl, hm, hb3⟩
  replace HL := hide (HL.out.below hb3)
  replace HB := hide (HB.out.trans (hb3.mono HB.out.size))
  clear hb3
  have HM := hide hm
  clear hm
  go_wp2_with fail
  obtain ⟨v5, hv5⟩ : ∃ z : World, z = (v4.alloc (.cells #[.int .i64 5, .int .i64 1] 43)) := ⟨_, rfl⟩
  try rw [← hv5]
  have Hb5_0 := hide (show Box v5 (v4.heap.size) 43 #[.int .i64 5, .int .i64 1] by rw [hv5]; exact Box.made rfl)
  have hcv5 : Below v4.heap.size v4 v5 := by rw [hv5]; (repeat (first | (with_reducible exact Below.refl _ _) | (with_reducible refine Go.below_drewN ?_ _) | (with_reducible refine Below.drew ?_) | (with_reducible refine Below.alloc ?_ (by first | exact Nat.le_refl _ | (simp; done) | (simp; omega) | omega) _) | (with_reducible refine Below.setCell ?_ (by first | exact Nat.le_refl _ | (simp; done) | (simp; omega) | omega) _)))
  clear hv5
  replace HL := hide (HL.out.below hcv5)
  replace HM := hide (HM.out.below hcv5)
  replace HB := hide (HB.out.trans (hcv5.mono HB.out.size))
  clear hcv5
  obtain ⟨b5_0, eb5_0⟩ : ∃ z, v4.heap.size = z := ⟨_, rfl⟩
  simp only [eb5_0] at Hb5_0
  try simp only [eb5_0]
  clear eb5_0
  refine (soft_ex (b5_0) _ (gaus_lit1 (x := ⟨5, 1⟩) Hb5_0.out)).mono ?_
  rintro e v6 ⟨As, cs, rfl, hs, hb4⟩
  replace HL := hide (HL.out.below hb4)
  replace HM := hide (HM.out.below hb4)
  replace HB := hide (HB.out.trans (hb4.mono HB.out.size))
  clear hb4
  have HSO := hide hs
  clear hs
  go_wp2_with fail
  obtain ⟨v7, hv7⟩ : ∃ z : World, z = ((((((v6.alloc (.cells #[.int .i64 1, .int .i64 0, .int .i64 0, .int .i64 1] 43)).alloc (.cells #[.int .i64 0, .int .i64 0, .int .i64 2, .int .i64 0] 43)).alloc (.cells #[.slice (some ⟨v6.heap.size, 0, none⟩) 2 2, .slice (some ⟨v6.heap.size + 1, 0, none⟩) 2 2] 22)).alloc (.cells #[.int .i64 2, .int .i64 1] 43)).alloc (.cells #[.int .i64 2, .int .i64 2] 43)).alloc (.cells #[.slice (some ⟨v6.heap.size + 1 + 1 + 1, 0, none⟩) 1 1, .slice (some ⟨v6.heap.size + 1 + 1 + 1 + 1, 0, none⟩) 1 1] 22)) := ⟨_, rfl⟩
  try rw [← hv7]
  have Hb7_0 := hide (show Box v7 (v6.heap.size) 43 #[.int .i64 1, .int .i64 0, .int .i64 0, .int .i64 1] by rw [hv7]; exact (((((Box.made rfl).alloc _).alloc _).alloc _).alloc _).alloc _)
  have Hb7_1 := hide (show Box v7 (v6.heap.size + 1) 43 #[.int .i64 0, .int .i64 0, .int .i64 2, .int .i64 0] by rw [hv7]; exact ((((Box.made (by simp)).alloc _).alloc _).alloc _).alloc _)
  have Hb7_2 := hide (show Box v7 (v6.heap.size + 1 + 1) 22 #[.slice (some ⟨v6.heap.size, 0, none⟩) 2 2, .slice (some ⟨v6.heap.size + 1, 0, none⟩) 2 2] by rw [hv7]; exact (((Box.made (by simp)).alloc _).alloc _).alloc _)
  have Hb7_3 := hide (show Box v7 (v6.heap.size + 1 + 1 + 1) 43 #[.int .i64 2, .int .i64 1] by rw [hv7]; exact ((Box.made (by simp)).alloc _).alloc _)
  have Hb7_4 := hide (show Box v7 (v6.heap.size + 1 + 1 + 1 + 1) 43 #[.int .i64 2, .int .i64 2] by rw [hv7]; exact (Box.made (by simp)).alloc _)
  have Hb7_5 := hide (show Box v7 (v6.heap.size + 1 + 1 + 1 + 1 + 1) 22 #[.slice (some ⟨v6.heap.size + 1 + 1 + 1, 0, none⟩) 1 1, .slice (some ⟨v6.heap.size + 1 + 1 + 1 + 1, 0, none⟩) 1 1] by rw [hv7]; exact Box.made (by simp))
  have hcv7 : Below v6.heap.size v6 v7 := by rw [hv7]; (repeat (first | (with_reducible exact Below.refl _ _) | (with_reducible refine Go.below_drewN ?_ _) | (with_reducible refine Below.drew ?_) | (with_reducible refine Below.alloc ?_ (by first | exact Nat.le_refl _ | (simp; done) | (simp; omega) | omega) _) | (with_reducible refine Below.setCell ?_ (by first | exact Nat.le_refl _ | (simp; done) | (simp; omega) | omega) _)))
  clear hv7
  replace HL := hide (HL.out.below hcv7)
  replace HM := hide (HM.out.below hcv7)
  replace HSO := hide (HSO.out.below hcv7)
  replace HB := hide (HB.out.trans (hcv7.mono HB.out.size))
  clear hcv7
  obtain ⟨b7_0, eb7_0⟩ : ∃ z, v6.heap.size = z := ⟨_, rfl⟩
  simp only [eb7_0] at Hb7_0 Hb7_1 Hb7_2 Hb7_3 Hb7_4 Hb7_5
  try simp only [eb7_0]
  clear eb7_0
  refine (eq_ex (b7_0 + 1 + 1) (b7_0 + 1 + 1 + 1 + 1 + 1) _ (mat_lit2 Hb7_2.out (by decide) (gaus_lit2 (x := ⟨1, 0⟩) (y := ⟨0, 1⟩) Hb7_0.out rfl rfl) (gaus_lit2 (x := ⟨0, 0⟩) (y := ⟨2, 0⟩) Hb7_1.out rfl rfl)) (mat_lit2 Hb7_5.out (by decide) (gaus_lit1 (x := ⟨2, 1⟩) Hb7_3.out) (gaus_lit1 (x := ⟨2, 2⟩) Hb7_4.out))).mono ?_
  rintro e v8 ⟨ge, rfl, he, hb5⟩
  replace HL := hide (HL.out.below hb5)
  replace HM := hide (HM.out.below hb5)
  replace HSO := hide (HSO.out.below hb5)
  replace HB := hide (HB.out.trans (hb5.mono HB.out.size))
  clear hb5
  have HE := hide he
  clear he
  go_wp2_with fail
  obtain ⟨v9, hv9⟩ : ∃ z : World, z = (v8.alloc (.cells #[.int .i64 1, .int .i64 0, .int .i64 0, .int .i64 1, .int .i64 0, .int .i64 1, .int .i64 1] 3)) := ⟨_, rfl⟩
  try rw [← hv9]
  have Hb9_0 := hide (show Box v9 (v8.heap.size) 3 #[.int .i64 1, .int .i64 0, .int .i64 0, .int .i64 1, .int .i64 0, .int .i64 1, .int .i64 1] by rw [hv9]; exact Box.made rfl)
  have hcv9 : Below v8.heap.size v8 v9 := by rw [hv9]; (repeat (first | (with_reducible exact Below.refl _ _) | (with_reducible refine Go.below_drewN ?_ _) | (with_reducible refine Below.drew ?_) | (with_reducible refine Below.alloc ?_ (by first | exact Nat.le_refl _ | (simp; done) | (simp; omega) | omega) _) | (with_reducible refine Below.setCell ?_ (by first | exact Nat.le_refl _ | (simp; done) | (simp; omega) | omega) _)))
  clear hv9
  replace HL := hide (HL.out.below hcv9)
  replace HM := hide (HM.out.below hcv9)
  replace HSO := hide (HSO.out.below hcv9)
  replace HE := hide (HE.out.below hcv9)
  replace HB := hide (HB.out.trans (hcv9.mono HB.out.size))
  clear hcv9
  obtain ⟨b9_0, eb9_0⟩ : ∃ z, v8.heap.size = z := ⟨_, rfl⟩
  simp only [eb9_0] at Hb9_0
  try simp only [eb9_0]
  clear eb9_0
  have H7 := hide (ints_any (some ⟨gl, 0, none⟩) (some ⟨(b9_0), 0, none⟩) 7 7 7 7 exSeq exSeq _ (by decide) (by decide) HL.out (ints_lit [1, 0, 0, 1, 0, 1, 1] Hb9_0.out rfl))
  rw [intsB_self] at H7
  refine H7.out.mono ?_
  rintro e_ v10 ⟨rfl, q10, hq10⟩
  have hb10 : Below v9.heap.size v9 v10 := by rw [hq10]; exact Go.below_drewN (Below.refl _ _) _
  clear hq10
  replace HL := hide (HL.out.below hb10)
  replace HM := hide (HM.out.below hb10)
  replace HSO := hide (HSO.out.below hb10)
  replace HE := hide (HE.out.below hb10)
  replace HB := hide (HB.out.trans (hb10.mono HB.out.size))
  clear hb10
  clear H7
  go_wp2_with fail
  clear HL
  obtain ⟨v11, hv11⟩ : ∃ z : World, z = (v10.alloc (.cells #[.int .i64 3, .int .i64 (-1)] 43)) := ⟨_, rfl⟩
  try rw [← hv11]
  have Hb11_0 := hide (show Box v11 (v10.heap.size) 43 #[.int .i64 3, .int .i64 (-1)] by rw [hv11]; exact Box.made rfl)
  have hcv11 : Below v10.heap.size v10 v11 := by rw [hv11]; (repeat (first | (with_reducible exact Below.refl _ _) | (with_reducible refine Go.below_drewN ?_ _) | (with_reducible refine Below.drew ?_) | (with_reducible refine Below.alloc ?_ (by first | exact Nat.le_refl _ | (simp; done) | (simp; omega) | omega) _) | (with_reducible refine Below.setCell ?_ (by first | exact Nat.le_refl _ | (simp; done) | (simp; omega) | omega) _)))
  clear hv11
  replace HM := hide (HM.out.below hcv11)
  replace HSO := hide (HSO.out.below hcv11)
  replace HE := hide (HE.out.below hcv11)
  replace HB := hide (HB.out.trans (hcv11.mono HB.out.size))
  clear hcv11
  obtain ⟨b11_0, eb11_0⟩ : ∃ z, v10.heap.size = z := ⟨_, rfl⟩
  simp only [eb11_0] at Hb11_0
  try simp only [eb11_0]
  clear eb11_0
  have H8 := hide (gausses_any Am (some ⟨(b11_0), 0, none⟩) 1 1 cm 1 (fun _ => ⟨3, -1⟩) (fun _ => ⟨3, -1⟩) _ (by decide) (by decide) HM.out (gaus_lit1 (x := ⟨3, -1⟩) Hb11_0.out))
  rw [gausB_self] at H8
  refine H8.out.mono ?_
  rintro e_ v12 ⟨rfl, q12, hq12⟩
  have hb12 : Below v11.heap.size v11 v12 := by rw [hq12]; exact Go.below_drewN (Below.refl _ _) _
  clear hq12
  replace HM := hide (HM.out.below hb12)
  replace HSO := hide (HSO.out.below hb12)
  replace HE := hide (HE.out.below hb12)
  replace HB := hide (HB.out.trans (hb12.mono HB.out.size))
  clear hb12
  clear H8
  go_wp2_with fail
  clear HM
  obtain ⟨v13, hv13⟩ : ∃ z : World, z = (v12.alloc (.cells #[.int .i64 48, .int .i64 8, .int .i64 (-8), .int .i64 24] 3)) := ⟨_, rfl⟩
  try rw [← hv13]
  have Hb13_0 := hide (show Box v13 (v12.heap.size) 3 #[.int .i64 48, .int .i64 8, .int .i64 (-8), .int .i64 24] by rw [hv13]; exact Box.made rfl)
  have hcv13 : Below v12.heap.size v12 v13 := by rw [hv13]; (repeat (first | (with_reducible exact Below.refl _ _) | (with_reducible refine Go.below_drewN ?_ _) | (with_reducible refine Below.drew ?_) | (with_reducible refine Below.alloc ?_ (by first | exact Nat.le_refl _ | (simp; done) | (simp; omega) | omega) _) | (with_reducible refine Below.setCell ?_ (by first | exact Nat.le_refl _ | (simp; done) | (simp; omega) | omega) _)))
  clear hv13
  replace HSO := hide (HSO.out.below hcv13)
  replace HE := hide (HE.out.below hcv13)
  replace HB := hide (HB.out.trans (hcv13.mono HB.out.size))
  clear hcv13
  obtain ⟨b13_0, eb13_0⟩ : ∃ z, v12.heap.size = z := ⟨_, rfl⟩
  simp only [eb13_0] at Hb13_0
  try simp only [eb13_0]
  clear eb13_0
  have H9 := hide (ints_any As (some ⟨(b13_0), 0, none⟩) 4 4 cs 4 exSoft exSoft _ (by decide) (by decide) HSO.out (ints_lit [48, 8, -8, 24] Hb13_0.out rfl))
  rw [intsB_self] at H9
  refine H9.out.mono ?_
  rintro e_ v14 ⟨rfl, q14, hq14⟩
  have hb14 : Below v13.heap.size v13 v14 := by rw [hq14]; exact Go.below_drewN (Below.refl _ _) _
  clear hq14
  replace HSO := hide (HSO.out.below hb14)
  replace HE := hide (HE.out.below hb14)
  replace HB := hide (HB.out.trans (hb14.mono HB.out.size))
  clear hb14
  clear H9
  go_wp2_with fail
  clear HSO
  obtain ⟨v15, hv15⟩ : ∃ z : World, z = (((v14.alloc (.cells #[.int .i64 12, .int .i64 0] 43)).alloc (.cells #[.int .i64 4, .int .i64 4] 43)).alloc (.cells #[.slice (some ⟨v14.heap.size, 0, none⟩) 1 1, .slice (some ⟨v14.heap.size + 1, 0, none⟩) 1 1] 22)) := ⟨_, rfl⟩
  try rw [← hv15]
  have Hb15_0 := hide (show Box v15 (v14.heap.size) 43 #[.int .i64 12, .int .i64 0] by rw [hv15]; exact ((Box.made rfl).alloc _).alloc _)
  have Hb15_1 := hide (show Box v15 (v14.heap.size + 1) 43 #[.int .i64 4, .int .i64 4] by rw [hv15]; exact (Box.made (by simp)).alloc _)
  have Hb15_2 := hide (show Box v15 (v14.heap.size + 1 + 1) 22 #[.slice (some ⟨v14.heap.size, 0, none⟩) 1 1, .slice (some ⟨v14.heap.size + 1, 0, none⟩) 1 1] by rw [hv15]; exact Box.made (by simp))
  have hcv15 : Below v14.heap.size v14 v15 := by rw [hv15]; (repeat (first | (with_reducible exact Below.refl _ _) | (with_reducible refine Go.below_drewN ?_ _) | (with_reducible refine Below.drew ?_) | (with_reducible refine Below.alloc ?_ (by first | exact Nat.le_refl _ | (simp; done) | (simp; omega) | omega) _) | (with_reducible refine Below.setCell ?_ (by first | exact Nat.le_refl _ | (simp; done) | (simp; omega) | omega) _)))
  clear hv15
  replace HE := hide (HE.out.below hcv15)
  replace HB := hide (HB.out.trans (hcv15.mono HB.out.size))
  clear hcv15
  obtain ⟨b15_0, eb15_0⟩ : ∃ z, v14.heap.size = z := ⟨_, rfl⟩
  simp only [eb15_0] at Hb15_0 Hb15_1 Hb15_2
  try simp only [eb15_0]
  clear eb15_0
  have H10 := hide (sameAll_any (some ⟨ge, 0, none⟩) (some ⟨(b15_0 + 1 + 1), 0, none⟩) 2 2 2 2 (fun _ => 1) (fun _ => 1) exX exX _ (by decide) (by decide) (fun _ _ => by decide) (fun _ _ => by decide) HE.out (mat_lit2 Hb15_2.out (by decide) (gaus_lit1 (x := ⟨12, 0⟩) Hb15_0.out) (gaus_lit1 (x := ⟨4, 4⟩) Hb15_1.out)))
  rw [matsB_self] at H10
  refine H10.out.mono ?_
  rintro e_ v16 ⟨rfl, q16, hq16⟩
  have hb16 : Below v15.heap.size v15 v16 := by rw [hq16]; exact Go.below_drewN (Below.refl _ _) _
  clear hq16
  replace HE := hide (HE.out.below hb16)
  replace HB := hide (HB.out.trans (hb16.mono HB.out.size))
  clear hb16
  clear H10
  go_wp2_with fail
  go_ret
  exact ⟨rfl, HB.out⟩
end Go.Proofs.Ytceohaeebdhmjaa
/- Base on whole complex numbers: GMul, GAdd, GSub, GConj, GNorm, Size. -/
namespace Go.Proofs.Ytceohaeebdhmjaa
open Go.RowKit
theorem pairS_cells {w : World} {b : Nat} {t : TypeId} {x y : Value} (h : Box w b t #[x, y]) : w.cell? ⟨b, 0, none⟩ = some x ∧ w.cell? ⟨b, 1, none⟩ = some y := ⟨h.at_ 0, h.at_ 1⟩
set_option maxHeartbeats 4000000 in
set_option maxRecDepth 100000 in
theorem gmulS_any (x y : Gau) (M N : Int) (w : World) (hx : x.Within M) (hy : y.Within N) (hMN : M * N ≤ 4000000000000000000) :
    Calls Try.prog 33 #[.agg #[.int .i64 x.re, .int .i64 x.im], .agg #[.int .i64 y.re, .int .i64 y.im]] w fun e w' => e = .returned (.agg #[.int .i64 (x.mul y).re, .int .i64 (x.mul y).im]) ∧ Below w.heap.size w w' := by
  have h1 := mul_size hx.re hy.re
  have h2 := mul_size hx.im hy.im
  have h3 := mul_size hx.re hy.im
  have h4 := mul_size hx.im hy.re
  have q1 : IntKind.i64.wrap (x.re * y.re) = x.re * y.re := IntWalk.i64_in _ (by omega)
  have q2 : IntKind.i64.wrap (x.im * y.im) = x.im * y.im := IntWalk.i64_in _ (by omega)
  have q3 : IntKind.i64.wrap (x.re * y.re - x.im * y.im) = x.re * y.re - x.im * y.im := IntWalk.i64_in _ (by omega)
  have q4 : IntKind.i64.wrap (x.re * y.im) = x.re * y.im := IntWalk.i64_in _ (by omega)
  have q5 : IntKind.i64.wrap (x.im * y.re) = x.im * y.re := IntWalk.i64_in _ (by omega)
  have q6 : IntKind.i64.wrap (x.re * y.im + x.im * y.re) = x.re * y.im + x.im * y.re := IntWalk.i64_in _ (by omega)
  clear h1 h2 h3 h4 hx hy hMN
  obtain ⟨P, hP⟩ : ∃ z, z = (x.mul y).re := ⟨_, rfl⟩
  obtain ⟨Q, hQ⟩ : ∃ z, z = (x.mul y).im := ⟨_, rfl⟩
  rw [← hP, ← hQ]
  replace q3 := q3.trans hP.symm
  replace q6 := q6.trans hQ.symm
  clear hP hQ
  go_enter Try.func33, Try.ntmps33
  go_wp2_with fail
  have hb : Box (((w.alloc (.cells #[.int .i64 x.re, .int .i64 x.im] 43)).alloc (.cells #[.int .i64 y.re, .int .i64 y.im] 43)).alloc (.cells #[.int .i64 P, .int .i64 Q] 43)) (w.heap.size + 1 + 1) 43 #[.int .i64 P, .int .i64 Q] := Box.made (by simp)
  obtain ⟨y0, y1⟩ := pairS_cells hb
  refine bodyPost_ret (v := .agg #[.int .i64 P, .int .i64 Q]) ?_ rfl ⟨rfl, by (repeat (first | (with_reducible exact Below.refl _ _) | (with_reducible refine Go.below_drewN ?_ _) | (with_reducible refine Below.drew ?_) | (with_reducible refine Below.alloc ?_ (by first | exact Nat.le_refl _ | (simp; done) | (simp; omega) | omega) _) | (with_reducible refine Below.setCell ?_ (by first | exact Nat.le_refl _ | (simp; done) | (simp; omega) | omega) _)))⟩
  simp [results, Try.results33, go_sem, y0, y1]
set_option maxHeartbeats 2000000 in
theorem gaddS_any (x y : Gau) (M : Int) (w : World) (hx : (x.plus y).Within M) (hM : M ≤ 9000000000000000000) :
    Calls Try.prog 97 #[.agg #[.int .i64 x.re, .int .i64 x.im], .agg #[.int .i64 y.re, .int .i64 y.im]] w fun e w' => e = .returned (.agg #[.int .i64 (x.plus y).re, .int .i64 (x.plus y).im]) ∧ Below w.heap.size w w' := by
  have h1 := hx.re
  have h2 := hx.im
  have q1 : IntKind.i64.wrap (x.re + y.re) = (x.plus y).re := IntWalk.i64_in _ (by unfold Gau.plus at h1; simp only at h1; omega)
  have q2 : IntKind.i64.wrap (x.im + y.im) = (x.plus y).im := IntWalk.i64_in _ (by unfold Gau.plus at h2; simp only at h2; omega)
  clear h1 h2 hx hM
  obtain ⟨P, hP⟩ : ∃ z, (x.plus y).re = z := ⟨_, rfl⟩
  obtain ⟨Q, hQ⟩ : ∃ z, (x.plus y).im = z := ⟨_, rfl⟩
  rw [hP] at q1
  rw [hQ] at q2
  rw [hP, hQ]
  clear hP hQ
  go_enter Try.func97, Try.ntmps97
  go_wp2_with fail
  have hb : Box (((w.alloc (.cells #[.int .i64 x.re, .int .i64 x.im] 43)).alloc (.cells #[.int .i64 y.re, .int .i64 y.im] 43)).alloc (.cells #[.int .i64 P, .int .i64 Q] 43)) (w.heap.size + 1 + 1) 43 #[.int .i64 P, .int .i64 Q] := Box.made (by simp)
  obtain ⟨y0, y1⟩ := pairS_cells hb
  refine bodyPost_ret (v := .agg #[.int .i64 P, .int .i64 Q]) ?_ rfl ⟨rfl, by (repeat (first | (with_reducible exact Below.refl _ _) | (with_reducible refine Go.below_drewN ?_ _) | (with_reducible refine Below.drew ?_) | (with_reducible refine Below.alloc ?_ (by first | exact Nat.le_refl _ | (simp; done) | (simp; omega) | omega) _) | (with_reducible refine Below.setCell ?_ (by first | exact Nat.le_refl _ | (simp; done) | (simp; omega) | omega) _)))⟩
  simp [results, Try.results97, go_sem, y0, y1]
set_option maxHeartbeats 2000000 in
theorem gsubS_any (x y : Gau) (M : Int) (w : World) (hx : (x.less y).Within M) (hM : M ≤ 9000000000000000000) :
    Calls Try.prog 65 #[.agg #[.int .i64 x.re, .int .i64 x.im], .agg #[.int .i64 y.re, .int .i64 y.im]] w fun e w' => e = .returned (.agg #[.int .i64 (x.less y).re, .int .i64 (x.less y).im]) ∧ Below w.heap.size w w' := by
  have h1 := hx.re
  have h2 := hx.im
  have q1 : IntKind.i64.wrap (x.re - y.re) = (x.less y).re := IntWalk.i64_in _ (by unfold Gau.less at h1; simp only at h1; omega)
  have q2 : IntKind.i64.wrap (x.im - y.im) = (x.less y).im := IntWalk.i64_in _ (by unfold Gau.less at h2; simp only at h2; omega)
  clear h1 h2 hx hM
  obtain ⟨P, hP⟩ : ∃ z, (x.less y).re = z := ⟨_, rfl⟩
  obtain ⟨Q, hQ⟩ : ∃ z, (x.less y).im = z := ⟨_, rfl⟩
  rw [hP] at q1
  rw [hQ] at q2
  rw [hP, hQ]
  clear hP hQ
  go_enter Try.func65, Try.ntmps65
  go_wp2_with fail
  have hb : Box (((w.alloc (.cells #[.int .i64 x.re, .int .i64 x.im] 43)).alloc (.cells #[.int .i64 y.re, .int .i64 y.im] 43)).alloc (.cells #[.int .i64 P, .int .i64 Q] 43)) (w.heap.size + 1 + 1) 43 #[.int .i64 P, .int .i64 Q] := Box.made (by simp)
  obtain ⟨y0, y1⟩ := pairS_cells hb
  refine bodyPost_ret (v := .agg #[.int .i64 P, .int .i64 Q]) ?_ rfl ⟨rfl, by (repeat (first | (with_reducible exact Below.refl _ _) | (with_reducible refine Go.below_drewN ?_ _) | (with_reducible refine Below.drew ?_) | (with_reducible refine Below.alloc ?_ (by first | exact Nat.le_refl _ | (simp; done) | (simp; omega) | omega) _) | (with_reducible refine Below.setCell ?_ (by first | exact Nat.le_refl _ | (simp; done) | (simp; omega) | omega) _)))⟩
  simp [results, Try.results65, go_sem, y0, y1]
set_option maxHeartbeats 2000000 in
theorem gconjS_any (x : Gau) (M : Int) (w : World) (hx : x.Within M) (hM : M ≤ 9000000000000000000) :
    Calls Try.prog 70 #[.agg #[.int .i64 x.re, .int .i64 x.im]] w fun e w' => e = .returned (.agg #[.int .i64 x.conj.re, .int .i64 x.conj.im]) ∧ Below w.heap.size w w' := by
  have q1 : IntKind.i64.wrap (-x.im) = x.conj.im := IntWalk.i64_in _ (by have := hx.im; omega)
  have HR := hide (show x.re = x.conj.re from rfl)
  clear hx
  obtain ⟨Q, hQ⟩ : ∃ z, x.conj.im = z := ⟨_, rfl⟩
  rw [hQ] at q1
  rw [← HR.out, hQ]
  clear hQ HR
  go_enter Try.func70, Try.ntmps70
  go_wp2_with fail
  have hb : Box ((w.alloc (.cells #[.int .i64 x.re, .int .i64 x.im] 43)).alloc (.cells #[.int .i64 x.re, .int .i64 Q] 43)) (w.heap.size + 1) 43 #[.int .i64 x.re, .int .i64 Q] := Box.made (by simp)
  obtain ⟨y0, y1⟩ := pairS_cells hb
  refine bodyPost_ret (v := .agg #[.int .i64 x.re, .int .i64 Q]) ?_ rfl ⟨rfl, by (repeat (first | (with_reducible exact Below.refl _ _) | (with_reducible refine Go.below_drewN ?_ _) | (with_reducible refine Below.drew ?_) | (with_reducible refine Below.alloc ?_ (by first | exact Nat.le_refl _ | (simp; done) | (simp; omega) | omega) _) | (with_reducible refine Below.setCell ?_ (by first | exact Nat.le_refl _ | (simp; done) | (simp; omega) | omega) _)))⟩
  simp [results, Try.results70, go_sem, y0, y1]
set_option maxHeartbeats 2000000 in
theorem gnormS_any (a b : Int) (w : World) (h1 : 0 ≤ a * a ∧ a * a ≤ 4611686018427387903) (h2 : 0 ≤ b * b ∧ b * b ≤ 4611686018427387903) :
    Calls Try.prog 69 #[.agg #[.int .i64 a, .int .i64 b]] w fun e w' => e = .returned (.int .i64 (a * a + b * b)) ∧ Below w.heap.size w w' := by
  have q1 : IntKind.i64.wrap (a * a) = a * a := IntWalk.i64_in _ (by omega)
  have q2 : IntKind.i64.wrap (b * b) = b * b := IntWalk.i64_in _ (by omega)
  have q3 : IntKind.i64.wrap (a * a + b * b) = a * a + b * b := IntWalk.i64_in _ (by omega)
  clear h1 h2
  go_enter Try.func69, Try.ntmps69
  go_wp2_with fail
  go_ret
  exact ⟨rfl, by (repeat (first | (with_reducible exact Below.refl _ _) | (with_reducible refine Go.below_drewN ?_ _) | (with_reducible refine Below.drew ?_) | (with_reducible refine Below.alloc ?_ (by first | exact Nat.le_refl _ | (simp; done) | (simp; omega) | omega) _) | (with_reducible refine Below.setCell ?_ (by first | exact Nat.le_refl _ | (simp; done) | (simp; omega) | omega) _)))⟩
theorem sizeB_any (x : Int) (w : World) (hx : -9223372036854775807 ≤ x ∧ x ≤ 9223372036854775807) :
    Calls Try.prog 71 #[.int .i64 x] w fun e w' => e = .returned (.int .i64 (x.natAbs : Int)) ∧ w' = w := by
  have q : IntKind.i64.wrap (-x) = -x := IntWalk.i64_in _ (by omega)
  by_cases h0 : 0 ≤ x
  · have e : (x.natAbs : Int) = x := by omega
    rw [e]
    clear e
    go_enter Try.func71, Try.ntmps71
    go_wp2_with fail
    go_ret
    exact ⟨rfl, rfl⟩
  · have e : (x.natAbs : Int) = -x := by omega
    rw [e]
    clear e
    go_enter Try.func71, Try.ntmps71
    go_wp2_with fail
    go_ret
    exact ⟨rfl, rfl⟩
set_option maxHeartbeats 2000000 in
theorem sizedR_any (x : Gau) (M : Int) (w : World) (hM : 0 ≤ M ∧ M ≤ 9000000000000000000) :
    Calls Try.prog 60 #[.agg #[.int .i64 x.re, .int .i64 x.im], .int .i64 M] w fun e w' => e = .returned (.bool (x.isIn M)) ∧ Below w.heap.size w w' := by
  have q1 : IntKind.i64.wrap (-M) = -M := IntWalk.i64_in _ (by omega)
  have HI := hide (show x.isIn M = (withinB x.re (-M) M && withinB x.im (-M) M) from rfl)
  generalize x.isIn M = v at *
  clear hM
  cases ea : withinB x.re (-M) M
  · have HV := hide (show v = false from by rw [HI.out, ea]; rfl)
    clear HI
    go_enter Try.func60, Try.ntmps60
    go_wp2_with (go_at_call 31; refine (within_any _ _ _ _).mono ?_; rintro e w' ⟨rfl, rfl⟩; rw [ea])
    go_ret
    exact ⟨by rw [HV.out]; rfl, by (repeat (first | (with_reducible exact Below.refl _ _) | (with_reducible refine Go.below_drewN ?_ _) | (with_reducible refine Below.drew ?_) | (with_reducible refine Below.alloc ?_ (by first | exact Nat.le_refl _ | (simp; done) | (simp; omega) | omega) _) | (with_reducible refine Below.setCell ?_ (by first | exact Nat.le_refl _ | (simp; done) | (simp; omega) | omega) _)))⟩
  have HV := hide (show v = withinB x.im (-M) M from by rw [HI.out, ea]; rfl)
  clear HI
  go_enter Try.func60, Try.ntmps60
  go_wp2_with (go_at_call 31; refine (within_any _ _ _ _).mono ?_; rintro e w' ⟨rfl, rfl⟩; first | rw [ea] | skip)
  go_ret
  exact ⟨by rw [HV.out]; rfl, by (repeat (first | (with_reducible exact Below.refl _ _) | (with_reducible refine Go.below_drewN ?_ _) | (with_reducible refine Below.drew ?_) | (with_reducible refine Below.alloc ?_ (by first | exact Nat.le_refl _ | (simp; done) | (simp; omega) | omega) _) | (with_reducible refine Below.setCell ?_ (by first | exact Nat.le_refl _ | (simp; done) | (simp; omega) | omega) _)))⟩
end Go.Proofs.Ytceohaeebdhmjaa
/- The reference: SymbolsErr, LayersErr. -/
namespace Go.Proofs.Ytceohaeebdhmjaa
open Go Go.RowKit Go.Lib
theorem insideB_no {M : Int} {n k : Nat} {F : Nat → Gau} (hk : k < n) (h : (F k).isIn M = false) : insideB M n F = false := by
  rw [← Bool.not_eq_true, insideB_iff]
  intro hh
  have := Gau.isIn_iff.2 (hh k hk)
  rw [h] at this
  exact absurd this (by decide)
set_option maxHeartbeats 4000000 in
set_option maxRecDepth 100000 in
theorem SymbolsErrR_any (A : Option Addr) (n c : Nat) (F : Nat → Gau) (w : World) (hn : n ≤ 100000) (hI : GausAt w 0 A n F) :
    Calls Try.prog 43 #[.slice A n c] w fun e w' => e = .returned (.int .i64 (symsE n F)) ∧ Below w.heap.size w w' := by
  have HE := hide (show symsE n F = if n = 0 then 10 else if 200 < n then 8 else unI (insideB 100000000 n F) 2 from rfl)
  obtain ⟨E, hE⟩ : ∃ z, symsE n F = z := ⟨_, rfl⟩
  rw [hE] at HE ⊢
  clear hE
  by_cases h0 : n = 0
  · obtain rfl : E = 10 := HE.out.trans (if_pos h0)
    have t0 : ((n : Int) == 0) = true := by simp; omega
    clear hI h0 HE
    go_enter Try.func43, Try.ntmps43
    go_wp2_with fail
    go_ret
    exact ⟨rfl, Below.refl _ _⟩
  have t0 : ((n : Int) == 0) = false := by simp; omega
  replace HE := hide (HE.out.trans (if_neg h0))
  by_cases h1 : 200 < n
  · obtain rfl : E = 8 := HE.out.trans (if_pos h1)
    have t1 : (200 : Int) < (n : Int) := by omega
    have t2 : (n : Int) > (200 : Int) := by omega
    clear hI h0 HE
    go_enter Try.func43, Try.ntmps43
    go_wp2_with fail
    go_ret
    exact ⟨rfl, Below.refl _ _⟩
  have t1 : ¬ (200 : Int) < (n : Int) := by omega
  have t2 : ¬ (n : Int) > (200 : Int) := by omega
  replace HE := hide (HE.out.trans (if_neg h1))
  have HI := hide hI
  have HSZ := hide (fun j W => sizedR_any (F j) 100000000 W (by decide))
  clear hI h0 h1
  go_enter Try.func43, Try.ntmps43
  go_wp2_with fail
  go_loopw [3] (fun i wr => ∃ k : Nat, k ≤ n ∧ i = .int .i64 (k : Int) ∧ Hid (∀ j, j < k → (F j).isIn 100000000 = true) ∧ Hid (Below w.heap.size w wr)) (fun i _ => n - (Go.RowKit.intOf i).toNat)
  case atStart => exact ⟨0, Nat.zero_le _, rfl, hide (fun j hj => absurd hj (Nat.not_lt_zero j)), hide (Below.refl _ _)⟩
  case round =>
    obtain ⟨k, hk, rfl, HZ, HB⟩ := hrel
    obtain ⟨wA, rfl⟩ : ∃ x : World, x = wr := ⟨_, rfl⟩
    by_cases hlt : k < n
    · have hltz : (k : Int) < (n : Int) := by omega
      obtain ⟨b, o, rfl, -, hb, c0, c1⟩ := (HI.out.below HB.out) k hlt
      have HXk := hide (HSZ.out k)
      cases hv : (F k).isIn 100000000
      · rw [hv] at HXk
        obtain rfl : E = 2 := by rw [HE.out, insideB_no hlt hv]; rfl
        clear HSZ HZ HE HI
        generalize F k = x at *
        go_wp2_with fail
        refine (HXk.out _).mono ?_
        rintro e_ w2 ⟨rfl, hb2⟩
        have HB2 := hide (HB.out.trans (hb2.mono HB.out.size))
        clear hb2 c0 c1
        go_wp2_with fail
        go_ret
        exact ⟨rfl, HB2.out⟩
      · rw [hv] at HXk
        have HZ2 := hide (show ∀ j, j < k + 1 → (F j).isIn 100000000 = true from fun j hj => by
          by_cases e : j = k
          · rw [e]; exact hv
          · exact HZ.out j (by omega))
        clear HSZ HZ hv
        generalize F k = x at *
        go_wp2_with fail
        refine (HXk.out _).mono ?_
        rintro e_ w2 ⟨rfl, hb2⟩
        have HB2 := hide (HB.out.trans (hb2.mono HB.out.size))
        clear hb2 c0 c1
        go_wp2_with fail
        go_roundw
        case rel => exact ⟨k + 1, by omega, by go_num, HZ2, HB2⟩
        case measure => simp [Go.RowKit.intOf]; omega
    · obtain rfl : n = k := by omega
      have hltz : ¬ ((n : Int) < (n : Int)) := by omega
      obtain rfl : E = 0 := by rw [HE.out, insideB_iff.2 (fun j hj => Gau.isIn_iff.1 (HZ.out j hj))]; rfl
      clear HZ HE HSZ HI
      go_wp2_with fail
      go_ret
      exact ⟨rfl, HB.out⟩
set_option maxHeartbeats 8000000 in
set_option maxRecDepth 100000 in
theorem LayersErrR_any (A : Option Addr) (n c : Nat) (L : Nat → Nat) (F : Nat → Nat → Gau) (w : World) (hn : n ≤ 100000) (hL : ∀ i, i < n → L i ≤ 100000) (hI : MatsAt w 0 A n L F) :
    Calls Try.prog 14 #[.slice A n c] w fun e w' => e = .returned (.int .i64 (laysE n L F)) ∧ Below w.heap.size w w' := by
  obtain ⟨E, hE⟩ : ∃ z, laysE n L F = z := ⟨_, rfl⟩
  rw [hE]
  unfold laysE at hE
  by_cases h0 : n = 0
  · rw [if_pos h0] at hE
    subst hE
    have t0 : ((n : Int) == 0) = true := by simp; omega
    clear hI h0
    go_enter Try.func14, Try.ntmps14
    go_wp2_with fail
    go_ret
    exact ⟨rfl, Below.refl _ _⟩
  have t0 : ((n : Int) == 0) = false := by simp; omega
  rw [if_neg h0] at hE
  by_cases h1 : 4 < n
  · rw [if_pos h1] at hE
    subst hE
    have t1 : (4 : Int) < (n : Int) := by omega
    clear hI h0
    go_enter Try.func14, Try.ntmps14
    go_wp2_with fail
    go_ret
    exact ⟨rfl, Below.refl _ _⟩
  rw [if_neg h1] at hE
  have t1 : ¬ (4 : Int) < (n : Int) := by omega
  have HI := hide hI
  have HL := hide hL
  have HE := hide hE
  obtain ⟨B, hB⟩ : ∃ z, (fun i => layE (L i) (L 0) (F i)) = z := ⟨_, rfl⟩
  rw [hB] at HE
  have HBE := hide (fun i => (show B i = layE (L i) (L 0) (F i) by rw [← hB]))
  clear hI hL hE hB
  go_enter Try.func14, Try.ntmps14
  go_wp2_with fail
  go_loopw [3, 4] (fun i x wr => ∃ k : Nat, k ≤ n ∧ i = .int .i64 (k : Int) ∧ Hid (badE B k = 0) ∧ Hid (Below w.heap.size w wr)) (fun i _ _ => n - (Go.RowKit.intOf i).toNat)
  case atStart => exact ⟨0, Nat.zero_le _, rfl, hide rfl, hide (Below.refl _ _)⟩
  case round =>
    obtain ⟨k, hk, rfl, HZ, HB⟩ := hrel
    obtain ⟨wA, rfl⟩ : ∃ x : World, x = wr := ⟨_, rfl⟩
    by_cases hlt : k < n
    case neg =>
      obtain rfl : n = k := by omega
      have hltz : ¬ (n : Int) < (n : Int) := by omega
      obtain rfl : E = 0 := HE.out.symm.trans HZ.out
      clear HI HL HBE
      go_wp2_with fail
      go_ret
      exact ⟨rfl, HB.out⟩
    have hltz : (k : Int) < (n : Int) := by omega
    obtain ⟨b, o, A0, c0, rfl, -, -, y0, hc0, hc09, -⟩ := (HI.out.below HB.out) 0 (by omega)
    obtain ⟨Ak, ck, y1, hc1, hc2, hRow, -, -⟩ := mat_row (HI.out.below HB.out) hlt
    simp only [Nat.add_zero] at y0
    have hlk := HL.out k hlt
    have hbk := HBE.out k
    have HFST := hide (fun h : B k ≠ 0 => (badE_at HZ.out h n hlt).symm.trans HE.out)
    have HSU := hide (badE_succ (g := B) HZ.out)
    have HRE := hide (fun W (h : Below wA.heap.size wA W) => SymbolsErrR_any Ak (L k) ck (F k) W hlk (hRow.below h))
    unfold layE at hbk
    obtain ⟨s, hs⟩ : ∃ z, symsE (L k) (F k) = z := ⟨_, rfl⟩
    rw [hs] at HRE hbk
    have HAT := hide (fun W (h : Below wA.heap.size wA W) => (⟨bcellW h y0, bcellW h y1⟩ : _ ∧ _))
    obtain ⟨bk, hbk2⟩ : ∃ z, B k = z := ⟨_, rfl⟩
    rw [hbk2] at HFST HSU hbk
    obtain ⟨lk, hlk2⟩ : ∃ z, L k = z := ⟨_, rfl⟩
    obtain ⟨l0, hl0⟩ : ∃ z, L 0 = z := ⟨_, rfl⟩
    rw [hlk2] at hbk hlk
    simp only [hlk2] at HRE y1 HAT
    rw [hl0] at hbk
    simp only [hl0] at HAT y0
    clear hRow hs hbk2 HBE HI HL hc1 hc0 hlk2 hl0 y0
    go_wp2_with fail
    refine (HRE.out _ (Below.refl _ _)).mono ?_
    rintro e_ w2 ⟨rfl, hb2⟩
    obtain ⟨y0, y1⟩ := HAT.out _ hb2
    have HB2 := hide (HB.out.trans (hb2.mono HB.out.size))
    clear hb2 HAT HB HRE
    by_cases hz : s = 0
    case neg =>
      rw [if_neg hz] at hbk
      have tz : (s != 0) = true := by simpa using hz
      have hne : bk ≠ 0 := by rw [hbk]; exact hz
      obtain rfl : E = s := (HFST.out hne).symm.trans hbk
      go_wp2_with fail
      go_ret
      exact ⟨rfl, HB2.out⟩
    subst hz
    rw [if_pos rfl] at hbk
    by_cases hq : lk = l0
    · subst hq
      rw [if_pos rfl] at hbk
      subst hbk
      have tq : ((lk : Int) != (lk : Int)) = false := by simp
      go_wp2_with fail
      go_quiet (fail)
      go_wp2_with fail
      go_roundw
      case rel => exact ⟨k + 1, by omega, by go_num, hide HSU.out, hide (Go.below_drewN HB2.out _)⟩
      case measure => simp [Go.RowKit.intOf]; omega
    · rw [if_neg hq] at hbk
      subst hbk
      have tq : ((lk : Int) != (l0 : Int)) = true := by simp; omega
      obtain rfl : E = 13 := (HFST.out (by decide)).symm
      go_wp2_with fail
      go_quiet (fail)
      go_wp2_with fail
      go_ret
      exact ⟨rfl, Go.below_drewN HB2.out _⟩
end Go.Proofs.Ytceohaeebdhmjaa
